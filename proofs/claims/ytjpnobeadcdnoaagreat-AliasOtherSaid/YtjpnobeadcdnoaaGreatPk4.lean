/-
  The machine, the program's functions and the laws' arithmetic: part 4 of 5.
-/
import Derived.Test.YtjpnobeadcdnoaaGreatPk3
import Derived.Lib.RowBridge
import Derived.OpenShut
import Derived.ShutString
set_option linter.unusedSectionVars false
set_option linter.unusedVariables false
set_option linter.unusedSimpArgs false
namespace Go.Proofs.YtjpnobeadcdnoaaGreat
noncomputable section
open Go Go.RowKit
set_option maxRecDepth 100000
set_option maxHeartbeats 2000000
def ld(a2:Aa)(aP:Int):AV:=(.agg [(Z7 a2.Params),(Z6 a2.Ret),(KT a2.Blocks),(Z6 aP),YE,.nilm,nM])
def lc(a2:Aa)(aP:Int):=(⟨[(5,(.ptr 5 0))],[(5,.row 110 [(Z7 a2.Params),(Z6 a2.Ret),(KT a2.Blocks),(Z6 aP),YE,.nilm,nM])],[]⟩:St)
def j0(a2:Aa)(aP:Int):=(⟨[(5,(.ptr 5 0))],[(5,.row 110 [(Z7 a2.Params),(Z6 a2.Ret),(KT a2.Blocks),(Z6 aP),YE,.nilm,(nN 50506)]),(nP 50506)],[]⟩:St)
def L8(a2:Aa)(aP:Int):Option Int:=
 (bif (bif (decide (aP<0)) then true else(decide ((2:Int)<aP))) then(some (1:Int)) else((Eo a2 aP ([]:Am) ([]:List A7)).bind λx1=>(some x1.1)))
variable{v0:Aa}{v1:Int}{v2:Int}
theorem EO(h:L8 v0 v1=some v2):sP 33 [(RX v0),(Z6 v1)] [] (.int .i64 v2) []:=
 sG Tryz.func33 λΓ q=>An q Vz [2] (tU q [1,2,11] [2] (c2 (gI ((decide (v1<0))==false)) (Ux (decide (v1<0)))) (gC h (λh=>An q [4] [] (tS h (Cf []))) λh=>gR q [5] [5] [(14,(ld v0 v1))] [] (c1 (show(AVle (.agg [(Z7 v0.Params),(Z6 v0.Ret),(KT v0.Blocks),(Z6 v1),Z5,.nilm,Z5]) (ld v0 v1)) from(AVle.agg (.cons (AVle.refl _) (.cons (AVle.refl _) (.cons (AVle.refl _) (.cons (AVle.refl _) (.cons D2 (.cons (AVle.refl _) (.cons D2 .nil)))))))))) (Rx (lc v0 v1) (Mr (show Le Γ _ (j0 v0 v1) from Le.trans (Dj (st':=(lc v0 v1)) [5] [5] q) (Le.trans (Me (r:=5) (j:=6) (nm:=50506) (sz':=5) (λi=>Jm (([]:List A7).getD i default)) 158 rfl rfl (nl rfl) rfl (.inl ⟨rfl,rfl⟩) (λh_=>absurd h_ (by decide))) (Dj (st':=(j0 v0 v1)) [5] [5,50506] q))) (Mr (show Le Γ _ (⟨[(5,(.ptr 5 0))],[(5,.row 110 [(Z7 v0.Params),(Z6 v0.Ret),(KT v0.Blocks),(Z6 v1),(AV.list 1 Aq 0 ([]:Am) .none),.nilm,(nN 50506)]),(nP 50506)],[]⟩:St) from Le.trans (Dj (st':=(j0 v0 v1)) [5] [5,50506] q) (Jf (.cons (AVle.refl _) .nil) (.row (.cons (AVle.refl _) (.cons (AVle.refl _) (.cons (AVle.refl _) (.cons (AVle.refl _) (.cons AVle.untag (.cons (AVle.refl _) (.cons (AVle.refl _) .nil))))))) (.same .nil)))) (tB h λx1 y1 h=>tT q [4] [] [⟨[(5,30000),(50506,37006)],[(9200005,10000505)],(Z6 x1.1),[(Z1 x1.2.1.Params x1.2.1.Ret x1.2.1.Blocks x1.2.2.1 x1.2.2.2.1 9200005 x1.2.2.2.2.1),(Nk x1.2.2.2.2.1.length),(9200005,.obj (.map false .i64 (mapE (λ(v_:Aj)=>((Pt v_):AV)) x1.2.2.2.2.2)))],[],[]⟩] (c1 (K6 y1)) (tS h (Cf []))))))))
def Hv(a2:Aa):Option Bool:=
 ((L8 a2 (2:Int)).bind λx1=>(some (x1==0)))
variable{v5:Bool}
theorem P0(h:Hv v0=some v5):sP 21 [(RX v0)] [] (.bool v5) []:=
 sG Tryz.func21 λΓ q=>An q [1] [1] (tB h λx1 y1 h=>tT q [2] [] [(DB x1)] (c1 (EO y1)) (tS h (Cf [])))
def E2(a1:Bh):Option Int:=
 (some (Bj (Int.tdiv (Bj (a1.Lanes*a1.Bits)) (8:Int))))
variable{v3:Bh}
theorem Hz(h:E2 v3=some v1):sP 22 [(So v3)] [] (.int .i64 v1) []:=
 sG Tryz.func22 λΓ q=>An q [1] [1] (tU q [2] [] (c1 (show((8:Int)≠0) from(by decide))) (tS h (Cf [])))
abbrev eg:=(Int×Int×Bool)
def Js(a2:Aa)(aA:Int)(aK:Int):Option eg:=
 ((C0 a2 aA aK).bind λx1=>((Dw x1).bind λx2=>((bif ((x2==0)==false) then Hv a2 else some false).bind λx3=>(bif (bif (x2==0) then true else(!x3)) then(some ((0:Int),(0:Int),false)) else((E2 x1).bind λx4=>(some (x2,x4,true)))))))
variable{v32:eg}
theorem Y7(h:Js v0 v1 v2=some v32):sP 9 [(RX v0),(Z6 v1),(Z6 v2)] [] (.tuple [(Z6 v32.1),(Z6 v32.2.1),(.bool v32.2.2)]) []:=
 sG Tryz.func9 λΓ q=>An q [1,2,3] [3] (tB h λx1 y1 h=>tT q [3,9] [3,9] [⟨[],[],(So x1),[],[],[]⟩] (c1 (J4 y1)) (tB h λx2 y2 h=>tT q [3,9,10] [3,9] [(DB x2)] (c1 (Ja y2)) (tB h λx3 y3 h=>tT q [9,10,23] [9] [(Z2 x3)] (c4 (gI ((x2==0)==false)) (λ(hg:((x2==0)==false)=true)=>(P0 (Bt hg y3))) (gI ((x2==0)==false)) (Ux (x2==0))) (gC h (λh=>An q [6,7,8] [] (tS h (Cf []))) λh=>tB h λx4 y4 h=>tT q [6,7,8] [] [(DB x4)] (c1 (Hz y4)) (tS h (Cf []))))))
abbrev GA:=(Int×(Int×Int))
abbrev mv:=(LR (List (Int×(Int×Int))) (List (Int×(Int×Int))))
def H9 :List GA->Option mv:=
 λ(l4:List GA)=>(some (.done l4))
def Gj(x1:UZ):Nat->List GA->Option mv:=
 λ(n3:Nat) (l4:List GA)=>(some (.next (Ep l4 (x1.2.2.2.2.2.getD n3 ((0:Int),(default:Aj))).1 (((x1.2.2.2.2.2.getD n3 ((0:Int),(default:Aj))).2).shape.1,((x1.2.2.2.2.2.getD n3 ((0:Int),(default:Aj))).2).shape.2))))
def BP(x1:UZ)(n3:Nat):=(x1.2.2.2.2.2.getD n3 ((0:Int),(default:Aj)))
def NI(x1:UZ):=(mapE (λ(v_:Aj)=>((Pt v_):AV)) x1.2.2.2.2.2)
def lg(a2:Aa):AV:=(.agg [(Z7 a2.Params),(Z6 a2.Ret),(KT a2.Blocks),fy,YE,.nilm,nM])
def lf(a2:Aa):=(⟨[(3,(.ptr 3 0))],[(3,.row 110 [(Z7 a2.Params),(Z6 a2.Ret),(KT a2.Blocks),fy,YE,.nilm,nM])],[]⟩:St)
def j4(a2:Aa):=(⟨[(3,(.ptr 3 0))],[(3,.row 110 [(Z7 a2.Params),(Z6 a2.Ret),(KT a2.Blocks),fy,YE,.nilm,(nN 50306)]),(nP 50306)],[]⟩:St)
def Ks(a2:Aa):Option (List (Int×(Int×Int))):=
 ((Eo a2 (2:Int) ([]:Am) ([]:List A7)).bind λx1=>(bif (x1.1 !=0) then(some ([]:List GA)) else((We (S:=List GA) (X:=List GA) JG ((mapE (λ(v_:Aj)=>((.agg (Ql v_)):AV)) x1.2.2.2.2.2).length) (Gj x1) H9 ([]:List GA)).bind (λx6=>(some x6)))))
variable{v33:List GA}
theorem BS(h:Ks v0=some v33):sP 44 [(RX v0)] [] (.omap 20000) [(20000,.obj (.pmap false .i64 (mapE (λ(v_:Gt)=>((DC v_):AV)) v33)))]:=
 sG Tryz.func44 λΓ q=>An q [1] [1] (gR q [3] [3] [(8,(lg v0))] [] (c1 (show(AVle (.agg [(Z7 v0.Params),(Z6 v0.Ret),(KT v0.Blocks),fy,Z5,.nilm,Z5]) (lg v0)) from(AVle.agg (.cons (AVle.refl _) (.cons (AVle.refl _) (.cons (AVle.refl _) (.cons (AVle.refl _) (.cons D2 (.cons (AVle.refl _) (.cons D2 .nil)))))))))) (Rx (lf v0) (Mr (show Le Γ _ (j4 v0) from Le.trans (Dj (st':=(lf v0)) [3] [3] q) (Le.trans (Me (r:=3) (j:=6) (nm:=50306) (sz':=5) (λi=>Jm (([]:List A7).getD i default)) 158 rfl rfl (nl rfl) rfl (.inl ⟨rfl,rfl⟩) (λh_=>absurd h_ (by decide))) (Dj (st':=(j4 v0)) [3] [3,50306] q))) (Mr (show Le Γ _ (⟨[(3,(.ptr 3 0))],[(3,.row 110 [(Z7 v0.Params),(Z6 v0.Ret),(KT v0.Blocks),fy,(AV.list 1 Aq 0 ([]:Am) .none),.nilm,(nN 50306)]),(nP 50306)],[]⟩:St) from Le.trans (Dj (st':=(j4 v0)) [3] [3,50306] q) (Jf (.cons (AVle.refl _) .nil) (.row (.cons (AVle.refl _) (.cons (AVle.refl _) (.cons (AVle.refl _) (.cons (AVle.refl _) (.cons AVle.untag (.cons (AVle.refl _) (.cons (AVle.refl _) .nil))))))) (.same .nil)))) (tB h λx1 y1 h=>tT q [3,10] [3,50306,10000305] [⟨[(3,30000),(50306,37006)],[(9200005,10000305)],(Z6 x1.1),(mF x1.2.1.Params x1.2.1.Ret x1.2.1.Blocks x1.2.2.1 x1.2.2.2.1 9200005 x1.2.2.2.2.1 x1.2.2.2.2.1.length (NI x1)),[],[]⟩] (c1 (K6 y1)) (gC h (λh=>An q [2] [] (Rx (⟨[(2,.nilm)],[],[]⟩:St) (tS h (gK (e:=.ret) (Kl [(36002,20000)] (Le.trans (Le.trans (h9 (t:=2) (nm:=36002) .i64 rfl rfl) (Dj (st':=⟨[(2,(.omap 36002))],[(36002,.obj (.map false .i64 (mapE (λ(v_:Gt)=>((DC v_):AV)) ([]:List GA))))],[]⟩) [2] [36002] q)) (ov 36002 false .i64 (f:=(λ(v_:Gt)=>((DC v_):AV))) ZZ))))))) λh=>gR q [3,4] [3,14,50306,10000305] [(13,(AB x1.2.2.2.2.2.length))] [] (c1 (show(AVle (.int .i64 ((NI x1).length:Int)) (AB x1.2.2.2.2.2.length)) from(iK (f:=(λ(v_:Aj)=>((Pt v_):AV))) (l:=x1.2.2.2.2.2) rfl))) (Mr (S4 (λ(k_:List HO) u=>Fx u [] [(bK 14 k_)]) (show[]=(mapE (λ(v_:Gt)=>((DC v_):AV)) ([]:List GA)) from rfl)) (An q [4,17] XT (tB h λx6 y6 h=>pH q y6 [4,17] XT (λu z2 l4=>(Fx u [] [(14,.obj (.map true .i64 (mapE (λ(v_:Gt)=>((DC v_):AV)) l4))),(17,.obj (.miter (.omap 10000305) ((NI x1).length) z2))])) (λu l5=>aG Γ (.exit 0) (Yj [4] [14] u [] [(14,.obj (.map true .i64 (mapE (λ(v_:Gt)=>((DC v_):AV)) l5)))])) 17 18 19 17 10000305 false .i64 (NI x1) [4,17,19] XT (kd:=(λz2 l4 y h hall=>ZG false (tS h (gO (D1 (Dj [4] [14] q)))))) (kn:=(λz2 l4 n3 y h hin3 hnn3=>ZG true (gR q [4,5,6,17] [6,14,17,10000305] [(20,(.tuple [(.int .i64 (BP x1 n3).1),(.agg (Ql ((BP x1 n3).2)))]))] [] (c3 (Eq.refl ((NI x1).length)) (show(n3<(NI x1).length) from hin3) (show(AVle (.tuple [.int .i64 ((NI x1).getD n3 (0,.any)).1,((NI x1).getD n3 (0,.any)).2]) (.tuple [(.int .i64 (BP x1 n3).1),(.agg (Ql ((BP x1 n3).2)))])) from(iH (f:=(λ(v_:Aj)=>((Pt v_):AV))) (l:=x1.2.2.2.2.2) hin3))) (An q [4,17] XT (tS h (gN (Le.trans (S4 (λ(k_:List HO) u=>Fx u [] [(bK 14 k_)]) (show(Ep (mapE (λ(v_:Gt)=>((DC v_):AV)) l4) (BP x1 n3).1 (.agg [(.int .i64 ((BP x1 n3).2).shape.1),(.int .i64 ((BP x1 n3).2).shape.2)]))=(mapE (λ(v_:Gt)=>((DC v_):AV)) (Ep l4 (BP x1 n3).1 (((BP x1 n3).2).shape.1,((BP x1 n3).2).shape.2))) from(Xn (f:=(λ(v_:Gt)=>((DC v_):AV))) (l:=l4) (v:=(((BP x1 n3).2).shape.1,((BP x1 n3).2).shape.2)) rfl rfl))) Mo))))))) (ko:=(λl_ hp_=>jW (λst' hl7=>Mr (Le.trans hl7 (ov 14 true .i64 (f:=(λ(v_:Gt)=>((DC v_):AV))) hp_)) (An q [2] [14] (Rx (⟨[(2,(.omap 14))],[(14,.obj (.pmap true .i64 (mapE (λ(v_:Gt)=>((DC v_):AV)) x6)))],[]⟩:St) (tS h (gK (e:=.ret) (Kl [(14,20000)] (pK 14 .i64 (mapE (λ(v_:Gt)=>((DC v_):AV)) x6)))))))))))))))))))
abbrev jC:=(Int×List (Int×Bh))
abbrev mw:=(LR (Int×List (Int×Bh)) (List (Int×Bh)))
abbrev Zq:=(Int×Bh)
def G8(a2:Aa)(i1:Int):jC->Option mw:=
 λ((i5,l6):jC)=>(bif (decide (i5<(((a2.Blocks.getD i1.toNat default).Ops).length:Int))) then(Option.bind (α:=List Zq) (Ci (Bw i5 ((a2.Blocks.getD i1.toNat default).Ops).length) (Option.bind (α:=Bool) (bif (((((a2.Blocks.getD i1.toNat default).Ops).getD i5.toNat default).Kind:Int)==0) then(some (((((a2.Blocks.getD i1.toNat default).Ops).getD i5.toNat default).Kind:Int)==0)) else(bif (((((a2.Blocks.getD i1.toNat default).Ops).getD i5.toNat default).Kind:Int)==1) then(some (((((a2.Blocks.getD i1.toNat default).Ops).getD i5.toNat default).Kind:Int)==1)) else(bif (((((a2.Blocks.getD i1.toNat default).Ops).getD i5.toNat default).Kind:Int)==2) then(some (((((a2.Blocks.getD i1.toNat default).Ops).getD i5.toNat default).Kind:Int)==2)) else(bif (((((a2.Blocks.getD i1.toNat default).Ops).getD i5.toNat default).Kind:Int)==3) then(some (((((a2.Blocks.getD i1.toNat default).Ops).getD i5.toNat default).Kind:Int)==3)) else(some (((((a2.Blocks.getD i1.toNat default).Ops).getD i5.toNat default).Kind:Int)==8)))))) (λx11=>(bif x11 then(some (Ep l6 (((a2.Blocks.getD i1.toNat default).Ops).getD i5.toNat default).Dst (((a2.Blocks.getD i1.toNat default).Ops).getD i5.toNat default))) else(some l6))))) (λx13=>(some (.next ((Bj (i5+1)),x13))))) else(some (.done l6)))
def G9(a2:Aa):jC->Option mw:=
 λ((i1,l2):jC)=>(bif (decide (i1<(a2.Blocks.length:Int))) then(Ci (Bw i1 a2.Blocks.length) ((Ah (G8 a2 i1) ((0:Int),l2)).bind (λx15=>(some (.next ((Bj (i1+1)),x15)))))) else(some (.done l2)))
def GO:=(λ(v_:Bh)=>((So v_):AV))
def CZ(a2:Aa)(i1:Int)(i5:Int):=(((a2.Blocks.getD i1.toNat default).Ops).getD i5.toNat default)
abbrev VA:=(List (Int×Bh))
def L7(a2:Aa):Option VA:=
 ((Ah (G9 a2) ((0:Int),([]:List Zq))).bind (λx17=>(some x17)))
variable{v34:List Zq}
theorem EN(h:L7 v0=some v34):sP 45 [(RX v0)] [] (.omap 20000) [(20000,.obj (.map true .i64 (mapE (λ(v_:Bh)=>((So v_):AV)) v34)))]:=
 sG Tryz.func45 λΓ q=>tW q [1] [1] [1,3] [1,8] (Mr (S4 (λ(k_:List HO) u=>Fx u [] [(8,.obj (.map true .i64 k_))]) (show[]=(mapE GO ([]:List Zq)) from rfl)) (An q Yf [8] (tL q h Yf [8] (λu (i1,l2)=>(Fx u [(12,(Z6 i1))] [(8,.obj (.map true .i64 (mapE GO l2)))])) (λu l3=>aG Γ (.exit 0) (Yj [3] [8] u [] [(8,.obj (.map true .i64 (mapE GO l3)))])) (λ⟨i1,l2⟩ y h=>An q [3,10,11,12,13] [8] (gC h (λh=>tV q [3,5,10,11,12] [5,8] h λh=>An q RJ [8] (tL q h RJ [8] (λu (i5,l6)=>(Fx u [(19,(Z6 i5))] [(8,.obj (.map true .i64 (mapE GO l6)))])) (λu l7=>aG Γ (.exit 2) (Yj Yf [8] u [] [(8,.obj (.map true .i64 (mapE GO l7)))])) (λ⟨i5,l6⟩ y h=>An q [3,10,11,12,17,18,19,20] [8] (gC h (λh=>tB h λx13 y13 h=>gJ y13 (λl8=>aG Γ .normal (⟨[(3,(.omap 8)),(10,(KT v0.Blocks)),(11,(AB v0.Blocks.length)),(12,(Z6 i1)),(17,(AV.list 6 V6 default (v0.Blocks.getD i1.toNat default).Ops .none)),(18,(.int .i64 (((v0.Blocks.getD i1.toNat default).Ops).length:Int))),(19,(Z6 i5))],[(8,.obj (.map true .i64 (mapE GO l8)))],[]⟩:St)) (λy h=>tV q [3,7,10,11,12,17,18,19] Mn h λh=>An q [3,7,10,11,12,17,18,19,24] Mn (tB h λx11 y11 h=>gJ y11 (λb10=>aG Γ .normal (⟨[(3,(.omap 8)),(7,(.ptr 7 0)),(10,(KT v0.Blocks)),(11,(AB v0.Blocks.length)),(12,(Z6 i1)),(17,(AV.list 6 V6 default (v0.Blocks.getD i1.toNat default).Ops .none)),(18,(.int .i64 (((v0.Blocks.getD i1.toNat default).Ops).length:Int))),(19,(Z6 i5)),(25,(.bool b10))],[(7,.row 46 [(.int .i64 (CZ v0 i1 i5).Kind),(.int .i64 (CZ v0 i1 i5).Bits),(.int .i64 (CZ v0 i1 i5).Lanes),(.int .i64 (CZ v0 i1 i5).Dst),(AV.list 1 Aq 0 (CZ v0 i1 i5).Args .none),(.int .u64 (CZ v0 i1 i5).Imm)]),(8,.obj (.map true .i64 (mapE GO l6)))],[]⟩:St)) (λy h=>An q XN Mn (gC h (λh=>tS h (gK (D1 (Dj RG Mn q)))) λh=>An q XN Mn (gC h (λh=>tS h (gK (D1 (Dj RG Mn q)))) λh=>An q XN Mn (gC h (λh=>tS h (gK (D1 (Dj RG Mn q)))) λh=>An q XN Mn (gC h (λh=>tS h (gK (D1 (Dj RG Mn q)))) λh=>An q RG Mn (tS h (gK (D1 Mo)))))))) (gA (gC h (λh=>An q RJ [8] (tS h (gK (D1 (Le.trans (S4 (λ(k_:List HO) u=>Fx u [] [(8,.obj (.map true .i64 k_))]) (show(Ep (mapE GO l6) (CZ v0 i1 i5).Dst (So (CZ v0 i1 i5)))=(mapE GO (Ep l6 (CZ v0 i1 i5).Dst (CZ v0 i1 i5))) from(Xn (f:=GO) (l:=l6) (v:=(CZ v0 i1 i5)) rfl rfl))) Mo))))) λh=>tS h (gK (D1 (Dj RJ [8] q))))))) (gA (An q RJ [8] (tN h)))) λh=>tS h (gO (D1 (Dj Yf [8] q))))) λx15 h=>gA (An q Yf [8] (tN h)))) λh=>tS h (gO (D1 (Dj [3] [8] q))))) λx17 h=>gA (An q [2] [8] (tS h (Cf [(8,20000)]))))))
def Hu(a6:Ay):Gt->Option oz:=
 λ((i1,i2):Gt)=>(bif (decide (i2<(a6.Terms.length:Int))) then(Ci (Bw i2 a6.Terms.length) (bif (bif (bif (decide (((a6.Terms.getD i2.toNat default).V:Int)<=i1)) then true else(decide ((1023:Int)<(a6.Terms.getD i2.toNat default).V))) then true else(((a6.Terms.getD i2.toNat default).Scale:Int)==0)) then(some (.done (.inr false))) else(some (.next ((a6.Terms.getD i2.toNat default).V,(Bj (i2+1))))))) else(some (.done (.inl ()))))
def KM(Γ:G1)(a6:Ay)(r:Bool):Exit->St->Prop:=fK Tryz.prog Γ Tryz.f67.results.toList [] (.bool r) []
def lh(a6:Ay)(i2:Int)(i1:Int):=(bif (decide (((a6.Terms.getD i2.toNat default).V:Int)<=i1)) then true else(decide ((1023:Int)<(a6.Terms.getD i2.toNat default).V)))
def Fn(a6:Ay):Option Bool:=
 ((Ah (Hu a6) ((0:Int),(0:Int))).bind (λx4=>(match x4 with|(.inl _)=>(some true)|(.inr r6)=>(some r6))))
variable{v35:Ay}
theorem H6(h:Fn v35=some v5):sP 67 [(Oc v35)] [] (.bool v5) []:=
 sG Tryz.func67 λΓ q=>tW q [1] [1] [1,3] [1] (An q MW [] (tL q h MW [] (λu (i1,i2)=>(Fx u [(3,(Z6 i1)),(9,(Z6 i2))] [])) (λu x_=>match x_ with|(.inl _)=>aG Γ (.exit 0) (⟨[],[],[]⟩:St)|(.inr r_)=>aR (KM Γ v35 r_)) (λ⟨i1,i2⟩ y h=>An q [3,7,8,9,10] [] (gC h (λh=>tV q [3,5,7,8,9] [5] h λh=>tU q [5,7,8,9,26] [5] (Yu ((decide (((v35.Terms.getD i2.toNat default).V:Int)<=i1))==false) (ci (Ux (decide (((v35.Terms.getD i2.toNat default).V:Int)<=i1))) (Yu ((lh v35 i2 i1)==false) (c1 (Ux (lh v35 i2 i1)))))) (gC h (λh=>An q [2] [] (tS h (gO (Su (Kl [] (Le.refl _ _)))))) λh=>tW q MW [] MW [] (tN h))) λh=>tS h (gO (D1 (Dj [] [] q))))) λx4 h=>(match x4,h with | .inl _,h=>gA (An q [2] [] (tS h (Cf []))) | .inr r6,h=>Xa (λst' hk=>tS h (gK hk)))))
def Jr(aH:Int)(aI:Int):Option Int:=
 (some (Dx (aH+aI)))
variable{v20:Int}
theorem Pz(h:Jr v1 v2=some v20):sP 126 [(Km v1),(Km v2)] [] (.int .u64 v20) []:=
 sG Tryz.func126 λΓ q=>tW q Gv [] [4] [] (tS h (Cf []))
def Ct(aW:List Aw):Option Int:=
 (bif ((aW.length:Int)==0) then(some (1024:Int)) else(Ci (Bw (0:Int) aW.length) (some ((aW.getD (0:Int).toNat (default:Aw)).V))))
variable{v36:List Aw}
theorem Ff(h:Ct v36=some v1):sP 68 [(AV.list 2 D7 default v36 .none)] [] (.int .i64 v1) []:=
 sG Tryz.func68 λΓ q=>tW q [0] [] [0,5] [] (gC h (λh=>An q [2] [] (tS h (Cf []))) λh=>tV q [2] [] h λh=>tS h (Cf []))
def C7(aW:List Aw)(a8:Int):Option (Int×List Aw):=
 ((Ct aW).bind λx1=>(bif (x1 !=a8) then(some ((0:Int),aW)) else(Ci (Bw (0:Int) aW.length) (Ci (0<=(1:Int)/\(1:Int)<=(aW.length:Int)) (some ((aW.getD (0:Int).toNat (default:Aw)).Scale,(aW.drop (1:Int).toNat)))))))
variable{v37:(Int×List Aw)}
theorem Gc(h:C7 v36 v1=some v37):sP 69 [(AV.list 2 D7 default v36 .none),(Z6 v1)] [] (.tuple [(Km v37.1),(AV.list 2 D7 default v37.2 .none)]) []:=
 sG Tryz.func69 λΓ q=>gR q Gv [] [(5,fw)] [] (c1 (G3 2 D7 (default:Aw))) (tB h λx1 y1 h=>tT q [0,9] [] [(DB x1)] (c1 (Ff y1)) (gC h (λh=>An q Sa [] (tS h (Cf []))) λh=>tC h λc2_ h=>tC h λc3_ h=>gR q Sa [] [(16,(AV.list 2 D7 default (v36.drop (1:Int).toNat) .none))] [] (c3 c2_ c3_ (show(AVle (.slice 2 (v36.length-(1:Int).toNat) (λi=>D7 (v36.getD ((1:Int).toNat+i) default)) .none) (AV.list 2 D7 default (v36.drop (1:Int).toNat) .none)) from KZ)) (tS h (Cf []))))
abbrev bE:=(List Aw×List Aw×List Aw)
abbrev my:=(LR (List Aw×List Aw×List Aw) (List Aw))
def Nv :bE->Option my:=
 λ((l4,l5,l6):bE)=>(bif (bif (decide ((0:Int)<(l4.length:Int))) then true else(decide ((0:Int)<(l5.length:Int)))) then((Ct l4).bind λx8=>((Ct l5).bind λx9=>((C7 l4 (if x9<x8 then x9 else x8)).bind λx10=>((C7 l5 (if x9<x8 then x9 else x8)).bind λx11=>((Jr x10.1 x11.1).bind λx12=>(bif (x12 !=0) then(Ci (l6.length+([(⟨(if x9<x8 then x9 else x8),x12⟩:Aw)]:List Aw).length<=room) (some (.next (x10.2,x11.2,(l6++([(⟨(if x9<x8 then x9 else x8),x12⟩:Aw)]:List Aw)))))) else(some (.next (x10.2,x11.2,l6))))))))) else(some (.done l6)))
def lj(l4:List Aw):=(decide ((0:Int)<(l4.length:Int)))
def SD:AV:=fw
def fb(x9:Int)(x8:Int)(x12:Int):=([(⟨(if x9<x8 then x9 else x8),x12⟩:Aw)]:List Aw)
def li(a6:Ay)(a3:Ay)(x3:Int):=((ol 126 a6.Terms a6.Off a3.Terms a3.Off x3):St)
def Mt(a6:Ay)(a3:Ay):Option Ay:=
 ((Fn a6).bind λx1=>((bif ((!x1)==false) then Fn a3 else some false).bind λx2=>(bif (bif (!x1) then true else(!x2)) then(some (⟨([]:List Aw),(0:Int)⟩:Ay)) else((Jr a6.Off a3.Off).bind λx3=>((Ah (S:=bE) (X:=List Aw) Nv (a6.Terms,a3.Terms,([]:List Aw))).bind (λx14=>(some (⟨x14,x3⟩:Ay))))))))
variable{v38:Ay}{v39:Ay}
theorem Y6(h:Mt v35 v38=some v39):sP 47 [(Oc v35),(Oc v38),(.clo 126 [] [])] [] (Oc v39) []:=
 sG Tryz.func47 λΓ q=>An q [2,3,4,6] [3,4,6] (tB h λx1 y1 h=>tB h λx2 y2 h=>tT q VG [3,4,6] [(Z2 x1),(Z2 x2)] (c5 (H6 y1) (gI ((!x1)==false)) (λ(hg:((!x1)==false)=true)=>(H6 (Bt hg y2))) (gI ((!x1)==false)) (Ux (!x1))) (gC h (λh=>gR q [6] [6] [(20,(.agg [SD,Oj]))] [] (c1 (show(AVle (.agg [Z5,Oj]) (.agg [SD,Oj])) from(AVle.agg (.cons D2 (.cons (AVle.refl _) .nil))))) (Rx (⟨[NB],[(6,.row 57 [SD,Oj])],[]⟩:St) (tS h (gK (e:=.ret) (Kl [] (show Le Γ _ (⟨[NB],[(6,.row 57 [kA,Oj])],[]⟩:St) from Le.trans (Dj (st':=⟨[NB],[(6,.row 57 [SD,Oj])],[]⟩) [6] [6] q) (Jf (.cons (AVle.refl _) .nil) (.row (.cons AVle.untag (.cons (AVle.refl _) .nil)) .nil)))))))) λh=>tB h λx3 y3 h=>gR q Lo MX [(27,(.agg [SD,(Km x3)]))] [⟨[],[],(Km x3),[],[],[]⟩] (c2 (Pz y3) (show(AVle (.agg [Z5,(Km x3)]) (.agg [SD,(Km x3)])) from(AVle.agg (.cons D2 (.cons (AVle.refl _) .nil))))) (Mr (st':=(li v35 v38 x3)) (Le.trans (Dj (st':=(ot 126 v35.Terms v35.Off v38.Terms v38.Off SD x3)) Lo MX q) (Le.trans (Me (r:=7) (j:=0) (nm:=5700) (sz':=2) (λi=>D7 (([]:List Aw).getD i default)) 134 rfl rfl (nl rfl) rfl (.inl ⟨rfl,rfl⟩) (λh_=>absurd h_ (by decide))) (Dj (st':=(li v35 v38 x3)) Lo Oh q))) (tL q h Lo Oh (λu (l4,l5,l6)=>(Fx u [] [(3,.row 57 (Z9 l4 v35.Off)),(4,.row 57 (Z9 l5 v38.Off)),(lS l6 x3),(5700,.tok 2 134 l6.length)])) (λu l7=>aG Γ (.exit 0) (Yj Qd MY u [] [(lS l7 x3),(5700,.tok 2 134 l7.length)])) (λ⟨l4,l5,l6⟩ y h=>tU q fG Oh (WN ((lj l4)==false) (c1 (Ux (lj l4)))) (gC h (λh=>tB h λx8 y8 h=>tB h λx9 y9 h=>tT q KE Oh [(DB x8),(DB x9)] (c2 (Ff y8) (Ff y9)) (An q KE Oh (tB h λx10 y10 h=>tT q fF Oh [(lR x10.1 x10.2)] (c1 (Gc y10)) (tB h λx11 y11 h=>tT q fB Oh [(lR x11.1 x11.2)] (c1 (Gc y11)) (tB h λx12 y12 h=>tT q fD Oh [⟨[],[],(Km x12),[],[],[]⟩] (c1 (Pz y12)) (An q fA Oh (gC h (λh=>tC h λc13_ h=>gR q Lo Oh (n5 (fb x9 x8 x12) l6) [] (c5 (Bm 2 D7 (default:Aw) (fb x9 x8 x12)) (Eq.refl l6.length) c13_ (Ub 2 5700 D7 (default:Aw) l6 (fb x9 x8 x12)) (H8 l6 (fb x9 x8 x12))) (tN h)) λh=>tS h (gN (Dj Lo Oh q))))))))) λh=>tS h (gO (D1 (Dj Qd MY q))))) λx14 h=>gA (An q [6] [6,5700] (tS h (Cf [])))))))
def L6(a6:Ay)(aQ:Ay):Option Ay:=
 ((Mt a6 aQ).bind λx1=>(some x1))
theorem EL(h:L6 v35 v38=some v39):sP 99 [(Oc v35),(Oc v38)] [] (Oc v39) []:=
 sG Tryz.func99 λΓ q=>An q KJ KJ (tB h λx1 y1 h=>tT q [4] [4] [(jK x1)] (c1 (Y6 y1)) (tS h (Cf [])))
def I4(aH:Int)(aI:Int):Option Int:=
 (some (Dx (aH-aI)))
theorem O1(h:I4 v1 v2=some v20):sP 48 [(Km v1),(Km v2)] [] (.int .u64 v20) []:=
 sG Tryz.func48 λΓ q=>tW q Gv [] [4] [] (tS h (Cf []))
def Li :bE->Option my:=
 λ((l4,l5,l6):bE)=>(bif (bif (decide ((0:Int)<(l4.length:Int))) then true else(decide ((0:Int)<(l5.length:Int)))) then((Ct l4).bind λx8=>((Ct l5).bind λx9=>((C7 l4 (if x9<x8 then x9 else x8)).bind λx10=>((C7 l5 (if x9<x8 then x9 else x8)).bind λx11=>((I4 x10.1 x11.1).bind λx12=>(bif (x12 !=0) then(Ci (l6.length+([(⟨(if x9<x8 then x9 else x8),x12⟩:Aw)]:List Aw).length<=room) (some (.next (x10.2,x11.2,(l6++([(⟨(if x9<x8 then x9 else x8),x12⟩:Aw)]:List Aw)))))) else(some (.next (x10.2,x11.2,l6))))))))) else(some (.done l6)))
def ll(l4:List Aw):=(decide ((0:Int)<(l4.length:Int)))
def SE:AV:=fw
def fc(x9:Int)(x8:Int)(x12:Int):=([(⟨(if x9<x8 then x9 else x8),x12⟩:Aw)]:List Aw)
def lk(a6:Ay)(a3:Ay)(x3:Int):=((ol 48 a6.Terms a6.Off a3.Terms a3.Off x3):St)
def J1(a6:Ay)(a3:Ay):Option Ay:=
 ((Fn a6).bind λx1=>((bif ((!x1)==false) then Fn a3 else some false).bind λx2=>(bif (bif (!x1) then true else(!x2)) then(some (⟨([]:List Aw),(0:Int)⟩:Ay)) else((I4 a6.Off a3.Off).bind λx3=>((Ah (S:=bE) (X:=List Aw) Li (a6.Terms,a3.Terms,([]:List Aw))).bind (λx14=>(some (⟨x14,x3⟩:Ay))))))))
theorem U0(h:J1 v35 v38=some v39):sP 47 [(Oc v35),(Oc v38),(.clo 48 [] [])] [] (Oc v39) []:=
 sG Tryz.func47 λΓ q=>An q [2,3,4,6] [3,4,6] (tB h λx1 y1 h=>tB h λx2 y2 h=>tT q VG [3,4,6] [(Z2 x1),(Z2 x2)] (c5 (H6 y1) (gI ((!x1)==false)) (λ(hg:((!x1)==false)=true)=>(H6 (Bt hg y2))) (gI ((!x1)==false)) (Ux (!x1))) (gC h (λh=>gR q [6] [6] [(20,(.agg [SE,Oj]))] [] (c1 (show(AVle (.agg [Z5,Oj]) (.agg [SE,Oj])) from(AVle.agg (.cons D2 (.cons (AVle.refl _) .nil))))) (Rx (⟨[NB],[(6,.row 57 [SE,Oj])],[]⟩:St) (tS h (gK (e:=.ret) (Kl [] (show Le Γ _ (⟨[NB],[(6,.row 57 [kA,Oj])],[]⟩:St) from Le.trans (Dj (st':=⟨[NB],[(6,.row 57 [SE,Oj])],[]⟩) [6] [6] q) (Jf (.cons (AVle.refl _) .nil) (.row (.cons AVle.untag (.cons (AVle.refl _) .nil)) .nil)))))))) λh=>tB h λx3 y3 h=>gR q Lo MX [(27,(.agg [SE,(Km x3)]))] [⟨[],[],(Km x3),[],[],[]⟩] (c2 (O1 y3) (show(AVle (.agg [Z5,(Km x3)]) (.agg [SE,(Km x3)])) from(AVle.agg (.cons D2 (.cons (AVle.refl _) .nil))))) (Mr (st':=(lk v35 v38 x3)) (Le.trans (Dj (st':=(ot 48 v35.Terms v35.Off v38.Terms v38.Off SE x3)) Lo MX q) (Le.trans (Me (r:=7) (j:=0) (nm:=5700) (sz':=2) (λi=>D7 (([]:List Aw).getD i default)) 134 rfl rfl (nl rfl) rfl (.inl ⟨rfl,rfl⟩) (λh_=>absurd h_ (by decide))) (Dj (st':=(lk v35 v38 x3)) Lo Oh q))) (tL q h Lo Oh (λu (l4,l5,l6)=>(Fx u [] [(3,.row 57 (Z9 l4 v35.Off)),(4,.row 57 (Z9 l5 v38.Off)),(lS l6 x3),(5700,.tok 2 134 l6.length)])) (λu l7=>aG Γ (.exit 0) (Yj Qd MY u [] [(lS l7 x3),(5700,.tok 2 134 l7.length)])) (λ⟨l4,l5,l6⟩ y h=>tU q fG Oh (WN ((ll l4)==false) (c1 (Ux (ll l4)))) (gC h (λh=>tB h λx8 y8 h=>tB h λx9 y9 h=>tT q KE Oh [(DB x8),(DB x9)] (c2 (Ff y8) (Ff y9)) (An q KE Oh (tB h λx10 y10 h=>tT q fF Oh [(lR x10.1 x10.2)] (c1 (Gc y10)) (tB h λx11 y11 h=>tT q fB Oh [(lR x11.1 x11.2)] (c1 (Gc y11)) (tB h λx12 y12 h=>tT q fD Oh [⟨[],[],(Km x12),[],[],[]⟩] (c1 (O1 y12)) (An q fA Oh (gC h (λh=>tC h λc13_ h=>gR q Lo Oh (n5 (fc x9 x8 x12) l6) [] (c5 (Bm 2 D7 (default:Aw) (fc x9 x8 x12)) (Eq.refl l6.length) c13_ (Ub 2 5700 D7 (default:Aw) l6 (fc x9 x8 x12)) (H8 l6 (fc x9 x8 x12))) (tN h)) λh=>tS h (gN (Dj Lo Oh q))))))))) λh=>tS h (gO (D1 (Dj Qd MY q))))) λx14 h=>gA (An q [6] [6,5700] (tS h (Cf [])))))))
def Ij(a6:Ay)(aQ:Ay):Option Ay:=
 ((J1 a6 aQ).bind λx1=>(some x1))
theorem Ry(h:Ij v35 v38=some v39):sP 26 [(Oc v35),(Oc v38)] [] (Oc v39) []:=
 sG Tryz.func26 λΓ q=>An q KJ KJ (tB h λx1 y1 h=>tT q [4] [4] [(jK x1)] (c1 (U0 y1)) (tS h (Cf [])))
def Gi(a6:Ay):Option Bool:=
 (some ((a6.Terms.length:Int)==0))
theorem J3(h:Gi v35=some v5):sP 100 [(Oc v35)] [] (.bool v5) []:=
 sG Tryz.func100 λΓ q=>tW q [1] [1] [2] [] (tS h (Cf []))
def I5(aH:Int)(aa9:Int)(aa0:Int):Option Gt:=
 (some ((Dx (aH*aa0)),aa0))
variable{v19:Gt}
theorem O2(h:I5 v1 v2 v20=some v19):sP 127 [(Km v1),(Km v2),Yh] [(VT v20)] (Km v19.1) [(VT v19.2)]:=
 sG Tryz.func127 λΓ q=>tW q [0,2] [30000] [5] [30000] (tS h (Cf RN))
abbrev lG:=(List Aw×List Aw×List Aw×Int)
def Lj :lG->Option (LR (List Aw×List Aw×List Aw×Int) (List Aw×Int)):=
 λ((l4,l5,l6,i7):lG)=>(bif (bif (decide ((0:Int)<(l4.length:Int))) then true else(decide ((0:Int)<(l5.length:Int)))) then((Ct l4).bind λx10=>((Ct l5).bind λx11=>((C7 l4 (if x11<x10 then x11 else x10)).bind λx12=>((C7 l5 (if x11<x10 then x11 else x10)).bind λx13=>((I5 x12.1 x13.1 i7).bind λx14=>(bif (x14.1 !=0) then(Ci (l6.length+([(⟨(if x11<x10 then x11 else x10),x14.1⟩:Aw)]:List Aw).length<=room) (some (.next (x12.2,x13.2,(l6++([(⟨(if x11<x10 then x11 else x10),x14.1⟩:Aw)]:List Aw)),x14.2)))) else(some (.next (x12.2,x13.2,l6,x14.2))))))))) else(some (.done (l6,i7))))
def ln(l4:List Aw):=(decide ((0:Int)<(l4.length:Int)))
def SF:AV:=fw
def fe(x11:Int)(x10:Int)(x14:Gt):=([(⟨(if x11<x10 then x11 else x10),x14.1⟩:Aw)]:List Aw)
def lm(a6:Ay)(a3:Ay)(x3:Gt):=(⟨[(2,(.clo 127 [] [Yh])),(3,(.ptr 3 0)),YG,NB,(7,(.ptr 7 0))],[(3,.row 57 (Z9 a6.Terms a6.Off)),(4,.row 57 (Z9 a3.Terms a3.Off)),(6,.row 57 [Z5,Oj]),(7,.row 57 [(AV.list 2 D7 default ([]:List Aw) (.own 5700)),(Km x3.1)]),(5700,.tok 2 134 (([]:List Aw).length)),(VT x3.2)],[]⟩:St)
abbrev lH:=(Ay×Int)
def J2(a6:Ay)(a3:Ay)(aa0:Int):Option lH:=
 ((Fn a6).bind λx1=>((bif ((!x1)==false) then Fn a3 else some false).bind λx2=>(bif (bif (!x1) then true else(!x2)) then(some ((⟨([]:List Aw),(0:Int)⟩:Ay),aa0)) else((I5 a6.Off a3.Off aa0).bind λx3=>((Ah (S:=lG) (X:=(List Aw×Int)) Lj (a6.Terms,a3.Terms,([]:List Aw),x3.2)).bind (λ(l8,i9)=>(some ((⟨l8,x3.1⟩:Ay),i9))))))))
variable{v40:lH}
theorem U1(h:J2 v35 v38 v1=some v40):sP 47 [(Oc v35),(Oc v38),(.clo 127 [] [Yh])] [(VT v1)] (Oc v40.1) [(VT v40.2)]:=
 sG Tryz.func47 λΓ q=>An q [2,3,4,6] [3,4,6,30000] (tB h λx1 y1 h=>tB h λx2 y2 h=>tT q VG [3,4,6,30000] [(Z2 x1),(Z2 x2)] (c5 (H6 y1) (gI ((!x1)==false)) (λ(hg:((!x1)==false)=true)=>(H6 (Bt hg y2))) (gI ((!x1)==false)) (Ux (!x1))) (gC h (λh=>gR q [6] [6,30000] [(20,(.agg [SF,Oj]))] [] (c1 (show(AVle (.agg [Z5,Oj]) (.agg [SF,Oj])) from(AVle.agg (.cons D2 (.cons (AVle.refl _) .nil))))) (Rx (⟨[NB],[(6,.row 57 [SF,Oj]),(VT v1)],[]⟩:St) (tS h (gK (e:=.ret) (Kl RN (show Le Γ _ (⟨[NB],[(6,.row 57 [kA,Oj]),(VT v1)],[]⟩:St) from Le.trans (Dj (st':=⟨[NB],[(6,.row 57 [SF,Oj]),(VT v1)],[]⟩) [6] [6,30000] q) (Jf (.cons (AVle.refl _) .nil) (.row (.cons AVle.untag (.cons (AVle.refl _) .nil)) (.same .nil))))))))) λh=>tB h λx3 y3 h=>gR q Lo [3,4,6,7,30000] [(27,(.agg [SF,(Km x3.1)]))] [⟨RN,[],(Km x3.1),[(VT x3.2)],[],[]⟩] (c2 (O2 y3) (show(AVle (.agg [Z5,(Km x3.1)]) (.agg [SF,(Km x3.1)])) from(AVle.agg (.cons D2 (.cons (AVle.refl _) .nil))))) (Mr (st':=(lm v35 v38 x3)) (Le.trans (Dj (st':=⟨[(2,(.clo 127 [] [Yh])),(3,(.ptr 3 0)),YG,NB,(7,(.ptr 7 0))],[(3,.row 57 (Z9 v35.Terms v35.Off)),(4,.row 57 (Z9 v38.Terms v38.Off)),(6,.row 57 [Z5,Oj]),(7,.row 57 [SF,(Km x3.1)]),(VT x3.2)],[]⟩) Lo [3,4,6,7,30000] q) (Le.trans (Me (r:=7) (j:=0) (nm:=5700) (sz':=2) (λi=>D7 (([]:List Aw).getD i default)) 134 rfl rfl (nl rfl) rfl (.inl ⟨rfl,rfl⟩) (λh_=>absurd h_ (by decide))) (Dj (st':=(lm v35 v38 x3)) Lo T5 q))) (tL q h Lo T5 (λu (l4,l5,l6,i7)=>(Fx u [] [(3,.row 57 (Z9 l4 v35.Off)),(4,.row 57 (Z9 l5 v38.Off)),(lS l6 x3.1),(5700,.tok 2 134 l6.length),(VT i7)])) (λu (l8,i9)=>aG Γ (.exit 0) (Yj Qd [6,7,5700,30000] u [] [(lS l8 x3.1),(5700,.tok 2 134 l8.length),(VT i9)])) (λ⟨l4,l5,l6,i7⟩ y h=>tU q fG T5 (WN ((ln l4)==false) (c1 (Ux (ln l4)))) (gC h (λh=>tB h λx10 y10 h=>tB h λx11 y11 h=>tT q KE T5 [(DB x10),(DB x11)] (c2 (Ff y10) (Ff y11)) (An q KE T5 (tB h λx12 y12 h=>tT q fF T5 [(lR x12.1 x12.2)] (c1 (Gc y12)) (tB h λx13 y13 h=>tT q fB T5 [(lR x13.1 x13.2)] (c1 (Gc y13)) (tB h λx14 y14 h=>tT q fD T5 [⟨RN,[],(Km x14.1),[(VT x14.2)],[],[]⟩] (c1 (O2 y14)) (An q fA T5 (gC h (λh=>tC h λc15_ h=>gR q Lo T5 (n5 (fe x11 x10 x14) l6) [] (c5 (Bm 2 D7 (default:Aw) (fe x11 x10 x14)) (Eq.refl l6.length) c15_ (Ub 2 5700 D7 (default:Aw) l6 (fe x11 x10 x14)) (H8 l6 (fe x11 x10 x14))) (tN h)) λh=>tS h (gN (Dj Lo T5 q))))))))) λh=>tS h (gO (D1 (Dj Qd [6,7,5700,30000] q))))) λx16 h=>(match x16,h with|⟨l8,i9⟩,h=>gA (An q [6] [6,5700,30000] (tS h (Cf RN))))))))
def G7(a6:Ay)(aN:Int):Option Ay:=
 ((J2 a6 (⟨([]:List Aw),(0:Int)⟩:Ay) aN).bind λx1=>(some x1.1))
theorem Mw(h:G7 v35 v1=some v38):sP 101 [(Oc v35),(Km v1)] [] (Oc v38) []:=
 sG Tryz.func101 λΓ q=>An q KJ KJ (tB h λx1 y1 h=>gR q [4] [4] [(6,(.agg [fw,Oj]))] [⟨[(3,30000)],[],(Oc x1.1),[(VT x1.2)],[],[]⟩] (c2 (show(AVle (.agg [Z5,Oj]) (.agg [fw,Oj])) from(AVle.agg (.cons D2 (.cons (AVle.refl _) .nil)))) (U1 y1)) (tS h (Cf [])))
def ff:List AV:=[fw,Oj]
def Jn(aO:Int)(aH:Ay)(aI:Ay):Option (Ay×Bool):=
 (bif (aO==1) then((L6 aH aI).bind λx1=>(some (x1,true))) else(bif (aO==2) then((Ij aH aI).bind λx2=>(some (x2,true))) else((bif ((aO==3)==true) then Gi aI else some false).bind λx3=>(bif (bif (aO==3) then x3 else false) then((G7 aH aI.Off).bind λx4=>(some (x4,true))) else((bif ((aO==3)==true) then Gi aH else some false).bind λx5=>(bif (bif (aO==3) then x5 else false) then((G7 aI aH.Off).bind λx6=>(some (x6,true))) else((bif ((aO==8)==true) then Gi aI else some false).bind λx7=>(bif (bif (bif (aO==8) then x7 else false) then(decide (aI.Off<64)) else false) then(Ci (0<=aI.Off) ((G7 aH (UN .u64 (1:Int) aI.Off)).bind λx9=>(some (x9,true)))) else(some ((⟨([]:List Aw),(0:Int)⟩:Ay),false))))))))))
variable{v41:(Ay×Bool)}
theorem EM(h:Jn v1 v35 v38=some v41):sP 80 [(Z6 v1),(Oc v35),(Oc v38)] [] (.tuple [(Oc v41.1),(.bool v41.2)]) []:=
 sG Tryz.func80 λΓ q=>tW q [0,4,5,6] Z0 [0,4,5,6,8] Z0 (gC h (λh=>tB h λx1 y1 h=>tT q Qd [6] [(jK x1)] (c1 (EL y1)) (tS h (Cf []))) λh=>An q [0,4,5,6,14] Z0 (gC h (λh=>tB h λx2 y2 h=>tT q Qd [6] [(jK x2)] (c1 (Ry y2)) (tS h (Cf []))) λh=>tB h λx3 y3 h=>tT q [0,4,5,6,20] Z0 [(Z2 x3)] (c3 (gI ((v1==3)==true)) (λ(hg:((v1==3)==true)=true)=>(J3 (Bt hg y3))) (Lq (v1==3))) (gC h (λh=>tB h λx4 y4 h=>tT q Qd [6] [(jK x4)] (c1 (Mw y4)) (tS h (Cf []))) λh=>tB h λx5 y5 h=>tT q [0,4,5,6,31] Z0 [(Z2 x5)] (c3 (gI ((v1==3)==true)) (λ(hg:((v1==3)==true)=true)=>(J3 (Bt hg y5))) (Lq (v1==3))) (gC h (λh=>tB h λx6 y6 h=>tT q Qd [6] [(jK x6)] (c1 (Mw y6)) (tS h (Cf []))) λh=>tB h λx7 y7 h=>tT q [4,5,6,42] Z0 [(Z2 x7)] (nQ (gI ((v1==8)==true)) (λ(hg:((v1==8)==true)=true)=>(J3 (Bt hg y7))) (Lq (v1==8)) (Yu ((bif (v1==8) then x7 else false)==true) (c1 (Lq (bif (v1==8) then x7 else false))))) (gC h (λh=>tC h λc8_ h=>tB h λx9 y9 h=>tT q Qd [6] [(jK x9)] (c2 c8_ (Mw y9)) (tS h (Cf []))) λh=>gR q Qd [6] [(59,(.agg ff))] [] (c1 (show(AVle (.agg [Z5,Oj]) (.agg ff)) from(AVle.agg (.cons D2 (.cons (AVle.refl _) .nil))))) (Rx (⟨[NB,(7,(.bool false))],[(6,.row 57 ff)],[]⟩:St) (tS h (gK (e:=.ret) (Kl [] (show Le Γ _ (⟨[NB,(7,(.bool false))],[(6,.row 57 [kA,Oj])],[]⟩:St) from Le.trans (Dj (st':=⟨[NB,(7,(.bool false))],[(6,.row 57 ff)],[]⟩) Qd [6] q) (Jf (.cons (AVle.refl _) (.cons (AVle.refl _) .nil)) (.row (.cons AVle.untag (.cons (AVle.refl _) .nil)) .nil))))))))))))
def KP:=(λ(v_:Ay)=>((Oc v_):AV))
abbrev bF:=(List (Int×Ay))
abbrev VB:=(Ay×List (Int×Ay))
abbrev eh:=(Ay×Bool×List (Int×Ay))
abbrev HP:=(Int×Ay)
def Bv(rec_affine_finder_form:Int->VA->bF->Option VB)(rec_affine_finder_sum:Int->VA->bF->Option eh)(a8:Int)(a0:List Zq)(a4:List HP):Option VB:=
 (bif (B2 a4 a8) then(some ((mget (default:Ay) a4 a8),a4)) else((rec_affine_finder_sum a8 a0 a4).bind λx1=>(Option.bind (α:=(List Aw×Int)) (bif (bif (!x1.2.1) then true else(decide ((16:Int)<(x1.1.Terms.length:Int)))) then(some (([(⟨a8,(1:Int)⟩:Aw)]:List Aw),(0:Int))) else(some (x1.1.Terms,x1.1.Off))) (λ(l2,i3)=>(some ((⟨l2,i3⟩:Ay),(Ep x1.2.2 a8 (⟨l2,i3⟩:Ay))))))))
def KQ(a0:List Zq)(a8:Int):=(mget (default:Bh) a0 a8)
def XZ:=(λ(v_:Ay)=>((Oc v_):AV))
def NJ(a0:List Zq):=(mapE (λ(v_:Bh)=>((So v_):AV)) a0)
def XY:AV:=fw
def lq(a0:List Zq)(a4:List HP):=(⟨[YG,(5,(.bool false))],[(4,.row 57 [XY,Oj]),RV,(bK 9100000 (NJ a0)),(9100001,.obj (.map true .i64 (mapE XZ a4)))],[]⟩:St)
def lp(a0:List Zq)(a8:Int)(a4:List HP):=(⟨[YG,(5,(.bool true))],[(4,.row 57 [XY,(.int .u64 (KQ a0 a8).Imm)]),RV,(bK 9100000 (NJ a0)),(9100001,.obj (.map true .i64 (mapE XZ a4)))],[]⟩:St)
def Ch(rec_affine_finder_form:Int->VA->bF->Option VB)(rec_affine_finder_sum:Int->VA->bF->Option eh)(a8:Int)(a0:List Zq)(a4:List HP):Option eh:=
 (bif (!(B2 a0 a8)) then(some ((⟨([]:List Aw),(0:Int)⟩:Ay),false,a4)) else(bif (((mget (default:Bh) a0 a8).Kind:Int)==0) then(some ((⟨([]:List Aw),(mget (default:Bh) a0 a8).Imm⟩:Ay),true,a4)) else(Ci (Bw (0:Int) ((mget (default:Bh) a0 a8).Args).length) ((rec_affine_finder_form (((mget (default:Bh) a0 a8).Args).getD (0:Int).toNat (0:Int)) a0 a4).bind λx2=>(Ci (Bw (1:Int) ((mget (default:Bh) a0 a8).Args).length) ((rec_affine_finder_form (((mget (default:Bh) a0 a8).Args).getD (1:Int).toNat (0:Int)) a0 x2.2).bind λx4=>((Jn ((mget (default:Bh) a0 a8).Kind) x2.1 x4.1).bind λx5=>(some (x5.1,x5.2,x4.2)))))))))
mutual
def Bi:Nat->Int->VA->bF->Option VB
 | 0=>λ_=>λ_=>λ_=>none
 | n+1=>Bv (Bi n) (B3 n)
def B3:Nat->Int->VA->bF->Option eh
 | 0=>λ_=>λ_=>λ_=>none
 | n+1=>Ch (Bi n) (B3 n)
end
def Gh(a8:Int)(a0:List Zq)(a4:List HP):Option VB:=cg λn=>Bi n a8 a0 a4
theorem Re(n:Nat):(∀(a8:Int) (a0:List Zq) (a4:List HP) (r:VB),Bi n a8 a0 a4=some r->sP 46 [Yh,(Z6 a8)] [RV,(9100000,.obj (.map true .i64 (mapE (λ(v_:Bh)=>((So v_):AV)) a0))),(9100001,.obj (.map true .i64 (mapE (λ(v_:Ay)=>((Oc v_):AV)) a4)))] (Oc r.1) [RV,(9100000,.obj (.map true .i64 (mapE (λ(v_:Bh)=>((So v_):AV)) a0))),(9100001,.obj (.map true .i64 (mapE (λ(v_:Ay)=>((Oc v_):AV)) r.2)))])/\(∀(a8:Int) (a0:List Zq) (a4:List HP) (r:eh),B3 n a8 a0 a4=some r->sP 66 [Yh,(Z6 a8)] [RV,(9100000,.obj (.map true .i64 (mapE (λ(v_:Bh)=>((So v_):AV)) a0))),(9100001,.obj (.map true .i64 (mapE (λ(v_:Ay)=>((Oc v_):AV)) a4)))] (.tuple [(Oc r.1),(.bool r.2.1)]) [RV,(9100000,.obj (.map true .i64 (mapE (λ(v_:Bh)=>((So v_):AV)) a0))),(9100001,.obj (.map true .i64 (mapE (λ(v_:Ay)=>((Oc v_):AV)) r.2.2)))]):=by
 induction n with
 | zero=>exact⟨(λa8 a0 a4 r h=>by cases h),(λa8 a0 a4 r h=>by cases h)⟩
 | succ n ih=>
  obtain⟨ih_affine_finder_form,ih_affine_finder_sum⟩:=ih;refine⟨?_,?_⟩
  ·intro a8 a0 a4 r h;refine Zl mix Tryz.func46 (λΓ hq=>?_);change Bv (Bi n) (B3 n) a8 a0 a4=some r at h;unfold Bv at h;refine An hq [0,1,4] Ye ?_;refine gR hq [0,1,4,5,6] ju [(15,(.tuple [(.agg (TC (mget (default:Ay) a4 a8))),(.bool (B2 a4 a8))]))] [] (c1 (show(AVle (.tuple [mget (.agg [(.slice 0 0 (λ_=>[]) .none),Oj]) (mapE KP a4) a8,.bool (B2 (mapE KP a4) a8)]) (.tuple [(.agg (TC (mget (default:Ay) a4 a8))),(.bool (B2 a4 a8))])) from(Xm (f:=KP) (l:=a4) (AVle.agg (.cons VZ (.cons (AVle.refl _) .nil))) rfl))) ?_;refine An hq [0,1,4,5,18] ju ?_;refine gC h ?_ ?_<;>intro h
   ·refine An hq [4] Ye ?_;cases h;exact Cf RL
   ·obtain⟨x1,hx1,h⟩:=bind_some h;refine gR hq [0,1,4,7,8] KA [] [⟨RL,[],(.tuple [(Oc x1.1),(.bool x1.2.1)]),[RV,(9100000,.obj (.map true .i64 (mapE (λ(v_:Bh)=>((So v_):AV)) a0))),(9100001,.obj (.map true .i64 (mapE KP x1.2.2)))],[],[]⟩] (c1 (ih_affine_finder_sum a8 a0 a4 x1 hx1)) ?_;obtain⟨x4,hx4,h⟩:=bind_some h;refine gJ hx4 (λ(l2,i3)=>aG Γ .normal (⟨[(0,Yh),(1,(Z6 a8)),YG,(7,(.ptr 7 0))],[(4,.row 57 [Z5,Oj]),(7,.row 57 (Z9 l2 i3)),RV,(9100000,.obj (.map true .i64 (mapE (λ(v_:Bh)=>((So v_):AV)) a0))),(9100001,.obj (.map true .i64 (mapE KP x1.2.2)))],[]⟩:St)) ?_ ?_
    ·clear h hx4;intro y h;refine gR hq [0,1,4,7,33] KA [] [] (ci (gI ((!x1.2.1)==false)) (ci (gI ((!x1.2.1)==false)) (ci (gI ((!x1.2.1)==false)) (c1 (Ux (!x1.2.1)))))) ?_;refine gC h ?_ ?_<;>intro h
     ·refine gR hq [0,1,4,7] KA [(36,(AV.list 2 D7 default ([(⟨a8,(1:Int)⟩:Aw)]:List Aw) .exact))] [] (c1 (Bm 2 D7 (default:Aw) ([(⟨a8,(1:Int)⟩:Aw)]:List Aw))) ?_;cases h;exact gK (D1 (Le.trans (Dj (st':=⟨[(0,Yh),(1,(Z6 a8)),YG,(7,(.ptr 7 0))],[(4,.row 57 [Z5,Oj]),(7,.row 57 [(AV.list 2 D7 default ([(⟨a8,(1:Int)⟩:Aw)]:List Aw) .exact),Oj]),RV,(9100000,.obj (.map true .i64 (mapE (λ(v_:Bh)=>((So v_):AV)) a0))),(9100001,.obj (.map true .i64 (mapE KP x1.2.2)))],[]⟩) [0,1,4,7] KA hq) (Jf (.cons (AVle.refl _) (.cons (AVle.refl _) (.cons (AVle.refl _) (.cons (AVle.refl _) .nil)))) (.same (.row (.cons AVle.untag (.cons (AVle.refl _) .nil)) (.same (.same (.same .nil))))))))
     ·cases h;exact gK (D1 (Dj [0,1,4,7] KA hq))
    ·clear hx4;rcases x4 with⟨l2,i3⟩;refine gA ?_;refine An hq [4,7] KA ?_;refine Mr (S4 (λ(k_:List HO) u=>Fx u [] [(bK 9100001 k_)]) (show(Ep (mapE KP x1.2.2) a8 (.agg (Z9 l2 i3)))=(mapE KP (Ep x1.2.2 a8 (⟨l2,i3⟩:Ay))) from(Xn (f:=KP) (l:=x1.2.2) (v:=(⟨l2,i3⟩:Ay)) rfl rfl))) ?_;refine An hq [4] Ye ?_;cases h;exact Cf RL
  ·intro a8 a0 a4 r h;refine Zl mix Tryz.func66 (λΓ hq=>?_);change Ch (Bi n) (B3 n) a8 a0 a4=some r at h;unfold Ch at h;refine An hq [0,1,4] Ye ?_;refine gR hq [0,4,6,7] e8 [(14,(.tuple [(So (KQ a0 a8)),(.bool (B2 a0 a8))]))] [] (c1 (show(AVle (.tuple [mget (.agg [Ld,Ld,Ld,Ld,(.slice 0 0 (λ_=>[]) .none),Oj]) (NJ a0) a8,.bool (B2 (NJ a0) a8)]) (.tuple [(So (KQ a0 a8)),(.bool (B2 a0 a8))])) from(Xm (f:=(λ(v_:Bh)=>((So v_):AV))) (l:=a0) (AVle.agg (.cons (AVle.refl _) (.cons (AVle.refl _) (.cons (AVle.refl _) (.cons (AVle.refl _) (.cons VZ (.cons (AVle.refl _) .nil))))))) rfl))) ?_;refine An hq [0,4,6,17] e8 ?_;refine gC h ?_ ?_<;>intro h
   ·refine gR hq Sa Ye [(20,(.agg [XY,Oj]))] [] (c1 (show(AVle (.agg [Z5,Oj]) (.agg [XY,Oj])) from(AVle.agg (.cons D2 (.cons (AVle.refl _) .nil))))) ?_;refine Rx (lq a0 a4) ?_;cases h;exact gK (e:=.ret) (Kl RL (show Le Γ _ (⟨[YG,(5,(.bool false))],[(4,.row 57 [kA,Oj]),RV,(bK 9100000 (NJ a0)),(9100001,.obj (.map true .i64 (mapE XZ a4)))],[]⟩:St) from Le.trans (Dj (st':=(lq a0 a4)) Sa Ye hq) (Jf (.cons (AVle.refl _) (.cons (AVle.refl _) .nil)) (.row (.cons AVle.untag (.cons (AVle.refl _) .nil)) (.same (.same (.same .nil)))))))
   ·refine An hq [0,4,6,21] e8 ?_;refine gC h ?_ ?_<;>intro h
    ·refine gR hq Sa Ye [(27,(.agg [XY,(.int .u64 (KQ a0 a8).Imm)]))] [] (c1 (show(AVle (.agg [Z5,(.int .u64 (KQ a0 a8).Imm)]) (.agg [XY,(.int .u64 (KQ a0 a8).Imm)])) from(AVle.agg (.cons D2 (.cons (AVle.refl _) .nil))))) ?_;refine Rx (lp a0 a8 a4) ?_;cases h;exact gK (e:=.ret) (Kl RL (show Le Γ _ (⟨[YG,(5,(.bool true))],[(4,.row 57 [kA,(.int .u64 (KQ a0 a8).Imm)]),RV,(bK 9100000 (NJ a0)),(9100001,.obj (.map true .i64 (mapE XZ a4)))],[]⟩:St) from Le.trans (Dj (st':=(lp a0 a8 a4)) Sa Ye hq) (Jf (.cons (AVle.refl _) (.cons (AVle.refl _) .nil)) (.row (.cons AVle.untag (.cons (AVle.refl _) .nil)) (.same (.same (.same .nil)))))))
    ·obtain⟨hc1,h⟩:=Nr h;obtain⟨x2,hx2,h⟩:=bind_some h;obtain⟨hc3,h⟩:=Nr h;obtain⟨x4,hx4,h⟩:=bind_some h;obtain⟨x5,hx5,h⟩:=bind_some h;refine gR hq Sa Ye [] [⟨RL,[],(Oc x2.1),[RV,(bK 9100000 (NJ a0)),(9100001,.obj (.map true .i64 (mapE XZ x2.2)))],[],[]⟩,⟨RL,[],(Oc x4.1),[RV,(bK 9100000 (NJ a0)),(9100001,.obj (.map true .i64 (mapE XZ x4.2)))],[],[]⟩,⟨[],[],(.tuple [(Oc x5.1),(.bool x5.2)]),[],[],[]⟩] (ci hc1 (ci (ih_affine_finder_form (((KQ a0 a8).Args).getD (0:Int).toNat (0:Int)) a0 a4 x2 hx2) (ci hc3 (ci (ih_affine_finder_form (((KQ a0 a8).Args).getD (1:Int).toNat (0:Int)) a0 x2.2 x4 hx4) (c1 (EM hx5)))))) ?_;cases h;exact Cf RL
variable{v42:List HP}{v43:VB}
theorem Sf(h:Gh v1 v34 v42=some v43):sP 46 [Yh,(Z6 v1)] [RV,(9100000,.obj (.map true .i64 (mapE (λ(v_:Bh)=>((So v_):AV)) v34))),(9100001,.obj (.map true .i64 (mapE (λ(v_:Ay)=>((Oc v_):AV)) v42)))] (Oc v43.1) [RV,(9100000,.obj (.map true .i64 (mapE (λ(v_:Bh)=>((So v_):AV)) v34))),(9100001,.obj (.map true .i64 (mapE (λ(v_:Ay)=>((Oc v_):AV)) v43.2)))]:=by
 obtain⟨n,hn⟩:=ZF h;exact(Re n).1 v1 v34 v42 v43 hn
def fg:List AV:=[fw,Oj]
def Hi(a2:Aa)(a8:Int):Option lH:=
 ((Ks a2).bind λx1=>(bif (!((((mget ((0:Int),(0:Int)) x1 a8).1:Int)==64)&&((((mget ((0:Int),(0:Int)) x1 a8).2:Int)==1)&&true))) then(some ((⟨([]:List Aw),(0:Int)⟩:Ay),(10:Int))) else((L7 a2).bind λx2=>((Gh a8 x2 ([]:List HP)).bind λx3=>(some (x3.1,(0:Int)))))))
theorem Xq(h:Hi v0 v1=some v40):sP 25 [(RX v0),(Z6 v1)] [] (.tuple [(Oc v40.1),(Z6 v40.2)]) []:=
 sG Tryz.func25 λΓ q=>An q [1,2,4] [2,4] (tB h λx1 y1 h=>gR q [1,2,4,12] [2,4] [(10,(.agg (Bu (mget ((0:Int),(0:Int)) x1 v1))))] [⟨[],[(20000,8)],(.omap 20000),[(20000,.obj (.pmap false .i64 (mapE (λ(v_:Gt)=>((DC v_):AV)) x1)))],[],[]⟩] (c2 (BS y1) (show(AVle (mget (.agg [Ld,Ld]) (mapE (λ(v_:Gt)=>((DC v_):AV)) x1) v1) (.agg (Bu (mget ((0:Int),(0:Int)) x1 v1)))) from(CO (f:=(λ(v_:Gt)=>((DC v_):AV))) (l:=x1) (AVle.refl _) rfl))) (gC h (λh=>gR q Sa [4] [(13,(.agg fg))] [] (c1 (show(AVle (.agg [Z5,Oj]) (.agg fg)) from(AVle.agg (.cons D2 (.cons (AVle.refl _) .nil))))) (Rx (⟨[YG,(5,(AB 10))],[(4,.row 57 fg)],[]⟩:St) (tS h (gK (e:=.ret) (Kl [] (show Le Γ _ (⟨[YG,(5,(AB 10))],[(4,.row 57 [kA,Oj])],[]⟩:St) from Le.trans (Dj (st':=⟨[YG,(5,(AB 10))],[(4,.row 57 fg)],[]⟩) Sa [4] q) (Jf (.cons (AVle.refl _) (.cons (AVle.refl _) .nil)) (.row (.cons AVle.untag (.cons (AVle.refl _) .nil)) .nil)))))))) λh=>tB h λx2 y2 h=>tT q [1,4,6] [4,6,15,16] [⟨[],[(20000,15)],(.omap 20000),[(20000,.obj (.map true .i64 (mapE (λ(v_:Bh)=>((So v_):AV)) x2)))],[],[]⟩] (c1 (EN y2)) (Mr (S4 (λ(k_:List HO) u=>Fx u [] [(bK 16 k_)]) (show[]=(mapE (λ(v_:Ay)=>((Oc v_):AV)) ([]:List HP)) from rfl)) (tB h λx3 y3 h=>tT q Sa [4] [⟨[(6,30000),(15,9100000),(16,9100001)],[],(Oc x3.1),[RV,(9100000,.obj (.map true .i64 (mapE (λ(v_:Bh)=>((So v_):AV)) x2))),(9100001,.obj (.map true .i64 (mapE (λ(v_:Ay)=>((Oc v_):AV)) x3.2)))],[],[]⟩] (c1 (Sf y3)) (tS h (Cf []))))))
abbrev GB:=(Int×Bool)
def Dh(a2:Aa)(aA:Int)(aH:Int)(aI:Int):Option GB:=
 ((C0 a2 aA aH).bind λx1=>((Dw x1).bind λx2=>((Hi a2 x2).bind λx3=>(bif (x3.2 !=0) then(some ((0:Int),false)) else((C0 a2 aA aI).bind λx4=>((Dw x4).bind λx5=>((Hi a2 x5).bind λx6=>(bif (x6.2 !=0) then(some ((0:Int),false)) else((Ij x6.1 x3.1).bind λx7=>(bif (decide ((0:Int)<(x7.Terms.length:Int))) then(some ((0:Int),false)) else(some (x7.Off,true))))))))))))
variable{v44:GB}
theorem Fb(h:Dh v0 v1 v2 v20=some v44):sP 11 [(RX v0),(Z6 v1),(Z6 v2),(Z6 v20)] [] (.tuple [(Km v44.1),(.bool v44.2)]) []:=
 sG Tryz.func11 λΓ q=>An q MZ [4] (tB h λx1 y1 h=>tB h λx2 y2 h=>tB h λx3 y3 h=>tT q [1,3,4,10,11] [4,10] [⟨[],[],(So x1),[],[],[]⟩,(DB x2),⟨[],[],(.tuple [(Oc x3.1),(Z6 x3.2)]),[],[],[]⟩] (c3 (J4 y1) (Ja y2) (Xq y3)) (An q [1,3,4,10,25] [4,10] (gC h (λh=>An q [8,9] [] (tS h (Cf []))) λh=>tB h λx4 y4 h=>tB h λx5 y5 h=>tB h λx6 y6 h=>tT q [10,11,12] [10,12] [⟨[],[],(So x4),[],[],[]⟩,(DB x5),⟨[],[],(.tuple [(Oc x6.1),(Z6 x6.2)]),[],[],[]⟩] (c3 (J4 y4) (Ja y5) (Xq y6)) (An q [10,12,37] [10,12] (gC h (λh=>An q [8,9] [] (tS h (Cf []))) λh=>tB h λx7 y7 h=>tT q [13] [13] [(jK x7)] (c1 (Ry y7)) (An q [13,44] [13] (gC h (λh=>An q [8,9] [] (tS h (Cf []))) λh=>An q [8,9] [] (tS h (Cf [])))))))))
def Ov(aa4:Int)(aa5:Int)(aa9:Int):Option Bool:=
 (some (aa4==aa5))
theorem Wc(h:Ov v1 v2 v20=some v5):sP 32 [(Km v1),(Km v2),(Km v20)] [] (.bool v5) []:=
 sG Tryz.func32 λΓ q=>tW q Gv [] [6] [] (tS h (Cf []))
def Qw(a2:Aa)(aA:Int)(aH:Int)(aI:Int):Option Bool:=
 ((Dh a2 aA aH aI).bind λx1=>(bif (!x1.2) then(some false) else(Ci (Bw aA a2.Blocks.length) (Ci (Bw aH ((a2.Blocks.getD aA.toNat default).Ops).length) ((E2 (((a2.Blocks.getD aA.toNat default).Ops).getD aH.toNat default)).bind λx4=>(Ci (Bw aI ((a2.Blocks.getD aA.toNat default).Ops).length) ((E2 (((a2.Blocks.getD aA.toNat default).Ops).getD aI.toNat default)).bind λx6=>((Ov x1.1 (Dx x4) (Dx x6)).bind λx7=>(some x7)))))))))
theorem GY(h:Qw v0 v1 v2 v20=some v5):sP 30 [(RX v0),(Z6 v1),(Z6 v2),(Z6 v20),(.clo 32 [] [])] [] (.bool v5) []:=
 sG Tryz.func30 λΓ q=>An q [1,2,3,4,5] [5] (tB h λx1 y1 h=>tT q [1,2,3,4,5,11,12] [5] [(lT x1.1 x1.2)] (c1 (Fb y1)) (An q [1,2,3,4,5,11,23] [5] (gC h (λh=>An q [10] [] (tS h (Cf []))) λh=>tV q [2,3,4,11,13] [] h λh=>tC h λc3_ h=>tB h λx4 y4 h=>tC h λc5_ h=>tB h λx6 y6 h=>tB h λx7 y7 h=>tT q [10] [] [(DB x4),(DB x6),(Z2 x7)] (c5 c3_ (Hz y4) c5_ (Hz y6) (Wc y7)) (tS h (Cf [])))))
def Ga(a2:Aa)(aA:Int)(aH:Int)(aI:Int):Option Bool:=
 ((Qw a2 aA aH aI).bind λx1=>(some x1))
theorem L0(h:Ga v0 v1 v2 v20=some v5):sP 15 [(RX v0),(Z6 v1),(Z6 v2),(Z6 v20)] [] (.bool v5) []:=
 sG Tryz.func15 λΓ q=>An q MZ [4] (tB h λx1 y1 h=>tT q [8] [] [(Z2 x1)] (c1 (GY y1)) (tS h (Cf [])))
def Mu(aa4:Int)(aa5:Int)(aaC:Int):Option Bool:=
 (some (bif (decide (aa5<=aa4)) then(decide (aaC<=(Dx (0-aa4)))) else false))
theorem Y8(h:Mu v1 v2 v20=some v5):sP 31 [(Km v1),(Km v2),(Km v20)] [] (.bool v5) []:=
 sG Tryz.func31 λΓ q=>An q GI [] (tU q [6] [] (WN ((decide (v2<=v1))==true) (c1 (Lq (decide (v2<=v1))))) (tS h (Cf [])))
def Mv(a2:Aa)(aA:Int)(aH:Int)(aI:Int):Option Bool:=
 ((Dh a2 aA aH aI).bind λx1=>(bif (!x1.2) then(some false) else(Ci (Bw aA a2.Blocks.length) (Ci (Bw aH ((a2.Blocks.getD aA.toNat default).Ops).length) ((E2 (((a2.Blocks.getD aA.toNat default).Ops).getD aH.toNat default)).bind λx4=>(Ci (Bw aI ((a2.Blocks.getD aA.toNat default).Ops).length) ((E2 (((a2.Blocks.getD aA.toNat default).Ops).getD aI.toNat default)).bind λx6=>((Mu x1.1 (Dx x4) (Dx x6)).bind λx7=>(some x7)))))))))
theorem Za(h:Mv v0 v1 v2 v20=some v5):sP 30 [(RX v0),(Z6 v1),(Z6 v2),(Z6 v20),(.clo 31 [] [])] [] (.bool v5) []:=
 sG Tryz.func30 λΓ q=>An q [1,2,3,4,5] [5] (tB h λx1 y1 h=>tT q [1,2,3,4,5,11,12] [5] [(lT x1.1 x1.2)] (c1 (Fb y1)) (An q [1,2,3,4,5,11,23] [5] (gC h (λh=>An q [10] [] (tS h (Cf []))) λh=>tV q [2,3,4,11,13] [] h λh=>tC h λc3_ h=>tB h λx4 y4 h=>tC h λc5_ h=>tB h λx6 y6 h=>tB h λx7 y7 h=>tT q [10] [] [(DB x4),(DB x6),(Z2 x7)] (c5 c3_ (Hz y4) c5_ (Hz y6) (Y8 y7)) (tS h (Cf [])))))
def Gy(a2:Aa)(aA:Int)(aH:Int)(aI:Int):Option Bool:=
 ((Mv a2 aA aH aI).bind λx1=>(some x1))
theorem K5(h:Gy v0 v1 v2 v20=some v5):sP 13 [(RX v0),(Z6 v1),(Z6 v2),(Z6 v20)] [] (.bool v5) []:=
 sG Tryz.func13 λΓ q=>An q MZ [4] (tB h λx1 y1 h=>tT q [8] [] [(Z2 x1)] (c1 (Za y1)) (tS h (Cf [])))
def Hn(a2:Aa)(aA:Int):(Am×Int)->Option (LR (Am×Int) Am):=
 λ((l3,i4):(Am×Int))=>(bif (decide (i4<(((a2.Blocks.getD aA.toNat default).Ops).length:Int))) then(Option.bind (α:=Am) (Ci (Bw i4 ((a2.Blocks.getD aA.toNat default).Ops).length) ((Dw (((a2.Blocks.getD aA.toNat default).Ops).getD i4.toNat default)).bind λx8=>(bif (x8 !=0) then(Ci (l3.length+([i4]:Am).length<=room) (some (l3++([i4]:Am)))) else(some l3)))) (λx10=>(some (.next (x10,(Bj (i4+1))))))) else(some (.done l3)))
def YB:AV:=YE
def nU(aA:Int):=((decide (aA<0))==false)
def YA(a2:Aa)(aA:Int):=(a2.Blocks.getD aA.toNat default)
def fh(aA:Int)(a2:Aa):=(bif (decide (aA<0)) then true else(decide ((a2.Blocks.length:Int)<=aA)))
def lr:=(Z37:St)
def ls(a2:Aa)(aA:Int):=(⟨[(5,(AV.list 1 Aq 0 ([]:Am) (.own 5005))),(27,(AV.list 6 V6 default (YA a2 aA).Ops .none)),(28,(.int .i64 (((YA a2 aA).Ops).length:Int))),(29,Ld)],[(5005,.tok 1 3 (([]:Am).length))],[]⟩:St)
def Jt(a2:Aa)(aA:Int):Option Am:=
 ((bif ((bif (decide (aA<0)) then true else(decide ((a2.Blocks.length:Int)<=aA)))==false) then Hv a2 else some false).bind λx1=>(bif (bif (bif (decide (aA<0)) then true else(decide ((a2.Blocks.length:Int)<=aA))) then true else(!x1)) then(some ([]:Am)) else(Ci (Bw aA a2.Blocks.length) ((Ah (Hn a2 aA) (([]:Am),(0:Int))).bind (λx12=>(some x12))))))
variable{v4:Am}
theorem Y9(h:Jt v0 v1=some v4):sP 17 [(RX v0),(Z6 v1)] [] (HR v4 20000) [(20000,.tok 1 3 v4.length)]:=
 sG Tryz.func17 λΓ q=>gR q Vz [2] [(4,YB)] [] (c1 (G3 1 Aq (0:Int))) (tB h λx1 y1 h=>tT q [1,2,21] [2] [(Z2 x1)] (lV (nU v1) (c5 (Ux (decide (v1<0))) (gI ((fh v1 v0)==false)) (λ(hg:((fh v1 v0)==false)=true)=>(P0 (Bt hg y1))) (gI ((fh v1 v0)==false)) (Ux (fh v1 v0)))) (gC h (λh=>gR q [4] [] [(4,YB)] [] (c1 (G3 1 Aq (0:Int))) (Rx (⟨[(4,YB)],[],[]⟩:St) (tS h (gK (e:=.ret) (Kl VI (show Le Γ _ lr from Le.trans (Dj (st':=⟨[(4,YB)],[],[]⟩) [4] [] q) (Le.trans (LS (t:=4) (nm:=6004) (sz':=1) (λi=>Aq (([]:Am).getD i 0)) 3 rfl rfl (.inl ⟨rfl,rfl⟩) (λh_=>absurd h_ (by decide))) (Dj (st':=lr) [4] [6004] q)))))))) λh=>gR q GM [2] [(5,YB)] [] (c1 (G3 1 Aq (0:Int))) (tV q GK [] h λh=>Mr (st':=(ls v0 v1)) (Le.trans (Dj (st':=⟨[(5,YB),(27,(AV.list 6 V6 default (YA v0 v1).Ops .none)),(28,(.int .i64 (((YA v0 v1).Ops).length:Int))),(29,Ld)],[],[]⟩) GK [] q) (Le.trans (LS (t:=5) (nm:=5005) (sz':=1) (λi=>Aq (([]:Am).getD i 0)) 3 rfl rfl (.inl ⟨rfl,rfl⟩) (λh_=>absurd h_ (by decide))) (Dj (st':=(ls v0 v1)) GK [5005] q))) (tL q h GK [5005] (λu (l3,i4)=>(Fx u [(5,(HR l3 5005)),(29,(Z6 i4))] [(5005,.tok 1 3 l3.length)])) (λu l5=>aG Γ (.exit 0) (⟨[(5,(HR l5 5005))],[(5005,.tok 1 3 l5.length)],[]⟩:St)) (λ⟨l3,i4⟩ y h=>An q [5,27,28,29,30] [5005] (gC h (λh=>tB h λx10 y10 h=>gJ y10 (λl6=>aG Γ .normal (⟨[(5,(HR l6 5005)),(27,(AV.list 6 V6 default (YA v0 v1).Ops .none)),(28,(.int .i64 (((YA v0 v1).Ops).length:Int))),(29,(Z6 i4))],[(5005,.tok 1 3 l6.length)],[]⟩:St)) (λy h=>tV q [5,6,7,27,28,29] [7,5005] h λh=>tB h λx8 y8 h=>tT q [5,6,27,28,29,36] [5005] [(DB x8)] (c1 (Ja y8)) (gC h (λh=>tC h λc9_ h=>gR q GK [5005] [(39,(kB i4)),(40,(AV.list 1 Aq 0 (l3++([i4]:Am)) (.own 5005)))] [] (c5 (Bm 1 Aq (0:Int) ([i4]:Am)) (Eq.refl l3.length) c9_ (Ub 1 5005 Aq (0:Int) l3 ([i4]:Am)) (H8 l3 ([i4]:Am))) (tS h (gK (D1 Mo)))) λh=>tS h (gK (D1 (Dj GK [5005] q))))) (gA (An q GK [5005] (tN h)))) λh=>tS h (gO (D1 (Dj [5] [5005] q))))) λx12 h=>gA (An q [4] [5005] (tS h (Cf [(5005,20000)])))))))
def Bn(aH:Am)(aI:Am):Int->Option (LR Int (Unit ⊕ Bool)):=
 λ(i1:Int)=>(bif (decide (i1<(aH.length:Int))) then(Ci (Bw i1 aH.length) (Ci (Bw i1 aI.length) (bif ((aH.getD i1.toNat 0)!=(aI.getD i1.toNat 0)) then(some (.done (.inr false))) else(some (.next (Bj (i1+1))))))) else(some (.done (.inl ()))))
def Sr(Γ:G1)(aH:Am)(aI:Am)(r:Bool):Exit->St->Prop:=fK Tryz.prog Γ Tryz.f16.results.toList [] (.bool r) []
def Gq(aH:Am)(aI:Am):Option Bool:=
 (bif ((aH.length:Int)!=(aI.length:Int)) then(some false) else((Ah (Bn aH aI) (0:Int)).bind (λx4=>(match x4 with|(.inl _)=>(some true)|(.inr r6)=>(some r6)))))
variable{v17:Am}
theorem Sk(h:Gq v4 v17=some v5):sP 16 [(Z7 v4),(Z7 v17)] [] (.bool v5) []:=
 sG Tryz.func16 λΓ q=>tW q Gv [] BM [] (gC h (λh=>An q [4] [] (tS h (Cf []))) λh=>An q Yg [] (tL q h Yg [] (λu i1=>(Fx u [(5,(Z6 i1))] [])) (λu x_=>match x_ with|(.inl _)=>aG Γ (.exit 0) (⟨[],[],[]⟩:St)|(.inr r_)=>aR (Sr Γ v4 v17 r_)) (λi1 y h=>An q [0,1,5,14] [] (gC h (λh=>tC h λc2_ h=>tC h λc3_ h=>tU q [0,1,5,25] [] (c2 c2_ c3_) (gC h (λh=>An q [4] [] (tS h (gO (Su (Kl [] (Le.refl _ _)))))) λh=>An q Yg [] (tN h))) λh=>tS h (gO (D1 (Dj [] [] q))))) λx4 h=>(match x4,h with | .inl _,h=>gA (An q [4] [] (tS h (Cf []))) | .inr r6,h=>Xa (λst' hk=>tS h (gK hk)))))
def A9:List Bh:=([(⟨(0:Int),(64:Int),(1:Int),(2:Int),([]:Am),(4:Int)⟩:Bh),(⟨(1:Int),(64:Int),(1:Int),(3:Int),([(1:Int),(2:Int)]:Am),(0:Int)⟩:Bh),(⟨(16:Int),(32:Int),(1:Int),(4:Int),([(1:Int)]:Am),(0:Int)⟩:Bh),(⟨(16:Int),(32:Int),(1:Int),(5:Int),([(3:Int)]:Am),(0:Int)⟩:Bh)]:List Bh)
def GP:AV:=Ld
def fk:=([(64:Int)]:Am)
def fj:=([(⟨([]:List Em),A9,(⟨(0:Int),(5:Int),([]:Am)⟩:Ge)⟩:Ag)]:List Ag)
def o6:=(⟨fk,(32:Int),fj⟩:Aa)
def SG:AV:=YE
def fm:AV:=(AV.list 6 V6 default A9 .exact)
def fo(x1:eg):=(bif (bif x1.2.2 then(x1.1==3) else false) then(x1.2.1==4) else false)
def DA(x1:eg)(x2:GB):=(bif (bif (fo x1) then x2.2 else false) then(x2.1==18446744073709551612) else false)
def GQ(x1:eg)(x2:GB)(x3:Bool)(x4:Bool)(x5:Bool):=(bif (bif (bif (DA x1 x2) then x3 else false) then(!x4) else false) then x5 else false)
def m_locksteplaw18_awake :Option Bool:=
 ((Js (⟨([(64:Int)]:Am),(32:Int),([(⟨([]:List Em),A9,(⟨(0:Int),(5:Int),([]:Am)⟩:Ge)⟩:Ag)]:List Ag)⟩:Aa) (0:Int) (3:Int)).bind λx1=>((Dh (⟨([(64:Int)]:Am),(32:Int),([(⟨([]:List Em),A9,(⟨(0:Int),(5:Int),([]:Am)⟩:Ge)⟩:Ag)]:List Ag)⟩:Aa) (0:Int) (3:Int) (2:Int)).bind λx2=>((bif ((bif (bif (bif (bif x1.2.2 then(x1.1==3) else false) then(x1.2.1==4) else false) then x2.2 else false) then(x2.1==18446744073709551612) else false)==true) then Ga (⟨([(64:Int)]:Am),(32:Int),([(⟨([]:List Em),A9,(⟨(0:Int),(5:Int),([]:Am)⟩:Ge)⟩:Ag)]:List Ag)⟩:Aa) (0:Int) (2:Int) (3:Int) else some false).bind λx3=>((bif ((bif (bif (bif (bif (bif x1.2.2 then(x1.1==3) else false) then(x1.2.1==4) else false) then x2.2 else false) then(x2.1==18446744073709551612) else false) then x3 else false)==true) then Ga (⟨([(64:Int)]:Am),(32:Int),([(⟨([]:List Em),A9,(⟨(0:Int),(5:Int),([]:Am)⟩:Ge)⟩:Ag)]:List Ag)⟩:Aa) (0:Int) (3:Int) (2:Int) else some false).bind λx4=>((bif ((bif (bif (bif (bif (bif (bif x1.2.2 then(x1.1==3) else false) then(x1.2.1==4) else false) then x2.2 else false) then(x2.1==18446744073709551612) else false) then x3 else false) then(!x4) else false)==true) then Gy (⟨([(64:Int)]:Am),(32:Int),([(⟨([]:List Em),A9,(⟨(0:Int),(5:Int),([]:Am)⟩:Ge)⟩:Ag)]:List Ag)⟩:Aa) (0:Int) (3:Int) (2:Int) else some false).bind λx5=>((bif ((bif (bif (bif (bif (bif (bif (bif x1.2.2 then(x1.1==3) else false) then(x1.2.1==4) else false) then x2.2 else false) then(x2.1==18446744073709551612) else false) then x3 else false) then(!x4) else false) then x5 else false)==true) then Gy (⟨([(64:Int)]:Am),(32:Int),([(⟨([]:List Em),A9,(⟨(0:Int),(5:Int),([]:Am)⟩:Ge)⟩:Ag)]:List Ag)⟩:Aa) (0:Int) (2:Int) (2:Int) else some false).bind λx6=>((bif ((bif (bif (bif (bif (bif (bif (bif (bif x1.2.2 then(x1.1==3) else false) then(x1.2.1==4) else false) then x2.2 else false) then(x2.1==18446744073709551612) else false) then x3 else false) then(!x4) else false) then x5 else false) then(!x6) else false)==true) then Jt (⟨([(64:Int)]:Am),(32:Int),([(⟨([]:List Em),A9,(⟨(0:Int),(5:Int),([]:Am)⟩:Ge)⟩:Ag)]:List Ag)⟩:Aa) (0:Int) else some []).bind λx7=>((bif ((bif (bif (bif (bif (bif (bif (bif (bif x1.2.2 then(x1.1==3) else false) then(x1.2.1==4) else false) then x2.2 else false) then(x2.1==18446744073709551612) else false) then x3 else false) then(!x4) else false) then x5 else false) then(!x6) else false)==true) then Gq x7 ([(2:Int),(3:Int)]:Am) else some false).bind λx8=>(some (bif (bif (bif (bif (bif (bif (bif (bif (bif x1.2.2 then(x1.1==3) else false) then(x1.2.1==4) else false) then x2.2 else false) then(x2.1==18446744073709551612) else false) then x3 else false) then(!x4) else false) then x5 else false) then(!x6) else false) then x8 else false))))))))))
theorem Ri  (r:Bool) (h:m_locksteplaw18_awake=some r):sP 7 [] [] (.bool r) []:=
 sG Tryz.func7 λΓ q=>An q [] [] (gR q [1] [1] [(7,(AV.list 1 Aq 0 fk .exact)),(8,(.agg [GP,(AB 64),fx,fy,SG,(.int .u64 (4:Int))])),(9,(AV.list 1 Aq 0 ([(1:Int),(2:Int)]:Am) .exact)),(11,(AV.list 1 Aq 0 ([(1:Int)]:Am) .exact)),(13,(AV.list 1 Aq 0 ([(3:Int)]:Am) .exact)),(15,fm),(16,(.agg [GP,fQ,SG])),(17,(.agg [(AV.list 4 W1 default ([]:List Em) .exact),fm,GP,fQ,SG])),(18,(AV.list 5 F2 default fj .exact))] [] (c9 (Bm 1 Aq (0:Int) fk) (show(AVle (.agg [GP,(AB 64),fx,fy,Z5,(.int .u64 (4:Int))]) (.agg [GP,(AB 64),fx,fy,SG,(.int .u64 (4:Int))])) from(AVle.agg (.cons (AVle.refl _) (.cons (AVle.refl _) (.cons (AVle.refl _) (.cons (AVle.refl _) (.cons D2 (.cons (AVle.refl _) .nil)))))))) (Bm 1 Aq (0:Int) ([(1:Int),(2:Int)]:Am)) (Bm 1 Aq (0:Int) ([(1:Int)]:Am)) (Bm 1 Aq (0:Int) ([(3:Int)]:Am)) (Bm 6 V6 (default:Bh) A9) (show(AVle (.agg [GP,fQ,Z5]) (.agg [GP,fQ,SG])) from(AVle.agg (.cons (AVle.refl _) (.cons (AVle.refl _) (.cons D2 .nil))))) (show(AVle (.agg [Z5,fm,GP,fQ,SG]) (.agg [(AV.list 4 W1 default ([]:List Em) .exact),fm,GP,fQ,SG])) from(AVle.agg (.cons D2 (.cons (AVle.refl _) (.cons (AVle.refl _) (.cons (AVle.refl _) (.cons (AVle.refl _) .nil))))))) (Bm 5 F2 (default:Ag) fj)) (tB h λx1 y1 h=>tT q MZ [1] [⟨[],[],(.tuple [(Z6 x1.1),(Z6 x1.2.1),(.bool x1.2.2)]),[],[],[]⟩] (c1 (Y7 y1)) (tB h λx2 y2 h=>tT q [1,2,3,4,5,6] [1] [(lT x2.1 x2.2)] (c1 (Fb y2)) (tB h λx3 y3 h=>tB h λx4 y4 h=>tB h λx5 y5 h=>tB h λx6 y6 h=>tB h λx7 y7 h=>tB h λx8 y8 h=>gR q [0] [] [(68,(AV.list 1 Aq 0 ([(2:Int),(3:Int)]:Am) .exact))] [(Z2 x3),(Z2 x4),(Z2 x5),(Z2 x6),⟨[],[],(Z7 x7),[],[],[]⟩,(Z2 x8)] (mK (gI (x1.2.2==true)) (Lq x1.2.2) (gI ((bif x1.2.2 then(x1.1==3) else false)==true)) (Lq (bif x1.2.2 then(x1.1==3) else false)) (Lq (fo x1)) (gI ((bif (fo x1) then x2.2 else false)==true)) (Lq (bif (fo x1) then x2.2 else false)) (gI ((DA x1 x2)==true)) (λ(hg:((DA x1 x2)==true)=true)=>(L0 (Bt hg y3))) (mK (Lq (DA x1 x2)) (gI ((bif (DA x1 x2) then x3 else false)==true)) (λ(hg:((bif (DA x1 x2) then x3 else false)==true)=true)=>(L0 (Bt hg y4))) (gI ((bif (DA x1 x2) then x3 else false)==true)) (Lq (bif (DA x1 x2) then x3 else false)) (gI ((bif (bif (DA x1 x2) then x3 else false) then(!x4) else false)==true)) (λ(hg:((bif (bif (DA x1 x2) then x3 else false) then(!x4) else false)==true)=true)=>(K5 (Bt hg y5))) (Lq (bif (bif (DA x1 x2) then x3 else false) then(!x4) else false)) (gI ((GQ x1 x2 x3 x4 x5)==true)) (pC (λ(hg:((GQ x1 x2 x3 x4 x5)==true)=true)=>(K5 (Bt hg y6))) (gI ((GQ x1 x2 x3 x4 x5)==true)) (Lq (GQ x1 x2 x3 x4 x5)) (gI ((bif (GQ x1 x2 x3 x4 x5) then(!x6) else false)==true)) (show(((bif (GQ x1 x2 x3 x4 x5) then(!x6) else false)==true)=true->(sP 17 [(.agg [(Z7 fk),(AB 32),(KT fj)]),GP] [] (Z7 x7) [])) from(λhg=>(Spec.drop (Y9 (Bt hg y7))))) (show(((bif (GQ x1 x2 x3 x4 x5) then(!x6) else false)==true)=true->(AVle (.slice 1 2 (λi=>([[fy],[(.int .i64 (3:Int))]]:List (List AV)).getD i []) .exact) (AV.list 1 Aq 0 ([(2:Int),(3:Int)]:Am) .exact))) from(λhg=>@(Bm 1 Aq (0:Int) ([(2:Int),(3:Int)]:Am)))) (Yu ((bif (GQ x1 x2 x3 x4 x5) then(!x6) else false)==true) (c2 (λ(hg:((bif (GQ x1 x2 x3 x4 x5) then(!x6) else false)==true)=true)=>(Sk (Bt hg y8))) (Lq (bif (GQ x1 x2 x3 x4 x5) then(!x6) else false))))))) (tS h (Cf []))))))
open Go Go.RowKit
set_option maxRecDepth 100000
set_option maxHeartbeats 2000000
def B6(a2:Aa)(i2:Int):Gt->Option mt:=
 λ((i5,i6):Gt)=>(Ci (Bw i2 a2.Blocks.length) (bif (bif (decide (i6<(((a2.Blocks.getD i2.toNat default).Phis).length:Int))) then(decide (i5<=20000)) else false) then(Ci (Bw i2 a2.Blocks.length) (Ci (Bw i6 ((a2.Blocks.getD i2.toNat default).Phis).length) (Ci (Bw i2 a2.Blocks.length) (Ci (Bw i6 ((a2.Blocks.getD i2.toNat default).Phis).length) (some (.next ((Bj ((Bj ((Bj (i5+1))+(((((a2.Blocks.getD i2.toNat default).Phis).getD i6.toNat default).From).length:Int)))+(((((a2.Blocks.getD i2.toNat default).Phis).getD i6.toNat default).Args).length:Int))),(Bj (i6+1))))))))) else(some (.done i5))))
def B7(a2:Aa)(i2:Int):Gt->Option mt:=
 λ((i15,i16):Gt)=>(Ci (Bw i2 a2.Blocks.length) (bif (bif (decide (i16<(((a2.Blocks.getD i2.toNat default).Ops).length:Int))) then(decide (i15<=20000)) else false) then(Ci (Bw i2 a2.Blocks.length) (Ci (Bw i16 ((a2.Blocks.getD i2.toNat default).Ops).length) (some (.next ((Bj ((Bj (i15+1))+(((((a2.Blocks.getD i2.toNat default).Ops).getD i16.toNat default).Args).length:Int))),(Bj (i16+1))))))) else(some (.done i15))))
def Br(a2:Aa):Gt->Option mt:=
 λ((i1,i2):Gt)=>(bif (bif (decide (i2<(a2.Blocks.length:Int))) then(decide (i1<=20000)) else false) then(Ci (Bw i2 a2.Blocks.length) ((Ah (B6 a2 i2) ((Bj ((Bj (i1+1))+(((a2.Blocks.getD i2.toNat default).End.To).length:Int))),(0:Int))).bind (λx13=>((Ah (B7 a2 i2) (x13,(0:Int))).bind (λx21=>(some (.next (x21,(Bj (i2+1)))))))))) else(some (.done i1)))
def Dr(a2:Aa):Option Bool:=
 ((Ah (Br a2) ((a2.Params.length:Int),(0:Int))).bind (λx23=>(some (decide (x23<=20000)))))
def j9:=([(64:Int),(64:Int)]:Am)
def fq(x6:Bool)(aF:Int):=(x6==(decide ((0:Int)<aF)))
def j8:=(⟨(0:Int),(10:Int),([]:Am)⟩:Ge)
def bU:AV:=YE
def YC(x2:GB):=(bif x2.2 then(x2.1==0) else false)
def SH(aF:Int):=([(⟨(0:Int),(64:Int),(1:Int),(3:Int),([]:Am),(Dx aF)⟩:Bh),(⟨(1:Int),(64:Int),(1:Int),(4:Int),([(1:Int),(3:Int)]:Am),(0:Int)⟩:Bh),(⟨(1:Int),(64:Int),(1:Int),(5:Int),([(4:Int),(2:Int)]:Am),(0:Int)⟩:Bh),(⟨(2:Int),(64:Int),(1:Int),(6:Int),([(5:Int),(2:Int)]:Am),(0:Int)⟩:Bh),(⟨(16:Int),(8:Int),(1:Int),(7:Int),([(4:Int)]:Am),(0:Int)⟩:Bh),(⟨(16:Int),(8:Int),(1:Int),(8:Int),([(6:Int)]:Am),(0:Int)⟩:Bh),(⟨(16:Int),(8:Int),(1:Int),(9:Int),([(5:Int)]:Am),(0:Int)⟩:Bh),(⟨(16:Int),(8:Int),(1:Int),(10:Int),([(1:Int)]:Am),(0:Int)⟩:Bh)]:List Bh)
def o8(aF:Int):=(⟨j9,(8:Int),([(⟨([]:List Em),(SH aF),j8⟩:Ag)]:List Ag)⟩:Aa)
def nY(x2:GB)(x3:GB)(x4:GB):=((bif (bif (YC x2) then(!x3.2) else false) then x4.2 else false)==true)
def lw(aF:Int):AV:=(.agg [Ld,(AB 64),fx,(.int .i64 (3:Int)),bU,(.int .u64 (Dx aF))])
def NK(x2:GB)(x3:GB)(x4:GB)(aF:Int):=(bif (bif (bif (YC x2) then(!x3.2) else false) then x4.2 else false) then(x4.1==(Dx aF)) else false)
def lv(aF:Int):AV:=(.agg [(AV.list 4 W1 default ([]:List Em) .exact),(AV.list 6 V6 default (SH aF) .exact),Ld,(AB 10),bU])
def Ee(aF:Int)(a3:Bool):Option Bool:=
 (m_locksteplaw18_awake.bind λx1=>(bif (!x1) then(some false) else((Dh (⟨([(64:Int),(64:Int)]:Am),(8:Int),([(⟨([]:List Em),([(⟨(0:Int),(64:Int),(1:Int),(3:Int),([]:Am),(Dx aF)⟩:Bh),(⟨(1:Int),(64:Int),(1:Int),(4:Int),([(1:Int),(3:Int)]:Am),(0:Int)⟩:Bh),(⟨(1:Int),(64:Int),(1:Int),(5:Int),([(4:Int),(2:Int)]:Am),(0:Int)⟩:Bh),(⟨(2:Int),(64:Int),(1:Int),(6:Int),([(5:Int),(2:Int)]:Am),(0:Int)⟩:Bh),(⟨(16:Int),(8:Int),(1:Int),(7:Int),([(4:Int)]:Am),(0:Int)⟩:Bh),(⟨(16:Int),(8:Int),(1:Int),(8:Int),([(6:Int)]:Am),(0:Int)⟩:Bh),(⟨(16:Int),(8:Int),(1:Int),(9:Int),([(5:Int)]:Am),(0:Int)⟩:Bh),(⟨(16:Int),(8:Int),(1:Int),(10:Int),([(1:Int)]:Am),(0:Int)⟩:Bh)]:List Bh),(⟨(0:Int),(10:Int),([]:Am)⟩:Ge)⟩:Ag)]:List Ag)⟩:Aa) (0:Int) (4:Int) (5:Int)).bind λx2=>((Dh (⟨([(64:Int),(64:Int)]:Am),(8:Int),([(⟨([]:List Em),([(⟨(0:Int),(64:Int),(1:Int),(3:Int),([]:Am),(Dx aF)⟩:Bh),(⟨(1:Int),(64:Int),(1:Int),(4:Int),([(1:Int),(3:Int)]:Am),(0:Int)⟩:Bh),(⟨(1:Int),(64:Int),(1:Int),(5:Int),([(4:Int),(2:Int)]:Am),(0:Int)⟩:Bh),(⟨(2:Int),(64:Int),(1:Int),(6:Int),([(5:Int),(2:Int)]:Am),(0:Int)⟩:Bh),(⟨(16:Int),(8:Int),(1:Int),(7:Int),([(4:Int)]:Am),(0:Int)⟩:Bh),(⟨(16:Int),(8:Int),(1:Int),(8:Int),([(6:Int)]:Am),(0:Int)⟩:Bh),(⟨(16:Int),(8:Int),(1:Int),(9:Int),([(5:Int)]:Am),(0:Int)⟩:Bh),(⟨(16:Int),(8:Int),(1:Int),(10:Int),([(1:Int)]:Am),(0:Int)⟩:Bh)]:List Bh),(⟨(0:Int),(10:Int),([]:Am)⟩:Ge)⟩:Ag)]:List Ag)⟩:Aa) (0:Int) (4:Int) (6:Int)).bind λx3=>((Dh (⟨([(64:Int),(64:Int)]:Am),(8:Int),([(⟨([]:List Em),([(⟨(0:Int),(64:Int),(1:Int),(3:Int),([]:Am),(Dx aF)⟩:Bh),(⟨(1:Int),(64:Int),(1:Int),(4:Int),([(1:Int),(3:Int)]:Am),(0:Int)⟩:Bh),(⟨(1:Int),(64:Int),(1:Int),(5:Int),([(4:Int),(2:Int)]:Am),(0:Int)⟩:Bh),(⟨(2:Int),(64:Int),(1:Int),(6:Int),([(5:Int),(2:Int)]:Am),(0:Int)⟩:Bh),(⟨(16:Int),(8:Int),(1:Int),(7:Int),([(4:Int)]:Am),(0:Int)⟩:Bh),(⟨(16:Int),(8:Int),(1:Int),(8:Int),([(6:Int)]:Am),(0:Int)⟩:Bh),(⟨(16:Int),(8:Int),(1:Int),(9:Int),([(5:Int)]:Am),(0:Int)⟩:Bh),(⟨(16:Int),(8:Int),(1:Int),(10:Int),([(1:Int)]:Am),(0:Int)⟩:Bh)]:List Bh),(⟨(0:Int),(10:Int),([]:Am)⟩:Ge)⟩:Ag)]:List Ag)⟩:Aa) (0:Int) (7:Int) (4:Int)).bind λx4=>((bif (a3==true) then Gy (⟨([(64:Int),(64:Int)]:Am),(8:Int),([(⟨([]:List Em),([(⟨(0:Int),(64:Int),(1:Int),(3:Int),([]:Am),(Dx aF)⟩:Bh),(⟨(1:Int),(64:Int),(1:Int),(4:Int),([(1:Int),(3:Int)]:Am),(0:Int)⟩:Bh),(⟨(1:Int),(64:Int),(1:Int),(5:Int),([(4:Int),(2:Int)]:Am),(0:Int)⟩:Bh),(⟨(2:Int),(64:Int),(1:Int),(6:Int),([(5:Int),(2:Int)]:Am),(0:Int)⟩:Bh),(⟨(16:Int),(8:Int),(1:Int),(7:Int),([(4:Int)]:Am),(0:Int)⟩:Bh),(⟨(16:Int),(8:Int),(1:Int),(8:Int),([(6:Int)]:Am),(0:Int)⟩:Bh),(⟨(16:Int),(8:Int),(1:Int),(9:Int),([(5:Int)]:Am),(0:Int)⟩:Bh),(⟨(16:Int),(8:Int),(1:Int),(10:Int),([(1:Int)]:Am),(0:Int)⟩:Bh)]:List Bh),(⟨(0:Int),(10:Int),([]:Am)⟩:Ge)⟩:Ag)]:List Ag)⟩:Aa) (0:Int) (4:Int) (6:Int) else some false).bind λx5=>(bif (bif a3 then x5 else false) then(some false) else((bif ((bif (bif (bif (bif x2.2 then(x2.1==0) else false) then(!x3.2) else false) then x4.2 else false) then(x4.1==(Dx aF)) else false)==true) then Gy (⟨([(64:Int),(64:Int)]:Am),(8:Int),([(⟨([]:List Em),([(⟨(0:Int),(64:Int),(1:Int),(3:Int),([]:Am),(Dx aF)⟩:Bh),(⟨(1:Int),(64:Int),(1:Int),(4:Int),([(1:Int),(3:Int)]:Am),(0:Int)⟩:Bh),(⟨(1:Int),(64:Int),(1:Int),(5:Int),([(4:Int),(2:Int)]:Am),(0:Int)⟩:Bh),(⟨(2:Int),(64:Int),(1:Int),(6:Int),([(5:Int),(2:Int)]:Am),(0:Int)⟩:Bh),(⟨(16:Int),(8:Int),(1:Int),(7:Int),([(4:Int)]:Am),(0:Int)⟩:Bh),(⟨(16:Int),(8:Int),(1:Int),(8:Int),([(6:Int)]:Am),(0:Int)⟩:Bh),(⟨(16:Int),(8:Int),(1:Int),(9:Int),([(5:Int)]:Am),(0:Int)⟩:Bh),(⟨(16:Int),(8:Int),(1:Int),(10:Int),([(1:Int)]:Am),(0:Int)⟩:Bh)]:List Bh),(⟨(0:Int),(10:Int),([]:Am)⟩:Ge)⟩:Ag)]:List Ag)⟩:Aa) (0:Int) (7:Int) (4:Int) else some false).bind λx6=>((bif ((bif (bif (bif (bif (bif x2.2 then(x2.1==0) else false) then(!x3.2) else false) then x4.2 else false) then(x4.1==(Dx aF)) else false) then(x6==(decide ((0:Int)<aF))) else false)==true) then Ga (⟨([(64:Int),(64:Int)]:Am),(8:Int),([(⟨([]:List Em),([(⟨(0:Int),(64:Int),(1:Int),(3:Int),([]:Am),(Dx aF)⟩:Bh),(⟨(1:Int),(64:Int),(1:Int),(4:Int),([(1:Int),(3:Int)]:Am),(0:Int)⟩:Bh),(⟨(1:Int),(64:Int),(1:Int),(5:Int),([(4:Int),(2:Int)]:Am),(0:Int)⟩:Bh),(⟨(2:Int),(64:Int),(1:Int),(6:Int),([(5:Int),(2:Int)]:Am),(0:Int)⟩:Bh),(⟨(16:Int),(8:Int),(1:Int),(7:Int),([(4:Int)]:Am),(0:Int)⟩:Bh),(⟨(16:Int),(8:Int),(1:Int),(8:Int),([(6:Int)]:Am),(0:Int)⟩:Bh),(⟨(16:Int),(8:Int),(1:Int),(9:Int),([(5:Int)]:Am),(0:Int)⟩:Bh),(⟨(16:Int),(8:Int),(1:Int),(10:Int),([(1:Int)]:Am),(0:Int)⟩:Bh)]:List Bh),(⟨(0:Int),(10:Int),([]:Am)⟩:Ge)⟩:Ag)]:List Ag)⟩:Aa) (0:Int) (7:Int) (4:Int) else some false).bind λx7=>(some (bif (bif (bif (bif (bif (bif x2.2 then(x2.1==0) else false) then(!x3.2) else false) then x4.2 else false) then(x4.1==(Dx aF)) else false) then(x6==(decide ((0:Int)<aF))) else false) then(x7==(aF==1)) else false)))))))))))
theorem ok_locksteplaw18_AliasOther(aF:Int)(a3:Bool)(r:Bool)(h:Ee aF a3=some r):sP 6 [(.int .u16 aF),(.bool a3)] [] (.bool r) []:=
 sG Tryz.func6 λΓ q=>An q Gv [] (tB h λx1 y1 h=>tT q [0,1,13] [] [(Z2 x1)] (c1 (Ri  x1 y1)) (gC h (λh=>An q [4] [] (tS h (Cf []))) λh=>gR q Yg [5] [(14,(AV.list 1 Aq 0 j9 .exact)),(17,(lw aF)),(18,(AV.list 1 Aq 0 ([(1:Int),(3:Int)]:Am) .exact)),(20,(AV.list 1 Aq 0 ([(4:Int),(2:Int)]:Am) .exact)),(22,(AV.list 1 Aq 0 ([(5:Int),(2:Int)]:Am) .exact)),(24,(AV.list 1 Aq 0 ([(4:Int)]:Am) .exact)),(26,(AV.list 1 Aq 0 ([(6:Int)]:Am) .exact)),(28,(AV.list 1 Aq 0 ([(5:Int)]:Am) .exact)),(30,(AV.list 1 Aq 0 ([(1:Int)]:Am) .exact)),(32,(AV.list 6 V6 default (SH aF) .exact)),(33,(.agg [Ld,(AB 10),bU])),(34,(lv aF)),(35,(AV.list 5 F2 default ([(⟨([]:List Em),(SH aF),j8⟩:Ag)]:List Ag) .exact))] [] (mK (Bm 1 Aq (0:Int) j9) (show(AVle (.agg [Ld,(AB 64),fx,(.int .i64 (3:Int)),Z5,(.int .u64 (Dx aF))]) (lw aF)) from(AVle.agg (.cons (AVle.refl _) (.cons (AVle.refl _) (.cons (AVle.refl _) (.cons (AVle.refl _) (.cons D2 (.cons (AVle.refl _) .nil)))))))) (Bm 1 Aq (0:Int) ([(1:Int),(3:Int)]:Am)) (Bm 1 Aq (0:Int) ([(4:Int),(2:Int)]:Am)) (Bm 1 Aq (0:Int) ([(5:Int),(2:Int)]:Am)) (Bm 1 Aq (0:Int) ([(4:Int)]:Am)) (Bm 1 Aq (0:Int) ([(6:Int)]:Am)) (Bm 1 Aq (0:Int) ([(5:Int)]:Am)) (Bm 1 Aq (0:Int) ([(1:Int)]:Am)) (c4 (Bm 6 V6 (default:Bh) (SH aF)) (show(AVle (.agg [Ld,(AB 10),Z5]) (.agg [Ld,(AB 10),bU])) from(AVle.agg (.cons (AVle.refl _) (.cons (AVle.refl _) (.cons D2 .nil))))) (show(AVle (.agg [Z5,(AV.list 6 V6 default (SH aF) .exact),Ld,(AB 10),bU]) (lv aF)) from(AVle.agg (.cons D2 (.cons (AVle.refl _) (.cons (AVle.refl _) (.cons (AVle.refl _) (.cons (AVle.refl _) .nil))))))) (Bm 5 F2 (default:Ag) ([(⟨([]:List Em),(SH aF),j8⟩:Ag)]:List Ag)))) (tB h λx2 y2 h=>tT q [0,1,5,6,7] [5] [(lT x2.1 x2.2)] (c1 (Fb y2)) (tB h λx3 y3 h=>tT q [0,1,5,6,7,9] [5] [(lT x3.1 x3.2)] (c1 (Fb y3)) (tB h λx4 y4 h=>tT q [0,1,5,6,7,9,10,11] [5] [(lT x4.1 x4.2)] (c1 (Fb y4)) (tB h λx5 y5 h=>tT q [0,5,6,7,9,10,11,56] [5] [(Z2 x5)] (c3 (gI (a3==true)) (λ(hg:(a3==true)=true)=>(K5 (Bt hg y5))) (Lq a3)) (gC h (λh=>An q [4] [] (tS h (Cf []))) λh=>tB h λx6 y6 h=>tB h λx7 y7 h=>tT q [4] [] [(Z2 x6),(Z2 x7)] (pB (gI (x2.2==true)) (Lq x2.2) (gI ((YC x2)==true)) (Lq (YC x2)) (Lq (bif (YC x2) then(!x3.2) else false)) (WN (nY x2 x3 x4) (nQ (Lq (bif (bif (YC x2) then(!x3.2) else false) then x4.2 else false)) (gI ((NK x2 x3 x4 aF)==true)) (λ(hg:((NK x2 x3 x4 aF)==true)=true)=>(K5 (Bt hg y6))) (WN ((NK x2 x3 x4 aF)==true) (nQ (Lq (NK x2 x3 x4 aF)) (gI ((bif (NK x2 x3 x4 aF) then(fq x6 aF) else false)==true)) (λ(hg:((bif (NK x2 x3 x4 aF) then(fq x6 aF) else false)==true)=true)=>(L0 (Bt hg y7))) (WN ((bif (NK x2 x3 x4 aF) then(fq x6 aF) else false)==true) (c1 (Lq (bif (NK x2 x3 x4 aF) then(fq x6 aF) else false))))))))) (tS h (Cf [])))))))))
theorem wf_u16{n:Int}(h:(Lit.int .u16 n).wf=true):0<=n/\n<65536:=by simp[Lit.wf,IntKind.min,IntKind.max,IntKind.bits,IntKind.signed]at h;omega
abbrev Iall(w:World):Nat->Nat->Prop:=λb o=>∃ u,w.cell? ⟨b,o,none⟩=some u
structure jz(w:World)(cs:List Value)(avs:List AV):Prop where
 len:cs.length=avs.length
 one:∀ j,j<avs.length->(cs.getD j undef).oneCell'=true
 rep:∀ j,j<avs.length->RepV (Iall w) w (cs.getD j undef) (avs.getD j .any)
structure NH(P:Program)(t:TypeId){α:Type}(e:α->List AV)(ok:α->Prop):Prop where
 get:∀{H:Type} {enc:TypeId×Value->H} {w:World} {base:Nat} {spare:Nat->Bool} {held:Bool} {fuel:Nat} {cs:List Value} {x:DataW H×List MemPlace},
  DataW.trod enc P w base spare held fuel t cs=some x->∃ a,ok a/\jz w cs (e a)
theorem OJ{w:World}{v:Value}{x:AV}(h1:v.oneCell'=true)(h:RepV (Iall w) w v x):jz w [v] [x]:=
 ⟨rfl,λj hj=>(by
   have hj0:j=0:=by simpa using hj
   subst hj0
   exact h1),λj hj=>(by
   have hj0:j=0:=by simpa using hj
   subst hj0
   exact h)⟩
theorem ZY{P:Program}{t:TypeId}{k:IntKind}{e:Int->List AV}(ht:P.underlying t=some (.int k))(he:∀ n,e n=[.int k n]):NH P t e (λn=>(Lit.int k n).wf=true):=by
 refine⟨?_⟩;intro H enc w base spare held fuel cs x h;obtain⟨n,rfl,rfl,hw⟩:=DataW.trod_int ht h;exact⟨n,hw,by rw[he];exact OJ rfl (.int _ _)⟩
theorem TY{P:Program}{t:TypeId}{e:Bool->List AV}(ht:P.underlying t=some .bool)(he:∀ n,e n=[.bool n]):NH P t e (λ_=>True):=by
 refine⟨?_⟩;intro H enc w base spare held fuel cs x h;obtain⟨n,rfl,rfl⟩:=DataW.trod_bool ht h;exact⟨n,trivial,by rw[he];exact OJ rfl (.bool _)⟩
structure nS(P:Program)(fs:List Field)(off N:Nat){α:Type}(e:α->List AV)(ok:α->Prop):Prop where
 get:∀{H:Type} {enc:TypeId×Value->H} {w:World} {base:Nat} {spare:Nat->Bool} {held:Bool} {n:Nat} {cs:List Value},cs.length=N->
  (∀ f∈fs,∃ x,DataW.trod enc P w base spare held n f.type ((cs.drop f.offset).take (P.cellsOf f.type))=some x)->∃ a,ok a/\jz w (cs.drop off) (e a)
theorem arg_one{P:Program}{t:TypeId}{α:Type}{e:α->List AV}{ok:α->Prop}(h:NH P t e ok){x:α->AV}(he:∀ a,e a=[x a]){H:Type}{enc:TypeId×Value->H}{w:World}{base:Nat}{spare:Nat->Bool}{held:Bool}{v:Value}{d:DataW H}{ps:List MemPlace}
  (hv:v.cells = #[v]) (hd:DataW.Trod enc P w base spare held t v d ps):∃ a,ok a/\RepV (Iall w) w v (x a):=by
 obtain⟨fuel,hf⟩:=hd;obtain⟨a,ha,hr⟩:=h.get hf;refine⟨a,ha,?_⟩;have:=hr.rep 0 (by simp[he])
 simpa [hv,he] using this
def oC(x:Int):List AV:=[(.int .u16 x)]
def okU16(n:Int):Prop:=(Lit.int .u16 n).wf=true
theorem op_48:NH Tryz.prog 48 oC okU16:=ZY Tryz.underlying48 (λ_=>rfl)
def okB(n:Bool):Prop:=True
theorem op_4:NH Tryz.prog 4 eB okB:=TY Tryz.underlying4 (λ_=>rfl)
theorem F8{n:Int}(h:-9223372036854775808<=n)(h':n<9223372036854775808):Bj n=n:=by
 show IntKind.i64.wrap n=n
 simp only[IntKind.wrap,IntKind.bits,IntKind.signed]
 simp
 split<;>omega
theorem Nj{n:Int}(h:0<=n)(h':n<18446744073709551616):Dx n=n:=by
 show IntKind.u64.wrap n=n
 simp[IntKind.wrap,IntKind.bits,IntKind.signed];omega
theorem FZ(n:Int):Dx n=n % 18446744073709551616:=by
 show IntKind.u64.wrap n=_
 simp[IntKind.wrap,IntKind.bits,IntKind.signed]
theorem As{R:Type}{p:Prop}[Decidable p]{k:Option R}(h:p):Ci p k=k:=if_pos h
theorem cd{x:Int}(j:Nat):x.fdiv (2 ^ j)=x / 2 ^ j:=by rw[Int.fdiv_eq_ediv_of_nonneg _ (by exact Int.le_of_lt (Int.pow_pos (by decide)))]
theorem Ab{α:Type}(l:List α)(i:Nat)(d:α)(h:i<l.length):l.getD i d=l[i]:=by simp[List.getD,h]
theorem kinds(k:Int):k=0\/k=1\/k=2\/k=3\/k=4\/k=5\/k=6\/k=7\/k=8\/k=9\/k=10\/k=11\/k=12\/k=13\/k=14\/k=15\/k=16\/k=17\/k=18\/k=19\/k=20\/k=21\/k=22\/(k<0\/22<k):=by omega
theorem dn{k:Int}(h:k<0\/22<k):(k==0)=false/\(k==1)=false/\(k==2)=false/\(k==3)=false/\(k==4)=false/\(k==5)=false/\(k==6)=false/\(k==7)=false/\(k==8)=false/\(k==9)=false/\(k==10)=false/\(k==11)=false/\(k==12)=false /\
  (k==13)=false/\(k==14)=false/\(k==15)=false/\(k==16)=false/\(k==17)=false/\(k==18)=false/\(k==19)=false/\(k==20)=false/\(k==21)=false/\(k==22)=false:=by
 simp only[zzL25,ne_eq];omega
def Dn(b:Int):Bool:=b==1 || b==8 || b==16 || b==32 || b==64
def Uy(b n:Int):Bool:=Dn b&&(n==1 || ((n==2 || n==4 || n==8 || n==16)&&decide (8<=b)&&decide (b*n<=128)))
theorem width_cases{b:Int}(h:Dn b=true):b=1\/b=8\/b=16\/b=32\/b=64:=by simp[Dn]at h;omega
theorem shape_width{b n:Int}(h:Uy b n=true):Dn b=true:=by simp[Uy]at h;exact h.1
theorem Mk{b n:Int}(h:Uy b n=true):n=1\/n=2\/n=4\/n=8\/n=16:=by simp[Uy]at h;omega
theorem P8(b:Int):G0 b=some (Dn b):=by
 unfold G0 Dn
 by_cases h1:b=1
 ·subst h1;rfl
 by_cases h2:b=8
 ·subst h2;rfl
 by_cases h3:b=16
 ·subst h3;rfl
 by_cases h4:b=32
 ·subst h4;rfl
 by_cases h5:b=64
 ·subst h5;rfl
 have e1:(b==1)=false:=by simpa using h1
 have e2:(b==8)=false:=by simpa using h2
 have e3:(b==16)=false:=by simpa using h3
 have e4:(b==32)=false:=by simpa using h4
 have e5:(b==64)=false:=by simpa using h5
 simp[e1,e2,e3,e4,e5]
theorem TM(b n:Int):Nc b n=some (Uy b n):=by
 unfold Nc;simp only[P8,Ar]
 by_cases hn:n=1\/n=2\/n=4\/n=8\/n=16
 ·cases hw:Dn b with
  | false=>rcases hn with rfl|rfl|rfl|rfl|rfl<;>simp[Uy,hw]
  | true=>
   rcases width_cases hw with rfl|rfl|rfl|rfl|rfl<;>rcases hn with rfl|rfl|rfl|rfl|rfl<;>rfl
 ·have e1:(n==1)=false:=by simp;omega
  have e2:(n==2)=false:=by simp;omega
  have e3:(n==4)=false:=by simp;omega
  have e4:(n==8)=false:=by simp;omega
  have e5:(n==16)=false:=by simp;omega
  simp[Uy,e1,e2,e3,e4,e5]
theorem eW{v b:Int}(hv:0<=v/\v<18446744073709551616)(hb:Dn b=true):Q0 v b=some (v % 2 ^ b.toNat):=by
 unfold Q0;simp only[P8,hb,Ar,Fi,Az]
 have key:∀ j:Nat,j<64->X3 .u64 (UN .u64 v (j:Int)) (j:Int)=(v*2 ^ j % 18446744073709551616) / 2 ^ j:=λj hj=>by
  simp only[X3,UN,Dk,IntKind.bits];rw[Nat.min_eq_left (by omega),cd,show IntKind.u64.wrap (v*2 ^ j)=v*2 ^ j % 18446744073709551616 from FZ _]
 rcases width_cases hb with rfl|rfl|rfl|rfl|rfl
 ·have:=key 63 (by decide);simp only[show Bj (64-1)=((63:Nat):Int) from rfl,this];rw[As (by decide),As (by decide)];congr 1;simp only[show((1:Int).toNat)=1 from rfl];omega
 ·have:=key 56 (by decide);simp only[show Bj (64-8)=((56:Nat):Int) from rfl,this];rw[As (by decide),As (by decide)];congr 1;simp only[show((8:Int).toNat)=8 from rfl];omega
 ·have:=key 48 (by decide);simp only[show Bj (64-16)=((48:Nat):Int) from rfl,this];rw[As (by decide),As (by decide)];congr 1;simp only[show((16:Int).toNat)=16 from rfl];omega
 ·have:=key 32 (by decide);simp only[show Bj (64-32)=((32:Nat):Int) from rfl,this];rw[As (by decide),As (by decide)];congr 1;simp only[show((32:Int).toNat)=32 from rfl];omega
 ·have:=key 0 (by decide);simp only[show Bj (64-64)=((0:Nat):Int) from rfl,this];rw[As (by decide),As (by decide)];congr 1;simp only[show((64:Int).toNat)=64 from rfl];omega
theorem LP{i:Int}(h:0<=i/\i<18446744073709551616):Ip i=some (Dn i):=by
 unfold Ip
 by_cases hi:i<=64
 ·have:Bj i=i:=F8 (by omega) (by omega);simp[hi,this,P8]
 ·have:Dn i=false:=by simp[Dn];omega
  simp[hi,this]
def dB(k:Int):Bool:=decide (0<=k)&&decide (k<=22)
def Lk(k n:Int):Int:=
 bif k==0 then 0 else bif k==13 || k==18 || k==19 then 3 else bif k==14 || k==15 || k==16 || k==22 then 1 else bif k==20 then 4 else bif k==21 then n else 2
def X2(k b n:Int):Bool:=
 bif k==16 || k==17 then decide (8<=b) else bif k==18 || k==19 then decide (8<=b)&&n==1 else
 bif k==4 || k==10 || k==11 || k==12 || k==14 || k==15 || k==20 then n==1 else bif k==21 || k==22 then decide (1<n) else true
def ifitS(k b n i:Int):Bool:=
 bif k==0 then i % 2 ^ b.toNat==i else bif k==14 then Dn i&&decide (i<b) else bif k==15 then Dn i&&decide (b<i) else bif k==22 then decide (i<n) else i==0
def valS(v:Int):Bool:=decide (1<=v)&&decide (v<=1023)
def dstS(k d:Int):Bool:=bif k==17 || k==19 then d==0 else valS d
def Ht(o:Bh):Bool:=Uy o.Bits o.Lanes&&(dB o.Kind&&X2 o.Kind o.Bits o.Lanes&&ifitS o.Kind o.Bits o.Lanes o.Imm&&((o.Args.length:Int)==Lk o.Kind o.Lanes))&&(o.Args.all valS&&dstS o.Kind o.Dst)
def W5(o:Bh)(i:Nat):Int×Int:=
 bif o.Kind==13 || o.Kind==20 then(bif Nat.beq i 0 then(1,1) else(o.Bits,o.Lanes)) else bif o.Kind==14 || o.Kind==15 then(Bj o.Imm,1) else
 bif o.Kind==16 || o.Kind==17 then(bif Nat.beq i 0 then(64,1) else(o.Bits,o.Lanes)) else
 bif o.Kind==18 || o.Kind==19 then(bif Nat.beq i 1 then(64,1) else bif Nat.beq i 0 then(1,1) else(o.Bits,o.Lanes)) else bif o.Kind==21 then(o.Bits,1) else(o.Bits,o.Lanes)
def L3(o:Bh):List (Int×Int):=(List.range (Lk o.Kind o.Lanes).toNat).map (W5 o)
def Ms(k b n:Int):Int×Int:=bif k==17 || k==19 then(0,0) else bif k==10 || k==11 || k==12 then(1,1) else bif k==22 then(b,1) else(b,n)
theorem g8{k:Int}(h:k<0\/22<k):dB k=false:=by simp[dB];omega
theorem OV(k:Int):Ma k=some (dB k):=by unfold Ma dB;cases decide ((0:Int)<=k)<;>rfl
theorem Qt(v:Int):Io v=some (valS v):=by unfold Io valS;cases decide ((1:Int)<=v)<;>rfl
theorem EA(o:Bh):I7 o=some (X2 o.Kind o.Bits o.Lanes):=by
 obtain⟨k,b,n,d,args,i⟩:=o;rcases kinds k with rfl|rfl|rfl|rfl|rfl|rfl|rfl|rfl|rfl|rfl|rfl|rfl|rfl|rfl|rfl|rfl|rfl|rfl|rfl|rfl|rfl|rfl|rfl|h
 any_goals rfl
 ·show some (bif decide (8<=b) then n==1 else false)=some (decide (8<=b)&&n==1);cases decide (8<=b)<;>rfl
 ·show some (bif decide (8<=b) then n==1 else false)=some (decide (8<=b)&&n==1);cases decide (8<=b)<;>rfl
 ·unfold I7 X2;simp[dn h]
theorem DZ(o:Bh):K0 o=some (Ms o.Kind o.Bits o.Lanes):=by
 obtain⟨k,b,n,d,args,i⟩:=o;rcases kinds k with rfl|rfl|rfl|rfl|rfl|rfl|rfl|rfl|rfl|rfl|rfl|rfl|rfl|rfl|rfl|rfl|rfl|rfl|rfl|rfl|rfl|rfl|rfl|h
 any_goals rfl
 unfold K0 Ms;simp[dn h]
theorem LO(o:Bh)(hw:Dn o.Bits=true)(hn:0<=o.Lanes/\o.Lanes<=16)(hi:0<=o.Imm/\o.Imm<18446744073709551616):K1 o=some (ifitS o.Kind o.Bits o.Lanes o.Imm):=by
 unfold K1 ifitS
 have hb:Dx o.Bits=o.Bits:=by apply Nj<;>(rcases width_cases hw with h|h|h|h|h<;>omega)
 have hl:Dx o.Lanes=o.Lanes:=by apply Nj<;>omega
 rw[eW hi hw,LP hi,hb,hl]
 cases(o.Kind==0)<;>cases(o.Kind==14)<;>cases(o.Kind==15)<;>cases(o.Kind==22)<;>cases Dn o.Imm<;>rfl
set_option maxHeartbeats 2000000 in
theorem S6{α X:Type}(l:List α)(d:α)(p:α->Bool)(f:Int->Option (LR Int X))(yes no:X)(hn:∀ i:Nat,i<l.length->p (l.getD i d)=true->f i=some (.next ((i:Int)+1)))
  (hf:∀ i:Nat,i<l.length->p (l.getD i d)=false->f i=some (.done no)) (he:f l.length=some (.done yes)):∀(k i:Nat),i+k=l.length->Ah f i=some (bif (l.drop i).all p then yes else no)
 | 0,i,h=>by
  obtain rfl:i=l.length:=by omega
  rw[Ai he]
  simp
 | k+1,i,h=>by
  have hi:i<l.length:=by omega
  have hd:l.drop i=l.getD i d::l.drop (i+1):=by rw[O8 hi,Ab _ _ _ hi]
  cases hp:p (l.getD i d) with
  | true=>
   rw[Ap (hn i hi hp)];have:=S6 l d p f yes no hn hf he k (i+1) (by omega);rw[show((i:Int)+1)=((i+1:Nat):Int) by omega,this,hd,Pa,hp,Hj]
  | false=>
   rw[Ai (hf i hi hp),hd,Pa,hp,Ty,Az]
theorem Xf{α:Type}(l:List α)(d:α)(wt:α->Nat)(C:Nat)(f:Int×Int->Option (LR (Int×Int) Int))
  (hn:∀(n i:Nat),i<l.length->n<=C->∃ m:Nat,f ((n:Int),(i:Int))=some (.next ((m:Int),((i+1:Nat):Int)))/\(n+wt (l.getD i d)<=C->m=n+wt (l.getD i d))/\(m<=C->n+wt (l.getD i d)<=C))
  (hd:∀(n i:Nat),i<=l.length->(i=l.length\/C<n)->f ((n:Int),(i:Int))=some (.done (n:Int))) :
  ∀(k i n:Nat),i+k=l.length->∃ m:Nat,Ah f ((n:Int),(i:Int))=some (m:Int)/\(n+((l.drop i).map wt).sum<=C->m=n+((l.drop i).map wt).sum)/\(m<=C->n+((l.drop i).map wt).sum<=C)
 | 0,i,n,h=>by
  obtain rfl:i=l.length:=by omega
  refine⟨n,Ai (hd n _ (zzL8 _) (.inl rfl)),?_,?_⟩
  ·simp
  ·simp
 | k+1,i,n,h=>by
  have hi:i<l.length:=by omega
  have hdr:l.drop i=l.getD i d::l.drop (i+1):=by rw[O8 hi,Ab _ _ _ hi]
  by_cases hC:n<=C
  ·obtain⟨m,h1,h2,h3⟩:=hn n i hi hC;obtain⟨m',h4,h5,h6⟩:=Xf l d wt C f hn hd k (i+1) m (by omega);refine⟨m',by rw[Ap h1];exact h4,λhle=>?_,λhle=>?_⟩
   ·rw[hdr,Bs,Vt]at hle ⊢;have:=h2 (by omega);subst this;rw[h5 (by omega)];omega
   ·rw[hdr,Bs,Vt];have h7:=h6 hle;have h8:=h3 (by omega);have:=h2 h8;omega
  ·refine⟨n,Ai (hd n i (by omega) (.inr (by omega))),λhle=>by omega,λhle=>by omega⟩
theorem Qv{X:Type}(N:Nat)(f:Int×Int->Option (LR (Int×Int) X))(hn:∀(n:Int) (i:Nat),i<N->(∃ m:Int,f (n,(i:Int))=some (.next (m,((i+1:Nat):Int))))\/∃ x,f (n,(i:Int))=some (.done x))(hd:∀ n:Int,∃ x,f (n,(N:Int))=some (.done x)) :
  ∀(k i:Nat) (n:Int),i+k=N->∃ x,Ah f (n,(i:Int))=some x
 | 0,i,n,h=>by
  obtain rfl:i=N:=by omega
  obtain⟨x,hx⟩:=hd n;exact⟨x,Ai hx⟩
 | k+1,i,n,h=>by
  rcases hn n i (by omega) with⟨m,hm⟩|⟨x,hx⟩
  ·obtain⟨x,hx⟩:=Qv N f hn hd k (i+1) m (by omega);exact⟨x,by rw[Ap hm];exact hx⟩
  ·exact⟨x,Ai hx⟩
theorem IU{α X:Type}(l:List α)(d:α)(wt:α->Nat)(out:Int->X)(f:Int×Int->Option (LR (Int×Int) X))
  (hn:∀(n i:Nat),i<l.length->f (Bj n,(i:Int))=some (.next (Bj ((n+wt (l.getD i d):Nat):Int),((i+1:Nat):Int)))) (hd:∀ n:Int,f (n,(l.length:Int))=some (.done (out n))) :
  ∀(k i n:Nat),i+k=l.length->Ah f (Bj n,(i:Int))=some (out (Bj ((n+((l.drop i).map wt).sum:Nat):Int)))
 | 0,i,n,h=>by
  obtain rfl:i=l.length:=by omega
  rw[Ai (hd _)]
  simp
 | k+1,i,n,h=>by
  have hi:i<l.length:=by omega
  have hdr:l.drop i=l.getD i d::l.drop (i+1):=by rw[O8 hi,Ab _ _ _ hi]
  rw[Ap (hn n i hi),IU l d wt out f hn hd k (i+1) _ (by omega),hdr,Bs,Vt,R8]
theorem XJ(a b:Int):Bj (Bj a+b)=Bj (a+b):=by
 show IntKind.i64.wrap (IntKind.i64.wrap a+b)=IntKind.i64.wrap (a+b)
 simp only[IntKind.wrap,IntKind.bits,IntKind.signed]
 simp
 split<;>split<;>omega
theorem AO{α β:Type}(l:List α)(d:α)(E:α->List β)(M:Nat)(f:List β×Int->Option (LR (List β×Int) (List β)))
  (hn:∀(out:List β) (i:Nat),i<l.length->out.length+(E (l.getD i d)).length<=M->f (out,(i:Int))=some (.next (out++E (l.getD i d),((i+1:Nat):Int))))
  (hd:∀ out:List β,f (out,(l.length:Int))=some (.done out)) :
  ∀(k i:Nat) (out:List β),i+k=l.length->out.length+((l.drop i).map E).flatten.length<=M->Ah f (out,(i:Int))=some (out++((l.drop i).map E).flatten)
 | 0,i,out,h,_=>by
  obtain rfl:i=l.length:=by omega
  rw[Ai (hd out)]
  simp
 | k+1,i,out,h,hM=>by
  have hi:i<l.length:=by omega
  have hdr:l.drop i=l.getD i d::l.drop (i+1):=by rw[O8 hi,Ab _ _ _ hi]
  rw[hdr,Bs,List.flatten_cons,Es]at hM;rw[Ap (hn out i hi (by omega)),AO l d E M f hn hd k (i+1) _ (by omega) (by rw[Es];omega),hdr,Bs,List.flatten_cons,X9]
theorem DS{α β:Type}(l:List α)(E:α->List β)(B:Nat)(h:∀ a∈l,(E a).length<=B):(l.map E).flatten.length<=l.length*B:=by
 induction l with
 | nil=>simp
 | cons a l ih=>
  have h1:=h a (by simp);have h2:=ih (λb hb=>h b (by simp[hb]));rw[Bs,List.flatten_cons,Es,M5,D5];omega
theorem getD_mem{α:Type}{l:List α}{i:Nat}{d:α}(h:i<l.length):l.getD i d∈l:=by rw[Ab _ _ _ h];exact Yb h
theorem Bc{i n:Nat}(h:i<n):Bw (i:Int) n:=⟨by omega,by exact_mod_cast h⟩
theorem Dv{i n:Nat}(h:i<n)(hn:n<9223372036854775808):Bj ((i:Int)+1)=(i:Int)+1:=F8 (by omega) (by omega)
def cx(l:List Int):Prop:=∀ x∈l,0<=x/\x<=2147483647
theorem Xe{S X:Type}(f:S->Option (LR S X))(T:Nat->S)(x:X):∀(n:Nat),(∀ i,i<n->f (T i)=some (.next (T (i+1))))->f (T n)=some (.done x)->Ah f (T 0)=some x:=by
 suffices h:∀(k i n:Nat),i+k=n->(∀ j,i<=j->j<n->f (T j)=some (.next (T (j+1))))->f (T n)=some (.done x)->Ah f (T i)=some x from
  λn h1 h2=>h n 0 n (by omega) (λj _ hj=>h1 j hj) h2
 intro k
 induction k with
 | zero=>
  intro i n hi _ h2
  have hin:n=i:=by omega
  subst hin;exact Ai h2
 | succ k ih=>intro i n hi h1 h2;rw[Ap (h1 i (zzL8 _) (by omega))];exact ih (i+1) n (by omega) (λj hj hj'=>h1 j (by omega) hj') h2
theorem GW{S X:Type}(f:S->Option (LR S X))(T:Nat->S):∀(n:Nat),(∀ i,i<n->f (T i)=some (.next (T (i+1))))->Ah f (T 0)=Ah f (T n):=by
 intro n
 induction n with
 | zero=>intro _;rfl
 | succ n ih=>intro h;rw[ih (λi hi=>h i (by omega)),Ap (h n (by omega))]
theorem Lt{S X:Type}(f:S->Option (LR S X))(T:Nat->S)(p:Nat->Bool)(yes no:X)(n:Nat)(hn:∀ i,i<n->p i=true->f (T i)=some (.next (T (i+1))))(hf:∀ i,i<n->p i=false->f (T i)=some (.done no))
  (he:f (T n)=some (.done yes)):Ah f (T 0)=some (bif (List.range n).all p then yes else no):=by
 cases hall:(List.range n).all p with
 | true=>
  rw[Ae];exact Xe f T yes n (λi hi=>hn i hi (zzL27.1 hall i (zzL36.2 hi))) he
 | false=>
  rw[Az]
  have hex:∃ i,i<n/\p i=false:=by
   have:¬ ∀ i∈List.range n,p i=true:=λh=>by rw[zzL27.2 h]at hall;cases hall
   simpa using this
  let P:Nat->Prop:=λm=>m<n/\p m=false
  obtain⟨m,hm⟩:=hex
  have key:∀ m,m<n->p m=false->∃ k,k<n/\p k=false/\∀ j,j<k->p j=true:=by
   intro m
   induction m using Nat.strongRecOn with
   | ind m ih=>
    intro h1 h2
    by_cases h:∃ j,j<m/\p j=false
    ·obtain⟨j,hj,hpj⟩:=h;exact ih j hj (by omega) hpj
    ·refine⟨m,h1,h2,λj hj=>?_⟩
     cases hpj:p j with
     | true=>rfl
     | false=>exact(h ⟨j,hj,hpj⟩).elim
  obtain⟨k,hk,hpk,hlt⟩:=key m hm.1 hm.2;rw[GW f T k (λi hi=>hn i (by omega) (hlt i hi))];exact Ai (hf k hk hpk)
theorem all_range{n:Nat}{p:Nat->Bool}:(List.range n).all p=true↔∀ i,i<n->p i=true:=by
 rw[zzL27];exact⟨λh i hi=>h i (zzL36.2 hi),λh i hi=>h i (zzL36.1 hi)⟩
theorem A5(i:Nat):((i:Int)).toNat=i:=Dk i
theorem w1{i:Nat}(h:i<4611686018427387904):Bj ((i:Int)+1)=((i+1:Nat):Int):=by rw[F8 (by omega) (by omega)];omega
theorem F0{i n:Nat}(h:i<n):decide (((i:Nat):Int)<((n:Nat):Int))=true:=by simpa using h
theorem Kq{n:Nat}:decide (((n:Nat):Int)<((n:Nat):Int))=false:=by simp
theorem Je{i n:Nat}(h:i<n):Bw ((i:Nat):Int) n:=Bc h
theorem mP{x:Int}{n:Nat}(h0:0<=x)(h1:x<n):Bw x n:=⟨h0,h1⟩
structure bQ(o:Bh):Prop where
 imm:0<=o.Imm/\o.Imm<18446744073709551616
 args:o.Args.length<=200
theorem UH(x:Int×Int)(n:Int)(h:n=2\/n=4\/n=8\/n=16):Bq [x] n=some (List.replicate n.toNat x):=by
 let d:Int×Int:=(0,0)
 rcases h with rfl|rfl|rfl|rfl
 ·have e:Bq [x] 2=(Ah Cb (1,[x,d])).bind some:=by kernel_rfl
  rw[e,Ap (s':=(2,[x,x])) (by kernel_rfl),Ai (x:=[x,x]) (by kernel_rfl)]
  rfl
 ·have e:Bq [x] 4=(Ah Cb (1,[x,d,d,d])).bind some:=by kernel_rfl
  rw[e,Ap (s':=(2,[x,x,d,d])) (by kernel_rfl),Ap (s':=(4,[x,x,x,x])) (by kernel_rfl),Ai (x:=[x,x,x,x]) (by kernel_rfl)]
  rfl
 ·have e:Bq [x] 8=(Ah Cb (1,[x,d,d,d,d,d,d,d])).bind some:=by kernel_rfl
  rw[e,Ap (s':=(2,[x,x,d,d,d,d,d,d])) (by kernel_rfl),Ap (s':=(4,[x,x,x,x,d,d,d,d])) (by kernel_rfl),Ap (s':=(8,[x,x,x,x,x,x,x,x])) (by kernel_rfl),
   Ai (x:=[x,x,x,x,x,x,x,x]) (by kernel_rfl)]
  rfl
 ·have e:Bq [x] 16=(Ah Cb (1,[x,d,d,d,d,d,d,d,d,d,d,d,d,d,d,d])).bind some:=by kernel_rfl
  rw[e,Ap (s':=(2,[x,x,d,d,d,d,d,d,d,d,d,d,d,d,d,d])) (by kernel_rfl),Ap (s':=(4,[x,x,x,x,d,d,d,d,d,d,d,d,d,d,d,d])) (by kernel_rfl),
   Ap (s':=(8,[x,x,x,x,x,x,x,x,d,d,d,d,d,d,d,d])) (by kernel_rfl),Ap (s':=(16,List.replicate 16 x)) (by kernel_rfl),Ai (x:=List.replicate 16 x) (by kernel_rfl)]
  rfl
theorem dG(l:List (Int×Int)):Fe l=some l:=rfl
theorem EB(o:Bh)(hs:Uy o.Bits o.Lanes=true)(hk:dB o.Kind=true)(hf:X2 o.Kind o.Bits o.Lanes=true):K2 o=some (L3 o):=by
 have hl:=Mk hs;obtain⟨k,b,n,d,args,i⟩:=o;simp only at hs hk hf hl ⊢;rcases kinds k with rfl|rfl|rfl|rfl|rfl|rfl|rfl|rfl|rfl|rfl|rfl|rfl|rfl|rfl|rfl|rfl|rfl|rfl|rfl|rfl|rfl|rfl|rfl|h
 case inr.inr.inr.inr.inr.inr.inr.inr.inr.inr.inr.inr.inr.inr.inr.inr.inr.inr.inr.inr.inr.inl=>
  have h1:n≠1:=by rintro rfl;simp[X2]at hf
  have h4:n=2\/n=4\/n=8\/n=16:=by omega
  unfold K2;rw[show(((21:Int))==21)=true from rfl];simp only[UH _ _ h4,dG,Ar];rcases h4 with rfl|rfl|rfl|rfl<;>rfl
 all_goals first
  | rfl
  | (rw[g8 h]at hk;cases hk)
  | (rcases hl with rfl|rfl|rfl|rfl|rfl<;>first|rfl|(simp[X2]at hf))
theorem LM(o:Bh)(hs:Uy o.Bits o.Lanes=true)(hk:dB o.Kind=true)(hf:X2 o.Kind o.Bits o.Lanes=true)(hl:o.Args.length<=200):Ky o=some (((o.Args.length:Int)==Lk o.Kind o.Lanes)&&o.Args.all valS):=by
 unfold Ky;rw[EB o hs hk hf]
 have hn:0<=Lk o.Kind o.Lanes:=by
  have:=Mk hs;unfold Lk
  cases(o.Kind==0)<;>cases(o.Kind==13 || o.Kind==18 || o.Kind==19)<;>cases(o.Kind==14 || o.Kind==15 || o.Kind==16 || o.Kind==22)<;>cases(o.Kind==20)<;>cases(o.Kind==21)<;>simp<;>omega
 have hlen:((L3 o).length:Int)=Lk o.Kind o.Lanes:=by simp[L3];omega
 simp only[Ar,hlen]
 by_cases he:(o.Args.length:Int)=Lk o.Kind o.Lanes
 ·have e1:((o.Args.length:Int)==Lk o.Kind o.Lanes)=true:=by simpa using he
  have e2:((o.Args.length:Int)!=Lk o.Kind o.Lanes)=false:=by simpa using he
  rw[e1,e2,Az]
  have hloop:=S6 o.Args (0:Int) valS (Gp o) (.inl ()) (.inr false) (λi hi hp=>by
    unfold Gp
    have:decide ((i:Int)<(o.Args.length:Int))=true:=by simpa using hi
    simp only[this,Ae,As (Bc hi),Dk,Qt,Ar,hp,Fi,Az,Dv hi (by omega)]) (λi hi hp=>by
    unfold Gp
    have:decide ((i:Int)<(o.Args.length:Int))=true:=by simpa using hi
    simp only[this,Ae,As (Bc hi),Dk,Qt,Ar,hp,Kf]) (by
    unfold Gp
    simp) o.Args.length 0 (by omega)
  rw[show(0:Int)=((0:Nat):Int) from rfl,hloop,Lm]
  cases o.Args.all valS<;>rfl
 ·have e1:((o.Args.length:Int)==Lk o.Kind o.Lanes)=false:=by simpa using he
  have e2:((o.Args.length:Int)!=Lk o.Kind o.Lanes)=true:=by simpa using he
  rw[e1,e2];rfl
theorem DU{k b n:Int}(hs:Uy b n=true):((Ms k b n).1==0)=(k==17 || k==19):=by
 have hb:(b==0)=false:=by
  have:=width_cases (shape_width hs);simp;omega
 unfold Ms
 cases(k==17 || k==19)<;>cases(k==10 || k==11 || k==12)<;>cases(k==22)<;>simp_all
theorem LN(o:Bh)(hs:Uy o.Bits o.Lanes=true):Kz o=some (dstS o.Kind o.Dst):=by
 unfold Kz;simp only[DZ,Ar,DU hs,Qt,dstS]
 cases(o.Kind==17 || o.Kind==19)<;>rfl
theorem DY(o:Bh)(ho:bQ o):Lx o=some (Ht o):=by
 unfold Lx Ht;simp only[OV,TM,EA,Ar]
 cases hs:Uy o.Bits o.Lanes with
 | false=>cases dB o.Kind<;>rfl
 | true=>
  have hl:=Mk hs
  cases hk:dB o.Kind with
  | false=>rfl
  | true=>
   rw[LO o (shape_width hs) (by omega) ho.imm];simp only[LN o hs]
   cases hf:X2 o.Kind o.Bits o.Lanes with
   | false=>rfl
   | true=>
    rw[LM o hs hk hf ho.args]
    generalize ifitS o.Kind o.Bits o.Lanes o.Imm=p
    generalize ((o.Args.length:Int)==Lk o.Kind o.Lanes)=q
    generalize o.Args.all valS=r
    generalize dstS o.Kind o.Dst=s
    cases p<;>cases q<;>cases r<;>cases s<;>rfl
theorem Xj{o:Bh}(h:Ht o=true):Uy o.Bits o.Lanes=true/\dB o.Kind=true/\X2 o.Kind o.Bits o.Lanes=true/\ifitS o.Kind o.Bits o.Lanes o.Imm=true/\(o.Args.length:Int)=Lk o.Kind o.Lanes/\o.Args.all valS=true/\dstS o.Kind o.Dst=true:=by
 simp only[Ht,A4,zzL66]at h;exact⟨h.1.1,h.1.2.1.1.1,h.1.2.1.1.2,h.1.2.1.2,h.1.2.2,h.2.1,h.2.2⟩
theorem TN(o:Bh)(ho:bQ o):Kx o=some (bif Ht o then L3 o else[]):=by
 unfold Kx;rw[DY o ho];simp only[Ar]
 cases hm:Ht o with
 | false=>rfl
 | true=>
  obtain⟨h1,h2,h3,_⟩:=Xj hm;simp only[EB o h1 h2 h3,Ar]
  rfl
theorem TL(o:Bh)(ho:bQ o):Kw o=some (bif Ht o then Ms o.Kind o.Bits o.Lanes else(0,0)):=by
 unfold Kw;rw[DY o ho];simp only[Ar,DZ]
 cases Ht o<;>rfl
def numB(n:Int):Bool:=decide (0<=n)&&decide (n<=2147483647)
def Mf(l:List Int):Bool:=l.all numB&&decide (l.length<=64)
def HJ(p:Em):Bool:=numB p.Bits&&numB p.Dst&&Mf p.From&&Mf p.Args
def NE(o:Bh):Bool:=numB o.Kind&&numB o.Bits&&numB o.Lanes&&numB o.Dst&&Mf o.Args
def OL(e:Ge):Bool:=numB e.Kind&&numB e.Arg&&Mf e.To
def blockB(b:Ag):Bool:=b.Phis.all HJ&&b.Ops.all NE&&OL b.End
def sizeB(b:Ag):Nat:=b.Phis.length+b.Ops.length+1
def O7(f:Aa):Nat:=(f.Blocks.map sizeB).sum
def sizeW(f:Aa):Int:=Bj (O7 f)
def Ra(f:Aa):Bool:=decide (1<=f.Blocks.length)&&decide (f.Blocks.length<=64)&&decide (f.Params.length<=16)&&Mf f.Params&&numB f.Ret&&decide (sizeW f<=512)&&f.Blocks.all blockB
def ZA(p:Em):Nat:=1+p.From.length+p.Args.length
def LH(o:Bh):Nat:=1+o.Args.length
def YY(b:Ag):Nat:=1+b.End.To.length+(b.Phis.map ZA).sum+(b.Ops.map LH).sum
def YZ(f:Aa):Nat:=f.Params.length+(f.Blocks.map YY).sum
theorem I8:maxLen=9223372036854775807:=rfl
structure fJ(f:Aa):Prop where
 params:f.Params.length<=maxLen
 blocks:f.Blocks.length<=maxLen
 block:∀ b∈f.Blocks,b.Phis.length<=maxLen/\b.Ops.length<=maxLen/\b.End.To.length<=maxLen
 phi:∀ b∈f.Blocks,∀ p∈b.Phis,p.From.length<=maxLen/\p.Args.length<=maxLen
 op:∀ b∈f.Blocks,∀ o∈b.Ops,o.Args.length<=maxLen/\0<=o.Imm/\o.Imm<18446744073709551616
theorem CX{n:Nat}(h:n<9223372036854775808):Bj (n:Int)=n:=F8 (by omega) (by omega)
theorem Iy{i n:Nat}(h:i<n)(hn:n<=maxLen):Bj ((i:Int)+1)=((i+1:Nat):Int):=by rw[I8]at hn;rw[show((i:Int)+1)=((i+1:Nat):Int) by omega,CX (by omega)]
theorem UP(f:Aa)(hf:fJ f):∃ b,Dr f=some b:=by
 have h3:∃ x,Ah (Br f) ((f.Params.length:Int),((0:Nat):Int))=some x:=by
  refine Qv f.Blocks.length (Br f) (λn i hi=>?_) (λn=>?_) f.Blocks.length 0 _ (Fj _)
  ·have hmem:=getD_mem (d:=(default:Ag)) hi;obtain⟨b1,b2,_⟩:=hf.block _ hmem;have hI:Bw (i:Int) f.Blocks.length:=Bc hi;unfold Br
   cases hc:(bif decide ((i:Int)<(f.Blocks.length:Int)) then decide (n<=20000) else false) with
   | false=>right;simp only[hc,Az];exact⟨_,rfl⟩
   | true=>
    left
    simp only[hc,Ae,As hI]
    obtain⟨x1,h1⟩:=Qv (f.Blocks.getD i default).Phis.length (B6 f i) (λn j hj=>by
      unfold B6;simp only[As hI,Dk]
      cases hc:(bif decide ((j:Int)<((f.Blocks.getD i default).Phis.length:Int)) then decide (n<=20000) else false) with
      | false=>right;exact⟨_,rfl⟩
      | true=>left;simp only[Ae,As (Bc hj),Iy hj b1];exact⟨_,rfl⟩) (λn=>by
      unfold B6;simp only[As hI,Dk]
      have:decide (((f.Blocks.getD i default).Phis.length:Int)<((f.Blocks.getD i default).Phis.length:Int))=false:=by simp
      simp only[this,Az];exact⟨_,rfl⟩) _ 0 (Bj (Bj (n+1)+((f.Blocks.getD i default).End.To.length:Int))) (Fj _)
    obtain⟨x2,h2⟩:=Qv (f.Blocks.getD i default).Ops.length (B7 f i) (λn j hj=>by
      unfold B7;simp only[As hI,Dk]
      cases hc:(bif decide ((j:Int)<((f.Blocks.getD i default).Ops.length:Int)) then decide (n<=20000) else false) with
      | false=>right;exact⟨_,rfl⟩
      | true=>left;simp only[Ae,As (Bc hj),Iy hj b2];exact⟨_,rfl⟩) (λn=>by
      unfold B7;simp only[As hI,Dk]
      have:decide (((f.Blocks.getD i default).Ops.length:Int)<((f.Blocks.getD i default).Ops.length:Int))=false:=by simp
      simp only[this,Az];exact⟨_,rfl⟩) _ 0 x1 (Fj _)
    rw[show((0:Nat):Int)=0 from rfl]at h1 h2;simp only[Dk,h1,h2,Ar,Iy hi hf.blocks];exact⟨_,rfl⟩
  ·unfold Br
   have:decide ((f.Blocks.length:Int)<(f.Blocks.length:Int))=false:=by simp
   simp only[this,Az];exact⟨_,rfl⟩
 obtain⟨x,hx⟩:=h3;unfold Dr;rw[show((0:Nat):Int)=0 from rfl]at hx;rw[hx];exact⟨_,rfl⟩
theorem QQ(f:Aa)(hf:fJ f)(h0:f.Params.length<=64)(hb:∀ b∈f.Blocks,b.End.To.length<=64/\(∀ p∈b.Phis,p.From.length<=64/\p.Args.length<=64)/\∀ o∈b.Ops,o.Args.length<=64):Dr f=some (decide (YZ f<=20000)):=by
 have h3:=Xf f.Blocks (default:Ag) YY 20000 (Br f) (λn i hi hn=>by
   have hmem:=getD_mem (d:=(default:Ag)) hi;obtain⟨b1,b2,b3⟩:=hf.block _ hmem;obtain⟨hTo,hPh,hOp⟩:=hb _ hmem;have hI1:Bw (i:Int) f.Blocks.length:=Bc hi
   have l1:=Xf (f.Blocks.getD i default).Phis (default:Em) ZA 20000 (B6 f i) (λn j hj hn=>by
     have hm:=getD_mem (d:=(default:Em)) hj;obtain⟨p1,p2⟩:=hPh _ hm
     have e1:decide ((j:Int)<((f.Blocks.getD i default).Phis.length:Int))=true:=by simpa using hj
     have e2:decide ((n:Int)<=20000)=true:=by simp;omega
     refine⟨n+ZA ((f.Blocks.getD i default).Phis.getD j default),?_,λ_=>rfl,λh=>h⟩;unfold B6;simp only[As hI1,Dk,e1,e2,Ae,As (Bc hj),Iy hj b1]
     congr 3
     rw[F8 (n:=(n:Int)+1) (by omega) (by omega),F8 (n:=(n:Int)+1+_) (by omega) (by omega),F8 (by omega) (by omega)];simp only[ZA]
     omega) (λn j hj hd=>by
     unfold B6;simp only[As hI1,Dk]
     have:(bif decide ((j:Int)<((f.Blocks.getD i default).Phis.length:Int)) then decide ((n:Int)<=20000) else false)=false:=by
      rcases hd with rfl|h
      ·simp
      ·simp;omega
     rw[this];rfl)
   have l2:=Xf (f.Blocks.getD i default).Ops (default:Bh) LH 20000 (B7 f i) (λn j hj hn=>by
     have hm:=getD_mem (d:=(default:Bh)) hj;have p1:=hOp _ hm
     have e1:decide ((j:Int)<((f.Blocks.getD i default).Ops.length:Int))=true:=by simpa using hj
     have e2:decide ((n:Int)<=20000)=true:=by simp;omega
     refine⟨n+LH ((f.Blocks.getD i default).Ops.getD j default),?_,λ_=>rfl,λh=>h⟩;unfold B7;simp only[As hI1,Dk,e1,e2,Ae,As (Bc hj),Iy hj b2]
     congr 3
     rw[F8 (n:=(n:Int)+1) (by omega) (by omega),F8 (by omega) (by omega)];simp only[LH]
     omega) (λn j hj hd=>by
     unfold B7;simp only[As hI1,Dk]
     have:(bif decide ((j:Int)<((f.Blocks.getD i default).Ops.length:Int)) then decide ((n:Int)<=20000) else false)=false:=by
      rcases hd with rfl|h
      ·simp
      ·simp;omega
     rw[this];rfl)
   have e1:decide ((i:Int)<(f.Blocks.length:Int))=true:=by simpa using hi
   have e2:decide ((n:Int)<=20000)=true:=by simp;omega
   obtain⟨m1,q1,q2,q3⟩:=l1 _ 0 (n+1+(f.Blocks.getD i default).End.To.length) (Fj _);obtain⟨m2,q4,q5,q6⟩:=l2 _ 0 m1 (Fj _);rw[Lm]at q2 q3 q5 q6;refine⟨m2,?_,λhle=>?_,λhle=>?_⟩
   ·unfold Br;simp only[e1,e2,Ae,As hI1,Dk,Iy hi hf.blocks];rw[F8 (n:=(n:Int)+1) (by omega) (by omega),F8 (by omega) (by omega),show(n:Int)+1+((f.Blocks.getD i default).End.To.length:Int)=((n+1+(f.Blocks.getD i default).End.To.length:Nat):Int) by omega];rw[show((0:Nat):Int)=0 from rfl]at q1 q4;rw[q1,Ar,q4,Ar]
   ·simp only[YY]at hle ⊢;have:=q2 (by omega);rw[q5 (by omega)];omega
   ·simp only[YY];have h6:=q6 hle;have h3:=q3 (by omega);have:=q2 h3
    omega) (λn i hi hd=>by
   unfold Br
   have:(bif decide ((i:Int)<(f.Blocks.length:Int)) then decide ((n:Int)<=20000) else false)=false:=by
    rcases hd with rfl|h
    ·simp
    ·simp;omega
   simp only[this,Az]) f.Blocks.length 0 f.Params.length (Fj _)
 obtain⟨m,h1,h2,h4⟩:=h3;rw[Lm]at h2 h4;unfold Dr;rw[show((0:Nat):Int)=0 from rfl]at h1;rw[h1,Ar]
 congr 1
 apply zzL106.2
 simp only[YZ]
 constructor
 ·intro h;exact h4 (by omega)
 ·intro h;have:=h2 h;omega
theorem dT{n:Int}:numB n=true↔0<=n/\n<=2147483647:=by simp[numB]
theorem listB_iff{l:List Int}:Mf l=true↔cx l/\l.length<=64:=by
 simp[Mf,cx,dT]
def mh(n:Int):Prop:=0<=n/\n<18446744073709551616
structure o5(b:Ag):Prop where
 may:blockB b=true
 phis:b.Phis.length<=512
 ops:b.Ops.length<=512
 imm:∀ o∈b.Ops,mh o.Imm
structure OkF(f:Aa):Prop where
 params:Mf f.Params=true
 few:f.Params.length<=16
 ret:numB f.Ret=true
 blocks:f.Blocks.length<=64
 block:∀ b∈f.Blocks,o5 b
theorem blockB_iff{b:Ag}:blockB b=true↔(∀ p∈b.Phis,HJ p=true)/\(∀ o∈b.Ops,NE o=true)/\OL b.End=true:=by
 simp[blockB,and_assoc]
theorem lB{α:Type}(l:List α)(g:α->Nat)(B:Nat)(h:∀ a∈l,g a<=B):(l.map g).sum<=l.length*B:=by
 induction l with
 | nil=>simp
 | cons a l ih=>
  have h1:=h a (by simp);have h2:=ih (λb hb=>h b (by simp[hb]));rw[Bs,Vt,M5,D5];omega
theorem eH{α:Type}(l:List α)(g k:α->Nat)(h:∀ a∈l,g a<=k a):(l.map g).sum<=(l.map k).sum:=by
 induction l with
 | nil=>simp
 | cons a l ih=>
  have h1:=h a (by simp);have h2:=ih (λb hb=>h b (by simp[hb]));rw[Bs,Vt,Bs,Vt];omega
theorem ED{α:Type}(l:List α)(g:α->Nat)(h:∀ a∈l,1<=g a):l.length<=(l.map g).sum:=by
 induction l with
 | nil=>simp
 | cons a l ih=>
  have h1:=h a (by simp);have h2:=ih (λb hb=>h b (by simp[hb]));rw[Bs,Vt,M5];omega
theorem TQ{α:Type}{l:List α}{a:α}(g:α->Nat)(h:a∈l):g a<=(l.map g).sum:=by
 induction l with
 | nil=>cases h
 | cons b l ih=>
  rw[Bs,Vt];rcases zzL24.1 h with rfl|h
  ·omega
  ·have:=ih h;omega
theorem OkF.size{f:Aa}(h:OkF f):O7 f<=65600/\sizeW f=O7 f:=by
 have:O7 f<=f.Blocks.length*1025:=lB _ _ _ λb hb=>by
  have h1:=(h.block b hb).phis;have h2:=(h.block b hb).ops;simp only[sizeB];omega
 have h2:=h.blocks
 have h3:O7 f<=65600:=by omega
 exact⟨h3,CX (by omega)⟩
theorem Y1{f:Aa}(h:Ra f=true):1<=f.Blocks.length/\f.Blocks.length<=64/\f.Params.length<=16/\Mf f.Params=true/\numB f.Ret=true/\sizeW f<=512/\∀ b∈f.Blocks,blockB b=true:=by
 simp only[Ra,A4,D0,zzL27]at h;exact⟨h.1.1.1.1.1.1,h.1.1.1.1.1.2,h.1.1.1.1.2,h.1.1.1.2,h.1.1.2,h.1.2,h.2⟩
theorem ZP{f:Aa}(h:Ra f=true):f.Params.length<=64/\∀ b∈f.Blocks,b.End.To.length<=64/\(∀ p∈b.Phis,p.From.length<=64/\p.Args.length<=64)/\∀ o∈b.Ops,o.Args.length<=64:=by
 obtain⟨_,_,h3,_,_,_,h7⟩:=Y1 h;refine⟨by omega,λb hb=>?_⟩;obtain⟨q1,q2,q3⟩:=blockB_iff.1 (h7 b hb);simp only[OL,A4]at q3;refine⟨(listB_iff.1 q3.2).2,λp hp=>?_,λo ho=>?_⟩
 ·have:=q1 p hp;simp only[HJ,A4]at this;exact⟨(listB_iff.1 this.1.2).2,(listB_iff.1 this.2).2⟩
 ·have:=q2 o ho;simp only[NE,A4]at this;exact(listB_iff.1 this.2).2
theorem kr{f:Aa}(hf:fJ f)(h:Ra f=true)(hs:YZ f<=20000):OkF f/\O7 f<=512:=by
 obtain⟨h1,h2,h3,h4,h5,h6,h7⟩:=Y1 h
 have hle:O7 f<=YZ f:=by
  have:O7 f<=(f.Blocks.map YY).sum:=eH _ _ _ λb hb=>by
   have q1:b.Phis.length<=(b.Phis.map ZA).sum:=ED _ _ λp hp=>by simp only[ZA];omega
   have q2:b.Ops.length<=(b.Ops.map LH).sum:=ED _ _ λp hp=>by simp only[LH];omega
   simp only[sizeB,YY];omega
  simp only[YZ];omega
 have hw:sizeW f=O7 f:=CX (by omega)
 have h512:O7 f<=512:=by omega
 refine⟨⟨h4,h3,h5,h2,λb hb=>?_⟩,h512⟩;have hb512:sizeB b<=O7 f:=TQ sizeB hb;simp only[sizeB]at hb512;exact⟨h7 b hb,by omega,by omega,λo ho=>(hf.op b hb o ho).2⟩
theorem QR(f:Aa)(hf:fJ f):∃ sm,Dr f=some sm/\(sm=true->Ra f=true->OkF f/\O7 f<=512/\1<=f.Blocks.length):=by
 obtain⟨sm,h⟩:=UP f hf;refine⟨sm,h,λh1 h2=>?_⟩;obtain⟨q1,q2⟩:=ZP h2;rw[QQ f hf q1 q2]at h;subst h1;obtain⟨r1,r2⟩:=kr hf h2 (by simpa using OI h);exact⟨r1,r2,(Y1 h2).1⟩
def LU(l:Int):Int:=bif l==0 then 17 else bif l==1 then 20 else 22
def G5(l:Int)(o:Bh):Bool:=Ht o&&!decide (LU l<o.Kind)&&!(decide (l<2)&&decide (1<o.Lanes))
def Hl(l:Int)(b:Ag):Bool:=(b.Phis.all λp=>Dn p.Bits)&&b.Ops.all (G5 l)
def Pq(f:Aa)(l:Int):Bool:=f.Params.all Dn&&f.Blocks.all (Hl l)&&Dn f.Ret
theorem k4{f:Aa}(hf:OkF f){b:Ag}(hb:b∈f.Blocks){o:Bh}(ho:o∈b.Ops):bQ o:=by
 have h1:=hf.block b hb;have h2:=(blockB_iff.1 h1.may).2.1 o ho;simp only[NE,A4]at h2;exact⟨⟨(h1.imm o ho).1,(h1.imm o ho).2⟩,by have:=(listB_iff.1 h2.2).2;omega⟩
theorem XF:room=1099511627776:=rfl
theorem J9{β:Type}(C:Nat)(E:Nat->List β):∀ l:List Nat,(∀ i∈l,(E i).length<=C)->(l.flatMap E).length<=l.length*C
 | [],_=>by simp
 | a::l,h=>by
  have h1:=h a (by simp);have h2:=J9 C E l (λi hi=>h i (by simp[hi]));rw[T3,Es,M5,D5];omega
def Ih(l:List TDef)(v:Int):Int:=match l.findIdx? (λd=>d.V==v) with|some i=>(i:Int)|none=>-1
def Gx(o:Bh):Int×Int:=bif Ht o then Ms o.Kind o.Bits o.Lanes else(0,0)
def E3(o:Bh):List (Int×Int):=bif Ht o then L3 o else[]
def Lh(f:Aa):List TDef:=(List.range f.Params.length).flatMap λ(i:Nat)=>[⟨(i:Int)+1,-1,0,(f.Params.getD i 0,1)⟩]
def Ue(b:Ag)(i:Nat):List TDef:=(List.range b.Phis.length).flatMap λ(k:Nat)=>[⟨(b.Phis.getD k default).Dst,i,-1,((b.Phis.getD k default).Bits,1)⟩]
def Ys(b:Ag)(i:Nat):List TDef:=(List.range b.Ops.length).flatMap λ(k:Nat)=>bif decide (0<(Gx (b.Ops.getD k default)).1) then[⟨(b.Ops.getD k default).Dst,i,k,Gx (b.Ops.getD k default)⟩] else[]
def J8(b:Ag)(i:Nat):List TDef:=Ue b i++Ys b i
def Ax(f:Aa):List TDef:=Lh f++(List.range f.Blocks.length).flatMap λi=>J8 (f.Blocks.getD i default) i
theorem IC(f:Aa):(Lh f).length=f.Params.length:=by
 have h:∀ l:List Nat,(l.map λ_=>1).sum=l.length:=λl=>by induction l with|nil=>rfl|cons a l ih=>simp[ih];omega
 simp[Lh,List.length_flatMap,h]
def La(p:Em):List Mp:=(List.range p.Args.length).flatMap λ(j:Nat)=>[⟨p.Args.getD j 0,p.From.getD j 0,1000,(p.Bits,1)⟩]
def Ro(b:Ag):List Mp:=(List.range b.Phis.length).flatMap λ(k:Nat)=>La (b.Phis.getD k default)
def Mb(o:Bh)(i k:Nat):List Mp:=(List.range (E3 o).length).flatMap λ(j:Nat)=>[⟨o.Args.getD j 0,i,k,(E3 o).getD j (0,0)⟩]
def Rn(b:Ag)(i:Nat):List Mp:=(List.range b.Ops.length).flatMap λ(k:Nat)=>Mb (b.Ops.getD k default) i k
def Uu(f:Aa)(b:Ag)(i:Nat):List Mp:=(bif b.End.Kind==0 then[⟨b.End.Arg,i,1000,(f.Ret,1)⟩] else[])++(bif b.End.Kind==2 then[⟨b.End.Arg,i,1000,(1,1)⟩] else[])
def Tu(f:Aa)(b:Ag)(i:Nat):List Mp:=Ro b++Rn b i++Uu f b i
def Dz(f:Aa):List Mp:=(List.range f.Blocks.length).flatMap λ(i:Nat)=>Tu f (f.Blocks.getD i default) i
theorem FU{o:Bh}(h:o.Args.length<=64):(E3 o).length<=64/\(E3 o).length<=o.Args.length:=by
 unfold E3
 cases hm:Ht o with
 | false=>simp
 | true=>
  simp only[Ae]
  have:((o.Args.length:Int)==Lk o.Kind o.Lanes)=true:=by
   simp only[Ht,A4]at hm;exact hm.1.2.2
  have h2:(o.Args.length:Int)=Lk o.Kind o.Lanes:=by simpa using this
  have h3:(L3 o).length=o.Args.length:=by rw[L3,M6,Vo,<- h2,Dk]
  omega
theorem de{f:Aa}(hf:OkF f){b:Ag}(hb:b∈f.Blocks){p:Em}(hp:p∈b.Phis):p.From.length<=64/\p.Args.length<=64:=by
 have:=(blockB_iff.1 (hf.block b hb).may).1 p hp;simp only[HJ,A4]at this;exact⟨(listB_iff.1 this.1.2).2,(listB_iff.1 this.2).2⟩
theorem je{f:Aa}(hf:OkF f){b:Ag}(hb:b∈f.Blocks){o:Bh}(ho:o∈b.Ops):o.Args.length<=64:=by
 have:=(blockB_iff.1 (hf.block b hb).may).2.1 o ho;simp only[NE,A4]at this;exact(listB_iff.1 this.2).2
theorem MO(p:Em):(La p).length<=p.Args.length:=by
 have:=J9 1 (λ(j:Nat)=>[(⟨p.Args.getD j 0,p.From.getD j 0,1000,(p.Bits,1)⟩:Mp)]) (List.range p.Args.length) (λ_ _=>zzL8 _)
 simpa [La] using this
theorem RA(o:Bh)(i k:Nat):(Mb o i k).length<=(E3 o).length:=by
 have:=J9 1 (λ(j:Nat)=>[(⟨o.Args.getD j 0,i,k,(E3 o).getD j (0,0)⟩:Mp)]) (List.range (E3 o).length) (λ_ _=>zzL8 _)
 simpa [Mb] using this
theorem RB{f:Aa}(hf:OkF f){b:Ag}(hb:b∈f.Blocks):(Ro b).length<=32768:=by
 have:=J9 64 (λ(k:Nat)=>La (b.Phis.getD k default)) (List.range b.Phis.length) (λk hk=>by
  have h1:=MO (b.Phis.getD k default);have h2:=(de hf hb (getD_mem (d:=(default:Em)) (by simpa using hk))).2
  omega)
 have h3:=(hf.block b hb).phis;rw[Vo]at this;have h4:b.Phis.length*64<=512*64:=Dp _ h3;rw[Ro];omega
theorem UT{f:Aa}(hf:OkF f){b:Ag}(hb:b∈f.Blocks)(i:Nat):(Rn b i).length<=32768:=by
 have:=J9 64 (λ(k:Nat)=>Mb (b.Ops.getD k default) i k) (List.range b.Ops.length) (λk hk=>by
  have h1:=RA (b.Ops.getD k default) i k;have h2:=(FU (je hf hb (getD_mem (d:=(default:Bh)) (by simpa using hk)))).1
  omega)
 have h3:=(hf.block b hb).ops;rw[Vo]at this;have h4:b.Ops.length*64<=512*64:=Dp _ h3;rw[Rn];omega
theorem QZ(f:Aa)(b:Ag)(i:Nat):(Uu f b i).length<=2:=by
 unfold Uu
 cases b.End.Kind==0<;>cases b.End.Kind==2<;>simp
theorem ay{f:Aa}(hf:OkF f){i:Nat}(hi:i<f.Blocks.length):(Tu f (f.Blocks.getD i default) i).length<=70000:=by
 have hmem:=getD_mem (d:=(default:Ag)) hi;have h1:=RB hf hmem;have h2:=UT hf hmem i;have h3:=QZ f (f.Blocks.getD i default) i;rw[Tu,Es,Es];omega
theorem JT{f:Aa}(hf:OkF f):(Dz f).length<=4480000:=by
 have h1:=J9 70000 (λ(i:Nat)=>Tu f (f.Blocks.getD i default) i) (List.range f.Blocks.length) (λi hi=>ay hf (by simpa using hi));have h4:=hf.blocks;rw[Vo]at h1;have:f.Blocks.length*70000<=64*70000:=Dp _ h4;rw[Dz];omega
def iW(f:Aa):Prop:=∀ b∈f.Blocks,∀ p∈b.Phis,p.Args.length<=p.From.length
def dV(n:Nat)(l:List Int)(i:Nat):Bool:=decide ((if i=0 then(-1:Int) else l.getD (i-1) 0)<l.getD i 0)&&(decide (0<=l.getD i 0)&&decide (l.getD i 0<n))
def fU(n:Nat)(l:List Int):Bool:=(List.range l.length).all (dV n l)
def Ly(L:List (List Int)):Bool:=decide (1<=L.length)&&decide (L.length<=64)&&(List.range L.length).all λi=>fU L.length (L.getD i [])
def AK(L:List (List Int))(k i:Nat):Bool:=(L.getD k []).contains (i:Int)
def J5(L:List (List Int))(m i:Nat):List Int:=((List.range m).filter λk=>AK L k i).map Int.ofNat
def Fg(L:List (List Int)):List (List Int):=(List.range L.length).map (J5 L L.length)
theorem Px(a n:Int):Gb a n=some (decide (0<=a)&&decide (a<n)):=by
 unfold Gb
 cases decide ((0:Int)<=a)<;>rfl
theorem IV(n:Nat):Hx (n:Int)=some (decide (1<=n)&&decide (n<=64)):=by
 unfold Hx
 have h1:decide ((1:Int)<=(n:Int))=decide (1<=n):=by apply zzL106.2;omega
 have h2:decide ((n:Int)<=(64:Int))=decide (n<=64):=by apply zzL106.2;omega
 rw[h1,h2]
 cases decide (1<=n)<;>rfl
theorem FT(L:List (List Int))(i:Nat)(hl:(L.getD i []).length<4611686018427387904) :
  Ah (Cp L (i:Int)) ((-1:Int),(0:Int))=some (bif fU L.length (L.getD i []) then .inl () else .inr false):=by
 refine Lt (Cp L (i:Int)) (λj=>((if j=0 then(-1:Int) else(L.getD i []).getD (j-1) 0),((j:Nat):Int))) (dV L.length (L.getD i [])) (.inl ()) (.inr false) _ (λj hj hp=>?_) (λj hj hp=>?_) ?_
 ·unfold dV at hp;simp only[A4,D0]at hp;obtain⟨h1,h2,h3⟩:=hp
  show Cp L (i:Int) (_,_)=_
  unfold Cp;simp only[A5,F0 hj,Ae,Px];rw[Ad (Je hj)]
  have e1:decide ((L.getD i []).getD j 0<=(if j=0 then(-1:Int) else(L.getD i []).getD (j-1) 0))=false:=by simpa using h1
  simp only[e1,Cw h2,Cw h3,Vr,Qc,Ae,Az,Ar,Fi];rw[w1 (show j<4611686018427387904 by omega)]
  simp
 ·show Cp L (i:Int) (_,_)=_
  unfold Cp;simp only[A5,F0 hj,Ae,Px];rw[Ad (Je hj)]
  cases h1:decide ((L.getD i []).getD j 0<=(if j=0 then(-1:Int) else(L.getD i []).getD (j-1) 0)) with
  | true=>simp only[Ae,show((true==false)=false) from rfl,Az,Ar]
  | false=>
   have h1':decide ((if j=0 then(-1:Int) else(L.getD i []).getD (j-1) 0)<(L.getD i []).getD j 0)=true:=by simpa using h1
   unfold dV at hp;rw[h1',Hj]at hp;simp only[Qc,Ae,Az,Ar,hp,Kf]
 ·show Cp L (i:Int) (_,_)=_
  unfold Cp;simp only[A5,Kq,Az]
def Fits(L:List (List Int)):Prop:=L.length<4611686018427387904/\∀ l∈L,l.length<4611686018427387904
theorem Fits.at{L:List (List Int)}(h:Fits L)(i:Nat):(L.getD i []).length<4611686018427387904:=by
 by_cases hi:i<L.length
 ·exact h.2 _ (getD_mem hi)
 ·rw[Qa,List.getElem?_eq_none (by omega)];simp
theorem ZO(L:List (List Int))(h:Fits L):Jx L=some (Ly L):=by
 unfold Jx;rw[IV,Ar];unfold Ly
 cases hc:(decide (1<=L.length)&&decide (L.length<=64)) with
 | false=>rfl
 | true=>
  simp only[Fi,Az,Hj];have:=Lt (Cq L) (λj=>((j:Nat):Int)) (λi=>fU L.length (L.getD i [])) (.inl ()) (.inr false) L.length (λj hj hp=>?_) (λj hj hp=>?_) ?_
  ·rw[show Ah (Cq L) (0:Int)=_ from this]
   cases(List.range L.length).all λi=>fU L.length (L.getD i [])<;>rfl
  ·show Cq L (j:Int)=_
   unfold Cq;simp only[F0 hj,Ae];rw[Ad (Je hj),FT L j (h.at j),hp];simp only[Ae,Ar,w1 (show j<4611686018427387904 by have:=h.1;omega)]
  ·show Cq L (j:Int)=_
   unfold Cq;simp only[F0 hj,Ae];rw[Ad (Je hj),FT L j (h.at j),hp]
   rfl
  ·show Cq L _=_
   unfold Cq;simp only[Kq,Az]
theorem Qs{α:Type}{n i:Nat}{g:Nat->α}{d:α}(h:i<n):((List.range n).map g).getD i d=g i:=by simp[List.getD,h]
theorem MM{α:Type}{n i:Nat}{g:Nat->α}{x:α}:((List.range n).map g).set i x=(List.range n).map λj=>if j=i then x else g j:=by
 apply List.ext_getElem?
 intro j;rw[List.getElem?_set]
 by_cases hj:j<n
 ·by_cases hij:i=j
  ·subst hij;simp[hj]
  ·simp[hij,hj,Hg hij]
 ·simp[hj];intro h;omega
theorem Py{α:Type}{n:Nat}{g h:Nat->α}(H:∀ i,i<n->g i=h i):(List.range n).map g=(List.range n).map h:=MR λi hi=>H i (zzL36.1 hi)
theorem mayS_iff{L:List (List Int)}:Ly L=true↔1<=L.length/\L.length<=64/\∀ i,i<L.length->fU L.length (L.getD i [])=true:=by
 unfold Ly;rw[A4,A4,all_range];simp only[D0];exact⟨λ⟨⟨a,b⟩,c⟩=>⟨a,b,c⟩,λ⟨a,b,c⟩=>⟨⟨a,b⟩,c⟩⟩
theorem okL_iff{n:Nat}{l:List Int}:fU n l=true↔∀ i,i<l.length->(0<=l.getD i 0/\l.getD i 0<n)/\(0<i->l.getD (i-1) 0<l.getD i 0):=by
 unfold fU;rw[all_range];unfold dV;simp only[A4,D0]
 constructor
 ·intro h i hi;obtain⟨h1,h2,h3⟩:=h i hi;refine⟨⟨h2,h3⟩,λhp=>?_⟩;rwa[if_neg (by omega)]at h1
 ·intro h i hi;obtain⟨⟨h2,h3⟩,h1⟩:=h i hi;refine⟨?_,h2,h3⟩
  by_cases hz:i=0
  ·rw[if_pos hz];omega
  ·rw[if_neg hz];exact h1 (by omega)
section
variable {n:Nat} {l:List Int} (h:fU n l=true)
include h
theorem Y5{i:Nat}(hi:i<l.length):0<=l.getD i 0/\l.getD i 0<n:=(okL_iff.1 h i hi).1
theorem dW{i j:Nat}(hij:i<j)(hj:j<l.length):l.getD i 0<l.getD j 0:=by
 induction j with
 | zero=>omega
 | succ j ih=>
  have h1:=(okL_iff.1 h (j+1) hj).2 (by omega);rw[show j+1-1=j by omega]at h1
  by_cases he:i=j
  ·rw[he];exact h1
  ·exact Int.lt_trans (ih (by omega) (by omega)) h1
theorem ku{i:Nat}(hi:i<l.length):(i:Int)<=l.getD i 0:=by
 induction i with
 | zero=>exact(Y5 h hi).1
 | succ i ih=>
  have:=dW h (show i<i+1 by omega) hi;have:=ih (by omega);omega
theorem CP:l.length<=n:=by
 by_cases hz:l.length=0
 ·omega
 ·have h1:=ku h (show l.length-1<l.length by omega);have h2:=(Y5 h (show l.length-1<l.length by omega)).2;omega
theorem WV{x:Int}(hx:x∈l):0<=x/\x<n:=by
 obtain⟨i,hi,rfl⟩:=Ll hx;have:=Y5 h hi;rwa[Ab _ _ _ hi]at this
end
theorem kv{n:Nat}{l:List Int}(h1:∀ x∈l,0<=x/\x<n)(h2:l.Pairwise (·<·)):fU n l=true:=by
 rw[okL_iff];intro i hi;rw[Ab _ _ _ hi];refine⟨h1 _ (Yb hi),λhp=>?_⟩;rw[Ab _ _ _ (show i-1<l.length by omega)];exact(zzL98.1 h2) _ _ _ _ (by omega)
theorem Y0{L:List (List Int)}(h:Ly L=true):L.length<=64/\∀ l∈L,l.length<=64:=by
 obtain⟨h1,h2,h3⟩:=mayS_iff.1 h;refine⟨h2,λl hl=>?_⟩;obtain⟨i,hi,rfl⟩:=Ll hl;have:=CP (h3 i hi);rw[Ab _ _ _ hi]at this;omega
theorem gq{L:List (List Int)}(h:L.length<=1000/\∀ l∈L,l.length<=1000):Fits L:=⟨by omega,λl hl=>by have:=h.2 l hl;omega⟩
theorem QF(L:List (List Int))(k i:Nat):J5 L (k+1) i=J5 L k i++(if AK L k i=true then[(k:Int)] else[]):=by
 unfold J5;rw[Zw,MS,Zv]
 congr 1
 cases hg:AK L k i<;>simp[hg]
theorem Wd(L:List (List Int))(k i:Nat):(J5 L k i).length<=k:=by
 unfold J5;rw[M6];have:=List.length_filter_le (λk=>AK L k i) (List.range k)
 simpa using this
theorem IH{l:List Int}{j:Nat}(hj:j<l.length):l.take (j+1)=l.take j++[l.getD j 0]:=by
 rw[Ab _ _ _ hj,VC hj]
def Pd(L:List (List Int))(k j i:Nat):Bool:=((L.getD k []).take j).contains (i:Int)
def Iv(L:List (List Int))(k j:Nat):List (List Int):=(List.range L.length).map λi=>J5 L k i++(if Pd L k j i=true then[(k:Int)] else[])
theorem OD(L:List (List Int))(h:Ly L=true)(k j:Nat)(hk:k<L.length)(hj:j<(L.getD k []).length) :
  (Iv L k j).set ((L.getD k []).getD j 0).toNat ((Iv L k j).getD ((L.getD k []).getD j 0).toNat []++[(k:Int)])=Iv L k (j+1):=by
 obtain⟨h1,h2,h3⟩:=mayS_iff.1 h;have hok:=h3 k hk;obtain⟨a0,a1⟩:=Y5 hok hj;unfold Iv;rw[Qs (by omega),MM]
 apply Py
 intro i hi
 have hnot:Pd L k j ((L.getD k []).getD j 0).toNat=false:=by
  unfold Pd;rw[Vn a0]
  cases hc:((L.getD k []).take j).contains ((L.getD k []).getD j 0) with
  | false=>rfl
  | true=>
   rw[GH]at hc;obtain⟨m,hm,he⟩:=Ll hc
   have hm':m<j:=by simp at hm;omega
   rw[List.getElem_take]at he;have:=dW hok hm' hj;rw[Ab _ _ _ (show m<(L.getD k []).length by omega),he]at this;omega
 by_cases hi2:i=((L.getD k []).getD j 0).toNat
 ·rw[if_pos hi2,hnot]
  have:Pd L k (j+1) i=true:=by
   unfold Pd;rw[IH hj,GH,hi2,Vn a0]
   simp
  rw[this,hi2]
  simp
 ·rw[if_neg hi2]
  have:Pd L k (j+1) i=Pd L k j i:=by
   unfold Pd;rw[IH hj,N9,GH,GH,zzL11]
   constructor
   ·rintro(hm|hm)
    ·exact hm
    ·simp only[zzL14]at hm;exact(hi2 (by omega)).elim
   ·exact .inl
  rw[this]
theorem PE(L:List (List Int))(h:Ly L=true):In L=some (Fg L):=by
 obtain⟨h1,h2,h3⟩:=mayS_iff.1 h
 have hroom:(1000:Nat)<=room:=by decide
 unfold In;rw[Ad ⟨by omega,Int.le_refl _,by omega⟩,A5]
 have inner:∀ k,k<L.length->Ah (Ec L (k:Int)) ((0:Int),Iv L k 0)=some (Iv L k (L.getD k []).length):=λk hk=>by
  have hok:=h3 k hk;refine Xe (Ec L (k:Int)) (λj=>(((j:Nat):Int),Iv L k j)) (Iv L k (L.getD k []).length) (L.getD k []).length (λj hj=>?_) ?_
  ·obtain⟨a0,a1⟩:=Y5 hok hj
   have hlen:(Iv L k j).length=L.length:=by simp[Iv]
   have hl64:=CP hok
   show Ec L (k:Int) (_,_)=_
   unfold Ec;simp only[A5,F0 hj,Ae];have hb:Bw ((L.getD k []).getD j 0) (Iv L k j).length:=⟨a0,by rw[hlen];exact a1⟩
   have hrow:((Iv L k j).getD ((L.getD k []).getD j 0).toNat []).length<=k+1:=by
    unfold Iv;rw[Qs (by omega),Es];have:=Wd L k ((L.getD k []).getD j 0).toNat
    split
    ·rw[T0];omega
    ·rw[List.length_nil];omega
   rw[Ad (Je hj),Ad hb,Ad hb,Ad (by simp only[T0];omega),Ad hb,OD L h k j hk hj,w1 (by omega)]
  ·show Ec L (k:Int) (_,_)=_
   unfold Ec;simp only[A5,Kq,Az]
 have r0:∀ k,Iv L k 0=(List.range L.length).map (J5 L k):=λk=>by
  unfold Iv
  apply Py
  intro i _;simp[Pd]
 have r1:∀ k,Iv L k (L.getD k []).length=(List.range L.length).map (J5 L (k+1)):=λk=>by
  unfold Iv
  apply Py
  intro i _;rw[QF];unfold Pd AK;rw[Wn]
 have:Ah (Ed L) ((0:Int),(List.range L.length).map (J5 L 0))=some (Fg L):=Xe (Ed L) (λk=>(((k:Nat):Int),(List.range L.length).map (J5 L k))) (Fg L) L.length (λk hk=>?_) ?_
 ·have e0:(List.replicate L.length ([]:List Int))=(List.range L.length).map (J5 L 0):=by
   apply List.ext_getElem?
   intro i
   by_cases hi:i<L.length<;>simp[hi,List.getElem?_replicate,J5]
  rw[e0,this];rfl
 ·show Ed L (_,_)=_
  unfold Ed;simp only[F0 hk,Ae];rw[Ad (Je hk),<- r0,inner k hk,r1,w1 (by omega)]
  rfl
 ·show Ed L (_,_)=_
  unfold Ed;simp only[Kq,Az]
  rfl
theorem S5{α:Type}[DecidableEq α]{a b:List α}{d:α}(h:a.length=b.length):((List.range a.length).all λi=>decide (a.getD i d=b.getD i d))=decide (a=b):=by
 rw[N9,all_range,D0]
 constructor
 ·intro hall
  apply Zt h
  intro i h1 h2;have:=Qb (hall i h1);rwa[Ab _ _ _ h1,Ab _ _ _ h2]at this
 ·rintro rfl i _
  simp
theorem LT{a b:Nat}:(((a:Nat):Int)!=(b:Int))=decide (a≠b):=by
 rw[N9,zzL89,D0];omega
theorem LL{a b:Int}:(a !=b) = !decide (a=b):=by
 rw[N9]
 simp
theorem LV(a b:List Int)(hb:b.length<4611686018427387904):Ef a b=some (decide (a=b)):=by
 unfold Ef;rw[LT]
 by_cases hl:a.length=b.length
 ·rw[C6 (by simpa using hl),Az];have:Ah (Bg a b) (0:Int)=_:=Lt (Bg a b) (λj=>((j:Nat):Int)) (λi=>decide (a.getD i 0=b.getD i 0)) (.inl ()) (.inr false) a.length (λj hj hp=>?_) (λj hj hp=>?_) ?_
  ·rw[this,S5 hl]
   cases decide (a=b)<;>rfl
  ·show Bg a b (j:Int)=_
   unfold Bg;simp only[A5,F0 hj,Ae];rw[Ad (Je hj),Ad (Je (by omega)),LL,hp,w1 (by omega)]
   rfl
  ·show Bg a b (j:Int)=_
   unfold Bg;simp only[A5,F0 hj,Ae];rw[Ad (Je hj),Ad (Je (by omega)),LL,hp]
   rfl
  ·show Bg a b _=_
   unfold Bg;simp only[Kq,Az]
 ·rw[Cw (by simpa using hl),Ae,C6 (λh=>hl (by rw[h]))]
theorem kp(a b:List Int)(ha:a.length<4611686018427387904):Gq a b=some (decide (a=b)):=by
 unfold Gq;rw[LT]
 by_cases hl:a.length=b.length
 ·rw[C6 (by simpa using hl),Az];have:Ah (Bn a b) (0:Int)=_:=Lt (Bn a b) (λj=>((j:Nat):Int)) (λi=>decide (a.getD i 0=b.getD i 0)) (.inl ()) (.inr false) a.length (λj hj hp=>?_) (λj hj hp=>?_) ?_
  ·rw[this,S5 hl]
   cases decide (a=b)<;>rfl
  ·show Bn a b (j:Int)=_
   unfold Bn;simp only[A5,F0 hj,Ae];rw[Ad (Je hj),Ad (Je (by omega)),LL,hp,w1 (by omega)]
   rfl
  ·show Bn a b (j:Int)=_
   unfold Bn;simp only[A5,F0 hj,Ae];rw[Ad (Je hj),Ad (Je (by omega)),LL,hp]
   rfl
  ·show Bn a b _=_
   unfold Bn;simp only[Kq,Az]
 ·rw[Cw (by simpa using hl),Ae,C6 (λh=>hl (by rw[h]))]
theorem PF(a b:List (List Int))(hb:Fits b):Cr a b=some (decide (a=b)):=by
 unfold Cr;rw[LT]
 by_cases hl:a.length=b.length
 ·rw[C6 (by simpa using hl),Az];have hb1:=hb.1;have:Ah (Au a b) (0:Int)=_:=Lt (Au a b) (λj=>((j:Nat):Int)) (λi=>decide (a.getD i []=b.getD i [])) (.inl ()) (.inr false) a.length (λj hj hp=>?_) (λj hj hp=>?_) ?_
  ·rw[this,S5 hl]
   cases decide (a=b)<;>rfl
  ·show Au a b (j:Int)=_
   unfold Au;simp only[A5,F0 hj,Ae];rw[Ad (Je hj),Ad (Je (by omega)),LV _ _ (hb.at j),hp,w1 (by omega)]
   rfl
  ·show Au a b (j:Int)=_
   unfold Au;simp only[A5,F0 hj,Ae];rw[Ad (Je hj),Ad (Je (by omega)),LV _ _ (hb.at j),hp]
   rfl
  ·show Au a b _=_
   unfold Au;simp only[Kq,Az]
 ·rw[Cw (by simpa using hl),Ae,C6 (λh=>hl (by rw[h]))]
theorem N1(L:List (List Int)):(Fg L).length=L.length:=by simp[Fg]
theorem JH{L:List (List Int)}{i:Nat}(hi:i<L.length):(Fg L).getD i []=J5 L L.length i:=by unfold Fg;rw[Qs hi]
theorem Rj{L:List (List Int)}(h:Ly L=true):(Fg L).length<=64/\∀ l∈Fg L,l.length<=64:=by
 obtain⟨h1,_⟩:=Y0 h;refine⟨by rw[N1];exact h1,λl hl=>?_⟩;obtain⟨i,hi,rfl⟩:=zzL26.1 hl;have:=Wd L L.length i;omega
theorem Wj{L:List (List Int)}(h:L.length<=64/\∀ l∈L,l.length<=64):Fits L:=gq ⟨by omega,λl hl=>by have:=h.2 l hl;omega⟩
def Yz(g:C2):Bool:=Ly g.Succ&&decide (g.Pred=Fg g.Succ)
theorem jb(g:C2)(h:Fits g.Succ):Oz g=some (Yz g):=by
 unfold Oz Yz;rw[ZO _ h,Ar]
 cases hm:Ly g.Succ with
 | false=>rfl
 | true=>
  simp only[Qc,Ae,PE _ hm,Ar,PF _ _ (Wj (Rj hm)),Hj]
def Yi(L:List (List Int)):C2:=⟨L,Fg L⟩
def g0:C2:=⟨[],[]⟩
theorem PH{L:List (List Int)}(h:Ly L=true):Yz (Yi L)=true:=by simp[Yz,Yi,h]
theorem cr{L:List (List Int)}(h:Ly L=true):Fits (Yi L).Succ/\Fits (Yi L).Pred:=⟨Wj (Y0 h),Wj (Rj h)⟩
noncomputable section
def upd(s:Nat->Bool)(y:Nat):Nat->Bool:=λz=>decide (z=y) || s z
theorem upd_true{s:Nat->Bool}{y z:Nat}:upd s y z=true↔z=y\/s z=true:=by simp[upd]
theorem upd_false{s:Nat->Bool}{y z:Nat}:upd s y z=false↔z≠y/\s z=false:=by simp[upd]
inductive VL (S:Nat->List Nat):(Nat->Bool)->List Nat->(Nat->Bool)->List Nat->Prop
 | nil (s:Nat->Bool):VL S s [] s []
 | skip {s s':Nat->Bool} {y:Nat} {l o:List Nat} (h:s y=true) (t:VL S s l s' o):VL S s (y::l) s' o
 | step {s s1 s2:Nat->Bool} {y:Nat} {l o1 o2:List Nat} (h:s y=false) (a:VL S (upd s y) (S y) s1 o1) (b:VL S s1 l s2 o2):VL S s (y::l) s2 (o1++y::o2)
inductive Rch (S:Nat->List Nat):Nat->Nat->Prop
 | refl (x:Nat):Rch S x x
 | head {x y z:Nat} (h:y∈S x) (t:Rch S y z):Rch S x z
theorem Rch.tail{S:Nat->List Nat}{x y z:Nat}(h:Rch S x y)(hz:z∈S y):Rch S x z:=by
 induction h with
 | refl x=>exact .head hz (.refl _)
 | head h _ ih=>exact .head h (ih hz)
theorem Rch.trans{S:Nat->List Nat}{x y z:Nat}(h:Rch S x y)(k:Rch S y z):Rch S x z:=by
 induction h with
 | refl x=>exact k
 | head h _ ih=>exact .head h (ih k)
variable {S:Nat->List Nat} {s s':Nat->Bool} {l o:List Nat}
theorem VL.seen(h:VL S s l s' o)(z:Nat):s' z=true↔s z=true\/z∈o:=by
 induction h with
 | nil s=>simp
 | skip h _ ih=>exact ih
 | @step s s1 s2 y l o1 o2 h a b iha ihb=>
  rw[ihb,iha,upd_true];simp only[zzL11,zzL24]
  constructor
  ·rintro((( rfl|h1)|h1)|h1)
   ·exact .inr (.inr (.inl rfl))
   ·exact .inl h1
   ·exact .inr (.inl h1)
   ·exact .inr (.inr (.inr h1))
  ·rintro(h1|h1|rfl|h1)
   ·exact .inl (.inl (.inr h1))
   ·exact .inl (.inr h1)
   ·exact .inl (.inl (.inl rfl))
   ·exact .inr h1
theorem VL.fresh(h:VL S s l s' o){z:Nat}(hz:z∈o):s z=false:=by
 induction h with
 | nil s=>cases hz
 | skip h _ ih=>exact ih hz
 | @step s s1 s2 y l o1 o2 h a b iha ihb=>
  rcases zzL11.1 hz with h1|h1
  ·exact(upd_false.1 (iha h1)).2
  ·rcases zzL24.1 h1 with rfl|h1
   ·exact h
   ·have:=ihb h1
    cases hs:s z with
    | false=>rfl
    | true=>rw[(a.seen z).2 (.inl (upd_true.2 (.inr hs)))]at this;cases this
theorem VL.nodup(h:VL S s l s' o):o.Nodup:=by
 induction h with
 | nil s=>exact List.nodup_nil
 | skip h _ ih=>exact ih
 | @step s s1 s2 y l o1 o2 h a b iha ihb=>
  rw[List.nodup_append];refine⟨iha,zzL76.2 ⟨λhy=>?_,ihb⟩,λu hu v hv=>?_⟩
  ·have:=b.fresh hy;rw[(a.seen y).2 (.inl (upd_true.2 (.inl rfl)))]at this
   cases this
  ·rintro rfl;rcases zzL24.1 hv with rfl|hv
   ·have:=a.fresh hu;rw[upd_true.2 (.inl rfl)]at this
    cases this
   ·have:=b.fresh hv;rw[(a.seen u).2 (.inr hu)]at this
    cases this
theorem VL.rch(h:VL S s l s' o){z:Nat}(hz:z∈o):∃ y∈l,Rch S y z:=by
 induction h with
 | nil s=>cases hz
 | skip h _ ih=>obtain⟨y,hy,hr⟩:=ih hz;exact⟨y,Fc _ hy,hr⟩
 | @step s s1 s2 y l o1 o2 h a b iha ihb=>
  rcases zzL11.1 hz with h1|h1
  ·obtain⟨u,hu,hr⟩:=iha h1;exact⟨y,Jh ..,.head hu hr⟩
  ·rcases zzL24.1 h1 with rfl|h1
   ·exact⟨z,Jh ..,.refl z⟩
   ·obtain⟨u,hu,hr⟩:=ihb h1;exact⟨u,Fc _ hu,hr⟩
theorem VL.closed(h:VL S s l s' o):(∀ y∈l,s' y=true)/\∀ z∈o,∀ y∈S z,s' y=true:=by
 induction h with
 | nil s=>exact⟨(λ_ h=>by cases h),(λ_ h=>by cases h)⟩
 | @skip s s' y l o h t ih=>
  refine⟨λu hu=>?_,ih.2⟩;rcases zzL24.1 hu with rfl|hu
  ·exact(t.seen u).2 (.inl h)
  ·exact ih.1 u hu
 | @step s s1 s2 y l o1 o2 h a b iha ihb=>
  refine⟨λu hu=>?_,λz hz u hu=>?_⟩
  ·rcases zzL24.1 hu with rfl|hu
   ·exact(b.seen u).2 (.inl ((a.seen u).2 (.inl (upd_true.2 (.inl rfl)))))
   ·exact ihb.1 u hu
  ·rcases zzL11.1 hz with h1|h1
   ·exact(b.seen u).2 (.inl (iha.2 z h1 u hu))
   ·rcases zzL24.1 h1 with rfl|h1
    ·exact(b.seen u).2 (.inl (iha.1 u hu))
    ·exact ihb.2 z h1 u hu
theorem VL.above(h:VL S s l s' o)(hf:∀ z,∀ y∈S z,z<y){b:Nat}(hb:∀ y∈l,b<y):∀ z∈o,b<z:=by
 induction h generalizing b with
 | nil s=>intro z hz;cases hz
 | skip h _ ih=>exact ih (λy hy=>hb y (Fc _ hy))
 | @step s s1 s2 y l o1 o2 h a c iha ihb=>
  intro z hz;have hy:=hb y (Jh ..);rcases zzL11.1 hz with h1|h1
  ·exact iha (λu hu=>Nat.lt_trans hy (hf y u hu)) z h1
  ·rcases zzL24.1 h1 with rfl|h1
   ·exact hy
   ·exact ihb (λu hu=>hb u (Fc _ hu)) z h1
theorem VL.ahead(h:VL S s l s' o)(hf:∀ z,∀ y∈S z,z<y):∀ z∈o,∀ y∈S z,s y=true\/∃ A B,o=A++z::B/\y∈A:=by
 induction h with
 | nil s=>intro z hz;cases hz
 | skip h _ ih=>exact ih
 | @step s s1 s2 y l o1 o2 h a c iha ihb=>
  intro z hz u hu;rcases zzL11.1 hz with h1|h1
  ·have hzy:y<z:=a.above hf (λv hv=>hf y v hv) z h1;have hzu:=hf z u hu;rcases iha z h1 u hu with h2|⟨A,B,rfl,hA⟩
   ·rcases upd_true.1 h2 with rfl|h2
    ·omega
    ·exact .inl h2
   ·exact .inr ⟨A,B++y::o2,by simp,hA⟩
  ·rcases zzL24.1 h1 with rfl|h1z
   ·have hzu:=hf z u hu;rcases(a.seen u).1 (a.closed.1 u hu) with h2|h2
    ·rcases upd_true.1 h2 with rfl|h2
     ·omega
     ·exact .inl h2
    ·exact .inr ⟨o1,o2,rfl,h2⟩
   ·rcases ihb z h1z u hu with h2|⟨A,B,rfl,hA⟩
    ·rcases(a.seen u).1 h2 with h3|h3
     ·rcases upd_true.1 h3 with rfl|h3
      ·obtain⟨P,Q,rfl⟩:=List.append_of_mem h1z;exact .inr ⟨o1++u::P,Q,by simp,by simp⟩
      ·exact .inl h3
     ·obtain⟨P,Q,rfl⟩:=List.append_of_mem h1z;exact .inr ⟨o1++y::P,Q,by simp,by simp[h3]⟩
    ·exact .inr ⟨o1++y::A,B,by simp,by simp[hA]⟩
def ND(n:Nat)(s:Nat->Bool):Nat:=((List.range n).filter λz=>!s z).length
theorem Ud{n:Nat}{s:Nat->Bool}{y:Nat}(hy:y<n)(h:s y=false):ND n (upd s y)+1=ND n s:=by
 unfold ND
 induction n with
 | zero=>omega
 | succ n ih=>
  rw[Zw,MS,MS,Es,Es]
  by_cases hyn:y=n
  ·subst hyn
   have e:(List.range y).filter (λz=>!upd s y z)=(List.range y).filter (λz=>!s z):=by
    apply List.filter_congr
    intro z hz;have:=zzL36.1 hz;simp[upd,show z≠y by omega]
   rw[e];simp[upd,h]
  ·have:=ih (by omega)
   have e:([n].filter λz=>!upd s y z).length=([n].filter λz=>!s z).length:=by
    simp only[List.filter_cons,List.filter_nil,upd];simp[Hg hyn]
   omega
theorem OC{n:Nat}{s s':Nat->Bool}(h:∀ z,s z=true->s' z=true):ND n s'<=ND n s:=by
 unfold ND
 apply List.Sublist.length_le
 have:(List.range n).filter (λz=>!s' z)=((List.range n).filter λz=>!s z).filter λz=>!s' z:=by
  rw[List.filter_filter]
  apply List.filter_congr
  intro z _
  cases hs:s z with
  | false=>simp
  | true=>simp[h z hs]
 rw[this];exact List.filter_sublist
theorem VL.exist{n:Nat}(hS:∀ z,z<n->∀ y∈S z,y<n):∀(m:Nat) (s:Nat->Bool),ND n s<=m->∀ l:List Nat,(∀ y∈l,y<n)->∃ s' o,VL S s l s' o:=by
 intro m
 induction m with
 | zero=>
  intro s hm l
  induction l with
  | nil=>intro _;exact⟨s,[],.nil s⟩
  | cons y l ih=>
   intro hl;obtain⟨s',o,h⟩:=ih (λz hz=>hl z (Fc _ hz))
   cases hy:s y with
   | true=>exact⟨s',o,.skip hy h⟩
   | false=>have:=Ud (hl y (Jh ..)) hy;omega
 | succ m ih=>
  intro s hm l
  induction l generalizing s with
  | nil=>intro _;exact⟨s,[],.nil s⟩
  | cons y l ihl=>
   intro hl
   cases hy:s y with
   | true=>
    obtain⟨s',o,h⟩:=ihl s hm (λz hz=>hl z (Fc _ hz));exact⟨s',o,.skip hy h⟩
   | false=>
    have hyn:=hl y (Jh ..);have:=Ud hyn hy;obtain⟨s1,o1,h1⟩:=ih (upd s y) (by omega) (S y) (hS y hyn);have h2:ND n s1<=ND n s:=OC λz hz=>(h1.seen z).2 (.inl (upd_true.2 (.inr hz)));obtain⟨s2,o2,h3⟩:=ihl s1 (by omega) (λz hz=>hl z (Fc _ hz));exact⟨s2,_,.step hy h1 h3⟩
def one(r:Nat):Nat->Bool:=λz=>decide (z=r)
def Ord(S:Nat->List Nat)(r:Nat)(L:List Nat):Prop:=∃ s' o,VL S (one r) (S r) s' o/\L=r::o.reverse
theorem Ord.exist{n:Nat}(hS:∀ z,z<n->∀ y∈S z,y<n){r:Nat}(hr:r<n):∃ L,Ord S r L:=by
 obtain⟨s',o,h⟩:=VL.exist hS _ (one r) (zzL8 _) (S r) (hS r hr);exact⟨_,s',o,h,rfl⟩
theorem Ord.mem{r:Nat}{L:List Nat}(h:Ord S r L)(z:Nat):z∈L↔Rch S r z:=by
 obtain⟨s',o,h,rfl⟩:=h
 have hs:∀ z,s' z=true↔z=r\/z∈o:=λz=>by rw[h.seen];simp[one]
 have hc:∀ x,s' x=true->∀ y∈S x,s' y=true:=λx hx y hy=>by
  rcases(hs x).1 hx with rfl|hx
  ·exact h.closed.1 y hy
  ·exact h.closed.2 x hx y hy
 simp only[zzL24,zzL95];rw[<- hs z]
 constructor
 ·intro hz;rcases(hs z).1 hz with rfl|hz
  ·exact .refl _
  ·obtain⟨y,hy,hr⟩:=h.rch hz;exact .head hy hr
 ·intro hr
  have key:∀ x z,Rch S x z->s' x=true->s' z=true:=by
   intro x z hxz
   induction hxz with
   | refl x=>exact id
   | head hy _ ih=>exact λhx=>ih (hc _ hx _ hy)
  exact key r z hr ((hs r).2 (.inl rfl))
theorem Ord.nodup{r:Nat}{L:List Nat}(h:Ord S r L):L.Nodup:=by
 obtain⟨s',o,h,rfl⟩:=h;refine zzL76.2 ⟨λhr=>?_,(List.reverse_perm o).nodup_iff.2 h.nodup⟩;have:=h.fresh (zzL95.1 hr);simp[one]at this
theorem Ord.fwd{r:Nat}{L:List Nat}(h:Ord S r L)(hf:∀ z,∀ y∈S z,z<y):∀ z∈L,∀ y∈S z,∃ A B,L=A++z::B/\y∈B:=by
 obtain⟨s',o,h,rfl⟩:=h;intro z hz y hy;have hzy:=hf z y hy;rcases zzL24.1 hz with rfl|hz
 ·refine⟨[],o.reverse,rfl,?_⟩;rcases(h.seen y).1 (h.closed.1 y hy) with h1|h1
  ·simp[one]at h1;omega
  ·exact zzL95.2 h1
 ·have hz:=zzL95.1 hz;have hrz:r<z:=h.above hf (λv hv=>hf r v hv) z hz;rcases h.ahead hf z hz y hy with h1|⟨A,B,rfl,hA⟩
  ·simp[one]at h1;omega
  ·exact⟨r::B.reverse,A.reverse,by simp,zzL95.2 hA⟩
end
theorem ZN(l:List Int)(hl:l.length<4611686018427387904):Du l=some l.reverse:=by
 unfold Du
 by_cases h0:l.length=0
 ·obtain rfl:l=[]:=zzL104.1 h0
  have:Ah Ba ((0:Int),(Bj ((([]:List Int).length:Int)-1)),([]:List Int))=some []:=by
   apply Ai
   unfold Ba;rw[F8 (by simp) (by simp)]
   rfl
  rw[this];rfl
 ·have hw:Bj ((l.length:Int)-1)=((l.length-1:Nat):Int):=by rw[F8 (by omega) (by omega)];omega
  rw[hw]
  let C:Nat->List Int:=λk=>(List.range l.length).map λi=>if i<k\/l.length-1-k<i then l.getD (l.length-1-i) 0 else l.getD i 0
  have hC:∀ k i,i<l.length->(C k).getD i 0=if i<k\/l.length-1-k<i then l.getD (l.length-1-i) 0 else l.getD i 0:=λk i hi=>by simp only[C];rw[Qs hi]
  have hlen:∀ k,(C k).length=l.length:=λk=>by simp[C]
  have:=Xe Ba (λk=>(((k:Nat):Int),((l.length-1-k:Nat):Int),C k)) l.reverse (l.length / 2) (λk hk=>?_) ?_
  ·have e0:C 0=l:=by
    apply Zt (by simp[C])
    intro i h1 h2;have:=hC 0 i h2;rw[Ab _ _ _ h1,Ab _ _ _ h2]at this;rw[this,if_neg (by omega)]
   have this':Ah Ba ((0:Int),((l.length-1:Nat):Int),l)=some l.reverse:=by
    have h2:=this;simp only[e0]at h2;exact h2
   rw[this'];rfl
  ·show Ba (_,_,_)=_
   unfold Ba
   have hlt:k<l.length-1-k:=by omega
   simp only[F0 hlt,Ae,A5];rw[Ad (Je (by rw[hlen];omega)),Ad (Je (by rw[hlen];omega)),Ad (Je (by rw[hlen];omega)),Ad (Je (by rw[hlen];omega))];rw[w1 (by omega),show Bj (((l.length-1-k:Nat):Int)-1)=((l.length-1-(k+1):Nat):Int) by rw[F8 (by omega) (by omega)];omega]
   congr 4
   rw[hC k _ (by omega),hC k _ (by omega),if_neg (by omega),if_neg (by omega)];simp only[C];rw[MM,MM]
   apply Py
   intro i hi
   by_cases h1:i=k
   ·subst h1;rw[if_neg (by omega),if_pos rfl,if_pos (by omega)]
   ·by_cases h2:i=l.length-1-k
    ·subst h2;rw[if_pos rfl,if_pos (by omega)]
     congr 1;omega
    ·rw[if_neg h2,if_neg h1]
     by_cases h3:i<k\/l.length-1-k<i
     ·rw[if_pos h3,if_pos (by omega)]
     ·rw[if_neg h3,if_neg (by omega)]
  ·show Ba (_,_,_)=_
   unfold Ba;have hd:decide (((l.length / 2:Nat):Int)<((l.length-1-l.length / 2:Nat):Int))=false:=C6 (by omega);simp only[hd,Az]
   congr 2
   apply Zt (by simp[C])
   intro i h1 h2
   have h3:i<l.length:=by simpa [C] using h1
   have:=hC (l.length / 2) i h3;rw[Ab _ _ _ h1]at this;rw[this,List.getElem_reverse]
   split
   ·rw[Ab _ _ _ (by omega)]
   ·rw[Ab _ _ _ h3]
    congr 1;omega
theorem top{st:List Int}{a:Int}(h:st.length<4611686018427387904):(st++[a]).getD (Bj (((st++[a]).length:Int)-1)).toNat 0=a:=by
 have:Bj (((st++[a]).length:Int)-1)=((st.length:Nat):Int):=by rw[Es,T0,F8 (by omega) (by omega)];omega
 rw[this,A5];simp[List.getD]
theorem mg{st:List Int}{a:Int}(h:st.length<4611686018427387904):Bj (((st++[a]).length:Int)-1)=((st.length:Nat):Int):=by
 rw[Es,T0,F8 (by omega) (by omega)];omega
theorem fa{g:C2}{R:List Bool}{st T:List Int}{a:Nat}(hst:st.length<64)(ha:a<g.Succ.length)(h64:g.Succ.length<=64)(ht:T.getD a 0=((g.Succ.getD a []).length:Int)) :
  Fy g R (st++[(a:Int)]) T=some (.done (.inl T)):=by
 unfold Fy;simp only[top (st:=st) (a:=(a:Int)) (by omega),A5];rw[Ad (Je (by omega)),Ad (Je ha),ht,Kq,Az]
theorem VQ{g:C2}{R:List Bool}{st T:List Int}{a t y:Nat}(hst:st.length<64)(ha:a<g.Succ.length)(h64:g.Succ.length<=64)(ht:T.getD a 0=(t:Int))(htl:t<(g.Succ.getD a []).length)(htm:t<64)
  (hy:(g.Succ.getD a []).getD t 0=(y:Int)) (hyn:y<g.Succ.length) :
  Fy g R (st++[(a:Int)]) T=bif R.getD y false then some (.next (J6 64 (0:Int) T a ((t+1:Nat):Int))) else some (.done (.inr (J6 64 false R y true,J6 64 (0:Int) T a ((t+1:Nat):Int),(st++[(a:Int)])++[(y:Int)]))):=by
 have hroom:(1000:Nat)<=room:=by decide
 unfold Fy;simp only[top (st:=st) (a:=(a:Int)) (by omega),A5,ht,hy];rw[Ad (Je (by omega)),Ad (Je ha),F0 htl,Ae,Ad (Je ha),Ad (Je (by omega)),Ad (Je htl),Ad (Je (by omega)),Ad (Je (by omega)),Ad (Je (by omega)),w1 (by omega)]
 cases R.getD y false with
 | true=>rfl
 | false=>
  simp only[Kf,Ae,Az];rw[Ad (Je (by omega)),Ad (by rw[Es,T0,T0];omega)]
theorem VP{g:C2}{R:List Bool}{st T Lf:List Int}{a:Nat}(hst:st.length<64)(hLf:Lf.length<64) :
  Cx g (R,T,st++[(a:Int)],Lf)=(Ah (Fy g R (st++[(a:Int)])) T).bind λx=>match x with
   | .inl T'=>if st=[] then some (.done (Lf++[(a:Int)]).reverse) else some (.next (R,T',st,Lf++[(a:Int)]))
   | .inr (R',T',st')=>some (.next (R',T',st',Lf)):=by
 have hroom:(1000:Nat)<=room:=by decide
 unfold Cx;simp only
 have hb:Bw (Bj (((st++[(a:Int)]).length:Int)-1)) (st++[(a:Int)]).length:=by rw[mg (by omega)];exact Je (by simp)
 rw[Ad hb]
 congr 1
 funext x
 cases x with
 | inr y=>obtain⟨R',T',st'⟩:=y;rfl
 | inl T'=>
  simp only[top (st:=st) (a:=(a:Int)) (by omega)];rw[mg (by omega),A5,Ad (by rw[T0];omega),Ad ⟨by omega,by simp⟩];have e:(st++[(a:Int)]).take st.length=st:=List.take_left' rfl;rw[e]
  cases st with
  | nil=>
   rw[if_pos rfl]
   have:decide ((0:Int)<(([]:List Int).length:Int))=false:=by decide
   rw[this,Az,ZN _ (by simp;omega)];simp only[Ar];rw[Ad (by simp)]
  | cons b st'=>
   rw[if_neg (by simp)];have:decide ((0:Int)<((b::st').length:Int))=true:=Cw (by simp<;>omega);rw[this,Ae]
theorem TP{S X:Type}{f:S->Option (LR S X)}{a b:S}(h:f a=f b):Ah f a=Ah f b:=by
 cases hb:f b with
 | none=>rw[Wa (h.trans hb),Wa hb]
 | some r=>cases r with
  | done x=>rw[Ai (h.trans hb),Ai hb]
  | next s=>rw[Ap (h.trans hb),Ap hb]
theorem BD{S X:Type}{f:S->Option (LR S X)}{s:S}:Pp (f s) f=Ah f s:=by
 unfold Pp
 cases hb:f s with
 | none=>rw[Wa hb];rfl
 | some r=>cases r with
  | done x=>rw[Ai hb];rfl
  | next s'=>rw[Ap hb];rfl
def sN(L:List (List Int))(k:Nat):List Nat:=(L.getD k []).map Int.toNat
def RelS(R:List Bool)(s:Nat->Bool):Prop:=∀ z,z<64->R.getD z false=s z
theorem Ni{α:Type}{d:α}{l:List α}{i:Nat}{x:α}{k:Nat}(hk:k<64):(J6 64 d l i x).getD k d=if k=i then x else l.getD k d:=by
 rw[JQ hk]
 by_cases h:k=i
 ·subst h;simp
 ·have:Nat.beq k i=false:=by cases hb:Nat.beq k i with|false=>rfl|true=>exact absurd (Bx hb) h
  rw[this,if_neg h];rfl
theorem RelS.set{R:List Bool}{s:Nat->Bool}(h:RelS R s){y:Nat}:RelS (J6 64 false R y true) (upd s y):=λz hz=>by
 rw[Ni hz,h z hz]
 by_cases hzy:z=y
 ·simp[upd,hzy]
 ·simp[upd,hzy]
def Pg(o:List Nat):List Int:=o.map Int.ofNat
theorem UA{g:C2}(hm:Ly g.Succ=true){s s':Nat->Bool}{l o:List Nat}(hv:VL (sN g.Succ) s l s' o) :
  ∀(R:List Bool) (T st Lf:List Int) (a t:Nat),RelS R s->a<g.Succ.length->l=(sN g.Succ a).drop t->T.getD a 0=(t:Int)->t<=(sN g.Succ a).length->s a=true->(∀ z,z<64->s z=false->T.getD z 0=0)->
   Lf.length+ND 64 s+st.length+1<=64->
   ∃(R':List Bool) (T':List Int),RelS R' s'/\(∀ z,z<64->s' z=false->T'.getD z 0=0)/\(∀ z,z<64->s z=true->z≠a->T'.getD z 0=T.getD z 0)/\Lf.length+o.length+ND 64 s'+st.length+1<=64 /\
    Ah (Cx g) (R,T,st++[(a:Int)],Lf)=if st=[] then some (Lf++Pg o++[(a:Int)]).reverse else Ah (Cx g) (R',T',st,Lf++Pg o++[(a:Int)]):=by
 obtain⟨hL1,hL64,hLok⟩:=mayS_iff.1 hm
 have hlenS:∀ a,(sN g.Succ a).length=(g.Succ.getD a []).length:=λa=>by simp[sN]
 have hdrop:∀(a t y:Nat) (l':List Nat),a<g.Succ.length->y::l'=(sN g.Succ a).drop t->t<(g.Succ.getD a []).length/\(g.Succ.getD a []).getD t 0=(y:Int)/\y<g.Succ.length/\l'=(sN g.Succ a).drop (t+1):=λa t y l' ha he=>by
  have ht:t<(sN g.Succ a).length:=by
   rcases zzL136 t (sN g.Succ a).length with h|h
   ·exact h
   ·rw[List.drop_eq_nil_of_le h]at he;cases he
  rw[O8 ht]at he;simp only[Cg]at he;obtain⟨h1,h2⟩:=he
  have ht':t<(g.Succ.getD a []).length:=by rw[<- hlenS];exact ht
  obtain⟨b0,b1⟩:=Y5 (hLok a ha) ht'
  have h3:(sN g.Succ a)[t]=((g.Succ.getD a []).getD t 0).toNat:=by rw[Ab _ _ _ ht'];simp[sN]
  exact⟨ht',by omega,by omega,h2⟩
 induction hv with
 | nil s=>
  intro R T st Lf a t hR ha hl hT htl hsa hz hc
  have ht:t=(g.Succ.getD a []).length:=by
   have:=Ca List.length hl;simp at this;rw[hlenS]at htl this;omega
  refine⟨R,T,hR,hz,λ_ _ _ _=>rfl,by simpa using hc,?_⟩
  have hF:Cx g (R,T,st++[(a:Int)],Lf)=if st=[] then some (.done (Lf++[(a:Int)]).reverse) else some (.next (R,T,st,Lf++[(a:Int)])):=by
   rw[VP (by omega) (by omega),Ai (fa (by omega) ha hL64 (by rw[hT,ht]))]
   rfl
  by_cases hst:st=[]
  ·rw[if_pos hst]at hF ⊢;rw[Ai hF];simp[Pg]
  ·rw[if_neg hst]at hF ⊢;rw[Ap hF];simp[Pg]
 | @skip s s' y l o h tl ih=>
  intro R T st Lf a t hR ha hl hT htl hsa hz hc;obtain⟨h1,h2,h3,h4⟩:=hdrop a t y l ha hl;have hb:=CP (hLok a ha);have hs:=VQ (g:=g) (R:=R) (st:=st) (T:=T) (a:=a) (t:=t) (y:=y) (by omega) ha hL64 hT h1 (by omega) h2 h3;rw[hR y (by omega),h,Ae]at hs;obtain⟨R',T',a1,a2,a3,a4,a5⟩:=ih R (J6 64 (0:Int) T a ((t+1:Nat):Int)) st Lf a (t+1) hR ha h4 (by rw[Ni (by omega),if_pos rfl]) (by rw[hlenS];omega) hsa
   (λz hz1 hz2=>by rw[Ni hz1,if_neg (by rintro rfl;rw[hsa]at hz2;cases hz2)];exact hz z hz1 hz2) hc
  refine⟨R',T',a1,a2,λz hz1 hz2 hz3=>by rw[a3 z hz1 hz2 hz3,Ni hz1,if_neg hz3],a4,?_⟩;rw[<- a5]
  apply TP
  rw[VP (by omega) (by omega),VP (by omega) (by omega),Ap hs]
 | @step s s1 s2 y l o1 o2 h tl tr ih1 ih2=>
  intro R T st Lf a t hR ha hl hT htl hsa hz hc;obtain⟨h1,h2,h3,h4⟩:=hdrop a t y l ha hl;have hb:=CP (hLok a ha)
  have hay:y≠a:=by rintro rfl;rw[hsa]at h;cases h
  have hs:=VQ (g:=g) (R:=R) (st:=st) (T:=T) (a:=a) (t:=t) (y:=y) (by omega) ha hL64 hT h1 (by omega) h2 h3;rw[hR y (by omega),h,Az]at hs;have hcu:=Ud (n:=64) (show y<64 by omega) h
  have hF:Cx g (R,T,st++[(a:Int)],Lf)=some (.next (J6 64 false R y true,J6 64 (0:Int) T a ((t+1:Nat):Int),(st++[(a:Int)])++[(y:Int)],Lf)):=by
   rw[VP (by omega) (by omega),Ai hs]
   rfl
  obtain⟨R1,T1,b1,b2,b3,b4,b5⟩:=ih1 (J6 64 false R y true) (J6 64 (0:Int) T a ((t+1:Nat):Int)) (st++[(a:Int)]) Lf y 0 hR.set h3 (by simp)
   (by rw[Ni (by omega),if_neg hay];exact hz y (by omega) h) (Lb _) (upd_true.2 (.inl rfl))
   (λz hz1 hz2=>by
    obtain⟨c1,c2⟩:=upd_false.1 hz2;rw[Ni hz1,if_neg (by rintro rfl;rw[hsa]at c2;cases c2)]
    exact hz z hz1 c2) (by rw[Es,T0];omega)
  rw[if_neg (by simp)]at b5
  have hTa:T1.getD a 0=((t+1:Nat):Int):=by rw[b3 a (by omega) (upd_true.2 (.inr hsa)) (Hg hay),Ni (by omega),if_pos rfl]
  rw[Es,T0]at b4;obtain⟨R2,T2,c1,c2,c3,c4,c5⟩:=ih2 R1 T1 st (Lf++Pg o1++[(y:Int)]) a (t+1) b1 ha h4 hTa (by rw[hlenS];omega) ((tl.seen a).2 (.inl (upd_true.2 (.inr hsa)))) b2
   (by simp only[Es,T0,Pg,M6];omega)
  refine⟨R2,T2,c1,c2,λz hz1 hz2 hz3=>?_,?_,?_⟩
  ·rw[c3 z hz1 ((tl.seen z).2 (.inl (upd_true.2 (.inr hz2)))) hz3,b3 z hz1 (upd_true.2 (.inr hz2)) (by rintro rfl;rw[h]at hz2;cases hz2),Ni hz1,if_neg hz3]
  ·simp only[Es,T0,Pg,M6,M5]at c4 ⊢;omega
  ·rw[Ap hF,b5,c5]
   have e:Lf++Pg o1++[(y:Int)]++Pg o2++[(a:Int)]=Lf++Pg (o1++y::o2)++[(a:Int)]:=by simp[Pg]
   rw[e]
theorem Vh{L:List (List Int)}(h:Ly L=true):∀ z,z<L.length->∀ y∈sN L z,y<L.length:=λz hz y hy=>by
 obtain⟨_,_,h3⟩:=mayS_iff.1 h;obtain⟨x,hx,rfl⟩:=zzL26.1 hy;have:=WV (h3 z hz) hx;omega
theorem gi{r:Nat}(hr:r<64):ND 64 (one r)=63:=by
 have h:=Ud (n:=64) (s:=λ_=>false) hr rfl
 have e:upd (λ_=>false) r=one r:=by funext z;simp[upd,one]
 rw[e]at h
 have:ND 64 (λ_=>false)=64:=by decide
 omega
theorem N2{α:Type}{n z:Nat}{d:α}:(List.replicate n d).getD z d=d:=by rw[Qa,List.getElem?_replicate];split<;>rfl
theorem LW(g:C2)(h:Fits g.Succ)(hP:True)(r:Int) :
  (Yz g=true->0<=r->r<(g.Succ.length:Int)->∀ L,Ord (sN g.Succ) r.toNat L->Gz g r=some (Pg L)) /\
  ((Yz g&&(decide (0<=r)&&decide (r<(g.Succ.length:Int))))=false->Gz g r=some []):=by
 refine⟨λhm h0 h1 L hL=>?_,λhf=>?_⟩
 ·have hms:Ly g.Succ=true:=by unfold Yz at hm;exact(A4 _ _▸hm).1
  obtain⟨hL1,hL64,hLok⟩:=mayS_iff.1 hms;obtain⟨s',o,hv,rfl⟩:=hL;have hrn:((r.toNat:Nat):Int)=r:=Vn h0
  have hr:r.toNat<g.Succ.length:=by omega
  obtain⟨R',T',_,_,_,_,hmain⟩:=UA hms hv (J6 64 false (List.replicate 64 false) r.toNat true) (List.replicate 64 (0:Int)) [] [] r.toNat 0
   (λz hz=>by rw[Ni hz,N2];by_cases hzr:z=r.toNat<;>simp[one,hzr]) hr (by simp) N2 (Lb _) (by simp[one])
   (λz hz _=>N2) (by rw[gi (by omega)];simp)
  rw[if_pos rfl,hrn]at hmain;unfold Gz;rw[jb _ h,hm,Ar];simp only[Fi,Qc,Ae,Az,Px,Cw h0,Cw h1,Vr,Ar];rw[Ad ⟨h0,by omega⟩];have hF:∀ X,Ah (Cx g) (J6 64 false (List.replicate 64 false) r.toNat true,List.replicate 64 (0:Int),[]++[r],[])=some X->
    (Pp (Cx g (J6 64 false (List.replicate 64 false) r.toNat true,List.replicate 64 (0:Int),[r],[])) (Cx g)).bind (λx=>some x)=some X:=λX hX=>by
   rw[BD];rw[T4]at hX;rw[hX];rfl
  refine(hF _ hmain).trans ?_;simp only[T4,List.reverse_append,Pg,Bs,List.map_reverse,List.reverse_cons,List.reverse_nil]
  simp
  omega
 ·unfold Gz;rw[jb _ h,Ar]
  cases hm:Yz g with
  | false=>rfl
  | true=>
   rw[hm,Hj]at hf;simp only[Fi,Qc,Ae,Az,Px,hf,Ar,Kf]
   rfl
def RelN(n:Nat)(R:List Bool)(s:Nat->Bool):Prop:=R.length=n/\∀ z,z<n->R.getD z false=s z
theorem RelN.set{n:Nat}{R:List Bool}{s:Nat->Bool}(h:RelN n R s){y:Nat}(hy:y<n):RelN n (R.set y true) (upd s y):=by
 refine⟨by rw[H3];exact h.1,λz hz=>?_⟩;rw[Qa,List.getElem?_set]
 by_cases hzy:y=z
 ·subst hzy;simp[upd,h.1,hy]
 ·rw[if_neg hzy,<- Qa,h.2 z hz];simp[upd,Hg hzy]
theorem Lz:∀(n:Nat) (l:List Nat),l.Nodup->(∀ x∈l,x<n)->l.length<=n
 | 0,l,_,h=>by
  cases l with
  | nil=>simp
  | cons x l=>have:=h x (Jh ..);omega
 | n+1,l,hd,h=>by
  by_cases hn:n∈l
  ·have h1:=Lz n (l.erase n) (hd.erase n) λx hx=>by
    have h2:=(hd.mem_erase_iff).1 hx;have:=h x h2.2;have:=h2.1;omega
   rw[List.length_erase_of_mem hn]at h1;omega
  ·have h1:=Lz n l hd λx hx=>by
    have:=h x hx
    have:x≠n:=by rintro rfl;exact hn hx
    omega
   omega
theorem dQ{p:Nat->Bool}{n:Nat}{x:Int}:x∈((List.range n).filter p).map Int.ofNat↔∃ k:Nat,x=(k:Int)/\k<n/\p k=true:=by
 simp only[zzL26,zzL64,zzL36]
 constructor
 ·rintro⟨k,⟨h1,h2⟩,rfl⟩;exact⟨k,rfl,h1,h2⟩
 ·rintro⟨k,rfl,h1,h2⟩;exact⟨k,⟨h1,h2⟩,rfl⟩
theorem cw{L:List (List Int)}{k i:Nat}:AK L k i=true↔(i:Int)∈L.getD k []:=by unfold AK;rw[GH]
def mk(o:List Bool)(l:List Nat):List Bool:=l.foldl (λo y=>o.set y true) o
theorem ks(l:List Nat):∀ o:List Bool,(mk o l).length=o.length:=by
 induction l with
 | nil=>intro o;rfl
 | cons y l ih=>intro o;show(mk (o.set y true) l).length=_;rw[ih,H3]
theorem mk_at{n:Nat}(l:List Nat):∀(o:List Bool),o.length=n->(∀ y∈l,y<n)->∀ z,(mk o l).getD z false=true↔o.getD z false=true\/z∈l:=by
 induction l with
 | nil=>intro o _ _ z;simp[mk]
 | cons y l ih=>
  intro o ho hl z
  show(mk (o.set y true) l).getD z false=true↔_
  rw[ih (o.set y true) (by rw[H3];exact ho) (λu hu=>hl u (Fc _ hu)) z];have hy:=hl y (Jh ..)
  have e:(o.set y true).getD z false=true↔o.getD z false=true\/z=y:=by
   rw[Qa,List.getElem?_set,Qa]
   by_cases h:y=z
   ·subst h;simp[ho,hy]
   ·simp[h,Hg h]
  rw[e,zzL24]
  constructor
  ·rintro((h|h)|h)
   ·exact .inl h
   ·exact .inr (.inl h)
   ·exact .inr (.inr h)
  ·rintro(h|h|h)
   ·exact .inl (.inl h)
   ·exact .inl (.inr h)
   ·exact .inr h
def sw(S:Nat->List Nat)(o:List Bool):Nat->List Bool
 | 0=>o
 | i+1=>if(sw S o i).getD i false=true then mk (sw S o i) (S i) else sw S o i
def JK(S:Nat->List Nat)(n:Nat)(o:List Bool):Nat->List Bool
 | 0=>o
 | j+1=>sw S (JK S n o j) n
section
variable {S:Nat->List Nat} {n:Nat} (hS:∀ z,z<n->∀ y∈S z,y<n)
theorem Zm(o:List Bool):∀ i,(sw S o i).length=o.length:=by
 intro i
 induction i with
 | zero=>rfl
 | succ i ih=>unfold sw;split;rw[ks,ih];exact ih
theorem ib(o:List Bool):∀ j,(JK S n o j).length=o.length:=by
 intro j
 induction j with
 | zero=>rfl
 | succ j ih=>unfold JK;rw[Zm,ih]
include hS
theorem CW{o:List Bool}(ho:o.length=n):∀ i,i<=n->∀ z,o.getD z false=true->(sw S o i).getD z false=true:=by
 intro i
 induction i with
 | zero=>intro _ z h;exact h
 | succ i ih=>
  intro hi z h;unfold sw
  split
  ·exact(mk_at (n:=n) _ _ (by rw[Zm];exact ho) (hS i (by omega)) z).2 (.inl (ih (by omega) z h))
  ·exact ih (by omega) z h
theorem eI{o:List Bool}{r:Nat}(ho:o.length=n)(h:∀ z,o.getD z false=true->Rch S r z):∀ i,i<=n->∀ z,(sw S o i).getD z false=true->Rch S r z:=by
 intro i
 induction i with
 | zero=>intro _ z hz;exact h z hz
 | succ i ih=>
  intro hi z hz;unfold sw at hz
  split at hz
  ·rename_i hsi
   rcases(mk_at (n:=n) _ _ (by rw[Zm];exact ho) (hS i (by omega)) z).1 hz with h1|h1
   ·exact ih (by omega) z h1
   ·exact(ih (by omega) i hsi).tail h1
  ·exact ih (by omega) z hz
theorem iq{o:List Bool}(ho:o.length=n):∀ i,i<=n->∀ j,j<i->o.getD j false=true->∀ y∈S j,(sw S o i).getD y false=true:=by
 intro i
 induction i with
 | zero=>intro _ j hj;omega
 | succ i ih=>
  intro hi j hj hoj y hy;unfold sw
  by_cases hji:j=i
  ·subst hji;have h1:=CW hS ho j (by omega) j hoj;rw[if_pos h1];exact(mk_at (n:=n) _ _ (by rw[Zm];exact ho) (hS j (by omega)) y).2 (.inr hy)
  ·have h1:=ih (by omega) j (by omega) hoj y hy
   split
   ·exact(mk_at (n:=n) _ _ (by rw[Zm];exact ho) (hS i (by omega)) y).2 (.inl h1)
   ·exact h1
theorem au{o:List Bool}(ho:o.length=n)(hc:∀ j,j<n->o.getD j false=true->∀ y∈S j,o.getD y false=true):∀ i,i<=n->∀ z,(sw S o i).getD z false=true->o.getD z false=true:=by
 intro i
 induction i with
 | zero=>intro _ z h;exact h
 | succ i ih=>
  intro hi z hz;unfold sw at hz
  split at hz
  ·rename_i hsi
   rcases(mk_at (n:=n) _ _ (by rw[Zm];exact ho) (hS i (by omega)) z).1 hz with h1|h1
   ·exact ih (by omega) z h1
   ·exact hc i (by omega) (ih (by omega) i hsi) z h1
  ·exact ih (by omega) z hz
theorem Xy{r:Nat}(hr:r<n)(z:Nat):(JK S n ((List.replicate n false).set r true) n).getD z false=true↔Rch S r z:=by
 let o0:=(List.replicate n false).set r true
 have ho0:o0.length=n:=by simp[o0]
 have hat0:∀ z,o0.getD z false=true↔z=r:=λz=>by
  show((List.replicate n false).set r true).getD z false=true↔z=r
  rw[Qa,List.getElem?_set]
  by_cases h:r=z
  ·subst h;simp[hr]
  ·rw[if_neg h,<- Qa,N2];simp[Hg h]
 have hlen:∀ j,(JK S n o0 j).length=n:=λj=>by rw[ib,ho0]
 have hsound:∀ j z,(JK S n o0 j).getD z false=true->Rch S r z:=by
  intro j
  induction j with
  | zero=>intro z hz;rw[(hat0 z).1 hz];exact .refl _
  | succ j ih=>intro z hz;exact eI hS (hlen j) ih n (zzL8 _) z hz
 have hmono:∀ j,∀ z,o0.getD z false=true->(JK S n o0 j).getD z false=true:=by
  intro j
  induction j with
  | zero=>intro z h;exact h
  | succ j ih=>intro z h;exact CW hS (hlen j) n (zzL8 _) z (ih z h)
 let C:Nat->Prop:=λj=>∀ i,i<n->(JK S n o0 j).getD i false=true->∀ y∈S i,(JK S n o0 j).getD y false=true
 have key:∀ j,C j\/ND n (λz=>(JK S n o0 j).getD z false)+j+1<=n:=by
  intro j
  induction j with
  | zero=>
   refine .inr ?_;have h1:=Ud (n:=n) (s:=λ_=>false) hr rfl
   have e:upd (λ_=>false) r=λz=>(JK S n o0 0).getD z false:=by
    funext z
    rw[N9,upd_true]
    show _↔o0.getD z false=true
    rw[hat0]
    simp
   rw[e]at h1
   have hcl:ND n (λ_=>false)=n:=by
    unfold ND;rw[List.filter_eq_self.2 (by simp)]
    simp
   omega
  | succ j ih=>
   by_cases hc:C j
   ·refine .inl λi hi h y hy=>?_;have h1:=au hS (hlen j) hc n (zzL8 _) i h;exact CW hS (hlen j) n (zzL8 _) y (hc i hi h1 y hy)
   ·rcases ih with ih|ih
    ·exact(hc ih).elim
    ·refine .inr ?_
     have hex:∃ i,i<n/\(JK S n o0 j).getD i false=true/\∃ y,y∈S i/\(JK S n o0 j).getD y false=false:=by
      simp only[C]at hc;simp only[Classical.not_forall]at hc;obtain⟨i,hi,h1,y,hy,h2⟩:=hc;exact⟨i,hi,h1,y,hy,by simpa using h2⟩
     obtain⟨i,hi,h1,y,hy,h2⟩:=hex;have h3:=iq hS (hlen j) n (zzL8 _) i hi h1 y hy;have hyn:=hS i hi y hy;have h4:=Ud (n:=n) (s:=λz=>(JK S n o0 j).getD z false) hyn h2
     have h5:ND n (λz=>(JK S n o0 (j+1)).getD z false)<=ND n (upd (λz=>(JK S n o0 j).getD z false) y):=OC λz hz=>by
      rcases upd_true.1 hz with rfl|hz
      ·exact h3
      ·exact CW hS (hlen j) n (zzL8 _) z hz
     omega
 have hC:C n:=by
  rcases key n with h|h
  ·exact h
  ·omega
 constructor
 ·exact hsound n z
 ·intro hrch
  have hlt:∀ x z,Rch S x z->x<n->z<n/\((JK S n o0 n).getD x false=true->(JK S n o0 n).getD z false=true):=by
   intro x z hxz
   induction hxz with
   | refl x=>exact λhx=>⟨hx,id⟩
   | @head x y z hy _ ih=>
    intro hx;have:=ih (hS x hx y hy);exact⟨this.1,λh=>this.2 (hC x hx h y hy)⟩
  exact(hlt r z hrch hr).2 (hmono n r ((hat0 r).2 rfl))
end
def pos:List Nat->Nat->Nat
 | [],_=>0
 | x::l,z=>if x=z then 0 else pos l z+1
theorem FD(x:Nat)(l:List Nat)(z:Nat):pos (x::l) z=if x=z then 0 else pos l z+1:=rfl
theorem iX{A l:List Nat}{z:Nat}(h:z∉A):pos (A++l) z=A.length+pos l z:=by
 induction A with
 | nil=>simp
 | cons x A ih=>
  have h1:x≠z:=λe=>h (by rw[e];exact Jh ..);have h2:z∉A:=λe=>h (Fc _ e);rw[BI,FD,if_neg h1,ih h2,M5];omega
theorem CR{P:List Nat}(hd:P.Nodup){i:Nat}(hi:i<P.length):P[i]∉P.take i/\pos P P[i]=i:=by
 have e:P=P.take i++P[i]::P.drop (i+1):=by rw[<- O8 hi,List.take_append_drop]
 have hn:P[i]∉P.take i:=by
  rw[e]at hd;have:=(List.nodup_append.1 hd).2.2;exact λhm=>this _ hm _ (Jh ..) rfl
 refine⟨hn,?_⟩
 have h2:pos (P.take i++P[i]::P.drop (i+1)) P[i]=i:=by
  rw[iX hn]
  have:pos (P[i]::P.drop (i+1)) P[i]=0:=by rw[FD,if_pos rfl]
  rw[this,Wl];omega
 rw[<- e]at h2;exact h2
theorem OE(d:Array Int)(hs:∀ i j,i<=j->j<d.size->d[i]!<=d[j]!):∀ m,m<=d.size->(∀ x∈Lib.compactUpTo d m,∃ j,j<m/\x=d[j]!)/\(∀ j,j<m->d[j]!∈Lib.compactUpTo d m)/\(Lib.compactUpTo d m).Pairwise (·<·):=by
 intro m
 induction m with
 | zero=>intro _;exact⟨(λx hx=>by simp[Lib.compactUpTo]at hx),(λj hj=>by omega),by simp[Lib.compactUpTo]⟩
 | succ m ih=>
  intro hm;obtain⟨h1,h2,h3⟩:=ih (by omega);rw[Lib.compactUpTo_succ]
  cases hk:Lib.keeps d m with
  | true=>
   rw[if_pos rfl];refine⟨λx hx=>?_,λj hj=>?_,?_⟩
   ·rcases zzL11.1 hx with h|h
    ·obtain⟨j,hj,he⟩:=h1 x h;exact⟨j,by omega,he⟩
    ·exact⟨m,by omega,by simpa using h⟩
   ·by_cases hjm:j=m
    ·subst hjm;simp
    ·exact zzL11.2 (.inl (h2 j (by omega)))
   ·rw[zzL126];refine⟨h3,List.pairwise_singleton _ _,λx hx y hy=>?_⟩;obtain⟨j,hj,rfl⟩:=h1 x hx
    have hy':y=d[m]!:=by simpa using hy
    subst hy'
    have hk':m=0\/d[m]!≠d[m-1]!:=by simpa [Lib.keeps] using hk
    rcases hk' with h0|h0
    ·omega
    ·have a1:=hs j (m-1) (by omega) (by omega);have a2:=hs (m-1) m (by omega) (by omega);omega
  | false=>
   have hk':m≠0/\d[m]! = d[m-1]!:=by
    have:¬ (m=0\/d[m]!≠d[m-1]!):=by
     intro h
     have:Lib.keeps d m=true:=by simpa [Lib.keeps] using h
     rw[hk]at this;cases this
    exact⟨λh=>this (.inl h),Classical.not_not.1 λh=>this (.inr h)⟩
   simp only[X8,Ex,List.append_nil];refine⟨λx hx=>by obtain⟨j,hj,he⟩:=h1 x hx;exact⟨j,by omega,he⟩,λj hj=>?_,h3⟩
   by_cases hjm:j=m
   ·subst hjm;rw[hk'.2];exact h2 _ (by omega)
   ·exact h2 j (by omega)
def FN(l:List Int):List Int:=Lib.compact (l.mergeSort λx y=>decide (x<=y))
theorem ak(l:List Int):(FN l).Pairwise (·<·)/\∀ x,x∈FN l↔x∈l:=by
 unfold FN Lib.compact;have hp:(l.mergeSort λx y=>decide (x<=y)).Pairwise (λa b=>decide (a<=b)=true):=List.pairwise_mergeSort (λa b c h1 h2=>by simp at *;omega) (λa b=>by simp;omega) l;have hm:∀ x,x∈(l.mergeSort λx y=>decide (x<=y))↔x∈l:=λx=>List.mem_mergeSort
 generalize l.mergeSort (λx y=>decide (x<=y))=z at hp hm ⊢
 have hz:∀ j,j<z.length->z.toArray[j]! = z.getD j 0:=λj hj=>by simp[List.getD,hj]
 obtain⟨h1,h2,h3⟩:=OE z.toArray (λi j hij hj=>by
  have hj':j<z.length:=by simpa using hj
  rw[hz i (by omega),hz j hj']
  by_cases he:i=j
  ·rw[he];exact Int.le_refl _
  ·have:=(zzL98.1 hp) i j (by omega) hj' (by omega);rw[Ab _ _ _ (by omega),Ab _ _ _ hj']
   simpa using this) z.length (by simp)
 refine⟨h3,λx=>?_⟩;rw[<- hm x]
 constructor
 ·intro hx;obtain⟨j,hj,rfl⟩:=h1 x hx;rw[hz j hj];exact getD_mem hj
 ·intro hx;obtain⟨j,hj,rfl⟩:=Ll hx;have:=h2 j hj;rwa[hz j hj,Ab _ _ _ hj]at this
def jo(n:Nat)(l:List Int):Bool:=(List.range l.length).all λi=>decide (0<l.getD i 0)&&decide (l.getD i 0<(n:Int))
def jp(k:Int):Int:=([0,1,2,0]:List Int).getD k.toNat 0
def OU(e:Ge):Bool:=(decide (0<=e.Kind)&&decide (e.Kind<=3))&&decide ((e.To.length:Int)=jp e.Kind)
def Nt(e:Ge)(n:Nat):Bool:=OU e&&jo n e.To
theorem toB_iff{n:Nat}{l:List Int}:jo n l=true↔∀ x∈l,0<x/\x<n:=by
 unfold jo;rw[all_range];simp only[A4,D0]
 constructor
 ·intro h x hx;obtain⟨i,hi,rfl⟩:=Ll hx;have:=h i hi;rwa[Ab _ _ _ hi]at this
 ·intro h i hi;exact h _ (getD_mem hi)
theorem cY(e:Ge)(n:Nat)(hl:e.To.length<4611686018427387904):Ah (B5 e (n:Int)) (0:Int)=some (bif jo n e.To then .inl () else .inr false):=by
 have step:∀ j:Nat,j<e.To.length->B5 e (n:Int) (j:Int)=bif (decide (0<e.To.getD j 0)&&decide (e.To.getD j 0<(n:Int))) then some (.next (((j+1:Nat):Int))) else some (.done (.inr false)):=λj hj=>by
  unfold B5;simp only[A5,F0 hj,Ae,Px,w1 (show j<4611686018427387904 by omega)];rw[Ad (Je hj)]
  by_cases h0:e.To.getD j 0=0
  ·rw[h0];rfl
  ·have:(e.To.getD j 0==0)=false:=by rw[zzL25];exact h0
   rw[this];simp only[Qc,Ae,Az,Ar]
   have e1:decide (0<e.To.getD j 0)=decide (0<=e.To.getD j 0):=by apply zzL106.2;omega
   rw[e1]
   cases(decide (0<=e.To.getD j 0)&&decide (e.To.getD j 0<(n:Int)))<;>rfl
 have:=Lt (B5 e (n:Int)) (λj=>((j:Nat):Int)) (λi=>decide (0<e.To.getD i 0)&&decide (e.To.getD i 0<(n:Int))) (.inl ()) (.inr false) e.To.length (λj hj hp=>?_) (λj hj hp=>?_) ?_
 ·exact this
 ·show B5 e (n:Int) (j:Int)=_
  rw[step j hj,hp];rfl
 ·show B5 e (n:Int) (j:Int)=_
  rw[step j hj,hp];rfl
 ·show B5 e (n:Int) _=_
  unfold B5;simp only[Kq,Az]
theorem W6(e:Ge)(n:Nat)(w:Int)(hw:0<=w/\w<=2) :
  (bif ((e.To.length:Int)!=w) then(some false) else((Ah (B5 e (n:Int)) (0:Int)).bind (λx10=>(match x10 with|(.inl _)=>(some true)|(.inr r12)=>(some r12)))))=some (decide ((e.To.length:Int)=w)&&jo n e.To):=by
 by_cases h:(e.To.length:Int)=w
 ·rw[show((e.To.length:Int)!=w)=false by simpa using h,Az,cY e n (by omega),Cw h]
  cases jo n e.To<;>rfl
 ·rw[show((e.To.length:Int)!=w)=true by simpa using h,Ae,C6 h];rfl
theorem ZL(e:Ge)(n:Nat):Jw e (n:Int)=some (Nt e n):=by
 unfold Jw Nt OU
 by_cases h0:e.Kind=0
 ·rw[h0];exact W6 e n 0 (by omega)
 by_cases h1:e.Kind=1
 ·rw[h1];exact W6 e n 1 (by omega)
 by_cases h2:e.Kind=2
 ·rw[h2];exact W6 e n 2 (by omega)
 by_cases h3:e.Kind=3
 ·rw[h3];exact W6 e n 0 (by omega)
 have e0:(e.Kind==0)=false:=by rw[zzL25];exact h0
 have e1:(e.Kind==1)=false:=by rw[zzL25];exact h1
 have e2:(e.Kind==2)=false:=by rw[zzL25];exact h2
 have e3:(e.Kind==3)=false:=by rw[zzL25];exact h3
 rw[e0,e1,e2,e3]
 have:(decide (0<=e.Kind)&&decide (e.Kind<=3))=false:=by
  by_cases h:0<=e.Kind
  ·rw[C6 (show ¬ e.Kind<=3 by omega)];simp
  ·rw[C6 h];rfl
 rw[this]
 rfl
theorem cf{e:Ge}{n:Nat}(h:Nt e n=true):e.To.length<=2:=by
 unfold Nt OU at h;simp only[A4,D0]at h;obtain⟨⟨⟨h0,h1⟩,h2⟩,_⟩:=h
 have:jp e.Kind<=2:=by
  have:e.Kind=0\/e.Kind=1\/e.Kind=2\/e.Kind=3:=by omega
  rcases this with h|h|h|h<;>rw[h]<;>decide
 omega
theorem gr{e:Ge}{n:Nat}(h:Nt e n=true):jo n e.To=true:=by unfold Nt at h;exact(A4 _ _▸h).2
def Ns(f:Aa)(i:Nat):Ge:=(f.Blocks.getD i (default:Ag)).End
def Er(f:Aa):List (List Int):=(List.range f.Blocks.length).map λi=>FN (Ns f i).To
def N5(f:Aa):Bool:=(decide (1<=f.Blocks.length)&&decide (f.Blocks.length<=64))&&(List.range f.Blocks.length).all λi=>Nt (Ns f i) f.Blocks.length
theorem shape_iff{f:Aa}:N5 f=true↔(1<=f.Blocks.length/\f.Blocks.length<=64)/\∀ i,i<f.Blocks.length->Nt (Ns f i) f.Blocks.length=true:=by
 unfold N5;rw[A4,A4,all_range];simp only[D0]
theorem ik{f:Aa}{i:Nat}(h:Nt (Ns f i) f.Blocks.length=true):fU f.Blocks.length (FN (Ns f i).To)=true:=by
 obtain⟨h1,h2⟩:=ak (Ns f i).To;exact kv (λx hx=>by have:=(toB_iff.1 (gr h)) x ((h2 x).1 hx);omega) h1
theorem Tj{f:Aa}(h:N5 f=true):Ly (Er f)=true:=by
 obtain⟨⟨h1,h2⟩,h3⟩:=shape_iff.1 h
 have hl:(Er f).length=f.Blocks.length:=by simp[Er]
 refine mayS_iff.2 ⟨by omega,by omega,λi hi=>?_⟩;rw[hl]at hi ⊢;unfold Er;rw[Qs hi];exact ik (h3 i hi)
theorem oH(f:Aa)(hf:f.Blocks.length<=maxLen):Qz f=some (bif N5 f then(Yi (Er f),0) else(g0,5)):=by
 have hroom:(1000:Nat)<=room:=by decide
 unfold Qz;rw[IV,Ar];have hsh:N5 f=((decide (1<=f.Blocks.length)&&decide (f.Blocks.length<=64))&&(List.range f.Blocks.length).all λi=>Nt (Ns f i) f.Blocks.length):=rfl
 cases hc:(decide (1<=f.Blocks.length)&&decide (f.Blocks.length<=64)) with
 | false=>rw[hsh,hc];rfl
 | true=>
  have hc':=hc;simp only[A4,D0]at hc';simp only[Fi,Az];rw[Ad ⟨by omega,Int.le_refl _,by omega⟩,A5]
  let U:Nat->List (List Int):=λi=>(List.range f.Blocks.length).map λj=>if j<i then FN (Ns f j).To else[]
  have e0:List.replicate f.Blocks.length ([]:List Int)=U 0:=by
   simp only[U]
   apply List.ext_getElem?
   intro j
   by_cases hj:j<f.Blocks.length<;>simp[hj,List.getElem?_replicate]
  have eN:U f.Blocks.length=Er f:=by
   simp only[U,Er]
   apply Py
   intro j hj;rw[if_pos hj]
  rw[e0]
  have hstep:∀ i:Nat,i<f.Blocks.length->E1 f ((i:Int),U i)=bif Nt (Ns f i) f.Blocks.length then some (.next (((i+1:Nat):Int),U (i+1))) else some (.done (.inr (g0,5))):=λi hi=>by
   unfold E1;simp only[F0 hi,Ae,A5];rw[Ad (Je hi)];have he:(⟨(f.Blocks.getD i (default:Ag)).End.Kind,(f.Blocks.getD i (default:Ag)).End.Arg,(f.Blocks.getD i (default:Ag)).End.To⟩:Ge)=Ns f i:=rfl;rw[he,ZL,Ar]
   cases hfit:Nt (Ns f i) f.Blocks.length with
   | false=>rfl
   | true=>
    have hl2:=cf hfit;simp only[Fi,Az,Ae]
    have hx:X6 (f.Blocks.getD i (default:Ag)).End.To=some (FN (Ns f i).To):=by
     unfold X6;rw[WQ,Ad (by show(Ns f i).To.length<=_;omega)]
     rfl
    rw[hx,Ar,Ad (Je (by simp[U];omega)),w1 (by omega)]
    congr 3
    simp only[U];rw[MM]
    apply Py
    intro j hj
    by_cases h1:j=i
    ·subst h1;rw[if_pos rfl,if_pos (by omega)]
    ·rw[if_neg h1]
     by_cases h2:j<i
     ·rw[if_pos h2,if_pos (by omega)]
     ·rw[if_neg h2,if_neg (by omega)]
  have:=Lt (E1 f) (λi=>(((i:Nat):Int),U i)) (λi=>Nt (Ns f i) f.Blocks.length) (.inl (U f.Blocks.length)) (.inr (g0,5)) f.Blocks.length (λi hi hp=>?_) (λi hi hp=>?_) ?_
  ·rw[show Ah (E1 f) ((0:Int),U 0)=_ from this,hsh,hc,eN,Hj]
   cases hall:(List.range f.Blocks.length).all λi=>Nt (Ns f i) f.Blocks.length with
   | false=>rfl
   | true=>
    simp only[Ae,Ar];rw[PE _ (Tj (by rw[hsh,hc,hall];rfl))]
    rfl
  ·show E1 f (_,_)=_
   rw[hstep i hi,hp];rfl
  ·show E1 f (_,_)=_
   rw[hstep i hi,hp];rfl
  ·show E1 f (_,_)=_
   unfold E1;simp only[Kq,Az]
inductive Rc (S:Nat->List Nat) (r:Nat):Nat->Prop
 | root:Rc S r r
 | step {x y:Nat} (h:Rc S r x) (hy:y∈S x):Rc S r y
inductive Av (S:Nat->List Nat) (r z:Nat):Nat->Prop
 | root (h:r≠z):Av S r z r
 | step {x y:Nat} (h:Av S r z x) (hy:y∈S x) (hz:y≠z):Av S r z y
inductive AvN (S:Nat->List Nat) (r z:Nat):Nat->Nat->Prop
 | root (h:r≠z) (k:Nat):AvN S r z k r
 | step {k x y:Nat} (h:AvN S r z k x) (hy:y∈S x) (hz:y≠z):AvN S r z (k+1) y
section
variable {S:Nat->List Nat} {r:Nat}
theorem rc_iff{x:Nat}:Rc S r x↔Rch S r x:=by
 constructor
 ·intro h
  induction h with
  | root=>exact .refl _
  | step _ hy ih=>exact ih.tail hy
 ·intro h
  have key:∀ a b,Rch S a b->Rc S r a->Rc S r b:=by
   intro a b hab
   induction hab with
   | refl x=>exact id
   | head hy _ ih=>exact λha=>ih (.step ha hy)
  exact key _ _ h .root
def wo(S:Nat->List Nat)(z:Nat):Nat->List Nat:=λx=>(S x).filter λy=>decide (y≠z)
theorem av_iff{z x:Nat}:Av S r z x↔r≠z/\Rch (wo S z) r x:=by
 constructor
 ·intro h
  induction h with
  | root h=>exact⟨h,.refl _⟩
  | step _ hy hz ih=>exact⟨ih.1,ih.2.tail (zzL64.2 ⟨hy,by simpa using hz⟩)⟩
 ·rintro⟨hr,h⟩
  have key:∀ a b,Rch (wo S z) a b->Av S r z a->Av S r z b:=by
   intro a b hab
   induction hab with
   | refl x=>exact id
   | head hy _ ih=>
    obtain⟨h1,h2⟩:=zzL64.1 hy;exact λha=>ih (.step ha h1 (by simpa using h2))
  exact key _ _ h (.root hr)
theorem Av.rc{z x:Nat}(h:Av S r z x):Rc S r x:=by
 induction h with
 | root _=>exact .root
 | step _ hy _ ih=>exact .step ih hy
theorem Av.ne{z x:Nat}(h:Av S r z x):x≠z:=by
 cases h with
 | root h=>exact h
 | step _ _ hz=>exact hz
theorem AvN.av{z k x:Nat}(h:AvN S r z k x):Av S r z x:=by
 induction h with
 | root h=>exact .root h
 | step _ hy hz ih=>exact .step ih hy hz
theorem AvN.up{z k x:Nat}(h:AvN S r z k x):AvN S r z (k+1) x:=by
 induction h with
 | root h k=>exact .root h _
 | step _ hy hz ih=>exact .step ih hy hz
theorem AvN.mono{z k m x:Nat}(h:AvN S r z k x)(hm:k<=m):AvN S r z m x:=by
 obtain⟨d,rfl⟩:=Nat.exists_eq_add_of_le hm;clear hm
 induction d with
 | zero=>exact h
 | succ d ih=>exact ih.up
theorem Av.avn{z x:Nat}(h:Av S r z x):∃ k,AvN S r z k x:=by
 induction h with
 | root h=>exact⟨0,.root h 0⟩
 | step _ hy hz ih=>obtain⟨k,hk⟩:=ih;exact⟨k+1,.step hk hy hz⟩
theorem AvN.via {z k x : Nat} (h : AvN S r z k x) (y : Nat) : AvN S r y k x ∨ AvN S r z k y := by
  induction h with
  | root h k => by_cases hy : r = y
                · subst hy; exact .inr (.root h _)
                · exact .inl (.root hy _)
  | @step k x w h hy hz ih =>
    rcases ih with h1 | h1
    · by_cases hw : w = y
      · subst hw; exact .inr (.step h hy hz)
      · exact .inl (.step h1 hy hw)
    · exact .inr h1.up
theorem YJ(n:Nat):∃ K,∀ z,z<n->∀ x,x<n->Av S r z x->AvN S r z K x:=by
 have one:∀ z m,∃ K,∀ x,x<m->Av S r z x->AvN S r z K x:=by
  intro z m
  induction m with
  | zero=>exact⟨0,λx hx=>absurd hx (M7 x)⟩
  | succ m ih=>
   obtain⟨K,hK⟩:=ih
   by_cases h:Av S r z m
   ·obtain⟨k,hk⟩:=h.avn;refine⟨max K k,λx hx ha=>?_⟩;rcases zzL116.1 hx with h1|rfl
    ·exact(hK x h1 ha).mono (Nat.le_max_left ..)
    ·exact hk.mono (Nat.le_max_right ..)
   ·refine⟨K,λx hx ha=>?_⟩;rcases zzL116.1 hx with h1|rfl
    ·exact hK x h1 ha
    ·exact absurd ha h
 have two:∀ m,∃ K,∀ z,z<m->∀ x,x<n->Av S r z x->AvN S r z K x:=by
  intro m
  induction m with
  | zero=>exact⟨0,λx hx=>absurd hx (M7 x)⟩
  | succ m ih=>
   obtain⟨K,hK⟩:=ih;obtain⟨k,hk⟩:=one m n;refine⟨max K k,λz hz x hx ha=>?_⟩;rcases zzL116.1 hz with h1|rfl
   ·exact(hK z h1 x hx ha).mono (Nat.le_max_left ..)
   ·exact(hk x hx ha).mono (Nat.le_max_right ..)
 exact two n
end
inductive UpTo (par:Nat->Int):Nat->Nat->Prop
 | refl (x:Nat):UpTo par x x
 | up {x y z:Nat} (h:par x=(y:Int)) (t:UpTo par y z):UpTo par x z
inductive Fw (S:Nat->List Nat) (at_:Nat->Nat) (u:Nat):Nat->Prop
 | refl:Fw S at_ u u
 | step {v w:Nat} (h:Fw S at_ u v) (hw:w∈S v) (hl:at_ v<at_ w):Fw S at_ u w
section
variable {S:Nat->List Nat} {at_:Nat->Nat} {par:Nat->Int}
theorem Fw.le{u w:Nat}(h:Fw S at_ u w):at_ u<=at_ w:=by
 induction h with
 | refl=>exact zzL8 _
 | step _ _ hl ih=>omega
theorem Fw.trans{u v w:Nat}(h:Fw S at_ u v)(k:Fw S at_ v w):Fw S at_ u w:=by
 induction k with
 | refl=>exact h
 | step _ hw hl ih=>exact .step ih hw hl
theorem Fw.av{r d u w:Nat}(h:Fw S at_ u w)(ha:Av S r d u)(hd:at_ d<at_ u):Av S r d w:=by
 induction h with
 | refl=>exact ha
 | @step v w h hw hl ih=>exact .step ih hw (by rintro rfl;have:=h.le;omega)
theorem UpTo.trans{x y z:Nat}(h:UpTo par x y)(k:UpTo par y z):UpTo par x z:=by
 induction h with
 | refl x=>exact k
 | up h _ ih=>exact .up h (ih k)
theorem anc_up{x p z:Nat}(h:par x=(p:Int)):UpTo par x z↔z=x\/UpTo par p z:=by
 constructor
 ·intro k
  cases k with
  | refl=>exact .inl rfl
  | up h' t=>rw[h]at h';cases Vs h';exact .inr t
 ·rintro(rfl|k)
  ·exact .refl _
  ·exact .up h k
theorem CD{x z:Nat}(h:∀ p:Nat,par x≠(p:Int)):UpTo par x z↔z=x:=by
 constructor
 ·intro k
  cases k with
  | refl=>rfl
  | up h' t=>exact absurd h' (h _)
 ·rintro rfl;exact .refl _
structure Inv(S:Nat->List Nat)(r n:Nat)(at_:Nat->Nat)(par:Nat->Int):Prop where
 top:par r = -1
 kind:∀ x,x<n->par x = -2\/x=r\/∃ z:Nat,par x=(z:Int)
 up:∀ x,x<n->∀ z:Nat,par x=(z:Int)->z<n/\par z≠-2/\at_ z<at_ x/\Fw S at_ z x
 rc:∀ x,x<n->par x≠-2->Rc S r x
 all:∀ x,x<n->par x≠-2->∀ d,¬ UpTo par x d->Av S r d x
end
section
variable {S:Nat->List Nat} {at_:Nat->Nat} {par:Nat->Int} {r n:Nat}
theorem Inv.anc(h:Inv S r n at_ par){x z:Nat}(k:UpTo par x z)(hx:x<n)(hp:par x≠-2):z<n/\par z≠-2/\at_ z<=at_ x/\Fw S at_ z x:=by
 induction k with
 | refl x=>exact⟨hx,hp,zzL8 _,.refl⟩
 | @up x y z hxy t ih=>
  obtain⟨h1,h2,h3,h4⟩:=h.up x hx y hxy;obtain⟨i1,i2,i3,i4⟩:=ih h1 h2;exact⟨i1,i2,by omega,i4.trans h4⟩
theorem Inv.root_anc(h:Inv S r n at_ par){z:Nat}:UpTo par r z↔z=r:=CD λp hp=>by rw[h.top]at hp;omega
theorem Inv.strict(h:Inv S r n at_ par){x z:Nat}(k:UpTo par x z)(hx:x<n)(hp:par x≠-2):z=x\/at_ z<at_ x:=by
 cases k with
 | refl=>exact .inl rfl
 | up hxy t=>
  obtain⟨h1,h2,h3,h4⟩:=h.up x hx _ hxy;obtain⟨i1,i2,i3,i4⟩:=h.anc t h1 h2;exact .inr (by omega)
theorem Inv.antisymm(h:Inv S r n at_ par){x z:Nat}(k:UpTo par x z)(m:UpTo par z x)(hx:x<n)(hp:par x≠-2):z=x:=by
 rcases h.strict k hx hp with rfl|h1
 ·rfl
 ·obtain⟨i1,i2,i3,i4⟩:=h.anc k hx hp;have:=(h.anc m i1 i2).2.2.1;omega
def MeetAt(par:Nat->Int)(a b m:Nat):Prop:=∀ w,UpTo par m w↔UpTo par a w/\UpTo par b w
theorem IW{a:Nat}:MeetAt par a a a:=λw=>by simp
theorem ZR{a b m:Nat}(h:MeetAt par a b m):MeetAt par b a m:=λw=>by rw[h w];exact And.comm
theorem Inv.meet_left(h:Inv S r n at_ par)(hinj:∀ x y,x<n->y<n->par x≠-2->par y≠-2->at_ x=at_ y->x=y){a b p m:Nat}(ha:a<n)(hpa:par a≠-2)(hb:b<n)(hpb:par b≠-2)(hab:a≠b)(hl:at_ b<=at_ a)(hp:par a=(p:Int))(k:MeetAt par p b m):MeetAt par a b m:=λw=>by
 rw[k w]
 constructor
 ·rintro⟨h1,h2⟩;exact⟨.up hp h1,h2⟩
 ·rintro⟨h1,h2⟩;rcases(anc_up hp).1 h1 with rfl|h1
  ·exfalso
   rcases h.strict h2 hb hpb with h3|h3
   ·exact hab h3
   ·omega
  ·exact⟨h1,h2⟩
end
section
variable {S:Nat->List Nat} {at_:Nat->Nat} {par:Nat->Int} {r n:Nat}
def K9(par:Nat->Int)(y:Nat)(v:Int):Nat->Int:=λx=>if x=y then v else par x
def RZ(S:Nat->List Nat)(n:Nat)(par:Nat->Int)(y z:Nat):Prop:=∀ w,UpTo par z w↔∀ p,p<n->y∈S p->par p≠-2->UpTo par p w
theorem AC{y:Nat}{v:Int}{x z:Nat}(k:UpTo par x z)(hy:¬ UpTo par x y):UpTo (K9 par y v) x z:=by
 induction k with
 | refl x=>exact .refl _
 | @up x q z h t ih=>
  have hxy:x≠y:=by rintro rfl;exact hy (.refl _)
  refine .up (y:=q) ?_ (ih λk=>hy (.up h k));unfold K9;rw[if_neg hxy];exact h
theorem NP{y:Nat}{v:Int}{x:Nat}(k:UpTo par x y):UpTo (K9 par y v) x y:=by
 induction k with
 | refl x=>exact .refl _
 | @up x q z h t ih=>
  by_cases hxy:x=z
  ·subst hxy;exact .refl _
  ·refine .up (y:=q) ?_ ih;unfold K9;rw[if_neg hxy];exact h
theorem anc_upd_inv{y:Nat}{v:Int}{x w:Nat}(k:UpTo (K9 par y v) x w):UpTo par x w\/(UpTo par x y/\UpTo (K9 par y v) y w):=by
 induction k with
 | refl x=>exact .inl (.refl _)
 | @up x q w h t ih=>
  by_cases hxy:x=y
  ·subst hxy;exact .inr ⟨.refl _,.up h t⟩
  ·unfold K9 at h;rw[if_neg hxy]at h;rcases ih with h1|⟨h1,h2⟩
   ·exact .inl (.up h h1)
   ·exact .inr ⟨.up h h1,h2⟩
theorem low_or{y:Nat}{v:Int}{x d:Nat}(k:UpTo par x y)(hd:UpTo par x d):UpTo par y d\/UpTo (K9 par y v) x d:=by
 induction k with
 | refl x=>exact .inl hd
 | @up x q y hq t ih=>
  by_cases e:x=y
  ·subst e;exact .inl hd
  ·rcases(anc_up hq).1 hd with rfl|k
   ·exact .inr (.refl _)
   ·rcases ih k with h1|h1
    ·exact .inl h1
    ·exact .inr (.up (y:=q) (by unfold K9;rw[if_neg e];exact hq) h1)
structure Better(S:Nat->List Nat)(r n:Nat)(at_:Nat->Nat)(par:Nat->Int)(y z:Nat):Prop where
 inv:Inv S r n at_ par
 hy:y<n
 hr:y≠r
 hz:z<n
 best:RZ S n par y z
 fwd:∃ p,p<n/\y∈S p/\par p≠-2/\at_ p<at_ y
variable {y z:Nat}
theorem Better.zlt(h:Better S r n at_ par y z):UpTo par z z/\par z≠-2/\at_ z<at_ y/\Fw S at_ z y:=by
 obtain⟨p,hp,hyp,hpp,hl⟩:=h.fwd;obtain⟨h1,h2,h3,h4⟩:=h.inv.anc ((h.best z).1 (.refl _) p hp hyp hpp) hp hpp;exact⟨.refl _,h2,by omega,.step h4 hyp hl⟩
theorem Better.above(h:Better S r n at_ par y z){w:Nat}:UpTo (K9 par y z) z w↔UpTo par z w:=by
 obtain⟨_,h2,h3,_⟩:=h.zlt
 have hn:¬ UpTo par z y:=λk=>by have:=(h.inv.anc k h.hz h2).2.2.1;omega
 constructor
 ·intro k;rcases anc_upd_inv k with h1|⟨h1,_⟩
  ·exact h1
  ·exact absurd h1 hn
 ·intro k;exact AC k hn
theorem Better.here(h:Better S r n at_ par y z){w:Nat}:UpTo (K9 par y z) y w↔w=y\/UpTo par z w:=by
 rw[anc_up (p:=z) (by simp[K9]),h.above]
theorem Better.av_here(h:Better S r n at_ par y z){d:Nat}(hd:¬ UpTo (K9 par y z) y d):Av S r d y:=by
 rw[h.here]at hd;have h1:¬ ∀ p,p<n->y∈S p->par p≠-2->UpTo par p d:=λhh=>hd (.inr ((h.best d).2 hh));simp only[Classical.not_forall]at h1;obtain⟨p,hp,hyp,hpp,hnp⟩:=h1;exact .step (h.inv.all p hp hpp d hnp) hyp λe=>hd (.inl e.symm)
theorem Better.inv'(h:Better S r n at_ par y z):Inv S r n at_ (K9 par y z):=by
 obtain⟨hzz,hz2,hzl,hzf⟩:=h.zlt;obtain⟨p,hp,hyp,hpp,hl⟩:=h.fwd
 have hne:∀ x,K9 par y z x≠-2->x=y\/par x≠-2:=λx hx=>by
  by_cases e:x=y
  ·exact .inl e
  ·unfold K9 at hx;rw[if_neg e]at hx;exact .inr hx
 have hyv:K9 par y z y=(z:Int):=by simp[K9]
 have hyo:∀ x,x≠y->K9 par y z x=par x:=λx e=>by unfold K9;rw[if_neg e]
 refine⟨by rw[hyo _ (Hg h.hr)];exact h.inv.top,λx hx=>?_,λx hx w hw=>?_,λx hx hxp=>?_,λx hx hxp d hd=>?_⟩
 ·by_cases e:x=y
  ·subst e;exact .inr (.inr ⟨z,hyv⟩)
  ·rw[hyo x e];exact h.inv.kind x hx
 ·have hzn:∀ w,par w≠-2->K9 par y z w≠-2:=λw hw=>by
   by_cases e:w=y
   ·subst e;rw[hyv];omega
   ·rw[hyo w e];exact hw
  by_cases e:x=y
  ·subst e;rw[hyv]at hw
   cases Vs hw
   exact⟨h.hz,hzn _ hz2,hzl,hzf⟩
  ·rw[hyo x e]at hw;obtain⟨h1,h2,h3,h4⟩:=h.inv.up x hx w hw;exact⟨h1,hzn _ h2,h3,h4⟩
 ·rcases hne x hxp with rfl|h1
  ·exact .step (h.inv.rc p hp hpp) hyp
  ·exact h.inv.rc x hx h1
 ·by_cases e:x=y
  ·subst e;exact h.av_here hd
  ·rw[hyo x e]at hxp
   by_cases hxd:UpTo par x d
   ·
    by_cases hxy:UpTo par x y
    ·have hyd:¬ UpTo (K9 par y z) y d:=λk=>hd ((NP hxy).trans k);have hav:=h.av_here hyd;have hf:=(h.inv.anc hxy hx hxp).2.2.2
     have hdy:UpTo par y d:=by
      rcases low_or (v:=(z:Int)) hxy hxd with h1|h1
      ·exact h1
      ·exact absurd h1 hd
     by_cases hpy:par y = -2
     ·
      have:d=y:=by
       refine(CD (par:=par) λp hp=>?_).1 hdy;rw[hpy]at hp;omega
      subst this;exact absurd (.refl _) hyd
     ·rcases h.inv.strict hdy h.hy hpy with rfl|hlt
      ·exact absurd (.refl _) hyd
      ·exact hf.av hav hlt
    ·exact absurd (AC hxd hxy) hd
   ·exact h.inv.all x hx hxp d hxd
end
section
variable {S:Nat->List Nat} {at_:Nat->Nat} {par:Nat->Int} {r n:Nat}
def QB(S:Nat->List Nat)(r n:Nat)(par:Nat->Int)(b:Nat->Nat):Prop:=∀ x,x<n->par x≠-2->∀ z,AvN S r z (b x) x->¬ UpTo par x z
def SA(S:Nat->List Nat)(r n:Nat)(par:Nat->Int):Prop:=∀ x,x<n->Rc S r x->par x≠-2
def VO(S:Nat->List Nat)(r n:Nat)(par:Nat->Int):Prop:=∀ x,x<n->par x≠-2->∀ d,UpTo par x d↔¬ Av S r d x
theorem ia(h:Inv S r n at_ par):QB S r n par λ_=>0:=λx hx hp z hz k=>by
 cases hz with
 | root hr _=>exact hr (h.root_anc.1 k).symm
theorem XB(hS:∀ x,x<n->∀ w∈S x,w<n)(hr:r<n){x:Nat}(h:Rc S r x):x<n:=by
 induction h with
 | root=>exact hr
 | step _ hy ih=>exact hS _ ih _ hy
theorem Better.qb{y z k:Nat}{b:Nat->Nat}(h:Better S r n at_ par y z)(hS:∀ x,x<n->∀ w∈S x,w<n)(hrn:r<n)(full:SA S r n par)(hb:∀ x,x<n->k<=b x/\b x<=k+1)(q:QB S r n par b) :
  QB S r n (K9 par y z) λx=>if x=y then k+1 else b x:=by
 have here:∀ w,AvN S r w (k+1) y->¬ UpTo (K9 par y z) y w:=λw hw hu=>by
  rcases h.here.1 hu with rfl|hu
  ·exact hw.av.ne rfl
  ·cases hw with
   | root hr _=>exact h.hr rfl
   | @step _ p _ hp hyp hne=>
    have hpn:=XB hS hrn hp.av.rc;have hpp:=full p hpn hp.av.rc;exact q p hpn hpp w (hp.mono (hb p hpn).1) ((h.best w).1 hu p hpn hyp hpp)
 intro x hx hxp w hw hu
 dsimp only at hw
 by_cases e:x=y
 ·subst e;rw[if_pos rfl]at hw;exact here w hw hu
 ·rw[if_neg e]at hw;unfold K9 at hxp;rw[if_neg e]at hxp;rcases anc_upd_inv hu with h1|⟨h1,h2⟩
  ·exact q x hx hxp w hw h1
  ·rcases hw.via y with h3|h3
   ·exact q x hx hxp y h3 h1
   ·exact here w (h3.mono (hb x hx).2) h2
theorem cZ(h:Inv S r n at_ par){K:Nat}(hK:∀ z,z<n->∀ x,x<n->Av S r z x->AvN S r z K x)(q:QB S r n par λ_=>K):VO S r n par:=λx hx hp d=>by
 constructor
 ·intro hu ha;exact q x hx hp d (hK d (h.anc hu hx hp).1 x hx ha) hu
 ·intro ha;exact RF λhn=>ha (h.all x hx hp d hn)
theorem Better.same{y z:Nat}(h:Better S r n at_ par y z)(hS:∀ x,x<n->∀ w∈S x,w<n)(hrn:r<n)(full:SA S r n par)(hy2:par y≠-2)(ex:VO S r n par):par y=(z:Int):=by
 obtain⟨hzz,hz2,hzl,hzf⟩:=h.zlt;rcases h.inv.kind y h.hy with h1|h1|⟨q,hq⟩
 ·exact absurd h1 hy2
 ·exact absurd h1 h.hr
 ·obtain⟨q1,q2,q3,q4⟩:=h.inv.up y h.hy q hq
  have key:∀ w,UpTo par z w↔UpTo par q w:=λw=>by
   rw[h.best w]
   constructor
   ·intro hall
    have hwy:¬ Av S r w y:=λha=>by
     cases ha with
     | root _=>exact h.hr rfl
     | @step p _ hp hyp hne=>
      have hpn:=XB hS hrn hp.rc;have hpp:=full p hpn hp.rc;exact(ex p hpn hpp w).1 (hall p hpn hyp hpp) hp
    rcases(anc_up hq).1 ((ex y h.hy hy2 w).2 hwy) with rfl|hu
    ·have:=(h.inv.anc ((h.best _).2 hall) h.hz hz2).2.2.1;omega
    ·exact hu
   ·intro hu p hp hyp hpp;have hwy:UpTo par y w:=.up hq hu;refine(ex p hp hpp w).2 λha=>?_
    have hne:y≠w:=by rintro rfl;have:=(h.inv.anc hu q1 q2).2.2.1;omega
    exact(ex y h.hy hy2 w).1 hwy (.step ha hyp hne)
  have:=h.inv.antisymm ((key q).2 (.refl _)) ((key z).1 (.refl _)) h.hz hz2;rw[hq,this]
theorem ZC(h:Inv S r n at_ par)(hS:∀ x,x<n->∀ w∈S x,w<n)(hrn:r<n)(full:SA S r n par)(fix:∀ y,y<n->y≠r->Rc S r y->∃ z:Nat,par y=(z:Int)/\RZ S n par y z):VO S r n par:=λx hx hp d=>by
 constructor
 ·intro hu ha
  induction ha with
  | root hne=>exact hne (h.root_anc.1 hu).symm
  | @step p y hp' hyp hne ih=>
   have hpn:=XB hS hrn hp'.rc;have hpp:=full p hpn hp'.rc
   by_cases e:y=r
   ·subst e;exact hne (h.root_anc.1 hu).symm
   ·obtain⟨z,hz,hb⟩:=fix y hx e (.step hp'.rc hyp);rcases(anc_up hz).1 hu with rfl|hu
    ·exact hne rfl
    ·exact ih hpn hpp ((hb d).1 hu p hpn hyp hpp)
 ·intro ha;exact RF λhn=>ha (h.all x hx hp d hn)
end
def Bd(t:List Int):Nat->Int:=λx=>t.getD x 0
theorem QA{t:List Int}{y:Nat}{v:Int}(hy:y<t.length):Bd (t.set y v)=K9 (Bd t) y v:=by
 funext x
 unfold Bd K9
 by_cases e:x=y
 ·subst e;simp[List.getD,hy]
 ·simp[List.getD,e,Hg e]
open Classical in
def Jz(S:Nat->List Nat)(n:Nat)(t:List Int)(y:Nat):Nat:=if h:∃ z,z<n/\RZ S n (Bd t) y z then Classical.choose h else 0
def Sl(S:Nat->List Nat)(n:Nat)(P:List Nat)(t:List Int):Nat->List Int
 | 0=>t
 | i+1=>(Sl S n P t i).set (P.getD i 0) (Jz S n (Sl S n P t i) (P.getD i 0):Int)
def CU(S:Nat->List Nat)(n:Nat)(P:List Nat)(t:List Int):Nat->List Int
 | 0=>t
 | j+1=>Sl S n P (CU S n P t j) P.length
def Ew(n r:Nat):List Int:=(List.replicate n (-2:Int)).set r (-1)
structure Ordered(S:Nat->List Nat)(r n:Nat)(P:List Nat):Prop where
 hr:r<n
 hS:∀ x,x<n->∀ w∈S x,w<n
 nodup:(r::P).Nodup
 mem:∀ x,x∈r::P↔Rc S r x
 fwd:∀ i,i<P.length->∃ p,p∈r::P.take i/\P.getD i 0∈S p
section
variable {S:Nat->List Nat} {r n:Nat} {P:List Nat}
theorem Ordered.lt(o:Ordered S r n P){x:Nat}(h:x∈r::P):x<n:=XB o.hS o.hr ((o.mem x).1 h)
theorem Nm{i:Nat}(hi:i<P.length):P.getD i 0∈P:=by rw[Ab _ _ _ hi];exact Yb hi
theorem Ordered.at_lt(o:Ordered S r n P){i:Nat}(hi:i<P.length){p:Nat}(hp:p∈r::P.take i):pos (r::P) p<pos (r::P) (P.getD i 0):=by
 have hd:=o.nodup
 have h1:pos (r::P) (P.getD i 0)=i+1:=by
  have:=(CR hd (i:=i+1) (by simpa using hi)).2;rw[Ab _ _ _ hi]
  simpa using this
 rw[h1];obtain⟨j,hj,rfl⟩:=Ll hp
 have hj':j<i+1:=by simp at hj;omega
 have hjl:j<(r::P).length:=by simp;omega
 have e:(r::P.take i)[j]=(r::P)[j]:=by
  cases j with
  | zero=>rfl
  | succ j=>simp
 rw[e,(CR hd hjl).2];exact hj'
theorem oE(o:Ordered S r n P):Inv S r n (pos (r::P)) (Bd (Ew n r))/\(Ew n r).length=n/\Bd (Ew n r) r≠-2:=by
 have hlen:(Ew n r).length=n:=by simp[Ew]
 have hr:=o.hr
 have at_:∀ x,x<n->Bd (Ew n r) x=if x=r then -1 else -2:=λx hx=>by
  unfold Bd Ew
  by_cases e:x=r
  ·subst e;simp[List.getD,hx]
  ·simp[List.getD,hx,e,Hg e]
 have hno:∀ x,x<n->∀ p:Nat,Bd (Ew n r) x≠(p:Int):=λx hx p hp=>by rw[at_ x hx]at hp;split at hp<;>omega
 refine⟨⟨by rw[at_ r hr,if_pos rfl],λx hx=>?_,λx hx z hz=>absurd hz (hno x hx z),λx hx hp=>?_,λx hx hp d hd=>?_⟩,hlen,by rw[at_ r hr,if_pos rfl];omega⟩
 ·by_cases e:x=r
  ·exact .inr (.inl e)
  ·exact .inl (by rw[at_ x hx,if_neg e])
 ·by_cases e:x=r
  ·subst e;exact .root
  ·exact absurd (by rw[at_ x hx,if_neg e]) hp
 ·by_cases e:x=r
  ·subst e;exact .root (λe=>hd (by rw[e];exact .refl _))
  ·exact absurd (by rw[at_ x hx,if_neg e]) hp
structure Ready(S:Nat->List Nat)(r n:Nat)(P:List Nat)(t:List Int)(i:Nat):Prop where
 inv:Inv S r n (pos (r::P)) (Bd t)
 len:t.length=n
 done:∀ x∈r::P.take i,Bd t x≠-2
theorem Inv.meets{at_:Nat->Nat}{par:Nat->Int}(h:Inv S r n at_ par)(hinj:∀ x y,x<n->y<n->par x≠-2->par y≠-2->at_ x=at_ y->x=y)(hr:at_ r=0):∀ m a b,at_ a+at_ b<=m->a<n->b<n->par a≠-2->par b≠-2->∃ c,MeetAt par a b c/\c<n/\par c≠-2:=by
 intro m
 induction m with
 | zero=>
  intro a b hm ha hb hpa hpb;have:a=b:=hinj a b ha hb hpa hpb (by omega);subst this;exact⟨a,IW,ha,hpa⟩
 | succ m ih=>
  have go:∀ a b,at_ a+at_ b<=m+1->a<n->b<n->par a≠-2->par b≠-2->at_ b<=at_ a->∃ c,MeetAt par a b c/\c<n/\par c≠-2:=λa b hm ha hb hpa hpb hl=>by
   by_cases e:a=b
   ·subst e;exact⟨a,IW,ha,hpa⟩
   ·rcases h.kind a ha with h1|h1|⟨p,hp⟩
    ·exact absurd h1 hpa
    ·subst h1;exact absurd (hinj a b ha hb hpa hpb (by omega)) e
    ·obtain⟨p1,p2,p3,p4⟩:=h.up a ha p hp;obtain⟨c,hc,hc2⟩:=ih p b (by omega) p1 hb p2 hpb;exact⟨c,h.meet_left hinj ha hpa hb hpb e hl hp hc,hc2⟩
  intro a b hm ha hb hpa hpb;rcases Nat.le_total (at_ b) (at_ a) with hl|hl
  ·exact go a b hm ha hb hpa hpb hl
  ·obtain⟨c,hc,hc2⟩:=go b a (by omega) hb ha hpb hpa hl;exact⟨c,ZR hc,hc2⟩
theorem Ready.inj(o:Ordered S r n P){t:List Int}{i:Nat}(h:Ready S r n P t i):∀ x y,x<n->y<n->Bd t x≠-2->Bd t y≠-2->pos (r::P) x=pos (r::P) y->x=y:=λx y hx hy hpx hpy he=>by
 have hm:∀ x,x<n->Bd t x≠-2->x∈r::P:=λx hx hp=>(o.mem x).2 (h.inv.rc x hx hp)
 have back:∀ x∈r::P,(r::P).getD (pos (r::P) x) 0=x:=λx hx=>by
  obtain⟨j,hj,rfl⟩:=Ll hx;rw[(CR o.nodup hj).2,Ab _ _ _ hj]
 rw[<- back x (hm x hx hpx),<- back y (hm y hy hpy),he]
theorem QE:pos (r::P) r=0:=by rw[FD,if_pos rfl]
theorem Ready.meetAll(o:Ordered S r n P){t:List Int}{i:Nat}(h:Ready S r n P t i):∀ l:List Nat,(∀ p∈l,p<n/\Bd t p≠-2)->l≠[]->∃ z,z<n/\Bd t z≠-2/\∀ w,UpTo (Bd t) z w↔∀ p∈l,UpTo (Bd t) p w:=by
 intro l
 induction l with
 | nil=>intro _ hn;exact absurd rfl hn
 | cons p l ih=>
  intro hl _;obtain⟨hp1,hp2⟩:=hl p (Jh ..)
  by_cases hl0:l=[]
  ·subst hl0;exact⟨p,hp1,hp2,λw=>by simp⟩
  ·obtain⟨z,hz1,hz2,hz3⟩:=ih (λq hq=>hl q (Fc _ hq)) hl0;obtain⟨c,hc1,hc2,hc3⟩:=h.inv.meets (h.inj o) QE _ p z (zzL8 _) hp1 hz1 hp2 hz2;exact⟨c,hc2,hc3,λw=>by rw[hc1 w,hz3 w];simp⟩
theorem Ready.best(o:Ordered S r n P){t:List Int}{i:Nat}(h:Ready S r n P t i)(hi:i<P.length):Better S r n (pos (r::P)) (Bd t) (P.getD i 0) (Jz S n t (P.getD i 0)):=by
 have hy:=Nm hi;have hyr:P.getD i 0≠r:=λe=>(zzL76.1 o.nodup).1 (e▸hy);have hyn:=o.lt (Fc _ hy);obtain⟨p,hp,hyp⟩:=o.fwd i hi;have hp2:=h.done p hp
 have hpP:p∈r::P:=by
  rcases zzL24.1 hp with rfl|hp
  ·exact Jh ..
  ·exact Fc _ (List.mem_of_mem_take hp)
 have hpn:=o.lt hpP
 have hex:∃ z,z<n/\RZ S n (Bd t) (P.getD i 0) z:=by
  classical
  obtain⟨z,hz1,hz2,hz3⟩:=h.meetAll o ((List.range n).filter λp=>decide (P.getD i 0∈S p/\Bd t p≠-2)) (λp hp=>by
   obtain⟨h1,h2⟩:=zzL64.1 hp
   exact⟨zzL36.1 h1,(Qb h2).2⟩) (λe=>by
   have:p∈(List.range n).filter λp=>decide (P.getD i 0∈S p/\Bd t p≠-2):=zzL64.2 ⟨zzL36.2 hpn,Cw ⟨hyp,hp2⟩⟩
   rw[e]at this;cases this)
  refine⟨z,hz1,λw=>?_⟩;rw[hz3 w]
  constructor
  ·intro k p hp hyp hpp;exact k p (zzL64.2 ⟨zzL36.2 hp,Cw ⟨hyp,hpp⟩⟩)
  ·intro k p hp;obtain⟨h1,h2⟩:=zzL64.1 hp;exact k p (zzL36.1 h1) (Qb h2).1 (Qb h2).2
 have hb:Jz S n t (P.getD i 0)<n/\RZ S n (Bd t) (P.getD i 0) (Jz S n t (P.getD i 0)):=by
  unfold Jz;rw[dif_pos hex];exact Classical.choose_spec hex
 exact⟨h.inv,hyn,hyr,hb.1,hb.2,p,hpn,hyp,hp2,o.at_lt hi hp⟩
theorem Ready.best_eq(o:Ordered S r n P){t:List Int}{i:Nat}(h:Ready S r n P t i)(hi:i<P.length){z:Nat}(hz:z<n)(hz2:Bd t z≠-2)(hb:RZ S n (Bd t) (P.getD i 0) z):z=Jz S n t (P.getD i 0):=by
 have b:=h.best o hi;exact(h.inv.antisymm ((hb _).2 ((b.best _).1 (.refl _))) ((b.best _).2 ((hb _).1 (.refl _))) hz hz2).symm
theorem Ready.next(o:Ordered S r n P){t:List Int}{i:Nat}(h:Ready S r n P t i)(hi:i<P.length):Ready S r n P (t.set (P.getD i 0) (Jz S n t (P.getD i 0):Int)) (i+1):=by
 have b:=h.best o hi;have e:=QA (t:=t) (y:=P.getD i 0) (v:=(Jz S n t (P.getD i 0):Int)) (by rw[h.len];exact b.hy);refine⟨by rw[e];exact b.inv',by rw[H3];exact h.len,λx hx=>?_⟩;rw[e];unfold K9
 split
 ·omega
 ·rename_i hne
  refine h.done x ?_;rcases zzL24.1 hx with rfl|hx
  ·exact Jh ..
  ·rw[VC hi]at hx;rcases zzL11.1 hx with hx|hx
   ·exact Fc _ hx
   ·rw[zzL14,<- Ab _ _ 0 hi]at hx;exact absurd hx hne
theorem Ready.more(o:Ordered S r n P){t:List Int}(h:Ready S r n P t P.length)(i:Nat):Ready S r n P t i:=
 ⟨h.inv,h.len,λx hx=>h.done x (by
  rw[Wn];rcases zzL24.1 hx with rfl|hx
  ·exact Jh ..
  ·exact Fc _ (List.mem_of_mem_take hx))⟩
theorem Ready.full(o:Ordered S r n P){t:List Int}(h:Ready S r n P t P.length):SA S r n (Bd t):=λx hx hr=>h.done x (by rw[Wn];exact(o.mem x).2 hr)
theorem Ready.round(o:Ordered S r n P){t:List Int}(h:Ready S r n P t 0):∀ i,i<=P.length->Ready S r n P (Sl S n P t i) i:=by
 intro i
 induction i with
 | zero=>intro _;exact h
 | succ i ih=>intro hi;exact(ih (by omega)).next o (by omega)
theorem k7(o:Ordered S r n P):Ready S r n P (Ew n r) 0:=by
 obtain⟨h1,h2,h3⟩:=oE o;exact⟨h1,h2,λx hx=>by simp at hx;subst hx;exact h3⟩
theorem Ready.rounds(o:Ordered S r n P):∀ j,Ready S r n P (CU S n P (Ew n r) j) 0:=by
 intro j
 induction j with
 | zero=>exact k7 o
 | succ j ih=>exact((ih.round o) P.length (zzL8 _)).more o 0
theorem Ready.rounds'(o:Ordered S r n P)(j:Nat):Ready S r n P (CU S n P (Ew n r) (j+1)) P.length:=(Ready.rounds o j).round o P.length (zzL8 _)
theorem dr(o:Ordered S r n P){t:List Int}{k:Nat}(h:Ready S r n P t P.length)(q:QB S r n (Bd t) λ_=>k):QB S r n (Bd (Sl S n P t P.length)) λ_=>k+1:=by
 have key:∀ i,i<=P.length->QB S r n (Bd (Sl S n P t i)) (λx=>if x∈P.take i then k+1 else k)/\SA S r n (Bd (Sl S n P t i)):=by
  intro i
  induction i with
  | zero=>intro _;exact⟨by simpa [Sl] using q,h.full o⟩
  | succ i ih=>
   intro hi;obtain⟨q1,f1⟩:=ih (by omega);have rd:=(h.more o 0).round o i (by omega);have b:=rd.best o (by omega);have e:=QA (t:=Sl S n P t i) (y:=P.getD i 0) (v:=(Jz S n (Sl S n P t i) (P.getD i 0):Int)) (by rw[rd.len];exact b.hy)
   constructor
   ·show QB S r n (Bd ((Sl S n P t i).set _ _)) _
    rw[e];have:=b.qb (k:=k) o.hS o.hr f1 (λx _=>by split<;>omega) q1;intro x hx hp z hz;refine this x hx hp z ?_
    dsimp only at hz ⊢
    rw[VC (by omega:i<P.length)]at hz
    by_cases e1:x=P.getD i 0
    ·rw[if_pos e1];rwa[if_pos (zzL11.2 (.inr (zzL14.2 (by rw[e1,Ab _ _ _ (by omega:i<P.length)]))))]at hz
    ·rw[if_neg e1]
     by_cases e2:x∈P.take i
     ·rw[if_pos e2];rwa[if_pos (zzL11.2 (.inl e2))]at hz
     ·rw[if_neg e2]
      rwa[if_neg (λhm=>by
       rcases zzL11.1 hm with hm|hm
       ·exact e2 hm
       ·rw[zzL14,<- Ab _ _ 0 (by omega:i<P.length)]at hm;exact e1 hm)]at hz
   ·show SA S r n (Bd ((Sl S n P t i).set _ _))
    rw[e];intro x hx hr;unfold K9
    split
    ·omega
    ·exact f1 x hx hr
 have q1:=(key P.length (zzL8 _)).1;rw[Wn]at q1;have rd:=(h.more o 0).round o P.length (zzL8 _);intro x hx hp z hz;refine q1 x hx hp z ?_
 dsimp only at hz ⊢
 by_cases e:x∈P
 ·rw[if_pos e];exact hz
 ·rw[if_neg e]
  have hxr:x=r:=by
   rcases zzL24.1 ((o.mem x).2 (rd.inv.rc x hx hp)) with h1|h1
   ·exact h1
   ·exact absurd h1 e
  subst hxr;exact .root hz.av.ne k
def Ru(S:Nat->List Nat)(n:Nat)(P:List Nat)(t:List Int):Prop:=∀ i,i<P.length->Bd t (P.getD i 0)=(Jz S n t (P.getD i 0):Int)
theorem Tt{t:List Int}(o:Ordered S r n P)(hl:t.length=n)(h:Ru S n P t):∀ i,i<=P.length->Sl S n P t i=t:=by
 intro i
 induction i with
 | zero=>intro _;rfl
 | succ i ih=>
  intro hi;unfold Sl;rw[ih (by omega),<- h i (by omega)]
  have hlt:P.getD i 0<t.length:=by rw[hl];exact o.lt (Fc _ (Nm (by omega)))
  unfold Bd;rw[Ab _ _ _ hlt];exact List.set_getElem_self hlt
theorem jl(o:Ordered S r n P):∃ J,(∀ j,j<J->¬ Ru S n P (CU S n P (Ew n r) j))/\Ru S n P (CU S n P (Ew n r) J):=by
 obtain⟨K,hK⟩:=YJ (S:=S) (r:=r) n
 have hq:∀ k,QB S r n (Bd (CU S n P (Ew n r) (k+1))) λ_=>k:=by
  intro k
  induction k with
  | zero=>exact ia (Ready.rounds' o 0).inv
  | succ k ih=>exact dr o (Ready.rounds' o k) ih
 have hst:Ru S n P (CU S n P (Ew n r) (K+1)):=λi hi=>by
  have rd:=Ready.rounds' o K;exact((rd.more o i).best o hi).same o.hS o.hr (rd.full o) (rd.done _ (Fc _ (by rw[Wn];exact Nm hi))) (cZ rd.inv hK (hq K))
 have key:∀ m,(∃ J,J<=m/\Ru S n P (CU S n P (Ew n r) J))->∃ J,(∀ j,j<J->¬ Ru S n P (CU S n P (Ew n r) j))/\Ru S n P (CU S n P (Ew n r) J):=by
  intro m
  induction m with
  | zero=>rintro⟨J,hJ,h⟩;exact⟨J,λj hj=>by omega,h⟩
  | succ m ih=>
   rintro⟨J,hJ,h⟩
   by_cases hm:∃ J,J<=m/\Ru S n P (CU S n P (Ew n r) J)
   ·exact ih hm
   ·exact⟨J,λj hj hs=>hm ⟨j,by omega,hs⟩,h⟩
 exact key (K+1) ⟨K+1,zzL8 _,hst⟩
structure DomTree(S:Nat->List Nat)(r n:Nat)(P:List Nat)(t:List Int):Prop where
 inv:Inv S r n (pos (r::P)) (Bd t)
 len:t.length=n
 full:SA S r n (Bd t)
 exact_:VO S r n (Bd t)
theorem BE(o:Ordered S r n P){j:Nat}(h:Ru S n P (CU S n P (Ew n r) j)):DomTree S r n P (CU S n P (Ew n r) j):=by
 have rd:=Ready.rounds o j
 have hall:Ready S r n P (CU S n P (Ew n r) j) P.length:=by
  have:=rd.round o P.length (zzL8 _);rwa[Tt o rd.len h P.length (zzL8 _)]at this
 refine⟨rd.inv,rd.len,hall.full o,ZC rd.inv o.hS o.hr (hall.full o) λy hy hne hr=>?_⟩
 have hm:y∈P:=by
  rcases zzL24.1 ((o.mem y).2 hr) with h1|h1
  ·exact absurd h1 hne
  ·exact h1
 obtain⟨i,hi,rfl⟩:=Ll hm;have b:=(hall.more o i).best o hi;rw[Ab _ _ _ hi]at b;have hs:=h i hi;rw[Ab _ _ _ hi]at hs;exact⟨_,hs,b.best⟩
end
section
variable {S:Nat->List Nat} {s s':Nat->Bool} {l o:List Nat}
theorem VL.before(h:VL S s l s' o):∀ A z B,o=A++z::B->z∈l\/∃ p∈B,z∈S p:=by
 induction h with
 | nil s=>intro A z B e;simp at e
 | skip h _ ih=>
  intro A z B e;rcases ih A z B e with h1|h1
  ·exact .inl (Fc _ h1)
  ·exact .inr h1
 | @step s s1 s2 y l o1 o2 h a b iha ihb=>
  intro A z B e;rcases List.append_eq_append_iff.1 e with⟨C,hC1,hC2⟩|⟨C,hC1,hC2⟩
  ·
   cases C with
   | nil=>
    simp at hC2;obtain⟨rfl,rfl⟩:=hC2;exact .inl (Jh ..)
   | cons c C=>
    simp at hC2;obtain⟨rfl,hC2⟩:=hC2;rcases ihb C z B hC2 with h1|h1
    ·exact .inl (Fc _ h1)
    ·exact .inr h1
  ·cases C with
   | nil=>
    simp at hC2;obtain⟨rfl,rfl⟩:=hC2;exact .inl (Jh ..)
   | cons c C=>
    simp at hC2;obtain⟨rfl,rfl⟩:=hC2;rcases iha A z C hC1 with h1|⟨p,hp,hz⟩
    ·exact .inr ⟨y,by simp,h1⟩
    ·exact .inr ⟨p,by simp[hp],hz⟩
theorem Ord.ordered{n r:Nat}{L:List Nat}(hr:r<n)(hS:∀ x,x<n->∀ w∈S x,w<n)(h:Ord S r L):∃ P,L=r::P/\Ordered S r n P:=by
 have h1:=h.nodup;have h2:=h.mem;obtain⟨s',o,hv,rfl⟩:=h;refine⟨o.reverse,rfl,hr,hS,h1,λx=>by rw[h2 x,rc_iff],λi hi=>?_⟩
 have hi':i<o.length:=by simpa using hi
 have e:o.reverse=o.reverse.take i++o.reverse[i]::o.reverse.drop (i+1):=by rw[<- O8 hi,List.take_append_drop]
 have e2:o=(o.reverse.drop (i+1)).reverse++o.reverse[i]::(o.reverse.take i).reverse:=by
  have:=Ca List.reverse e;rw[List.reverse_reverse]at this;rw[List.reverse_append,List.reverse_cons]at this
  simpa using this
 rw[Ab _ _ _ hi];rcases hv.before _ _ _ e2 with h3|⟨p,hp,hz⟩
 ·exact⟨r,Jh ..,h3⟩
 ·exact⟨p,Fc _ (zzL95.1 hp),hz⟩
end
def mi(S:Nat->List Nat)(w:Int):Nat->List Nat:=λx=>(S x).filter λy=>decide ((y:Int)≠w)
theorem eV(S:Nat->List Nat):mi S (-1)=S:=by
 funext x
 unfold mi;exact List.filter_eq_self.2 λy _=>Cw (by omega)
theorem iw(S:Nat->List Nat)(z:Nat):mi S (z:Int)=wo S z:=by
 funext x
 unfold mi wo
 congr 1
 funext y
 exact zzL106.2 ⟨λh e=>h (by rw[e]),λh e=>h (Vs e)⟩
def Zk(L:List (List Int))(r:Nat)(w:Int):List Bool:=if(r:Int)=w then List.replicate L.length false else JK (mi (sN L) w) L.length ((List.replicate L.length false).set r true) L.length
theorem dt{L:List (List Int)}(hm:Ly L=true){r:Nat}(hr:r<L.length){b:Nat}:(Zk L r (-1)).getD b false=true↔Rc (sN L) r b:=by
 unfold Zk;rw[if_neg (by omega),eV,Xy (Vh hm) hr b,rc_iff]
theorem UE{L:List (List Int)}(hm:Ly L=true){r:Nat}(hr:r<L.length){a b:Nat}(hb:b<L.length):(Zk L r (a:Int)).getD b false=true↔Av (sN L) r a b:=by
 unfold Zk;rw[av_iff]
 by_cases h:r=a
 ·subst h;rw[if_pos rfl,N2]
  simp
 ·rw[if_neg (by omega),iw,Xy (S:=wo (sN L) a) (λz hz y hy=>Vh hm z hz y (zzL64.1 hy).1) hr b];simp[h]
def Tg(L:List (List Int))(r a b:Nat):Bool:=(Zk L r (-1)).getD b false&&!(Zk L r (a:Int)).getD b false
theorem PZ{L:List (List Int)}(hm:Ly L=true){r a b:Nat}(hr:r<L.length)(hb:b<L.length):Tg L r a b=true↔Rc (sN L) r b/\¬ Av (sN L) r a b:=by
 unfold Tg;rw[A4,O9,<- Bool.not_eq_true,dt hm hr,UE hm hr hb]
def PK(L:List (List Int))(r a b:Nat):Bool:=(List.range L.length).all λc=>decide (c=b) || !Tg L r c b || Tg L r c a
def QD(L:List (List Int))(r b:Nat):Nat->Int
 | 0=>-2
 | a+1=>if a≠b/\Tg L r a b=true/\PK L r a b=true then(a:Int) else QD L r b a
def US(L:List (List Int))(r b:Nat):Int:=if b=r then -1 else QD L r b L.length
def X5(L:List (List Int))(r:Nat):List Int:=(List.range L.length).map (US L r)
theorem JS(L:List (List Int))(r:Nat):(X5 L r).length=L.length:=by simp[X5]
theorem eP{L:List (List Int)}{r b:Nat}(hb:b<L.length):(X5 L r).getD b 0=US L r b:=by unfold X5;rw[Qs hb]
theorem pick_cases(L:List (List Int))(r b:Nat):∀ m,(QD L r b m = -2/\∀ a,a<m->¬ (a≠b/\Tg L r a b=true/\PK L r a b=true))\/∃ a,a<m/\QD L r b m=(a:Int)/\a≠b/\Tg L r a b=true/\PK L r a b=true:=by
 intro m
 induction m with
 | zero=>exact .inl ⟨rfl,λa ha=>absurd ha (M7 a)⟩
 | succ m ih=>
  unfold QD
  by_cases h:m≠b/\Tg L r m b=true/\PK L r m b=true
  ·rw[if_pos h];exact .inr ⟨m,by omega,rfl,h⟩
  ·rw[if_neg h];rcases ih with⟨h1,h2⟩|⟨a,h1,h2⟩
   ·refine .inl ⟨h1,λa ha=>?_⟩;rcases zzL116.1 ha with h3|rfl
    ·exact h2 a h3
    ·exact h
   ·exact .inr ⟨a,by omega,h2⟩
theorem DomTree.eq{L:List (List Int)}(hm:Ly L=true){r:Nat}(hr:r<L.length){P t:List _}(o:Ordered (sN L) r L.length P)(h:DomTree (sN L) r L.length P t):t=X5 L r:=by
 refine Zt (by rw[h.len,JS]) λb h1 h2=>?_
 have hb:b<L.length:=by rw[<- h.len];exact h1
 rw[<- Ab _ _ 0 h1,<- Ab _ _ 0 h2,eP hb]
 show Bd t b=_
 have hov:∀ a b,b<L.length->Bd t b≠-2->(Tg L r a b=true↔UpTo (Bd t) b a):=λa b hb hp=>by
  rw[PZ hm hr hb,h.exact_ b hb hp];exact⟨λk=>k.2,λk=>⟨h.inv.rc b hb hp,k⟩⟩
 unfold US
 by_cases hbr:b=r
 ·subst hbr;rw[if_pos rfl];exact h.inv.top
 ·rw[if_neg hbr];rcases h.inv.kind b hb with hk|hk|⟨z,hz⟩
  ·
   have hn:¬ Rc (sN L) r b:=λk=>h.full b hb k hk;rcases pick_cases L r b L.length with⟨h3,_⟩|⟨a,_,_,_,h6,_⟩
   ·rw[hk,h3]
   ·exact absurd ((PZ hm hr hb).1 h6).1 hn
  ·exact absurd hk hbr
  ·obtain⟨z1,z2,z3,z4⟩:=h.inv.up b hb z hz
   have hp:Bd t b≠-2:=by omega
   have hzo:Tg L r z b=true:=(hov z b hb hp).2 (.up hz (.refl _))
   have hzb:z≠b:=by rintro rfl;omega
   have hnear:PK L r z b=true:=all_range.2 λc hc=>by
    by_cases e:c=b
    ·simp[e]
    ·cases ho:Tg L r c b with
     | false=>simp
     | true=>
      have:=(hov c b hb hp).1 ho;rcases(anc_up hz).1 this with h3|h3
      ·exact absurd h3 e
      ·rw[(hov c z z1 z2).2 h3];simp
   rcases pick_cases L r b L.length with⟨_,h3⟩|⟨a,h3,h4,h5,h6,h7⟩
   ·exact absurd ⟨hzb,hzo,hnear⟩ (h3 z z1)
   ·rw[h4,hz];have haU:=(hov a b hb hp).1 h6
    have ha1:UpTo (Bd t) z a:=by
     rcases(anc_up hz).1 haU with h8|h8
     ·exact absurd h8 h5
     ·exact h8
    have hap:=(h.inv.anc ha1 z1 z2).2.1
    have hza:UpTo (Bd t) a z:=by
     have:=all_range.1 h7 z z1;simp only[hzo,hzb,decide_false,Fi,GF]at this;exact(hov z a h3 hap).1 this
    rw[h.inv.antisymm ha1 hza z1 z2]
theorem iE{g:C2}(h:Yz g=true):Ly g.Succ=true/\g=Yi g.Succ:=by
 unfold Yz at h;rw[A4]at h;refine⟨h.1,?_⟩;obtain⟨s,p⟩:=g;have:=Qb h.2;simp only at this;unfold Yi;rw[this]
section
variable {L:List (List Int)} (hm:Ly L=true) {r:Nat} (hr:r<L.length)
include hm hr
omit hr in
omit hr in
omit hm hr in
omit hm hr in
omit hm hr in
omit hr in
omit hr in
end
def QX(g:C2)(r:Int):List Int:=if Yz g=true/\0<=r/\r<(g.Succ.length:Int) then X5 g.Succ r.toNat else[]
def upD(t:List Int):Nat->Int->Option (List Int)
 | 0,_=>none
 | k+1,a=>if 0<=a/\a<(t.length:Int) then(if t.getD a.toNat 0 = -1 then some [a] else(upD t k (t.getD a.toNat 0)).map λl=>a::l) else none
def Eu(t:List Int)(a:Int):List Int:=(upD t t.length a).getD []
theorem iu(t:List Int):∀ k a q,upD t k a=some q->q.length<=k/\1<=q.length:=by
 intro k
 induction k with
 | zero=>intro a q h;cases h
 | succ k ih=>
  intro a q h;unfold upD at h
  split at h
  ·split at h
   ·cases h;simp
   ·cases hu:upD t k (t.getD a.toNat 0) with
    | none=>rw[hu]at h;cases h
    | some q'=>rw[hu]at h;cases h;have:=ih _ _ hu;simp;omega
  ·cases h
theorem pathD_nil{t:List Int}{a:Int}:Eu t a=[]↔upD t t.length a=none:=by
 unfold Eu
 cases h:upD t t.length a with
 | none=>simp
 | some q=>have:=(iu t _ _ _ h).2;simp;intro e;subst e;simp at this
def X4(t:List Int)(k:Nat):Nat:=((List.range k).filter λa=>decide (t.getD a 0 = -1)).length
def nR(t:List Int)(a:Nat):Bool:=decide (t.getD a 0 = -2) || !decide (Eu t (a:Int)=[])
def Iu(t:List Int):Bool:=(List.range t.length).all (nR t)&&decide (X4 t t.length=1)
theorem FW(t:List Int)(k:Nat):X4 t (k+1)=X4 t k+if t.getD k 0 = -1 then 1 else 0:=by
 unfold X4;rw[Zw,MS,Es]
 by_cases h:t.getD k 0 = -1
 ·rw[if_pos h]
  have:List.filter (λa=>decide (t.getD a 0 = -1)) [k]=[k]:=by rw[List.filter_cons,if_pos (Cw h)];rfl
  rw[this];rfl
 ·rw[if_neg h]
  have:List.filter (λa=>decide (t.getD a 0 = -1)) [k]=[]:=by rw[List.filter_cons,if_neg (by simpa using h)];rfl
  rw[this];rfl
def Mg(t:List Int)(a b:Int):Int:=if Iu t=true then((Eu t a).find? λx=>(Eu t b).contains x).getD (-2) else -2
def N0(t:List Int)(a b:Int):Bool:=Mg t a b==a&&Mg t a b !=-2
section
variable {S:Nat->List Nat} {r n:Nat} {P:List Nat} {t:List Int}
theorem DomTree.up(h:DomTree S r n P t):∀ k x,x<n->Bd t x≠-2->pos (r::P) x<k->∃ q,upD t k (x:Int)=some q/\(∀ w:Int,w∈q↔∃ z:Nat,w=(z:Int)/\UpTo (Bd t) x z) /\
  ∀ p:Int->Bool,(q.find? p=none/\∀ z:Nat,UpTo (Bd t) x z->p (z:Int)=false)\/∃ f:Nat,q.find? p=some (f:Int)/\UpTo (Bd t) x f/\p (f:Int)=true/\∀ z:Nat,UpTo (Bd t) x z->p (z:Int)=true->UpTo (Bd t) f z:=by
 intro k
 induction k with
 | zero=>intro x _ _ hk;exact absurd hk (M7 _)
 | succ k ih=>
  intro x hx hp hk
  have hxt:(0:Int)<=(x:Int)/\(x:Int)<(t.length:Int):=by rw[h.len];omega
  unfold upD;rw[if_pos hxt,A5];have hpx:t.getD x 0=Bd t x:=rfl;rw[hpx];rcases h.inv.kind x hx with h1|rfl|⟨z,hz⟩
  ·exact absurd h1 hp
  ·rw[if_pos h.inv.top];refine⟨_,rfl,λw=>?_,λp=>?_⟩
   ·rw[zzL14]
    constructor
    ·rintro rfl;exact⟨x,rfl,.refl _⟩
    ·rintro⟨z,rfl,hz⟩;rw[h.inv.root_anc.1 hz]
   ·cases hpp:p (x:Int) with
    | false=>exact .inl ⟨by simp[List.find?,hpp],λz hz=>by rw[h.inv.root_anc.1 hz];exact hpp⟩
    | true=>exact .inr ⟨x,by simp[List.find?,hpp],.refl _,hpp,λz hz _=>hz⟩
  ·obtain⟨z1,z2,z3,z4⟩:=h.inv.up x hx z hz;rw[hz,if_neg (by omega)];obtain⟨q,hq1,hq2,hq3⟩:=ih z z1 z2 (by omega);rw[hq1];refine⟨(x:Int)::q,rfl,λw=>?_,λp=>?_⟩
   ·rw[zzL24,hq2 w]
    constructor
    ·rintro(rfl|⟨y,rfl,hy⟩)
     ·exact⟨x,rfl,.refl _⟩
     ·exact⟨y,rfl,.up hz hy⟩
    ·rintro⟨y,rfl,hy⟩;rcases(anc_up hz).1 hy with rfl|hy
     ·exact .inl rfl
     ·exact .inr ⟨y,rfl,hy⟩
   ·cases hpp:p (x:Int) with
    | true=>exact .inr ⟨x,by simp[List.find?,hpp],.refl _,hpp,λy hy _=>hy⟩
    | false=>
     have hf:((x:Int)::q).find? p=q.find? p:=by simp[List.find?,hpp]
     rw[hf];rcases hq3 p with⟨e1,e2⟩|⟨f,e1,e2,e3,e4⟩
     ·refine .inl ⟨e1,λy hy=>?_⟩;rcases(anc_up hz).1 hy with rfl|hy
      ·exact hpp
      ·exact e2 y hy
     ·refine .inr ⟨f,e1,.up hz e2,e3,λy hy hpy=>?_⟩;rcases(anc_up hz).1 hy with rfl|hy
      ·rw[hpp]at hpy;cases hpy
      ·exact e4 y hy hpy
theorem Ordered.pos_lt(o:Ordered S r n P){x:Nat}(hx:x∈r::P):pos (r::P) x<n:=by
 obtain⟨j,hj,rfl⟩:=Ll hx;rw[(CR o.nodup hj).2];have:=Lz n (r::P) o.nodup λy hy=>o.lt hy;omega
theorem DomTree.path(h:DomTree S r n P t)(o:Ordered S r n P){x:Nat}(hx:x<n)(hp:Bd t x≠-2):Eu t (x:Int)≠[]/\(∀ w:Int,w∈Eu t (x:Int)↔∃ z:Nat,w=(z:Int)/\UpTo (Bd t) x z) /\
  ∀ p:Int->Bool,((Eu t (x:Int)).find? p=none/\∀ z:Nat,UpTo (Bd t) x z->p (z:Int)=false)\/∃ f:Nat,(Eu t (x:Int)).find? p=some (f:Int)/\UpTo (Bd t) x f/\p (f:Int)=true/\∀ z:Nat,UpTo (Bd t) x z->p (z:Int)=true->UpTo (Bd t) f z:=by
 have hm:=(o.mem x).2 (h.inv.rc x hx hp);obtain⟨q,h1,h2,h3⟩:=h.up n x hx hp (o.pos_lt hm)
 have e:Eu t (x:Int)=q:=by unfold Eu;rw[h.len,h1];rfl
 rw[e];refine⟨λe=>?_,h2,h3⟩;have:=(h2 (x:Int)).2 ⟨x,rfl,.refl _⟩;rw[e]at this
 cases this
theorem DomTree.nopath(h:DomTree S r n P t){x:Nat}(hx:x<n)(hp:Bd t x = -2):Eu t (x:Int)=[]:=by
 rw[pathD_nil]
 cases hl:t.length with
 | zero=>rfl
 | succ k=>
  unfold upD;rw[if_pos ⟨by omega,by rw[h.len];omega⟩,A5,show t.getD x 0=Bd t x from rfl,hp,if_neg (by omega)]
  cases k with
  | zero=>rfl
  | succ k=>unfold upD;rw[if_neg (by omega)];rfl
theorem DomTree.right(h:DomTree S r n P t)(o:Ordered S r n P):Iu t=true:=by
 unfold Iu;rw[A4]
 constructor
 ·refine all_range.2 λx hx=>?_;rw[h.len]at hx;unfold nR
  by_cases hp:Bd t x = -2
  ·rw[show t.getD x 0=Bd t x from rfl,hp];rfl
  ·rw[C6 (h.path o hx hp).1];simp
 ·apply Cw
  have key:∀ k,k<=n->X4 t k=if r<k then 1 else 0:=by
   intro k
   induction k with
   | zero=>intro _;rfl
   | succ k ih=>
    intro hk;rw[FW,ih (by omega)]
    have hr:t.getD k 0 = -1↔k=r:=by
     constructor
     ·intro he;rcases h.inv.kind k (by omega) with h1|h1|⟨z,hz⟩
      ·rw[show t.getD k 0=Bd t k from rfl,h1]at he;omega
      ·exact h1
      ·rw[show t.getD k 0=Bd t k from rfl,hz]at he;omega
     ·rintro rfl;exact h.inv.top
    by_cases hkr:k=r
    ·subst hkr;rw[if_neg (by omega),if_pos (hr.2 rfl),if_pos (by omega)]
    ·rw[if_neg (λe=>hkr (hr.1 e))]
     by_cases h2:r<k
     ·rw[if_pos h2,if_pos (by omega)]
     ·rw[if_neg h2,if_neg (by omega)]
  rw[h.len,key n (zzL8 _),if_pos o.hr]
theorem DomTree.meet(h:DomTree S r n P t)(o:Ordered S r n P){a b:Nat}(ha:a<n)(hb:b<n)(hpa:Bd t a≠-2)(hpb:Bd t b≠-2):∃ m:Nat,Mg t (a:Int) (b:Int)=(m:Int)/\MeetAt (Bd t) a b m/\m<n/\Bd t m≠-2:=by
 have rd:Ready S r n P t P.length:=⟨h.inv,h.len,λx hx=>by rw[Wn]at hx;exact h.full x (o.lt hx) ((o.mem x).1 hx)⟩;obtain⟨c,hc1,hc2,hc3⟩:=h.inv.meets (rd.inj o) QE _ a b (zzL8 _) ha hb hpa hpb;refine⟨c,?_,hc1,hc2,hc3⟩;unfold Mg;rw[if_pos (h.right o)];obtain⟨hca,hcb⟩:=(hc1 c).1 (.refl _)
 have hin:∀ z:Nat,(Eu t (b:Int)).contains (z:Int)=true↔UpTo (Bd t) b z:=λz=>by
  rw[GH,(h.path o hb hpb).2.1]
  constructor
  ·rintro⟨y,hy,hu⟩;cases Vs hy;exact hu
  ·intro hu;exact⟨z,rfl,hu⟩
 rcases(h.path o ha hpa).2.2 λx=>(Eu t (b:Int)).contains x with⟨_,h2⟩|⟨f,h1,h2,h3,h4⟩
 ·have:=h2 c hca;rw[(hin c).2 hcb]at this
  cases this
 ·rw[h1];have hfc:=h4 c hca ((hin c).2 hcb);have hcf:=(hc1 f).2 ⟨h2,(hin f).1 h3⟩;rw[h.inv.antisymm hcf hfc hc2 hc3]
  rfl
theorem DomTree.meet_none(h:DomTree S r n P t)(o:Ordered S r n P){a b:Nat}(ha:a<n)(hb:b<n)(hp:Bd t a = -2\/Bd t b = -2):Mg t (a:Int) (b:Int) = -2:=by
 unfold Mg;rw[if_pos (h.right o)];rcases hp with hp|hp
 ·rw[h.nopath ha hp];rfl
 ·rw[h.nopath hb hp]
  have:(Eu t (a:Int)).find? (λx=>([]:List Int).contains x)=none:=List.find?_eq_none.2 λx _=>by simp
  rw[this];rfl
theorem DomTree.over(h:DomTree S r n P t)(o:Ordered S r n P){a b:Nat}(ha:a<n)(hb:b<n):N0 t (a:Int) (b:Int)=true↔Bd t b≠-2/\UpTo (Bd t) b a:=by
 unfold N0;rw[A4,zzL66,zzL89]
 by_cases hpa:Bd t a = -2
 ·rw[h.meet_none o ha hb (.inl hpa)]
  constructor
  ·rintro⟨h1,_⟩;omega
  ·rintro⟨h1,h2⟩;exact absurd hpa (h.inv.anc h2 hb h1).2.1
 ·by_cases hpb:Bd t b = -2
  ·rw[h.meet_none o ha hb (.inr hpb)]
   constructor
   ·rintro⟨h1,_⟩;omega
   ·rintro⟨h1,_⟩;exact absurd hpb h1
  ·obtain⟨m,hm1,hm2,hm3,hm4⟩:=h.meet o ha hb hpa hpb;rw[hm1]
   constructor
   ·rintro⟨h1,_⟩;have h1:=Vs h1;subst h1;exact⟨hpb,((hm2 _).1 (.refl _)).2⟩
   ·rintro⟨_,h2⟩;have:=(hm2 a).2 ⟨.refl _,h2⟩;have h3:=((hm2 m).1 (.refl _)).1;rw[h.inv.antisymm h3 this ha hpa];exact⟨rfl,by omega⟩
theorem DomTree.over_dom(h:DomTree S r n P t)(o:Ordered S r n P){a b:Nat}(ha:a<n)(hb:b<n):N0 t (a:Int) (b:Int)=true↔Rc S r b/\¬ Av S r a b:=by
 rw[h.over o ha hb]
 constructor
 ·rintro⟨h1,h2⟩;exact⟨h.inv.rc b hb h1,(h.exact_ b hb h1 a).1 h2⟩
 ·rintro⟨h1,h2⟩;have:=h.full b hb h1;exact⟨this,(h.exact_ b hb this a).2 h2⟩
end
section
variable {L:List (List Int)} (hm:Ly L=true) {r:Nat} (hr:r<L.length)
include hm hr
theorem ax:∃ P,Ord (sN L) r (r::P)/\Ordered (sN L) r L.length P/\DomTree (sN L) r L.length P (X5 L r):=by
 obtain⟨O,hO⟩:=Ord.exist (Vh hm) hr;obtain⟨P,rfl,o⟩:=hO.ordered hr (Vh hm);obtain⟨J,_,hJ⟩:=jl o;have hd:=BE o hJ;refine⟨P,hO,o,?_⟩;rw[<- hd.eq hm hr o];exact hd
end
theorem ZK{X:Type}(n:Nat)(p:Nat->Bool)(f:Int->Option (LR Int X))(yes no:X)(hn:∀ i:Nat,i<n->p i=true->f (i:Int)=some (.next ((i:Int)+1)))
  (hf:∀ i:Nat,i<n->p i=false->f (i:Int)=some (.done no)) (he:f (n:Int)=some (.done yes)):Ah f (0:Int)=some (bif (List.range n).all p then yes else no):=by
 have hg:∀ i,i<(List.range n).length->(List.range n).getD i 0=i:=λi hi=>by rw[Ab _ _ _ hi];simp
 have:=S6 (List.range n) 0 p f yes no (λi hi hp=>by rw[hg i hi]at hp;exact hn i (by simpa using hi) hp) (λi hi hp=>by rw[hg i hi]at hp;exact hf i (by simpa using hi) hp) (by simpa using he) n 0 (by simp);rw[show(0:Int)=((0:Nat):Int) from rfl,this,Lm]
theorem bo{n:Nat}{p:Nat->Bool}(h:(List.range n).all p=true):∀ i,i<n->p i=true:=λi hi=>zzL27.1 h i (by simpa using hi)
def Rk(L:List (List Int)):List Bool:=JK (sN L) L.length ((List.replicate L.length false).set 0 true) L.length
def Hc(l:List Int)(p:Em):Bool:=decide (p.From=l)&&((p.Args.length:Int)==(l.length:Int))
def Qi(L:List (List Int))(b:Ag)(i:Nat):Bool:=(Rk L).getD i false&&!((b.End.Kind==1 || b.End.Kind==3)&&(b.End.Arg !=0))&&b.Phis.all (Hc ((Fg L).getD i []))
def F7(f:Aa):Bool:=N5 f&&(List.range f.Blocks.length).all λi=>Qi (Er f) (f.Blocks.getD i default) i
theorem X1(f:Aa):(Er f).length=f.Blocks.length:=by simp[Er]
theorem aq{f:Aa}(h:F7 f=true):iW f:=λb hb p hp=>by
 simp only[F7,A4]at h;obtain⟨i,hi,rfl⟩:=Ll hb;have h1:=bo h.2 i hi;rw[Ab _ _ _ hi]at h1;simp only[Qi,A4]at h1;have h2:=zzL27.1 h1.2 p hp;simp only[Hc,A4,D0,zzL66]at h2;rw[h2.1];omega
def K3(l:List TDef)(i:Nat):Bool:=valS (l.getD i default).V&&(Ih l (l.getD i default).V==(i:Int))
def K4(l:List TDef)(u:Mp):Bool:=!decide (Ih l u.V<0)
def defOf(l:List TDef)(v:Int):TDef:=l.getD (Ih l v).toNat default
def Xp(l:List TDef)(u:Mp):Bool:=((defOf l u.V).Shape.1==u.Shape.1)&&(((defOf l u.V).Shape.2==u.Shape.2)&&true)
def Vc(l:List TDef)(t:List Int)(u:Mp):Bool:=
 (decide ((defOf l u.V).Block<0) || ((defOf l u.V).Block==u.Block&&decide ((defOf l u.V).At<u.At))) || (!((defOf l u.V).Block==u.Block)&&!(Mg t (defOf l u.V).Block u.Block !=(defOf l u.V).Block))
def B0(f:Aa):List Int:=QX (Yi (Er f)) 0
def MP(f:Aa)(l:Int):Int:=
 bif !F7 f then 5 else bif !Pq f l then 6 else bif !(List.range (Ax f).length).all (K3 (Ax f)) then 7 else bif !(Dz f).all (K4 (Ax f)) then 7 else
 bif !(Dz f).all (Xp (Ax f)) then 6 else bif !(Dz f).all (Vc (Ax f) (B0 f)) then 7 else 0
def Cm(f:Aa)(l:Int):Int:=bif decide (l<0) || decide (2<l) then 1 else bif !Ra f then 4 else MP f l
theorem OQ{l:List TDef}{v:Int}(h:¬ Ih l v<0):Bw (Ih l v) l.length:=by
 unfold Ih at h ⊢
 cases hx:l.findIdx? (λd=>d.V==v) with
 | none=>rw[hx]at h;exact absurd (by decide) h
 | some i=>
  obtain⟨hi,_⟩:=List.findIdx?_eq_some_iff_getElem.1 hx;exact Bc hi
theorem eQ{f:Aa}(h:N5 f=true):(B0 f).length<=1000:=by
 have h1:=(Y0 (Tj h)).1;unfold B0 QX
 split
 ·rw[JS];show(Er f).length<=1000;omega
 ·simp
def grow(n d:Int):Int:=bif decide (n<d) then d else n
def Sm(f:Aa):Prop:=fJ f/\Dr f=some true
theorem jk{f:Aa}(h:Sm f)(hm:Ra f=true):OkF f:=by
 obtain⟨sm,h1,h2⟩:=QR f h.1;rw[h.2]at h1;exact(h2 (OI h1).symm hm).1
structure bY(f:Aa)(s:List (Int×(Int×Int))):Prop where
 none:Cm f 2≠0->s.length=0
 len:Cm f 2=0->s.length=(Ax f).length
 get:Cm f 2=0->∀ d∈Ax f,mget ((0:Int),(0:Int)) s d.V=d.Shape
 has:Cm f 2=0->∀ v,B2 s v=true->∃ d∈Ax f,d.V=v
theorem mf{f:Aa}(hf:fJ f)(h0:f.Params.length<=64)(hb:∀ b∈f.Blocks,b.End.To.length<=64/\(∀ p∈b.Phis,p.From.length<=64/\p.Args.length<=64)/\∀ o∈b.Ops,o.Args.length<=64)(he:YZ f<=20000):Sm f:=
 ⟨hf,by rw[QQ f hf h0 hb,Cw he]⟩
def FK(f:Aa):Int:=
 bif !(List.range (Ax f).length).all (K3 (Ax f)) then 7 else bif !(Dz f).all (K4 (Ax f)) then 7 else
 bif !(Dz f).all (Xp (Ax f)) then 6 else bif !(Dz f).all (Vc (Ax f) (B0 f)) then 7 else 0
theorem Nn{f:Aa}{l:Int}(h0:0<=l)(h2:l<=2):Cm f l=0↔Ra f=true/\F7 f=true/\Pq f l=true/\FK f=0:=by
 unfold Cm MP;rw[C6 (show ¬ l<0 by omega),C6 (show ¬ 2<l by omega)]
 show _↔_/\_/\_/\FK f=0
 have e:(bif !(List.range (Ax f).length).all (K3 (Ax f)) then(7:Int) else bif !(Dz f).all (K4 (Ax f)) then 7 else
  bif !(Dz f).all (Xp (Ax f)) then 6 else bif !(Dz f).all (Vc (Ax f) (B0 f)) then 7 else 0)=FK f:=rfl
 rw[e]
 cases Ra f<;>cases F7 f<;>cases Pq f l<;>simp
theorem dH{o:Bh}(h:Ht o=true):1<=o.Lanes:=by
 simp only[Ht,A4]at h;have:=Mk h.1.1;omega
theorem ip{α:Type}(l:List α)(g:α->Nat):(l.map λa=>g a+1).sum=l.length+(l.map g).sum:=by
 induction l with
 | nil=>rfl
 | cons a l ih=>simp only[Bs,Vt,ih,M5];omega
theorem eT(a b:Int):Bj (a+Bj b)=Bj (a+b):=by rw[Int.add_comm,XJ,Int.add_comm]
theorem mj(f:Aa)(hf:fJ f):Ow f=some (sizeW f):=by
 have hl:=IU f.Blocks (default:Ag) (λb=>b.Phis.length+b.Ops.length) id (Kt f) (λn i hi=>?_) (λn=>?_) f.Blocks.length 0 f.Blocks.length (Fj _)
 ·unfold Ow;rw[CX (by have:=hf.blocks;rw[I8]at this;omega),show((0:Nat):Int)=0 from rfl]at hl;rw[hl,Ar,Lm,sizeW,O7,show(sizeB:Ag->Nat)=(λb=>(b.Phis.length+b.Ops.length)+1) from rfl,ip]
  rfl
 ·have e1:decide ((i:Int)<(f.Blocks.length:Int))=true:=Cw (by omega);unfold Kt;simp only[e1,Ae,As (Bc hi),Dk,Iy hi hf.blocks,eT,XJ];rw[show(n:Int)+(((f.Blocks.getD i default).Phis.length:Int)+((f.Blocks.getD i default).Ops.length:Int))=((n+((f.Blocks.getD i default).Phis.length+(f.Blocks.getD i default).Ops.length):Nat):Int) by omega]
 ·have e1:decide ((f.Blocks.length:Int)<(f.Blocks.length:Int))=false:=by simp
  unfold Kt;simp only[e1,Az,id]
theorem Wv{α:Type}(l:List α)(d:α)(p:α->Bool)(f:Int->Option (LR Int (Unit ⊕ Bool)))(hn:∀ i:Nat,i<l.length->f i=bif p (l.getD i d) then some (.next ((i:Int)+1)) else some (.done (.inr false)))
  (he:f l.length=some (.done (.inl ()))):Ah f 0=some (bif l.all p then .inl () else .inr false):=by
 have:=S6 l d p f (.inl ()) (.inr false) (λi hi hp=>by rw[hn i hi,hp];rfl) (λi hi hp=>by rw[hn i hi,hp];rfl) he l.length 0 (Fj _)
 simpa using this
theorem ZU(x:Int):(bif decide (x<0) then true else decide (2147483647<x)) = !numB x:=by
 unfold numB
 by_cases h1:x<0
 ·have:¬ 0<=x:=by omega
  simp[h1,this]
 ·by_cases h2:2147483647<x
  ·have:¬ x<=2147483647:=by omega
   simp[h1,h2,this]
  ·have h3:0<=x:=by omega
   have h4:x<=2147483647:=by omega
   simp[h1,h2,h3,h4]
theorem JV(l:List Int)(h:l.length<=maxLen):C1 l=some (l.all numB):=by
 have hl:=Wv l 0 numB (Gn l) (λi hi=>?_) ?_
 ·unfold C1;rw[hl]
  cases l.all numB<;>rfl
 ·have e1:decide ((i:Int)<(l.length:Int))=true:=Cw (by omega);unfold Gn;simp only[e1,Ae,As (Bc hi),Dk,ZU,Iy hi h]
  cases numB (l.getD i 0)<;>simp
 ·unfold Gn
  simp
theorem Uv(l:List Int)(h:l.length<=maxLen):Fd l=some (Mf l):=by
 unfold Fd;rw[JV l h]
 by_cases h1:l.length<=64
 ·have e1:decide ((l.length:Int)<=64)=true:=Cw (by omega);rw[e1];simp[Mf,h1]
 ·have e1:decide ((l.length:Int)<=64)=false:=C6 (by omega);rw[e1];simp[Mf,h1]
theorem Us{l:List Int}(h:l.length<=10):l.length<=maxLen:=by rw[I8];omega
theorem eZ(p:Em)(h1:p.From.length<=maxLen)(h2:p.Args.length<=maxLen):Kv p=some (HJ p):=by
 unfold Kv HJ;rw[JV _ (Us (by simp)),Uv _ h1,Uv _ h2];simp only[Pa,List.all_nil,Zx]
 cases numB p.Bits<;>cases numB p.Dst<;>cases Mf p.From<;>cases Mf p.Args<;>rfl
theorem iy(o:Bh)(h1:o.Args.length<=maxLen):L9 o=some (NE o):=by
 unfold L9 NE;rw[JV _ (Us (by simp)),Uv _ h1];simp only[Pa,List.all_nil,Zx]
 cases numB o.Kind<;>cases numB o.Bits<;>cases numB o.Lanes<;>cases numB o.Dst<;>cases Mf o.Args<;>rfl
theorem eX(e:Ge)(h1:e.To.length<=maxLen):Ku e=some (OL e):=by
 unfold Ku OL;rw[JV _ (Us (by simp)),Uv _ h1];simp only[Pa,List.all_nil,Zx]
 cases numB e.Kind<;>cases numB e.Arg<;>cases Mf e.To<;>rfl
theorem EK{X:Type}(b:Bool)(x y:X):(bif !b then x else y)=bif b then y else x:=by cases b<;>rfl
theorem bC(l:List Em)(hl:l.length<=maxLen)(h:∀ p∈l,p.From.length<=maxLen/\p.Args.length<=maxLen):F5 l=some (l.all HJ):=by
 have hl':=Wv l (default:Em) HJ (Ez l) (λi hi=>?_) ?_
 ·unfold F5;rw[hl']
  cases l.all HJ<;>rfl
 ·have e1:decide ((i:Int)<(l.length:Int))=true:=Cw (by omega);have:=h _ (getD_mem (d:=(default:Em)) hi);unfold Ez;simp only[e1,Ae,As (Bc hi),Dk,eZ _ this.1 this.2,Ar,EK,Iy hi hl,Int.natCast_add,Int.natCast_one]
 ·unfold Ez
  simp
theorem eY(l:List Bh)(hl:l.length<=maxLen)(h:∀ o∈l,o.Args.length<=maxLen):Gm l=some (l.all NE):=by
 have hl':=Wv l (default:Bh) NE (E9 l) (λi hi=>?_) ?_
 ·unfold Gm;rw[hl']
  cases l.all NE<;>rfl
 ·have e1:decide ((i:Int)<(l.length:Int))=true:=Cw (by omega);have:=h _ (getD_mem (d:=(default:Bh)) hi);unfold E9;simp only[e1,Ae,As (Bc hi),Dk,iy _ this,Ar,EK,Iy hi hl,Int.natCast_add,Int.natCast_one]
 ·unfold E9
  simp
theorem UW(b:Ag)(h1:b.Phis.length<=maxLen)(h2:b.Ops.length<=maxLen)(h3:b.End.To.length<=maxLen)(h4:∀ p∈b.Phis,p.From.length<=maxLen/\p.Args.length<=maxLen)(h5:∀ o∈b.Ops,o.Args.length<=maxLen):I6 b=some (blockB b):=by
 unfold I6 blockB;rw[bC _ h1 h4,eY _ h2 h5,eX _ h3]
 cases b.Phis.all HJ<;>cases b.Ops.all NE<;>cases OL b.End<;>rfl
theorem RC(f:Aa)(hf:fJ f):E8 f.Blocks=some (f.Blocks.all blockB):=by
 have hl':=Wv f.Blocks (default:Ag) blockB (Eb f.Blocks) (λi hi=>?_) ?_
 ·unfold E8;rw[hl']
  cases f.Blocks.all blockB<;>rfl
 ·have e1:decide ((i:Int)<(f.Blocks.length:Int))=true:=Cw (by omega);have hm:=getD_mem (d:=(default:Ag)) hi;have q:=hf.block _ hm;unfold Eb;simp only[e1,Ae,As (Bc hi),Dk,UW _ q.1 q.2.1 q.2.2 (hf.phi _ hm) (λo ho=>(hf.op _ hm o ho).1),Ar,EK,Iy hi hf.blocks,Int.natCast_add,Int.natCast_one]
 ·unfold Eb
  simp
theorem oM(f:Aa)(hf:fJ f):Qx f=some (Ra f):=by
 unfold Qx Ra;rw[mj f hf,JV _ hf.params,JV _ (Us (by simp)),RC f hf];simp only[Pa,List.all_nil,Zx,Mf]
 have d1:∀ n:Nat,decide ((n:Int)<1) = !decide (1<=n):=λn=>by by_cases h:1<=n<;>simp[h]<;>omega
 have d2:∀ n:Nat,decide ((64:Int)<(n:Int)) = !decide (n<=64):=λn=>by by_cases h:n<=64<;>simp[h]<;>omega
 have d3:∀ n:Nat,decide ((16:Int)<(n:Int)) = !decide (n<=16):=λn=>by by_cases h:n<=16<;>simp[h]<;>omega
 have d4:∀ n:Int,decide ((512:Int)<n) = !decide (n<=512):=λn=>by by_cases h:n<=512<;>simp[h]<;>omega
 simp only[d1,d2,d3,d4]
 have himp:decide (f.Params.length<=16)=true->decide (f.Params.length<=64)=true:=λh=>by simp at h ⊢;omega
 revert himp
 generalize decide (1<=f.Blocks.length)=c1
 generalize decide (f.Blocks.length<=64)=c2
 generalize decide (f.Params.length<=16)=c3
 generalize decide (f.Params.length<=64)=c4
 generalize f.Params.all numB=c6
 generalize numB f.Ret=c7
 generalize f.Blocks.all blockB=c8
 cases c3 with
 | true=>
  intro h;obtain rfl:=h rfl;simp only[Fi,Qc,Ae,Ar,Az]
  generalize decide (sizeW f<=512)=c5
  cases c1<;>cases c2<;>cases c6<;>cases c7<;>cases c8<;>cases c5<;>rfl
 | false=>
  intro _
  cases c1<;>cases c2<;>rfl
inductive Tp (t:List Int):Nat->Nat->Nat->Prop
 | top {x:Nat} (hx:x<t.length) (h:t.getD x 0 = -1):Tp t x x 0
 | up {x y r k:Nat} (hx:x<t.length) (h:t.getD x 0=(y:Int)) (hk:Tp t y r k):Tp t x r (k+1)
section
variable {t:List Int}
theorem Tp.lt{x r k:Nat}(h:Tp t x r k):x<t.length:=by cases h<;>assumption
theorem Tp.tops{x r k:Nat}(h:Tp t x r k):r<t.length/\t.getD r 0 = -1:=by
 induction h with
 | top hx h=>exact⟨hx,h⟩
 | up _ _ _ ih=>exact ih
theorem Tp.det{x r k r' k':Nat}(h:Tp t x r k)(h':Tp t x r' k'):r=r'/\k=k':=by
 induction h generalizing k' with
 | top hx h=>cases h' with
  | top=>exact⟨rfl,rfl⟩
  | up _ h2 _=>omega
 | up hx h1 _ ih=>cases h' with
  | top _ h2=>omega
  | up _ h2 k2=>
   have:_=_:=h1.symm.trans h2
   cases Vs this
   obtain⟨e1,e2⟩:=ih k2;exact⟨e1,by omega⟩
theorem Tp.upTo{x r k:Nat}(h:Tp t x r k):UpTo (Bd t) x r:=by
 induction h with
 | top=>exact .refl _
 | up _ h _ ih=>exact .up h ih
theorem Tp.on{x r k z:Nat}(h:Tp t x r k)(hz:UpTo (Bd t) x z):∃ j,j<=k/\Tp t z r j/\(j=k->z=x):=by
 induction hz generalizing k with
 | refl x=>exact⟨k,zzL8 _,h,λ_=>rfl⟩
 | up hp _ ih=>
  cases h with
  | top _ h2=>have:_=_:=hp.symm.trans h2;omega
  | up _ h2 k2=>
   have:_=_:=hp.symm.trans h2
   cases Vs this
   obtain⟨j,h1,h3,_⟩:=ih k2;exact⟨j,by omega,h3,λe=>by omega⟩
theorem Tp.anti{x r k z:Nat}(h:Tp t x r k)(h1:UpTo (Bd t) x z)(h2:UpTo (Bd t) z x):z=x:=by
 obtain⟨j,j1,j2,j3⟩:=h.on h1;obtain⟨i,i1,i2,i3⟩:=j2.on h2;have:=h.det i2;exact j3 (by omega)
theorem Tp.list{x r k:Nat}(h:Tp t x r k):∃ l:List Nat,l.length=k+1/\l.Nodup/\∀ y∈l,y<t.length/\∃ j,j<=k/\Tp t y r j:=by
 induction h with
 | top hx h=>exact⟨[_],rfl,by simp,λy hy=>by rw[zzL14.1 hy];exact⟨hx,0,zzL8 _,.top hx h⟩⟩
 | @up x y r k hx h hk ih=>
  obtain⟨l,h1,h2,h3⟩:=ih;refine⟨x::l,by simp[h1],zzL76.2 ⟨λhm=>?_,h2⟩,λz hz=>?_⟩
  ·obtain⟨_,j,hj,hj2⟩:=h3 _ hm;have:=(Tp.up hx h hk).det hj2;omega
  ·rcases zzL24.1 hz with rfl|hz
   ·exact⟨hx,k+1,zzL8 _,.up hx h hk⟩
   ·obtain⟨e1,j,e2,e3⟩:=h3 z hz;exact⟨e1,j,by omega,e3⟩
theorem Tp.short{x r k:Nat}(h:Tp t x r k):k<t.length:=by
 obtain⟨l,h1,h2,h3⟩:=h.list;have:=Lz t.length l h2 λy hy=>(h3 y hy).1;omega
theorem Tp.upD{x r k:Nat}(h:Tp t x r k):∀ m,k<m->∃ q,upD t m (x:Int)=some q/\(∀ w:Int,w∈q↔∃ z:Nat,w=(z:Int)/\UpTo (Bd t) x z) /\
  ∀ p:Int->Bool,(q.find? p=none/\∀ z:Nat,UpTo (Bd t) x z->p (z:Int)=false)\/∃ f:Nat,q.find? p=some (f:Int)/\UpTo (Bd t) x f/\p (f:Int)=true/\∀ z:Nat,UpTo (Bd t) x z->p (z:Int)=true->UpTo (Bd t) f z:=by
 induction h with
 | @top x hx h=>
  intro m hm;obtain⟨m,rfl⟩:∃ i,m=i+1:=⟨m-1,by omega⟩
  have htop:∀ z,UpTo (Bd t) x z↔z=x:=λz=>CD λp hp=>by have:_=_:=hp.symm.trans h;omega
  unfold Go.Proofs.YtjpnobeadcdnoaaGreat.upD;rw[if_pos ⟨by omega,by omega⟩,A5,if_pos h];refine⟨_,rfl,λw=>?_,λp=>?_⟩
  ·rw[zzL14]
   constructor
   ·rintro rfl;exact⟨x,rfl,.refl _⟩
   ·rintro⟨z,rfl,hz⟩;rw[(htop z).1 hz]
  ·cases hpp:p (x:Int) with
   | false=>exact .inl ⟨by simp[List.find?,hpp],λz hz=>by rw[(htop z).1 hz];exact hpp⟩
   | true=>exact .inr ⟨x,by simp[List.find?,hpp],.refl _,hpp,λz hz _=>hz⟩
 | @up x y r k hx h hk ih=>
  intro m hm;obtain⟨m,rfl⟩:∃ i,m=i+1:=⟨m-1,by omega⟩;unfold Go.Proofs.YtjpnobeadcdnoaaGreat.upD;rw[if_pos ⟨by omega,by omega⟩,A5,if_neg (by omega),h];obtain⟨q,hq1,hq2,hq3⟩:=ih m (by omega);rw[hq1];refine⟨(x:Int)::q,rfl,λw=>?_,λp=>?_⟩
  ·rw[zzL24,hq2 w]
   constructor
   ·rintro(rfl|⟨y,rfl,hy⟩)
    ·exact⟨x,rfl,.refl _⟩
    ·exact⟨y,rfl,.up h hy⟩
   ·rintro⟨y,rfl,hy⟩;rcases(anc_up h).1 hy with rfl|hy
    ·exact .inl rfl
    ·exact .inr ⟨y,rfl,hy⟩
  ·cases hpp:p (x:Int) with
   | true=>exact .inr ⟨x,by simp[List.find?,hpp],.refl _,hpp,λy hy _=>hy⟩
   | false=>
    have hf:((x:Int)::q).find? p=q.find? p:=by simp[List.find?,hpp]
    rw[hf];rcases hq3 p with⟨e1,e2⟩|⟨f,e1,e2,e3,e4⟩
    ·refine .inl ⟨e1,λy hy=>?_⟩;rcases(anc_up h).1 hy with rfl|hy
     ·exact hpp
     ·exact e2 y hy
    ·refine .inr ⟨f,e1,.up h e2,e3,λy hy hpy=>?_⟩;rcases(anc_up h).1 hy with rfl|hy
     ·rw[hpp]at hpy;cases hpy
     ·exact e4 y hy hpy
theorem lD:∀ m (a:Int) q,upD t m a=some q->∃ x r k:Nat,a=(x:Int)/\k<m/\Tp t x r k:=by
 intro m
 induction m with
 | zero=>intro a q h;cases h
 | succ m ih=>
  intro a q h;unfold Go.Proofs.YtjpnobeadcdnoaaGreat.upD at h
  by_cases ha:0<=a/\a<(t.length:Int)
  ·rw[if_pos ha]at h;have e:((a.toNat:Nat):Int)=a:=Vn ha.1
   by_cases h1:t.getD a.toNat 0 = -1
   ·exact⟨a.toNat,a.toNat,0,e.symm,by omega,.top (by omega) h1⟩
   ·rw[if_neg h1]at h
    cases hu:Go.Proofs.YtjpnobeadcdnoaaGreat.upD t m (t.getD a.toNat 0) with
    | none=>rw[hu]at h;cases h
    | some q'=>
     obtain⟨y,r,k,e1,e2,e3⟩:=ih _ _ hu;exact⟨a.toNat,r,k+1,e.symm,by omega,.up (by omega) e1 e3⟩
  ·rw[if_neg ha]at h;cases h
theorem pathD_tp{a:Int}:Eu t a≠[]↔∃ x r k:Nat,a=(x:Int)/\Tp t x r k:=by
 constructor
 ·intro h
  cases hu:upD t t.length a with
  | none=>exact absurd (pathD_nil.2 hu) h
  | some q=>obtain⟨x,r,k,e1,_,e2⟩:=lD _ _ _ hu;exact⟨x,r,k,e1,e2⟩
 ·rintro⟨x,r,k,rfl,h⟩ e;obtain⟨q,hq,_⟩:=h.upD t.length h.short;rw[pathD_nil.1 e]at hq;cases hq
theorem Tp.path{x r k:Nat}(h:Tp t x r k):(∀ w:Int,w∈Eu t (x:Int)↔∃ z:Nat,w=(z:Int)/\UpTo (Bd t) x z) /\
  ∀ p:Int->Bool,((Eu t (x:Int)).find? p=none/\∀ z:Nat,UpTo (Bd t) x z->p (z:Int)=false)\/∃ f:Nat,(Eu t (x:Int)).find? p=some (f:Int)/\UpTo (Bd t) x f/\p (f:Int)=true/\∀ z:Nat,UpTo (Bd t) x z->p (z:Int)=true->UpTo (Bd t) f z:=by
 obtain⟨q,h1,h2,h3⟩:=h.upD t.length h.short
 have e:Eu t (x:Int)=q:=by unfold Eu;rw[h1];rfl
 rw[e];exact⟨h2,h3⟩
theorem DT{α:Type}{l:List α}{i j:Nat}{x d:α}(hi:i<l.length):(l.set i x).getD j d=if j=i then x else l.getD j d:=by
 by_cases h:j=i
 ·subst h;simp[List.getD,hi]
 ·simp[List.getD,h,Hg h]
theorem iF{x r k:Nat}(h:Tp t x r k):∀ l:List Bool,l.length=t.length->∃ l',Ah (Fs t) ((x:Int),l)=some l'/\l'.length=t.length/\∀ z,z<t.length->(l'.getD z false=true↔l.getD z false=true\/UpTo (Bd t) x z):=by
 induction h with
 | @top x hx h=>
  intro l hl
  have hs:Fs t ((x:Int),l)=some (.next (-1,l.set x true)):=by
   unfold Fs
   have hb:((x:Int)!=(-1:Int))=true:=by rw[zzL89];omega
   simp only[hb,Ae,A5,h];rw[Ad (Je (by omega)),Ad (Je hx)]
  have hd:Fs t (-1,l.set x true)=some (.done (l.set x true)):=by
   unfold Fs
   rfl
  refine⟨l.set x true,by rw[Ap hs,Ai hd],by simp[hl],λz hz=>?_⟩;rw[DT (by omega)]
  have htop:UpTo (Bd t) x z↔z=x:=CD λp hp=>by have:_=_:=hp.symm.trans h;omega
  rw[htop]
  by_cases e:z=x
  ·simp[e]
  ·simp[e]
 | @up x y r k hx h hk ih=>
  intro l hl
  have hs:Fs t ((x:Int),l)=some (.next ((y:Int),l.set x true)):=by
   unfold Fs
   have hb:((x:Int)!=(-1:Int))=true:=by rw[zzL89];omega
   simp only[hb,Ae,A5,h];rw[Ad (Je (by omega)),Ad (Je hx)]
  obtain⟨l',e1,e2,e3⟩:=ih (l.set x true) (by simp[hl]);refine⟨l',by rw[Ap hs,e1],e2,λz hz=>?_⟩;rw[e3 z hz,DT (by omega),anc_up (par:=Bd t) h]
  by_cases e:z=x
  ·simp[e]
  ·simp[e]
theorem iG{b r k:Nat}(h:Tp t b r k)(l:List Bool)(hl:l.length=t.length):l.getD r false=true->∃ c:Nat,Ah (Ft t l) (b:Int)=some (c:Int)/\UpTo (Bd t) b c/\l.getD c false=true/\∀ z,UpTo (Bd t) b z->l.getD z false=true->UpTo (Bd t) c z:=by
 induction h with
 | @top x hx h=>
  intro hr
  have hd:Ft t l (x:Int)=some (.done (x:Int)):=by
   unfold Ft;rw[Ad (Je (by omega)),A5,hr]
   rfl
  exact⟨x,Ai hd,.refl _,hr,λz hz _=>hz⟩
 | @up x y r k hx h hk ih=>
  intro hr
  cases hx2:l.getD x false with
  | true=>
   have hd:Ft t l (x:Int)=some (.done (x:Int)):=by
    unfold Ft;rw[Ad (Je (by omega)),A5,hx2]
    rfl
   exact⟨x,Ai hd,.refl _,hx2,λz hz _=>hz⟩
  | false=>
   have hs:Ft t l (x:Int)=some (.next (y:Int)):=by
    unfold Ft;rw[Ad (Je (by omega)),A5,hx2,Kf,Ae,Ad (Je hx),h]
   obtain⟨c,e1,e2,e3,e4⟩:=ih hr;refine⟨c,by rw[Ap hs,e1],.up h e2,e3,λz hz hlz=>?_⟩;rcases(anc_up (par:=Bd t) h).1 hz with rfl|hz
   ·rw[hx2]at hlz;cases hlz
   ·exact e4 z hz hlz
theorem AP(ht:t.length<=1000){a b r k m:Nat}(ha:Tp t a r k)(hb:Tp t b r m):∃ c:Nat,Lw t (a:Int) (b:Int)=some (c:Int)/\MeetAt (Bd t) a b c:=by
 unfold Lw
 have hroom:(1000:Nat)<=room:=by decide
 rw[Ad ⟨by omega,by omega,by omega⟩,A5];obtain⟨l',h1,h2,h3⟩:=iF ha (List.replicate t.length false) (by simp);rw[h1,Ar]
 have h3':∀ z,z<t.length->(l'.getD z false=true↔UpTo (Bd t) a z):=λz hz=>by rw[h3 z hz,N2];simp
 obtain⟨c,e1,e2,e3,e4⟩:=iG hb l' h2 ((h3' r ha.tops.1).2 ha.upTo)
 have hc:c<t.length:=by obtain⟨j,_,hj,_⟩:=hb.on e2;exact hj.lt
 refine⟨c,by rw[e1];rfl,λw=>⟨λhw=>⟨((h3' c hc).1 e3).trans hw,e2.trans hw⟩,λ⟨hw1,hw2⟩=>?_⟩⟩;obtain⟨j,_,hj,_⟩:=ha.on hw1;exact e4 w hw2 ((h3' w hj.lt).2 hw1)
theorem dP(hR:Iu t=true){a b r k m:Nat}(ha:Tp t a r k)(hb:Tp t b r m):∃ c:Nat,Mg t (a:Int) (b:Int)=(c:Int)/\MeetAt (Bd t) a b c:=by
 unfold Mg;rw[if_pos hR]
 have hcon:∀ z:Nat,(Eu t (b:Int)).contains (z:Int)=true↔UpTo (Bd t) b z:=λz=>by
  rw[GH,hb.path.1]
  constructor
  ·rintro⟨y,e,hy⟩;cases Vs e;exact hy
  ·intro hz;exact⟨z,rfl,hz⟩
 rcases ha.path.2 (λx=>(Eu t (b:Int)).contains x) with⟨e1,e2⟩|⟨f,e1,e2,e3,e4⟩
 ·have:=e2 r ha.upTo;rw[(hcon r).2 hb.upTo]at this
  cases this
 ·exact⟨f,by rw[e1];rfl,λw=>⟨λhw=>⟨e2.trans hw,((hcon f).1 e3).trans hw⟩,λ⟨hw1,hw2⟩=>e4 w hw1 ((hcon w).2 hw2)⟩⟩
theorem MeetAt.same{a b r k c d:Nat}(ha:Tp t a r k)(hc:MeetAt (Bd t) a b c)(hd:MeetAt (Bd t) a b d):c=d:=by
 obtain⟨j,_,hj,_⟩:=ha.on ((hc c).1 (.refl _)).1;exact(hj.anti ((hc d).2 ((hd d).1 (.refl _))) ((hd c).2 ((hc c).1 (.refl _)))).symm
end
theorem m_index(t:List Int)(v:Int)(ht:t.length<=1000):(∃ r:Nat,r<t.length/\t.getD r 0=v/\(∀ i,i<r->t.getD i 0≠v)/\Eg t v=some (r:Int))\/((∀ i,i<t.length->t.getD i 0≠v)/\Eg t v=some (-1)):=by
 have key:∀ k i:Nat,i+k=t.length->(∀ j,j<i->t.getD j 0≠v)->
   (∃ r:Nat,r<t.length/\t.getD r 0=v/\(∀ i,i<r->t.getD i 0≠v)/\Ah (Bz t v) (i:Int)=some (.inr (r:Int)))\/((∀ i,i<t.length->t.getD i 0≠v)/\Ah (Bz t v) (i:Int)=some (.inl ())):=by
  intro k
  induction k with
  | zero=>
   intro i hi hj
   obtain rfl:i=t.length:=by omega
   refine .inr ⟨hj,Ai ?_⟩;unfold Bz;rw[Kq];rfl
  | succ k ih=>
   intro i hi hj
   by_cases e:v=t.getD i 0
   ·refine .inl ⟨i,by omega,e.symm,hj,Ai ?_⟩;unfold Bz;have hb:((v:Int)==t.getD i 0)=true:=zzL66.2 e;simp only[F0 (show i<t.length by omega),Ae,A5,hb];rw[Ad (Je (by omega))]
   ·have hs:Bz t v (i:Int)=some (.next ((i+1:Nat):Int)):=by
     unfold Bz;have hb:((v:Int)==t.getD i 0)=false:=zzL25.2 e;simp only[F0 (show i<t.length by omega),Ae,A5,hb,Az];rw[Ad (Je (by omega)),w1 (by omega)]
    rw[Ap hs]
    exact ih (i+1) (by omega) λj hj2=>by
     by_cases ej:j=i
     ·subst ej;exact λh=>e h.symm
     ·exact hj j (by omega)
 have h0:=key t.length 0 (by omega) (λj hj=>absurd hj (M7 _));unfold Eg;rcases h0 with⟨r,h1,h2,h3,h4⟩|⟨h1,h2⟩
 ·exact .inl ⟨r,h1,h2,h3,by rw[show((0:Int))=((0:Nat):Int) from rfl,h4];rfl⟩
 ·exact .inr ⟨h1,by rw[show((0:Int))=((0:Nat):Int) from rfl,h2];rfl⟩
section
variable {t:List Int}
structure U5(t:List Int)(r f:Nat)(w:List Int):Prop where
 len:w.length=t.length
 old:∀ y,y<t.length->w.getD y 0≠0->(w.getD y 0<=(f:Int))/\∃ k,Tp t y r k
structure ba(t:List Int)(r f x:Nat)(w:List Int):Prop where
 len:w.length=t.length
 hx:x<t.length
 old:∀ y,y<t.length->w.getD y 0≠0->w.getD y 0<=(f:Int)/\(∃ k,Tp t y r k)\/w.getD y 0=((f+1:Nat):Int)/\∀ r' k,Tp t x r' k->∃ j,k<j/\Tp t y r' j
 fwd:∀ r' k,Tp t x r' k->∃ j,k<=j/\Tp t f r' j
 back:∀ r' k,Tp t f r' k->∃ j,Tp t x r' j
def JX(w:List Int):Nat:=w.countP λz=>z==0
theorem bG{w:List Int}{x:Nat}{v:Int}(hx:x<w.length)(h0:w.getD x 0=0)(hv:v≠0):JX (w.set x v)<JX w:=by
 unfold JX;rw[List.countP_set hx];rw[Ab _ _ _ hx]at h0;have hp:0<w.countP λz=>z==0:=List.countP_pos_iff.2 ⟨w[x],Yb hx,by simp[h0]⟩;have hb:(v==0)=false:=zzL25.2 hv;simp only[h0,Qc,He,hb,X8,Ex];omega
theorem leads_loop(ht:t.length<=1000){r:Nat}(hr:r<t.length)(htop:t.getD r 0 = -1){f:Nat}(hf:f<t.length):∀(m x:Nat) (w:List Int),JX w<=m->ba t r f x w->
  (∃ w',Ah (Cv t (f:Int) (r:Int)) ((x:Int),w)=some (.inl w')/\U5 t r (f+1) w'/\∃ k,Tp t f r k) \/
  ∃ b w',Ah (Cv t (f:Int) (r:Int)) ((x:Int),w)=some (.inr (b,w'))/\w'.length=t.length/\(b=true->U5 t r (f+1) w'/\∃ k,Tp t f r k)/\(b=false->∀ k,¬ Tp t f r k):=by
 intro m
 induction m with
 | zero=>
  intro x w hz hw;exact go 0 (λx w hz=>absurd hz (M7 _)) x w hz hw
 | succ m ih=>
  intro x w hz hw;exact go (m+1) (λx w hz=>ih x w (Nat.le_of_lt_succ hz)) x w hz hw
where
 go (m:Nat) (ih:∀(x:Nat) (w:List Int),JX w<m->ba t r f x w->
  (∃ w',Ah (Cv t (f:Int) (r:Int)) ((x:Int),w)=some (.inl w')/\U5 t r (f+1) w'/\∃ k,Tp t f r k) \/
  ∃ b w',Ah (Cv t (f:Int) (r:Int)) ((x:Int),w)=some (.inr (b,w'))/\w'.length=t.length/\(b=true->U5 t r (f+1) w'/\∃ k,Tp t f r k)/\(b=false->∀ k,¬ Tp t f r k)) (x:Nat) (w:List Int) (hz:JX w<=m) (hw:ba t r f x w) :
  (∃ w',Ah (Cv t (f:Int) (r:Int)) ((x:Int),w)=some (.inl w')/\U5 t r (f+1) w'/\∃ k,Tp t f r k) \/
  ∃ b w',Ah (Cv t (f:Int) (r:Int)) ((x:Int),w)=some (.inr (b,w'))/\w'.length=t.length/\(b=true->U5 t r (f+1) w'/\∃ k,Tp t f r k)/\(b=false->∀ k,¬ Tp t f r k):=by
  have hxl:=hw.hx
  have told:∀ k,Tp t x r k->U5 t r (f+1) w/\∃ k,Tp t f r k:=λk hk=>by
   obtain⟨j,_,hj⟩:=hw.fwd _ _ hk;refine⟨⟨hw.len,λy hy hy0=>?_⟩,j,hj⟩;rcases hw.old y hy hy0 with⟨h1,h2⟩|⟨h1,h2⟩
   ·exact⟨by omega,h2⟩
   ·obtain⟨i,_,hi⟩:=h2 _ _ hk;exact⟨by omega,i,hi⟩
  by_cases hxr:x=r
  ·subst hxr;refine .inl ⟨w,Ai ?_,told 0 (.top hr htop)⟩;unfold Cv
   have hb:((x:Int)!=(x:Int))=false:=by simp
   simp only[hb,Az]
  ·have hb:((x:Int)!=(r:Int))=true:=by rw[zzL89];omega
   have hin:Bw (x:Int) w.length:=Je (by rw[hw.len];exact hxl)
   by_cases hw0:w.getD x 0=0
   ·have hb0:((w.getD x 0:Int)!=0)=false:=by rw[hw0];rfl
    by_cases hpl:0<=t.getD x 0/\t.getD x 0<(t.length:Int)
    ·have hwf:Bj ((f:Int)+1)=((f+1:Nat):Int):=w1 (by omega)
     have hs:Cv t (f:Int) (r:Int) ((x:Int),w)=some (.next (t.getD x 0,w.set x ((f+1:Nat):Int))):=by
      unfold Cv H4;simp only[hb,Ae,A5,hb0,Az];rw[Ad hin,Ad (Je hxl),Cw hpl.1,Cw hpl.2,Ae,Ar,Fi,Az,Ad hin,Ad (Je hxl),hwf]
     rw[Ap hs];obtain⟨y,hy⟩:∃ y:Nat,t.getD x 0=(y:Int):=⟨(t.getD x 0).toNat,(Vn hpl.1).symm⟩;rw[hy]at hpl ⊢
     have hyl:y<t.length:=by omega
     have hst:∀ r' k,Tp t y r' k->Tp t x r' (k+1):=λr' k hk=>.up hxl hy hk
     have hset:∀ z,z<t.length->(w.set x ((f+1:Nat):Int)).getD z 0=if z=x then((f+1:Nat):Int) else w.getD z 0:=λz _=>DT (by rw[hw.len];exact hxl)
     have hW:ba t r f y (w.set x ((f+1:Nat):Int)):=by
      refine⟨by simp[hw.len],hyl,λz hzl hz0=>?_,λr' k hk=>?_,λr' k hk=>?_⟩
      ·rw[hset z hzl]at hz0 ⊢
       by_cases e:z=x
       ·subst e;rw[if_pos rfl];exact .inr ⟨rfl,λr' k hk=>⟨k+1,by omega,hst r' k hk⟩⟩
       ·rw[if_neg e]at hz0 ⊢;rcases hw.old z hzl hz0 with h1|⟨h1,h2⟩
        ·exact .inl h1
        ·refine .inr ⟨h1,λr' k hk=>?_⟩;obtain⟨j,hj1,hj2⟩:=h2 _ _ (hst r' k hk);exact⟨j,by omega,hj2⟩
      ·obtain⟨j,hj1,hj2⟩:=hw.fwd _ _ (hst r' k hk);exact⟨j,by omega,hj2⟩
      ·obtain⟨j,hj⟩:=hw.back _ _ hk
       cases hj with
       | top _ h2=>omega
       | up _ h2 h3=>
        have:=hy.symm.trans h2
        cases Vs this
        exact⟨_,h3⟩
     have hzz:=bG (x:=x) (v:=((f+1:Nat):Int)) (by rw[hw.len];exact hxl) hw0 (by omega);exact ih y _ (by omega) hW
    ·refine .inr ⟨false,w,Ai ?_,hw.len,⟨λh=>(by cases h),λ_ k hk=>?_⟩⟩
     ·unfold Cv H4;simp only[hb,Ae,A5,hb0,Az];rw[Ad hin,Ad (Je hxl)]
      have:(bif decide ((0:Int)<=t.getD x 0) then decide (t.getD x 0<(t.length:Int)) else false)=false:=by
       cases h1:decide ((0:Int)<=t.getD x 0) with
       | false=>rfl
       | true=>rw[Ae];exact C6 λh2=>hpl ⟨Qb h1,h2⟩
      rw[this,Ar]
      rfl
     ·obtain⟨j,hj⟩:=hw.back _ _ hk
      cases hj with
      | top=>exact hxr rfl
      | up _ h2 h3=>have:=h3.lt;exact hpl ⟨by omega,by omega⟩
   ·have hb0:((w.getD x 0:Int)!=0)=true:=by rw[zzL89];exact hw0
    have hwf:Bj ((f:Int)+1)=((f+1:Nat):Int):=w1 (by omega);refine .inr ⟨w.getD x 0 !=((f+1:Nat):Int),w,Ai ?_,hw.len,⟨λh=>?_,λh k hk=>?_⟩⟩
    ·unfold Cv;simp only[hb,Ae,A5,hb0];rw[Ad hin,Ad hin,hwf]
    ·rcases hw.old x hxl hw0 with⟨_,k,hk⟩|⟨h1,_⟩
     ·exact told k hk
     ·rw[h1]at h;simp at h
    ·have he:w.getD x 0=((f+1:Nat):Int):=by simpa using h
     obtain⟨j,hj⟩:=hw.back _ _ hk;rcases hw.old x hxl hw0 with⟨h1,_⟩|⟨_,h2⟩
     ·omega
     ·obtain⟨i,hi1,hi2⟩:=h2 _ _ hj;have:=hj.det hi2;omega
end
section
variable {t:List Int}
theorem iC(ht:t.length<=1000){r:Nat}(hr:r<t.length)(htop:t.getD r 0 = -1){f:Nat}(hf:f<t.length){w:List Int}(hw:U5 t r f w) :
  ∃ b w',Oy t w (f:Int) (r:Int)=some (b,w')/\w'.length=t.length/\(b=true->U5 t r (f+1) w'/\∃ k,Tp t f r k)/\(b=false->∀ k,¬ Tp t f r k):=by
 unfold Oy;have hW:ba t r f f w:=⟨hw.len,hf,λy hy h0=>.inl (hw.old y hy h0),λr' k hk=>⟨k,zzL8 _,hk⟩,λr' k hk=>⟨k,hk⟩⟩;rcases leads_loop ht hr htop hf _ f w (zzL8 _) hW with⟨w',e1,e2⟩|⟨b,w',e1,e2,e3,e4⟩
 ·exact⟨true,w',by rw[e1];rfl,e2.1.len,λ_=>e2,λh=>by cases h⟩
 ·exact⟨b,w',by rw[e1];rfl,e2,e3,e4⟩
def HQ(t:List Int)(r:Nat):Prop:=∀ f,f<t.length->t.getD f 0≠-2->∃ k,Tp t f r k
open Classical in
theorem OT(ht:t.length<=1000){r:Nat}(hr:r<t.length)(htop:t.getD r 0 = -1):∀(k f:Nat) (w:List Int),f+k=t.length->U5 t r f w->(∀ y,y<f->t.getD y 0≠-2->∃ k,Tp t y r k)->
  Ah (Ej t (r:Int)) ((f:Int),w)=some (if HQ t r then .inl () else .inr false):=by
 intro k
 induction k with
 | zero=>
  intro f w hk hw hd
  obtain rfl:f=t.length:=by omega
  apply Ai
  unfold Ej;simp only[Kq,Az];rw[if_pos (show HQ t r from hd)]
 | succ k ih=>
  intro f w hk hw hd
  have hf:f<t.length:=by omega
  by_cases h2:t.getD f 0 = -2
  ·have hb:((t.getD f 0:Int)!=(-2))=false:=by rw[h2];rfl
   have hs:Ej t (r:Int) ((f:Int),w)=some (.next (((f+1:Nat):Int),w)):=by
    unfold Ej;simp only[F0 hf,Ae,A5,hb,show(false==true)=false from rfl,Az,Ar];rw[Ad (Je hf),Ad (λh=>by cases h),w1 (by omega)]
   rw[Ap hs];refine ih (f+1) w (by omega) ⟨hw.len,λy hy h0=>?_⟩ λy hy hy2=>?_
   ·obtain⟨e1,e2⟩:=hw.old y hy h0;exact⟨by omega,e2⟩
   ·by_cases e:y=f
    ·subst e;exact absurd h2 hy2
    ·exact hd y (by omega) hy2
  ·have hb:((t.getD f 0:Int)!=(-2))=true:=by rw[zzL89];exact h2
   obtain⟨b,w',e1,e2,e3,e4⟩:=iC ht hr htop hf hw
   cases b with
   | false=>
    rw[if_neg (λhA:HQ t r=>by obtain⟨k,hk⟩:=hA f hf h2;exact e4 rfl k hk)]
    apply Ai
    unfold Ej;simp only[F0 hf,Ae,A5,hb,show(true==true)=true from rfl,e1,Ar];rw[Ad (Je hf),Ad (λ_=>by rw[hw.len,e2])]
    rfl
   | true=>
    have hs:Ej t (r:Int) ((f:Int),w)=some (.next (((f+1:Nat):Int),w')):=by
     unfold Ej;simp only[F0 hf,Ae,A5,hb,show(true==true)=true from rfl,e1,Ar];rw[Ad (Je hf),Ad (λ_=>by rw[hw.len,e2]),w1 (by omega)]
     rfl
    rw[Ap hs];obtain⟨e5,e6⟩:=e3 rfl;refine ih (f+1) w' (by omega) e5 λy hy hy2=>?_
    by_cases e:y=f
    ·subst e;exact e6
    ·exact hd y (by omega) hy2
theorem eO:X4 t t.length=1↔∃ r,r<t.length/\t.getD r 0 = -1/\∀ x,x<t.length->t.getD x 0 = -1->x=r:=by
 have key:∀ n,(X4 t n=0↔∀ x,x<n->t.getD x 0≠-1)/\(X4 t n=1↔∃ r,r<n/\t.getD r 0 = -1/\∀ x,x<n->t.getD x 0 = -1->x=r):=by
  intro n
  induction n with
  | zero=>exact⟨⟨λ_ x hx=>absurd hx (M7 _),λ_=>rfl⟩,⟨λh=>by simp[X4]at h,λ⟨r,h,_⟩=>absurd h (M7 _)⟩⟩
  | succ n ih=>
   rw[FW]
   by_cases e:t.getD n 0 = -1
   ·rw[if_pos e];refine⟨⟨λh=>by omega,λh=>absurd e (h n (by omega))⟩,⟨λh=>⟨n,by omega,e,λx hx hx1=>?_⟩,λ⟨r,h1,h2,h3⟩=>?_⟩⟩
    ·by_cases ex:x=n
     ·exact ex
     ·exact absurd hx1 (ih.1.1 (by omega) x (by omega))
    ·have:=ih.1.2 λx hx hx1=>by
      have:=h3 x (by omega) hx1;have:=h3 n (by omega) e;omega
     omega
   ·rw[if_neg e,Ln];refine⟨⟨λh x hx=>?_,λh=>ih.1.2 λx hx=>h x (by omega)⟩,⟨λh=>?_,λ⟨r,h1,h2,h3⟩=>?_⟩⟩
    ·by_cases ex:x=n
     ·subst ex;exact e
     ·exact ih.1.1 h x (by omega)
    ·obtain⟨r,h1,h2,h3⟩:=ih.2.1 h;refine⟨r,by omega,h2,λx hx hx1=>?_⟩
     by_cases ex:x=n
     ·subst ex;exact absurd hx1 e
     ·exact h3 x (by omega) hx1
    ·refine ih.2.2 ⟨r,?_,h2,λx hx hx1=>h3 x (by omega) hx1⟩
     by_cases ex:r=n
     ·subst ex;exact absurd h2 e
     ·omega
 exact(key _).2
theorem rightD_iff:Iu t=true↔∃ r,r<t.length/\t.getD r 0 = -1/\HQ t r:=by
 unfold Iu;rw[A4,all_range,D0,eO]
 constructor
 ·rintro⟨h1,r,h2,h3,h4⟩;refine⟨r,h2,h3,λf hf hf2=>?_⟩;have:=h1 f hf;unfold nR at this;rw[Vp,D0,O9,JY]at this;rcases this with h|h
  ·exact absurd h hf2
  ·obtain⟨x,r',k,e,hk⟩:=pathD_tp.1 h
   cases Vs e
   have:=h4 _ hk.tops.1 hk.tops.2;subst this;exact⟨k,hk⟩
 ·rintro⟨r,h2,h3,h4⟩;refine⟨λf hf=>?_,r,h2,h3,λx hx hx1=>?_⟩
  ·unfold nR;rw[Vp,D0,O9,JY]
   by_cases e:t.getD f 0 = -2
   ·exact .inl e
   ·obtain⟨k,hk⟩:=h4 f hf e;exact .inr (pathD_tp.2 ⟨f,r,k,rfl,hk⟩)
  ·obtain⟨k,hk⟩:=h4 x hx (by omega);exact((hk.det (.top hx hx1)).1).symm
theorem JM(hR:Iu t=true):∃ r,HQ t r:=by obtain⟨r,_,_,h⟩:=rightD_iff.1 hR;exact⟨r,h⟩
theorem dL(ht:t.length<=1000):Nb t=some (Iu t):=by
 unfold Nb
 have hroom:(1000:Nat)<=room:=by decide
 rcases m_index t (-1) ht with⟨r,h1,h2,h3,h4⟩|⟨h1,h2⟩
 ·rw[h4,Ar,show decide ((r:Int)<0)=false from C6 (by omega),Az,Ad ⟨by omega,by omega,by omega⟩,A5];have hl:=OT ht h1 h2 t.length 0 (List.replicate t.length 0) (by omega) ⟨by simp,λy hy h0=>absurd N2 h0⟩ (λy hy=>absurd hy (M7 _));rw[show(((0:Nat):Int))=0 from rfl]at hl;rw[hl,Ar]
  by_cases hA:HQ t r
  ·rw[if_pos hA,rightD_iff.2 ⟨r,h1,h2,hA⟩]
  ·rw[if_neg hA]
   have:Iu t=false:=Bool.eq_false_iff.2 λhR=>by
    obtain⟨r',g1,g2,g3⟩:=rightD_iff.1 hR;obtain⟨k,hk⟩:=g3 r h1 (by omega);have:=(hk.det (.top h1 h2)).1;subst this;exact hA g3
   rw[this]
 ·rw[h2,Ar]
  have:Iu t=false:=Bool.eq_false_iff.2 λhR=>by
   obtain⟨r',g1,g2,g3⟩:=rightD_iff.1 hR;exact h1 r' g1 g2
  rw[this]
  rfl
def V7(t:List Int)(a:Int):Bool:=decide (0<=a)&&decide (a<(t.length:Int))&&decide (t.getD a.toNat 0≠-2)
theorem DV(hR:Iu t=true){a:Int}:V7 t a=true↔∃ x k r:Nat,a=(x:Int)/\Tp t x r k:=by
 unfold V7;rw[A4,A4,D0,D0,D0]
 constructor
 ·rintro⟨⟨h1,h2⟩,h3⟩;obtain⟨r,hA⟩:=JM hR;obtain⟨k,hk⟩:=hA a.toNat (by omega) h3;exact⟨a.toNat,k,r,(Vn h1).symm,hk⟩
 ·rintro⟨x,k,r,rfl,h⟩;have:=h.lt;refine⟨⟨by omega,by omega⟩,?_⟩;rw[A5]
  cases h with
  | top _ h2=>omega
  | up _ h2 _=>omega
theorem EE(a:Int):Im t a=some (V7 t a):=by
 unfold Im H4 V7;rw[Ar]
 cases h1:decide ((0:Int)<=a) with
 | false=>rfl
 | true=>
  rw[Ae,Hj]
  cases h2:decide (a<(t.length:Int)) with
  | false=>rfl
  | true=>
   rw[Ad (λ_=>⟨Qb h1,Qb h2⟩),Ae,Hj]
   congr 1
   rw[N9,zzL89,D0]
theorem iB(ht:t.length<=1000)(a b:Int):Ox t a b=some (Iu t&&V7 t a&&V7 t b):=by
 unfold Ox;rw[dL ht,Ar]
 cases Iu t with
 | false=>rfl
 | true=>
  simp only[show(true==true)=true from rfl,Ae,EE,Ar,Hj]
  cases V7 t a with
  | false=>rfl
  | true=>simp only[show(true==true)=true from rfl,Ae,EE,Ar,Hj]
theorem ZQ{a b:Int}(h:(Iu t&&V7 t a&&V7 t b)=false):Mg t a b = -2:=by
 unfold Mg
 by_cases hR:Iu t=true
 ·rw[if_pos hR];rw[hR,Hj]at h
  have hno:∀ c,V7 t c=false->Eu t c=[]:=λc hc=>by
   by_cases e:Eu t c=[]
   ·exact e
   ·obtain⟨x,r,k,e1,e2⟩:=pathD_tp.1 e;rw[(DV hR).2 ⟨x,k,r,e1,e2⟩]at hc;cases hc
  cases ha:V7 t a with
  | false=>rw[hno a ha];rfl
  | true=>
   rw[ha,Hj]at h;rw[hno b h]
   have:((Eu t a).find? λx=>([]:List Int).contains x)=none:=List.find?_eq_none.2 λx _=>by simp
   rw[this]
   rfl
 ·rw[if_neg hR]
theorem GX(ht:t.length<=1000){a b:Int}(h:(Iu t&&V7 t a&&V7 t b)=true):Lw t a b=some (Mg t a b)/\0<=Mg t a b:=by
 rw[A4,A4]at h;obtain⟨⟨hR,ha⟩,hb⟩:=h;obtain⟨x,k,r,rfl,hx⟩:=(DV hR).1 ha;obtain⟨y,m,r',rfl,hy⟩:=(DV hR).1 hb;obtain⟨rr,hA⟩:=JM hR
 have top:∀{x r k},Tp t x r k->r=rr:=λ{x r k} h=>by
  obtain⟨i,hi⟩:=hA r h.tops.1 (by rw[h.tops.2];omega);exact((Tp.top h.tops.1 h.tops.2).det hi).1
 obtain rfl:=top hx;obtain rfl:=top hy;obtain⟨c,h1,h2⟩:=AP ht hx hy;obtain⟨d,h3,h4⟩:=dP hR hx hy;have:=h2.same hx h4;subst this;exact⟨by rw[h1,h3],by omega⟩
theorem kj(ht:t.length<=1000)(a b:Int):Qy t a b=some (N0 t a b):=by
 unfold Qy N0;rw[iB ht,Ar]
 cases h:(Iu t&&V7 t a&&V7 t b) with
 | false=>
  rw[ZQ h]
  have:((-2:Int)==a&&((-2:Int)!=-2))=false:=by simp
  rw[this]
  rfl
 | true=>
  obtain⟨h1,h2⟩:=GX ht h;simp only[show(true==true)=true from rfl,Ae,h1,Ar]
  have:(Mg t a b !=-2)=true:=by rw[zzL89];omega
  rw[this,Zx]
end
theorem iL:∀ n:Fin 65,Lu (Dx 1) (Dx ((n.val:Nat):Int))=some (0,((n.val:Nat):Int)):=by decide +kernel
theorem ZT{n:Nat}(h:n<=64):Lu (Dx 1) (Dx (n:Int))=some (0,(n:Int)):=iL ⟨n,by omega⟩
theorem QN{v:Int}{n:Nat}(hn:n<=64):∀(m i:Nat) (l:List Int),n-i<=m->1<=i->i<=n->l.length=n->(∀ j,j<i->l.getD j 0=v)->Ah Cc ((i:Int),l)=some (List.replicate n v):=by
 intro m
 induction m with
 | zero=>
  intro i l hm h1 h2 hl hv
  obtain rfl:i=n:=by omega
  exact fin l hl hv
 | succ m ih=>
  intro i l hm h1 h2 hl hv
  by_cases e:i=n
  ·subst e;exact fin l hl hv
  ·have hs:Cc ((i:Int),l)=some (.next (((i+Nat.min i (n-i):Nat):Int),SZ l i (Nat.min i (n-i)) (λj=>l.getD (0+j) 0))):=by
    unfold Cc;simp only[hl,F0 (show i<n by omega),Ae,A5,Fj,Tz];have hc:(0:Int)<=(i:Int)/\i<=n:=⟨by omega,h2⟩;have hmn:Nat.min i (n-i)<=i:=Nat.min_le_left _ _;rw[Ad hc,Ad hc,F8 (by omega) (by omega),Int.natCast_add]
   rw[Ap hs];have hmn:Nat.min i (n-i)<=i/\Nat.min i (n-i)<=n-i:=⟨Nat.min_le_left _ _,Nat.min_le_right _ _⟩;have hge:1<=Nat.min i (n-i):=Nat.le_min.2 ⟨h1,by omega⟩;refine ih _ _ (by omega) (by omega) (by omega) (by rw[<- Fz];exact hl) λj hj=>?_;rw[DL _ _ _ _ _ _ (by omega)]
   by_cases hji:i<=j/\j<i+Nat.min i (n-i)
   ·rw[if_pos hji,Fj];exact hv _ (by omega)
   ·rw[if_neg hji];exact hv _ (by omega)
where
 fin {v:Int} {i:Nat} (l:List Int) (hl:l.length=i) (hv:∀ j,j<i->l.getD j 0=v):Ah Cc ((i:Int),l)=some (List.replicate i v):=by
  apply Ai
  unfold Cc;simp only[hl,Kq,Az]
  congr 2
  refine Zt (by simp[hl]) λj h1 h2=>?_;rw[<- Ab _ _ 0 h1,hv j (by omega)]
  simp
theorem dM{v:Int}{n:Nat}(h1:1<=n)(hn:n<=64):Fa [v] (n:Int)=some (List.replicate n v):=by
 have hroom:(64:Nat)<=room:=by decide
 unfold Fa;rw[show decide ((n:Int)<0)=false from C6 (by omega),Az,Ar]
 show Option.bind (Lu (Dx 1) (Dx (n:Int))) _=_
 rw[ZT hn,Ar];have e1:decide ((0:Int)<(0:Int))=false:=rfl;have e2:decide ((9223372036854775807:Int)<(n:Int))=false:=C6 (by omega);simp only[e1,e2,Az,Ar];have ew:Bj (n:Int)=(n:Int):=F8 (by omega) (by omega);rw[ew,Ad ⟨by omega,by omega,by omega⟩,A5,X7,Tz];have em:Nat.min [v].length n=1:=Nat.min_eq_left h1;rw[em,QN hn n 1 _ (by omega) (zzL8 _) h1 (by rw[<- Fz];simp) (λj hj=>?_)]
 ·rfl
 ·rw[DL _ _ _ _ _ _ (by simp;omega),if_pos ⟨by omega,by omega⟩]
  have:j-0=0:=by omega
  rw[this];rfl
section
variable {S:Nat->List Nat} {r n:Nat} {P:List Nat}
theorem Inv.tp{at_:Nat->Nat}{t:List Int}(h:Inv S r n at_ (Bd t))(hl:t.length=n):∀ m x,at_ x<=m->x<n->Bd t x≠-2->∃ k,Tp t x r k:=by
 intro m
 induction m with
 | zero=>
  intro x hm hx hp;rcases h.kind x hx with h1|h1|⟨z,hz⟩
  ·exact absurd h1 hp
  ·subst h1;exact⟨0,.top (by omega) h.top⟩
  ·obtain⟨_,_,h3,_⟩:=h.up x hx z hz;omega
 | succ m ih=>
  intro x hm hx hp;rcases h.kind x hx with h1|h1|⟨z,hz⟩
  ·exact absurd h1 hp
  ·subst h1;exact⟨0,.top (by omega) h.top⟩
  ·obtain⟨z1,z2,z3,_⟩:=h.up x hx z hz;obtain⟨k,hk⟩:=ih z (by omega) z1 z2;exact⟨k+1,.up (by omega) hz hk⟩
def Wr(t l:List Int)(i:Nat)(v:Int):Prop:=
 (v = -2/\∀ j,j<i->Bd t (l.getD j 0).toNat = -2) \/
 ∃ z:Nat,v=(z:Int)/\z<t.length/\Bd t z≠-2/\(∀ w,UpTo (Bd t) z w↔∀ j,j<i->Bd t (l.getD j 0).toNat≠-2->UpTo (Bd t) (l.getD j 0).toNat w)
theorem LY{at_:Nat->Nat}{t l:List Int}(ht:t.length<=64)(hll:l.length<=64)(h:Inv S r n at_ (Bd t))(hl:t.length=n)(hin:∀ x∈l,0<=x/\x<(n:Int)):∀(k i:Nat) (v:Int),i+k=l.length->Wr t l i v->
  ∃ v',Ah (D4 t l) (v,(i:Int))=some v'/\Wr t l l.length v':=by
 intro k
 induction k with
 | zero=>
  intro i v hi hv
  obtain rfl:i=l.length:=by omega
  refine⟨v,Ai ?_,hv⟩;unfold D4;simp only[Kq,Az]
 | succ k ih=>
  intro i v hi hv
  have hil:i<l.length:=by omega
  obtain⟨x0,x1⟩:=hin _ (getD_mem (d:=0) hil);have hxe:(((l.getD i 0).toNat:Nat):Int)=l.getD i 0:=Vn x0;have hxin:Bw (l.getD i 0) t.length:=mP x0 (by omega)
  have next:∀ v',D4 t l (v,(i:Int))=some (.next (v',((i+1:Nat):Int)))->Wr t l (i+1) v'->∃ v',Ah (D4 t l) (v,(i:Int))=some v'/\Wr t l l.length v':=λv' hs hv'=>by
   rw[Ap hs];exact ih (i+1) v' (by omega) hv'
  by_cases hp:Bd t (l.getD i 0).toNat = -2
  ·have hb:((t.getD (l.getD i 0).toNat 0:Int)==-2)=true:=zzL66.2 hp;refine next v ?_ ?_
   ·unfold D4;simp only[F0 hil,Ae,A5,hb];rw[Ad (Je hil),Ad hxin,Ar,w1 (by omega)]
   ·have hstep:∀ w,(∀ j,j<i->Bd t (l.getD j 0).toNat≠-2->UpTo (Bd t) (l.getD j 0).toNat w)↔∀ j,j<i+1->Bd t (l.getD j 0).toNat≠-2->UpTo (Bd t) (l.getD j 0).toNat w:=λw=>by
     refine⟨λhj j hj1 hj2=>?_,λhj j hj1=>hj j (by omega)⟩
     by_cases e:j=i
     ·subst e;exact absurd hp hj2
     ·exact hj j (by omega) hj2
    rcases hv with⟨h1,h2⟩|⟨z,h1,h2,h3,h4⟩
    ·refine .inl ⟨h1,λj hj=>?_⟩
     by_cases e:j=i
     ·subst e;exact hp
     ·exact h2 j (by omega)
    ·exact .inr ⟨z,h1,h2,h3,λw=>by rw[h4 w,hstep w]⟩
  ·have hb:((t.getD (l.getD i 0).toNat 0:Int)==-2)=false:=zzL25.2 hp;rcases hv with⟨h1,h2⟩|⟨z,h1,h2,h3,h4⟩
   ·subst h1;refine next (l.getD i 0) ?_ (.inr ⟨(l.getD i 0).toNat,hxe.symm,by omega,hp,λw=>⟨λhw j hj hj2=>?_,λhw=>hw i (by omega) hp⟩⟩)
    ·unfold D4;simp only[F0 hil,Ae,A5,hb,Az,show((-2:Int)==-2)=true from rfl];rw[Ad (Je hil),Ad hxin,Ar,w1 (by omega)]
    ·by_cases e:j=i
     ·subst e;exact hw
     ·exact absurd (h2 j (by omega)) hj2
   ·subst h1;have hb2:((z:Int)==-2)=false:=zzL25.2 (by omega);obtain⟨k1,hk1⟩:=h.tp hl _ z (zzL8 _) (by omega) h3;obtain⟨k2,hk2⟩:=h.tp hl _ (l.getD i 0).toNat (zzL8 _) (by omega) hp;obtain⟨c,c1,c2⟩:=AP (by omega) hk1 hk2;have hcz:=(c2 c).1 (.refl _);obtain⟨jc,_,hjc,_⟩:=hk1.on hcz.1
    have hcp:Bd t c≠-2:=by
     show t.getD c 0≠-2
     cases hjc with
     | top _ h=>omega
     | up _ h _=>omega
    refine next (c:Int) ?_ (.inr ⟨c,rfl,hjc.lt,hcp,λw=>?_⟩)
    ·rw[hxe]at c1;unfold D4;simp only[F0 hil,Ae,A5,hb,Az,hb2,c1,Ar];rw[Ad (Je hil),Ad hxin,Ar,w1 (by omega)]
    ·rw[c2 w,h4 w];refine⟨λ⟨a1,a2⟩ j hj hj2=>?_,λha=>⟨λj hj=>ha j (by omega),ha i (by omega) hp⟩⟩
     by_cases e:j=i
     ·subst e;exact a2
     ·exact a1 j (by omega) hj2
theorem ZM{at_:Nat->Nat}{t l:List Int}(ht:t.length<=64)(hll:l.length<=64)(h:Inv S r n at_ (Bd t))(hl:t.length=n)(hin:∀ x∈l,0<=x/\x<(n:Int)) :
  ∃ v,H5 t l=some v/\Wr t l l.length v:=by
 obtain⟨v,h1,h2⟩:=LY ht hll h hl hin l.length 0 (-2) (by omega) (.inl ⟨rfl,λj hj=>absurd hj (M7 _)⟩);refine⟨v,?_,h2⟩;unfold H5;rw[show((0:Int))=((0:Nat):Int) from rfl,h1]
 rfl
end
section
variable {L:List (List Int)} (hm:Ly L=true) {r:Nat} {P:List Nat}
include hm
theorem eE{p y:Nat}(hp:p<L.length):y∈sN L p↔AK L p y=true:=by
 rw[cw];obtain⟨_,_,h3⟩:=mayS_iff.1 hm
 constructor
 ·intro h;obtain⟨x,hx,rfl⟩:=zzL26.1 h;have:=WV (h3 p hp) hx;rw[Vn this.1];exact hx
 ·intro h;exact zzL26.2 ⟨_,h,A5 y⟩
theorem Xx{y:Nat}(hy:y<L.length){x:Int}:x∈(Fg L).getD y []↔∃ p:Nat,x=(p:Int)/\p<L.length/\y∈sN L p:=by
 rw[JH hy];unfold J5;rw[dQ]
 constructor
 ·rintro⟨k,h1,h2,h3⟩;exact⟨k,h1,h2,(eE hm h2).2 h3⟩
 ·rintro⟨k,h1,h2,h3⟩;exact⟨k,h1,h2,(eE hm h2).1 h3⟩
theorem LX(o:Ordered (sN L) r L.length P){t:List Int}{i:Nat}(h:Ready (sN L) r L.length P t i)(hi:i<P.length) :
  H5 t ((Fg L).getD (P.getD i 0) [])=some (Jz (sN L) L.length t (P.getD i 0):Int):=by
 obtain⟨hL1,hL64,_⟩:=mayS_iff.1 hm;have hyn:P.getD i 0<L.length:=o.lt (Fc _ (Nm hi))
 have hlen:((Fg L).getD (P.getD i 0) []).length<=64:=by
  rw[JH hyn];have:=Wd L L.length (P.getD i 0);omega
 obtain⟨v,h1,h2⟩:=ZM (by rw[h.len];exact hL64) hlen h.inv h.len λx hx=>by
  obtain⟨p,rfl,hp,_⟩:=(Xx hm hyn).1 hx;omega
 rw[h1];have hb:=h.best o hi
 have mem:∀ p,p<L.length->P.getD i 0∈sN L p->∃ j,j<((Fg L).getD (P.getD i 0) []).length/\(((Fg L).getD (P.getD i 0) []).getD j 0).toNat=p:=λp hp hy=>by
  obtain⟨j,hj,e⟩:=Ll ((Xx hm hyn).2 ⟨p,rfl,hp,hy⟩);exact⟨j,hj,by rw[Ab _ _ _ hj,e,A5]⟩
 have mem':∀ j,j<((Fg L).getD (P.getD i 0) []).length->(((Fg L).getD (P.getD i 0) []).getD j 0).toNat<L.length/\P.getD i 0∈sN L (((Fg L).getD (P.getD i 0) []).getD j 0).toNat:=λj hj=>by
  obtain⟨p,e,hp,hy⟩:=(Xx hm hyn).1 (getD_mem (d:=(0:Int)) hj);rw[e,A5];exact⟨hp,hy⟩
 rcases h2 with⟨rfl,h3⟩|⟨z,rfl,hz,hz2,h4⟩
 ·obtain⟨p,hp,hyp,hp2,_⟩:=hb.fwd;obtain⟨j,hj,e⟩:=mem p hp hyp;exact absurd (by rw[<- e];exact h3 j hj) hp2
 ·have hbest:RZ (sN L) L.length (Bd t) (P.getD i 0) z:=λw=>by
   rw[h4 w];refine⟨λha p hp hyp hp2=>?_,λha j hj hj2=>?_⟩
   ·obtain⟨j,hj,e⟩:=mem p hp hyp;have:=ha j hj (by rw[e];exact hp2);rwa[e]at this
   ·obtain⟨q1,q2⟩:=mem' j hj;exact ha _ q1 q2 hj2
  rw[h.best_eq o hi (by rw[<- h.len];exact hz) hz2 hbest]
end
theorem PO{P:List Nat}{i:Nat}(h:i<P.length):(Pg P).getD i 0=((P.getD i 0:Nat):Int):=by
 unfold Pg;rw[Ab _ _ _ (by simpa using h),Ab _ _ _ h,List.getElem_map]
 rfl
theorem QP{t:List Int}{x:Nat}{v:Int}(hx:x<t.length)(h:t.getD x 0=v):t.set x v=t:=by
 subst h;rw[Ab _ _ _ hx];exact List.set_getElem_self hx
section
variable {L:List (List Int)} (hm:Ly L=true) {r:Nat} {P:List Nat} (o:Ordered (sN L) r L.length P)
include hm o
theorem UK{t0:List Int}(h:Ready (sN L) r L.length P t0 0):∀(k i:Nat) (b:Bool),i+k=P.length->
  ∃ b',Ah (Dt (Yi L) (Pg (r::P))) (b,(i:Int),Sl (sN L) L.length P t0 i)=some (b',Sl (sN L) L.length P t0 P.length) /\
   (b'=false↔b=false/\∀ j,i<=j->j<P.length->Bd (Sl (sN L) L.length P t0 j) (P.getD j 0)=(Jz (sN L) L.length (Sl (sN L) L.length P t0 j) (P.getD j 0):Int)):=by
 have hP64:P.length<=64:=by
  have h1:=Lz L.length (r::P) o.nodup λx hx=>o.lt hx;have h2:=(mayS_iff.1 hm).2.1;simp at h1;omega
 have hdl:(Pg (r::P)).drop (1:Int).toNat=Pg P:=rfl
 have hlen:(Pg P).length=P.length:=by simp[Pg]
 intro k
 induction k with
 | zero=>
  intro i b hi
  obtain rfl:i=P.length:=by omega
  refine⟨b,Ai ?_,λh=>⟨h,λj h1 h2=>by omega⟩,λh=>h.1⟩;unfold Dt;simp only[hdl,hlen,Kq,Az]
 | succ k ih=>
  intro i b hi
  have hil:i<P.length:=by omega
  have rd:=h.round o i (by omega);have hma:=LX hm o rd hil;have hyn:P.getD i 0<L.length:=o.lt (Fc _ (Nm hil))
  have hyt:P.getD i 0<(Sl (sN L) L.length P t0 i).length:=by rw[rd.len];exact hyn
  have hpred:(Yi L).Pred=Fg L:=rfl
  by_cases he:Bd (Sl (sN L) L.length P t0 i) (P.getD i 0)=(Jz (sN L) L.length (Sl (sN L) L.length P t0 i) (P.getD i 0):Int)
  ·have hb:((Jz (sN L) L.length (Sl (sN L) L.length P t0 i) (P.getD i 0):Int)!=(Sl (sN L) L.length P t0 i).getD (P.getD i 0) 0)=false:=by
    have:(Sl (sN L) L.length P t0 i).getD (P.getD i 0) 0=_:=he;rw[this];simp
   have hnx:Sl (sN L) L.length P t0 (i+1)=Sl (sN L) L.length P t0 i:=QP hyt he
   have hs:Dt (Yi L) (Pg (r::P)) (b,(i:Int),Sl (sN L) L.length P t0 i)=some (.next (b,((i+1:Nat):Int),Sl (sN L) L.length P t0 (i+1))):=by
    unfold Dt;simp only[hdl,hlen,F0 hil,Ae,A5,PO hil,hpred,hma,Ar,hb,Az];rw[Ad (Je hil),Ad (Je (by rw[N1];exact hyn)),Ad (Je hyt),Ar,w1 (by omega),hnx]
   obtain⟨b',e1,e2⟩:=ih (i+1) b (by omega);refine⟨b',by rw[Ap hs,e1],λh=>?_,λ⟨h1,h2⟩=>e2.2 ⟨h1,λj hj=>h2 j (by omega)⟩⟩;obtain⟨h1,h2⟩:=e2.1 h;refine⟨h1,λj hj1 hj2=>?_⟩
   by_cases e:j=i
   ·subst e;exact he
   ·exact h2 j (by omega) hj2
  ·have hb:((Jz (sN L) L.length (Sl (sN L) L.length P t0 i) (P.getD i 0):Int)!=(Sl (sN L) L.length P t0 i).getD (P.getD i 0) 0)=true:=by
    rw[zzL89];exact λe=>he e.symm
   have hs:Dt (Yi L) (Pg (r::P)) (b,(i:Int),Sl (sN L) L.length P t0 i)=some (.next (true,((i+1:Nat):Int),Sl (sN L) L.length P t0 (i+1))):=by
    unfold Dt;simp only[hdl,hlen,F0 hil,Ae,A5,PO hil,hpred,hma,Ar,hb];rw[Ad (Je hil),Ad (Je (by rw[N1];exact hyn)),Ad (Je hyt),Ad (Je hyt),Ar,w1 (by omega)]
    rfl
   obtain⟨b',e1,e2⟩:=ih (i+1) true (by omega);refine⟨b',by rw[Ap hs,e1],λh=>?_,λ⟨h1,h2⟩=>absurd (h2 i (zzL8 _) hil) he⟩;obtain⟨h1,_⟩:=e2.1 h;cases h1
theorem am{t0:List Int}(h:Ready (sN L) r L.length P t0 0):∃ b,Ah (Dt (Yi L) (Pg (r::P))) (false,(0:Int),t0)=some (b,Sl (sN L) L.length P t0 P.length)/\(b=false↔Ru (sN L) L.length P t0):=by
 obtain⟨b,e1,e2⟩:=UK hm o h P.length 0 false (by omega);refine⟨b,e1,e2.trans ⟨λ⟨_,h2⟩=>?_,λhs=>⟨rfl,λj _ hj=>?_⟩⟩⟩
 ·have key:∀ j,j<=P.length->Sl (sN L) L.length P t0 j=t0:=by
   intro j
   induction j with
   | zero=>intro _;rfl
   | succ j ih=>
    intro hj;have ih':=ih (by omega);have rd:=h.round o j (by omega)
    have hyn:P.getD j 0<(Sl (sN L) L.length P t0 j).length:=by rw[rd.len];exact o.lt (Fc _ (Nm (by omega)))
    have:Sl (sN L) L.length P t0 (j+1)=Sl (sN L) L.length P t0 j:=QP hyn (h2 j (Lb _) (by omega));rw[this,ih']
  intro i hi;have:=h2 i (Lb _) hi;rwa[key i (by omega)]at this
 ·rw[Tt o h.len hs j (by omega)];exact hs j hj
open Classical in
theorem XI(j:Nat):E0 (Yi L) (Pg (r::P),CU (sN L) L.length P (Ew L.length r) j)=some (if Ru (sN L) L.length P (CU (sN L) L.length P (Ew L.length r) j) then .done (CU (sN L) L.length P (Ew L.length r) (j+1)) else .next (Pg (r::P),CU (sN L) L.length P (Ew L.length r) (j+1))):=by
 obtain⟨b,e1,e2⟩:=am hm o (Ready.rounds o j);have hL2:Pe (Yi L) (Pg (r::P))=Dt (Yi L) (Pg (r::P)):=rfl
 have hlen:(0:Int)<=1/\(1:Int)<=((Pg (r::P)).length:Int):=by simp[Pg];omega
 unfold E0;simp only[hL2,e1,Ar];rw[Ad hlen]
 cases b with
 | false=>rw[if_pos (e2.1 rfl)];rfl
 | true=>rw[if_neg (λh=>by have:=e2.2 h;cases this)];rfl
theorem QY:∃ J,Ru (sN L) L.length P (CU (sN L) L.length P (Ew L.length r) J)/\Ah (E0 (Yi L)) (Pg (r::P),Ew L.length r)=some (CU (sN L) L.length P (Ew L.length r) J):=by
 obtain⟨J,h1,h2⟩:=jl o;refine⟨J,h2,?_⟩
 have key:∀ d j,j+d=J->Ah (E0 (Yi L)) (Pg (r::P),CU (sN L) L.length P (Ew L.length r) j)=some (CU (sN L) L.length P (Ew L.length r) J):=by
  intro d
  induction d with
  | zero=>
   intro j hj
   obtain rfl:j=J:=by omega
   have hF:=XI hm o j;rw[if_pos h2]at hF;rw[Ai hF];have:CU (sN L) L.length P (Ew L.length r) (j+1)=CU (sN L) L.length P (Ew L.length r) j:=Tt o (Ready.rounds o j).len h2 P.length (zzL8 _);rw[this]
  | succ d ih=>
   intro j hj;have hF:=XI hm o j;rw[if_neg (h1 j (by omega))]at hF;rw[Ap hF];exact ih (j+1) (by omega)
 exact key J 0 (by omega)
end
theorem kl(g:C2)(r:Int)(h1:Fits g.Succ)(h2:Fits g.Pred):Nw g r=some (QX g r):=by
 unfold QX
 by_cases hc:Yz g=true/\0<=r/\r<(g.Succ.length:Int)
 ·rw[if_pos hc];obtain⟨hG,h0,hlt⟩:=hc;obtain⟨hm,hg⟩:=iE hG;obtain⟨hL1,hL64,_⟩:=mayS_iff.1 hm
  have hr:r.toNat<g.Succ.length:=by omega
  have hrn:((r.toNat:Nat):Int)=r:=Vn h0;obtain⟨O,hO⟩:=Ord.exist (Vh hm) hr;have hord:=(LW g h1 trivial r).1 hG h0 hlt O hO;obtain⟨P,rfl,o⟩:=hO.ordered hr (Vh hm);obtain⟨J,hJ,hl⟩:=QY hm o;have ht:=(BE o hJ).eq hm hr o;rw[ht]at hl;have hlen:(((Pg (r.toNat::P)).length:Int)==0)=false:=zzL25.2 (by simp[Pg];omega)
  have hlen2:(0:Int)<=1/\(1:Int)<=((Pg (r.toNat::P)).length:Int):=by simp[Pg];omega
  have hL2:Pe g (Pg (r.toNat::P))=Dt g (Pg (r.toNat::P)):=rfl
  have hst:(Pp (E0 g (Pg (r.toNat::P),Ew g.Succ.length r.toNat)) (E0 g))=some (X5 g.Succ r.toNat):=by
   rw[BD,hg];exact hl
  unfold Nw;rw[hord,Ar,hlen,Az,dM hL1 hL64,Ar,Ad (mP h0 (by simpa using hlt)),Ad hlen2]
  have:(E0 g (Pg (r.toNat::P),Ew g.Succ.length r.toNat))=(Ah (Dt g (Pg (r.toNat::P))) (false,0,(List.replicate g.Succ.length (-2:Int)).set r.toNat (-1))).bind (λx22=>(match x22 with|(b10,l11)=>(bif b10 then(some (.next (Pg (r.toNat::P),l11))) else(some (.done l11))))):=by
   unfold E0 Ew;simp only[hL2];rw[Ad hlen2]
  rw[this]at hst;refine Eq.trans ?_ (Ca (λx:Option (List Int)=>x.bind λx42=>some x42) hst)
  rfl
 ·rw[if_neg hc];unfold Nw
  have:(Yz g&&(decide (0<=r)&&decide (r<(g.Succ.length:Int))))=false:=by
   rw[Bool.eq_false_iff];intro h;rw[A4,A4,D0,D0]at h;exact hc h
  rw[(LW g h1 trivial r).2 this,Ar]
  rfl
theorem kE{α:Type}(l:List α)(d:α)(p:α->Bool){X:Type}(f:Int->Option (LR Int X))(yes no:X)(hl:l.length<9223372036854775808)(hk:∀ i:Nat,i<l.length->f i=some (bif p (l.getD i d) then .next (Bj ((i:Int)+1)) else .done no))
  (he:f l.length=some (.done yes)):Ah f (0:Int)=some (bif l.all p then yes else no):=by
 have:=S6 l d p f yes no (λi hi hp=>by rw[hk i hi,hp,Ae,Dv hi hl]) (λi hi hp=>by rw[hk i hi,hp,Az]) he l.length 0 (by omega);rwa[Lm]at this
theorem kT(f:Aa)(hf:fJ f)(l:Int)(t:List Int)(u:List A7):Gk f l t u=some (bif Ra f then 0 else 4,f,l,t,u):=by
 unfold Gk Il;rw[oM f hf,Ar]
 cases Ra f<;>rfl
theorem YU(phis:List Em)(l:List Int)(h1:phis.length<9223372036854775808)(h2:l.length<4611686018427387904):Jv phis l=some (phis.all (Hc l)):=by
 unfold Jv
 rw[kE phis (default:Em) (Hc l) (Hq phis l) (.inl ()) (.inr false) h1 (λi hi=>by
  unfold Hq
  have hd:decide ((i:Int)<(phis.length:Int))=true:=by simpa using hi
  simp only[hd,Ae,As (Bc hi),Dk,LV _ _ h2,Ar,Hc]
  cases decide ((phis.getD i default).From=l) with
  | false=>rfl
  | true=>
   simp only[Fi,Az,Hj,bne]
   cases(((phis.getD i default).Args.length:Int)==(l.length:Int))<;>rfl) (by unfold Hq;simp),Ar]
 cases phis.all (Hc l)<;>rfl
def KW(e:Ge):Bool:=!((e.Kind==1 || e.Kind==3)&&(e.Arg !=0))
theorem YP{n:Nat}(e:Ge)(hk:Nt e n=true):Hw e=some (KW e):=by
 have h4:0<=e.Kind/\e.Kind<=3:=by
  have:=(A4 _ _▸hk:OU e=true/\jo n e.To=true).1;unfold OU at this;simp only[A4,D0]at this;omega
 unfold Hw KW
 have:e.Kind=0\/e.Kind=1\/e.Kind=2\/e.Kind=3:=by omega
 rcases this with h|h|h|h<;>rw[h]<;>cases hb:(e.Arg==0)<;>simp[hb,bne]
theorem TZ{L:List (List Int)}(hm:Ly L=true){P:List Nat}(h0:0<L.length)(o:Ord (sN L) 0 P):decide (P.length<L.length) = !(List.range L.length).all λi=>(Rk L).getD i false:=by
 have hin:∀ x∈P,x<L.length:=λx hx=>(by obtain⟨Q,rfl,oo⟩:=o.ordered h0 (Vh hm);exact oo.lt hx)
 have hr:∀ z,(Rk L).getD z false=true↔z∈P:=λz=>by
  rw[o.mem z];exact Xy (Vh hm) h0 z
 have hle:=Lz L.length P o.nodup hin
 cases ha:(List.range L.length).all λi=>(Rk L).getD i false with
 | true=>
  have:=((List.perm_ext_iff_of_nodup o.nodup List.nodup_range).2 λi=>⟨λh=>zzL36.2 (hin i h),λh=>(hr i).1 (zzL27.1 ha i h)⟩:P.Perm (List.range L.length)).length_eq;rw[Vo]at this
  simp;omega
 | false=>
  obtain⟨i,hi,hni⟩:∃ i,i<L.length/\i∉P:=RF λhc=>by
   have:(List.range L.length).all (λi=>(Rk L).getD i false)=true:=zzL27.2 λi hi=>(hr i).2 (RF λhn=>hc ⟨i,by simpa using hi,hn⟩);rw[this]at ha;cases ha
  have:(i::P).length<=L.length:=Lz L.length (i::P) (zzL76.2 ⟨hni,o.nodup⟩) (λx hx=>by rcases zzL24.1 hx with rfl|hx;exact hi;exact hin x hx);simp at this ⊢;omega
theorem cO {f : Aa} (hf : OkF f) (l : Int) (t : List Int) (u : List A7) : ∃ t', Fp f l t u = some (bif F7 f then 0 else 5, f, l, t', u) ∧ (F7 f = true → t' = B0 f) := by
  have hmax : f.Blocks.length ≤ maxLen := by have := hf.blocks; have : (64 : Nat) ≤ maxLen := by decide
                                             omega
  unfold Fp; rw [oH f hmax, Ar]
  cases hs : N5 f with
  | false => exact ⟨t, by unfold F7; rw [hs]; rfl, fun h => by unfold F7 at h; rw [hs] at h; cases h⟩
  | true =>
    have hm := Tj hs; have hlen := X1 f
    have hpos : 0 < (Er f).length := by have := (shape_iff.1 hs).1.1; omega
    obtain ⟨h1, h2⟩ := cr hm; obtain ⟨P, hP⟩ := Ord.exist (Vh hm) hpos; have ho := (LW (Yi (Er f)) h1 trivial 0).1 (PH hm) (by omega) (by show (0 : Int) < ((Er f).length : Int); omega) P hP; have hfull := TZ hm hpos hP; simp only [Ae, show (((0 : Int) != 0) == false) = true from rfl, show ((0 : Int) != 0) = false from rfl, Az, ho, Ar, show (false == false) = true from rfl]
    have e1 : decide (((Pg P).length : Int) < (f.Blocks.length : Int)) = decide (P.length < (Er f).length) := by
      rw [hlen]; apply zzL106.2; simp [Pg]
    rw [e1, hfull]
    have hsd : F7 f = (((List.range f.Blocks.length).all fun i => (Rk (Er f)).getD i false) && (List.range f.Blocks.length).all fun i => KW (f.Blocks.getD i default).End && (f.Blocks.getD i default).Phis.all (Hc ((Fg (Er f)).getD i []))) := by
      unfold F7; rw [hs, Hj]
      have : ∀ (n : Nat) (p q : Nat → Bool), ((List.range n).all fun i => p i && q i) = ((List.range n).all p && (List.range n).all q) := fun n p q => by
        rw [N9, A4, zzL27, zzL27, zzL27]
        constructor
        · intro h; exact ⟨fun x hx => ((A4 _ _).mp (h x hx)).1, fun x hx => ((A4 _ _).mp (h x hx)).2⟩
        · intro h x hx; rw [A4]; exact ⟨h.1 x hx, h.2 x hx⟩
      rw [← this]
      congr 1
      funext i
      show (_ && _ && _) = _
      rw [Bool.and_assoc]
      rfl
    rw [hlen]; rw [hsd]
    cases hr : (List.range f.Blocks.length).all fun i => (Rk (Er f)).getD i false with
    | false => exact ⟨t, rfl, fun h => by cases h⟩
    | true =>
      refine ⟨B0 f, ?_, fun _ => rfl⟩; rw [Fi, Az, kl _ 0 h1 h2, Ar, Hj]; have hp := Rj hm
      have hpl : (Yi (Er f)).Pred.length = f.Blocks.length := by rw [← hlen]; exact N1 _
      have key : Ah (Cl f l u (Yi (Er f), 0) (B0 f)) (0 : Int) = some (bif (List.range f.Blocks.length).all (fun i => KW (f.Blocks.getD i default).End && (f.Blocks.getD i default).Phis.all (Hc ((Fg (Er f)).getD i []))) then .inl () else .inr ((5 : Int), f, l, B0 f, u)) := by
        have hk : ∀ i : Nat, i < f.Blocks.length → Cl f l u (Yi (Er f), 0) (B0 f) (i : Int) = some (bif (KW (f.Blocks.getD i default).End && (f.Blocks.getD i default).Phis.all (Hc ((Fg (Er f)).getD i []))) then .next ((i : Int) + 1) else .done (.inr ((5 : Int), f, l, B0 f, u))) := fun i hi => by
          have hB := hf.block _ (getD_mem (d := (default : Ag)) hi); have hpi : Bw (i : Int) (Yi (Er f)).Pred.length := Bc (by omega); have hpg : ((Yi (Er f)).Pred.getD i []).length ≤ 64 := hp.2 _ (getD_mem (by rw [N1]; omega)); unfold Cl
          have hd : decide ((i : Int) < (f.Blocks.length : Int)) = true := by simpa using hi
          simp only [hd, Ae, As (Bc hi), As hpi, Dk, YU (f.Blocks.getD i default).Phis ((Yi (Er f)).Pred.getD i []) (by have := hB.phis; omega) (by omega), Ar]; have ha : Hw (⟨(f.Blocks.getD i default).End.Kind, (f.Blocks.getD i default).End.Arg, (f.Blocks.getD i default).End.To⟩ : Ge) = some (KW (f.Blocks.getD i default).End) := YP (n := f.Blocks.length) (f.Blocks.getD i default).End ((shape_iff.1 hs).2 i hi); rw [ha, Dv hi (by have := hf.blocks; omega)]
          show _ = some (bif (KW (f.Blocks.getD i default).End && (f.Blocks.getD i default).Phis.all (Hc ((Yi (Er f)).Pred.getD i []))) then _ else _)
          cases (f.Blocks.getD i default).Phis.all (Hc ((Yi (Er f)).Pred.getD i [])) <;> cases KW (f.Blocks.getD i default).End <;> rfl
        exact ZK _ _ _ _ _ (fun i hi hp => by rw [hk i hi, hp]; rfl) (fun i hi hp => by rw [hk i hi, hp]; rfl) (by unfold Cl; simp)
      show ((Ah (Cl f l u (Yi (Er f), 0) (B0 f)) (0 : Int)).bind _) = _
      rw [key, Ar]
      cases (List.range f.Blocks.length).all (fun i => KW (f.Blocks.getD i default).End && (f.Blocks.getD i default).Phis.all (Hc ((Fg (Er f)).getD i []))) <;> rfl
theorem kK(o:Bh)(l:Int)(h0:0<=l)(h2:l<=2)(hk:Ht o=true):Na o l=some (!decide (LU l<o.Kind)&&!(decide (l<2)&&decide (1<o.Lanes))):=by
 have hl:=dH hk
 have hK:o.Kind<=22:=by
  simp only[Ht,A4]at hk;have:=hk.1.2.1.1.1;unfold dB at this;simp only[A4,D0]at this;omega
 unfold Na LU
 have:l=0\/l=1\/l=2:=by omega
 rcases this with rfl|rfl|rfl
 ·have ha:decide (o.Kind<=17) = !decide (17<o.Kind):=by rw[N9];simp
  have hb:(o.Lanes==1) = !decide (1<o.Lanes):=by rw[N9];simp;omega
  show some (bif decide (o.Kind<=17) then(o.Lanes==1) else false)=some (!decide (17<o.Kind)&&!(true&&decide (1<o.Lanes)))
  rw[ha,hb]
  cases decide (17<o.Kind)<;>cases decide (1<o.Lanes)<;>rfl
 ·have ha:decide (o.Kind<=20) = !decide (20<o.Kind):=by rw[N9];simp
  have hb:(o.Lanes==1) = !decide (1<o.Lanes):=by rw[N9];simp;omega
  show some (bif decide (o.Kind<=20) then(o.Lanes==1) else false)=some (!decide (20<o.Kind)&&!(true&&decide (1<o.Lanes)))
  rw[ha,hb]
  cases decide (20<o.Kind)<;>cases decide (1<o.Lanes)<;>rfl
 ·show some true=some (!decide (22<o.Kind)&&!(false&&decide (1<o.Lanes)))
  rw[C6 (by omega)]
  rfl
theorem YT(o:Bh)(ho:bQ o)(f:Aa)(l:Int)(h0:0<=l)(h2:l<=2)(t:List Int)(u:List A7):E7 o f l t u=some (G5 l o,f,l,t,u):=by
 unfold E7 G5;rw[DY o ho,Ar]
 cases hk:Ht o with
 | false=>rfl
 | true=>
  rw[show(true==true)=true from rfl,Ae,kK o l h0 h2 hk,Ar,Ae,Hj]
theorem gQ(b:Ag){f:Aa}(hf:OkF f)(hb:b∈f.Blocks)(l:Int)(h0:0<=l)(h2:l<=2)(t:List Int)(u:List A7):Ho b.Ops f l t u=some (b.Ops.all (G5 l),f,l,t,u):=by
 have hB:=hf.block b hb
 have key:∀ k i:Nat,i+k=b.Ops.length->Ah (En b.Ops) ((i:Int),f.Params,f.Ret,f.Blocks,l,t,u)=some (bif (b.Ops.drop i).all (G5 l) then .inl (f.Params,f.Ret,f.Blocks,l,t,u) else .inr (false,f,l,t,u)):=by
  intro k
  induction k with
  | zero=>
   intro i h
   obtain rfl:i=b.Ops.length:=by omega
   rw[Ai (x:=.inl (f.Params,f.Ret,f.Blocks,l,t,u)) (by unfold En;simp)]
   simp
  | succ k ih=>
   intro i h
   have hi:i<b.Ops.length:=by omega
   have hd:decide ((i:Int)<(b.Ops.length:Int))=true:=by simpa using hi
   have hdr:b.Ops.drop i=b.Ops.getD i default::b.Ops.drop (i+1):=by rw[O8 hi,Ab _ _ _ hi]
   have hx:=YT (b.Ops.getD i default) (k4 hf hb (getD_mem hi)) f l h0 h2 t u;rw[hdr,Pa]
   cases ho:G5 l (b.Ops.getD i default) with
   | true=>
    rw[ho]at hx
    rw[Ap (s':=(((i+1:Nat):Int),f.Params,f.Ret,f.Blocks,l,t,u)) (by
     unfold En;simp only[hd,Ae,As (Bc hi),Dk,hx,Ar,Fi,Az,Dv hi (by have:=hB.ops;omega)]
     rfl),ih (i+1) (by omega),Hj]
   | false=>
    rw[ho]at hx
    rw[Ai (x:=.inr (false,f,l,t,u)) (by
     unfold En
     simp only[hd,Ae,As (Bc hi),Dk,hx,Ar,Kf])]
    rfl
 unfold Ho;rw[show(0:Int)=((0:Nat):Int) from rfl,key b.Ops.length 0 (by omega),Lm,Ar]
 cases b.Ops.all (G5 l)<;>rfl
theorem cI(b:Ag)(h:b.Phis.length<9223372036854775808):G4 b.Phis=some (b.Phis.all λp=>Dn p.Bits):=by
 unfold G4
 rw[kE b.Phis (default:Em) (λp=>Dn p.Bits) (Fo b.Phis) (.inl ()) (.inr false) h (λi hi=>by
  unfold Fo Lv
  have hd:decide ((i:Int)<(b.Phis.length:Int))=true:=by simpa using hi
  simp only[hd,Ae,As (Bc hi),Dk,P8,Ar]
  cases Dn (b.Phis.getD i default).Bits<;>rfl) (by unfold Fo;simp),Ar]
 cases b.Phis.all λp=>Dn p.Bits<;>rfl
theorem cH(p:List Int)(h:p.length<9223372036854775808):Ju p=some (p.all Dn):=by
 unfold Ju
 rw[kE p (0:Int) Dn (Hp p) (.inl ()) (.inr false) h (λi hi=>by
  unfold Hp
  have hd:decide ((i:Int)<(p.length:Int))=true:=by simpa using hi
  simp only[hd,Ae,As (Bc hi),Dk,P8,Ar]
  cases Dn (p.getD i 0)<;>rfl) (by unfold Hp;simp),Ar]
 cases p.all Dn<;>rfl
theorem LC(b:Ag){f:Aa}(hf:OkF f)(hb:b∈f.Blocks)(l:Int)(h0:0<=l)(h2:l<=2)(t:List Int)(u:List A7):D8 b f l t u=some (Hl l b,f,l,t,u):=by
 unfold D8 Hl;rw[cI b (by have:=(hf.block b hb).phis;omega),Ar,gQ b hf hb l h0 h2 t u]
 cases(b.Phis.all λp=>Dn p.Bits)<;>rfl
theorem gZ{f:Aa}(hf:OkF f)(l:Int)(h0:0<=l)(h2:l<=2)(t:List Int)(u:List A7):F4 f l t u=some (bif Pq f l then 0 else 6,f,l,t,u):=by
 have key:∀ k i:Nat,i+k=f.Blocks.length->Ah (Ds f.Blocks) ((i:Int),f.Params,f.Ret,f.Blocks,l,t,u)=some (bif (f.Blocks.drop i).all (Hl l) then .inl (f.Params,f.Ret,f.Blocks,l,t,u) else .inr (false,f,l,t,u)):=by
  intro k
  induction k with
  | zero=>
   intro i h
   obtain rfl:i=f.Blocks.length:=by omega
   rw[Ai (x:=.inl (f.Params,f.Ret,f.Blocks,l,t,u)) (by unfold Ds;simp)]
   simp
  | succ k ih=>
   intro i h
   have hi:i<f.Blocks.length:=by omega
   have hd:decide ((i:Int)<(f.Blocks.length:Int))=true:=by simpa using hi
   have hdr:f.Blocks.drop i=f.Blocks.getD i default::f.Blocks.drop (i+1):=by rw[O8 hi,Ab _ _ _ hi]
   have hx:=LC (f.Blocks.getD i default) hf (getD_mem hi) l h0 h2 t u;rw[hdr,Pa]
   cases ho:Hl l (f.Blocks.getD i default) with
   | true=>
    rw[ho]at hx
    rw[Ap (s':=(((i+1:Nat):Int),f.Params,f.Ret,f.Blocks,l,t,u)) (by
     unfold Ds;simp only[hd,Ae,As (Bc hi),Dk,hx,Ar,Fi,Az,Dv hi (by have:=hf.blocks;omega)]
     rfl),ih (i+1) (by omega),Hj]
   | false=>
    rw[ho]at hx
    rw[Ai (x:=.inr (false,f,l,t,u)) (by
     unfold Ds
     simp only[hd,Ae,As (Bc hi),Dk,hx,Ar,Kf])]
    rfl
 have hall:F3 f.Blocks f l t u=some (f.Blocks.all (Hl l),f,l,t,u):=by
  unfold F3;rw[show(0:Int)=((0:Nat):Int) from rfl,key f.Blocks.length 0 (by omega),Lm,Ar]
  cases f.Blocks.all (Hl l)<;>rfl
 unfold F4 Pq Il;rw[cH _ (by have:=hf.few;omega),Ar,hall,P8]
 cases f.Params.all Dn<;>cases Dn f.Ret<;>cases f.Blocks.all (Hl l)<;>rfl
end
end Go.Proofs.YtjpnobeadcdnoaaGreat
