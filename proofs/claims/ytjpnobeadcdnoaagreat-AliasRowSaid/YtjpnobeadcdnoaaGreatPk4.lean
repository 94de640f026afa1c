/-
  The machine, the program's functions and the laws' arithmetic: part 4 of 5.
-/
import Derived.Test.YtjpnobeadcdnoaaGreatPk3
import Derived.Lib.RowBridge
import Derived.OpenShut
import Derived.ShutString
set_option linter.unusedSectionVars false
set_option linter.unusedVariables false
set_option linter.unusedSimpArgs false
namespace Go.Proofs.YtjpnobeadcdnoaaGreat
noncomputable section
open Go Go.RowKit
set_option maxRecDepth 100000
set_option maxHeartbeats 2000000
def lu(a3:Aa)(aQ:Int):AV:=(.agg [(Z7 a3.Params),(Z6 a3.Ret),(LI a3.Blocks),(Z6 aQ),OC,.nilm,nb])
def ls(a3:Aa)(aQ:Int):=(⟨[(5,(.ptr 5 0))],[(5,.row 110 [(Z7 a3.Params),(Z6 a3.Ret),(LI a3.Blocks),(Z6 aQ),OC,.nilm,nb])],[]⟩:St)
def kI(a3:Aa)(aQ:Int):=(⟨[(5,(.ptr 5 0))],[(5,.row 110 [(Z7 a3.Params),(Z6 a3.Ret),(LI a3.Blocks),(Z6 aQ),OC,.nilm,(nd 50506)]),(nh 50506)],[]⟩:St)
def Mb(a3:Aa)(aQ:Int):Option Int:=
 (bif (bif (decide (aQ<0)) then true else(decide ((2:Int)<aQ))) then(some (1:Int)) else((Er a3 aQ ([]:Aq) ([]:List A8)).bind λx1=>(some x1.1)))
variable{v0:Aa}{v1:Int}{v2:Int}
theorem EW(h:Mb v0 v1=some v2):sP 33 [(SM v0),(Z6 v1)] [] (.int .i64 v2) []:=
 sG Tryz.func33 λΓ q=>Am q Wc [2] (tU q [1,2,11] [2] (c2 (gI ((decide (v1<0))==false)) (S3 (decide (v1<0)))) (gC h (λh=>Am q [4] [] (tS h (Ck []))) λh=>gR q [5] [5] [(14,(lu v0 v1))] [] (c1 (show(AVle (.agg [(Z7 v0.Params),(Z6 v0.Ret),(LI v0.Blocks),(Z6 v1),Z5,.nilm,Z5]) (lu v0 v1)) from(AVle.agg (.cons (AVle.refl _) (.cons (AVle.refl _) (.cons (AVle.refl _) (.cons (AVle.refl _) (.cons D6 (.cons (AVle.refl _) (.cons D6 .nil)))))))))) (Sb (ls v0 v1) (Mv (show Le Γ _ (kI v0 v1) from Le.trans (Db (st':=(ls v0 v1)) [5] [5] q) (Le.trans (Mh (r:=5) (j:=6) (nm:=50506) (sz':=5) (λi=>Jt (([]:List A8).getD i default)) 158 rfl rfl (nl rfl) rfl (.inl ⟨rfl,rfl⟩) (λh_=>absurd h_ (by decide))) (Db (st':=(kI v0 v1)) [5] [5,50506] q))) (Mv (show Le Γ _ (⟨[(5,(.ptr 5 0))],[(5,.row 110 [(Z7 v0.Params),(Z6 v0.Ret),(LI v0.Blocks),(Z6 v1),(AV.list 1 As 0 ([]:Aq) .none),.nilm,(nd 50506)]),(nh 50506)],[]⟩:St) from Le.trans (Db (st':=(kI v0 v1)) [5] [5,50506] q) (Jl (.cons (AVle.refl _) .nil) (.row (.cons (AVle.refl _) (.cons (AVle.refl _) (.cons (AVle.refl _) (.cons (AVle.refl _) (.cons AVle.untag (.cons (AVle.refl _) (.cons (AVle.refl _) .nil))))))) (.same .nil)))) (tB h λx1 y1 h=>tT q [4] [] [⟨[(5,30000),(50506,37006)],[(9200005,10000505)],(Z6 x1.1),[(Z1 x1.2.1.Params x1.2.1.Ret x1.2.1.Blocks x1.2.2.1 x1.2.2.2.1 9200005 x1.2.2.2.2.1),(Nr x1.2.2.2.2.1.length),(9200005,.obj (.map false .i64 (mapE (λ(v_:Aj)=>((P1 v_):AV)) x1.2.2.2.2.2)))],[],[]⟩] (c1 (K9 y1)) (tS h (Ck []))))))))
def H0(a3:Aa):Option Bool:=
 ((Mb a3 (2:Int)).bind λx1=>(some (x1==0)))
variable{v5:Bool}
theorem Qa(h:H0 v0=some v5):sP 21 [(SM v0)] [] (.bool v5) []:=
 sG Tryz.func21 λΓ q=>Am q [1] [1] (tB h λx1 y1 h=>tT q [2] [] [(DH x1)] (c1 (EW y1)) (tS h (Ck [])))
def E7(a1:Bl):Option Int:=
 (some (Ap (Int.tdiv (Ap (a1.Lanes*a1.Bits)) (8:Int))))
variable{v3:Bl}
theorem H4(h:E7 v3=some v1):sP 22 [(S2 v3)] [] (.int .i64 v1) []:=
 sG Tryz.func22 λΓ q=>Am q [1] [1] (tU q [2] [] (c1 (show((8:Int)≠0) from(by decide))) (tS h (Ck [])))
abbrev fJ:=(Int×Int×Bool)
def Jz(a3:Aa)(aA:Int)(aJ:Int):Option fJ:=
 ((C4 a3 aA aJ).bind λx1=>((D2 x1).bind λx2=>((bif ((x2==0)==false) then H0 a3 else some false).bind λx3=>(bif (bif (x2==0) then true else(!x3)) then(some ((0:Int),(0:Int),false)) else((E7 x1).bind λx4=>(some (x2,x4,true)))))))
variable{v32:fJ}
theorem Zg(h:Jz v0 v1 v2=some v32):sP 9 [(SM v0),(Z6 v1),(Z6 v2)] [] (.tuple [(Z6 v32.1),(Z6 v32.2.1),(.bool v32.2.2)]) []:=
 sG Tryz.func9 λΓ q=>Am q [1,2,3] [3] (tB h λx1 y1 h=>tT q [3,9] [3,9] [⟨[],[],(S2 x1),[],[],[]⟩] (c1 (Ka y1)) (tB h λx2 y2 h=>tT q [3,9,10] [3,9] [(DH x2)] (c1 (Jg y2)) (tB h λx3 y3 h=>tT q [9,10,23] [9] [(Z2 x3)] (c4 (gI ((x2==0)==false)) (λ(hg:((x2==0)==false)=true)=>(Qa (Bz hg y3))) (gI ((x2==0)==false)) (S3 (x2==0))) (gC h (λh=>Am q [6,7,8] [] (tS h (Ck []))) λh=>tB h λx4 y4 h=>tT q [6,7,8] [] [(DH x4)] (c1 (H4 y4)) (tS h (Ck []))))))
abbrev GL:=(Int×(Int×Int))
abbrev nJ:=(LR (List (Int×(Int×Int))) (List (Int×(Int×Int))))
def Ig :List GL->Option nJ:=
 λ(l4:List GL)=>(some (.done l4))
def Gp(x1:VM):Nat->List GL->Option nJ:=
 λ(n3:Nat) (l4:List GL)=>(some (.next (Et l4 (x1.2.2.2.2.2.getD n3 ((0:Int),(default:Aj))).1 (((x1.2.2.2.2.2.getD n3 ((0:Int),(default:Aj))).2).shape.1,((x1.2.2.2.2.2.getD n3 ((0:Int),(default:Aj))).2).shape.2))))
def BW(x1:VM)(n3:Nat):=(x1.2.2.2.2.2.getD n3 ((0:Int),(default:Aj)))
def NZ(x1:VM):=(mapE (λ(v_:Aj)=>((P1 v_):AV)) x1.2.2.2.2.2)
def lw(a3:Aa):AV:=(.agg [(Z7 a3.Params),(Z6 a3.Ret),(LI a3.Blocks),ge,OC,.nilm,nb])
def lv(a3:Aa):=(⟨[(3,(.ptr 3 0))],[(3,.row 110 [(Z7 a3.Params),(Z6 a3.Ret),(LI a3.Blocks),ge,OC,.nilm,nb])],[]⟩:St)
def kJ(a3:Aa):=(⟨[(3,(.ptr 3 0))],[(3,.row 110 [(Z7 a3.Params),(Z6 a3.Ret),(LI a3.Blocks),ge,OC,.nilm,(nd 50306)]),(nh 50306)],[]⟩:St)
def Kw(a3:Aa):Option (List (Int×(Int×Int))):=
 ((Er a3 (2:Int) ([]:Aq) ([]:List A8)).bind λx1=>(bif (x1.1 !=0) then(some ([]:List GL)) else((Wr (S:=List GL) (X:=List GL) JR ((mapE (λ(v_:Aj)=>((.agg (Qu v_)):AV)) x1.2.2.2.2.2).length) (Gp x1) Ig ([]:List GL)).bind (λx6=>(some x6)))))
variable{v33:List GL}
theorem BZ(h:Kw v0=some v33):sP 44 [(SM v0)] [] (.omap 20000) [(20000,.obj (.pmap false .i64 (mapE (λ(v_:Gy)=>((DI v_):AV)) v33)))]:=
 sG Tryz.func44 λΓ q=>Am q [1] [1] (gR q [3] [3] [(8,(lw v0))] [] (c1 (show(AVle (.agg [(Z7 v0.Params),(Z6 v0.Ret),(LI v0.Blocks),ge,Z5,.nilm,Z5]) (lw v0)) from(AVle.agg (.cons (AVle.refl _) (.cons (AVle.refl _) (.cons (AVle.refl _) (.cons (AVle.refl _) (.cons D6 (.cons (AVle.refl _) (.cons D6 .nil)))))))))) (Sb (lv v0) (Mv (show Le Γ _ (kJ v0) from Le.trans (Db (st':=(lv v0)) [3] [3] q) (Le.trans (Mh (r:=3) (j:=6) (nm:=50306) (sz':=5) (λi=>Jt (([]:List A8).getD i default)) 158 rfl rfl (nl rfl) rfl (.inl ⟨rfl,rfl⟩) (λh_=>absurd h_ (by decide))) (Db (st':=(kJ v0)) [3] [3,50306] q))) (Mv (show Le Γ _ (⟨[(3,(.ptr 3 0))],[(3,.row 110 [(Z7 v0.Params),(Z6 v0.Ret),(LI v0.Blocks),ge,(AV.list 1 As 0 ([]:Aq) .none),.nilm,(nd 50306)]),(nh 50306)],[]⟩:St) from Le.trans (Db (st':=(kJ v0)) [3] [3,50306] q) (Jl (.cons (AVle.refl _) .nil) (.row (.cons (AVle.refl _) (.cons (AVle.refl _) (.cons (AVle.refl _) (.cons (AVle.refl _) (.cons AVle.untag (.cons (AVle.refl _) (.cons (AVle.refl _) .nil))))))) (.same .nil)))) (tB h λx1 y1 h=>tT q [3,10] [3,50306,10000305] [⟨[(3,30000),(50306,37006)],[(9200005,10000305)],(Z6 x1.1),(mV x1.2.1.Params x1.2.1.Ret x1.2.1.Blocks x1.2.2.1 x1.2.2.2.1 9200005 x1.2.2.2.2.1 x1.2.2.2.2.1.length (NZ x1)),[],[]⟩] (c1 (K9 y1)) (gC h (λh=>Am q [2] [] (Sb (⟨[(2,.nilm)],[],[]⟩:St) (tS h (gK (e:=.ret) (Kp [(36002,20000)] (Le.trans (Le.trans (iQ (t:=2) (nm:=36002) .i64 rfl rfl) (Db (st':=⟨[(2,(.omap 36002))],[(36002,.obj (.map false .i64 (mapE (λ(v_:Gy)=>((DI v_):AV)) ([]:List GL))))],[]⟩) [2] [36002] q)) (pI 36002 false .i64 (f:=(λ(v_:Gy)=>((DI v_):AV))) aw))))))) λh=>gR q [3,4] [3,14,50306,10000305] [(13,(HB x1.2.2.2.2.2.length))] [] (c1 (show(AVle (.int .i64 ((NZ x1).length:Int)) (HB x1.2.2.2.2.2.length)) from(ib (f:=(λ(v_:Aj)=>((P1 v_):AV))) (l:=x1.2.2.2.2.2) rfl))) (Mv (Th (λ(k_:List HZ) u=>Fo u [] [(bb 14 k_)]) (show[]=(mapE (λ(v_:Gy)=>((DI v_):AV)) ([]:List GL)) from rfl)) (Am q [4,17] YM (tB h λx6 y6 h=>pZ q y6 [4,17] YM (λu z2 l4=>(Fo u [] [(14,.obj (.map true .i64 (mapE (λ(v_:Gy)=>((DI v_):AV)) l4))),(17,.obj (.miter (.omap 10000305) ((NZ x1).length) z2))])) (λu l5=>aG Γ (.exit 0) (W5 [4] [14] u [] [(14,.obj (.map true .i64 (mapE (λ(v_:Gy)=>((DI v_):AV)) l5)))])) 17 18 19 17 10000305 false .i64 (NZ x1) [4,17,19] YM (kd:=(λz2 l4 y h hall=>ZV false (tS h (gO (D1 (Db [4] [14] q)))))) (kn:=(λz2 l4 n3 y h hin3 hnn3=>ZV true (gR q [4,5,6,17] [6,14,17,10000305] [(20,(.tuple [(.int .i64 (BW x1 n3).1),(.agg (Qu ((BW x1 n3).2)))]))] [] (c3 (Eq.refl ((NZ x1).length)) (show(n3<(NZ x1).length) from hin3) (show(AVle (.tuple [.int .i64 ((NZ x1).getD n3 (0,.any)).1,((NZ x1).getD n3 (0,.any)).2]) (.tuple [(.int .i64 (BW x1 n3).1),(.agg (Qu ((BW x1 n3).2)))])) from(iY (f:=(λ(v_:Aj)=>((P1 v_):AV))) (l:=x1.2.2.2.2.2) hin3))) (Am q [4,17] YM (tS h (gN (Le.trans (Th (λ(k_:List HZ) u=>Fo u [] [(bb 14 k_)]) (show(Et (mapE (λ(v_:Gy)=>((DI v_):AV)) l4) (BW x1 n3).1 (.agg [(.int .i64 ((BW x1 n3).2).shape.1),(.int .i64 ((BW x1 n3).2).shape.2)]))=(mapE (λ(v_:Gy)=>((DI v_):AV)) (Et l4 (BW x1 n3).1 (((BW x1 n3).2).shape.1,((BW x1 n3).2).shape.2))) from(Xz (f:=(λ(v_:Gy)=>((DI v_):AV))) (l:=l4) (v:=(((BW x1 n3).2).shape.1,((BW x1 n3).2).shape.2)) rfl rfl))) Mw))))))) (ko:=(λl_ hp_=>jm (λst' hl7=>Mv (Le.trans hl7 (pI 14 true .i64 (f:=(λ(v_:Gy)=>((DI v_):AV))) hp_)) (Am q [2] [14] (Sb (⟨[(2,(.omap 14))],[(14,.obj (.pmap true .i64 (mapE (λ(v_:Gy)=>((DI v_):AV)) x6)))],[]⟩:St) (tS h (gK (e:=.ret) (Kp [(14,20000)] (pe 14 .i64 (mapE (λ(v_:Gy)=>((DI v_):AV)) x6)))))))))))))))))))
abbrev jT:=(Int×List (Int×Bl))
abbrev nK:=(LR (Int×List (Int×Bl)) (List (Int×Bl)))
abbrev Zy:=(Int×Bl)
def Hc(a3:Aa)(i1:Int):jT->Option nK:=
 λ((i5,l6):jT)=>(bif (decide (i5<(((a3.Blocks.getD i1.toNat default).Ops).length:Int))) then(Option.bind (α:=List Zy) (Cd (Bv i5 ((a3.Blocks.getD i1.toNat default).Ops).length) (Option.bind (α:=Bool) (bif (((((a3.Blocks.getD i1.toNat default).Ops).getD i5.toNat default).Kind:Int)==0) then(some (((((a3.Blocks.getD i1.toNat default).Ops).getD i5.toNat default).Kind:Int)==0)) else(bif (((((a3.Blocks.getD i1.toNat default).Ops).getD i5.toNat default).Kind:Int)==1) then(some (((((a3.Blocks.getD i1.toNat default).Ops).getD i5.toNat default).Kind:Int)==1)) else(bif (((((a3.Blocks.getD i1.toNat default).Ops).getD i5.toNat default).Kind:Int)==2) then(some (((((a3.Blocks.getD i1.toNat default).Ops).getD i5.toNat default).Kind:Int)==2)) else(bif (((((a3.Blocks.getD i1.toNat default).Ops).getD i5.toNat default).Kind:Int)==3) then(some (((((a3.Blocks.getD i1.toNat default).Ops).getD i5.toNat default).Kind:Int)==3)) else(some (((((a3.Blocks.getD i1.toNat default).Ops).getD i5.toNat default).Kind:Int)==8)))))) (λx11=>(bif x11 then(some (Et l6 (((a3.Blocks.getD i1.toNat default).Ops).getD i5.toNat default).Dst (((a3.Blocks.getD i1.toNat default).Ops).getD i5.toNat default))) else(some l6))))) (λx13=>(some (.next ((Ap (i5+1)),x13))))) else(some (.done l6)))
def Hd(a3:Aa):jT->Option nK:=
 λ((i1,l2):jT)=>(bif (decide (i1<(a3.Blocks.length:Int))) then(Cd (Bv i1 a3.Blocks.length) ((Ah (Hc a3 i1) ((0:Int),l2)).bind (λx15=>(some (.next ((Ap (i1+1)),x15)))))) else(some (.done l2)))
def GX:=(λ(v_:Bl)=>((S2 v_):AV))
def DF(a3:Aa)(i1:Int)(i5:Int):=(((a3.Blocks.getD i1.toNat default).Ops).getD i5.toNat default)
abbrev VN:=(List (Int×Bl))
def Ma(a3:Aa):Option VN:=
 ((Ah (Hd a3) ((0:Int),([]:List Zy))).bind (λx17=>(some x17)))
variable{v34:List Zy}
theorem EV(h:Ma v0=some v34):sP 45 [(SM v0)] [] (.omap 20000) [(20000,.obj (.map true .i64 (mapE (λ(v_:Bl)=>((S2 v_):AV)) v34)))]:=
 sG Tryz.func45 λΓ q=>tW q [1] [1] [1,3] [1,8] (Mv (Th (λ(k_:List HZ) u=>Fo u [] [(8,.obj (.map true .i64 k_))]) (show[]=(mapE GX ([]:List Zy)) from rfl)) (Am q Ys [8] (tL q h Ys [8] (λu (i1,l2)=>(Fo u [(12,(Z6 i1))] [(8,.obj (.map true .i64 (mapE GX l2)))])) (λu l3=>aG Γ (.exit 0) (W5 [3] [8] u [] [(8,.obj (.map true .i64 (mapE GX l3)))])) (λ⟨i1,l2⟩ y h=>Am q [3,10,11,12,13] [8] (gC h (λh=>tV q [3,5,10,11,12] [5,8] h λh=>Am q RX [8] (tL q h RX [8] (λu (i5,l6)=>(Fo u [(19,(Z6 i5))] [(8,.obj (.map true .i64 (mapE GX l6)))])) (λu l7=>aG Γ (.exit 2) (W5 Ys [8] u [] [(8,.obj (.map true .i64 (mapE GX l7)))])) (λ⟨i5,l6⟩ y h=>Am q [3,10,11,12,17,18,19,20] [8] (gC h (λh=>tB h λx13 y13 h=>gJ y13 (λl8=>aG Γ .normal (⟨[(3,(.omap 8)),(10,(LI v0.Blocks)),(11,(HB v0.Blocks.length)),(12,(Z6 i1)),(17,(AV.list 6 Js default (v0.Blocks.getD i1.toNat default).Ops .none)),(18,(.int .i64 (((v0.Blocks.getD i1.toNat default).Ops).length:Int))),(19,(Z6 i5))],[(8,.obj (.map true .i64 (mapE GX l8)))],[]⟩:St)) (λy h=>tV q [3,7,10,11,12,17,18,19] Mu h λh=>Am q [3,7,10,11,12,17,18,19,24] Mu (tB h λx11 y11 h=>gJ y11 (λb10=>aG Γ .normal (⟨[(3,(.omap 8)),(7,(.ptr 7 0)),(10,(LI v0.Blocks)),(11,(HB v0.Blocks.length)),(12,(Z6 i1)),(17,(AV.list 6 Js default (v0.Blocks.getD i1.toNat default).Ops .none)),(18,(.int .i64 (((v0.Blocks.getD i1.toNat default).Ops).length:Int))),(19,(Z6 i5)),(25,(.bool b10))],[(7,.row 46 [(.int .i64 (DF v0 i1 i5).Kind),(.int .i64 (DF v0 i1 i5).Bits),(.int .i64 (DF v0 i1 i5).Lanes),(.int .i64 (DF v0 i1 i5).Dst),(AV.list 1 As 0 (DF v0 i1 i5).Args .none),(.int .u64 (DF v0 i1 i5).Imm)]),(8,.obj (.map true .i64 (mapE GX l6)))],[]⟩:St)) (λy h=>Am q YG Mu (gC h (λh=>tS h (gK (D1 (Db RU Mu q)))) λh=>Am q YG Mu (gC h (λh=>tS h (gK (D1 (Db RU Mu q)))) λh=>Am q YG Mu (gC h (λh=>tS h (gK (D1 (Db RU Mu q)))) λh=>Am q YG Mu (gC h (λh=>tS h (gK (D1 (Db RU Mu q)))) λh=>Am q RU Mu (tS h (gK (D1 Mw)))))))) (gA (gC h (λh=>Am q RX [8] (tS h (gK (D1 (Le.trans (Th (λ(k_:List HZ) u=>Fo u [] [(8,.obj (.map true .i64 k_))]) (show(Et (mapE GX l6) (DF v0 i1 i5).Dst (S2 (DF v0 i1 i5)))=(mapE GX (Et l6 (DF v0 i1 i5).Dst (DF v0 i1 i5))) from(Xz (f:=GX) (l:=l6) (v:=(DF v0 i1 i5)) rfl rfl))) Mw))))) λh=>tS h (gK (D1 (Db RX [8] q))))))) (gA (Am q RX [8] (tN h)))) λh=>tS h (gO (D1 (Db Ys [8] q))))) λx15 h=>gA (Am q Ys [8] (tN h)))) λh=>tS h (gO (D1 (Db [3] [8] q))))) λx17 h=>gA (Am q [2] [8] (tS h (Ck [(8,20000)]))))))
def Hy(a6:A1):Gy->Option pK:=
 λ((i1,i2):Gy)=>(bif (decide (i2<(a6.Terms.length:Int))) then(Cd (Bv i2 a6.Terms.length) (bif (bif (bif (decide (((a6.Terms.getD i2.toNat default).V:Int)<=i1)) then true else(decide ((1023:Int)<(a6.Terms.getD i2.toNat default).V))) then true else(((a6.Terms.getD i2.toNat default).Scale:Int)==0)) then(some (.done (.inr false))) else(some (.next ((a6.Terms.getD i2.toNat default).V,(Ap (i2+1))))))) else(some (.done (.inl ()))))
def LA(Γ:G0)(a6:A1)(r:Bool):Exit->St->Prop:=fK Tryz.prog Γ Tryz.f67.results.toList [] (.bool r) []
def lx(a6:A1)(i2:Int)(i1:Int):=(bif (decide (((a6.Terms.getD i2.toNat default).V:Int)<=i1)) then true else(decide ((1023:Int)<(a6.Terms.getD i2.toNat default).V)))
def Fu(a6:A1):Option Bool:=
 ((Ah (Hy a6) ((0:Int),(0:Int))).bind (λx4=>(match x4 with|(.inl _)=>(some true)|(.inr r6)=>(some r6))))
variable{v35:A1}
theorem Ic(h:Fu v35=some v5):sP 67 [(Ol v35)] [] (.bool v5) []:=
 sG Tryz.func67 λΓ q=>tW q [1] [1] [1,3] [1] (Am q NO [] (tL q h NO [] (λu (i1,i2)=>(Fo u [(3,(Z6 i1)),(9,(Z6 i2))] [])) (λu x_=>match x_ with|(.inl _)=>aG Γ (.exit 0) (⟨[],[],[]⟩:St)|(.inr r_)=>aR (LA Γ v35 r_)) (λ⟨i1,i2⟩ y h=>Am q [3,7,8,9,10] [] (gC h (λh=>tV q [3,5,7,8,9] [5] h λh=>tU q [5,7,8,9,26] [5] (Xn ((decide (((v35.Terms.getD i2.toNat default).V:Int)<=i1))==false) (ci (S3 (decide (((v35.Terms.getD i2.toNat default).V:Int)<=i1))) (Xn ((lx v35 i2 i1)==false) (c1 (S3 (lx v35 i2 i1)))))) (gC h (λh=>Am q [2] [] (tS h (gO (Sr (Kp [] (Le.refl _ _)))))) λh=>tW q NO [] NO [] (tN h))) λh=>tS h (gO (D1 (Db [] [] q))))) λx4 h=>(match x4,h with | .inl _,h=>gA (Am q [2] [] (tS h (Ck []))) | .inr r6,h=>Wj (λst' hk=>tS h (gK hk)))))
def Jy(aF:Int)(aH:Int):Option Int:=
 (some (C1 (aF+aH)))
variable{v20:Int}
theorem P8(h:Jy v1 v2=some v20):sP 126 [(Kf v1),(Kf v2)] [] (.int .u64 v20) []:=
 sG Tryz.func126 λΓ q=>tW q G7 [] [4] [] (tS h (Ck []))
def Cx(aX:List Ax):Option Int:=
 (bif ((aX.length:Int)==0) then(some (1024:Int)) else(Cd (Bv (0:Int) aX.length) (some ((aX.getD (0:Int).toNat (default:Ax)).V))))
variable{v36:List Ax}
theorem Fl(h:Cx v36=some v1):sP 68 [(AV.list 2 Ea default v36 .none)] [] (.int .i64 v1) []:=
 sG Tryz.func68 λΓ q=>tW q [0] [] [0,5] [] (gC h (λh=>Am q [2] [] (tS h (Ck []))) λh=>tV q [2] [] h λh=>tS h (Ck []))
def Dc(aX:List Ax)(a8:Int):Option (Int×List Ax):=
 ((Cx aX).bind λx1=>(bif (x1 !=a8) then(some ((0:Int),aX)) else(Cd (Bv (0:Int) aX.length) (Cd (0<=(1:Int)/\(1:Int)<=(aX.length:Int)) (some ((aX.getD (0:Int).toNat (default:Ax)).Scale,(aX.drop (1:Int).toNat)))))))
variable{v37:(Int×List Ax)}
theorem Gg(h:Dc v36 v1=some v37):sP 69 [(AV.list 2 Ea default v36 .none),(Z6 v1)] [] (.tuple [(Kf v37.1),(AV.list 2 Ea default v37.2 .none)]) []:=
 sG Tryz.func69 λΓ q=>gR q G7 [] [(5,ga)] [] (c1 (Gj 2 Ea (default:Ax))) (tB h λx1 y1 h=>tT q [0,9] [] [(DH x1)] (c1 (Fl y1)) (gC h (λh=>Am q So [] (tS h (Ck []))) λh=>tC h λc2_ h=>tC h λc3_ h=>gR q So [] [(16,(AV.list 2 Ea default (v36.drop (1:Int).toNat) .none))] [] (c3 c2_ c3_ (show(AVle (.slice 2 (v36.length-(1:Int).toNat) (λi=>Ea (v36.getD ((1:Int).toNat+i) default)) .none) (AV.list 2 Ea default (v36.drop (1:Int).toNat) .none)) from LO)) (tS h (Ck []))))
abbrev bV:=(List Ax×List Ax×List Ax)
abbrev nL:=(LR (List Ax×List Ax×List Ax) (List Ax))
def N3 :bV->Option nL:=
 λ((l4,l5,l6):bV)=>(bif (bif (decide ((0:Int)<(l4.length:Int))) then true else(decide ((0:Int)<(l5.length:Int)))) then((Cx l4).bind λx8=>((Cx l5).bind λx9=>((Dc l4 (if x9<x8 then x9 else x8)).bind λx10=>((Dc l5 (if x9<x8 then x9 else x8)).bind λx11=>((Jy x10.1 x11.1).bind λx12=>(bif (x12 !=0) then(Cd (l6.length+([(⟨(if x9<x8 then x9 else x8),x12⟩:Ax)]:List Ax).length<=room) (some (.next (x10.2,x11.2,(l6++([(⟨(if x9<x8 then x9 else x8),x12⟩:Ax)]:List Ax)))))) else(some (.next (x10.2,x11.2,l6))))))))) else(some (.done l6)))
def lz(l4:List Ax):=(decide ((0:Int)<(l4.length:Int)))
def SS:AV:=ga
def f8(x9:Int)(x8:Int)(x12:Int):=([(⟨(if x9<x8 then x9 else x8),x12⟩:Ax)]:List Ax)
def ly(a6:A1)(a2:A1)(x3:Int):=((pB 126 a6.Terms a6.Off a2.Terms a2.Off x3):St)
def M0(a6:A1)(a2:A1):Option A1:=
 ((Fu a6).bind λx1=>((bif ((!x1)==false) then Fu a2 else some false).bind λx2=>(bif (bif (!x1) then true else(!x2)) then(some (⟨([]:List Ax),(0:Int)⟩:A1)) else((Jy a6.Off a2.Off).bind λx3=>((Ah (S:=bV) (X:=List Ax) N3 (a6.Terms,a2.Terms,([]:List Ax))).bind (λx14=>(some (⟨x14,x3⟩:A1))))))))
variable{v38:A1}{v39:A1}
theorem Zf(h:M0 v35 v38=some v39):sP 47 [(Ol v35),(Ol v38),(.clo 126 [] [])] [] (Ol v39) []:=
 sG Tryz.func47 λΓ q=>Am q [2,3,4,6] [3,4,6] (tB h λx1 y1 h=>tB h λx2 y2 h=>tT q VW [3,4,6] [(Z2 x1),(Z2 x2)] (c5 (Ic y1) (gI ((!x1)==false)) (λ(hg:((!x1)==false)=true)=>(Ic (Bz hg y2))) (gI ((!x1)==false)) (S3 (!x1))) (gC h (λh=>gR q [6] [6] [(20,(.agg [SS,Ot]))] [] (c1 (show(AVle (.agg [Z5,Ot]) (.agg [SS,Ot])) from(AVle.agg (.cons D6 (.cons (AVle.refl _) .nil))))) (Sb (⟨[NT],[(6,.row 57 [SS,Ot])],[]⟩:St) (tS h (gK (e:=.ret) (Kp [] (show Le Γ _ (⟨[NT],[(6,.row 57 [kN,Ot])],[]⟩:St) from Le.trans (Db (st':=⟨[NT],[(6,.row 57 [SS,Ot])],[]⟩) [6] [6] q) (Jl (.cons (AVle.refl _) .nil) (.row (.cons AVle.untag (.cons (AVle.refl _) .nil)) .nil)))))))) λh=>tB h λx3 y3 h=>gR q Lt NP [(27,(.agg [SS,(Kf x3)]))] [⟨[],[],(Kf x3),[],[],[]⟩] (c2 (P8 y3) (show(AVle (.agg [Z5,(Kf x3)]) (.agg [SS,(Kf x3)])) from(AVle.agg (.cons D6 (.cons (AVle.refl _) .nil))))) (Mv (st':=(ly v35 v38 x3)) (Le.trans (Db (st':=(pE 126 v35.Terms v35.Off v38.Terms v38.Off SS x3)) Lt NP q) (Le.trans (Mh (r:=7) (j:=0) (nm:=5700) (sz':=2) (λi=>Ea (([]:List Ax).getD i default)) 134 rfl rfl (nl rfl) rfl (.inl ⟨rfl,rfl⟩) (λh_=>absurd h_ (by decide))) (Db (st':=(ly v35 v38 x3)) Lt Oo q))) (tL q h Lt Oo (λu (l4,l5,l6)=>(Fo u [] [(3,.row 57 (Z9 l4 v35.Off)),(4,.row 57 (Z9 l5 v38.Off)),(lk l6 x3),(5700,.tok 2 134 l6.length)])) (λu l7=>aG Γ (.exit 0) (W5 Qm NQ u [] [(lk l7 x3),(5700,.tok 2 134 l7.length)])) (λ⟨l4,l5,l6⟩ y h=>tU q fh Oo (XB ((lz l4)==false) (c1 (S3 (lz l4)))) (gC h (λh=>tB h λx8 y8 h=>tB h λx9 y9 h=>tT q KR Oo [(DH x8),(DH x9)] (c2 (Fl y8) (Fl y9)) (Am q KR Oo (tB h λx10 y10 h=>tT q fg Oo [(lj x10.1 x10.2)] (c1 (Gg y10)) (tB h λx11 y11 h=>tT q fa Oo [(lj x11.1 x11.2)] (c1 (Gg y11)) (tB h λx12 y12 h=>tT q fc Oo [⟨[],[],(Kf x12),[],[],[]⟩] (c1 (P8 y12)) (Am q fZ Oo (gC h (λh=>tC h λc13_ h=>gR q Lt Oo (oO (f8 x9 x8 x12) l6) [] (c5 (Bn 2 Ea (default:Ax) (f8 x9 x8 x12)) (Eq.refl l6.length) c13_ (Ng 2 5700 Ea (default:Ax) l6 (f8 x9 x8 x12)) (Gl l6 (f8 x9 x8 x12))) (tN h)) λh=>tS h (gN (Db Lt Oo q))))))))) λh=>tS h (gO (D1 (Db Qm NQ q))))) λx14 h=>gA (Am q [6] [6,5700] (tS h (Ck [])))))))
def L9(a6:A1)(aS:A1):Option A1:=
 ((M0 a6 aS).bind λx1=>(some x1))
theorem ET(h:L9 v35 v38=some v39):sP 99 [(Ol v35),(Ol v38)] [] (Ol v39) []:=
 sG Tryz.func99 λΓ q=>Am q AF AF (tB h λx1 y1 h=>tT q [4] [4] [(jb x1)] (c1 (Zf y1)) (tS h (Ck [])))
def Ja(aF:Int)(aH:Int):Option Int:=
 (some (C1 (aF-aH)))
theorem O9(h:Ja v1 v2=some v20):sP 48 [(Kf v1),(Kf v2)] [] (.int .u64 v20) []:=
 sG Tryz.func48 λΓ q=>tW q G7 [] [4] [] (tS h (Ck []))
def Ln :bV->Option nL:=
 λ((l4,l5,l6):bV)=>(bif (bif (decide ((0:Int)<(l4.length:Int))) then true else(decide ((0:Int)<(l5.length:Int)))) then((Cx l4).bind λx8=>((Cx l5).bind λx9=>((Dc l4 (if x9<x8 then x9 else x8)).bind λx10=>((Dc l5 (if x9<x8 then x9 else x8)).bind λx11=>((Ja x10.1 x11.1).bind λx12=>(bif (x12 !=0) then(Cd (l6.length+([(⟨(if x9<x8 then x9 else x8),x12⟩:Ax)]:List Ax).length<=room) (some (.next (x10.2,x11.2,(l6++([(⟨(if x9<x8 then x9 else x8),x12⟩:Ax)]:List Ax)))))) else(some (.next (x10.2,x11.2,l6))))))))) else(some (.done l6)))
def mB(l4:List Ax):=(decide ((0:Int)<(l4.length:Int)))
def ST:AV:=ga
def f9(x9:Int)(x8:Int)(x12:Int):=([(⟨(if x9<x8 then x9 else x8),x12⟩:Ax)]:List Ax)
def mA(a6:A1)(a2:A1)(x3:Int):=((pB 48 a6.Terms a6.Off a2.Terms a2.Off x3):St)
def J7(a6:A1)(a2:A1):Option A1:=
 ((Fu a6).bind λx1=>((bif ((!x1)==false) then Fu a2 else some false).bind λx2=>(bif (bif (!x1) then true else(!x2)) then(some (⟨([]:List Ax),(0:Int)⟩:A1)) else((Ja a6.Off a2.Off).bind λx3=>((Ah (S:=bV) (X:=List Ax) Ln (a6.Terms,a2.Terms,([]:List Ax))).bind (λx14=>(some (⟨x14,x3⟩:A1))))))))
theorem Vc(h:J7 v35 v38=some v39):sP 47 [(Ol v35),(Ol v38),(.clo 48 [] [])] [] (Ol v39) []:=
 sG Tryz.func47 λΓ q=>Am q [2,3,4,6] [3,4,6] (tB h λx1 y1 h=>tB h λx2 y2 h=>tT q VW [3,4,6] [(Z2 x1),(Z2 x2)] (c5 (Ic y1) (gI ((!x1)==false)) (λ(hg:((!x1)==false)=true)=>(Ic (Bz hg y2))) (gI ((!x1)==false)) (S3 (!x1))) (gC h (λh=>gR q [6] [6] [(20,(.agg [ST,Ot]))] [] (c1 (show(AVle (.agg [Z5,Ot]) (.agg [ST,Ot])) from(AVle.agg (.cons D6 (.cons (AVle.refl _) .nil))))) (Sb (⟨[NT],[(6,.row 57 [ST,Ot])],[]⟩:St) (tS h (gK (e:=.ret) (Kp [] (show Le Γ _ (⟨[NT],[(6,.row 57 [kN,Ot])],[]⟩:St) from Le.trans (Db (st':=⟨[NT],[(6,.row 57 [ST,Ot])],[]⟩) [6] [6] q) (Jl (.cons (AVle.refl _) .nil) (.row (.cons AVle.untag (.cons (AVle.refl _) .nil)) .nil)))))))) λh=>tB h λx3 y3 h=>gR q Lt NP [(27,(.agg [ST,(Kf x3)]))] [⟨[],[],(Kf x3),[],[],[]⟩] (c2 (O9 y3) (show(AVle (.agg [Z5,(Kf x3)]) (.agg [ST,(Kf x3)])) from(AVle.agg (.cons D6 (.cons (AVle.refl _) .nil))))) (Mv (st':=(mA v35 v38 x3)) (Le.trans (Db (st':=(pE 48 v35.Terms v35.Off v38.Terms v38.Off ST x3)) Lt NP q) (Le.trans (Mh (r:=7) (j:=0) (nm:=5700) (sz':=2) (λi=>Ea (([]:List Ax).getD i default)) 134 rfl rfl (nl rfl) rfl (.inl ⟨rfl,rfl⟩) (λh_=>absurd h_ (by decide))) (Db (st':=(mA v35 v38 x3)) Lt Oo q))) (tL q h Lt Oo (λu (l4,l5,l6)=>(Fo u [] [(3,.row 57 (Z9 l4 v35.Off)),(4,.row 57 (Z9 l5 v38.Off)),(lk l6 x3),(5700,.tok 2 134 l6.length)])) (λu l7=>aG Γ (.exit 0) (W5 Qm NQ u [] [(lk l7 x3),(5700,.tok 2 134 l7.length)])) (λ⟨l4,l5,l6⟩ y h=>tU q fh Oo (XB ((mB l4)==false) (c1 (S3 (mB l4)))) (gC h (λh=>tB h λx8 y8 h=>tB h λx9 y9 h=>tT q KR Oo [(DH x8),(DH x9)] (c2 (Fl y8) (Fl y9)) (Am q KR Oo (tB h λx10 y10 h=>tT q fg Oo [(lj x10.1 x10.2)] (c1 (Gg y10)) (tB h λx11 y11 h=>tT q fa Oo [(lj x11.1 x11.2)] (c1 (Gg y11)) (tB h λx12 y12 h=>tT q fc Oo [⟨[],[],(Kf x12),[],[],[]⟩] (c1 (O9 y12)) (Am q fZ Oo (gC h (λh=>tC h λc13_ h=>gR q Lt Oo (oO (f9 x9 x8 x12) l6) [] (c5 (Bn 2 Ea (default:Ax) (f9 x9 x8 x12)) (Eq.refl l6.length) c13_ (Ng 2 5700 Ea (default:Ax) l6 (f9 x9 x8 x12)) (Gl l6 (f9 x9 x8 x12))) (tN h)) λh=>tS h (gN (Db Lt Oo q))))))))) λh=>tS h (gO (D1 (Db Qm NQ q))))) λx14 h=>gA (Am q [6] [6,5700] (tS h (Ck [])))))))
def Ip(a6:A1)(aS:A1):Option A1:=
 ((J7 a6 aS).bind λx1=>(some x1))
theorem Sc(h:Ip v35 v38=some v39):sP 26 [(Ol v35),(Ol v38)] [] (Ol v39) []:=
 sG Tryz.func26 λΓ q=>Am q AF AF (tB h λx1 y1 h=>tT q [4] [4] [(jb x1)] (c1 (Vc y1)) (tS h (Ck [])))
def Gn(a6:A1):Option Bool:=
 (some ((a6.Terms.length:Int)==0))
theorem J9(h:Gn v35=some v5):sP 100 [(Ol v35)] [] (.bool v5) []:=
 sG Tryz.func100 λΓ q=>tW q [1] [1] [2] [] (tS h (Ck []))
def Jb(aF:Int)(aaA:Int)(aa1:Int):Option Gy:=
 (some ((C1 (aF*aa1)),aa1))
variable{v19:Gy}
theorem Pa(h:Jb v1 v2 v20=some v19):sP 127 [(Kf v1),(Kf v2),Yt] [(WK v20)] (Kf v19.1) [(WK v19.2)]:=
 sG Tryz.func127 λΓ q=>tW q [0,2] [30000] [5] [30000] (tS h (Ck SC))
abbrev lW:=(List Ax×List Ax×List Ax×Int)
def Lo :lW->Option (LR (List Ax×List Ax×List Ax×Int) (List Ax×Int)):=
 λ((l4,l5,l6,i7):lW)=>(bif (bif (decide ((0:Int)<(l4.length:Int))) then true else(decide ((0:Int)<(l5.length:Int)))) then((Cx l4).bind λx10=>((Cx l5).bind λx11=>((Dc l4 (if x11<x10 then x11 else x10)).bind λx12=>((Dc l5 (if x11<x10 then x11 else x10)).bind λx13=>((Jb x12.1 x13.1 i7).bind λx14=>(bif (x14.1 !=0) then(Cd (l6.length+([(⟨(if x11<x10 then x11 else x10),x14.1⟩:Ax)]:List Ax).length<=room) (some (.next (x12.2,x13.2,(l6++([(⟨(if x11<x10 then x11 else x10),x14.1⟩:Ax)]:List Ax)),x14.2)))) else(some (.next (x12.2,x13.2,l6,x14.2))))))))) else(some (.done (l6,i7))))
def mD(l4:List Ax):=(decide ((0:Int)<(l4.length:Int)))
def SU:AV:=ga
def gB(x11:Int)(x10:Int)(x14:Gy):=([(⟨(if x11<x10 then x11 else x10),x14.1⟩:Ax)]:List Ax)
def mC(a6:A1)(a2:A1)(x3:Gy):=(⟨[(2,(.clo 127 [] [Yt])),(3,(.ptr 3 0)),YX,NT,(7,(.ptr 7 0))],[(3,.row 57 (Z9 a6.Terms a6.Off)),(4,.row 57 (Z9 a2.Terms a2.Off)),(6,.row 57 [Z5,Ot]),(7,.row 57 [(AV.list 2 Ea default ([]:List Ax) (.own 5700)),(Kf x3.1)]),(5700,.tok 2 134 (([]:List Ax).length)),(WK x3.2)],[]⟩:St)
abbrev lX:=(A1×Int)
def J8(a6:A1)(a2:A1)(aa1:Int):Option lX:=
 ((Fu a6).bind λx1=>((bif ((!x1)==false) then Fu a2 else some false).bind λx2=>(bif (bif (!x1) then true else(!x2)) then(some ((⟨([]:List Ax),(0:Int)⟩:A1),aa1)) else((Jb a6.Off a2.Off aa1).bind λx3=>((Ah (S:=lW) (X:=(List Ax×Int)) Lo (a6.Terms,a2.Terms,([]:List Ax),x3.2)).bind (λ(l8,i9)=>(some ((⟨l8,x3.1⟩:A1),i9))))))))
variable{v40:lX}
theorem Vd(h:J8 v35 v38 v1=some v40):sP 47 [(Ol v35),(Ol v38),(.clo 127 [] [Yt])] [(WK v1)] (Ol v40.1) [(WK v40.2)]:=
 sG Tryz.func47 λΓ q=>Am q [2,3,4,6] [3,4,6,30000] (tB h λx1 y1 h=>tB h λx2 y2 h=>tT q VW [3,4,6,30000] [(Z2 x1),(Z2 x2)] (c5 (Ic y1) (gI ((!x1)==false)) (λ(hg:((!x1)==false)=true)=>(Ic (Bz hg y2))) (gI ((!x1)==false)) (S3 (!x1))) (gC h (λh=>gR q [6] [6,30000] [(20,(.agg [SU,Ot]))] [] (c1 (show(AVle (.agg [Z5,Ot]) (.agg [SU,Ot])) from(AVle.agg (.cons D6 (.cons (AVle.refl _) .nil))))) (Sb (⟨[NT],[(6,.row 57 [SU,Ot]),(WK v1)],[]⟩:St) (tS h (gK (e:=.ret) (Kp SC (show Le Γ _ (⟨[NT],[(6,.row 57 [kN,Ot]),(WK v1)],[]⟩:St) from Le.trans (Db (st':=⟨[NT],[(6,.row 57 [SU,Ot]),(WK v1)],[]⟩) [6] [6,30000] q) (Jl (.cons (AVle.refl _) .nil) (.row (.cons AVle.untag (.cons (AVle.refl _) .nil)) (.same .nil))))))))) λh=>tB h λx3 y3 h=>gR q Lt [3,4,6,7,30000] [(27,(.agg [SU,(Kf x3.1)]))] [⟨SC,[],(Kf x3.1),[(WK x3.2)],[],[]⟩] (c2 (Pa y3) (show(AVle (.agg [Z5,(Kf x3.1)]) (.agg [SU,(Kf x3.1)])) from(AVle.agg (.cons D6 (.cons (AVle.refl _) .nil))))) (Mv (st':=(mC v35 v38 x3)) (Le.trans (Db (st':=⟨[(2,(.clo 127 [] [Yt])),(3,(.ptr 3 0)),YX,NT,(7,(.ptr 7 0))],[(3,.row 57 (Z9 v35.Terms v35.Off)),(4,.row 57 (Z9 v38.Terms v38.Off)),(6,.row 57 [Z5,Ot]),(7,.row 57 [SU,(Kf x3.1)]),(WK x3.2)],[]⟩) Lt [3,4,6,7,30000] q) (Le.trans (Mh (r:=7) (j:=0) (nm:=5700) (sz':=2) (λi=>Ea (([]:List Ax).getD i default)) 134 rfl rfl (nl rfl) rfl (.inl ⟨rfl,rfl⟩) (λh_=>absurd h_ (by decide))) (Db (st':=(mC v35 v38 x3)) Lt Ui q))) (tL q h Lt Ui (λu (l4,l5,l6,i7)=>(Fo u [] [(3,.row 57 (Z9 l4 v35.Off)),(4,.row 57 (Z9 l5 v38.Off)),(lk l6 x3.1),(5700,.tok 2 134 l6.length),(WK i7)])) (λu (l8,i9)=>aG Γ (.exit 0) (W5 Qm [6,7,5700,30000] u [] [(lk l8 x3.1),(5700,.tok 2 134 l8.length),(WK i9)])) (λ⟨l4,l5,l6,i7⟩ y h=>tU q fh Ui (XB ((mD l4)==false) (c1 (S3 (mD l4)))) (gC h (λh=>tB h λx10 y10 h=>tB h λx11 y11 h=>tT q KR Ui [(DH x10),(DH x11)] (c2 (Fl y10) (Fl y11)) (Am q KR Ui (tB h λx12 y12 h=>tT q fg Ui [(lj x12.1 x12.2)] (c1 (Gg y12)) (tB h λx13 y13 h=>tT q fa Ui [(lj x13.1 x13.2)] (c1 (Gg y13)) (tB h λx14 y14 h=>tT q fc Ui [⟨SC,[],(Kf x14.1),[(WK x14.2)],[],[]⟩] (c1 (Pa y14)) (Am q fZ Ui (gC h (λh=>tC h λc15_ h=>gR q Lt Ui (oO (gB x11 x10 x14) l6) [] (c5 (Bn 2 Ea (default:Ax) (gB x11 x10 x14)) (Eq.refl l6.length) c15_ (Ng 2 5700 Ea (default:Ax) l6 (gB x11 x10 x14)) (Gl l6 (gB x11 x10 x14))) (tN h)) λh=>tS h (gN (Db Lt Ui q))))))))) λh=>tS h (gO (D1 (Db Qm [6,7,5700,30000] q))))) λx16 h=>(match x16,h with|⟨l8,i9⟩,h=>gA (Am q [6] [6,5700,30000] (tS h (Ck SC))))))))
def Hb(a6:A1)(aK:Int):Option A1:=
 ((J8 a6 (⟨([]:List Ax),(0:Int)⟩:A1) aK).bind λx1=>(some x1.1))
theorem M3(h:Hb v35 v1=some v38):sP 101 [(Ol v35),(Kf v1)] [] (Ol v38) []:=
 sG Tryz.func101 λΓ q=>Am q AF AF (tB h λx1 y1 h=>gR q [4] [4] [(6,(.agg [ga,Ot]))] [⟨[(3,30000)],[],(Ol x1.1),[(WK x1.2)],[],[]⟩] (c2 (show(AVle (.agg [Z5,Ot]) (.agg [ga,Ot])) from(AVle.agg (.cons D6 (.cons (AVle.refl _) .nil)))) (Vd y1)) (tS h (Ck [])))
def gD:List AV:=[ga,Ot]
def Ju(aP:Int)(aF:A1)(aH:A1):Option (A1×Bool):=
 (bif (aP==1) then((L9 aF aH).bind λx1=>(some (x1,true))) else(bif (aP==2) then((Ip aF aH).bind λx2=>(some (x2,true))) else((bif ((aP==3)==true) then Gn aH else some false).bind λx3=>(bif (bif (aP==3) then x3 else false) then((Hb aF aH.Off).bind λx4=>(some (x4,true))) else((bif ((aP==3)==true) then Gn aF else some false).bind λx5=>(bif (bif (aP==3) then x5 else false) then((Hb aH aF.Off).bind λx6=>(some (x6,true))) else((bif ((aP==8)==true) then Gn aH else some false).bind λx7=>(bif (bif (bif (aP==8) then x7 else false) then(decide (aH.Off<64)) else false) then(Cd (0<=aH.Off) ((Hb aF (UZ .u64 (1:Int) aH.Off)).bind λx9=>(some (x9,true)))) else(some ((⟨([]:List Ax),(0:Int)⟩:A1),false))))))))))
variable{v41:(A1×Bool)}
theorem EU(h:Ju v1 v35 v38=some v41):sP 80 [(Z6 v1),(Ol v35),(Ol v38)] [] (.tuple [(Ol v41.1),(.bool v41.2)]) []:=
 sG Tryz.func80 λΓ q=>tW q [0,4,5,6] AG [0,4,5,6,8] AG (gC h (λh=>tB h λx1 y1 h=>tT q Qm [6] [(jb x1)] (c1 (ET y1)) (tS h (Ck []))) λh=>Am q [0,4,5,6,14] AG (gC h (λh=>tB h λx2 y2 h=>tT q Qm [6] [(jb x2)] (c1 (Sc y2)) (tS h (Ck []))) λh=>tB h λx3 y3 h=>tT q [0,4,5,6,20] AG [(Z2 x3)] (c3 (gI ((v1==3)==true)) (λ(hg:((v1==3)==true)=true)=>(J9 (Bz hg y3))) (Nt (v1==3))) (gC h (λh=>tB h λx4 y4 h=>tT q Qm [6] [(jb x4)] (c1 (M3 y4)) (tS h (Ck []))) λh=>tB h λx5 y5 h=>tT q [0,4,5,6,31] AG [(Z2 x5)] (c3 (gI ((v1==3)==true)) (λ(hg:((v1==3)==true)=true)=>(J9 (Bz hg y5))) (Nt (v1==3))) (gC h (λh=>tB h λx6 y6 h=>tT q Qm [6] [(jb x6)] (c1 (M3 y6)) (tS h (Ck []))) λh=>tB h λx7 y7 h=>tT q [4,5,6,42] AG [(Z2 x7)] (pH (gI ((v1==8)==true)) (λ(hg:((v1==8)==true)=true)=>(J9 (Bz hg y7))) (Nt (v1==8)) (Xn ((bif (v1==8) then x7 else false)==true) (c1 (Nt (bif (v1==8) then x7 else false))))) (gC h (λh=>tC h λc8_ h=>tB h λx9 y9 h=>tT q Qm [6] [(jb x9)] (c2 c8_ (M3 y9)) (tS h (Ck []))) λh=>gR q Qm [6] [(59,(.agg gD))] [] (c1 (show(AVle (.agg [Z5,Ot]) (.agg gD)) from(AVle.agg (.cons D6 (.cons (AVle.refl _) .nil))))) (Sb (⟨[NT,(7,(.bool false))],[(6,.row 57 gD)],[]⟩:St) (tS h (gK (e:=.ret) (Kp [] (show Le Γ _ (⟨[NT,(7,(.bool false))],[(6,.row 57 [kN,Ot])],[]⟩:St) from Le.trans (Db (st':=⟨[NT,(7,(.bool false))],[(6,.row 57 gD)],[]⟩) Qm [6] q) (Jl (.cons (AVle.refl _) (.cons (AVle.refl _) .nil)) (.row (.cons AVle.untag (.cons (AVle.refl _) .nil)) .nil))))))))))))
def LD:=(λ(v_:A1)=>((Ol v_):AV))
abbrev bW:=(List (Int×A1))
abbrev VO:=(A1×List (Int×A1))
abbrev fL:=(A1×Bool×List (Int×A1))
abbrev IA:=(Int×A1)
def B0(rec_affine_finder_form:Int->VN->bW->Option VO)(rec_affine_finder_sum:Int->VN->bW->Option fL)(a8:Int)(a0:List Zy)(a4:List IA):Option VO:=
 (bif (B6 a4 a8) then(some ((mget (default:A1) a4 a8),a4)) else((rec_affine_finder_sum a8 a0 a4).bind λx1=>(Option.bind (α:=(List Ax×Int)) (bif (bif (!x1.2.1) then true else(decide ((16:Int)<(x1.1.Terms.length:Int)))) then(some (([(⟨a8,(1:Int)⟩:Ax)]:List Ax),(0:Int))) else(some (x1.1.Terms,x1.1.Off))) (λ(l2,i3)=>(some ((⟨l2,i3⟩:A1),(Et x1.2.2 a8 (⟨l2,i3⟩:A1))))))))
def LE(a0:List Zy)(a8:Int):=(mget (default:Bl) a0 a8)
def YS:=(λ(v_:A1)=>((Ol v_):AV))
def OA(a0:List Zy):=(mapE (λ(v_:Bl)=>((S2 v_):AV)) a0)
def YR:AV:=ga
def mF(a0:List Zy)(a4:List IA):=(⟨[YX,(5,(.bool false))],[(4,.row 57 [YR,Ot]),SK,(bb 9100000 (OA a0)),(9100001,.obj (.map true .i64 (mapE YS a4)))],[]⟩:St)
def mE(a0:List Zy)(a8:Int)(a4:List IA):=(⟨[YX,(5,(.bool true))],[(4,.row 57 [YR,(.int .u64 (LE a0 a8).Imm)]),SK,(bb 9100000 (OA a0)),(9100001,.obj (.map true .i64 (mapE YS a4)))],[]⟩:St)
def Cm(rec_affine_finder_form:Int->VN->bW->Option VO)(rec_affine_finder_sum:Int->VN->bW->Option fL)(a8:Int)(a0:List Zy)(a4:List IA):Option fL:=
 (bif (!(B6 a0 a8)) then(some ((⟨([]:List Ax),(0:Int)⟩:A1),false,a4)) else(bif (((mget (default:Bl) a0 a8).Kind:Int)==0) then(some ((⟨([]:List Ax),(mget (default:Bl) a0 a8).Imm⟩:A1),true,a4)) else(Cd (Bv (0:Int) ((mget (default:Bl) a0 a8).Args).length) ((rec_affine_finder_form (((mget (default:Bl) a0 a8).Args).getD (0:Int).toNat (0:Int)) a0 a4).bind λx2=>(Cd (Bv (1:Int) ((mget (default:Bl) a0 a8).Args).length) ((rec_affine_finder_form (((mget (default:Bl) a0 a8).Args).getD (1:Int).toNat (0:Int)) a0 x2.2).bind λx4=>((Ju ((mget (default:Bl) a0 a8).Kind) x2.1 x4.1).bind λx5=>(some (x5.1,x5.2,x4.2)))))))))
mutual
def Bi:Nat->Int->VN->bW->Option VO
 | 0=>λ_=>λ_=>λ_=>none
 | n+1=>B0 (Bi n) (B7 n)
def B7:Nat->Int->VN->bW->Option fL
 | 0=>λ_=>λ_=>λ_=>none
 | n+1=>Cm (Bi n) (B7 n)
end
def Gm(a8:Int)(a0:List Zy)(a4:List IA):Option VO:=dL λn=>Bi n a8 a0 a4
theorem Rn(n:Nat):(∀(a8:Int) (a0:List Zy) (a4:List IA) (r:VO),Bi n a8 a0 a4=some r->sP 46 [Yt,(Z6 a8)] [SK,(9100000,.obj (.map true .i64 (mapE (λ(v_:Bl)=>((S2 v_):AV)) a0))),(9100001,.obj (.map true .i64 (mapE (λ(v_:A1)=>((Ol v_):AV)) a4)))] (Ol r.1) [SK,(9100000,.obj (.map true .i64 (mapE (λ(v_:Bl)=>((S2 v_):AV)) a0))),(9100001,.obj (.map true .i64 (mapE (λ(v_:A1)=>((Ol v_):AV)) r.2)))])/\(∀(a8:Int) (a0:List Zy) (a4:List IA) (r:fL),B7 n a8 a0 a4=some r->sP 66 [Yt,(Z6 a8)] [SK,(9100000,.obj (.map true .i64 (mapE (λ(v_:Bl)=>((S2 v_):AV)) a0))),(9100001,.obj (.map true .i64 (mapE (λ(v_:A1)=>((Ol v_):AV)) a4)))] (.tuple [(Ol r.1),(.bool r.2.1)]) [SK,(9100000,.obj (.map true .i64 (mapE (λ(v_:Bl)=>((S2 v_):AV)) a0))),(9100001,.obj (.map true .i64 (mapE (λ(v_:A1)=>((Ol v_):AV)) r.2.2)))]):=by
 induction n with
 | zero=>exact⟨(λa8 a0 a4 r h=>by cases h),(λa8 a0 a4 r h=>by cases h)⟩
 | succ n ih=>
  obtain⟨ih_affine_finder_form,ih_affine_finder_sum⟩:=ih;refine⟨?_,?_⟩
  ·intro a8 a0 a4 r h;refine Zt mix Tryz.func46 (λΓ hq=>?_);change B0 (Bi n) (B7 n) a8 a0 a4=some r at h;unfold B0 at h;refine Am hq [0,1,4] Yr ?_;refine gR hq [0,1,4,5,6] kE [(15,(.tuple [(.agg (TQ (mget (default:A1) a4 a8))),(.bool (B6 a4 a8))]))] [] (c1 (show(AVle (.tuple [mget (.agg [(.slice 0 0 (λ_=>[]) .none),Ot]) (mapE LD a4) a8,.bool (B6 (mapE LD a4) a8)]) (.tuple [(.agg (TQ (mget (default:A1) a4 a8))),(.bool (B6 a4 a8))])) from(Xy (f:=LD) (l:=a4) (AVle.agg (.cons WQ (.cons (AVle.refl _) .nil))) rfl))) ?_;refine Am hq [0,1,4,5,18] kE ?_;refine gC h ?_ ?_<;>intro h
   ·refine Am hq [4] Yr ?_;cases h;exact Ck RZ
   ·obtain⟨x1,hx1,h⟩:=bind_some h;refine gR hq [0,1,4,7,8] KM [] [⟨RZ,[],(.tuple [(Ol x1.1),(.bool x1.2.1)]),[SK,(9100000,.obj (.map true .i64 (mapE (λ(v_:Bl)=>((S2 v_):AV)) a0))),(9100001,.obj (.map true .i64 (mapE LD x1.2.2)))],[],[]⟩] (c1 (ih_affine_finder_sum a8 a0 a4 x1 hx1)) ?_;obtain⟨x4,hx4,h⟩:=bind_some h;refine gJ hx4 (λ(l2,i3)=>aG Γ .normal (⟨[(0,Yt),(1,(Z6 a8)),YX,(7,(.ptr 7 0))],[(4,.row 57 [Z5,Ot]),(7,.row 57 (Z9 l2 i3)),SK,(9100000,.obj (.map true .i64 (mapE (λ(v_:Bl)=>((S2 v_):AV)) a0))),(9100001,.obj (.map true .i64 (mapE LD x1.2.2)))],[]⟩:St)) ?_ ?_
    ·clear h hx4;intro y h;refine gR hq [0,1,4,7,33] KM [] [] (ci (gI ((!x1.2.1)==false)) (ci (gI ((!x1.2.1)==false)) (ci (gI ((!x1.2.1)==false)) (c1 (S3 (!x1.2.1)))))) ?_;refine gC h ?_ ?_<;>intro h
     ·refine gR hq [0,1,4,7] KM [(36,(AV.list 2 Ea default ([(⟨a8,(1:Int)⟩:Ax)]:List Ax) .exact))] [] (c1 (Bn 2 Ea (default:Ax) ([(⟨a8,(1:Int)⟩:Ax)]:List Ax))) ?_;cases h;exact gK (D1 (Le.trans (Db (st':=⟨[(0,Yt),(1,(Z6 a8)),YX,(7,(.ptr 7 0))],[(4,.row 57 [Z5,Ot]),(7,.row 57 [(AV.list 2 Ea default ([(⟨a8,(1:Int)⟩:Ax)]:List Ax) .exact),Ot]),SK,(9100000,.obj (.map true .i64 (mapE (λ(v_:Bl)=>((S2 v_):AV)) a0))),(9100001,.obj (.map true .i64 (mapE LD x1.2.2)))],[]⟩) [0,1,4,7] KM hq) (Jl (.cons (AVle.refl _) (.cons (AVle.refl _) (.cons (AVle.refl _) (.cons (AVle.refl _) .nil)))) (.same (.row (.cons AVle.untag (.cons (AVle.refl _) .nil)) (.same (.same (.same .nil))))))))
     ·cases h;exact gK (D1 (Db [0,1,4,7] KM hq))
    ·clear hx4;rcases x4 with⟨l2,i3⟩;refine gA ?_;refine Am hq [4,7] KM ?_;refine Mv (Th (λ(k_:List HZ) u=>Fo u [] [(bb 9100001 k_)]) (show(Et (mapE LD x1.2.2) a8 (.agg (Z9 l2 i3)))=(mapE LD (Et x1.2.2 a8 (⟨l2,i3⟩:A1))) from(Xz (f:=LD) (l:=x1.2.2) (v:=(⟨l2,i3⟩:A1)) rfl rfl))) ?_;refine Am hq [4] Yr ?_;cases h;exact Ck RZ
  ·intro a8 a0 a4 r h;refine Zt mix Tryz.func66 (λΓ hq=>?_);change Cm (Bi n) (B7 n) a8 a0 a4=some r at h;unfold Cm at h;refine Am hq [0,1,4] Yr ?_;refine gR hq [0,4,6,7] fX [(14,(.tuple [(S2 (LE a0 a8)),(.bool (B6 a0 a8))]))] [] (c1 (show(AVle (.tuple [mget (.agg [Ke,Ke,Ke,Ke,(.slice 0 0 (λ_=>[]) .none),Ot]) (OA a0) a8,.bool (B6 (OA a0) a8)]) (.tuple [(S2 (LE a0 a8)),(.bool (B6 a0 a8))])) from(Xy (f:=(λ(v_:Bl)=>((S2 v_):AV))) (l:=a0) (AVle.agg (.cons (AVle.refl _) (.cons (AVle.refl _) (.cons (AVle.refl _) (.cons (AVle.refl _) (.cons WQ (.cons (AVle.refl _) .nil))))))) rfl))) ?_;refine Am hq [0,4,6,17] fX ?_;refine gC h ?_ ?_<;>intro h
   ·refine gR hq So Yr [(20,(.agg [YR,Ot]))] [] (c1 (show(AVle (.agg [Z5,Ot]) (.agg [YR,Ot])) from(AVle.agg (.cons D6 (.cons (AVle.refl _) .nil))))) ?_;refine Sb (mF a0 a4) ?_;cases h;exact gK (e:=.ret) (Kp RZ (show Le Γ _ (⟨[YX,(5,(.bool false))],[(4,.row 57 [kN,Ot]),SK,(bb 9100000 (OA a0)),(9100001,.obj (.map true .i64 (mapE YS a4)))],[]⟩:St) from Le.trans (Db (st':=(mF a0 a4)) So Yr hq) (Jl (.cons (AVle.refl _) (.cons (AVle.refl _) .nil)) (.row (.cons AVle.untag (.cons (AVle.refl _) .nil)) (.same (.same (.same .nil)))))))
   ·refine Am hq [0,4,6,21] fX ?_;refine gC h ?_ ?_<;>intro h
    ·refine gR hq So Yr [(27,(.agg [YR,(.int .u64 (LE a0 a8).Imm)]))] [] (c1 (show(AVle (.agg [Z5,(.int .u64 (LE a0 a8).Imm)]) (.agg [YR,(.int .u64 (LE a0 a8).Imm)])) from(AVle.agg (.cons D6 (.cons (AVle.refl _) .nil))))) ?_;refine Sb (mE a0 a8 a4) ?_;cases h;exact gK (e:=.ret) (Kp RZ (show Le Γ _ (⟨[YX,(5,(.bool true))],[(4,.row 57 [kN,(.int .u64 (LE a0 a8).Imm)]),SK,(bb 9100000 (OA a0)),(9100001,.obj (.map true .i64 (mapE YS a4)))],[]⟩:St) from Le.trans (Db (st':=(mE a0 a8 a4)) So Yr hq) (Jl (.cons (AVle.refl _) (.cons (AVle.refl _) .nil)) (.row (.cons AVle.untag (.cons (AVle.refl _) .nil)) (.same (.same (.same .nil)))))))
    ·obtain⟨hc1,h⟩:=Ny h;obtain⟨x2,hx2,h⟩:=bind_some h;obtain⟨hc3,h⟩:=Ny h;obtain⟨x4,hx4,h⟩:=bind_some h;obtain⟨x5,hx5,h⟩:=bind_some h;refine gR hq So Yr [] [⟨RZ,[],(Ol x2.1),[SK,(bb 9100000 (OA a0)),(9100001,.obj (.map true .i64 (mapE YS x2.2)))],[],[]⟩,⟨RZ,[],(Ol x4.1),[SK,(bb 9100000 (OA a0)),(9100001,.obj (.map true .i64 (mapE YS x4.2)))],[],[]⟩,⟨[],[],(.tuple [(Ol x5.1),(.bool x5.2)]),[],[],[]⟩] (ci hc1 (ci (ih_affine_finder_form (((LE a0 a8).Args).getD (0:Int).toNat (0:Int)) a0 a4 x2 hx2) (ci hc3 (ci (ih_affine_finder_form (((LE a0 a8).Args).getD (1:Int).toNat (0:Int)) a0 x2.2 x4 hx4) (c1 (EU hx5)))))) ?_;cases h;exact Ck RZ
variable{v42:List IA}{v43:VO}
theorem Su(h:Gm v1 v34 v42=some v43):sP 46 [Yt,(Z6 v1)] [SK,(9100000,.obj (.map true .i64 (mapE (λ(v_:Bl)=>((S2 v_):AV)) v34))),(9100001,.obj (.map true .i64 (mapE (λ(v_:A1)=>((Ol v_):AV)) v42)))] (Ol v43.1) [SK,(9100000,.obj (.map true .i64 (mapE (λ(v_:Bl)=>((S2 v_):AV)) v34))),(9100001,.obj (.map true .i64 (mapE (λ(v_:A1)=>((Ol v_):AV)) v43.2)))]:=by
 obtain⟨n,hn⟩:=ZU h;exact(Rn n).1 v1 v34 v42 v43 hn
def gE:List AV:=[ga,Ot]
def Hm(a3:Aa)(a8:Int):Option lX:=
 ((Kw a3).bind λx1=>(bif (!((((mget ((0:Int),(0:Int)) x1 a8).1:Int)==64)&&((((mget ((0:Int),(0:Int)) x1 a8).2:Int)==1)&&true))) then(some ((⟨([]:List Ax),(0:Int)⟩:A1),(10:Int))) else((Ma a3).bind λx2=>((Gm a8 x2 ([]:List IA)).bind λx3=>(some (x3.1,(0:Int)))))))
theorem X2(h:Hm v0 v1=some v40):sP 25 [(SM v0),(Z6 v1)] [] (.tuple [(Ol v40.1),(Z6 v40.2)]) []:=
 sG Tryz.func25 λΓ q=>Am q [1,2,4] [2,4] (tB h λx1 y1 h=>gR q [1,2,4,12] [2,4] [(10,(.agg (Bx (mget ((0:Int),(0:Int)) x1 v1))))] [⟨[],[(20000,8)],(.omap 20000),[(20000,.obj (.pmap false .i64 (mapE (λ(v_:Gy)=>((DI v_):AV)) x1)))],[],[]⟩] (c2 (BZ y1) (show(AVle (mget (.agg [Ke,Ke]) (mapE (λ(v_:Gy)=>((DI v_):AV)) x1) v1) (.agg (Bx (mget ((0:Int),(0:Int)) x1 v1)))) from(CU (f:=(λ(v_:Gy)=>((DI v_):AV))) (l:=x1) (AVle.refl _) rfl))) (gC h (λh=>gR q So [4] [(13,(.agg gE))] [] (c1 (show(AVle (.agg [Z5,Ot]) (.agg gE)) from(AVle.agg (.cons D6 (.cons (AVle.refl _) .nil))))) (Sb (⟨[YX,(5,(HB 10))],[(4,.row 57 gE)],[]⟩:St) (tS h (gK (e:=.ret) (Kp [] (show Le Γ _ (⟨[YX,(5,(HB 10))],[(4,.row 57 [kN,Ot])],[]⟩:St) from Le.trans (Db (st':=⟨[YX,(5,(HB 10))],[(4,.row 57 gE)],[]⟩) So [4] q) (Jl (.cons (AVle.refl _) (.cons (AVle.refl _) .nil)) (.row (.cons AVle.untag (.cons (AVle.refl _) .nil)) .nil)))))))) λh=>tB h λx2 y2 h=>tT q [1,4,6] [4,6,15,16] [⟨[],[(20000,15)],(.omap 20000),[(20000,.obj (.map true .i64 (mapE (λ(v_:Bl)=>((S2 v_):AV)) x2)))],[],[]⟩] (c1 (EV y2)) (Mv (Th (λ(k_:List HZ) u=>Fo u [] [(bb 16 k_)]) (show[]=(mapE (λ(v_:A1)=>((Ol v_):AV)) ([]:List IA)) from rfl)) (tB h λx3 y3 h=>tT q So [4] [⟨[(6,30000),(15,9100000),(16,9100001)],[],(Ol x3.1),[SK,(9100000,.obj (.map true .i64 (mapE (λ(v_:Bl)=>((S2 v_):AV)) x2))),(9100001,.obj (.map true .i64 (mapE (λ(v_:A1)=>((Ol v_):AV)) x3.2)))],[],[]⟩] (c1 (Su y3)) (tS h (Ck []))))))
abbrev VP:=(Int×Bool)
def Ew(a3:Aa)(aA:Int)(aF:Int)(aH:Int):Option VP:=
 ((C4 a3 aA aF).bind λx1=>((D2 x1).bind λx2=>((Hm a3 x2).bind λx3=>(bif (x3.2 !=0) then(some ((0:Int),false)) else((C4 a3 aA aH).bind λx4=>((D2 x4).bind λx5=>((Hm a3 x5).bind λx6=>(bif (x6.2 !=0) then(some ((0:Int),false)) else((Ip x6.1 x3.1).bind λx7=>(bif (decide ((0:Int)<(x7.Terms.length:Int))) then(some ((0:Int),false)) else(some (x7.Off,true))))))))))))
variable{v44:VP}
theorem Ih(h:Ew v0 v1 v2 v20=some v44):sP 11 [(SM v0),(Z6 v1),(Z6 v2),(Z6 v20)] [] (.tuple [(Kf v44.1),(.bool v44.2)]) []:=
 sG Tryz.func11 λΓ q=>Am q NR [4] (tB h λx1 y1 h=>tB h λx2 y2 h=>tB h λx3 y3 h=>tT q [1,3,4,10,11] [4,10] [⟨[],[],(S2 x1),[],[],[]⟩,(DH x2),⟨[],[],(.tuple [(Ol x3.1),(Z6 x3.2)]),[],[],[]⟩] (c3 (Ka y1) (Jg y2) (X2 y3)) (Am q [1,3,4,10,25] [4,10] (gC h (λh=>Am q [8,9] [] (tS h (Ck []))) λh=>tB h λx4 y4 h=>tB h λx5 y5 h=>tB h λx6 y6 h=>tT q [10,11,12] [10,12] [⟨[],[],(S2 x4),[],[],[]⟩,(DH x5),⟨[],[],(.tuple [(Ol x6.1),(Z6 x6.2)]),[],[],[]⟩] (c3 (Ka y4) (Jg y5) (X2 y6)) (Am q [10,12,37] [10,12] (gC h (λh=>Am q [8,9] [] (tS h (Ck []))) λh=>tB h λx7 y7 h=>tT q [13] [13] [(jb x7)] (c1 (Sc y7)) (Am q [13,44] [13] (gC h (λh=>Am q [8,9] [] (tS h (Ck []))) λh=>Am q [8,9] [] (tS h (Ck [])))))))))
def O3(aa5:Int)(aa6:Int)(aaA:Int):Option Bool:=
 (some (aa5==aa6))
theorem Wp(h:O3 v1 v2 v20=some v5):sP 32 [(Kf v1),(Kf v2),(Kf v20)] [] (.bool v5) []:=
 sG Tryz.func32 λΓ q=>tW q G7 [] [6] [] (tS h (Ck []))
def Rf(a3:Aa)(aA:Int)(aF:Int)(aH:Int):Option Bool:=
 ((Ew a3 aA aF aH).bind λx1=>(bif (!x1.2) then(some false) else(Cd (Bv aA a3.Blocks.length) (Cd (Bv aF ((a3.Blocks.getD aA.toNat default).Ops).length) ((E7 (((a3.Blocks.getD aA.toNat default).Ops).getD aF.toNat default)).bind λx4=>(Cd (Bv aH ((a3.Blocks.getD aA.toNat default).Ops).length) ((E7 (((a3.Blocks.getD aA.toNat default).Ops).getD aH.toNat default)).bind λx6=>((O3 x1.1 (C1 x4) (C1 x6)).bind λx7=>(some x7)))))))))
theorem HJ(h:Rf v0 v1 v2 v20=some v5):sP 30 [(SM v0),(Z6 v1),(Z6 v2),(Z6 v20),(.clo 32 [] [])] [] (.bool v5) []:=
 sG Tryz.func30 λΓ q=>Am q [1,2,3,4,5] [5] (tB h λx1 y1 h=>tT q [1,2,3,4,5,11,12] [5] [(ng x1.1 x1.2)] (c1 (Ih y1)) (Am q [1,2,3,4,5,11,23] [5] (gC h (λh=>Am q [10] [] (tS h (Ck []))) λh=>tV q [2,3,4,11,13] [] h λh=>tC h λc3_ h=>tB h λx4 y4 h=>tC h λc5_ h=>tB h λx6 y6 h=>tB h λx7 y7 h=>tT q [10] [] [(DH x4),(DH x6),(Z2 x7)] (c5 c3_ (H4 y4) c5_ (H4 y6) (Wp y7)) (tS h (Ck [])))))
def Ge(a3:Aa)(aA:Int)(aF:Int)(aH:Int):Option Bool:=
 ((Rf a3 aA aF aH).bind λx1=>(some x1))
theorem L4(h:Ge v0 v1 v2 v20=some v5):sP 15 [(SM v0),(Z6 v1),(Z6 v2),(Z6 v20)] [] (.bool v5) []:=
 sG Tryz.func15 λΓ q=>Am q NR [4] (tB h λx1 y1 h=>tT q [8] [] [(Z2 x1)] (c1 (HJ y1)) (tS h (Ck [])))
def M1(aa5:Int)(aa6:Int)(aaD:Int):Option Bool:=
 (some (bif (decide (aa6<=aa5)) then(decide (aaD<=(C1 (0-aa5)))) else false))
theorem Zh(h:M1 v1 v2 v20=some v5):sP 31 [(Kf v1),(Kf v2),(Kf v20)] [] (.bool v5) []:=
 sG Tryz.func31 λΓ q=>Am q KW [] (tU q [6] [] (XB ((decide (v2<=v1))==true) (c1 (Nt (decide (v2<=v1))))) (tS h (Ck [])))
def M2(a3:Aa)(aA:Int)(aF:Int)(aH:Int):Option Bool:=
 ((Ew a3 aA aF aH).bind λx1=>(bif (!x1.2) then(some false) else(Cd (Bv aA a3.Blocks.length) (Cd (Bv aF ((a3.Blocks.getD aA.toNat default).Ops).length) ((E7 (((a3.Blocks.getD aA.toNat default).Ops).getD aF.toNat default)).bind λx4=>(Cd (Bv aH ((a3.Blocks.getD aA.toNat default).Ops).length) ((E7 (((a3.Blocks.getD aA.toNat default).Ops).getD aH.toNat default)).bind λx6=>((M1 x1.1 (C1 x4) (C1 x6)).bind λx7=>(some x7)))))))))
theorem Zi(h:M2 v0 v1 v2 v20=some v5):sP 30 [(SM v0),(Z6 v1),(Z6 v2),(Z6 v20),(.clo 31 [] [])] [] (.bool v5) []:=
 sG Tryz.func30 λΓ q=>Am q [1,2,3,4,5] [5] (tB h λx1 y1 h=>tT q [1,2,3,4,5,11,12] [5] [(ng x1.1 x1.2)] (c1 (Ih y1)) (Am q [1,2,3,4,5,11,23] [5] (gC h (λh=>Am q [10] [] (tS h (Ck []))) λh=>tV q [2,3,4,11,13] [] h λh=>tC h λc3_ h=>tB h λx4 y4 h=>tC h λc5_ h=>tB h λx6 y6 h=>tB h λx7 y7 h=>tT q [10] [] [(DH x4),(DH x6),(Z2 x7)] (c5 c3_ (H4 y4) c5_ (H4 y6) (Zh y7)) (tS h (Ck [])))))
def H9(a3:Aa)(aA:Int)(aF:Int)(aH:Int):Option Bool:=
 ((M2 a3 aA aF aH).bind λx1=>(some x1))
theorem N7(h:H9 v0 v1 v2 v20=some v5):sP 13 [(SM v0),(Z6 v1),(Z6 v2),(Z6 v20)] [] (.bool v5) []:=
 sG Tryz.func13 λΓ q=>Am q NR [4] (tB h λx1 y1 h=>tT q [8] [] [(Z2 x1)] (c1 (Zi y1)) (tS h (Ck [])))
def Hr(a3:Aa)(aA:Int):(Aq×Int)->Option (LR (Aq×Int) Aq):=
 λ((l3,i4):(Aq×Int))=>(bif (decide (i4<(((a3.Blocks.getD aA.toNat default).Ops).length:Int))) then(Option.bind (α:=Aq) (Cd (Bv i4 ((a3.Blocks.getD aA.toNat default).Ops).length) ((D2 (((a3.Blocks.getD aA.toNat default).Ops).getD i4.toNat default)).bind λx8=>(bif (x8 !=0) then(Cd (l3.length+([i4]:Aq).length<=room) (some (l3++([i4]:Aq)))) else(some l3)))) (λx10=>(some (.next (x10,(Ap (i4+1))))))) else(some (.done l3)))
def YU:AV:=OC
def nt(aA:Int):=((decide (aA<0))==false)
def YT(a3:Aa)(aA:Int):=(a3.Blocks.getD aA.toNat default)
def gG(aA:Int)(a3:Aa):=(bif (decide (aA<0)) then true else(decide ((a3.Blocks.length:Int)<=aA)))
def mG:=(Z36:St)
def mH(a3:Aa)(aA:Int):=(⟨[(5,(AV.list 1 As 0 ([]:Aq) (.own 5005))),(27,(AV.list 6 Js default (YT a3 aA).Ops .none)),(28,(.int .i64 (((YT a3 aA).Ops).length:Int))),(29,Ke)],[(5005,.tok 1 3 (([]:Aq).length))],[]⟩:St)
def Hz(a3:Aa)(aA:Int):Option Aq:=
 ((bif ((bif (decide (aA<0)) then true else(decide ((a3.Blocks.length:Int)<=aA)))==false) then H0 a3 else some false).bind λx1=>(bif (bif (bif (decide (aA<0)) then true else(decide ((a3.Blocks.length:Int)<=aA))) then true else(!x1)) then(some ([]:Aq)) else(Cd (Bv aA a3.Blocks.length) ((Ah (Hr a3 aA) (([]:Aq),(0:Int))).bind (λx12=>(some x12))))))
variable{v4:Aq}
theorem P9(h:Hz v0 v1=some v4):sP 17 [(SM v0),(Z6 v1)] [] (LJ v4 20000) [(20000,.tok 1 3 v4.length)]:=
 sG Tryz.func17 λΓ q=>gR q Wc [2] [(4,YU)] [] (c1 (Gj 1 As (0:Int))) (tB h λx1 y1 h=>tT q [1,2,21] [2] [(Z2 x1)] (iG (nt v1) (c5 (S3 (decide (v1<0))) (gI ((gG v1 v0)==false)) (λ(hg:((gG v1 v0)==false)=true)=>(Qa (Bz hg y1))) (gI ((gG v1 v0)==false)) (S3 (gG v1 v0)))) (gC h (λh=>gR q [4] [] [(4,YU)] [] (c1 (Gj 1 As (0:Int))) (Sb (⟨[(4,YU)],[],[]⟩:St) (tS h (gK (e:=.ret) (Kp VZ (show Le Γ _ mG from Le.trans (Db (st':=⟨[(4,YU)],[],[]⟩) [4] [] q) (Le.trans (EK (t:=4) (nm:=6004) (sz':=1) (λi=>As (([]:Aq).getD i 0)) 3 rfl rfl (.inl ⟨rfl,rfl⟩) (λh_=>absurd h_ (by decide))) (Db (st':=mG) [4] [6004] q)))))))) λh=>gR q GV [2] [(5,YU)] [] (c1 (Gj 1 As (0:Int))) (tV q GT [] h λh=>Mv (st':=(mH v0 v1)) (Le.trans (Db (st':=⟨[(5,YU),(27,(AV.list 6 Js default (YT v0 v1).Ops .none)),(28,(.int .i64 (((YT v0 v1).Ops).length:Int))),(29,Ke)],[],[]⟩) GT [] q) (Le.trans (EK (t:=5) (nm:=5005) (sz':=1) (λi=>As (([]:Aq).getD i 0)) 3 rfl rfl (.inl ⟨rfl,rfl⟩) (λh_=>absurd h_ (by decide))) (Db (st':=(mH v0 v1)) GT [5005] q))) (tL q h GT [5005] (λu (l3,i4)=>(Fo u [(5,(LJ l3 5005)),(29,(Z6 i4))] [(5005,.tok 1 3 l3.length)])) (λu l5=>aG Γ (.exit 0) (⟨[(5,(LJ l5 5005))],[(5005,.tok 1 3 l5.length)],[]⟩:St)) (λ⟨l3,i4⟩ y h=>Am q [5,27,28,29,30] [5005] (gC h (λh=>tB h λx10 y10 h=>gJ y10 (λl6=>aG Γ .normal (⟨[(5,(LJ l6 5005)),(27,(AV.list 6 Js default (YT v0 v1).Ops .none)),(28,(.int .i64 (((YT v0 v1).Ops).length:Int))),(29,(Z6 i4))],[(5005,.tok 1 3 l6.length)],[]⟩:St)) (λy h=>tV q [5,6,7,27,28,29] [7,5005] h λh=>tB h λx8 y8 h=>tT q [5,6,27,28,29,36] [5005] [(DH x8)] (c1 (Jg y8)) (gC h (λh=>tC h λc9_ h=>gR q GT [5005] [(39,(kO i4)),(40,(AV.list 1 As 0 (l3++([i4]:Aq)) (.own 5005)))] [] (c5 (Bn 1 As (0:Int) ([i4]:Aq)) (Eq.refl l3.length) c9_ (Ng 1 5005 As (0:Int) l3 ([i4]:Aq)) (Gl l3 ([i4]:Aq))) (tS h (gK (D1 Mw)))) λh=>tS h (gK (D1 (Db GT [5005] q))))) (gA (Am q GT [5005] (tN h)))) λh=>tS h (gO (D1 (Db [5] [5005] q))))) λx12 h=>gA (Am q [4] [5005] (tS h (Ck [(5005,20000)])))))))
def Bm(aF:Aq)(aH:Aq):Int->Option (LR Int (Unit ⊕ Bool)):=
 λ(i1:Int)=>(bif (decide (i1<(aF.length:Int))) then(Cd (Bv i1 aF.length) (Cd (Bv i1 aH.length) (bif ((aF.getD i1.toNat 0)!=(aH.getD i1.toNat 0)) then(some (.done (.inr false))) else(some (.next (Ap (i1+1))))))) else(some (.done (.inl ()))))
def S6(Γ:G0)(aF:Aq)(aH:Aq)(r:Bool):Exit->St->Prop:=fK Tryz.prog Γ Tryz.f16.results.toList [] (.bool r) []
def Gv(aF:Aq)(aH:Aq):Option Bool:=
 (bif ((aF.length:Int)!=(aH.length:Int)) then(some false) else((Ah (Bm aF aH) (0:Int)).bind (λx4=>(match x4 with|(.inl _)=>(some true)|(.inr r6)=>(some r6)))))
variable{v17:Aq}
theorem Sz(h:Gv v4 v17=some v5):sP 16 [(Z7 v4),(Z7 v17)] [] (.bool v5) []:=
 sG Tryz.func16 λΓ q=>tW q G7 [] BS [] (gC h (λh=>Am q [4] [] (tS h (Ck []))) λh=>Am q BT [] (tL q h BT [] (λu i1=>(Fo u [(5,(Z6 i1))] [])) (λu x_=>match x_ with|(.inl _)=>aG Γ (.exit 0) (⟨[],[],[]⟩:St)|(.inr r_)=>aR (S6 Γ v4 v17 r_)) (λi1 y h=>Am q [0,1,5,14] [] (gC h (λh=>tC h λc2_ h=>tC h λc3_ h=>tU q [0,1,5,25] [] (c2 c2_ c3_) (gC h (λh=>Am q [4] [] (tS h (gO (Sr (Kp [] (Le.refl _ _)))))) λh=>Am q BT [] (tN h))) λh=>tS h (gO (D1 (Db [] [] q))))) λx4 h=>(match x4,h with | .inl _,h=>gA (Am q [4] [] (tS h (Ck []))) | .inr r6,h=>Wj (λst' hk=>tS h (gK hk)))))
def Ba:List Bl:=([(⟨(0:Int),(64:Int),(1:Int),(2:Int),([]:Aq),(4:Int)⟩:Bl),(⟨(1:Int),(64:Int),(1:Int),(3:Int),([(1:Int),(2:Int)]:Aq),(0:Int)⟩:Bl),(⟨(16:Int),(32:Int),(1:Int),(4:Int),([(1:Int)]:Aq),(0:Int)⟩:Bl),(⟨(16:Int),(32:Int),(1:Int),(5:Int),([(3:Int)]:Aq),(0:Int)⟩:Bl)]:List Bl)
def GY:AV:=Ke
def gP:=([(64:Int)]:Aq)
def gM:=([(⟨([]:List E1),Ba,(⟨(0:Int),(5:Int),([]:Aq)⟩:Gh)⟩:Ag)]:List Ag)
def pN:=(⟨gP,(32:Int),gM⟩:Aa)
def SV:AV:=OC
def gQ:AV:=(AV.list 6 Js default Ba .exact)
def gV(x1:fJ):=(bif (bif x1.2.2 then(x1.1==3) else false) then(x1.2.1==4) else false)
def DG(x1:fJ)(x2:VP):=(bif (bif (gV x1) then x2.2 else false) then(x2.1==18446744073709551612) else false)
def GZ(x1:fJ)(x2:VP)(x3:Bool)(x4:Bool)(x5:Bool):=(bif (bif (bif (DG x1 x2) then x3 else false) then(!x4) else false) then x5 else false)
def m_locksteplaw18_awake :Option Bool:=
 ((Jz (⟨([(64:Int)]:Aq),(32:Int),([(⟨([]:List E1),Ba,(⟨(0:Int),(5:Int),([]:Aq)⟩:Gh)⟩:Ag)]:List Ag)⟩:Aa) (0:Int) (3:Int)).bind λx1=>((Ew (⟨([(64:Int)]:Aq),(32:Int),([(⟨([]:List E1),Ba,(⟨(0:Int),(5:Int),([]:Aq)⟩:Gh)⟩:Ag)]:List Ag)⟩:Aa) (0:Int) (3:Int) (2:Int)).bind λx2=>((bif ((bif (bif (bif (bif x1.2.2 then(x1.1==3) else false) then(x1.2.1==4) else false) then x2.2 else false) then(x2.1==18446744073709551612) else false)==true) then Ge (⟨([(64:Int)]:Aq),(32:Int),([(⟨([]:List E1),Ba,(⟨(0:Int),(5:Int),([]:Aq)⟩:Gh)⟩:Ag)]:List Ag)⟩:Aa) (0:Int) (2:Int) (3:Int) else some false).bind λx3=>((bif ((bif (bif (bif (bif (bif x1.2.2 then(x1.1==3) else false) then(x1.2.1==4) else false) then x2.2 else false) then(x2.1==18446744073709551612) else false) then x3 else false)==true) then Ge (⟨([(64:Int)]:Aq),(32:Int),([(⟨([]:List E1),Ba,(⟨(0:Int),(5:Int),([]:Aq)⟩:Gh)⟩:Ag)]:List Ag)⟩:Aa) (0:Int) (3:Int) (2:Int) else some false).bind λx4=>((bif ((bif (bif (bif (bif (bif (bif x1.2.2 then(x1.1==3) else false) then(x1.2.1==4) else false) then x2.2 else false) then(x2.1==18446744073709551612) else false) then x3 else false) then(!x4) else false)==true) then H9 (⟨([(64:Int)]:Aq),(32:Int),([(⟨([]:List E1),Ba,(⟨(0:Int),(5:Int),([]:Aq)⟩:Gh)⟩:Ag)]:List Ag)⟩:Aa) (0:Int) (3:Int) (2:Int) else some false).bind λx5=>((bif ((bif (bif (bif (bif (bif (bif (bif x1.2.2 then(x1.1==3) else false) then(x1.2.1==4) else false) then x2.2 else false) then(x2.1==18446744073709551612) else false) then x3 else false) then(!x4) else false) then x5 else false)==true) then H9 (⟨([(64:Int)]:Aq),(32:Int),([(⟨([]:List E1),Ba,(⟨(0:Int),(5:Int),([]:Aq)⟩:Gh)⟩:Ag)]:List Ag)⟩:Aa) (0:Int) (2:Int) (2:Int) else some false).bind λx6=>((bif ((bif (bif (bif (bif (bif (bif (bif (bif x1.2.2 then(x1.1==3) else false) then(x1.2.1==4) else false) then x2.2 else false) then(x2.1==18446744073709551612) else false) then x3 else false) then(!x4) else false) then x5 else false) then(!x6) else false)==true) then Hz (⟨([(64:Int)]:Aq),(32:Int),([(⟨([]:List E1),Ba,(⟨(0:Int),(5:Int),([]:Aq)⟩:Gh)⟩:Ag)]:List Ag)⟩:Aa) (0:Int) else some []).bind λx7=>((bif ((bif (bif (bif (bif (bif (bif (bif (bif x1.2.2 then(x1.1==3) else false) then(x1.2.1==4) else false) then x2.2 else false) then(x2.1==18446744073709551612) else false) then x3 else false) then(!x4) else false) then x5 else false) then(!x6) else false)==true) then Gv x7 ([(2:Int),(3:Int)]:Aq) else some false).bind λx8=>(some (bif (bif (bif (bif (bif (bif (bif (bif (bif x1.2.2 then(x1.1==3) else false) then(x1.2.1==4) else false) then x2.2 else false) then(x2.1==18446744073709551612) else false) then x3 else false) then(!x4) else false) then x5 else false) then(!x6) else false) then x8 else false))))))))))
theorem Rr  (r:Bool) (h:m_locksteplaw18_awake=some r):sP 7 [] [] (.bool r) []:=
 sG Tryz.func7 λΓ q=>Am q [] [] (gR q [1] [1] [(7,(AV.list 1 As 0 gP .exact)),(8,(.agg [GY,(HB 64),gb,ge,SV,(.int .u64 (4:Int))])),(9,(AV.list 1 As 0 ([(1:Int),(2:Int)]:Aq) .exact)),(11,(AV.list 1 As 0 ([(1:Int)]:Aq) .exact)),(13,(AV.list 1 As 0 ([(3:Int)]:Aq) .exact)),(15,gQ),(16,(.agg [GY,fp,SV])),(17,(.agg [(AV.list 4 Xg default ([]:List E1) .exact),gQ,GY,fp,SV])),(18,(AV.list 5 F6 default gM .exact))] [] (c9 (Bn 1 As (0:Int) gP) (show(AVle (.agg [GY,(HB 64),gb,ge,Z5,(.int .u64 (4:Int))]) (.agg [GY,(HB 64),gb,ge,SV,(.int .u64 (4:Int))])) from(AVle.agg (.cons (AVle.refl _) (.cons (AVle.refl _) (.cons (AVle.refl _) (.cons (AVle.refl _) (.cons D6 (.cons (AVle.refl _) .nil)))))))) (Bn 1 As (0:Int) ([(1:Int),(2:Int)]:Aq)) (Bn 1 As (0:Int) ([(1:Int)]:Aq)) (Bn 1 As (0:Int) ([(3:Int)]:Aq)) (Bn 6 Js (default:Bl) Ba) (show(AVle (.agg [GY,fp,Z5]) (.agg [GY,fp,SV])) from(AVle.agg (.cons (AVle.refl _) (.cons (AVle.refl _) (.cons D6 .nil))))) (show(AVle (.agg [Z5,gQ,GY,fp,SV]) (.agg [(AV.list 4 Xg default ([]:List E1) .exact),gQ,GY,fp,SV])) from(AVle.agg (.cons D6 (.cons (AVle.refl _) (.cons (AVle.refl _) (.cons (AVle.refl _) (.cons (AVle.refl _) .nil))))))) (Bn 5 F6 (default:Ag) gM)) (tB h λx1 y1 h=>tT q NR [1] [⟨[],[],(.tuple [(Z6 x1.1),(Z6 x1.2.1),(.bool x1.2.2)]),[],[],[]⟩] (c1 (Zg y1)) (tB h λx2 y2 h=>tT q [1,2,3,4,5,6] [1] [(ng x2.1 x2.2)] (c1 (Ih y2)) (tB h λx3 y3 h=>tB h λx4 y4 h=>tB h λx5 y5 h=>tB h λx6 y6 h=>tB h λx7 y7 h=>tB h λx8 y8 h=>gR q [0] [] [(68,(AV.list 1 As 0 ([(2:Int),(3:Int)]:Aq) .exact))] [(Z2 x3),(Z2 x4),(Z2 x5),(Z2 x6),⟨[],[],(Z7 x7),[],[],[]⟩,(Z2 x8)] (nk (gI (x1.2.2==true)) (Nt x1.2.2) (gI ((bif x1.2.2 then(x1.1==3) else false)==true)) (Nt (bif x1.2.2 then(x1.1==3) else false)) (Nt (gV x1)) (gI ((bif (gV x1) then x2.2 else false)==true)) (Nt (bif (gV x1) then x2.2 else false)) (gI ((DG x1 x2)==true)) (λ(hg:((DG x1 x2)==true)=true)=>(L4 (Bz hg y3))) (nk (Nt (DG x1 x2)) (gI ((bif (DG x1 x2) then x3 else false)==true)) (λ(hg:((bif (DG x1 x2) then x3 else false)==true)=true)=>(L4 (Bz hg y4))) (gI ((bif (DG x1 x2) then x3 else false)==true)) (Nt (bif (DG x1 x2) then x3 else false)) (gI ((bif (bif (DG x1 x2) then x3 else false) then(!x4) else false)==true)) (λ(hg:((bif (bif (DG x1 x2) then x3 else false) then(!x4) else false)==true)=true)=>(N7 (Bz hg y5))) (Nt (bif (bif (DG x1 x2) then x3 else false) then(!x4) else false)) (gI ((GZ x1 x2 x3 x4 x5)==true)) (pS (λ(hg:((GZ x1 x2 x3 x4 x5)==true)=true)=>(N7 (Bz hg y6))) (gI ((GZ x1 x2 x3 x4 x5)==true)) (Nt (GZ x1 x2 x3 x4 x5)) (gI ((bif (GZ x1 x2 x3 x4 x5) then(!x6) else false)==true)) (show(((bif (GZ x1 x2 x3 x4 x5) then(!x6) else false)==true)=true->(sP 17 [(.agg [(Z7 gP),(HB 32),(LI gM)]),GY] [] (Z7 x7) [])) from(λhg=>(Spec.drop (P9 (Bz hg y7))))) (show(((bif (GZ x1 x2 x3 x4 x5) then(!x6) else false)==true)=true->(AVle (.slice 1 2 (λi=>([[ge],[(.int .i64 (3:Int))]]:List (List AV)).getD i []) .exact) (AV.list 1 As 0 ([(2:Int),(3:Int)]:Aq) .exact))) from(λhg=>@(Bn 1 As (0:Int) ([(2:Int),(3:Int)]:Aq)))) (Xn ((bif (GZ x1 x2 x3 x4 x5) then(!x6) else false)==true) (c2 (λ(hg:((bif (GZ x1 x2 x3 x4 x5) then(!x6) else false)==true)=true)=>(Sz (Bz hg y8))) (Nt (bif (GZ x1 x2 x3 x4 x5) then(!x6) else false))))))) (tS h (Ck []))))))
open Go Go.RowKit
set_option maxRecDepth 100000
set_option maxHeartbeats 2000000
def Ca(a3:Aa)(i2:Int):Gy->Option nH:=
 λ((i5,i6):Gy)=>(Cd (Bv i2 a3.Blocks.length) (bif (bif (decide (i6<(((a3.Blocks.getD i2.toNat default).Phis).length:Int))) then(decide (i5<=20000)) else false) then(Cd (Bv i2 a3.Blocks.length) (Cd (Bv i6 ((a3.Blocks.getD i2.toNat default).Phis).length) (Cd (Bv i2 a3.Blocks.length) (Cd (Bv i6 ((a3.Blocks.getD i2.toNat default).Phis).length) (some (.next ((Ap ((Ap ((Ap (i5+1))+(((((a3.Blocks.getD i2.toNat default).Phis).getD i6.toNat default).From).length:Int)))+(((((a3.Blocks.getD i2.toNat default).Phis).getD i6.toNat default).Args).length:Int))),(Ap (i6+1))))))))) else(some (.done i5))))
def Cb(a3:Aa)(i2:Int):Gy->Option nH:=
 λ((i15,i16):Gy)=>(Cd (Bv i2 a3.Blocks.length) (bif (bif (decide (i16<(((a3.Blocks.getD i2.toNat default).Ops).length:Int))) then(decide (i15<=20000)) else false) then(Cd (Bv i2 a3.Blocks.length) (Cd (Bv i16 ((a3.Blocks.getD i2.toNat default).Ops).length) (some (.next ((Ap ((Ap (i15+1))+(((((a3.Blocks.getD i2.toNat default).Ops).getD i16.toNat default).Args).length:Int))),(Ap (i16+1))))))) else(some (.done i15))))
def Bw(a3:Aa):Gy->Option nH:=
 λ((i1,i2):Gy)=>(bif (bif (decide (i2<(a3.Blocks.length:Int))) then(decide (i1<=20000)) else false) then(Cd (Bv i2 a3.Blocks.length) ((Ah (Ca a3 i2) ((Ap ((Ap (i1+1))+(((a3.Blocks.getD i2.toNat default).End.To).length:Int))),(0:Int))).bind (λx13=>((Ah (Cb a3 i2) (x13,(0:Int))).bind (λx21=>(some (.next (x21,(Ap (i2+1)))))))))) else(some (.done i1)))
def Dw(a3:Aa):Option Bool:=
 ((Ah (Bw a3) ((a3.Params.length:Int),(0:Int))).bind (λx23=>(some (decide (x23<=20000)))))
def Bq(aK:Int)(a2:Int)(aN:Int):(List Bl×Int×Int)->Option (LR (List Bl×Int×Int) (List Bl×Int)):=
 λ((l3,i4,i5):(List Bl×Int×Int))=>(bif (decide (i5<(Ap ((1:Int)+(Int.tmod (Ap aK) (16:Int)))))) then(Cd (l3.length+([(⟨(0:Int),(64:Int),(1:Int),(Ap ((2:Int)+(Ap ((3:Int)*i5)))),([]:Aq),(C1 (aN+(C1 (Ap (Int.tdiv (Ap (i5*(([(8:Int),(16:Int),(32:Int),(64:Int)]:Aq).getD (Int.tmod (Ap a2) (4:Int)).toNat (0:Int)))) (8:Int))))))⟩:Bl)]:List Bl).length<=room) (Cd ((l3++([(⟨(0:Int),(64:Int),(1:Int),(Ap ((2:Int)+(Ap ((3:Int)*i5)))),([]:Aq),(C1 (aN+(C1 (Ap (Int.tdiv (Ap (i5*(([(8:Int),(16:Int),(32:Int),(64:Int)]:Aq).getD (Int.tmod (Ap a2) (4:Int)).toNat (0:Int)))) (8:Int))))))⟩:Bl)]:List Bl)).length+([(⟨(1:Int),(64:Int),(1:Int),(Ap ((3:Int)+(Ap ((3:Int)*i5)))),([(1:Int),(Ap ((2:Int)+(Ap ((3:Int)*i5))))]:Aq),(0:Int)⟩:Bl)]:List Bl).length<=room) (Cd (((l3++([(⟨(0:Int),(64:Int),(1:Int),(Ap ((2:Int)+(Ap ((3:Int)*i5)))),([]:Aq),(C1 (aN+(C1 (Ap (Int.tdiv (Ap (i5*(([(8:Int),(16:Int),(32:Int),(64:Int)]:Aq).getD (Int.tmod (Ap a2) (4:Int)).toNat (0:Int)))) (8:Int))))))⟩:Bl)]:List Bl))++([(⟨(1:Int),(64:Int),(1:Int),(Ap ((3:Int)+(Ap ((3:Int)*i5)))),([(1:Int),(Ap ((2:Int)+(Ap ((3:Int)*i5))))]:Aq),(0:Int)⟩:Bl)]:List Bl)).length+([(⟨(16:Int),(([(8:Int),(16:Int),(32:Int),(64:Int)]:Aq).getD (Int.tmod (Ap a2) (4:Int)).toNat (0:Int)),(1:Int),(Ap ((4:Int)+(Ap ((3:Int)*i5)))),([(Ap ((3:Int)+(Ap ((3:Int)*i5))))]:Aq),(0:Int)⟩:Bl)]:List Bl).length<=room) (some (.next ((((l3++([(⟨(0:Int),(64:Int),(1:Int),(Ap ((2:Int)+(Ap ((3:Int)*i5)))),([]:Aq),(C1 (aN+(C1 (Ap (Int.tdiv (Ap (i5*(([(8:Int),(16:Int),(32:Int),(64:Int)]:Aq).getD (Int.tmod (Ap a2) (4:Int)).toNat (0:Int)))) (8:Int))))))⟩:Bl)]:List Bl))++([(⟨(1:Int),(64:Int),(1:Int),(Ap ((3:Int)+(Ap ((3:Int)*i5)))),([(1:Int),(Ap ((2:Int)+(Ap ((3:Int)*i5))))]:Aq),(0:Int)⟩:Bl)]:List Bl))++([(⟨(16:Int),(([(8:Int),(16:Int),(32:Int),(64:Int)]:Aq).getD (Int.tmod (Ap a2) (4:Int)).toNat (0:Int)),(1:Int),(Ap ((4:Int)+(Ap ((3:Int)*i5)))),([(Ap ((3:Int)+(Ap ((3:Int)*i5))))]:Aq),(0:Int)⟩:Bl)]:List Bl)),(Ap ((4:Int)+(Ap ((3:Int)*i5)))),(Ap (i5+1)))))))) else(some (.done (l3,i4))))
def Br(aK:Int)(a2:Int)(l6:List Bl)(i7:Int)(x13:Aq)(i14:Int):Int->Option (LR Int (Unit ⊕ Bool)):=
 λ(i15:Int)=>(bif (decide (i15<(Ap ((1:Int)+(Int.tmod (Ap aK) (16:Int)))))) then(Cd (Bv i14 x13.length) (Cd (Bv i15 x13.length) ((Ew (⟨([(64:Int)]:Aq),(([(8:Int),(16:Int),(32:Int),(64:Int)]:Aq).getD (Int.tmod (Ap a2) (4:Int)).toNat (0:Int)),([(⟨([]:List E1),l6,(⟨(0:Int),i7,([]:Aq)⟩:Gh)⟩:Ag)]:List Ag)⟩:Aa) (0:Int) (x13.getD i14.toNat 0) (x13.getD i15.toNat 0)).bind λx18=>(Cd (((bif (!x18.2) then true else(x18.1 !=(C1 (Ap (Int.tdiv (Ap ((Ap (i15-i14))*(([(8:Int),(16:Int),(32:Int),(64:Int)]:Aq).getD (Int.tmod (Ap a2) (4:Int)).toNat (0:Int)))) (8:Int))))))==false)=true->(Bv i14 x13.length)) (Cd (((bif (!x18.2) then true else(x18.1 !=(C1 (Ap (Int.tdiv (Ap ((Ap (i15-i14))*(([(8:Int),(16:Int),(32:Int),(64:Int)]:Aq).getD (Int.tmod (Ap a2) (4:Int)).toNat (0:Int)))) (8:Int))))))==false)=true->(Bv i15 x13.length)) ((bif ((bif (!x18.2) then true else(x18.1 !=(C1 (Ap (Int.tdiv (Ap ((Ap (i15-i14))*(([(8:Int),(16:Int),(32:Int),(64:Int)]:Aq).getD (Int.tmod (Ap a2) (4:Int)).toNat (0:Int)))) (8:Int))))))==false) then Ge (⟨([(64:Int)]:Aq),(([(8:Int),(16:Int),(32:Int),(64:Int)]:Aq).getD (Int.tmod (Ap a2) (4:Int)).toNat (0:Int)),([(⟨([]:List E1),l6,(⟨(0:Int),i7,([]:Aq)⟩:Gh)⟩:Ag)]:List Ag)⟩:Aa) (0:Int) (x13.getD i14.toNat 0) (x13.getD i15.toNat 0) else some false).bind λx21=>(Cd (((bif (bif (!x18.2) then true else(x18.1 !=(C1 (Ap (Int.tdiv (Ap ((Ap (i15-i14))*(([(8:Int),(16:Int),(32:Int),(64:Int)]:Aq).getD (Int.tmod (Ap a2) (4:Int)).toNat (0:Int)))) (8:Int)))))) then true else(x21 !=(i15==(Ap (i14+1)))))==false)=true->(Bv i14 x13.length)) (Cd (((bif (bif (!x18.2) then true else(x18.1 !=(C1 (Ap (Int.tdiv (Ap ((Ap (i15-i14))*(([(8:Int),(16:Int),(32:Int),(64:Int)]:Aq).getD (Int.tmod (Ap a2) (4:Int)).toNat (0:Int)))) (8:Int)))))) then true else(x21 !=(i15==(Ap (i14+1)))))==false)=true->(Bv i15 x13.length)) ((bif ((bif (bif (!x18.2) then true else(x18.1 !=(C1 (Ap (Int.tdiv (Ap ((Ap (i15-i14))*(([(8:Int),(16:Int),(32:Int),(64:Int)]:Aq).getD (Int.tmod (Ap a2) (4:Int)).toNat (0:Int)))) (8:Int)))))) then true else(x21 !=(i15==(Ap (i14+1)))))==false) then H9 (⟨([(64:Int)]:Aq),(([(8:Int),(16:Int),(32:Int),(64:Int)]:Aq).getD (Int.tmod (Ap a2) (4:Int)).toNat (0:Int)),([(⟨([]:List E1),l6,(⟨(0:Int),i7,([]:Aq)⟩:Gh)⟩:Ag)]:List Ag)⟩:Aa) (0:Int) (x13.getD i14.toNat 0) (x13.getD i15.toNat 0) else some false).bind λx24=>(bif (bif (bif (bif (!x18.2) then true else(x18.1 !=(C1 (Ap (Int.tdiv (Ap ((Ap (i15-i14))*(([(8:Int),(16:Int),(32:Int),(64:Int)]:Aq).getD (Int.tmod (Ap a2) (4:Int)).toNat (0:Int)))) (8:Int)))))) then true else(x21 !=(i15==(Ap (i14+1))))) then true else(x24 !=(i14 !=i15))) then(some (.done (.inr false))) else(some (.next (Ap (i15+1)))))))))))))) else(some (.done (.inl ()))))
def Bs(aK:Int)(a2:Int)(l6:List Bl)(i7:Int)(x13:Aq):Int->Option (LR Int (Unit ⊕ Bool)):=
 λ(i14:Int)=>(bif (decide (i14<(Ap ((1:Int)+(Int.tmod (Ap aK) (16:Int)))))) then((Ah (Br aK a2 l6 i7 x13 i14) (0:Int)).bind (λx25=>(match x25 with|(.inl _)=>(some (.next (Ap (i14+1))))|(.inr r27)=>(some (.done (.inr r27)))))) else(some (.done (.inl ()))))
def Jp(Γ:G0)(aK:Int)(a2:Int)(aN:Int)(r:Bool):Exit->St->Prop:=fK Tryz.prog Γ Tryz.f4.results.toList [] (.bool r) []
def HA:=([(8:Int),(16:Int),(32:Int),(64:Int)]:Aq)
def gX(x18:VP)(i15:Int)(i14:Int)(a2:Int):=(bif (!x18.2) then true else(x18.1 !=(C1 (Ap (Int.tdiv (Ap ((Ap (i15-i14))*(List.getD HA (Int.tmod (Ap a2) (4:Int)).toNat (0:Int)))) (8:Int))))))
def bs(x18:VP)(i15:Int)(i14:Int)(a2:Int):=((gX x18 i15 i14 a2)==false)
def mJ(x21:Bool)(i15:Int)(i14:Int):=(x21 !=(i15==(Ap (i14+1))))
def br(x18:VP)(i15:Int)(i14:Int)(a2:Int)(x21:Bool):=((bif (gX x18 i15 i14 a2) then true else(mJ x21 i15 i14))==false)
def LF(i5:Int):=([(⟨(1:Int),(64:Int),(1:Int),(Ap ((3:Int)+(Ap ((3:Int)*i5)))),([(1:Int),(Ap ((2:Int)+(Ap ((3:Int)*i5))))]:Aq),(0:Int)⟩:Bl)]:List Bl)
def mM(l6:List Bl)(i7:Int):AV:=(.agg [(AV.list 4 Xg default ([]:List E1) .exact),(AV.list 6 Js default l6 (.own 5009)),Ke,(Z6 i7),OC])
def pP(a2:Int)(l6:List Bl)(i7:Int):=(⟨([(64:Int)]:Aq),(List.getD HA (Int.tmod (Ap a2) (4:Int)).toNat (0:Int)),([(⟨([]:List E1),l6,(⟨(0:Int),i7,([]:Aq)⟩:Gh)⟩:Ag)]:List Ag)⟩:Aa)
def bq(a2:Int)(i5:Int):=([(⟨(16:Int),(List.getD HA (Int.tmod (Ap a2) (4:Int)).toNat (0:Int)),(1:Int),(Ap ((4:Int)+(Ap ((3:Int)*i5)))),([(Ap ((3:Int)+(Ap ((3:Int)*i5))))]:Aq),(0:Int)⟩:Bl)]:List Bl)
def Yv(i5:Int)(aN:Int)(a2:Int):=([(⟨(0:Int),(64:Int),(1:Int),(Ap ((2:Int)+(Ap ((3:Int)*i5)))),([]:Aq),(C1 (aN+(C1 (Ap (Int.tdiv (Ap (i5*(List.getD HA (Int.tmod (Ap a2) (4:Int)).toNat (0:Int)))) (8:Int))))))⟩:Bl)]:List Bl)
def mL(i5:Int)(aN:Int)(a2:Int):AV:=(.agg [Ke,(HB 64),gb,(.int .i64 (Ap ((2:Int)+(Ap ((3:Int)*i5))))),OC,(pF aN i5 HA a2)])
def mK(aN:Int)(aK:Int)(a2:Int):=(⟨[(2,(Kf aN)),(7,(.int .i64 (Ap ((1:Int)+(Int.tmod (Ap aK) (16:Int)))))),(8,(.int .i64 (List.getD HA (Int.tmod (Ap a2) (4:Int)).toNat (0:Int)))),(9,(AV.list 6 Js default ([]:List Bl) (.own 5009))),(10,Ke),(11,Ke)],[(5009,.tok 6 46 (([]:List Bl).length))],[]⟩:St)
def G4(aK:Int)(a2:Int)(aN:Int):Option Bool:=
 (m_locksteplaw18_awake.bind λx1=>(bif (!x1) then(some false) else(Cd (Bv (Int.tmod (Ap a2) (4:Int)) ([(8:Int),(16:Int),(32:Int),(64:Int)]:Aq).length) ((Ah (Bq aK a2 aN) (([]:List Bl),(0:Int),(0:Int))).bind (λx11=>(match x11 with|(l6,i7)=>((Hz (⟨([(64:Int)]:Aq),(([(8:Int),(16:Int),(32:Int),(64:Int)]:Aq).getD (Int.tmod (Ap a2) (4:Int)).toNat (0:Int)),([(⟨([]:List E1),l6,(⟨(0:Int),i7,([]:Aq)⟩:Gh)⟩:Ag)]:List Ag)⟩:Aa) (0:Int)).bind λx13=>(bif ((x13.length:Int)!=(Ap ((1:Int)+(Int.tmod (Ap aK) (16:Int))))) then(some false) else((Ah (Bs aK a2 l6 i7 x13) (0:Int)).bind (λx28=>(match x28 with|(.inl _)=>(some true)|(.inr r30)=>(some r30))))))))))))
theorem ok_locksteplaw18_AliasRow(aK:Int)(a2:Int)(aN:Int)(r:Bool)(h:G4 aK a2 aN=some r):sP 4 [(.int .u8 aK),(.int .u8 a2),(Kf aN)] [] (.bool r) []:=
 sG Tryz.func4 λΓ q=>Am q KW [] (tB h λx1 y1 h=>tT q [0,1,2,19] [] [(Z2 x1)] (c1 (Rr  x1 y1)) (gC h (λh=>Am q [6] [] (tS h (Ck []))) λh=>tU q [1,2,7] [] (c1 (show((16:Int)≠0) from(by decide))) (tC h λc2_ h=>gR q [2,7,8] [] [(24,(AV.list 1 As 0 HA .exact))] [] (c3 (Bn 1 As (0:Int) HA) (show((4:Int)≠0) from(by decide)) c2_) (gR q [2,7,8,9] [] [(9,(AV.list 6 Js default ([]:List Bl) .exact))] [] (c1 (Gj 6 Js (default:Bl))) (tW q [2,7,8,9,10] [] KP [] (Mv (st':=(mK aN aK a2)) (Le.trans (Db (st':=⟨[(2,(Kf aN)),(7,(.int .i64 (Ap ((1:Int)+(Int.tmod (Ap aK) (16:Int)))))),(8,(.int .i64 (List.getD HA (Int.tmod (Ap a2) (4:Int)).toNat (0:Int)))),(9,(AV.list 6 Js default ([]:List Bl) .exact)),(10,Ke),(11,Ke)],[],[]⟩) KP [] q) (Le.trans (EK (t:=9) (nm:=5009) (sz':=6) (λi=>Js (([]:List Bl).getD i default)) 46 rfl rfl (.inl ⟨rfl,rfl⟩) (λh_=>absurd h_ (by decide))) (Db (st':=(mK aN aK a2)) KP [5009] q))) (tL q h KP [5009] (λu (l3,i4,i5)=>(Fo u [(9,(AV.list 6 Js default l3 (.own 5009))),(10,(Z6 i4)),(11,(Z6 i5))] [(5009,.tok 6 46 l3.length)])) (λu (l6,i7)=>aG Γ (.exit 0) (W5 [7,8,9,10] [5009] u [(9,(AV.list 6 Js default l6 (.own 5009))),(10,(Z6 i7))] [(5009,.tok 6 46 l6.length)])) (λ⟨l3,i4,i5⟩ y h=>Am q [2,7,8,9,10,11,32] [5009] (gC h (λh=>tC h λc8_ h=>gR q VX [5009] [(46,(mL i5 aN a2)),(47,(AV.list 6 Js default (Yv i5 aN a2) .exact)),(48,(AV.list 6 Js default (l3++(Yv i5 aN a2)) (.own 5009)))] [] (c7 (show((8:Int)≠0) from(by decide)) (show(AVle (.agg [Ke,(HB 64),gb,(.int .i64 (Ap ((2:Int)+(Ap ((3:Int)*i5))))),Z5,(pF aN i5 HA a2)]) (mL i5 aN a2)) from(AVle.agg (.cons (AVle.refl _) (.cons (AVle.refl _) (.cons (AVle.refl _) (.cons (AVle.refl _) (.cons D6 (.cons (AVle.refl _) .nil)))))))) (Bn 6 Js (default:Bl) (Yv i5 aN a2)) (Eq.refl l3.length) c8_ (Ng 6 5009 Js (default:Bl) l3 (Yv i5 aN a2)) (Gl l3 (Yv i5 aN a2))) (tC h λc9_ h=>gR q VX [5009] [(56,(AV.list 1 As 0 ([(1:Int),(Ap ((2:Int)+(Ap ((3:Int)*i5))))]:Aq) .exact)),(58,(AV.list 6 Js default (LF i5) .exact)),(59,(AV.list 6 Js default ((l3++(Yv i5 aN a2))++(LF i5)) (.own 5009)))] [] (c6 (Bn 1 As (0:Int) ([(1:Int),(Ap ((2:Int)+(Ap ((3:Int)*i5))))]:Aq)) (Bn 6 Js (default:Bl) (LF i5)) (Eq.refl ((l3++(Yv i5 aN a2)).length)) c9_ (Ng 6 5009 Js (default:Bl) (l3++(Yv i5 aN a2)) (LF i5)) (Gl (l3++(Yv i5 aN a2)) (LF i5))) (tC h λc10_ h=>gR q VX [5009] [(68,(AV.list 1 As 0 ([(Ap ((3:Int)+(Ap ((3:Int)*i5))))]:Aq) .exact)),(70,(AV.list 6 Js default (bq a2 i5) .exact)),(71,(AV.list 6 Js default (((l3++(Yv i5 aN a2))++(LF i5))++(bq a2 i5)) (.own 5009)))] [] (c6 (Bn 1 As (0:Int) ([(Ap ((3:Int)+(Ap ((3:Int)*i5))))]:Aq)) (Bn 6 Js (default:Bl) (bq a2 i5)) (Eq.refl (((l3++(Yv i5 aN a2))++(LF i5)).length)) c10_ (Ng 6 5009 Js (default:Bl) ((l3++(Yv i5 aN a2))++(LF i5)) (bq a2 i5)) (Gl ((l3++(Yv i5 aN a2))++(LF i5)) (bq a2 i5))) (tW q KP [5009] KP [5009] (tN h))))) λh=>tS h (gO (D1 (Db [7,8,9,10] [5009] q))))) λx11 h=>(match x11,h with|⟨l6,i7⟩,h=>gA (gR q [7,8,12] [12] [(75,(AV.list 1 As 0 ([(64:Int)]:Aq) .exact)),(79,(.agg [Ke,(Z6 i7),OC])),(80,(mM l6 i7)),(81,(AV.list 5 F6 default ([(⟨([]:List E1),l6,(⟨(0:Int),i7,([]:Aq)⟩:Gh)⟩:Ag)]:List Ag) .exact))] [] (c4 (Bn 1 As (0:Int) ([(64:Int)]:Aq)) (show(AVle (.agg [Ke,(Z6 i7),Z5]) (.agg [Ke,(Z6 i7),OC])) from(AVle.agg (.cons (AVle.refl _) (.cons (AVle.refl _) (.cons D6 .nil))))) (show(AVle (.agg [Z5,(AV.list 6 Js default l6 (.own 5009)),Ke,(Z6 i7),OC]) (mM l6 i7)) from(AVle.agg (.cons D6 (.cons (AVle.refl _) (.cons (AVle.refl _) (.cons (AVle.refl _) (.cons (AVle.refl _) .nil))))))) (Bn 5 F6 (default:Ag) ([(⟨([]:List E1),l6,(⟨(0:Int),i7,([]:Aq)⟩:Gh)⟩:Ag)]:List Ag))) (tB h λx13 y13 h=>tT q [7,8,12,13] Pk [(oR 84 x13 x13.length)] (c1 (P9 y13)) (Am q [7,8,12,13,88] Pk (gC h (λh=>Am q [6] [] (tS h (Ck []))) λh=>Am q SA Pk (tL q h SA Pk (λu i14=>(Fo u [(14,(Z6 i14))] [])) (λu x_=>match x_ with|(.inl _)=>aG Γ (.exit 2) (⟨[],[],[]⟩:St)|(.inr r_)=>aR (Jp Γ aK a2 aN r_)) (λi14 y h=>Am q [7,8,12,13,14,91] Pk (gC h (λh=>Am q fe Pk (tL q h fe Pk (λu i15=>(Fo u [(15,(Z6 i15))] [])) (λu x_=>match x_ with|(.inl _)=>aG Γ (.exit 4) (W5 SA Pk u [] [])|(.inr r_)=>aR (Jp Γ aK a2 aN r_)) (λi15 y h=>Am q [7,8,12,13,14,15,96] Pk (gC h (λh=>tC h λc16_ h=>tC h λc17_ h=>tB h λx18 y18 h=>tT q [7,8,12,13,14,15,16,17] Pk [(ng x18.1 x18.2)] (c3 c16_ c17_ (Ih y18)) (tC h λc19_ h=>tC h λc20_ h=>tB h λx21 y21 h=>tC h λc22_ h=>tC h λc23_ h=>tB h λx24 y24 h=>tT q [7,8,12,13,14,15,157] Pk [(Z2 x21),(Z2 x24)] (kx ((!x18.2)==false) (ci (show(((!x18.2)==false)=true->((8:Int)≠0)) from(λhg=>(by decide))) (XB ((!x18.2)==false) (ci (S3 (!x18.2)) (Xn (bs x18 i15 i14 a2) (ci c19_ (XB (bs x18 i15 i14 a2) (ci c20_ (iG (bs x18 i15 i14 a2) (ci (λ(hg:(bs x18 i15 i14 a2)=true)=>(L4 (Bz hg y21))) (kx (bs x18 i15 i14 a2) (ci (S3 (gX x18 i15 i14 a2)) (Xn (br x18 i15 i14 a2 x21) (ci c22_ (XB (br x18 i15 i14 a2 x21) (ci c23_ (iG (br x18 i15 i14 a2 x21) (ci (λ(hg:(br x18 i15 i14 a2 x21)=true)=>(N7 (Bz hg y24))) (iG (br x18 i15 i14 a2 x21) (c1 (S3 (bif (gX x18 i15 i14 a2) then true else(mJ x21 i15 i14))))))))))))))))))))))) (gC h (λh=>Am q [6] [] (tS h (gO (Sr (Kp [] (Le.refl _ _)))))) λh=>Am q fe Pk (tN h)))) λh=>tS h (gO (D1 (Db SA Pk q))))) λx25 h=>(match x25,h with | .inl _,h=>gA (Am q SA Pk (tN h)) | .inr r27,h=>Wj (λst' hk=>tS h (gO (Sr hk)))))) λh=>tS h (gO (D1 (Db [] [] q))))) λx28 h=>(match x28,h with | .inl _,h=>gA (Am q [6] [] (tS h (Ck []))) | .inr r30,h=>Wj (λst' hk=>tS h (gK hk))))))))))))))))
theorem wf_u64{n:Int}(h:(Lit.int .u64 n).wf=true):0<=n/\n<18446744073709551616:=by simp[Lit.wf,IntKind.min,IntKind.max,IntKind.bits,IntKind.signed]at h;omega
theorem wf_u8{n:Int}(h:(Lit.int .u8 n).wf=true):0<=n/\n<256:=by simp[Lit.wf,IntKind.min,IntKind.max,IntKind.bits,IntKind.signed]at h;omega
abbrev Iall(w:World):Nat->Nat->Prop:=λb o=>∃ u,w.cell? ⟨b,o,none⟩=some u
structure kG(w:World)(cs:List Value)(avs:List AV):Prop where
 len:cs.length=avs.length
 one:∀ j,j<avs.length->(cs.getD j undef).oneCell'=true
 rep:∀ j,j<avs.length->RepV (Iall w) w (cs.getD j undef) (avs.getD j .any)
structure WH(P:Program)(t:TypeId){α:Type}(e:α->List AV)(ok:α->Prop):Prop where
 get:∀{H:Type} {enc:TypeId×Value->H} {w:World} {base:Nat} {spare:Nat->Bool} {held:Bool} {fuel:Nat} {cs:List Value} {x:DataW H×List MemPlace},
  DataW.trod enc P w base spare held fuel t cs=some x->∃ a,ok a/\kG w cs (e a)
theorem cx{w:World}{v:Value}{x:AV}(h1:v.oneCell'=true)(h:RepV (Iall w) w v x):kG w [v] [x]:=
 ⟨rfl,λj hj=>(by
   have hj0:j=0:=by simpa using hj
   subst hj0
   exact h1),λj hj=>(by
   have hj0:j=0:=by simpa using hj
   subst hj0
   exact h)⟩
theorem JO{P:Program}{t:TypeId}{k:IntKind}{e:Int->List AV}(ht:P.underlying t=some (.int k))(he:∀ n,e n=[.int k n]):WH P t e (λn=>(Lit.int k n).wf=true):=by
 refine⟨?_⟩;intro H enc w base spare held fuel cs x h;obtain⟨n,rfl,rfl,hw⟩:=DataW.trod_int ht h;exact⟨n,hw,by rw[he];exact cx rfl (.int _ _)⟩
structure nq(P:Program)(fs:List Field)(off N:Nat){α:Type}(e:α->List AV)(ok:α->Prop):Prop where
 get:∀{H:Type} {enc:TypeId×Value->H} {w:World} {base:Nat} {spare:Nat->Bool} {held:Bool} {n:Nat} {cs:List Value},cs.length=N->
  (∀ f∈fs,∃ x,DataW.trod enc P w base spare held n f.type ((cs.drop f.offset).take (P.cellsOf f.type))=some x)->∃ a,ok a/\kG w (cs.drop off) (e a)
theorem arg_one{P:Program}{t:TypeId}{α:Type}{e:α->List AV}{ok:α->Prop}(h:WH P t e ok){x:α->AV}(he:∀ a,e a=[x a]){H:Type}{enc:TypeId×Value->H}{w:World}{base:Nat}{spare:Nat->Bool}{held:Bool}{v:Value}{d:DataW H}{ps:List MemPlace}
  (hv:v.cells = #[v]) (hd:DataW.Trod enc P w base spare held t v d ps):∃ a,ok a/\RepV (Iall w) w v (x a):=by
 obtain⟨fuel,hf⟩:=hd;obtain⟨a,ha,hr⟩:=h.get hf;refine⟨a,ha,?_⟩;have:=hr.rep 0 (by simp[he])
 simpa [hv,he] using this
def pV(x:Int):List AV:=[(.int .u8 x)]
def okU64(n:Int):Prop:=(Lit.int .u64 n).wf=true
theorem op_32:WH Tryz.prog 32 oU okU64:=JO Tryz.underlying32 (λ_=>rfl)
def okU8(n:Int):Prop:=(Lit.int .u8 n).wf=true
theorem op_5:WH Tryz.prog 5 pV okU8:=JO Tryz.underlying5 (λ_=>rfl)
theorem B1{n:Int}(h:-9223372036854775808<=n)(h':n<9223372036854775808):Ap n=n:=by
 show IntKind.i64.wrap n=n
 simp only[IntKind.wrap,IntKind.bits,IntKind.signed]
 simp
 split<;>omega
theorem U7{n:Int}(h:0<=n)(h':n<18446744073709551616):C1 n=n:=by
 show IntKind.u64.wrap n=n
 simp[IntKind.wrap,IntKind.bits,IntKind.signed];omega
theorem Lg(n:Int):C1 n=n % 18446744073709551616:=by
 show IntKind.u64.wrap n=_
 simp[IntKind.wrap,IntKind.bits,IntKind.signed]
theorem Au{R:Type}{p:Prop}[Decidable p]{k:Option R}(h:p):Cd p k=k:=if_pos h
theorem dH{x:Int}(j:Nat):x.fdiv (2 ^ j)=x / 2 ^ j:=by rw[Int.fdiv_eq_ediv_of_nonneg _ (by exact Int.le_of_lt (Int.pow_pos (by decide)))]
theorem Ab{α:Type}(l:List α)(i:Nat)(d:α)(h:i<l.length):l.getD i d=l[i]:=by simp[List.getD,h]
theorem kinds(k:Int):k=0\/k=1\/k=2\/k=3\/k=4\/k=5\/k=6\/k=7\/k=8\/k=9\/k=10\/k=11\/k=12\/k=13\/k=14\/k=15\/k=16\/k=17\/k=18\/k=19\/k=20\/k=21\/k=22\/(k<0\/22<k):=by omega
theorem eI{k:Int}(h:k<0\/22<k):(k==0)=false/\(k==1)=false/\(k==2)=false/\(k==3)=false/\(k==4)=false/\(k==5)=false/\(k==6)=false/\(k==7)=false/\(k==8)=false/\(k==9)=false/\(k==10)=false/\(k==11)=false/\(k==12)=false /\
  (k==13)=false/\(k==14)=false/\(k==15)=false/\(k==16)=false/\(k==17)=false/\(k==18)=false/\(k==19)=false/\(k==20)=false/\(k==21)=false/\(k==22)=false:=by
 simp only[zzL25,ne_eq];omega
def Dr(b:Int):Bool:=b==1 || b==8 || b==16 || b==32 || b==64
def Va(b n:Int):Bool:=Dr b&&(n==1 || ((n==2 || n==4 || n==8 || n==16)&&decide (8<=b)&&decide (b*n<=128)))
theorem width_cases{b:Int}(h:Dr b=true):b=1\/b=8\/b=16\/b=32\/b=64:=by simp[Dr]at h;omega
theorem shape_width{b n:Int}(h:Va b n=true):Dr b=true:=by simp[Va]at h;exact h.1
theorem Mo{b n:Int}(h:Va b n=true):n=1\/n=2\/n=4\/n=8\/n=16:=by simp[Va]at h;omega
theorem Qi(b:Int):G5 b=some (Dr b):=by
 unfold G5 Dr
 by_cases h1:b=1
 ·subst h1;rfl
 by_cases h2:b=8
 ·subst h2;rfl
 by_cases h3:b=16
 ·subst h3;rfl
 by_cases h4:b=32
 ·subst h4;rfl
 by_cases h5:b=64
 ·subst h5;rfl
 have e1:(b==1)=false:=by simpa using h1
 have e2:(b==8)=false:=by simpa using h2
 have e3:(b==16)=false:=by simpa using h3
 have e4:(b==32)=false:=by simpa using h4
 have e5:(b==64)=false:=by simpa using h5
 simp[e1,e2,e3,e4,e5]
theorem TZ(b n:Int):Nk b n=some (Va b n):=by
 unfold Nk;simp only[Qi,Ar]
 by_cases hn:n=1\/n=2\/n=4\/n=8\/n=16
 ·cases hw:Dr b with
  | false=>rcases hn with rfl|rfl|rfl|rfl|rfl<;>simp[Va,hw]
  | true=>
   rcases width_cases hw with rfl|rfl|rfl|rfl|rfl<;>rcases hn with rfl|rfl|rfl|rfl|rfl<;>rfl
 ·have e1:(n==1)=false:=by simp;omega
  have e2:(n==2)=false:=by simp;omega
  have e3:(n==4)=false:=by simp;omega
  have e4:(n==8)=false:=by simp;omega
  have e5:(n==16)=false:=by simp;omega
  simp[Va,e1,e2,e3,e4,e5]
theorem fB{v b:Int}(hv:0<=v/\v<18446744073709551616)(hb:Dr b=true):Rj v b=some (v % 2 ^ b.toNat):=by
 unfold Rj;simp only[Qi,hb,Ar,Fi,Az]
 have key:∀ j:Nat,j<64->Yf .u64 (UZ .u64 v (j:Int)) (j:Int)=(v*2 ^ j % 18446744073709551616) / 2 ^ j:=λj hj=>by
  simp only[Yf,UZ,Do,IntKind.bits];rw[Nat.min_eq_left (by omega),dH,show IntKind.u64.wrap (v*2 ^ j)=v*2 ^ j % 18446744073709551616 from Lg _]
 rcases width_cases hb with rfl|rfl|rfl|rfl|rfl
 ·have:=key 63 (by decide);simp only[show Ap (64-1)=((63:Nat):Int) from rfl,this];rw[Au (by decide),Au (by decide)];congr 1;simp only[show((1:Int).toNat)=1 from rfl];omega
 ·have:=key 56 (by decide);simp only[show Ap (64-8)=((56:Nat):Int) from rfl,this];rw[Au (by decide),Au (by decide)];congr 1;simp only[show((8:Int).toNat)=8 from rfl];omega
 ·have:=key 48 (by decide);simp only[show Ap (64-16)=((48:Nat):Int) from rfl,this];rw[Au (by decide),Au (by decide)];congr 1;simp only[show((16:Int).toNat)=16 from rfl];omega
 ·have:=key 32 (by decide);simp only[show Ap (64-32)=((32:Nat):Int) from rfl,this];rw[Au (by decide),Au (by decide)];congr 1;simp only[show((32:Int).toNat)=32 from rfl];omega
 ·have:=key 0 (by decide);simp only[show Ap (64-64)=((0:Nat):Int) from rfl,this];rw[Au (by decide),Au (by decide)];congr 1;simp only[show((64:Int).toNat)=64 from rfl];omega
theorem MG{i:Int}(h:0<=i/\i<18446744073709551616):Iw i=some (Dr i):=by
 unfold Iw
 by_cases hi:i<=64
 ·have:Ap i=i:=B1 (by omega) (by omega);simp[hi,this,Qi]
 ·have:Dr i=false:=by simp[Dr];omega
  simp[hi,this]
def dY(k:Int):Bool:=decide (0<=k)&&decide (k<=22)
def Lp(k n:Int):Int:=
 bif k==0 then 0 else bif k==13 || k==18 || k==19 then 3 else bif k==14 || k==15 || k==16 || k==22 then 1 else bif k==20 then 4 else bif k==21 then n else 2
def Ye(k b n:Int):Bool:=
 bif k==16 || k==17 then decide (8<=b) else bif k==18 || k==19 then decide (8<=b)&&n==1 else
 bif k==4 || k==10 || k==11 || k==12 || k==14 || k==15 || k==20 then n==1 else bif k==21 || k==22 then decide (1<n) else true
def ifitS(k b n i:Int):Bool:=
 bif k==0 then i % 2 ^ b.toNat==i else bif k==14 then Dr i&&decide (i<b) else bif k==15 then Dr i&&decide (b<i) else bif k==22 then decide (i<n) else i==0
def valS(v:Int):Bool:=decide (1<=v)&&decide (v<=1023)
def dstS(k d:Int):Bool:=bif k==17 || k==19 then d==0 else valS d
def Hx(o:Bl):Bool:=Va o.Bits o.Lanes&&(dY o.Kind&&Ye o.Kind o.Bits o.Lanes&&ifitS o.Kind o.Bits o.Lanes o.Imm&&((o.Args.length:Int)==Lp o.Kind o.Lanes))&&(o.Args.all valS&&dstS o.Kind o.Dst)
def Xi(o:Bl)(i:Nat):Int×Int:=
 bif o.Kind==13 || o.Kind==20 then(bif Nat.beq i 0 then(1,1) else(o.Bits,o.Lanes)) else bif o.Kind==14 || o.Kind==15 then(Ap o.Imm,1) else
 bif o.Kind==16 || o.Kind==17 then(bif Nat.beq i 0 then(64,1) else(o.Bits,o.Lanes)) else
 bif o.Kind==18 || o.Kind==19 then(bif Nat.beq i 1 then(64,1) else bif Nat.beq i 0 then(1,1) else(o.Bits,o.Lanes)) else bif o.Kind==21 then(o.Bits,1) else(o.Bits,o.Lanes)
def L7(o:Bl):List (Int×Int):=(List.range (Lp o.Kind o.Lanes).toNat).map (Xi o)
def Mz(k b n:Int):Int×Int:=bif k==17 || k==19 then(0,0) else bif k==10 || k==11 || k==12 then(1,1) else bif k==22 then(b,1) else(b,n)
theorem iM{k:Int}(h:k<0\/22<k):dY k=false:=by simp[dY];omega
theorem PI(k:Int):Md k=some (dY k):=by unfold Md dY;cases decide ((0:Int)<=k)<;>rfl
theorem Rb(v:Int):Iv v=some (valS v):=by unfold Iv valS;cases decide ((1:Int)<=v)<;>rfl
theorem EH(o:Bl):Jd o=some (Ye o.Kind o.Bits o.Lanes):=by
 obtain⟨k,b,n,d,args,i⟩:=o;rcases kinds k with rfl|rfl|rfl|rfl|rfl|rfl|rfl|rfl|rfl|rfl|rfl|rfl|rfl|rfl|rfl|rfl|rfl|rfl|rfl|rfl|rfl|rfl|rfl|h
 any_goals rfl
 ·show some (bif decide (8<=b) then n==1 else false)=some (decide (8<=b)&&n==1);cases decide (8<=b)<;>rfl
 ·show some (bif decide (8<=b) then n==1 else false)=some (decide (8<=b)&&n==1);cases decide (8<=b)<;>rfl
 ·unfold Jd Ye;simp[eI h]
theorem EG(o:Bl):K4 o=some (Mz o.Kind o.Bits o.Lanes):=by
 obtain⟨k,b,n,d,args,i⟩:=o;rcases kinds k with rfl|rfl|rfl|rfl|rfl|rfl|rfl|rfl|rfl|rfl|rfl|rfl|rfl|rfl|rfl|rfl|rfl|rfl|rfl|rfl|rfl|rfl|rfl|h
 any_goals rfl
 unfold K4 Mz;simp[eI h]
theorem MF(o:Bl)(hw:Dr o.Bits=true)(hn:0<=o.Lanes/\o.Lanes<=16)(hi:0<=o.Imm/\o.Imm<18446744073709551616):K5 o=some (ifitS o.Kind o.Bits o.Lanes o.Imm):=by
 unfold K5 ifitS
 have hb:C1 o.Bits=o.Bits:=by apply U7<;>(rcases width_cases hw with h|h|h|h|h<;>omega)
 have hl:C1 o.Lanes=o.Lanes:=by apply U7<;>omega
 rw[fB hi hw,MG hi,hb,hl]
 cases(o.Kind==0)<;>cases(o.Kind==14)<;>cases(o.Kind==15)<;>cases(o.Kind==22)<;>cases Dr o.Imm<;>rfl
set_option maxHeartbeats 2000000 in
theorem Tj{α X:Type}(l:List α)(d:α)(p:α->Bool)(f:Int->Option (LR Int X))(yes no:X)(hn:∀ i:Nat,i<l.length->p (l.getD i d)=true->f i=some (.next ((i:Int)+1)))
  (hf:∀ i:Nat,i<l.length->p (l.getD i d)=false->f i=some (.done no)) (he:f l.length=some (.done yes)):∀(k i:Nat),i+k=l.length->Ah f i=some (bif (l.drop i).all p then yes else no)
 | 0,i,h=>by
  obtain rfl:i=l.length:=by omega
  rw[Ai he]
  simp
 | k+1,i,h=>by
  have hi:i<l.length:=by omega
  have hd:l.drop i=l.getD i d::l.drop (i+1):=by rw[Pg hi,Ab _ _ _ hi]
  cases hp:p (l.getD i d) with
  | true=>
   rw[Ao (hn i hi hp)];have:=Tj l d p f yes no hn hf he k (i+1) (by omega);rw[show((i:Int)+1)=((i+1:Nat):Int) by omega,this,hd,Pi,hp,Hn]
  | false=>
   rw[Ai (hf i hi hp),hd,Pi,hp,Ud,Az]
theorem Xr{α:Type}(l:List α)(d:α)(wt:α->Nat)(C:Nat)(f:Int×Int->Option (LR (Int×Int) Int))
  (hn:∀(n i:Nat),i<l.length->n<=C->∃ m:Nat,f ((n:Int),(i:Int))=some (.next ((m:Int),((i+1:Nat):Int)))/\(n+wt (l.getD i d)<=C->m=n+wt (l.getD i d))/\(m<=C->n+wt (l.getD i d)<=C))
  (hd:∀(n i:Nat),i<=l.length->(i=l.length\/C<n)->f ((n:Int),(i:Int))=some (.done (n:Int))) :
  ∀(k i n:Nat),i+k=l.length->∃ m:Nat,Ah f ((n:Int),(i:Int))=some (m:Int)/\(n+((l.drop i).map wt).sum<=C->m=n+((l.drop i).map wt).sum)/\(m<=C->n+((l.drop i).map wt).sum<=C)
 | 0,i,n,h=>by
  obtain rfl:i=l.length:=by omega
  refine⟨n,Ai (hd n _ (zzL7 _) (.inl rfl)),?_,?_⟩
  ·simp
  ·simp
 | k+1,i,n,h=>by
  have hi:i<l.length:=by omega
  have hdr:l.drop i=l.getD i d::l.drop (i+1):=by rw[Pg hi,Ab _ _ _ hi]
  by_cases hC:n<=C
  ·obtain⟨m,h1,h2,h3⟩:=hn n i hi hC;obtain⟨m',h4,h5,h6⟩:=Xr l d wt C f hn hd k (i+1) m (by omega);refine⟨m',by rw[Ao h1];exact h4,λhle=>?_,λhle=>?_⟩
   ·rw[hdr,Bu,V6]at hle ⊢;have:=h2 (by omega);subst this;rw[h5 (by omega)];omega
   ·rw[hdr,Bu,V6];have h7:=h6 hle;have h8:=h3 (by omega);have:=h2 h8;omega
  ·refine⟨n,Ai (hd n i (by omega) (.inr (by omega))),λhle=>by omega,λhle=>by omega⟩
theorem Re{X:Type}(N:Nat)(f:Int×Int->Option (LR (Int×Int) X))(hn:∀(n:Int) (i:Nat),i<N->(∃ m:Int,f (n,(i:Int))=some (.next (m,((i+1:Nat):Int))))\/∃ x,f (n,(i:Int))=some (.done x))(hd:∀ n:Int,∃ x,f (n,(N:Int))=some (.done x)) :
  ∀(k i:Nat) (n:Int),i+k=N->∃ x,Ah f (n,(i:Int))=some x
 | 0,i,n,h=>by
  obtain rfl:i=N:=by omega
  obtain⟨x,hx⟩:=hd n;exact⟨x,Ai hx⟩
 | k+1,i,n,h=>by
  rcases hn n i (by omega) with⟨m,hm⟩|⟨x,hx⟩
  ·obtain⟨x,hx⟩:=Re N f hn hd k (i+1) m (by omega);exact⟨x,by rw[Ao hm];exact hx⟩
  ·exact⟨x,Ai hx⟩
theorem JF{α X:Type}(l:List α)(d:α)(wt:α->Nat)(out:Int->X)(f:Int×Int->Option (LR (Int×Int) X))
  (hn:∀(n i:Nat),i<l.length->f (Ap n,(i:Int))=some (.next (Ap ((n+wt (l.getD i d):Nat):Int),((i+1:Nat):Int)))) (hd:∀ n:Int,f (n,(l.length:Int))=some (.done (out n))) :
  ∀(k i n:Nat),i+k=l.length->Ah f (Ap n,(i:Int))=some (out (Ap ((n+((l.drop i).map wt).sum:Nat):Int)))
 | 0,i,n,h=>by
  obtain rfl:i=l.length:=by omega
  rw[Ai (hd _)]
  simp
 | k+1,i,n,h=>by
  have hi:i<l.length:=by omega
  have hdr:l.drop i=l.getD i d::l.drop (i+1):=by rw[Pg hi,Ab _ _ _ hi]
  rw[Ao (hn n i hi),JF l d wt out f hn hd k (i+1) _ (by omega),hdr,Bu,V6,Sl]
theorem YC(a b:Int):Ap (Ap a+b)=Ap (a+b):=by
 show IntKind.i64.wrap (IntKind.i64.wrap a+b)=IntKind.i64.wrap (a+b)
 simp only[IntKind.wrap,IntKind.bits,IntKind.signed]
 simp
 split<;>split<;>omega
theorem AW{α β:Type}(l:List α)(d:α)(E:α->List β)(M:Nat)(f:List β×Int->Option (LR (List β×Int) (List β)))
  (hn:∀(out:List β) (i:Nat),i<l.length->out.length+(E (l.getD i d)).length<=M->f (out,(i:Int))=some (.next (out++E (l.getD i d),((i+1:Nat):Int))))
  (hd:∀ out:List β,f (out,(l.length:Int))=some (.done out)) :
  ∀(k i:Nat) (out:List β),i+k=l.length->out.length+((l.drop i).map E).flatten.length<=M->Ah f (out,(i:Int))=some (out++((l.drop i).map E).flatten)
 | 0,i,out,h,_=>by
  obtain rfl:i=l.length:=by omega
  rw[Ai (hd out)]
  simp
 | k+1,i,out,h,hM=>by
  have hi:i<l.length:=by omega
  have hdr:l.drop i=l.getD i d::l.drop (i+1):=by rw[Pg hi,Ab _ _ _ hi]
  rw[hdr,Bu,List.flatten_cons,Em]at hM;rw[Ao (hn out i hi (by omega)),AW l d E M f hn hd k (i+1) _ (by omega) (by rw[Em];omega),hdr,Bu,List.flatten_cons,Ym]
theorem DZ{α β:Type}(l:List α)(E:α->List β)(B:Nat)(h:∀ a∈l,(E a).length<=B):(l.map E).flatten.length<=l.length*B:=by
 induction l with
 | nil=>simp
 | cons a l ih=>
  have h1:=h a (by simp);have h2:=ih (λb hb=>h b (by simp[hb]));rw[Bu,List.flatten_cons,Em,Nc,D9];omega
theorem getD_mem{α:Type}{l:List α}{i:Nat}{d:α}(h:i<l.length):l.getD i d∈l:=by rw[Ab _ _ _ h];exact Yo h
theorem Bd{i n:Nat}(h:i<n):Bv (i:Int) n:=⟨by omega,by exact_mod_cast h⟩
theorem D0{i n:Nat}(h:i<n)(hn:n<9223372036854775808):Ap ((i:Int)+1)=(i:Int)+1:=B1 (by omega) (by omega)
def dV(l:List Int):Prop:=∀ x∈l,0<=x/\x<=2147483647
theorem N2{S X:Type}(f:S->Option (LR S X))(T:Nat->S)(x:X):∀(n:Nat),(∀ i,i<n->f (T i)=some (.next (T (i+1))))->f (T n)=some (.done x)->Ah f (T 0)=some x:=by
 suffices h:∀(k i n:Nat),i+k=n->(∀ j,i<=j->j<n->f (T j)=some (.next (T (j+1))))->f (T n)=some (.done x)->Ah f (T i)=some x from
  λn h1 h2=>h n 0 n (by omega) (λj _ hj=>h1 j hj) h2
 intro k
 induction k with
 | zero=>
  intro i n hi _ h2
  have hin:n=i:=by omega
  subst hin;exact Ai h2
 | succ k ih=>intro i n hi h1 h2;rw[Ao (h1 i (zzL7 _) (by omega))];exact ih (i+1) n (by omega) (λj hj hj'=>h1 j (by omega) hj') h2
theorem HH{S X:Type}(f:S->Option (LR S X))(T:Nat->S):∀(n:Nat),(∀ i,i<n->f (T i)=some (.next (T (i+1))))->Ah f (T 0)=Ah f (T n):=by
 intro n
 induction n with
 | zero=>intro _;rfl
 | succ n ih=>intro h;rw[ih (λi hi=>h i (by omega)),Ao (h n (by omega))]
theorem Lx{S X:Type}(f:S->Option (LR S X))(T:Nat->S)(p:Nat->Bool)(yes no:X)(n:Nat)(hn:∀ i,i<n->p i=true->f (T i)=some (.next (T (i+1))))(hf:∀ i,i<n->p i=false->f (T i)=some (.done no))
  (he:f (T n)=some (.done yes)):Ah f (T 0)=some (bif (List.range n).all p then yes else no):=by
 cases hall:(List.range n).all p with
 | true=>
  rw[Ae];exact N2 f T yes n (λi hi=>hn i hi (zzL27.1 hall i (zzL35.2 hi))) he
 | false=>
  rw[Az]
  have hex:∃ i,i<n/\p i=false:=by
   have:¬ ∀ i∈List.range n,p i=true:=λh=>by rw[zzL27.2 h]at hall;cases hall
   simpa using this
  let P:Nat->Prop:=λm=>m<n/\p m=false
  obtain⟨m,hm⟩:=hex
  have key:∀ m,m<n->p m=false->∃ k,k<n/\p k=false/\∀ j,j<k->p j=true:=by
   intro m
   induction m using Nat.strongRecOn with
   | ind m ih=>
    intro h1 h2
    by_cases h:∃ j,j<m/\p j=false
    ·obtain⟨j,hj,hpj⟩:=h;exact ih j hj (by omega) hpj
    ·refine⟨m,h1,h2,λj hj=>?_⟩
     cases hpj:p j with
     | true=>rfl
     | false=>exact(h ⟨j,hj,hpj⟩).elim
  obtain⟨k,hk,hpk,hlt⟩:=key m hm.1 hm.2;rw[HH f T k (λi hi=>hn i (by omega) (hlt i hi))];exact Ai (hf k hk hpk)
theorem all_range{n:Nat}{p:Nat->Bool}:(List.range n).all p=true↔∀ i,i<n->p i=true:=by
 rw[zzL27];exact⟨λh i hi=>h i (zzL35.2 hi),λh i hi=>h i (zzL35.1 hi)⟩
theorem A4(i:Nat):((i:Int)).toNat=i:=Do i
theorem w1{i:Nat}(h:i<4611686018427387904):Ap ((i:Int)+1)=((i+1:Nat):Int):=by rw[B1 (by omega) (by omega)];omega
theorem E9{i n:Nat}(h:i<n):decide (((i:Nat):Int)<((n:Nat):Int))=true:=by simpa using h
theorem Jk{n:Nat}:decide (((n:Nat):Int)<((n:Nat):Int))=false:=by simp
theorem I8{i n:Nat}(h:i<n):Bv ((i:Nat):Int) n:=Bd h
theorem me{x:Int}{n:Nat}(h0:0<=x)(h1:x<n):Bv x n:=⟨h0,h1⟩
structure bj(o:Bl):Prop where
 imm:0<=o.Imm/\o.Imm<18446744073709551616
 args:o.Args.length<=200
theorem UT(x:Int×Int)(n:Int)(h:n=2\/n=4\/n=8\/n=16):Bt [x] n=some (List.replicate n.toNat x):=by
 let d:Int×Int:=(0,0)
 rcases h with rfl|rfl|rfl|rfl
 ·have e:Bt [x] 2=(Ah Ch (1,[x,d])).bind some:=by kernel_rfl
  rw[e,Ao (s':=(2,[x,x])) (by kernel_rfl),Ai (x:=[x,x]) (by kernel_rfl)]
  rfl
 ·have e:Bt [x] 4=(Ah Ch (1,[x,d,d,d])).bind some:=by kernel_rfl
  rw[e,Ao (s':=(2,[x,x,d,d])) (by kernel_rfl),Ao (s':=(4,[x,x,x,x])) (by kernel_rfl),Ai (x:=[x,x,x,x]) (by kernel_rfl)]
  rfl
 ·have e:Bt [x] 8=(Ah Ch (1,[x,d,d,d,d,d,d,d])).bind some:=by kernel_rfl
  rw[e,Ao (s':=(2,[x,x,d,d,d,d,d,d])) (by kernel_rfl),Ao (s':=(4,[x,x,x,x,d,d,d,d])) (by kernel_rfl),Ao (s':=(8,[x,x,x,x,x,x,x,x])) (by kernel_rfl),
   Ai (x:=[x,x,x,x,x,x,x,x]) (by kernel_rfl)]
  rfl
 ·have e:Bt [x] 16=(Ah Ch (1,[x,d,d,d,d,d,d,d,d,d,d,d,d,d,d,d])).bind some:=by kernel_rfl
  rw[e,Ao (s':=(2,[x,x,d,d,d,d,d,d,d,d,d,d,d,d,d,d])) (by kernel_rfl),Ao (s':=(4,[x,x,x,x,d,d,d,d,d,d,d,d,d,d,d,d])) (by kernel_rfl),
   Ao (s':=(8,[x,x,x,x,x,x,x,x,d,d,d,d,d,d,d,d])) (by kernel_rfl),Ao (s':=(16,List.replicate 16 x)) (by kernel_rfl),Ai (x:=List.replicate 16 x) (by kernel_rfl)]
  rfl
theorem dc(l:List (Int×Int)):Fk l=some l:=rfl
theorem EI(o:Bl)(hs:Va o.Bits o.Lanes=true)(hk:dY o.Kind=true)(hf:Ye o.Kind o.Bits o.Lanes=true):K6 o=some (L7 o):=by
 have hl:=Mo hs;obtain⟨k,b,n,d,args,i⟩:=o;simp only at hs hk hf hl ⊢;rcases kinds k with rfl|rfl|rfl|rfl|rfl|rfl|rfl|rfl|rfl|rfl|rfl|rfl|rfl|rfl|rfl|rfl|rfl|rfl|rfl|rfl|rfl|rfl|rfl|h
 case inr.inr.inr.inr.inr.inr.inr.inr.inr.inr.inr.inr.inr.inr.inr.inr.inr.inr.inr.inr.inr.inl=>
  have h1:n≠1:=by rintro rfl;simp[Ye]at hf
  have h4:n=2\/n=4\/n=8\/n=16:=by omega
  unfold K6;rw[show(((21:Int))==21)=true from rfl];simp only[UT _ _ h4,dc,Ar];rcases h4 with rfl|rfl|rfl|rfl<;>rfl
 all_goals first
  | rfl
  | (rw[iM h]at hk;cases hk)
  | (rcases hl with rfl|rfl|rfl|rfl|rfl<;>first|rfl|(simp[Ye]at hf))
theorem MD(o:Bl)(hs:Va o.Bits o.Lanes=true)(hk:dY o.Kind=true)(hf:Ye o.Kind o.Bits o.Lanes=true)(hl:o.Args.length<=200):K2 o=some (((o.Args.length:Int)==Lp o.Kind o.Lanes)&&o.Args.all valS):=by
 unfold K2;rw[EI o hs hk hf]
 have hn:0<=Lp o.Kind o.Lanes:=by
  have:=Mo hs;unfold Lp
  cases(o.Kind==0)<;>cases(o.Kind==13 || o.Kind==18 || o.Kind==19)<;>cases(o.Kind==14 || o.Kind==15 || o.Kind==16 || o.Kind==22)<;>cases(o.Kind==20)<;>cases(o.Kind==21)<;>simp<;>omega
 have hlen:((L7 o).length:Int)=Lp o.Kind o.Lanes:=by simp[L7];omega
 simp only[Ar,hlen]
 by_cases he:(o.Args.length:Int)=Lp o.Kind o.Lanes
 ·have e1:((o.Args.length:Int)==Lp o.Kind o.Lanes)=true:=by simpa using he
  have e2:((o.Args.length:Int)!=Lp o.Kind o.Lanes)=false:=by simpa using he
  rw[e1,e2,Az]
  have hloop:=Tj o.Args (0:Int) valS (Gu o) (.inl ()) (.inr false) (λi hi hp=>by
    unfold Gu
    have:decide ((i:Int)<(o.Args.length:Int))=true:=by simpa using hi
    simp only[this,Ae,Au (Bd hi),Do,Rb,Ar,hp,Fi,Az,D0 hi (by omega)]) (λi hi hp=>by
    unfold Gu
    have:decide ((i:Int)<(o.Args.length:Int))=true:=by simpa using hi
    simp only[this,Ae,Au (Bd hi),Do,Rb,Ar,hp,Lh]) (by
    unfold Gu
    simp) o.Args.length 0 (by omega)
  rw[show(0:Int)=((0:Nat):Int) from rfl,hloop,Lr]
  cases o.Args.all valS<;>rfl
 ·have e1:((o.Args.length:Int)==Lp o.Kind o.Lanes)=false:=by simpa using he
  have e2:((o.Args.length:Int)!=Lp o.Kind o.Lanes)=true:=by simpa using he
  rw[e1,e2];rfl
theorem EB{k b n:Int}(hs:Va b n=true):((Mz k b n).1==0)=(k==17 || k==19):=by
 have hb:(b==0)=false:=by
  have:=width_cases (shape_width hs);simp;omega
 unfold Mz
 cases(k==17 || k==19)<;>cases(k==10 || k==11 || k==12)<;>cases(k==22)<;>simp_all
theorem ME(o:Bl)(hs:Va o.Bits o.Lanes=true):K3 o=some (dstS o.Kind o.Dst):=by
 unfold K3;simp only[EG,Ar,EB hs,Rb,dstS]
 cases(o.Kind==17 || o.Kind==19)<;>rfl
theorem EF(o:Bl)(ho:bj o):L1 o=some (Hx o):=by
 unfold L1 Hx;simp only[PI,TZ,EH,Ar]
 cases hs:Va o.Bits o.Lanes with
 | false=>cases dY o.Kind<;>rfl
 | true=>
  have hl:=Mo hs
  cases hk:dY o.Kind with
  | false=>rfl
  | true=>
   rw[MF o (shape_width hs) (by omega) ho.imm];simp only[ME o hs]
   cases hf:Ye o.Kind o.Bits o.Lanes with
   | false=>rfl
   | true=>
    rw[MD o hs hk hf ho.args]
    generalize ifitS o.Kind o.Bits o.Lanes o.Imm=p
    generalize ((o.Args.length:Int)==Lp o.Kind o.Lanes)=q
    generalize o.Args.all valS=r
    generalize dstS o.Kind o.Dst=s
    cases p<;>cases q<;>cases r<;>cases s<;>rfl
theorem Xv{o:Bl}(h:Hx o=true):Va o.Bits o.Lanes=true/\dY o.Kind=true/\Ye o.Kind o.Bits o.Lanes=true/\ifitS o.Kind o.Bits o.Lanes o.Imm=true/\(o.Args.length:Int)=Lp o.Kind o.Lanes/\o.Args.all valS=true/\dstS o.Kind o.Dst=true:=by
 simp only[Hx,A6,zzL61]at h;exact⟨h.1.1,h.1.2.1.1.1,h.1.2.1.1.2,h.1.2.1.2,h.1.2.2,h.2.1,h.2.2⟩
theorem UA(o:Bl)(ho:bj o):K1 o=some (bif Hx o then L7 o else[]):=by
 unfold K1;rw[EF o ho];simp only[Ar]
 cases hm:Hx o with
 | false=>rfl
 | true=>
  obtain⟨h1,h2,h3,_⟩:=Xv hm;simp only[EI o h1 h2 h3,Ar]
  rfl
theorem TY(o:Bl)(ho:bj o):K0 o=some (bif Hx o then Mz o.Kind o.Bits o.Lanes else(0,0)):=by
 unfold K0;rw[EF o ho];simp only[Ar,EG]
 cases Hx o<;>rfl
def numB(n:Int):Bool:=decide (0<=n)&&decide (n<=2147483647)
def Mi(l:List Int):Bool:=l.all numB&&decide (l.length<=64)
def HU(p:E1):Bool:=numB p.Bits&&numB p.Dst&&Mi p.From&&Mi p.Args
def NW(o:Bl):Bool:=numB o.Kind&&numB o.Bits&&numB o.Lanes&&numB o.Dst&&Mi o.Args
def OZ(e:Gh):Bool:=numB e.Kind&&numB e.Arg&&Mi e.To
def blockB(b:Ag):Bool:=b.Phis.all HU&&b.Ops.all NW&&OZ b.End
def sizeB(b:Ag):Nat:=b.Phis.length+b.Ops.length+1
def Pf(f:Aa):Nat:=(f.Blocks.map sizeB).sum
def sizeW(f:Aa):Int:=Ap (Pf f)
def Rk(f:Aa):Bool:=decide (1<=f.Blocks.length)&&decide (f.Blocks.length<=64)&&decide (f.Params.length<=16)&&Mi f.Params&&numB f.Ret&&decide (sizeW f<=512)&&f.Blocks.all blockB
def ZQ(p:E1):Nat:=1+p.From.length+p.Args.length
def LZ(o:Bl):Nat:=1+o.Args.length
def ZO(b:Ag):Nat:=1+b.End.To.length+(b.Phis.map ZQ).sum+(b.Ops.map LZ).sum
def ZP(f:Aa):Nat:=f.Params.length+(f.Blocks.map ZO).sum
theorem Je:maxLen=9223372036854775807:=rfl
structure fi(f:Aa):Prop where
 params:f.Params.length<=maxLen
 blocks:f.Blocks.length<=maxLen
 block:∀ b∈f.Blocks,b.Phis.length<=maxLen/\b.Ops.length<=maxLen/\b.End.To.length<=maxLen
 phi:∀ b∈f.Blocks,∀ p∈b.Phis,p.From.length<=maxLen/\p.Args.length<=maxLen
 op:∀ b∈f.Blocks,∀ o∈b.Ops,o.Args.length<=maxLen/\0<=o.Imm/\o.Imm<18446744073709551616
theorem DD{n:Nat}(h:n<9223372036854775808):Ap (n:Int)=n:=B1 (by omega) (by omega)
theorem I7{i n:Nat}(h:i<n)(hn:n<=maxLen):Ap ((i:Int)+1)=((i+1:Nat):Int):=by rw[Je]at hn;rw[show((i:Int)+1)=((i+1:Nat):Int) by omega,DD (by omega)]
theorem VB(f:Aa)(hf:fi f):∃ b,Dw f=some b:=by
 have h3:∃ x,Ah (Bw f) ((f.Params.length:Int),((0:Nat):Int))=some x:=by
  refine Re f.Blocks.length (Bw f) (λn i hi=>?_) (λn=>?_) f.Blocks.length 0 _ (Fp _)
  ·have hmem:=getD_mem (d:=(default:Ag)) hi;obtain⟨b1,b2,_⟩:=hf.block _ hmem;have hI:Bv (i:Int) f.Blocks.length:=Bd hi;unfold Bw
   cases hc:(bif decide ((i:Int)<(f.Blocks.length:Int)) then decide (n<=20000) else false) with
   | false=>right;simp only[hc,Az];exact⟨_,rfl⟩
   | true=>
    left
    simp only[hc,Ae,Au hI]
    obtain⟨x1,h1⟩:=Re (f.Blocks.getD i default).Phis.length (Ca f i) (λn j hj=>by
      unfold Ca;simp only[Au hI,Do]
      cases hc:(bif decide ((j:Int)<((f.Blocks.getD i default).Phis.length:Int)) then decide (n<=20000) else false) with
      | false=>right;exact⟨_,rfl⟩
      | true=>left;simp only[Ae,Au (Bd hj),I7 hj b1];exact⟨_,rfl⟩) (λn=>by
      unfold Ca;simp only[Au hI,Do]
      have:decide (((f.Blocks.getD i default).Phis.length:Int)<((f.Blocks.getD i default).Phis.length:Int))=false:=by simp
      simp only[this,Az];exact⟨_,rfl⟩) _ 0 (Ap (Ap (n+1)+((f.Blocks.getD i default).End.To.length:Int))) (Fp _)
    obtain⟨x2,h2⟩:=Re (f.Blocks.getD i default).Ops.length (Cb f i) (λn j hj=>by
      unfold Cb;simp only[Au hI,Do]
      cases hc:(bif decide ((j:Int)<((f.Blocks.getD i default).Ops.length:Int)) then decide (n<=20000) else false) with
      | false=>right;exact⟨_,rfl⟩
      | true=>left;simp only[Ae,Au (Bd hj),I7 hj b2];exact⟨_,rfl⟩) (λn=>by
      unfold Cb;simp only[Au hI,Do]
      have:decide (((f.Blocks.getD i default).Ops.length:Int)<((f.Blocks.getD i default).Ops.length:Int))=false:=by simp
      simp only[this,Az];exact⟨_,rfl⟩) _ 0 x1 (Fp _)
    rw[show((0:Nat):Int)=0 from rfl]at h1 h2;simp only[Do,h1,h2,Ar,I7 hi hf.blocks];exact⟨_,rfl⟩
  ·unfold Bw
   have:decide ((f.Blocks.length:Int)<(f.Blocks.length:Int))=false:=by simp
   simp only[this,Az];exact⟨_,rfl⟩
 obtain⟨x,hx⟩:=h3;unfold Dw;rw[show((0:Nat):Int)=0 from rfl]at hx;rw[hx];exact⟨_,rfl⟩
theorem RF(f:Aa)(hf:fi f)(h0:f.Params.length<=64)(hb:∀ b∈f.Blocks,b.End.To.length<=64/\(∀ p∈b.Phis,p.From.length<=64/\p.Args.length<=64)/\∀ o∈b.Ops,o.Args.length<=64):Dw f=some (decide (ZP f<=20000)):=by
 have h3:=Xr f.Blocks (default:Ag) ZO 20000 (Bw f) (λn i hi hn=>by
   have hmem:=getD_mem (d:=(default:Ag)) hi;obtain⟨b1,b2,b3⟩:=hf.block _ hmem;obtain⟨hTo,hPh,hOp⟩:=hb _ hmem;have hI1:Bv (i:Int) f.Blocks.length:=Bd hi
   have l1:=Xr (f.Blocks.getD i default).Phis (default:E1) ZQ 20000 (Ca f i) (λn j hj hn=>by
     have hm:=getD_mem (d:=(default:E1)) hj;obtain⟨p1,p2⟩:=hPh _ hm
     have e1:decide ((j:Int)<((f.Blocks.getD i default).Phis.length:Int))=true:=by simpa using hj
     have e2:decide ((n:Int)<=20000)=true:=by simp;omega
     refine⟨n+ZQ ((f.Blocks.getD i default).Phis.getD j default),?_,λ_=>rfl,λh=>h⟩;unfold Ca;simp only[Au hI1,Do,e1,e2,Ae,Au (Bd hj),I7 hj b1]
     congr 3
     rw[B1 (n:=(n:Int)+1) (by omega) (by omega),B1 (n:=(n:Int)+1+_) (by omega) (by omega),B1 (by omega) (by omega)];simp only[ZQ]
     omega) (λn j hj hd=>by
     unfold Ca;simp only[Au hI1,Do]
     have:(bif decide ((j:Int)<((f.Blocks.getD i default).Phis.length:Int)) then decide ((n:Int)<=20000) else false)=false:=by
      rcases hd with rfl|h
      ·simp
      ·simp;omega
     rw[this];rfl)
   have l2:=Xr (f.Blocks.getD i default).Ops (default:Bl) LZ 20000 (Cb f i) (λn j hj hn=>by
     have hm:=getD_mem (d:=(default:Bl)) hj;have p1:=hOp _ hm
     have e1:decide ((j:Int)<((f.Blocks.getD i default).Ops.length:Int))=true:=by simpa using hj
     have e2:decide ((n:Int)<=20000)=true:=by simp;omega
     refine⟨n+LZ ((f.Blocks.getD i default).Ops.getD j default),?_,λ_=>rfl,λh=>h⟩;unfold Cb;simp only[Au hI1,Do,e1,e2,Ae,Au (Bd hj),I7 hj b2]
     congr 3
     rw[B1 (n:=(n:Int)+1) (by omega) (by omega),B1 (by omega) (by omega)];simp only[LZ]
     omega) (λn j hj hd=>by
     unfold Cb;simp only[Au hI1,Do]
     have:(bif decide ((j:Int)<((f.Blocks.getD i default).Ops.length:Int)) then decide ((n:Int)<=20000) else false)=false:=by
      rcases hd with rfl|h
      ·simp
      ·simp;omega
     rw[this];rfl)
   have e1:decide ((i:Int)<(f.Blocks.length:Int))=true:=by simpa using hi
   have e2:decide ((n:Int)<=20000)=true:=by simp;omega
   obtain⟨m1,q1,q2,q3⟩:=l1 _ 0 (n+1+(f.Blocks.getD i default).End.To.length) (Fp _);obtain⟨m2,q4,q5,q6⟩:=l2 _ 0 m1 (Fp _);rw[Lr]at q2 q3 q5 q6;refine⟨m2,?_,λhle=>?_,λhle=>?_⟩
   ·unfold Bw;simp only[e1,e2,Ae,Au hI1,Do,I7 hi hf.blocks];rw[B1 (n:=(n:Int)+1) (by omega) (by omega),B1 (by omega) (by omega),show(n:Int)+1+((f.Blocks.getD i default).End.To.length:Int)=((n+1+(f.Blocks.getD i default).End.To.length:Nat):Int) by omega];rw[show((0:Nat):Int)=0 from rfl]at q1 q4;rw[q1,Ar,q4,Ar]
   ·simp only[ZO]at hle ⊢;have:=q2 (by omega);rw[q5 (by omega)];omega
   ·simp only[ZO];have h6:=q6 hle;have h3:=q3 (by omega);have:=q2 h3
    omega) (λn i hi hd=>by
   unfold Bw
   have:(bif decide ((i:Int)<(f.Blocks.length:Int)) then decide ((n:Int)<=20000) else false)=false:=by
    rcases hd with rfl|h
    ·simp
    ·simp;omega
   simp only[this,Az]) f.Blocks.length 0 f.Params.length (Fp _)
 obtain⟨m,h1,h2,h4⟩:=h3;rw[Lr]at h2 h4;unfold Dw;rw[show((0:Nat):Int)=0 from rfl]at h1;rw[h1,Ar]
 congr 1
 apply zzL108.2
 simp only[ZP]
 constructor
 ·intro h;exact h4 (by omega)
 ·intro h;have:=h2 h;omega
theorem dr{n:Int}:numB n=true↔0<=n/\n<=2147483647:=by simp[numB]
theorem listB_iff{l:List Int}:Mi l=true↔dV l/\l.length<=64:=by
 simp[Mi,dV,dr]
def m9(n:Int):Prop:=0<=n/\n<18446744073709551616
structure pM(b:Ag):Prop where
 may:blockB b=true
 phis:b.Phis.length<=512
 ops:b.Ops.length<=512
 imm:∀ o∈b.Ops,m9 o.Imm
structure OkF(f:Aa):Prop where
 params:Mi f.Params=true
 few:f.Params.length<=16
 ret:numB f.Ret=true
 blocks:f.Blocks.length<=64
 block:∀ b∈f.Blocks,pM b
theorem blockB_iff{b:Ag}:blockB b=true↔(∀ p∈b.Phis,HU p=true)/\(∀ o∈b.Ops,NW o=true)/\OZ b.End=true:=by
 simp[blockB,and_assoc]
theorem lS{α:Type}(l:List α)(g:α->Nat)(B:Nat)(h:∀ a∈l,g a<=B):(l.map g).sum<=l.length*B:=by
 induction l with
 | nil=>simp
 | cons a l ih=>
  have h1:=h a (by simp);have h2:=ih (λb hb=>h b (by simp[hb]));rw[Bu,V6,Nc,D9];omega
theorem ee{α:Type}(l:List α)(g k:α->Nat)(h:∀ a∈l,g a<=k a):(l.map g).sum<=(l.map k).sum:=by
 induction l with
 | nil=>simp
 | cons a l ih=>
  have h1:=h a (by simp);have h2:=ih (λb hb=>h b (by simp[hb]));rw[Bu,V6,Bu,V6];omega
theorem EL{α:Type}(l:List α)(g:α->Nat)(h:∀ a∈l,1<=g a):l.length<=(l.map g).sum:=by
 induction l with
 | nil=>simp
 | cons a l ih=>
  have h1:=h a (by simp);have h2:=ih (λb hb=>h b (by simp[hb]));rw[Bu,V6,Nc];omega
theorem UD{α:Type}{l:List α}{a:α}(g:α->Nat)(h:a∈l):g a<=(l.map g).sum:=by
 induction l with
 | nil=>cases h
 | cons b l ih=>
  rw[Bu,V6];rcases zzL24.1 h with rfl|h
  ·omega
  ·have:=ih h;omega
theorem OkF.size{f:Aa}(h:OkF f):Pf f<=65600/\sizeW f=Pf f:=by
 have:Pf f<=f.Blocks.length*1025:=lS _ _ _ λb hb=>by
  have h1:=(h.block b hb).phis;have h2:=(h.block b hb).ops;simp only[sizeB];omega
 have h2:=h.blocks
 have h3:Pf f<=65600:=by omega
 exact⟨h3,DD (by omega)⟩
theorem Za{f:Aa}(h:Rk f=true):1<=f.Blocks.length/\f.Blocks.length<=64/\f.Params.length<=16/\Mi f.Params=true/\numB f.Ret=true/\sizeW f<=512/\∀ b∈f.Blocks,blockB b=true:=by
 simp only[Rk,A6,Du,zzL27]at h;exact⟨h.1.1.1.1.1.1,h.1.1.1.1.1.2,h.1.1.1.1.2,h.1.1.1.2,h.1.1.2,h.1.2,h.2⟩
theorem ah{f:Aa}(h:Rk f=true):f.Params.length<=64/\∀ b∈f.Blocks,b.End.To.length<=64/\(∀ p∈b.Phis,p.From.length<=64/\p.Args.length<=64)/\∀ o∈b.Ops,o.Args.length<=64:=by
 obtain⟨_,_,h3,_,_,_,h7⟩:=Za h;refine⟨by omega,λb hb=>?_⟩;obtain⟨q1,q2,q3⟩:=blockB_iff.1 (h7 b hb);simp only[OZ,A6]at q3;refine⟨(listB_iff.1 q3.2).2,λp hp=>?_,λo ho=>?_⟩
 ·have:=q1 p hp;simp only[HU,A6]at this;exact⟨(listB_iff.1 this.1.2).2,(listB_iff.1 this.2).2⟩
 ·have:=q2 o ho;simp only[NW,A6]at this;exact(listB_iff.1 this.2).2
theorem lB{f:Aa}(hf:fi f)(h:Rk f=true)(hs:ZP f<=20000):OkF f/\Pf f<=512:=by
 obtain⟨h1,h2,h3,h4,h5,h6,h7⟩:=Za h
 have hle:Pf f<=ZP f:=by
  have:Pf f<=(f.Blocks.map ZO).sum:=ee _ _ _ λb hb=>by
   have q1:b.Phis.length<=(b.Phis.map ZQ).sum:=EL _ _ λp hp=>by simp only[ZQ];omega
   have q2:b.Ops.length<=(b.Ops.map LZ).sum:=EL _ _ λp hp=>by simp only[LZ];omega
   simp only[sizeB,ZO];omega
  simp only[ZP];omega
 have hw:sizeW f=Pf f:=DD (by omega)
 have h512:Pf f<=512:=by omega
 refine⟨⟨h4,h3,h5,h2,λb hb=>?_⟩,h512⟩;have hb512:sizeB b<=Pf f:=UD sizeB hb;simp only[sizeB]at hb512;exact⟨h7 b hb,by omega,by omega,λo ho=>(hf.op b hb o ho).2⟩
theorem RG(f:Aa)(hf:fi f):∃ sm,Dw f=some sm/\(sm=true->Rk f=true->OkF f/\Pf f<=512/\1<=f.Blocks.length):=by
 obtain⟨sm,h⟩:=VB f hf;refine⟨sm,h,λh1 h2=>?_⟩;obtain⟨q1,q2⟩:=ah h2;rw[RF f hf q1 q2]at h;subst h1;obtain⟨r1,r2⟩:=lB hf h2 (by simpa using OI h);exact⟨r1,r2,(Za h2).1⟩
def MJ(l:Int):Int:=bif l==0 then 17 else bif l==1 then 20 else 22
def G9(l:Int)(o:Bl):Bool:=Hx o&&!decide (MJ l<o.Kind)&&!(decide (l<2)&&decide (1<o.Lanes))
def Hp(l:Int)(b:Ag):Bool:=(b.Phis.all λp=>Dr p.Bits)&&b.Ops.all (G9 l)
def Py(f:Aa)(l:Int):Bool:=f.Params.all Dr&&f.Blocks.all (Hp l)&&Dr f.Ret
theorem lJ{f:Aa}(hf:OkF f){b:Ag}(hb:b∈f.Blocks){o:Bl}(ho:o∈b.Ops):bj o:=by
 have h1:=hf.block b hb;have h2:=(blockB_iff.1 h1.may).2.1 o ho;simp only[NW,A6]at h2;exact⟨⟨(h1.imm o ho).1,(h1.imm o ho).2⟩,by have:=(listB_iff.1 h2.2).2;omega⟩
theorem NA:room=1099511627776:=rfl
theorem Kh{β:Type}(C:Nat)(E:Nat->List β):∀ l:List Nat,(∀ i∈l,(E i).length<=C)->(l.flatMap E).length<=l.length*C
 | [],_=>by simp
 | a::l,h=>by
  have h1:=h a (by simp);have h2:=Kh C E l (λi hi=>h i (by simp[hi]));rw[Ug,Em,Nc,D9];omega
def In(l:List TDef)(v:Int):Int:=match l.findIdx? (λd=>d.V==v) with|some i=>(i:Int)|none=>-1
def G2(o:Bl):Int×Int:=bif Hx o then Mz o.Kind o.Bits o.Lanes else(0,0)
def E8(o:Bl):List (Int×Int):=bif Hx o then L7 o else[]
def Lm(f:Aa):List TDef:=(List.range f.Params.length).flatMap λ(i:Nat)=>[⟨(i:Int)+1,-1,0,(f.Params.getD i 0,1)⟩]
def Uq(b:Ag)(i:Nat):List TDef:=(List.range b.Phis.length).flatMap λ(k:Nat)=>[⟨(b.Phis.getD k default).Dst,i,-1,((b.Phis.getD k default).Bits,1)⟩]
def Y2(b:Ag)(i:Nat):List TDef:=(List.range b.Ops.length).flatMap λ(k:Nat)=>bif decide (0<(G2 (b.Ops.getD k default)).1) then[⟨(b.Ops.getD k default).Dst,i,k,G2 (b.Ops.getD k default)⟩] else[]
def Kg(b:Ag)(i:Nat):List TDef:=Uq b i++Y2 b i
def Ay(f:Aa):List TDef:=Lm f++(List.range f.Blocks.length).flatMap λi=>Kg (f.Blocks.getD i default) i
theorem IP(f:Aa):(Lm f).length=f.Params.length:=by
 have h:∀ l:List Nat,(l.map λ_=>1).sum=l.length:=λl=>by induction l with|nil=>rfl|cons a l ih=>simp[ih];omega
 simp[Lm,List.length_flatMap,h]
def Ld(p:E1):List Mx:=(List.range p.Args.length).flatMap λ(j:Nat)=>[⟨p.Args.getD j 0,p.From.getD j 0,1000,(p.Bits,1)⟩]
def Rz(b:Ag):List Mx:=(List.range b.Phis.length).flatMap λ(k:Nat)=>Ld (b.Phis.getD k default)
def Me(o:Bl)(i k:Nat):List Mx:=(List.range (E8 o).length).flatMap λ(j:Nat)=>[⟨o.Args.getD j 0,i,k,(E8 o).getD j (0,0)⟩]
def Ry(b:Ag)(i:Nat):List Mx:=(List.range b.Ops.length).flatMap λ(k:Nat)=>Me (b.Ops.getD k default) i k
def U6(f:Aa)(b:Ag)(i:Nat):List Mx:=(bif b.End.Kind==0 then[⟨b.End.Arg,i,1000,(f.Ret,1)⟩] else[])++(bif b.End.Kind==2 then[⟨b.End.Arg,i,1000,(1,1)⟩] else[])
def T9(f:Aa)(b:Ag)(i:Nat):List Mx:=Rz b++Ry b i++U6 f b i
def D5(f:Aa):List Mx:=(List.range f.Blocks.length).flatMap λ(i:Nat)=>T9 f (f.Blocks.getD i default) i
theorem GF{o:Bl}(h:o.Args.length<=64):(E8 o).length<=64/\(E8 o).length<=o.Args.length:=by
 unfold E8
 cases hm:Hx o with
 | false=>simp
 | true=>
  simp only[Ae]
  have:((o.Args.length:Int)==Lp o.Kind o.Lanes)=true:=by
   simp only[Hx,A6]at hm;exact hm.1.2.2
  have h2:(o.Args.length:Int)=Lp o.Kind o.Lanes:=by simpa using this
  have h3:(L7 o).length=o.Args.length:=by rw[L7,Nd,V1,<- h2,Do]
  omega
theorem eA{f:Aa}(hf:OkF f){b:Ag}(hb:b∈f.Blocks){p:E1}(hp:p∈b.Phis):p.From.length<=64/\p.Args.length<=64:=by
 have:=(blockB_iff.1 (hf.block b hb).may).1 p hp;simp only[HU,A6]at this;exact⟨(listB_iff.1 this.1.2).2,(listB_iff.1 this.2).2⟩
theorem jt{f:Aa}(hf:OkF f){b:Ag}(hb:b∈f.Blocks){o:Bl}(ho:o∈b.Ops):o.Args.length<=64:=by
 have:=(blockB_iff.1 (hf.block b hb).may).2.1 o ho;simp only[NW,A6]at this;exact(listB_iff.1 this.2).2
theorem NG(p:E1):(Ld p).length<=p.Args.length:=by
 have:=Kh 1 (λ(j:Nat)=>[(⟨p.Args.getD j 0,p.From.getD j 0,1000,(p.Bits,1)⟩:Mx)]) (List.range p.Args.length) (λ_ _=>zzL7 _)
 simpa [Ld] using this
theorem RP(o:Bl)(i k:Nat):(Me o i k).length<=(E8 o).length:=by
 have:=Kh 1 (λ(j:Nat)=>[(⟨o.Args.getD j 0,i,k,(E8 o).getD j (0,0)⟩:Mx)]) (List.range (E8 o).length) (λ_ _=>zzL7 _)
 simpa [Me] using this
theorem RQ{f:Aa}(hf:OkF f){b:Ag}(hb:b∈f.Blocks):(Rz b).length<=32768:=by
 have:=Kh 64 (λ(k:Nat)=>Ld (b.Phis.getD k default)) (List.range b.Phis.length) (λk hk=>by
  have h1:=NG (b.Phis.getD k default);have h2:=(eA hf hb (getD_mem (d:=(default:E1)) (by simpa using hk))).2
  omega)
 have h3:=(hf.block b hb).phis;rw[V1]at this;have h4:b.Phis.length*64<=512*64:=Dt _ h3;rw[Rz];omega
theorem VF{f:Aa}(hf:OkF f){b:Ag}(hb:b∈f.Blocks)(i:Nat):(Ry b i).length<=32768:=by
 have:=Kh 64 (λ(k:Nat)=>Me (b.Ops.getD k default) i k) (List.range b.Ops.length) (λk hk=>by
  have h1:=RP (b.Ops.getD k default) i k;have h2:=(GF (jt hf hb (getD_mem (d:=(default:Bl)) (by simpa using hk)))).1
  omega)
 have h3:=(hf.block b hb).ops;rw[V1]at this;have h4:b.Ops.length*64<=512*64:=Dt _ h3;rw[Ry];omega
theorem RO(f:Aa)(b:Ag)(i:Nat):(U6 f b i).length<=2:=by
 unfold U6
 cases b.End.Kind==0<;>cases b.End.Kind==2<;>simp
theorem bR{f:Aa}(hf:OkF f){i:Nat}(hi:i<f.Blocks.length):(T9 f (f.Blocks.getD i default) i).length<=70000:=by
 have hmem:=getD_mem (d:=(default:Ag)) hi;have h1:=RQ hf hmem;have h2:=VF hf hmem i;have h3:=RO f (f.Blocks.getD i default) i;rw[T9,Em,Em];omega
theorem KF{f:Aa}(hf:OkF f):(D5 f).length<=4480000:=by
 have h1:=Kh 70000 (λ(i:Nat)=>T9 f (f.Blocks.getD i default) i) (List.range f.Blocks.length) (λi hi=>bR hf (by simpa using hi));have h4:=hf.blocks;rw[V1]at h1;have:f.Blocks.length*70000<=64*70000:=Dt _ h4;rw[D5];omega
def ir(f:Aa):Prop:=∀ b∈f.Blocks,∀ p∈b.Phis,p.Args.length<=p.From.length
def du(n:Nat)(l:List Int)(i:Nat):Bool:=decide ((if i=0 then(-1:Int) else l.getD (i-1) 0)<l.getD i 0)&&(decide (0<=l.getD i 0)&&decide (l.getD i 0<n))
def fx(n:Nat)(l:List Int):Bool:=(List.range l.length).all (du n l)
def L2(L:List (List Int)):Bool:=decide (1<=L.length)&&decide (L.length<=64)&&(List.range L.length).all λi=>fx L.length (L.getD i [])
def AQ(L:List (List Int))(k i:Nat):Bool:=(L.getD k []).contains (i:Int)
def Kb(L:List (List Int))(m i:Nat):List Int:=((List.range m).filter λk=>AQ L k i).map Int.ofNat
def Fm(L:List (List Int)):List (List Int):=(List.range L.length).map (Kb L L.length)
theorem P6(a n:Int):Gf a n=some (decide (0<=a)&&decide (a<n)):=by
 unfold Gf
 cases decide ((0:Int)<=a)<;>rfl
theorem JG(n:Nat):H2 (n:Int)=some (decide (1<=n)&&decide (n<=64)):=by
 unfold H2
 have h1:decide ((1:Int)<=(n:Int))=decide (1<=n):=by apply zzL108.2;omega
 have h2:decide ((n:Int)<=(64:Int))=decide (n<=64):=by apply zzL108.2;omega
 rw[h1,h2]
 cases decide (1<=n)<;>rfl
theorem GE(L:List (List Int))(i:Nat)(hl:(L.getD i []).length<4611686018427387904) :
  Ah (Ct L (i:Int)) ((-1:Int),(0:Int))=some (bif fx L.length (L.getD i []) then .inl () else .inr false):=by
 refine Lx (Ct L (i:Int)) (λj=>((if j=0 then(-1:Int) else(L.getD i []).getD (j-1) 0),((j:Nat):Int))) (du L.length (L.getD i [])) (.inl ()) (.inr false) _ (λj hj hp=>?_) (λj hj hp=>?_) ?_
 ·unfold du at hp;simp only[A6,Du]at hp;obtain⟨h1,h2,h3⟩:=hp
  show Ct L (i:Int) (_,_)=_
  unfold Ct;simp only[A4,E9 hj,Ae,P6];rw[Ac (I8 hj)]
  have e1:decide ((L.getD i []).getD j 0<=(if j=0 then(-1:Int) else(L.getD i []).getD (j-1) 0))=false:=by simpa using h1
  simp only[e1,Da h2,Da h3,R0,Ql,Ae,Az,Ar,Fi];rw[w1 (show j<4611686018427387904 by omega)]
  simp
 ·show Ct L (i:Int) (_,_)=_
  unfold Ct;simp only[A4,E9 hj,Ae,P6];rw[Ac (I8 hj)]
  cases h1:decide ((L.getD i []).getD j 0<=(if j=0 then(-1:Int) else(L.getD i []).getD (j-1) 0)) with
  | true=>simp only[Ae,show((true==false)=false) from rfl,Az,Ar]
  | false=>
   have h1':decide ((if j=0 then(-1:Int) else(L.getD i []).getD (j-1) 0)<(L.getD i []).getD j 0)=true:=by simpa using h1
   unfold du at hp;rw[h1',Hn]at hp;simp only[Ql,Ae,Az,Ar,hp,Lh]
 ·show Ct L (i:Int) (_,_)=_
  unfold Ct;simp only[A4,Jk,Az]
def Fits(L:List (List Int)):Prop:=L.length<4611686018427387904/\∀ l∈L,l.length<4611686018427387904
theorem Fits.at{L:List (List Int)}(h:Fits L)(i:Nat):(L.getD i []).length<4611686018427387904:=by
 by_cases hi:i<L.length
 ·exact h.2 _ (getD_mem hi)
 ·rw[Oi,List.getElem?_eq_none (by omega)];simp
theorem af(L:List (List Int))(h:Fits L):J3 L=some (L2 L):=by
 unfold J3;rw[JG,Ar];unfold L2
 cases hc:(decide (1<=L.length)&&decide (L.length<=64)) with
 | false=>rfl
 | true=>
  simp only[Fi,Az,Hn];have:=Lx (Cu L) (λj=>((j:Nat):Int)) (λi=>fx L.length (L.getD i [])) (.inl ()) (.inr false) L.length (λj hj hp=>?_) (λj hj hp=>?_) ?_
  ·rw[show Ah (Cu L) (0:Int)=_ from this]
   cases(List.range L.length).all λi=>fx L.length (L.getD i [])<;>rfl
  ·show Cu L (j:Int)=_
   unfold Cu;simp only[E9 hj,Ae];rw[Ac (I8 hj),GE L j (h.at j),hp];simp only[Ae,Ar,w1 (show j<4611686018427387904 by have:=h.1;omega)]
  ·show Cu L (j:Int)=_
   unfold Cu;simp only[E9 hj,Ae];rw[Ac (I8 hj),GE L j (h.at j),hp]
   rfl
  ·show Cu L _=_
   unfold Cu;simp only[Jk,Az]
theorem Ra{α:Type}{n i:Nat}{g:Nat->α}{d:α}(h:i<n):((List.range n).map g).getD i d=g i:=by simp[List.getD,h]
theorem NE{α:Type}{n i:Nat}{g:Nat->α}{x:α}:((List.range n).map g).set i x=(List.range n).map λj=>if j=i then x else g j:=by
 apply List.ext_getElem?
 intro j;rw[List.getElem?_set]
 by_cases hj:j<n
 ·by_cases hij:i=j
  ·subst hij;simp[hj]
  ·simp[hij,hj,Hk hij]
 ·simp[hj];intro h;omega
theorem P7{α:Type}{n:Nat}{g h:Nat->α}(H:∀ i,i<n->g i=h i):(List.range n).map g=(List.range n).map h:=NJ λi hi=>H i (zzL35.1 hi)
theorem mayS_iff{L:List (List Int)}:L2 L=true↔1<=L.length/\L.length<=64/\∀ i,i<L.length->fx L.length (L.getD i [])=true:=by
 unfold L2;rw[A6,A6,all_range];simp only[Du];exact⟨λ⟨⟨a,b⟩,c⟩=>⟨a,b,c⟩,λ⟨a,b,c⟩=>⟨⟨a,b⟩,c⟩⟩
theorem okL_iff{n:Nat}{l:List Int}:fx n l=true↔∀ i,i<l.length->(0<=l.getD i 0/\l.getD i 0<n)/\(0<i->l.getD (i-1) 0<l.getD i 0):=by
 unfold fx;rw[all_range];unfold du;simp only[A6,Du]
 constructor
 ·intro h i hi;obtain⟨h1,h2,h3⟩:=h i hi;refine⟨⟨h2,h3⟩,λhp=>?_⟩;rwa[if_neg (by omega)]at h1
 ·intro h i hi;obtain⟨⟨h2,h3⟩,h1⟩:=h i hi;refine⟨?_,h2,h3⟩
  by_cases hz:i=0
  ·rw[if_pos hz];omega
  ·rw[if_neg hz];exact h1 (by omega)
section
variable {n:Nat} {l:List Int} (h:fx n l=true)
include h
theorem Ze{i:Nat}(hi:i<l.length):0<=l.getD i 0/\l.getD i 0<n:=(okL_iff.1 h i hi).1
theorem dw{i j:Nat}(hij:i<j)(hj:j<l.length):l.getD i 0<l.getD j 0:=by
 induction j with
 | zero=>omega
 | succ j ih=>
  have h1:=(okL_iff.1 h (j+1) hj).2 (by omega);rw[show j+1-1=j by omega]at h1
  by_cases he:i=j
  ·rw[he];exact h1
  ·exact Int.lt_trans (ih (by omega) (by omega)) h1
theorem lD{i:Nat}(hi:i<l.length):(i:Int)<=l.getD i 0:=by
 induction i with
 | zero=>exact(Ze h hi).1
 | succ i ih=>
  have:=dw h (show i<i+1 by omega) hi;have:=ih (by omega);omega
theorem CV:l.length<=n:=by
 by_cases hz:l.length=0
 ·omega
 ·have h1:=lD h (show l.length-1<l.length by omega);have h2:=(Ze h (show l.length-1<l.length by omega)).2;omega
theorem XK{x:Int}(hx:x∈l):0<=x/\x<n:=by
 obtain⟨i,hi,rfl⟩:=Lq hx;have:=Ze h hi;rwa[Ab _ _ _ hi]at this
end
theorem lE{n:Nat}{l:List Int}(h1:∀ x∈l,0<=x/\x<n)(h2:l.Pairwise (·<·)):fx n l=true:=by
 rw[okL_iff];intro i hi;rw[Ab _ _ _ hi];refine⟨h1 _ (Yo hi),λhp=>?_⟩;rw[Ab _ _ _ (show i-1<l.length by omega)];exact(zzL99.1 h2) _ _ _ _ (by omega)
theorem Y9{L:List (List Int)}(h:L2 L=true):L.length<=64/\∀ l∈L,l.length<=64:=by
 obtain⟨h1,h2,h3⟩:=mayS_iff.1 h;refine⟨h2,λl hl=>?_⟩;obtain⟨i,hi,rfl⟩:=Lq hl;have:=CV (h3 i hi);rw[Ab _ _ _ hi]at this;omega
theorem iC{L:List (List Int)}(h:L.length<=1000/\∀ l∈L,l.length<=1000):Fits L:=⟨by omega,λl hl=>by have:=h.2 l hl;omega⟩
theorem QT(L:List (List Int))(k i:Nat):Kb L (k+1) i=Kb L k i++(if AQ L k i=true then[(k:Int)] else[]):=by
 unfold Kb;rw[Sk,NK,V2]
 congr 1
 cases hg:AQ L k i<;>simp[hg]
theorem Wq(L:List (List Int))(k i:Nat):(Kb L k i).length<=k:=by
 unfold Kb;rw[Nd];have:=List.length_filter_le (λk=>AQ L k i) (List.range k)
 simpa using this
theorem IW{l:List Int}{j:Nat}(hj:j<l.length):l.take (j+1)=l.take j++[l.getD j 0]:=by
 rw[Ab _ _ _ hj,VQ hj]
def Pm(L:List (List Int))(k j i:Nat):Bool:=((L.getD k []).take j).contains (i:Int)
def I5(L:List (List Int))(k j:Nat):List (List Int):=(List.range L.length).map λi=>Kb L k i++(if Pm L k j i=true then[(k:Int)] else[])
theorem OV(L:List (List Int))(h:L2 L=true)(k j:Nat)(hk:k<L.length)(hj:j<(L.getD k []).length) :
  (I5 L k j).set ((L.getD k []).getD j 0).toNat ((I5 L k j).getD ((L.getD k []).getD j 0).toNat []++[(k:Int)])=I5 L k (j+1):=by
 obtain⟨h1,h2,h3⟩:=mayS_iff.1 h;have hok:=h3 k hk;obtain⟨a0,a1⟩:=Ze hok hj;unfold I5;rw[Ra (by omega),NE]
 apply P7
 intro i hi
 have hnot:Pm L k j ((L.getD k []).getD j 0).toNat=false:=by
  unfold Pm;rw[V0 a0]
  cases hc:((L.getD k []).take j).contains ((L.getD k []).getD j 0) with
  | false=>rfl
  | true=>
   rw[GR]at hc;obtain⟨m,hm,he⟩:=Lq hc
   have hm':m<j:=by simp at hm;omega
   rw[List.getElem_take]at he;have:=dw hok hm' hj;rw[Ab _ _ _ (show m<(L.getD k []).length by omega),he]at this;omega
 by_cases hi2:i=((L.getD k []).getD j 0).toNat
 ·rw[if_pos hi2,hnot]
  have:Pm L k (j+1) i=true:=by
   unfold Pm;rw[IW hj,GR,hi2,V0 a0]
   simp
  rw[this,hi2]
  simp
 ·rw[if_neg hi2]
  have:Pm L k (j+1) i=Pm L k j i:=by
   unfold Pm;rw[IW hj,Ms,GR,GR,zzL11]
   constructor
   ·rintro(hm|hm)
    ·exact hm
    ·simp only[zzL15]at hm;exact(hi2 (by omega)).elim
   ·exact .inl
  rw[this]
theorem PR(L:List (List Int))(h:L2 L=true):Iu L=some (Fm L):=by
 obtain⟨h1,h2,h3⟩:=mayS_iff.1 h
 have hroom:(1000:Nat)<=room:=by decide
 unfold Iu;rw[Ac ⟨by omega,Int.le_refl _,by omega⟩,A4]
 have inner:∀ k,k<L.length->Ah (Ef L (k:Int)) ((0:Int),I5 L k 0)=some (I5 L k (L.getD k []).length):=λk hk=>by
  have hok:=h3 k hk;refine N2 (Ef L (k:Int)) (λj=>(((j:Nat):Int),I5 L k j)) (I5 L k (L.getD k []).length) (L.getD k []).length (λj hj=>?_) ?_
  ·obtain⟨a0,a1⟩:=Ze hok hj
   have hlen:(I5 L k j).length=L.length:=by simp[I5]
   have hl64:=CV hok
   show Ef L (k:Int) (_,_)=_
   unfold Ef;simp only[A4,E9 hj,Ae];have hb:Bv ((L.getD k []).getD j 0) (I5 L k j).length:=⟨a0,by rw[hlen];exact a1⟩
   have hrow:((I5 L k j).getD ((L.getD k []).getD j 0).toNat []).length<=k+1:=by
    unfold I5;rw[Ra (by omega),Em];have:=Wq L k ((L.getD k []).getD j 0).toNat
    split
    ·rw[Uf];omega
    ·rw[List.length_nil];omega
   rw[Ac (I8 hj),Ac hb,Ac hb,Ac (by simp only[Uf];omega),Ac hb,OV L h k j hk hj,w1 (by omega)]
  ·show Ef L (k:Int) (_,_)=_
   unfold Ef;simp only[A4,Jk,Az]
 have r0:∀ k,I5 L k 0=(List.range L.length).map (Kb L k):=λk=>by
  unfold I5
  apply P7
  intro i _;simp[Pm]
 have r1:∀ k,I5 L k (L.getD k []).length=(List.range L.length).map (Kb L (k+1)):=λk=>by
  unfold I5
  apply P7
  intro i _;rw[QT];unfold Pm AQ;rw[W0]
 have:Ah (Eg L) ((0:Int),(List.range L.length).map (Kb L 0))=some (Fm L):=N2 (Eg L) (λk=>(((k:Nat):Int),(List.range L.length).map (Kb L k))) (Fm L) L.length (λk hk=>?_) ?_
 ·have e0:(List.replicate L.length ([]:List Int))=(List.range L.length).map (Kb L 0):=by
   apply List.ext_getElem?
   intro i
   by_cases hi:i<L.length<;>simp[hi,List.getElem?_replicate,Kb]
  rw[e0,this];rfl
 ·show Eg L (_,_)=_
  unfold Eg;simp only[E9 hk,Ae];rw[Ac (I8 hk),<- r0,inner k hk,r1,w1 (by omega)]
  rfl
 ·show Eg L (_,_)=_
  unfold Eg;simp only[Jk,Az]
  rfl
theorem Ti{α:Type}[DecidableEq α]{a b:List α}{d:α}(h:a.length=b.length):((List.range a.length).all λi=>decide (a.getD i d=b.getD i d))=decide (a=b):=by
 rw[Ms,all_range,Du]
 constructor
 ·intro hall
  apply AA h
  intro i h1 h2;have:=Qk (hall i h1);rwa[Ab _ _ _ h1,Ab _ _ _ h2]at this
 ·rintro rfl i _
  simp
theorem MI{a b:Nat}:(((a:Nat):Int)!=(b:Int))=decide (a≠b):=by
 rw[Ms,zzL88,Du];omega
theorem MC{a b:Int}:(a !=b) = !decide (a=b):=by
 rw[Ms]
 simp
theorem MK(a b:List Int)(hb:b.length<4611686018427387904):Eh a b=some (decide (a=b)):=by
 unfold Eh;rw[MI]
 by_cases hl:a.length=b.length
 ·rw[Dm (by simpa using hl),Az];have:Ah (Bh a b) (0:Int)=_:=Lx (Bh a b) (λj=>((j:Nat):Int)) (λi=>decide (a.getD i 0=b.getD i 0)) (.inl ()) (.inr false) a.length (λj hj hp=>?_) (λj hj hp=>?_) ?_
  ·rw[this,Ti hl]
   cases decide (a=b)<;>rfl
  ·show Bh a b (j:Int)=_
   unfold Bh;simp only[A4,E9 hj,Ae];rw[Ac (I8 hj),Ac (I8 (by omega)),MC,hp,w1 (by omega)]
   rfl
  ·show Bh a b (j:Int)=_
   unfold Bh;simp only[A4,E9 hj,Ae];rw[Ac (I8 hj),Ac (I8 (by omega)),MC,hp]
   rfl
  ·show Bh a b _=_
   unfold Bh;simp only[Jk,Az]
 ·rw[Da (by simpa using hl),Ae,Dm (λh=>hl (by rw[h]))]
theorem k9(a b:List Int)(ha:a.length<4611686018427387904):Gv a b=some (decide (a=b)):=by
 unfold Gv;rw[MI]
 by_cases hl:a.length=b.length
 ·rw[Dm (by simpa using hl),Az];have:Ah (Bm a b) (0:Int)=_:=Lx (Bm a b) (λj=>((j:Nat):Int)) (λi=>decide (a.getD i 0=b.getD i 0)) (.inl ()) (.inr false) a.length (λj hj hp=>?_) (λj hj hp=>?_) ?_
  ·rw[this,Ti hl]
   cases decide (a=b)<;>rfl
  ·show Bm a b (j:Int)=_
   unfold Bm;simp only[A4,E9 hj,Ae];rw[Ac (I8 hj),Ac (I8 (by omega)),MC,hp,w1 (by omega)]
   rfl
  ·show Bm a b (j:Int)=_
   unfold Bm;simp only[A4,E9 hj,Ae];rw[Ac (I8 hj),Ac (I8 (by omega)),MC,hp]
   rfl
  ·show Bm a b _=_
   unfold Bm;simp only[Jk,Az]
 ·rw[Da (by simpa using hl),Ae,Dm (λh=>hl (by rw[h]))]
theorem PS(a b:List (List Int))(hb:Fits b):Cv a b=some (decide (a=b)):=by
 unfold Cv;rw[MI]
 by_cases hl:a.length=b.length
 ·rw[Dm (by simpa using hl),Az];have hb1:=hb.1;have:Ah (Aw a b) (0:Int)=_:=Lx (Aw a b) (λj=>((j:Nat):Int)) (λi=>decide (a.getD i []=b.getD i [])) (.inl ()) (.inr false) a.length (λj hj hp=>?_) (λj hj hp=>?_) ?_
  ·rw[this,Ti hl]
   cases decide (a=b)<;>rfl
  ·show Aw a b (j:Int)=_
   unfold Aw;simp only[A4,E9 hj,Ae];rw[Ac (I8 hj),Ac (I8 (by omega)),MK _ _ (hb.at j),hp,w1 (by omega)]
   rfl
  ·show Aw a b (j:Int)=_
   unfold Aw;simp only[A4,E9 hj,Ae];rw[Ac (I8 hj),Ac (I8 (by omega)),MK _ _ (hb.at j),hp]
   rfl
  ·show Aw a b _=_
   unfold Aw;simp only[Jk,Az]
 ·rw[Da (by simpa using hl),Ae,Dm (λh=>hl (by rw[h]))]
theorem Oa(L:List (List Int)):(Fm L).length=L.length:=by simp[Fm]
theorem JS{L:List (List Int)}{i:Nat}(hi:i<L.length):(Fm L).getD i []=Kb L L.length i:=by unfold Fm;rw[Ra hi]
theorem Rs{L:List (List Int)}(h:L2 L=true):(Fm L).length<=64/\∀ l∈Fm L,l.length<=64:=by
 obtain⟨h1,_⟩:=Y9 h;refine⟨by rw[Oa];exact h1,λl hl=>?_⟩;obtain⟨i,hi,rfl⟩:=zzL26.1 hl;have:=Wq L L.length i;omega
theorem Ww{L:List (List Int)}(h:L.length<=64/\∀ l∈L,l.length<=64):Fits L:=iC ⟨by omega,λl hl=>by have:=h.2 l hl;omega⟩
def Y8(g:C6):Bool:=L2 g.Succ&&decide (g.Pred=Fm g.Succ)
theorem jr(g:C6)(h:Fits g.Succ):O7 g=some (Y8 g):=by
 unfold O7 Y8;rw[af _ h,Ar]
 cases hm:L2 g.Succ with
 | false=>rfl
 | true=>
  simp only[Ql,Ae,PR _ hm,Ar,PS _ _ (Ww (Rs hm)),Hn]
def Yu(L:List (List Int)):C6:=⟨L,Fm L⟩
def g0:C6:=⟨[],[]⟩
theorem PU{L:List (List Int)}(h:L2 L=true):Y8 (Yu L)=true:=by simp[Y8,Yu,h]
theorem dS{L:List (List Int)}(h:L2 L=true):Fits (Yu L).Succ/\Fits (Yu L).Pred:=⟨Ww (Y9 h),Ww (Rs h)⟩
noncomputable section
def upd(s:Nat->Bool)(y:Nat):Nat->Bool:=λz=>decide (z=y) || s z
theorem upd_true{s:Nat->Bool}{y z:Nat}:upd s y z=true↔z=y\/s z=true:=by simp[upd]
theorem upd_false{s:Nat->Bool}{y z:Nat}:upd s y z=false↔z≠y/\s z=false:=by simp[upd]
inductive VL (S:Nat->List Nat):(Nat->Bool)->List Nat->(Nat->Bool)->List Nat->Prop
 | nil (s:Nat->Bool):VL S s [] s []
 | skip {s s':Nat->Bool} {y:Nat} {l o:List Nat} (h:s y=true) (t:VL S s l s' o):VL S s (y::l) s' o
 | step {s s1 s2:Nat->Bool} {y:Nat} {l o1 o2:List Nat} (h:s y=false) (a:VL S (upd s y) (S y) s1 o1) (b:VL S s1 l s2 o2):VL S s (y::l) s2 (o1++y::o2)
inductive Rch (S:Nat->List Nat):Nat->Nat->Prop
 | refl (x:Nat):Rch S x x
 | head {x y z:Nat} (h:y∈S x) (t:Rch S y z):Rch S x z
theorem Rch.tail{S:Nat->List Nat}{x y z:Nat}(h:Rch S x y)(hz:z∈S y):Rch S x z:=by
 induction h with
 | refl x=>exact .head hz (.refl _)
 | head h _ ih=>exact .head h (ih hz)
theorem Rch.trans{S:Nat->List Nat}{x y z:Nat}(h:Rch S x y)(k:Rch S y z):Rch S x z:=by
 induction h with
 | refl x=>exact k
 | head h _ ih=>exact .head h (ih k)
variable {S:Nat->List Nat} {s s':Nat->Bool} {l o:List Nat}
theorem VL.seen(h:VL S s l s' o)(z:Nat):s' z=true↔s z=true\/z∈o:=by
 induction h with
 | nil s=>simp
 | skip h _ ih=>exact ih
 | @step s s1 s2 y l o1 o2 h a b iha ihb=>
  rw[ihb,iha,upd_true];simp only[zzL11,zzL24]
  constructor
  ·rintro((( rfl|h1)|h1)|h1)
   ·exact .inr (.inr (.inl rfl))
   ·exact .inl h1
   ·exact .inr (.inl h1)
   ·exact .inr (.inr (.inr h1))
  ·rintro(h1|h1|rfl|h1)
   ·exact .inl (.inl (.inr h1))
   ·exact .inl (.inr h1)
   ·exact .inl (.inl (.inl rfl))
   ·exact .inr h1
theorem VL.fresh(h:VL S s l s' o){z:Nat}(hz:z∈o):s z=false:=by
 induction h with
 | nil s=>cases hz
 | skip h _ ih=>exact ih hz
 | @step s s1 s2 y l o1 o2 h a b iha ihb=>
  rcases zzL11.1 hz with h1|h1
  ·exact(upd_false.1 (iha h1)).2
  ·rcases zzL24.1 h1 with rfl|h1
   ·exact h
   ·have:=ihb h1
    cases hs:s z with
    | false=>rfl
    | true=>rw[(a.seen z).2 (.inl (upd_true.2 (.inr hs)))]at this;cases this
theorem VL.nodup(h:VL S s l s' o):o.Nodup:=by
 induction h with
 | nil s=>exact List.nodup_nil
 | skip h _ ih=>exact ih
 | @step s s1 s2 y l o1 o2 h a b iha ihb=>
  rw[List.nodup_append];refine⟨iha,zzL77.2 ⟨λhy=>?_,ihb⟩,λu hu v hv=>?_⟩
  ·have:=b.fresh hy;rw[(a.seen y).2 (.inl (upd_true.2 (.inl rfl)))]at this
   cases this
  ·rintro rfl;rcases zzL24.1 hv with rfl|hv
   ·have:=a.fresh hu;rw[upd_true.2 (.inl rfl)]at this
    cases this
   ·have:=b.fresh hv;rw[(a.seen u).2 (.inr hu)]at this
    cases this
theorem VL.rch(h:VL S s l s' o){z:Nat}(hz:z∈o):∃ y∈l,Rch S y z:=by
 induction h with
 | nil s=>cases hz
 | skip h _ ih=>obtain⟨y,hy,hr⟩:=ih hz;exact⟨y,Fh _ hy,hr⟩
 | @step s s1 s2 y l o1 o2 h a b iha ihb=>
  rcases zzL11.1 hz with h1|h1
  ·obtain⟨u,hu,hr⟩:=iha h1;exact⟨y,Jn ..,.head hu hr⟩
  ·rcases zzL24.1 h1 with rfl|h1
   ·exact⟨z,Jn ..,.refl z⟩
   ·obtain⟨u,hu,hr⟩:=ihb h1;exact⟨u,Fh _ hu,hr⟩
theorem VL.closed(h:VL S s l s' o):(∀ y∈l,s' y=true)/\∀ z∈o,∀ y∈S z,s' y=true:=by
 induction h with
 | nil s=>exact⟨(λ_ h=>by cases h),(λ_ h=>by cases h)⟩
 | @skip s s' y l o h t ih=>
  refine⟨λu hu=>?_,ih.2⟩;rcases zzL24.1 hu with rfl|hu
  ·exact(t.seen u).2 (.inl h)
  ·exact ih.1 u hu
 | @step s s1 s2 y l o1 o2 h a b iha ihb=>
  refine⟨λu hu=>?_,λz hz u hu=>?_⟩
  ·rcases zzL24.1 hu with rfl|hu
   ·exact(b.seen u).2 (.inl ((a.seen u).2 (.inl (upd_true.2 (.inl rfl)))))
   ·exact ihb.1 u hu
  ·rcases zzL11.1 hz with h1|h1
   ·exact(b.seen u).2 (.inl (iha.2 z h1 u hu))
   ·rcases zzL24.1 h1 with rfl|h1
    ·exact(b.seen u).2 (.inl (iha.1 u hu))
    ·exact ihb.2 z h1 u hu
theorem VL.above(h:VL S s l s' o)(hf:∀ z,∀ y∈S z,z<y){b:Nat}(hb:∀ y∈l,b<y):∀ z∈o,b<z:=by
 induction h generalizing b with
 | nil s=>intro z hz;cases hz
 | skip h _ ih=>exact ih (λy hy=>hb y (Fh _ hy))
 | @step s s1 s2 y l o1 o2 h a c iha ihb=>
  intro z hz;have hy:=hb y (Jn ..);rcases zzL11.1 hz with h1|h1
  ·exact iha (λu hu=>Nat.lt_trans hy (hf y u hu)) z h1
  ·rcases zzL24.1 h1 with rfl|h1
   ·exact hy
   ·exact ihb (λu hu=>hb u (Fh _ hu)) z h1
theorem VL.ahead(h:VL S s l s' o)(hf:∀ z,∀ y∈S z,z<y):∀ z∈o,∀ y∈S z,s y=true\/∃ A B,o=A++z::B/\y∈A:=by
 induction h with
 | nil s=>intro z hz;cases hz
 | skip h _ ih=>exact ih
 | @step s s1 s2 y l o1 o2 h a c iha ihb=>
  intro z hz u hu;rcases zzL11.1 hz with h1|h1
  ·have hzy:y<z:=a.above hf (λv hv=>hf y v hv) z h1;have hzu:=hf z u hu;rcases iha z h1 u hu with h2|⟨A,B,rfl,hA⟩
   ·rcases upd_true.1 h2 with rfl|h2
    ·omega
    ·exact .inl h2
   ·exact .inr ⟨A,B++y::o2,by simp,hA⟩
  ·rcases zzL24.1 h1 with rfl|h1z
   ·have hzu:=hf z u hu;rcases(a.seen u).1 (a.closed.1 u hu) with h2|h2
    ·rcases upd_true.1 h2 with rfl|h2
     ·omega
     ·exact .inl h2
    ·exact .inr ⟨o1,o2,rfl,h2⟩
   ·rcases ihb z h1z u hu with h2|⟨A,B,rfl,hA⟩
    ·rcases(a.seen u).1 h2 with h3|h3
     ·rcases upd_true.1 h3 with rfl|h3
      ·obtain⟨P,Q,rfl⟩:=List.append_of_mem h1z;exact .inr ⟨o1++u::P,Q,by simp,by simp⟩
      ·exact .inl h3
     ·obtain⟨P,Q,rfl⟩:=List.append_of_mem h1z;exact .inr ⟨o1++y::P,Q,by simp,by simp[h3]⟩
    ·exact .inr ⟨o1++y::A,B,by simp,by simp[hA]⟩
def NV(n:Nat)(s:Nat->Bool):Nat:=((List.range n).filter λz=>!s z).length
theorem Up{n:Nat}{s:Nat->Bool}{y:Nat}(hy:y<n)(h:s y=false):NV n (upd s y)+1=NV n s:=by
 unfold NV
 induction n with
 | zero=>omega
 | succ n ih=>
  rw[Sk,NK,NK,Em,Em]
  by_cases hyn:y=n
  ·subst hyn
   have e:(List.range y).filter (λz=>!upd s y z)=(List.range y).filter (λz=>!s z):=by
    apply List.filter_congr
    intro z hz;have:=zzL35.1 hz;simp[upd,show z≠y by omega]
   rw[e];simp[upd,h]
  ·have:=ih (by omega)
   have e:([n].filter λz=>!upd s y z).length=([n].filter λz=>!s z).length:=by
    simp only[List.filter_cons,List.filter_nil,upd];simp[Hk hyn]
   omega
theorem OU{n:Nat}{s s':Nat->Bool}(h:∀ z,s z=true->s' z=true):NV n s'<=NV n s:=by
 unfold NV
 apply List.Sublist.length_le
 have:(List.range n).filter (λz=>!s' z)=((List.range n).filter λz=>!s z).filter λz=>!s' z:=by
  rw[List.filter_filter]
  apply List.filter_congr
  intro z _
  cases hs:s z with
  | false=>simp
  | true=>simp[h z hs]
 rw[this];exact List.filter_sublist
theorem VL.exist{n:Nat}(hS:∀ z,z<n->∀ y∈S z,y<n):∀(m:Nat) (s:Nat->Bool),NV n s<=m->∀ l:List Nat,(∀ y∈l,y<n)->∃ s' o,VL S s l s' o:=by
 intro m
 induction m with
 | zero=>
  intro s hm l
  induction l with
  | nil=>intro _;exact⟨s,[],.nil s⟩
  | cons y l ih=>
   intro hl;obtain⟨s',o,h⟩:=ih (λz hz=>hl z (Fh _ hz))
   cases hy:s y with
   | true=>exact⟨s',o,.skip hy h⟩
   | false=>have:=Up (hl y (Jn ..)) hy;omega
 | succ m ih=>
  intro s hm l
  induction l generalizing s with
  | nil=>intro _;exact⟨s,[],.nil s⟩
  | cons y l ihl=>
   intro hl
   cases hy:s y with
   | true=>
    obtain⟨s',o,h⟩:=ihl s hm (λz hz=>hl z (Fh _ hz));exact⟨s',o,.skip hy h⟩
   | false=>
    have hyn:=hl y (Jn ..);have:=Up hyn hy;obtain⟨s1,o1,h1⟩:=ih (upd s y) (by omega) (S y) (hS y hyn);have h2:NV n s1<=NV n s:=OU λz hz=>(h1.seen z).2 (.inl (upd_true.2 (.inr hz)));obtain⟨s2,o2,h3⟩:=ihl s1 (by omega) (λz hz=>hl z (Fh _ hz));exact⟨s2,_,.step hy h1 h3⟩
def one(r:Nat):Nat->Bool:=λz=>decide (z=r)
def Ord(S:Nat->List Nat)(r:Nat)(L:List Nat):Prop:=∃ s' o,VL S (one r) (S r) s' o/\L=r::o.reverse
theorem Ord.exist{n:Nat}(hS:∀ z,z<n->∀ y∈S z,y<n){r:Nat}(hr:r<n):∃ L,Ord S r L:=by
 obtain⟨s',o,h⟩:=VL.exist hS _ (one r) (zzL7 _) (S r) (hS r hr);exact⟨_,s',o,h,rfl⟩
theorem Ord.mem{r:Nat}{L:List Nat}(h:Ord S r L)(z:Nat):z∈L↔Rch S r z:=by
 obtain⟨s',o,h,rfl⟩:=h
 have hs:∀ z,s' z=true↔z=r\/z∈o:=λz=>by rw[h.seen];simp[one]
 have hc:∀ x,s' x=true->∀ y∈S x,s' y=true:=λx hx y hy=>by
  rcases(hs x).1 hx with rfl|hx
  ·exact h.closed.1 y hy
  ·exact h.closed.2 x hx y hy
 simp only[zzL24,zzL96];rw[<- hs z]
 constructor
 ·intro hz;rcases(hs z).1 hz with rfl|hz
  ·exact .refl _
  ·obtain⟨y,hy,hr⟩:=h.rch hz;exact .head hy hr
 ·intro hr
  have key:∀ x z,Rch S x z->s' x=true->s' z=true:=by
   intro x z hxz
   induction hxz with
   | refl x=>exact id
   | head hy _ ih=>exact λhx=>ih (hc _ hx _ hy)
  exact key r z hr ((hs r).2 (.inl rfl))
theorem Ord.nodup{r:Nat}{L:List Nat}(h:Ord S r L):L.Nodup:=by
 obtain⟨s',o,h,rfl⟩:=h;refine zzL77.2 ⟨λhr=>?_,(List.reverse_perm o).nodup_iff.2 h.nodup⟩;have:=h.fresh (zzL96.1 hr);simp[one]at this
theorem Ord.fwd{r:Nat}{L:List Nat}(h:Ord S r L)(hf:∀ z,∀ y∈S z,z<y):∀ z∈L,∀ y∈S z,∃ A B,L=A++z::B/\y∈B:=by
 obtain⟨s',o,h,rfl⟩:=h;intro z hz y hy;have hzy:=hf z y hy;rcases zzL24.1 hz with rfl|hz
 ·refine⟨[],o.reverse,rfl,?_⟩;rcases(h.seen y).1 (h.closed.1 y hy) with h1|h1
  ·simp[one]at h1;omega
  ·exact zzL96.2 h1
 ·have hz:=zzL96.1 hz;have hrz:r<z:=h.above hf (λv hv=>hf r v hv) z hz;rcases h.ahead hf z hz y hy with h1|⟨A,B,rfl,hA⟩
  ·simp[one]at h1;omega
  ·exact⟨r::B.reverse,A.reverse,by simp,zzL96.2 hA⟩
end
theorem ae(l:List Int)(hl:l.length<4611686018427387904):Dz l=some l.reverse:=by
 unfold Dz
 by_cases h0:l.length=0
 ·obtain rfl:l=[]:=zzL106.1 h0
  have:Ah Bb ((0:Int),(Ap ((([]:List Int).length:Int)-1)),([]:List Int))=some []:=by
   apply Ai
   unfold Bb;rw[B1 (by simp) (by simp)]
   rfl
  rw[this];rfl
 ·have hw:Ap ((l.length:Int)-1)=((l.length-1:Nat):Int):=by rw[B1 (by omega) (by omega)];omega
  rw[hw]
  let C:Nat->List Int:=λk=>(List.range l.length).map λi=>if i<k\/l.length-1-k<i then l.getD (l.length-1-i) 0 else l.getD i 0
  have hC:∀ k i,i<l.length->(C k).getD i 0=if i<k\/l.length-1-k<i then l.getD (l.length-1-i) 0 else l.getD i 0:=λk i hi=>by simp only[C];rw[Ra hi]
  have hlen:∀ k,(C k).length=l.length:=λk=>by simp[C]
  have:=N2 Bb (λk=>(((k:Nat):Int),((l.length-1-k:Nat):Int),C k)) l.reverse (l.length / 2) (λk hk=>?_) ?_
  ·have e0:C 0=l:=by
    apply AA (by simp[C])
    intro i h1 h2;have:=hC 0 i h2;rw[Ab _ _ _ h1,Ab _ _ _ h2]at this;rw[this,if_neg (by omega)]
   have this':Ah Bb ((0:Int),((l.length-1:Nat):Int),l)=some l.reverse:=by
    have h2:=this;simp only[e0]at h2;exact h2
   rw[this'];rfl
  ·show Bb (_,_,_)=_
   unfold Bb
   have hlt:k<l.length-1-k:=by omega
   simp only[E9 hlt,Ae,A4];rw[Ac (I8 (by rw[hlen];omega)),Ac (I8 (by rw[hlen];omega)),Ac (I8 (by rw[hlen];omega)),Ac (I8 (by rw[hlen];omega))];rw[w1 (by omega),show Ap (((l.length-1-k:Nat):Int)-1)=((l.length-1-(k+1):Nat):Int) by rw[B1 (by omega) (by omega)];omega]
   congr 4
   rw[hC k _ (by omega),hC k _ (by omega),if_neg (by omega),if_neg (by omega)];simp only[C];rw[NE,NE]
   apply P7
   intro i hi
   by_cases h1:i=k
   ·subst h1;rw[if_neg (by omega),if_pos rfl,if_pos (by omega)]
   ·by_cases h2:i=l.length-1-k
    ·subst h2;rw[if_pos rfl,if_pos (by omega)]
     congr 1;omega
    ·rw[if_neg h2,if_neg h1]
     by_cases h3:i<k\/l.length-1-k<i
     ·rw[if_pos h3,if_pos (by omega)]
     ·rw[if_neg h3,if_neg (by omega)]
  ·show Bb (_,_,_)=_
   unfold Bb;have hd:decide (((l.length / 2:Nat):Int)<((l.length-1-l.length / 2:Nat):Int))=false:=Dm (by omega);simp only[hd,Az]
   congr 2
   apply AA (by simp[C])
   intro i h1 h2
   have h3:i<l.length:=by simpa [C] using h1
   have:=hC (l.length / 2) i h3;rw[Ab _ _ _ h1]at this;rw[this,List.getElem_reverse]
   split
   ·rw[Ab _ _ _ (by omega)]
   ·rw[Ab _ _ _ h3]
    congr 1;omega
theorem top{st:List Int}{a:Int}(h:st.length<4611686018427387904):(st++[a]).getD (Ap (((st++[a]).length:Int)-1)).toNat 0=a:=by
 have:Ap (((st++[a]).length:Int)-1)=((st.length:Nat):Int):=by rw[Em,Uf,B1 (by omega) (by omega)];omega
 rw[this,A4];simp[List.getD]
theorem m8{st:List Int}{a:Int}(h:st.length<4611686018427387904):Ap (((st++[a]).length:Int)-1)=((st.length:Nat):Int):=by
 rw[Em,Uf,B1 (by omega) (by omega)];omega
theorem f7{g:C6}{R:List Bool}{st T:List Int}{a:Nat}(hst:st.length<64)(ha:a<g.Succ.length)(h64:g.Succ.length<=64)(ht:T.getD a 0=((g.Succ.getD a []).length:Int)) :
  F3 g R (st++[(a:Int)]) T=some (.done (.inl T)):=by
 unfold F3;simp only[top (st:=st) (a:=(a:Int)) (by omega),A4];rw[Ac (I8 (by omega)),Ac (I8 ha),ht,Jk,Az]
theorem WG{g:C6}{R:List Bool}{st T:List Int}{a t y:Nat}(hst:st.length<64)(ha:a<g.Succ.length)(h64:g.Succ.length<=64)(ht:T.getD a 0=(t:Int))(htl:t<(g.Succ.getD a []).length)(htm:t<64)
  (hy:(g.Succ.getD a []).getD t 0=(y:Int)) (hyn:y<g.Succ.length) :
  F3 g R (st++[(a:Int)]) T=bif R.getD y false then some (.next (Kc 64 (0:Int) T a ((t+1:Nat):Int))) else some (.done (.inr (Kc 64 false R y true,Kc 64 (0:Int) T a ((t+1:Nat):Int),(st++[(a:Int)])++[(y:Int)]))):=by
 have hroom:(1000:Nat)<=room:=by decide
 unfold F3;simp only[top (st:=st) (a:=(a:Int)) (by omega),A4,ht,hy];rw[Ac (I8 (by omega)),Ac (I8 ha),E9 htl,Ae,Ac (I8 ha),Ac (I8 (by omega)),Ac (I8 htl),Ac (I8 (by omega)),Ac (I8 (by omega)),Ac (I8 (by omega)),w1 (by omega)]
 cases R.getD y false with
 | true=>rfl
 | false=>
  simp only[Lh,Ae,Az];rw[Ac (I8 (by omega)),Ac (by rw[Em,Uf,Uf];omega)]
theorem WF{g:C6}{R:List Bool}{st T Lf:List Int}{a:Nat}(hst:st.length<64)(hLf:Lf.length<64) :
  C0 g (R,T,st++[(a:Int)],Lf)=(Ah (F3 g R (st++[(a:Int)])) T).bind λx=>match x with
   | .inl T'=>if st=[] then some (.done (Lf++[(a:Int)]).reverse) else some (.next (R,T',st,Lf++[(a:Int)]))
   | .inr (R',T',st')=>some (.next (R',T',st',Lf)):=by
 have hroom:(1000:Nat)<=room:=by decide
 unfold C0;simp only
 have hb:Bv (Ap (((st++[(a:Int)]).length:Int)-1)) (st++[(a:Int)]).length:=by rw[m8 (by omega)];exact I8 (by simp)
 rw[Ac hb]
 congr 1
 funext x
 cases x with
 | inr y=>obtain⟨R',T',st'⟩:=y;rfl
 | inl T'=>
  simp only[top (st:=st) (a:=(a:Int)) (by omega)];rw[m8 (by omega),A4,Ac (by rw[Uf];omega),Ac ⟨by omega,by simp⟩];have e:(st++[(a:Int)]).take st.length=st:=List.take_left' rfl;rw[e]
  cases st with
  | nil=>
   rw[if_pos rfl]
   have:decide ((0:Int)<(([]:List Int).length:Int))=false:=by decide
   rw[this,Az,ae _ (by simp;omega)];simp only[Ar];rw[Ac (by simp)]
  | cons b st'=>
   rw[if_neg (by simp)];have:decide ((0:Int)<((b::st').length:Int))=true:=Da (by simp<;>omega);rw[this,Ae]
theorem UC{S X:Type}{f:S->Option (LR S X)}{a b:S}(h:f a=f b):Ah f a=Ah f b:=by
 cases hb:f b with
 | none=>rw[Wn (h.trans hb),Wn hb]
 | some r=>cases r with
  | done x=>rw[Ai (h.trans hb),Ai hb]
  | next s=>rw[Ao (h.trans hb),Ao hb]
theorem BI{S X:Type}{f:S->Option (LR S X)}{s:S}:Px (f s) f=Ah f s:=by
 unfold Px
 cases hb:f s with
 | none=>rw[Wn hb];rfl
 | some r=>cases r with
  | done x=>rw[Ai hb];rfl
  | next s'=>rw[Ao hb];rfl
def sN(L:List (List Int))(k:Nat):List Nat:=(L.getD k []).map Int.toNat
def RelS(R:List Bool)(s:Nat->Bool):Prop:=∀ z,z<64->R.getD z false=s z
theorem Nq{α:Type}{d:α}{l:List α}{i:Nat}{x:α}{k:Nat}(hk:k<64):(Kc 64 d l i x).getD k d=if k=i then x else l.getD k d:=by
 rw[KC hk]
 by_cases h:k=i
 ·subst h;simp
 ·have:Nat.beq k i=false:=by cases hb:Nat.beq k i with|false=>rfl|true=>exact absurd (B2 hb) h
  rw[this,if_neg h];rfl
theorem RelS.set{R:List Bool}{s:Nat->Bool}(h:RelS R s){y:Nat}:RelS (Kc 64 false R y true) (upd s y):=λz hz=>by
 rw[Nq hz,h z hz]
 by_cases hzy:z=y
 ·simp[upd,hzy]
 ·simp[upd,hzy]
def Pp(o:List Nat):List Int:=o.map Int.ofNat
theorem UM{g:C6}(hm:L2 g.Succ=true){s s':Nat->Bool}{l o:List Nat}(hv:VL (sN g.Succ) s l s' o) :
  ∀(R:List Bool) (T st Lf:List Int) (a t:Nat),RelS R s->a<g.Succ.length->l=(sN g.Succ a).drop t->T.getD a 0=(t:Int)->t<=(sN g.Succ a).length->s a=true->(∀ z,z<64->s z=false->T.getD z 0=0)->
   Lf.length+NV 64 s+st.length+1<=64->
   ∃(R':List Bool) (T':List Int),RelS R' s'/\(∀ z,z<64->s' z=false->T'.getD z 0=0)/\(∀ z,z<64->s z=true->z≠a->T'.getD z 0=T.getD z 0)/\Lf.length+o.length+NV 64 s'+st.length+1<=64 /\
    Ah (C0 g) (R,T,st++[(a:Int)],Lf)=if st=[] then some (Lf++Pp o++[(a:Int)]).reverse else Ah (C0 g) (R',T',st,Lf++Pp o++[(a:Int)]):=by
 obtain⟨hL1,hL64,hLok⟩:=mayS_iff.1 hm
 have hlenS:∀ a,(sN g.Succ a).length=(g.Succ.getD a []).length:=λa=>by simp[sN]
 have hdrop:∀(a t y:Nat) (l':List Nat),a<g.Succ.length->y::l'=(sN g.Succ a).drop t->t<(g.Succ.getD a []).length/\(g.Succ.getD a []).getD t 0=(y:Int)/\y<g.Succ.length/\l'=(sN g.Succ a).drop (t+1):=λa t y l' ha he=>by
  have ht:t<(sN g.Succ a).length:=by
   rcases zzL136 t (sN g.Succ a).length with h|h
   ·exact h
   ·rw[List.drop_eq_nil_of_le h]at he;cases he
  rw[Pg ht]at he;simp only[Cl]at he;obtain⟨h1,h2⟩:=he
  have ht':t<(g.Succ.getD a []).length:=by rw[<- hlenS];exact ht
  obtain⟨b0,b1⟩:=Ze (hLok a ha) ht'
  have h3:(sN g.Succ a)[t]=((g.Succ.getD a []).getD t 0).toNat:=by rw[Ab _ _ _ ht'];simp[sN]
  exact⟨ht',by omega,by omega,h2⟩
 induction hv with
 | nil s=>
  intro R T st Lf a t hR ha hl hT htl hsa hz hc
  have ht:t=(g.Succ.getD a []).length:=by
   have:=Cg List.length hl;simp at this;rw[hlenS]at htl this;omega
  refine⟨R,T,hR,hz,λ_ _ _ _=>rfl,by simpa using hc,?_⟩
  have hF:C0 g (R,T,st++[(a:Int)],Lf)=if st=[] then some (.done (Lf++[(a:Int)]).reverse) else some (.next (R,T,st,Lf++[(a:Int)])):=by
   rw[WF (by omega) (by omega),Ai (f7 (by omega) ha hL64 (by rw[hT,ht]))]
   rfl
  by_cases hst:st=[]
  ·rw[if_pos hst]at hF ⊢;rw[Ai hF];simp[Pp]
  ·rw[if_neg hst]at hF ⊢;rw[Ao hF];simp[Pp]
 | @skip s s' y l o h tl ih=>
  intro R T st Lf a t hR ha hl hT htl hsa hz hc;obtain⟨h1,h2,h3,h4⟩:=hdrop a t y l ha hl;have hb:=CV (hLok a ha);have hs:=WG (g:=g) (R:=R) (st:=st) (T:=T) (a:=a) (t:=t) (y:=y) (by omega) ha hL64 hT h1 (by omega) h2 h3;rw[hR y (by omega),h,Ae]at hs;obtain⟨R',T',a1,a2,a3,a4,a5⟩:=ih R (Kc 64 (0:Int) T a ((t+1:Nat):Int)) st Lf a (t+1) hR ha h4 (by rw[Nq (by omega),if_pos rfl]) (by rw[hlenS];omega) hsa
   (λz hz1 hz2=>by rw[Nq hz1,if_neg (by rintro rfl;rw[hsa]at hz2;cases hz2)];exact hz z hz1 hz2) hc
  refine⟨R',T',a1,a2,λz hz1 hz2 hz3=>by rw[a3 z hz1 hz2 hz3,Nq hz1,if_neg hz3],a4,?_⟩;rw[<- a5]
  apply UC
  rw[WF (by omega) (by omega),WF (by omega) (by omega),Ao hs]
 | @step s s1 s2 y l o1 o2 h tl tr ih1 ih2=>
  intro R T st Lf a t hR ha hl hT htl hsa hz hc;obtain⟨h1,h2,h3,h4⟩:=hdrop a t y l ha hl;have hb:=CV (hLok a ha)
  have hay:y≠a:=by rintro rfl;rw[hsa]at h;cases h
  have hs:=WG (g:=g) (R:=R) (st:=st) (T:=T) (a:=a) (t:=t) (y:=y) (by omega) ha hL64 hT h1 (by omega) h2 h3;rw[hR y (by omega),h,Az]at hs;have hcu:=Up (n:=64) (show y<64 by omega) h
  have hF:C0 g (R,T,st++[(a:Int)],Lf)=some (.next (Kc 64 false R y true,Kc 64 (0:Int) T a ((t+1:Nat):Int),(st++[(a:Int)])++[(y:Int)],Lf)):=by
   rw[WF (by omega) (by omega),Ai hs]
   rfl
  obtain⟨R1,T1,b1,b2,b3,b4,b5⟩:=ih1 (Kc 64 false R y true) (Kc 64 (0:Int) T a ((t+1:Nat):Int)) (st++[(a:Int)]) Lf y 0 hR.set h3 (by simp)
   (by rw[Nq (by omega),if_neg hay];exact hz y (by omega) h) (Li _) (upd_true.2 (.inl rfl))
   (λz hz1 hz2=>by
    obtain⟨c1,c2⟩:=upd_false.1 hz2;rw[Nq hz1,if_neg (by rintro rfl;rw[hsa]at c2;cases c2)]
    exact hz z hz1 c2) (by rw[Em,Uf];omega)
  rw[if_neg (by simp)]at b5
  have hTa:T1.getD a 0=((t+1:Nat):Int):=by rw[b3 a (by omega) (upd_true.2 (.inr hsa)) (Hk hay),Nq (by omega),if_pos rfl]
  rw[Em,Uf]at b4;obtain⟨R2,T2,c1,c2,c3,c4,c5⟩:=ih2 R1 T1 st (Lf++Pp o1++[(y:Int)]) a (t+1) b1 ha h4 hTa (by rw[hlenS];omega) ((tl.seen a).2 (.inl (upd_true.2 (.inr hsa)))) b2
   (by simp only[Em,Uf,Pp,Nd];omega)
  refine⟨R2,T2,c1,c2,λz hz1 hz2 hz3=>?_,?_,?_⟩
  ·rw[c3 z hz1 ((tl.seen z).2 (.inl (upd_true.2 (.inr hz2)))) hz3,b3 z hz1 (upd_true.2 (.inr hz2)) (by rintro rfl;rw[h]at hz2;cases hz2),Nq hz1,if_neg hz3]
  ·simp only[Em,Uf,Pp,Nd,Nc]at c4 ⊢;omega
  ·rw[Ao hF,b5,c5]
   have e:Lf++Pp o1++[(y:Int)]++Pp o2++[(a:Int)]=Lf++Pp (o1++y::o2)++[(a:Int)]:=by simp[Pp]
   rw[e]
theorem Vt{L:List (List Int)}(h:L2 L=true):∀ z,z<L.length->∀ y∈sN L z,y<L.length:=λz hz y hy=>by
 obtain⟨_,_,h3⟩:=mayS_iff.1 h;obtain⟨x,hx,rfl⟩:=zzL26.1 hy;have:=XK (h3 z hz) hx;omega
theorem hY{r:Nat}(hr:r<64):NV 64 (one r)=63:=by
 have h:=Up (n:=64) (s:=λ_=>false) hr rfl
 have e:upd (λ_=>false) r=one r:=by funext z;simp[upd,one]
 rw[e]at h
 have:NV 64 (λ_=>false)=64:=by decide
 omega
theorem Ob{α:Type}{n z:Nat}{d:α}:(List.replicate n d).getD z d=d:=by rw[Oi,List.getElem?_replicate];split<;>rfl
theorem ML(g:C6)(h:Fits g.Succ)(hP:True)(r:Int) :
  (Y8 g=true->0<=r->r<(g.Succ.length:Int)->∀ L,Ord (sN g.Succ) r.toNat L->G3 g r=some (Pp L)) /\
  ((Y8 g&&(decide (0<=r)&&decide (r<(g.Succ.length:Int))))=false->G3 g r=some []):=by
 refine⟨λhm h0 h1 L hL=>?_,λhf=>?_⟩
 ·have hms:L2 g.Succ=true:=by unfold Y8 at hm;exact(A6 _ _▸hm).1
  obtain⟨hL1,hL64,hLok⟩:=mayS_iff.1 hms;obtain⟨s',o,hv,rfl⟩:=hL;have hrn:((r.toNat:Nat):Int)=r:=V0 h0
  have hr:r.toNat<g.Succ.length:=by omega
  obtain⟨R',T',_,_,_,_,hmain⟩:=UM hms hv (Kc 64 false (List.replicate 64 false) r.toNat true) (List.replicate 64 (0:Int)) [] [] r.toNat 0
   (λz hz=>by rw[Nq hz,Ob];by_cases hzr:z=r.toNat<;>simp[one,hzr]) hr (by simp) Ob (Li _) (by simp[one])
   (λz hz _=>Ob) (by rw[hY (by omega)];simp)
  rw[if_pos rfl,hrn]at hmain;unfold G3;rw[jr _ h,hm,Ar];simp only[Fi,Ql,Ae,Az,P6,Da h0,Da h1,R0,Ar];rw[Ac ⟨h0,by omega⟩];have hF:∀ X,Ah (C0 g) (Kc 64 false (List.replicate 64 false) r.toNat true,List.replicate 64 (0:Int),[]++[r],[])=some X->
    (Px (C0 g (Kc 64 false (List.replicate 64 false) r.toNat true,List.replicate 64 (0:Int),[r],[])) (C0 g)).bind (λx=>some x)=some X:=λX hX=>by
   rw[BI];rw[Uh]at hX;rw[hX];rfl
  refine(hF _ hmain).trans ?_;simp only[Uh,List.reverse_append,Pp,Bu,List.map_reverse,List.reverse_cons,List.reverse_nil]
  simp
  omega
 ·unfold G3;rw[jr _ h,Ar]
  cases hm:Y8 g with
  | false=>rfl
  | true=>
   rw[hm,Hn]at hf;simp only[Fi,Ql,Ae,Az,P6,hf,Ar,Lh]
   rfl
def RelN(n:Nat)(R:List Bool)(s:Nat->Bool):Prop:=R.length=n/\∀ z,z<n->R.getD z false=s z
theorem RelN.set{n:Nat}{R:List Bool}{s:Nat->Bool}(h:RelN n R s){y:Nat}(hy:y<n):RelN n (R.set y true) (upd s y):=by
 refine⟨by rw[H8];exact h.1,λz hz=>?_⟩;rw[Oi,List.getElem?_set]
 by_cases hzy:y=z
 ·subst hzy;simp[upd,h.1,hy]
 ·rw[if_neg hzy,<- Oi,h.2 z hz];simp[upd,Hk hzy]
theorem L3:∀(n:Nat) (l:List Nat),l.Nodup->(∀ x∈l,x<n)->l.length<=n
 | 0,l,_,h=>by
  cases l with
  | nil=>simp
  | cons x l=>have:=h x (Jn ..);omega
 | n+1,l,hd,h=>by
  by_cases hn:n∈l
  ·have h1:=L3 n (l.erase n) (hd.erase n) λx hx=>by
    have h2:=(hd.mem_erase_iff).1 hx;have:=h x h2.2;have:=h2.1;omega
   rw[List.length_erase_of_mem hn]at h1;omega
  ·have h1:=L3 n l hd λx hx=>by
    have:=h x hx
    have:x≠n:=by rintro rfl;exact hn hx
    omega
   omega
theorem dn{p:Nat->Bool}{n:Nat}{x:Int}:x∈((List.range n).filter p).map Int.ofNat↔∃ k:Nat,x=(k:Int)/\k<n/\p k=true:=by
 simp only[zzL26,zzL66,zzL35]
 constructor
 ·rintro⟨k,⟨h1,h2⟩,rfl⟩;exact⟨k,rfl,h1,h2⟩
 ·rintro⟨k,rfl,h1,h2⟩;exact⟨k,⟨h1,h2⟩,rfl⟩
theorem dU{L:List (List Int)}{k i:Nat}:AQ L k i=true↔(i:Int)∈L.getD k []:=by unfold AQ;rw[GR]
def mk(o:List Bool)(l:List Nat):List Bool:=l.foldl (λo y=>o.set y true) o
theorem lC(l:List Nat):∀ o:List Bool,(mk o l).length=o.length:=by
 induction l with
 | nil=>intro o;rfl
 | cons y l ih=>intro o;show(mk (o.set y true) l).length=_;rw[ih,H8]
theorem mk_at{n:Nat}(l:List Nat):∀(o:List Bool),o.length=n->(∀ y∈l,y<n)->∀ z,(mk o l).getD z false=true↔o.getD z false=true\/z∈l:=by
 induction l with
 | nil=>intro o _ _ z;simp[mk]
 | cons y l ih=>
  intro o ho hl z
  show(mk (o.set y true) l).getD z false=true↔_
  rw[ih (o.set y true) (by rw[H8];exact ho) (λu hu=>hl u (Fh _ hu)) z];have hy:=hl y (Jn ..)
  have e:(o.set y true).getD z false=true↔o.getD z false=true\/z=y:=by
   rw[Oi,List.getElem?_set,Oi]
   by_cases h:y=z
   ·subst h;simp[ho,hy]
   ·simp[h,Hk h]
  rw[e,zzL24]
  constructor
  ·rintro((h|h)|h)
   ·exact .inl h
   ·exact .inr (.inl h)
   ·exact .inr (.inr h)
  ·rintro(h|h|h)
   ·exact .inl (.inl h)
   ·exact .inl (.inr h)
   ·exact .inr h
def sw(S:Nat->List Nat)(o:List Bool):Nat->List Bool
 | 0=>o
 | i+1=>if(sw S o i).getD i false=true then mk (sw S o i) (S i) else sw S o i
def JV(S:Nat->List Nat)(n:Nat)(o:List Bool):Nat->List Bool
 | 0=>o
 | j+1=>sw S (JV S n o j) n
section
variable {S:Nat->List Nat} {n:Nat} (hS:∀ z,z<n->∀ y∈S z,y<n)
theorem Zu(o:List Bool):∀ i,(sw S o i).length=o.length:=by
 intro i
 induction i with
 | zero=>rfl
 | succ i ih=>unfold sw;split;rw[lC,ih];exact ih
theorem iz(o:List Bool):∀ j,(JV S n o j).length=o.length:=by
 intro j
 induction j with
 | zero=>rfl
 | succ j ih=>unfold JV;rw[Zu,ih]
include hS
theorem DC{o:List Bool}(ho:o.length=n):∀ i,i<=n->∀ z,o.getD z false=true->(sw S o i).getD z false=true:=by
 intro i
 induction i with
 | zero=>intro _ z h;exact h
 | succ i ih=>
  intro hi z h;unfold sw
  split
  ·exact(mk_at (n:=n) _ _ (by rw[Zu];exact ho) (hS i (by omega)) z).2 (.inl (ih (by omega) z h))
  ·exact ih (by omega) z h
theorem eg{o:List Bool}{r:Nat}(ho:o.length=n)(h:∀ z,o.getD z false=true->Rch S r z):∀ i,i<=n->∀ z,(sw S o i).getD z false=true->Rch S r z:=by
 intro i
 induction i with
 | zero=>intro _ z hz;exact h z hz
 | succ i ih=>
  intro hi z hz;unfold sw at hz
  split at hz
  ·rename_i hsi
   rcases(mk_at (n:=n) _ _ (by rw[Zu];exact ho) (hS i (by omega)) z).1 hz with h1|h1
   ·exact ih (by omega) z h1
   ·exact(ih (by omega) i hsi).tail h1
  ·exact ih (by omega) z hz
theorem jJ{o:List Bool}(ho:o.length=n):∀ i,i<=n->∀ j,j<i->o.getD j false=true->∀ y∈S j,(sw S o i).getD y false=true:=by
 intro i
 induction i with
 | zero=>intro _ j hj;omega
 | succ i ih=>
  intro hi j hj hoj y hy;unfold sw
  by_cases hji:j=i
  ·subst hji;have h1:=DC hS ho j (by omega) j hoj;rw[if_pos h1];exact(mk_at (n:=n) _ _ (by rw[Zu];exact ho) (hS j (by omega)) y).2 (.inr hy)
  ·have h1:=ih (by omega) j (by omega) hoj y hy
   split
   ·exact(mk_at (n:=n) _ _ (by rw[Zu];exact ho) (hS i (by omega)) y).2 (.inl h1)
   ·exact h1
theorem bO{o:List Bool}(ho:o.length=n)(hc:∀ j,j<n->o.getD j false=true->∀ y∈S j,o.getD y false=true):∀ i,i<=n->∀ z,(sw S o i).getD z false=true->o.getD z false=true:=by
 intro i
 induction i with
 | zero=>intro _ z h;exact h
 | succ i ih=>
  intro hi z hz;unfold sw at hz
  split at hz
  ·rename_i hsi
   rcases(mk_at (n:=n) _ _ (by rw[Zu];exact ho) (hS i (by omega)) z).1 hz with h1|h1
   ·exact ih (by omega) z h1
   ·exact hc i (by omega) (ih (by omega) i hsi) z h1
  ·exact ih (by omega) z hz
theorem Ya{r:Nat}(hr:r<n)(z:Nat):(JV S n ((List.replicate n false).set r true) n).getD z false=true↔Rch S r z:=by
 let o0:=(List.replicate n false).set r true
 have ho0:o0.length=n:=by simp[o0]
 have hat0:∀ z,o0.getD z false=true↔z=r:=λz=>by
  show((List.replicate n false).set r true).getD z false=true↔z=r
  rw[Oi,List.getElem?_set]
  by_cases h:r=z
  ·subst h;simp[hr]
  ·rw[if_neg h,<- Oi,Ob];simp[Hk h]
 have hlen:∀ j,(JV S n o0 j).length=n:=λj=>by rw[iz,ho0]
 have hsound:∀ j z,(JV S n o0 j).getD z false=true->Rch S r z:=by
  intro j
  induction j with
  | zero=>intro z hz;rw[(hat0 z).1 hz];exact .refl _
  | succ j ih=>intro z hz;exact eg hS (hlen j) ih n (zzL7 _) z hz
 have hmono:∀ j,∀ z,o0.getD z false=true->(JV S n o0 j).getD z false=true:=by
  intro j
  induction j with
  | zero=>intro z h;exact h
  | succ j ih=>intro z h;exact DC hS (hlen j) n (zzL7 _) z (ih z h)
 let C:Nat->Prop:=λj=>∀ i,i<n->(JV S n o0 j).getD i false=true->∀ y∈S i,(JV S n o0 j).getD y false=true
 have key:∀ j,C j\/NV n (λz=>(JV S n o0 j).getD z false)+j+1<=n:=by
  intro j
  induction j with
  | zero=>
   refine .inr ?_;have h1:=Up (n:=n) (s:=λ_=>false) hr rfl
   have e:upd (λ_=>false) r=λz=>(JV S n o0 0).getD z false:=by
    funext z
    rw[Ms,upd_true]
    show _↔o0.getD z false=true
    rw[hat0]
    simp
   rw[e]at h1
   have hcl:NV n (λ_=>false)=n:=by
    unfold NV;rw[List.filter_eq_self.2 (by simp)]
    simp
   omega
  | succ j ih=>
   by_cases hc:C j
   ·refine .inl λi hi h y hy=>?_;have h1:=bO hS (hlen j) hc n (zzL7 _) i h;exact DC hS (hlen j) n (zzL7 _) y (hc i hi h1 y hy)
   ·rcases ih with ih|ih
    ·exact(hc ih).elim
    ·refine .inr ?_
     have hex:∃ i,i<n/\(JV S n o0 j).getD i false=true/\∃ y,y∈S i/\(JV S n o0 j).getD y false=false:=by
      simp only[C]at hc;simp only[Classical.not_forall]at hc;obtain⟨i,hi,h1,y,hy,h2⟩:=hc;exact⟨i,hi,h1,y,hy,by simpa using h2⟩
     obtain⟨i,hi,h1,y,hy,h2⟩:=hex;have h3:=jJ hS (hlen j) n (zzL7 _) i hi h1 y hy;have hyn:=hS i hi y hy;have h4:=Up (n:=n) (s:=λz=>(JV S n o0 j).getD z false) hyn h2
     have h5:NV n (λz=>(JV S n o0 (j+1)).getD z false)<=NV n (upd (λz=>(JV S n o0 j).getD z false) y):=OU λz hz=>by
      rcases upd_true.1 hz with rfl|hz
      ·exact h3
      ·exact DC hS (hlen j) n (zzL7 _) z hz
     omega
 have hC:C n:=by
  rcases key n with h|h
  ·exact h
  ·omega
 constructor
 ·exact hsound n z
 ·intro hrch
  have hlt:∀ x z,Rch S x z->x<n->z<n/\((JV S n o0 n).getD x false=true->(JV S n o0 n).getD z false=true):=by
   intro x z hxz
   induction hxz with
   | refl x=>exact λhx=>⟨hx,id⟩
   | @head x y z hy _ ih=>
    intro hx;have:=ih (hS x hx y hy);exact⟨this.1,λh=>this.2 (hC x hx h y hy)⟩
  exact(hlt r z hrch hr).2 (hmono n r ((hat0 r).2 rfl))
end
def pos:List Nat->Nat->Nat
 | [],_=>0
 | x::l,z=>if x=z then 0 else pos l z+1
theorem FM(x:Nat)(l:List Nat)(z:Nat):pos (x::l) z=if x=z then 0 else pos l z+1:=rfl
theorem iu{A l:List Nat}{z:Nat}(h:z∉A):pos (A++l) z=A.length+pos l z:=by
 induction A with
 | nil=>simp
 | cons x A ih=>
  have h1:x≠z:=λe=>h (by rw[e];exact Jn ..);have h2:z∉A:=λe=>h (Fh _ e);rw[BO,FM,if_neg h1,ih h2,Nc];omega
theorem CX{P:List Nat}(hd:P.Nodup){i:Nat}(hi:i<P.length):P[i]∉P.take i/\pos P P[i]=i:=by
 have e:P=P.take i++P[i]::P.drop (i+1):=by rw[<- Pg hi,List.take_append_drop]
 have hn:P[i]∉P.take i:=by
  rw[e]at hd;have:=(List.nodup_append.1 hd).2.2;exact λhm=>this _ hm _ (Jn ..) rfl
 refine⟨hn,?_⟩
 have h2:pos (P.take i++P[i]::P.drop (i+1)) P[i]=i:=by
  rw[iu hn]
  have:pos (P[i]::P.drop (i+1)) P[i]=0:=by rw[FM,if_pos rfl]
  rw[this,Wy];omega
 rw[<- e]at h2;exact h2
theorem OW(d:Array Int)(hs:∀ i j,i<=j->j<d.size->d[i]!<=d[j]!):∀ m,m<=d.size->(∀ x∈Lib.compactUpTo d m,∃ j,j<m/\x=d[j]!)/\(∀ j,j<m->d[j]!∈Lib.compactUpTo d m)/\(Lib.compactUpTo d m).Pairwise (·<·):=by
 intro m
 induction m with
 | zero=>intro _;exact⟨(λx hx=>by simp[Lib.compactUpTo]at hx),(λj hj=>by omega),by simp[Lib.compactUpTo]⟩
 | succ m ih=>
  intro hm;obtain⟨h1,h2,h3⟩:=ih (by omega);rw[Lib.compactUpTo_succ]
  cases hk:Lib.keeps d m with
  | true=>
   rw[if_pos rfl];refine⟨λx hx=>?_,λj hj=>?_,?_⟩
   ·rcases zzL11.1 hx with h|h
    ·obtain⟨j,hj,he⟩:=h1 x h;exact⟨j,by omega,he⟩
    ·exact⟨m,by omega,by simpa using h⟩
   ·by_cases hjm:j=m
    ·subst hjm;simp
    ·exact zzL11.2 (.inl (h2 j (by omega)))
   ·rw[zzL126];refine⟨h3,List.pairwise_singleton _ _,λx hx y hy=>?_⟩;obtain⟨j,hj,rfl⟩:=h1 x hx
    have hy':y=d[m]!:=by simpa using hy
    subst hy'
    have hk':m=0\/d[m]!≠d[m-1]!:=by simpa [Lib.keeps] using hk
    rcases hk' with h0|h0
    ·omega
    ·have a1:=hs j (m-1) (by omega) (by omega);have a2:=hs (m-1) m (by omega) (by omega);omega
  | false=>
   have hk':m≠0/\d[m]! = d[m-1]!:=by
    have:¬ (m=0\/d[m]!≠d[m-1]!):=by
     intro h
     have:Lib.keeps d m=true:=by simpa [Lib.keeps] using h
     rw[hk]at this;cases this
    exact⟨λh=>this (.inl h),Classical.not_not.1 λh=>this (.inr h)⟩
   simp only[Yl,E0,List.append_nil];refine⟨λx hx=>by obtain⟨j,hj,he⟩:=h1 x hx;exact⟨j,by omega,he⟩,λj hj=>?_,h3⟩
   by_cases hjm:j=m
   ·subst hjm;rw[hk'.2];exact h2 _ (by omega)
   ·exact h2 j (by omega)
def FW(l:List Int):List Int:=Lib.compact (l.mergeSort λx y=>decide (x<=y))
theorem bG(l:List Int):(FW l).Pairwise (·<·)/\∀ x,x∈FW l↔x∈l:=by
 unfold FW Lib.compact;have hp:(l.mergeSort λx y=>decide (x<=y)).Pairwise (λa b=>decide (a<=b)=true):=List.pairwise_mergeSort (λa b c h1 h2=>by simp at *;omega) (λa b=>by simp;omega) l;have hm:∀ x,x∈(l.mergeSort λx y=>decide (x<=y))↔x∈l:=λx=>List.mem_mergeSort
 generalize l.mergeSort (λx y=>decide (x<=y))=z at hp hm ⊢
 have hz:∀ j,j<z.length->z.toArray[j]! = z.getD j 0:=λj hj=>by simp[List.getD,hj]
 obtain⟨h1,h2,h3⟩:=OW z.toArray (λi j hij hj=>by
  have hj':j<z.length:=by simpa using hj
  rw[hz i (by omega),hz j hj']
  by_cases he:i=j
  ·rw[he];exact Int.le_refl _
  ·have:=(zzL99.1 hp) i j (by omega) hj' (by omega);rw[Ab _ _ _ (by omega),Ab _ _ _ hj']
   simpa using this) z.length (by simp)
 refine⟨h3,λx=>?_⟩;rw[<- hm x]
 constructor
 ·intro hx;obtain⟨j,hj,rfl⟩:=h1 x hx;rw[hz j hj];exact getD_mem hj
 ·intro hx;obtain⟨j,hj,rfl⟩:=Lq hx;have:=h2 j hj;rwa[hz j hj,Ab _ _ _ hj]at this
def j7(n:Nat)(l:List Int):Bool:=(List.range l.length).all λi=>decide (0<l.getD i 0)&&decide (l.getD i 0<(n:Int))
def j9(k:Int):Int:=([0,1,2,0]:List Int).getD k.toNat 0
def PH(e:Gh):Bool:=(decide (0<=e.Kind)&&decide (e.Kind<=3))&&decide ((e.To.length:Int)=j9 e.Kind)
def N0(e:Gh)(n:Nat):Bool:=PH e&&j7 n e.To
theorem toB_iff{n:Nat}{l:List Int}:j7 n l=true↔∀ x∈l,0<x/\x<n:=by
 unfold j7;rw[all_range];simp only[A6,Du]
 constructor
 ·intro h x hx;obtain⟨i,hi,rfl⟩:=Lq hx;have:=h i hi;rwa[Ab _ _ _ hi]at this
 ·intro h i hi;exact h _ (getD_mem hi)
theorem dD(e:Gh)(n:Nat)(hl:e.To.length<4611686018427387904):Ah (B9 e (n:Int)) (0:Int)=some (bif j7 n e.To then .inl () else .inr false):=by
 have step:∀ j:Nat,j<e.To.length->B9 e (n:Int) (j:Int)=bif (decide (0<e.To.getD j 0)&&decide (e.To.getD j 0<(n:Int))) then some (.next (((j+1:Nat):Int))) else some (.done (.inr false)):=λj hj=>by
  unfold B9;simp only[A4,E9 hj,Ae,P6,w1 (show j<4611686018427387904 by omega)];rw[Ac (I8 hj)]
  by_cases h0:e.To.getD j 0=0
  ·rw[h0];rfl
  ·have:(e.To.getD j 0==0)=false:=by rw[zzL25];exact h0
   rw[this];simp only[Ql,Ae,Az,Ar]
   have e1:decide (0<e.To.getD j 0)=decide (0<=e.To.getD j 0):=by apply zzL108.2;omega
   rw[e1]
   cases(decide (0<=e.To.getD j 0)&&decide (e.To.getD j 0<(n:Int)))<;>rfl
 have:=Lx (B9 e (n:Int)) (λj=>((j:Nat):Int)) (λi=>decide (0<e.To.getD i 0)&&decide (e.To.getD i 0<(n:Int))) (.inl ()) (.inr false) e.To.length (λj hj hp=>?_) (λj hj hp=>?_) ?_
 ·exact this
 ·show B9 e (n:Int) (j:Int)=_
  rw[step j hj,hp];rfl
 ·show B9 e (n:Int) (j:Int)=_
  rw[step j hj,hp];rfl
 ·show B9 e (n:Int) _=_
  unfold B9;simp only[Jk,Az]
theorem Xj(e:Gh)(n:Nat)(w:Int)(hw:0<=w/\w<=2) :
  (bif ((e.To.length:Int)!=w) then(some false) else((Ah (B9 e (n:Int)) (0:Int)).bind (λx10=>(match x10 with|(.inl _)=>(some true)|(.inr r12)=>(some r12)))))=some (decide ((e.To.length:Int)=w)&&j7 n e.To):=by
 by_cases h:(e.To.length:Int)=w
 ·rw[show((e.To.length:Int)!=w)=false by simpa using h,Az,dD e n (by omega),Da h]
  cases j7 n e.To<;>rfl
 ·rw[show((e.To.length:Int)!=w)=true by simpa using h,Ae,Dm h];rfl
theorem aa(e:Gh)(n:Nat):J2 e (n:Int)=some (N0 e n):=by
 unfold J2 N0 PH
 by_cases h0:e.Kind=0
 ·rw[h0];exact Xj e n 0 (by omega)
 by_cases h1:e.Kind=1
 ·rw[h1];exact Xj e n 1 (by omega)
 by_cases h2:e.Kind=2
 ·rw[h2];exact Xj e n 2 (by omega)
 by_cases h3:e.Kind=3
 ·rw[h3];exact Xj e n 0 (by omega)
 have e0:(e.Kind==0)=false:=by rw[zzL25];exact h0
 have e1:(e.Kind==1)=false:=by rw[zzL25];exact h1
 have e2:(e.Kind==2)=false:=by rw[zzL25];exact h2
 have e3:(e.Kind==3)=false:=by rw[zzL25];exact h3
 rw[e0,e1,e2,e3]
 have:(decide (0<=e.Kind)&&decide (e.Kind<=3))=false:=by
  by_cases h:0<=e.Kind
  ·rw[Dm (show ¬ e.Kind<=3 by omega)];simp
  ·rw[Dm h];rfl
 rw[this]
 rfl
theorem dK{e:Gh}{n:Nat}(h:N0 e n=true):e.To.length<=2:=by
 unfold N0 PH at h;simp only[A6,Du]at h;obtain⟨⟨⟨h0,h1⟩,h2⟩,_⟩:=h
 have:j9 e.Kind<=2:=by
  have:e.Kind=0\/e.Kind=1\/e.Kind=2\/e.Kind=3:=by omega
  rcases this with h|h|h|h<;>rw[h]<;>decide
 omega
theorem iD{e:Gh}{n:Nat}(h:N0 e n=true):j7 n e.To=true:=by unfold N0 at h;exact(A6 _ _▸h).2
def Nz(f:Aa)(i:Nat):Gh:=(f.Blocks.getD i (default:Ag)).End
def Eu(f:Aa):List (List Int):=(List.range f.Blocks.length).map λi=>FW (Nz f i).To
def Oe(f:Aa):Bool:=(decide (1<=f.Blocks.length)&&decide (f.Blocks.length<=64))&&(List.range f.Blocks.length).all λi=>N0 (Nz f i) f.Blocks.length
theorem shape_iff{f:Aa}:Oe f=true↔(1<=f.Blocks.length/\f.Blocks.length<=64)/\∀ i,i<f.Blocks.length->N0 (Nz f i) f.Blocks.length=true:=by
 unfold Oe;rw[A6,A6,all_range];simp only[Du]
theorem jE{f:Aa}{i:Nat}(h:N0 (Nz f i) f.Blocks.length=true):fx f.Blocks.length (FW (Nz f i).To)=true:=by
 obtain⟨h1,h2⟩:=bG (Nz f i).To;exact lE (λx hx=>by have:=(toB_iff.1 (iD h)) x ((h2 x).1 hx);omega) h1
theorem Tz{f:Aa}(h:Oe f=true):L2 (Eu f)=true:=by
 obtain⟨⟨h1,h2⟩,h3⟩:=shape_iff.1 h
 have hl:(Eu f).length=f.Blocks.length:=by simp[Eu]
 refine mayS_iff.2 ⟨by omega,by omega,λi hi=>?_⟩;rw[hl]at hi ⊢;unfold Eu;rw[Ra hi];exact jE (h3 i hi)
theorem oY(f:Aa)(hf:f.Blocks.length<=maxLen):Ri f=some (bif Oe f then(Yu (Eu f),0) else(g0,5)):=by
 have hroom:(1000:Nat)<=room:=by decide
 unfold Ri;rw[JG,Ar];have hsh:Oe f=((decide (1<=f.Blocks.length)&&decide (f.Blocks.length<=64))&&(List.range f.Blocks.length).all λi=>N0 (Nz f i) f.Blocks.length):=rfl
 cases hc:(decide (1<=f.Blocks.length)&&decide (f.Blocks.length<=64)) with
 | false=>rw[hsh,hc];rfl
 | true=>
  have hc':=hc;simp only[A6,Du]at hc';simp only[Fi,Az];rw[Ac ⟨by omega,Int.le_refl _,by omega⟩,A4]
  let U:Nat->List (List Int):=λi=>(List.range f.Blocks.length).map λj=>if j<i then FW (Nz f j).To else[]
  have e0:List.replicate f.Blocks.length ([]:List Int)=U 0:=by
   simp only[U]
   apply List.ext_getElem?
   intro j
   by_cases hj:j<f.Blocks.length<;>simp[hj,List.getElem?_replicate]
  have eN:U f.Blocks.length=Eu f:=by
   simp only[U,Eu]
   apply P7
   intro j hj;rw[if_pos hj]
  rw[e0]
  have hstep:∀ i:Nat,i<f.Blocks.length->E5 f ((i:Int),U i)=bif N0 (Nz f i) f.Blocks.length then some (.next (((i+1:Nat):Int),U (i+1))) else some (.done (.inr (g0,5))):=λi hi=>by
   unfold E5;simp only[E9 hi,Ae,A4];rw[Ac (I8 hi)];have he:(⟨(f.Blocks.getD i (default:Ag)).End.Kind,(f.Blocks.getD i (default:Ag)).End.Arg,(f.Blocks.getD i (default:Ag)).End.To⟩:Gh)=Nz f i:=rfl;rw[he,aa,Ar]
   cases hfit:N0 (Nz f i) f.Blocks.length with
   | false=>rfl
   | true=>
    have hl2:=dK hfit;simp only[Fi,Az,Ae]
    have hx:Yj (f.Blocks.getD i (default:Ag)).End.To=some (FW (Nz f i).To):=by
     unfold Yj;rw[XE,Ac (by show(Nz f i).To.length<=_;omega)]
     rfl
    rw[hx,Ar,Ac (I8 (by simp[U];omega)),w1 (by omega)]
    congr 3
    simp only[U];rw[NE]
    apply P7
    intro j hj
    by_cases h1:j=i
    ·subst h1;rw[if_pos rfl,if_pos (by omega)]
    ·rw[if_neg h1]
     by_cases h2:j<i
     ·rw[if_pos h2,if_pos (by omega)]
     ·rw[if_neg h2,if_neg (by omega)]
  have:=Lx (E5 f) (λi=>(((i:Nat):Int),U i)) (λi=>N0 (Nz f i) f.Blocks.length) (.inl (U f.Blocks.length)) (.inr (g0,5)) f.Blocks.length (λi hi hp=>?_) (λi hi hp=>?_) ?_
  ·rw[show Ah (E5 f) ((0:Int),U 0)=_ from this,hsh,hc,eN,Hn]
   cases hall:(List.range f.Blocks.length).all λi=>N0 (Nz f i) f.Blocks.length with
   | false=>rfl
   | true=>
    simp only[Ae,Ar];rw[PR _ (Tz (by rw[hsh,hc,hall];rfl))]
    rfl
  ·show E5 f (_,_)=_
   rw[hstep i hi,hp];rfl
  ·show E5 f (_,_)=_
   rw[hstep i hi,hp];rfl
  ·show E5 f (_,_)=_
   unfold E5;simp only[Jk,Az]
inductive Rc (S:Nat->List Nat) (r:Nat):Nat->Prop
 | root:Rc S r r
 | step {x y:Nat} (h:Rc S r x) (hy:y∈S x):Rc S r y
inductive Av (S:Nat->List Nat) (r z:Nat):Nat->Prop
 | root (h:r≠z):Av S r z r
 | step {x y:Nat} (h:Av S r z x) (hy:y∈S x) (hz:y≠z):Av S r z y
inductive AvN (S:Nat->List Nat) (r z:Nat):Nat->Nat->Prop
 | root (h:r≠z) (k:Nat):AvN S r z k r
 | step {k x y:Nat} (h:AvN S r z k x) (hy:y∈S x) (hz:y≠z):AvN S r z (k+1) y
section
variable {S:Nat->List Nat} {r:Nat}
theorem rc_iff{x:Nat}:Rc S r x↔Rch S r x:=by
 constructor
 ·intro h
  induction h with
  | root=>exact .refl _
  | step _ hy ih=>exact ih.tail hy
 ·intro h
  have key:∀ a b,Rch S a b->Rc S r a->Rc S r b:=by
   intro a b hab
   induction hab with
   | refl x=>exact id
   | head hy _ ih=>exact λha=>ih (.step ha hy)
  exact key _ _ h .root
def wo(S:Nat->List Nat)(z:Nat):Nat->List Nat:=λx=>(S x).filter λy=>decide (y≠z)
theorem av_iff{z x:Nat}:Av S r z x↔r≠z/\Rch (wo S z) r x:=by
 constructor
 ·intro h
  induction h with
  | root h=>exact⟨h,.refl _⟩
  | step _ hy hz ih=>exact⟨ih.1,ih.2.tail (zzL66.2 ⟨hy,by simpa using hz⟩)⟩
 ·rintro⟨hr,h⟩
  have key:∀ a b,Rch (wo S z) a b->Av S r z a->Av S r z b:=by
   intro a b hab
   induction hab with
   | refl x=>exact id
   | head hy _ ih=>
    obtain⟨h1,h2⟩:=zzL66.1 hy;exact λha=>ih (.step ha h1 (by simpa using h2))
  exact key _ _ h (.root hr)
theorem Av.rc{z x:Nat}(h:Av S r z x):Rc S r x:=by
 induction h with
 | root _=>exact .root
 | step _ hy _ ih=>exact .step ih hy
theorem Av.ne{z x:Nat}(h:Av S r z x):x≠z:=by
 cases h with
 | root h=>exact h
 | step _ _ hz=>exact hz
theorem AvN.av{z k x:Nat}(h:AvN S r z k x):Av S r z x:=by
 induction h with
 | root h=>exact .root h
 | step _ hy hz ih=>exact .step ih hy hz
theorem AvN.up{z k x:Nat}(h:AvN S r z k x):AvN S r z (k+1) x:=by
 induction h with
 | root h k=>exact .root h _
 | step _ hy hz ih=>exact .step ih hy hz
theorem AvN.mono{z k m x:Nat}(h:AvN S r z k x)(hm:k<=m):AvN S r z m x:=by
 obtain⟨d,rfl⟩:=Nat.exists_eq_add_of_le hm;clear hm
 induction d with
 | zero=>exact h
 | succ d ih=>exact ih.up
theorem Av.avn{z x:Nat}(h:Av S r z x):∃ k,AvN S r z k x:=by
 induction h with
 | root h=>exact⟨0,.root h 0⟩
 | step _ hy hz ih=>obtain⟨k,hk⟩:=ih;exact⟨k+1,.step hk hy hz⟩
theorem AvN.via {z k x : Nat} (h : AvN S r z k x) (y : Nat) : AvN S r y k x ∨ AvN S r z k y := by
  induction h with
  | root h k => by_cases hy : r = y
                · subst hy; exact .inr (.root h _)
                · exact .inl (.root hy _)
  | @step k x w h hy hz ih =>
    rcases ih with h1 | h1
    · by_cases hw : w = y
      · subst hw; exact .inr (.step h hy hz)
      · exact .inl (.step h1 hy hw)
    · exact .inr h1.up
theorem ZA(n:Nat):∃ K,∀ z,z<n->∀ x,x<n->Av S r z x->AvN S r z K x:=by
 have one:∀ z m,∃ K,∀ x,x<m->Av S r z x->AvN S r z K x:=by
  intro z m
  induction m with
  | zero=>exact⟨0,λx hx=>absurd hx (Mt x)⟩
  | succ m ih=>
   obtain⟨K,hK⟩:=ih
   by_cases h:Av S r z m
   ·obtain⟨k,hk⟩:=h.avn;refine⟨max K k,λx hx ha=>?_⟩;rcases zzL118.1 hx with h1|rfl
    ·exact(hK x h1 ha).mono (Nat.le_max_left ..)
    ·exact hk.mono (Nat.le_max_right ..)
   ·refine⟨K,λx hx ha=>?_⟩;rcases zzL118.1 hx with h1|rfl
    ·exact hK x h1 ha
    ·exact absurd ha h
 have two:∀ m,∃ K,∀ z,z<m->∀ x,x<n->Av S r z x->AvN S r z K x:=by
  intro m
  induction m with
  | zero=>exact⟨0,λx hx=>absurd hx (Mt x)⟩
  | succ m ih=>
   obtain⟨K,hK⟩:=ih;obtain⟨k,hk⟩:=one m n;refine⟨max K k,λz hz x hx ha=>?_⟩;rcases zzL118.1 hz with h1|rfl
   ·exact(hK z h1 x hx ha).mono (Nat.le_max_left ..)
   ·exact(hk x hx ha).mono (Nat.le_max_right ..)
 exact two n
end
inductive UpTo (par:Nat->Int):Nat->Nat->Prop
 | refl (x:Nat):UpTo par x x
 | up {x y z:Nat} (h:par x=(y:Int)) (t:UpTo par y z):UpTo par x z
inductive Fw (S:Nat->List Nat) (at_:Nat->Nat) (u:Nat):Nat->Prop
 | refl:Fw S at_ u u
 | step {v w:Nat} (h:Fw S at_ u v) (hw:w∈S v) (hl:at_ v<at_ w):Fw S at_ u w
section
variable {S:Nat->List Nat} {at_:Nat->Nat} {par:Nat->Int}
theorem Fw.le{u w:Nat}(h:Fw S at_ u w):at_ u<=at_ w:=by
 induction h with
 | refl=>exact zzL7 _
 | step _ _ hl ih=>omega
theorem Fw.trans{u v w:Nat}(h:Fw S at_ u v)(k:Fw S at_ v w):Fw S at_ u w:=by
 induction k with
 | refl=>exact h
 | step _ hw hl ih=>exact .step ih hw hl
theorem Fw.av{r d u w:Nat}(h:Fw S at_ u w)(ha:Av S r d u)(hd:at_ d<at_ u):Av S r d w:=by
 induction h with
 | refl=>exact ha
 | @step v w h hw hl ih=>exact .step ih hw (by rintro rfl;have:=h.le;omega)
theorem UpTo.trans{x y z:Nat}(h:UpTo par x y)(k:UpTo par y z):UpTo par x z:=by
 induction h with
 | refl x=>exact k
 | up h _ ih=>exact .up h (ih k)
theorem anc_up{x p z:Nat}(h:par x=(p:Int)):UpTo par x z↔z=x\/UpTo par p z:=by
 constructor
 ·intro k
  cases k with
  | refl=>exact .inl rfl
  | up h' t=>rw[h]at h';cases V5 h';exact .inr t
 ·rintro(rfl|k)
  ·exact .refl _
  ·exact .up h k
theorem CK{x z:Nat}(h:∀ p:Nat,par x≠(p:Int)):UpTo par x z↔z=x:=by
 constructor
 ·intro k
  cases k with
  | refl=>rfl
  | up h' t=>exact absurd h' (h _)
 ·rintro rfl;exact .refl _
structure Inv(S:Nat->List Nat)(r n:Nat)(at_:Nat->Nat)(par:Nat->Int):Prop where
 top:par r = -1
 kind:∀ x,x<n->par x = -2\/x=r\/∃ z:Nat,par x=(z:Int)
 up:∀ x,x<n->∀ z:Nat,par x=(z:Int)->z<n/\par z≠-2/\at_ z<at_ x/\Fw S at_ z x
 rc:∀ x,x<n->par x≠-2->Rc S r x
 all:∀ x,x<n->par x≠-2->∀ d,¬ UpTo par x d->Av S r d x
end
section
variable {S:Nat->List Nat} {at_:Nat->Nat} {par:Nat->Int} {r n:Nat}
theorem Inv.anc(h:Inv S r n at_ par){x z:Nat}(k:UpTo par x z)(hx:x<n)(hp:par x≠-2):z<n/\par z≠-2/\at_ z<=at_ x/\Fw S at_ z x:=by
 induction k with
 | refl x=>exact⟨hx,hp,zzL7 _,.refl⟩
 | @up x y z hxy t ih=>
  obtain⟨h1,h2,h3,h4⟩:=h.up x hx y hxy;obtain⟨i1,i2,i3,i4⟩:=ih h1 h2;exact⟨i1,i2,by omega,i4.trans h4⟩
theorem Inv.root_anc(h:Inv S r n at_ par){z:Nat}:UpTo par r z↔z=r:=CK λp hp=>by rw[h.top]at hp;omega
theorem Inv.strict(h:Inv S r n at_ par){x z:Nat}(k:UpTo par x z)(hx:x<n)(hp:par x≠-2):z=x\/at_ z<at_ x:=by
 cases k with
 | refl=>exact .inl rfl
 | up hxy t=>
  obtain⟨h1,h2,h3,h4⟩:=h.up x hx _ hxy;obtain⟨i1,i2,i3,i4⟩:=h.anc t h1 h2;exact .inr (by omega)
theorem Inv.antisymm(h:Inv S r n at_ par){x z:Nat}(k:UpTo par x z)(m:UpTo par z x)(hx:x<n)(hp:par x≠-2):z=x:=by
 rcases h.strict k hx hp with rfl|h1
 ·rfl
 ·obtain⟨i1,i2,i3,i4⟩:=h.anc k hx hp;have:=(h.anc m i1 i2).2.2.1;omega
def MeetAt(par:Nat->Int)(a b m:Nat):Prop:=∀ w,UpTo par m w↔UpTo par a w/\UpTo par b w
theorem JH{a:Nat}:MeetAt par a a a:=λw=>by simp
theorem am{a b m:Nat}(h:MeetAt par a b m):MeetAt par b a m:=λw=>by rw[h w];exact And.comm
theorem Inv.meet_left(h:Inv S r n at_ par)(hinj:∀ x y,x<n->y<n->par x≠-2->par y≠-2->at_ x=at_ y->x=y){a b p m:Nat}(ha:a<n)(hpa:par a≠-2)(hb:b<n)(hpb:par b≠-2)(hab:a≠b)(hl:at_ b<=at_ a)(hp:par a=(p:Int))(k:MeetAt par p b m):MeetAt par a b m:=λw=>by
 rw[k w]
 constructor
 ·rintro⟨h1,h2⟩;exact⟨.up hp h1,h2⟩
 ·rintro⟨h1,h2⟩;rcases(anc_up hp).1 h1 with rfl|h1
  ·exfalso
   rcases h.strict h2 hb hpb with h3|h3
   ·exact hab h3
   ·omega
  ·exact⟨h1,h2⟩
end
section
variable {S:Nat->List Nat} {at_:Nat->Nat} {par:Nat->Int} {r n:Nat}
def Lc(par:Nat->Int)(y:Nat)(v:Int):Nat->Int:=λx=>if x=y then v else par x
def SO(S:Nat->List Nat)(n:Nat)(par:Nat->Int)(y z:Nat):Prop:=∀ w,UpTo par z w↔∀ p,p<n->y∈S p->par p≠-2->UpTo par p w
theorem AJ{y:Nat}{v:Int}{x z:Nat}(k:UpTo par x z)(hy:¬ UpTo par x y):UpTo (Lc par y v) x z:=by
 induction k with
 | refl x=>exact .refl _
 | @up x q z h t ih=>
  have hxy:x≠y:=by rintro rfl;exact hy (.refl _)
  refine .up (y:=q) ?_ (ih λk=>hy (.up h k));unfold Lc;rw[if_neg hxy];exact h
theorem OG{y:Nat}{v:Int}{x:Nat}(k:UpTo par x y):UpTo (Lc par y v) x y:=by
 induction k with
 | refl x=>exact .refl _
 | @up x q z h t ih=>
  by_cases hxy:x=z
  ·subst hxy;exact .refl _
  ·refine .up (y:=q) ?_ ih;unfold Lc;rw[if_neg hxy];exact h
theorem anc_upd_inv{y:Nat}{v:Int}{x w:Nat}(k:UpTo (Lc par y v) x w):UpTo par x w\/(UpTo par x y/\UpTo (Lc par y v) y w):=by
 induction k with
 | refl x=>exact .inl (.refl _)
 | @up x q w h t ih=>
  by_cases hxy:x=y
  ·subst hxy;exact .inr ⟨.refl _,.up h t⟩
  ·unfold Lc at h;rw[if_neg hxy]at h;rcases ih with h1|⟨h1,h2⟩
   ·exact .inl (.up h h1)
   ·exact .inr ⟨.up h h1,h2⟩
theorem low_or{y:Nat}{v:Int}{x d:Nat}(k:UpTo par x y)(hd:UpTo par x d):UpTo par y d\/UpTo (Lc par y v) x d:=by
 induction k with
 | refl x=>exact .inl hd
 | @up x q y hq t ih=>
  by_cases e:x=y
  ·subst e;exact .inl hd
  ·rcases(anc_up hq).1 hd with rfl|k
   ·exact .inr (.refl _)
   ·rcases ih k with h1|h1
    ·exact .inl h1
    ·exact .inr (.up (y:=q) (by unfold Lc;rw[if_neg e];exact hq) h1)
structure Better(S:Nat->List Nat)(r n:Nat)(at_:Nat->Nat)(par:Nat->Int)(y z:Nat):Prop where
 inv:Inv S r n at_ par
 hy:y<n
 hr:y≠r
 hz:z<n
 best:SO S n par y z
 fwd:∃ p,p<n/\y∈S p/\par p≠-2/\at_ p<at_ y
variable {y z:Nat}
theorem Better.zlt(h:Better S r n at_ par y z):UpTo par z z/\par z≠-2/\at_ z<at_ y/\Fw S at_ z y:=by
 obtain⟨p,hp,hyp,hpp,hl⟩:=h.fwd;obtain⟨h1,h2,h3,h4⟩:=h.inv.anc ((h.best z).1 (.refl _) p hp hyp hpp) hp hpp;exact⟨.refl _,h2,by omega,.step h4 hyp hl⟩
theorem Better.above(h:Better S r n at_ par y z){w:Nat}:UpTo (Lc par y z) z w↔UpTo par z w:=by
 obtain⟨_,h2,h3,_⟩:=h.zlt
 have hn:¬ UpTo par z y:=λk=>by have:=(h.inv.anc k h.hz h2).2.2.1;omega
 constructor
 ·intro k;rcases anc_upd_inv k with h1|⟨h1,_⟩
  ·exact h1
  ·exact absurd h1 hn
 ·intro k;exact AJ k hn
theorem Better.here(h:Better S r n at_ par y z){w:Nat}:UpTo (Lc par y z) y w↔w=y\/UpTo par z w:=by
 rw[anc_up (p:=z) (by simp[Lc]),h.above]
theorem Better.av_here(h:Better S r n at_ par y z){d:Nat}(hd:¬ UpTo (Lc par y z) y d):Av S r d y:=by
 rw[h.here]at hd;have h1:¬ ∀ p,p<n->y∈S p->par p≠-2->UpTo par p d:=λhh=>hd (.inr ((h.best d).2 hh));simp only[Classical.not_forall]at h1;obtain⟨p,hp,hyp,hpp,hnp⟩:=h1;exact .step (h.inv.all p hp hpp d hnp) hyp λe=>hd (.inl e.symm)
theorem Better.inv'(h:Better S r n at_ par y z):Inv S r n at_ (Lc par y z):=by
 obtain⟨hzz,hz2,hzl,hzf⟩:=h.zlt;obtain⟨p,hp,hyp,hpp,hl⟩:=h.fwd
 have hne:∀ x,Lc par y z x≠-2->x=y\/par x≠-2:=λx hx=>by
  by_cases e:x=y
  ·exact .inl e
  ·unfold Lc at hx;rw[if_neg e]at hx;exact .inr hx
 have hyv:Lc par y z y=(z:Int):=by simp[Lc]
 have hyo:∀ x,x≠y->Lc par y z x=par x:=λx e=>by unfold Lc;rw[if_neg e]
 refine⟨by rw[hyo _ (Hk h.hr)];exact h.inv.top,λx hx=>?_,λx hx w hw=>?_,λx hx hxp=>?_,λx hx hxp d hd=>?_⟩
 ·by_cases e:x=y
  ·subst e;exact .inr (.inr ⟨z,hyv⟩)
  ·rw[hyo x e];exact h.inv.kind x hx
 ·have hzn:∀ w,par w≠-2->Lc par y z w≠-2:=λw hw=>by
   by_cases e:w=y
   ·subst e;rw[hyv];omega
   ·rw[hyo w e];exact hw
  by_cases e:x=y
  ·subst e;rw[hyv]at hw
   cases V5 hw
   exact⟨h.hz,hzn _ hz2,hzl,hzf⟩
  ·rw[hyo x e]at hw;obtain⟨h1,h2,h3,h4⟩:=h.inv.up x hx w hw;exact⟨h1,hzn _ h2,h3,h4⟩
 ·rcases hne x hxp with rfl|h1
  ·exact .step (h.inv.rc p hp hpp) hyp
  ·exact h.inv.rc x hx h1
 ·by_cases e:x=y
  ·subst e;exact h.av_here hd
  ·rw[hyo x e]at hxp
   by_cases hxd:UpTo par x d
   ·
    by_cases hxy:UpTo par x y
    ·have hyd:¬ UpTo (Lc par y z) y d:=λk=>hd ((OG hxy).trans k);have hav:=h.av_here hyd;have hf:=(h.inv.anc hxy hx hxp).2.2.2
     have hdy:UpTo par y d:=by
      rcases low_or (v:=(z:Int)) hxy hxd with h1|h1
      ·exact h1
      ·exact absurd h1 hd
     by_cases hpy:par y = -2
     ·
      have:d=y:=by
       refine(CK (par:=par) λp hp=>?_).1 hdy;rw[hpy]at hp;omega
      subst this;exact absurd (.refl _) hyd
     ·rcases h.inv.strict hdy h.hy hpy with rfl|hlt
      ·exact absurd (.refl _) hyd
      ·exact hf.av hav hlt
    ·exact absurd (AJ hxd hxy) hd
   ·exact h.inv.all x hx hxp d hxd
end
section
variable {S:Nat->List Nat} {at_:Nat->Nat} {par:Nat->Int} {r n:Nat}
def QB(S:Nat->List Nat)(r n:Nat)(par:Nat->Int)(b:Nat->Nat):Prop:=∀ x,x<n->par x≠-2->∀ z,AvN S r z (b x) x->¬ UpTo par x z
def SP(S:Nat->List Nat)(r n:Nat)(par:Nat->Int):Prop:=∀ x,x<n->Rc S r x->par x≠-2
def WE(S:Nat->List Nat)(r n:Nat)(par:Nat->Int):Prop:=∀ x,x<n->par x≠-2->∀ d,UpTo par x d↔¬ Av S r d x
theorem iy(h:Inv S r n at_ par):QB S r n par λ_=>0:=λx hx hp z hz k=>by
 cases hz with
 | root hr _=>exact hr (h.root_anc.1 k).symm
theorem XS(hS:∀ x,x<n->∀ w∈S x,w<n)(hr:r<n){x:Nat}(h:Rc S r x):x<n:=by
 induction h with
 | root=>exact hr
 | step _ hy ih=>exact hS _ ih _ hy
theorem Better.qb{y z k:Nat}{b:Nat->Nat}(h:Better S r n at_ par y z)(hS:∀ x,x<n->∀ w∈S x,w<n)(hrn:r<n)(full:SP S r n par)(hb:∀ x,x<n->k<=b x/\b x<=k+1)(q:QB S r n par b) :
  QB S r n (Lc par y z) λx=>if x=y then k+1 else b x:=by
 have here:∀ w,AvN S r w (k+1) y->¬ UpTo (Lc par y z) y w:=λw hw hu=>by
  rcases h.here.1 hu with rfl|hu
  ·exact hw.av.ne rfl
  ·cases hw with
   | root hr _=>exact h.hr rfl
   | @step _ p _ hp hyp hne=>
    have hpn:=XS hS hrn hp.av.rc;have hpp:=full p hpn hp.av.rc;exact q p hpn hpp w (hp.mono (hb p hpn).1) ((h.best w).1 hu p hpn hyp hpp)
 intro x hx hxp w hw hu
 dsimp only at hw
 by_cases e:x=y
 ·subst e;rw[if_pos rfl]at hw;exact here w hw hu
 ·rw[if_neg e]at hw;unfold Lc at hxp;rw[if_neg e]at hxp;rcases anc_upd_inv hu with h1|⟨h1,h2⟩
  ·exact q x hx hxp w hw h1
  ·rcases hw.via y with h3|h3
   ·exact q x hx hxp y h3 h1
   ·exact here w (h3.mono (hb x hx).2) h2
theorem dE(h:Inv S r n at_ par){K:Nat}(hK:∀ z,z<n->∀ x,x<n->Av S r z x->AvN S r z K x)(q:QB S r n par λ_=>K):WE S r n par:=λx hx hp d=>by
 constructor
 ·intro hu ha;exact q x hx hp d (hK d (h.anc hu hx hp).1 x hx ha) hu
 ·intro ha;exact GM λhn=>ha (h.all x hx hp d hn)
theorem Better.same{y z:Nat}(h:Better S r n at_ par y z)(hS:∀ x,x<n->∀ w∈S x,w<n)(hrn:r<n)(full:SP S r n par)(hy2:par y≠-2)(ex:WE S r n par):par y=(z:Int):=by
 obtain⟨hzz,hz2,hzl,hzf⟩:=h.zlt;rcases h.inv.kind y h.hy with h1|h1|⟨q,hq⟩
 ·exact absurd h1 hy2
 ·exact absurd h1 h.hr
 ·obtain⟨q1,q2,q3,q4⟩:=h.inv.up y h.hy q hq
  have key:∀ w,UpTo par z w↔UpTo par q w:=λw=>by
   rw[h.best w]
   constructor
   ·intro hall
    have hwy:¬ Av S r w y:=λha=>by
     cases ha with
     | root _=>exact h.hr rfl
     | @step p _ hp hyp hne=>
      have hpn:=XS hS hrn hp.rc;have hpp:=full p hpn hp.rc;exact(ex p hpn hpp w).1 (hall p hpn hyp hpp) hp
    rcases(anc_up hq).1 ((ex y h.hy hy2 w).2 hwy) with rfl|hu
    ·have:=(h.inv.anc ((h.best _).2 hall) h.hz hz2).2.2.1;omega
    ·exact hu
   ·intro hu p hp hyp hpp;have hwy:UpTo par y w:=.up hq hu;refine(ex p hp hpp w).2 λha=>?_
    have hne:y≠w:=by rintro rfl;have:=(h.inv.anc hu q1 q2).2.2.1;omega
    exact(ex y h.hy hy2 w).1 hwy (.step ha hyp hne)
  have:=h.inv.antisymm ((key q).2 (.refl _)) ((key z).1 (.refl _)) h.hz hz2;rw[hq,this]
theorem ZS(h:Inv S r n at_ par)(hS:∀ x,x<n->∀ w∈S x,w<n)(hrn:r<n)(full:SP S r n par)(fix:∀ y,y<n->y≠r->Rc S r y->∃ z:Nat,par y=(z:Int)/\SO S n par y z):WE S r n par:=λx hx hp d=>by
 constructor
 ·intro hu ha
  induction ha with
  | root hne=>exact hne (h.root_anc.1 hu).symm
  | @step p y hp' hyp hne ih=>
   have hpn:=XS hS hrn hp'.rc;have hpp:=full p hpn hp'.rc
   by_cases e:y=r
   ·subst e;exact hne (h.root_anc.1 hu).symm
   ·obtain⟨z,hz,hb⟩:=fix y hx e (.step hp'.rc hyp);rcases(anc_up hz).1 hu with rfl|hu
    ·exact hne rfl
    ·exact ih hpn hpp ((hb d).1 hu p hpn hyp hpp)
 ·intro ha;exact GM λhn=>ha (h.all x hx hp d hn)
end
def Be(t:List Int):Nat->Int:=λx=>t.getD x 0
theorem QP{t:List Int}{y:Nat}{v:Int}(hy:y<t.length):Be (t.set y v)=Lc (Be t) y v:=by
 funext x
 unfold Be Lc
 by_cases e:x=y
 ·subst e;simp[List.getD,hy]
 ·simp[List.getD,e,Hk e]
open Classical in
def J5(S:Nat->List Nat)(n:Nat)(t:List Int)(y:Nat):Nat:=if h:∃ z,z<n/\SO S n (Be t) y z then Classical.choose h else 0
def S0(S:Nat->List Nat)(n:Nat)(P:List Nat)(t:List Int):Nat->List Int
 | 0=>t
 | i+1=>(S0 S n P t i).set (P.getD i 0) (J5 S n (S0 S n P t i) (P.getD i 0):Int)
def DA(S:Nat->List Nat)(n:Nat)(P:List Nat)(t:List Int):Nat->List Int
 | 0=>t
 | j+1=>S0 S n P (DA S n P t j) P.length
def Ez(n r:Nat):List Int:=(List.replicate n (-2:Int)).set r (-1)
structure Ordered(S:Nat->List Nat)(r n:Nat)(P:List Nat):Prop where
 hr:r<n
 hS:∀ x,x<n->∀ w∈S x,w<n
 nodup:(r::P).Nodup
 mem:∀ x,x∈r::P↔Rc S r x
 fwd:∀ i,i<P.length->∃ p,p∈r::P.take i/\P.getD i 0∈S p
section
variable {S:Nat->List Nat} {r n:Nat} {P:List Nat}
theorem Ordered.lt(o:Ordered S r n P){x:Nat}(h:x∈r::P):x<n:=XS o.hS o.hr ((o.mem x).1 h)
theorem Nu{i:Nat}(hi:i<P.length):P.getD i 0∈P:=by rw[Ab _ _ _ hi];exact Yo hi
theorem Ordered.at_lt(o:Ordered S r n P){i:Nat}(hi:i<P.length){p:Nat}(hp:p∈r::P.take i):pos (r::P) p<pos (r::P) (P.getD i 0):=by
 have hd:=o.nodup
 have h1:pos (r::P) (P.getD i 0)=i+1:=by
  have:=(CX hd (i:=i+1) (by simpa using hi)).2;rw[Ab _ _ _ hi]
  simpa using this
 rw[h1];obtain⟨j,hj,rfl⟩:=Lq hp
 have hj':j<i+1:=by simp at hj;omega
 have hjl:j<(r::P).length:=by simp;omega
 have e:(r::P.take i)[j]=(r::P)[j]:=by
  cases j with
  | zero=>rfl
  | succ j=>simp
 rw[e,(CX hd hjl).2];exact hj'
theorem oW(o:Ordered S r n P):Inv S r n (pos (r::P)) (Be (Ez n r))/\(Ez n r).length=n/\Be (Ez n r) r≠-2:=by
 have hlen:(Ez n r).length=n:=by simp[Ez]
 have hr:=o.hr
 have at_:∀ x,x<n->Be (Ez n r) x=if x=r then -1 else -2:=λx hx=>by
  unfold Be Ez
  by_cases e:x=r
  ·subst e;simp[List.getD,hx]
  ·simp[List.getD,hx,e,Hk e]
 have hno:∀ x,x<n->∀ p:Nat,Be (Ez n r) x≠(p:Int):=λx hx p hp=>by rw[at_ x hx]at hp;split at hp<;>omega
 refine⟨⟨by rw[at_ r hr,if_pos rfl],λx hx=>?_,λx hx z hz=>absurd hz (hno x hx z),λx hx hp=>?_,λx hx hp d hd=>?_⟩,hlen,by rw[at_ r hr,if_pos rfl];omega⟩
 ·by_cases e:x=r
  ·exact .inr (.inl e)
  ·exact .inl (by rw[at_ x hx,if_neg e])
 ·by_cases e:x=r
  ·subst e;exact .root
  ·exact absurd (by rw[at_ x hx,if_neg e]) hp
 ·by_cases e:x=r
  ·subst e;exact .root (λe=>hd (by rw[e];exact .refl _))
  ·exact absurd (by rw[at_ x hx,if_neg e]) hp
structure Ready(S:Nat->List Nat)(r n:Nat)(P:List Nat)(t:List Int)(i:Nat):Prop where
 inv:Inv S r n (pos (r::P)) (Be t)
 len:t.length=n
 done:∀ x∈r::P.take i,Be t x≠-2
theorem Inv.meets{at_:Nat->Nat}{par:Nat->Int}(h:Inv S r n at_ par)(hinj:∀ x y,x<n->y<n->par x≠-2->par y≠-2->at_ x=at_ y->x=y)(hr:at_ r=0):∀ m a b,at_ a+at_ b<=m->a<n->b<n->par a≠-2->par b≠-2->∃ c,MeetAt par a b c/\c<n/\par c≠-2:=by
 intro m
 induction m with
 | zero=>
  intro a b hm ha hb hpa hpb;have:a=b:=hinj a b ha hb hpa hpb (by omega);subst this;exact⟨a,JH,ha,hpa⟩
 | succ m ih=>
  have go:∀ a b,at_ a+at_ b<=m+1->a<n->b<n->par a≠-2->par b≠-2->at_ b<=at_ a->∃ c,MeetAt par a b c/\c<n/\par c≠-2:=λa b hm ha hb hpa hpb hl=>by
   by_cases e:a=b
   ·subst e;exact⟨a,JH,ha,hpa⟩
   ·rcases h.kind a ha with h1|h1|⟨p,hp⟩
    ·exact absurd h1 hpa
    ·subst h1;exact absurd (hinj a b ha hb hpa hpb (by omega)) e
    ·obtain⟨p1,p2,p3,p4⟩:=h.up a ha p hp;obtain⟨c,hc,hc2⟩:=ih p b (by omega) p1 hb p2 hpb;exact⟨c,h.meet_left hinj ha hpa hb hpb e hl hp hc,hc2⟩
  intro a b hm ha hb hpa hpb;rcases Nat.le_total (at_ b) (at_ a) with hl|hl
  ·exact go a b hm ha hb hpa hpb hl
  ·obtain⟨c,hc,hc2⟩:=go b a (by omega) hb ha hpb hpa hl;exact⟨c,am hc,hc2⟩
theorem Ready.inj(o:Ordered S r n P){t:List Int}{i:Nat}(h:Ready S r n P t i):∀ x y,x<n->y<n->Be t x≠-2->Be t y≠-2->pos (r::P) x=pos (r::P) y->x=y:=λx y hx hy hpx hpy he=>by
 have hm:∀ x,x<n->Be t x≠-2->x∈r::P:=λx hx hp=>(o.mem x).2 (h.inv.rc x hx hp)
 have back:∀ x∈r::P,(r::P).getD (pos (r::P) x) 0=x:=λx hx=>by
  obtain⟨j,hj,rfl⟩:=Lq hx;rw[(CX o.nodup hj).2,Ab _ _ _ hj]
 rw[<- back x (hm x hx hpx),<- back y (hm y hy hpy),he]
theorem QS:pos (r::P) r=0:=by rw[FM,if_pos rfl]
theorem Ready.meetAll(o:Ordered S r n P){t:List Int}{i:Nat}(h:Ready S r n P t i):∀ l:List Nat,(∀ p∈l,p<n/\Be t p≠-2)->l≠[]->∃ z,z<n/\Be t z≠-2/\∀ w,UpTo (Be t) z w↔∀ p∈l,UpTo (Be t) p w:=by
 intro l
 induction l with
 | nil=>intro _ hn;exact absurd rfl hn
 | cons p l ih=>
  intro hl _;obtain⟨hp1,hp2⟩:=hl p (Jn ..)
  by_cases hl0:l=[]
  ·subst hl0;exact⟨p,hp1,hp2,λw=>by simp⟩
  ·obtain⟨z,hz1,hz2,hz3⟩:=ih (λq hq=>hl q (Fh _ hq)) hl0;obtain⟨c,hc1,hc2,hc3⟩:=h.inv.meets (h.inj o) QS _ p z (zzL7 _) hp1 hz1 hp2 hz2;exact⟨c,hc2,hc3,λw=>by rw[hc1 w,hz3 w];simp⟩
theorem Ready.best(o:Ordered S r n P){t:List Int}{i:Nat}(h:Ready S r n P t i)(hi:i<P.length):Better S r n (pos (r::P)) (Be t) (P.getD i 0) (J5 S n t (P.getD i 0)):=by
 have hy:=Nu hi;have hyr:P.getD i 0≠r:=λe=>(zzL77.1 o.nodup).1 (e▸hy);have hyn:=o.lt (Fh _ hy);obtain⟨p,hp,hyp⟩:=o.fwd i hi;have hp2:=h.done p hp
 have hpP:p∈r::P:=by
  rcases zzL24.1 hp with rfl|hp
  ·exact Jn ..
  ·exact Fh _ (List.mem_of_mem_take hp)
 have hpn:=o.lt hpP
 have hex:∃ z,z<n/\SO S n (Be t) (P.getD i 0) z:=by
  classical
  obtain⟨z,hz1,hz2,hz3⟩:=h.meetAll o ((List.range n).filter λp=>decide (P.getD i 0∈S p/\Be t p≠-2)) (λp hp=>by
   obtain⟨h1,h2⟩:=zzL66.1 hp
   exact⟨zzL35.1 h1,(Qk h2).2⟩) (λe=>by
   have:p∈(List.range n).filter λp=>decide (P.getD i 0∈S p/\Be t p≠-2):=zzL66.2 ⟨zzL35.2 hpn,Da ⟨hyp,hp2⟩⟩
   rw[e]at this;cases this)
  refine⟨z,hz1,λw=>?_⟩;rw[hz3 w]
  constructor
  ·intro k p hp hyp hpp;exact k p (zzL66.2 ⟨zzL35.2 hp,Da ⟨hyp,hpp⟩⟩)
  ·intro k p hp;obtain⟨h1,h2⟩:=zzL66.1 hp;exact k p (zzL35.1 h1) (Qk h2).1 (Qk h2).2
 have hb:J5 S n t (P.getD i 0)<n/\SO S n (Be t) (P.getD i 0) (J5 S n t (P.getD i 0)):=by
  unfold J5;rw[dif_pos hex];exact Classical.choose_spec hex
 exact⟨h.inv,hyn,hyr,hb.1,hb.2,p,hpn,hyp,hp2,o.at_lt hi hp⟩
theorem Ready.best_eq(o:Ordered S r n P){t:List Int}{i:Nat}(h:Ready S r n P t i)(hi:i<P.length){z:Nat}(hz:z<n)(hz2:Be t z≠-2)(hb:SO S n (Be t) (P.getD i 0) z):z=J5 S n t (P.getD i 0):=by
 have b:=h.best o hi;exact(h.inv.antisymm ((hb _).2 ((b.best _).1 (.refl _))) ((b.best _).2 ((hb _).1 (.refl _))) hz hz2).symm
theorem Ready.next(o:Ordered S r n P){t:List Int}{i:Nat}(h:Ready S r n P t i)(hi:i<P.length):Ready S r n P (t.set (P.getD i 0) (J5 S n t (P.getD i 0):Int)) (i+1):=by
 have b:=h.best o hi;have e:=QP (t:=t) (y:=P.getD i 0) (v:=(J5 S n t (P.getD i 0):Int)) (by rw[h.len];exact b.hy);refine⟨by rw[e];exact b.inv',by rw[H8];exact h.len,λx hx=>?_⟩;rw[e];unfold Lc
 split
 ·omega
 ·rename_i hne
  refine h.done x ?_;rcases zzL24.1 hx with rfl|hx
  ·exact Jn ..
  ·rw[VQ hi]at hx;rcases zzL11.1 hx with hx|hx
   ·exact Fh _ hx
   ·rw[zzL15,<- Ab _ _ 0 hi]at hx;exact absurd hx hne
theorem Ready.more(o:Ordered S r n P){t:List Int}(h:Ready S r n P t P.length)(i:Nat):Ready S r n P t i:=
 ⟨h.inv,h.len,λx hx=>h.done x (by
  rw[W0];rcases zzL24.1 hx with rfl|hx
  ·exact Jn ..
  ·exact Fh _ (List.mem_of_mem_take hx))⟩
theorem Ready.full(o:Ordered S r n P){t:List Int}(h:Ready S r n P t P.length):SP S r n (Be t):=λx hx hr=>h.done x (by rw[W0];exact(o.mem x).2 hr)
theorem Ready.round(o:Ordered S r n P){t:List Int}(h:Ready S r n P t 0):∀ i,i<=P.length->Ready S r n P (S0 S n P t i) i:=by
 intro i
 induction i with
 | zero=>intro _;exact h
 | succ i ih=>intro hi;exact(ih (by omega)).next o (by omega)
theorem lM(o:Ordered S r n P):Ready S r n P (Ez n r) 0:=by
 obtain⟨h1,h2,h3⟩:=oW o;exact⟨h1,h2,λx hx=>by simp at hx;subst hx;exact h3⟩
theorem Ready.rounds(o:Ordered S r n P):∀ j,Ready S r n P (DA S n P (Ez n r) j) 0:=by
 intro j
 induction j with
 | zero=>exact lM o
 | succ j ih=>exact((ih.round o) P.length (zzL7 _)).more o 0
theorem Ready.rounds'(o:Ordered S r n P)(j:Nat):Ready S r n P (DA S n P (Ez n r) (j+1)) P.length:=(Ready.rounds o j).round o P.length (zzL7 _)
theorem eM(o:Ordered S r n P){t:List Int}{k:Nat}(h:Ready S r n P t P.length)(q:QB S r n (Be t) λ_=>k):QB S r n (Be (S0 S n P t P.length)) λ_=>k+1:=by
 have key:∀ i,i<=P.length->QB S r n (Be (S0 S n P t i)) (λx=>if x∈P.take i then k+1 else k)/\SP S r n (Be (S0 S n P t i)):=by
  intro i
  induction i with
  | zero=>intro _;exact⟨by simpa [S0] using q,h.full o⟩
  | succ i ih=>
   intro hi;obtain⟨q1,f1⟩:=ih (by omega);have rd:=(h.more o 0).round o i (by omega);have b:=rd.best o (by omega);have e:=QP (t:=S0 S n P t i) (y:=P.getD i 0) (v:=(J5 S n (S0 S n P t i) (P.getD i 0):Int)) (by rw[rd.len];exact b.hy)
   constructor
   ·show QB S r n (Be ((S0 S n P t i).set _ _)) _
    rw[e];have:=b.qb (k:=k) o.hS o.hr f1 (λx _=>by split<;>omega) q1;intro x hx hp z hz;refine this x hx hp z ?_
    dsimp only at hz ⊢
    rw[VQ (by omega:i<P.length)]at hz
    by_cases e1:x=P.getD i 0
    ·rw[if_pos e1];rwa[if_pos (zzL11.2 (.inr (zzL15.2 (by rw[e1,Ab _ _ _ (by omega:i<P.length)]))))]at hz
    ·rw[if_neg e1]
     by_cases e2:x∈P.take i
     ·rw[if_pos e2];rwa[if_pos (zzL11.2 (.inl e2))]at hz
     ·rw[if_neg e2]
      rwa[if_neg (λhm=>by
       rcases zzL11.1 hm with hm|hm
       ·exact e2 hm
       ·rw[zzL15,<- Ab _ _ 0 (by omega:i<P.length)]at hm;exact e1 hm)]at hz
   ·show SP S r n (Be ((S0 S n P t i).set _ _))
    rw[e];intro x hx hr;unfold Lc
    split
    ·omega
    ·exact f1 x hx hr
 have q1:=(key P.length (zzL7 _)).1;rw[W0]at q1;have rd:=(h.more o 0).round o P.length (zzL7 _);intro x hx hp z hz;refine q1 x hx hp z ?_
 dsimp only at hz ⊢
 by_cases e:x∈P
 ·rw[if_pos e];exact hz
 ·rw[if_neg e]
  have hxr:x=r:=by
   rcases zzL24.1 ((o.mem x).2 (rd.inv.rc x hx hp)) with h1|h1
   ·exact h1
   ·exact absurd h1 e
  subst hxr;exact .root hz.av.ne k
def R8(S:Nat->List Nat)(n:Nat)(P:List Nat)(t:List Int):Prop:=∀ i,i<P.length->Be t (P.getD i 0)=(J5 S n t (P.getD i 0):Int)
theorem T8{t:List Int}(o:Ordered S r n P)(hl:t.length=n)(h:R8 S n P t):∀ i,i<=P.length->S0 S n P t i=t:=by
 intro i
 induction i with
 | zero=>intro _;rfl
 | succ i ih=>
  intro hi;unfold S0;rw[ih (by omega),<- h i (by omega)]
  have hlt:P.getD i 0<t.length:=by rw[hl];exact o.lt (Fh _ (Nu (by omega)))
  unfold Be;rw[Ab _ _ _ hlt];exact List.set_getElem_self hlt
theorem j4(o:Ordered S r n P):∃ J,(∀ j,j<J->¬ R8 S n P (DA S n P (Ez n r) j))/\R8 S n P (DA S n P (Ez n r) J):=by
 obtain⟨K,hK⟩:=ZA (S:=S) (r:=r) n
 have hq:∀ k,QB S r n (Be (DA S n P (Ez n r) (k+1))) λ_=>k:=by
  intro k
  induction k with
  | zero=>exact iy (Ready.rounds' o 0).inv
  | succ k ih=>exact eM o (Ready.rounds' o k) ih
 have hst:R8 S n P (DA S n P (Ez n r) (K+1)):=λi hi=>by
  have rd:=Ready.rounds' o K;exact((rd.more o i).best o hi).same o.hS o.hr (rd.full o) (rd.done _ (Fh _ (by rw[W0];exact Nu hi))) (dE rd.inv hK (hq K))
 have key:∀ m,(∃ J,J<=m/\R8 S n P (DA S n P (Ez n r) J))->∃ J,(∀ j,j<J->¬ R8 S n P (DA S n P (Ez n r) j))/\R8 S n P (DA S n P (Ez n r) J):=by
  intro m
  induction m with
  | zero=>rintro⟨J,hJ,h⟩;exact⟨J,λj hj=>by omega,h⟩
  | succ m ih=>
   rintro⟨J,hJ,h⟩
   by_cases hm:∃ J,J<=m/\R8 S n P (DA S n P (Ez n r) J)
   ·exact ih hm
   ·exact⟨J,λj hj hs=>hm ⟨j,by omega,hs⟩,h⟩
 exact key (K+1) ⟨K+1,zzL7 _,hst⟩
structure DomTree(S:Nat->List Nat)(r n:Nat)(P:List Nat)(t:List Int):Prop where
 inv:Inv S r n (pos (r::P)) (Be t)
 len:t.length=n
 full:SP S r n (Be t)
 exact_:WE S r n (Be t)
theorem BJ(o:Ordered S r n P){j:Nat}(h:R8 S n P (DA S n P (Ez n r) j)):DomTree S r n P (DA S n P (Ez n r) j):=by
 have rd:=Ready.rounds o j
 have hall:Ready S r n P (DA S n P (Ez n r) j) P.length:=by
  have:=rd.round o P.length (zzL7 _);rwa[T8 o rd.len h P.length (zzL7 _)]at this
 refine⟨rd.inv,rd.len,hall.full o,ZS rd.inv o.hS o.hr (hall.full o) λy hy hne hr=>?_⟩
 have hm:y∈P:=by
  rcases zzL24.1 ((o.mem y).2 hr) with h1|h1
  ·exact absurd h1 hne
  ·exact h1
 obtain⟨i,hi,rfl⟩:=Lq hm;have b:=(hall.more o i).best o hi;rw[Ab _ _ _ hi]at b;have hs:=h i hi;rw[Ab _ _ _ hi]at hs;exact⟨_,hs,b.best⟩
end
section
variable {S:Nat->List Nat} {s s':Nat->Bool} {l o:List Nat}
theorem VL.before(h:VL S s l s' o):∀ A z B,o=A++z::B->z∈l\/∃ p∈B,z∈S p:=by
 induction h with
 | nil s=>intro A z B e;simp at e
 | skip h _ ih=>
  intro A z B e;rcases ih A z B e with h1|h1
  ·exact .inl (Fh _ h1)
  ·exact .inr h1
 | @step s s1 s2 y l o1 o2 h a b iha ihb=>
  intro A z B e;rcases List.append_eq_append_iff.1 e with⟨C,hC1,hC2⟩|⟨C,hC1,hC2⟩
  ·
   cases C with
   | nil=>
    simp at hC2;obtain⟨rfl,rfl⟩:=hC2;exact .inl (Jn ..)
   | cons c C=>
    simp at hC2;obtain⟨rfl,hC2⟩:=hC2;rcases ihb C z B hC2 with h1|h1
    ·exact .inl (Fh _ h1)
    ·exact .inr h1
  ·cases C with
   | nil=>
    simp at hC2;obtain⟨rfl,rfl⟩:=hC2;exact .inl (Jn ..)
   | cons c C=>
    simp at hC2;obtain⟨rfl,rfl⟩:=hC2;rcases iha A z C hC1 with h1|⟨p,hp,hz⟩
    ·exact .inr ⟨y,by simp,h1⟩
    ·exact .inr ⟨p,by simp[hp],hz⟩
theorem Ord.ordered{n r:Nat}{L:List Nat}(hr:r<n)(hS:∀ x,x<n->∀ w∈S x,w<n)(h:Ord S r L):∃ P,L=r::P/\Ordered S r n P:=by
 have h1:=h.nodup;have h2:=h.mem;obtain⟨s',o,hv,rfl⟩:=h;refine⟨o.reverse,rfl,hr,hS,h1,λx=>by rw[h2 x,rc_iff],λi hi=>?_⟩
 have hi':i<o.length:=by simpa using hi
 have e:o.reverse=o.reverse.take i++o.reverse[i]::o.reverse.drop (i+1):=by rw[<- Pg hi,List.take_append_drop]
 have e2:o=(o.reverse.drop (i+1)).reverse++o.reverse[i]::(o.reverse.take i).reverse:=by
  have:=Cg List.reverse e;rw[List.reverse_reverse]at this;rw[List.reverse_append,List.reverse_cons]at this
  simpa using this
 rw[Ab _ _ _ hi];rcases hv.before _ _ _ e2 with h3|⟨p,hp,hz⟩
 ·exact⟨r,Jn ..,h3⟩
 ·exact⟨p,Fh _ (zzL96.1 hp),hz⟩
end
def nA(S:Nat->List Nat)(w:Int):Nat->List Nat:=λx=>(S x).filter λy=>decide ((y:Int)≠w)
theorem fA(S:Nat->List Nat):nA S (-1)=S:=by
 funext x
 unfold nA;exact List.filter_eq_self.2 λy _=>Da (by omega)
theorem jN(S:Nat->List Nat)(z:Nat):nA S (z:Int)=wo S z:=by
 funext x
 unfold nA wo
 congr 1
 funext y
 exact zzL108.2 ⟨λh e=>h (by rw[e]),λh e=>h (V5 e)⟩
def Zs(L:List (List Int))(r:Nat)(w:Int):List Bool:=if(r:Int)=w then List.replicate L.length false else JV (nA (sN L) w) L.length ((List.replicate L.length false).set r true) L.length
theorem eO{L:List (List Int)}(hm:L2 L=true){r:Nat}(hr:r<L.length){b:Nat}:(Zs L r (-1)).getD b false=true↔Rc (sN L) r b:=by
 unfold Zs;rw[if_neg (by omega),fA,Ya (Vt hm) hr b,rc_iff]
theorem UQ{L:List (List Int)}(hm:L2 L=true){r:Nat}(hr:r<L.length){a b:Nat}(hb:b<L.length):(Zs L r (a:Int)).getD b false=true↔Av (sN L) r a b:=by
 unfold Zs;rw[av_iff]
 by_cases h:r=a
 ·subst h;rw[if_pos rfl,Ob]
  simp
 ·rw[if_neg (by omega),jN,Ya (S:=wo (sN L) a) (λz hz y hy=>Vt hm z hz y (zzL66.1 hy).1) hr b];simp[h]
def Tw(L:List (List Int))(r a b:Nat):Bool:=(Zs L r (-1)).getD b false&&!(Zs L r (a:Int)).getD b false
theorem QO{L:List (List Int)}(hm:L2 L=true){r a b:Nat}(hr:r<L.length)(hb:b<L.length):Tw L r a b=true↔Rc (sN L) r b/\¬ Av (sN L) r a b:=by
 unfold Tw;rw[A6,Ph,<- Bool.not_eq_true,eO hm hr,UQ hm hr hb]
def PX(L:List (List Int))(r a b:Nat):Bool:=(List.range L.length).all λc=>decide (c=b) || !Tw L r c b || Tw L r c a
def QR(L:List (List Int))(r b:Nat):Nat->Int
 | 0=>-2
 | a+1=>if a≠b/\Tw L r a b=true/\PX L r a b=true then(a:Int) else QR L r b a
def VE(L:List (List Int))(r b:Nat):Int:=if b=r then -1 else QR L r b L.length
def Yh(L:List (List Int))(r:Nat):List Int:=(List.range L.length).map (VE L r)
theorem KE(L:List (List Int))(r:Nat):(Yh L r).length=L.length:=by simp[Yh]
theorem er{L:List (List Int)}{r b:Nat}(hb:b<L.length):(Yh L r).getD b 0=VE L r b:=by unfold Yh;rw[Ra hb]
theorem pick_cases(L:List (List Int))(r b:Nat):∀ m,(QR L r b m = -2/\∀ a,a<m->¬ (a≠b/\Tw L r a b=true/\PX L r a b=true))\/∃ a,a<m/\QR L r b m=(a:Int)/\a≠b/\Tw L r a b=true/\PX L r a b=true:=by
 intro m
 induction m with
 | zero=>exact .inl ⟨rfl,λa ha=>absurd ha (Mt a)⟩
 | succ m ih=>
  unfold QR
  by_cases h:m≠b/\Tw L r m b=true/\PX L r m b=true
  ·rw[if_pos h];exact .inr ⟨m,by omega,rfl,h⟩
  ·rw[if_neg h];rcases ih with⟨h1,h2⟩|⟨a,h1,h2⟩
   ·refine .inl ⟨h1,λa ha=>?_⟩;rcases zzL118.1 ha with h3|rfl
    ·exact h2 a h3
    ·exact h
   ·exact .inr ⟨a,by omega,h2⟩
theorem DomTree.eq{L:List (List Int)}(hm:L2 L=true){r:Nat}(hr:r<L.length){P t:List _}(o:Ordered (sN L) r L.length P)(h:DomTree (sN L) r L.length P t):t=Yh L r:=by
 refine AA (by rw[h.len,KE]) λb h1 h2=>?_
 have hb:b<L.length:=by rw[<- h.len];exact h1
 rw[<- Ab _ _ 0 h1,<- Ab _ _ 0 h2,er hb]
 show Be t b=_
 have hov:∀ a b,b<L.length->Be t b≠-2->(Tw L r a b=true↔UpTo (Be t) b a):=λa b hb hp=>by
  rw[QO hm hr hb,h.exact_ b hb hp];exact⟨λk=>k.2,λk=>⟨h.inv.rc b hb hp,k⟩⟩
 unfold VE
 by_cases hbr:b=r
 ·subst hbr;rw[if_pos rfl];exact h.inv.top
 ·rw[if_neg hbr];rcases h.inv.kind b hb with hk|hk|⟨z,hz⟩
  ·
   have hn:¬ Rc (sN L) r b:=λk=>h.full b hb k hk;rcases pick_cases L r b L.length with⟨h3,_⟩|⟨a,_,_,_,h6,_⟩
   ·rw[hk,h3]
   ·exact absurd ((QO hm hr hb).1 h6).1 hn
  ·exact absurd hk hbr
  ·obtain⟨z1,z2,z3,z4⟩:=h.inv.up b hb z hz
   have hp:Be t b≠-2:=by omega
   have hzo:Tw L r z b=true:=(hov z b hb hp).2 (.up hz (.refl _))
   have hzb:z≠b:=by rintro rfl;omega
   have hnear:PX L r z b=true:=all_range.2 λc hc=>by
    by_cases e:c=b
    ·simp[e]
    ·cases ho:Tw L r c b with
     | false=>simp
     | true=>
      have:=(hov c b hb hp).1 ho;rcases(anc_up hz).1 this with h3|h3
      ·exact absurd h3 e
      ·rw[(hov c z z1 z2).2 h3];simp
   rcases pick_cases L r b L.length with⟨_,h3⟩|⟨a,h3,h4,h5,h6,h7⟩
   ·exact absurd ⟨hzb,hzo,hnear⟩ (h3 z z1)
   ·rw[h4,hz];have haU:=(hov a b hb hp).1 h6
    have ha1:UpTo (Be t) z a:=by
     rcases(anc_up hz).1 haU with h8|h8
     ·exact absurd h8 h5
     ·exact h8
    have hap:=(h.inv.anc ha1 z1 z2).2.1
    have hza:UpTo (Be t) a z:=by
     have:=all_range.1 h7 z z1;simp only[hzo,hzb,decide_false,Fi,GQ]at this;exact(hov z a h3 hap).1 this
    rw[h.inv.antisymm ha1 hza z1 z2]
theorem iV{g:C6}(h:Y8 g=true):L2 g.Succ=true/\g=Yu g.Succ:=by
 unfold Y8 at h;rw[A6]at h;refine⟨h.1,?_⟩;obtain⟨s,p⟩:=g;have:=Qk h.2;simp only at this;unfold Yu;rw[this]
section
variable {L:List (List Int)} (hm:L2 L=true) {r:Nat} (hr:r<L.length)
include hm hr
omit hr in
omit hr in
omit hm hr in
omit hm hr in
omit hm hr in
omit hr in
omit hr in
end
def RM(g:C6)(r:Int):List Int:=if Y8 g=true/\0<=r/\r<(g.Succ.length:Int) then Yh g.Succ r.toNat else[]
def upD(t:List Int):Nat->Int->Option (List Int)
 | 0,_=>none
 | k+1,a=>if 0<=a/\a<(t.length:Int) then(if t.getD a.toNat 0 = -1 then some [a] else(upD t k (t.getD a.toNat 0)).map λl=>a::l) else none
def Ey(t:List Int)(a:Int):List Int:=(upD t t.length a).getD []
theorem jL(t:List Int):∀ k a q,upD t k a=some q->q.length<=k/\1<=q.length:=by
 intro k
 induction k with
 | zero=>intro a q h;cases h
 | succ k ih=>
  intro a q h;unfold upD at h
  split at h
  ·split at h
   ·cases h;simp
   ·cases hu:upD t k (t.getD a.toNat 0) with
    | none=>rw[hu]at h;cases h
    | some q'=>rw[hu]at h;cases h;have:=ih _ _ hu;simp;omega
  ·cases h
theorem pathD_nil{t:List Int}{a:Int}:Ey t a=[]↔upD t t.length a=none:=by
 unfold Ey
 cases h:upD t t.length a with
 | none=>simp
 | some q=>have:=(jL t _ _ _ h).2;simp;intro e;subst e;simp at this
def Yg(t:List Int)(k:Nat):Nat:=((List.range k).filter λa=>decide (t.getD a 0 = -1)).length
def np(t:List Int)(a:Nat):Bool:=decide (t.getD a 0 = -2) || !decide (Ey t (a:Int)=[])
def I4(t:List Int):Bool:=(List.range t.length).all (np t)&&decide (Yg t t.length=1)
theorem GI(t:List Int)(k:Nat):Yg t (k+1)=Yg t k+if t.getD k 0 = -1 then 1 else 0:=by
 unfold Yg;rw[Sk,NK,Em]
 by_cases h:t.getD k 0 = -1
 ·rw[if_pos h]
  have:List.filter (λa=>decide (t.getD a 0 = -1)) [k]=[k]:=by rw[List.filter_cons,if_pos (Da h)];rfl
  rw[this];rfl
 ·rw[if_neg h]
  have:List.filter (λa=>decide (t.getD a 0 = -1)) [k]=[]:=by rw[List.filter_cons,if_neg (by simpa using h)];rfl
  rw[this];rfl
def Mj(t:List Int)(a b:Int):Int:=if I4 t=true then((Ey t a).find? λx=>(Ey t b).contains x).getD (-2) else -2
def N9(t:List Int)(a b:Int):Bool:=Mj t a b==a&&Mj t a b !=-2
section
variable {S:Nat->List Nat} {r n:Nat} {P:List Nat} {t:List Int}
theorem DomTree.up(h:DomTree S r n P t):∀ k x,x<n->Be t x≠-2->pos (r::P) x<k->∃ q,upD t k (x:Int)=some q/\(∀ w:Int,w∈q↔∃ z:Nat,w=(z:Int)/\UpTo (Be t) x z) /\
  ∀ p:Int->Bool,(q.find? p=none/\∀ z:Nat,UpTo (Be t) x z->p (z:Int)=false)\/∃ f:Nat,q.find? p=some (f:Int)/\UpTo (Be t) x f/\p (f:Int)=true/\∀ z:Nat,UpTo (Be t) x z->p (z:Int)=true->UpTo (Be t) f z:=by
 intro k
 induction k with
 | zero=>intro x _ _ hk;exact absurd hk (Mt _)
 | succ k ih=>
  intro x hx hp hk
  have hxt:(0:Int)<=(x:Int)/\(x:Int)<(t.length:Int):=by rw[h.len];omega
  unfold upD;rw[if_pos hxt,A4];have hpx:t.getD x 0=Be t x:=rfl;rw[hpx];rcases h.inv.kind x hx with h1|rfl|⟨z,hz⟩
  ·exact absurd h1 hp
  ·rw[if_pos h.inv.top];refine⟨_,rfl,λw=>?_,λp=>?_⟩
   ·rw[zzL15]
    constructor
    ·rintro rfl;exact⟨x,rfl,.refl _⟩
    ·rintro⟨z,rfl,hz⟩;rw[h.inv.root_anc.1 hz]
   ·cases hpp:p (x:Int) with
    | false=>exact .inl ⟨by simp[List.find?,hpp],λz hz=>by rw[h.inv.root_anc.1 hz];exact hpp⟩
    | true=>exact .inr ⟨x,by simp[List.find?,hpp],.refl _,hpp,λz hz _=>hz⟩
  ·obtain⟨z1,z2,z3,z4⟩:=h.inv.up x hx z hz;rw[hz,if_neg (by omega)];obtain⟨q,hq1,hq2,hq3⟩:=ih z z1 z2 (by omega);rw[hq1];refine⟨(x:Int)::q,rfl,λw=>?_,λp=>?_⟩
   ·rw[zzL24,hq2 w]
    constructor
    ·rintro(rfl|⟨y,rfl,hy⟩)
     ·exact⟨x,rfl,.refl _⟩
     ·exact⟨y,rfl,.up hz hy⟩
    ·rintro⟨y,rfl,hy⟩;rcases(anc_up hz).1 hy with rfl|hy
     ·exact .inl rfl
     ·exact .inr ⟨y,rfl,hy⟩
   ·cases hpp:p (x:Int) with
    | true=>exact .inr ⟨x,by simp[List.find?,hpp],.refl _,hpp,λy hy _=>hy⟩
    | false=>
     have hf:((x:Int)::q).find? p=q.find? p:=by simp[List.find?,hpp]
     rw[hf];rcases hq3 p with⟨e1,e2⟩|⟨f,e1,e2,e3,e4⟩
     ·refine .inl ⟨e1,λy hy=>?_⟩;rcases(anc_up hz).1 hy with rfl|hy
      ·exact hpp
      ·exact e2 y hy
     ·refine .inr ⟨f,e1,.up hz e2,e3,λy hy hpy=>?_⟩;rcases(anc_up hz).1 hy with rfl|hy
      ·rw[hpp]at hpy;cases hpy
      ·exact e4 y hy hpy
theorem Ordered.pos_lt(o:Ordered S r n P){x:Nat}(hx:x∈r::P):pos (r::P) x<n:=by
 obtain⟨j,hj,rfl⟩:=Lq hx;rw[(CX o.nodup hj).2];have:=L3 n (r::P) o.nodup λy hy=>o.lt hy;omega
theorem DomTree.path(h:DomTree S r n P t)(o:Ordered S r n P){x:Nat}(hx:x<n)(hp:Be t x≠-2):Ey t (x:Int)≠[]/\(∀ w:Int,w∈Ey t (x:Int)↔∃ z:Nat,w=(z:Int)/\UpTo (Be t) x z) /\
  ∀ p:Int->Bool,((Ey t (x:Int)).find? p=none/\∀ z:Nat,UpTo (Be t) x z->p (z:Int)=false)\/∃ f:Nat,(Ey t (x:Int)).find? p=some (f:Int)/\UpTo (Be t) x f/\p (f:Int)=true/\∀ z:Nat,UpTo (Be t) x z->p (z:Int)=true->UpTo (Be t) f z:=by
 have hm:=(o.mem x).2 (h.inv.rc x hx hp);obtain⟨q,h1,h2,h3⟩:=h.up n x hx hp (o.pos_lt hm)
 have e:Ey t (x:Int)=q:=by unfold Ey;rw[h.len,h1];rfl
 rw[e];refine⟨λe=>?_,h2,h3⟩;have:=(h2 (x:Int)).2 ⟨x,rfl,.refl _⟩;rw[e]at this
 cases this
theorem DomTree.nopath(h:DomTree S r n P t){x:Nat}(hx:x<n)(hp:Be t x = -2):Ey t (x:Int)=[]:=by
 rw[pathD_nil]
 cases hl:t.length with
 | zero=>rfl
 | succ k=>
  unfold upD;rw[if_pos ⟨by omega,by rw[h.len];omega⟩,A4,show t.getD x 0=Be t x from rfl,hp,if_neg (by omega)]
  cases k with
  | zero=>rfl
  | succ k=>unfold upD;rw[if_neg (by omega)];rfl
theorem DomTree.right(h:DomTree S r n P t)(o:Ordered S r n P):I4 t=true:=by
 unfold I4;rw[A6]
 constructor
 ·refine all_range.2 λx hx=>?_;rw[h.len]at hx;unfold np
  by_cases hp:Be t x = -2
  ·rw[show t.getD x 0=Be t x from rfl,hp];rfl
  ·rw[Dm (h.path o hx hp).1];simp
 ·apply Da
  have key:∀ k,k<=n->Yg t k=if r<k then 1 else 0:=by
   intro k
   induction k with
   | zero=>intro _;rfl
   | succ k ih=>
    intro hk;rw[GI,ih (by omega)]
    have hr:t.getD k 0 = -1↔k=r:=by
     constructor
     ·intro he;rcases h.inv.kind k (by omega) with h1|h1|⟨z,hz⟩
      ·rw[show t.getD k 0=Be t k from rfl,h1]at he;omega
      ·exact h1
      ·rw[show t.getD k 0=Be t k from rfl,hz]at he;omega
     ·rintro rfl;exact h.inv.top
    by_cases hkr:k=r
    ·subst hkr;rw[if_neg (by omega),if_pos (hr.2 rfl),if_pos (by omega)]
    ·rw[if_neg (λe=>hkr (hr.1 e))]
     by_cases h2:r<k
     ·rw[if_pos h2,if_pos (by omega)]
     ·rw[if_neg h2,if_neg (by omega)]
  rw[h.len,key n (zzL7 _),if_pos o.hr]
theorem DomTree.meet(h:DomTree S r n P t)(o:Ordered S r n P){a b:Nat}(ha:a<n)(hb:b<n)(hpa:Be t a≠-2)(hpb:Be t b≠-2):∃ m:Nat,Mj t (a:Int) (b:Int)=(m:Int)/\MeetAt (Be t) a b m/\m<n/\Be t m≠-2:=by
 have rd:Ready S r n P t P.length:=⟨h.inv,h.len,λx hx=>by rw[W0]at hx;exact h.full x (o.lt hx) ((o.mem x).1 hx)⟩;obtain⟨c,hc1,hc2,hc3⟩:=h.inv.meets (rd.inj o) QS _ a b (zzL7 _) ha hb hpa hpb;refine⟨c,?_,hc1,hc2,hc3⟩;unfold Mj;rw[if_pos (h.right o)];obtain⟨hca,hcb⟩:=(hc1 c).1 (.refl _)
 have hin:∀ z:Nat,(Ey t (b:Int)).contains (z:Int)=true↔UpTo (Be t) b z:=λz=>by
  rw[GR,(h.path o hb hpb).2.1]
  constructor
  ·rintro⟨y,hy,hu⟩;cases V5 hy;exact hu
  ·intro hu;exact⟨z,rfl,hu⟩
 rcases(h.path o ha hpa).2.2 λx=>(Ey t (b:Int)).contains x with⟨_,h2⟩|⟨f,h1,h2,h3,h4⟩
 ·have:=h2 c hca;rw[(hin c).2 hcb]at this
  cases this
 ·rw[h1];have hfc:=h4 c hca ((hin c).2 hcb);have hcf:=(hc1 f).2 ⟨h2,(hin f).1 h3⟩;rw[h.inv.antisymm hcf hfc hc2 hc3]
  rfl
theorem DomTree.meet_none(h:DomTree S r n P t)(o:Ordered S r n P){a b:Nat}(ha:a<n)(hb:b<n)(hp:Be t a = -2\/Be t b = -2):Mj t (a:Int) (b:Int) = -2:=by
 unfold Mj;rw[if_pos (h.right o)];rcases hp with hp|hp
 ·rw[h.nopath ha hp];rfl
 ·rw[h.nopath hb hp]
  have:(Ey t (a:Int)).find? (λx=>([]:List Int).contains x)=none:=List.find?_eq_none.2 λx _=>by simp
  rw[this];rfl
theorem DomTree.over(h:DomTree S r n P t)(o:Ordered S r n P){a b:Nat}(ha:a<n)(hb:b<n):N9 t (a:Int) (b:Int)=true↔Be t b≠-2/\UpTo (Be t) b a:=by
 unfold N9;rw[A6,zzL61,zzL88]
 by_cases hpa:Be t a = -2
 ·rw[h.meet_none o ha hb (.inl hpa)]
  constructor
  ·rintro⟨h1,_⟩;omega
  ·rintro⟨h1,h2⟩;exact absurd hpa (h.inv.anc h2 hb h1).2.1
 ·by_cases hpb:Be t b = -2
  ·rw[h.meet_none o ha hb (.inr hpb)]
   constructor
   ·rintro⟨h1,_⟩;omega
   ·rintro⟨h1,_⟩;exact absurd hpb h1
  ·obtain⟨m,hm1,hm2,hm3,hm4⟩:=h.meet o ha hb hpa hpb;rw[hm1]
   constructor
   ·rintro⟨h1,_⟩;have h1:=V5 h1;subst h1;exact⟨hpb,((hm2 _).1 (.refl _)).2⟩
   ·rintro⟨_,h2⟩;have:=(hm2 a).2 ⟨.refl _,h2⟩;have h3:=((hm2 m).1 (.refl _)).1;rw[h.inv.antisymm h3 this ha hpa];exact⟨rfl,by omega⟩
theorem DomTree.over_dom(h:DomTree S r n P t)(o:Ordered S r n P){a b:Nat}(ha:a<n)(hb:b<n):N9 t (a:Int) (b:Int)=true↔Rc S r b/\¬ Av S r a b:=by
 rw[h.over o ha hb]
 constructor
 ·rintro⟨h1,h2⟩;exact⟨h.inv.rc b hb h1,(h.exact_ b hb h1 a).1 h2⟩
 ·rintro⟨h1,h2⟩;have:=h.full b hb h1;exact⟨this,(h.exact_ b hb this a).2 h2⟩
end
section
variable {L:List (List Int)} (hm:L2 L=true) {r:Nat} (hr:r<L.length)
include hm hr
theorem bQ:∃ P,Ord (sN L) r (r::P)/\Ordered (sN L) r L.length P/\DomTree (sN L) r L.length P (Yh L r):=by
 obtain⟨O,hO⟩:=Ord.exist (Vt hm) hr;obtain⟨P,rfl,o⟩:=hO.ordered hr (Vt hm);obtain⟨J,_,hJ⟩:=j4 o;have hd:=BJ o hJ;refine⟨P,hO,o,?_⟩;rw[<- hd.eq hm hr o];exact hd
end
theorem ZZ{X:Type}(n:Nat)(p:Nat->Bool)(f:Int->Option (LR Int X))(yes no:X)(hn:∀ i:Nat,i<n->p i=true->f (i:Int)=some (.next ((i:Int)+1)))
  (hf:∀ i:Nat,i<n->p i=false->f (i:Int)=some (.done no)) (he:f (n:Int)=some (.done yes)):Ah f (0:Int)=some (bif (List.range n).all p then yes else no):=by
 have hg:∀ i,i<(List.range n).length->(List.range n).getD i 0=i:=λi hi=>by rw[Ab _ _ _ hi];simp
 have:=Tj (List.range n) 0 p f yes no (λi hi hp=>by rw[hg i hi]at hp;exact hn i (by simpa using hi) hp) (λi hi hp=>by rw[hg i hi]at hp;exact hf i (by simpa using hi) hp) (by simpa using he) n 0 (by simp);rw[show(0:Int)=((0:Nat):Int) from rfl,this,Lr]
theorem cJ{n:Nat}{p:Nat->Bool}(h:(List.range n).all p=true):∀ i,i<n->p i=true:=λi hi=>zzL27.1 h i (by simpa using hi)
def Ru(L:List (List Int)):List Bool:=JV (sN L) L.length ((List.replicate L.length false).set 0 true) L.length
def Hh(l:List Int)(p:E1):Bool:=decide (p.From=l)&&((p.Args.length:Int)==(l.length:Int))
def Qr(L:List (List Int))(b:Ag)(i:Nat):Bool:=(Ru L).getD i false&&!((b.End.Kind==1 || b.End.Kind==3)&&(b.End.Arg !=0))&&b.Phis.all (Hh ((Fm L).getD i []))
def Gb(f:Aa):Bool:=Oe f&&(List.range f.Blocks.length).all λi=>Qr (Eu f) (f.Blocks.getD i default) i
theorem Yd(f:Aa):(Eu f).length=f.Blocks.length:=by simp[Eu]
theorem bM{f:Aa}(h:Gb f=true):ir f:=λb hb p hp=>by
 simp only[Gb,A6]at h;obtain⟨i,hi,rfl⟩:=Lq hb;have h1:=cJ h.2 i hi;rw[Ab _ _ _ hi]at h1;simp only[Qr,A6]at h1;have h2:=zzL27.1 h1.2 p hp;simp only[Hh,A6,Du,zzL61]at h2;rw[h2.1];omega
def K7(l:List TDef)(i:Nat):Bool:=valS (l.getD i default).V&&(In l (l.getD i default).V==(i:Int))
def K8(l:List TDef)(u:Mx):Bool:=!decide (In l u.V<0)
def defOf(l:List TDef)(v:Int):TDef:=l.getD (In l v).toNat default
def X1(l:List TDef)(u:Mx):Bool:=((defOf l u.V).Shape.1==u.Shape.1)&&(((defOf l u.V).Shape.2==u.Shape.2)&&true)
def Vo(l:List TDef)(t:List Int)(u:Mx):Bool:=
 (decide ((defOf l u.V).Block<0) || ((defOf l u.V).Block==u.Block&&decide ((defOf l u.V).At<u.At))) || (!((defOf l u.V).Block==u.Block)&&!(Mj t (defOf l u.V).Block u.Block !=(defOf l u.V).Block))
def B4(f:Aa):List Int:=RM (Yu (Eu f)) 0
def NH(f:Aa)(l:Int):Int:=
 bif !Gb f then 5 else bif !Py f l then 6 else bif !(List.range (Ay f).length).all (K7 (Ay f)) then 7 else bif !(D5 f).all (K8 (Ay f)) then 7 else
 bif !(D5 f).all (X1 (Ay f)) then 6 else bif !(D5 f).all (Vo (Ay f) (B4 f)) then 7 else 0
def Cr(f:Aa)(l:Int):Int:=bif decide (l<0) || decide (2<l) then 1 else bif !Rk f then 4 else NH f l
theorem PD{l:List TDef}{v:Int}(h:¬ In l v<0):Bv (In l v) l.length:=by
 unfold In at h ⊢
 cases hx:l.findIdx? (λd=>d.V==v) with
 | none=>rw[hx]at h;exact absurd (by decide) h
 | some i=>
  obtain⟨hi,_⟩:=List.findIdx?_eq_some_iff_getElem.1 hx;exact Bd hi
theorem et{f:Aa}(h:Oe f=true):(B4 f).length<=1000:=by
 have h1:=(Y9 (Tz h)).1;unfold B4 RM
 split
 ·rw[KE];show(Eu f).length<=1000;omega
 ·simp
def grow(n d:Int):Int:=bif decide (n<d) then d else n
def Sm(f:Aa):Prop:=fi f/\Dw f=some true
theorem j0{f:Aa}(h:Sm f)(hm:Rk f=true):OkF f:=by
 obtain⟨sm,h1,h2⟩:=RG f h.1;rw[h.2]at h1;exact(h2 (OI h1).symm hm).1
structure bw(f:Aa)(s:List (Int×(Int×Int))):Prop where
 none:Cr f 2≠0->s.length=0
 len:Cr f 2=0->s.length=(Ay f).length
 get:Cr f 2=0->∀ d∈Ay f,mget ((0:Int),(0:Int)) s d.V=d.Shape
 has:Cr f 2=0->∀ v,B6 s v=true->∃ d∈Ay f,d.V=v
theorem my{f:Aa}(hf:fi f)(h0:f.Params.length<=64)(hb:∀ b∈f.Blocks,b.End.To.length<=64/\(∀ p∈b.Phis,p.From.length<=64/\p.Args.length<=64)/\∀ o∈b.Ops,o.Args.length<=64)(he:ZP f<=20000):Sm f:=
 ⟨hf,by rw[RF f hf h0 hb,Da he]⟩
def FT(f:Aa):Int:=
 bif !(List.range (Ay f).length).all (K7 (Ay f)) then 7 else bif !(D5 f).all (K8 (Ay f)) then 7 else
 bif !(D5 f).all (X1 (Ay f)) then 6 else bif !(D5 f).all (Vo (Ay f) (B4 f)) then 7 else 0
theorem Nv{f:Aa}{l:Int}(h0:0<=l)(h2:l<=2):Cr f l=0↔Rk f=true/\Gb f=true/\Py f l=true/\FT f=0:=by
 unfold Cr NH;rw[Dm (show ¬ l<0 by omega),Dm (show ¬ 2<l by omega)]
 show _↔_/\_/\_/\FT f=0
 have e:(bif !(List.range (Ay f).length).all (K7 (Ay f)) then(7:Int) else bif !(D5 f).all (K8 (Ay f)) then 7 else
  bif !(D5 f).all (X1 (Ay f)) then 6 else bif !(D5 f).all (Vo (Ay f) (B4 f)) then 7 else 0)=FT f:=rfl
 rw[e]
 cases Rk f<;>cases Gb f<;>cases Py f l<;>simp
theorem de{o:Bl}(h:Hx o=true):1<=o.Lanes:=by
 simp only[Hx,A6]at h;have:=Mo h.1.1;omega
theorem jI{α:Type}(l:List α)(g:α->Nat):(l.map λa=>g a+1).sum=l.length+(l.map g).sum:=by
 induction l with
 | nil=>rfl
 | cons a l ih=>simp only[Bu,V6,ih,Nc];omega
theorem e8(a b:Int):Ap (a+Ap b)=Ap (a+b):=by rw[Int.add_comm,YC,Int.add_comm]
theorem nB(f:Aa)(hf:fi f):O4 f=some (sizeW f):=by
 have hl:=JF f.Blocks (default:Ag) (λb=>b.Phis.length+b.Ops.length) id (Kx f) (λn i hi=>?_) (λn=>?_) f.Blocks.length 0 f.Blocks.length (Fp _)
 ·unfold O4;rw[DD (by have:=hf.blocks;rw[Je]at this;omega),show((0:Nat):Int)=0 from rfl]at hl;rw[hl,Ar,Lr,sizeW,Pf,show(sizeB:Ag->Nat)=(λb=>(b.Phis.length+b.Ops.length)+1) from rfl,jI]
  rfl
 ·have e1:decide ((i:Int)<(f.Blocks.length:Int))=true:=Da (by omega);unfold Kx;simp only[e1,Ae,Au (Bd hi),Do,I7 hi hf.blocks,e8,YC];rw[show(n:Int)+(((f.Blocks.getD i default).Phis.length:Int)+((f.Blocks.getD i default).Ops.length:Int))=((n+((f.Blocks.getD i default).Phis.length+(f.Blocks.getD i default).Ops.length):Nat):Int) by omega]
 ·have e1:decide ((f.Blocks.length:Int)<(f.Blocks.length:Int))=false:=by simp
  unfold Kx;simp only[e1,Az,id]
theorem Xa{α:Type}(l:List α)(d:α)(p:α->Bool)(f:Int->Option (LR Int (Unit ⊕ Bool)))(hn:∀ i:Nat,i<l.length->f i=bif p (l.getD i d) then some (.next ((i:Int)+1)) else some (.done (.inr false)))
  (he:f l.length=some (.done (.inl ()))):Ah f 0=some (bif l.all p then .inl () else .inr false):=by
 have:=Tj l d p f (.inl ()) (.inr false) (λi hi hp=>by rw[hn i hi,hp];rfl) (λi hi hp=>by rw[hn i hi,hp];rfl) he l.length 0 (Fp _)
 simpa using this
theorem ap(x:Int):(bif decide (x<0) then true else decide (2147483647<x)) = !numB x:=by
 unfold numB
 by_cases h1:x<0
 ·have:¬ 0<=x:=by omega
  simp[h1,this]
 ·by_cases h2:2147483647<x
  ·have:¬ x<=2147483647:=by omega
   simp[h1,h2,this]
  ·have h3:0<=x:=by omega
   have h4:x<=2147483647:=by omega
   simp[h1,h2,h3,h4]
theorem KH(l:List Int)(h:l.length<=maxLen):C5 l=some (l.all numB):=by
 have hl:=Xa l 0 numB (Gt l) (λi hi=>?_) ?_
 ·unfold C5;rw[hl]
  cases l.all numB<;>rfl
 ·have e1:decide ((i:Int)<(l.length:Int))=true:=Da (by omega);unfold Gt;simp only[e1,Ae,Au (Bd hi),Do,ap,I7 hi h]
  cases numB (l.getD i 0)<;>simp
 ·unfold Gt
  simp
theorem U8(l:List Int)(h:l.length<=maxLen):Fj l=some (Mi l):=by
 unfold Fj;rw[KH l h]
 by_cases h1:l.length<=64
 ·have e1:decide ((l.length:Int)<=64)=true:=Da (by omega);rw[e1];simp[Mi,h1]
 ·have e1:decide ((l.length:Int)<=64)=false:=Dm (by omega);rw[e1];simp[Mi,h1]
theorem U4{l:List Int}(h:l.length<=10):l.length<=maxLen:=by rw[Je];omega
theorem fE(p:E1)(h1:p.From.length<=maxLen)(h2:p.Args.length<=maxLen):Kz p=some (HU p):=by
 unfold Kz HU;rw[KH _ (U4 (by simp)),U8 _ h1,U8 _ h2];simp only[Pi,List.all_nil,AC]
 cases numB p.Bits<;>cases numB p.Dst<;>cases Mi p.From<;>cases Mi p.Args<;>rfl
theorem jO(o:Bl)(h1:o.Args.length<=maxLen):Mc o=some (NW o):=by
 unfold Mc NW;rw[KH _ (U4 (by simp)),U8 _ h1];simp only[Pi,List.all_nil,AC]
 cases numB o.Kind<;>cases numB o.Bits<;>cases numB o.Lanes<;>cases numB o.Dst<;>cases Mi o.Args<;>rfl
theorem fC(e:Gh)(h1:e.To.length<=maxLen):Ky e=some (OZ e):=by
 unfold Ky OZ;rw[KH _ (U4 (by simp)),U8 _ h1];simp only[Pi,List.all_nil,AC]
 cases numB e.Kind<;>cases numB e.Arg<;>cases Mi e.To<;>rfl
theorem ES{X:Type}(b:Bool)(x y:X):(bif !b then x else y)=bif b then y else x:=by cases b<;>rfl
theorem bT(l:List E1)(hl:l.length<=maxLen)(h:∀ p∈l,p.From.length<=maxLen/\p.Args.length<=maxLen):F9 l=some (l.all HU):=by
 have hl':=Xa l (default:E1) HU (E3 l) (λi hi=>?_) ?_
 ·unfold F9;rw[hl']
  cases l.all HU<;>rfl
 ·have e1:decide ((i:Int)<(l.length:Int))=true:=Da (by omega);have:=h _ (getD_mem (d:=(default:E1)) hi);unfold E3;simp only[e1,Ae,Au (Bd hi),Do,fE _ this.1 this.2,Ar,ES,I7 hi hl,Int.natCast_add,Int.natCast_one]
 ·unfold E3
  simp
theorem fD(l:List Bl)(hl:l.length<=maxLen)(h:∀ o∈l,o.Args.length<=maxLen):Gs l=some (l.all NW):=by
 have hl':=Xa l (default:Bl) NW (Ff l) (λi hi=>?_) ?_
 ·unfold Gs;rw[hl']
  cases l.all NW<;>rfl
 ·have e1:decide ((i:Int)<(l.length:Int))=true:=Da (by omega);have:=h _ (getD_mem (d:=(default:Bl)) hi);unfold Ff;simp only[e1,Ae,Au (Bd hi),Do,jO _ this,Ar,ES,I7 hi hl,Int.natCast_add,Int.natCast_one]
 ·unfold Ff
  simp
theorem VI(b:Ag)(h1:b.Phis.length<=maxLen)(h2:b.Ops.length<=maxLen)(h3:b.End.To.length<=maxLen)(h4:∀ p∈b.Phis,p.From.length<=maxLen/\p.Args.length<=maxLen)(h5:∀ o∈b.Ops,o.Args.length<=maxLen):Jc b=some (blockB b):=by
 unfold Jc blockB;rw[bT _ h1 h4,fD _ h2 h5,fC _ h3]
 cases b.Phis.all HU<;>cases b.Ops.all NW<;>cases OZ b.End<;>rfl
theorem RR(f:Aa)(hf:fi f):Fe f.Blocks=some (f.Blocks.all blockB):=by
 have hl':=Xa f.Blocks (default:Ag) blockB (Ee f.Blocks) (λi hi=>?_) ?_
 ·unfold Fe;rw[hl']
  cases f.Blocks.all blockB<;>rfl
 ·have e1:decide ((i:Int)<(f.Blocks.length:Int))=true:=Da (by omega);have hm:=getD_mem (d:=(default:Ag)) hi;have q:=hf.block _ hm;unfold Ee;simp only[e1,Ae,Au (Bd hi),Do,VI _ q.1 q.2.1 q.2.2 (hf.phi _ hm) (λo ho=>(hf.op _ hm o ho).1),Ar,ES,I7 hi hf.blocks,Int.natCast_add,Int.natCast_one]
 ·unfold Ee
  simp
theorem od(f:Aa)(hf:fi f):Rg f=some (Rk f):=by
 unfold Rg Rk;rw[nB f hf,KH _ hf.params,KH _ (U4 (by simp)),RR f hf];simp only[Pi,List.all_nil,AC,Mi]
 have d1:∀ n:Nat,decide ((n:Int)<1) = !decide (1<=n):=λn=>by by_cases h:1<=n<;>simp[h]<;>omega
 have d2:∀ n:Nat,decide ((64:Int)<(n:Int)) = !decide (n<=64):=λn=>by by_cases h:n<=64<;>simp[h]<;>omega
 have d3:∀ n:Nat,decide ((16:Int)<(n:Int)) = !decide (n<=16):=λn=>by by_cases h:n<=16<;>simp[h]<;>omega
 have d4:∀ n:Int,decide ((512:Int)<n) = !decide (n<=512):=λn=>by by_cases h:n<=512<;>simp[h]<;>omega
 simp only[d1,d2,d3,d4]
 have himp:decide (f.Params.length<=16)=true->decide (f.Params.length<=64)=true:=λh=>by simp at h ⊢;omega
 revert himp
 generalize decide (1<=f.Blocks.length)=c1
 generalize decide (f.Blocks.length<=64)=c2
 generalize decide (f.Params.length<=16)=c3
 generalize decide (f.Params.length<=64)=c4
 generalize f.Params.all numB=c6
 generalize numB f.Ret=c7
 generalize f.Blocks.all blockB=c8
 cases c3 with
 | true=>
  intro h;obtain rfl:=h rfl;simp only[Fi,Ql,Ae,Ar,Az]
  generalize decide (sizeW f<=512)=c5
  cases c1<;>cases c2<;>cases c6<;>cases c7<;>cases c8<;>cases c5<;>rfl
 | false=>
  intro _
  cases c1<;>cases c2<;>rfl
inductive Tp (t:List Int):Nat->Nat->Nat->Prop
 | top {x:Nat} (hx:x<t.length) (h:t.getD x 0 = -1):Tp t x x 0
 | up {x y r k:Nat} (hx:x<t.length) (h:t.getD x 0=(y:Int)) (hk:Tp t y r k):Tp t x r (k+1)
section
variable {t:List Int}
theorem Tp.lt{x r k:Nat}(h:Tp t x r k):x<t.length:=by cases h<;>assumption
theorem Tp.tops{x r k:Nat}(h:Tp t x r k):r<t.length/\t.getD r 0 = -1:=by
 induction h with
 | top hx h=>exact⟨hx,h⟩
 | up _ _ _ ih=>exact ih
theorem Tp.det{x r k r' k':Nat}(h:Tp t x r k)(h':Tp t x r' k'):r=r'/\k=k':=by
 induction h generalizing k' with
 | top hx h=>cases h' with
  | top=>exact⟨rfl,rfl⟩
  | up _ h2 _=>omega
 | up hx h1 _ ih=>cases h' with
  | top _ h2=>omega
  | up _ h2 k2=>
   have:_=_:=h1.symm.trans h2
   cases V5 this
   obtain⟨e1,e2⟩:=ih k2;exact⟨e1,by omega⟩
theorem Tp.upTo{x r k:Nat}(h:Tp t x r k):UpTo (Be t) x r:=by
 induction h with
 | top=>exact .refl _
 | up _ h _ ih=>exact .up h ih
theorem Tp.on{x r k z:Nat}(h:Tp t x r k)(hz:UpTo (Be t) x z):∃ j,j<=k/\Tp t z r j/\(j=k->z=x):=by
 induction hz generalizing k with
 | refl x=>exact⟨k,zzL7 _,h,λ_=>rfl⟩
 | up hp _ ih=>
  cases h with
  | top _ h2=>have:_=_:=hp.symm.trans h2;omega
  | up _ h2 k2=>
   have:_=_:=hp.symm.trans h2
   cases V5 this
   obtain⟨j,h1,h3,_⟩:=ih k2;exact⟨j,by omega,h3,λe=>by omega⟩
theorem Tp.anti{x r k z:Nat}(h:Tp t x r k)(h1:UpTo (Be t) x z)(h2:UpTo (Be t) z x):z=x:=by
 obtain⟨j,j1,j2,j3⟩:=h.on h1;obtain⟨i,i1,i2,i3⟩:=j2.on h2;have:=h.det i2;exact j3 (by omega)
theorem Tp.list{x r k:Nat}(h:Tp t x r k):∃ l:List Nat,l.length=k+1/\l.Nodup/\∀ y∈l,y<t.length/\∃ j,j<=k/\Tp t y r j:=by
 induction h with
 | top hx h=>exact⟨[_],rfl,by simp,λy hy=>by rw[zzL15.1 hy];exact⟨hx,0,zzL7 _,.top hx h⟩⟩
 | @up x y r k hx h hk ih=>
  obtain⟨l,h1,h2,h3⟩:=ih;refine⟨x::l,by simp[h1],zzL77.2 ⟨λhm=>?_,h2⟩,λz hz=>?_⟩
  ·obtain⟨_,j,hj,hj2⟩:=h3 _ hm;have:=(Tp.up hx h hk).det hj2;omega
  ·rcases zzL24.1 hz with rfl|hz
   ·exact⟨hx,k+1,zzL7 _,.up hx h hk⟩
   ·obtain⟨e1,j,e2,e3⟩:=h3 z hz;exact⟨e1,j,by omega,e3⟩
theorem Tp.short{x r k:Nat}(h:Tp t x r k):k<t.length:=by
 obtain⟨l,h1,h2,h3⟩:=h.list;have:=L3 t.length l h2 λy hy=>(h3 y hy).1;omega
theorem Tp.upD{x r k:Nat}(h:Tp t x r k):∀ m,k<m->∃ q,upD t m (x:Int)=some q/\(∀ w:Int,w∈q↔∃ z:Nat,w=(z:Int)/\UpTo (Be t) x z) /\
  ∀ p:Int->Bool,(q.find? p=none/\∀ z:Nat,UpTo (Be t) x z->p (z:Int)=false)\/∃ f:Nat,q.find? p=some (f:Int)/\UpTo (Be t) x f/\p (f:Int)=true/\∀ z:Nat,UpTo (Be t) x z->p (z:Int)=true->UpTo (Be t) f z:=by
 induction h with
 | @top x hx h=>
  intro m hm;obtain⟨m,rfl⟩:∃ i,m=i+1:=⟨m-1,by omega⟩
  have htop:∀ z,UpTo (Be t) x z↔z=x:=λz=>CK λp hp=>by have:_=_:=hp.symm.trans h;omega
  unfold Go.Proofs.YtjpnobeadcdnoaaGreat.upD;rw[if_pos ⟨by omega,by omega⟩,A4,if_pos h];refine⟨_,rfl,λw=>?_,λp=>?_⟩
  ·rw[zzL15]
   constructor
   ·rintro rfl;exact⟨x,rfl,.refl _⟩
   ·rintro⟨z,rfl,hz⟩;rw[(htop z).1 hz]
  ·cases hpp:p (x:Int) with
   | false=>exact .inl ⟨by simp[List.find?,hpp],λz hz=>by rw[(htop z).1 hz];exact hpp⟩
   | true=>exact .inr ⟨x,by simp[List.find?,hpp],.refl _,hpp,λz hz _=>hz⟩
 | @up x y r k hx h hk ih=>
  intro m hm;obtain⟨m,rfl⟩:∃ i,m=i+1:=⟨m-1,by omega⟩;unfold Go.Proofs.YtjpnobeadcdnoaaGreat.upD;rw[if_pos ⟨by omega,by omega⟩,A4,if_neg (by omega),h];obtain⟨q,hq1,hq2,hq3⟩:=ih m (by omega);rw[hq1];refine⟨(x:Int)::q,rfl,λw=>?_,λp=>?_⟩
  ·rw[zzL24,hq2 w]
   constructor
   ·rintro(rfl|⟨y,rfl,hy⟩)
    ·exact⟨x,rfl,.refl _⟩
    ·exact⟨y,rfl,.up h hy⟩
   ·rintro⟨y,rfl,hy⟩;rcases(anc_up h).1 hy with rfl|hy
    ·exact .inl rfl
    ·exact .inr ⟨y,rfl,hy⟩
  ·cases hpp:p (x:Int) with
   | true=>exact .inr ⟨x,by simp[List.find?,hpp],.refl _,hpp,λy hy _=>hy⟩
   | false=>
    have hf:((x:Int)::q).find? p=q.find? p:=by simp[List.find?,hpp]
    rw[hf];rcases hq3 p with⟨e1,e2⟩|⟨f,e1,e2,e3,e4⟩
    ·refine .inl ⟨e1,λy hy=>?_⟩;rcases(anc_up h).1 hy with rfl|hy
     ·exact hpp
     ·exact e2 y hy
    ·refine .inr ⟨f,e1,.up h e2,e3,λy hy hpy=>?_⟩;rcases(anc_up h).1 hy with rfl|hy
     ·rw[hpp]at hpy;cases hpy
     ·exact e4 y hy hpy
theorem lT:∀ m (a:Int) q,upD t m a=some q->∃ x r k:Nat,a=(x:Int)/\k<m/\Tp t x r k:=by
 intro m
 induction m with
 | zero=>intro a q h;cases h
 | succ m ih=>
  intro a q h;unfold Go.Proofs.YtjpnobeadcdnoaaGreat.upD at h
  by_cases ha:0<=a/\a<(t.length:Int)
  ·rw[if_pos ha]at h;have e:((a.toNat:Nat):Int)=a:=V0 ha.1
   by_cases h1:t.getD a.toNat 0 = -1
   ·exact⟨a.toNat,a.toNat,0,e.symm,by omega,.top (by omega) h1⟩
   ·rw[if_neg h1]at h
    cases hu:Go.Proofs.YtjpnobeadcdnoaaGreat.upD t m (t.getD a.toNat 0) with
    | none=>rw[hu]at h;cases h
    | some q'=>
     obtain⟨y,r,k,e1,e2,e3⟩:=ih _ _ hu;exact⟨a.toNat,r,k+1,e.symm,by omega,.up (by omega) e1 e3⟩
  ·rw[if_neg ha]at h;cases h
theorem pathD_tp{a:Int}:Ey t a≠[]↔∃ x r k:Nat,a=(x:Int)/\Tp t x r k:=by
 constructor
 ·intro h
  cases hu:upD t t.length a with
  | none=>exact absurd (pathD_nil.2 hu) h
  | some q=>obtain⟨x,r,k,e1,_,e2⟩:=lT _ _ _ hu;exact⟨x,r,k,e1,e2⟩
 ·rintro⟨x,r,k,rfl,h⟩ e;obtain⟨q,hq,_⟩:=h.upD t.length h.short;rw[pathD_nil.1 e]at hq;cases hq
theorem Tp.path{x r k:Nat}(h:Tp t x r k):(∀ w:Int,w∈Ey t (x:Int)↔∃ z:Nat,w=(z:Int)/\UpTo (Be t) x z) /\
  ∀ p:Int->Bool,((Ey t (x:Int)).find? p=none/\∀ z:Nat,UpTo (Be t) x z->p (z:Int)=false)\/∃ f:Nat,(Ey t (x:Int)).find? p=some (f:Int)/\UpTo (Be t) x f/\p (f:Int)=true/\∀ z:Nat,UpTo (Be t) x z->p (z:Int)=true->UpTo (Be t) f z:=by
 obtain⟨q,h1,h2,h3⟩:=h.upD t.length h.short
 have e:Ey t (x:Int)=q:=by unfold Ey;rw[h1];rfl
 rw[e];exact⟨h2,h3⟩
theorem EA{α:Type}{l:List α}{i j:Nat}{x d:α}(hi:i<l.length):(l.set i x).getD j d=if j=i then x else l.getD j d:=by
 by_cases h:j=i
 ·subst h;simp[List.getD,hi]
 ·simp[List.getD,h,Hk h]
theorem iW{x r k:Nat}(h:Tp t x r k):∀ l:List Bool,l.length=t.length->∃ l',Ah (Fz t) ((x:Int),l)=some l'/\l'.length=t.length/\∀ z,z<t.length->(l'.getD z false=true↔l.getD z false=true\/UpTo (Be t) x z):=by
 induction h with
 | @top x hx h=>
  intro l hl
  have hs:Fz t ((x:Int),l)=some (.next (-1,l.set x true)):=by
   unfold Fz
   have hb:((x:Int)!=(-1:Int))=true:=by rw[zzL88];omega
   simp only[hb,Ae,A4,h];rw[Ac (I8 (by omega)),Ac (I8 hx)]
  have hd:Fz t (-1,l.set x true)=some (.done (l.set x true)):=by
   unfold Fz
   rfl
  refine⟨l.set x true,by rw[Ao hs,Ai hd],by simp[hl],λz hz=>?_⟩;rw[EA (by omega)]
  have htop:UpTo (Be t) x z↔z=x:=CK λp hp=>by have:_=_:=hp.symm.trans h;omega
  rw[htop]
  by_cases e:z=x
  ·simp[e]
  ·simp[e]
 | @up x y r k hx h hk ih=>
  intro l hl
  have hs:Fz t ((x:Int),l)=some (.next ((y:Int),l.set x true)):=by
   unfold Fz
   have hb:((x:Int)!=(-1:Int))=true:=by rw[zzL88];omega
   simp only[hb,Ae,A4,h];rw[Ac (I8 (by omega)),Ac (I8 hx)]
  obtain⟨l',e1,e2,e3⟩:=ih (l.set x true) (by simp[hl]);refine⟨l',by rw[Ao hs,e1],e2,λz hz=>?_⟩;rw[e3 z hz,EA (by omega),anc_up (par:=Be t) h]
  by_cases e:z=x
  ·simp[e]
  ·simp[e]
theorem iX{b r k:Nat}(h:Tp t b r k)(l:List Bool)(hl:l.length=t.length):l.getD r false=true->∃ c:Nat,Ah (F0 t l) (b:Int)=some (c:Int)/\UpTo (Be t) b c/\l.getD c false=true/\∀ z,UpTo (Be t) b z->l.getD z false=true->UpTo (Be t) c z:=by
 induction h with
 | @top x hx h=>
  intro hr
  have hd:F0 t l (x:Int)=some (.done (x:Int)):=by
   unfold F0;rw[Ac (I8 (by omega)),A4,hr]
   rfl
  exact⟨x,Ai hd,.refl _,hr,λz hz _=>hz⟩
 | @up x y r k hx h hk ih=>
  intro hr
  cases hx2:l.getD x false with
  | true=>
   have hd:F0 t l (x:Int)=some (.done (x:Int)):=by
    unfold F0;rw[Ac (I8 (by omega)),A4,hx2]
    rfl
   exact⟨x,Ai hd,.refl _,hx2,λz hz _=>hz⟩
  | false=>
   have hs:F0 t l (x:Int)=some (.next (y:Int)):=by
    unfold F0;rw[Ac (I8 (by omega)),A4,hx2,Lh,Ae,Ac (I8 hx),h]
   obtain⟨c,e1,e2,e3,e4⟩:=ih hr;refine⟨c,by rw[Ao hs,e1],.up h e2,e3,λz hz hlz=>?_⟩;rcases(anc_up (par:=Be t) h).1 hz with rfl|hz
   ·rw[hx2]at hlz;cases hlz
   ·exact e4 z hz hlz
theorem AX(ht:t.length<=1000){a b r k m:Nat}(ha:Tp t a r k)(hb:Tp t b r m):∃ c:Nat,L0 t (a:Int) (b:Int)=some (c:Int)/\MeetAt (Be t) a b c:=by
 unfold L0
 have hroom:(1000:Nat)<=room:=by decide
 rw[Ac ⟨by omega,by omega,by omega⟩,A4];obtain⟨l',h1,h2,h3⟩:=iW ha (List.replicate t.length false) (by simp);rw[h1,Ar]
 have h3':∀ z,z<t.length->(l'.getD z false=true↔UpTo (Be t) a z):=λz hz=>by rw[h3 z hz,Ob];simp
 obtain⟨c,e1,e2,e3,e4⟩:=iX hb l' h2 ((h3' r ha.tops.1).2 ha.upTo)
 have hc:c<t.length:=by obtain⟨j,_,hj,_⟩:=hb.on e2;exact hj.lt
 refine⟨c,by rw[e1];rfl,λw=>⟨λhw=>⟨((h3' c hc).1 e3).trans hw,e2.trans hw⟩,λ⟨hw1,hw2⟩=>?_⟩⟩;obtain⟨j,_,hj,_⟩:=ha.on hw1;exact e4 w hw2 ((h3' w hj.lt).2 hw1)
theorem dm(hR:I4 t=true){a b r k m:Nat}(ha:Tp t a r k)(hb:Tp t b r m):∃ c:Nat,Mj t (a:Int) (b:Int)=(c:Int)/\MeetAt (Be t) a b c:=by
 unfold Mj;rw[if_pos hR]
 have hcon:∀ z:Nat,(Ey t (b:Int)).contains (z:Int)=true↔UpTo (Be t) b z:=λz=>by
  rw[GR,hb.path.1]
  constructor
  ·rintro⟨y,e,hy⟩;cases V5 e;exact hy
  ·intro hz;exact⟨z,rfl,hz⟩
 rcases ha.path.2 (λx=>(Ey t (b:Int)).contains x) with⟨e1,e2⟩|⟨f,e1,e2,e3,e4⟩
 ·have:=e2 r ha.upTo;rw[(hcon r).2 hb.upTo]at this
  cases this
 ·exact⟨f,by rw[e1];rfl,λw=>⟨λhw=>⟨e2.trans hw,((hcon f).1 e3).trans hw⟩,λ⟨hw1,hw2⟩=>e4 w hw1 ((hcon w).2 hw2)⟩⟩
theorem MeetAt.same{a b r k c d:Nat}(ha:Tp t a r k)(hc:MeetAt (Be t) a b c)(hd:MeetAt (Be t) a b d):c=d:=by
 obtain⟨j,_,hj,_⟩:=ha.on ((hc c).1 (.refl _)).1;exact(hj.anti ((hc d).2 ((hd d).1 (.refl _))) ((hd c).2 ((hc c).1 (.refl _)))).symm
end
theorem m_index(t:List Int)(v:Int)(ht:t.length<=1000):(∃ r:Nat,r<t.length/\t.getD r 0=v/\(∀ i,i<r->t.getD i 0≠v)/\Ei t v=some (r:Int))\/((∀ i,i<t.length->t.getD i 0≠v)/\Ei t v=some (-1)):=by
 have key:∀ k i:Nat,i+k=t.length->(∀ j,j<i->t.getD j 0≠v)->
   (∃ r:Nat,r<t.length/\t.getD r 0=v/\(∀ i,i<r->t.getD i 0≠v)/\Ah (B3 t v) (i:Int)=some (.inr (r:Int)))\/((∀ i,i<t.length->t.getD i 0≠v)/\Ah (B3 t v) (i:Int)=some (.inl ())):=by
  intro k
  induction k with
  | zero=>
   intro i hi hj
   obtain rfl:i=t.length:=by omega
   refine .inr ⟨hj,Ai ?_⟩;unfold B3;rw[Jk];rfl
  | succ k ih=>
   intro i hi hj
   by_cases e:v=t.getD i 0
   ·refine .inl ⟨i,by omega,e.symm,hj,Ai ?_⟩;unfold B3;have hb:((v:Int)==t.getD i 0)=true:=zzL61.2 e;simp only[E9 (show i<t.length by omega),Ae,A4,hb];rw[Ac (I8 (by omega))]
   ·have hs:B3 t v (i:Int)=some (.next ((i+1:Nat):Int)):=by
     unfold B3;have hb:((v:Int)==t.getD i 0)=false:=zzL25.2 e;simp only[E9 (show i<t.length by omega),Ae,A4,hb,Az];rw[Ac (I8 (by omega)),w1 (by omega)]
    rw[Ao hs]
    exact ih (i+1) (by omega) λj hj2=>by
     by_cases ej:j=i
     ·subst ej;exact λh=>e h.symm
     ·exact hj j (by omega)
 have h0:=key t.length 0 (by omega) (λj hj=>absurd hj (Mt _));unfold Ei;rcases h0 with⟨r,h1,h2,h3,h4⟩|⟨h1,h2⟩
 ·exact .inl ⟨r,h1,h2,h3,by rw[show((0:Int))=((0:Nat):Int) from rfl,h4];rfl⟩
 ·exact .inr ⟨h1,by rw[show((0:Int))=((0:Nat):Int) from rfl,h2];rfl⟩
section
variable {t:List Int}
structure Vh(t:List Int)(r f:Nat)(w:List Int):Prop where
 len:w.length=t.length
 old:∀ y,y<t.length->w.getD y 0≠0->(w.getD y 0<=(f:Int))/\∃ k,Tp t y r k
structure b6(t:List Int)(r f x:Nat)(w:List Int):Prop where
 len:w.length=t.length
 hx:x<t.length
 old:∀ y,y<t.length->w.getD y 0≠0->w.getD y 0<=(f:Int)/\(∃ k,Tp t y r k)\/w.getD y 0=((f+1:Nat):Int)/\∀ r' k,Tp t x r' k->∃ j,k<j/\Tp t y r' j
 fwd:∀ r' k,Tp t x r' k->∃ j,k<=j/\Tp t f r' j
 back:∀ r' k,Tp t f r' k->∃ j,Tp t x r' j
def KJ(w:List Int):Nat:=w.countP λz=>z==0
theorem bX{w:List Int}{x:Nat}{v:Int}(hx:x<w.length)(h0:w.getD x 0=0)(hv:v≠0):KJ (w.set x v)<KJ w:=by
 unfold KJ;rw[List.countP_set hx];rw[Ab _ _ _ hx]at h0;have hp:0<w.countP λz=>z==0:=List.countP_pos_iff.2 ⟨w[x],Yo hx,by simp[h0]⟩;have hb:(v==0)=false:=zzL25.2 hv;simp only[h0,Ql,Hj,hb,Yl,E0];omega
theorem leads_loop(ht:t.length<=1000){r:Nat}(hr:r<t.length)(htop:t.getD r 0 = -1){f:Nat}(hf:f<t.length):∀(m x:Nat) (w:List Int),KJ w<=m->b6 t r f x w->
  (∃ w',Ah (Cz t (f:Int) (r:Int)) ((x:Int),w)=some (.inl w')/\Vh t r (f+1) w'/\∃ k,Tp t f r k) \/
  ∃ b w',Ah (Cz t (f:Int) (r:Int)) ((x:Int),w)=some (.inr (b,w'))/\w'.length=t.length/\(b=true->Vh t r (f+1) w'/\∃ k,Tp t f r k)/\(b=false->∀ k,¬ Tp t f r k):=by
 intro m
 induction m with
 | zero=>
  intro x w hz hw;exact go 0 (λx w hz=>absurd hz (Mt _)) x w hz hw
 | succ m ih=>
  intro x w hz hw;exact go (m+1) (λx w hz=>ih x w (Nat.le_of_lt_succ hz)) x w hz hw
where
 go (m:Nat) (ih:∀(x:Nat) (w:List Int),KJ w<m->b6 t r f x w->
  (∃ w',Ah (Cz t (f:Int) (r:Int)) ((x:Int),w)=some (.inl w')/\Vh t r (f+1) w'/\∃ k,Tp t f r k) \/
  ∃ b w',Ah (Cz t (f:Int) (r:Int)) ((x:Int),w)=some (.inr (b,w'))/\w'.length=t.length/\(b=true->Vh t r (f+1) w'/\∃ k,Tp t f r k)/\(b=false->∀ k,¬ Tp t f r k)) (x:Nat) (w:List Int) (hz:KJ w<=m) (hw:b6 t r f x w) :
  (∃ w',Ah (Cz t (f:Int) (r:Int)) ((x:Int),w)=some (.inl w')/\Vh t r (f+1) w'/\∃ k,Tp t f r k) \/
  ∃ b w',Ah (Cz t (f:Int) (r:Int)) ((x:Int),w)=some (.inr (b,w'))/\w'.length=t.length/\(b=true->Vh t r (f+1) w'/\∃ k,Tp t f r k)/\(b=false->∀ k,¬ Tp t f r k):=by
  have hxl:=hw.hx
  have told:∀ k,Tp t x r k->Vh t r (f+1) w/\∃ k,Tp t f r k:=λk hk=>by
   obtain⟨j,_,hj⟩:=hw.fwd _ _ hk;refine⟨⟨hw.len,λy hy hy0=>?_⟩,j,hj⟩;rcases hw.old y hy hy0 with⟨h1,h2⟩|⟨h1,h2⟩
   ·exact⟨by omega,h2⟩
   ·obtain⟨i,_,hi⟩:=h2 _ _ hk;exact⟨by omega,i,hi⟩
  by_cases hxr:x=r
  ·subst hxr;refine .inl ⟨w,Ai ?_,told 0 (.top hr htop)⟩;unfold Cz
   have hb:((x:Int)!=(x:Int))=false:=by simp
   simp only[hb,Az]
  ·have hb:((x:Int)!=(r:Int))=true:=by rw[zzL88];omega
   have hin:Bv (x:Int) w.length:=I8 (by rw[hw.len];exact hxl)
   by_cases hw0:w.getD x 0=0
   ·have hb0:((w.getD x 0:Int)!=0)=false:=by rw[hw0];rfl
    by_cases hpl:0<=t.getD x 0/\t.getD x 0<(t.length:Int)
    ·have hwf:Ap ((f:Int)+1)=((f+1:Nat):Int):=w1 (by omega)
     have hs:Cz t (f:Int) (r:Int) ((x:Int),w)=some (.next (t.getD x 0,w.set x ((f+1:Nat):Int))):=by
      unfold Cz Ia;simp only[hb,Ae,A4,hb0,Az];rw[Ac hin,Ac (I8 hxl),Da hpl.1,Da hpl.2,Ae,Ar,Fi,Az,Ac hin,Ac (I8 hxl),hwf]
     rw[Ao hs];obtain⟨y,hy⟩:∃ y:Nat,t.getD x 0=(y:Int):=⟨(t.getD x 0).toNat,(V0 hpl.1).symm⟩;rw[hy]at hpl ⊢
     have hyl:y<t.length:=by omega
     have hst:∀ r' k,Tp t y r' k->Tp t x r' (k+1):=λr' k hk=>.up hxl hy hk
     have hset:∀ z,z<t.length->(w.set x ((f+1:Nat):Int)).getD z 0=if z=x then((f+1:Nat):Int) else w.getD z 0:=λz _=>EA (by rw[hw.len];exact hxl)
     have hW:b6 t r f y (w.set x ((f+1:Nat):Int)):=by
      refine⟨by simp[hw.len],hyl,λz hzl hz0=>?_,λr' k hk=>?_,λr' k hk=>?_⟩
      ·rw[hset z hzl]at hz0 ⊢
       by_cases e:z=x
       ·subst e;rw[if_pos rfl];exact .inr ⟨rfl,λr' k hk=>⟨k+1,by omega,hst r' k hk⟩⟩
       ·rw[if_neg e]at hz0 ⊢;rcases hw.old z hzl hz0 with h1|⟨h1,h2⟩
        ·exact .inl h1
        ·refine .inr ⟨h1,λr' k hk=>?_⟩;obtain⟨j,hj1,hj2⟩:=h2 _ _ (hst r' k hk);exact⟨j,by omega,hj2⟩
      ·obtain⟨j,hj1,hj2⟩:=hw.fwd _ _ (hst r' k hk);exact⟨j,by omega,hj2⟩
      ·obtain⟨j,hj⟩:=hw.back _ _ hk
       cases hj with
       | top _ h2=>omega
       | up _ h2 h3=>
        have:=hy.symm.trans h2
        cases V5 this
        exact⟨_,h3⟩
     have hzz:=bX (x:=x) (v:=((f+1:Nat):Int)) (by rw[hw.len];exact hxl) hw0 (by omega);exact ih y _ (by omega) hW
    ·refine .inr ⟨false,w,Ai ?_,hw.len,⟨λh=>(by cases h),λ_ k hk=>?_⟩⟩
     ·unfold Cz Ia;simp only[hb,Ae,A4,hb0,Az];rw[Ac hin,Ac (I8 hxl)]
      have:(bif decide ((0:Int)<=t.getD x 0) then decide (t.getD x 0<(t.length:Int)) else false)=false:=by
       cases h1:decide ((0:Int)<=t.getD x 0) with
       | false=>rfl
       | true=>rw[Ae];exact Dm λh2=>hpl ⟨Qk h1,h2⟩
      rw[this,Ar]
      rfl
     ·obtain⟨j,hj⟩:=hw.back _ _ hk
      cases hj with
      | top=>exact hxr rfl
      | up _ h2 h3=>have:=h3.lt;exact hpl ⟨by omega,by omega⟩
   ·have hb0:((w.getD x 0:Int)!=0)=true:=by rw[zzL88];exact hw0
    have hwf:Ap ((f:Int)+1)=((f+1:Nat):Int):=w1 (by omega);refine .inr ⟨w.getD x 0 !=((f+1:Nat):Int),w,Ai ?_,hw.len,⟨λh=>?_,λh k hk=>?_⟩⟩
    ·unfold Cz;simp only[hb,Ae,A4,hb0];rw[Ac hin,Ac hin,hwf]
    ·rcases hw.old x hxl hw0 with⟨_,k,hk⟩|⟨h1,_⟩
     ·exact told k hk
     ·rw[h1]at h;simp at h
    ·have he:w.getD x 0=((f+1:Nat):Int):=by simpa using h
     obtain⟨j,hj⟩:=hw.back _ _ hk;rcases hw.old x hxl hw0 with⟨h1,_⟩|⟨_,h2⟩
     ·omega
     ·obtain⟨i,hi1,hi2⟩:=h2 _ _ hj;have:=hj.det hi2;omega
end
section
variable {t:List Int}
theorem iT(ht:t.length<=1000){r:Nat}(hr:r<t.length)(htop:t.getD r 0 = -1){f:Nat}(hf:f<t.length){w:List Int}(hw:Vh t r f w) :
  ∃ b w',O6 t w (f:Int) (r:Int)=some (b,w')/\w'.length=t.length/\(b=true->Vh t r (f+1) w'/\∃ k,Tp t f r k)/\(b=false->∀ k,¬ Tp t f r k):=by
 unfold O6;have hW:b6 t r f f w:=⟨hw.len,hf,λy hy h0=>.inl (hw.old y hy h0),λr' k hk=>⟨k,zzL7 _,hk⟩,λr' k hk=>⟨k,hk⟩⟩;rcases leads_loop ht hr htop hf _ f w (zzL7 _) hW with⟨w',e1,e2⟩|⟨b,w',e1,e2,e3,e4⟩
 ·exact⟨true,w',by rw[e1];rfl,e2.1.len,λ_=>e2,λh=>by cases h⟩
 ·exact⟨b,w',by rw[e1];rfl,e2,e3,e4⟩
def IB(t:List Int)(r:Nat):Prop:=∀ f,f<t.length->t.getD f 0≠-2->∃ k,Tp t f r k
open Classical in
theorem PG(ht:t.length<=1000){r:Nat}(hr:r<t.length)(htop:t.getD r 0 = -1):∀(k f:Nat) (w:List Int),f+k=t.length->Vh t r f w->(∀ y,y<f->t.getD y 0≠-2->∃ k,Tp t y r k)->
  Ah (El t (r:Int)) ((f:Int),w)=some (if IB t r then .inl () else .inr false):=by
 intro k
 induction k with
 | zero=>
  intro f w hk hw hd
  obtain rfl:f=t.length:=by omega
  apply Ai
  unfold El;simp only[Jk,Az];rw[if_pos (show IB t r from hd)]
 | succ k ih=>
  intro f w hk hw hd
  have hf:f<t.length:=by omega
  by_cases h2:t.getD f 0 = -2
  ·have hb:((t.getD f 0:Int)!=(-2))=false:=by rw[h2];rfl
   have hs:El t (r:Int) ((f:Int),w)=some (.next (((f+1:Nat):Int),w)):=by
    unfold El;simp only[E9 hf,Ae,A4,hb,show(false==true)=false from rfl,Az,Ar];rw[Ac (I8 hf),Ac (λh=>by cases h),w1 (by omega)]
   rw[Ao hs];refine ih (f+1) w (by omega) ⟨hw.len,λy hy h0=>?_⟩ λy hy hy2=>?_
   ·obtain⟨e1,e2⟩:=hw.old y hy h0;exact⟨by omega,e2⟩
   ·by_cases e:y=f
    ·subst e;exact absurd h2 hy2
    ·exact hd y (by omega) hy2
  ·have hb:((t.getD f 0:Int)!=(-2))=true:=by rw[zzL88];exact h2
   obtain⟨b,w',e1,e2,e3,e4⟩:=iT ht hr htop hf hw
   cases b with
   | false=>
    rw[if_neg (λhA:IB t r=>by obtain⟨k,hk⟩:=hA f hf h2;exact e4 rfl k hk)]
    apply Ai
    unfold El;simp only[E9 hf,Ae,A4,hb,show(true==true)=true from rfl,e1,Ar];rw[Ac (I8 hf),Ac (λ_=>by rw[hw.len,e2])]
    rfl
   | true=>
    have hs:El t (r:Int) ((f:Int),w)=some (.next (((f+1:Nat):Int),w')):=by
     unfold El;simp only[E9 hf,Ae,A4,hb,show(true==true)=true from rfl,e1,Ar];rw[Ac (I8 hf),Ac (λ_=>by rw[hw.len,e2]),w1 (by omega)]
     rfl
    rw[Ao hs];obtain⟨e5,e6⟩:=e3 rfl;refine ih (f+1) w' (by omega) e5 λy hy hy2=>?_
    by_cases e:y=f
    ·subst e;exact e6
    ·exact hd y (by omega) hy2
theorem ek:Yg t t.length=1↔∃ r,r<t.length/\t.getD r 0 = -1/\∀ x,x<t.length->t.getD x 0 = -1->x=r:=by
 have key:∀ n,(Yg t n=0↔∀ x,x<n->t.getD x 0≠-1)/\(Yg t n=1↔∃ r,r<n/\t.getD r 0 = -1/\∀ x,x<n->t.getD x 0 = -1->x=r):=by
  intro n
  induction n with
  | zero=>exact⟨⟨λ_ x hx=>absurd hx (Mt _),λ_=>rfl⟩,⟨λh=>by simp[Yg]at h,λ⟨r,h,_⟩=>absurd h (Mt _)⟩⟩
  | succ n ih=>
   rw[GI]
   by_cases e:t.getD n 0 = -1
   ·rw[if_pos e];refine⟨⟨λh=>by omega,λh=>absurd e (h n (by omega))⟩,⟨λh=>⟨n,by omega,e,λx hx hx1=>?_⟩,λ⟨r,h1,h2,h3⟩=>?_⟩⟩
    ·by_cases ex:x=n
     ·exact ex
     ·exact absurd hx1 (ih.1.1 (by omega) x (by omega))
    ·have:=ih.1.2 λx hx hx1=>by
      have:=h3 x (by omega) hx1;have:=h3 n (by omega) e;omega
     omega
   ·rw[if_neg e,Ls];refine⟨⟨λh x hx=>?_,λh=>ih.1.2 λx hx=>h x (by omega)⟩,⟨λh=>?_,λ⟨r,h1,h2,h3⟩=>?_⟩⟩
    ·by_cases ex:x=n
     ·subst ex;exact e
     ·exact ih.1.1 h x (by omega)
    ·obtain⟨r,h1,h2,h3⟩:=ih.2.1 h;refine⟨r,by omega,h2,λx hx hx1=>?_⟩
     by_cases ex:x=n
     ·subst ex;exact absurd hx1 e
     ·exact h3 x (by omega) hx1
    ·refine ih.2.2 ⟨r,?_,h2,λx hx hx1=>h3 x (by omega) hx1⟩
     by_cases ex:r=n
     ·subst ex;exact absurd h2 e
     ·omega
 exact(key _).2
theorem rightD_iff:I4 t=true↔∃ r,r<t.length/\t.getD r 0 = -1/\IB t r:=by
 unfold I4;rw[A6,all_range,Du,ek]
 constructor
 ·rintro⟨h1,r,h2,h3,h4⟩;refine⟨r,h2,h3,λf hf hf2=>?_⟩;have:=h1 f hf;unfold np at this;rw[V3,Du,Ph,KK]at this;rcases this with h|h
  ·exact absurd h hf2
  ·obtain⟨x,r',k,e,hk⟩:=pathD_tp.1 h
   cases V5 e
   have:=h4 _ hk.tops.1 hk.tops.2;subst this;exact⟨k,hk⟩
 ·rintro⟨r,h2,h3,h4⟩;refine⟨λf hf=>?_,r,h2,h3,λx hx hx1=>?_⟩
  ·unfold np;rw[V3,Du,Ph,KK]
   by_cases e:t.getD f 0 = -2
   ·exact .inl e
   ·obtain⟨k,hk⟩:=h4 f hf e;exact .inr (pathD_tp.2 ⟨f,r,k,rfl,hk⟩)
  ·obtain⟨k,hk⟩:=h4 x hx (by omega);exact((hk.det (.top hx hx1)).1).symm
theorem JX(hR:I4 t=true):∃ r,IB t r:=by obtain⟨r,_,_,h⟩:=rightD_iff.1 hR;exact⟨r,h⟩
theorem di(ht:t.length<=1000):Nj t=some (I4 t):=by
 unfold Nj
 have hroom:(1000:Nat)<=room:=by decide
 rcases m_index t (-1) ht with⟨r,h1,h2,h3,h4⟩|⟨h1,h2⟩
 ·rw[h4,Ar,show decide ((r:Int)<0)=false from Dm (by omega),Az,Ac ⟨by omega,by omega,by omega⟩,A4];have hl:=PG ht h1 h2 t.length 0 (List.replicate t.length 0) (by omega) ⟨by simp,λy hy h0=>absurd Ob h0⟩ (λy hy=>absurd hy (Mt _));rw[show(((0:Nat):Int))=0 from rfl]at hl;rw[hl,Ar]
  by_cases hA:IB t r
  ·rw[if_pos hA,rightD_iff.2 ⟨r,h1,h2,hA⟩]
  ·rw[if_neg hA]
   have:I4 t=false:=Bool.eq_false_iff.2 λhR=>by
    obtain⟨r',g1,g2,g3⟩:=rightD_iff.1 hR;obtain⟨k,hk⟩:=g3 r h1 (by omega);have:=(hk.det (.top h1 h2)).1;subst this;exact hA g3
   rw[this]
 ·rw[h2,Ar]
  have:I4 t=false:=Bool.eq_false_iff.2 λhR=>by
   obtain⟨r',g1,g2,g3⟩:=rightD_iff.1 hR;exact h1 r' g1 g2
  rw[this]
  rfl
def Wk(t:List Int)(a:Int):Bool:=decide (0<=a)&&decide (a<(t.length:Int))&&decide (t.getD a.toNat 0≠-2)
theorem EC(hR:I4 t=true){a:Int}:Wk t a=true↔∃ x k r:Nat,a=(x:Int)/\Tp t x r k:=by
 unfold Wk;rw[A6,A6,Du,Du,Du]
 constructor
 ·rintro⟨⟨h1,h2⟩,h3⟩;obtain⟨r,hA⟩:=JX hR;obtain⟨k,hk⟩:=hA a.toNat (by omega) h3;exact⟨a.toNat,k,r,(V0 h1).symm,hk⟩
 ·rintro⟨x,k,r,rfl,h⟩;have:=h.lt;refine⟨⟨by omega,by omega⟩,?_⟩;rw[A4]
  cases h with
  | top _ h2=>omega
  | up _ h2 _=>omega
theorem EM(a:Int):It t a=some (Wk t a):=by
 unfold It Ia Wk;rw[Ar]
 cases h1:decide ((0:Int)<=a) with
 | false=>rfl
 | true=>
  rw[Ae,Hn]
  cases h2:decide (a<(t.length:Int)) with
  | false=>rfl
  | true=>
   rw[Ac (λ_=>⟨Qk h1,Qk h2⟩),Ae,Hn]
   congr 1
   rw[Ms,zzL88,Du]
theorem iS(ht:t.length<=1000)(a b:Int):O5 t a b=some (I4 t&&Wk t a&&Wk t b):=by
 unfold O5;rw[di ht,Ar]
 cases I4 t with
 | false=>rfl
 | true=>
  simp only[show(true==true)=true from rfl,Ae,EM,Ar,Hn]
  cases Wk t a with
  | false=>rfl
  | true=>simp only[show(true==true)=true from rfl,Ae,EM,Ar,Hn]
theorem ak{a b:Int}(h:(I4 t&&Wk t a&&Wk t b)=false):Mj t a b = -2:=by
 unfold Mj
 by_cases hR:I4 t=true
 ·rw[if_pos hR];rw[hR,Hn]at h
  have hno:∀ c,Wk t c=false->Ey t c=[]:=λc hc=>by
   by_cases e:Ey t c=[]
   ·exact e
   ·obtain⟨x,r,k,e1,e2⟩:=pathD_tp.1 e;rw[(EC hR).2 ⟨x,k,r,e1,e2⟩]at hc;cases hc
  cases ha:Wk t a with
  | false=>rw[hno a ha];rfl
  | true=>
   rw[ha,Hn]at h;rw[hno b h]
   have:((Ey t a).find? λx=>([]:List Int).contains x)=none:=List.find?_eq_none.2 λx _=>by simp
   rw[this]
   rfl
 ·rw[if_neg hR]
theorem HI(ht:t.length<=1000){a b:Int}(h:(I4 t&&Wk t a&&Wk t b)=true):L0 t a b=some (Mj t a b)/\0<=Mj t a b:=by
 rw[A6,A6]at h;obtain⟨⟨hR,ha⟩,hb⟩:=h;obtain⟨x,k,r,rfl,hx⟩:=(EC hR).1 ha;obtain⟨y,m,r',rfl,hy⟩:=(EC hR).1 hb;obtain⟨rr,hA⟩:=JX hR
 have top:∀{x r k},Tp t x r k->r=rr:=λ{x r k} h=>by
  obtain⟨i,hi⟩:=hA r h.tops.1 (by rw[h.tops.2];omega);exact((Tp.top h.tops.1 h.tops.2).det hi).1
 obtain rfl:=top hx;obtain rfl:=top hy;obtain⟨c,h1,h2⟩:=AX ht hx hy;obtain⟨d,h3,h4⟩:=dm hR hx hy;have:=h2.same hx h4;subst this;exact⟨by rw[h1,h3],by omega⟩
theorem k6(ht:t.length<=1000)(a b:Int):Rh t a b=some (N9 t a b):=by
 unfold Rh N9;rw[iS ht,Ar]
 cases h:(I4 t&&Wk t a&&Wk t b) with
 | false=>
  rw[ak h]
  have:((-2:Int)==a&&((-2:Int)!=-2))=false:=by simp
  rw[this]
  rfl
 | true=>
  obtain⟨h1,h2⟩:=HI ht h;simp only[show(true==true)=true from rfl,Ae,h1,Ar]
  have:(Mj t a b !=-2)=true:=by rw[zzL88];omega
  rw[this,AC]
end
theorem ic:∀ n:Fin 65,Ly (C1 1) (C1 ((n.val:Nat):Int))=some (0,((n.val:Nat):Int)):=by decide +kernel
theorem ao{n:Nat}(h:n<=64):Ly (C1 1) (C1 (n:Int))=some (0,(n:Int)):=ic ⟨n,by omega⟩
theorem RB{v:Int}{n:Nat}(hn:n<=64):∀(m i:Nat) (l:List Int),n-i<=m->1<=i->i<=n->l.length=n->(∀ j,j<i->l.getD j 0=v)->Ah Ci ((i:Int),l)=some (List.replicate n v):=by
 intro m
 induction m with
 | zero=>
  intro i l hm h1 h2 hl hv
  obtain rfl:i=n:=by omega
  exact fin l hl hv
 | succ m ih=>
  intro i l hm h1 h2 hl hv
  by_cases e:i=n
  ·subst e;exact fin l hl hv
  ·have hs:Ci ((i:Int),l)=some (.next (((i+Nat.min i (n-i):Nat):Int),TN l i (Nat.min i (n-i)) (λj=>l.getD (0+j) 0))):=by
    unfold Ci;simp only[hl,E9 (show i<n by omega),Ae,A4,Fp,Ue];have hc:(0:Int)<=(i:Int)/\i<=n:=⟨by omega,h2⟩;have hmn:Nat.min i (n-i)<=i:=Nat.min_le_left _ _;rw[Ac hc,Ac hc,B1 (by omega) (by omega),Int.natCast_add]
   rw[Ao hs];have hmn:Nat.min i (n-i)<=i/\Nat.min i (n-i)<=n-i:=⟨Nat.min_le_left _ _,Nat.min_le_right _ _⟩;have hge:1<=Nat.min i (n-i):=Nat.le_min.2 ⟨h1,by omega⟩;refine ih _ _ (by omega) (by omega) (by omega) (by rw[<- F4];exact hl) λj hj=>?_;rw[DS _ _ _ _ _ _ (by omega)]
   by_cases hji:i<=j/\j<i+Nat.min i (n-i)
   ·rw[if_pos hji,Fp];exact hv _ (by omega)
   ·rw[if_neg hji];exact hv _ (by omega)
where
 fin {v:Int} {i:Nat} (l:List Int) (hl:l.length=i) (hv:∀ j,j<i->l.getD j 0=v):Ah Ci ((i:Int),l)=some (List.replicate i v):=by
  apply Ai
  unfold Ci;simp only[hl,Jk,Az]
  congr 2
  refine AA (by simp[hl]) λj h1 h2=>?_;rw[<- Ab _ _ 0 h1,hv j (by omega)]
  simp
theorem dj{v:Int}{n:Nat}(h1:1<=n)(hn:n<=64):Fg [v] (n:Int)=some (List.replicate n v):=by
 have hroom:(64:Nat)<=room:=by decide
 unfold Fg;rw[show decide ((n:Int)<0)=false from Dm (by omega),Az,Ar]
 show Option.bind (Ly (C1 1) (C1 (n:Int))) _=_
 rw[ao hn,Ar];have e1:decide ((0:Int)<(0:Int))=false:=rfl;have e2:decide ((9223372036854775807:Int)<(n:Int))=false:=Dm (by omega);simp only[e1,e2,Az,Ar];have ew:Ap (n:Int)=(n:Int):=B1 (by omega) (by omega);rw[ew,Ac ⟨by omega,by omega,by omega⟩,A4,Yk,Ue];have em:Nat.min [v].length n=1:=Nat.min_eq_left h1;rw[em,RB hn n 1 _ (by omega) (zzL7 _) h1 (by rw[<- F4];simp) (λj hj=>?_)]
 ·rfl
 ·rw[DS _ _ _ _ _ _ (by simp;omega),if_pos ⟨by omega,by omega⟩]
  have:j-0=0:=by omega
  rw[this];rfl
section
variable {S:Nat->List Nat} {r n:Nat} {P:List Nat}
theorem Inv.tp{at_:Nat->Nat}{t:List Int}(h:Inv S r n at_ (Be t))(hl:t.length=n):∀ m x,at_ x<=m->x<n->Be t x≠-2->∃ k,Tp t x r k:=by
 intro m
 induction m with
 | zero=>
  intro x hm hx hp;rcases h.kind x hx with h1|h1|⟨z,hz⟩
  ·exact absurd h1 hp
  ·subst h1;exact⟨0,.top (by omega) h.top⟩
  ·obtain⟨_,_,h3,_⟩:=h.up x hx z hz;omega
 | succ m ih=>
  intro x hm hx hp;rcases h.kind x hx with h1|h1|⟨z,hz⟩
  ·exact absurd h1 hp
  ·subst h1;exact⟨0,.top (by omega) h.top⟩
  ·obtain⟨z1,z2,z3,_⟩:=h.up x hx z hz;obtain⟨k,hk⟩:=ih z (by omega) z1 z2;exact⟨k+1,.up (by omega) hz hk⟩
def W6(t l:List Int)(i:Nat)(v:Int):Prop:=
 (v = -2/\∀ j,j<i->Be t (l.getD j 0).toNat = -2) \/
 ∃ z:Nat,v=(z:Int)/\z<t.length/\Be t z≠-2/\(∀ w,UpTo (Be t) z w↔∀ j,j<i->Be t (l.getD j 0).toNat≠-2->UpTo (Be t) (l.getD j 0).toNat w)
theorem MN{at_:Nat->Nat}{t l:List Int}(ht:t.length<=64)(hll:l.length<=64)(h:Inv S r n at_ (Be t))(hl:t.length=n)(hin:∀ x∈l,0<=x/\x<(n:Int)):∀(k i:Nat) (v:Int),i+k=l.length->W6 t l i v->
  ∃ v',Ah (D8 t l) (v,(i:Int))=some v'/\W6 t l l.length v':=by
 intro k
 induction k with
 | zero=>
  intro i v hi hv
  obtain rfl:i=l.length:=by omega
  refine⟨v,Ai ?_,hv⟩;unfold D8;simp only[Jk,Az]
 | succ k ih=>
  intro i v hi hv
  have hil:i<l.length:=by omega
  obtain⟨x0,x1⟩:=hin _ (getD_mem (d:=0) hil);have hxe:(((l.getD i 0).toNat:Nat):Int)=l.getD i 0:=V0 x0;have hxin:Bv (l.getD i 0) t.length:=me x0 (by omega)
  have next:∀ v',D8 t l (v,(i:Int))=some (.next (v',((i+1:Nat):Int)))->W6 t l (i+1) v'->∃ v',Ah (D8 t l) (v,(i:Int))=some v'/\W6 t l l.length v':=λv' hs hv'=>by
   rw[Ao hs];exact ih (i+1) v' (by omega) hv'
  by_cases hp:Be t (l.getD i 0).toNat = -2
  ·have hb:((t.getD (l.getD i 0).toNat 0:Int)==-2)=true:=zzL61.2 hp;refine next v ?_ ?_
   ·unfold D8;simp only[E9 hil,Ae,A4,hb];rw[Ac (I8 hil),Ac hxin,Ar,w1 (by omega)]
   ·have hstep:∀ w,(∀ j,j<i->Be t (l.getD j 0).toNat≠-2->UpTo (Be t) (l.getD j 0).toNat w)↔∀ j,j<i+1->Be t (l.getD j 0).toNat≠-2->UpTo (Be t) (l.getD j 0).toNat w:=λw=>by
     refine⟨λhj j hj1 hj2=>?_,λhj j hj1=>hj j (by omega)⟩
     by_cases e:j=i
     ·subst e;exact absurd hp hj2
     ·exact hj j (by omega) hj2
    rcases hv with⟨h1,h2⟩|⟨z,h1,h2,h3,h4⟩
    ·refine .inl ⟨h1,λj hj=>?_⟩
     by_cases e:j=i
     ·subst e;exact hp
     ·exact h2 j (by omega)
    ·exact .inr ⟨z,h1,h2,h3,λw=>by rw[h4 w,hstep w]⟩
  ·have hb:((t.getD (l.getD i 0).toNat 0:Int)==-2)=false:=zzL25.2 hp;rcases hv with⟨h1,h2⟩|⟨z,h1,h2,h3,h4⟩
   ·subst h1;refine next (l.getD i 0) ?_ (.inr ⟨(l.getD i 0).toNat,hxe.symm,by omega,hp,λw=>⟨λhw j hj hj2=>?_,λhw=>hw i (by omega) hp⟩⟩)
    ·unfold D8;simp only[E9 hil,Ae,A4,hb,Az,show((-2:Int)==-2)=true from rfl];rw[Ac (I8 hil),Ac hxin,Ar,w1 (by omega)]
    ·by_cases e:j=i
     ·subst e;exact hw
     ·exact absurd (h2 j (by omega)) hj2
   ·subst h1;have hb2:((z:Int)==-2)=false:=zzL25.2 (by omega);obtain⟨k1,hk1⟩:=h.tp hl _ z (zzL7 _) (by omega) h3;obtain⟨k2,hk2⟩:=h.tp hl _ (l.getD i 0).toNat (zzL7 _) (by omega) hp;obtain⟨c,c1,c2⟩:=AX (by omega) hk1 hk2;have hcz:=(c2 c).1 (.refl _);obtain⟨jc,_,hjc,_⟩:=hk1.on hcz.1
    have hcp:Be t c≠-2:=by
     show t.getD c 0≠-2
     cases hjc with
     | top _ h=>omega
     | up _ h _=>omega
    refine next (c:Int) ?_ (.inr ⟨c,rfl,hjc.lt,hcp,λw=>?_⟩)
    ·rw[hxe]at c1;unfold D8;simp only[E9 hil,Ae,A4,hb,Az,hb2,c1,Ar];rw[Ac (I8 hil),Ac hxin,Ar,w1 (by omega)]
    ·rw[c2 w,h4 w];refine⟨λ⟨a1,a2⟩ j hj hj2=>?_,λha=>⟨λj hj=>ha j (by omega),ha i (by omega) hp⟩⟩
     by_cases e:j=i
     ·subst e;exact a2
     ·exact a1 j (by omega) hj2
theorem ab{at_:Nat->Nat}{t l:List Int}(ht:t.length<=64)(hll:l.length<=64)(h:Inv S r n at_ (Be t))(hl:t.length=n)(hin:∀ x∈l,0<=x/\x<(n:Int)) :
  ∃ v,Ib t l=some v/\W6 t l l.length v:=by
 obtain⟨v,h1,h2⟩:=MN ht hll h hl hin l.length 0 (-2) (by omega) (.inl ⟨rfl,λj hj=>absurd hj (Mt _)⟩);refine⟨v,?_,h2⟩;unfold Ib;rw[show((0:Int))=((0:Nat):Int) from rfl,h1]
 rfl
end
section
variable {L:List (List Int)} (hm:L2 L=true) {r:Nat} {P:List Nat}
include hm
theorem ea{p y:Nat}(hp:p<L.length):y∈sN L p↔AQ L p y=true:=by
 rw[dU];obtain⟨_,_,h3⟩:=mayS_iff.1 hm
 constructor
 ·intro h;obtain⟨x,hx,rfl⟩:=zzL26.1 h;have:=XK (h3 p hp) hx;rw[V0 this.1];exact hx
 ·intro h;exact zzL26.2 ⟨_,h,A4 y⟩
theorem X9{y:Nat}(hy:y<L.length){x:Int}:x∈(Fm L).getD y []↔∃ p:Nat,x=(p:Int)/\p<L.length/\y∈sN L p:=by
 rw[JS hy];unfold Kb;rw[dn]
 constructor
 ·rintro⟨k,h1,h2,h3⟩;exact⟨k,h1,h2,(ea hm h2).2 h3⟩
 ·rintro⟨k,h1,h2,h3⟩;exact⟨k,h1,h2,(ea hm h2).1 h3⟩
theorem MM(o:Ordered (sN L) r L.length P){t:List Int}{i:Nat}(h:Ready (sN L) r L.length P t i)(hi:i<P.length) :
  Ib t ((Fm L).getD (P.getD i 0) [])=some (J5 (sN L) L.length t (P.getD i 0):Int):=by
 obtain⟨hL1,hL64,_⟩:=mayS_iff.1 hm;have hyn:P.getD i 0<L.length:=o.lt (Fh _ (Nu hi))
 have hlen:((Fm L).getD (P.getD i 0) []).length<=64:=by
  rw[JS hyn];have:=Wq L L.length (P.getD i 0);omega
 obtain⟨v,h1,h2⟩:=ab (by rw[h.len];exact hL64) hlen h.inv h.len λx hx=>by
  obtain⟨p,rfl,hp,_⟩:=(X9 hm hyn).1 hx;omega
 rw[h1];have hb:=h.best o hi
 have mem:∀ p,p<L.length->P.getD i 0∈sN L p->∃ j,j<((Fm L).getD (P.getD i 0) []).length/\(((Fm L).getD (P.getD i 0) []).getD j 0).toNat=p:=λp hp hy=>by
  obtain⟨j,hj,e⟩:=Lq ((X9 hm hyn).2 ⟨p,rfl,hp,hy⟩);exact⟨j,hj,by rw[Ab _ _ _ hj,e,A4]⟩
 have mem':∀ j,j<((Fm L).getD (P.getD i 0) []).length->(((Fm L).getD (P.getD i 0) []).getD j 0).toNat<L.length/\P.getD i 0∈sN L (((Fm L).getD (P.getD i 0) []).getD j 0).toNat:=λj hj=>by
  obtain⟨p,e,hp,hy⟩:=(X9 hm hyn).1 (getD_mem (d:=(0:Int)) hj);rw[e,A4];exact⟨hp,hy⟩
 rcases h2 with⟨rfl,h3⟩|⟨z,rfl,hz,hz2,h4⟩
 ·obtain⟨p,hp,hyp,hp2,_⟩:=hb.fwd;obtain⟨j,hj,e⟩:=mem p hp hyp;exact absurd (by rw[<- e];exact h3 j hj) hp2
 ·have hbest:SO (sN L) L.length (Be t) (P.getD i 0) z:=λw=>by
   rw[h4 w];refine⟨λha p hp hyp hp2=>?_,λha j hj hj2=>?_⟩
   ·obtain⟨j,hj,e⟩:=mem p hp hyp;have:=ha j hj (by rw[e];exact hp2);rwa[e]at this
   ·obtain⟨q1,q2⟩:=mem' j hj;exact ha _ q1 q2 hj2
  rw[h.best_eq o hi (by rw[<- h.len];exact hz) hz2 hbest]
end
theorem QC{P:List Nat}{i:Nat}(h:i<P.length):(Pp P).getD i 0=((P.getD i 0:Nat):Int):=by
 unfold Pp;rw[Ab _ _ _ (by simpa using h),Ab _ _ _ h,List.getElem_map]
 rfl
theorem RE{t:List Int}{x:Nat}{v:Int}(hx:x<t.length)(h:t.getD x 0=v):t.set x v=t:=by
 subst h;rw[Ab _ _ _ hx];exact List.set_getElem_self hx
section
variable {L:List (List Int)} (hm:L2 L=true) {r:Nat} {P:List Nat} (o:Ordered (sN L) r L.length P)
include hm o
theorem UW{t0:List Int}(h:Ready (sN L) r L.length P t0 0):∀(k i:Nat) (b:Bool),i+k=P.length->
  ∃ b',Ah (Dy (Yu L) (Pp (r::P))) (b,(i:Int),S0 (sN L) L.length P t0 i)=some (b',S0 (sN L) L.length P t0 P.length) /\
   (b'=false↔b=false/\∀ j,i<=j->j<P.length->Be (S0 (sN L) L.length P t0 j) (P.getD j 0)=(J5 (sN L) L.length (S0 (sN L) L.length P t0 j) (P.getD j 0):Int)):=by
 have hP64:P.length<=64:=by
  have h1:=L3 L.length (r::P) o.nodup λx hx=>o.lt hx;have h2:=(mayS_iff.1 hm).2.1;simp at h1;omega
 have hdl:(Pp (r::P)).drop (1:Int).toNat=Pp P:=rfl
 have hlen:(Pp P).length=P.length:=by simp[Pp]
 intro k
 induction k with
 | zero=>
  intro i b hi
  obtain rfl:i=P.length:=by omega
  refine⟨b,Ai ?_,λh=>⟨h,λj h1 h2=>by omega⟩,λh=>h.1⟩;unfold Dy;simp only[hdl,hlen,Jk,Az]
 | succ k ih=>
  intro i b hi
  have hil:i<P.length:=by omega
  have rd:=h.round o i (by omega);have hma:=MM hm o rd hil;have hyn:P.getD i 0<L.length:=o.lt (Fh _ (Nu hil))
  have hyt:P.getD i 0<(S0 (sN L) L.length P t0 i).length:=by rw[rd.len];exact hyn
  have hpred:(Yu L).Pred=Fm L:=rfl
  by_cases he:Be (S0 (sN L) L.length P t0 i) (P.getD i 0)=(J5 (sN L) L.length (S0 (sN L) L.length P t0 i) (P.getD i 0):Int)
  ·have hb:((J5 (sN L) L.length (S0 (sN L) L.length P t0 i) (P.getD i 0):Int)!=(S0 (sN L) L.length P t0 i).getD (P.getD i 0) 0)=false:=by
    have:(S0 (sN L) L.length P t0 i).getD (P.getD i 0) 0=_:=he;rw[this];simp
   have hnx:S0 (sN L) L.length P t0 (i+1)=S0 (sN L) L.length P t0 i:=RE hyt he
   have hs:Dy (Yu L) (Pp (r::P)) (b,(i:Int),S0 (sN L) L.length P t0 i)=some (.next (b,((i+1:Nat):Int),S0 (sN L) L.length P t0 (i+1))):=by
    unfold Dy;simp only[hdl,hlen,E9 hil,Ae,A4,QC hil,hpred,hma,Ar,hb,Az];rw[Ac (I8 hil),Ac (I8 (by rw[Oa];exact hyn)),Ac (I8 hyt),Ar,w1 (by omega),hnx]
   obtain⟨b',e1,e2⟩:=ih (i+1) b (by omega);refine⟨b',by rw[Ao hs,e1],λh=>?_,λ⟨h1,h2⟩=>e2.2 ⟨h1,λj hj=>h2 j (by omega)⟩⟩;obtain⟨h1,h2⟩:=e2.1 h;refine⟨h1,λj hj1 hj2=>?_⟩
   by_cases e:j=i
   ·subst e;exact he
   ·exact h2 j (by omega) hj2
  ·have hb:((J5 (sN L) L.length (S0 (sN L) L.length P t0 i) (P.getD i 0):Int)!=(S0 (sN L) L.length P t0 i).getD (P.getD i 0) 0)=true:=by
    rw[zzL88];exact λe=>he e.symm
   have hs:Dy (Yu L) (Pp (r::P)) (b,(i:Int),S0 (sN L) L.length P t0 i)=some (.next (true,((i+1:Nat):Int),S0 (sN L) L.length P t0 (i+1))):=by
    unfold Dy;simp only[hdl,hlen,E9 hil,Ae,A4,QC hil,hpred,hma,Ar,hb];rw[Ac (I8 hil),Ac (I8 (by rw[Oa];exact hyn)),Ac (I8 hyt),Ac (I8 hyt),Ar,w1 (by omega)]
    rfl
   obtain⟨b',e1,e2⟩:=ih (i+1) true (by omega);refine⟨b',by rw[Ao hs,e1],λh=>?_,λ⟨h1,h2⟩=>absurd (h2 i (zzL7 _) hil) he⟩;obtain⟨h1,_⟩:=e2.1 h;cases h1
theorem bH{t0:List Int}(h:Ready (sN L) r L.length P t0 0):∃ b,Ah (Dy (Yu L) (Pp (r::P))) (false,(0:Int),t0)=some (b,S0 (sN L) L.length P t0 P.length)/\(b=false↔R8 (sN L) L.length P t0):=by
 obtain⟨b,e1,e2⟩:=UW hm o h P.length 0 false (by omega);refine⟨b,e1,e2.trans ⟨λ⟨_,h2⟩=>?_,λhs=>⟨rfl,λj _ hj=>?_⟩⟩⟩
 ·have key:∀ j,j<=P.length->S0 (sN L) L.length P t0 j=t0:=by
   intro j
   induction j with
   | zero=>intro _;rfl
   | succ j ih=>
    intro hj;have ih':=ih (by omega);have rd:=h.round o j (by omega)
    have hyn:P.getD j 0<(S0 (sN L) L.length P t0 j).length:=by rw[rd.len];exact o.lt (Fh _ (Nu (by omega)))
    have:S0 (sN L) L.length P t0 (j+1)=S0 (sN L) L.length P t0 j:=RE hyn (h2 j (Li _) (by omega));rw[this,ih']
  intro i hi;have:=h2 i (Li _) hi;rwa[key i (by omega)]at this
 ·rw[T8 o h.len hs j (by omega)];exact hs j hj
open Classical in
theorem YB(j:Nat):E4 (Yu L) (Pp (r::P),DA (sN L) L.length P (Ez L.length r) j)=some (if R8 (sN L) L.length P (DA (sN L) L.length P (Ez L.length r) j) then .done (DA (sN L) L.length P (Ez L.length r) (j+1)) else .next (Pp (r::P),DA (sN L) L.length P (Ez L.length r) (j+1))):=by
 obtain⟨b,e1,e2⟩:=bH hm o (Ready.rounds o j);have hL2:Pn (Yu L) (Pp (r::P))=Dy (Yu L) (Pp (r::P)):=rfl
 have hlen:(0:Int)<=1/\(1:Int)<=((Pp (r::P)).length:Int):=by simp[Pp];omega
 unfold E4;simp only[hL2,e1,Ar];rw[Ac hlen]
 cases b with
 | false=>rw[if_pos (e2.1 rfl)];rfl
 | true=>rw[if_neg (λh=>by have:=e2.2 h;cases this)];rfl
theorem RN:∃ J,R8 (sN L) L.length P (DA (sN L) L.length P (Ez L.length r) J)/\Ah (E4 (Yu L)) (Pp (r::P),Ez L.length r)=some (DA (sN L) L.length P (Ez L.length r) J):=by
 obtain⟨J,h1,h2⟩:=j4 o;refine⟨J,h2,?_⟩
 have key:∀ d j,j+d=J->Ah (E4 (Yu L)) (Pp (r::P),DA (sN L) L.length P (Ez L.length r) j)=some (DA (sN L) L.length P (Ez L.length r) J):=by
  intro d
  induction d with
  | zero=>
   intro j hj
   obtain rfl:j=J:=by omega
   have hF:=YB hm o j;rw[if_pos h2]at hF;rw[Ai hF];have:DA (sN L) L.length P (Ez L.length r) (j+1)=DA (sN L) L.length P (Ez L.length r) j:=T8 o (Ready.rounds o j).len h2 P.length (zzL7 _);rw[this]
  | succ d ih=>
   intro j hj;have hF:=YB hm o j;rw[if_neg (h1 j (by omega))]at hF;rw[Ao hF];exact ih (j+1) (by omega)
 exact key J 0 (by omega)
end
theorem k7(g:C6)(r:Int)(h1:Fits g.Succ)(h2:Fits g.Pred):N4 g r=some (RM g r):=by
 unfold RM
 by_cases hc:Y8 g=true/\0<=r/\r<(g.Succ.length:Int)
 ·rw[if_pos hc];obtain⟨hG,h0,hlt⟩:=hc;obtain⟨hm,hg⟩:=iV hG;obtain⟨hL1,hL64,_⟩:=mayS_iff.1 hm
  have hr:r.toNat<g.Succ.length:=by omega
  have hrn:((r.toNat:Nat):Int)=r:=V0 h0;obtain⟨O,hO⟩:=Ord.exist (Vt hm) hr;have hord:=(ML g h1 trivial r).1 hG h0 hlt O hO;obtain⟨P,rfl,o⟩:=hO.ordered hr (Vt hm);obtain⟨J,hJ,hl⟩:=RN hm o;have ht:=(BJ o hJ).eq hm hr o;rw[ht]at hl;have hlen:(((Pp (r.toNat::P)).length:Int)==0)=false:=zzL25.2 (by simp[Pp];omega)
  have hlen2:(0:Int)<=1/\(1:Int)<=((Pp (r.toNat::P)).length:Int):=by simp[Pp];omega
  have hL2:Pn g (Pp (r.toNat::P))=Dy g (Pp (r.toNat::P)):=rfl
  have hst:(Px (E4 g (Pp (r.toNat::P),Ez g.Succ.length r.toNat)) (E4 g))=some (Yh g.Succ r.toNat):=by
   rw[BI,hg];exact hl
  unfold N4;rw[hord,Ar,hlen,Az,dj hL1 hL64,Ar,Ac (me h0 (by simpa using hlt)),Ac hlen2]
  have:(E4 g (Pp (r.toNat::P),Ez g.Succ.length r.toNat))=(Ah (Dy g (Pp (r.toNat::P))) (false,0,(List.replicate g.Succ.length (-2:Int)).set r.toNat (-1))).bind (λx22=>(match x22 with|(b10,l11)=>(bif b10 then(some (.next (Pp (r.toNat::P),l11))) else(some (.done l11))))):=by
   unfold E4 Ez;simp only[hL2];rw[Ac hlen2]
  rw[this]at hst;refine Eq.trans ?_ (Cg (λx:Option (List Int)=>x.bind λx42=>some x42) hst)
  rfl
 ·rw[if_neg hc];unfold N4
  have:(Y8 g&&(decide (0<=r)&&decide (r<(g.Succ.length:Int))))=false:=by
   rw[Bool.eq_false_iff];intro h;rw[A6,A6,Du,Du]at h;exact hc h
  rw[(ML g h1 trivial r).2 this,Ar]
  rfl
theorem kR{α:Type}(l:List α)(d:α)(p:α->Bool){X:Type}(f:Int->Option (LR Int X))(yes no:X)(hl:l.length<9223372036854775808)(hk:∀ i:Nat,i<l.length->f i=some (bif p (l.getD i d) then .next (Ap ((i:Int)+1)) else .done no))
  (he:f l.length=some (.done yes)):Ah f (0:Int)=some (bif l.all p then yes else no):=by
 have:=Tj l d p f yes no (λi hi hp=>by rw[hk i hi,hp,Ae,D0 hi hl]) (λi hi hp=>by rw[hk i hi,hp,Az]) he l.length 0 (by omega);rwa[Lr]at this
theorem kr(f:Aa)(hf:fi f)(l:Int)(t:List Int)(u:List A8):Gq f l t u=some (bif Rk f then 0 else 4,f,l,t,u):=by
 unfold Gq Ir;rw[od f hf,Ar]
 cases Rk f<;>rfl
theorem ZL(phis:List E1)(l:List Int)(h1:phis.length<9223372036854775808)(h2:l.length<4611686018427387904):J1 phis l=some (phis.all (Hh l)):=by
 unfold J1
 rw[kR phis (default:E1) (Hh l) (Hu phis l) (.inl ()) (.inr false) h1 (λi hi=>by
  unfold Hu
  have hd:decide ((i:Int)<(phis.length:Int))=true:=by simpa using hi
  simp only[hd,Ae,Au (Bd hi),Do,MK _ _ h2,Ar,Hh]
  cases decide ((phis.getD i default).From=l) with
  | false=>rfl
  | true=>
   simp only[Fi,Az,Hn,bne]
   cases(((phis.getD i default).Args.length:Int)==(l.length:Int))<;>rfl) (by unfold Hu;simp),Ar]
 cases phis.all (Hh l)<;>rfl
def LM(e:Gh):Bool:=!((e.Kind==1 || e.Kind==3)&&(e.Arg !=0))
theorem ZG{n:Nat}(e:Gh)(hk:N0 e n=true):H1 e=some (LM e):=by
 have h4:0<=e.Kind/\e.Kind<=3:=by
  have:=(A6 _ _▸hk:PH e=true/\j7 n e.To=true).1;unfold PH at this;simp only[A6,Du]at this;omega
 unfold H1 LM
 have:e.Kind=0\/e.Kind=1\/e.Kind=2\/e.Kind=3:=by omega
 rcases this with h|h|h|h<;>rw[h]<;>cases hb:(e.Arg==0)<;>simp[hb,bne]
theorem UL{L:List (List Int)}(hm:L2 L=true){P:List Nat}(h0:0<L.length)(o:Ord (sN L) 0 P):decide (P.length<L.length) = !(List.range L.length).all λi=>(Ru L).getD i false:=by
 have hin:∀ x∈P,x<L.length:=λx hx=>(by obtain⟨Q,rfl,oo⟩:=o.ordered h0 (Vt hm);exact oo.lt hx)
 have hr:∀ z,(Ru L).getD z false=true↔z∈P:=λz=>by
  rw[o.mem z];exact Ya (Vt hm) h0 z
 have hle:=L3 L.length P o.nodup hin
 cases ha:(List.range L.length).all λi=>(Ru L).getD i false with
 | true=>
  have:=((List.perm_ext_iff_of_nodup o.nodup List.nodup_range).2 λi=>⟨λh=>zzL35.2 (hin i h),λh=>(hr i).1 (zzL27.1 ha i h)⟩:P.Perm (List.range L.length)).length_eq;rw[V1]at this
  simp;omega
 | false=>
  obtain⟨i,hi,hni⟩:∃ i,i<L.length/\i∉P:=GM λhc=>by
   have:(List.range L.length).all (λi=>(Ru L).getD i false)=true:=zzL27.2 λi hi=>(hr i).2 (GM λhn=>hc ⟨i,by simpa using hi,hn⟩);rw[this]at ha;cases ha
  have:(i::P).length<=L.length:=L3 L.length (i::P) (zzL77.2 ⟨hni,o.nodup⟩) (λx hx=>by rcases zzL24.1 hx with rfl|hx;exact hi;exact hin x hx);simp at this ⊢;omega
theorem cp {f : Aa} (hf : OkF f) (l : Int) (t : List Int) (u : List A8) : ∃ t', Fx f l t u = some (bif Gb f then 0 else 5, f, l, t', u) ∧ (Gb f = true → t' = B4 f) := by
  have hmax : f.Blocks.length ≤ maxLen := by have := hf.blocks; have : (64 : Nat) ≤ maxLen := by decide
                                             omega
  unfold Fx; rw [oY f hmax, Ar]
  cases hs : Oe f with
  | false => exact ⟨t, by unfold Gb; rw [hs]; rfl, fun h => by unfold Gb at h; rw [hs] at h; cases h⟩
  | true =>
    have hm := Tz hs; have hlen := Yd f
    have hpos : 0 < (Eu f).length := by have := (shape_iff.1 hs).1.1; omega
    obtain ⟨h1, h2⟩ := dS hm; obtain ⟨P, hP⟩ := Ord.exist (Vt hm) hpos; have ho := (ML (Yu (Eu f)) h1 trivial 0).1 (PU hm) (by omega) (by show (0 : Int) < ((Eu f).length : Int); omega) P hP; have hfull := UL hm hpos hP; simp only [Ae, show (((0 : Int) != 0) == false) = true from rfl, show ((0 : Int) != 0) = false from rfl, Az, ho, Ar, show (false == false) = true from rfl]
    have e1 : decide (((Pp P).length : Int) < (f.Blocks.length : Int)) = decide (P.length < (Eu f).length) := by
      rw [hlen]; apply zzL108.2; simp [Pp]
    rw [e1, hfull]
    have hsd : Gb f = (((List.range f.Blocks.length).all fun i => (Ru (Eu f)).getD i false) && (List.range f.Blocks.length).all fun i => LM (f.Blocks.getD i default).End && (f.Blocks.getD i default).Phis.all (Hh ((Fm (Eu f)).getD i []))) := by
      unfold Gb; rw [hs, Hn]
      have : ∀ (n : Nat) (p q : Nat → Bool), ((List.range n).all fun i => p i && q i) = ((List.range n).all p && (List.range n).all q) := fun n p q => by
        rw [Ms, A6, zzL27, zzL27, zzL27]
        constructor
        · intro h; exact ⟨fun x hx => ((A6 _ _).mp (h x hx)).1, fun x hx => ((A6 _ _).mp (h x hx)).2⟩
        · intro h x hx; rw [A6]; exact ⟨h.1 x hx, h.2 x hx⟩
      rw [← this]
      congr 1
      funext i
      show (_ && _ && _) = _
      rw [Bool.and_assoc]
      rfl
    rw [hlen]; rw [hsd]
    cases hr : (List.range f.Blocks.length).all fun i => (Ru (Eu f)).getD i false with
    | false => exact ⟨t, rfl, fun h => by cases h⟩
    | true =>
      refine ⟨B4 f, ?_, fun _ => rfl⟩; rw [Fi, Az, k7 _ 0 h1 h2, Ar, Hn]; have hp := Rs hm
      have hpl : (Yu (Eu f)).Pred.length = f.Blocks.length := by rw [← hlen]; exact Oa _
      have key : Ah (Cq f l u (Yu (Eu f), 0) (B4 f)) (0 : Int) = some (bif (List.range f.Blocks.length).all (fun i => LM (f.Blocks.getD i default).End && (f.Blocks.getD i default).Phis.all (Hh ((Fm (Eu f)).getD i []))) then .inl () else .inr ((5 : Int), f, l, B4 f, u)) := by
        have hk : ∀ i : Nat, i < f.Blocks.length → Cq f l u (Yu (Eu f), 0) (B4 f) (i : Int) = some (bif (LM (f.Blocks.getD i default).End && (f.Blocks.getD i default).Phis.all (Hh ((Fm (Eu f)).getD i []))) then .next ((i : Int) + 1) else .done (.inr ((5 : Int), f, l, B4 f, u))) := fun i hi => by
          have hB := hf.block _ (getD_mem (d := (default : Ag)) hi); have hpi : Bv (i : Int) (Yu (Eu f)).Pred.length := Bd (by omega); have hpg : ((Yu (Eu f)).Pred.getD i []).length ≤ 64 := hp.2 _ (getD_mem (by rw [Oa]; omega)); unfold Cq
          have hd : decide ((i : Int) < (f.Blocks.length : Int)) = true := by simpa using hi
          simp only [hd, Ae, Au (Bd hi), Au hpi, Do, ZL (f.Blocks.getD i default).Phis ((Yu (Eu f)).Pred.getD i []) (by have := hB.phis; omega) (by omega), Ar]; have ha : H1 (⟨(f.Blocks.getD i default).End.Kind, (f.Blocks.getD i default).End.Arg, (f.Blocks.getD i default).End.To⟩ : Gh) = some (LM (f.Blocks.getD i default).End) := ZG (n := f.Blocks.length) (f.Blocks.getD i default).End ((shape_iff.1 hs).2 i hi); rw [ha, D0 hi (by have := hf.blocks; omega)]
          show _ = some (bif (LM (f.Blocks.getD i default).End && (f.Blocks.getD i default).Phis.all (Hh ((Yu (Eu f)).Pred.getD i []))) then _ else _)
          cases (f.Blocks.getD i default).Phis.all (Hh ((Yu (Eu f)).Pred.getD i [])) <;> cases LM (f.Blocks.getD i default).End <;> rfl
        exact ZZ _ _ _ _ _ (fun i hi hp => by rw [hk i hi, hp]; rfl) (fun i hi hp => by rw [hk i hi, hp]; rfl) (by unfold Cq; simp)
      show ((Ah (Cq f l u (Yu (Eu f), 0) (B4 f)) (0 : Int)).bind _) = _
      rw [key, Ar]
      cases (List.range f.Blocks.length).all (fun i => LM (f.Blocks.getD i default).End && (f.Blocks.getD i default).Phis.all (Hh ((Fm (Eu f)).getD i []))) <;> rfl
theorem kY(o:Bl)(l:Int)(h0:0<=l)(h2:l<=2)(hk:Hx o=true):Ni o l=some (!decide (MJ l<o.Kind)&&!(decide (l<2)&&decide (1<o.Lanes))):=by
 have hl:=de hk
 have hK:o.Kind<=22:=by
  simp only[Hx,A6]at hk;have:=hk.1.2.1.1.1;unfold dY at this;simp only[A6,Du]at this;omega
 unfold Ni MJ
 have:l=0\/l=1\/l=2:=by omega
 rcases this with rfl|rfl|rfl
 ·have ha:decide (o.Kind<=17) = !decide (17<o.Kind):=by rw[Ms];simp
  have hb:(o.Lanes==1) = !decide (1<o.Lanes):=by rw[Ms];simp;omega
  show some (bif decide (o.Kind<=17) then(o.Lanes==1) else false)=some (!decide (17<o.Kind)&&!(true&&decide (1<o.Lanes)))
  rw[ha,hb]
  cases decide (17<o.Kind)<;>cases decide (1<o.Lanes)<;>rfl
 ·have ha:decide (o.Kind<=20) = !decide (20<o.Kind):=by rw[Ms];simp
  have hb:(o.Lanes==1) = !decide (1<o.Lanes):=by rw[Ms];simp;omega
  show some (bif decide (o.Kind<=20) then(o.Lanes==1) else false)=some (!decide (20<o.Kind)&&!(true&&decide (1<o.Lanes)))
  rw[ha,hb]
  cases decide (20<o.Kind)<;>cases decide (1<o.Lanes)<;>rfl
 ·show some true=some (!decide (22<o.Kind)&&!(false&&decide (1<o.Lanes)))
  rw[Dm (by omega)]
  rfl
theorem ZK(o:Bl)(ho:bj o)(f:Aa)(l:Int)(h0:0<=l)(h2:l<=2)(t:List Int)(u:List A8):Fd o f l t u=some (G9 l o,f,l,t,u):=by
 unfold Fd G9;rw[EF o ho,Ar]
 cases hk:Hx o with
 | false=>rfl
 | true=>
  rw[show(true==true)=true from rfl,Ae,kY o l h0 h2 hk,Ar,Ae,Hn]
theorem gt(b:Ag){f:Aa}(hf:OkF f)(hb:b∈f.Blocks)(l:Int)(h0:0<=l)(h2:l<=2)(t:List Int)(u:List A8):Hs b.Ops f l t u=some (b.Ops.all (G9 l),f,l,t,u):=by
 have hB:=hf.block b hb
 have key:∀ k i:Nat,i+k=b.Ops.length->Ah (Ep b.Ops) ((i:Int),f.Params,f.Ret,f.Blocks,l,t,u)=some (bif (b.Ops.drop i).all (G9 l) then .inl (f.Params,f.Ret,f.Blocks,l,t,u) else .inr (false,f,l,t,u)):=by
  intro k
  induction k with
  | zero=>
   intro i h
   obtain rfl:i=b.Ops.length:=by omega
   rw[Ai (x:=.inl (f.Params,f.Ret,f.Blocks,l,t,u)) (by unfold Ep;simp)]
   simp
  | succ k ih=>
   intro i h
   have hi:i<b.Ops.length:=by omega
   have hd:decide ((i:Int)<(b.Ops.length:Int))=true:=by simpa using hi
   have hdr:b.Ops.drop i=b.Ops.getD i default::b.Ops.drop (i+1):=by rw[Pg hi,Ab _ _ _ hi]
   have hx:=ZK (b.Ops.getD i default) (lJ hf hb (getD_mem hi)) f l h0 h2 t u;rw[hdr,Pi]
   cases ho:G9 l (b.Ops.getD i default) with
   | true=>
    rw[ho]at hx
    rw[Ao (s':=(((i+1:Nat):Int),f.Params,f.Ret,f.Blocks,l,t,u)) (by
     unfold Ep;simp only[hd,Ae,Au (Bd hi),Do,hx,Ar,Fi,Az,D0 hi (by have:=hB.ops;omega)]
     rfl),ih (i+1) (by omega),Hn]
   | false=>
    rw[ho]at hx
    rw[Ai (x:=.inr (false,f,l,t,u)) (by
     unfold Ep
     simp only[hd,Ae,Au (Bd hi),Do,hx,Ar,Lh])]
    rfl
 unfold Hs;rw[show(0:Int)=((0:Nat):Int) from rfl,key b.Ops.length 0 (by omega),Lr,Ar]
 cases b.Ops.all (G9 l)<;>rfl
theorem cg(b:Ag)(h:b.Phis.length<9223372036854775808):G8 b.Phis=some (b.Phis.all λp=>Dr p.Bits):=by
 unfold G8
 rw[kR b.Phis (default:E1) (λp=>Dr p.Bits) (Fv b.Phis) (.inl ()) (.inr false) h (λi hi=>by
  unfold Fv Lz
  have hd:decide ((i:Int)<(b.Phis.length:Int))=true:=by simpa using hi
  simp only[hd,Ae,Au (Bd hi),Do,Qi,Ar]
  cases Dr (b.Phis.getD i default).Bits<;>rfl) (by unfold Fv;simp),Ar]
 cases b.Phis.all λp=>Dr p.Bits<;>rfl
theorem cf(p:List Int)(h:p.length<9223372036854775808):J0 p=some (p.all Dr):=by
 unfold J0
 rw[kR p (0:Int) Dr (Ht p) (.inl ()) (.inr false) h (λi hi=>by
  unfold Ht
  have hd:decide ((i:Int)<(p.length:Int))=true:=by simpa using hi
  simp only[hd,Ae,Au (Bd hi),Do,Qi,Ar]
  cases Dr (p.getD i 0)<;>rfl) (by unfold Ht;simp),Ar]
 cases p.all Dr<;>rfl
theorem LT(b:Ag){f:Aa}(hf:OkF f)(hb:b∈f.Blocks)(l:Int)(h0:0<=l)(h2:l<=2)(t:List Int)(u:List A8):Eb b f l t u=some (Hp l b,f,l,t,u):=by
 unfold Eb Hp;rw[cg b (by have:=(hf.block b hb).phis;omega),Ar,gt b hf hb l h0 h2 t u]
 cases(b.Phis.all λp=>Dr p.Bits)<;>rfl
theorem gz{f:Aa}(hf:OkF f)(l:Int)(h0:0<=l)(h2:l<=2)(t:List Int)(u:List A8):F8 f l t u=some (bif Py f l then 0 else 6,f,l,t,u):=by
 have key:∀ k i:Nat,i+k=f.Blocks.length->Ah (Dx f.Blocks) ((i:Int),f.Params,f.Ret,f.Blocks,l,t,u)=some (bif (f.Blocks.drop i).all (Hp l) then .inl (f.Params,f.Ret,f.Blocks,l,t,u) else .inr (false,f,l,t,u)):=by
  intro k
  induction k with
  | zero=>
   intro i h
   obtain rfl:i=f.Blocks.length:=by omega
   rw[Ai (x:=.inl (f.Params,f.Ret,f.Blocks,l,t,u)) (by unfold Dx;simp)]
   simp
  | succ k ih=>
   intro i h
   have hi:i<f.Blocks.length:=by omega
   have hd:decide ((i:Int)<(f.Blocks.length:Int))=true:=by simpa using hi
   have hdr:f.Blocks.drop i=f.Blocks.getD i default::f.Blocks.drop (i+1):=by rw[Pg hi,Ab _ _ _ hi]
   have hx:=LT (f.Blocks.getD i default) hf (getD_mem hi) l h0 h2 t u;rw[hdr,Pi]
   cases ho:Hp l (f.Blocks.getD i default) with
   | true=>
    rw[ho]at hx
    rw[Ao (s':=(((i+1:Nat):Int),f.Params,f.Ret,f.Blocks,l,t,u)) (by
     unfold Dx;simp only[hd,Ae,Au (Bd hi),Do,hx,Ar,Fi,Az,D0 hi (by have:=hf.blocks;omega)]
     rfl),ih (i+1) (by omega),Hn]
   | false=>
    rw[ho]at hx
    rw[Ai (x:=.inr (false,f,l,t,u)) (by
     unfold Dx
     simp only[hd,Ae,Au (Bd hi),Do,hx,Ar,Lh])]
    rfl
 have hall:F7 f.Blocks f l t u=some (f.Blocks.all (Hp l),f,l,t,u):=by
  unfold F7;rw[show(0:Int)=((0:Nat):Int) from rfl,key f.Blocks.length 0 (by omega),Lr,Ar]
  cases f.Blocks.all (Hp l)<;>rfl
 unfold F8 Py Ir;rw[cf _ (by have:=hf.few;omega),Ar,hall,Qi]
 cases f.Params.all Dr<;>cases Dr f.Ret<;>cases f.Blocks.all (Hp l)<;>rfl
end
end Go.Proofs.YtjpnobeadcdnoaaGreat
