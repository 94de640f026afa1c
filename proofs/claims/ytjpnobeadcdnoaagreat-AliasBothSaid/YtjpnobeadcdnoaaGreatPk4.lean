/-
  The machine, the program's functions and the laws' arithmetic: part 4 of 5.
-/
import Derived.Test.YtjpnobeadcdnoaaGreatPk3
import Derived.Lib.RowBridge
import Derived.OpenShut
import Derived.ShutString
set_option linter.unusedSectionVars false
set_option linter.unusedVariables false
set_option linter.unusedSimpArgs false
namespace Go.Proofs.YtjpnobeadcdnoaaGreat
noncomputable section
open Go Go.RowKit
set_option maxRecDepth 100000
set_option maxHeartbeats 2000000
def lX(a0:TFunc)(aQ:Int):AV:=(.agg [(Z7 a0.Params),(Z6 a0.Ret),(LF a0.Blocks),(Z6 aQ),bP,.nilm,nM])
def lW(a0:TFunc)(aQ:Int):=(⟨[(5,(.ptr 5 0))],[(5,.row 110 [(Z7 a0.Params),(Z6 a0.Ret),(LF a0.Blocks),(Z6 aQ),bP,.nilm,nM])],[]⟩:St)
def js(a0:TFunc)(aQ:Int):=(⟨[(5,(.ptr 5 0))],[(5,.row 110 [(Z7 a0.Params),(Z6 a0.Ret),(LF a0.Blocks),(Z6 aQ),bP,.nilm,(nN 50506)]),(nP 50506)],[]⟩:St)
def L7(a0:TFunc)(aQ:Int):Option Int:=
 (bif (bif (decide (aQ<0)) then true else(decide ((2:Int)<aQ))) then(some (1:Int)) else((El a0 aQ ([]:As) ([]:List A6)).bind λx1=>(some x1.1)))
variable{v0:TFunc}{v1:Int}{v2:Int}
theorem EX(h:L7 v0 v1=some v2):sP 33 [(LI v0),(Z6 v1)] [] (.int .i64 v2) []:=
 sG Tryz.func33 λΓ q=>Ak q V3 [2] (tU q [1,2,11] [2] (c2 (gI ((decide (v1<0))==false)) (S5 (decide (v1<0)))) (gC h (λh=>Ak q [4] [] (tS h (Ce []))) λh=>gR q [5] [5] [(14,(lX v0 v1))] [] (c1 (show(AVle (.agg [(Z7 v0.Params),(Z6 v0.Ret),(LF v0.Blocks),(Z6 v1),SR,.nilm,SR]) (lX v0 v1)) from(AVle.agg (.cons (AVle.refl _) (.cons (AVle.refl _) (.cons (AVle.refl _) (.cons (AVle.refl _) (.cons Ei (.cons (AVle.refl _) (.cons Ei .nil)))))))))) (Rz (lW v0 v1) (Mt (show Le Γ _ (js v0 v1) from Le.trans (Dh (st':=(lW v0 v1)) [5] [5] q) (Le.trans (Md (r:=5) (j:=6) (nm:=50506) (sz':=5) (λi=>Jm (([]:List A6).getD i default)) 158 rfl rfl (nl rfl) rfl (.inl ⟨rfl,rfl⟩) (λh_=>absurd h_ (by decide))) (Dh (st':=(js v0 v1)) [5] [5,50506] q))) (Mt (show Le Γ _ (⟨[(5,(.ptr 5 0))],[(5,.row 110 [(Z7 v0.Params),(Z6 v0.Ret),(LF v0.Blocks),(Z6 v1),(AV.list 1 Ar 0 ([]:As) .none),.nilm,(nN 50506)]),(nP 50506)],[]⟩:St) from Le.trans (Dh (st':=(js v0 v1)) [5] [5,50506] q) (Jh (.cons (AVle.refl _) .nil) (.row (.cons (AVle.refl _) (.cons (AVle.refl _) (.cons (AVle.refl _) (.cons (AVle.refl _) (.cons AVle.untag (.cons (AVle.refl _) (.cons (AVle.refl _) .nil))))))) (.same .nil)))) (tB h λx1 y1 h=>tT q [4] [] [⟨[(5,30000),(50506,37006)],[(9200005,10000505)],(Z6 x1.1),[(Z1 x1.2.1.Params x1.2.1.Ret x1.2.1.Blocks x1.2.2.1 x1.2.2.2.1 9200005 x1.2.2.2.2.1),(Z9 x1.2.2.2.2.1.length),(9200005,.obj (.map false .i64 (mapE (λ(v_:Ai)=>((Pq v_):AV)) x1.2.2.2.2.2)))],[],[]⟩] (c1 (K5 y1)) (tS h (Ce []))))))))
def Hw(a0:TFunc):Option Bool:=
 ((L7 a0 (2:Int)).bind λx1=>(some (x1==0)))
variable{v5:Bool}
theorem Py(h:Hw v0=some v5):sP 21 [(LI v0)] [] (.bool v5) []:=
 sG Tryz.func21 λΓ q=>Ak q [1] [1] (tB h λx1 y1 h=>tT q [2] [] [(DH x1)] (c1 (EX y1)) (tS h (Ce [])))
def E0(a2:Cz):Option Int:=
 (some (Bh (Int.tdiv (Bh (a2.Lanes*a2.Bits)) (8:Int))))
variable{v3:Cz}
theorem H0(h:E0 v3=some v1):sP 22 [(Sr v3)] [] (.int .i64 v1) []:=
 sG Tryz.func22 λΓ q=>Ak q [1] [1] (tU q [2] [] (c1 (show((8:Int)≠0) from(by decide))) (tS h (Ce [])))
abbrev VF:=(Int×Int×Bool)
def Gf(a0:TFunc)(aA:Int)(aK:Int):Option VF:=
 ((C1 a0 aA aK).bind λx1=>((Dx x1).bind λx2=>((bif ((x2==0)==false) then Hw a0 else some false).bind λx3=>(bif (bif (x2==0) then true else(!x3)) then(some ((0:Int),(0:Int),false)) else((E0 x1).bind λx4=>(some (x2,x4,true)))))))
variable{v32:VF}
theorem Px(h:Gf v0 v1 v2=some v32):sP 9 [(LI v0),(Z6 v1),(Z6 v2)] [] (.tuple [(Z6 v32.1),(Z6 v32.2.1),(.bool v32.2.2)]) []:=
 sG Tryz.func9 λΓ q=>Ak q [1,2,3] [3] (tB h λx1 y1 h=>tT q [3,9] [3,9] [⟨[],[],(Sr x1),[],[],[]⟩] (c1 (J5 y1)) (tB h λx2 y2 h=>tT q [3,9,10] [3,9] [(DH x2)] (c1 (Ja y2)) (tB h λx3 y3 h=>tT q [9,10,23] [9] [(Z2 x3)] (c4 (gI ((x2==0)==false)) (λ(hg:((x2==0)==false)=true)=>(Py (Bo hg y3))) (gI ((x2==0)==false)) (S5 (x2==0))) (gC h (λh=>Ak q [6,7,8] [] (tS h (Ce []))) λh=>tB h λx4 y4 h=>tT q [6,7,8] [] [(DH x4)] (c1 (H0 y4)) (tS h (Ce []))))))
abbrev GJ:=(Int×(Int×Int))
abbrev mv:=(LR (List (Int×(Int×Int))) (List (Int×(Int×Int))))
def Ib :List GJ->Option mv:=
 λ(l4:List GJ)=>(some (.done l4))
def Gm(x1:VE):Nat->List GJ->Option mv:=
 λ(n3:Nat) (l4:List GJ)=>(some (.next (Em l4 (x1.2.2.2.2.2.getD n3 ((0:Int),(default:Ai))).1 (((x1.2.2.2.2.2.getD n3 ((0:Int),(default:Ai))).2).shape.1,((x1.2.2.2.2.2.getD n3 ((0:Int),(default:Ai))).2).shape.2))))
def BV(x1:VE)(n3:Nat):=(x1.2.2.2.2.2.getD n3 ((0:Int),(default:Ai)))
def NW(x1:VE):=(mapE (λ(v_:Ai)=>((Pq v_):AV)) x1.2.2.2.2.2)
def lZ(a0:TFunc):AV:=(.agg [(Z7 a0.Params),(Z6 a0.Ret),(LF a0.Blocks),fy,bP,.nilm,nM])
def lY(a0:TFunc):=(⟨[(3,(.ptr 3 0))],[(3,.row 110 [(Z7 a0.Params),(Z6 a0.Ret),(LF a0.Blocks),fy,bP,.nilm,nM])],[]⟩:St)
def jt(a0:TFunc):=(⟨[(3,(.ptr 3 0))],[(3,.row 110 [(Z7 a0.Params),(Z6 a0.Ret),(LF a0.Blocks),fy,bP,.nilm,(nN 50306)]),(nP 50306)],[]⟩:St)
def Kr(a0:TFunc):Option (List (Int×(Int×Int))):=
 ((El a0 (2:Int) ([]:As) ([]:List A6)).bind λx1=>(bif (x1.1 !=0) then(some ([]:List GJ)) else((Wj (S:=List GJ) (X:=List GJ) JQ ((mapE (λ(v_:Ai)=>((.agg (Qn v_)):AV)) x1.2.2.2.2.2).length) (Gm x1) Ib ([]:List GJ)).bind (λx6=>(some x6)))))
variable{v33:List GJ}
theorem BX(h:Kr v0=some v33):sP 44 [(LI v0)] [] (.omap 20000) [(20000,.obj (.pmap false .i64 (mapE (λ(v_:Gc)=>((DI v_):AV)) v33)))]:=
 sG Tryz.func44 λΓ q=>Ak q [1] [1] (gR q [3] [3] [(8,(lZ v0))] [] (c1 (show(AVle (.agg [(Z7 v0.Params),(Z6 v0.Ret),(LF v0.Blocks),fy,SR,.nilm,SR]) (lZ v0)) from(AVle.agg (.cons (AVle.refl _) (.cons (AVle.refl _) (.cons (AVle.refl _) (.cons (AVle.refl _) (.cons Ei (.cons (AVle.refl _) (.cons Ei .nil)))))))))) (Rz (lY v0) (Mt (show Le Γ _ (jt v0) from Le.trans (Dh (st':=(lY v0)) [3] [3] q) (Le.trans (Md (r:=3) (j:=6) (nm:=50306) (sz':=5) (λi=>Jm (([]:List A6).getD i default)) 158 rfl rfl (nl rfl) rfl (.inl ⟨rfl,rfl⟩) (λh_=>absurd h_ (by decide))) (Dh (st':=(jt v0)) [3] [3,50306] q))) (Mt (show Le Γ _ (⟨[(3,(.ptr 3 0))],[(3,.row 110 [(Z7 v0.Params),(Z6 v0.Ret),(LF v0.Blocks),fy,(AV.list 1 Ar 0 ([]:As) .none),.nilm,(nN 50306)]),(nP 50306)],[]⟩:St) from Le.trans (Dh (st':=(jt v0)) [3] [3,50306] q) (Jh (.cons (AVle.refl _) .nil) (.row (.cons (AVle.refl _) (.cons (AVle.refl _) (.cons (AVle.refl _) (.cons (AVle.refl _) (.cons AVle.untag (.cons (AVle.refl _) (.cons (AVle.refl _) .nil))))))) (.same .nil)))) (tB h λx1 y1 h=>tT q [3,10] [3,50306,10000305] [⟨[(3,30000),(50306,37006)],[(9200005,10000305)],(Z6 x1.1),(lz x1.2.1.Params x1.2.1.Ret x1.2.1.Blocks x1.2.2.1 x1.2.2.2.1 9200005 x1.2.2.2.2.1 x1.2.2.2.2.1.length (NW x1)),[],[]⟩] (c1 (K5 y1)) (gC h (λh=>Ak q [2] [] (Rz (⟨[(2,.nilm)],[],[]⟩:St) (tS h (gK (e:=.ret) (Kk [(36002,20000)] (Le.trans (Le.trans (g7 (t:=2) (nm:=36002) .i64 rfl rfl) (Dh (st':=⟨[(2,(.omap 36002))],[(36002,.obj (.map false .i64 (mapE (λ(v_:Gc)=>((DI v_):AV)) ([]:List GJ))))],[]⟩) [2] [36002] q)) (ou 36002 false .i64 (f:=(λ(v_:Gc)=>((DI v_):AV))) ah))))))) λh=>gR q [3,4] [3,14,50306,10000305] [(13,(LH x1.2.2.2.2.2.length))] [] (c1 (show(AVle (.int .i64 ((NW x1).length:Int)) (LH x1.2.2.2.2.2.length)) from(iE (f:=(λ(v_:Ai)=>((Pq v_):AV))) (l:=x1.2.2.2.2.2) rfl))) (Mt (S9 (λ(k_:List HY) u=>Fg u [] [(bQ 14 k_)]) (show[]=(mapE (λ(v_:Gc)=>((DI v_):AV)) ([]:List GJ)) from rfl)) (Ak q [4,17] XX (tB h λx6 y6 h=>pC q y6 [4,17] XX (λu z2 l4=>(Fg u [] [(14,.obj (.map true .i64 (mapE (λ(v_:Gc)=>((DI v_):AV)) l4))),(17,.obj (.miter (.omap 10000305) ((NW x1).length) z2))])) (λu l5=>aG Γ (.exit 0) (Wl [4] [14] u [] [(14,.obj (.map true .i64 (mapE (λ(v_:Gc)=>((DI v_):AV)) l5)))])) 17 18 19 17 10000305 false .i64 (NW x1) [4,17,19] XX (kd:=(λz2 l4 y h hall=>ZK false (tS h (gO (Dq (Dh [4] [14] q)))))) (kn:=(λz2 l4 n3 y h hin3 hnn3=>ZK true (gR q [4,5,6,17] [6,14,17,10000305] [(20,(.tuple [(.int .i64 (BV x1 n3).1),(.agg (Qn ((BV x1 n3).2)))]))] [] (c3 (Eq.refl ((NW x1).length)) (show(n3<(NW x1).length) from hin3) (show(AVle (.tuple [.int .i64 ((NW x1).getD n3 (0,.any)).1,((NW x1).getD n3 (0,.any)).2]) (.tuple [(.int .i64 (BV x1 n3).1),(.agg (Qn ((BV x1 n3).2)))])) from(iC (f:=(λ(v_:Ai)=>((Pq v_):AV))) (l:=x1.2.2.2.2.2) hin3))) (Ak q [4,17] XX (tS h (gN (Le.trans (S9 (λ(k_:List HY) u=>Fg u [] [(bQ 14 k_)]) (show(Em (mapE (λ(v_:Gc)=>((DI v_):AV)) l4) (BV x1 n3).1 (.agg [(.int .i64 ((BV x1 n3).2).shape.1),(.int .i64 ((BV x1 n3).2).shape.2)]))=(mapE (λ(v_:Gc)=>((DI v_):AV)) (Em l4 (BV x1 n3).1 (((BV x1 n3).2).shape.1,((BV x1 n3).2).shape.2))) from(Xr (f:=(λ(v_:Gc)=>((DI v_):AV))) (l:=l4) (v:=(((BV x1 n3).2).shape.1,((BV x1 n3).2).shape.2)) rfl rfl))) Mp))))))) (ko:=(λl_ hp_=>jQ (λst' hl7=>Mt (Le.trans hl7 (ou 14 true .i64 (f:=(λ(v_:Gc)=>((DI v_):AV))) hp_)) (Ak q [2] [14] (Rz (⟨[(2,(.omap 14))],[(14,.obj (.pmap true .i64 (mapE (λ(v_:Gc)=>((DI v_):AV)) x6)))],[]⟩:St) (tS h (gK (e:=.ret) (Kk [(14,20000)] (pF 14 .i64 (mapE (λ(v_:Gc)=>((DI v_):AV)) x6)))))))))))))))))))
abbrev iy:=(Int×List (Int×Cz))
abbrev mw:=(LR (Int×List (Int×Cz)) (List (Int×Cz)))
abbrev Zx:=(Int×Cz)
def G8(a0:TFunc)(i1:Int):iy->Option mw:=
 λ((i5,l6):iy)=>(bif (decide (i5<(((a0.Blocks.getD i1.toNat default).Ops).length:Int))) then(Option.bind (α:=List Zx) (Ch (Bt i5 ((a0.Blocks.getD i1.toNat default).Ops).length) (Option.bind (α:=Bool) (bif (((((a0.Blocks.getD i1.toNat default).Ops).getD i5.toNat default).Kind:Int)==0) then(some (((((a0.Blocks.getD i1.toNat default).Ops).getD i5.toNat default).Kind:Int)==0)) else(bif (((((a0.Blocks.getD i1.toNat default).Ops).getD i5.toNat default).Kind:Int)==1) then(some (((((a0.Blocks.getD i1.toNat default).Ops).getD i5.toNat default).Kind:Int)==1)) else(bif (((((a0.Blocks.getD i1.toNat default).Ops).getD i5.toNat default).Kind:Int)==2) then(some (((((a0.Blocks.getD i1.toNat default).Ops).getD i5.toNat default).Kind:Int)==2)) else(bif (((((a0.Blocks.getD i1.toNat default).Ops).getD i5.toNat default).Kind:Int)==3) then(some (((((a0.Blocks.getD i1.toNat default).Ops).getD i5.toNat default).Kind:Int)==3)) else(some (((((a0.Blocks.getD i1.toNat default).Ops).getD i5.toNat default).Kind:Int)==8)))))) (λx11=>(bif x11 then(some (Em l6 (((a0.Blocks.getD i1.toNat default).Ops).getD i5.toNat default).Dst (((a0.Blocks.getD i1.toNat default).Ops).getD i5.toNat default))) else(some l6))))) (λx13=>(some (.next ((Bh (i5+1)),x13))))) else(some (.done l6)))
def G9(a0:TFunc):iy->Option mw:=
 λ((i1,l2):iy)=>(bif (decide (i1<(a0.Blocks.length:Int))) then(Ch (Bt i1 a0.Blocks.length) ((Ag (G8 a0 i1) ((0:Int),l2)).bind (λx15=>(some (.next ((Bh (i1+1)),x15)))))) else(some (.done l2)))
def GY:=(λ(v_:Cz)=>((Sr v_):AV))
def DE(a0:TFunc)(i1:Int)(i5:Int):=(((a0.Blocks.getD i1.toNat default).Ops).getD i5.toNat default)
abbrev VG:=(List (Int×Cz))
def L6(a0:TFunc):Option VG:=
 ((Ag (G9 a0) ((0:Int),([]:List Zx))).bind (λx17=>(some x17)))
variable{v34:List Zx}
theorem EW(h:L6 v0=some v34):sP 45 [(LI v0)] [] (.omap 20000) [(20000,.obj (.map true .i64 (mapE (λ(v_:Cz)=>((Sr v_):AV)) v34)))]:=
 sG Tryz.func45 λΓ q=>tW q [1] [1] Sc [1,8] (Mt (S9 (λ(k_:List HY) u=>Fg u [] [(8,.obj (.map true .i64 k_))]) (show[]=(mapE GY ([]:List Zx)) from rfl)) (Ak q Yo [8] (tL q h Yo [8] (λu (i1,l2)=>(Fg u [(12,(Z6 i1))] [(8,.obj (.map true .i64 (mapE GY l2)))])) (λu l3=>aG Γ (.exit 0) (Wl [3] [8] u [] [(8,.obj (.map true .i64 (mapE GY l3)))])) (λ⟨i1,l2⟩ y h=>Ak q [3,10,11,12,13] [8] (gC h (λh=>tV q [3,5,10,11,12] [5,8] h λh=>Ak q RT [8] (tL q h RT [8] (λu (i5,l6)=>(Fg u [(19,(Z6 i5))] [(8,.obj (.map true .i64 (mapE GY l6)))])) (λu l7=>aG Γ (.exit 2) (Wl Yo [8] u [] [(8,.obj (.map true .i64 (mapE GY l7)))])) (λ⟨i5,l6⟩ y h=>Ak q [3,10,11,12,17,18,19,20] [8] (gC h (λh=>tB h λx13 y13 h=>gJ y13 (λl8=>aG Γ .normal (⟨[(3,(.omap 8)),(10,(LF v0.Blocks)),(11,(LH v0.Blocks.length)),(12,(Z6 i1)),(17,(AV.list 6 Yx default (v0.Blocks.getD i1.toNat default).Ops .none)),(18,(.int .i64 (((v0.Blocks.getD i1.toNat default).Ops).length:Int))),(19,(Z6 i5))],[(8,.obj (.map true .i64 (mapE GY l8)))],[]⟩:St)) (λy h=>tV q [3,7,10,11,12,17,18,19] Mo h λh=>Ak q [3,7,10,11,12,17,18,19,24] Mo (tB h λx11 y11 h=>gJ y11 (λb10=>aG Γ .normal (⟨[(3,(.omap 8)),(7,(.ptr 7 0)),(10,(LF v0.Blocks)),(11,(LH v0.Blocks.length)),(12,(Z6 i1)),(17,(AV.list 6 Yx default (v0.Blocks.getD i1.toNat default).Ops .none)),(18,(.int .i64 (((v0.Blocks.getD i1.toNat default).Ops).length:Int))),(19,(Z6 i5)),(25,(.bool b10))],[(7,.row 46 [(.int .i64 (DE v0 i1 i5).Kind),(.int .i64 (DE v0 i1 i5).Bits),(.int .i64 (DE v0 i1 i5).Lanes),(.int .i64 (DE v0 i1 i5).Dst),(AV.list 1 Ar 0 (DE v0 i1 i5).Args .none),(.int .u64 (DE v0 i1 i5).Imm)]),(8,.obj (.map true .i64 (mapE GY l6)))],[]⟩:St)) (λy h=>Ak q XR Mo (gC h (λh=>tS h (gK (Dq (Dh RQ Mo q)))) λh=>Ak q XR Mo (gC h (λh=>tS h (gK (Dq (Dh RQ Mo q)))) λh=>Ak q XR Mo (gC h (λh=>tS h (gK (Dq (Dh RQ Mo q)))) λh=>Ak q XR Mo (gC h (λh=>tS h (gK (Dq (Dh RQ Mo q)))) λh=>Ak q RQ Mo (tS h (gK (Dq Mp)))))))) (gA (gC h (λh=>Ak q RT [8] (tS h (gK (Dq (Le.trans (S9 (λ(k_:List HY) u=>Fg u [] [(8,.obj (.map true .i64 k_))]) (show(Em (mapE GY l6) (DE v0 i1 i5).Dst (Sr (DE v0 i1 i5)))=(mapE GY (Em l6 (DE v0 i1 i5).Dst (DE v0 i1 i5))) from(Xr (f:=GY) (l:=l6) (v:=(DE v0 i1 i5)) rfl rfl))) Mp))))) λh=>tS h (gK (Dq (Dh RT [8] q))))))) (gA (Ak q RT [8] (tN h)))) λh=>tS h (gO (Dq (Dh Yo [8] q))))) λx15 h=>gA (Ak q Yo [8] (tN h)))) λh=>tS h (gO (Dq (Dh [3] [8] q))))) λx17 h=>gA (Ak q [2] [8] (tS h (Ce [(8,20000)]))))))
def Hv(a6:Az):Gc->Option ow:=
 λ((i1,i2):Gc)=>(bif (decide (i2<(a6.Terms.length:Int))) then(Ch (Bt i2 a6.Terms.length) (bif (bif (bif (decide (((a6.Terms.getD i2.toNat default).V:Int)<=i1)) then true else(decide ((1023:Int)<(a6.Terms.getD i2.toNat default).V))) then true else(((a6.Terms.getD i2.toNat default).Scale:Int)==0)) then(some (.done (.inr false))) else(some (.next ((a6.Terms.getD i2.toNat default).V,(Bh (i2+1))))))) else(some (.done (.inl ()))))
def KW(Γ:G0)(a6:Az)(r:Bool):Exit->St->Prop:=fK Tryz.prog Γ Tryz.f67.results.toList [] (.bool r) []
def lc(a6:Az)(i2:Int)(i1:Int):=(bif (decide (((a6.Terms.getD i2.toNat default).V:Int)<=i1)) then true else(decide ((1023:Int)<(a6.Terms.getD i2.toNat default).V)))
def Fm(a6:Az):Option Bool:=
 ((Ag (Hv a6) ((0:Int),(0:Int))).bind (λx4=>(match x4 with|(.inl _)=>(some true)|(.inr r6)=>(some r6))))
variable{v35:Az}
theorem H8(h:Fm v35=some v5):sP 67 [(Od v35)] [] (.bool v5) []:=
 sG Tryz.func67 λΓ q=>tW q [1] [1] Sc [1] (Ak q NK [] (tL q h NK [] (λu (i1,i2)=>(Fg u [(3,(Z6 i1)),(9,(Z6 i2))] [])) (λu x_=>match x_ with|(.inl _)=>aG Γ (.exit 0) (⟨[],[],[]⟩:St)|(.inr r_)=>aR (KW Γ v35 r_)) (λ⟨i1,i2⟩ y h=>Ak q [3,7,8,9,10] [] (gC h (λh=>tV q [3,5,7,8,9] [5] h λh=>tU q [5,7,8,9,26] [5] (Xe ((decide (((v35.Terms.getD i2.toNat default).V:Int)<=i1))==false) (ci (S5 (decide (((v35.Terms.getD i2.toNat default).V:Int)<=i1))) (Xe ((lc v35 i2 i1)==false) (c1 (S5 (lc v35 i2 i1)))))) (gC h (λh=>Ak q [2] [] (tS h (gO (Sx (Kk [] (Le.refl _ _)))))) λh=>tW q NK [] NK [] (tN h))) λh=>tS h (gO (Dq (Dh [] [] q))))) λx4 h=>(match x4,h with | .inl _,h=>gA (Ak q [2] [] (tS h (Ce []))) | .inr r6,h=>Xd (λst' hk=>tS h (gK hk)))))
def Jt(aH:Int)(aI:Int):Option Int:=
 (some (E1 (aH+aI)))
variable{v20:Int}
theorem Pw(h:Jt v1 v2=some v20):sP 126 [(Ld v1),(Ld v2)] [] (.int .u64 v20) []:=
 sG Tryz.func126 λΓ q=>tW q G3 [] [4] [] (tS h (Ce []))
def Cs(aY:List Aw):Option Int:=
 (bif ((aY.length:Int)==0) then(some (1024:Int)) else(Ch (Bt (0:Int) aY.length) (some ((aY.getD (0:Int).toNat (default:Aw)).V))))
variable{v36:List Aw}
theorem Fd(h:Cs v36=some v1):sP 68 [(AV.list 2 D2 default v36 .none)] [] (.int .i64 v1) []:=
 sG Tryz.func68 λΓ q=>tW q [0] [] [0,5] [] (gC h (λh=>Ak q [2] [] (tS h (Ce []))) λh=>tV q [2] [] h λh=>tS h (Ce []))
def C8(aY:List Aw)(a8:Int):Option (Int×List Aw):=
 ((Cs aY).bind λx1=>(bif (x1 !=a8) then(some ((0:Int),aY)) else(Ch (Bt (0:Int) aY.length) (Ch (0<=(1:Int)/\(1:Int)<=(aY.length:Int)) (some ((aY.getD (0:Int).toNat (default:Aw)).Scale,(aY.drop (1:Int).toNat)))))))
variable{v37:(Int×List Aw)}
theorem Gh(h:C8 v36 v1=some v37):sP 69 [(AV.list 2 D2 default v36 .none),(Z6 v1)] [] (.tuple [(Ld v37.1),(AV.list 2 D2 default v37.2 .none)]) []:=
 sG Tryz.func69 λΓ q=>gR q G3 [] [(5,fx)] [] (c1 (G4 2 D2 (default:Aw))) (tB h λx1 y1 h=>tT q [0,9] [] [(DH x1)] (c1 (Fd y1)) (gC h (λh=>Ak q Sd [] (tS h (Ce []))) λh=>tC h λc2_ h=>tC h λc3_ h=>gR q Sd [] [(16,(AV.list 2 D2 default (v36.drop (1:Int).toNat) .none))] [] (c3 c2_ c3_ (show(AVle (.slice 2 (v36.length-(1:Int).toNat) (λi=>D2 (v36.getD ((1:Int).toNat+i) default)) .none) (AV.list 2 D2 default (v36.drop (1:Int).toNat) .none)) from LM)) (tS h (Ce []))))
abbrev bJ:=(List Aw×List Aw×List Aw)
abbrev my:=(LR (List Aw×List Aw×List Aw) (List Aw))
def Nw :bJ->Option my:=
 λ((l4,l5,l6):bJ)=>(bif (bif (decide ((0:Int)<(l4.length:Int))) then true else(decide ((0:Int)<(l5.length:Int)))) then((Cs l4).bind λx8=>((Cs l5).bind λx9=>((C8 l4 (if x9<x8 then x9 else x8)).bind λx10=>((C8 l5 (if x9<x8 then x9 else x8)).bind λx11=>((Jt x10.1 x11.1).bind λx12=>(bif (x12 !=0) then(Ch (l6.length+([(⟨(if x9<x8 then x9 else x8),x12⟩:Aw)]:List Aw).length<=room) (some (.next (x10.2,x11.2,(l6++([(⟨(if x9<x8 then x9 else x8),x12⟩:Aw)]:List Aw)))))) else(some (.next (x10.2,x11.2,l6))))))))) else(some (.done l6)))
def lf(l4:List Aw):=(decide ((0:Int)<(l4.length:Int)))
def SM:AV:=fx
def fc(x9:Int)(x8:Int)(x12:Int):=([(⟨(if x9<x8 then x9 else x8),x12⟩:Aw)]:List Aw)
def ld(a6:Az)(a3:Az)(x3:Int):=((oi 126 a6.Terms a6.Off a3.Terms a3.Off x3):St)
def Mv(a6:Az)(a3:Az):Option Az:=
 ((Fm a6).bind λx1=>((bif ((!x1)==false) then Fm a3 else some false).bind λx2=>(bif (bif (!x1) then true else(!x2)) then(some (⟨([]:List Aw),(0:Int)⟩:Az)) else((Jt a6.Off a3.Off).bind λx3=>((Ag (S:=bJ) (X:=List Aw) Nw (a6.Terms,a3.Terms,([]:List Aw))).bind (λx14=>(some (⟨x14,x3⟩:Az))))))))
variable{v38:Az}{v39:Az}
theorem Zb(h:Mv v35 v38=some v39):sP 47 [(Od v35),(Od v38),(.clo 126 [] [])] [] (Od v39) []:=
 sG Tryz.func47 λΓ q=>Ak q [2,3,4,6] [3,4,6] (tB h λx1 y1 h=>tB h λx2 y2 h=>tT q VN [3,4,6] [(Z2 x1),(Z2 x2)] (c5 (H8 y1) (gI ((!x1)==false)) (λ(hg:((!x1)==false)=true)=>(H8 (Bo hg y2))) (gI ((!x1)==false)) (S5 (!x1))) (gC h (λh=>gR q [6] [6] [(20,(.agg [SM,V6]))] [] (c1 (show(AVle (.agg YJ) (.agg [SM,V6])) from(AVle.agg (.cons Ei (.cons (AVle.refl _) .nil))))) (Rz (⟨[NR],[(6,.row 57 [SM,V6])],[]⟩:St) (tS h (gK (e:=.ret) (Kk [] (show Le Γ _ (⟨[NR],[(6,.row 57 [j5,V6])],[]⟩:St) from Le.trans (Dh (st':=⟨[NR],[(6,.row 57 [SM,V6])],[]⟩) [6] [6] q) (Jh (.cons (AVle.refl _) .nil) (.row (.cons AVle.untag (.cons (AVle.refl _) .nil)) .nil)))))))) λh=>tB h λx3 y3 h=>gR q Lp NL [(27,(.agg [SM,(Ld x3)]))] [⟨[],[],(Ld x3),[],[],[]⟩] (c2 (Pw y3) (show(AVle (.agg [SR,(Ld x3)]) (.agg [SM,(Ld x3)])) from(AVle.agg (.cons Ei (.cons (AVle.refl _) .nil))))) (Mt (st':=(ld v35 v38 x3)) (Le.trans (Dh (st':=(oq 126 v35.Terms v35.Off v38.Terms v38.Off SM x3)) Lp NL q) (Le.trans (Md (r:=7) (j:=0) (nm:=5700) (sz':=2) (λi=>D2 (([]:List Aw).getD i default)) 134 rfl rfl (nl rfl) rfl (.inl ⟨rfl,rfl⟩) (λh_=>absurd h_ (by decide))) (Dh (st':=(ld v35 v38 x3)) Lp Og q))) (tL q h Lp Og (λu (l4,l5,l6)=>(Fg u [] [(3,.row 57 (Z8 l4 v35.Off)),(4,.row 57 (Z8 l5 v38.Off)),(lQ l6 x3),(5700,.tok 2 134 l6.length)])) (λu l7=>aG Γ (.exit 0) (Wl Qf NM u [] [(lQ l7 x3),(5700,.tok 2 134 l7.length)])) (λ⟨l4,l5,l6⟩ y h=>tU q fF Og (ZL ((lf l4)==false) (c1 (S5 (lf l4)))) (gC h (λh=>tB h λx8 y8 h=>tB h λx9 y9 h=>tT q KP Og [(DH x8),(DH x9)] (c2 (Fd y8) (Fd y9)) (Ak q KP Og (tB h λx10 y10 h=>tT q fE Og [(lO x10.1 x10.2)] (c1 (Gh y10)) (tB h λx11 y11 h=>tT q fA Og [(lO x11.1 x11.2)] (c1 (Gh y11)) (tB h λx12 y12 h=>tT q fC Og [⟨[],[],(Ld x12),[],[],[]⟩] (c1 (Pw y12)) (Ak q e9 Og (gC h (λh=>tC h λc13_ h=>gR q Lp Og (n5 (fc x9 x8 x12) l6) [] (c5 (Cf 2 D2 (default:Aw) (fc x9 x8 x12)) (Eq.refl l6.length) c13_ (Uf 2 5700 D2 (default:Aw) l6 (fc x9 x8 x12)) (Ia l6 (fc x9 x8 x12))) (tN h)) λh=>tS h (gN (Dh Lp Og q))))))))) λh=>tS h (gO (Dq (Dh Qf NM q))))) λx14 h=>gA (Ak q [6] [6,5700] (tS h (Ce [])))))))
def L5(a6:Az)(aS:Az):Option Az:=
 ((Mv a6 aS).bind λx1=>(some x1))
theorem EU(h:L5 v35 v38=some v39):sP 99 [(Od v35),(Od v38)] [] (Od v39) []:=
 sG Tryz.func99 λΓ q=>Ak q AG AG (tB h λx1 y1 h=>tT q [4] [4] [(jF x1)] (c1 (Zb y1)) (tS h (Ce [])))
def Iz(aH:Int)(aI:Int):Option Int:=
 (some (E1 (aH-aI)))
theorem O0(h:Iz v1 v2=some v20):sP 48 [(Ld v1),(Ld v2)] [] (.int .u64 v20) []:=
 sG Tryz.func48 λΓ q=>tW q G3 [] [4] [] (tS h (Ce []))
def Li :bJ->Option my:=
 λ((l4,l5,l6):bJ)=>(bif (bif (decide ((0:Int)<(l4.length:Int))) then true else(decide ((0:Int)<(l5.length:Int)))) then((Cs l4).bind λx8=>((Cs l5).bind λx9=>((C8 l4 (if x9<x8 then x9 else x8)).bind λx10=>((C8 l5 (if x9<x8 then x9 else x8)).bind λx11=>((Iz x10.1 x11.1).bind λx12=>(bif (x12 !=0) then(Ch (l6.length+([(⟨(if x9<x8 then x9 else x8),x12⟩:Aw)]:List Aw).length<=room) (some (.next (x10.2,x11.2,(l6++([(⟨(if x9<x8 then x9 else x8),x12⟩:Aw)]:List Aw)))))) else(some (.next (x10.2,x11.2,l6))))))))) else(some (.done l6)))
def lh(l4:List Aw):=(decide ((0:Int)<(l4.length:Int)))
def SN:AV:=fx
def fe(x9:Int)(x8:Int)(x12:Int):=([(⟨(if x9<x8 then x9 else x8),x12⟩:Aw)]:List Aw)
def lg(a6:Az)(a3:Az)(x3:Int):=((oi 48 a6.Terms a6.Off a3.Terms a3.Off x3):St)
def J2(a6:Az)(a3:Az):Option Az:=
 ((Fm a6).bind λx1=>((bif ((!x1)==false) then Fm a3 else some false).bind λx2=>(bif (bif (!x1) then true else(!x2)) then(some (⟨([]:List Aw),(0:Int)⟩:Az)) else((Iz a6.Off a3.Off).bind λx3=>((Ag (S:=bJ) (X:=List Aw) Li (a6.Terms,a3.Terms,([]:List Aw))).bind (λx14=>(some (⟨x14,x3⟩:Az))))))))
theorem U4(h:J2 v35 v38=some v39):sP 47 [(Od v35),(Od v38),(.clo 48 [] [])] [] (Od v39) []:=
 sG Tryz.func47 λΓ q=>Ak q [2,3,4,6] [3,4,6] (tB h λx1 y1 h=>tB h λx2 y2 h=>tT q VN [3,4,6] [(Z2 x1),(Z2 x2)] (c5 (H8 y1) (gI ((!x1)==false)) (λ(hg:((!x1)==false)=true)=>(H8 (Bo hg y2))) (gI ((!x1)==false)) (S5 (!x1))) (gC h (λh=>gR q [6] [6] [(20,(.agg [SN,V6]))] [] (c1 (show(AVle (.agg YJ) (.agg [SN,V6])) from(AVle.agg (.cons Ei (.cons (AVle.refl _) .nil))))) (Rz (⟨[NR],[(6,.row 57 [SN,V6])],[]⟩:St) (tS h (gK (e:=.ret) (Kk [] (show Le Γ _ (⟨[NR],[(6,.row 57 [j5,V6])],[]⟩:St) from Le.trans (Dh (st':=⟨[NR],[(6,.row 57 [SN,V6])],[]⟩) [6] [6] q) (Jh (.cons (AVle.refl _) .nil) (.row (.cons AVle.untag (.cons (AVle.refl _) .nil)) .nil)))))))) λh=>tB h λx3 y3 h=>gR q Lp NL [(27,(.agg [SN,(Ld x3)]))] [⟨[],[],(Ld x3),[],[],[]⟩] (c2 (O0 y3) (show(AVle (.agg [SR,(Ld x3)]) (.agg [SN,(Ld x3)])) from(AVle.agg (.cons Ei (.cons (AVle.refl _) .nil))))) (Mt (st':=(lg v35 v38 x3)) (Le.trans (Dh (st':=(oq 48 v35.Terms v35.Off v38.Terms v38.Off SN x3)) Lp NL q) (Le.trans (Md (r:=7) (j:=0) (nm:=5700) (sz':=2) (λi=>D2 (([]:List Aw).getD i default)) 134 rfl rfl (nl rfl) rfl (.inl ⟨rfl,rfl⟩) (λh_=>absurd h_ (by decide))) (Dh (st':=(lg v35 v38 x3)) Lp Og q))) (tL q h Lp Og (λu (l4,l5,l6)=>(Fg u [] [(3,.row 57 (Z8 l4 v35.Off)),(4,.row 57 (Z8 l5 v38.Off)),(lQ l6 x3),(5700,.tok 2 134 l6.length)])) (λu l7=>aG Γ (.exit 0) (Wl Qf NM u [] [(lQ l7 x3),(5700,.tok 2 134 l7.length)])) (λ⟨l4,l5,l6⟩ y h=>tU q fF Og (ZL ((lh l4)==false) (c1 (S5 (lh l4)))) (gC h (λh=>tB h λx8 y8 h=>tB h λx9 y9 h=>tT q KP Og [(DH x8),(DH x9)] (c2 (Fd y8) (Fd y9)) (Ak q KP Og (tB h λx10 y10 h=>tT q fE Og [(lO x10.1 x10.2)] (c1 (Gh y10)) (tB h λx11 y11 h=>tT q fA Og [(lO x11.1 x11.2)] (c1 (Gh y11)) (tB h λx12 y12 h=>tT q fC Og [⟨[],[],(Ld x12),[],[],[]⟩] (c1 (O0 y12)) (Ak q e9 Og (gC h (λh=>tC h λc13_ h=>gR q Lp Og (n5 (fe x9 x8 x12) l6) [] (c5 (Cf 2 D2 (default:Aw) (fe x9 x8 x12)) (Eq.refl l6.length) c13_ (Uf 2 5700 D2 (default:Aw) l6 (fe x9 x8 x12)) (Ia l6 (fe x9 x8 x12))) (tN h)) λh=>tS h (gN (Dh Lp Og q))))))))) λh=>tS h (gO (Dq (Dh Qf NM q))))) λx14 h=>gA (Ak q [6] [6,5700] (tS h (Ce [])))))))
def Ik(a6:Az)(aS:Az):Option Az:=
 ((J2 a6 aS).bind λx1=>(some x1))
theorem R0(h:Ik v35 v38=some v39):sP 26 [(Od v35),(Od v38)] [] (Od v39) []:=
 sG Tryz.func26 λΓ q=>Ak q AG AG (tB h λx1 y1 h=>tT q [4] [4] [(jF x1)] (c1 (U4 y1)) (tS h (Ce [])))
def Gl(a6:Az):Option Bool:=
 (some ((a6.Terms.length:Int)==0))
theorem J4(h:Gl v35=some v5):sP 100 [(Od v35)] [] (.bool v5) []:=
 sG Tryz.func100 λΓ q=>tW q [1] [1] [2] [] (tS h (Ce []))
def I4(aH:Int)(aaB:Int)(aa2:Int):Option Gc:=
 (some ((E1 (aH*aa2)),aa2))
variable{v19:Gc}
theorem O1(h:I4 v1 v2 v20=some v19):sP 127 [(Ld v1),(Ld v2),Yp] [(VZ v20)] (Ld v19.1) [(VZ v19.2)]:=
 sG Tryz.func127 λΓ q=>tW q [0,2] [30000] [5] [30000] (tS h (Ce RX))
abbrev lD:=(List Aw×List Aw×List Aw×Int)
def Lj :lD->Option (LR (List Aw×List Aw×List Aw×Int) (List Aw×Int)):=
 λ((l4,l5,l6,i7):lD)=>(bif (bif (decide ((0:Int)<(l4.length:Int))) then true else(decide ((0:Int)<(l5.length:Int)))) then((Cs l4).bind λx10=>((Cs l5).bind λx11=>((C8 l4 (if x11<x10 then x11 else x10)).bind λx12=>((C8 l5 (if x11<x10 then x11 else x10)).bind λx13=>((I4 x12.1 x13.1 i7).bind λx14=>(bif (x14.1 !=0) then(Ch (l6.length+([(⟨(if x11<x10 then x11 else x10),x14.1⟩:Aw)]:List Aw).length<=room) (some (.next (x12.2,x13.2,(l6++([(⟨(if x11<x10 then x11 else x10),x14.1⟩:Aw)]:List Aw)),x14.2)))) else(some (.next (x12.2,x13.2,l6,x14.2))))))))) else(some (.done (l6,i7))))
def lj(l4:List Aw):=(decide ((0:Int)<(l4.length:Int)))
def SO:AV:=fx
def ff(x11:Int)(x10:Int)(x14:Gc):=([(⟨(if x11<x10 then x11 else x10),x14.1⟩:Aw)]:List Aw)
def li(a6:Az)(a3:Az)(x3:Gc):=(⟨[(2,(.clo 127 [] [Yp])),(3,(.ptr 3 0)),YL,NR,(7,(.ptr 7 0))],[(3,.row 57 (Z8 a6.Terms a6.Off)),(4,.row 57 (Z8 a3.Terms a3.Off)),(6,.row 57 YJ),(7,.row 57 [(AV.list 2 D2 default ([]:List Aw) (.own 5700)),(Ld x3.1)]),(5700,.tok 2 134 (([]:List Aw).length)),(VZ x3.2)],[]⟩:St)
abbrev lE:=(Az×Int)
def J3(a6:Az)(a3:Az)(aa2:Int):Option lE:=
 ((Fm a6).bind λx1=>((bif ((!x1)==false) then Fm a3 else some false).bind λx2=>(bif (bif (!x1) then true else(!x2)) then(some ((⟨([]:List Aw),(0:Int)⟩:Az),aa2)) else((I4 a6.Off a3.Off aa2).bind λx3=>((Ag (S:=lD) (X:=(List Aw×Int)) Lj (a6.Terms,a3.Terms,([]:List Aw),x3.2)).bind (λ(l8,i9)=>(some ((⟨l8,x3.1⟩:Az),i9))))))))
variable{v40:lE}
theorem U5(h:J3 v35 v38 v1=some v40):sP 47 [(Od v35),(Od v38),(.clo 127 [] [Yp])] [(VZ v1)] (Od v40.1) [(VZ v40.2)]:=
 sG Tryz.func47 λΓ q=>Ak q [2,3,4,6] [3,4,6,30000] (tB h λx1 y1 h=>tB h λx2 y2 h=>tT q VN [3,4,6,30000] [(Z2 x1),(Z2 x2)] (c5 (H8 y1) (gI ((!x1)==false)) (λ(hg:((!x1)==false)=true)=>(H8 (Bo hg y2))) (gI ((!x1)==false)) (S5 (!x1))) (gC h (λh=>gR q [6] [6,30000] [(20,(.agg [SO,V6]))] [] (c1 (show(AVle (.agg YJ) (.agg [SO,V6])) from(AVle.agg (.cons Ei (.cons (AVle.refl _) .nil))))) (Rz (⟨[NR],[(6,.row 57 [SO,V6]),(VZ v1)],[]⟩:St) (tS h (gK (e:=.ret) (Kk RX (show Le Γ _ (⟨[NR],[(6,.row 57 [j5,V6]),(VZ v1)],[]⟩:St) from Le.trans (Dh (st':=⟨[NR],[(6,.row 57 [SO,V6]),(VZ v1)],[]⟩) [6] [6,30000] q) (Jh (.cons (AVle.refl _) .nil) (.row (.cons AVle.untag (.cons (AVle.refl _) .nil)) (.same .nil))))))))) λh=>tB h λx3 y3 h=>gR q Lp [3,4,6,7,30000] [(27,(.agg [SO,(Ld x3.1)]))] [⟨RX,[],(Ld x3.1),[(VZ x3.2)],[],[]⟩] (c2 (O1 y3) (show(AVle (.agg [SR,(Ld x3.1)]) (.agg [SO,(Ld x3.1)])) from(AVle.agg (.cons Ei (.cons (AVle.refl _) .nil))))) (Mt (st':=(li v35 v38 x3)) (Le.trans (Dh (st':=⟨[(2,(.clo 127 [] [Yp])),(3,(.ptr 3 0)),YL,NR,(7,(.ptr 7 0))],[(3,.row 57 (Z8 v35.Terms v35.Off)),(4,.row 57 (Z8 v38.Terms v38.Off)),(6,.row 57 YJ),(7,.row 57 [SO,(Ld x3.1)]),(VZ x3.2)],[]⟩) Lp [3,4,6,7,30000] q) (Le.trans (Md (r:=7) (j:=0) (nm:=5700) (sz':=2) (λi=>D2 (([]:List Aw).getD i default)) 134 rfl rfl (nl rfl) rfl (.inl ⟨rfl,rfl⟩) (λh_=>absurd h_ (by decide))) (Dh (st':=(li v35 v38 x3)) Lp Ua q))) (tL q h Lp Ua (λu (l4,l5,l6,i7)=>(Fg u [] [(3,.row 57 (Z8 l4 v35.Off)),(4,.row 57 (Z8 l5 v38.Off)),(lQ l6 x3.1),(5700,.tok 2 134 l6.length),(VZ i7)])) (λu (l8,i9)=>aG Γ (.exit 0) (Wl Qf [6,7,5700,30000] u [] [(lQ l8 x3.1),(5700,.tok 2 134 l8.length),(VZ i9)])) (λ⟨l4,l5,l6,i7⟩ y h=>tU q fF Ua (ZL ((lj l4)==false) (c1 (S5 (lj l4)))) (gC h (λh=>tB h λx10 y10 h=>tB h λx11 y11 h=>tT q KP Ua [(DH x10),(DH x11)] (c2 (Fd y10) (Fd y11)) (Ak q KP Ua (tB h λx12 y12 h=>tT q fE Ua [(lO x12.1 x12.2)] (c1 (Gh y12)) (tB h λx13 y13 h=>tT q fA Ua [(lO x13.1 x13.2)] (c1 (Gh y13)) (tB h λx14 y14 h=>tT q fC Ua [⟨RX,[],(Ld x14.1),[(VZ x14.2)],[],[]⟩] (c1 (O1 y14)) (Ak q e9 Ua (gC h (λh=>tC h λc15_ h=>gR q Lp Ua (n5 (ff x11 x10 x14) l6) [] (c5 (Cf 2 D2 (default:Aw) (ff x11 x10 x14)) (Eq.refl l6.length) c15_ (Uf 2 5700 D2 (default:Aw) l6 (ff x11 x10 x14)) (Ia l6 (ff x11 x10 x14))) (tN h)) λh=>tS h (gN (Dh Lp Ua q))))))))) λh=>tS h (gO (Dq (Dh Qf [6,7,5700,30000] q))))) λx16 h=>(match x16,h with|⟨l8,i9⟩,h=>gA (Ak q [6] [6,5700,30000] (tS h (Ce RX))))))))
def G7(a6:Az)(aO:Int):Option Az:=
 ((J3 a6 (⟨([]:List Aw),(0:Int)⟩:Az) aO).bind λx1=>(some x1.1))
theorem My(h:G7 v35 v1=some v38):sP 101 [(Od v35),(Ld v1)] [] (Od v38) []:=
 sG Tryz.func101 λΓ q=>Ak q AG AG (tB h λx1 y1 h=>gR q [4] [4] [(6,(.agg [fx,V6]))] [⟨[(3,30000)],[],(Od x1.1),[(VZ x1.2)],[],[]⟩] (c2 (show(AVle (.agg YJ) (.agg [fx,V6])) from(AVle.agg (.cons Ei (.cons (AVle.refl _) .nil)))) (U5 y1)) (tS h (Ce [])))
def fg:List AV:=[fx,V6]
def Jn(aP:Int)(aH:Az)(aI:Az):Option (Az×Bool):=
 (bif (aP==1) then((L5 aH aI).bind λx1=>(some (x1,true))) else(bif (aP==2) then((Ik aH aI).bind λx2=>(some (x2,true))) else((bif ((aP==3)==true) then Gl aI else some false).bind λx3=>(bif (bif (aP==3) then x3 else false) then((G7 aH aI.Off).bind λx4=>(some (x4,true))) else((bif ((aP==3)==true) then Gl aH else some false).bind λx5=>(bif (bif (aP==3) then x5 else false) then((G7 aI aH.Off).bind λx6=>(some (x6,true))) else((bif ((aP==8)==true) then Gl aI else some false).bind λx7=>(bif (bif (bif (aP==8) then x7 else false) then(decide (aI.Off<64)) else false) then(Ch (0<=aI.Off) ((G7 aH (UT .u64 (1:Int) aI.Off)).bind λx9=>(some (x9,true)))) else(some ((⟨([]:List Aw),(0:Int)⟩:Az),false))))))))))
variable{v41:(Az×Bool)}
theorem EV(h:Jn v1 v35 v38=some v41):sP 80 [(Z6 v1),(Od v35),(Od v38)] [] (.tuple [(Od v41.1),(.bool v41.2)]) []:=
 sG Tryz.func80 λΓ q=>tW q [0,4,5,6] AH [0,4,5,6,8] AH (gC h (λh=>tB h λx1 y1 h=>tT q Qf [6] [(jF x1)] (c1 (EU y1)) (tS h (Ce []))) λh=>Ak q [0,4,5,6,14] AH (gC h (λh=>tB h λx2 y2 h=>tT q Qf [6] [(jF x2)] (c1 (R0 y2)) (tS h (Ce []))) λh=>tB h λx3 y3 h=>tT q [0,4,5,6,20] AH [(Z2 x3)] (c3 (gI ((v1==3)==true)) (λ(hg:((v1==3)==true)=true)=>(J4 (Bo hg y3))) (Lr (v1==3))) (gC h (λh=>tB h λx4 y4 h=>tT q Qf [6] [(jF x4)] (c1 (My y4)) (tS h (Ce []))) λh=>tB h λx5 y5 h=>tT q [0,4,5,6,31] AH [(Z2 x5)] (c3 (gI ((v1==3)==true)) (λ(hg:((v1==3)==true)=true)=>(J4 (Bo hg y5))) (Lr (v1==3))) (gC h (λh=>tB h λx6 y6 h=>tT q Qf [6] [(jF x6)] (c1 (My y6)) (tS h (Ce []))) λh=>tB h λx7 y7 h=>tT q [4,5,6,42] AH [(Z2 x7)] (nQ (gI ((v1==8)==true)) (λ(hg:((v1==8)==true)=true)=>(J4 (Bo hg y7))) (Lr (v1==8)) (Xe ((bif (v1==8) then x7 else false)==true) (c1 (Lr (bif (v1==8) then x7 else false))))) (gC h (λh=>tC h λc8_ h=>tB h λx9 y9 h=>tT q Qf [6] [(jF x9)] (c2 c8_ (My y9)) (tS h (Ce []))) λh=>gR q Qf [6] [(59,(.agg fg))] [] (c1 (show(AVle (.agg YJ) (.agg fg)) from(AVle.agg (.cons Ei (.cons (AVle.refl _) .nil))))) (Rz (⟨[NR,(7,(.bool false))],[(6,.row 57 fg)],[]⟩:St) (tS h (gK (e:=.ret) (Kk [] (show Le Γ _ (⟨[NR,(7,(.bool false))],[(6,.row 57 [j5,V6])],[]⟩:St) from Le.trans (Dh (st':=⟨[NR,(7,(.bool false))],[(6,.row 57 fg)],[]⟩) Qf [6] q) (Jh (.cons (AVle.refl _) (.cons (AVle.refl _) .nil)) (.row (.cons AVle.untag (.cons (AVle.refl _) .nil)) .nil))))))))))))
def LB:=(λ(v_:Az)=>((Od v_):AV))
abbrev bK:=(List (Int×Az))
abbrev VH:=(Az×List (Int×Az))
abbrev eg:=(Az×Bool×List (Int×Az))
abbrev HZ:=(Int×Az)
def Bu(rec_affine_finder_form:Int->VG->bK->Option VH)(rec_affine_finder_sum:Int->VG->bK->Option eg)(a8:Int)(a1:List Zx)(a4:List HZ):Option VH:=
 (bif (Bz a4 a8) then(some ((mget (default:Az) a4 a8),a4)) else((rec_affine_finder_sum a8 a1 a4).bind λx1=>(Option.bind (α:=(List Aw×Int)) (bif (bif (!x1.2.1) then true else(decide ((16:Int)<(x1.1.Terms.length:Int)))) then(some (([(⟨a8,(1:Int)⟩:Aw)]:List Aw),(0:Int))) else(some (x1.1.Terms,x1.1.Off))) (λ(l2,i3)=>(some ((⟨l2,i3⟩:Az),(Em x1.2.2 a8 (⟨l2,i3⟩:Az))))))))
def LC(a1:List Zx)(a8:Int):=(mget (default:Cz) a1 a8)
def YE:=(λ(v_:Az)=>((Od v_):AV))
def NX(a1:List Zx):=(mapE (λ(v_:Cz)=>((Sr v_):AV)) a1)
def YD:AV:=fx
def ll(a1:List Zx)(a4:List HZ):=(⟨[YL,(5,(.bool false))],[(4,.row 57 [YD,V6]),SF,(bQ 9100000 (NX a1)),(9100001,.obj (.map true .i64 (mapE YE a4)))],[]⟩:St)
def lk(a1:List Zx)(a8:Int)(a4:List HZ):=(⟨[YL,(5,(.bool true))],[(4,.row 57 [YD,(.int .u64 (LC a1 a8).Imm)]),SF,(bQ 9100000 (NX a1)),(9100001,.obj (.map true .i64 (mapE YE a4)))],[]⟩:St)
def Ci(rec_affine_finder_form:Int->VG->bK->Option VH)(rec_affine_finder_sum:Int->VG->bK->Option eg)(a8:Int)(a1:List Zx)(a4:List HZ):Option eg:=
 (bif (!(Bz a1 a8)) then(some ((⟨([]:List Aw),(0:Int)⟩:Az),false,a4)) else(bif (((mget (default:Cz) a1 a8).Kind:Int)==0) then(some ((⟨([]:List Aw),(mget (default:Cz) a1 a8).Imm⟩:Az),true,a4)) else(Ch (Bt (0:Int) ((mget (default:Cz) a1 a8).Args).length) ((rec_affine_finder_form (((mget (default:Cz) a1 a8).Args).getD (0:Int).toNat (0:Int)) a1 a4).bind λx2=>(Ch (Bt (1:Int) ((mget (default:Cz) a1 a8).Args).length) ((rec_affine_finder_form (((mget (default:Cz) a1 a8).Args).getD (1:Int).toNat (0:Int)) a1 x2.2).bind λx4=>((Jn ((mget (default:Cz) a1 a8).Kind) x2.1 x4.1).bind λx5=>(some (x5.1,x5.2,x4.2)))))))))
mutual
def Bg:Nat->Int->VG->bK->Option VH
 | 0=>λ_=>λ_=>λ_=>none
 | n+1=>Bu (Bg n) (B0 n)
def B0:Nat->Int->VG->bK->Option eg
 | 0=>λ_=>λ_=>λ_=>none
 | n+1=>Ci (Bg n) (B0 n)
end
def Gk(a8:Int)(a1:List Zx)(a4:List HZ):Option VH:=cn λn=>Bg n a8 a1 a4
theorem Re(n:Nat):(∀(a8:Int) (a1:List Zx) (a4:List HZ) (r:VH),Bg n a8 a1 a4=some r->sP 46 [Yp,(Z6 a8)] [SF,(9100000,.obj (.map true .i64 (mapE (λ(v_:Cz)=>((Sr v_):AV)) a1))),(9100001,.obj (.map true .i64 (mapE (λ(v_:Az)=>((Od v_):AV)) a4)))] (Od r.1) [SF,(9100000,.obj (.map true .i64 (mapE (λ(v_:Cz)=>((Sr v_):AV)) a1))),(9100001,.obj (.map true .i64 (mapE (λ(v_:Az)=>((Od v_):AV)) r.2)))])/\(∀(a8:Int) (a1:List Zx) (a4:List HZ) (r:eg),B0 n a8 a1 a4=some r->sP 66 [Yp,(Z6 a8)] [SF,(9100000,.obj (.map true .i64 (mapE (λ(v_:Cz)=>((Sr v_):AV)) a1))),(9100001,.obj (.map true .i64 (mapE (λ(v_:Az)=>((Od v_):AV)) a4)))] (.tuple [(Od r.1),(.bool r.2.1)]) [SF,(9100000,.obj (.map true .i64 (mapE (λ(v_:Cz)=>((Sr v_):AV)) a1))),(9100001,.obj (.map true .i64 (mapE (λ(v_:Az)=>((Od v_):AV)) r.2.2)))]):=by
 induction n with
 | zero=>exact⟨(λa8 a1 a4 r h=>by cases h),(λa8 a1 a4 r h=>by cases h)⟩
 | succ n ih=>
  obtain⟨ih_affine_finder_form,ih_affine_finder_sum⟩:=ih;refine⟨?_,?_⟩
  ·intro a8 a1 a4 r h;refine Zr mix Tryz.func46 (λΓ hq=>?_);change Bu (Bg n) (B0 n) a8 a1 a4=some r at h;unfold Bu at h;refine Ak hq [0,1,4] Yn ?_;refine gR hq [0,1,4,5,6] jp [(15,(.tuple [(.agg (TK (mget (default:Az) a4 a8))),(.bool (Bz a4 a8))]))] [] (c1 (show(AVle (.tuple [mget (.agg [(.slice 0 0 (λ_=>[]) .none),V6]) (mapE LB a4) a8,.bool (Bz (mapE LB a4) a8)]) (.tuple [(.agg (TK (mget (default:Az) a4 a8))),(.bool (Bz a4 a8))])) from(Xq (f:=LB) (l:=a4) (AVle.agg (.cons WF (.cons (AVle.refl _) .nil))) rfl))) ?_;refine Ak hq [0,1,4,5,18] jp ?_;refine gC h ?_ ?_<;>intro h
   ·refine Ak hq [4] Yn ?_;cases h;exact Ce RV
   ·obtain⟨x1,hx1,h⟩:=bind_some h;refine gR hq [0,1,4,7,8] KL [] [⟨RV,[],(.tuple [(Od x1.1),(.bool x1.2.1)]),[SF,(9100000,.obj (.map true .i64 (mapE (λ(v_:Cz)=>((Sr v_):AV)) a1))),(9100001,.obj (.map true .i64 (mapE LB x1.2.2)))],[],[]⟩] (c1 (ih_affine_finder_sum a8 a1 a4 x1 hx1)) ?_;obtain⟨x4,hx4,h⟩:=bind_some h;refine gJ hx4 (λ(l2,i3)=>aG Γ .normal (⟨[(0,Yp),(1,(Z6 a8)),YL,(7,(.ptr 7 0))],[(4,.row 57 YJ),(7,.row 57 (Z8 l2 i3)),SF,(9100000,.obj (.map true .i64 (mapE (λ(v_:Cz)=>((Sr v_):AV)) a1))),(9100001,.obj (.map true .i64 (mapE LB x1.2.2)))],[]⟩:St)) ?_ ?_
    ·clear h hx4;intro y h;refine gR hq [0,1,4,7,33] KL [] [] (ci (gI ((!x1.2.1)==false)) (ci (gI ((!x1.2.1)==false)) (ci (gI ((!x1.2.1)==false)) (c1 (S5 (!x1.2.1)))))) ?_;refine gC h ?_ ?_<;>intro h
     ·refine gR hq [0,1,4,7] KL [(36,(AV.list 2 D2 default ([(⟨a8,(1:Int)⟩:Aw)]:List Aw) .exact))] [] (c1 (Cf 2 D2 (default:Aw) ([(⟨a8,(1:Int)⟩:Aw)]:List Aw))) ?_;cases h;exact gK (Dq (Le.trans (Dh (st':=⟨[(0,Yp),(1,(Z6 a8)),YL,(7,(.ptr 7 0))],[(4,.row 57 YJ),(7,.row 57 [(AV.list 2 D2 default ([(⟨a8,(1:Int)⟩:Aw)]:List Aw) .exact),V6]),SF,(9100000,.obj (.map true .i64 (mapE (λ(v_:Cz)=>((Sr v_):AV)) a1))),(9100001,.obj (.map true .i64 (mapE LB x1.2.2)))],[]⟩) [0,1,4,7] KL hq) (Jh (.cons (AVle.refl _) (.cons (AVle.refl _) (.cons (AVle.refl _) (.cons (AVle.refl _) .nil)))) (.same (.row (.cons AVle.untag (.cons (AVle.refl _) .nil)) (.same (.same (.same .nil))))))))
     ·cases h;exact gK (Dq (Dh [0,1,4,7] KL hq))
    ·clear hx4;rcases x4 with⟨l2,i3⟩;refine gA ?_;refine Ak hq [4,7] KL ?_;refine Mt (S9 (λ(k_:List HY) u=>Fg u [] [(bQ 9100001 k_)]) (show(Em (mapE LB x1.2.2) a8 (.agg (Z8 l2 i3)))=(mapE LB (Em x1.2.2 a8 (⟨l2,i3⟩:Az))) from(Xr (f:=LB) (l:=x1.2.2) (v:=(⟨l2,i3⟩:Az)) rfl rfl))) ?_;refine Ak hq [4] Yn ?_;cases h;exact Ce RV
  ·intro a8 a1 a4 r h;refine Zr mix Tryz.func66 (λΓ hq=>?_);change Ci (Bg n) (B0 n) a8 a1 a4=some r at h;unfold Ci at h;refine Ak hq [0,1,4] Yn ?_;refine gR hq [0,4,6,7] e7 [(14,(.tuple [(Sr (LC a1 a8)),(.bool (Bz a1 a8))]))] [] (c1 (show(AVle (.tuple [mget (.agg [Mr,Mr,Mr,Mr,(.slice 0 0 (λ_=>[]) .none),V6]) (NX a1) a8,.bool (Bz (NX a1) a8)]) (.tuple [(Sr (LC a1 a8)),(.bool (Bz a1 a8))])) from(Xq (f:=(λ(v_:Cz)=>((Sr v_):AV))) (l:=a1) (AVle.agg (.cons (AVle.refl _) (.cons (AVle.refl _) (.cons (AVle.refl _) (.cons (AVle.refl _) (.cons WF (.cons (AVle.refl _) .nil))))))) rfl))) ?_;refine Ak hq [0,4,6,17] e7 ?_;refine gC h ?_ ?_<;>intro h
   ·refine gR hq Sd Yn [(20,(.agg [YD,V6]))] [] (c1 (show(AVle (.agg YJ) (.agg [YD,V6])) from(AVle.agg (.cons Ei (.cons (AVle.refl _) .nil))))) ?_;refine Rz (ll a1 a4) ?_;cases h;exact gK (e:=.ret) (Kk RV (show Le Γ _ (⟨[YL,(5,(.bool false))],[(4,.row 57 [j5,V6]),SF,(bQ 9100000 (NX a1)),(9100001,.obj (.map true .i64 (mapE YE a4)))],[]⟩:St) from Le.trans (Dh (st':=(ll a1 a4)) Sd Yn hq) (Jh (.cons (AVle.refl _) (.cons (AVle.refl _) .nil)) (.row (.cons AVle.untag (.cons (AVle.refl _) .nil)) (.same (.same (.same .nil)))))))
   ·refine Ak hq [0,4,6,21] e7 ?_;refine gC h ?_ ?_<;>intro h
    ·refine gR hq Sd Yn [(27,(.agg [YD,(.int .u64 (LC a1 a8).Imm)]))] [] (c1 (show(AVle (.agg [SR,(.int .u64 (LC a1 a8).Imm)]) (.agg [YD,(.int .u64 (LC a1 a8).Imm)])) from(AVle.agg (.cons Ei (.cons (AVle.refl _) .nil))))) ?_;refine Rz (lk a1 a8 a4) ?_;cases h;exact gK (e:=.ret) (Kk RV (show Le Γ _ (⟨[YL,(5,(.bool true))],[(4,.row 57 [j5,(.int .u64 (LC a1 a8).Imm)]),SF,(bQ 9100000 (NX a1)),(9100001,.obj (.map true .i64 (mapE YE a4)))],[]⟩:St) from Le.trans (Dh (st':=(lk a1 a8 a4)) Sd Yn hq) (Jh (.cons (AVle.refl _) (.cons (AVle.refl _) .nil)) (.row (.cons AVle.untag (.cons (AVle.refl _) .nil)) (.same (.same (.same .nil)))))))
    ·obtain⟨hc1,h⟩:=Nr h;obtain⟨x2,hx2,h⟩:=bind_some h;obtain⟨hc3,h⟩:=Nr h;obtain⟨x4,hx4,h⟩:=bind_some h;obtain⟨x5,hx5,h⟩:=bind_some h;refine gR hq Sd Yn [] [⟨RV,[],(Od x2.1),[SF,(bQ 9100000 (NX a1)),(9100001,.obj (.map true .i64 (mapE YE x2.2)))],[],[]⟩,⟨RV,[],(Od x4.1),[SF,(bQ 9100000 (NX a1)),(9100001,.obj (.map true .i64 (mapE YE x4.2)))],[],[]⟩,⟨[],[],(.tuple [(Od x5.1),(.bool x5.2)]),[],[],[]⟩] (ci hc1 (ci (ih_affine_finder_form (((LC a1 a8).Args).getD (0:Int).toNat (0:Int)) a1 a4 x2 hx2) (ci hc3 (ci (ih_affine_finder_form (((LC a1 a8).Args).getD (1:Int).toNat (0:Int)) a1 x2.2 x4 hx4) (c1 (EV hx5)))))) ?_;cases h;exact Ce RV
variable{v42:List HZ}{v43:VH}
theorem Si(h:Gk v1 v34 v42=some v43):sP 46 [Yp,(Z6 v1)] [SF,(9100000,.obj (.map true .i64 (mapE (λ(v_:Cz)=>((Sr v_):AV)) v34))),(9100001,.obj (.map true .i64 (mapE (λ(v_:Az)=>((Od v_):AV)) v42)))] (Od v43.1) [SF,(9100000,.obj (.map true .i64 (mapE (λ(v_:Cz)=>((Sr v_):AV)) v34))),(9100001,.obj (.map true .i64 (mapE (λ(v_:Az)=>((Od v_):AV)) v43.2)))]:=by
 obtain⟨n,hn⟩:=ZJ h;exact(Re n).1 v1 v34 v42 v43 hn
def fh:List AV:=[fx,V6]
def Hh(a0:TFunc)(a8:Int):Option lE:=
 ((Kr a0).bind λx1=>(bif (!((((mget ((0:Int),(0:Int)) x1 a8).1:Int)==64)&&((((mget ((0:Int),(0:Int)) x1 a8).2:Int)==1)&&true))) then(some ((⟨([]:List Aw),(0:Int)⟩:Az),(10:Int))) else((L6 a0).bind λx2=>((Gk a8 x2 ([]:List HZ)).bind λx3=>(some (x3.1,(0:Int)))))))
theorem Xu(h:Hh v0 v1=some v40):sP 25 [(LI v0),(Z6 v1)] [] (.tuple [(Od v40.1),(Z6 v40.2)]) []:=
 sG Tryz.func25 λΓ q=>Ak q [1,2,4] [2,4] (tB h λx1 y1 h=>gR q [1,2,4,12] [2,4] [(10,(.agg (Bs (mget ((0:Int),(0:Int)) x1 v1))))] [⟨[],[(20000,8)],(.omap 20000),[(20000,.obj (.pmap false .i64 (mapE (λ(v_:Gc)=>((DI v_):AV)) x1)))],[],[]⟩] (c2 (BX y1) (show(AVle (mget (.agg [Mr,Mr]) (mapE (λ(v_:Gc)=>((DI v_):AV)) x1) v1) (.agg (Bs (mget ((0:Int),(0:Int)) x1 v1)))) from(CT (f:=(λ(v_:Gc)=>((DI v_):AV))) (l:=x1) (AVle.refl _) rfl))) (gC h (λh=>gR q Sd [4] [(13,(.agg fh))] [] (c1 (show(AVle (.agg YJ) (.agg fh)) from(AVle.agg (.cons Ei (.cons (AVle.refl _) .nil))))) (Rz (⟨[YL,(5,(LH 10))],[(4,.row 57 fh)],[]⟩:St) (tS h (gK (e:=.ret) (Kk [] (show Le Γ _ (⟨[YL,(5,(LH 10))],[(4,.row 57 [j5,V6])],[]⟩:St) from Le.trans (Dh (st':=⟨[YL,(5,(LH 10))],[(4,.row 57 fh)],[]⟩) Sd [4] q) (Jh (.cons (AVle.refl _) (.cons (AVle.refl _) .nil)) (.row (.cons AVle.untag (.cons (AVle.refl _) .nil)) .nil)))))))) λh=>tB h λx2 y2 h=>tT q [1,4,6] [4,6,15,16] [⟨[],[(20000,15)],(.omap 20000),[(20000,.obj (.map true .i64 (mapE (λ(v_:Cz)=>((Sr v_):AV)) x2)))],[],[]⟩] (c1 (EW y2)) (Mt (S9 (λ(k_:List HY) u=>Fg u [] [(bQ 16 k_)]) (show[]=(mapE (λ(v_:Az)=>((Od v_):AV)) ([]:List HZ)) from rfl)) (tB h λx3 y3 h=>tT q Sd [4] [⟨[(6,30000),(15,9100000),(16,9100001)],[],(Od x3.1),[SF,(9100000,.obj (.map true .i64 (mapE (λ(v_:Cz)=>((Sr v_):AV)) x2))),(9100001,.obj (.map true .i64 (mapE (λ(v_:Az)=>((Od v_):AV)) x3.2)))],[],[]⟩] (c1 (Si y3)) (tS h (Ce []))))))
abbrev Yd:=(Int×Bool)
def Cv(a0:TFunc)(aA:Int)(aH:Int)(aI:Int):Option Yd:=
 ((C1 a0 aA aH).bind λx1=>((Dx x1).bind λx2=>((Hh a0 x2).bind λx3=>(bif (x3.2 !=0) then(some ((0:Int),false)) else((C1 a0 aA aI).bind λx4=>((Dx x4).bind λx5=>((Hh a0 x5).bind λx6=>(bif (x6.2 !=0) then(some ((0:Int),false)) else((Ik x6.1 x3.1).bind λx7=>(bif (decide ((0:Int)<(x7.Terms.length:Int))) then(some ((0:Int),false)) else(some (x7.Off,true))))))))))))
variable{v44:Yd}
theorem E9(h:Cv v0 v1 v2 v20=some v44):sP 11 [(LI v0),(Z6 v1),(Z6 v2),(Z6 v20)] [] (.tuple [(Ld v44.1),(.bool v44.2)]) []:=
 sG Tryz.func11 λΓ q=>Ak q NN [4] (tB h λx1 y1 h=>tB h λx2 y2 h=>tB h λx3 y3 h=>tT q [1,3,4,10,11] [4,10] [⟨[],[],(Sr x1),[],[],[]⟩,(DH x2),⟨[],[],(.tuple [(Od x3.1),(Z6 x3.2)]),[],[],[]⟩] (c3 (J5 y1) (Ja y2) (Xu y3)) (Ak q [1,3,4,10,25] [4,10] (gC h (λh=>Ak q [8,9] [] (tS h (Ce []))) λh=>tB h λx4 y4 h=>tB h λx5 y5 h=>tB h λx6 y6 h=>tT q [10,11,12] [10,12] [⟨[],[],(Sr x4),[],[],[]⟩,(DH x5),⟨[],[],(.tuple [(Od x6.1),(Z6 x6.2)]),[],[],[]⟩] (c3 (J5 y4) (Ja y5) (Xu y6)) (Ak q [10,12,37] [10,12] (gC h (λh=>Ak q [8,9] [] (tS h (Ce []))) λh=>tB h λx7 y7 h=>tT q [13] [13] [(jF x7)] (c1 (R0 y7)) (Ak q [13,44] [13] (gC h (λh=>Ak q [8,9] [] (tS h (Ce []))) λh=>Ak q [8,9] [] (tS h (Ce [])))))))))
def Ot(aa6:Int)(aa7:Int)(aaB:Int):Option Bool:=
 (some (aa6==aa7))
theorem Wh(h:Ot v1 v2 v20=some v5):sP 32 [(Ld v1),(Ld v2),(Ld v20)] [] (.bool v5) []:=
 sG Tryz.func32 λΓ q=>tW q G3 [] [6] [] (tS h (Ce []))
def Qx(a0:TFunc)(aA:Int)(aH:Int)(aI:Int):Option Bool:=
 ((Cv a0 aA aH aI).bind λx1=>(bif (!x1.2) then(some false) else(Ch (Bt aA a0.Blocks.length) (Ch (Bt aH ((a0.Blocks.getD aA.toNat default).Ops).length) ((E0 (((a0.Blocks.getD aA.toNat default).Ops).getD aH.toNat default)).bind λx4=>(Ch (Bt aI ((a0.Blocks.getD aA.toNat default).Ops).length) ((E0 (((a0.Blocks.getD aA.toNat default).Ops).getD aI.toNat default)).bind λx6=>((Ot x1.1 (E1 x4) (E1 x6)).bind λx7=>(some x7)))))))))
theorem HI(h:Qx v0 v1 v2 v20=some v5):sP 30 [(LI v0),(Z6 v1),(Z6 v2),(Z6 v20),(.clo 32 [] [])] [] (.bool v5) []:=
 sG Tryz.func30 λΓ q=>Ak q [1,2,3,4,5] [5] (tB h λx1 y1 h=>tT q [1,2,3,4,5,11,12] [5] [(lP x1.1 x1.2)] (c1 (E9 y1)) (Ak q [1,2,3,4,5,11,23] [5] (gC h (λh=>Ak q [10] [] (tS h (Ce []))) λh=>tV q [2,3,4,11,13] [] h λh=>tC h λc3_ h=>tB h λx4 y4 h=>tC h λc5_ h=>tB h λx6 y6 h=>tB h λx7 y7 h=>tT q [10] [] [(DH x4),(DH x6),(Z2 x7)] (c5 c3_ (H0 y4) c5_ (H0 y6) (Wh y7)) (tS h (Ce [])))))
def Ef(a0:TFunc)(aA:Int)(aH:Int)(aI:Int):Option Bool:=
 ((Qx a0 aA aH aI).bind λx1=>(some x1))
theorem I9(h:Ef v0 v1 v2 v20=some v5):sP 15 [(LI v0),(Z6 v1),(Z6 v2),(Z6 v20)] [] (.bool v5) []:=
 sG Tryz.func15 λΓ q=>Ak q NN [4] (tB h λx1 y1 h=>tT q [8] [] [(Z2 x1)] (c1 (HI y1)) (tS h (Ce [])))
def Mw(aa6:Int)(aa7:Int)(aaE:Int):Option Bool:=
 (some (bif (decide (aa7<=aa6)) then(decide (aaE<=(E1 (0-aa6)))) else false))
theorem Zc(h:Mw v1 v2 v20=some v5):sP 31 [(Ld v1),(Ld v2),(Ld v20)] [] (.bool v5) []:=
 sG Tryz.func31 λΓ q=>Ak q GR [] (tU q [6] [] (ZL ((decide (v2<=v1))==true) (c1 (Lr (decide (v2<=v1))))) (tS h (Ce [])))
def Mx(a0:TFunc)(aA:Int)(aH:Int)(aI:Int):Option Bool:=
 ((Cv a0 aA aH aI).bind λx1=>(bif (!x1.2) then(some false) else(Ch (Bt aA a0.Blocks.length) (Ch (Bt aH ((a0.Blocks.getD aA.toNat default).Ops).length) ((E0 (((a0.Blocks.getD aA.toNat default).Ops).getD aH.toNat default)).bind λx4=>(Ch (Bt aI ((a0.Blocks.getD aA.toNat default).Ops).length) ((E0 (((a0.Blocks.getD aA.toNat default).Ops).getD aI.toNat default)).bind λx6=>((Mw x1.1 (E1 x4) (E1 x6)).bind λx7=>(some x7)))))))))
theorem Ze(h:Mx v0 v1 v2 v20=some v5):sP 30 [(LI v0),(Z6 v1),(Z6 v2),(Z6 v20),(.clo 31 [] [])] [] (.bool v5) []:=
 sG Tryz.func30 λΓ q=>Ak q [1,2,3,4,5] [5] (tB h λx1 y1 h=>tT q [1,2,3,4,5,11,12] [5] [(lP x1.1 x1.2)] (c1 (E9 y1)) (Ak q [1,2,3,4,5,11,23] [5] (gC h (λh=>Ak q [10] [] (tS h (Ce []))) λh=>tV q [2,3,4,11,13] [] h λh=>tC h λc3_ h=>tB h λx4 y4 h=>tC h λc5_ h=>tB h λx6 y6 h=>tB h λx7 y7 h=>tT q [10] [] [(DH x4),(DH x6),(Z2 x7)] (c5 c3_ (H0 y4) c5_ (H0 y6) (Zc y7)) (tS h (Ce [])))))
def Fq(a0:TFunc)(aA:Int)(aH:Int)(aI:Int):Option Bool:=
 ((Mx a0 aA aH aI).bind λx1=>(some x1))
theorem K4(h:Fq v0 v1 v2 v20=some v5):sP 13 [(LI v0),(Z6 v1),(Z6 v2),(Z6 v20)] [] (.bool v5) []:=
 sG Tryz.func13 λΓ q=>Ak q NN [4] (tB h λx1 y1 h=>tT q [8] [] [(Z2 x1)] (c1 (Ze y1)) (tS h (Ce [])))
def Hm(a0:TFunc)(aA:Int):(As×Int)->Option (LR (As×Int) As):=
 λ((l3,i4):(As×Int))=>(bif (decide (i4<(((a0.Blocks.getD aA.toNat default).Ops).length:Int))) then(Option.bind (α:=As) (Ch (Bt i4 ((a0.Blocks.getD aA.toNat default).Ops).length) ((Dx (((a0.Blocks.getD aA.toNat default).Ops).getD i4.toNat default)).bind λx8=>(bif (x8 !=0) then(Ch (l3.length+([i4]:As).length<=room) (some (l3++([i4]:As)))) else(some l3)))) (λx10=>(some (.next (x10,(Bh (i4+1))))))) else(some (.done l3)))
def YG:AV:=bP
def nU(aA:Int):=((decide (aA<0))==false)
def YF(a0:TFunc)(aA:Int):=(a0.Blocks.getD aA.toNat default)
def fi(aA:Int)(a0:TFunc):=(bif (decide (aA<0)) then true else(decide ((a0.Blocks.length:Int)<=aA)))
def lm:=(Z38:St)
def ln(a0:TFunc)(aA:Int):=(⟨[(5,(AV.list 1 Ar 0 ([]:As) (.own 5005))),(27,(AV.list 6 Yx default (YF a0 aA).Ops .none)),(28,(.int .i64 (((YF a0 aA).Ops).length:Int))),(29,Mr)],[(5005,.tok 1 3 (([]:As).length))],[]⟩:St)
def Ju(a0:TFunc)(aA:Int):Option As:=
 ((bif ((bif (decide (aA<0)) then true else(decide ((a0.Blocks.length:Int)<=aA)))==false) then Hw a0 else some false).bind λx1=>(bif (bif (bif (decide (aA<0)) then true else(decide ((a0.Blocks.length:Int)<=aA))) then true else(!x1)) then(some ([]:As)) else(Ch (Bt aA a0.Blocks.length) ((Ag (Hm a0 aA) (([]:As),(0:Int))).bind (λx12=>(some x12))))))
variable{v4:As}
theorem Zd(h:Ju v0 v1=some v4):sP 17 [(LI v0),(Z6 v1)] [] (IB v4 20000) [(20000,.tok 1 3 v4.length)]:=
 sG Tryz.func17 λΓ q=>gR q V3 [2] [(4,YG)] [] (c1 (G4 1 Ar (0:Int))) (tB h λx1 y1 h=>tT q [1,2,21] [2] [(Z2 x1)] (kT (nU v1) (c5 (S5 (decide (v1<0))) (gI ((fi v1 v0)==false)) (λ(hg:((fi v1 v0)==false)=true)=>(Py (Bo hg y1))) (gI ((fi v1 v0)==false)) (S5 (fi v1 v0)))) (gC h (λh=>gR q [4] [] [(4,YG)] [] (c1 (G4 1 Ar (0:Int))) (Rz (⟨[(4,YG)],[],[]⟩:St) (tS h (gK (e:=.ret) (Kk VP (show Le Γ _ lm from Le.trans (Dh (st':=⟨[(4,YG)],[],[]⟩) [4] [] q) (Le.trans (ME (t:=4) (nm:=6004) (sz':=1) (λi=>Ar (([]:As).getD i 0)) 3 rfl rfl (.inl ⟨rfl,rfl⟩) (λh_=>absurd h_ (by decide))) (Dh (st':=lm) [4] [6004] q)))))))) λh=>gR q GV [2] [(5,YG)] [] (c1 (G4 1 Ar (0:Int))) (tV q GT [] h λh=>Mt (st':=(ln v0 v1)) (Le.trans (Dh (st':=⟨[(5,YG),(27,(AV.list 6 Yx default (YF v0 v1).Ops .none)),(28,(.int .i64 (((YF v0 v1).Ops).length:Int))),(29,Mr)],[],[]⟩) GT [] q) (Le.trans (ME (t:=5) (nm:=5005) (sz':=1) (λi=>Ar (([]:As).getD i 0)) 3 rfl rfl (.inl ⟨rfl,rfl⟩) (λh_=>absurd h_ (by decide))) (Dh (st':=(ln v0 v1)) GT [5005] q))) (tL q h GT [5005] (λu (l3,i4)=>(Fg u [(5,(IB l3 5005)),(29,(Z6 i4))] [(5005,.tok 1 3 l3.length)])) (λu l5=>aG Γ (.exit 0) (⟨[(5,(IB l5 5005))],[(5005,.tok 1 3 l5.length)],[]⟩:St)) (λ⟨l3,i4⟩ y h=>Ak q [5,27,28,29,30] [5005] (gC h (λh=>tB h λx10 y10 h=>gJ y10 (λl6=>aG Γ .normal (⟨[(5,(IB l6 5005)),(27,(AV.list 6 Yx default (YF v0 v1).Ops .none)),(28,(.int .i64 (((YF v0 v1).Ops).length:Int))),(29,(Z6 i4))],[(5005,.tok 1 3 l6.length)],[]⟩:St)) (λy h=>tV q [5,6,7,27,28,29] [7,5005] h λh=>tB h λx8 y8 h=>tT q [5,6,27,28,29,36] [5005] [(DH x8)] (c1 (Ja y8)) (gC h (λh=>tC h λc9_ h=>gR q GT [5005] [(39,(j6 i4)),(40,(AV.list 1 Ar 0 (l3++([i4]:As)) (.own 5005)))] [] (c5 (Cf 1 Ar (0:Int) ([i4]:As)) (Eq.refl l3.length) c9_ (Uf 1 5005 Ar (0:Int) l3 ([i4]:As)) (Ia l3 ([i4]:As))) (tS h (gK (Dq Mp)))) λh=>tS h (gK (Dq (Dh GT [5005] q))))) (gA (Ak q GT [5005] (tN h)))) λh=>tS h (gO (Dq (Dh [5] [5005] q))))) λx12 h=>gA (Ak q [4] [5005] (tS h (Ce [(5005,20000)])))))))
def Bk(aH:As)(aI:As):Int->Option (LR Int (Unit ⊕ Bool)):=
 λ(i1:Int)=>(bif (decide (i1<(aH.length:Int))) then(Ch (Bt i1 aH.length) (Ch (Bt i1 aI.length) (bif ((aH.getD i1.toNat 0)!=(aI.getD i1.toNat 0)) then(some (.done (.inr false))) else(some (.next (Bh (i1+1))))))) else(some (.done (.inl ()))))
def Sv(Γ:G0)(aH:As)(aI:As)(r:Bool):Exit->St->Prop:=fK Tryz.prog Γ Tryz.f16.results.toList [] (.bool r) []
def Gt(aH:As)(aI:As):Option Bool:=
 (bif ((aH.length:Int)!=(aI.length:Int)) then(some false) else((Ag (Bk aH aI) (0:Int)).bind (λx4=>(match x4 with|(.inl _)=>(some true)|(.inr r6)=>(some r6)))))
variable{v17:As}
theorem So(h:Gt v4 v17=some v5):sP 16 [(Z7 v4),(Z7 v17)] [] (.bool v5) []:=
 sG Tryz.func16 λΓ q=>tW q G3 [] BR [] (gC h (λh=>Ak q [4] [] (tS h (Ce []))) λh=>Ak q BS [] (tL q h BS [] (λu i1=>(Fg u [(5,(Z6 i1))] [])) (λu x_=>match x_ with|(.inl _)=>aG Γ (.exit 0) (⟨[],[],[]⟩:St)|(.inr r_)=>aR (Sv Γ v4 v17 r_)) (λi1 y h=>Ak q [0,1,5,14] [] (gC h (λh=>tC h λc2_ h=>tC h λc3_ h=>tU q [0,1,5,25] [] (c2 c2_ c3_) (gC h (λh=>Ak q [4] [] (tS h (gO (Sx (Kk [] (Le.refl _ _)))))) λh=>Ak q BS [] (tN h))) λh=>tS h (gO (Dq (Dh [] [] q))))) λx4 h=>(match x4,h with | .inl _,h=>gA (Ak q [4] [] (tS h (Ce []))) | .inr r6,h=>Xd (λst' hk=>tS h (gK hk)))))
def A8:List Cz:=([(⟨(0:Int),(64:Int),(1:Int),(2:Int),([]:As),(4:Int)⟩:Cz),(⟨(1:Int),(64:Int),(1:Int),(3:Int),([(1:Int),(2:Int)]:As),(0:Int)⟩:Cz),(⟨(16:Int),(32:Int),(1:Int),(4:Int),([(1:Int)]:As),(0:Int)⟩:Cz),(⟨(16:Int),(32:Int),(1:Int),(5:Int),([(3:Int)]:As),(0:Int)⟩:Cz)]:List Cz)
def GZ:AV:=Mr
def fm:=([(64:Int)]:As)
def fk:=([(⟨([]:List Fh),A8,(⟨(0:Int),(5:Int),([]:As)⟩:Hs)⟩:Af)]:List Af)
def o5:=(⟨fm,(32:Int),fk⟩:TFunc)
def SP:AV:=bP
def fo:AV:=(AV.list 6 Yx default A8 .exact)
def fp(x1:VF):=(bif (bif x1.2.2 then(x1.1==3) else false) then(x1.2.1==4) else false)
def DF(x1:VF)(x2:Yd):=(bif (bif (fp x1) then x2.2 else false) then(x2.1==18446744073709551612) else false)
def HA(x1:VF)(x2:Yd)(x3:Bool)(x4:Bool)(x5:Bool):=(bif (bif (bif (DF x1 x2) then x3 else false) then(!x4) else false) then x5 else false)
def m_locksteplaw18_awake :Option Bool:=
 ((Gf (⟨([(64:Int)]:As),(32:Int),([(⟨([]:List Fh),A8,(⟨(0:Int),(5:Int),([]:As)⟩:Hs)⟩:Af)]:List Af)⟩:TFunc) (0:Int) (3:Int)).bind λx1=>((Cv (⟨([(64:Int)]:As),(32:Int),([(⟨([]:List Fh),A8,(⟨(0:Int),(5:Int),([]:As)⟩:Hs)⟩:Af)]:List Af)⟩:TFunc) (0:Int) (3:Int) (2:Int)).bind λx2=>((bif ((bif (bif (bif (bif x1.2.2 then(x1.1==3) else false) then(x1.2.1==4) else false) then x2.2 else false) then(x2.1==18446744073709551612) else false)==true) then Ef (⟨([(64:Int)]:As),(32:Int),([(⟨([]:List Fh),A8,(⟨(0:Int),(5:Int),([]:As)⟩:Hs)⟩:Af)]:List Af)⟩:TFunc) (0:Int) (2:Int) (3:Int) else some false).bind λx3=>((bif ((bif (bif (bif (bif (bif x1.2.2 then(x1.1==3) else false) then(x1.2.1==4) else false) then x2.2 else false) then(x2.1==18446744073709551612) else false) then x3 else false)==true) then Ef (⟨([(64:Int)]:As),(32:Int),([(⟨([]:List Fh),A8,(⟨(0:Int),(5:Int),([]:As)⟩:Hs)⟩:Af)]:List Af)⟩:TFunc) (0:Int) (3:Int) (2:Int) else some false).bind λx4=>((bif ((bif (bif (bif (bif (bif (bif x1.2.2 then(x1.1==3) else false) then(x1.2.1==4) else false) then x2.2 else false) then(x2.1==18446744073709551612) else false) then x3 else false) then(!x4) else false)==true) then Fq (⟨([(64:Int)]:As),(32:Int),([(⟨([]:List Fh),A8,(⟨(0:Int),(5:Int),([]:As)⟩:Hs)⟩:Af)]:List Af)⟩:TFunc) (0:Int) (3:Int) (2:Int) else some false).bind λx5=>((bif ((bif (bif (bif (bif (bif (bif (bif x1.2.2 then(x1.1==3) else false) then(x1.2.1==4) else false) then x2.2 else false) then(x2.1==18446744073709551612) else false) then x3 else false) then(!x4) else false) then x5 else false)==true) then Fq (⟨([(64:Int)]:As),(32:Int),([(⟨([]:List Fh),A8,(⟨(0:Int),(5:Int),([]:As)⟩:Hs)⟩:Af)]:List Af)⟩:TFunc) (0:Int) (2:Int) (2:Int) else some false).bind λx6=>((bif ((bif (bif (bif (bif (bif (bif (bif (bif x1.2.2 then(x1.1==3) else false) then(x1.2.1==4) else false) then x2.2 else false) then(x2.1==18446744073709551612) else false) then x3 else false) then(!x4) else false) then x5 else false) then(!x6) else false)==true) then Ju (⟨([(64:Int)]:As),(32:Int),([(⟨([]:List Fh),A8,(⟨(0:Int),(5:Int),([]:As)⟩:Hs)⟩:Af)]:List Af)⟩:TFunc) (0:Int) else some []).bind λx7=>((bif ((bif (bif (bif (bif (bif (bif (bif (bif x1.2.2 then(x1.1==3) else false) then(x1.2.1==4) else false) then x2.2 else false) then(x2.1==18446744073709551612) else false) then x3 else false) then(!x4) else false) then x5 else false) then(!x6) else false)==true) then Gt x7 ([(2:Int),(3:Int)]:As) else some false).bind λx8=>(some (bif (bif (bif (bif (bif (bif (bif (bif (bif x1.2.2 then(x1.1==3) else false) then(x1.2.1==4) else false) then x2.2 else false) then(x2.1==18446744073709551612) else false) then x3 else false) then(!x4) else false) then x5 else false) then(!x6) else false) then x8 else false))))))))))
theorem Ri  (r:Bool) (h:m_locksteplaw18_awake=some r):sP 7 [] [] (.bool r) []:=
 sG Tryz.func7 λΓ q=>Ak q [] [] (gR q [1] [1] [(7,(AV.list 1 Ar 0 fm .exact)),(8,(.agg [GZ,(LH 64),(.int .i64 (1:Int)),fy,SP,(.int .u64 (4:Int))])),(9,(AV.list 1 Ar 0 ([(1:Int),(2:Int)]:As) .exact)),(11,(AV.list 1 Ar 0 ([(1:Int)]:As) .exact)),(13,(AV.list 1 Ar 0 ([(3:Int)]:As) .exact)),(15,fo),(16,(.agg [GZ,fN,SP])),(17,(.agg [(AV.list 4 Vb default ([]:List Fh) .exact),fo,GZ,fN,SP])),(18,(AV.list 5 F3 default fk .exact))] [] (c9 (Cf 1 Ar (0:Int) fm) (show(AVle (.agg [GZ,(LH 64),(.int .i64 (1:Int)),fy,SR,(.int .u64 (4:Int))]) (.agg [GZ,(LH 64),(.int .i64 (1:Int)),fy,SP,(.int .u64 (4:Int))])) from(AVle.agg (.cons (AVle.refl _) (.cons (AVle.refl _) (.cons (AVle.refl _) (.cons (AVle.refl _) (.cons Ei (.cons (AVle.refl _) .nil)))))))) (Cf 1 Ar (0:Int) ([(1:Int),(2:Int)]:As)) (Cf 1 Ar (0:Int) ([(1:Int)]:As)) (Cf 1 Ar (0:Int) ([(3:Int)]:As)) (Cf 6 Yx (default:Cz) A8) (show(AVle (.agg [GZ,fN,SR]) (.agg [GZ,fN,SP])) from(AVle.agg (.cons (AVle.refl _) (.cons (AVle.refl _) (.cons Ei .nil))))) (show(AVle (.agg [SR,fo,GZ,fN,SP]) (.agg [(AV.list 4 Vb default ([]:List Fh) .exact),fo,GZ,fN,SP])) from(AVle.agg (.cons Ei (.cons (AVle.refl _) (.cons (AVle.refl _) (.cons (AVle.refl _) (.cons (AVle.refl _) .nil))))))) (Cf 5 F3 (default:Af) fk)) (tB h λx1 y1 h=>tT q NN [1] [⟨[],[],(.tuple [(Z6 x1.1),(Z6 x1.2.1),(.bool x1.2.2)]),[],[],[]⟩] (c1 (Px y1)) (tB h λx2 y2 h=>tT q [1,2,3,4,5,6] [1] [(lP x2.1 x2.2)] (c1 (E9 y2)) (tB h λx3 y3 h=>tB h λx4 y4 h=>tB h λx5 y5 h=>tB h λx6 y6 h=>tB h λx7 y7 h=>tB h λx8 y8 h=>gR q [0] [] [(68,(AV.list 1 Ar 0 ([(2:Int),(3:Int)]:As) .exact))] [(Z2 x3),(Z2 x4),(Z2 x5),(Z2 x6),⟨[],[],(Z7 x7),[],[],[]⟩,(Z2 x8)] (nR (gI (x1.2.2==true)) (Lr x1.2.2) (gI ((bif x1.2.2 then(x1.1==3) else false)==true)) (Lr (bif x1.2.2 then(x1.1==3) else false)) (Lr (fp x1)) (gI ((bif (fp x1) then x2.2 else false)==true)) (Lr (bif (fp x1) then x2.2 else false)) (gI ((DF x1 x2)==true)) (λ(hg:((DF x1 x2)==true)=true)=>(I9 (Bo hg y3))) (nR (Lr (DF x1 x2)) (gI ((bif (DF x1 x2) then x3 else false)==true)) (λ(hg:((bif (DF x1 x2) then x3 else false)==true)=true)=>(I9 (Bo hg y4))) (gI ((bif (DF x1 x2) then x3 else false)==true)) (Lr (bif (DF x1 x2) then x3 else false)) (gI ((bif (bif (DF x1 x2) then x3 else false) then(!x4) else false)==true)) (λ(hg:((bif (bif (DF x1 x2) then x3 else false) then(!x4) else false)==true)=true)=>(K4 (Bo hg y5))) (Lr (bif (bif (DF x1 x2) then x3 else false) then(!x4) else false)) (gI ((HA x1 x2 x3 x4 x5)==true)) (o8 (λ(hg:((HA x1 x2 x3 x4 x5)==true)=true)=>(K4 (Bo hg y6))) (gI ((HA x1 x2 x3 x4 x5)==true)) (Lr (HA x1 x2 x3 x4 x5)) (gI ((bif (HA x1 x2 x3 x4 x5) then(!x6) else false)==true)) (show(((bif (HA x1 x2 x3 x4 x5) then(!x6) else false)==true)=true->(sP 17 [(.agg [(Z7 fm),(LH 32),(LF fk)]),GZ] [] (Z7 x7) [])) from(λhg=>(Spec.drop (Zd (Bo hg y7))))) (show(((bif (HA x1 x2 x3 x4 x5) then(!x6) else false)==true)=true->(AVle (.slice 1 2 (λi=>([[fy],[(.int .i64 (3:Int))]]:List (List AV)).getD i []) .exact) (AV.list 1 Ar 0 ([(2:Int),(3:Int)]:As) .exact))) from(λhg=>@(Cf 1 Ar (0:Int) ([(2:Int),(3:Int)]:As)))) (Xe ((bif (HA x1 x2 x3 x4 x5) then(!x6) else false)==true) (c2 (λ(hg:((bif (HA x1 x2 x3 x4 x5) then(!x6) else false)==true)=true)=>(So (Bo hg y8))) (Lr (bif (HA x1 x2 x3 x4 x5) then(!x6) else false))))))) (tS h (Ce []))))))
open Go Go.RowKit
set_option maxRecDepth 100000
set_option maxHeartbeats 2000000
def B4(a0:TFunc)(i2:Int):Gc->Option lT:=
 λ((i5,i6):Gc)=>(Ch (Bt i2 a0.Blocks.length) (bif (bif (decide (i6<(((a0.Blocks.getD i2.toNat default).Phis).length:Int))) then(decide (i5<=20000)) else false) then(Ch (Bt i2 a0.Blocks.length) (Ch (Bt i6 ((a0.Blocks.getD i2.toNat default).Phis).length) (Ch (Bt i2 a0.Blocks.length) (Ch (Bt i6 ((a0.Blocks.getD i2.toNat default).Phis).length) (some (.next ((Bh ((Bh ((Bh (i5+1))+(((((a0.Blocks.getD i2.toNat default).Phis).getD i6.toNat default).From).length:Int)))+(((((a0.Blocks.getD i2.toNat default).Phis).getD i6.toNat default).Args).length:Int))),(Bh (i6+1))))))))) else(some (.done i5))))
def B5(a0:TFunc)(i2:Int):Gc->Option lT:=
 λ((i15,i16):Gc)=>(Ch (Bt i2 a0.Blocks.length) (bif (bif (decide (i16<(((a0.Blocks.getD i2.toNat default).Ops).length:Int))) then(decide (i15<=20000)) else false) then(Ch (Bt i2 a0.Blocks.length) (Ch (Bt i16 ((a0.Blocks.getD i2.toNat default).Ops).length) (some (.next ((Bh ((Bh (i15+1))+(((((a0.Blocks.getD i2.toNat default).Ops).getD i16.toNat default).Args).length:Int))),(Bh (i16+1))))))) else(some (.done i15))))
def Bq(a0:TFunc):Gc->Option lT:=
 λ((i1,i2):Gc)=>(bif (bif (decide (i2<(a0.Blocks.length:Int))) then(decide (i1<=20000)) else false) then(Ch (Bt i2 a0.Blocks.length) ((Ag (B4 a0 i2) ((Bh ((Bh (i1+1))+(((a0.Blocks.getD i2.toNat default).End.To).length:Int))),(0:Int))).bind (λx13=>((Ag (B5 a0 i2) (x13,(0:Int))).bind (λx21=>(some (.next (x21,(Bh (i2+1)))))))))) else(some (.done i1)))
def B7(a0:TFunc):Option Bool:=
 ((Ag (Bq a0) ((a0.Params.length:Int),(0:Int))).bind (λx23=>(some (decide (x23<=20000)))))
theorem Rj(h:B7 v0=some v5):sP 18 [(LI v0)] [] (.bool v5) []:=
 sG Tryz.func18 λΓ q=>tW q [1] [1] Sc [1] (Ak q Pb [1] (tL q h Pb [1] (λu (i1,i2)=>(Fg u [(3,(Z6 i1)),(4,(Z6 i2))] [])) (λu i3=>aG Γ (.exit 0) (⟨[(3,(Z6 i3))],[],[]⟩:St)) (λ⟨i1,i2⟩ y h=>tU q [1,3,4,18] [1] (c2 (gI ((decide (i2<(v0.Blocks.length:Int)))==true)) (Lr (decide (i2<(v0.Blocks.length:Int))))) (gC h (λh=>tV q Pb [1] h λh=>Ak q NO [1] (tL q h NO [1] (λu (i5,i6)=>(Fg u [(3,(Z6 i5)),(5,(Z6 i6))] [])) (λu i7=>aG Γ (.exit 2) (Wl Pb [1] u [(3,(Z6 i7))] [])) (λ⟨i5,i6⟩ y h=>tC h λc8_ h=>tU q [1,3,4,5,44] [1] (c3 c8_ (gI ((decide (i6<(((v0.Blocks.getD i2.toNat default).Phis).length:Int)))==true)) (Lr (decide (i6<(((v0.Blocks.getD i2.toNat default).Phis).length:Int))))) (gC h (λh=>tC h λc9_ h=>tC h λc10_ h=>tC h λc11_ h=>tC h λc12_ h=>tU q NO [1] (c4 c9_ c10_ c11_ c12_) (Ak q NO [1] (tN h))) λh=>tS h (gO (Dq (Dh Pb [1] q))))) λx13 h=>gA (Ak q NP [1] (tL q h NP [1] (λu (i15,i16)=>(Fg u [(3,(Z6 i15)),(6,(Z6 i16))] [])) (λu i17=>aG Γ (.exit 4) (Wl Pb [1] u [(3,(Z6 i17))] [])) (λ⟨i15,i16⟩ y h=>tC h λc18_ h=>tU q [1,3,4,6,85] [1] (c3 c18_ (gI ((decide (i16<(((v0.Blocks.getD i2.toNat default).Ops).length:Int)))==true)) (Lr (decide (i16<(((v0.Blocks.getD i2.toNat default).Ops).length:Int))))) (gC h (λh=>tC h λc19_ h=>tC h λc20_ h=>tU q NP [1] (c2 c19_ c20_) (Ak q NP [1] (tN h))) λh=>tS h (gO (Dq (Dh Pb [1] q))))) λx21 h=>gA (Ak q Pb [1] (tN h)))))) λh=>tS h (gO (Dq (Dh [3] [] q))))) λx23 h=>gA (Ak q [2] [] (tS h (Ce [])))))
def Dt(a0:TFunc):Gc->Option lT:=
 λ((i1,i2):Gc)=>(bif (decide (i2<(a0.Blocks.length:Int))) then(Ch (Bt i2 a0.Blocks.length) (Ch (Bt i2 a0.Blocks.length) (some (.next ((Bh ((Bh ((Bh (i1+1))+(((a0.Blocks.getD i2.toNat default).Ops).length:Int)))+(((a0.Blocks.getD i2.toNat default).Phis).length:Int))),(Bh (i2+1))))))) else(some (.done i1)))
def fq(a0:TFunc)(x6:Int):=(bif (decide ((a0.Blocks.length:Int)<=16)) then(decide (x6<=100)) else false)
def jv(a0:TFunc)(x6:Int):=(bif (fq a0 x6) then true else(decide ((64:Int)<(a0.Blocks.length:Int))))
def F7(a0:TFunc):Option Bool:=
 ((Ag (Dt a0) ((0:Int),(0:Int))).bind (λx6=>((B7 a0).bind λx8=>(some (bif x8 then(bif (bif (bif (decide ((a0.Blocks.length:Int)<=16)) then(decide (x6<=100)) else false) then true else(decide ((64:Int)<(a0.Blocks.length:Int)))) then true else(decide ((512:Int)<x6))) else false)))))
theorem Rk(h:F7 v0=some v5):sP 8 [(LI v0)] [] (.bool v5) []:=
 sG Tryz.func8 λΓ q=>tW q [1] [1] Sc [1] (Ak q Pb [1] (tL q h Pb [1] (λu (i1,i2)=>(Fg u [(3,(Z6 i1)),(4,(Z6 i2))] [])) (λu i3=>aG Γ (.exit 0) (Wl Sc [1] u [(3,(Z6 i3))] [])) (λ⟨i1,i2⟩ y h=>Ak q [1,3,4,9] [1] (gC h (λh=>tC h λc4_ h=>tC h λc5_ h=>tU q Pb [1] (c2 c4_ c5_) (Ak q Pb [1] (tN h))) λh=>tS h (gO (Dq (Dh Sc [1] q))))) λx6 h=>gA (tB h λx8 y8 h=>tT q [2] [] [(Z2 x8)] (ci (Rj y8) (kT (x8==true) (oB (gI ((x8==true)&&((decide ((v0.Blocks.length:Int)<=16))==true))) (gI (x8==true)) (show((x8==true)=true->((decide ((v0.Blocks.length:Int)<=16))=true->((x8==true)&&((decide ((v0.Blocks.length:Int)<=16))==true))=true)) from(λhg=>(aT hg))) (gI (x8==true)) (ZL ((x8==true)&&((fq v0 x6)==false)) (c7 (gI (x8==true)) (show((x8==true)=true->((fq v0 x6)=false->((x8==true)&&((fq v0 x6)==false))=true)) from(λhg=>(aF hg))) (gI (x8==true)) (gI ((x8==true)&&((jv v0 x6)==false))) (gI (x8==true)) (show((x8==true)=true->((jv v0 x6)=false->((x8==true)&&((jv v0 x6)==false))=true)) from(λhg=>(aF hg))) (Lr x8)))))) (tS h (Ce [])))))
open Go Go.RowKit
set_option maxRecDepth 100000
set_option maxHeartbeats 2000000
def bb(x3:Yd)(x4:Yd):=(bif (x3.2 !=x4.2) then true else(bif x3.2 then(((E1 (x3.1+x4.1)):Int)!=0) else false))
def DG(x3:Yd)(x4:Yd):=(((bb x3 x4)==false)&&((!x3.2)==true))
def nX(x3:Yd):=((x3.1 !=0)==false)
def j4(x3:Yd)(x4:Yd):=((DG x3 x4)&&(nX x3))
def YH(x8:Yd)(x7:VF):=(bif (x8.2==x7.2.2) then(x8.1==0) else false)
def j0(x8:Yd)(x7:VF)(x9:Bool):=((bif (YH x8 x7) then(!x9) else false)==true)
def jz(x3:Yd)(x5:Bool):=((bif (x3.1 !=0) then true else x5)==false)
def F9(a0:TFunc)(a3:TThree):Option Bool:=
 (m_locksteplaw18_awake.bind λx1=>(bif (!x1) then(some false) else((F7 a0).bind λx2=>(bif (!x2) then(some true) else((Cv a0 a3.Block a3.A a3.B).bind λx3=>((Cv a0 a3.Block a3.B a3.A).bind λx4=>((bif ((((bif (x3.2 !=x4.2) then true else(bif x3.2 then(((E1 (x3.1+x4.1)):Int)!=0) else false))==false)&&((!x3.2)==true))&&((x3.1 !=0)==false)) then Fq a0 a3.Block a3.A a3.B else some false).bind λx5=>((bif ((((bif (x3.2 !=x4.2) then true else(bif x3.2 then(((E1 (x3.1+x4.1)):Int)!=0) else false))==false)&&((!x3.2)==true))&&((bif (x3.1 !=0) then true else x5)==false)) then Ef a0 a3.Block a3.A a3.B else some false).bind λx6=>(bif (bif (bif (x3.2 !=x4.2) then true else(bif x3.2 then(((E1 (x3.1+x4.1)):Int)!=0) else false)) then true else(bif (!x3.2) then(bif (bif (x3.1 !=0) then true else x5) then true else x6) else false)) then(some false) else((Gf a0 a3.Block a3.A).bind λx7=>((Cv a0 a3.Block a3.A a3.A).bind λx8=>((bif ((bif (x8.2==x7.2.2) then(x8.1==0) else false)==true) then Fq a0 a3.Block a3.A a3.A else some false).bind λx9=>((bif ((bif (bif (x8.2==x7.2.2) then(x8.1==0) else false) then(!x9) else false)==true) then Ef a0 a3.Block a3.A a3.A else some false).bind λx10=>(some (bif (bif (bif (x8.2==x7.2.2) then(x8.1==0) else false) then(!x9) else false) then(!x10) else false)))))))))))))))
theorem ok_locksteplaw18_AliasBoth(a0:TFunc)(a3:TThree)(r:Bool)(h:F9 a0 a3=some r):sP 5 [(LI a0),(.agg (eTThree a3))] [] (.bool r) []:=
 sG Tryz.func5 λΓ q=>Ak q Kg Kg (tB h λx1 y1 h=>tT q [2,3,15] Kg [(Z2 x1)] (c1 (Ri  x1 y1)) (gC h (λh=>Ak q [4] [] (tS h (Ce []))) λh=>tB h λx2 y2 h=>tT q [2,3,18] Kg [(Z2 x2)] (c1 (Rk y2)) (gC h (λh=>Ak q [4] [] (tS h (Ce []))) λh=>tB h λx3 y3 h=>tT q [2,3,5,6] Kg [(lP x3.1 x3.2)] (c1 (E9 y3)) (tB h λx4 y4 h=>tT q [2,3,5,6,7,8] Kg [(lP x4.1 x4.2)] (c1 (E9 y4)) (tB h λx5 y5 h=>tB h λx6 y6 h=>tT q [2,3,80] Kg [(Z2 x5),(Z2 x6)] (ci (gI ((x3.2 !=x4.2)==false)) (ZL (((x3.2 !=x4.2)==false)&&(x3.2==true)) (nQ (gI ((x3.2 !=x4.2)==false)) (show(((x3.2 !=x4.2)==false)=true->(x3.2=true->(((x3.2 !=x4.2)==false)&&(x3.2==true))=true)) from(λhg=>(aT hg))) (S5 (x3.2 !=x4.2)) (Xe ((bb x3 x4)==false) (Xe (DG x3 x4) (mI (j4 x3 x4) (oB (λ(hg:(j4 x3 x4)=true)=>(K4 (Bo hg y5))) (gI (DG x3 x4)) (show((DG x3 x4)=true->((x3.1 !=0)=false->(j4 x3 x4)=true)) from(λhg=>(aF hg))) (gI (DG x3 x4)) (mI ((DG x3 x4)&&(jz x3 x5)) (c6 (λ(hg:((DG x3 x4)&&(jz x3 x5))=true)=>(I9 (Bo hg y6))) (gI (DG x3 x4)) (show((DG x3 x4)=true->((bif (x3.1 !=0) then true else x5)=false->((DG x3 x4)&&(jz x3 x5))=true)) from(λhg=>(aF hg))) (gI ((bb x3 x4)==false)) (show(((bb x3 x4)==false)=true->((!x3.2)=true->(DG x3 x4)=true)) from(λhg=>(aT hg))) (S5 (bb x3 x4))))))))))) (gC h (λh=>Ak q [4] [] (tS h (Ce []))) λh=>tB h λx7 y7 h=>tT q [2,3,11] Kg [⟨[],[],(.tuple [(Z6 x7.1),(Z6 x7.2.1),(.bool x7.2.2)]),[],[],[]⟩] (c1 (Px y7)) (tB h λx8 y8 h=>tT q [2,3,11,12,13] Kg [(lP x8.1 x8.2)] (c1 (E9 y8)) (tB h λx9 y9 h=>tB h λx10 y10 h=>tT q [4] [] [(Z2 x9),(Z2 x10)] (fP (gI ((x8.2==x7.2.2)==true)) (Lr (x8.2==x7.2.2)) (mI ((YH x8 x7)==true) (nQ (λ(hg:((YH x8 x7)==true)=true)=>(K4 (Bo hg y9))) (gI ((YH x8 x7)==true)) (Lr (YH x8 x7)) (mI (j0 x8 x7 x9) (c3 (λ(hg:(j0 x8 x7 x9)=true)=>(I9 (Bo hg y10))) (gI (j0 x8 x7 x9)) (Lr (bif (YH x8 x7) then(!x9) else false))))))) (tS h (Ce []))))))))))
theorem lA{n:Int}(h:(Lit.int .u64 n).wf=true):0<=n/\n<18446744073709551616:=by simp[Lit.wf,IntKind.min,IntKind.max,IntKind.bits,IntKind.signed]at h;omega
abbrev Iall(w:World):Nat->Nat->Prop:=λb o=>∃ u,w.cell? ⟨b,o,none⟩=some u
structure bU(w:World)(cs:List Value)(avs:List AV):Prop where
 len:cs.length=avs.length
 one:∀ j,j<avs.length->(cs.getD j undef).oneCell'=true
 rep:∀ j,j<avs.length->RepV (Iall w) w (cs.getD j undef) (avs.getD j .any)
structure Opens(P:Program)(t:TypeId){α:Type}(e:α->List AV)(ok:α->Prop):Prop where
 get:∀{H:Type} {enc:TypeId×Value->H} {w:World} {base:Nat} {spare:Nat->Bool} {held:Bool} {fuel:Nat} {cs:List Value} {x:DataW H×List MemPlace},
  DataW.trod enc P w base spare held fuel t cs=some x->∃ a,ok a/\bU w cs (e a)
theorem DS{w:World}{v:Value}{x:AV}(h1:v.oneCell'=true)(h:RepV (Iall w) w v x):bU w [v] [x]:=
 ⟨rfl,λj hj=>(by
   have hj0:j=0:=by simpa using hj
   subst hj0
   exact h1),λj hj=>(by
   have hj0:j=0:=by simpa using hj
   subst hj0
   exact h)⟩
theorem JN{P:Program}{t:TypeId}{k:IntKind}{e:Int->List AV}(ht:P.underlying t=some (.int k))(he:∀ n,e n=[.int k n]):Opens P t e (λn=>(Lit.int k n).wf=true):=by
 refine⟨?_⟩;intro H enc w base spare held fuel cs x h;obtain⟨n,rfl,rfl,hw⟩:=DataW.trod_int ht h;exact⟨n,hw,by rw[he];exact DS rfl (.int _ _)⟩
theorem TF{w:World}{base:Nat}{a:Addr}{n:Nat}{cs:List Value}(h:w.cells? base a n=some cs):cs.length=n/\∀ i,i<n->w.cell? (a.add i)=some (cs.getD i undef):=by
 unfold World.cells? at h
 split at h
 ·have hl:=mapM_some_length h;simp at hl;refine⟨hl,λi hi=>?_⟩;have:=mapM_some_get h i i (by simp[hi]);rw[this];simp[List.getD,show i<cs.length by omega]
 ·cases h
theorem O3{P:Program}{t el:TypeId}{α:Type}{e:α->List AV}{ok:α->Prop}{sz:Nat}{d:α}{e':List α->List AV}(ht:P.underlying t=some (.slice el))(hs:P.cellsOf el=sz)(h1:1<=sz)(he:Opens P el e ok)(hlen:∀ a,(e a).length=sz)
  (he':∀ l,e' l=[AV.list sz e d l .none]):Opens P t e' (λl=>(∀ a∈l,ok a)/\l.length<=maxLen):=by
 refine⟨?_⟩;intro H enc w base spare held fuel cs x h;rcases DataW.trod_slice ht h with⟨rfl,rfl⟩|⟨a,len,cap,elems,rest,n,_,rfl,rfl,hb,hl,hm,hlen2,hel,_⟩
 ·exact⟨[],⟨by simp,by simp⟩,by rw[he'];exact DS rfl (.slice none 0 0 sz _ (λ_=>undef) (zzL7 _) (by simp) (λh=>by simp at h) (λ_=>rfl) (λj hj=>by simp at hj) (λi hi=>by simp at hi) (λi c hi=>by simp at hi))⟩
 ·have each:∀ i:Fin len,∃ b,ok b/\∃ cs,w.cells? base (a.add (i.1*sz)) sz=some cs/\bU w cs (e b):=λ⟨i,hi⟩=>by
   have:=hel i hi;rw[hs,O8 (by omega),zzL105]at this;obtain⟨cs,hcs,htr⟩:=this;obtain⟨b,hb,hr⟩:=he.get htr;exact⟨b,hb,cs,hcs,hr⟩
  let f:Fin len->α:=λi=>(each i).choose
  have hf:∀ i,ok (f i)/\∃ cs,w.cells? base (a.add (i.1*sz)) sz=some cs/\bU w cs (e (f i)):=λi=>(each i).choose_spec
  have hlf:(List.ofFn f).length=len:=by simp
  refine⟨List.ofFn f,⟨λb hb=>?_,by simp;omega⟩,?_⟩
  ·obtain⟨i,rfl⟩:=List.mem_ofFn.1 hb;exact(hf i).1
  rw[he'];refine DS rfl ?_
  have hcell0:∀ i (hi:i<len),∀ c,c<sz->∃ u,w.cell? ((a.add (i*sz)).add c)=some u/\u.oneCell'=true/\RepV (Iall w) w u ((e (f ⟨i,hi⟩)).getD c .any):=λi hi c hc=>by
   obtain⟨_,cs,hcs,hr⟩:=hf ⟨i,hi⟩;obtain⟨hl,hg⟩:=TF hcs;exact⟨_,hg c hc,hr.one c (by rw[hlen];exact hc),hr.rep c (by rw[hlen];exact hc)⟩
  have hspot:0<len->a.spot=none:=λhp=>by
   obtain⟨u,hu,_⟩:=hcell0 0 hp 0 h1;have h2:=World.cell?_spot hu
   simpa [Addr.add] using h2
  have hcell:∀ i (hi:i<len),∀ c,c<sz->∃ u,w.cell? ⟨a.block,a.off+(i*sz+c),none⟩=some u/\u.oneCell'=true/\RepV (Iall w) w u ((e (f ⟨i,hi⟩)).getD c .any):=λi hi c hc=>by
   obtain⟨u,hu,h1,h2⟩:=hcell0 i hi c hc;have hsp:=hspot (by omega);rw[Ht hsp,Js]at hu;exact⟨u,by rw[<- Qe];exact hu,h1,h2⟩
  have hdm:∀ j,j<len*sz->∃ i c,i<len/\c<sz/\j=i*sz+c:=λj hj=>by
   refine⟨j / sz,j % sz,(GP (by omega)).2 hj,Nat.mod_lt _ (by omega),?_⟩;rw[T9];exact(Yk j sz).symm
  unfold AV.list;rw[hlf];refine .slice (some a) len cap sz _ (λj=>(w.cell? ⟨a.block,a.off+j,none⟩).getD undef) hl hm (λhp=>⟨a,rfl,hspot hp,λj hj=>?_,λj hj=>?_⟩) (λh=>by cases h) (λj hj=>?_) (λi hi=>hlen _) (λi c hi hc=>?_)
  ·obtain⟨i,c,hi,hc,rfl⟩:=hdm j hj;obtain⟨u,hu,_⟩:=hcell i hi c hc;exact⟨u,hu⟩
  ·obtain⟨i,c,hi,hc,rfl⟩:=hdm j hj;obtain⟨u,hu,_⟩:=hcell i hi c hc;rw[hu];rfl
  ·obtain⟨i,c,hi,hc,rfl⟩:=hdm j hj;obtain⟨u,hu,h1,_⟩:=hcell i hi c hc;simp only[hu];exact h1
  ·obtain⟨u,hu,_,h2⟩:=hcell i hi c hc
   have e1:(List.ofFn f).getD i d=f ⟨i,hi⟩:=by simp[List.getD,hi]
   rw[e1,hu];exact h2
structure KZ(P:Program)(fs:List Field)(off N:Nat){α:Type}(e:α->List AV)(ok:α->Prop):Prop where
 get:∀{H:Type} {enc:TypeId×Value->H} {w:World} {base:Nat} {spare:Nat->Bool} {held:Bool} {n:Nat} {cs:List Value},cs.length=N->
  (∀ f∈fs,∃ x,DataW.trod enc P w base spare held n f.type ((cs.drop f.offset).take (P.cellsOf f.type))=some x)->∃ a,ok a/\bU w (cs.drop off) (e a)
theorem L2{P:Program}{N:Nat}:KZ P [] N N (λ_:Unit=>[]) (λ_=>True):=by
 refine⟨?_⟩;intro H enc w base spare held n cs hN _;rw[List.drop_eq_nil_of_le (by omega)];exact⟨(),trivial,rfl,(λj hj=>by simp at hj),(λj hj=>by simp at hj)⟩
theorem Bl{P:Program}{f:Field}{fs:List Field}{off sz N:Nat}{α β:Type}{e:α->List AV}{ok:α->Prop}{e':β->List AV}{ok':β->Prop}(hoff:f.offset=off)(hsz:P.cellsOf f.type=sz)(hle:off+sz<=N)
  (h:Opens P f.type e ok) (h':KZ P fs (off+sz) N e' ok'):KZ P (f::fs) off N (λp:α×β=>e p.1++e' p.2) (λp=>ok p.1/\ok' p.2):=by
 refine⟨?_⟩;intro H enc w base spare held n cs hN hall;obtain⟨x,hx⟩:=hall f (by simp);rw[hoff,hsz]at hx;obtain⟨a,ha,hr⟩:=h.get hx;obtain⟨b,hb,hr'⟩:=h'.get hN (λg hg=>hall g (by simp[hg]))
 have hl:(e a).length=sz:=by rw[<- hr.len];simp;omega
 have hl':(e' b).length=N-(off+sz):=by rw[<- hr'.len];simp;omega
 have hsplit:cs.drop off=(cs.drop off).take sz++cs.drop (off+sz):=by rw[<- List.drop_drop];exact(List.take_append_drop sz _).symm
 have hl2:((cs.drop off).take sz).length=sz:=by simp;omega
 refine⟨(a,b),⟨ha,hb⟩,?_,λj hj=>?_,λj hj=>?_⟩
 ·simp[hl,hl'];omega
 ·rw[hsplit];replace hj:j<(e a++e' b).length:=hj
  show _
  by_cases hlt:j<sz
  ·have:=hr.one j (by omega);rwa[List.getD,Qa (by omega)]
  ·have:=hr'.one (j-sz) (by simp at hj;omega);rwa[List.getD,T6 (by omega),hl2]
 ·rw[hsplit];replace hj:j<(e a++e' b).length:=hj
  show RepV (Iall w) w _ ((e a++e' b).getD j .any)
  by_cases hlt:j<sz
  ·have:=hr.rep j (by omega);rwa[List.getD,Qa (by omega),List.getD,Qa (by omega)]
  ·have:=hr'.rep (j-sz) (by simp at hj;omega);rwa[List.getD,T6 (by omega),hl2,List.getD,T6 (by omega),hl]
theorem Jc{P:Program}{t:TypeId}{fs:Array Field}{N:Nat}{α:Type}{e:α->List AV}{ok:α->Prop}(ht:P.underlying t=some (.struct fs))(hN:P.cellsOf t=N)(h:KZ P fs.toList 0 N e ok):Opens P t e ok:=by
 refine⟨?_⟩;intro H enc w base spare held fuel cs x hx;obtain⟨xs,n,_,_,hl,hxl,hall⟩:=DataW.trod_struct ht hx
 have:=h.get (n:=n) (hl.trans hN) (enc:=enc) (w:=w) (base:=base) (spare:=spare) (held:=held) (λf hf=>by
  obtain⟨i,hi,rfl⟩:=List.mem_iff_getElem.1 hf
  have hi':i<fs.size:=by simpa using hi
  have:=hall i fs.toList[i] (by simp[hi']);rw[O8 (by omega)]at this
  exact⟨_,this⟩)
 simpa using this
theorem Opens.to{P:Program}{t:TypeId}{α β:Type}{e:α->List AV}{ok:α->Prop}(h:Opens P t e ok){e':β->List AV}{ok':β->Prop}(g:α->β)(he:∀ a,e' (g a)=e a)(hok:∀ a,ok a->ok' (g a)):Opens P t e' ok':=by
 refine⟨?_⟩;intro H enc w base spare held fuel cs x hx;obtain⟨a,ha,hr⟩:=h.get hx;exact⟨g a,hok a ha,by rw[he];exact hr⟩
theorem arg_agg{P:Program}{t:TypeId}{α:Type}{e:α->List AV}{ok:α->Prop}(h:Opens P t e ok){H:Type}{enc:TypeId×Value->H}{w:World}{base:Nat}{spare:Nat->Bool}{held:Bool}{cs:Array Value}{d:DataW H}{ps:List MemPlace}
  (hd:DataW.Trod enc P w base spare held t (.agg cs) d ps):∃ a,ok a/\RepV (Iall w) w (.agg cs) (.agg (e a)):=by
 obtain⟨fuel,hf⟩:=hd;obtain⟨a,ha,hr⟩:=h.get hf;have e1:(Value.agg cs).cells.toList=cs.toList:=rfl;rw[e1]at hr
 have e2:∀ j,cs.toList.getD j undef=cs.getD j undef:=λj=>by simp[Mn,List.getD]
 refine⟨a,ha,.agg _ _ (by simpa using hr.len) (λj hj=>?_) (λj hj=>?_)⟩
 ·rw[<- e2];exact hr.one j hj
 ·rw[<- e2];exact hr.rep j hj
def Oz(n:Int):Prop:=(Lit.int .i64 n).wf=true
theorem Zm:Opens Tryz.prog 3 Ar Oz:=JN Tryz.underlying3 (λ_=>rfl)
def Y9(l:List (Int)):Prop:=(∀ a∈l,Oz a)/\l.length<=maxLen
theorem QK:Opens Tryz.prog 22 Hu Y9:=O3 (d:=(0:Int)) Tryz.underlying22 (by kernel_rfl) (by decide) Zm (λ_=>rfl) (λ_=>rfl)
def dZ(a:Fh):Prop:=Oz a.Bits/\Oz a.Dst/\Y9 a.From/\Y9 a.Args/\True
theorem mW:Opens Tryz.prog 68 Vb dZ:=Opens.to (Jc (N:=4) Tryz.underlying68 (by kernel_rfl) (Bl (off:=0) (sz:=1) (N:=4) rfl (by kernel_rfl) (by decide) Zm (Bl (off:=1) (sz:=1) (N:=4) rfl (by kernel_rfl) (by decide) Zm (Bl (off:=2) (sz:=1) (N:=4) rfl (by kernel_rfl) (by decide) QK (Bl (off:=3) (sz:=1) (N:=4) rfl (by kernel_rfl) (by decide) QK L2))))) (λp=>⟨p.1,p.2.1,p.2.2.1,p.2.2.2.1⟩) (λ_=>rfl) (λ_ h=>h)
def WY(l:List (Fh)):Prop:=(∀ a∈l,dZ a)/\l.length<=maxLen
theorem mR:Opens Tryz.prog 36 kQ WY:=O3 (d:=(default:Fh)) Tryz.underlying36 (by kernel_rfl) (by decide) mW (λ_=>rfl) (λ_=>rfl)
def jZ(n:Int):Prop:=(Lit.int .u64 n).wf=true
theorem mQ:Opens Tryz.prog 32 oC jZ:=JN Tryz.underlying32 (λ_=>rfl)
def jY(a:Cz):Prop:=Oz a.Kind/\Oz a.Bits/\Oz a.Lanes/\Oz a.Dst/\Y9 a.Args/\jZ a.Imm/\True
theorem mV:Opens Tryz.prog 46 Yx jY:=Opens.to (Jc (N:=6) Tryz.underlying46 (by kernel_rfl) (Bl (off:=0) (sz:=1) (N:=6) rfl (by kernel_rfl) (by decide) Zm (Bl (off:=1) (sz:=1) (N:=6) rfl (by kernel_rfl) (by decide) Zm (Bl (off:=2) (sz:=1) (N:=6) rfl (by kernel_rfl) (by decide) Zm (Bl (off:=3) (sz:=1) (N:=6) rfl (by kernel_rfl) (by decide) Zm (Bl (off:=4) (sz:=1) (N:=6) rfl (by kernel_rfl) (by decide) QK (Bl (off:=5) (sz:=1) (N:=6) rfl (by kernel_rfl) (by decide) mQ L2))))))) (λp=>⟨p.1,p.2.1,p.2.2.1,p.2.2.2.1,p.2.2.2.2.1,p.2.2.2.2.2.1⟩) (λ_=>rfl) (λ_ h=>h)
def dW(l:List (Cz)):Prop:=(∀ a∈l,jY a)/\l.length<=maxLen
theorem mS:Opens Tryz.prog 37 mG dW:=O3 (d:=(default:Cz)) Tryz.underlying37 (by kernel_rfl) (by decide) mV (λ_=>rfl) (λ_=>rfl)
def dY(a:Hs):Prop:=Oz a.Kind/\Oz a.Arg/\Y9 a.To/\True
theorem mT:Opens Tryz.prog 39 WP dY:=Opens.to (Jc (N:=3) Tryz.underlying39 (by kernel_rfl) (Bl (off:=0) (sz:=1) (N:=3) rfl (by kernel_rfl) (by decide) Zm (Bl (off:=1) (sz:=1) (N:=3) rfl (by kernel_rfl) (by decide) Zm (Bl (off:=2) (sz:=1) (N:=3) rfl (by kernel_rfl) (by decide) QK L2)))) (λp=>⟨p.1,p.2.1,p.2.2.1⟩) (λ_=>rfl) (λ_ h=>h)
def PY(a:Af):Prop:=WY a.Phis/\dW a.Ops/\dY a.End/\True
theorem mU:Opens Tryz.prog 41 F3 PY:=Opens.to (Jc (N:=5) Tryz.underlying41 (by kernel_rfl) (Bl (off:=0) (sz:=1) (N:=5) rfl (by kernel_rfl) (by decide) mR (Bl (off:=1) (sz:=1) (N:=5) rfl (by kernel_rfl) (by decide) mS (Bl (off:=2) (sz:=3) (N:=5) rfl (by kernel_rfl) (by decide) mT L2)))) (λp=>⟨p.1,p.2.1,p.2.2.1⟩) (λ_=>rfl) (λ_ h=>h)
def JK(l:List (Af)):Prop:=(∀ a∈l,PY a)/\l.length<=maxLen
theorem mP:Opens Tryz.prog 23 cf JK:=O3 (d:=(default:Af)) Tryz.underlying23 (by kernel_rfl) (by decide) mU (λ_=>rfl) (λ_=>rfl)
def okTFunc(a:TFunc):Prop:=Y9 a.Params/\Oz a.Ret/\JK a.Blocks/\True
theorem op_25:Opens Tryz.prog 25 eTFunc okTFunc:=Opens.to (Jc (N:=3) Tryz.underlying25 (by kernel_rfl) (Bl (off:=0) (sz:=1) (N:=3) rfl (by kernel_rfl) (by decide) QK (Bl (off:=1) (sz:=1) (N:=3) rfl (by kernel_rfl) (by decide) Zm (Bl (off:=2) (sz:=1) (N:=3) rfl (by kernel_rfl) (by decide) mP L2)))) (λp=>⟨p.1,p.2.1,p.2.2.1⟩) (λ_=>rfl) (λ_ h=>h)
def okTThree(a:TThree):Prop:=Oz a.Block/\Oz a.A/\Oz a.B/\True
theorem op_27:Opens Tryz.prog 27 eTThree okTThree:=Opens.to (Jc (N:=3) Tryz.underlying27 (by kernel_rfl) (Bl (off:=0) (sz:=1) (N:=3) rfl (by kernel_rfl) (by decide) Zm (Bl (off:=1) (sz:=1) (N:=3) rfl (by kernel_rfl) (by decide) Zm (Bl (off:=2) (sz:=1) (N:=3) rfl (by kernel_rfl) (by decide) Zm L2)))) (λp=>⟨p.1,p.2.1,p.2.2.1⟩) (λ_=>rfl) (λ_ h=>h)
theorem Gb{n:Int}(h:-9223372036854775808<=n)(h':n<9223372036854775808):Bh n=n:=by
 show IntKind.i64.wrap n=n
 simp only[IntKind.wrap,IntKind.bits,IntKind.signed]
 simp
 split<;>omega
theorem NE{n:Int}(h:0<=n)(h':n<18446744073709551616):E1 n=n:=by
 show IntKind.u64.wrap n=n
 simp[IntKind.wrap,IntKind.bits,IntKind.signed];omega
theorem T0(n:Int):E1 n=n % 18446744073709551616:=by
 show IntKind.u64.wrap n=_
 simp[IntKind.wrap,IntKind.bits,IntKind.signed]
theorem Ap{R:Type}{p:Prop}[Decidable p]{k:Option R}(h:p):Ch p k=k:=if_pos h
theorem cl{x:Int}(j:Nat):x.fdiv (2 ^ j)=x / 2 ^ j:=by rw[Int.fdiv_eq_ediv_of_nonneg _ (by exact Int.le_of_lt (Int.pow_pos (by decide)))]
theorem Aa{α:Type}(l:List α)(i:Nat)(d:α)(h:i<l.length):l.getD i d=l[i]:=by simp[List.getD,h]
theorem kinds(k:Int):k=0\/k=1\/k=2\/k=3\/k=4\/k=5\/k=6\/k=7\/k=8\/k=9\/k=10\/k=11\/k=12\/k=13\/k=14\/k=15\/k=16\/k=17\/k=18\/k=19\/k=20\/k=21\/k=22\/(k<0\/22<k):=by omega
theorem dq{k:Int}(h:k<0\/22<k):(k==0)=false/\(k==1)=false/\(k==2)=false/\(k==3)=false/\(k==4)=false/\(k==5)=false/\(k==6)=false/\(k==7)=false/\(k==8)=false/\(k==9)=false/\(k==10)=false/\(k==11)=false/\(k==12)=false /\
  (k==13)=false/\(k==14)=false/\(k==15)=false/\(k==16)=false/\(k==17)=false/\(k==18)=false/\(k==19)=false/\(k==20)=false/\(k==21)=false/\(k==22)=false:=by
 simp only[zzL20,ne_eq];omega
def Ec(b:Int):Bool:=b==1 || b==8 || b==16 || b==32 || b==64
def U1(b n:Int):Bool:=Ec b&&(n==1 || ((n==2 || n==4 || n==8 || n==16)&&decide (8<=b)&&decide (b*n<=128)))
theorem width_cases{b:Int}(h:Ec b=true):b=1\/b=8\/b=16\/b=32\/b=64:=by simp[Ec]at h;omega
theorem shape_width{b n:Int}(h:U1 b n=true):Ec b=true:=by simp[U1]at h;exact h.1
theorem Mk{b n:Int}(h:U1 b n=true):n=1\/n=2\/n=4\/n=8\/n=16:=by simp[U1]at h;omega
theorem P7(b:Int):Gz b=some (Ec b):=by
 unfold Gz Ec
 by_cases h1:b=1
 ·subst h1;rfl
 by_cases h2:b=8
 ·subst h2;rfl
 by_cases h3:b=16
 ·subst h3;rfl
 by_cases h4:b=32
 ·subst h4;rfl
 by_cases h5:b=64
 ·subst h5;rfl
 have e1:(b==1)=false:=by simpa using h1
 have e2:(b==8)=false:=by simpa using h2
 have e3:(b==16)=false:=by simpa using h3
 have e4:(b==32)=false:=by simpa using h4
 have e5:(b==64)=false:=by simpa using h5
 simp[e1,e2,e3,e4,e5]
theorem TT(b n:Int):Nd b n=some (U1 b n):=by
 unfold Nd;simp only[P7,Ao]
 by_cases hn:n=1\/n=2\/n=4\/n=8\/n=16
 ·cases hw:Ec b with
  | false=>rcases hn with rfl|rfl|rfl|rfl|rfl<;>simp[U1,hw]
  | true=>
   rcases width_cases hw with rfl|rfl|rfl|rfl|rfl<;>rcases hn with rfl|rfl|rfl|rfl|rfl<;>rfl
 ·have e1:(n==1)=false:=by simp;omega
  have e2:(n==2)=false:=by simp;omega
  have e3:(n==4)=false:=by simp;omega
  have e4:(n==8)=false:=by simp;omega
  have e5:(n==16)=false:=by simp;omega
  simp[U1,e1,e2,e3,e4,e5]
theorem eW{v b:Int}(hv:0<=v/\v<18446744073709551616)(hb:Ec b=true):Ra v b=some (v % 2 ^ b.toNat):=by
 unfold Ra;simp only[P7,hb,Ao,Fa,Au]
 have key:∀ j:Nat,j<64->X8 .u64 (UT .u64 v (j:Int)) (j:Int)=(v*2 ^ j % 18446744073709551616) / 2 ^ j:=λj hj=>by
  simp only[X8,UT,Dk,IntKind.bits];rw[Nat.min_eq_left (by omega),cl,show IntKind.u64.wrap (v*2 ^ j)=v*2 ^ j % 18446744073709551616 from T0 _]
 rcases width_cases hb with rfl|rfl|rfl|rfl|rfl
 ·have:=key 63 (by decide);simp only[show Bh (64-1)=((63:Nat):Int) from rfl,this];rw[Ap (by decide),Ap (by decide)];congr 1;simp only[show((1:Int).toNat)=1 from rfl];omega
 ·have:=key 56 (by decide);simp only[show Bh (64-8)=((56:Nat):Int) from rfl,this];rw[Ap (by decide),Ap (by decide)];congr 1;simp only[show((8:Int).toNat)=8 from rfl];omega
 ·have:=key 48 (by decide);simp only[show Bh (64-16)=((48:Nat):Int) from rfl,this];rw[Ap (by decide),Ap (by decide)];congr 1;simp only[show((16:Int).toNat)=16 from rfl];omega
 ·have:=key 32 (by decide);simp only[show Bh (64-32)=((32:Nat):Int) from rfl,this];rw[Ap (by decide),Ap (by decide)];congr 1;simp only[show((32:Int).toNat)=32 from rfl];omega
 ·have:=key 0 (by decide);simp only[show Bh (64-64)=((0:Nat):Int) from rfl,this];rw[Ap (by decide),Ap (by decide)];congr 1;simp only[show((64:Int).toNat)=64 from rfl];omega
theorem MC{i:Int}(h:0<=i/\i<18446744073709551616):Iq i=some (Ec i):=by
 unfold Iq
 by_cases hi:i<=64
 ·have:Bh i=i:=Gb (by omega) (by omega);simp[hi,this,P7]
 ·have:Ec i=false:=by simp[Ec];omega
  simp[hi,this]
def dB(k:Int):Bool:=decide (0<=k)&&decide (k<=22)
def Lk(k n:Int):Int:=
 bif k==0 then 0 else bif k==13 || k==18 || k==19 then 3 else bif k==14 || k==15 || k==16 || k==22 then 1 else bif k==20 then 4 else bif k==21 then n else 2
def X7(k b n:Int):Bool:=
 bif k==16 || k==17 then decide (8<=b) else bif k==18 || k==19 then decide (8<=b)&&n==1 else
 bif k==4 || k==10 || k==11 || k==12 || k==14 || k==15 || k==20 then n==1 else bif k==21 || k==22 then decide (1<n) else true
def ifitS(k b n i:Int):Bool:=
 bif k==0 then i % 2 ^ b.toNat==i else bif k==14 then Ec i&&decide (i<b) else bif k==15 then Ec i&&decide (b<i) else bif k==22 then decide (i<n) else i==0
def valS(v:Int):Bool:=decide (1<=v)&&decide (v<=1023)
def dstS(k d:Int):Bool:=bif k==17 || k==19 then d==0 else valS d
def Jg(o:Cz):Bool:=U1 o.Bits o.Lanes&&(dB o.Kind&&X7 o.Kind o.Bits o.Lanes&&ifitS o.Kind o.Bits o.Lanes o.Imm&&((o.Args.length:Int)==Lk o.Kind o.Lanes))&&(o.Args.all valS&&dstS o.Kind o.Dst)
def W9(o:Cz)(i:Nat):Int×Int:=
 bif o.Kind==13 || o.Kind==20 then(bif Nat.beq i 0 then(1,1) else(o.Bits,o.Lanes)) else bif o.Kind==14 || o.Kind==15 then(Bh o.Imm,1) else
 bif o.Kind==16 || o.Kind==17 then(bif Nat.beq i 0 then(64,1) else(o.Bits,o.Lanes)) else
 bif o.Kind==18 || o.Kind==19 then(bif Nat.beq i 1 then(64,1) else bif Nat.beq i 0 then(1,1) else(o.Bits,o.Lanes)) else bif o.Kind==21 then(o.Bits,1) else(o.Bits,o.Lanes)
def N8(o:Cz):List (Int×Int):=(List.range (Lk o.Kind o.Lanes).toNat).map (W9 o)
def Mu(k b n:Int):Int×Int:=bif k==17 || k==19 then(0,0) else bif k==10 || k==11 || k==12 then(1,1) else bif k==22 then(b,1) else(b,n)
theorem gy{k:Int}(h:k<0\/22<k):dB k=false:=by simp[dB];omega
theorem PE(k:Int):L9 k=some (dB k):=by unfold L9 dB;cases decide ((0:Int)<=k)<;>rfl
theorem Qv(v:Int):Ip v=some (valS v):=by unfold Ip valS;cases decide ((1:Int)<=v)<;>rfl
theorem EJ(o:Cz):I6 o=some (X7 o.Kind o.Bits o.Lanes):=by
 obtain⟨k,b,n,d,args,i⟩:=o;rcases kinds k with rfl|rfl|rfl|rfl|rfl|rfl|rfl|rfl|rfl|rfl|rfl|rfl|rfl|rfl|rfl|rfl|rfl|rfl|rfl|rfl|rfl|rfl|rfl|h
 any_goals rfl
 ·show some (bif decide (8<=b) then n==1 else false)=some (decide (8<=b)&&n==1);cases decide (8<=b)<;>rfl
 ·show some (bif decide (8<=b) then n==1 else false)=some (decide (8<=b)&&n==1);cases decide (8<=b)<;>rfl
 ·unfold I6 X7;simp[dq h]
theorem EI(o:Cz):Kz o=some (Mu o.Kind o.Bits o.Lanes):=by
 obtain⟨k,b,n,d,args,i⟩:=o;rcases kinds k with rfl|rfl|rfl|rfl|rfl|rfl|rfl|rfl|rfl|rfl|rfl|rfl|rfl|rfl|rfl|rfl|rfl|rfl|rfl|rfl|rfl|rfl|rfl|h
 any_goals rfl
 unfold Kz Mu;simp[dq h]
theorem MB(o:Cz)(hw:Ec o.Bits=true)(hn:0<=o.Lanes/\o.Lanes<=16)(hi:0<=o.Imm/\o.Imm<18446744073709551616):K0 o=some (ifitS o.Kind o.Bits o.Lanes o.Imm):=by
 unfold K0 ifitS
 have hb:E1 o.Bits=o.Bits:=by apply NE<;>(rcases width_cases hw with h|h|h|h|h<;>omega)
 have hl:E1 o.Lanes=o.Lanes:=by apply NE<;>omega
 rw[eW hi hw,MC hi,hb,hl]
 cases(o.Kind==0)<;>cases(o.Kind==14)<;>cases(o.Kind==15)<;>cases(o.Kind==22)<;>cases Ec o.Imm<;>rfl
set_option maxHeartbeats 2000000 in
theorem Tb{α X:Type}(l:List α)(d:α)(p:α->Bool)(f:Int->Option (LR Int X))(yes no:X)(hn:∀ i:Nat,i<l.length->p (l.getD i d)=true->f i=some (.next ((i:Int)+1)))
  (hf:∀ i:Nat,i<l.length->p (l.getD i d)=false->f i=some (.done no)) (he:f l.length=some (.done yes)):∀(k i:Nat),i+k=l.length->Ag f i=some (bif (l.drop i).all p then yes else no)
 | 0,i,h=>by
  obtain rfl:i=l.length:=by omega
  rw[Ah he]
  simp
 | k+1,i,h=>by
  have hi:i<l.length:=by omega
  have hd:l.drop i=l.getD i d::l.drop (i+1):=by rw[O7 hi,Aa _ _ _ hi]
  cases hp:p (l.getD i d) with
  | true=>
   rw[An (hn i hi hp)];have:=Tb l d p f yes no hn hf he k (i+1) (by omega);rw[show((i:Int)+1)=((i+1:Nat):Int) by omega,this,hd,Sa,hp,Hi]
  | false=>
   rw[Ah (hf i hi hp),hd,Sa,hp,Vu,Au]
theorem Xj{α:Type}(l:List α)(d:α)(wt:α->Nat)(C:Nat)(f:Int×Int->Option (LR (Int×Int) Int))
  (hn:∀(n i:Nat),i<l.length->n<=C->∃ m:Nat,f ((n:Int),(i:Int))=some (.next ((m:Int),((i+1:Nat):Int)))/\(n+wt (l.getD i d)<=C->m=n+wt (l.getD i d))/\(m<=C->n+wt (l.getD i d)<=C))
  (hd:∀(n i:Nat),i<=l.length->(i=l.length\/C<n)->f ((n:Int),(i:Int))=some (.done (n:Int))) :
  ∀(k i n:Nat),i+k=l.length->∃ m:Nat,Ag f ((n:Int),(i:Int))=some (m:Int)/\(n+((l.drop i).map wt).sum<=C->m=n+((l.drop i).map wt).sum)/\(m<=C->n+((l.drop i).map wt).sum<=C)
 | 0,i,n,h=>by
  obtain rfl:i=l.length:=by omega
  refine⟨n,Ah (hd n _ (zzL7 _) (.inl rfl)),?_,?_⟩
  ·simp
  ·simp
 | k+1,i,n,h=>by
  have hi:i<l.length:=by omega
  have hdr:l.drop i=l.getD i d::l.drop (i+1):=by rw[O7 hi,Aa _ _ _ hi]
  by_cases hC:n<=C
  ·obtain⟨m,h1,h2,h3⟩:=hn n i hi hC;obtain⟨m',h4,h5,h6⟩:=Xj l d wt C f hn hd k (i+1) m (by omega);refine⟨m',by rw[An h1];exact h4,λhle=>?_,λhle=>?_⟩
   ·rw[hdr,Br,Vx]at hle ⊢;have:=h2 (by omega);subst this;rw[h5 (by omega)];omega
   ·rw[hdr,Br,Vx];have h7:=h6 hle;have h8:=h3 (by omega);have:=h2 h8;omega
  ·refine⟨n,Ah (hd n i (by omega) (.inr (by omega))),λhle=>by omega,λhle=>by omega⟩
theorem Nv{X:Type}(N:Nat)(f:Int×Int->Option (LR (Int×Int) X))(hn:∀(n:Int) (i:Nat),i<N->(∃ m:Int,f (n,(i:Int))=some (.next (m,((i+1:Nat):Int))))\/∃ x,f (n,(i:Int))=some (.done x))(hd:∀ n:Int,∃ x,f (n,(N:Int))=some (.done x)) :
  ∀(k i:Nat) (n:Int),i+k=N->∃ x,Ag f (n,(i:Int))=some x
 | 0,i,n,h=>by
  obtain rfl:i=N:=by omega
  obtain⟨x,hx⟩:=hd n;exact⟨x,Ah hx⟩
 | k+1,i,n,h=>by
  rcases hn n i (by omega) with⟨m,hm⟩|⟨x,hx⟩
  ·obtain⟨x,hx⟩:=Nv N f hn hd k (i+1) m (by omega);exact⟨x,by rw[An hm];exact hx⟩
  ·exact⟨x,Ah hx⟩
theorem JD{α X:Type}(l:List α)(d:α)(wt:α->Nat)(out:Int->X)(f:Int×Int->Option (LR (Int×Int) X))
  (hn:∀(n i:Nat),i<l.length->f (Bh n,(i:Int))=some (.next (Bh ((n+wt (l.getD i d):Nat):Int),((i+1:Nat):Int)))) (hd:∀ n:Int,f (n,(l.length:Int))=some (.done (out n))) :
  ∀(k i n:Nat),i+k=l.length->Ag f (Bh n,(i:Int))=some (out (Bh ((n+((l.drop i).map wt).sum:Nat):Int)))
 | 0,i,n,h=>by
  obtain rfl:i=l.length:=by omega
  rw[Ah (hd _)]
  simp
 | k+1,i,n,h=>by
  have hi:i<l.length:=by omega
  have hdr:l.drop i=l.getD i d::l.drop (i+1):=by rw[O7 hi,Aa _ _ _ hi]
  rw[An (hn n i hi),JD l d wt out f hn hd k (i+1) _ (by omega),hdr,Br,Vx,Qe]
theorem XN(a b:Int):Bh (Bh a+b)=Bh (a+b):=by
 show IntKind.i64.wrap (IntKind.i64.wrap a+b)=IntKind.i64.wrap (a+b)
 simp only[IntKind.wrap,IntKind.bits,IntKind.signed]
 simp
 split<;>split<;>omega
theorem AX{α β:Type}(l:List α)(d:α)(E:α->List β)(M:Nat)(f:List β×Int->Option (LR (List β×Int) (List β)))
  (hn:∀(out:List β) (i:Nat),i<l.length->out.length+(E (l.getD i d)).length<=M->f (out,(i:Int))=some (.next (out++E (l.getD i d),((i+1:Nat):Int))))
  (hd:∀ out:List β,f (out,(l.length:Int))=some (.done out)) :
  ∀(k i:Nat) (out:List β),i+k=l.length->out.length+((l.drop i).map E).flatten.length<=M->Ag f (out,(i:Int))=some (out++((l.drop i).map E).flatten)
 | 0,i,out,h,_=>by
  obtain rfl:i=l.length:=by omega
  rw[Ah (hd out)]
  simp
 | k+1,i,out,h,hM=>by
  have hi:i<l.length:=by omega
  have hdr:l.drop i=l.getD i d::l.drop (i+1):=by rw[O7 hi,Aa _ _ _ hi]
  rw[hdr,Br,List.flatten_cons,Eo]at hM;rw[An (hn out i hi (by omega)),AX l d E M f hn hd k (i+1) _ (by omega) (by rw[Eo];omega),hdr,Br,List.flatten_cons,Yg]
theorem EA{α β:Type}(l:List α)(E:α->List β)(B:Nat)(h:∀ a∈l,(E a).length<=B):(l.map E).flatten.length<=l.length*B:=by
 induction l with
 | nil=>simp
 | cons a l ih=>
  have h1:=h a (by simp);have h2:=ih (λb hb=>h b (by simp[hb]));rw[Br,List.flatten_cons,Eo,M6,D1];omega
theorem getD_mem{α:Type}{l:List α}{i:Nat}{d:α}(h:i<l.length):l.getD i d∈l:=by rw[Aa _ _ _ h];exact Yj h
theorem A9{i n:Nat}(h:i<n):Bt (i:Int) n:=⟨by omega,by exact_mod_cast h⟩
theorem Dv{i n:Nat}(h:i<n)(hn:n<9223372036854775808):Bh ((i:Int)+1)=(i:Int)+1:=Gb (by omega) (by omega)
def cy(l:List Int):Prop:=∀ x∈l,0<=x/\x<=2147483647
theorem Xi{S X:Type}(f:S->Option (LR S X))(T:Nat->S)(x:X):∀(n:Nat),(∀ i,i<n->f (T i)=some (.next (T (i+1))))->f (T n)=some (.done x)->Ag f (T 0)=some x:=by
 suffices h:∀(k i n:Nat),i+k=n->(∀ j,i<=j->j<n->f (T j)=some (.next (T (j+1))))->f (T n)=some (.done x)->Ag f (T i)=some x from
  λn h1 h2=>h n 0 n (by omega) (λj _ hj=>h1 j hj) h2
 intro k
 induction k with
 | zero=>
  intro i n hi _ h2
  have hin:n=i:=by omega
  subst hin;exact Ah h2
 | succ k ih=>intro i n hi h1 h2;rw[An (h1 i (zzL7 _) (by omega))];exact ih (i+1) n (by omega) (λj hj hj'=>h1 j (by omega) hj') h2
theorem HG{S X:Type}(f:S->Option (LR S X))(T:Nat->S):∀(n:Nat),(∀ i,i<n->f (T i)=some (.next (T (i+1))))->Ag f (T 0)=Ag f (T n):=by
 intro n
 induction n with
 | zero=>intro _;rfl
 | succ n ih=>intro h;rw[ih (λi hi=>h i (by omega)),An (h n (by omega))]
theorem Lu{S X:Type}(f:S->Option (LR S X))(T:Nat->S)(p:Nat->Bool)(yes no:X)(n:Nat)(hn:∀ i,i<n->p i=true->f (T i)=some (.next (T (i+1))))(hf:∀ i,i<n->p i=false->f (T i)=some (.done no))
  (he:f (T n)=some (.done yes)):Ag f (T 0)=some (bif (List.range n).all p then yes else no):=by
 cases hall:(List.range n).all p with
 | true=>
  rw[Ad];exact Xi f T yes n (λi hi=>hn i hi (zzL27.1 hall i (zzL44.2 hi))) he
 | false=>
  rw[Au]
  have hex:∃ i,i<n/\p i=false:=by
   have:¬ ∀ i∈List.range n,p i=true:=λh=>by rw[zzL27.2 h]at hall;cases hall
   simpa using this
  let P:Nat->Prop:=λm=>m<n/\p m=false
  obtain⟨m,hm⟩:=hex
  have key:∀ m,m<n->p m=false->∃ k,k<n/\p k=false/\∀ j,j<k->p j=true:=by
   intro m
   induction m using Nat.strongRecOn with
   | ind m ih=>
    intro h1 h2
    by_cases h:∃ j,j<m/\p j=false
    ·obtain⟨j,hj,hpj⟩:=h;exact ih j hj (by omega) hpj
    ·refine⟨m,h1,h2,λj hj=>?_⟩
     cases hpj:p j with
     | true=>rfl
     | false=>exact(h ⟨j,hj,hpj⟩).elim
  obtain⟨k,hk,hpk,hlt⟩:=key m hm.1 hm.2;rw[HG f T k (λi hi=>hn i (by omega) (hlt i hi))];exact Ah (hf k hk hpk)
theorem all_range{n:Nat}{p:Nat->Bool}:(List.range n).all p=true↔∀ i,i<n->p i=true:=by
 rw[zzL27];exact⟨λh i hi=>h i (zzL44.2 hi),λh i hi=>h i (zzL44.1 hi)⟩
theorem A4(i:Nat):((i:Int)).toNat=i:=Dk i
theorem w1{i:Nat}(h:i<4611686018427387904):Bh ((i:Int)+1)=((i+1:Nat):Int):=by rw[Gb (by omega) (by omega)];omega
theorem Fz{i n:Nat}(h:i<n):decide (((i:Nat):Int)<((n:Nat):Int))=true:=by simpa using h
theorem Kp{n:Nat}:decide (((n:Nat):Int)<((n:Nat):Int))=false:=by simp
theorem Jf{i n:Nat}(h:i<n):Bt ((i:Nat):Int) n:=A9 h
theorem mK{x:Int}{n:Nat}(h0:0<=x)(h1:x<n):Bt x n:=⟨h0,h1⟩
structure bX(o:Cz):Prop where
 imm:0<=o.Imm/\o.Imm<18446744073709551616
 args:o.Args.length<=200
theorem UN(x:Int×Int)(n:Int)(h:n=2\/n=4\/n=8\/n=16):Bp [x] n=some (List.replicate n.toNat x):=by
 let d:Int×Int:=(0,0)
 rcases h with rfl|rfl|rfl|rfl
 ·have e:Bp [x] 2=(Ag Ca (1,[x,d])).bind some:=by kernel_rfl
  rw[e,An (s':=(2,[x,x])) (by kernel_rfl),Ah (x:=[x,x]) (by kernel_rfl)]
  rfl
 ·have e:Bp [x] 4=(Ag Ca (1,[x,d,d,d])).bind some:=by kernel_rfl
  rw[e,An (s':=(2,[x,x,d,d])) (by kernel_rfl),An (s':=(4,[x,x,x,x])) (by kernel_rfl),Ah (x:=[x,x,x,x]) (by kernel_rfl)]
  rfl
 ·have e:Bp [x] 8=(Ag Ca (1,[x,d,d,d,d,d,d,d])).bind some:=by kernel_rfl
  rw[e,An (s':=(2,[x,x,d,d,d,d,d,d])) (by kernel_rfl),An (s':=(4,[x,x,x,x,d,d,d,d])) (by kernel_rfl),An (s':=(8,[x,x,x,x,x,x,x,x])) (by kernel_rfl),
   Ah (x:=[x,x,x,x,x,x,x,x]) (by kernel_rfl)]
  rfl
 ·have e:Bp [x] 16=(Ag Ca (1,[x,d,d,d,d,d,d,d,d,d,d,d,d,d,d,d])).bind some:=by kernel_rfl
  rw[e,An (s':=(2,[x,x,d,d,d,d,d,d,d,d,d,d,d,d,d,d])) (by kernel_rfl),An (s':=(4,[x,x,x,x,d,d,d,d,d,d,d,d,d,d,d,d])) (by kernel_rfl),
   An (s':=(8,[x,x,x,x,x,x,x,x,d,d,d,d,d,d,d,d])) (by kernel_rfl),An (s':=(16,List.replicate 16 x)) (by kernel_rfl),Ah (x:=List.replicate 16 x) (by kernel_rfl)]
  rfl
theorem dG(l:List (Int×Int)):Fc l=some l:=rfl
theorem EK(o:Cz)(hs:U1 o.Bits o.Lanes=true)(hk:dB o.Kind=true)(hf:X7 o.Kind o.Bits o.Lanes=true):K1 o=some (N8 o):=by
 have hl:=Mk hs;obtain⟨k,b,n,d,args,i⟩:=o;simp only at hs hk hf hl ⊢;rcases kinds k with rfl|rfl|rfl|rfl|rfl|rfl|rfl|rfl|rfl|rfl|rfl|rfl|rfl|rfl|rfl|rfl|rfl|rfl|rfl|rfl|rfl|rfl|rfl|h
 case inr.inr.inr.inr.inr.inr.inr.inr.inr.inr.inr.inr.inr.inr.inr.inr.inr.inr.inr.inr.inr.inl=>
  have h1:n≠1:=by rintro rfl;simp[X7]at hf
  have h4:n=2\/n=4\/n=8\/n=16:=by omega
  unfold K1;rw[show(((21:Int))==21)=true from rfl];simp only[UN _ _ h4,dG,Ao];rcases h4 with rfl|rfl|rfl|rfl<;>rfl
 all_goals first
  | rfl
  | (rw[gy h]at hk;cases hk)
  | (rcases hl with rfl|rfl|rfl|rfl|rfl<;>first|rfl|(simp[X7]at hf))
theorem LZ(o:Cz)(hs:U1 o.Bits o.Lanes=true)(hk:dB o.Kind=true)(hf:X7 o.Kind o.Bits o.Lanes=true)(hl:o.Args.length<=200):Kx o=some (((o.Args.length:Int)==Lk o.Kind o.Lanes)&&o.Args.all valS):=by
 unfold Kx;rw[EK o hs hk hf]
 have hn:0<=Lk o.Kind o.Lanes:=by
  have:=Mk hs;unfold Lk
  cases(o.Kind==0)<;>cases(o.Kind==13 || o.Kind==18 || o.Kind==19)<;>cases(o.Kind==14 || o.Kind==15 || o.Kind==16 || o.Kind==22)<;>cases(o.Kind==20)<;>cases(o.Kind==21)<;>simp<;>omega
 have hlen:((N8 o).length:Int)=Lk o.Kind o.Lanes:=by simp[N8];omega
 simp only[Ao,hlen]
 by_cases he:(o.Args.length:Int)=Lk o.Kind o.Lanes
 ·have e1:((o.Args.length:Int)==Lk o.Kind o.Lanes)=true:=by simpa using he
  have e2:((o.Args.length:Int)!=Lk o.Kind o.Lanes)=false:=by simpa using he
  rw[e1,e2,Au]
  have hloop:=Tb o.Args (0:Int) valS (Gs o) (.inl ()) (.inr false) (λi hi hp=>by
    unfold Gs
    have:decide ((i:Int)<(o.Args.length:Int))=true:=by simpa using hi
    simp only[this,Ad,Ap (A9 hi),Dk,Qv,Ao,hp,Fa,Au,Dv hi (by omega)]) (λi hi hp=>by
    unfold Gs
    have:decide ((i:Int)<(o.Args.length:Int))=true:=by simpa using hi
    simp only[this,Ad,Ap (A9 hi),Dk,Qv,Ao,hp,Jj]) (by
    unfold Gs
    simp) o.Args.length 0 (by omega)
  rw[show(0:Int)=((0:Nat):Int) from rfl,hloop,Lm]
  cases o.Args.all valS<;>rfl
 ·have e1:((o.Args.length:Int)==Lk o.Kind o.Lanes)=false:=by simpa using he
  have e2:((o.Args.length:Int)!=Lk o.Kind o.Lanes)=true:=by simpa using he
  rw[e1,e2];rfl
theorem ED{k b n:Int}(hs:U1 b n=true):((Mu k b n).1==0)=(k==17 || k==19):=by
 have hb:(b==0)=false:=by
  have:=width_cases (shape_width hs);simp;omega
 unfold Mu
 cases(k==17 || k==19)<;>cases(k==10 || k==11 || k==12)<;>cases(k==22)<;>simp_all
theorem MA(o:Cz)(hs:U1 o.Bits o.Lanes=true):Ky o=some (dstS o.Kind o.Dst):=by
 unfold Ky;simp only[EI,Ao,ED hs,Qv,dstS]
 cases(o.Kind==17 || o.Kind==19)<;>rfl
theorem EH(o:Cz)(ho:bX o):Ly o=some (Jg o):=by
 unfold Ly Jg;simp only[PE,TT,EJ,Ao]
 cases hs:U1 o.Bits o.Lanes with
 | false=>cases dB o.Kind<;>rfl
 | true=>
  have hl:=Mk hs
  cases hk:dB o.Kind with
  | false=>rfl
  | true=>
   rw[MB o (shape_width hs) (by omega) ho.imm];simp only[MA o hs]
   cases hf:X7 o.Kind o.Bits o.Lanes with
   | false=>rfl
   | true=>
    rw[LZ o hs hk hf ho.args]
    generalize ifitS o.Kind o.Bits o.Lanes o.Imm=p
    generalize ((o.Args.length:Int)==Lk o.Kind o.Lanes)=q
    generalize o.Args.all valS=r
    generalize dstS o.Kind o.Dst=s
    cases p<;>cases q<;>cases r<;>cases s<;>rfl
theorem Xn{o:Cz}(h:Jg o=true):U1 o.Bits o.Lanes=true/\dB o.Kind=true/\X7 o.Kind o.Bits o.Lanes=true/\ifitS o.Kind o.Bits o.Lanes o.Imm=true/\(o.Args.length:Int)=Lk o.Kind o.Lanes/\o.Args.all valS=true/\dstS o.Kind o.Dst=true:=by
 simp only[Jg,A3,zzL71]at h;exact⟨h.1.1,h.1.2.1.1.1,h.1.2.1.1.2,h.1.2.1.2,h.1.2.2,h.2.1,h.2.2⟩
theorem TU(o:Cz)(ho:bX o):Kw o=some (bif Jg o then N8 o else[]):=by
 unfold Kw;rw[EH o ho];simp only[Ao]
 cases hm:Jg o with
 | false=>rfl
 | true=>
  obtain⟨h1,h2,h3,_⟩:=Xn hm;simp only[EK o h1 h2 h3,Ao]
  rfl
theorem TS(o:Cz)(ho:bX o):Kv o=some (bif Jg o then Mu o.Kind o.Bits o.Lanes else(0,0)):=by
 unfold Kv;rw[EH o ho];simp only[Ao,EI]
 cases Jg o<;>rfl
def numB(n:Int):Bool:=decide (0<=n)&&decide (n<=2147483647)
def Me(l:List Int):Bool:=l.all numB&&decide (l.length<=64)
def HT(p:Fh):Bool:=numB p.Bits&&numB p.Dst&&Me p.From&&Me p.Args
def dk(o:Cz):Bool:=numB o.Kind&&numB o.Bits&&numB o.Lanes&&numB o.Dst&&Me o.Args
def ZC(e:Hs):Bool:=numB e.Kind&&numB e.Arg&&Me e.To
def blockB(b:Af):Bool:=b.Phis.all HT&&b.Ops.all dk&&ZC b.End
def sizeB(b:Af):Nat:=b.Phis.length+b.Ops.length+1
def P6(f:TFunc):Nat:=(f.Blocks.map sizeB).sum
def sizeW(f:TFunc):Int:=Bh (P6 f)
def U2(f:TFunc):Bool:=decide (1<=f.Blocks.length)&&decide (f.Blocks.length<=64)&&decide (f.Params.length<=16)&&Me f.Params&&numB f.Ret&&decide (sizeW f<=512)&&f.Blocks.all blockB
def ZF(p:Fh):Nat:=1+p.From.length+p.Args.length
def LV(o:Cz):Nat:=1+o.Args.length
def ZD(b:Af):Nat:=1+b.End.To.length+(b.Phis.map ZF).sum+(b.Ops.map LV).sum
def ZE(f:TFunc):Nat:=f.Params.length+(f.Blocks.map ZD).sum
theorem I7:maxLen=9223372036854775807:=rfl
structure YB(f:TFunc):Prop where
 params:f.Params.length<=maxLen
 blocks:f.Blocks.length<=maxLen
 block:∀ b∈f.Blocks,b.Phis.length<=maxLen/\b.Ops.length<=maxLen/\b.End.To.length<=maxLen
 phi:∀ b∈f.Blocks,∀ p∈b.Phis,p.From.length<=maxLen/\p.Args.length<=maxLen
 op:∀ b∈f.Blocks,∀ o∈b.Ops,o.Args.length<=maxLen/\0<=o.Imm/\o.Imm<18446744073709551616
theorem inF{f:TFunc}(h:okTFunc f):YB f:=
 ⟨h.1.2,h.2.2.1.2,λb hb=>⟨(h.2.2.1.1 b hb).1.2,(h.2.2.1.1 b hb).2.1.2,(h.2.2.1.1 b hb).2.2.1.2.2.1.2⟩,λb hb p hp=>⟨((h.2.2.1.1 b hb).1.1 p hp).2.2.1.2,((h.2.2.1.1 b hb).1.1 p hp).2.2.2.1.2⟩,
  λb hb o ho=>⟨((h.2.2.1.1 b hb).2.1.1 o ho).2.2.2.2.1.2,lA ((h.2.2.1.1 b hb).2.1.1 o ho).2.2.2.2.2.1⟩⟩
theorem DC{n:Nat}(h:n<9223372036854775808):Bh (n:Int)=n:=Gb (by omega) (by omega)
theorem H4{i n:Nat}(h:i<n)(hn:n<=maxLen):Bh ((i:Int)+1)=((i+1:Nat):Int):=by rw[I7]at hn;rw[show((i:Int)+1)=((i+1:Nat):Int) by omega,DC (by omega)]
theorem GB(f:TFunc)(hf:YB f):∃ b,B7 f=some b:=by
 have h3:∃ x,Ag (Bq f) ((f.Params.length:Int),((0:Nat):Int))=some x:=by
  refine Nv f.Blocks.length (Bq f) (λn i hi=>?_) (λn=>?_) f.Blocks.length 0 _ (Fi _)
  ·have hmem:=getD_mem (d:=(default:Af)) hi;obtain⟨b1,b2,_⟩:=hf.block _ hmem;have hI:Bt (i:Int) f.Blocks.length:=A9 hi;unfold Bq
   cases hc:(bif decide ((i:Int)<(f.Blocks.length:Int)) then decide (n<=20000) else false) with
   | false=>right;simp only[hc,Au];exact⟨_,rfl⟩
   | true=>
    left
    simp only[hc,Ad,Ap hI]
    obtain⟨x1,h1⟩:=Nv (f.Blocks.getD i default).Phis.length (B4 f i) (λn j hj=>by
      unfold B4;simp only[Ap hI,Dk]
      cases hc:(bif decide ((j:Int)<((f.Blocks.getD i default).Phis.length:Int)) then decide (n<=20000) else false) with
      | false=>right;exact⟨_,rfl⟩
      | true=>left;simp only[Ad,Ap (A9 hj),H4 hj b1];exact⟨_,rfl⟩) (λn=>by
      unfold B4;simp only[Ap hI,Dk]
      have:decide (((f.Blocks.getD i default).Phis.length:Int)<((f.Blocks.getD i default).Phis.length:Int))=false:=by simp
      simp only[this,Au];exact⟨_,rfl⟩) _ 0 (Bh (Bh (n+1)+((f.Blocks.getD i default).End.To.length:Int))) (Fi _)
    obtain⟨x2,h2⟩:=Nv (f.Blocks.getD i default).Ops.length (B5 f i) (λn j hj=>by
      unfold B5;simp only[Ap hI,Dk]
      cases hc:(bif decide ((j:Int)<((f.Blocks.getD i default).Ops.length:Int)) then decide (n<=20000) else false) with
      | false=>right;exact⟨_,rfl⟩
      | true=>left;simp only[Ad,Ap (A9 hj),H4 hj b2];exact⟨_,rfl⟩) (λn=>by
      unfold B5;simp only[Ap hI,Dk]
      have:decide (((f.Blocks.getD i default).Ops.length:Int)<((f.Blocks.getD i default).Ops.length:Int))=false:=by simp
      simp only[this,Au];exact⟨_,rfl⟩) _ 0 x1 (Fi _)
    rw[show((0:Nat):Int)=0 from rfl]at h1 h2;simp only[Dk,h1,h2,Ao,H4 hi hf.blocks];exact⟨_,rfl⟩
  ·unfold Bq
   have:decide ((f.Blocks.length:Int)<(f.Blocks.length:Int))=false:=by simp
   simp only[this,Au];exact⟨_,rfl⟩
 obtain⟨x,hx⟩:=h3;unfold B7;rw[show((0:Nat):Int)=0 from rfl]at hx;rw[hx];exact⟨_,rfl⟩
theorem RB(f:TFunc)(hf:YB f)(h0:f.Params.length<=64)(hb:∀ b∈f.Blocks,b.End.To.length<=64/\(∀ p∈b.Phis,p.From.length<=64/\p.Args.length<=64)/\∀ o∈b.Ops,o.Args.length<=64):B7 f=some (decide (ZE f<=20000)):=by
 have h3:=Xj f.Blocks (default:Af) ZD 20000 (Bq f) (λn i hi hn=>by
   have hmem:=getD_mem (d:=(default:Af)) hi;obtain⟨b1,b2,b3⟩:=hf.block _ hmem;obtain⟨hTo,hPh,hOp⟩:=hb _ hmem;have hI1:Bt (i:Int) f.Blocks.length:=A9 hi
   have l1:=Xj (f.Blocks.getD i default).Phis (default:Fh) ZF 20000 (B4 f i) (λn j hj hn=>by
     have hm:=getD_mem (d:=(default:Fh)) hj;obtain⟨p1,p2⟩:=hPh _ hm
     have e1:decide ((j:Int)<((f.Blocks.getD i default).Phis.length:Int))=true:=by simpa using hj
     have e2:decide ((n:Int)<=20000)=true:=by simp;omega
     refine⟨n+ZF ((f.Blocks.getD i default).Phis.getD j default),?_,λ_=>rfl,λh=>h⟩;unfold B4;simp only[Ap hI1,Dk,e1,e2,Ad,Ap (A9 hj),H4 hj b1]
     congr 3
     rw[Gb (n:=(n:Int)+1) (by omega) (by omega),Gb (n:=(n:Int)+1+_) (by omega) (by omega),Gb (by omega) (by omega)];simp only[ZF]
     omega) (λn j hj hd=>by
     unfold B4;simp only[Ap hI1,Dk]
     have:(bif decide ((j:Int)<((f.Blocks.getD i default).Phis.length:Int)) then decide ((n:Int)<=20000) else false)=false:=by
      rcases hd with rfl|h
      ·simp
      ·simp;omega
     rw[this];rfl)
   have l2:=Xj (f.Blocks.getD i default).Ops (default:Cz) LV 20000 (B5 f i) (λn j hj hn=>by
     have hm:=getD_mem (d:=(default:Cz)) hj;have p1:=hOp _ hm
     have e1:decide ((j:Int)<((f.Blocks.getD i default).Ops.length:Int))=true:=by simpa using hj
     have e2:decide ((n:Int)<=20000)=true:=by simp;omega
     refine⟨n+LV ((f.Blocks.getD i default).Ops.getD j default),?_,λ_=>rfl,λh=>h⟩;unfold B5;simp only[Ap hI1,Dk,e1,e2,Ad,Ap (A9 hj),H4 hj b2]
     congr 3
     rw[Gb (n:=(n:Int)+1) (by omega) (by omega),Gb (by omega) (by omega)];simp only[LV]
     omega) (λn j hj hd=>by
     unfold B5;simp only[Ap hI1,Dk]
     have:(bif decide ((j:Int)<((f.Blocks.getD i default).Ops.length:Int)) then decide ((n:Int)<=20000) else false)=false:=by
      rcases hd with rfl|h
      ·simp
      ·simp;omega
     rw[this];rfl)
   have e1:decide ((i:Int)<(f.Blocks.length:Int))=true:=by simpa using hi
   have e2:decide ((n:Int)<=20000)=true:=by simp;omega
   obtain⟨m1,q1,q2,q3⟩:=l1 _ 0 (n+1+(f.Blocks.getD i default).End.To.length) (Fi _);obtain⟨m2,q4,q5,q6⟩:=l2 _ 0 m1 (Fi _);rw[Lm]at q2 q3 q5 q6;refine⟨m2,?_,λhle=>?_,λhle=>?_⟩
   ·unfold Bq;simp only[e1,e2,Ad,Ap hI1,Dk,H4 hi hf.blocks];rw[Gb (n:=(n:Int)+1) (by omega) (by omega),Gb (by omega) (by omega),show(n:Int)+1+((f.Blocks.getD i default).End.To.length:Int)=((n+1+(f.Blocks.getD i default).End.To.length:Nat):Int) by omega];rw[show((0:Nat):Int)=0 from rfl]at q1 q4;rw[q1,Ao,q4,Ao]
   ·simp only[ZD]at hle ⊢;have:=q2 (by omega);rw[q5 (by omega)];omega
   ·simp only[ZD];have h6:=q6 hle;have h3:=q3 (by omega);have:=q2 h3
    omega) (λn i hi hd=>by
   unfold Bq
   have:(bif decide ((i:Int)<(f.Blocks.length:Int)) then decide ((n:Int)<=20000) else false)=false:=by
    rcases hd with rfl|h
    ·simp
    ·simp;omega
   simp only[this,Au]) f.Blocks.length 0 f.Params.length (Fi _)
 obtain⟨m,h1,h2,h4⟩:=h3;rw[Lm]at h2 h4;unfold B7;rw[show((0:Nat):Int)=0 from rfl]at h1;rw[h1,Ao]
 congr 1
 apply zzL108.2
 simp only[ZE]
 constructor
 ·intro h;exact h4 (by omega)
 ·intro h;have:=h2 h;omega
theorem dT{n:Int}:numB n=true↔0<=n/\n<=2147483647:=by simp[numB]
theorem listB_iff{l:List Int}:Me l=true↔cy l/\l.length<=64:=by
 simp[Me,cy,dT]
def mi(n:Int):Prop:=0<=n/\n<18446744073709551616
structure o4(b:Af):Prop where
 may:blockB b=true
 phis:b.Phis.length<=512
 ops:b.Ops.length<=512
 imm:∀ o∈b.Ops,mi o.Imm
structure OkF(f:TFunc):Prop where
 params:Me f.Params=true
 few:f.Params.length<=16
 ret:numB f.Ret=true
 blocks:f.Blocks.length<=64
 block:∀ b∈f.Blocks,o4 b
theorem blockB_iff{b:Af}:blockB b=true↔(∀ p∈b.Phis,HT p=true)/\(∀ o∈b.Ops,dk o=true)/\ZC b.End=true:=by
 simp[blockB,and_assoc]
theorem k6{α:Type}(l:List α)(g:α->Nat)(B:Nat)(h:∀ a∈l,g a<=B):(l.map g).sum<=l.length*B:=by
 induction l with
 | nil=>simp
 | cons a l ih=>
  have h1:=h a (by simp);have h2:=ih (λb hb=>h b (by simp[hb]));rw[Br,Vx,M6,D1];omega
theorem eI{α:Type}(l:List α)(g k:α->Nat)(h:∀ a∈l,g a<=k a):(l.map g).sum<=(l.map k).sum:=by
 induction l with
 | nil=>simp
 | cons a l ih=>
  have h1:=h a (by simp);have h2:=ih (λb hb=>h b (by simp[hb]));rw[Br,Vx,Br,Vx];omega
theorem EM{α:Type}(l:List α)(g:α->Nat)(h:∀ a∈l,1<=g a):l.length<=(l.map g).sum:=by
 induction l with
 | nil=>simp
 | cons a l ih=>
  have h1:=h a (by simp);have h2:=ih (λb hb=>h b (by simp[hb]));rw[Br,Vx,M6];omega
theorem TX{α:Type}{l:List α}{a:α}(g:α->Nat)(h:a∈l):g a<=(l.map g).sum:=by
 induction l with
 | nil=>cases h
 | cons b l ih=>
  rw[Br,Vx];rcases zzL25.1 h with rfl|h
  ·omega
  ·have:=ih h;omega
theorem OkF.size{f:TFunc}(h:OkF f):P6 f<=65600/\sizeW f=P6 f:=by
 have:P6 f<=f.Blocks.length*1025:=k6 _ _ _ λb hb=>by
  have h1:=(h.block b hb).phis;have h2:=(h.block b hb).ops;simp only[sizeB];omega
 have h2:=h.blocks
 have h3:P6 f<=65600:=by omega
 exact⟨h3,DC (by omega)⟩
theorem Y5{f:TFunc}(h:U2 f=true):1<=f.Blocks.length/\f.Blocks.length<=64/\f.Params.length<=16/\Me f.Params=true/\numB f.Ret=true/\sizeW f<=512/\∀ b∈f.Blocks,blockB b=true:=by
 simp only[U2,A3,Dw,zzL27]at h;exact⟨h.1.1.1.1.1.1,h.1.1.1.1.1.2,h.1.1.1.1.2,h.1.1.1.2,h.1.1.2,h.1.2,h.2⟩
theorem ZV{f:TFunc}(h:U2 f=true):f.Params.length<=64/\∀ b∈f.Blocks,b.End.To.length<=64/\(∀ p∈b.Phis,p.From.length<=64/\p.Args.length<=64)/\∀ o∈b.Ops,o.Args.length<=64:=by
 obtain⟨_,_,h3,_,_,_,h7⟩:=Y5 h;refine⟨by omega,λb hb=>?_⟩;obtain⟨q1,q2,q3⟩:=blockB_iff.1 (h7 b hb);simp only[ZC,A3]at q3;refine⟨(listB_iff.1 q3.2).2,λp hp=>?_,λo ho=>?_⟩
 ·have:=q1 p hp;simp only[HT,A3]at this;exact⟨(listB_iff.1 this.1.2).2,(listB_iff.1 this.2).2⟩
 ·have:=q2 o ho;simp only[dk,A3]at this;exact(listB_iff.1 this.2).2
theorem kh{f:TFunc}(hf:YB f)(h:U2 f=true)(hs:ZE f<=20000):OkF f/\P6 f<=512:=by
 obtain⟨h1,h2,h3,h4,h5,h6,h7⟩:=Y5 h
 have hle:P6 f<=ZE f:=by
  have:P6 f<=(f.Blocks.map ZD).sum:=eI _ _ _ λb hb=>by
   have q1:b.Phis.length<=(b.Phis.map ZF).sum:=EM _ _ λp hp=>by simp only[ZF];omega
   have q2:b.Ops.length<=(b.Ops.map LV).sum:=EM _ _ λp hp=>by simp only[LV];omega
   simp only[sizeB,ZD];omega
  simp only[ZE];omega
 have hw:sizeW f=P6 f:=DC (by omega)
 have h512:P6 f<=512:=by omega
 refine⟨⟨h4,h3,h5,h2,λb hb=>?_⟩,h512⟩;have hb512:sizeB b<=P6 f:=TX sizeB hb;simp only[sizeB]at hb512;exact⟨h7 b hb,by omega,by omega,λo ho=>(hf.op b hb o ho).2⟩
theorem RC(f:TFunc)(hf:YB f):∃ sm,B7 f=some sm/\(sm=true->U2 f=true->OkF f/\P6 f<=512/\1<=f.Blocks.length):=by
 obtain⟨sm,h⟩:=GB f hf;refine⟨sm,h,λh1 h2=>?_⟩;obtain⟨q1,q2⟩:=ZV h2;rw[RB f hf q1 q2]at h;subst h1;obtain⟨r1,r2⟩:=kh hf h2 (by simpa using OI h);exact⟨r1,r2,(Y5 h2).1⟩
def MG(l:Int):Int:=bif l==0 then 17 else bif l==1 then 20 else 22
def Ng(l:Int)(o:Cz):Bool:=Jg o&&!decide (MG l<o.Kind)&&!(decide (l<2)&&decide (1<o.Lanes))
def Hk(l:Int)(b:Af):Bool:=(b.Phis.all λp=>Ec p.Bits)&&b.Ops.all (Ng l)
def Ty(f:TFunc)(l:Int):Bool:=f.Params.all Ec&&f.Blocks.all (Hk l)&&Ec f.Ret
theorem kv{f:TFunc}(hf:OkF f){b:Af}(hb:b∈f.Blocks){o:Cz}(ho:o∈b.Ops):bX o:=by
 have h1:=hf.block b hb;have h2:=(blockB_iff.1 h1.may).2.1 o ho;simp only[dk,A3]at h2;exact⟨⟨(h1.imm o ho).1,(h1.imm o ho).2⟩,by have:=(listB_iff.1 h2.2).2;omega⟩
theorem XJ:room=1099511627776:=rfl
theorem J9{β:Type}(C:Nat)(E:Nat->List β):∀ l:List Nat,(∀ i∈l,(E i).length<=C)->(l.flatMap E).length<=l.length*C
 | [],_=>by simp
 | a::l,h=>by
  have h1:=h a (by simp);have h2:=J9 C E l (λi hi=>h i (by simp[hi]));rw[Yh,Eo,M6,D1];omega
def Ii(l:List TDef)(v:Int):Int:=match l.findIdx? (λd=>d.V==v) with|some i=>(i:Int)|none=>-1
def H9(o:Cz):Int×Int:=bif Jg o then Mu o.Kind o.Bits o.Lanes else(0,0)
def F1(o:Cz):List (Int×Int):=bif Jg o then N8 o else[]
def Lh(f:TFunc):List TDef:=(List.range f.Params.length).flatMap λ(i:Nat)=>[⟨(i:Int)+1,-1,0,(f.Params.getD i 0,1)⟩]
def Uj(b:Af)(i:Nat):List TDef:=(List.range b.Phis.length).flatMap λ(k:Nat)=>[⟨(b.Phis.getD k default).Dst,i,-1,((b.Phis.getD k default).Bits,1)⟩]
def DU(b:Af)(i:Nat):List TDef:=(List.range b.Ops.length).flatMap λ(k:Nat)=>bif decide (0<(H9 (b.Ops.getD k default)).1) then[⟨(b.Ops.getD k default).Dst,i,k,H9 (b.Ops.getD k default)⟩] else[]
def Ma(b:Af)(i:Nat):List TDef:=Uj b i++DU b i
def Ax(f:TFunc):List TDef:=Lh f++(List.range f.Blocks.length).flatMap λi=>Ma (f.Blocks.getD i default) i
theorem IL(f:TFunc):(Lh f).length=f.Params.length:=by
 have h:∀ l:List Nat,(l.map λ_=>1).sum=l.length:=λl=>by induction l with|nil=>rfl|cons a l ih=>simp[ih];omega
 simp[Lh,List.length_flatMap,h]
def La(p:Fh):List Mq:=(List.range p.Args.length).flatMap λ(j:Nat)=>[⟨p.Args.getD j 0,p.From.getD j 0,1000,(p.Bits,1)⟩]
def Rq(b:Af):List Mq:=(List.range b.Phis.length).flatMap λ(k:Nat)=>La (b.Phis.getD k default)
def Nl(o:Cz)(i k:Nat):List Mq:=(List.range (F1 o).length).flatMap λ(j:Nat)=>[⟨o.Args.getD j 0,i,k,(F1 o).getD j (0,0)⟩]
def Zu(b:Af)(i:Nat):List Mq:=(List.range b.Ops.length).flatMap λ(k:Nat)=>Nl (b.Ops.getD k default) i k
def Uy(f:TFunc)(b:Af)(i:Nat):List Mq:=(bif b.End.Kind==0 then[⟨b.End.Arg,i,1000,(f.Ret,1)⟩] else[])++(bif b.End.Kind==2 then[⟨b.End.Arg,i,1000,(1,1)⟩] else[])
def BL(f:TFunc)(b:Af)(i:Nat):List Mq:=Rq b++Zu b i++Uy f b i
def Eb(f:TFunc):List Mq:=(List.range f.Blocks.length).flatMap λ(i:Nat)=>BL f (f.Blocks.getD i default) i
theorem GD{o:Cz}(h:o.Args.length<=64):(F1 o).length<=64/\(F1 o).length<=o.Args.length:=by
 unfold F1
 cases hm:Jg o with
 | false=>simp
 | true=>
  simp only[Ad]
  have:((o.Args.length:Int)==Lk o.Kind o.Lanes)=true:=by
   simp only[Jg,A3]at hm;exact hm.1.2.2
  have h2:(o.Args.length:Int)=Lk o.Kind o.Lanes:=by simpa using this
  have h3:(N8 o).length=o.Args.length:=by rw[N8,Qd,Vs,<- h2,Dk]
  omega
theorem dh{f:TFunc}(hf:OkF f){b:Af}(hb:b∈f.Blocks){p:Fh}(hp:p∈b.Phis):p.From.length<=64/\p.Args.length<=64:=by
 have:=(blockB_iff.1 (hf.block b hb).may).1 p hp;simp only[HT,A3]at this;exact⟨(listB_iff.1 this.1.2).2,(listB_iff.1 this.2).2⟩
theorem ja{f:TFunc}(hf:OkF f){b:Af}(hb:b∈f.Blocks){o:Cz}(ho:o∈b.Ops):o.Args.length<=64:=by
 have:=(blockB_iff.1 (hf.block b hb).may).2.1 o ho;simp only[dk,A3]at this;exact(listB_iff.1 this.2).2
theorem NC(p:Fh):(La p).length<=p.Args.length:=by
 have:=J9 1 (λ(j:Nat)=>[(⟨p.Args.getD j 0,p.From.getD j 0,1000,(p.Bits,1)⟩:Mq)]) (List.range p.Args.length) (λ_ _=>zzL7 _)
 simpa [La] using this
theorem RL(o:Cz)(i k:Nat):(Nl o i k).length<=(F1 o).length:=by
 have:=J9 1 (λ(j:Nat)=>[(⟨o.Args.getD j 0,i,k,(F1 o).getD j (0,0)⟩:Mq)]) (List.range (F1 o).length) (λ_ _=>zzL7 _)
 simpa [Nl] using this
theorem RM{f:TFunc}(hf:OkF f){b:Af}(hb:b∈f.Blocks):(Rq b).length<=32768:=by
 have:=J9 64 (λ(k:Nat)=>La (b.Phis.getD k default)) (List.range b.Phis.length) (λk hk=>by
  have h1:=NC (b.Phis.getD k default);have h2:=(dh hf hb (getD_mem (d:=(default:Fh)) (by simpa using hk))).2
  omega)
 have h3:=(hf.block b hb).phis;rw[Vs]at this;have h4:b.Phis.length*64<=512*64:=Do _ h3;rw[Rq];omega
theorem UY{f:TFunc}(hf:OkF f){b:Af}(hb:b∈f.Blocks)(i:Nat):(Zu b i).length<=32768:=by
 have:=J9 64 (λ(k:Nat)=>Nl (b.Ops.getD k default) i k) (List.range b.Ops.length) (λk hk=>by
  have h1:=RL (b.Ops.getD k default) i k;have h2:=(GD (ja hf hb (getD_mem (d:=(default:Cz)) (by simpa using hk)))).1
  omega)
 have h3:=(hf.block b hb).ops;rw[Vs]at this;have h4:b.Ops.length*64<=512*64:=Do _ h3;rw[Zu];omega
theorem RK(f:TFunc)(b:Af)(i:Nat):(Uy f b i).length<=2:=by
 unfold Uy
 cases b.End.Kind==0<;>cases b.End.Kind==2<;>simp
theorem bF{f:TFunc}(hf:OkF f){i:Nat}(hi:i<f.Blocks.length):(BL f (f.Blocks.getD i default) i).length<=70000:=by
 have hmem:=getD_mem (d:=(default:Af)) hi;have h1:=RM hf hmem;have h2:=UY hf hmem i;have h3:=RK f (f.Blocks.getD i default) i;rw[BL,Eo,Eo];omega
theorem KE{f:TFunc}(hf:OkF f):(Eb f).length<=4480000:=by
 have h1:=J9 70000 (λ(i:Nat)=>BL f (f.Blocks.getD i default) i) (List.range f.Blocks.length) (λi hi=>bF hf (by simpa using hi));have h4:=hf.blocks;rw[Vs]at h1;have:f.Blocks.length*70000<=64*70000:=Do _ h4;rw[Eb];omega
def iR(f:TFunc):Prop:=∀ b∈f.Blocks,∀ p∈b.Phis,p.Args.length<=p.From.length
def dV(n:Nat)(l:List Int)(i:Nat):Bool:=decide ((if i=0 then(-1:Int) else l.getD (i-1) 0)<l.getD i 0)&&(decide (0<=l.getD i 0)&&decide (l.getD i 0<n))
def fU(n:Nat)(l:List Int):Bool:=(List.range l.length).all (dV n l)
def Lz(L:List (List Int)):Bool:=decide (1<=L.length)&&decide (L.length<=64)&&(List.range L.length).all λi=>fU L.length (L.getD i [])
def AR(L:List (List Int))(k i:Nat):Bool:=(L.getD k []).contains (i:Int)
def J6(L:List (List Int))(m i:Nat):List Int:=((List.range m).filter λk=>AR L k i).map Int.ofNat
def Fe(L:List (List Int)):List (List Int):=(List.range L.length).map (J6 L L.length)
theorem Pu(a n:Int):Gg a n=some (decide (0<=a)&&decide (a<n)):=by
 unfold Gg
 cases decide ((0:Int)<=a)<;>rfl
theorem JE(n:Nat):Hy (n:Int)=some (decide (1<=n)&&decide (n<=64)):=by
 unfold Hy
 have h1:decide ((1:Int)<=(n:Int))=decide (1<=n):=by apply zzL108.2;omega
 have h2:decide ((n:Int)<=(64:Int))=decide (n<=64):=by apply zzL108.2;omega
 rw[h1,h2]
 cases decide (1<=n)<;>rfl
theorem GC(L:List (List Int))(i:Nat)(hl:(L.getD i []).length<4611686018427387904) :
  Ag (Cn L (i:Int)) ((-1:Int),(0:Int))=some (bif fU L.length (L.getD i []) then .inl () else .inr false):=by
 refine Lu (Cn L (i:Int)) (λj=>((if j=0 then(-1:Int) else(L.getD i []).getD (j-1) 0),((j:Nat):Int))) (dV L.length (L.getD i [])) (.inl ()) (.inr false) _ (λj hj hp=>?_) (λj hj hp=>?_) ?_
 ·unfold dV at hp;simp only[A3,Dw]at hp;obtain⟨h1,h2,h3⟩:=hp
  show Cn L (i:Int) (_,_)=_
  unfold Cn;simp only[A4,Fz hj,Ad,Pu];rw[Ac (Jf hj)]
  have e1:decide ((L.getD i []).getD j 0<=(if j=0 then(-1:Int) else(L.getD i []).getD (j-1) 0))=false:=by simpa using h1
  simp only[e1,Cq h2,Cq h3,R9,Qc,Ad,Au,Ao,Fa];rw[w1 (show j<4611686018427387904 by omega)]
  simp
 ·show Cn L (i:Int) (_,_)=_
  unfold Cn;simp only[A4,Fz hj,Ad,Pu];rw[Ac (Jf hj)]
  cases h1:decide ((L.getD i []).getD j 0<=(if j=0 then(-1:Int) else(L.getD i []).getD (j-1) 0)) with
  | true=>simp only[Ad,show((true==false)=false) from rfl,Au,Ao]
  | false=>
   have h1':decide ((if j=0 then(-1:Int) else(L.getD i []).getD (j-1) 0)<(L.getD i []).getD j 0)=true:=by simpa using h1
   unfold dV at hp;rw[h1',Hi]at hp;simp only[Qc,Ad,Au,Ao,hp,Jj]
 ·show Cn L (i:Int) (_,_)=_
  unfold Cn;simp only[A4,Kp,Au]
def Fits(L:List (List Int)):Prop:=L.length<4611686018427387904/\∀ l∈L,l.length<4611686018427387904
theorem Fits.at{L:List (List Int)}(h:Fits L)(i:Nat):(L.getD i []).length<4611686018427387904:=by
 by_cases hi:i<L.length
 ·exact h.2 _ (getD_mem hi)
 ·rw[P9,List.getElem?_eq_none (by omega)];simp
theorem ZU(L:List (List Int))(h:Fits L):Jy L=some (Lz L):=by
 unfold Jy;rw[JE,Ao];unfold Lz
 cases hc:(decide (1<=L.length)&&decide (L.length<=64)) with
 | false=>rfl
 | true=>
  simp only[Fa,Au,Hi];have:=Lu (Co L) (λj=>((j:Nat):Int)) (λi=>fU L.length (L.getD i [])) (.inl ()) (.inr false) L.length (λj hj hp=>?_) (λj hj hp=>?_) ?_
  ·rw[show Ag (Co L) (0:Int)=_ from this]
   cases(List.range L.length).all λi=>fU L.length (L.getD i [])<;>rfl
  ·show Co L (j:Int)=_
   unfold Co;simp only[Fz hj,Ad];rw[Ac (Jf hj),GC L j (h.at j),hp];simp only[Ad,Ao,w1 (show j<4611686018427387904 by have:=h.1;omega)]
  ·show Co L (j:Int)=_
   unfold Co;simp only[Fz hj,Ad];rw[Ac (Jf hj),GC L j (h.at j),hp]
   rfl
  ·show Co L _=_
   unfold Co;simp only[Kp,Au]
theorem Qu{α:Type}{n i:Nat}{g:Nat->α}{d:α}(h:i<n):((List.range n).map g).getD i d=g i:=by simp[List.getD,h]
theorem MZ{α:Type}{n i:Nat}{g:Nat->α}{x:α}:((List.range n).map g).set i x=(List.range n).map λj=>if j=i then x else g j:=by
 apply List.ext_getElem?
 intro j;rw[List.getElem?_set]
 by_cases hj:j<n
 ·by_cases hij:i=j
  ·subst hij;simp[hj]
  ·simp[hij,hj,G2 hij]
 ·simp[hj];intro h;omega
theorem Pv{α:Type}{n:Nat}{g h:Nat->α}(H:∀ i,i<n->g i=h i):(List.range n).map g=(List.range n).map h:=NF λi hi=>H i (zzL44.1 hi)
theorem mayS_iff{L:List (List Int)}:Lz L=true↔1<=L.length/\L.length<=64/\∀ i,i<L.length->fU L.length (L.getD i [])=true:=by
 unfold Lz;rw[A3,A3,all_range];simp only[Dw];exact⟨λ⟨⟨a,b⟩,c⟩=>⟨a,b,c⟩,λ⟨a,b,c⟩=>⟨⟨a,b⟩,c⟩⟩
theorem okL_iff{n:Nat}{l:List Int}:fU n l=true↔∀ i,i<l.length->(0<=l.getD i 0/\l.getD i 0<n)/\(0<i->l.getD (i-1) 0<l.getD i 0):=by
 unfold fU;rw[all_range];unfold dV;simp only[A3,Dw]
 constructor
 ·intro h i hi;obtain⟨h1,h2,h3⟩:=h i hi;refine⟨⟨h2,h3⟩,λhp=>?_⟩;rwa[if_neg (by omega)]at h1
 ·intro h i hi;obtain⟨⟨h2,h3⟩,h1⟩:=h i hi;refine⟨?_,h2,h3⟩
  by_cases hz:i=0
  ·rw[if_pos hz];omega
  ·rw[if_neg hz];exact h1 (by omega)
section
variable {n:Nat} {l:List Int} (h:fU n l=true)
include h
theorem Za{i:Nat}(hi:i<l.length):0<=l.getD i 0/\l.getD i 0<n:=(okL_iff.1 h i hi).1
theorem dX{i j:Nat}(hij:i<j)(hj:j<l.length):l.getD i 0<l.getD j 0:=by
 induction j with
 | zero=>omega
 | succ j ih=>
  have h1:=(okL_iff.1 h (j+1) hj).2 (by omega);rw[show j+1-1=j by omega]at h1
  by_cases he:i=j
  ·rw[he];exact h1
  ·exact Int.lt_trans (ih (by omega) (by omega)) h1
theorem kl{i:Nat}(hi:i<l.length):(i:Int)<=l.getD i 0:=by
 induction i with
 | zero=>exact(Za h hi).1
 | succ i ih=>
  have:=dX h (show i<i+1 by omega) hi;have:=ih (by omega);omega
theorem CU:l.length<=n:=by
 by_cases hz:l.length=0
 ·omega
 ·have h1:=kl h (show l.length-1<l.length by omega);have h2:=(Za h (show l.length-1<l.length by omega)).2;omega
theorem WZ{x:Int}(hx:x∈l):0<=x/\x<n:=by
 obtain⟨i,hi,rfl⟩:=Ll hx;have:=Za h hi;rwa[Aa _ _ _ hi]at this
end
theorem kp{n:Nat}{l:List Int}(h1:∀ x∈l,0<=x/\x<n)(h2:l.Pairwise (·<·)):fU n l=true:=by
 rw[okL_iff];intro i hi;rw[Aa _ _ _ hi];refine⟨h1 _ (Yj hi),λhp=>?_⟩;rw[Aa _ _ _ (show i-1<l.length by omega)];exact(zzL102.1 h2) _ _ _ _ (by omega)
theorem Y4{L:List (List Int)}(h:Lz L=true):L.length<=64/\∀ l∈L,l.length<=64:=by
 obtain⟨h1,h2,h3⟩:=mayS_iff.1 h;refine⟨h2,λl hl=>?_⟩;obtain⟨i,hi,rfl⟩:=Ll hl;have:=CU (h3 i hi);rw[Aa _ _ _ hi]at this;omega
theorem gn{L:List (List Int)}(h:L.length<=1000/\∀ l∈L,l.length<=1000):Fits L:=⟨by omega,λl hl=>by have:=h.2 l hl;omega⟩
theorem QQ(L:List (List Int))(k i:Nat):J6 L (k+1) i=J6 L k i++(if AR L k i=true then[(k:Int)] else[]):=by
 unfold J6;rw[AC,NG,AB]
 congr 1
 cases hg:AR L k i<;>simp[hg]
theorem Wi(L:List (List Int))(k i:Nat):(J6 L k i).length<=k:=by
 unfold J6;rw[Qd];have:=List.length_filter_le (λk=>AR L k i) (List.range k)
 simpa using this
theorem IU{l:List Int}{j:Nat}(hj:j<l.length):l.take (j+1)=l.take j++[l.getD j 0]:=by
 rw[Aa _ _ _ hj,VI hj]
def Pd(L:List (List Int))(k j i:Nat):Bool:=((L.getD k []).take j).contains (i:Int)
def Iw(L:List (List Int))(k j:Nat):List (List Int):=(List.range L.length).map λi=>J6 L k i++(if Pd L k j i=true then[(k:Int)] else[])
theorem OS(L:List (List Int))(h:Lz L=true)(k j:Nat)(hk:k<L.length)(hj:j<(L.getD k []).length) :
  (Iw L k j).set ((L.getD k []).getD j 0).toNat ((Iw L k j).getD ((L.getD k []).getD j 0).toNat []++[(k:Int)])=Iw L k (j+1):=by
 obtain⟨h1,h2,h3⟩:=mayS_iff.1 h;have hok:=h3 k hk;obtain⟨a0,a1⟩:=Za hok hj;unfold Iw;rw[Qu (by omega),MZ]
 apply Pv
 intro i hi
 have hnot:Pd L k j ((L.getD k []).getD j 0).toNat=false:=by
  unfold Pd;rw[Vr a0]
  cases hc:((L.getD k []).take j).contains ((L.getD k []).getD j 0) with
  | false=>rfl
  | true=>
   rw[GQ]at hc;obtain⟨m,hm,he⟩:=Ll hc
   have hm':m<j:=by simp at hm;omega
   rw[List.getElem_take]at he;have:=dX hok hm' hj;rw[Aa _ _ _ (show m<(L.getD k []).length by omega),he]at this;omega
 by_cases hi2:i=((L.getD k []).getD j 0).toNat
 ·rw[if_pos hi2,hnot]
  have:Pd L k (j+1) i=true:=by
   unfold Pd;rw[IU hj,GQ,hi2,Vr a0]
   simp
  rw[this,hi2]
  simp
 ·rw[if_neg hi2]
  have:Pd L k (j+1) i=Pd L k j i:=by
   unfold Pd;rw[IU hj,M7,GQ,GQ,zzL11]
   constructor
   ·rintro(hm|hm)
    ·exact hm
    ·simp only[zzL17]at hm;exact(hi2 (by omega)).elim
   ·exact .inl
  rw[this]
theorem PN(L:List (List Int))(h:Lz L=true):Io L=some (Fe L):=by
 obtain⟨h1,h2,h3⟩:=mayS_iff.1 h
 have hroom:(1000:Nat)<=room:=by decide
 unfold Io;rw[Ac ⟨by omega,Int.le_refl _,by omega⟩,A4]
 have inner:∀ k,k<L.length->Ag (D7 L (k:Int)) ((0:Int),Iw L k 0)=some (Iw L k (L.getD k []).length):=λk hk=>by
  have hok:=h3 k hk;refine Xi (D7 L (k:Int)) (λj=>(((j:Nat):Int),Iw L k j)) (Iw L k (L.getD k []).length) (L.getD k []).length (λj hj=>?_) ?_
  ·obtain⟨a0,a1⟩:=Za hok hj
   have hlen:(Iw L k j).length=L.length:=by simp[Iw]
   have hl64:=CU hok
   show D7 L (k:Int) (_,_)=_
   unfold D7;simp only[A4,Fz hj,Ad];have hb:Bt ((L.getD k []).getD j 0) (Iw L k j).length:=⟨a0,by rw[hlen];exact a1⟩
   have hrow:((Iw L k j).getD ((L.getD k []).getD j 0).toNat []).length<=k+1:=by
    unfold Iw;rw[Qu (by omega),Eo];have:=Wi L k ((L.getD k []).getD j 0).toNat
    split
    ·rw[T7];omega
    ·rw[List.length_nil];omega
   rw[Ac (Jf hj),Ac hb,Ac hb,Ac (by simp only[T7];omega),Ac hb,OS L h k j hk hj,w1 (by omega)]
  ·show D7 L (k:Int) (_,_)=_
   unfold D7;simp only[A4,Kp,Au]
 have r0:∀ k,Iw L k 0=(List.range L.length).map (J6 L k):=λk=>by
  unfold Iw
  apply Pv
  intro i _;simp[Pd]
 have r1:∀ k,Iw L k (L.getD k []).length=(List.range L.length).map (J6 L (k+1)):=λk=>by
  unfold Iw
  apply Pv
  intro i _;rw[QQ];unfold Pd AR;rw[Ws]
 have:Ag (D8 L) ((0:Int),(List.range L.length).map (J6 L 0))=some (Fe L):=Xi (D8 L) (λk=>(((k:Nat):Int),(List.range L.length).map (J6 L k))) (Fe L) L.length (λk hk=>?_) ?_
 ·have e0:(List.replicate L.length ([]:List Int))=(List.range L.length).map (J6 L 0):=by
   apply List.ext_getElem?
   intro i
   by_cases hi:i<L.length<;>simp[hi,List.getElem?_replicate,J6]
  rw[e0,this];rfl
 ·show D8 L (_,_)=_
  unfold D8;simp only[Fz hk,Ad];rw[Ac (Jf hk),<- r0,inner k hk,r1,w1 (by omega)]
  rfl
 ·show D8 L (_,_)=_
  unfold D8;simp only[Kp,Au]
  rfl
theorem Ta{α:Type}[DecidableEq α]{a b:List α}{d:α}(h:a.length=b.length):((List.range a.length).all λi=>decide (a.getD i d=b.getD i d))=decide (a=b):=by
 rw[M7,all_range,Dw]
 constructor
 ·intro hall
  apply Z0 h
  intro i h1 h2;have:=Qb (hall i h1);rwa[Aa _ _ _ h1,Aa _ _ _ h2]at this
 ·rintro rfl i _
  simp
theorem MF{a b:Nat}:(((a:Nat):Int)!=(b:Int))=decide (a≠b):=by
 rw[M7,zzL93,Dw];omega
theorem LY{a b:Int}:(a !=b) = !decide (a=b):=by
 rw[M7]
 simp
theorem MH(a b:List Int)(hb:b.length<4611686018427387904):D9 a b=some (decide (a=b)):=by
 unfold D9;rw[MF]
 by_cases hl:a.length=b.length
 ·rw[Cx (by simpa using hl),Au];have:Ag (Bf a b) (0:Int)=_:=Lu (Bf a b) (λj=>((j:Nat):Int)) (λi=>decide (a.getD i 0=b.getD i 0)) (.inl ()) (.inr false) a.length (λj hj hp=>?_) (λj hj hp=>?_) ?_
  ·rw[this,Ta hl]
   cases decide (a=b)<;>rfl
  ·show Bf a b (j:Int)=_
   unfold Bf;simp only[A4,Fz hj,Ad];rw[Ac (Jf hj),Ac (Jf (by omega)),LY,hp,w1 (by omega)]
   rfl
  ·show Bf a b (j:Int)=_
   unfold Bf;simp only[A4,Fz hj,Ad];rw[Ac (Jf hj),Ac (Jf (by omega)),LY,hp]
   rfl
  ·show Bf a b _=_
   unfold Bf;simp only[Kp,Au]
 ·rw[Cq (by simpa using hl),Ad,Cx (λh=>hl (by rw[h]))]
theorem ka(a b:List Int)(ha:a.length<4611686018427387904):Gt a b=some (decide (a=b)):=by
 unfold Gt;rw[MF]
 by_cases hl:a.length=b.length
 ·rw[Cx (by simpa using hl),Au];have:Ag (Bk a b) (0:Int)=_:=Lu (Bk a b) (λj=>((j:Nat):Int)) (λi=>decide (a.getD i 0=b.getD i 0)) (.inl ()) (.inr false) a.length (λj hj hp=>?_) (λj hj hp=>?_) ?_
  ·rw[this,Ta hl]
   cases decide (a=b)<;>rfl
  ·show Bk a b (j:Int)=_
   unfold Bk;simp only[A4,Fz hj,Ad];rw[Ac (Jf hj),Ac (Jf (by omega)),LY,hp,w1 (by omega)]
   rfl
  ·show Bk a b (j:Int)=_
   unfold Bk;simp only[A4,Fz hj,Ad];rw[Ac (Jf hj),Ac (Jf (by omega)),LY,hp]
   rfl
  ·show Bk a b _=_
   unfold Bk;simp only[Kp,Au]
 ·rw[Cq (by simpa using hl),Ad,Cx (λh=>hl (by rw[h]))]
theorem PO(a b:List (List Int))(hb:Fits b):Cp a b=some (decide (a=b)):=by
 unfold Cp;rw[MF]
 by_cases hl:a.length=b.length
 ·rw[Cx (by simpa using hl),Au];have hb1:=hb.1;have:Ag (Aq a b) (0:Int)=_:=Lu (Aq a b) (λj=>((j:Nat):Int)) (λi=>decide (a.getD i []=b.getD i [])) (.inl ()) (.inr false) a.length (λj hj hp=>?_) (λj hj hp=>?_) ?_
  ·rw[this,Ta hl]
   cases decide (a=b)<;>rfl
  ·show Aq a b (j:Int)=_
   unfold Aq;simp only[A4,Fz hj,Ad];rw[Ac (Jf hj),Ac (Jf (by omega)),MH _ _ (hb.at j),hp,w1 (by omega)]
   rfl
  ·show Aq a b (j:Int)=_
   unfold Aq;simp only[A4,Fz hj,Ad];rw[Ac (Jf hj),Ac (Jf (by omega)),MH _ _ (hb.at j),hp]
   rfl
  ·show Aq a b _=_
   unfold Aq;simp only[Kp,Au]
 ·rw[Cq (by simpa using hl),Ad,Cx (λh=>hl (by rw[h]))]
theorem N2(L:List (List Int)):(Fe L).length=L.length:=by simp[Fe]
theorem JR{L:List (List Int)}{i:Nat}(hi:i<L.length):(Fe L).getD i []=J6 L L.length i:=by unfold Fe;rw[Qu hi]
theorem Rl{L:List (List Int)}(h:Lz L=true):(Fe L).length<=64/\∀ l∈Fe L,l.length<=64:=by
 obtain⟨h1,_⟩:=Y4 h;refine⟨by rw[N2];exact h1,λl hl=>?_⟩;obtain⟨i,hi,rfl⟩:=zzL26.1 hl;have:=Wi L L.length i;omega
theorem Wo{L:List (List Int)}(h:L.length<=64/\∀ l∈L,l.length<=64):Fits L:=gn ⟨by omega,λl hl=>by have:=h.2 l hl;omega⟩
def Y3(g:C3):Bool:=Lz g.Succ&&decide (g.Pred=Fe g.Succ)
theorem jV(g:C3)(h:Fits g.Succ):Ox g=some (Y3 g):=by
 unfold Ox Y3;rw[ZU _ h,Ao]
 cases hm:Lz g.Succ with
 | false=>rfl
 | true=>
  simp only[Qc,Ad,PN _ hm,Ao,PO _ _ (Wo (Rl hm)),Hi]
def Yq(L:List (List Int)):C3:=⟨L,Fe L⟩
def g0:C3:=⟨[],[]⟩
theorem PQ{L:List (List Int)}(h:Lz L=true):Y3 (Yq L)=true:=by simp[Y3,Yq,h]
theorem cu{L:List (List Int)}(h:Lz L=true):Fits (Yq L).Succ/\Fits (Yq L).Pred:=⟨Wo (Y4 h),Wo (Rl h)⟩
noncomputable section
def upd(s:Nat->Bool)(y:Nat):Nat->Bool:=λz=>decide (z=y) || s z
theorem upd_true{s:Nat->Bool}{y z:Nat}:upd s y z=true↔z=y\/s z=true:=by simp[upd]
theorem upd_false{s:Nat->Bool}{y z:Nat}:upd s y z=false↔z≠y/\s z=false:=by simp[upd]
inductive VL (S:Nat->List Nat):(Nat->Bool)->List Nat->(Nat->Bool)->List Nat->Prop
 | nil (s:Nat->Bool):VL S s [] s []
 | skip {s s':Nat->Bool} {y:Nat} {l o:List Nat} (h:s y=true) (t:VL S s l s' o):VL S s (y::l) s' o
 | step {s s1 s2:Nat->Bool} {y:Nat} {l o1 o2:List Nat} (h:s y=false) (a:VL S (upd s y) (S y) s1 o1) (b:VL S s1 l s2 o2):VL S s (y::l) s2 (o1++y::o2)
inductive Rch (S:Nat->List Nat):Nat->Nat->Prop
 | refl (x:Nat):Rch S x x
 | head {x y z:Nat} (h:y∈S x) (t:Rch S y z):Rch S x z
theorem Rch.tail{S:Nat->List Nat}{x y z:Nat}(h:Rch S x y)(hz:z∈S y):Rch S x z:=by
 induction h with
 | refl x=>exact .head hz (.refl _)
 | head h _ ih=>exact .head h (ih hz)
theorem Rch.trans{S:Nat->List Nat}{x y z:Nat}(h:Rch S x y)(k:Rch S y z):Rch S x z:=by
 induction h with
 | refl x=>exact k
 | head h _ ih=>exact .head h (ih k)
variable {S:Nat->List Nat} {s s':Nat->Bool} {l o:List Nat}
theorem VL.seen(h:VL S s l s' o)(z:Nat):s' z=true↔s z=true\/z∈o:=by
 induction h with
 | nil s=>simp
 | skip h _ ih=>exact ih
 | @step s s1 s2 y l o1 o2 h a b iha ihb=>
  rw[ihb,iha,upd_true];simp only[zzL11,zzL25]
  constructor
  ·rintro((( rfl|h1)|h1)|h1)
   ·exact .inr (.inr (.inl rfl))
   ·exact .inl h1
   ·exact .inr (.inl h1)
   ·exact .inr (.inr (.inr h1))
  ·rintro(h1|h1|rfl|h1)
   ·exact .inl (.inl (.inr h1))
   ·exact .inl (.inr h1)
   ·exact .inl (.inl (.inl rfl))
   ·exact .inr h1
theorem VL.fresh(h:VL S s l s' o){z:Nat}(hz:z∈o):s z=false:=by
 induction h with
 | nil s=>cases hz
 | skip h _ ih=>exact ih hz
 | @step s s1 s2 y l o1 o2 h a b iha ihb=>
  rcases zzL11.1 hz with h1|h1
  ·exact(upd_false.1 (iha h1)).2
  ·rcases zzL25.1 h1 with rfl|h1
   ·exact h
   ·have:=ihb h1
    cases hs:s z with
    | false=>rfl
    | true=>rw[(a.seen z).2 (.inl (upd_true.2 (.inr hs)))]at this;cases this
theorem VL.nodup(h:VL S s l s' o):o.Nodup:=by
 induction h with
 | nil s=>exact List.nodup_nil
 | skip h _ ih=>exact ih
 | @step s s1 s2 y l o1 o2 h a b iha ihb=>
  rw[List.nodup_append];refine⟨iha,zzL76.2 ⟨λhy=>?_,ihb⟩,λu hu v hv=>?_⟩
  ·have:=b.fresh hy;rw[(a.seen y).2 (.inl (upd_true.2 (.inl rfl)))]at this
   cases this
  ·rintro rfl;rcases zzL25.1 hv with rfl|hv
   ·have:=a.fresh hu;rw[upd_true.2 (.inl rfl)]at this
    cases this
   ·have:=b.fresh hv;rw[(a.seen u).2 (.inr hu)]at this
    cases this
theorem VL.rch(h:VL S s l s' o){z:Nat}(hz:z∈o):∃ y∈l,Rch S y z:=by
 induction h with
 | nil s=>cases hz
 | skip h _ ih=>obtain⟨y,hy,hr⟩:=ih hz;exact⟨y,F2 _ hy,hr⟩
 | @step s s1 s2 y l o1 o2 h a b iha ihb=>
  rcases zzL11.1 hz with h1|h1
  ·obtain⟨u,hu,hr⟩:=iha h1;exact⟨y,Lb ..,.head hu hr⟩
  ·rcases zzL25.1 h1 with rfl|h1
   ·exact⟨z,Lb ..,.refl z⟩
   ·obtain⟨u,hu,hr⟩:=ihb h1;exact⟨u,F2 _ hu,hr⟩
theorem VL.closed(h:VL S s l s' o):(∀ y∈l,s' y=true)/\∀ z∈o,∀ y∈S z,s' y=true:=by
 induction h with
 | nil s=>exact⟨(λ_ h=>by cases h),(λ_ h=>by cases h)⟩
 | @skip s s' y l o h t ih=>
  refine⟨λu hu=>?_,ih.2⟩;rcases zzL25.1 hu with rfl|hu
  ·exact(t.seen u).2 (.inl h)
  ·exact ih.1 u hu
 | @step s s1 s2 y l o1 o2 h a b iha ihb=>
  refine⟨λu hu=>?_,λz hz u hu=>?_⟩
  ·rcases zzL25.1 hu with rfl|hu
   ·exact(b.seen u).2 (.inl ((a.seen u).2 (.inl (upd_true.2 (.inl rfl)))))
   ·exact ihb.1 u hu
  ·rcases zzL11.1 hz with h1|h1
   ·exact(b.seen u).2 (.inl (iha.2 z h1 u hu))
   ·rcases zzL25.1 h1 with rfl|h1
    ·exact(b.seen u).2 (.inl (iha.1 u hu))
    ·exact ihb.2 z h1 u hu
theorem VL.above(h:VL S s l s' o)(hf:∀ z,∀ y∈S z,z<y){b:Nat}(hb:∀ y∈l,b<y):∀ z∈o,b<z:=by
 induction h generalizing b with
 | nil s=>intro z hz;cases hz
 | skip h _ ih=>exact ih (λy hy=>hb y (F2 _ hy))
 | @step s s1 s2 y l o1 o2 h a c iha ihb=>
  intro z hz;have hy:=hb y (Lb ..);rcases zzL11.1 hz with h1|h1
  ·exact iha (λu hu=>Nat.lt_trans hy (hf y u hu)) z h1
  ·rcases zzL25.1 h1 with rfl|h1
   ·exact hy
   ·exact ihb (λu hu=>hb u (F2 _ hu)) z h1
theorem VL.ahead(h:VL S s l s' o)(hf:∀ z,∀ y∈S z,z<y):∀ z∈o,∀ y∈S z,s y=true\/∃ A B,o=A++z::B/\y∈A:=by
 induction h with
 | nil s=>intro z hz;cases hz
 | skip h _ ih=>exact ih
 | @step s s1 s2 y l o1 o2 h a c iha ihb=>
  intro z hz u hu;rcases zzL11.1 hz with h1|h1
  ·have hzy:y<z:=a.above hf (λv hv=>hf y v hv) z h1;have hzu:=hf z u hu;rcases iha z h1 u hu with h2|⟨A,B,rfl,hA⟩
   ·rcases upd_true.1 h2 with rfl|h2
    ·omega
    ·exact .inl h2
   ·exact .inr ⟨A,B++y::o2,by simp,hA⟩
  ·rcases zzL25.1 h1 with rfl|h1z
   ·have hzu:=hf z u hu;rcases(a.seen u).1 (a.closed.1 u hu) with h2|h2
    ·rcases upd_true.1 h2 with rfl|h2
     ·omega
     ·exact .inl h2
    ·exact .inr ⟨o1,o2,rfl,h2⟩
   ·rcases ihb z h1z u hu with h2|⟨A,B,rfl,hA⟩
    ·rcases(a.seen u).1 h2 with h3|h3
     ·rcases upd_true.1 h3 with rfl|h3
      ·obtain⟨P,Q,rfl⟩:=List.append_of_mem h1z;exact .inr ⟨o1++u::P,Q,by simp,by simp⟩
      ·exact .inl h3
     ·obtain⟨P,Q,rfl⟩:=List.append_of_mem h1z;exact .inr ⟨o1++y::P,Q,by simp,by simp[h3]⟩
    ·exact .inr ⟨o1++y::A,B,by simp,by simp[hA]⟩
def NT(n:Nat)(s:Nat->Bool):Nat:=((List.range n).filter λz=>!s z).length
theorem Ui{n:Nat}{s:Nat->Bool}{y:Nat}(hy:y<n)(h:s y=false):NT n (upd s y)+1=NT n s:=by
 unfold NT
 induction n with
 | zero=>omega
 | succ n ih=>
  rw[AC,NG,NG,Eo,Eo]
  by_cases hyn:y=n
  ·subst hyn
   have e:(List.range y).filter (λz=>!upd s y z)=(List.range y).filter (λz=>!s z):=by
    apply List.filter_congr
    intro z hz;have:=zzL44.1 hz;simp[upd,show z≠y by omega]
   rw[e];simp[upd,h]
  ·have:=ih (by omega)
   have e:([n].filter λz=>!upd s y z).length=([n].filter λz=>!s z).length:=by
    simp only[List.filter_cons,List.filter_nil,upd];simp[G2 hyn]
   omega
theorem OR{n:Nat}{s s':Nat->Bool}(h:∀ z,s z=true->s' z=true):NT n s'<=NT n s:=by
 unfold NT
 apply List.Sublist.length_le
 have:(List.range n).filter (λz=>!s' z)=((List.range n).filter λz=>!s z).filter λz=>!s' z:=by
  rw[List.filter_filter]
  apply List.filter_congr
  intro z _
  cases hs:s z with
  | false=>simp
  | true=>simp[h z hs]
 rw[this];exact List.filter_sublist
theorem VL.exist{n:Nat}(hS:∀ z,z<n->∀ y∈S z,y<n):∀(m:Nat) (s:Nat->Bool),NT n s<=m->∀ l:List Nat,(∀ y∈l,y<n)->∃ s' o,VL S s l s' o:=by
 intro m
 induction m with
 | zero=>
  intro s hm l
  induction l with
  | nil=>intro _;exact⟨s,[],.nil s⟩
  | cons y l ih=>
   intro hl;obtain⟨s',o,h⟩:=ih (λz hz=>hl z (F2 _ hz))
   cases hy:s y with
   | true=>exact⟨s',o,.skip hy h⟩
   | false=>have:=Ui (hl y (Lb ..)) hy;omega
 | succ m ih=>
  intro s hm l
  induction l generalizing s with
  | nil=>intro _;exact⟨s,[],.nil s⟩
  | cons y l ihl=>
   intro hl
   cases hy:s y with
   | true=>
    obtain⟨s',o,h⟩:=ihl s hm (λz hz=>hl z (F2 _ hz));exact⟨s',o,.skip hy h⟩
   | false=>
    have hyn:=hl y (Lb ..);have:=Ui hyn hy;obtain⟨s1,o1,h1⟩:=ih (upd s y) (by omega) (S y) (hS y hyn);have h2:NT n s1<=NT n s:=OR λz hz=>(h1.seen z).2 (.inl (upd_true.2 (.inr hz)));obtain⟨s2,o2,h3⟩:=ihl s1 (by omega) (λz hz=>hl z (F2 _ hz));exact⟨s2,_,.step hy h1 h3⟩
def one(r:Nat):Nat->Bool:=λz=>decide (z=r)
def Ord(S:Nat->List Nat)(r:Nat)(L:List Nat):Prop:=∃ s' o,VL S (one r) (S r) s' o/\L=r::o.reverse
theorem Ord.exist{n:Nat}(hS:∀ z,z<n->∀ y∈S z,y<n){r:Nat}(hr:r<n):∃ L,Ord S r L:=by
 obtain⟨s',o,h⟩:=VL.exist hS _ (one r) (zzL7 _) (S r) (hS r hr);exact⟨_,s',o,h,rfl⟩
theorem Ord.mem{r:Nat}{L:List Nat}(h:Ord S r L)(z:Nat):z∈L↔Rch S r z:=by
 obtain⟨s',o,h,rfl⟩:=h
 have hs:∀ z,s' z=true↔z=r\/z∈o:=λz=>by rw[h.seen];simp[one]
 have hc:∀ x,s' x=true->∀ y∈S x,s' y=true:=λx hx y hy=>by
  rcases(hs x).1 hx with rfl|hx
  ·exact h.closed.1 y hy
  ·exact h.closed.2 x hx y hy
 simp only[zzL25,zzL100];rw[<- hs z]
 constructor
 ·intro hz;rcases(hs z).1 hz with rfl|hz
  ·exact .refl _
  ·obtain⟨y,hy,hr⟩:=h.rch hz;exact .head hy hr
 ·intro hr
  have key:∀ x z,Rch S x z->s' x=true->s' z=true:=by
   intro x z hxz
   induction hxz with
   | refl x=>exact id
   | head hy _ ih=>exact λhx=>ih (hc _ hx _ hy)
  exact key r z hr ((hs r).2 (.inl rfl))
theorem Ord.nodup{r:Nat}{L:List Nat}(h:Ord S r L):L.Nodup:=by
 obtain⟨s',o,h,rfl⟩:=h;refine zzL76.2 ⟨λhr=>?_,(List.reverse_perm o).nodup_iff.2 h.nodup⟩;have:=h.fresh (zzL100.1 hr);simp[one]at this
theorem Ord.fwd{r:Nat}{L:List Nat}(h:Ord S r L)(hf:∀ z,∀ y∈S z,z<y):∀ z∈L,∀ y∈S z,∃ A B,L=A++z::B/\y∈B:=by
 obtain⟨s',o,h,rfl⟩:=h;intro z hz y hy;have hzy:=hf z y hy;rcases zzL25.1 hz with rfl|hz
 ·refine⟨[],o.reverse,rfl,?_⟩;rcases(h.seen y).1 (h.closed.1 y hy) with h1|h1
  ·simp[one]at h1;omega
  ·exact zzL100.2 h1
 ·have hz:=zzL100.1 hz;have hrz:r<z:=h.above hf (λv hv=>hf r v hv) z hz;rcases h.ahead hf z hz y hy with h1|⟨A,B,rfl,hA⟩
  ·simp[one]at h1;omega
  ·exact⟨r::B.reverse,A.reverse,by simp,zzL100.2 hA⟩
end
theorem ZS(l:List Int)(hl:l.length<4611686018427387904):Du l=some l.reverse:=by
 unfold Du
 by_cases h0:l.length=0
 ·obtain rfl:l=[]:=zzL106.1 h0
  have:Ag Ba ((0:Int),(Bh ((([]:List Int).length:Int)-1)),([]:List Int))=some []:=by
   apply Ah
   unfold Ba;rw[Gb (by simp) (by simp)]
   rfl
  rw[this];rfl
 ·have hw:Bh ((l.length:Int)-1)=((l.length-1:Nat):Int):=by rw[Gb (by omega) (by omega)];omega
  rw[hw]
  let C:Nat->List Int:=λk=>(List.range l.length).map λi=>if i<k\/l.length-1-k<i then l.getD (l.length-1-i) 0 else l.getD i 0
  have hC:∀ k i,i<l.length->(C k).getD i 0=if i<k\/l.length-1-k<i then l.getD (l.length-1-i) 0 else l.getD i 0:=λk i hi=>by simp only[C];rw[Qu hi]
  have hlen:∀ k,(C k).length=l.length:=λk=>by simp[C]
  have:=Xi Ba (λk=>(((k:Nat):Int),((l.length-1-k:Nat):Int),C k)) l.reverse (l.length / 2) (λk hk=>?_) ?_
  ·have e0:C 0=l:=by
    apply Z0 (by simp[C])
    intro i h1 h2;have:=hC 0 i h2;rw[Aa _ _ _ h1,Aa _ _ _ h2]at this;rw[this,if_neg (by omega)]
   have this':Ag Ba ((0:Int),((l.length-1:Nat):Int),l)=some l.reverse:=by
    have h2:=this;simp only[e0]at h2;exact h2
   rw[this'];rfl
  ·show Ba (_,_,_)=_
   unfold Ba
   have hlt:k<l.length-1-k:=by omega
   simp only[Fz hlt,Ad,A4];rw[Ac (Jf (by rw[hlen];omega)),Ac (Jf (by rw[hlen];omega)),Ac (Jf (by rw[hlen];omega)),Ac (Jf (by rw[hlen];omega))];rw[w1 (by omega),show Bh (((l.length-1-k:Nat):Int)-1)=((l.length-1-(k+1):Nat):Int) by rw[Gb (by omega) (by omega)];omega]
   congr 4
   rw[hC k _ (by omega),hC k _ (by omega),if_neg (by omega),if_neg (by omega)];simp only[C];rw[MZ,MZ]
   apply Pv
   intro i hi
   by_cases h1:i=k
   ·subst h1;rw[if_neg (by omega),if_pos rfl,if_pos (by omega)]
   ·by_cases h2:i=l.length-1-k
    ·subst h2;rw[if_pos rfl,if_pos (by omega)]
     congr 1;omega
    ·rw[if_neg h2,if_neg h1]
     by_cases h3:i<k\/l.length-1-k<i
     ·rw[if_pos h3,if_pos (by omega)]
     ·rw[if_neg h3,if_neg (by omega)]
  ·show Ba (_,_,_)=_
   unfold Ba;have hd:decide (((l.length / 2:Nat):Int)<((l.length-1-l.length / 2:Nat):Int))=false:=Cx (by omega);simp only[hd,Au]
   congr 2
   apply Z0 (by simp[C])
   intro i h1 h2
   have h3:i<l.length:=by simpa [C] using h1
   have:=hC (l.length / 2) i h3;rw[Aa _ _ _ h1]at this;rw[this,List.getElem_reverse]
   split
   ·rw[Aa _ _ _ (by omega)]
   ·rw[Aa _ _ _ h3]
    congr 1;omega
theorem top{st:List Int}{a:Int}(h:st.length<4611686018427387904):(st++[a]).getD (Bh (((st++[a]).length:Int)-1)).toNat 0=a:=by
 have:Bh (((st++[a]).length:Int)-1)=((st.length:Nat):Int):=by rw[Eo,T7,Gb (by omega) (by omega)];omega
 rw[this,A4];simp[List.getD]
theorem mh{st:List Int}{a:Int}(h:st.length<4611686018427387904):Bh (((st++[a]).length:Int)-1)=((st.length:Nat):Int):=by
 rw[Eo,T7,Gb (by omega) (by omega)];omega
theorem fb{g:C3}{R:List Bool}{st T:List Int}{a:Nat}(hst:st.length<64)(ha:a<g.Succ.length)(h64:g.Succ.length<=64)(ht:T.getD a 0=((g.Succ.getD a []).length:Int)) :
  Fx g R (st++[(a:Int)]) T=some (.done (.inl T)):=by
 unfold Fx;simp only[top (st:=st) (a:=(a:Int)) (by omega),A4];rw[Ac (Jf (by omega)),Ac (Jf ha),ht,Kp,Au]
theorem VW{g:C3}{R:List Bool}{st T:List Int}{a t y:Nat}(hst:st.length<64)(ha:a<g.Succ.length)(h64:g.Succ.length<=64)(ht:T.getD a 0=(t:Int))(htl:t<(g.Succ.getD a []).length)(htm:t<64)
  (hy:(g.Succ.getD a []).getD t 0=(y:Int)) (hyn:y<g.Succ.length) :
  Fx g R (st++[(a:Int)]) T=bif R.getD y false then some (.next (J7 64 (0:Int) T a ((t+1:Nat):Int))) else some (.done (.inr (J7 64 false R y true,J7 64 (0:Int) T a ((t+1:Nat):Int),(st++[(a:Int)])++[(y:Int)]))):=by
 have hroom:(1000:Nat)<=room:=by decide
 unfold Fx;simp only[top (st:=st) (a:=(a:Int)) (by omega),A4,ht,hy];rw[Ac (Jf (by omega)),Ac (Jf ha),Fz htl,Ad,Ac (Jf ha),Ac (Jf (by omega)),Ac (Jf htl),Ac (Jf (by omega)),Ac (Jf (by omega)),Ac (Jf (by omega)),w1 (by omega)]
 cases R.getD y false with
 | true=>rfl
 | false=>
  simp only[Jj,Ad,Au];rw[Ac (Jf (by omega)),Ac (by rw[Eo,T7,T7];omega)]
theorem VV{g:C3}{R:List Bool}{st T Lf:List Int}{a:Nat}(hst:st.length<64)(hLf:Lf.length<64) :
  Cw g (R,T,st++[(a:Int)],Lf)=(Ag (Fx g R (st++[(a:Int)])) T).bind λx=>match x with
   | .inl T'=>if st=[] then some (.done (Lf++[(a:Int)]).reverse) else some (.next (R,T',st,Lf++[(a:Int)]))
   | .inr (R',T',st')=>some (.next (R',T',st',Lf)):=by
 have hroom:(1000:Nat)<=room:=by decide
 unfold Cw;simp only
 have hb:Bt (Bh (((st++[(a:Int)]).length:Int)-1)) (st++[(a:Int)]).length:=by rw[mh (by omega)];exact Jf (by simp)
 rw[Ac hb]
 congr 1
 funext x
 cases x with
 | inr y=>obtain⟨R',T',st'⟩:=y;rfl
 | inl T'=>
  simp only[top (st:=st) (a:=(a:Int)) (by omega)];rw[mh (by omega),A4,Ac (by rw[T7];omega),Ac ⟨by omega,by simp⟩];have e:(st++[(a:Int)]).take st.length=st:=List.take_left' rfl;rw[e]
  cases st with
  | nil=>
   rw[if_pos rfl]
   have:decide ((0:Int)<(([]:List Int).length:Int))=false:=by decide
   rw[this,Au,ZS _ (by simp;omega)];simp only[Ao];rw[Ac (by simp)]
  | cons b st'=>
   rw[if_neg (by simp)];have:decide ((0:Int)<((b::st').length:Int))=true:=Cq (by simp<;>omega);rw[this,Ad]
theorem TW{S X:Type}{f:S->Option (LR S X)}{a b:S}(h:f a=f b):Ag f a=Ag f b:=by
 cases hb:f b with
 | none=>rw[Wf (h.trans hb),Wf hb]
 | some r=>cases r with
  | done x=>rw[Ah (h.trans hb),Ah hb]
  | next s=>rw[An (h.trans hb),An hb]
theorem BJ{S X:Type}{f:S->Option (LR S X)}{s:S}:Po (f s) f=Ag f s:=by
 unfold Po
 cases hb:f s with
 | none=>rw[Wf hb];rfl
 | some r=>cases r with
  | done x=>rw[Ah hb];rfl
  | next s'=>rw[An hb];rfl
def sN(L:List (List Int))(k:Nat):List Nat:=(L.getD k []).map Int.toNat
def RelS(R:List Bool)(s:Nat->Bool):Prop:=∀ z,z<64->R.getD z false=s z
theorem Nk{α:Type}{d:α}{l:List α}{i:Nat}{x:α}{k:Nat}(hk:k<64):(J7 64 d l i x).getD k d=if k=i then x else l.getD k d:=by
 rw[KB hk]
 by_cases h:k=i
 ·subst h;simp
 ·have:Nat.beq k i=false:=by cases hb:Nat.beq k i with|false=>rfl|true=>exact absurd (Bv hb) h
  rw[this,if_neg h];rfl
theorem RelS.set{R:List Bool}{s:Nat->Bool}(h:RelS R s){y:Nat}:RelS (J7 64 false R y true) (upd s y):=λz hz=>by
 rw[Nk hz,h z hz]
 by_cases hzy:z=y
 ·simp[upd,hzy]
 ·simp[upd,hzy]
def Pg(o:List Nat):List Int:=o.map Int.ofNat
theorem UG{g:C3}(hm:Lz g.Succ=true){s s':Nat->Bool}{l o:List Nat}(hv:VL (sN g.Succ) s l s' o) :
  ∀(R:List Bool) (T st Lf:List Int) (a t:Nat),RelS R s->a<g.Succ.length->l=(sN g.Succ a).drop t->T.getD a 0=(t:Int)->t<=(sN g.Succ a).length->s a=true->(∀ z,z<64->s z=false->T.getD z 0=0)->
   Lf.length+NT 64 s+st.length+1<=64->
   ∃(R':List Bool) (T':List Int),RelS R' s'/\(∀ z,z<64->s' z=false->T'.getD z 0=0)/\(∀ z,z<64->s z=true->z≠a->T'.getD z 0=T.getD z 0)/\Lf.length+o.length+NT 64 s'+st.length+1<=64 /\
    Ag (Cw g) (R,T,st++[(a:Int)],Lf)=if st=[] then some (Lf++Pg o++[(a:Int)]).reverse else Ag (Cw g) (R',T',st,Lf++Pg o++[(a:Int)]):=by
 obtain⟨hL1,hL64,hLok⟩:=mayS_iff.1 hm
 have hlenS:∀ a,(sN g.Succ a).length=(g.Succ.getD a []).length:=λa=>by simp[sN]
 have hdrop:∀(a t y:Nat) (l':List Nat),a<g.Succ.length->y::l'=(sN g.Succ a).drop t->t<(g.Succ.getD a []).length/\(g.Succ.getD a []).getD t 0=(y:Int)/\y<g.Succ.length/\l'=(sN g.Succ a).drop (t+1):=λa t y l' ha he=>by
  have ht:t<(sN g.Succ a).length:=by
   rcases zzL136 t (sN g.Succ a).length with h|h
   ·exact h
   ·rw[List.drop_eq_nil_of_le h]at he;cases he
  rw[O7 ht]at he;simp only[Cg]at he;obtain⟨h1,h2⟩:=he
  have ht':t<(g.Succ.getD a []).length:=by rw[<- hlenS];exact ht
  obtain⟨b0,b1⟩:=Za (hLok a ha) ht'
  have h3:(sN g.Succ a)[t]=((g.Succ.getD a []).getD t 0).toNat:=by rw[Aa _ _ _ ht'];simp[sN]
  exact⟨ht',by omega,by omega,h2⟩
 induction hv with
 | nil s=>
  intro R T st Lf a t hR ha hl hT htl hsa hz hc
  have ht:t=(g.Succ.getD a []).length:=by
   have:=B9 List.length hl;simp at this;rw[hlenS]at htl this;omega
  refine⟨R,T,hR,hz,λ_ _ _ _=>rfl,by simpa using hc,?_⟩
  have hF:Cw g (R,T,st++[(a:Int)],Lf)=if st=[] then some (.done (Lf++[(a:Int)]).reverse) else some (.next (R,T,st,Lf++[(a:Int)])):=by
   rw[VV (by omega) (by omega),Ah (fb (by omega) ha hL64 (by rw[hT,ht]))]
   rfl
  by_cases hst:st=[]
  ·rw[if_pos hst]at hF ⊢;rw[Ah hF];simp[Pg]
  ·rw[if_neg hst]at hF ⊢;rw[An hF];simp[Pg]
 | @skip s s' y l o h tl ih=>
  intro R T st Lf a t hR ha hl hT htl hsa hz hc;obtain⟨h1,h2,h3,h4⟩:=hdrop a t y l ha hl;have hb:=CU (hLok a ha);have hs:=VW (g:=g) (R:=R) (st:=st) (T:=T) (a:=a) (t:=t) (y:=y) (by omega) ha hL64 hT h1 (by omega) h2 h3;rw[hR y (by omega),h,Ad]at hs;obtain⟨R',T',a1,a2,a3,a4,a5⟩:=ih R (J7 64 (0:Int) T a ((t+1:Nat):Int)) st Lf a (t+1) hR ha h4 (by rw[Nk (by omega),if_pos rfl]) (by rw[hlenS];omega) hsa
   (λz hz1 hz2=>by rw[Nk hz1,if_neg (by rintro rfl;rw[hsa]at hz2;cases hz2)];exact hz z hz1 hz2) hc
  refine⟨R',T',a1,a2,λz hz1 hz2 hz3=>by rw[a3 z hz1 hz2 hz3,Nk hz1,if_neg hz3],a4,?_⟩;rw[<- a5]
  apply TW
  rw[VV (by omega) (by omega),VV (by omega) (by omega),An hs]
 | @step s s1 s2 y l o1 o2 h tl tr ih1 ih2=>
  intro R T st Lf a t hR ha hl hT htl hsa hz hc;obtain⟨h1,h2,h3,h4⟩:=hdrop a t y l ha hl;have hb:=CU (hLok a ha)
  have hay:y≠a:=by rintro rfl;rw[hsa]at h;cases h
  have hs:=VW (g:=g) (R:=R) (st:=st) (T:=T) (a:=a) (t:=t) (y:=y) (by omega) ha hL64 hT h1 (by omega) h2 h3;rw[hR y (by omega),h,Au]at hs;have hcu:=Ui (n:=64) (show y<64 by omega) h
  have hF:Cw g (R,T,st++[(a:Int)],Lf)=some (.next (J7 64 false R y true,J7 64 (0:Int) T a ((t+1:Nat):Int),(st++[(a:Int)])++[(y:Int)],Lf)):=by
   rw[VV (by omega) (by omega),Ah hs]
   rfl
  obtain⟨R1,T1,b1,b2,b3,b4,b5⟩:=ih1 (J7 64 false R y true) (J7 64 (0:Int) T a ((t+1:Nat):Int)) (st++[(a:Int)]) Lf y 0 hR.set h3 (by simp)
   (by rw[Nk (by omega),if_neg hay];exact hz y (by omega) h) (Lo _) (upd_true.2 (.inl rfl))
   (λz hz1 hz2=>by
    obtain⟨c1,c2⟩:=upd_false.1 hz2;rw[Nk hz1,if_neg (by rintro rfl;rw[hsa]at c2;cases c2)]
    exact hz z hz1 c2) (by rw[Eo,T7];omega)
  rw[if_neg (by simp)]at b5
  have hTa:T1.getD a 0=((t+1:Nat):Int):=by rw[b3 a (by omega) (upd_true.2 (.inr hsa)) (G2 hay),Nk (by omega),if_pos rfl]
  rw[Eo,T7]at b4;obtain⟨R2,T2,c1,c2,c3,c4,c5⟩:=ih2 R1 T1 st (Lf++Pg o1++[(y:Int)]) a (t+1) b1 ha h4 hTa (by rw[hlenS];omega) ((tl.seen a).2 (.inl (upd_true.2 (.inr hsa)))) b2
   (by simp only[Eo,T7,Pg,Qd];omega)
  refine⟨R2,T2,c1,c2,λz hz1 hz2 hz3=>?_,?_,?_⟩
  ·rw[c3 z hz1 ((tl.seen z).2 (.inl (upd_true.2 (.inr hz2)))) hz3,b3 z hz1 (upd_true.2 (.inr hz2)) (by rintro rfl;rw[h]at hz2;cases hz2),Nk hz1,if_neg hz3]
  ·simp only[Eo,T7,Pg,Qd,M6]at c4 ⊢;omega
  ·rw[An hF,b5,c5]
   have e:Lf++Pg o1++[(y:Int)]++Pg o2++[(a:Int)]=Lf++Pg (o1++y::o2)++[(a:Int)]:=by simp[Pg]
   rw[e]
theorem Vm{L:List (List Int)}(h:Lz L=true):∀ z,z<L.length->∀ y∈sN L z,y<L.length:=λz hz y hy=>by
 obtain⟨_,_,h3⟩:=mayS_iff.1 h;obtain⟨x,hx,rfl⟩:=zzL26.1 hy;have:=WZ (h3 z hz) hx;omega
theorem ge{r:Nat}(hr:r<64):NT 64 (one r)=63:=by
 have h:=Ui (n:=64) (s:=λ_=>false) hr rfl
 have e:upd (λ_=>false) r=one r:=by funext z;simp[upd,one]
 rw[e]at h
 have:NT 64 (λ_=>false)=64:=by decide
 omega
theorem N3{α:Type}{n z:Nat}{d:α}:(List.replicate n d).getD z d=d:=by rw[P9,List.getElem?_replicate];split<;>rfl
theorem MI(g:C3)(h:Fits g.Succ)(hP:True)(r:Int) :
  (Y3 g=true->0<=r->r<(g.Succ.length:Int)->∀ L,Ord (sN g.Succ) r.toNat L->Gy g r=some (Pg L)) /\
  ((Y3 g&&(decide (0<=r)&&decide (r<(g.Succ.length:Int))))=false->Gy g r=some []):=by
 refine⟨λhm h0 h1 L hL=>?_,λhf=>?_⟩
 ·have hms:Lz g.Succ=true:=by unfold Y3 at hm;exact(A3 _ _▸hm).1
  obtain⟨hL1,hL64,hLok⟩:=mayS_iff.1 hms;obtain⟨s',o,hv,rfl⟩:=hL;have hrn:((r.toNat:Nat):Int)=r:=Vr h0
  have hr:r.toNat<g.Succ.length:=by omega
  obtain⟨R',T',_,_,_,_,hmain⟩:=UG hms hv (J7 64 false (List.replicate 64 false) r.toNat true) (List.replicate 64 (0:Int)) [] [] r.toNat 0
   (λz hz=>by rw[Nk hz,N3];by_cases hzr:z=r.toNat<;>simp[one,hzr]) hr (by simp) N3 (Lo _) (by simp[one])
   (λz hz _=>N3) (by rw[ge (by omega)];simp)
  rw[if_pos rfl,hrn]at hmain;unfold Gy;rw[jV _ h,hm,Ao];simp only[Fa,Qc,Ad,Au,Pu,Cq h0,Cq h1,R9,Ao];rw[Ac ⟨h0,by omega⟩];have hF:∀ X,Ag (Cw g) (J7 64 false (List.replicate 64 false) r.toNat true,List.replicate 64 (0:Int),[]++[r],[])=some X->
    (Po (Cw g (J7 64 false (List.replicate 64 false) r.toNat true,List.replicate 64 (0:Int),[r],[])) (Cw g)).bind (λx=>some x)=some X:=λX hX=>by
   rw[BJ];rw[T8]at hX;rw[hX];rfl
  refine(hF _ hmain).trans ?_;simp only[T8,List.reverse_append,Pg,Br,List.map_reverse,List.reverse_cons,List.reverse_nil]
  simp
  omega
 ·unfold Gy;rw[jV _ h,Ao]
  cases hm:Y3 g with
  | false=>rfl
  | true=>
   rw[hm,Hi]at hf;simp only[Fa,Qc,Ad,Au,Pu,hf,Ao,Jj]
   rfl
def RelN(n:Nat)(R:List Bool)(s:Nat->Bool):Prop:=R.length=n/\∀ z,z<n->R.getD z false=s z
theorem RelN.set{n:Nat}{R:List Bool}{s:Nat->Bool}(h:RelN n R s){y:Nat}(hy:y<n):RelN n (R.set y true) (upd s y):=by
 refine⟨by rw[H5];exact h.1,λz hz=>?_⟩;rw[P9,List.getElem?_set]
 by_cases hzy:y=z
 ·subst hzy;simp[upd,h.1,hy]
 ·rw[if_neg hzy,<- P9,h.2 z hz];simp[upd,G2 hzy]
theorem L0:∀(n:Nat) (l:List Nat),l.Nodup->(∀ x∈l,x<n)->l.length<=n
 | 0,l,_,h=>by
  cases l with
  | nil=>simp
  | cons x l=>have:=h x (Lb ..);omega
 | n+1,l,hd,h=>by
  by_cases hn:n∈l
  ·have h1:=L0 n (l.erase n) (hd.erase n) λx hx=>by
    have h2:=(hd.mem_erase_iff).1 hx;have:=h x h2.2;have:=h2.1;omega
   rw[List.length_erase_of_mem hn]at h1;omega
  ·have h1:=L0 n l hd λx hx=>by
    have:=h x hx
    have:x≠n:=by rintro rfl;exact hn hx
    omega
   omega
theorem dQ{p:Nat->Bool}{n:Nat}{x:Int}:x∈((List.range n).filter p).map Int.ofNat↔∃ k:Nat,x=(k:Int)/\k<n/\p k=true:=by
 simp only[zzL26,zzL65,zzL44]
 constructor
 ·rintro⟨k,⟨h1,h2⟩,rfl⟩;exact⟨k,rfl,h1,h2⟩
 ·rintro⟨k,rfl,h1,h2⟩;exact⟨k,⟨h1,h2⟩,rfl⟩
theorem cx{L:List (List Int)}{k i:Nat}:AR L k i=true↔(i:Int)∈L.getD k []:=by unfold AR;rw[GQ]
def mk(o:List Bool)(l:List Nat):List Bool:=l.foldl (λo y=>o.set y true) o
theorem kj(l:List Nat):∀ o:List Bool,(mk o l).length=o.length:=by
 induction l with
 | nil=>intro o;rfl
 | cons y l ih=>intro o;show(mk (o.set y true) l).length=_;rw[ih,H5]
theorem mk_at{n:Nat}(l:List Nat):∀(o:List Bool),o.length=n->(∀ y∈l,y<n)->∀ z,(mk o l).getD z false=true↔o.getD z false=true\/z∈l:=by
 induction l with
 | nil=>intro o _ _ z;simp[mk]
 | cons y l ih=>
  intro o ho hl z
  show(mk (o.set y true) l).getD z false=true↔_
  rw[ih (o.set y true) (by rw[H5];exact ho) (λu hu=>hl u (F2 _ hu)) z];have hy:=hl y (Lb ..)
  have e:(o.set y true).getD z false=true↔o.getD z false=true\/z=y:=by
   rw[P9,List.getElem?_set,P9]
   by_cases h:y=z
   ·subst h;simp[ho,hy]
   ·simp[h,G2 h]
  rw[e,zzL25]
  constructor
  ·rintro((h|h)|h)
   ·exact .inl h
   ·exact .inr (.inl h)
   ·exact .inr (.inr h)
  ·rintro(h|h|h)
   ·exact .inl (.inl h)
   ·exact .inl (.inr h)
   ·exact .inr h
def sw(S:Nat->List Nat)(o:List Bool):Nat->List Bool
 | 0=>o
 | i+1=>if(sw S o i).getD i false=true then mk (sw S o i) (S i) else sw S o i
def JU(S:Nat->List Nat)(n:Nat)(o:List Bool):Nat->List Bool
 | 0=>o
 | j+1=>sw S (JU S n o j) n
section
variable {S:Nat->List Nat} {n:Nat} (hS:∀ z,z<n->∀ y∈S z,y<n)
theorem Zs(o:List Bool):∀ i,(sw S o i).length=o.length:=by
 intro i
 induction i with
 | zero=>rfl
 | succ i ih=>unfold sw;split;rw[kj,ih];exact ih
theorem iW(o:List Bool):∀ j,(JU S n o j).length=o.length:=by
 intro j
 induction j with
 | zero=>rfl
 | succ j ih=>unfold JU;rw[Zs,ih]
include hS
theorem DB{o:List Bool}(ho:o.length=n):∀ i,i<=n->∀ z,o.getD z false=true->(sw S o i).getD z false=true:=by
 intro i
 induction i with
 | zero=>intro _ z h;exact h
 | succ i ih=>
  intro hi z h;unfold sw
  split
  ·exact(mk_at (n:=n) _ _ (by rw[Zs];exact ho) (hS i (by omega)) z).2 (.inl (ih (by omega) z h))
  ·exact ih (by omega) z h
theorem eJ{o:List Bool}{r:Nat}(ho:o.length=n)(h:∀ z,o.getD z false=true->Rch S r z):∀ i,i<=n->∀ z,(sw S o i).getD z false=true->Rch S r z:=by
 intro i
 induction i with
 | zero=>intro _ z hz;exact h z hz
 | succ i ih=>
  intro hi z hz;unfold sw at hz
  split at hz
  ·rename_i hsi
   rcases(mk_at (n:=n) _ _ (by rw[Zs];exact ho) (hS i (by omega)) z).1 hz with h1|h1
   ·exact ih (by omega) z h1
   ·exact(ih (by omega) i hsi).tail h1
  ·exact ih (by omega) z hz
theorem ik{o:List Bool}(ho:o.length=n):∀ i,i<=n->∀ j,j<i->o.getD j false=true->∀ y∈S j,(sw S o i).getD y false=true:=by
 intro i
 induction i with
 | zero=>intro _ j hj;omega
 | succ i ih=>
  intro hi j hj hoj y hy;unfold sw
  by_cases hji:j=i
  ·subst hji;have h1:=DB hS ho j (by omega) j hoj;rw[if_pos h1];exact(mk_at (n:=n) _ _ (by rw[Zs];exact ho) (hS j (by omega)) y).2 (.inr hy)
  ·have h1:=ih (by omega) j (by omega) hoj y hy
   split
   ·exact(mk_at (n:=n) _ _ (by rw[Zs];exact ho) (hS i (by omega)) y).2 (.inl h1)
   ·exact h1
theorem bC{o:List Bool}(ho:o.length=n)(hc:∀ j,j<n->o.getD j false=true->∀ y∈S j,o.getD y false=true):∀ i,i<=n->∀ z,(sw S o i).getD z false=true->o.getD z false=true:=by
 intro i
 induction i with
 | zero=>intro _ z h;exact h
 | succ i ih=>
  intro hi z hz;unfold sw at hz
  split at hz
  ·rename_i hsi
   rcases(mk_at (n:=n) _ _ (by rw[Zs];exact ho) (hS i (by omega)) z).1 hz with h1|h1
   ·exact ih (by omega) z h1
   ·exact hc i (by omega) (ih (by omega) i hsi) z h1
  ·exact ih (by omega) z hz
theorem X2{r:Nat}(hr:r<n)(z:Nat):(JU S n ((List.replicate n false).set r true) n).getD z false=true↔Rch S r z:=by
 let o0:=(List.replicate n false).set r true
 have ho0:o0.length=n:=by simp[o0]
 have hat0:∀ z,o0.getD z false=true↔z=r:=λz=>by
  show((List.replicate n false).set r true).getD z false=true↔z=r
  rw[P9,List.getElem?_set]
  by_cases h:r=z
  ·subst h;simp[hr]
  ·rw[if_neg h,<- P9,N3];simp[G2 h]
 have hlen:∀ j,(JU S n o0 j).length=n:=λj=>by rw[iW,ho0]
 have hsound:∀ j z,(JU S n o0 j).getD z false=true->Rch S r z:=by
  intro j
  induction j with
  | zero=>intro z hz;rw[(hat0 z).1 hz];exact .refl _
  | succ j ih=>intro z hz;exact eJ hS (hlen j) ih n (zzL7 _) z hz
 have hmono:∀ j,∀ z,o0.getD z false=true->(JU S n o0 j).getD z false=true:=by
  intro j
  induction j with
  | zero=>intro z h;exact h
  | succ j ih=>intro z h;exact DB hS (hlen j) n (zzL7 _) z (ih z h)
 let C:Nat->Prop:=λj=>∀ i,i<n->(JU S n o0 j).getD i false=true->∀ y∈S i,(JU S n o0 j).getD y false=true
 have key:∀ j,C j\/NT n (λz=>(JU S n o0 j).getD z false)+j+1<=n:=by
  intro j
  induction j with
  | zero=>
   refine .inr ?_;have h1:=Ui (n:=n) (s:=λ_=>false) hr rfl
   have e:upd (λ_=>false) r=λz=>(JU S n o0 0).getD z false:=by
    funext z
    rw[M7,upd_true]
    show _↔o0.getD z false=true
    rw[hat0]
    simp
   rw[e]at h1
   have hcl:NT n (λ_=>false)=n:=by
    unfold NT;rw[List.filter_eq_self.2 (by simp)]
    simp
   omega
  | succ j ih=>
   by_cases hc:C j
   ·refine .inl λi hi h y hy=>?_;have h1:=bC hS (hlen j) hc n (zzL7 _) i h;exact DB hS (hlen j) n (zzL7 _) y (hc i hi h1 y hy)
   ·rcases ih with ih|ih
    ·exact(hc ih).elim
    ·refine .inr ?_
     have hex:∃ i,i<n/\(JU S n o0 j).getD i false=true/\∃ y,y∈S i/\(JU S n o0 j).getD y false=false:=by
      simp only[C]at hc;simp only[Classical.not_forall]at hc;obtain⟨i,hi,h1,y,hy,h2⟩:=hc;exact⟨i,hi,h1,y,hy,by simpa using h2⟩
     obtain⟨i,hi,h1,y,hy,h2⟩:=hex;have h3:=ik hS (hlen j) n (zzL7 _) i hi h1 y hy;have hyn:=hS i hi y hy;have h4:=Ui (n:=n) (s:=λz=>(JU S n o0 j).getD z false) hyn h2
     have h5:NT n (λz=>(JU S n o0 (j+1)).getD z false)<=NT n (upd (λz=>(JU S n o0 j).getD z false) y):=OR λz hz=>by
      rcases upd_true.1 hz with rfl|hz
      ·exact h3
      ·exact DB hS (hlen j) n (zzL7 _) z hz
     omega
 have hC:C n:=by
  rcases key n with h|h
  ·exact h
  ·omega
 constructor
 ·exact hsound n z
 ·intro hrch
  have hlt:∀ x z,Rch S x z->x<n->z<n/\((JU S n o0 n).getD x false=true->(JU S n o0 n).getD z false=true):=by
   intro x z hxz
   induction hxz with
   | refl x=>exact λhx=>⟨hx,id⟩
   | @head x y z hy _ ih=>
    intro hx;have:=ih (hS x hx y hy);exact⟨this.1,λh=>this.2 (hC x hx h y hy)⟩
  exact(hlt r z hrch hr).2 (hmono n r ((hat0 r).2 rfl))
end
def pos:List Nat->Nat->Nat
 | [],_=>0
 | x::l,z=>if x=z then 0 else pos l z+1
theorem FN(x:Nat)(l:List Nat)(z:Nat):pos (x::l) z=if x=z then 0 else pos l z+1:=rfl
theorem iS{A l:List Nat}{z:Nat}(h:z∉A):pos (A++l) z=A.length+pos l z:=by
 induction A with
 | nil=>simp
 | cons x A ih=>
  have h1:x≠z:=λe=>h (by rw[e];exact Lb ..);have h2:z∉A:=λe=>h (F2 _ e);rw[T4,FN,if_neg h1,ih h2,M6];omega
theorem CW{P:List Nat}(hd:P.Nodup){i:Nat}(hi:i<P.length):P[i]∉P.take i/\pos P P[i]=i:=by
 have e:P=P.take i++P[i]::P.drop (i+1):=by rw[<- O7 hi,List.take_append_drop]
 have hn:P[i]∉P.take i:=by
  rw[e]at hd;have:=(List.nodup_append.1 hd).2.2;exact λhm=>this _ hm _ (Lb ..) rfl
 refine⟨hn,?_⟩
 have h2:pos (P.take i++P[i]::P.drop (i+1)) P[i]=i:=by
  rw[iS hn]
  have:pos (P[i]::P.drop (i+1)) P[i]=0:=by rw[FN,if_pos rfl]
  rw[this,Wq];omega
 rw[<- e]at h2;exact h2
theorem OT(d:Array Int)(hs:∀ i j,i<=j->j<d.size->d[i]!<=d[j]!):∀ m,m<=d.size->(∀ x∈Lib.compactUpTo d m,∃ j,j<m/\x=d[j]!)/\(∀ j,j<m->d[j]!∈Lib.compactUpTo d m)/\(Lib.compactUpTo d m).Pairwise (·<·):=by
 intro m
 induction m with
 | zero=>intro _;exact⟨(λx hx=>by simp[Lib.compactUpTo]at hx),(λj hj=>by omega),by simp[Lib.compactUpTo]⟩
 | succ m ih=>
  intro hm;obtain⟨h1,h2,h3⟩:=ih (by omega);rw[Lib.compactUpTo_succ]
  cases hk:Lib.keeps d m with
  | true=>
   rw[if_pos rfl];refine⟨λx hx=>?_,λj hj=>?_,?_⟩
   ·rcases zzL11.1 hx with h|h
    ·obtain⟨j,hj,he⟩:=h1 x h;exact⟨j,by omega,he⟩
    ·exact⟨m,by omega,by simpa using h⟩
   ·by_cases hjm:j=m
    ·subst hjm;simp
    ·exact zzL11.2 (.inl (h2 j (by omega)))
   ·rw[zzL126];refine⟨h3,List.pairwise_singleton _ _,λx hx y hy=>?_⟩;obtain⟨j,hj,rfl⟩:=h1 x hx
    have hy':y=d[m]!:=by simpa using hy
    subst hy'
    have hk':m=0\/d[m]!≠d[m-1]!:=by simpa [Lib.keeps] using hk
    rcases hk' with h0|h0
    ·omega
    ·have a1:=hs j (m-1) (by omega) (by omega);have a2:=hs (m-1) m (by omega) (by omega);omega
  | false=>
   have hk':m≠0/\d[m]! = d[m-1]!:=by
    have:¬ (m=0\/d[m]!≠d[m-1]!):=by
     intro h
     have:Lib.keeps d m=true:=by simpa [Lib.keeps] using h
     rw[hk]at this;cases this
    exact⟨λh=>this (.inl h),Classical.not_not.1 λh=>this (.inr h)⟩
   simp only[Yf,Eu,List.append_nil];refine⟨λx hx=>by obtain⟨j,hj,he⟩:=h1 x hx;exact⟨j,by omega,he⟩,λj hj=>?_,h3⟩
   by_cases hjm:j=m
   ·subst hjm;rw[hk'.2];exact h2 _ (by omega)
   ·exact h2 j (by omega)
def FW(l:List Int):List Int:=Lib.compact (l.mergeSort λx y=>decide (x<=y))
theorem aq(l:List Int):(FW l).Pairwise (·<·)/\∀ x,x∈FW l↔x∈l:=by
 unfold FW Lib.compact;have hp:(l.mergeSort λx y=>decide (x<=y)).Pairwise (λa b=>decide (a<=b)=true):=List.pairwise_mergeSort (λa b c h1 h2=>by simp at *;omega) (λa b=>by simp;omega) l;have hm:∀ x,x∈(l.mergeSort λx y=>decide (x<=y))↔x∈l:=λx=>List.mem_mergeSort
 generalize l.mergeSort (λx y=>decide (x<=y))=z at hp hm ⊢
 have hz:∀ j,j<z.length->z.toArray[j]! = z.getD j 0:=λj hj=>by simp[List.getD,hj]
 obtain⟨h1,h2,h3⟩:=OT z.toArray (λi j hij hj=>by
  have hj':j<z.length:=by simpa using hj
  rw[hz i (by omega),hz j hj']
  by_cases he:i=j
  ·rw[he];exact Int.le_refl _
  ·have:=(zzL102.1 hp) i j (by omega) hj' (by omega);rw[Aa _ _ _ (by omega),Aa _ _ _ hj']
   simpa using this) z.length (by simp)
 refine⟨h3,λx=>?_⟩;rw[<- hm x]
 constructor
 ·intro hx;obtain⟨j,hj,rfl⟩:=h1 x hx;rw[hz j hj];exact getD_mem hj
 ·intro hx;obtain⟨j,hj,rfl⟩:=Ll hx;have:=h2 j hj;rwa[hz j hj,Aa _ _ _ hj]at this
def jj(n:Nat)(l:List Int):Bool:=(List.range l.length).all λi=>decide (0<l.getD i 0)&&decide (l.getD i 0<(n:Int))
def jk(k:Int):Int:=([0,1,2,0]:List Int).getD k.toNat 0
def PD(e:Hs):Bool:=(decide (0<=e.Kind)&&decide (e.Kind<=3))&&decide ((e.To.length:Int)=jk e.Kind)
def Nt(e:Hs)(n:Nat):Bool:=PD e&&jj n e.To
theorem toB_iff{n:Nat}{l:List Int}:jj n l=true↔∀ x∈l,0<x/\x<n:=by
 unfold jj;rw[all_range];simp only[A3,Dw]
 constructor
 ·intro h x hx;obtain⟨i,hi,rfl⟩:=Ll hx;have:=h i hi;rwa[Aa _ _ _ hi]at this
 ·intro h i hi;exact h _ (getD_mem hi)
theorem cg(e:Hs)(n:Nat)(hl:e.To.length<4611686018427387904):Ag (B3 e (n:Int)) (0:Int)=some (bif jj n e.To then .inl () else .inr false):=by
 have step:∀ j:Nat,j<e.To.length->B3 e (n:Int) (j:Int)=bif (decide (0<e.To.getD j 0)&&decide (e.To.getD j 0<(n:Int))) then some (.next (((j+1:Nat):Int))) else some (.done (.inr false)):=λj hj=>by
  unfold B3;simp only[A4,Fz hj,Ad,Pu,w1 (show j<4611686018427387904 by omega)];rw[Ac (Jf hj)]
  by_cases h0:e.To.getD j 0=0
  ·rw[h0];rfl
  ·have:(e.To.getD j 0==0)=false:=by rw[zzL20];exact h0
   rw[this];simp only[Qc,Ad,Au,Ao]
   have e1:decide (0<e.To.getD j 0)=decide (0<=e.To.getD j 0):=by apply zzL108.2;omega
   rw[e1]
   cases(decide (0<=e.To.getD j 0)&&decide (e.To.getD j 0<(n:Int)))<;>rfl
 have:=Lu (B3 e (n:Int)) (λj=>((j:Nat):Int)) (λi=>decide (0<e.To.getD i 0)&&decide (e.To.getD i 0<(n:Int))) (.inl ()) (.inr false) e.To.length (λj hj hp=>?_) (λj hj hp=>?_) ?_
 ·exact this
 ·show B3 e (n:Int) (j:Int)=_
  rw[step j hj,hp];rfl
 ·show B3 e (n:Int) (j:Int)=_
  rw[step j hj,hp];rfl
 ·show B3 e (n:Int) _=_
  unfold B3;simp only[Kp,Au]
theorem Xa(e:Hs)(n:Nat)(w:Int)(hw:0<=w/\w<=2) :
  (bif ((e.To.length:Int)!=w) then(some false) else((Ag (B3 e (n:Int)) (0:Int)).bind (λx10=>(match x10 with|(.inl _)=>(some true)|(.inr r12)=>(some r12)))))=some (decide ((e.To.length:Int)=w)&&jj n e.To):=by
 by_cases h:(e.To.length:Int)=w
 ·rw[show((e.To.length:Int)!=w)=false by simpa using h,Au,cg e n (by omega),Cq h]
  cases jj n e.To<;>rfl
 ·rw[show((e.To.length:Int)!=w)=true by simpa using h,Ad,Cx h];rfl
theorem ZQ(e:Hs)(n:Nat):Jx e (n:Int)=some (Nt e n):=by
 unfold Jx Nt PD
 by_cases h0:e.Kind=0
 ·rw[h0];exact Xa e n 0 (by omega)
 by_cases h1:e.Kind=1
 ·rw[h1];exact Xa e n 1 (by omega)
 by_cases h2:e.Kind=2
 ·rw[h2];exact Xa e n 2 (by omega)
 by_cases h3:e.Kind=3
 ·rw[h3];exact Xa e n 0 (by omega)
 have e0:(e.Kind==0)=false:=by rw[zzL20];exact h0
 have e1:(e.Kind==1)=false:=by rw[zzL20];exact h1
 have e2:(e.Kind==2)=false:=by rw[zzL20];exact h2
 have e3:(e.Kind==3)=false:=by rw[zzL20];exact h3
 rw[e0,e1,e2,e3]
 have:(decide (0<=e.Kind)&&decide (e.Kind<=3))=false:=by
  by_cases h:0<=e.Kind
  ·rw[Cx (show ¬ e.Kind<=3 by omega)];simp
  ·rw[Cx h];rfl
 rw[this]
 rfl
theorem cm{e:Hs}{n:Nat}(h:Nt e n=true):e.To.length<=2:=by
 unfold Nt PD at h;simp only[A3,Dw]at h;obtain⟨⟨⟨h0,h1⟩,h2⟩,_⟩:=h
 have:jk e.Kind<=2:=by
  have:e.Kind=0\/e.Kind=1\/e.Kind=2\/e.Kind=3:=by omega
  rcases this with h|h|h|h<;>rw[h]<;>decide
 omega
theorem gp{e:Hs}{n:Nat}(h:Nt e n=true):jj n e.To=true:=by unfold Nt at h;exact(A3 _ _▸h).2
def Ns(f:TFunc)(i:Nat):Hs:=(f.Blocks.getD i (default:Af)).End
def En(f:TFunc):List (List Int):=(List.range f.Blocks.length).map λi=>FW (Ns f i).To
def N6(f:TFunc):Bool:=(decide (1<=f.Blocks.length)&&decide (f.Blocks.length<=64))&&(List.range f.Blocks.length).all λi=>Nt (Ns f i) f.Blocks.length
theorem shape_iff{f:TFunc}:N6 f=true↔(1<=f.Blocks.length/\f.Blocks.length<=64)/\∀ i,i<f.Blocks.length->Nt (Ns f i) f.Blocks.length=true:=by
 unfold N6;rw[A3,A3,all_range];simp only[Dw]
theorem ic{f:TFunc}{i:Nat}(h:Nt (Ns f i) f.Blocks.length=true):fU f.Blocks.length (FW (Ns f i).To)=true:=by
 obtain⟨h1,h2⟩:=aq (Ns f i).To;exact kp (λx hx=>by have:=(toB_iff.1 (gp h)) x ((h2 x).1 hx);omega) h1
theorem Tn{f:TFunc}(h:N6 f=true):Lz (En f)=true:=by
 obtain⟨⟨h1,h2⟩,h3⟩:=shape_iff.1 h
 have hl:(En f).length=f.Blocks.length:=by simp[En]
 refine mayS_iff.2 ⟨by omega,by omega,λi hi=>?_⟩;rw[hl]at hi ⊢;unfold En;rw[Qu hi];exact ic (h3 i hi)
theorem oH(f:TFunc)(hf:f.Blocks.length<=maxLen):Q0 f=some (bif N6 f then(Yq (En f),0) else(g0,5)):=by
 have hroom:(1000:Nat)<=room:=by decide
 unfold Q0;rw[JE,Ao];have hsh:N6 f=((decide (1<=f.Blocks.length)&&decide (f.Blocks.length<=64))&&(List.range f.Blocks.length).all λi=>Nt (Ns f i) f.Blocks.length):=rfl
 cases hc:(decide (1<=f.Blocks.length)&&decide (f.Blocks.length<=64)) with
 | false=>rw[hsh,hc];rfl
 | true=>
  have hc':=hc;simp only[A3,Dw]at hc';simp only[Fa,Au];rw[Ac ⟨by omega,Int.le_refl _,by omega⟩,A4]
  let U:Nat->List (List Int):=λi=>(List.range f.Blocks.length).map λj=>if j<i then FW (Ns f j).To else[]
  have e0:List.replicate f.Blocks.length ([]:List Int)=U 0:=by
   simp only[U]
   apply List.ext_getElem?
   intro j
   by_cases hj:j<f.Blocks.length<;>simp[hj,List.getElem?_replicate]
  have eN:U f.Blocks.length=En f:=by
   simp only[U,En]
   apply Pv
   intro j hj;rw[if_pos hj]
  rw[e0]
  have hstep:∀ i:Nat,i<f.Blocks.length->Ez f ((i:Int),U i)=bif Nt (Ns f i) f.Blocks.length then some (.next (((i+1:Nat):Int),U (i+1))) else some (.done (.inr (g0,5))):=λi hi=>by
   unfold Ez;simp only[Fz hi,Ad,A4];rw[Ac (Jf hi)];have he:(⟨(f.Blocks.getD i (default:Af)).End.Kind,(f.Blocks.getD i (default:Af)).End.Arg,(f.Blocks.getD i (default:Af)).End.To⟩:Hs)=Ns f i:=rfl;rw[he,ZQ,Ao]
   cases hfit:Nt (Ns f i) f.Blocks.length with
   | false=>rfl
   | true=>
    have hl2:=cm hfit;simp only[Fa,Au,Ad]
    have hx:Yc (f.Blocks.getD i (default:Af)).End.To=some (FW (Ns f i).To):=by
     unfold Yc;rw[WT,Ac (by show(Ns f i).To.length<=_;omega)]
     rfl
    rw[hx,Ao,Ac (Jf (by simp[U];omega)),w1 (by omega)]
    congr 3
    simp only[U];rw[MZ]
    apply Pv
    intro j hj
    by_cases h1:j=i
    ·subst h1;rw[if_pos rfl,if_pos (by omega)]
    ·rw[if_neg h1]
     by_cases h2:j<i
     ·rw[if_pos h2,if_pos (by omega)]
     ·rw[if_neg h2,if_neg (by omega)]
  have:=Lu (Ez f) (λi=>(((i:Nat):Int),U i)) (λi=>Nt (Ns f i) f.Blocks.length) (.inl (U f.Blocks.length)) (.inr (g0,5)) f.Blocks.length (λi hi hp=>?_) (λi hi hp=>?_) ?_
  ·rw[show Ag (Ez f) ((0:Int),U 0)=_ from this,hsh,hc,eN,Hi]
   cases hall:(List.range f.Blocks.length).all λi=>Nt (Ns f i) f.Blocks.length with
   | false=>rfl
   | true=>
    simp only[Ad,Ao];rw[PN _ (Tn (by rw[hsh,hc,hall];rfl))]
    rfl
  ·show Ez f (_,_)=_
   rw[hstep i hi,hp];rfl
  ·show Ez f (_,_)=_
   rw[hstep i hi,hp];rfl
  ·show Ez f (_,_)=_
   unfold Ez;simp only[Kp,Au]
inductive Rc (S:Nat->List Nat) (r:Nat):Nat->Prop
 | root:Rc S r r
 | step {x y:Nat} (h:Rc S r x) (hy:y∈S x):Rc S r y
inductive Av (S:Nat->List Nat) (r z:Nat):Nat->Prop
 | root (h:r≠z):Av S r z r
 | step {x y:Nat} (h:Av S r z x) (hy:y∈S x) (hz:y≠z):Av S r z y
inductive AvN (S:Nat->List Nat) (r z:Nat):Nat->Nat->Prop
 | root (h:r≠z) (k:Nat):AvN S r z k r
 | step {k x y:Nat} (h:AvN S r z k x) (hy:y∈S x) (hz:y≠z):AvN S r z (k+1) y
section
variable {S:Nat->List Nat} {r:Nat}
theorem rc_iff{x:Nat}:Rc S r x↔Rch S r x:=by
 constructor
 ·intro h
  induction h with
  | root=>exact .refl _
  | step _ hy ih=>exact ih.tail hy
 ·intro h
  have key:∀ a b,Rch S a b->Rc S r a->Rc S r b:=by
   intro a b hab
   induction hab with
   | refl x=>exact id
   | head hy _ ih=>exact λha=>ih (.step ha hy)
  exact key _ _ h .root
def wo(S:Nat->List Nat)(z:Nat):Nat->List Nat:=λx=>(S x).filter λy=>decide (y≠z)
theorem av_iff{z x:Nat}:Av S r z x↔r≠z/\Rch (wo S z) r x:=by
 constructor
 ·intro h
  induction h with
  | root h=>exact⟨h,.refl _⟩
  | step _ hy hz ih=>exact⟨ih.1,ih.2.tail (zzL65.2 ⟨hy,by simpa using hz⟩)⟩
 ·rintro⟨hr,h⟩
  have key:∀ a b,Rch (wo S z) a b->Av S r z a->Av S r z b:=by
   intro a b hab
   induction hab with
   | refl x=>exact id
   | head hy _ ih=>
    obtain⟨h1,h2⟩:=zzL65.1 hy;exact λha=>ih (.step ha h1 (by simpa using h2))
  exact key _ _ h (.root hr)
theorem Av.rc{z x:Nat}(h:Av S r z x):Rc S r x:=by
 induction h with
 | root _=>exact .root
 | step _ hy _ ih=>exact .step ih hy
theorem Av.ne{z x:Nat}(h:Av S r z x):x≠z:=by
 cases h with
 | root h=>exact h
 | step _ _ hz=>exact hz
theorem AvN.av{z k x:Nat}(h:AvN S r z k x):Av S r z x:=by
 induction h with
 | root h=>exact .root h
 | step _ hy hz ih=>exact .step ih hy hz
theorem AvN.up{z k x:Nat}(h:AvN S r z k x):AvN S r z (k+1) x:=by
 induction h with
 | root h k=>exact .root h _
 | step _ hy hz ih=>exact .step ih hy hz
theorem AvN.mono{z k m x:Nat}(h:AvN S r z k x)(hm:k<=m):AvN S r z m x:=by
 obtain⟨d,rfl⟩:=Nat.exists_eq_add_of_le hm;clear hm
 induction d with
 | zero=>exact h
 | succ d ih=>exact ih.up
theorem Av.avn{z x:Nat}(h:Av S r z x):∃ k,AvN S r z k x:=by
 induction h with
 | root h=>exact⟨0,.root h 0⟩
 | step _ hy hz ih=>obtain⟨k,hk⟩:=ih;exact⟨k+1,.step hk hy hz⟩
theorem AvN.via {z k x : Nat} (h : AvN S r z k x) (y : Nat) : AvN S r y k x ∨ AvN S r z k y := by
  induction h with
  | root h k => by_cases hy : r = y
                · subst hy; exact .inr (.root h _)
                · exact .inl (.root hy _)
  | @step k x w h hy hz ih =>
    rcases ih with h1 | h1
    · by_cases hw : w = y
      · subst hw; exact .inr (.step h hy hz)
      · exact .inl (.step h1 hy hw)
    · exact .inr h1.up
theorem YP(n:Nat):∃ K,∀ z,z<n->∀ x,x<n->Av S r z x->AvN S r z K x:=by
 have one:∀ z m,∃ K,∀ x,x<m->Av S r z x->AvN S r z K x:=by
  intro z m
  induction m with
  | zero=>exact⟨0,λx hx=>absurd hx (M8 x)⟩
  | succ m ih=>
   obtain⟨K,hK⟩:=ih
   by_cases h:Av S r z m
   ·obtain⟨k,hk⟩:=h.avn;refine⟨max K k,λx hx ha=>?_⟩;rcases zzL117.1 hx with h1|rfl
    ·exact(hK x h1 ha).mono (Nat.le_max_left ..)
    ·exact hk.mono (Nat.le_max_right ..)
   ·refine⟨K,λx hx ha=>?_⟩;rcases zzL117.1 hx with h1|rfl
    ·exact hK x h1 ha
    ·exact absurd ha h
 have two:∀ m,∃ K,∀ z,z<m->∀ x,x<n->Av S r z x->AvN S r z K x:=by
  intro m
  induction m with
  | zero=>exact⟨0,λx hx=>absurd hx (M8 x)⟩
  | succ m ih=>
   obtain⟨K,hK⟩:=ih;obtain⟨k,hk⟩:=one m n;refine⟨max K k,λz hz x hx ha=>?_⟩;rcases zzL117.1 hz with h1|rfl
   ·exact(hK z h1 x hx ha).mono (Nat.le_max_left ..)
   ·exact(hk x hx ha).mono (Nat.le_max_right ..)
 exact two n
end
inductive UpTo (par:Nat->Int):Nat->Nat->Prop
 | refl (x:Nat):UpTo par x x
 | up {x y z:Nat} (h:par x=(y:Int)) (t:UpTo par y z):UpTo par x z
inductive Fw (S:Nat->List Nat) (at_:Nat->Nat) (u:Nat):Nat->Prop
 | refl:Fw S at_ u u
 | step {v w:Nat} (h:Fw S at_ u v) (hw:w∈S v) (hl:at_ v<at_ w):Fw S at_ u w
section
variable {S:Nat->List Nat} {at_:Nat->Nat} {par:Nat->Int}
theorem Fw.le{u w:Nat}(h:Fw S at_ u w):at_ u<=at_ w:=by
 induction h with
 | refl=>exact zzL7 _
 | step _ _ hl ih=>omega
theorem Fw.trans{u v w:Nat}(h:Fw S at_ u v)(k:Fw S at_ v w):Fw S at_ u w:=by
 induction k with
 | refl=>exact h
 | step _ hw hl ih=>exact .step ih hw hl
theorem Fw.av{r d u w:Nat}(h:Fw S at_ u w)(ha:Av S r d u)(hd:at_ d<at_ u):Av S r d w:=by
 induction h with
 | refl=>exact ha
 | @step v w h hw hl ih=>exact .step ih hw (by rintro rfl;have:=h.le;omega)
theorem UpTo.trans{x y z:Nat}(h:UpTo par x y)(k:UpTo par y z):UpTo par x z:=by
 induction h with
 | refl x=>exact k
 | up h _ ih=>exact .up h (ih k)
theorem anc_up{x p z:Nat}(h:par x=(p:Int)):UpTo par x z↔z=x\/UpTo par p z:=by
 constructor
 ·intro k
  cases k with
  | refl=>exact .inl rfl
  | up h' t=>rw[h]at h';cases Vw h';exact .inr t
 ·rintro(rfl|k)
  ·exact .refl _
  ·exact .up h k
theorem CI{x z:Nat}(h:∀ p:Nat,par x≠(p:Int)):UpTo par x z↔z=x:=by
 constructor
 ·intro k
  cases k with
  | refl=>rfl
  | up h' t=>exact absurd h' (h _)
 ·rintro rfl;exact .refl _
structure Inv(S:Nat->List Nat)(r n:Nat)(at_:Nat->Nat)(par:Nat->Int):Prop where
 top:par r = -1
 kind:∀ x,x<n->par x = -2\/x=r\/∃ z:Nat,par x=(z:Int)
 up:∀ x,x<n->∀ z:Nat,par x=(z:Int)->z<n/\par z≠-2/\at_ z<at_ x/\Fw S at_ z x
 rc:∀ x,x<n->par x≠-2->Rc S r x
 all:∀ x,x<n->par x≠-2->∀ d,¬ UpTo par x d->Av S r d x
end
section
variable {S:Nat->List Nat} {at_:Nat->Nat} {par:Nat->Int} {r n:Nat}
theorem Inv.anc(h:Inv S r n at_ par){x z:Nat}(k:UpTo par x z)(hx:x<n)(hp:par x≠-2):z<n/\par z≠-2/\at_ z<=at_ x/\Fw S at_ z x:=by
 induction k with
 | refl x=>exact⟨hx,hp,zzL7 _,.refl⟩
 | @up x y z hxy t ih=>
  obtain⟨h1,h2,h3,h4⟩:=h.up x hx y hxy;obtain⟨i1,i2,i3,i4⟩:=ih h1 h2;exact⟨i1,i2,by omega,i4.trans h4⟩
theorem Inv.root_anc(h:Inv S r n at_ par){z:Nat}:UpTo par r z↔z=r:=CI λp hp=>by rw[h.top]at hp;omega
theorem Inv.strict(h:Inv S r n at_ par){x z:Nat}(k:UpTo par x z)(hx:x<n)(hp:par x≠-2):z=x\/at_ z<at_ x:=by
 cases k with
 | refl=>exact .inl rfl
 | up hxy t=>
  obtain⟨h1,h2,h3,h4⟩:=h.up x hx _ hxy;obtain⟨i1,i2,i3,i4⟩:=h.anc t h1 h2;exact .inr (by omega)
theorem Inv.antisymm(h:Inv S r n at_ par){x z:Nat}(k:UpTo par x z)(m:UpTo par z x)(hx:x<n)(hp:par x≠-2):z=x:=by
 rcases h.strict k hx hp with rfl|h1
 ·rfl
 ·obtain⟨i1,i2,i3,i4⟩:=h.anc k hx hp;have:=(h.anc m i1 i2).2.2.1;omega
def MeetAt(par:Nat->Int)(a b m:Nat):Prop:=∀ w,UpTo par m w↔UpTo par a w/\UpTo par b w
theorem JF{a:Nat}:MeetAt par a a a:=λw=>by simp
theorem ZX{a b m:Nat}(h:MeetAt par a b m):MeetAt par b a m:=λw=>by rw[h w];exact And.comm
theorem Inv.meet_left(h:Inv S r n at_ par)(hinj:∀ x y,x<n->y<n->par x≠-2->par y≠-2->at_ x=at_ y->x=y){a b p m:Nat}(ha:a<n)(hpa:par a≠-2)(hb:b<n)(hpb:par b≠-2)(hab:a≠b)(hl:at_ b<=at_ a)(hp:par a=(p:Int))(k:MeetAt par p b m):MeetAt par a b m:=λw=>by
 rw[k w]
 constructor
 ·rintro⟨h1,h2⟩;exact⟨.up hp h1,h2⟩
 ·rintro⟨h1,h2⟩;rcases(anc_up hp).1 h1 with rfl|h1
  ·exfalso
   rcases h.strict h2 hb hpb with h3|h3
   ·exact hab h3
   ·omega
  ·exact⟨h1,h2⟩
end
section
variable {S:Nat->List Nat} {at_:Nat->Nat} {par:Nat->Int} {r n:Nat}
def K9(par:Nat->Int)(y:Nat)(v:Int):Nat->Int:=λx=>if x=y then v else par x
def SI(S:Nat->List Nat)(n:Nat)(par:Nat->Int)(y z:Nat):Prop:=∀ w,UpTo par z w↔∀ p,p<n->y∈S p->par p≠-2->UpTo par p w
theorem AK{y:Nat}{v:Int}{x z:Nat}(k:UpTo par x z)(hy:¬ UpTo par x y):UpTo (K9 par y v) x z:=by
 induction k with
 | refl x=>exact .refl _
 | @up x q z h t ih=>
  have hxy:x≠y:=by rintro rfl;exact hy (.refl _)
  refine .up (y:=q) ?_ (ih λk=>hy (.up h k));unfold K9;rw[if_neg hxy];exact h
theorem OC{y:Nat}{v:Int}{x:Nat}(k:UpTo par x y):UpTo (K9 par y v) x y:=by
 induction k with
 | refl x=>exact .refl _
 | @up x q z h t ih=>
  by_cases hxy:x=z
  ·subst hxy;exact .refl _
  ·refine .up (y:=q) ?_ ih;unfold K9;rw[if_neg hxy];exact h
theorem anc_upd_inv{y:Nat}{v:Int}{x w:Nat}(k:UpTo (K9 par y v) x w):UpTo par x w\/(UpTo par x y/\UpTo (K9 par y v) y w):=by
 induction k with
 | refl x=>exact .inl (.refl _)
 | @up x q w h t ih=>
  by_cases hxy:x=y
  ·subst hxy;exact .inr ⟨.refl _,.up h t⟩
  ·unfold K9 at h;rw[if_neg hxy]at h;rcases ih with h1|⟨h1,h2⟩
   ·exact .inl (.up h h1)
   ·exact .inr ⟨.up h h1,h2⟩
theorem low_or{y:Nat}{v:Int}{x d:Nat}(k:UpTo par x y)(hd:UpTo par x d):UpTo par y d\/UpTo (K9 par y v) x d:=by
 induction k with
 | refl x=>exact .inl hd
 | @up x q y hq t ih=>
  by_cases e:x=y
  ·subst e;exact .inl hd
  ·rcases(anc_up hq).1 hd with rfl|k
   ·exact .inr (.refl _)
   ·rcases ih k with h1|h1
    ·exact .inl h1
    ·exact .inr (.up (y:=q) (by unfold K9;rw[if_neg e];exact hq) h1)
structure Better(S:Nat->List Nat)(r n:Nat)(at_:Nat->Nat)(par:Nat->Int)(y z:Nat):Prop where
 inv:Inv S r n at_ par
 hy:y<n
 hr:y≠r
 hz:z<n
 best:SI S n par y z
 fwd:∃ p,p<n/\y∈S p/\par p≠-2/\at_ p<at_ y
variable {y z:Nat}
theorem Better.zlt(h:Better S r n at_ par y z):UpTo par z z/\par z≠-2/\at_ z<at_ y/\Fw S at_ z y:=by
 obtain⟨p,hp,hyp,hpp,hl⟩:=h.fwd;obtain⟨h1,h2,h3,h4⟩:=h.inv.anc ((h.best z).1 (.refl _) p hp hyp hpp) hp hpp;exact⟨.refl _,h2,by omega,.step h4 hyp hl⟩
theorem Better.above(h:Better S r n at_ par y z){w:Nat}:UpTo (K9 par y z) z w↔UpTo par z w:=by
 obtain⟨_,h2,h3,_⟩:=h.zlt
 have hn:¬ UpTo par z y:=λk=>by have:=(h.inv.anc k h.hz h2).2.2.1;omega
 constructor
 ·intro k;rcases anc_upd_inv k with h1|⟨h1,_⟩
  ·exact h1
  ·exact absurd h1 hn
 ·intro k;exact AK k hn
theorem Better.here(h:Better S r n at_ par y z){w:Nat}:UpTo (K9 par y z) y w↔w=y\/UpTo par z w:=by
 rw[anc_up (p:=z) (by simp[K9]),h.above]
theorem Better.av_here(h:Better S r n at_ par y z){d:Nat}(hd:¬ UpTo (K9 par y z) y d):Av S r d y:=by
 rw[h.here]at hd;have h1:¬ ∀ p,p<n->y∈S p->par p≠-2->UpTo par p d:=λhh=>hd (.inr ((h.best d).2 hh));simp only[Classical.not_forall]at h1;obtain⟨p,hp,hyp,hpp,hnp⟩:=h1;exact .step (h.inv.all p hp hpp d hnp) hyp λe=>hd (.inl e.symm)
theorem Better.inv'(h:Better S r n at_ par y z):Inv S r n at_ (K9 par y z):=by
 obtain⟨hzz,hz2,hzl,hzf⟩:=h.zlt;obtain⟨p,hp,hyp,hpp,hl⟩:=h.fwd
 have hne:∀ x,K9 par y z x≠-2->x=y\/par x≠-2:=λx hx=>by
  by_cases e:x=y
  ·exact .inl e
  ·unfold K9 at hx;rw[if_neg e]at hx;exact .inr hx
 have hyv:K9 par y z y=(z:Int):=by simp[K9]
 have hyo:∀ x,x≠y->K9 par y z x=par x:=λx e=>by unfold K9;rw[if_neg e]
 refine⟨by rw[hyo _ (G2 h.hr)];exact h.inv.top,λx hx=>?_,λx hx w hw=>?_,λx hx hxp=>?_,λx hx hxp d hd=>?_⟩
 ·by_cases e:x=y
  ·subst e;exact .inr (.inr ⟨z,hyv⟩)
  ·rw[hyo x e];exact h.inv.kind x hx
 ·have hzn:∀ w,par w≠-2->K9 par y z w≠-2:=λw hw=>by
   by_cases e:w=y
   ·subst e;rw[hyv];omega
   ·rw[hyo w e];exact hw
  by_cases e:x=y
  ·subst e;rw[hyv]at hw
   cases Vw hw
   exact⟨h.hz,hzn _ hz2,hzl,hzf⟩
  ·rw[hyo x e]at hw;obtain⟨h1,h2,h3,h4⟩:=h.inv.up x hx w hw;exact⟨h1,hzn _ h2,h3,h4⟩
 ·rcases hne x hxp with rfl|h1
  ·exact .step (h.inv.rc p hp hpp) hyp
  ·exact h.inv.rc x hx h1
 ·by_cases e:x=y
  ·subst e;exact h.av_here hd
  ·rw[hyo x e]at hxp
   by_cases hxd:UpTo par x d
   ·
    by_cases hxy:UpTo par x y
    ·have hyd:¬ UpTo (K9 par y z) y d:=λk=>hd ((OC hxy).trans k);have hav:=h.av_here hyd;have hf:=(h.inv.anc hxy hx hxp).2.2.2
     have hdy:UpTo par y d:=by
      rcases low_or (v:=(z:Int)) hxy hxd with h1|h1
      ·exact h1
      ·exact absurd h1 hd
     by_cases hpy:par y = -2
     ·
      have:d=y:=by
       refine(CI (par:=par) λp hp=>?_).1 hdy;rw[hpy]at hp;omega
      subst this;exact absurd (.refl _) hyd
     ·rcases h.inv.strict hdy h.hy hpy with rfl|hlt
      ·exact absurd (.refl _) hyd
      ·exact hf.av hav hlt
    ·exact absurd (AK hxd hxy) hd
   ·exact h.inv.all x hx hxp d hxd
end
section
variable {S:Nat->List Nat} {at_:Nat->Nat} {par:Nat->Int} {r n:Nat}
def QB(S:Nat->List Nat)(r n:Nat)(par:Nat->Int)(b:Nat->Nat):Prop:=∀ x,x<n->par x≠-2->∀ z,AvN S r z (b x) x->¬ UpTo par x z
def SJ(S:Nat->List Nat)(r n:Nat)(par:Nat->Int):Prop:=∀ x,x<n->Rc S r x->par x≠-2
def VU(S:Nat->List Nat)(r n:Nat)(par:Nat->Int):Prop:=∀ x,x<n->par x≠-2->∀ d,UpTo par x d↔¬ Av S r d x
theorem iV(h:Inv S r n at_ par):QB S r n par λ_=>0:=λx hx hp z hz k=>by
 cases hz with
 | root hr _=>exact hr (h.root_anc.1 k).symm
theorem XF(hS:∀ x,x<n->∀ w∈S x,w<n)(hr:r<n){x:Nat}(h:Rc S r x):x<n:=by
 induction h with
 | root=>exact hr
 | step _ hy ih=>exact hS _ ih _ hy
theorem Better.qb{y z k:Nat}{b:Nat->Nat}(h:Better S r n at_ par y z)(hS:∀ x,x<n->∀ w∈S x,w<n)(hrn:r<n)(full:SJ S r n par)(hb:∀ x,x<n->k<=b x/\b x<=k+1)(q:QB S r n par b) :
  QB S r n (K9 par y z) λx=>if x=y then k+1 else b x:=by
 have here:∀ w,AvN S r w (k+1) y->¬ UpTo (K9 par y z) y w:=λw hw hu=>by
  rcases h.here.1 hu with rfl|hu
  ·exact hw.av.ne rfl
  ·cases hw with
   | root hr _=>exact h.hr rfl
   | @step _ p _ hp hyp hne=>
    have hpn:=XF hS hrn hp.av.rc;have hpp:=full p hpn hp.av.rc;exact q p hpn hpp w (hp.mono (hb p hpn).1) ((h.best w).1 hu p hpn hyp hpp)
 intro x hx hxp w hw hu
 dsimp only at hw
 by_cases e:x=y
 ·subst e;rw[if_pos rfl]at hw;exact here w hw hu
 ·rw[if_neg e]at hw;unfold K9 at hxp;rw[if_neg e]at hxp;rcases anc_upd_inv hu with h1|⟨h1,h2⟩
  ·exact q x hx hxp w hw h1
  ·rcases hw.via y with h3|h3
   ·exact q x hx hxp y h3 h1
   ·exact here w (h3.mono (hb x hx).2) h2
theorem cj(h:Inv S r n at_ par){K:Nat}(hK:∀ z,z<n->∀ x,x<n->Av S r z x->AvN S r z K x)(q:QB S r n par λ_=>K):VU S r n par:=λx hx hp d=>by
 constructor
 ·intro hu ha;exact q x hx hp d (hK d (h.anc hu hx hp).1 x hx ha) hu
 ·intro ha;exact GK λhn=>ha (h.all x hx hp d hn)
theorem Better.same{y z:Nat}(h:Better S r n at_ par y z)(hS:∀ x,x<n->∀ w∈S x,w<n)(hrn:r<n)(full:SJ S r n par)(hy2:par y≠-2)(ex:VU S r n par):par y=(z:Int):=by
 obtain⟨hzz,hz2,hzl,hzf⟩:=h.zlt;rcases h.inv.kind y h.hy with h1|h1|⟨q,hq⟩
 ·exact absurd h1 hy2
 ·exact absurd h1 h.hr
 ·obtain⟨q1,q2,q3,q4⟩:=h.inv.up y h.hy q hq
  have key:∀ w,UpTo par z w↔UpTo par q w:=λw=>by
   rw[h.best w]
   constructor
   ·intro hall
    have hwy:¬ Av S r w y:=λha=>by
     cases ha with
     | root _=>exact h.hr rfl
     | @step p _ hp hyp hne=>
      have hpn:=XF hS hrn hp.rc;have hpp:=full p hpn hp.rc;exact(ex p hpn hpp w).1 (hall p hpn hyp hpp) hp
    rcases(anc_up hq).1 ((ex y h.hy hy2 w).2 hwy) with rfl|hu
    ·have:=(h.inv.anc ((h.best _).2 hall) h.hz hz2).2.2.1;omega
    ·exact hu
   ·intro hu p hp hyp hpp;have hwy:UpTo par y w:=.up hq hu;refine(ex p hp hpp w).2 λha=>?_
    have hne:y≠w:=by rintro rfl;have:=(h.inv.anc hu q1 q2).2.2.1;omega
    exact(ex y h.hy hy2 w).1 hwy (.step ha hyp hne)
  have:=h.inv.antisymm ((key q).2 (.refl _)) ((key z).1 (.refl _)) h.hz hz2;rw[hq,this]
theorem ZH(h:Inv S r n at_ par)(hS:∀ x,x<n->∀ w∈S x,w<n)(hrn:r<n)(full:SJ S r n par)(fix:∀ y,y<n->y≠r->Rc S r y->∃ z:Nat,par y=(z:Int)/\SI S n par y z):VU S r n par:=λx hx hp d=>by
 constructor
 ·intro hu ha
  induction ha with
  | root hne=>exact hne (h.root_anc.1 hu).symm
  | @step p y hp' hyp hne ih=>
   have hpn:=XF hS hrn hp'.rc;have hpp:=full p hpn hp'.rc
   by_cases e:y=r
   ·subst e;exact hne (h.root_anc.1 hu).symm
   ·obtain⟨z,hz,hb⟩:=fix y hx e (.step hp'.rc hyp);rcases(anc_up hz).1 hu with rfl|hu
    ·exact hne rfl
    ·exact ih hpn hpp ((hb d).1 hu p hpn hyp hpp)
 ·intro ha;exact GK λhn=>ha (h.all x hx hp d hn)
end
def Bc(t:List Int):Nat->Int:=λx=>t.getD x 0
theorem QM{t:List Int}{y:Nat}{v:Int}(hy:y<t.length):Bc (t.set y v)=K9 (Bc t) y v:=by
 funext x
 unfold Bc K9
 by_cases e:x=y
 ·subst e;simp[List.getD,hy]
 ·simp[List.getD,e,G2 e]
open Classical in
def J0(S:Nat->List Nat)(n:Nat)(t:List Int)(y:Nat):Nat:=if h:∃ z,z<n/\SI S n (Bc t) y z then Classical.choose h else 0
def Sp(S:Nat->List Nat)(n:Nat)(P:List Nat)(t:List Int):Nat->List Int
 | 0=>t
 | i+1=>(Sp S n P t i).set (P.getD i 0) (J0 S n (Sp S n P t i) (P.getD i 0):Int)
def CZ(S:Nat->List Nat)(n:Nat)(P:List Nat)(t:List Int):Nat->List Int
 | 0=>t
 | j+1=>Sp S n P (CZ S n P t j) P.length
def Et(n r:Nat):List Int:=(List.replicate n (-2:Int)).set r (-1)
structure Ordered(S:Nat->List Nat)(r n:Nat)(P:List Nat):Prop where
 hr:r<n
 hS:∀ x,x<n->∀ w∈S x,w<n
 nodup:(r::P).Nodup
 mem:∀ x,x∈r::P↔Rc S r x
 fwd:∀ i,i<P.length->∃ p,p∈r::P.take i/\P.getD i 0∈S p
section
variable {S:Nat->List Nat} {r n:Nat} {P:List Nat}
theorem Ordered.lt(o:Ordered S r n P){x:Nat}(h:x∈r::P):x<n:=XF o.hS o.hr ((o.mem x).1 h)
theorem Nn{i:Nat}(hi:i<P.length):P.getD i 0∈P:=by rw[Aa _ _ _ hi];exact Yj hi
theorem Ordered.at_lt(o:Ordered S r n P){i:Nat}(hi:i<P.length){p:Nat}(hp:p∈r::P.take i):pos (r::P) p<pos (r::P) (P.getD i 0):=by
 have hd:=o.nodup
 have h1:pos (r::P) (P.getD i 0)=i+1:=by
  have:=(CW hd (i:=i+1) (by simpa using hi)).2;rw[Aa _ _ _ hi]
  simpa using this
 rw[h1];obtain⟨j,hj,rfl⟩:=Ll hp
 have hj':j<i+1:=by simp at hj;omega
 have hjl:j<(r::P).length:=by simp;omega
 have e:(r::P.take i)[j]=(r::P)[j]:=by
  cases j with
  | zero=>rfl
  | succ j=>simp
 rw[e,(CW hd hjl).2];exact hj'
theorem oE(o:Ordered S r n P):Inv S r n (pos (r::P)) (Bc (Et n r))/\(Et n r).length=n/\Bc (Et n r) r≠-2:=by
 have hlen:(Et n r).length=n:=by simp[Et]
 have hr:=o.hr
 have at_:∀ x,x<n->Bc (Et n r) x=if x=r then -1 else -2:=λx hx=>by
  unfold Bc Et
  by_cases e:x=r
  ·subst e;simp[List.getD,hx]
  ·simp[List.getD,hx,e,G2 e]
 have hno:∀ x,x<n->∀ p:Nat,Bc (Et n r) x≠(p:Int):=λx hx p hp=>by rw[at_ x hx]at hp;split at hp<;>omega
 refine⟨⟨by rw[at_ r hr,if_pos rfl],λx hx=>?_,λx hx z hz=>absurd hz (hno x hx z),λx hx hp=>?_,λx hx hp d hd=>?_⟩,hlen,by rw[at_ r hr,if_pos rfl];omega⟩
 ·by_cases e:x=r
  ·exact .inr (.inl e)
  ·exact .inl (by rw[at_ x hx,if_neg e])
 ·by_cases e:x=r
  ·subst e;exact .root
  ·exact absurd (by rw[at_ x hx,if_neg e]) hp
 ·by_cases e:x=r
  ·subst e;exact .root (λe=>hd (by rw[e];exact .refl _))
  ·exact absurd (by rw[at_ x hx,if_neg e]) hp
structure Ready(S:Nat->List Nat)(r n:Nat)(P:List Nat)(t:List Int)(i:Nat):Prop where
 inv:Inv S r n (pos (r::P)) (Bc t)
 len:t.length=n
 done:∀ x∈r::P.take i,Bc t x≠-2
theorem Inv.meets{at_:Nat->Nat}{par:Nat->Int}(h:Inv S r n at_ par)(hinj:∀ x y,x<n->y<n->par x≠-2->par y≠-2->at_ x=at_ y->x=y)(hr:at_ r=0):∀ m a b,at_ a+at_ b<=m->a<n->b<n->par a≠-2->par b≠-2->∃ c,MeetAt par a b c/\c<n/\par c≠-2:=by
 intro m
 induction m with
 | zero=>
  intro a b hm ha hb hpa hpb;have:a=b:=hinj a b ha hb hpa hpb (by omega);subst this;exact⟨a,JF,ha,hpa⟩
 | succ m ih=>
  have go:∀ a b,at_ a+at_ b<=m+1->a<n->b<n->par a≠-2->par b≠-2->at_ b<=at_ a->∃ c,MeetAt par a b c/\c<n/\par c≠-2:=λa b hm ha hb hpa hpb hl=>by
   by_cases e:a=b
   ·subst e;exact⟨a,JF,ha,hpa⟩
   ·rcases h.kind a ha with h1|h1|⟨p,hp⟩
    ·exact absurd h1 hpa
    ·subst h1;exact absurd (hinj a b ha hb hpa hpb (by omega)) e
    ·obtain⟨p1,p2,p3,p4⟩:=h.up a ha p hp;obtain⟨c,hc,hc2⟩:=ih p b (by omega) p1 hb p2 hpb;exact⟨c,h.meet_left hinj ha hpa hb hpb e hl hp hc,hc2⟩
  intro a b hm ha hb hpa hpb;rcases Nat.le_total (at_ b) (at_ a) with hl|hl
  ·exact go a b hm ha hb hpa hpb hl
  ·obtain⟨c,hc,hc2⟩:=go b a (by omega) hb ha hpb hpa hl;exact⟨c,ZX hc,hc2⟩
theorem Ready.inj(o:Ordered S r n P){t:List Int}{i:Nat}(h:Ready S r n P t i):∀ x y,x<n->y<n->Bc t x≠-2->Bc t y≠-2->pos (r::P) x=pos (r::P) y->x=y:=λx y hx hy hpx hpy he=>by
 have hm:∀ x,x<n->Bc t x≠-2->x∈r::P:=λx hx hp=>(o.mem x).2 (h.inv.rc x hx hp)
 have back:∀ x∈r::P,(r::P).getD (pos (r::P) x) 0=x:=λx hx=>by
  obtain⟨j,hj,rfl⟩:=Ll hx;rw[(CW o.nodup hj).2,Aa _ _ _ hj]
 rw[<- back x (hm x hx hpx),<- back y (hm y hy hpy),he]
theorem QP:pos (r::P) r=0:=by rw[FN,if_pos rfl]
theorem Ready.meetAll(o:Ordered S r n P){t:List Int}{i:Nat}(h:Ready S r n P t i):∀ l:List Nat,(∀ p∈l,p<n/\Bc t p≠-2)->l≠[]->∃ z,z<n/\Bc t z≠-2/\∀ w,UpTo (Bc t) z w↔∀ p∈l,UpTo (Bc t) p w:=by
 intro l
 induction l with
 | nil=>intro _ hn;exact absurd rfl hn
 | cons p l ih=>
  intro hl _;obtain⟨hp1,hp2⟩:=hl p (Lb ..)
  by_cases hl0:l=[]
  ·subst hl0;exact⟨p,hp1,hp2,λw=>by simp⟩
  ·obtain⟨z,hz1,hz2,hz3⟩:=ih (λq hq=>hl q (F2 _ hq)) hl0;obtain⟨c,hc1,hc2,hc3⟩:=h.inv.meets (h.inj o) QP _ p z (zzL7 _) hp1 hz1 hp2 hz2;exact⟨c,hc2,hc3,λw=>by rw[hc1 w,hz3 w];simp⟩
theorem Ready.best(o:Ordered S r n P){t:List Int}{i:Nat}(h:Ready S r n P t i)(hi:i<P.length):Better S r n (pos (r::P)) (Bc t) (P.getD i 0) (J0 S n t (P.getD i 0)):=by
 have hy:=Nn hi;have hyr:P.getD i 0≠r:=λe=>(zzL76.1 o.nodup).1 (e▸hy);have hyn:=o.lt (F2 _ hy);obtain⟨p,hp,hyp⟩:=o.fwd i hi;have hp2:=h.done p hp
 have hpP:p∈r::P:=by
  rcases zzL25.1 hp with rfl|hp
  ·exact Lb ..
  ·exact F2 _ (List.mem_of_mem_take hp)
 have hpn:=o.lt hpP
 have hex:∃ z,z<n/\SI S n (Bc t) (P.getD i 0) z:=by
  classical
  obtain⟨z,hz1,hz2,hz3⟩:=h.meetAll o ((List.range n).filter λp=>decide (P.getD i 0∈S p/\Bc t p≠-2)) (λp hp=>by
   obtain⟨h1,h2⟩:=zzL65.1 hp
   exact⟨zzL44.1 h1,(Qb h2).2⟩) (λe=>by
   have:p∈(List.range n).filter λp=>decide (P.getD i 0∈S p/\Bc t p≠-2):=zzL65.2 ⟨zzL44.2 hpn,Cq ⟨hyp,hp2⟩⟩
   rw[e]at this;cases this)
  refine⟨z,hz1,λw=>?_⟩;rw[hz3 w]
  constructor
  ·intro k p hp hyp hpp;exact k p (zzL65.2 ⟨zzL44.2 hp,Cq ⟨hyp,hpp⟩⟩)
  ·intro k p hp;obtain⟨h1,h2⟩:=zzL65.1 hp;exact k p (zzL44.1 h1) (Qb h2).1 (Qb h2).2
 have hb:J0 S n t (P.getD i 0)<n/\SI S n (Bc t) (P.getD i 0) (J0 S n t (P.getD i 0)):=by
  unfold J0;rw[dif_pos hex];exact Classical.choose_spec hex
 exact⟨h.inv,hyn,hyr,hb.1,hb.2,p,hpn,hyp,hp2,o.at_lt hi hp⟩
theorem Ready.best_eq(o:Ordered S r n P){t:List Int}{i:Nat}(h:Ready S r n P t i)(hi:i<P.length){z:Nat}(hz:z<n)(hz2:Bc t z≠-2)(hb:SI S n (Bc t) (P.getD i 0) z):z=J0 S n t (P.getD i 0):=by
 have b:=h.best o hi;exact(h.inv.antisymm ((hb _).2 ((b.best _).1 (.refl _))) ((b.best _).2 ((hb _).1 (.refl _))) hz hz2).symm
theorem Ready.next(o:Ordered S r n P){t:List Int}{i:Nat}(h:Ready S r n P t i)(hi:i<P.length):Ready S r n P (t.set (P.getD i 0) (J0 S n t (P.getD i 0):Int)) (i+1):=by
 have b:=h.best o hi;have e:=QM (t:=t) (y:=P.getD i 0) (v:=(J0 S n t (P.getD i 0):Int)) (by rw[h.len];exact b.hy);refine⟨by rw[e];exact b.inv',by rw[H5];exact h.len,λx hx=>?_⟩;rw[e];unfold K9
 split
 ·omega
 ·rename_i hne
  refine h.done x ?_;rcases zzL25.1 hx with rfl|hx
  ·exact Lb ..
  ·rw[VI hi]at hx;rcases zzL11.1 hx with hx|hx
   ·exact F2 _ hx
   ·rw[zzL17,<- Aa _ _ 0 hi]at hx;exact absurd hx hne
theorem Ready.more(o:Ordered S r n P){t:List Int}(h:Ready S r n P t P.length)(i:Nat):Ready S r n P t i:=
 ⟨h.inv,h.len,λx hx=>h.done x (by
  rw[Ws];rcases zzL25.1 hx with rfl|hx
  ·exact Lb ..
  ·exact F2 _ (List.mem_of_mem_take hx))⟩
theorem Ready.full(o:Ordered S r n P){t:List Int}(h:Ready S r n P t P.length):SJ S r n (Bc t):=λx hx hr=>h.done x (by rw[Ws];exact(o.mem x).2 hr)
theorem Ready.round(o:Ordered S r n P){t:List Int}(h:Ready S r n P t 0):∀ i,i<=P.length->Ready S r n P (Sp S n P t i) i:=by
 intro i
 induction i with
 | zero=>intro _;exact h
 | succ i ih=>intro hi;exact(ih (by omega)).next o (by omega)
theorem ky(o:Ordered S r n P):Ready S r n P (Et n r) 0:=by
 obtain⟨h1,h2,h3⟩:=oE o;exact⟨h1,h2,λx hx=>by simp at hx;subst hx;exact h3⟩
theorem Ready.rounds(o:Ordered S r n P):∀ j,Ready S r n P (CZ S n P (Et n r) j) 0:=by
 intro j
 induction j with
 | zero=>exact ky o
 | succ j ih=>exact((ih.round o) P.length (zzL7 _)).more o 0
theorem Ready.rounds'(o:Ordered S r n P)(j:Nat):Ready S r n P (CZ S n P (Et n r) (j+1)) P.length:=(Ready.rounds o j).round o P.length (zzL7 _)
theorem du(o:Ordered S r n P){t:List Int}{k:Nat}(h:Ready S r n P t P.length)(q:QB S r n (Bc t) λ_=>k):QB S r n (Bc (Sp S n P t P.length)) λ_=>k+1:=by
 have key:∀ i,i<=P.length->QB S r n (Bc (Sp S n P t i)) (λx=>if x∈P.take i then k+1 else k)/\SJ S r n (Bc (Sp S n P t i)):=by
  intro i
  induction i with
  | zero=>intro _;exact⟨by simpa [Sp] using q,h.full o⟩
  | succ i ih=>
   intro hi;obtain⟨q1,f1⟩:=ih (by omega);have rd:=(h.more o 0).round o i (by omega);have b:=rd.best o (by omega);have e:=QM (t:=Sp S n P t i) (y:=P.getD i 0) (v:=(J0 S n (Sp S n P t i) (P.getD i 0):Int)) (by rw[rd.len];exact b.hy)
   constructor
   ·show QB S r n (Bc ((Sp S n P t i).set _ _)) _
    rw[e];have:=b.qb (k:=k) o.hS o.hr f1 (λx _=>by split<;>omega) q1;intro x hx hp z hz;refine this x hx hp z ?_
    dsimp only at hz ⊢
    rw[VI (by omega:i<P.length)]at hz
    by_cases e1:x=P.getD i 0
    ·rw[if_pos e1];rwa[if_pos (zzL11.2 (.inr (zzL17.2 (by rw[e1,Aa _ _ _ (by omega:i<P.length)]))))]at hz
    ·rw[if_neg e1]
     by_cases e2:x∈P.take i
     ·rw[if_pos e2];rwa[if_pos (zzL11.2 (.inl e2))]at hz
     ·rw[if_neg e2]
      rwa[if_neg (λhm=>by
       rcases zzL11.1 hm with hm|hm
       ·exact e2 hm
       ·rw[zzL17,<- Aa _ _ 0 (by omega:i<P.length)]at hm;exact e1 hm)]at hz
   ·show SJ S r n (Bc ((Sp S n P t i).set _ _))
    rw[e];intro x hx hr;unfold K9
    split
    ·omega
    ·exact f1 x hx hr
 have q1:=(key P.length (zzL7 _)).1;rw[Ws]at q1;have rd:=(h.more o 0).round o P.length (zzL7 _);intro x hx hp z hz;refine q1 x hx hp z ?_
 dsimp only at hz ⊢
 by_cases e:x∈P
 ·rw[if_pos e];exact hz
 ·rw[if_neg e]
  have hxr:x=r:=by
   rcases zzL25.1 ((o.mem x).2 (rd.inv.rc x hx hp)) with h1|h1
   ·exact h1
   ·exact absurd h1 e
  subst hxr;exact .root hz.av.ne k
def Rw(S:Nat->List Nat)(n:Nat)(P:List Nat)(t:List Int):Prop:=∀ i,i<P.length->Bc t (P.getD i 0)=(J0 S n t (P.getD i 0):Int)
theorem Tx{t:List Int}(o:Ordered S r n P)(hl:t.length=n)(h:Rw S n P t):∀ i,i<=P.length->Sp S n P t i=t:=by
 intro i
 induction i with
 | zero=>intro _;rfl
 | succ i ih=>
  intro hi;unfold Sp;rw[ih (by omega),<- h i (by omega)]
  have hlt:P.getD i 0<t.length:=by rw[hl];exact o.lt (F2 _ (Nn (by omega)))
  unfold Bc;rw[Aa _ _ _ hlt];exact List.set_getElem_self hlt
theorem jg(o:Ordered S r n P):∃ J,(∀ j,j<J->¬ Rw S n P (CZ S n P (Et n r) j))/\Rw S n P (CZ S n P (Et n r) J):=by
 obtain⟨K,hK⟩:=YP (S:=S) (r:=r) n
 have hq:∀ k,QB S r n (Bc (CZ S n P (Et n r) (k+1))) λ_=>k:=by
  intro k
  induction k with
  | zero=>exact iV (Ready.rounds' o 0).inv
  | succ k ih=>exact du o (Ready.rounds' o k) ih
 have hst:Rw S n P (CZ S n P (Et n r) (K+1)):=λi hi=>by
  have rd:=Ready.rounds' o K;exact((rd.more o i).best o hi).same o.hS o.hr (rd.full o) (rd.done _ (F2 _ (by rw[Ws];exact Nn hi))) (cj rd.inv hK (hq K))
 have key:∀ m,(∃ J,J<=m/\Rw S n P (CZ S n P (Et n r) J))->∃ J,(∀ j,j<J->¬ Rw S n P (CZ S n P (Et n r) j))/\Rw S n P (CZ S n P (Et n r) J):=by
  intro m
  induction m with
  | zero=>rintro⟨J,hJ,h⟩;exact⟨J,λj hj=>by omega,h⟩
  | succ m ih=>
   rintro⟨J,hJ,h⟩
   by_cases hm:∃ J,J<=m/\Rw S n P (CZ S n P (Et n r) J)
   ·exact ih hm
   ·exact⟨J,λj hj hs=>hm ⟨j,by omega,hs⟩,h⟩
 exact key (K+1) ⟨K+1,zzL7 _,hst⟩
structure DomTree(S:Nat->List Nat)(r n:Nat)(P:List Nat)(t:List Int):Prop where
 inv:Inv S r n (pos (r::P)) (Bc t)
 len:t.length=n
 full:SJ S r n (Bc t)
 exact_:VU S r n (Bc t)
theorem BK(o:Ordered S r n P){j:Nat}(h:Rw S n P (CZ S n P (Et n r) j)):DomTree S r n P (CZ S n P (Et n r) j):=by
 have rd:=Ready.rounds o j
 have hall:Ready S r n P (CZ S n P (Et n r) j) P.length:=by
  have:=rd.round o P.length (zzL7 _);rwa[Tx o rd.len h P.length (zzL7 _)]at this
 refine⟨rd.inv,rd.len,hall.full o,ZH rd.inv o.hS o.hr (hall.full o) λy hy hne hr=>?_⟩
 have hm:y∈P:=by
  rcases zzL25.1 ((o.mem y).2 hr) with h1|h1
  ·exact absurd h1 hne
  ·exact h1
 obtain⟨i,hi,rfl⟩:=Ll hm;have b:=(hall.more o i).best o hi;rw[Aa _ _ _ hi]at b;have hs:=h i hi;rw[Aa _ _ _ hi]at hs;exact⟨_,hs,b.best⟩
end
section
variable {S:Nat->List Nat} {s s':Nat->Bool} {l o:List Nat}
theorem VL.before(h:VL S s l s' o):∀ A z B,o=A++z::B->z∈l\/∃ p∈B,z∈S p:=by
 induction h with
 | nil s=>intro A z B e;simp at e
 | skip h _ ih=>
  intro A z B e;rcases ih A z B e with h1|h1
  ·exact .inl (F2 _ h1)
  ·exact .inr h1
 | @step s s1 s2 y l o1 o2 h a b iha ihb=>
  intro A z B e;rcases List.append_eq_append_iff.1 e with⟨C,hC1,hC2⟩|⟨C,hC1,hC2⟩
  ·
   cases C with
   | nil=>
    simp at hC2;obtain⟨rfl,rfl⟩:=hC2;exact .inl (Lb ..)
   | cons c C=>
    simp at hC2;obtain⟨rfl,hC2⟩:=hC2;rcases ihb C z B hC2 with h1|h1
    ·exact .inl (F2 _ h1)
    ·exact .inr h1
  ·cases C with
   | nil=>
    simp at hC2;obtain⟨rfl,rfl⟩:=hC2;exact .inl (Lb ..)
   | cons c C=>
    simp at hC2;obtain⟨rfl,rfl⟩:=hC2;rcases iha A z C hC1 with h1|⟨p,hp,hz⟩
    ·exact .inr ⟨y,by simp,h1⟩
    ·exact .inr ⟨p,by simp[hp],hz⟩
theorem Ord.ordered{n r:Nat}{L:List Nat}(hr:r<n)(hS:∀ x,x<n->∀ w∈S x,w<n)(h:Ord S r L):∃ P,L=r::P/\Ordered S r n P:=by
 have h1:=h.nodup;have h2:=h.mem;obtain⟨s',o,hv,rfl⟩:=h;refine⟨o.reverse,rfl,hr,hS,h1,λx=>by rw[h2 x,rc_iff],λi hi=>?_⟩
 have hi':i<o.length:=by simpa using hi
 have e:o.reverse=o.reverse.take i++o.reverse[i]::o.reverse.drop (i+1):=by rw[<- O7 hi,List.take_append_drop]
 have e2:o=(o.reverse.drop (i+1)).reverse++o.reverse[i]::(o.reverse.take i).reverse:=by
  have:=B9 List.reverse e;rw[List.reverse_reverse]at this;rw[List.reverse_append,List.reverse_cons]at this
  simpa using this
 rw[Aa _ _ _ hi];rcases hv.before _ _ _ e2 with h3|⟨p,hp,hz⟩
 ·exact⟨r,Lb ..,h3⟩
 ·exact⟨p,F2 _ (zzL100.1 hp),hz⟩
end
def mj(S:Nat->List Nat)(w:Int):Nat->List Nat:=λx=>(S x).filter λy=>decide ((y:Int)≠w)
theorem eV(S:Nat->List Nat):mj S (-1)=S:=by
 funext x
 unfold mj;exact List.filter_eq_self.2 λy _=>Cq (by omega)
theorem ip(S:Nat->List Nat)(z:Nat):mj S (z:Int)=wo S z:=by
 funext x
 unfold mj wo
 congr 1
 funext y
 exact zzL108.2 ⟨λh e=>h (by rw[e]),λh e=>h (Vw e)⟩
def Zp(L:List (List Int))(r:Nat)(w:Int):List Bool:=if(r:Int)=w then List.replicate L.length false else JU (mj (sN L) w) L.length ((List.replicate L.length false).set r true) L.length
theorem dw{L:List (List Int)}(hm:Lz L=true){r:Nat}(hr:r<L.length){b:Nat}:(Zp L r (-1)).getD b false=true↔Rc (sN L) r b:=by
 unfold Zp;rw[if_neg (by omega),eV,X2 (Vm hm) hr b,rc_iff]
theorem UK{L:List (List Int)}(hm:Lz L=true){r:Nat}(hr:r<L.length){a b:Nat}(hb:b<L.length):(Zp L r (a:Int)).getD b false=true↔Av (sN L) r a b:=by
 unfold Zp;rw[av_iff]
 by_cases h:r=a
 ·subst h;rw[if_pos rfl,N3]
  simp
 ·rw[if_neg (by omega),ip,X2 (S:=wo (sN L) a) (λz hz y hy=>Vm hm z hz y (zzL65.1 hy).1) hr b];simp[h]
def Tl(L:List (List Int))(r a b:Nat):Bool:=(Zp L r (-1)).getD b false&&!(Zp L r (a:Int)).getD b false
theorem QL{L:List (List Int)}(hm:Lz L=true){r a b:Nat}(hr:r<L.length)(hb:b<L.length):Tl L r a b=true↔Rc (sN L) r b/\¬ Av (sN L) r a b:=by
 unfold Tl;rw[A3,O9,<- Bool.not_eq_true,dw hm hr,UK hm hr hb]
def PT(L:List (List Int))(r a b:Nat):Bool:=(List.range L.length).all λc=>decide (c=b) || !Tl L r c b || Tl L r c a
def QO(L:List (List Int))(r b:Nat):Nat->Int
 | 0=>-2
 | a+1=>if a≠b/\Tl L r a b=true/\PT L r a b=true then(a:Int) else QO L r b a
def UX(L:List (List Int))(r b:Nat):Int:=if b=r then -1 else QO L r b L.length
def Yb(L:List (List Int))(r:Nat):List Int:=(List.range L.length).map (UX L r)
theorem KD(L:List (List Int))(r:Nat):(Yb L r).length=L.length:=by simp[Yb]
theorem eP{L:List (List Int)}{r b:Nat}(hb:b<L.length):(Yb L r).getD b 0=UX L r b:=by unfold Yb;rw[Qu hb]
theorem pick_cases(L:List (List Int))(r b:Nat):∀ m,(QO L r b m = -2/\∀ a,a<m->¬ (a≠b/\Tl L r a b=true/\PT L r a b=true))\/∃ a,a<m/\QO L r b m=(a:Int)/\a≠b/\Tl L r a b=true/\PT L r a b=true:=by
 intro m
 induction m with
 | zero=>exact .inl ⟨rfl,λa ha=>absurd ha (M8 a)⟩
 | succ m ih=>
  unfold QO
  by_cases h:m≠b/\Tl L r m b=true/\PT L r m b=true
  ·rw[if_pos h];exact .inr ⟨m,by omega,rfl,h⟩
  ·rw[if_neg h];rcases ih with⟨h1,h2⟩|⟨a,h1,h2⟩
   ·refine .inl ⟨h1,λa ha=>?_⟩;rcases zzL117.1 ha with h3|rfl
    ·exact h2 a h3
    ·exact h
   ·exact .inr ⟨a,by omega,h2⟩
theorem DomTree.eq{L:List (List Int)}(hm:Lz L=true){r:Nat}(hr:r<L.length){P t:List _}(o:Ordered (sN L) r L.length P)(h:DomTree (sN L) r L.length P t):t=Yb L r:=by
 refine Z0 (by rw[h.len,KD]) λb h1 h2=>?_
 have hb:b<L.length:=by rw[<- h.len];exact h1
 rw[<- Aa _ _ 0 h1,<- Aa _ _ 0 h2,eP hb]
 show Bc t b=_
 have hov:∀ a b,b<L.length->Bc t b≠-2->(Tl L r a b=true↔UpTo (Bc t) b a):=λa b hb hp=>by
  rw[QL hm hr hb,h.exact_ b hb hp];exact⟨λk=>k.2,λk=>⟨h.inv.rc b hb hp,k⟩⟩
 unfold UX
 by_cases hbr:b=r
 ·subst hbr;rw[if_pos rfl];exact h.inv.top
 ·rw[if_neg hbr];rcases h.inv.kind b hb with hk|hk|⟨z,hz⟩
  ·
   have hn:¬ Rc (sN L) r b:=λk=>h.full b hb k hk;rcases pick_cases L r b L.length with⟨h3,_⟩|⟨a,_,_,_,h6,_⟩
   ·rw[hk,h3]
   ·exact absurd ((QL hm hr hb).1 h6).1 hn
  ·exact absurd hk hbr
  ·obtain⟨z1,z2,z3,z4⟩:=h.inv.up b hb z hz
   have hp:Bc t b≠-2:=by omega
   have hzo:Tl L r z b=true:=(hov z b hb hp).2 (.up hz (.refl _))
   have hzb:z≠b:=by rintro rfl;omega
   have hnear:PT L r z b=true:=all_range.2 λc hc=>by
    by_cases e:c=b
    ·simp[e]
    ·cases ho:Tl L r c b with
     | false=>simp
     | true=>
      have:=(hov c b hb hp).1 ho;rcases(anc_up hz).1 this with h3|h3
      ·exact absurd h3 e
      ·rw[(hov c z z1 z2).2 h3];simp
   rcases pick_cases L r b L.length with⟨_,h3⟩|⟨a,h3,h4,h5,h6,h7⟩
   ·exact absurd ⟨hzb,hzo,hnear⟩ (h3 z z1)
   ·rw[h4,hz];have haU:=(hov a b hb hp).1 h6
    have ha1:UpTo (Bc t) z a:=by
     rcases(anc_up hz).1 haU with h8|h8
     ·exact absurd h8 h5
     ·exact h8
    have hap:=(h.inv.anc ha1 z1 z2).2.1
    have hza:UpTo (Bc t) a z:=by
     have:=all_range.1 h7 z z1;simp only[hzo,hzb,decide_false,Fa,GO]at this;exact(hov z a h3 hap).1 this
    rw[h.inv.antisymm ha1 hza z1 z2]
theorem h9{g:C3}(h:Y3 g=true):Lz g.Succ=true/\g=Yq g.Succ:=by
 unfold Y3 at h;rw[A3]at h;refine⟨h.1,?_⟩;obtain⟨s,p⟩:=g;have:=Qb h.2;simp only at this;unfold Yq;rw[this]
section
variable {L:List (List Int)} (hm:Lz L=true) {r:Nat} (hr:r<L.length)
include hm hr
omit hr in
omit hr in
omit hm hr in
omit hm hr in
omit hm hr in
omit hr in
omit hr in
end
def RI(g:C3)(r:Int):List Int:=if Y3 g=true/\0<=r/\r<(g.Succ.length:Int) then Yb g.Succ r.toNat else[]
def upD(t:List Int):Nat->Int->Option (List Int)
 | 0,_=>none
 | k+1,a=>if 0<=a/\a<(t.length:Int) then(if t.getD a.toNat 0 = -1 then some [a] else(upD t k (t.getD a.toNat 0)).map λl=>a::l) else none
def Es(t:List Int)(a:Int):List Int:=(upD t t.length a).getD []
theorem im(t:List Int):∀ k a q,upD t k a=some q->q.length<=k/\1<=q.length:=by
 intro k
 induction k with
 | zero=>intro a q h;cases h
 | succ k ih=>
  intro a q h;unfold upD at h
  split at h
  ·split at h
   ·cases h;simp
   ·cases hu:upD t k (t.getD a.toNat 0) with
    | none=>rw[hu]at h;cases h
    | some q'=>rw[hu]at h;cases h;have:=ih _ _ hu;simp;omega
  ·cases h
theorem pathD_nil{t:List Int}{a:Int}:Es t a=[]↔upD t t.length a=none:=by
 unfold Es
 cases h:upD t t.length a with
 | none=>simp
 | some q=>have:=(im t _ _ _ h).2;simp;intro e;subst e;simp at this
def Ya(t:List Int)(k:Nat):Nat:=((List.range k).filter λa=>decide (t.getD a 0 = -1)).length
def nS(t:List Int)(a:Nat):Bool:=decide (t.getD a 0 = -2) || !decide (Es t (a:Int)=[])
def Iv(t:List Int):Bool:=(List.range t.length).all (nS t)&&decide (Ya t t.length=1)
theorem GF(t:List Int)(k:Nat):Ya t (k+1)=Ya t k+if t.getD k 0 = -1 then 1 else 0:=by
 unfold Ya;rw[AC,NG,Eo]
 by_cases h:t.getD k 0 = -1
 ·rw[if_pos h]
  have:List.filter (λa=>decide (t.getD a 0 = -1)) [k]=[k]:=by rw[List.filter_cons,if_pos (Cq h)];rfl
  rw[this];rfl
 ·rw[if_neg h]
  have:List.filter (λa=>decide (t.getD a 0 = -1)) [k]=[]:=by rw[List.filter_cons,if_neg (by simpa using h)];rfl
  rw[this];rfl
def Mf(t:List Int)(a b:Int):Int:=if Iv t=true then((Es t a).find? λx=>(Es t b).contains x).getD (-2) else -2
def N1(t:List Int)(a b:Int):Bool:=Mf t a b==a&&Mf t a b !=-2
section
variable {S:Nat->List Nat} {r n:Nat} {P:List Nat} {t:List Int}
theorem DomTree.up(h:DomTree S r n P t):∀ k x,x<n->Bc t x≠-2->pos (r::P) x<k->∃ q,upD t k (x:Int)=some q/\(∀ w:Int,w∈q↔∃ z:Nat,w=(z:Int)/\UpTo (Bc t) x z) /\
  ∀ p:Int->Bool,(q.find? p=none/\∀ z:Nat,UpTo (Bc t) x z->p (z:Int)=false)\/∃ f:Nat,q.find? p=some (f:Int)/\UpTo (Bc t) x f/\p (f:Int)=true/\∀ z:Nat,UpTo (Bc t) x z->p (z:Int)=true->UpTo (Bc t) f z:=by
 intro k
 induction k with
 | zero=>intro x _ _ hk;exact absurd hk (M8 _)
 | succ k ih=>
  intro x hx hp hk
  have hxt:(0:Int)<=(x:Int)/\(x:Int)<(t.length:Int):=by rw[h.len];omega
  unfold upD;rw[if_pos hxt,A4];have hpx:t.getD x 0=Bc t x:=rfl;rw[hpx];rcases h.inv.kind x hx with h1|rfl|⟨z,hz⟩
  ·exact absurd h1 hp
  ·rw[if_pos h.inv.top];refine⟨_,rfl,λw=>?_,λp=>?_⟩
   ·rw[zzL17]
    constructor
    ·rintro rfl;exact⟨x,rfl,.refl _⟩
    ·rintro⟨z,rfl,hz⟩;rw[h.inv.root_anc.1 hz]
   ·cases hpp:p (x:Int) with
    | false=>exact .inl ⟨by simp[List.find?,hpp],λz hz=>by rw[h.inv.root_anc.1 hz];exact hpp⟩
    | true=>exact .inr ⟨x,by simp[List.find?,hpp],.refl _,hpp,λz hz _=>hz⟩
  ·obtain⟨z1,z2,z3,z4⟩:=h.inv.up x hx z hz;rw[hz,if_neg (by omega)];obtain⟨q,hq1,hq2,hq3⟩:=ih z z1 z2 (by omega);rw[hq1];refine⟨(x:Int)::q,rfl,λw=>?_,λp=>?_⟩
   ·rw[zzL25,hq2 w]
    constructor
    ·rintro(rfl|⟨y,rfl,hy⟩)
     ·exact⟨x,rfl,.refl _⟩
     ·exact⟨y,rfl,.up hz hy⟩
    ·rintro⟨y,rfl,hy⟩;rcases(anc_up hz).1 hy with rfl|hy
     ·exact .inl rfl
     ·exact .inr ⟨y,rfl,hy⟩
   ·cases hpp:p (x:Int) with
    | true=>exact .inr ⟨x,by simp[List.find?,hpp],.refl _,hpp,λy hy _=>hy⟩
    | false=>
     have hf:((x:Int)::q).find? p=q.find? p:=by simp[List.find?,hpp]
     rw[hf];rcases hq3 p with⟨e1,e2⟩|⟨f,e1,e2,e3,e4⟩
     ·refine .inl ⟨e1,λy hy=>?_⟩;rcases(anc_up hz).1 hy with rfl|hy
      ·exact hpp
      ·exact e2 y hy
     ·refine .inr ⟨f,e1,.up hz e2,e3,λy hy hpy=>?_⟩;rcases(anc_up hz).1 hy with rfl|hy
      ·rw[hpp]at hpy;cases hpy
      ·exact e4 y hy hpy
theorem Ordered.pos_lt(o:Ordered S r n P){x:Nat}(hx:x∈r::P):pos (r::P) x<n:=by
 obtain⟨j,hj,rfl⟩:=Ll hx;rw[(CW o.nodup hj).2];have:=L0 n (r::P) o.nodup λy hy=>o.lt hy;omega
theorem DomTree.path(h:DomTree S r n P t)(o:Ordered S r n P){x:Nat}(hx:x<n)(hp:Bc t x≠-2):Es t (x:Int)≠[]/\(∀ w:Int,w∈Es t (x:Int)↔∃ z:Nat,w=(z:Int)/\UpTo (Bc t) x z) /\
  ∀ p:Int->Bool,((Es t (x:Int)).find? p=none/\∀ z:Nat,UpTo (Bc t) x z->p (z:Int)=false)\/∃ f:Nat,(Es t (x:Int)).find? p=some (f:Int)/\UpTo (Bc t) x f/\p (f:Int)=true/\∀ z:Nat,UpTo (Bc t) x z->p (z:Int)=true->UpTo (Bc t) f z:=by
 have hm:=(o.mem x).2 (h.inv.rc x hx hp);obtain⟨q,h1,h2,h3⟩:=h.up n x hx hp (o.pos_lt hm)
 have e:Es t (x:Int)=q:=by unfold Es;rw[h.len,h1];rfl
 rw[e];refine⟨λe=>?_,h2,h3⟩;have:=(h2 (x:Int)).2 ⟨x,rfl,.refl _⟩;rw[e]at this
 cases this
theorem DomTree.nopath(h:DomTree S r n P t){x:Nat}(hx:x<n)(hp:Bc t x = -2):Es t (x:Int)=[]:=by
 rw[pathD_nil]
 cases hl:t.length with
 | zero=>rfl
 | succ k=>
  unfold upD;rw[if_pos ⟨by omega,by rw[h.len];omega⟩,A4,show t.getD x 0=Bc t x from rfl,hp,if_neg (by omega)]
  cases k with
  | zero=>rfl
  | succ k=>unfold upD;rw[if_neg (by omega)];rfl
theorem DomTree.right(h:DomTree S r n P t)(o:Ordered S r n P):Iv t=true:=by
 unfold Iv;rw[A3]
 constructor
 ·refine all_range.2 λx hx=>?_;rw[h.len]at hx;unfold nS
  by_cases hp:Bc t x = -2
  ·rw[show t.getD x 0=Bc t x from rfl,hp];rfl
  ·rw[Cx (h.path o hx hp).1];simp
 ·apply Cq
  have key:∀ k,k<=n->Ya t k=if r<k then 1 else 0:=by
   intro k
   induction k with
   | zero=>intro _;rfl
   | succ k ih=>
    intro hk;rw[GF,ih (by omega)]
    have hr:t.getD k 0 = -1↔k=r:=by
     constructor
     ·intro he;rcases h.inv.kind k (by omega) with h1|h1|⟨z,hz⟩
      ·rw[show t.getD k 0=Bc t k from rfl,h1]at he;omega
      ·exact h1
      ·rw[show t.getD k 0=Bc t k from rfl,hz]at he;omega
     ·rintro rfl;exact h.inv.top
    by_cases hkr:k=r
    ·subst hkr;rw[if_neg (by omega),if_pos (hr.2 rfl),if_pos (by omega)]
    ·rw[if_neg (λe=>hkr (hr.1 e))]
     by_cases h2:r<k
     ·rw[if_pos h2,if_pos (by omega)]
     ·rw[if_neg h2,if_neg (by omega)]
  rw[h.len,key n (zzL7 _),if_pos o.hr]
theorem DomTree.meet(h:DomTree S r n P t)(o:Ordered S r n P){a b:Nat}(ha:a<n)(hb:b<n)(hpa:Bc t a≠-2)(hpb:Bc t b≠-2):∃ m:Nat,Mf t (a:Int) (b:Int)=(m:Int)/\MeetAt (Bc t) a b m/\m<n/\Bc t m≠-2:=by
 have rd:Ready S r n P t P.length:=⟨h.inv,h.len,λx hx=>by rw[Ws]at hx;exact h.full x (o.lt hx) ((o.mem x).1 hx)⟩;obtain⟨c,hc1,hc2,hc3⟩:=h.inv.meets (rd.inj o) QP _ a b (zzL7 _) ha hb hpa hpb;refine⟨c,?_,hc1,hc2,hc3⟩;unfold Mf;rw[if_pos (h.right o)];obtain⟨hca,hcb⟩:=(hc1 c).1 (.refl _)
 have hin:∀ z:Nat,(Es t (b:Int)).contains (z:Int)=true↔UpTo (Bc t) b z:=λz=>by
  rw[GQ,(h.path o hb hpb).2.1]
  constructor
  ·rintro⟨y,hy,hu⟩;cases Vw hy;exact hu
  ·intro hu;exact⟨z,rfl,hu⟩
 rcases(h.path o ha hpa).2.2 λx=>(Es t (b:Int)).contains x with⟨_,h2⟩|⟨f,h1,h2,h3,h4⟩
 ·have:=h2 c hca;rw[(hin c).2 hcb]at this
  cases this
 ·rw[h1];have hfc:=h4 c hca ((hin c).2 hcb);have hcf:=(hc1 f).2 ⟨h2,(hin f).1 h3⟩;rw[h.inv.antisymm hcf hfc hc2 hc3]
  rfl
theorem DomTree.meet_none(h:DomTree S r n P t)(o:Ordered S r n P){a b:Nat}(ha:a<n)(hb:b<n)(hp:Bc t a = -2\/Bc t b = -2):Mf t (a:Int) (b:Int) = -2:=by
 unfold Mf;rw[if_pos (h.right o)];rcases hp with hp|hp
 ·rw[h.nopath ha hp];rfl
 ·rw[h.nopath hb hp]
  have:(Es t (a:Int)).find? (λx=>([]:List Int).contains x)=none:=List.find?_eq_none.2 λx _=>by simp
  rw[this];rfl
theorem DomTree.over(h:DomTree S r n P t)(o:Ordered S r n P){a b:Nat}(ha:a<n)(hb:b<n):N1 t (a:Int) (b:Int)=true↔Bc t b≠-2/\UpTo (Bc t) b a:=by
 unfold N1;rw[A3,zzL71,zzL93]
 by_cases hpa:Bc t a = -2
 ·rw[h.meet_none o ha hb (.inl hpa)]
  constructor
  ·rintro⟨h1,_⟩;omega
  ·rintro⟨h1,h2⟩;exact absurd hpa (h.inv.anc h2 hb h1).2.1
 ·by_cases hpb:Bc t b = -2
  ·rw[h.meet_none o ha hb (.inr hpb)]
   constructor
   ·rintro⟨h1,_⟩;omega
   ·rintro⟨h1,_⟩;exact absurd hpb h1
  ·obtain⟨m,hm1,hm2,hm3,hm4⟩:=h.meet o ha hb hpa hpb;rw[hm1]
   constructor
   ·rintro⟨h1,_⟩;have h1:=Vw h1;subst h1;exact⟨hpb,((hm2 _).1 (.refl _)).2⟩
   ·rintro⟨_,h2⟩;have:=(hm2 a).2 ⟨.refl _,h2⟩;have h3:=((hm2 m).1 (.refl _)).1;rw[h.inv.antisymm h3 this ha hpa];exact⟨rfl,by omega⟩
theorem DomTree.over_dom(h:DomTree S r n P t)(o:Ordered S r n P){a b:Nat}(ha:a<n)(hb:b<n):N1 t (a:Int) (b:Int)=true↔Rc S r b/\¬ Av S r a b:=by
 rw[h.over o ha hb]
 constructor
 ·rintro⟨h1,h2⟩;exact⟨h.inv.rc b hb h1,(h.exact_ b hb h1 a).1 h2⟩
 ·rintro⟨h1,h2⟩;have:=h.full b hb h1;exact⟨this,(h.exact_ b hb this a).2 h2⟩
end
section
variable {L:List (List Int)} (hm:Lz L=true) {r:Nat} (hr:r<L.length)
include hm hr
theorem bE:∃ P,Ord (sN L) r (r::P)/\Ordered (sN L) r L.length P/\DomTree (sN L) r L.length P (Yb L r):=by
 obtain⟨O,hO⟩:=Ord.exist (Vm hm) hr;obtain⟨P,rfl,o⟩:=hO.ordered hr (Vm hm);obtain⟨J,_,hJ⟩:=jg o;have hd:=BK o hJ;refine⟨P,hO,o,?_⟩;rw[<- hd.eq hm hr o];exact hd
end
theorem ZP{X:Type}(n:Nat)(p:Nat->Bool)(f:Int->Option (LR Int X))(yes no:X)(hn:∀ i:Nat,i<n->p i=true->f (i:Int)=some (.next ((i:Int)+1)))
  (hf:∀ i:Nat,i<n->p i=false->f (i:Int)=some (.done no)) (he:f (n:Int)=some (.done yes)):Ag f (0:Int)=some (bif (List.range n).all p then yes else no):=by
 have hg:∀ i,i<(List.range n).length->(List.range n).getD i 0=i:=λi hi=>by rw[Aa _ _ _ hi];simp
 have:=Tb (List.range n) 0 p f yes no (λi hi hp=>by rw[hg i hi]at hp;exact hn i (by simpa using hi) hp) (λi hi hp=>by rw[hg i hi]at hp;exact hf i (by simpa using hi) hp) (by simpa using he) n 0 (by simp);rw[show(0:Int)=((0:Nat):Int) from rfl,this,Lm]
theorem bv{n:Nat}{p:Nat->Bool}(h:(List.range n).all p=true):∀ i,i<n->p i=true:=λi hi=>zzL27.1 h i (by simpa using hi)
def Rm(L:List (List Int)):List Bool:=JU (sN L) L.length ((List.replicate L.length false).set 0 true) L.length
def Hc(l:List Int)(p:Fh):Bool:=decide (p.From=l)&&((p.Args.length:Int)==(l.length:Int))
def Qk(L:List (List Int))(b:Af)(i:Nat):Bool:=(Rm L).getD i false&&!((b.End.Kind==1 || b.End.Kind==3)&&(b.End.Arg !=0))&&b.Phis.all (Hc ((Fe L).getD i []))
def Ga(f:TFunc):Bool:=N6 f&&(List.range f.Blocks.length).all λi=>Qk (En f) (f.Blocks.getD i default) i
theorem X6(f:TFunc):(En f).length=f.Blocks.length:=by simp[En]
theorem ay{f:TFunc}(h:Ga f=true):iR f:=λb hb p hp=>by
 simp only[Ga,A3]at h;obtain⟨i,hi,rfl⟩:=Ll hb;have h1:=bv h.2 i hi;rw[Aa _ _ _ hi]at h1;simp only[Qk,A3]at h1;have h2:=zzL27.1 h1.2 p hp;simp only[Hc,A3,Dw,zzL71]at h2;rw[h2.1];omega
def K2(l:List TDef)(i:Nat):Bool:=valS (l.getD i default).V&&(Ii l (l.getD i default).V==(i:Int))
def K3(l:List TDef)(u:Mq):Bool:=!decide (Ii l u.V<0)
def defOf(l:List TDef)(v:Int):TDef:=l.getD (Ii l v).toNat default
def Xt(l:List TDef)(u:Mq):Bool:=((defOf l u.V).Shape.1==u.Shape.1)&&(((defOf l u.V).Shape.2==u.Shape.2)&&true)
def Vh(l:List TDef)(t:List Int)(u:Mq):Bool:=
 (decide ((defOf l u.V).Block<0) || ((defOf l u.V).Block==u.Block&&decide ((defOf l u.V).At<u.At))) || (!((defOf l u.V).Block==u.Block)&&!(Mf t (defOf l u.V).Block u.Block !=(defOf l u.V).Block))
def B1(f:TFunc):List Int:=RI (Yq (En f)) 0
def ND(f:TFunc)(l:Int):Int:=
 bif !Ga f then 5 else bif !Ty f l then 6 else bif !(List.range (Ax f).length).all (K2 (Ax f)) then 7 else bif !(Eb f).all (K3 (Ax f)) then 7 else
 bif !(Eb f).all (Xt (Ax f)) then 6 else bif !(Eb f).all (Vh (Ax f) (B1 f)) then 7 else 0
def C7(f:TFunc)(l:Int):Int:=bif decide (l<0) || decide (2<l) then 1 else bif !U2 f then 4 else ND f l
theorem OZ{l:List TDef}{v:Int}(h:¬ Ii l v<0):Bt (Ii l v) l.length:=by
 unfold Ii at h ⊢
 cases hx:l.findIdx? (λd=>d.V==v) with
 | none=>rw[hx]at h;exact absurd (by decide) h
 | some i=>
  obtain⟨hi,_⟩:=List.findIdx?_eq_some_iff_getElem.1 hx;exact A9 hi
theorem eQ{f:TFunc}(h:N6 f=true):(B1 f).length<=1000:=by
 have h1:=(Y4 (Tn h)).1;unfold B1 RI
 split
 ·rw[KD];show(En f).length<=1000;omega
 ·simp
def grow(n d:Int):Int:=bif decide (n<d) then d else n
def Sm(f:TFunc):Prop:=YB f/\B7 f=some true
theorem jf{f:TFunc}(h:Sm f)(hm:U2 f=true):OkF f:=by
 obtain⟨sm,h1,h2⟩:=RC f h.1;rw[h.2]at h1;exact(h2 (OI h1).symm hm).1
theorem ZT{f:TFunc}(hf:YB f):∃ b,F7 f=some b/\(b=true->Sm f):=by
 obtain⟨x,hx⟩:∃ x,Ag (Dt f) ((0:Int),(0:Int))=some x:=by
  refine Nv f.Blocks.length (Dt f) (λn i hi=>.inl ?_) (λn=>?_) f.Blocks.length 0 0 (by omega)
  ·unfold Dt
   have hd:decide ((i:Int)<(f.Blocks.length:Int))=true:=by simpa using hi
   simp only[hd,Ad,Ap (A9 hi),H4 hi hf.blocks];exact⟨_,rfl⟩
  ·unfold Dt;exact⟨n,by simp⟩
 obtain⟨sm,h1⟩:=GB f hf;unfold F7;rw[hx,Ao,h1,Ao];refine⟨_,rfl,λhb=>⟨hf,?_⟩⟩
 cases sm with
 | true=>exact h1
 | false=>cases hb
structure bg(f:TFunc)(s:List (Int×(Int×Int))):Prop where
 none:C7 f 2≠0->s.length=0
 len:C7 f 2=0->s.length=(Ax f).length
 get:C7 f 2=0->∀ d∈Ax f,mget ((0:Int),(0:Int)) s d.V=d.Shape
 has:C7 f 2=0->∀ v,Bz s v=true->∃ d∈Ax f,d.V=v
theorem mg{f:TFunc}(hf:YB f)(h0:f.Params.length<=64)(hb:∀ b∈f.Blocks,b.End.To.length<=64/\(∀ p∈b.Phis,p.From.length<=64/\p.Args.length<=64)/\∀ o∈b.Ops,o.Args.length<=64)(he:ZE f<=20000):Sm f:=
 ⟨hf,by rw[RB f hf h0 hb,Cq he]⟩
def JV(f:TFunc):Int:=
 bif !(List.range (Ax f).length).all (K2 (Ax f)) then 7 else bif !(Eb f).all (K3 (Ax f)) then 7 else
 bif !(Eb f).all (Xt (Ax f)) then 6 else bif !(Eb f).all (Vh (Ax f) (B1 f)) then 7 else 0
theorem V9{f:TFunc}{l:Int}(h0:0<=l)(h2:l<=2):C7 f l=0↔U2 f=true/\Ga f=true/\Ty f l=true/\JV f=0:=by
 unfold C7 ND;rw[Cx (show ¬ l<0 by omega),Cx (show ¬ 2<l by omega)]
 show _↔_/\_/\_/\JV f=0
 have e:(bif !(List.range (Ax f).length).all (K2 (Ax f)) then(7:Int) else bif !(Eb f).all (K3 (Ax f)) then 7 else
  bif !(Eb f).all (Xt (Ax f)) then 6 else bif !(Eb f).all (Vh (Ax f) (B1 f)) then 7 else 0)=JV f:=rfl
 rw[e]
 cases U2 f<;>cases Ga f<;>cases Ty f l<;>simp
theorem dH{o:Cz}(h:Jg o=true):1<=o.Lanes:=by
 simp only[Jg,A3]at h;have:=Mk h.1.1;omega
theorem ij{α:Type}(l:List α)(g:α->Nat):(l.map λa=>g a+1).sum=l.length+(l.map g).sum:=by
 induction l with
 | nil=>rfl
 | cons a l ih=>simp only[Br,Vx,ih,M6];omega
theorem eT(a b:Int):Bh (a+Bh b)=Bh (a+b):=by rw[Int.add_comm,XN,Int.add_comm]
theorem ml(f:TFunc)(hf:YB f):Ou f=some (sizeW f):=by
 have hl:=JD f.Blocks (default:Af) (λb=>b.Phis.length+b.Ops.length) id (Ks f) (λn i hi=>?_) (λn=>?_) f.Blocks.length 0 f.Blocks.length (Fi _)
 ·unfold Ou;rw[DC (by have:=hf.blocks;rw[I7]at this;omega),show((0:Nat):Int)=0 from rfl]at hl;rw[hl,Ao,Lm,sizeW,P6,show(sizeB:Af->Nat)=(λb=>(b.Phis.length+b.Ops.length)+1) from rfl,ij]
  rfl
 ·have e1:decide ((i:Int)<(f.Blocks.length:Int))=true:=Cq (by omega);unfold Ks;simp only[e1,Ad,Ap (A9 hi),Dk,H4 hi hf.blocks,eT,XN];rw[show(n:Int)+(((f.Blocks.getD i default).Phis.length:Int)+((f.Blocks.getD i default).Ops.length:Int))=((n+((f.Blocks.getD i default).Phis.length+(f.Blocks.getD i default).Ops.length):Nat):Int) by omega]
 ·have e1:decide ((f.Blocks.length:Int)<(f.Blocks.length:Int))=false:=by simp
  unfold Ks;simp only[e1,Au,id]
theorem Wz{α:Type}(l:List α)(d:α)(p:α->Bool)(f:Int->Option (LR Int (Unit ⊕ Bool)))(hn:∀ i:Nat,i<l.length->f i=bif p (l.getD i d) then some (.next ((i:Int)+1)) else some (.done (.inr false)))
  (he:f l.length=some (.done (.inl ()))):Ag f 0=some (bif l.all p then .inl () else .inr false):=by
 have:=Tb l d p f (.inl ()) (.inr false) (λi hi hp=>by rw[hn i hi,hp];rfl) (λi hi hp=>by rw[hn i hi,hp];rfl) he l.length 0 (Fi _)
 simpa using this
theorem aa(x:Int):(bif decide (x<0) then true else decide (2147483647<x)) = !numB x:=by
 unfold numB
 by_cases h1:x<0
 ·have:¬ 0<=x:=by omega
  simp[h1,this]
 ·by_cases h2:2147483647<x
  ·have:¬ x<=2147483647:=by omega
   simp[h1,h2,this]
  ·have h3:0<=x:=by omega
   have h4:x<=2147483647:=by omega
   simp[h1,h2,h3,h4]
theorem KG(l:List Int)(h:l.length<=maxLen):C2 l=some (l.all numB):=by
 have hl:=Wz l 0 numB (Gr l) (λi hi=>?_) ?_
 ·unfold C2;rw[hl]
  cases l.all numB<;>rfl
 ·have e1:decide ((i:Int)<(l.length:Int))=true:=Cq (by omega);unfold Gr;simp only[e1,Ad,Ap (A9 hi),Dk,aa,H4 hi h]
  cases numB (l.getD i 0)<;>simp
 ·unfold Gr
  simp
theorem Uz(l:List Int)(h:l.length<=maxLen):Fb l=some (Me l):=by
 unfold Fb;rw[KG l h]
 by_cases h1:l.length<=64
 ·have e1:decide ((l.length:Int)<=64)=true:=Cq (by omega);rw[e1];simp[Me,h1]
 ·have e1:decide ((l.length:Int)<=64)=false:=Cx (by omega);rw[e1];simp[Me,h1]
theorem Uw{l:List Int}(h:l.length<=10):l.length<=maxLen:=by rw[I7];omega
theorem eZ(p:Fh)(h1:p.From.length<=maxLen)(h2:p.Args.length<=maxLen):Ku p=some (HT p):=by
 unfold Ku HT;rw[KG _ (Uw (by simp)),Uz _ h1,Uz _ h2];simp only[Sa,List.all_nil,AD]
 cases numB p.Bits<;>cases numB p.Dst<;>cases Me p.From<;>cases Me p.Args<;>rfl
theorem iq(o:Cz)(h1:o.Args.length<=maxLen):L8 o=some (dk o):=by
 unfold L8 dk;rw[KG _ (Uw (by simp)),Uz _ h1];simp only[Sa,List.all_nil,AD]
 cases numB o.Kind<;>cases numB o.Bits<;>cases numB o.Lanes<;>cases numB o.Dst<;>cases Me o.Args<;>rfl
theorem eX(e:Hs)(h1:e.To.length<=maxLen):Kt e=some (ZC e):=by
 unfold Kt ZC;rw[KG _ (Uw (by simp)),Uz _ h1];simp only[Sa,List.all_nil,AD]
 cases numB e.Kind<;>cases numB e.Arg<;>cases Me e.To<;>rfl
theorem ET{X:Type}(b:Bool)(x y:X):(bif !b then x else y)=bif b then y else x:=by cases b<;>rfl
theorem bH(l:List Fh)(hl:l.length<=maxLen)(h:∀ p∈l,p.From.length<=maxLen/\p.Args.length<=maxLen):F6 l=some (l.all HT):=by
 have hl':=Wz l (default:Fh) HT (Ex l) (λi hi=>?_) ?_
 ·unfold F6;rw[hl']
  cases l.all HT<;>rfl
 ·have e1:decide ((i:Int)<(l.length:Int))=true:=Cq (by omega);have:=h _ (getD_mem (d:=(default:Fh)) hi);unfold Ex;simp only[e1,Ad,Ap (A9 hi),Dk,eZ _ this.1 this.2,Ao,ET,H4 hi hl,Int.natCast_add,Int.natCast_one]
 ·unfold Ex
  simp
theorem eY(l:List Cz)(hl:l.length<=maxLen)(h:∀ o∈l,o.Args.length<=maxLen):Gq l=some (l.all dk):=by
 have hl':=Wz l (default:Cz) dk (E7 l) (λi hi=>?_) ?_
 ·unfold Gq;rw[hl']
  cases l.all dk<;>rfl
 ·have e1:decide ((i:Int)<(l.length:Int))=true:=Cq (by omega);have:=h _ (getD_mem (d:=(default:Cz)) hi);unfold E7;simp only[e1,Ad,Ap (A9 hi),Dk,iq _ this,Ao,ET,H4 hi hl,Int.natCast_add,Int.natCast_one]
 ·unfold E7
  simp
theorem VB(b:Af)(h1:b.Phis.length<=maxLen)(h2:b.Ops.length<=maxLen)(h3:b.End.To.length<=maxLen)(h4:∀ p∈b.Phis,p.From.length<=maxLen/\p.Args.length<=maxLen)(h5:∀ o∈b.Ops,o.Args.length<=maxLen):I5 b=some (blockB b):=by
 unfold I5 blockB;rw[bH _ h1 h4,eY _ h2 h5,eX _ h3]
 cases b.Phis.all HT<;>cases b.Ops.all dk<;>cases ZC b.End<;>rfl
theorem RN(f:TFunc)(hf:YB f):E6 f.Blocks=some (f.Blocks.all blockB):=by
 have hl':=Wz f.Blocks (default:Af) blockB (D6 f.Blocks) (λi hi=>?_) ?_
 ·unfold E6;rw[hl']
  cases f.Blocks.all blockB<;>rfl
 ·have e1:decide ((i:Int)<(f.Blocks.length:Int))=true:=Cq (by omega);have hm:=getD_mem (d:=(default:Af)) hi;have q:=hf.block _ hm;unfold D6;simp only[e1,Ad,Ap (A9 hi),Dk,VB _ q.1 q.2.1 q.2.2 (hf.phi _ hm) (λo ho=>(hf.op _ hm o ho).1),Ao,ET,H4 hi hf.blocks,Int.natCast_add,Int.natCast_one]
 ·unfold D6
  simp
theorem oL(f:TFunc)(hf:YB f):Qy f=some (U2 f):=by
 unfold Qy U2;rw[ml f hf,KG _ hf.params,KG _ (Uw (by simp)),RN f hf];simp only[Sa,List.all_nil,AD,Me]
 have d1:∀ n:Nat,decide ((n:Int)<1) = !decide (1<=n):=λn=>by by_cases h:1<=n<;>simp[h]<;>omega
 have d2:∀ n:Nat,decide ((64:Int)<(n:Int)) = !decide (n<=64):=λn=>by by_cases h:n<=64<;>simp[h]<;>omega
 have d3:∀ n:Nat,decide ((16:Int)<(n:Int)) = !decide (n<=16):=λn=>by by_cases h:n<=16<;>simp[h]<;>omega
 have d4:∀ n:Int,decide ((512:Int)<n) = !decide (n<=512):=λn=>by by_cases h:n<=512<;>simp[h]<;>omega
 simp only[d1,d2,d3,d4]
 have himp:decide (f.Params.length<=16)=true->decide (f.Params.length<=64)=true:=λh=>by simp at h ⊢;omega
 revert himp
 generalize decide (1<=f.Blocks.length)=c1
 generalize decide (f.Blocks.length<=64)=c2
 generalize decide (f.Params.length<=16)=c3
 generalize decide (f.Params.length<=64)=c4
 generalize f.Params.all numB=c6
 generalize numB f.Ret=c7
 generalize f.Blocks.all blockB=c8
 cases c3 with
 | true=>
  intro h;obtain rfl:=h rfl;simp only[Fa,Qc,Ad,Ao,Au]
  generalize decide (sizeW f<=512)=c5
  cases c1<;>cases c2<;>cases c6<;>cases c7<;>cases c8<;>cases c5<;>rfl
 | false=>
  intro _
  cases c1<;>cases c2<;>rfl
inductive Tp (t:List Int):Nat->Nat->Nat->Prop
 | top {x:Nat} (hx:x<t.length) (h:t.getD x 0 = -1):Tp t x x 0
 | up {x y r k:Nat} (hx:x<t.length) (h:t.getD x 0=(y:Int)) (hk:Tp t y r k):Tp t x r (k+1)
section
variable {t:List Int}
theorem Tp.lt{x r k:Nat}(h:Tp t x r k):x<t.length:=by cases h<;>assumption
theorem Tp.tops{x r k:Nat}(h:Tp t x r k):r<t.length/\t.getD r 0 = -1:=by
 induction h with
 | top hx h=>exact⟨hx,h⟩
 | up _ _ _ ih=>exact ih
theorem Tp.det{x r k r' k':Nat}(h:Tp t x r k)(h':Tp t x r' k'):r=r'/\k=k':=by
 induction h generalizing k' with
 | top hx h=>cases h' with
  | top=>exact⟨rfl,rfl⟩
  | up _ h2 _=>omega
 | up hx h1 _ ih=>cases h' with
  | top _ h2=>omega
  | up _ h2 k2=>
   have:_=_:=h1.symm.trans h2
   cases Vw this
   obtain⟨e1,e2⟩:=ih k2;exact⟨e1,by omega⟩
theorem Tp.upTo{x r k:Nat}(h:Tp t x r k):UpTo (Bc t) x r:=by
 induction h with
 | top=>exact .refl _
 | up _ h _ ih=>exact .up h ih
theorem Tp.on{x r k z:Nat}(h:Tp t x r k)(hz:UpTo (Bc t) x z):∃ j,j<=k/\Tp t z r j/\(j=k->z=x):=by
 induction hz generalizing k with
 | refl x=>exact⟨k,zzL7 _,h,λ_=>rfl⟩
 | up hp _ ih=>
  cases h with
  | top _ h2=>have:_=_:=hp.symm.trans h2;omega
  | up _ h2 k2=>
   have:_=_:=hp.symm.trans h2
   cases Vw this
   obtain⟨j,h1,h3,_⟩:=ih k2;exact⟨j,by omega,h3,λe=>by omega⟩
theorem Tp.anti{x r k z:Nat}(h:Tp t x r k)(h1:UpTo (Bc t) x z)(h2:UpTo (Bc t) z x):z=x:=by
 obtain⟨j,j1,j2,j3⟩:=h.on h1;obtain⟨i,i1,i2,i3⟩:=j2.on h2;have:=h.det i2;exact j3 (by omega)
theorem Tp.list{x r k:Nat}(h:Tp t x r k):∃ l:List Nat,l.length=k+1/\l.Nodup/\∀ y∈l,y<t.length/\∃ j,j<=k/\Tp t y r j:=by
 induction h with
 | top hx h=>exact⟨[_],rfl,by simp,λy hy=>by rw[zzL17.1 hy];exact⟨hx,0,zzL7 _,.top hx h⟩⟩
 | @up x y r k hx h hk ih=>
  obtain⟨l,h1,h2,h3⟩:=ih;refine⟨x::l,by simp[h1],zzL76.2 ⟨λhm=>?_,h2⟩,λz hz=>?_⟩
  ·obtain⟨_,j,hj,hj2⟩:=h3 _ hm;have:=(Tp.up hx h hk).det hj2;omega
  ·rcases zzL25.1 hz with rfl|hz
   ·exact⟨hx,k+1,zzL7 _,.up hx h hk⟩
   ·obtain⟨e1,j,e2,e3⟩:=h3 z hz;exact⟨e1,j,by omega,e3⟩
theorem Tp.short{x r k:Nat}(h:Tp t x r k):k<t.length:=by
 obtain⟨l,h1,h2,h3⟩:=h.list;have:=L0 t.length l h2 λy hy=>(h3 y hy).1;omega
theorem Tp.upD{x r k:Nat}(h:Tp t x r k):∀ m,k<m->∃ q,upD t m (x:Int)=some q/\(∀ w:Int,w∈q↔∃ z:Nat,w=(z:Int)/\UpTo (Bc t) x z) /\
  ∀ p:Int->Bool,(q.find? p=none/\∀ z:Nat,UpTo (Bc t) x z->p (z:Int)=false)\/∃ f:Nat,q.find? p=some (f:Int)/\UpTo (Bc t) x f/\p (f:Int)=true/\∀ z:Nat,UpTo (Bc t) x z->p (z:Int)=true->UpTo (Bc t) f z:=by
 induction h with
 | @top x hx h=>
  intro m hm;obtain⟨m,rfl⟩:∃ i,m=i+1:=⟨m-1,by omega⟩
  have htop:∀ z,UpTo (Bc t) x z↔z=x:=λz=>CI λp hp=>by have:_=_:=hp.symm.trans h;omega
  unfold Go.Proofs.YtjpnobeadcdnoaaGreat.upD;rw[if_pos ⟨by omega,by omega⟩,A4,if_pos h];refine⟨_,rfl,λw=>?_,λp=>?_⟩
  ·rw[zzL17]
   constructor
   ·rintro rfl;exact⟨x,rfl,.refl _⟩
   ·rintro⟨z,rfl,hz⟩;rw[(htop z).1 hz]
  ·cases hpp:p (x:Int) with
   | false=>exact .inl ⟨by simp[List.find?,hpp],λz hz=>by rw[(htop z).1 hz];exact hpp⟩
   | true=>exact .inr ⟨x,by simp[List.find?,hpp],.refl _,hpp,λz hz _=>hz⟩
 | @up x y r k hx h hk ih=>
  intro m hm;obtain⟨m,rfl⟩:∃ i,m=i+1:=⟨m-1,by omega⟩;unfold Go.Proofs.YtjpnobeadcdnoaaGreat.upD;rw[if_pos ⟨by omega,by omega⟩,A4,if_neg (by omega),h];obtain⟨q,hq1,hq2,hq3⟩:=ih m (by omega);rw[hq1];refine⟨(x:Int)::q,rfl,λw=>?_,λp=>?_⟩
  ·rw[zzL25,hq2 w]
   constructor
   ·rintro(rfl|⟨y,rfl,hy⟩)
    ·exact⟨x,rfl,.refl _⟩
    ·exact⟨y,rfl,.up h hy⟩
   ·rintro⟨y,rfl,hy⟩;rcases(anc_up h).1 hy with rfl|hy
    ·exact .inl rfl
    ·exact .inr ⟨y,rfl,hy⟩
  ·cases hpp:p (x:Int) with
   | true=>exact .inr ⟨x,by simp[List.find?,hpp],.refl _,hpp,λy hy _=>hy⟩
   | false=>
    have hf:((x:Int)::q).find? p=q.find? p:=by simp[List.find?,hpp]
    rw[hf];rcases hq3 p with⟨e1,e2⟩|⟨f,e1,e2,e3,e4⟩
    ·refine .inl ⟨e1,λy hy=>?_⟩;rcases(anc_up h).1 hy with rfl|hy
     ·exact hpp
     ·exact e2 y hy
    ·refine .inr ⟨f,e1,.up h e2,e3,λy hy hpy=>?_⟩;rcases(anc_up h).1 hy with rfl|hy
     ·rw[hpp]at hpy;cases hpy
     ·exact e4 y hy hpy
theorem k9:∀ m (a:Int) q,upD t m a=some q->∃ x r k:Nat,a=(x:Int)/\k<m/\Tp t x r k:=by
 intro m
 induction m with
 | zero=>intro a q h;cases h
 | succ m ih=>
  intro a q h;unfold Go.Proofs.YtjpnobeadcdnoaaGreat.upD at h
  by_cases ha:0<=a/\a<(t.length:Int)
  ·rw[if_pos ha]at h;have e:((a.toNat:Nat):Int)=a:=Vr ha.1
   by_cases h1:t.getD a.toNat 0 = -1
   ·exact⟨a.toNat,a.toNat,0,e.symm,by omega,.top (by omega) h1⟩
   ·rw[if_neg h1]at h
    cases hu:Go.Proofs.YtjpnobeadcdnoaaGreat.upD t m (t.getD a.toNat 0) with
    | none=>rw[hu]at h;cases h
    | some q'=>
     obtain⟨y,r,k,e1,e2,e3⟩:=ih _ _ hu;exact⟨a.toNat,r,k+1,e.symm,by omega,.up (by omega) e1 e3⟩
  ·rw[if_neg ha]at h;cases h
theorem pathD_tp{a:Int}:Es t a≠[]↔∃ x r k:Nat,a=(x:Int)/\Tp t x r k:=by
 constructor
 ·intro h
  cases hu:upD t t.length a with
  | none=>exact absurd (pathD_nil.2 hu) h
  | some q=>obtain⟨x,r,k,e1,_,e2⟩:=k9 _ _ _ hu;exact⟨x,r,k,e1,e2⟩
 ·rintro⟨x,r,k,rfl,h⟩ e;obtain⟨q,hq,_⟩:=h.upD t.length h.short;rw[pathD_nil.1 e]at hq;cases hq
theorem Tp.path{x r k:Nat}(h:Tp t x r k):(∀ w:Int,w∈Es t (x:Int)↔∃ z:Nat,w=(z:Int)/\UpTo (Bc t) x z) /\
  ∀ p:Int->Bool,((Es t (x:Int)).find? p=none/\∀ z:Nat,UpTo (Bc t) x z->p (z:Int)=false)\/∃ f:Nat,(Es t (x:Int)).find? p=some (f:Int)/\UpTo (Bc t) x f/\p (f:Int)=true/\∀ z:Nat,UpTo (Bc t) x z->p (z:Int)=true->UpTo (Bc t) f z:=by
 obtain⟨q,h1,h2,h3⟩:=h.upD t.length h.short
 have e:Es t (x:Int)=q:=by unfold Es;rw[h1];rfl
 rw[e];exact⟨h2,h3⟩
theorem EC{α:Type}{l:List α}{i j:Nat}{x d:α}(hi:i<l.length):(l.set i x).getD j d=if j=i then x else l.getD j d:=by
 by_cases h:j=i
 ·subst h;simp[List.getD,hi]
 ·simp[List.getD,h,G2 h]
theorem iA{x r k:Nat}(h:Tp t x r k):∀ l:List Bool,l.length=t.length->∃ l',Ag (Fs t) ((x:Int),l)=some l'/\l'.length=t.length/\∀ z,z<t.length->(l'.getD z false=true↔l.getD z false=true\/UpTo (Bc t) x z):=by
 induction h with
 | @top x hx h=>
  intro l hl
  have hs:Fs t ((x:Int),l)=some (.next (-1,l.set x true)):=by
   unfold Fs
   have hb:((x:Int)!=(-1:Int))=true:=by rw[zzL93];omega
   simp only[hb,Ad,A4,h];rw[Ac (Jf (by omega)),Ac (Jf hx)]
  have hd:Fs t (-1,l.set x true)=some (.done (l.set x true)):=by
   unfold Fs
   rfl
  refine⟨l.set x true,by rw[An hs,Ah hd],by simp[hl],λz hz=>?_⟩;rw[EC (by omega)]
  have htop:UpTo (Bc t) x z↔z=x:=CI λp hp=>by have:_=_:=hp.symm.trans h;omega
  rw[htop]
  by_cases e:z=x
  ·simp[e]
  ·simp[e]
 | @up x y r k hx h hk ih=>
  intro l hl
  have hs:Fs t ((x:Int),l)=some (.next ((y:Int),l.set x true)):=by
   unfold Fs
   have hb:((x:Int)!=(-1:Int))=true:=by rw[zzL93];omega
   simp only[hb,Ad,A4,h];rw[Ac (Jf (by omega)),Ac (Jf hx)]
  obtain⟨l',e1,e2,e3⟩:=ih (l.set x true) (by simp[hl]);refine⟨l',by rw[An hs,e1],e2,λz hz=>?_⟩;rw[e3 z hz,EC (by omega),anc_up (par:=Bc t) h]
  by_cases e:z=x
  ·simp[e]
  ·simp[e]
theorem iB{b r k:Nat}(h:Tp t b r k)(l:List Bool)(hl:l.length=t.length):l.getD r false=true->∃ c:Nat,Ag (Ft t l) (b:Int)=some (c:Int)/\UpTo (Bc t) b c/\l.getD c false=true/\∀ z,UpTo (Bc t) b z->l.getD z false=true->UpTo (Bc t) c z:=by
 induction h with
 | @top x hx h=>
  intro hr
  have hd:Ft t l (x:Int)=some (.done (x:Int)):=by
   unfold Ft;rw[Ac (Jf (by omega)),A4,hr]
   rfl
  exact⟨x,Ah hd,.refl _,hr,λz hz _=>hz⟩
 | @up x y r k hx h hk ih=>
  intro hr
  cases hx2:l.getD x false with
  | true=>
   have hd:Ft t l (x:Int)=some (.done (x:Int)):=by
    unfold Ft;rw[Ac (Jf (by omega)),A4,hx2]
    rfl
   exact⟨x,Ah hd,.refl _,hx2,λz hz _=>hz⟩
  | false=>
   have hs:Ft t l (x:Int)=some (.next (y:Int)):=by
    unfold Ft;rw[Ac (Jf (by omega)),A4,hx2,Jj,Ad,Ac (Jf hx),h]
   obtain⟨c,e1,e2,e3,e4⟩:=ih hr;refine⟨c,by rw[An hs,e1],.up h e2,e3,λz hz hlz=>?_⟩;rcases(anc_up (par:=Bc t) h).1 hz with rfl|hz
   ·rw[hx2]at hlz;cases hlz
   ·exact e4 z hz hlz
theorem AY(ht:t.length<=1000){a b r k m:Nat}(ha:Tp t a r k)(hb:Tp t b r m):∃ c:Nat,Lx t (a:Int) (b:Int)=some (c:Int)/\MeetAt (Bc t) a b c:=by
 unfold Lx
 have hroom:(1000:Nat)<=room:=by decide
 rw[Ac ⟨by omega,by omega,by omega⟩,A4];obtain⟨l',h1,h2,h3⟩:=iA ha (List.replicate t.length false) (by simp);rw[h1,Ao]
 have h3':∀ z,z<t.length->(l'.getD z false=true↔UpTo (Bc t) a z):=λz hz=>by rw[h3 z hz,N3];simp
 obtain⟨c,e1,e2,e3,e4⟩:=iB hb l' h2 ((h3' r ha.tops.1).2 ha.upTo)
 have hc:c<t.length:=by obtain⟨j,_,hj,_⟩:=hb.on e2;exact hj.lt
 refine⟨c,by rw[e1];rfl,λw=>⟨λhw=>⟨((h3' c hc).1 e3).trans hw,e2.trans hw⟩,λ⟨hw1,hw2⟩=>?_⟩⟩;obtain⟨j,_,hj,_⟩:=ha.on hw1;exact e4 w hw2 ((h3' w hj.lt).2 hw1)
theorem dP(hR:Iv t=true){a b r k m:Nat}(ha:Tp t a r k)(hb:Tp t b r m):∃ c:Nat,Mf t (a:Int) (b:Int)=(c:Int)/\MeetAt (Bc t) a b c:=by
 unfold Mf;rw[if_pos hR]
 have hcon:∀ z:Nat,(Es t (b:Int)).contains (z:Int)=true↔UpTo (Bc t) b z:=λz=>by
  rw[GQ,hb.path.1]
  constructor
  ·rintro⟨y,e,hy⟩;cases Vw e;exact hy
  ·intro hz;exact⟨z,rfl,hz⟩
 rcases ha.path.2 (λx=>(Es t (b:Int)).contains x) with⟨e1,e2⟩|⟨f,e1,e2,e3,e4⟩
 ·have:=e2 r ha.upTo;rw[(hcon r).2 hb.upTo]at this
  cases this
 ·exact⟨f,by rw[e1];rfl,λw=>⟨λhw=>⟨e2.trans hw,((hcon f).1 e3).trans hw⟩,λ⟨hw1,hw2⟩=>e4 w hw1 ((hcon w).2 hw2)⟩⟩
theorem MeetAt.same{a b r k c d:Nat}(ha:Tp t a r k)(hc:MeetAt (Bc t) a b c)(hd:MeetAt (Bc t) a b d):c=d:=by
 obtain⟨j,_,hj,_⟩:=ha.on ((hc c).1 (.refl _)).1;exact(hj.anti ((hc d).2 ((hd d).1 (.refl _))) ((hd c).2 ((hc c).1 (.refl _)))).symm
end
theorem m_index(t:List Int)(v:Int)(ht:t.length<=1000):(∃ r:Nat,r<t.length/\t.getD r 0=v/\(∀ i,i<r->t.getD i 0≠v)/\Ea t v=some (r:Int))\/((∀ i,i<t.length->t.getD i 0≠v)/\Ea t v=some (-1)):=by
 have key:∀ k i:Nat,i+k=t.length->(∀ j,j<i->t.getD j 0≠v)->
   (∃ r:Nat,r<t.length/\t.getD r 0=v/\(∀ i,i<r->t.getD i 0≠v)/\Ag (Bw t v) (i:Int)=some (.inr (r:Int)))\/((∀ i,i<t.length->t.getD i 0≠v)/\Ag (Bw t v) (i:Int)=some (.inl ())):=by
  intro k
  induction k with
  | zero=>
   intro i hi hj
   obtain rfl:i=t.length:=by omega
   refine .inr ⟨hj,Ah ?_⟩;unfold Bw;rw[Kp];rfl
  | succ k ih=>
   intro i hi hj
   by_cases e:v=t.getD i 0
   ·refine .inl ⟨i,by omega,e.symm,hj,Ah ?_⟩;unfold Bw;have hb:((v:Int)==t.getD i 0)=true:=zzL71.2 e;simp only[Fz (show i<t.length by omega),Ad,A4,hb];rw[Ac (Jf (by omega))]
   ·have hs:Bw t v (i:Int)=some (.next ((i+1:Nat):Int)):=by
     unfold Bw;have hb:((v:Int)==t.getD i 0)=false:=zzL20.2 e;simp only[Fz (show i<t.length by omega),Ad,A4,hb,Au];rw[Ac (Jf (by omega)),w1 (by omega)]
    rw[An hs]
    exact ih (i+1) (by omega) λj hj2=>by
     by_cases ej:j=i
     ·subst ej;exact λh=>e h.symm
     ·exact hj j (by omega)
 have h0:=key t.length 0 (by omega) (λj hj=>absurd hj (M8 _));unfold Ea;rcases h0 with⟨r,h1,h2,h3,h4⟩|⟨h1,h2⟩
 ·exact .inl ⟨r,h1,h2,h3,by rw[show((0:Int))=((0:Nat):Int) from rfl,h4];rfl⟩
 ·exact .inr ⟨h1,by rw[show((0:Int))=((0:Nat):Int) from rfl,h2];rfl⟩
section
variable {t:List Int}
structure U9(t:List Int)(r f:Nat)(w:List Int):Prop where
 len:w.length=t.length
 old:∀ y,y<t.length->w.getD y 0≠0->(w.getD y 0<=(f:Int))/\∃ k,Tp t y r k
structure bi(t:List Int)(r f x:Nat)(w:List Int):Prop where
 len:w.length=t.length
 hx:x<t.length
 old:∀ y,y<t.length->w.getD y 0≠0->w.getD y 0<=(f:Int)/\(∃ k,Tp t y r k)\/w.getD y 0=((f+1:Nat):Int)/\∀ r' k,Tp t x r' k->∃ j,k<j/\Tp t y r' j
 fwd:∀ r' k,Tp t x r' k->∃ j,k<=j/\Tp t f r' j
 back:∀ r' k,Tp t f r' k->∃ j,Tp t x r' j
def KI(w:List Int):Nat:=w.countP λz=>z==0
theorem bL{w:List Int}{x:Nat}{v:Int}(hx:x<w.length)(h0:w.getD x 0=0)(hv:v≠0):KI (w.set x v)<KI w:=by
 unfold KI;rw[List.countP_set hx];rw[Aa _ _ _ hx]at h0;have hp:0<w.countP λz=>z==0:=List.countP_pos_iff.2 ⟨w[x],Yj hx,by simp[h0]⟩;have hb:(v==0)=false:=zzL20.2 hv;simp only[h0,Qc,He,hb,Yf,Eu];omega
theorem leads_loop(ht:t.length<=1000){r:Nat}(hr:r<t.length)(htop:t.getD r 0 = -1){f:Nat}(hf:f<t.length):∀(m x:Nat) (w:List Int),KI w<=m->bi t r f x w->
  (∃ w',Ag (Cu t (f:Int) (r:Int)) ((x:Int),w)=some (.inl w')/\U9 t r (f+1) w'/\∃ k,Tp t f r k) \/
  ∃ b w',Ag (Cu t (f:Int) (r:Int)) ((x:Int),w)=some (.inr (b,w'))/\w'.length=t.length/\(b=true->U9 t r (f+1) w'/\∃ k,Tp t f r k)/\(b=false->∀ k,¬ Tp t f r k):=by
 intro m
 induction m with
 | zero=>
  intro x w hz hw;exact go 0 (λx w hz=>absurd hz (M8 _)) x w hz hw
 | succ m ih=>
  intro x w hz hw;exact go (m+1) (λx w hz=>ih x w (Nat.le_of_lt_succ hz)) x w hz hw
where
 go (m:Nat) (ih:∀(x:Nat) (w:List Int),KI w<m->bi t r f x w->
  (∃ w',Ag (Cu t (f:Int) (r:Int)) ((x:Int),w)=some (.inl w')/\U9 t r (f+1) w'/\∃ k,Tp t f r k) \/
  ∃ b w',Ag (Cu t (f:Int) (r:Int)) ((x:Int),w)=some (.inr (b,w'))/\w'.length=t.length/\(b=true->U9 t r (f+1) w'/\∃ k,Tp t f r k)/\(b=false->∀ k,¬ Tp t f r k)) (x:Nat) (w:List Int) (hz:KI w<=m) (hw:bi t r f x w) :
  (∃ w',Ag (Cu t (f:Int) (r:Int)) ((x:Int),w)=some (.inl w')/\U9 t r (f+1) w'/\∃ k,Tp t f r k) \/
  ∃ b w',Ag (Cu t (f:Int) (r:Int)) ((x:Int),w)=some (.inr (b,w'))/\w'.length=t.length/\(b=true->U9 t r (f+1) w'/\∃ k,Tp t f r k)/\(b=false->∀ k,¬ Tp t f r k):=by
  have hxl:=hw.hx
  have told:∀ k,Tp t x r k->U9 t r (f+1) w/\∃ k,Tp t f r k:=λk hk=>by
   obtain⟨j,_,hj⟩:=hw.fwd _ _ hk;refine⟨⟨hw.len,λy hy hy0=>?_⟩,j,hj⟩;rcases hw.old y hy hy0 with⟨h1,h2⟩|⟨h1,h2⟩
   ·exact⟨by omega,h2⟩
   ·obtain⟨i,_,hi⟩:=h2 _ _ hk;exact⟨by omega,i,hi⟩
  by_cases hxr:x=r
  ·subst hxr;refine .inl ⟨w,Ah ?_,told 0 (.top hr htop)⟩;unfold Cu
   have hb:((x:Int)!=(x:Int))=false:=by simp
   simp only[hb,Au]
  ·have hb:((x:Int)!=(r:Int))=true:=by rw[zzL93];omega
   have hin:Bt (x:Int) w.length:=Jf (by rw[hw.len];exact hxl)
   by_cases hw0:w.getD x 0=0
   ·have hb0:((w.getD x 0:Int)!=0)=false:=by rw[hw0];rfl
    by_cases hpl:0<=t.getD x 0/\t.getD x 0<(t.length:Int)
    ·have hwf:Bh ((f:Int)+1)=((f+1:Nat):Int):=w1 (by omega)
     have hs:Cu t (f:Int) (r:Int) ((x:Int),w)=some (.next (t.getD x 0,w.set x ((f+1:Nat):Int))):=by
      unfold Cu H6;simp only[hb,Ad,A4,hb0,Au];rw[Ac hin,Ac (Jf hxl),Cq hpl.1,Cq hpl.2,Ad,Ao,Fa,Au,Ac hin,Ac (Jf hxl),hwf]
     rw[An hs];obtain⟨y,hy⟩:∃ y:Nat,t.getD x 0=(y:Int):=⟨(t.getD x 0).toNat,(Vr hpl.1).symm⟩;rw[hy]at hpl ⊢
     have hyl:y<t.length:=by omega
     have hst:∀ r' k,Tp t y r' k->Tp t x r' (k+1):=λr' k hk=>.up hxl hy hk
     have hset:∀ z,z<t.length->(w.set x ((f+1:Nat):Int)).getD z 0=if z=x then((f+1:Nat):Int) else w.getD z 0:=λz _=>EC (by rw[hw.len];exact hxl)
     have hW:bi t r f y (w.set x ((f+1:Nat):Int)):=by
      refine⟨by simp[hw.len],hyl,λz hzl hz0=>?_,λr' k hk=>?_,λr' k hk=>?_⟩
      ·rw[hset z hzl]at hz0 ⊢
       by_cases e:z=x
       ·subst e;rw[if_pos rfl];exact .inr ⟨rfl,λr' k hk=>⟨k+1,by omega,hst r' k hk⟩⟩
       ·rw[if_neg e]at hz0 ⊢;rcases hw.old z hzl hz0 with h1|⟨h1,h2⟩
        ·exact .inl h1
        ·refine .inr ⟨h1,λr' k hk=>?_⟩;obtain⟨j,hj1,hj2⟩:=h2 _ _ (hst r' k hk);exact⟨j,by omega,hj2⟩
      ·obtain⟨j,hj1,hj2⟩:=hw.fwd _ _ (hst r' k hk);exact⟨j,by omega,hj2⟩
      ·obtain⟨j,hj⟩:=hw.back _ _ hk
       cases hj with
       | top _ h2=>omega
       | up _ h2 h3=>
        have:=hy.symm.trans h2
        cases Vw this
        exact⟨_,h3⟩
     have hzz:=bL (x:=x) (v:=((f+1:Nat):Int)) (by rw[hw.len];exact hxl) hw0 (by omega);exact ih y _ (by omega) hW
    ·refine .inr ⟨false,w,Ah ?_,hw.len,⟨λh=>(by cases h),λ_ k hk=>?_⟩⟩
     ·unfold Cu H6;simp only[hb,Ad,A4,hb0,Au];rw[Ac hin,Ac (Jf hxl)]
      have:(bif decide ((0:Int)<=t.getD x 0) then decide (t.getD x 0<(t.length:Int)) else false)=false:=by
       cases h1:decide ((0:Int)<=t.getD x 0) with
       | false=>rfl
       | true=>rw[Ad];exact Cx λh2=>hpl ⟨Qb h1,h2⟩
      rw[this,Ao]
      rfl
     ·obtain⟨j,hj⟩:=hw.back _ _ hk
      cases hj with
      | top=>exact hxr rfl
      | up _ h2 h3=>have:=h3.lt;exact hpl ⟨by omega,by omega⟩
   ·have hb0:((w.getD x 0:Int)!=0)=true:=by rw[zzL93];exact hw0
    have hwf:Bh ((f:Int)+1)=((f+1:Nat):Int):=w1 (by omega);refine .inr ⟨w.getD x 0 !=((f+1:Nat):Int),w,Ah ?_,hw.len,⟨λh=>?_,λh k hk=>?_⟩⟩
    ·unfold Cu;simp only[hb,Ad,A4,hb0];rw[Ac hin,Ac hin,hwf]
    ·rcases hw.old x hxl hw0 with⟨_,k,hk⟩|⟨h1,_⟩
     ·exact told k hk
     ·rw[h1]at h;simp at h
    ·have he:w.getD x 0=((f+1:Nat):Int):=by simpa using h
     obtain⟨j,hj⟩:=hw.back _ _ hk;rcases hw.old x hxl hw0 with⟨h1,_⟩|⟨_,h2⟩
     ·omega
     ·obtain⟨i,hi1,hi2⟩:=h2 _ _ hj;have:=hj.det hi2;omega
end
section
variable {t:List Int}
theorem hY(ht:t.length<=1000){r:Nat}(hr:r<t.length)(htop:t.getD r 0 = -1){f:Nat}(hf:f<t.length){w:List Int}(hw:U9 t r f w) :
  ∃ b w',Ow t w (f:Int) (r:Int)=some (b,w')/\w'.length=t.length/\(b=true->U9 t r (f+1) w'/\∃ k,Tp t f r k)/\(b=false->∀ k,¬ Tp t f r k):=by
 unfold Ow;have hW:bi t r f f w:=⟨hw.len,hf,λy hy h0=>.inl (hw.old y hy h0),λr' k hk=>⟨k,zzL7 _,hk⟩,λr' k hk=>⟨k,hk⟩⟩;rcases leads_loop ht hr htop hf _ f w (zzL7 _) hW with⟨w',e1,e2⟩|⟨b,w',e1,e2,e3,e4⟩
 ·exact⟨true,w',by rw[e1];rfl,e2.1.len,λ_=>e2,λh=>by cases h⟩
 ·exact⟨b,w',by rw[e1];rfl,e2,e3,e4⟩
def IA(t:List Int)(r:Nat):Prop:=∀ f,f<t.length->t.getD f 0≠-2->∃ k,Tp t f r k
open Classical in
theorem PC(ht:t.length<=1000){r:Nat}(hr:r<t.length)(htop:t.getD r 0 = -1):∀(k f:Nat) (w:List Int),f+k=t.length->U9 t r f w->(∀ y,y<f->t.getD y 0≠-2->∃ k,Tp t y r k)->
  Ag (Eg t (r:Int)) ((f:Int),w)=some (if IA t r then .inl () else .inr false):=by
 intro k
 induction k with
 | zero=>
  intro f w hk hw hd
  obtain rfl:f=t.length:=by omega
  apply Ah
  unfold Eg;simp only[Kp,Au];rw[if_pos (show IA t r from hd)]
 | succ k ih=>
  intro f w hk hw hd
  have hf:f<t.length:=by omega
  by_cases h2:t.getD f 0 = -2
  ·have hb:((t.getD f 0:Int)!=(-2))=false:=by rw[h2];rfl
   have hs:Eg t (r:Int) ((f:Int),w)=some (.next (((f+1:Nat):Int),w)):=by
    unfold Eg;simp only[Fz hf,Ad,A4,hb,show(false==true)=false from rfl,Au,Ao];rw[Ac (Jf hf),Ac (λh=>by cases h),w1 (by omega)]
   rw[An hs];refine ih (f+1) w (by omega) ⟨hw.len,λy hy h0=>?_⟩ λy hy hy2=>?_
   ·obtain⟨e1,e2⟩:=hw.old y hy h0;exact⟨by omega,e2⟩
   ·by_cases e:y=f
    ·subst e;exact absurd h2 hy2
    ·exact hd y (by omega) hy2
  ·have hb:((t.getD f 0:Int)!=(-2))=true:=by rw[zzL93];exact h2
   obtain⟨b,w',e1,e2,e3,e4⟩:=hY ht hr htop hf hw
   cases b with
   | false=>
    rw[if_neg (λhA:IA t r=>by obtain⟨k,hk⟩:=hA f hf h2;exact e4 rfl k hk)]
    apply Ah
    unfold Eg;simp only[Fz hf,Ad,A4,hb,show(true==true)=true from rfl,e1,Ao];rw[Ac (Jf hf),Ac (λ_=>by rw[hw.len,e2])]
    rfl
   | true=>
    have hs:Eg t (r:Int) ((f:Int),w)=some (.next (((f+1:Nat):Int),w')):=by
     unfold Eg;simp only[Fz hf,Ad,A4,hb,show(true==true)=true from rfl,e1,Ao];rw[Ac (Jf hf),Ac (λ_=>by rw[hw.len,e2]),w1 (by omega)]
     rfl
    rw[An hs];obtain⟨e5,e6⟩:=e3 rfl;refine ih (f+1) w' (by omega) e5 λy hy hy2=>?_
    by_cases e:y=f
    ·subst e;exact e6
    ·exact hd y (by omega) hy2
theorem eO:Ya t t.length=1↔∃ r,r<t.length/\t.getD r 0 = -1/\∀ x,x<t.length->t.getD x 0 = -1->x=r:=by
 have key:∀ n,(Ya t n=0↔∀ x,x<n->t.getD x 0≠-1)/\(Ya t n=1↔∃ r,r<n/\t.getD r 0 = -1/\∀ x,x<n->t.getD x 0 = -1->x=r):=by
  intro n
  induction n with
  | zero=>exact⟨⟨λ_ x hx=>absurd hx (M8 _),λ_=>rfl⟩,⟨λh=>by simp[Ya]at h,λ⟨r,h,_⟩=>absurd h (M8 _)⟩⟩
  | succ n ih=>
   rw[GF]
   by_cases e:t.getD n 0 = -1
   ·rw[if_pos e];refine⟨⟨λh=>by omega,λh=>absurd e (h n (by omega))⟩,⟨λh=>⟨n,by omega,e,λx hx hx1=>?_⟩,λ⟨r,h1,h2,h3⟩=>?_⟩⟩
    ·by_cases ex:x=n
     ·exact ex
     ·exact absurd hx1 (ih.1.1 (by omega) x (by omega))
    ·have:=ih.1.2 λx hx hx1=>by
      have:=h3 x (by omega) hx1;have:=h3 n (by omega) e;omega
     omega
   ·rw[if_neg e,Ln];refine⟨⟨λh x hx=>?_,λh=>ih.1.2 λx hx=>h x (by omega)⟩,⟨λh=>?_,λ⟨r,h1,h2,h3⟩=>?_⟩⟩
    ·by_cases ex:x=n
     ·subst ex;exact e
     ·exact ih.1.1 h x (by omega)
    ·obtain⟨r,h1,h2,h3⟩:=ih.2.1 h;refine⟨r,by omega,h2,λx hx hx1=>?_⟩
     by_cases ex:x=n
     ·subst ex;exact absurd hx1 e
     ·exact h3 x (by omega) hx1
    ·refine ih.2.2 ⟨r,?_,h2,λx hx hx1=>h3 x (by omega) hx1⟩
     by_cases ex:r=n
     ·subst ex;exact absurd h2 e
     ·omega
 exact(key _).2
theorem rightD_iff:Iv t=true↔∃ r,r<t.length/\t.getD r 0 = -1/\IA t r:=by
 unfold Iv;rw[A3,all_range,Dw,eO]
 constructor
 ·rintro⟨h1,r,h2,h3,h4⟩;refine⟨r,h2,h3,λf hf hf2=>?_⟩;have:=h1 f hf;unfold nS at this;rw[Vt,Dw,O9,KK]at this;rcases this with h|h
  ·exact absurd h hf2
  ·obtain⟨x,r',k,e,hk⟩:=pathD_tp.1 h
   cases Vw e
   have:=h4 _ hk.tops.1 hk.tops.2;subst this;exact⟨k,hk⟩
 ·rintro⟨r,h2,h3,h4⟩;refine⟨λf hf=>?_,r,h2,h3,λx hx hx1=>?_⟩
  ·unfold nS;rw[Vt,Dw,O9,KK]
   by_cases e:t.getD f 0 = -2
   ·exact .inl e
   ·obtain⟨k,hk⟩:=h4 f hf e;exact .inr (pathD_tp.2 ⟨f,r,k,rfl,hk⟩)
  ·obtain⟨k,hk⟩:=h4 x hx (by omega);exact((hk.det (.top hx hx1)).1).symm
theorem JX(hR:Iv t=true):∃ r,IA t r:=by obtain⟨r,_,_,h⟩:=rightD_iff.1 hR;exact⟨r,h⟩
theorem dL(ht:t.length<=1000):Nc t=some (Iv t):=by
 unfold Nc
 have hroom:(1000:Nat)<=room:=by decide
 rcases m_index t (-1) ht with⟨r,h1,h2,h3,h4⟩|⟨h1,h2⟩
 ·rw[h4,Ao,show decide ((r:Int)<0)=false from Cx (by omega),Au,Ac ⟨by omega,by omega,by omega⟩,A4];have hl:=PC ht h1 h2 t.length 0 (List.replicate t.length 0) (by omega) ⟨by simp,λy hy h0=>absurd N3 h0⟩ (λy hy=>absurd hy (M8 _));rw[show(((0:Nat):Int))=0 from rfl]at hl;rw[hl,Ao]
  by_cases hA:IA t r
  ·rw[if_pos hA,rightD_iff.2 ⟨r,h1,h2,hA⟩]
  ·rw[if_neg hA]
   have:Iv t=false:=Bool.eq_false_iff.2 λhR=>by
    obtain⟨r',g1,g2,g3⟩:=rightD_iff.1 hR;obtain⟨k,hk⟩:=g3 r h1 (by omega);have:=(hk.det (.top h1 h2)).1;subst this;exact hA g3
   rw[this]
 ·rw[h2,Ao]
  have:Iv t=false:=Bool.eq_false_iff.2 λhR=>by
   obtain⟨r',g1,g2,g3⟩:=rightD_iff.1 hR;exact h1 r' g1 g2
  rw[this]
  rfl
def Wc(t:List Int)(a:Int):Bool:=decide (0<=a)&&decide (a<(t.length:Int))&&decide (t.getD a.toNat 0≠-2)
theorem EE(hR:Iv t=true){a:Int}:Wc t a=true↔∃ x k r:Nat,a=(x:Int)/\Tp t x r k:=by
 unfold Wc;rw[A3,A3,Dw,Dw,Dw]
 constructor
 ·rintro⟨⟨h1,h2⟩,h3⟩;obtain⟨r,hA⟩:=JX hR;obtain⟨k,hk⟩:=hA a.toNat (by omega) h3;exact⟨a.toNat,k,r,(Vr h1).symm,hk⟩
 ·rintro⟨x,k,r,rfl,h⟩;have:=h.lt;refine⟨⟨by omega,by omega⟩,?_⟩;rw[A4]
  cases h with
  | top _ h2=>omega
  | up _ h2 _=>omega
theorem EN(a:Int):In t a=some (Wc t a):=by
 unfold In H6 Wc;rw[Ao]
 cases h1:decide ((0:Int)<=a) with
 | false=>rfl
 | true=>
  rw[Ad,Hi]
  cases h2:decide (a<(t.length:Int)) with
  | false=>rfl
  | true=>
   rw[Ac (λ_=>⟨Qb h1,Qb h2⟩),Ad,Hi]
   congr 1
   rw[M7,zzL93,Dw]
theorem g9(ht:t.length<=1000)(a b:Int):Ov t a b=some (Iv t&&Wc t a&&Wc t b):=by
 unfold Ov;rw[dL ht,Ao]
 cases Iv t with
 | false=>rfl
 | true=>
  simp only[show(true==true)=true from rfl,Ad,EN,Ao,Hi]
  cases Wc t a with
  | false=>rfl
  | true=>simp only[show(true==true)=true from rfl,Ad,EN,Ao,Hi]
theorem ZW{a b:Int}(h:(Iv t&&Wc t a&&Wc t b)=false):Mf t a b = -2:=by
 unfold Mf
 by_cases hR:Iv t=true
 ·rw[if_pos hR];rw[hR,Hi]at h
  have hno:∀ c,Wc t c=false->Es t c=[]:=λc hc=>by
   by_cases e:Es t c=[]
   ·exact e
   ·obtain⟨x,r,k,e1,e2⟩:=pathD_tp.1 e;rw[(EE hR).2 ⟨x,k,r,e1,e2⟩]at hc;cases hc
  cases ha:Wc t a with
  | false=>rw[hno a ha];rfl
  | true=>
   rw[ha,Hi]at h;rw[hno b h]
   have:((Es t a).find? λx=>([]:List Int).contains x)=none:=List.find?_eq_none.2 λx _=>by simp
   rw[this]
   rfl
 ·rw[if_neg hR]
theorem HH(ht:t.length<=1000){a b:Int}(h:(Iv t&&Wc t a&&Wc t b)=true):Lx t a b=some (Mf t a b)/\0<=Mf t a b:=by
 rw[A3,A3]at h;obtain⟨⟨hR,ha⟩,hb⟩:=h;obtain⟨x,k,r,rfl,hx⟩:=(EE hR).1 ha;obtain⟨y,m,r',rfl,hy⟩:=(EE hR).1 hb;obtain⟨rr,hA⟩:=JX hR
 have top:∀{x r k},Tp t x r k->r=rr:=λ{x r k} h=>by
  obtain⟨i,hi⟩:=hA r h.tops.1 (by rw[h.tops.2];omega);exact((Tp.top h.tops.1 h.tops.2).det hi).1
 obtain rfl:=top hx;obtain rfl:=top hy;obtain⟨c,h1,h2⟩:=AY ht hx hy;obtain⟨d,h3,h4⟩:=dP hR hx hy;have:=h2.same hx h4;subst this;exact⟨by rw[h1,h3],by omega⟩
theorem kY(ht:t.length<=1000)(a b:Int):Qz t a b=some (N1 t a b):=by
 unfold Qz N1;rw[g9 ht,Ao]
 cases h:(Iv t&&Wc t a&&Wc t b) with
 | false=>
  rw[ZW h]
  have:((-2:Int)==a&&((-2:Int)!=-2))=false:=by simp
  rw[this]
  rfl
 | true=>
  obtain⟨h1,h2⟩:=HH ht h;simp only[show(true==true)=true from rfl,Ad,h1,Ao]
  have:(Mf t a b !=-2)=true:=by rw[zzL93];omega
  rw[this,AD]
end
theorem iF:∀ n:Fin 65,Lv (E1 1) (E1 ((n.val:Nat):Int))=some (0,((n.val:Nat):Int)):=by decide +kernel
theorem ZZ{n:Nat}(h:n<=64):Lv (E1 1) (E1 (n:Int))=some (0,(n:Int)):=iF ⟨n,by omega⟩
theorem QY{v:Int}{n:Nat}(hn:n<=64):∀(m i:Nat) (l:List Int),n-i<=m->1<=i->i<=n->l.length=n->(∀ j,j<i->l.getD j 0=v)->Ag Cb ((i:Int),l)=some (List.replicate n v):=by
 intro m
 induction m with
 | zero=>
  intro i l hm h1 h2 hl hv
  obtain rfl:i=n:=by omega
  exact fin l hl hv
 | succ m ih=>
  intro i l hm h1 h2 hl hv
  by_cases e:i=n
  ·subst e;exact fin l hl hv
  ·have hs:Cb ((i:Int),l)=some (.next (((i+Nat.min i (n-i):Nat):Int),TI l i (Nat.min i (n-i)) (λj=>l.getD (0+j) 0))):=by
    unfold Cb;simp only[hl,Fz (show i<n by omega),Ad,A4,Fi,T5];have hc:(0:Int)<=(i:Int)/\i<=n:=⟨by omega,h2⟩;have hmn:Nat.min i (n-i)<=i:=Nat.min_le_left _ _;rw[Ac hc,Ac hc,Gb (by omega) (by omega),Int.natCast_add]
   rw[An hs];have hmn:Nat.min i (n-i)<=i/\Nat.min i (n-i)<=n-i:=⟨Nat.min_le_left _ _,Nat.min_le_right _ _⟩;have hge:1<=Nat.min i (n-i):=Nat.le_min.2 ⟨h1,by omega⟩;refine ih _ _ (by omega) (by omega) (by omega) (by rw[<- Fy];exact hl) λj hj=>?_;rw[DR _ _ _ _ _ _ (by omega)]
   by_cases hji:i<=j/\j<i+Nat.min i (n-i)
   ·rw[if_pos hji,Fi];exact hv _ (by omega)
   ·rw[if_neg hji];exact hv _ (by omega)
where
 fin {v:Int} {i:Nat} (l:List Int) (hl:l.length=i) (hv:∀ j,j<i->l.getD j 0=v):Ag Cb ((i:Int),l)=some (List.replicate i v):=by
  apply Ah
  unfold Cb;simp only[hl,Kp,Au]
  congr 2
  refine Z0 (by simp[hl]) λj h1 h2=>?_;rw[<- Aa _ _ 0 h1,hv j (by omega)]
  simp
theorem dM{v:Int}{n:Nat}(h1:1<=n)(hn:n<=64):E8 [v] (n:Int)=some (List.replicate n v):=by
 have hroom:(64:Nat)<=room:=by decide
 unfold E8;rw[show decide ((n:Int)<0)=false from Cx (by omega),Au,Ao]
 show Option.bind (Lv (E1 1) (E1 (n:Int))) _=_
 rw[ZZ hn,Ao];have e1:decide ((0:Int)<(0:Int))=false:=rfl;have e2:decide ((9223372036854775807:Int)<(n:Int))=false:=Cx (by omega);simp only[e1,e2,Au,Ao];have ew:Bh (n:Int)=(n:Int):=Gb (by omega) (by omega);rw[ew,Ac ⟨by omega,by omega,by omega⟩,A4,Ye,T5];have em:Nat.min [v].length n=1:=Nat.min_eq_left h1;rw[em,QY hn n 1 _ (by omega) (zzL7 _) h1 (by rw[<- Fy];simp) (λj hj=>?_)]
 ·rfl
 ·rw[DR _ _ _ _ _ _ (by simp;omega),if_pos ⟨by omega,by omega⟩]
  have:j-0=0:=by omega
  rw[this];rfl
section
variable {S:Nat->List Nat} {r n:Nat} {P:List Nat}
theorem Inv.tp{at_:Nat->Nat}{t:List Int}(h:Inv S r n at_ (Bc t))(hl:t.length=n):∀ m x,at_ x<=m->x<n->Bc t x≠-2->∃ k,Tp t x r k:=by
 intro m
 induction m with
 | zero=>
  intro x hm hx hp;rcases h.kind x hx with h1|h1|⟨z,hz⟩
  ·exact absurd h1 hp
  ·subst h1;exact⟨0,.top (by omega) h.top⟩
  ·obtain⟨_,_,h3,_⟩:=h.up x hx z hz;omega
 | succ m ih=>
  intro x hm hx hp;rcases h.kind x hx with h1|h1|⟨z,hz⟩
  ·exact absurd h1 hp
  ·subst h1;exact⟨0,.top (by omega) h.top⟩
  ·obtain⟨z1,z2,z3,_⟩:=h.up x hx z hz;obtain⟨k,hk⟩:=ih z (by omega) z1 z2;exact⟨k+1,.up (by omega) hz hk⟩
def Wv(t l:List Int)(i:Nat)(v:Int):Prop:=
 (v = -2/\∀ j,j<i->Bc t (l.getD j 0).toNat = -2) \/
 ∃ z:Nat,v=(z:Int)/\z<t.length/\Bc t z≠-2/\(∀ w,UpTo (Bc t) z w↔∀ j,j<i->Bc t (l.getD j 0).toNat≠-2->UpTo (Bc t) (l.getD j 0).toNat w)
theorem MK{at_:Nat->Nat}{t l:List Int}(ht:t.length<=64)(hll:l.length<=64)(h:Inv S r n at_ (Bc t))(hl:t.length=n)(hin:∀ x∈l,0<=x/\x<(n:Int)):∀(k i:Nat) (v:Int),i+k=l.length->Wv t l i v->
  ∃ v',Ag (D0 t l) (v,(i:Int))=some v'/\Wv t l l.length v':=by
 intro k
 induction k with
 | zero=>
  intro i v hi hv
  obtain rfl:i=l.length:=by omega
  refine⟨v,Ah ?_,hv⟩;unfold D0;simp only[Kp,Au]
 | succ k ih=>
  intro i v hi hv
  have hil:i<l.length:=by omega
  obtain⟨x0,x1⟩:=hin _ (getD_mem (d:=0) hil);have hxe:(((l.getD i 0).toNat:Nat):Int)=l.getD i 0:=Vr x0;have hxin:Bt (l.getD i 0) t.length:=mK x0 (by omega)
  have next:∀ v',D0 t l (v,(i:Int))=some (.next (v',((i+1:Nat):Int)))->Wv t l (i+1) v'->∃ v',Ag (D0 t l) (v,(i:Int))=some v'/\Wv t l l.length v':=λv' hs hv'=>by
   rw[An hs];exact ih (i+1) v' (by omega) hv'
  by_cases hp:Bc t (l.getD i 0).toNat = -2
  ·have hb:((t.getD (l.getD i 0).toNat 0:Int)==-2)=true:=zzL71.2 hp;refine next v ?_ ?_
   ·unfold D0;simp only[Fz hil,Ad,A4,hb];rw[Ac (Jf hil),Ac hxin,Ao,w1 (by omega)]
   ·have hstep:∀ w,(∀ j,j<i->Bc t (l.getD j 0).toNat≠-2->UpTo (Bc t) (l.getD j 0).toNat w)↔∀ j,j<i+1->Bc t (l.getD j 0).toNat≠-2->UpTo (Bc t) (l.getD j 0).toNat w:=λw=>by
     refine⟨λhj j hj1 hj2=>?_,λhj j hj1=>hj j (by omega)⟩
     by_cases e:j=i
     ·subst e;exact absurd hp hj2
     ·exact hj j (by omega) hj2
    rcases hv with⟨h1,h2⟩|⟨z,h1,h2,h3,h4⟩
    ·refine .inl ⟨h1,λj hj=>?_⟩
     by_cases e:j=i
     ·subst e;exact hp
     ·exact h2 j (by omega)
    ·exact .inr ⟨z,h1,h2,h3,λw=>by rw[h4 w,hstep w]⟩
  ·have hb:((t.getD (l.getD i 0).toNat 0:Int)==-2)=false:=zzL20.2 hp;rcases hv with⟨h1,h2⟩|⟨z,h1,h2,h3,h4⟩
   ·subst h1;refine next (l.getD i 0) ?_ (.inr ⟨(l.getD i 0).toNat,hxe.symm,by omega,hp,λw=>⟨λhw j hj hj2=>?_,λhw=>hw i (by omega) hp⟩⟩)
    ·unfold D0;simp only[Fz hil,Ad,A4,hb,Au,show((-2:Int)==-2)=true from rfl];rw[Ac (Jf hil),Ac hxin,Ao,w1 (by omega)]
    ·by_cases e:j=i
     ·subst e;exact hw
     ·exact absurd (h2 j (by omega)) hj2
   ·subst h1;have hb2:((z:Int)==-2)=false:=zzL20.2 (by omega);obtain⟨k1,hk1⟩:=h.tp hl _ z (zzL7 _) (by omega) h3;obtain⟨k2,hk2⟩:=h.tp hl _ (l.getD i 0).toNat (zzL7 _) (by omega) hp;obtain⟨c,c1,c2⟩:=AY (by omega) hk1 hk2;have hcz:=(c2 c).1 (.refl _);obtain⟨jc,_,hjc,_⟩:=hk1.on hcz.1
    have hcp:Bc t c≠-2:=by
     show t.getD c 0≠-2
     cases hjc with
     | top _ h=>omega
     | up _ h _=>omega
    refine next (c:Int) ?_ (.inr ⟨c,rfl,hjc.lt,hcp,λw=>?_⟩)
    ·rw[hxe]at c1;unfold D0;simp only[Fz hil,Ad,A4,hb,Au,hb2,c1,Ao];rw[Ac (Jf hil),Ac hxin,Ao,w1 (by omega)]
    ·rw[c2 w,h4 w];refine⟨λ⟨a1,a2⟩ j hj hj2=>?_,λha=>⟨λj hj=>ha j (by omega),ha i (by omega) hp⟩⟩
     by_cases e:j=i
     ·subst e;exact a2
     ·exact a1 j (by omega) hj2
theorem ZR{at_:Nat->Nat}{t l:List Int}(ht:t.length<=64)(hll:l.length<=64)(h:Inv S r n at_ (Bc t))(hl:t.length=n)(hin:∀ x∈l,0<=x/\x<(n:Int)) :
  ∃ v,H7 t l=some v/\Wv t l l.length v:=by
 obtain⟨v,h1,h2⟩:=MK ht hll h hl hin l.length 0 (-2) (by omega) (.inl ⟨rfl,λj hj=>absurd hj (M8 _)⟩);refine⟨v,?_,h2⟩;unfold H7;rw[show((0:Int))=((0:Nat):Int) from rfl,h1]
 rfl
end
section
variable {L:List (List Int)} (hm:Lz L=true) {r:Nat} {P:List Nat}
include hm
theorem eF{p y:Nat}(hp:p<L.length):y∈sN L p↔AR L p y=true:=by
 rw[cx];obtain⟨_,_,h3⟩:=mayS_iff.1 hm
 constructor
 ·intro h;obtain⟨x,hx,rfl⟩:=zzL26.1 h;have:=WZ (h3 p hp) hx;rw[Vr this.1];exact hx
 ·intro h;exact zzL26.2 ⟨_,h,A4 y⟩
theorem X1{y:Nat}(hy:y<L.length){x:Int}:x∈(Fe L).getD y []↔∃ p:Nat,x=(p:Int)/\p<L.length/\y∈sN L p:=by
 rw[JR hy];unfold J6;rw[dQ]
 constructor
 ·rintro⟨k,h1,h2,h3⟩;exact⟨k,h1,h2,(eF hm h2).2 h3⟩
 ·rintro⟨k,h1,h2,h3⟩;exact⟨k,h1,h2,(eF hm h2).1 h3⟩
theorem MJ(o:Ordered (sN L) r L.length P){t:List Int}{i:Nat}(h:Ready (sN L) r L.length P t i)(hi:i<P.length) :
  H7 t ((Fe L).getD (P.getD i 0) [])=some (J0 (sN L) L.length t (P.getD i 0):Int):=by
 obtain⟨hL1,hL64,_⟩:=mayS_iff.1 hm;have hyn:P.getD i 0<L.length:=o.lt (F2 _ (Nn hi))
 have hlen:((Fe L).getD (P.getD i 0) []).length<=64:=by
  rw[JR hyn];have:=Wi L L.length (P.getD i 0);omega
 obtain⟨v,h1,h2⟩:=ZR (by rw[h.len];exact hL64) hlen h.inv h.len λx hx=>by
  obtain⟨p,rfl,hp,_⟩:=(X1 hm hyn).1 hx;omega
 rw[h1];have hb:=h.best o hi
 have mem:∀ p,p<L.length->P.getD i 0∈sN L p->∃ j,j<((Fe L).getD (P.getD i 0) []).length/\(((Fe L).getD (P.getD i 0) []).getD j 0).toNat=p:=λp hp hy=>by
  obtain⟨j,hj,e⟩:=Ll ((X1 hm hyn).2 ⟨p,rfl,hp,hy⟩);exact⟨j,hj,by rw[Aa _ _ _ hj,e,A4]⟩
 have mem':∀ j,j<((Fe L).getD (P.getD i 0) []).length->(((Fe L).getD (P.getD i 0) []).getD j 0).toNat<L.length/\P.getD i 0∈sN L (((Fe L).getD (P.getD i 0) []).getD j 0).toNat:=λj hj=>by
  obtain⟨p,e,hp,hy⟩:=(X1 hm hyn).1 (getD_mem (d:=(0:Int)) hj);rw[e,A4];exact⟨hp,hy⟩
 rcases h2 with⟨rfl,h3⟩|⟨z,rfl,hz,hz2,h4⟩
 ·obtain⟨p,hp,hyp,hp2,_⟩:=hb.fwd;obtain⟨j,hj,e⟩:=mem p hp hyp;exact absurd (by rw[<- e];exact h3 j hj) hp2
 ·have hbest:SI (sN L) L.length (Bc t) (P.getD i 0) z:=λw=>by
   rw[h4 w];refine⟨λha p hp hyp hp2=>?_,λha j hj hj2=>?_⟩
   ·obtain⟨j,hj,e⟩:=mem p hp hyp;have:=ha j hj (by rw[e];exact hp2);rwa[e]at this
   ·obtain⟨q1,q2⟩:=mem' j hj;exact ha _ q1 q2 hj2
  rw[h.best_eq o hi (by rw[<- h.len];exact hz) hz2 hbest]
end
theorem PX{P:List Nat}{i:Nat}(h:i<P.length):(Pg P).getD i 0=((P.getD i 0:Nat):Int):=by
 unfold Pg;rw[Aa _ _ _ (by simpa using h),Aa _ _ _ h,List.getElem_map]
 rfl
theorem RA{t:List Int}{x:Nat}{v:Int}(hx:x<t.length)(h:t.getD x 0=v):t.set x v=t:=by
 subst h;rw[Aa _ _ _ hx];exact List.set_getElem_self hx
section
variable {L:List (List Int)} (hm:Lz L=true) {r:Nat} {P:List Nat} (o:Ordered (sN L) r L.length P)
include hm o
theorem UQ{t0:List Int}(h:Ready (sN L) r L.length P t0 0):∀(k i:Nat) (b:Bool),i+k=P.length->
  ∃ b',Ag (Ds (Yq L) (Pg (r::P))) (b,(i:Int),Sp (sN L) L.length P t0 i)=some (b',Sp (sN L) L.length P t0 P.length) /\
   (b'=false↔b=false/\∀ j,i<=j->j<P.length->Bc (Sp (sN L) L.length P t0 j) (P.getD j 0)=(J0 (sN L) L.length (Sp (sN L) L.length P t0 j) (P.getD j 0):Int)):=by
 have hP64:P.length<=64:=by
  have h1:=L0 L.length (r::P) o.nodup λx hx=>o.lt hx;have h2:=(mayS_iff.1 hm).2.1;simp at h1;omega
 have hdl:(Pg (r::P)).drop (1:Int).toNat=Pg P:=rfl
 have hlen:(Pg P).length=P.length:=by simp[Pg]
 intro k
 induction k with
 | zero=>
  intro i b hi
  obtain rfl:i=P.length:=by omega
  refine⟨b,Ah ?_,λh=>⟨h,λj h1 h2=>by omega⟩,λh=>h.1⟩;unfold Ds;simp only[hdl,hlen,Kp,Au]
 | succ k ih=>
  intro i b hi
  have hil:i<P.length:=by omega
  have rd:=h.round o i (by omega);have hma:=MJ hm o rd hil;have hyn:P.getD i 0<L.length:=o.lt (F2 _ (Nn hil))
  have hyt:P.getD i 0<(Sp (sN L) L.length P t0 i).length:=by rw[rd.len];exact hyn
  have hpred:(Yq L).Pred=Fe L:=rfl
  by_cases he:Bc (Sp (sN L) L.length P t0 i) (P.getD i 0)=(J0 (sN L) L.length (Sp (sN L) L.length P t0 i) (P.getD i 0):Int)
  ·have hb:((J0 (sN L) L.length (Sp (sN L) L.length P t0 i) (P.getD i 0):Int)!=(Sp (sN L) L.length P t0 i).getD (P.getD i 0) 0)=false:=by
    have:(Sp (sN L) L.length P t0 i).getD (P.getD i 0) 0=_:=he;rw[this];simp
   have hnx:Sp (sN L) L.length P t0 (i+1)=Sp (sN L) L.length P t0 i:=RA hyt he
   have hs:Ds (Yq L) (Pg (r::P)) (b,(i:Int),Sp (sN L) L.length P t0 i)=some (.next (b,((i+1:Nat):Int),Sp (sN L) L.length P t0 (i+1))):=by
    unfold Ds;simp only[hdl,hlen,Fz hil,Ad,A4,PX hil,hpred,hma,Ao,hb,Au];rw[Ac (Jf hil),Ac (Jf (by rw[N2];exact hyn)),Ac (Jf hyt),Ao,w1 (by omega),hnx]
   obtain⟨b',e1,e2⟩:=ih (i+1) b (by omega);refine⟨b',by rw[An hs,e1],λh=>?_,λ⟨h1,h2⟩=>e2.2 ⟨h1,λj hj=>h2 j (by omega)⟩⟩;obtain⟨h1,h2⟩:=e2.1 h;refine⟨h1,λj hj1 hj2=>?_⟩
   by_cases e:j=i
   ·subst e;exact he
   ·exact h2 j (by omega) hj2
  ·have hb:((J0 (sN L) L.length (Sp (sN L) L.length P t0 i) (P.getD i 0):Int)!=(Sp (sN L) L.length P t0 i).getD (P.getD i 0) 0)=true:=by
    rw[zzL93];exact λe=>he e.symm
   have hs:Ds (Yq L) (Pg (r::P)) (b,(i:Int),Sp (sN L) L.length P t0 i)=some (.next (true,((i+1:Nat):Int),Sp (sN L) L.length P t0 (i+1))):=by
    unfold Ds;simp only[hdl,hlen,Fz hil,Ad,A4,PX hil,hpred,hma,Ao,hb];rw[Ac (Jf hil),Ac (Jf (by rw[N2];exact hyn)),Ac (Jf hyt),Ac (Jf hyt),Ao,w1 (by omega)]
    rfl
   obtain⟨b',e1,e2⟩:=ih (i+1) true (by omega);refine⟨b',by rw[An hs,e1],λh=>?_,λ⟨h1,h2⟩=>absurd (h2 i (zzL7 _) hil) he⟩;obtain⟨h1,_⟩:=e2.1 h;cases h1
theorem ar{t0:List Int}(h:Ready (sN L) r L.length P t0 0):∃ b,Ag (Ds (Yq L) (Pg (r::P))) (false,(0:Int),t0)=some (b,Sp (sN L) L.length P t0 P.length)/\(b=false↔Rw (sN L) L.length P t0):=by
 obtain⟨b,e1,e2⟩:=UQ hm o h P.length 0 false (by omega);refine⟨b,e1,e2.trans ⟨λ⟨_,h2⟩=>?_,λhs=>⟨rfl,λj _ hj=>?_⟩⟩⟩
 ·have key:∀ j,j<=P.length->Sp (sN L) L.length P t0 j=t0:=by
   intro j
   induction j with
   | zero=>intro _;rfl
   | succ j ih=>
    intro hj;have ih':=ih (by omega);have rd:=h.round o j (by omega)
    have hyn:P.getD j 0<(Sp (sN L) L.length P t0 j).length:=by rw[rd.len];exact o.lt (F2 _ (Nn (by omega)))
    have:Sp (sN L) L.length P t0 (j+1)=Sp (sN L) L.length P t0 j:=RA hyn (h2 j (Lo _) (by omega));rw[this,ih']
  intro i hi;have:=h2 i (Lo _) hi;rwa[key i (by omega)]at this
 ·rw[Tx o h.len hs j (by omega)];exact hs j hj
open Classical in
theorem XM(j:Nat):Ey (Yq L) (Pg (r::P),CZ (sN L) L.length P (Et L.length r) j)=some (if Rw (sN L) L.length P (CZ (sN L) L.length P (Et L.length r) j) then .done (CZ (sN L) L.length P (Et L.length r) (j+1)) else .next (Pg (r::P),CZ (sN L) L.length P (Et L.length r) (j+1))):=by
 obtain⟨b,e1,e2⟩:=ar hm o (Ready.rounds o j);have hL2:Pe (Yq L) (Pg (r::P))=Ds (Yq L) (Pg (r::P)):=rfl
 have hlen:(0:Int)<=1/\(1:Int)<=((Pg (r::P)).length:Int):=by simp[Pg];omega
 unfold Ey;simp only[hL2,e1,Ao];rw[Ac hlen]
 cases b with
 | false=>rw[if_pos (e2.1 rfl)];rfl
 | true=>rw[if_neg (λh=>by have:=e2.2 h;cases this)];rfl
theorem RJ:∃ J,Rw (sN L) L.length P (CZ (sN L) L.length P (Et L.length r) J)/\Ag (Ey (Yq L)) (Pg (r::P),Et L.length r)=some (CZ (sN L) L.length P (Et L.length r) J):=by
 obtain⟨J,h1,h2⟩:=jg o;refine⟨J,h2,?_⟩
 have key:∀ d j,j+d=J->Ag (Ey (Yq L)) (Pg (r::P),CZ (sN L) L.length P (Et L.length r) j)=some (CZ (sN L) L.length P (Et L.length r) J):=by
  intro d
  induction d with
  | zero=>
   intro j hj
   obtain rfl:j=J:=by omega
   have hF:=XM hm o j;rw[if_pos h2]at hF;rw[Ah hF];have:CZ (sN L) L.length P (Et L.length r) (j+1)=CZ (sN L) L.length P (Et L.length r) j:=Tx o (Ready.rounds o j).len h2 P.length (zzL7 _);rw[this]
  | succ d ih=>
   intro j hj;have hF:=XM hm o j;rw[if_neg (h1 j (by omega))]at hF;rw[An hF];exact ih (j+1) (by omega)
 exact key J 0 (by omega)
end
theorem kZ(g:C3)(r:Int)(h1:Fits g.Succ)(h2:Fits g.Pred):Nx g r=some (RI g r):=by
 unfold RI
 by_cases hc:Y3 g=true/\0<=r/\r<(g.Succ.length:Int)
 ·rw[if_pos hc];obtain⟨hG,h0,hlt⟩:=hc;obtain⟨hm,hg⟩:=h9 hG;obtain⟨hL1,hL64,_⟩:=mayS_iff.1 hm
  have hr:r.toNat<g.Succ.length:=by omega
  have hrn:((r.toNat:Nat):Int)=r:=Vr h0;obtain⟨O,hO⟩:=Ord.exist (Vm hm) hr;have hord:=(MI g h1 trivial r).1 hG h0 hlt O hO;obtain⟨P,rfl,o⟩:=hO.ordered hr (Vm hm);obtain⟨J,hJ,hl⟩:=RJ hm o;have ht:=(BK o hJ).eq hm hr o;rw[ht]at hl;have hlen:(((Pg (r.toNat::P)).length:Int)==0)=false:=zzL20.2 (by simp[Pg];omega)
  have hlen2:(0:Int)<=1/\(1:Int)<=((Pg (r.toNat::P)).length:Int):=by simp[Pg];omega
  have hL2:Pe g (Pg (r.toNat::P))=Ds g (Pg (r.toNat::P)):=rfl
  have hst:(Po (Ey g (Pg (r.toNat::P),Et g.Succ.length r.toNat)) (Ey g))=some (Yb g.Succ r.toNat):=by
   rw[BJ,hg];exact hl
  unfold Nx;rw[hord,Ao,hlen,Au,dM hL1 hL64,Ao,Ac (mK h0 (by simpa using hlt)),Ac hlen2]
  have:(Ey g (Pg (r.toNat::P),Et g.Succ.length r.toNat))=(Ag (Ds g (Pg (r.toNat::P))) (false,0,(List.replicate g.Succ.length (-2:Int)).set r.toNat (-1))).bind (λx22=>(match x22 with|(b10,l11)=>(bif b10 then(some (.next (Pg (r.toNat::P),l11))) else(some (.done l11))))):=by
   unfold Ey Et;simp only[hL2];rw[Ac hlen2]
  rw[this]at hst;refine Eq.trans ?_ (B9 (λx:Option (List Int)=>x.bind λx42=>some x42) hst)
  rfl
 ·rw[if_neg hc];unfold Nx
  have:(Y3 g&&(decide (0<=r)&&decide (r<(g.Succ.length:Int))))=false:=by
   rw[Bool.eq_false_iff];intro h;rw[A3,A3,Dw,Dw]at h;exact hc h
  rw[(MI g h1 trivial r).2 this,Ao]
  rfl
end
end Go.Proofs.YtjpnobeadcdnoaaGreat
