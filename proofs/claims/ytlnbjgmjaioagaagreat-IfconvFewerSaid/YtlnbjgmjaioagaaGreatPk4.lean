/-
  The machine, the program's functions and the laws' arithmetic: part 4 of 6.
-/
import Derived.Test.YtlnbjgmjaioagaaGreatPk3
import Derived.OpenShut
import Derived.ShutString
set_option linter.unusedSectionVars false
set_option linter.unusedVariables false
set_option linter.unusedSimpArgs false
namespace Go.Proofs.YtlnbjgmjaioagaaGreat
noncomputable section
open Go Go.RowKit
set_option maxRecDepth 100000
set_option maxHeartbeats 2000000
def Ln(aJ:Bf)(a1:Int)(aO:Int):(Int×Ao×Ao)->Option (LR (Int×Ao×Ao) (Ao×Ao)):=
 λ((i1,l2,l3):(Int×Ao×Ao))=>(bif (decide (i1<(aJ.From.length:Int))) then(Option.bind (α:=mX) (Aw (As i1 aJ.From.length) (bif (bif ((aJ.From.getD i1.toNat 0)!=a1) then((aJ.From.getD i1.toNat 0)!=aO) else false) then(Aw (l2.length+([(aJ.From.getD i1.toNat 0)]:Ao).length<=room) (Aw (As i1 aJ.Args.length) (Aw (l3.length+([(aJ.Args.getD i1.toNat 0)]:Ao).length<=room) (some ((l2++([(aJ.From.getD i1.toNat 0)]:Ao)),(l3++([(aJ.Args.getD i1.toNat 0)]:Ao))))))) else(some (l2,l3)))) (λ(l6,l7)=>(some (.next ((w64 (i1+1)),l6,l7))))) else(some (.done (l2,l3))))
def nA(x19:(Ao×Ao×Ao)):=(λi=>Am (x19.2.1.getD i 0))
def m9:AV:=jK
def b6(aJ:Bf)(i1:Int):=([(aJ.Args.getD i1.toNat 0)]:Ao)
def b8(aJ:Bf)(i1:Int):=([(aJ.From.getD i1.toNat 0)]:Ao)
def rp:List AV:=[La,La,UT,UT]
def rm(aJ:Bf):List AV:=[(Z6 aJ.Bits),(Z6 aJ.Dst),(Mw aJ.From),(Mw aJ.Args)]
def yS(a1:Int)(aO:Int)(aZ:Int)(aS:Int)(aJ:Bf):=(⟨[(1,(Z6 a1)),(2,(Z6 aO)),(3,(Z6 aZ)),(4,(Z6 aS)),VF,(10,(.ptr 10 0)),(11,(.vsl 36011 ([]:Ao).length)),(12,(.vsl 36012 ([]:Ao).length)),(18,(Mw aJ.From)),(19,(JQ aJ.From.length)),(20,La)],[(5,.row 56 (rm aJ)),(10,.row 56 rp),(Z83 36011),(Z83 36012)],[]⟩:St)
def Od(aJ:Bf)(a1:Int)(aO:Int)(aZ:Int)(aS:Int):Option Bf:=
 ((Ad (Ln aJ a1 aO) ((0:Int),([]:Ao),([]:Ao))).bind (λ(l4,l5)=>((Eu l4 aZ).bind λx16=>((CR l4 x16.1 [aZ]).bind λx17=>(Aw (1=x17.2.2.length) ((CR l5 x16.1 [aS]).bind λx19=>(Aw (1=x19.2.2.length) (some (⟨aJ.Bits,aJ.Dst,x17.2.1,x19.2.1⟩:Bf)))))))))
variable{v1:Int}{v11:Int}{v20:Int}{v4:Bf}{v40:Int}{v46:Bf}
theorem IK(h:Od v4 v1 v11 v20 v40=some v46):sP 121 [(.agg (Gs v4)),(Z6 v1),(Z6 v11),(Z6 v20),(Z6 v40)] [] (.agg (Gs v46)) []:=
 sG Tryz.func121 λΓ q=>have hΓ:=q.own;Ae q [1,2,3,4,5,10] [5,10] (gR q [1,2,3,4,5,10,11,12] [5,10] [(11,m9),(12,m9)] [] (c2 (Bc 1 Am (0:Int)) (Bc 1 Am (0:Int))) (Ae q NN [5,10] (M1 (st':=(yS v1 v11 v20 v40 v4)) (Le.trans (A8 (st':=⟨[(1,(Z6 v1)),(2,(Z6 v11)),(3,(Z6 v20)),(4,(Z6 v40)),VF,(10,(.ptr 10 0)),(11,m9),(12,m9),(18,(Mw v4.From)),(19,(JQ v4.From.length)),(20,La)],[(5,.row 56 (rm v4)),(10,.row 56 rp)],[]⟩) NN [5,10] q) (Le.trans (Le.trans (ai (t:=11) (nm:=36011) (sz':=1) (λi=>Am (([]:Ao).getD i 0)) 3 rfl rfl) (A8 (st':=⟨[(1,(Z6 v1)),(2,(Z6 v11)),(3,(Z6 v20)),(4,(Z6 v40)),VF,(10,(.ptr 10 0)),(11,(.vsl 36011 ([]:Ao).length)),(12,m9),(18,(Mw v4.From)),(19,(JQ v4.From.length)),(20,La)],[(5,.row 56 (rm v4)),(10,.row 56 rp),(Z83 36011)],[]⟩) NN [5,10,36011] q)) (Le.trans (ai (t:=12) (nm:=36012) (sz':=1) (λi=>Am (([]:Ao).getD i 0)) 3 rfl rfl) (A8 (st':=(yS v1 v11 v20 v40 v4)) NN Tl q)))) (tL q h NN Tl (λu (i1,l2,l3)=>(Cn u [(11,(.vsl 36011 l2.length)),(12,(.vsl 36012 l3.length)),(20,(Z6 i1))] [(Z4 36011 l2),(Z4 36012 l3)])) (λu (l4,l5)=>aG Γ (.exit 0) (Nc [3,4,5,10,11,12] Tl u [(11,(.vsl 36011 l4.length)),(12,(.vsl 36012 l5.length))] [(Z4 36011 l4),(Z4 36012 l5)])) (λ⟨i1,l2,l3⟩ y h=>Ae q [1,2,3,4,5,10,11,12,18,19,20,21] Tl (gC h (λh=>tB h λx12 y12 h=>gJ y12 (λ(l6,l7)=>aG Γ .normal (⟨[(1,(Z6 v1)),(2,(Z6 v11)),(3,(Z6 v20)),(4,(Z6 v40)),VF,(10,(.ptr 10 0)),(11,(.vsl 36011 l6.length)),(12,(.vsl 36012 l7.length)),(18,(Mw v4.From)),(19,(JQ v4.From.length)),(20,(Z6 i1))],[(5,.row 56 (rm v4)),(10,.row 56 rp),(Z4 36011 l6),(Z4 36012 l7)],[]⟩:St)) (λy h=>tV q [1,2,3,4,5,10,11,12,13,14,18,19,20] Tl h λh=>tU q [1,2,3,4,5,10,11,12,13,14,18,19,20,32] Tl (J7 (((v4.From.getD i1.toNat 0)!=v1)==true) (c1 (M7 ((v4.From.getD i1.toNat 0)!=v1)))) (gC h (λh=>tC h λc9_ h=>tC h λc10_ h=>tC h λc11_ h=>gR q NN Tl [(35,(su (b8 v4 i1))),(43,(su (b6 v4 i1)))] [] (c7 (Az 1 Am (0:Int) (b8 v4 i1)) (Eq.refl l2.length) c9_ c10_ (Az 1 Am (0:Int) (b6 v4 i1)) (Eq.refl l3.length) c11_) (tS h (gK (A3 (Le.trans (Le.trans (Vf 36011 (show ∀ k_,k_<(l2.length+(b8 v4 i1).length)->AVleL ((λi_=>AV.eraseAll (λn_=>B3 n_ Tl) ((O3 l2.length (λi=>Am (l2.getD i 0)) (λi=>Am ((b8 v4 i1).getD i 0))) i_)) k_) ((λi=>Am ((l2++(b8 v4 i1)).getD i 0)) k_) from(Bj (Br _ _) (λk_ hk_=>(Bl (AV.eraseAll (λn_=>B3 n_ Tl)) ((Ww (λ_ _=>rfl) (λ_ _=>rfl)) k_ hk_)).trans rfl)))) (Le.trans (Vg (λ(k_:Nat) u=>(Cn u [(11,(.vsl 36011 k_))] [(36011,.arr 1 3 k_ (λi=>Am ((l2++(b8 v4 i1)).getD i 0)))])) (show(l2.length+(b8 v4 i1).length)=(l2++(b8 v4 i1)).length from(Br _ _))) (Le.trans (Vf 36012 (show ∀ k_,k_<(l3.length+(b6 v4 i1).length)->AVleL ((λi_=>AV.eraseAll (λn_=>B3 n_ Tl) ((O3 l3.length (λi=>Am (l3.getD i 0)) (λi=>Am ((b6 v4 i1).getD i 0))) i_)) k_) ((λi=>Am ((l3++(b6 v4 i1)).getD i 0)) k_) from(Bj (Br _ _) (λk_ hk_=>(Bl (AV.eraseAll (λn_=>B3 n_ Tl)) ((Ww (λ_ _=>rfl) (λ_ _=>rfl)) k_ hk_)).trans rfl)))) (Vg (λ(k_:Nat) u=>(Cn u [(12,(.vsl 36012 k_))] [(36012,.arr 1 3 k_ (λi=>Am ((l3++(b6 v4 i1)).getD i 0)))])) (show(l3.length+(b6 v4 i1).length)=(l3++(b6 v4 i1)).length from(Br _ _)))))) Gt))))) λh=>tS h (gK (A3 (A8 NN Tl q))))) (match x12,h with|⟨l6,l7⟩,h=>gA (Ae q NN Tl (tN h)))) λh=>tS h (gO (A3 (A8 [3,4,5,10,11,12] Tl q))))) λx14 h=>(match x14,h with|⟨l4,l5⟩,h=>gA (tB h λx16 y16 h=>tT q [3,4,5,10,11,12,15] Tl [⟨[],[],(.tuple [(Z6 x16.1),(.bool x16.2)]),[],[36011],[]⟩] (c3 (Sd y16) (show(MH []) from trivial) (Eq.refl l4.length)) (tB h λx17 y17 h=>tC h λc18_ h=>tB h λx19 y19 h=>tC h λc20_ h=>gR q [5,10] Tl [(55,(.vsl 55 1)),(60,(.vsl 60 1))] [⟨qq,[],(.vsl 34000 x17.2.1.length),[(Z4 34000 x17.2.1),(Z4 34002 x17.2.2)],[],[]⟩,⟨qr,[],(.vsl 34000 x19.2.1.length),[(34000,.arr 1 3 x19.2.1.length (nA x19)),(Z4 34002 x19.2.2)],[],[]⟩] (c2 (SW l4 x16.1 [v20] x17 y17 (λi_=>AV.renAll qq ((λi_=>([(Z6 v20)].drop (i_*1)).take 1) i_)) (bK (n:=0) gw rfl)) (SW l5 x16.1 [v40] x19 y19 (λi_=>AV.renAll qr ((λi_=>([(Z6 v40)].drop (i_*1)).take 1) i_)) (bK (n:=0) gw rfl))) (Ae q [10] [10,36011,36012] (O6 (⟨[(10,(.ptr 10 0))],[(10,.row 56 [(Z6 v4.Bits),(Z6 v4.Dst),(.vsl 36011 x17.2.1.length),(.vsl 36012 x19.2.1.length)]),(Z4 36011 x17.2.1),(36012,.arr 1 3 x19.2.1.length (nA x19))],[]⟩:St) (tS h (gK (e:=.ret) (H5 [] (Le.trans (Le.trans (Gm (nm:=36011) (sz:=1) (n:=x17.2.1.length) (e:=3) (f:=(λi=>Am (x17.2.1.getD i 0))) (g:=(λi=>Am (x17.2.1.getD i 0))) rfl ⟨rfl,trivial⟩ (λ_ _=>rfl) (by rw[hΓ];rfl)) (H6 (st':=⟨[(10,(.ptr 10 0))],[(10,.row 56 [(Z6 v4.Bits),(Z6 v4.Dst),(HL x17.2.1 36011),(.vsl 36012 x19.2.1.length)]),(Tq 36011 x17.2.1.length),(36012,.arr 1 3 x19.2.1.length (nA x19))],[]⟩) (by kernel_rfl))) (Le.trans (Gm (nm:=36012) (sz:=1) (n:=x19.2.1.length) (e:=3) (f:=(nA x19)) (g:=(nA x19)) rfl ⟨rfl,trivial⟩ (λ_ _=>rfl) (by rw[hΓ];rfl)) (H6 (st':=⟨[(10,(.ptr 10 0))],[(10,.row 56 [(Z6 v4.Bits),(Z6 v4.Dst),(HL x17.2.1 36011),(HL x19.2.1 36012)]),(Tq 36011 x17.2.1.length),(Tq 36012 x19.2.1.length)],[]⟩) (by kernel_rfl))))))))))))))))
abbrev Aaw:=(List Bf×Int×Ao×Int×List Ab×Int×Int×Int×Int×List A2×Int)
def I8(a1:Int)(a3:TFunc)(a5:THammock)(x1:Int)(x2:Int):Aaw->Option (LR (List Bf×Int×Ao×Int×List Ab×Int×Int×Int×Int×List A2×Int) (List Bf×Ao×Int×List Ab×Int×Int×Int×Int×List A2×Int)):=
 λ((l4,i5,l6,i7,l8,i9,i10,i11,i12,l13,i14):Aaw)=>(bif (decide (i5<(((a3.Blocks.getD (a5.Join).toNat (default:Ab)).Phis).length:Int))) then(Aw (As i5 ((a3.Blocks.getD (a5.Join).toNat (default:Ab)).Phis).length) ((Sv (((a3.Blocks.getD (a5.Join).toNat (default:Ab)).Phis).getD i5.toNat default) x1).bind λx26=>((Sv (((a3.Blocks.getD (a5.Join).toNat (default:Ab)).Phis).getD i5.toNat default) x2).bind λx27=>((I6 ((((a3.Blocks.getD (a5.Join).toNat (default:Ab)).Phis).getD i5.toNat default).Bits) a1 x26 x27 (⟨l6,i7,l8⟩:TFunc) (⟨i9,i10,i11,i12⟩:THammock) l13 i14).bind λx28=>((Od (((a3.Blocks.getD (a5.Join).toNat (default:Ab)).Phis).getD i5.toNat default) x1 x2 x28.2.2.1.At x28.1).bind λx29=>(Aw (l4.length+([(⟨x29.Bits,x29.Dst,x29.From,x29.Args⟩:Bf)]:List Bf).length<=room) (some (.next ((l4++([(⟨x29.Bits,x29.Dst,x29.From,x29.Args⟩:Bf)]:List Bf)),(w64 (i5+1)),x28.2.1.Params,x28.2.1.Ret,x28.2.1.Blocks,x28.2.2.1.At,x28.2.2.1.Then,x28.2.2.1.Else,x28.2.2.1.Join,x28.2.2.2.1,x28.2.2.2.2))))))))) else(some (.done (l4,l6,i7,l8,i9,i10,i11,i12,l13,i14))))
def rq(a3:TFunc)(a5:THammock):=(a3.Blocks.getD (a5.Join).toNat (default:Ab))
def nB(x29:Bf):=([(⟨x29.Bits,x29.Dst,x29.From,x29.Args⟩:Bf)]:List Bf)
def kg(a3:TFunc)(a5:THammock)(a7:List A2)(a8:Int):List AV:=(Z2 a3.Params a3.Ret a3.Blocks a5.At a5.Then a5.Else a5.Join a7 a8)
def yT(a1:Int)(x1:Int)(x2:Int)(a3:TFunc)(a5:THammock)(a7:List A2)(a8:Int):=(⟨[(0,Wu),(1,(Z6 a1)),(5,(Z6 x1)),(6,(Z6 x2)),(7,(AV.list 4 Gs default ([]:List Bf) (.own 5007))),(37,(AV.list 4 Gs default (rq a3 a5).Phis .none)),(38,(.int .i64 (((rq a3 a5).Phis).length:Int))),(39,La)],[(5007,.tok 4 56 (([]:List Bf).length)),(30000,.row 71 (kg a3 a5 a7 a8)),(NX 37007 a7.length)],[]⟩:St)
abbrev ON:=(List Bf×TFunc×THammock×List A2×Int)
def Lo(a1:Int)(a3:TFunc)(a5:THammock)(a7:List A2)(a8:Int):Option ON:=
 ((G6 a5.Then a3 a5 a7 a8).bind λx1=>((G6 a5.Else a3 a5 a7 a8).bind λx2=>(Aw (As a5.Join a3.Blocks.length) ((Ad (I8 a1 a3 a5 x1 x2) (([]:List Bf),(0:Int),a3.Params,a3.Ret,a3.Blocks,a5.At,a5.Then,a5.Else,a5.Join,a7,a8)).bind (λ(l15,l16,i17,l18,i19,i20,i21,i22,l23,i24)=>(some (l15,(⟨l16,i17,l18⟩:TFunc),(⟨i19,i20,i21,i22⟩:THammock),l23,i24)))))))
variable{v0:TFunc}{v37:THammock}{v47:ON}{v7:List A2}
theorem BU(h:Lo v1 v0 v37 v7 v11=some v47):sP 64 [Wu,(Z6 v1)] (OP v0.Params v0.Ret v0.Blocks v37.At v37.Then v37.Else v37.Join v7 v11 v7.length) (yB v47.1 20000) [(30000,.row 71 (Z2 v47.2.1.Params v47.2.1.Ret v47.2.1.Blocks v47.2.2.1.At v47.2.2.1.Then v47.2.2.1.Else v47.2.2.1.Join v47.2.2.2.1 v47.2.2.2.2)),(NX 37007 v47.2.2.2.1.length),(20000,.tok 4 56 v47.1.length)]:=
 sG Tryz.func64 λΓ q=>gR q Fe Mj [(4,Z89)] [] (c1 (Bc 4 Gs (default:Bf))) (tB h λx1 y1 h=>tB h λx2 y2 h=>tT q UB Mj [⟨Yw,[],(Z6 x1),(lB (kg v0 v37 v7 v11) v7.length),[],Mj⟩,⟨Yw,[],(Z6 x2),(lB (kg v0 v37 v7 v11) v7.length),[],Mj⟩] (ci (Re y1) (rkc [(.row 71 (kg v0 v37 v7 v11)),(.tok 6 51 v7.length)] (ci (Re y2) (rkl [(.row 71 (kg v0 v37 v7 v11)),(.tok 6 51 v7.length)])))) (gR q [0,1,5,6,7] Mj [(7,Z89)] [] (c1 (Bc 4 Gs (default:Bf))) (tV q YT Mj h λh=>M1 (st':=(yT v1 x1 x2 v0 v37 v7 v11)) (Le.trans (A8 (st':=⟨[(0,Wu),(1,(Z6 v1)),(5,(Z6 x1)),(6,(Z6 x2)),(7,Z89),(37,(AV.list 4 Gs default (rq v0 v37).Phis .none)),(38,(.int .i64 (((rq v0 v37).Phis).length:Int))),(39,La)],(lB (kg v0 v37 v7 v11) v7.length),[]⟩) YT Mj q) (Le.trans (Lb (t:=7) (nm:=5007) (sz':=4) (λi=>Gs (([]:List Bf).getD i default)) 56 rfl rfl (.inl ⟨rfl,rfl⟩) (λh_=>absurd h_ (by decide))) (A8 (st':=(yT v1 x1 x2 v0 v37 v7 v11)) YT UO q))) (tL q h YT UO (λu (l4,i5,l6,i7,l8,i9,i10,i11,i12,l13,i14)=>(Cn u [(7,(yB l4 5007)),(39,(Z6 i5))] [(5007,.tok 4 56 l4.length),(30000,.row 71 (Z2 l6 i7 l8 i9 i10 i11 i12 l13 i14)),(NX 37007 l13.length)])) (λu (l15,l16,i17,l18,i19,i20,i21,i22,l23,i24)=>aG Γ (.exit 0) (⟨[(7,(yB l15 5007))],[(5007,.tok 4 56 l15.length),(30000,.row 71 (Z2 l16 i17 l18 i19 i20 i21 i22 l23 i24)),(NX 37007 l23.length)],[]⟩:St)) (λ⟨l4,i5,l6,i7,l8,i9,i10,i11,i12,l13,i14⟩ y h=>Ae q [0,1,5,6,7,37,38,39,40] UO (gC h (λh=>tV q [0,1,5,6,7,9,37,38,39] rC h λh=>tB h λx26 y26 h=>tB h λx27 y27 h=>tB h λx28 y28 h=>tT q [0,1,5,6,7,9,10,37,38,39] rC [(JP x26),(JP x27),(sl x28.1 x28.2.1.Params x28.2.1.Ret x28.2.1.Blocks x28.2.2.1.At x28.2.2.1.Then x28.2.2.1.Else x28.2.2.1.Join x28.2.2.2.1 x28.2.2.2.2 x28.2.2.2.1.length)] (c3 (IJ y26) (IJ y27) (W8 y28)) (tB h λx29 y29 h=>tC h λc30_ h=>gR q YT UO [(65,(AV.list 4 Gs default (nB x29) .exact)),(66,(AV.list 4 Gs default (l4++(nB x29)) (.own 5007)))] [⟨[],[],(.agg (Gs x29)),[],[],[]⟩] (c6 (IK y29) (Az 4 Gs (default:Bf) (nB x29)) (Eq.refl l4.length) c30_ (Cu 4 5007 Gs (default:Bf) l4 (nB x29)) (Br l4 (nB x29))) (Ae q YT UO (tN h)))) λh=>tS h (gO (A3 (A8 [7] UO q))))) λx31 h=>(match x31,h with|⟨l15,l16,i17,l18,i19,i20,i21,i22,l23,i24⟩,h=>gA (Ae q [4] UO (tS h (Bp [(30000,30000),(37007,37007),(5007,20000)]))))))))
def kh:AV:=wb
def yU:=(⟨[(2,(.vsl 36002 ([]:List Ab).length))],[(36002,.arr 5 48 (([]:List Ab).length) (λi=>Bd (([]:List Ab).getD i default)))],[]⟩:St)
def Cv(aL:List Ab):Option (List Ab):=
 (Aw (aL.length<=room) (some aL))
variable{v10:List Ab}{v34:List Ab}
theorem N2(h:Cv v10=some v34):sP 65 [(VD v10)] [] (.vsl 20000 v34.length) [(20000,.arr 5 48 v34.length (λi=>Bd (v34.getD i default)))]:=by
 refine EG mix Tryz.func65 (λΓ hq=>?_);unfold Cv at h;refine gR hq [0] [] [(2,kh)] [] (c1 (Bc 5 Bd (default:Ab))) ?_;refine Ae hq Yv [] ?_;refine ze true v10.length (λhb=>?_) (λhb=>?_)
 ·replace h:=pW (some ([]:List Ab)) (λ(l2:List Ab)=>(Aw (l2.length<=room) (some l2))) h (hb rfl) rfl (λh0=>by first|exact h0|simpa [Aw,room] using h0);clear hb;refine gR hq [2] [] [(2,kh)] [] (c1 (Bc 5 Bd (default:Ab))) ?_;refine O6 (⟨[(2,kh)],[],[]⟩:St) ?_;cases h;exact gK (e:=.ret) (H5 [(36002,20000)] (show Le Γ _ yU from Le.trans (A8 (st':=⟨[(2,kh)],[],[]⟩) [2] [] hq) (Le.trans (ai (t:=2) (nm:=36002) (sz':=5) (λi=>Bd (([]:List Ab).getD i default)) 48 rfl rfl) (A8 (st':=yU) [2] [36002] hq))))
 ·clear hb;obtain⟨hc1,h⟩:=O4 h;refine gR hq [2] [7] [(5,kh),(7,.vsl 7 0)] [] (ci (show(AVle (.slice 5 0 (λi=>([]:List (List AV)).getD i []) .exact) kh) from ff rfl (λi hi=>absurd hi (V1 i))) (c1 hc1)) ?_;obtain rfl:=OI h;exact Bp [(7,20000)]
def S9(aE:THammock):Option Unit:=
 (some ())
variable{v32:Unit}
theorem KV(h:S9 v37=some v32):sP 66 [(e7 v37)] [] (nd v37) []:=
 sG Tryz.func66 λΓ q=>gR q [1] [] [(1,(.rptr []))] [] trivial (Ae q [2] [] (tS h (Bp [])))
def Nb(aK:Int)(a1:THammock):Option Int:=
 (Option.bind (α:=Int) (bif (bif (a1.Then !=-1) then(decide (a1.Then<aK)) else false) then(some (w64 (aK-1))) else(some aK)) (λx2=>(Option.bind (α:=Int) (bif (bif (a1.Else !=-1) then(decide (a1.Else<aK)) else false) then(some (w64 (x2-1))) else(some x2)) (λx5=>(some x5)))))
theorem GN(h:Nb v1 v37=some v11):sP 122 [(Z6 v1),(.rptr (Db v37))] [] (.int .i64 v11) []:=
 sG Tryz.func122 λΓ q=>tW q Fe [] [0,1,4] [] (Ae q GX [] (gU 2 (Ae q bc [] (bw true (tB h λx2 y2 h=>gJ y2 (λi1=>aG Γ .normal (⟨[(0,(Z6 v1)),(4,(Z6 i1)),(12,(.agg [(Z6 v37.Then),(Z6 v37.Else)])),(13,La)],[],[]⟩:St)) (λy h=>tU q [0,4,6,12,13] [] (c1 (show(As (0:Int) 2) from(by decide))) (tU q [0,4,12,13,22] [] (J7 ((v37.Then !=-1)==true) (c1 (M7 (v37.Then !=-1)))) (gC h (λh=>Ae q GX [] (tS h (gK (A3 Gt)))) λh=>tS h (gK (A3 (A8 GX [] q)))))) (gA (tW q GX [] bc [] (bw true (tB h λx5 y5 h=>gJ y5 (λi4=>aG Γ .normal (⟨[(0,(Z6 v1)),(4,(Z6 i4)),(12,(.agg [(Z6 v37.Then),(Z6 v37.Else)])),(13,mi)],[],[]⟩:St)) (λy h=>tU q [0,4,6,12,13] [] (c1 (show(As (1:Int) 2) from(by decide))) (tU q [0,4,12,13,22] [] (J7 ((v37.Else !=-1)==true) (c1 (M7 (v37.Else !=-1)))) (gC h (λh=>Ae q GX [] (tS h (gK (A3 Gt)))) λh=>tS h (gK (A3 (A8 GX [] q)))))) (gA (tW q GX [] bc [] (bw false (Ae q [3] [] (tS h (Bp [])))))))))))))))
def Nv(aB:Ao)(aaA:THammock):GU->Option u3:=
 λ((i2,l3):GU)=>(bif (decide (i2<(aB.length:Int))) then(Aw (As i2 aB.length) ((Nb (aB.getD i2.toNat 0) aaA).bind λx6=>(Aw (As i2 l3.length) (some (.next ((w64 (i2+1)),(l3.set i2.toNat x6))))))) else(some (.done l3)))
def Ku(aB:Ao)(aaA:THammock):Option Ao:=
 (Aw (0<=(aB.length:Int)/\(aB.length:Int)<=(aB.length:Int)/\(aB.length:Int)<=(room:Int)) ((Ad (Nv aB aaA) ((0:Int),(List.replicate (aB.length:Int).toNat (0:Int)))).bind (λx8=>(some x8))))
variable{v17:Ao}{v2:Ao}
theorem Us(h:Ku v2 v37=some v17):sP 123 [(Mw v2),(nd v37)] [] (HL v17 20000) [(Tq 20000 v17.length)]:=
 sG Tryz.func123 λΓ q=>have hΓ:=q.own;gR q Fe [] [(4,jK)] [] (c1 (Bc 1 Am (0:Int))) (tV q Pf [10] h λh=>by exact M1 (Le.trans (Vf 10 (show ∀ k_,k_<((v2.length:Int).toNat)->AVleL ((λi_=>AV.eraseAll (λn_=>B3 n_ [10]) ((λ_=>[La]) i_)) k_) ((λi=>Am ((List.replicate (v2.length:Int).toNat (0:Int)).getD i 0)) k_) from(λk hk=>Rb (e:=Am) (d:=(0:Int)) (.cons (AVle.refl _) .nil) _ k (Ri hk)))) (Vg (λ(k_:Nat) u=>(Cn u [(5,(.vsl 10 k_))] [(10,.arr 1 3 k_ (λi=>Am ((List.replicate (v2.length:Int).toNat (0:Int)).getD i 0)))])) (show(v2.length:Int).toNat=(List.replicate (v2.length:Int).toNat (0:Int)).length from(S2 ..).symm))) (Ae q be [10] (tL q h be [10] (λu (i2,l3)=>(Cn u [(5,(.vsl 10 l3.length)),(13,(Z6 i2))] [(Z4 10 l3)])) (λu l4=>aG Γ (.exit 0) (⟨[(5,(.vsl 10 l4.length))],[(Z4 10 l4)],[]⟩:St)) (λ⟨i2,l3⟩ y h=>Ae q [1,5,11,12,13,14] [10] (gC h (λh=>tV q [1,5,6,7,11,12,13] [10] h λh=>tB h λx6 y6 h=>tC h λc7_ h=>tT q be [10] [(JP x6)] (c3 (GN y6) c7_ (Eq.refl l3.length)) (M1 (Le.trans (Vf 10 (show ∀ k_,k_<l3.length->AVleL ((λi_=>AV.eraseAll (λn_=>B3 n_ [10]) ((Fb (λi=>Am (l3.getD i 0)) i2.toNat 0 [(Z6 x6)]) i_)) k_) ((λi=>Am ((l3.set i2.toNat x6).getD i 0)) k_) from(Bj (D0 ..).symm (λk_ hk_=>(Bl (AV.eraseAll (λn_=>B3 n_ [10])) ((Hd (λ_ _=>rfl) (Jx c7_) rfl) k_ hk_)).trans rfl)))) (Vg (λ(k_:Nat) u=>(Cn u [(5,(.vsl 10 k_))] [(10,.arr 1 3 k_ (λi=>Am ((l3.set i2.toNat x6).getD i 0)))])) (show l3.length=(l3.set i2.toNat x6).length from(D0 ..).symm))) (Ae q be [10] (tN h)))) λh=>tS h (gO (A3 (A8 [5] [10] q))))) λx8 h=>gA (Ae q [4] [10] (O6 ((k8 10 x8.length x8):St) (tS h (gK (e:=.ret) (H5 [(10,20000)] (Le.trans (Gm (nm:=10) (sz:=1) (n:=x8.length) (e:=3) (f:=(λi=>Am (x8.getD i 0))) (g:=(λi=>Am (x8.getD i 0))) rfl ⟨rfl,trivial⟩ (λ_ _=>rfl) (by rw[hΓ];rfl)) (H6 (st':=(yA x8 10 x8.length)) (by kernel_rfl)))))))))))
def Qt(aH:Ab)(aaA:THammock):(Int×List Bf)->Option (LR (Int×List Bf) (List Bf)):=
 λ((i2,l3):(Int×List Bf))=>(bif (decide (i2<(aH.Phis.length:Int))) then(Aw (As i2 aH.Phis.length) ((Ku ((aH.Phis.getD i2.toNat default).From) aaA).bind λx6=>(Aw (As i2 l3.length) (some (.next ((w64 (i2+1)),(l3.set i2.toNat (⟨(aH.Phis.getD i2.toNat default).Bits,(aH.Phis.getD i2.toNat default).Dst,x6,(aH.Phis.getD i2.toNat default).Args⟩:Bf)))))))) else(some (.done l3)))
def cA:AV:=UT
def FW(aH:Ab)(i2:Int):=(aH.Phis.getD i2.toNat default)
def ru(l3:List Bf):=(λi=>Gs (l3.getD i default))
def vq(aH:Ab):=(List.replicate (aH.Phis.length:Int).toNat (default:Bf))
def yX(aH:Ab)(i2:Int)(x6:Ao):List AV:=[(.int .i64 (FW aH i2).Bits),(.int .i64 (FW aH i2).Dst),(Mw x6),(AV.list 1 Am 0 (FW aH i2).Args .none)]
def yW(aH:Ab):List AV:=[(wi aH.Phis),(bu aH.Ops),(Z6 aH.End.Kind),(Z6 aH.End.Arg),(Mw aH.End.To)]
def yV(aaA:THammock)(l3:List Bf)(i2:Int)(aH:Ab):List NI:=[(1,(nd aaA)),N8,LZ,(5,(.vsl 11 l3.length)),(6,(Z6 i2)),JS,(13,(wi aH.Phis)),(14,(JQ aH.Phis.length)),(15,(Z6 i2))]
def Qs(aH:Ab)(aaA:THammock):Option Ab:=
 (Aw (0<=(aH.Phis.length:Int)/\(aH.Phis.length:Int)<=(aH.Phis.length:Int)/\(aH.Phis.length:Int)<=(room:Int)) ((Ad (Qt aH aaA) ((0:Int),(List.replicate (aH.Phis.length:Int).toNat (default:Bf)))).bind (λx8=>((Ku aH.End.To aaA).bind λx10=>(some (⟨x8,aH.Ops,(⟨aH.End.Kind,aH.End.Arg,x10⟩:Jm)⟩:Ab))))))
variable{v48:Ab}{v9:Ab}
theorem OE(h:Qs v9 v37=some v48):sP 67 [(.agg (Bd v9)),(nd v37)] [] (.agg (Bd v48)) []:=
 sG Tryz.func67 λΓ q=>have hΓ:=q.own;Ae q DF S4 (tV q TZ Zi h λh=>by exact M1 (Le.trans (Vf 11 (show ∀ k_,k_<((v9.Phis.length:Int).toNat)->AVleL ((λi_=>AV.eraseAll (λn_=>B3 n_ Zi) ((λ_=>[La,La,cA,cA]) i_)) k_) ((λi=>Gs ((vq v9).getD i default)) k_) from(λk hk=>Rb (e:=Gs) (d:=(default:Bf)) (.cons (AVle.refl _) (.cons (AVle.refl _) (.cons (λ_ _ _ _ _ hh=>AVle.untag _ _ _ _ _ (Dv _ _ _ _ _ hh)) (.cons (λ_ _ _ _ _ hh=>AVle.untag _ _ _ _ _ (Dv _ _ _ _ _ hh)) .nil)))) _ k (Ri hk)))) (Vg (λ(k_:Nat) u=>(Cn u [(5,(.vsl 11 k_))] [(11,.arr 4 56 k_ (λi=>Gs ((vq v9).getD i default)))])) (show(v9.Phis.length:Int).toNat=(vq v9).length from(S2 ..).symm))) (Ae q bW Zi (tL q h bW Zi (λu (i2,l3)=>(Cn u [(5,(.vsl 11 l3.length)),(15,(Z6 i2))] [(11,.arr 4 56 l3.length (ru l3))])) (λu l4=>aG Γ (.exit 0) (Nc TZ Zi u [(5,(.vsl 11 l4.length))] [(11,.arr 4 56 l4.length (λi=>Gs (l4.getD i default)))])) (λ⟨i2,l3⟩ y h=>Ae q [1,2,4,5,13,14,15,16] Zi (gC h (λh=>tV q iL [2,4,7,11] h λh=>tB h λx6 y6 h=>tT q iL [2,4,7,11,23] [(we 23 x6 x6.length)] (c1 (Us y6)) (O6 (⟨(yV v37 l3 i2 v9),[(L5 48 (yW v9)),(4,.row 48 [cA,cA,La,La,cA]),(7,.row 56 [(.int .i64 (FW v9 i2).Bits),(.int .i64 (FW v9 i2).Dst),(HL x6 23),(AV.list 1 Am 0 (FW v9 i2).Args .none)]),(11,.arr 4 56 l3.length (ru l3)),(Tq 23 x6.length)],[]⟩:St) (M1 (show Le Γ _ (⟨(yV v37 l3 i2 v9),[(L5 48 (yW v9)),(4,.row 48 [cA,cA,La,La,cA]),(7,.row 56 (yX v9 i2 x6)),(11,.arr 4 56 l3.length (ru l3))],[]⟩:St) from A8 iL [2,4,7,11] q) (tC h λc7_ h=>tU q bW Zi (c2 c7_ (Eq.refl l3.length)) (M1 (Le.trans (Vf 11 (show ∀ k_,k_<l3.length->AVleL ((λi_=>AV.eraseAll (λn_=>B3 n_ Zi) ((Fb (ru l3) i2.toNat 0 (yX v9 i2 x6)) i_)) k_) ((λi=>Gs ((l3.set i2.toNat (⟨(FW v9 i2).Bits,(FW v9 i2).Dst,x6,(FW v9 i2).Args⟩:Bf)).getD i default)) k_) from(Bj (D0 ..).symm (λk_ hk_=>(Bl (AV.eraseAll (λn_=>B3 n_ Zi)) ((Hd (λ_ _=>rfl) (Jx c7_) rfl) k_ hk_)).trans rfl)))) (Vg (λ(k_:Nat) u=>(Cn u [(5,(.vsl 11 k_))] [(11,.arr 4 56 k_ (λi=>Gs ((l3.set i2.toNat (⟨(FW v9 i2).Bits,(FW v9 i2).Dst,x6,(FW v9 i2).Args⟩:Bf)).getD i default)))])) (show l3.length=(l3.set i2.toNat (⟨(FW v9 i2).Bits,(FW v9 i2).Dst,x6,(FW v9 i2).Args⟩:Bf)).length from(D0 ..).symm))) (Ae q bW Zi (tN h))))))) λh=>tS h (gO (A3 (A8 TZ Zi q))))) λx8 h=>gA (Ae q DF Zi (tB h λx10 y10 h=>tT q S4 [2,4,11,36] [(we 36 x10 x10.length)] (c1 (Us y10)) (Ae q [4] [4,11,36] (O6 (⟨[LZ],[(4,.row 48 [(.vsl 11 x8.length),(bu v9.Ops),(Z6 v9.End.Kind),(Z6 v9.End.Arg),(HL x10 36)]),(11,.arr 4 56 x8.length (λi=>Gs (x8.getD i default))),(Tq 36 x10.length)],[]⟩:St) (tS h (gK (e:=.ret) (H5 [] (Le.trans (Gm (nm:=11) (sz:=4) (n:=x8.length) (e:=56) (f:=(λi=>Gs (x8.getD i default))) (g:=(λi=>Gs (x8.getD i default))) rfl ⟨rfl,trivial⟩ (λ_ _=>rfl) (by rw[hΓ];rfl)) (H6 (st':=⟨[LZ],[(4,.row 48 [(yB x8 11),(bu v9.Ops),(Z6 v9.End.Kind),(Z6 v9.End.Arg),(HL x10 36)]),(11,.tok 4 56 x8.length),(Tq 36 x10.length)],[]⟩) (by kernel_rfl)))))))))))))
def Gy(aM:Qi)(x4:ON)(x5:List Ab):(Int×List Ab)->Option (LR (Int×List Ab) (List Ab)):=
 λ((i9,l10):(Int×List Ab))=>(bif (decide (i9<(((x5.set (x4.2.2.1.Join).toNat (⟨x4.1,(x5.getD (x4.2.2.1.Join).toNat (default:Ab)).Ops,(⟨(x5.getD (x4.2.2.1.Join).toNat (default:Ab)).End.Kind,(x5.getD (x4.2.2.1.Join).toNat (default:Ab)).End.Arg,(x5.getD (x4.2.2.1.Join).toNat (default:Ab)).End.To⟩:Jm)⟩:Ab)).set (x4.2.2.1.At).toNat (⟨(aM.f.Blocks.getD (aM.h.At).toNat (default:Ab)).Phis,x4.2.2.2.1,(⟨(1:Int),(0:Int),([x4.2.2.1.Join]:Ao)⟩:Jm)⟩:Ab)).length:Int))) then(Option.bind (α:=List Ab) (Aw (As i9 ((x5.set (x4.2.2.1.Join).toNat (⟨x4.1,(x5.getD (x4.2.2.1.Join).toNat (default:Ab)).Ops,(⟨(x5.getD (x4.2.2.1.Join).toNat (default:Ab)).End.Kind,(x5.getD (x4.2.2.1.Join).toNat (default:Ab)).End.Arg,(x5.getD (x4.2.2.1.Join).toNat (default:Ab)).End.To⟩:Jm)⟩:Ab)).set (x4.2.2.1.At).toNat (⟨(aM.f.Blocks.getD (aM.h.At).toNat (default:Ab)).Phis,x4.2.2.2.1,(⟨(1:Int),(0:Int),([x4.2.2.1.Join]:Ao)⟩:Jm)⟩:Ab)).length) (bif (bif (i9 !=x4.2.2.1.Then) then(i9 !=x4.2.2.1.Else) else false) then((Qs (((x5.set (x4.2.2.1.Join).toNat (⟨x4.1,(x5.getD (x4.2.2.1.Join).toNat (default:Ab)).Ops,(⟨(x5.getD (x4.2.2.1.Join).toNat (default:Ab)).End.Kind,(x5.getD (x4.2.2.1.Join).toNat (default:Ab)).End.Arg,(x5.getD (x4.2.2.1.Join).toNat (default:Ab)).End.To⟩:Jm)⟩:Ab)).set (x4.2.2.1.At).toNat (⟨(aM.f.Blocks.getD (aM.h.At).toNat (default:Ab)).Phis,x4.2.2.2.1,(⟨(1:Int),(0:Int),([x4.2.2.1.Join]:Ao)⟩:Jm)⟩:Ab)).getD i9.toNat default) x4.2.2.1).bind λx14=>(Aw (l10.length+([(⟨x14.Phis,x14.Ops,(⟨x14.End.Kind,x14.End.Arg,x14.End.To⟩:Jm)⟩:Ab)]:List Ab).length<=room) (some (l10++([(⟨x14.Phis,x14.Ops,(⟨x14.End.Kind,x14.End.Arg,x14.End.To⟩:Jm)⟩:Ab)]:List Ab))))) else(some l10))) (λx16=>(some (.next ((w64 (i9+1)),x16))))) else(some (.done l10)))
def ry(x4:ON):AV:=(nd x4.2.2.1)
def ZG(x4:ON):AV:=(Mw x4.2.1.Params)
def rz(x5:List Ab):=(λi=>Bd (x5.getD i default))
def HI(x5:List Ab)(x4:ON):=(x5.set (x4.2.2.1.Join).toNat (⟨x4.1,(x5.getD (x4.2.2.1.Join).toNat (default:Ab)).Ops,(⟨(x5.getD (x4.2.2.1.Join).toNat (default:Ab)).End.Kind,(x5.getD (x4.2.2.1.Join).toNat (default:Ab)).End.Arg,(x5.getD (x4.2.2.1.Join).toNat (default:Ab)).End.To⟩:Jm)⟩:Ab))
def Aa3(aM:Qi)(x4:ON):=(⟨(aM.f.Blocks.getD (aM.h.At).toNat (default:Ab)).Phis,x4.2.2.2.1,(⟨(1:Int),(0:Int),([x4.2.2.1.Join]:Ao)⟩:Jm)⟩:Ab)
def EO(x5:List Ab)(x4:ON)(aM:Qi):=((HI x5 x4).set (x4.2.2.1.At).toNat (Aa3 aM x4))
def fG:List AV:=[UT,La,UT]
def nC(x14:Ab):=([(⟨x14.Phis,x14.Ops,(⟨x14.End.Kind,x14.End.Arg,x14.End.To⟩:Jm)⟩:Ab)]:List Ab)
def vu(x4:ON):List AV:=[(ZG x4),(Z6 x4.2.1.Ret),wb]
def rx(x4:ON):List AV:=[(ZG x4),(Z6 x4.2.1.Ret),(VD x4.2.1.Blocks),(Z6 x4.2.2.1.At),(Z6 x4.2.2.1.Then),(Z6 x4.2.2.1.Else),(Z6 x4.2.2.1.Join),(bu x4.2.2.2.1),(Z6 x4.2.2.2.2)]
def vt(x4:ON):List AV:=[(ZG x4),(Z6 x4.2.1.Ret),(VD x4.2.1.Blocks),(Z6 x4.2.2.1.At),(Z6 x4.2.2.1.Then),(Z6 x4.2.2.1.Else),(Z6 x4.2.2.1.Join),(jL x4.2.2.2.1 25),(Z6 x4.2.2.2.2)]
def rv(aM:Qi):List AV:=[(AV.list 4 Gs default (aM.f.Blocks.getD (aM.h.At).toNat (default:Ab)).Phis .none),(AV.list 6 Kd default (aM.f.Blocks.getD (aM.h.At).toNat (default:Ab)).Ops .none),(.int .i64 (aM.f.Blocks.getD (aM.h.At).toNat (default:Ab)).End.Kind),(.int .i64 (aM.f.Blocks.getD (aM.h.At).toNat (default:Ab)).End.Arg),(AV.list 1 Am 0 (aM.f.Blocks.getD (aM.h.At).toNat (default:Ab)).End.To .none)]
def yY(x4:ON)(x5:List Ab)(aM:Qi):=(⟨[(0,Wu),N8,JT,(7,(ry x4)),(90,(.vsl 43 (EO x5 x4 aM).length)),(91,(.int .i64 ((EO x5 x4 aM).length:Int))),(92,La)],[(L5 25 fG),(6,.row 25 [(ZG x4),(Z6 x4.2.1.Ret),(AV.list 5 Bd default ([]:List Ab) (.own 5602))]),(43,.arr 5 48 ((EO x5 x4 aM).length) (λi=>Bd ((EO x5 x4 aM).getD i default))),(5602,.tok 5 48 (([]:List Ab).length)),(30000,.row 71 (rx x4))],[]⟩:St)
def I7(aM:Qi):Option (TFunc×Qi):=
 (Aw (As aM.h.At aM.f.Blocks.length) ((Fa ((aM.f.Blocks.getD (aM.h.At).toNat (default:Ab)).Ops)).bind λx2=>((Hu ((aM.f.Blocks.getD (aM.h.At).toNat (default:Ab)).End.Arg) (⟨aM.f.Params,aM.f.Ret,aM.f.Blocks⟩:TFunc) (⟨aM.h.At,aM.h.Then,aM.h.Else,aM.h.Join⟩:THammock) x2 aM.last).bind λx3=>((Lo ((aM.f.Blocks.getD (aM.h.At).toNat (default:Ab)).End.Arg) x3.1 x3.2.1 x3.2.2.1 x3.2.2.2).bind λx4=>((Cv x4.2.1.Blocks).bind λx5=>(Aw (As x4.2.2.1.Join x5.length) (Aw (As x4.2.2.1.At (x5.set (x4.2.2.1.Join).toNat (⟨x4.1,(x5.getD (x4.2.2.1.Join).toNat (default:Ab)).Ops,(⟨(x5.getD (x4.2.2.1.Join).toNat (default:Ab)).End.Kind,(x5.getD (x4.2.2.1.Join).toNat (default:Ab)).End.Arg,(x5.getD (x4.2.2.1.Join).toNat (default:Ab)).End.To⟩:Jm)⟩:Ab)).length) ((S9 x4.2.2.1).bind λx8=>((Ad (Gy aM x4 x5) ((0:Int),([]:List Ab))).bind (λx18=>(some ((⟨x4.2.1.Params,x4.2.1.Ret,x18⟩:TFunc),(⟨x4.2.1,x4.2.2.1,x4.2.2.2.1,x4.2.2.2.2⟩:Qi)))))))))))))
variable{v49:Qi}{v50:(TFunc×Qi)}
theorem W9(h:I7 v49=some v50):sP 27 [Wu] (wa v49.f.Params v49.f.Ret v49.f.Blocks v49.h.At v49.h.Then v49.h.Else v49.h.Join v49.ops v49.last) (Yz v50.1) (wa v50.2.f.Params v50.2.f.Ret v50.2.f.Blocks v50.2.h.At v50.2.h.Then v50.2.h.Else v50.2.h.Join v50.2.ops v50.2.last):=
 sG Tryz.func27 λΓ q=>Ae q [0,2] [2,30000] (tV q HB [2,3,30000] h λh=>tB h λx2 y2 h=>tT q HB [2,3,25,30000] [⟨[],[(20000,25)],(jL x2 20000),[(NX 20000 x2.length)],[],[]⟩] (c1 (Sy y2)) (tB h λx3 y3 h=>tT q HB [2,3,25,30000] [⟨qs,[],(.tuple []),(OP x3.1.Params x3.1.Ret x3.1.Blocks x3.2.1.At x3.2.1.Then x3.2.1.Else x3.2.1.Join x3.2.2.1 x3.2.2.2 x3.2.2.1.length),[],[]⟩] (c1 (Vh y3)) (tB h λx4 y4 h=>tT q [0,2,3,4] [2,3,25,37,30000] [⟨qs,[(20000,37)],(yB x4.1 20000),[(30000,.row 71 [(ZG x4),(Z6 x4.2.1.Ret),(VD x4.2.1.Blocks),(Z6 x4.2.2.1.At),(Z6 x4.2.2.1.Then),(Z6 x4.2.2.1.Else),(Z6 x4.2.2.1.Join),(jL x4.2.2.2.1 37007),(Z6 x4.2.2.2.2)]),(NX 37007 x4.2.2.2.1.length),(20000,.tok 4 56 x4.1.length)],[],[]⟩] (c1 (BU y4)) (tB h λx5 y5 h=>tT q [0,2,3,4,5] [2,3,25,37,43,30000] [⟨[],[(20000,43)],(.vsl 20000 x5.length),[(20000,.arr 5 48 x5.length (rz x5))],[],[]⟩] (c1 (N2 y5)) (O6 (⟨[(0,Wu),N8,JU,(4,(yB x4.1 37)),(5,(.vsl 43 x5.length))],[(L5 25 fG),(3,.row 48 (rv v49)),(NX 25 x4.2.2.2.1.length),(37,.tok 4 56 x4.1.length),(43,.arr 5 48 x5.length (rz x5)),(30000,.row 71 (vt x4))],[]⟩:St) (M1 (show Le Γ _ (⟨[(0,Wu),N8,JU,(4,(wi x4.1)),(5,(.vsl 43 x5.length))],[(L5 25 fG),(3,.row 48 (rv v49)),(NX 25 x4.2.2.2.1.length),(43,.arr 5 48 x5.length (rz x5)),(30000,.row 71 (vt x4))],[]⟩:St) from A8 [0,2,3,4,5] ba q) (tC h λc6_ h=>tU q [0,2,3,5] ba (c2 c6_ (Eq.refl x5.length)) (M1 (Le.trans (Vf 43 (show ∀ k_,k_<x5.length->AVleL ((λi_=>AV.eraseAll (λn_=>B3 n_ ba) ((Fb (rz x5) (x4.2.2.1.Join).toNat 0 [(wi x4.1)]) i_)) k_) ((λi=>Bd ((HI x5 x4).getD i default)) k_) from(Bj (D0 ..).symm (λk_ hk_=>(Bl (AV.eraseAll (λn_=>B3 n_ ba)) ((Hd (λ_ _=>rfl) (Jx c6_) rfl) k_ hk_)).trans rfl)))) (Vg (λ(k_:Nat) u=>(Cn u [(5,(.vsl 43 k_))] [(43,.arr 5 48 k_ (λi=>Bd ((HI x5 x4).getD i default)))])) (show x5.length=(HI x5 x4).length from(D0 ..).symm))) (O6 (⟨[(0,Wu),N8,JU,(5,(.vsl 43 (HI x5 x4).length))],[(L5 25 fG),(3,.row 48 (rv v49)),(NX 25 x4.2.2.2.1.length),(43,.arr 5 48 ((HI x5 x4).length) (λi=>Bd ((HI x5 x4).getD i default))),(30000,.row 71 (vt x4))],[]⟩:St) (M1 (show Le Γ _ (⟨[(0,Wu),N8,JU,(5,(.vsl 43 (HI x5 x4).length))],[(L5 25 fG),(3,.row 48 (rv v49)),(43,.arr 5 48 ((HI x5 x4).length) (λi=>Bd ((HI x5 x4).getD i default))),(30000,.row 71 (rx x4))],[]⟩:St) from A8 [0,2,3,5] [2,3,43,30000] q) (tC h λc7_ h=>gR q [0,2,5] jC [(70,(AV.list 1 Am 0 ([x4.2.2.1.Join]:Ao) .none))] [] (c3 (show(AVle (wZ x4.2.2.1.Join) (AV.list 1 Am 0 ([x4.2.2.1.Join]:Ao) .none)) from(λ_ _ _ _ _ hh=>AVle.untag _ _ _ _ _ ((Az 1 Am (0:Int) ([x4.2.2.1.Join]:Ao)) _ _ _ _ _ hh))) c7_ (Eq.refl ((HI x5 x4).length))) (M1 (Le.trans (Vf 43 (show ∀ k_,k_<((HI x5 x4).length)->AVleL ((λi_=>AV.eraseAll (λn_=>B3 n_ jC) ((Fb (λi=>Bd ((HI x5 x4).getD i default)) (x4.2.2.1.At).toNat 0 [(AV.list 4 Gs default (v49.f.Blocks.getD (v49.h.At).toNat (default:Ab)).Phis .none),(bu x4.2.2.2.1),mi,La,(AV.list 1 Am 0 ([x4.2.2.1.Join]:Ao) .none)]) i_)) k_) ((λi=>Bd ((EO x5 x4 v49).getD i default)) k_) from(Bj (D0 ..).symm (λk_ hk_=>(Bl (AV.eraseAll (λn_=>B3 n_ jC)) ((Hd (λ_ _=>rfl) (Jx c7_) rfl) k_ hk_)).trans rfl)))) (Vg (λ(k_:Nat) u=>(Cn u [(5,(.vsl 43 k_))] [(43,.arr 5 48 k_ (λi=>Bd ((EO x5 x4 v49).getD i default)))])) (show(HI x5 x4).length=(EO x5 x4 v49).length from(D0 ..).symm))) (gR q [0,2,5,6] bf [(84,(.agg (vu x4)))] [] (c1 (show(AVle (.agg [(ZG x4),(Z6 x4.2.1.Ret),UT]) (.agg (vu x4))) from(AVle.agg (.cons (AVle.refl _) (.cons (AVle.refl _) (.cons Dv .nil)))))) (tB h λx8 y8 h=>tT q [0,2,5,6,7] bf [⟨[],[],(ry x4),[],[],[]⟩] (c1 (KV y8)) (Ae q UM bf (M1 (st':=(yY x4 x5 v49)) (Le.trans (A8 (st':=⟨[(0,Wu),N8,JT,(7,(ry x4)),(90,(.vsl 43 (EO x5 x4 v49).length)),(91,(.int .i64 ((EO x5 x4 v49).length:Int))),(92,La)],[(L5 25 fG),(6,.row 25 (vu x4)),(43,.arr 5 48 ((EO x5 x4 v49).length) (λi=>Bd ((EO x5 x4 v49).getD i default))),(30000,.row 71 (rx x4))],[]⟩) UM bf q) (Le.trans (MN (r:=6) (j:=2) (nm:=5602) (sz':=5) (λi=>Bd (([]:List Ab).getD i default)) 48 rfl rfl (nl rfl) rfl (.inl ⟨rfl,rfl⟩) (λh_=>absurd h_ (by decide))) (A8 (st':=(yY x4 x5 v49)) UM YU q))) (tL q h UM YU (λu (i9,l10)=>(Cn u [(92,(Z6 i9))] [(wc (ZG x4) x4.2.1.Ret l10),(M0 5602 48 l10.length)])) (λu l11=>aG Γ (.exit 0) (Nc [2,6] [2,6,5602,30000] u [] [(wc (ZG x4) x4.2.1.Ret l11),(M0 5602 48 l11.length)])) (λ⟨i9,l10⟩ y h=>Ae q [0,2,6,7,90,91,92,93] YU (gC h (λh=>tB h λx16 y16 h=>gJ y16 (λl12=>aG Γ .normal (⟨[(0,Wu),N8,JT,(7,(ry x4)),(90,(.vsl 43 (EO x5 x4 v49).length)),(91,(.int .i64 ((EO x5 x4 v49).length:Int))),(92,(Z6 i9))],[(L5 25 fG),(wc (ZG x4) x4.2.1.Ret l12),(43,.arr 5 48 ((EO x5 x4 v49).length) (λi=>Bd ((EO x5 x4 v49).getD i default))),(M0 5602 48 l12.length),(30000,.row 71 (rx x4))],[]⟩:St)) (λy h=>tC h λc13_ h=>tU q [0,2,6,7,8,9,90,91,92] q9 (c2 c13_ (Eq.refl ((EO x5 x4 v49).length))) (tU q [0,2,6,7,9,90,91,92,112] q9 (gI6 ((i9 !=x4.2.2.1.Then)==true) (c1 (M7 (i9 !=x4.2.2.1.Then)))) (gC h (λh=>tB h λx14 y14 h=>tC h λc15_ h=>gR q UM YU [(118,(AV.list 5 Bd default (nC x14) .exact)),(119,(AV.list 5 Bd default (l10++(nC x14)) (.own 5602)))] [⟨[],[],(.agg (Bd x14)),[],[],[]⟩] (c6 (OE y14) (Az 5 Bd (default:Ab) (nC x14)) (Eq.refl l10.length) c15_ (Cu 5 5602 Bd (default:Ab) l10 (nC x14)) (Br l10 (nC x14))) (tS h (gK (A3 Gt)))) λh=>tS h (gK (A3 (A8 UM YU q)))))) (gA (Ae q UM YU (tN h)))) λh=>tS h (gO (A3 (A8 [2,6] [2,6,5602,30000] q))))) λx18 h=>gA (Ae q [2] [2,5602,30000] (tS h (Bp [(30000,30000)]))))))))))))))))))))
def nD:List AV:=[UT,La,UT]
def cB:List AV:=[jK,La,wb]
def yZ:List OM:=[(4,.row 25 [(AV.list 1 Am 0 ([]:Ao) .none),La,(AV.list 5 Bd default ([]:List Ab) .none)])]
def r9(a0:TFunc)(aE:THammock)(x2:Int):List AV:=[(Mw a0.Params),(Z6 a0.Ret),(VD a0.Blocks),(Z6 aE.At),(Z6 aE.Then),(Z6 aE.Else),(Z6 aE.Join),vM,(Z6 x2)]
abbrev CT:=(TFunc×Int)
def H0(a0:TFunc)(aE:THammock):Option CT:=
 ((Oc a0 aE).bind λx1=>(bif (!x1) then(some ((⟨([]:Ao),(0:Int),([]:List Ab)⟩:TFunc),(10:Int))) else((Tt a0).bind λx2=>((I7 (⟨a0,aE,([]:List A2),x2⟩:Qi)).bind λx3=>((bif ((decide ((1023:Int)<x3.2.last))==false) then Uh x3.1 else some false).bind λx4=>(bif (bif (decide ((1023:Int)<x3.2.last)) then true else(!x4)) then(some ((⟨([]:Ao),(0:Int),([]:List Ab)⟩:TFunc),(4:Int))) else(some (x3.1,(0:Int)))))))))
variable{v51:CT}
theorem Mo(h:H0 v0 v37=some v51):sP 9 [(Yz v0),(e7 v37)] [] (.tuple [(Yz v51.1),(Z6 v51.2)]) []:=
 sG Tryz.func9 λΓ q=>Ae q [2,3,4] [2,3,4] (tB h λx1 y1 h=>tT q [2,3,4,11] [2,3,4] [(Z7 x1)] (c1 (II y1)) (gC h (λh=>gR q Px [4] [(12,(.agg cB))] [] (c1 (show(AVle (.agg nD) (.agg cB)) from(AVle.agg (.cons Dv (.cons (AVle.refl _) (.cons Dv .nil)))))) (O6 (⟨[LZ,(5,(JQ 10))],[(4,.row 25 cB)],[]⟩:St) (tS h (gK (e:=.ret) (H5 [] (show Le Γ _ (⟨[LZ,(5,(JQ 10))],yZ,[]⟩:St) from Le.trans (A8 (st':=⟨[LZ,(5,(JQ 10))],[(4,.row 25 cB)],[]⟩) Px [4] q) (Gu (.cons (AVle.refl _) (.cons (AVle.refl _) .nil)) (.row (.cons AVle.untag (.cons (AVle.refl _) (.cons AVle.untag .nil))) .nil)))))))) λh=>tB h λx2 y2 h=>gR q Vc [4,18] [(17,(.agg (r9 v0 v37 x2)))] [(JP x2)] (c2 (VU y2) (show(AVle (.agg [(Mw v0.Params),(Z6 v0.Ret),(VD v0.Blocks),(Z6 v37.At),(Z6 v37.Then),(Z6 v37.Else),(Z6 v37.Join),UT,(Z6 x2)]) (.agg (r9 v0 v37 x2))) from(AVle.agg (.cons (AVle.refl _) (.cons (AVle.refl _) (.cons (AVle.refl _) (.cons (AVle.refl _) (.cons (AVle.refl _) (.cons (AVle.refl _) (.cons (AVle.refl _) (.cons Dv (.cons (AVle.refl _) .nil)))))))))))) (O6 (⟨[LZ,(6,(.ptr 18 0))],[(4,.row 25 nD),(18,.row 71 (r9 v0 v37 x2))],[]⟩:St) (M1 (show Le Γ _ (⟨[LZ,(6,(.ptr 18 0))],[(4,.row 25 nD),(18,.row 71 [(Mw v0.Params),(Z6 v0.Ret),(VD v0.Blocks),(Z6 v37.At),(Z6 v37.Then),(Z6 v37.Else),(Z6 v37.Join),(AV.list 6 Kd default ([]:List A2) .none),(Z6 x2)])],[]⟩:St) from Le.trans (A8 (st':=⟨[LZ,(6,(.ptr 18 0))],[(4,.row 25 nD),(18,.row 71 (r9 v0 v37 x2))],[]⟩) Vc [4,18] q) (Gu (.cons (AVle.refl _) (.cons (AVle.refl _) .nil)) (.same (.row (.cons (AVle.refl _) (.cons (AVle.refl _) (.cons (AVle.refl _) (.cons (AVle.refl _) (.cons (AVle.refl _) (.cons (AVle.refl _) (.cons (AVle.refl _) (.cons AVle.untag (.cons (AVle.refl _) .nil))))))))) .nil)))) (tB h λx3 y3 h=>tT q [4,6,7] [4,7,18] [⟨[(18,30000)],[],(Yz x3.1),(wa x3.2.f.Params x3.2.f.Ret x3.2.f.Blocks x3.2.h.At x3.2.h.Then x3.2.h.Else x3.2.h.Join x3.2.ops x3.2.last),[],[]⟩] (c1 (W9 y3)) (tB h λx4 y4 h=>tT q [4,7,30] [4,7] [(Z7 x4)] (c4 (gI ((decide ((1023:Int)<x3.2.last))==false)) (λ(hg:((decide ((1023:Int)<x3.2.last))==false)=true)=>(MR (Ba hg y4))) (gI ((decide ((1023:Int)<x3.2.last))==false)) (I4 (decide ((1023:Int)<x3.2.last)))) (gC h (λh=>gR q Px [4] [(31,(.agg cB))] [] (c1 (show(AVle (.agg nD) (.agg cB)) from(AVle.agg (.cons Dv (.cons (AVle.refl _) (.cons Dv .nil)))))) (O6 (⟨[LZ,(5,sv)],[(4,.row 25 cB)],[]⟩:St) (tS h (gK (e:=.ret) (H5 [] (show Le Γ _ (⟨[LZ,(5,sv)],yZ,[]⟩:St) from Le.trans (A8 (st':=⟨[LZ,(5,sv)],[(4,.row 25 cB)],[]⟩) Px [4] q) (Gu (.cons (AVle.refl _) (.cons (AVle.refl _) .nil)) (.row (.cons AVle.untag (.cons (AVle.refl _) (.cons AVle.untag .nil))) .nil)))))))) λh=>Ae q Px [4] (tS h (Bp [])))))))))
def Uk(a0:TFunc)(aE:THammock):Option Int:=
 ((Kq a0 aE).bind λx1=>(some (x1.1.length:Int)))
theorem Y7(h:Uk v0 v37=some v1):sP 40 [(Yz v0),(e7 v37)] [] (.int .i64 v1) []:=
 sG Tryz.func40 λΓ q=>Ae q Cb Cb (tB h λx1 y1 h=>tT q [5] [10] [⟨[],bp,(.tuple [(jL x1.1 20000),(.bool x1.2)]),[(NX 20000 x1.1.length)],[],[]⟩] (c1 (Uq y1)) (Ae q [4] [] (tS h (Bp []))))
abbrev Aax:=(LR Int (Unit ⊕ (Ao×Int×List Ab)))
abbrev Aay:=((Ao×Int×List Ab) ⊕ Unit)
def NZ(a0:TFunc)(aaC:Int)(x4:List THammock):Int->Option Aax:=
 λ(i5:Int)=>(bif (decide (i5<(x4.length:Int))) then(Option.bind (α:=Aay) (Aw (As i5 x4.length) ((Uk a0 (x4.getD i5.toNat default)).bind λx13=>(bif (decide (aaC<x13)) then(some (.inr ())) else((H0 a0 (x4.getD i5.toNat default)).bind λx14=>(bif (x14.2==0) then(some (.inl (x14.1.Params,x14.1.Ret,x14.1.Blocks))) else(some (.inr ()))))))) (λx15=>(match x15 with|(.inl (l9,i10,l11))=>(some (.done (.inr (l9,i10,l11))))|(.inr _)=>(some (.next (w64 (i5+1))))))) else(some (.done (.inl ()))))
def OA(aaC:Int)(l1:Ao)(i2:Int)(l3:List Ab)(x21:List THammock):Int->Option Aax:=
 λ(i22:Int)=>(bif (decide (i22<(x21.length:Int))) then(Option.bind (α:=Aay) (Aw (As i22 x21.length) ((Uk (⟨l1,i2,l3⟩:TFunc) (x21.getD i22.toNat default)).bind λx30=>(bif (decide (aaC<x30)) then(some (.inr ())) else((H0 (⟨l1,i2,l3⟩:TFunc) (x21.getD i22.toNat default)).bind λx31=>(bif (x31.2==0) then(some (.inl (x31.1.Params,x31.1.Ret,x31.1.Blocks))) else(some (.inr ()))))))) (λx32=>(match x32 with|(.inl (l26,i27,l28))=>(some (.done (.inr (l26,i27,l28))))|(.inr _)=>(some (.next (w64 (i22+1))))))) else(some (.done (.inl ()))))
abbrev qk:=(Ao×Int×List Ab)
def NY(aaC:Int):qk->Option (LR (Ao×Int×List Ab) TFunc):=
 λ(s_:qk)=>match s_ with|(l1,i2,l3)=>((Lg (⟨l1,i2,l3⟩:TFunc)).bind λx21=>((Ad (OA aaC l1 i2 l3 x21) (0:Int)).bind (λx35=>(match x35 with|(.inl _)=>(some (.done (⟨l1,i2,l3⟩:TFunc)))|(.inr (l23,i24,l25))=>(some (.next (l23,i24,l25)))))))
def ZC(Γ:H4)(a0:TFunc)(aaC:Int)(r:TFunc):Exit->St->Prop:=fK Tryz.prog Γ Tryz.f12.results.toList [] (Yz r) []
def nE:List AV:=[UT,La,UT]
def X4(a0:TFunc)(aaC:Int):Option TFunc:=
 ((Tc (S:=qk) (X:=TFunc) ((Lg a0).bind λx4=>((Ad (NZ a0 aaC x4) (0:Int)).bind (λx18=>(match x18 with|(.inl _)=>(some (.done a0))|(.inr (l6,i7,l8))=>(some (.next (l6,i7,l8))))))) (NY aaC)).bind (λx38=>(some x38)))
variable{v52:TFunc}
theorem FC(h:X4 v0 v1=some v52):sP 12 [(Yz v0),(Z6 v1)] [] (Yz v52) []:=
 sG Tryz.func12 λΓ q=>Ae q DF S4 (tB h λx38 y38 h=>gS y38 (λ(s_:qk)=>match s_ with|(l1,i2,l3)=>0) (λ(s_:qk)=>match s_ with|(l1,i2,l3)=>(⟨[(1,(Z6 v1)),N8,LZ],[(2,.row 25 (Z5 l1 i2 l3)),(4,.row 25 nE)],[]⟩:St)) (λr_=>aR (ZC Γ v0 v1 r_)) (λy h=>tB h λx4 y4 h=>tT q FR Zj [⟨[],bp,(rO x4 20000),[(20000,.tok 4 27 x4.length)],[],[]⟩] (c1 (Up y4)) (tL q h FR Zj (λu i5=>(Cn u [(12,(Z6 i5))] [])) (λu x_=>match x_ with|(.inl _)=>aG Γ (.exit 0) (Nc S4 S4 u [] [])|(.inr (l6,i7,l8))=>aG Γ (.goto 0) (Nc DF S4 u [] [(2,.row 25 (Z5 l6 i7 l8))])) (λi5 y h=>Ae q rA Zj (gC h (λh=>tB h λx15 y15 h=>gJ y15 (λx_=>match x_ with|(.inl (l9,i10,l11))=>aG Γ (.goto 0) (⟨[(1,(Z6 v1)),N8,LZ],[(2,.row 25 (Z5 l9 i10 l11)),(4,.row 25 nE)],[]⟩:St)|(.inr _)=>aG Γ .normal (⟨[(1,(Z6 v1)),N8,LZ,(10,(rO x4 10)),(11,(JQ x4.length)),(12,(Z6 i5))],[(2,.row 25 (Z5 v0.Params v0.Ret v0.Blocks)),(4,.row 25 nE),(10,.tok 4 27 x4.length)],[]⟩:St)) (λy h=>tV q [1,2,4,6,10,11,12] bq h λh=>tB h λx13 y13 h=>tT q qu bq [(JP x13)] (c1 (Y7 y13)) (gC h (λh=>tS h (gK (A3 (A8 FR Zj q)))) λh=>tB h λx14 y14 h=>tT q qy br [(zP x14.1 x14.2)] (c1 (Mo y14)) (Ae q qv br (gC h (λh=>Ae q DF S4 (tS h (gK (A3 Gt)))) λh=>tS h (gK (A3 (A8 FR Zj q))))))) (match x15,h with | .inl ⟨l9,i10,l11⟩,h=>mn (λst' hl16=>tS h (gO (A3 (Le.trans hl16 Gt)))) | .inr _,h=>gA (Ae q FR Zj (tN h)))) λh=>tS h (gO (A3 (A8 S4 S4 q))))) λx18 h=>(match x18,h with | .inl _,h=>gA (Ae q [4] [4] (tS h (mo (Mk (H5 [] (Le.refl _ _)))))) | .inr ⟨l6,i7,l8⟩,h=>mn (λst' hl20=>tS h (ov (Le.trans hl20 Gt)))))) (λ⟨l1,i2,l3⟩ y h=>tB h λx21 y21 h=>tT q FR Zj [⟨[],bp,(rO x21 20000),[(20000,.tok 4 27 x21.length)],[],[]⟩] (c1 (Up y21)) (tL q h FR Zj (λu i22=>(Cn u [(12,(Z6 i22))] [])) (λu x_=>match x_ with|(.inl _)=>aG Γ (.exit 0) (Nc S4 S4 u [] [])|(.inr (l23,i24,l25))=>aG Γ (.goto 0) (Nc DF S4 u [] [(2,.row 25 (Z5 l23 i24 l25))])) (λi22 y h=>Ae q rA Zj (gC h (λh=>tB h λx32 y32 h=>gJ y32 (λx_=>match x_ with|(.inl (l26,i27,l28))=>aG Γ (.goto 0) (⟨[(1,(Z6 v1)),N8,LZ],[(2,.row 25 (Z5 l26 i27 l28)),(4,.row 25 nE)],[]⟩:St)|(.inr _)=>aG Γ .normal (⟨[(1,(Z6 v1)),N8,LZ,(10,(rO x21 10)),(11,(JQ x21.length)),(12,(Z6 i22))],[(2,.row 25 (Z5 l1 i2 l3)),(4,.row 25 nE),(10,.tok 4 27 x21.length)],[]⟩:St)) (λy h=>tV q [1,2,4,6,10,11,12] bq h λh=>tB h λx30 y30 h=>tT q qu bq [(JP x30)] (c1 (Y7 y30)) (gC h (λh=>tS h (gK (A3 (A8 FR Zj q)))) λh=>tB h λx31 y31 h=>tT q qy br [(zP x31.1 x31.2)] (c1 (Mo y31)) (Ae q qv br (gC h (λh=>Ae q DF S4 (tS h (gK (A3 Gt)))) λh=>tS h (gK (A3 (A8 FR Zj q))))))) (match x32,h with | .inl ⟨l26,i27,l28⟩,h=>mn (λst' hl33=>tS h (gO (A3 (Le.trans hl33 Gt)))) | .inr _,h=>gA (Ae q FR Zj (tN h)))) λh=>tS h (gO (A3 (A8 S4 S4 q))))) λx35 h=>(match x35,h with | .inl _,h=>gA (Ae q [4] [4] (tS h (mo (Mk (H5 [] (Le.refl _ _)))))) | .inr ⟨l23,i24,l25⟩,h=>mn (λst' hl37=>tS h (ov (Le.trans hl37 Gt)))))) (gAr (λst' hk=>tS h (gK hk))))
def Fs(aN:Ao)(aP:Ao):Int->Option (LR Int (Unit ⊕ Bool)):=
 λ(i1:Int)=>(bif (decide (i1<(aN.length:Int))) then(Aw (As i1 aN.length) (Aw (As i1 aP.length) (bif ((aN.getD i1.toNat 0)!=(aP.getD i1.toNat 0)) then(some (.done (.inr false))) else(some (.next (w64 (i1+1))))))) else(some (.done (.inl ()))))
def AL(Γ:H4)(aN:Ao)(aP:Ao)(r:Bool):Exit->St->Prop:=fK Tryz.prog Γ Tryz.f23.results.toList [] (.bool r) []
def Ck(aN:Ao)(aP:Ao):Option Bool:=
 (bif ((aN.length:Int)!=(aP.length:Int)) then(some false) else((Ad (Fs aN aP) (0:Int)).bind (λx4=>(match x4 with|(.inl _)=>(some true)|(.inr r6)=>(some r6)))))
variable{v3:Bool}
theorem Hb(h:Ck v2 v17=some v3):sP 23 [(Mw v2),(Mw v17)] [] (.bool v3) []:=
 sG Tryz.func23 λΓ q=>tW q Fe [] DA [] (gC h (λh=>Ae q [4] [] (tS h (Bp []))) λh=>Ae q Pf [] (tL q h Pf [] (λu i1=>(Cn u [(5,(Z6 i1))] [])) (λu x_=>match x_ with|(.inl _)=>aG Γ (.exit 0) (⟨[],[],[]⟩:St)|(.inr r_)=>aR (AL Γ v2 v17 r_)) (λi1 y h=>Ae q [0,1,5,14] [] (gC h (λh=>tC h λc2_ h=>tC h λc3_ h=>tU q [0,1,5,25] [] (c2 c2_ c3_) (gC h (λh=>Ae q [4] [] (tS h (gO (Mk (H5 [] (Le.refl _ _)))))) λh=>Ae q Pf [] (tN h))) λh=>tS h (gO (A3 (A8 [] [] q))))) λx4 h=>(match x4,h with | .inl _,h=>gA (Ae q [4] [] (tS h (Bp []))) | .inr r6,h=>gAr (λst' hk=>tS h (gK hk)))))
def fH(x2:CT):=(bif (((((x2.1.Blocks.getD (0:Int).toNat (default:Ab)).Ops).getD (2:Int).toNat (default:A2)).Kind:Int)==13) then(((((x2.1.Blocks.getD (0:Int).toNat (default:Ab)).Ops).getD (2:Int).toNat (default:A2)).Dst:Int)==5) else false)
def ki(x2:CT)(x12:Bool):=((bif (fH x2) then x12 else false)==true)
def yb(x7:TFunc):=((x7.Blocks.length:Int)!=2)
def vv:=([(1:Int),(2:Int),(3:Int)]:Ao)
def fI(x2:CT)(x4:CT):=(bif (bif (bif (x2.2 !=0) then true else(x4.2 !=10)) then true else((x2.1.Blocks.length:Int)!=2)) then true else((((x2.1.Blocks.getD (0:Int).toNat (default:Ab)).Ops).length:Int)!=3))
def sA(x2:CT)(x4:CT)(x7:TFunc):=((bif (fI x2 x4) then true else(yb x7))==false)
def Aa4(x2:CT)(x4:CT):=((bif (x2.2 !=0) then true else(x4.2 !=10))==false)
def Aa5(x2:CT):=((((((x2.1.Blocks.getD (0:Int).toNat (default:Ab)).Ops).getD (2:Int).toNat (default:A2)).Kind:Int)==13)==true)
def ya(x2:CT)(x4:CT):=((bif (bif (x2.2 !=0) then true else(x4.2 !=10)) then true else((x2.1.Blocks.length:Int)!=2))==false)
def m_locksteplaw15_awake :Option Bool:=
 (m_locksteplaw15_diamond.bind λx1=>((H0 x1 (⟨(0:Int),(1:Int),(2:Int),(3:Int)⟩:THammock)).bind λx2=>(m_locksteplaw15_diamond.bind λx3=>((H0 x3 (⟨(0:Int),(0:Int),(0:Int),(0:Int)⟩:THammock)).bind λx4=>(Aw (((bif (bif (x2.2 !=0) then true else(x4.2 !=10)) then true else((x2.1.Blocks.length:Int)!=2))==false)=true->(As (0:Int) x2.1.Blocks.length)) ((bif ((bif (bif (bif (x2.2 !=0) then true else(x4.2 !=10)) then true else((x2.1.Blocks.length:Int)!=2)) then true else((((x2.1.Blocks.getD (0:Int).toNat (default:Ab)).Ops).length:Int)!=3))==false) then m_locksteplaw15_diamond else some (default:TFunc)).bind λx6=>((bif ((bif (bif (bif (x2.2 !=0) then true else(x4.2 !=10)) then true else((x2.1.Blocks.length:Int)!=2)) then true else((((x2.1.Blocks.getD (0:Int).toNat (default:Ab)).Ops).length:Int)!=3))==false) then X4 x6 (2:Int) else some (default:TFunc)).bind λx7=>((bif ((bif (bif (bif (bif (x2.2 !=0) then true else(x4.2 !=10)) then true else((x2.1.Blocks.length:Int)!=2)) then true else((((x2.1.Blocks.getD (0:Int).toNat (default:Ab)).Ops).length:Int)!=3)) then true else((x7.Blocks.length:Int)!=2))==false) then m_locksteplaw15_diamond else some (default:TFunc)).bind λx8=>((bif ((bif (bif (bif (bif (x2.2 !=0) then true else(x4.2 !=10)) then true else((x2.1.Blocks.length:Int)!=2)) then true else((((x2.1.Blocks.getD (0:Int).toNat (default:Ab)).Ops).length:Int)!=3)) then true else((x7.Blocks.length:Int)!=2))==false) then X4 x8 (1:Int) else some (default:TFunc)).bind λx9=>(bif (bif (bif (bif (bif (bif (x2.2 !=0) then true else(x4.2 !=10)) then true else((x2.1.Blocks.length:Int)!=2)) then true else((((x2.1.Blocks.getD (0:Int).toNat (default:Ab)).Ops).length:Int)!=3)) then true else((x7.Blocks.length:Int)!=2)) then true else((x9.Blocks.length:Int)!=4)) then(some false) else(Aw (As (0:Int) x2.1.Blocks.length) (Aw (As (2:Int) ((x2.1.Blocks.getD (0:Int).toNat (default:Ab)).Ops).length) ((bif ((bif (((((x2.1.Blocks.getD (0:Int).toNat (default:Ab)).Ops).getD (2:Int).toNat (default:A2)).Kind:Int)==13) then(((((x2.1.Blocks.getD (0:Int).toNat (default:Ab)).Ops).getD (2:Int).toNat (default:A2)).Dst:Int)==5) else false)==true) then Ck ((((x2.1.Blocks.getD (0:Int).toNat (default:Ab)).Ops).getD (2:Int).toNat (default:A2)).Args) ([(1:Int),(2:Int),(3:Int)]:Ao) else some false).bind λx12=>(Aw (((bif (bif (((((x2.1.Blocks.getD (0:Int).toNat (default:Ab)).Ops).getD (2:Int).toNat (default:A2)).Kind:Int)==13) then(((((x2.1.Blocks.getD (0:Int).toNat (default:Ab)).Ops).getD (2:Int).toNat (default:A2)).Dst:Int)==5) else false) then x12 else false)==true)=true->(As (1:Int) x2.1.Blocks.length)) (Aw (((bif (bif (((((x2.1.Blocks.getD (0:Int).toNat (default:Ab)).Ops).getD (2:Int).toNat (default:A2)).Kind:Int)==13) then(((((x2.1.Blocks.getD (0:Int).toNat (default:Ab)).Ops).getD (2:Int).toNat (default:A2)).Dst:Int)==5) else false) then x12 else false)==true)=true->(As (0:Int) ((x2.1.Blocks.getD (1:Int).toNat (default:Ab)).Phis).length)) ((bif ((bif (bif (((((x2.1.Blocks.getD (0:Int).toNat (default:Ab)).Ops).getD (2:Int).toNat (default:A2)).Kind:Int)==13) then(((((x2.1.Blocks.getD (0:Int).toNat (default:Ab)).Ops).getD (2:Int).toNat (default:A2)).Dst:Int)==5) else false) then x12 else false)==true) then Ck ((((x2.1.Blocks.getD (1:Int).toNat (default:Ab)).Phis).getD (0:Int).toNat (default:Bf)).From) ([(0:Int)]:Ao) else some false).bind λx15=>(some (bif (bif (bif (((((x2.1.Blocks.getD (0:Int).toNat (default:Ab)).Ops).getD (2:Int).toNat (default:A2)).Kind:Int)==13) then(((((x2.1.Blocks.getD (0:Int).toNat (default:Ab)).Ops).getD (2:Int).toNat (default:A2)).Dst:Int)==5) else false) then x12 else false) then x15 else false))))))))))))))))))
theorem Yb  (r:Bool) (h:m_locksteplaw15_awake=some r):sP 7 [] [] (.bool r) []:=
 sG Tryz.func7 λΓ q=>Ae q [] [] (tB h λx1 y1 h=>tB h λx2 y2 h=>tT q Ng [1] [(k9 x1),(zP x2.1 x2.2)] (c2 (Hw  x1 y1) (Mo y2)) (tB h λx3 y3 h=>tB h λx4 y4 h=>tT q DF [1] [(k9 x3),(zP x4.1 x4.2)] (c2 (Hw  x3 y3) (Mo y4)) (tC h λc5_ h=>tB h λx6 y6 h=>tB h λx7 y7 h=>tB h λx8 y8 h=>tB h λx9 y9 h=>tT q [1,52] [1] [(k9 x6),(k9 x7),(k9 x8),(k9 x9)] (PY (gI ((x2.2 !=0)==false)) (I4 (x2.2 !=0)) (Sh (Aa4 x2 x4) (ci (I4 (bif (x2.2 !=0) then true else(x4.2 !=10))) (J7 (ya x2 x4) (ci c5_ (QH (ya x2 x4) (zX (I4 (bif (bif (x2.2 !=0) then true else(x4.2 !=10)) then true else((x2.1.Blocks.length:Int)!=2))) (λ(hg:((fI x2 x4)==false)=true)=>(Hw  x6 (Ba hg y6))) (gI ((fI x2 x4)==false)) (λ(hg:((fI x2 x4)==false)=true)=>(FC (Ba hg y7))) (Sh ((fI x2 x4)==false) (zX (I4 (fI x2 x4)) (λ(hg:(sA x2 x4 x7)=true)=>(Hw  x8 (Ba hg y8))) (gI (sA x2 x4 x7)) (λ(hg:(sA x2 x4 x7)=true)=>(FC (Ba hg y9))) (Sh (sA x2 x4 x7) (c1 (I4 (bif (fI x2 x4) then true else(yb x7)))))))))))))) (gC h (λh=>Ae q [0] [] (tS h (Bp []))) λh=>tC h λc10_ h=>tC h λc11_ h=>tU q [1,5] [1,5] (c2 c10_ c11_) (tB h λx12 y12 h=>tC h λc13_ h=>tC h λc14_ h=>tB h λx15 y15 h=>gR q [0] [] [(71,(su vv)),(83,(AV.list 1 Am 0 ([(0:Int)]:Ao) .exact))] [(Z7 x12),(Z7 x15)] (J7 (Aa5 x2) (bv (M7 (((((x2.1.Blocks.getD (0:Int).toNat (default:Ab)).Ops).getD (2:Int).toNat (default:A2)).Kind:Int)==13)) (gI ((fH x2)==true)) (show(((fH x2)==true)=true->(AVle (.slice 1 3 (λi=>([[mi],[(.int .i64 (2:Int))],[(.int .i64 (3:Int))]]:List (List AV)).getD i []) .exact) (su vv))) from(λhg=>@(Az 1 Am (0:Int) vv))) (J7 ((fH x2)==true) (PY (λ(hg:((fH x2)==true)=true)=>(Hb (Ba hg y12))) (M7 (fH x2)) (J7 (ki x2 x12) (ci c13_ (Sh (ki x2 x12) (ci c14_ (J7 (ki x2 x12) (ci (show((ki x2 x12)=true->(AVle (.slice 1 1 (λi=>([[La]]:List (List AV)).getD i []) .exact) (AV.list 1 Am 0 ([(0:Int)]:Ao) .exact))) from(λhg=>@(Az 1 Am (0:Int) ([(0:Int)]:Ao)))) (J7 (ki x2 x12) (c2 (λ(hg:(ki x2 x12)=true)=>(Hb (Ba hg y15))) (M7 (bif (fH x2) then x12 else false)))))))))))))) (tS h (Bp [])))))))
def Cq(a0:TFunc)(i2:Int):Hn->Option iI:=
 λ((i5,i6):Hn)=>(Aw (As i2 a0.Blocks.length) (bif (bif (decide (i6<(((a0.Blocks.getD i2.toNat default).Phis).length:Int))) then(decide (i5<=20000)) else false) then(Aw (As i2 a0.Blocks.length) (Aw (As i6 ((a0.Blocks.getD i2.toNat default).Phis).length) (Aw (As i2 a0.Blocks.length) (Aw (As i6 ((a0.Blocks.getD i2.toNat default).Phis).length) (some (.next ((w64 ((w64 ((w64 (i5+1))+(((((a0.Blocks.getD i2.toNat default).Phis).getD i6.toNat default).From).length:Int)))+(((((a0.Blocks.getD i2.toNat default).Phis).getD i6.toNat default).Args).length:Int))),(w64 (i6+1))))))))) else(some (.done i5))))
def Cr(a0:TFunc)(i2:Int):Hn->Option iI:=
 λ((i15,i16):Hn)=>(Aw (As i2 a0.Blocks.length) (bif (bif (decide (i16<(((a0.Blocks.getD i2.toNat default).Ops).length:Int))) then(decide (i15<=20000)) else false) then(Aw (As i2 a0.Blocks.length) (Aw (As i16 ((a0.Blocks.getD i2.toNat default).Ops).length) (some (.next ((w64 ((w64 (i15+1))+(((((a0.Blocks.getD i2.toNat default).Ops).getD i16.toNat default).Args).length:Int))),(w64 (i16+1))))))) else(some (.done i15))))
def Cs(a0:TFunc):Hn->Option iI:=
 λ((i1,i2):Hn)=>(bif (bif (decide (i2<(a0.Blocks.length:Int))) then(decide (i1<=20000)) else false) then(Aw (As i2 a0.Blocks.length) ((Ad (Cq a0 i2) ((w64 ((w64 (i1+1))+(((a0.Blocks.getD i2.toNat default).End.To).length:Int))),(0:Int))).bind (λx13=>((Ad (Cr a0 i2) (x13,(0:Int))).bind (λx21=>(some (.next (x21,(w64 (i2+1)))))))))) else(some (.done i1)))
def Cw(a0:TFunc):Option Bool:=
 ((Ad (Cs a0) ((a0.Params.length:Int),(0:Int))).bind (λx23=>(some (decide (x23<=20000)))))
theorem Yf(h:Cw v0=some v3):sP 24 [(Yz v0)] [] (.bool v3) []:=
 sG Tryz.func24 λΓ q=>tW q [1] [1] Iz [1] (Ae q Ho [1] (tL q h Ho [1] (λu (i1,i2)=>(Cn u [(3,(Z6 i1)),(4,(Z6 i2))] [])) (λu i3=>aG Γ (.exit 0) (⟨[(3,(Z6 i3))],[],[]⟩:St)) (λ⟨i1,i2⟩ y h=>tU q [1,3,4,18] [1] (c2 (gI ((decide (i2<(v0.Blocks.length:Int)))==true)) (M7 (decide (i2<(v0.Blocks.length:Int))))) (gC h (λh=>tV q Ho [1] h λh=>Ae q Gl [1] (tL q h Gl [1] (λu (i5,i6)=>(Cn u [(3,(Z6 i5)),(5,(Z6 i6))] [])) (λu i7=>aG Γ (.exit 2) (Nc Ho [1] u [(3,(Z6 i7))] [])) (λ⟨i5,i6⟩ y h=>tC h λc8_ h=>tU q [1,3,4,5,44] [1] (c3 c8_ (gI ((decide (i6<(((v0.Blocks.getD i2.toNat default).Phis).length:Int)))==true)) (M7 (decide (i6<(((v0.Blocks.getD i2.toNat default).Phis).length:Int))))) (gC h (λh=>tC h λc9_ h=>tC h λc10_ h=>tC h λc11_ h=>tC h λc12_ h=>tU q Gl [1] (c4 c9_ c10_ c11_ c12_) (Ae q Gl [1] (tN h))) λh=>tS h (gO (A3 (A8 Ho [1] q))))) λx13 h=>gA (Ae q JO [1] (tL q h JO [1] (λu (i15,i16)=>(Cn u [(3,(Z6 i15)),(6,(Z6 i16))] [])) (λu i17=>aG Γ (.exit 4) (Nc Ho [1] u [(3,(Z6 i17))] [])) (λ⟨i15,i16⟩ y h=>tC h λc18_ h=>tU q [1,3,4,6,85] [1] (c3 c18_ (gI ((decide (i16<(((v0.Blocks.getD i2.toNat default).Ops).length:Int)))==true)) (M7 (decide (i16<(((v0.Blocks.getD i2.toNat default).Ops).length:Int))))) (gC h (λh=>tC h λc19_ h=>tC h λc20_ h=>tU q JO [1] (c2 c19_ c20_) (Ae q JO [1] (tN h))) λh=>tS h (gO (A3 (A8 Ho [1] q))))) λx21 h=>gA (Ae q Ho [1] (tN h)))))) λh=>tS h (gO (A3 (A8 [3] [] q))))) λx23 h=>gA (Ae q [2] [] (tS h (Bp [])))))
def B8(a0:TFunc):Hn->Option iI:=
 λ((i1,i2):Hn)=>(bif (decide (i2<(a0.Blocks.length:Int))) then(Aw (As i2 a0.Blocks.length) (Aw (As i2 a0.Blocks.length) (some (.next ((w64 ((w64 ((w64 (i1+1))+(((a0.Blocks.getD i2.toNat default).Ops).length:Int)))+(((a0.Blocks.getD i2.toNat default).Phis).length:Int))),(w64 (i2+1))))))) else(some (.done i1)))
def sB(a0:TFunc)(x6:Int):=(bif (decide ((a0.Blocks.length:Int)<=16)) then(decide (x6<=100)) else false)
def wA(a0:TFunc)(x6:Int):=(bif (sB a0 x6) then true else(decide ((64:Int)<(a0.Blocks.length:Int))))
def Ez(a0:TFunc):Option Bool:=
 ((Ad (B8 a0) ((0:Int),(0:Int))).bind (λx6=>((Cw a0).bind λx8=>(some (bif x8 then(bif (bif (bif (decide ((a0.Blocks.length:Int)<=16)) then(decide (x6<=100)) else false) then true else(decide ((64:Int)<(a0.Blocks.length:Int)))) then true else(decide ((512:Int)<x6))) else false)))))
theorem Yh(h:Ez v0=some v3):sP 8 [(Yz v0)] [] (.bool v3) []:=
 sG Tryz.func8 λΓ q=>tW q [1] [1] Iz [1] (Ae q Ho [1] (tL q h Ho [1] (λu (i1,i2)=>(Cn u [(3,(Z6 i1)),(4,(Z6 i2))] [])) (λu i3=>aG Γ (.exit 0) (Nc Iz [1] u [(3,(Z6 i3))] [])) (λ⟨i1,i2⟩ y h=>Ae q [1,3,4,9] [1] (gC h (λh=>tC h λc4_ h=>tC h λc5_ h=>tU q Ho [1] (c2 c4_ c5_) (Ae q Ho [1] (tN h))) λh=>tS h (gO (A3 (A8 Iz [1] q))))) λx6 h=>gA (tB h λx8 y8 h=>tT q [2] [] [(Z7 x8)] (ci (Yf y8) (QH (x8==true) (zX (gI ((x8==true)&&((decide ((v0.Blocks.length:Int)<=16))==true))) (gI (x8==true)) (show((x8==true)=true->((decide ((v0.Blocks.length:Int)<=16))=true->((x8==true)&&((decide ((v0.Blocks.length:Int)<=16))==true))=true)) from(λhg=>(aT hg))) (gI (x8==true)) (Sh ((x8==true)&&((sB v0 x6)==false)) (c7 (gI (x8==true)) (show((x8==true)=true->((sB v0 x6)=false->((x8==true)&&((sB v0 x6)==false))=true)) from(λhg=>(aF hg))) (gI (x8==true)) (gI ((x8==true)&&((wA v0 x6)==false))) (gI (x8==true)) (show((x8==true)=true->((wA v0 x6)=false->((x8==true)&&((wA v0 x6)==false))=true)) from(λhg=>(aF hg))) (M7 x8)))))) (tS h (Bp [])))))
def Bn(aW:Int):Option Bool:=
 (some (bif (decide ((0:Int)<=aW)) then(decide (aW<=2147483647)) else false))
theorem B9(h:Bn v1=some v3):sP 73 [(Z6 v1)] [] (.bool v3) []:=
 sG Tryz.func73 λΓ q=>Ae q [0] [] (tU q [2] [] (c2 (gI ((decide ((0:Int)<=v1))==true)) (M7 (decide ((0:Int)<=v1)))) (tS h (Bp [])))
def Fu(aU:Ao):Int->Option (LR Int (Unit ⊕ Bool)):=
 λ(i1:Int)=>(bif (decide (i1<(aU.length:Int))) then(Aw (As i1 aU.length) ((Bn (aU.getD i1.toNat 0)).bind λx3=>(bif (!x3) then(some (.done (.inr false))) else(some (.next (w64 (i1+1))))))) else(some (.done (.inl ()))))
def AN(Γ:H4)(aU:Ao)(r:Bool):Exit->St->Prop:=fK Tryz.prog Γ Tryz.f72.results.toList [] (.bool r) []
def Da(aU:Ao):Option Bool:=
 ((Ad (Fu aU) (0:Int)).bind (λx4=>(match x4 with|(.inl _)=>(some (decide ((aU.length:Int)<=64)))|(.inr r6)=>(some r6))))
theorem Hc(h:Da v2=some v3):sP 72 [(Mw v2)] [] (.bool v3) []:=
 sG Tryz.func72 λΓ q=>tW q [0] [] R0 [] (tL q h R0 [] (λu i1=>(Cn u [(3,(Z6 i1))] [])) (λu x_=>match x_ with|(.inl _)=>aG Γ (.exit 0) (Nc [0] [] u [] [])|(.inr r_)=>aR (AN Γ v2 r_)) (λi1 y h=>Ae q [0,3,7] [] (gC h (λh=>tC h λc2_ h=>tB h λx3 y3 h=>tT q [0,3,15] [] [(Z7 x3)] (c2 c2_ (B9 y3)) (gC h (λh=>Ae q [2] [] (tS h (gO (Mk (H5 [] (Le.refl _ _)))))) λh=>Ae q R0 [] (tN h))) λh=>tS h (gO (A3 (A8 [0] [] q))))) λx4 h=>(match x4,h with | .inl _,h=>gA (Ae q [2] [] (tS h (Bp []))) | .inr r6,h=>gAr (λst' hk=>tS h (gK hk))))
def Ih(a0:TFunc):Hn->Option iI:=
 λ((i1,i2):Hn)=>(bif (decide (i2<(a0.Blocks.length:Int))) then(Aw (As i2 a0.Blocks.length) (Aw (As i2 a0.Blocks.length) (some (.next ((w64 ((w64 ((w64 (i1+(((a0.Blocks.getD i2.toNat default).Phis).length:Int)))+(((a0.Blocks.getD i2.toNat default).Ops).length:Int)))+1)),(w64 (i2+1))))))) else(some (.done i1)))
def Kx(a0:TFunc):Option Int:=
 ((Ad (Ih a0) ((0:Int),(0:Int))).bind (λx6=>(some x6)))
theorem Zz(h:Kx v0=some v1):sP 74 [(Yz v0)] [] (.int .i64 v1) []:=
 sG Tryz.func74 λΓ q=>tW q [1] [1] Iz [1] (Ae q Ho [1] (tL q h Ho [1] (λu (i1,i2)=>(Cn u [(3,(Z6 i1)),(4,(Z6 i2))] [])) (λu i3=>aG Γ (.exit 0) (⟨[(3,(Z6 i3))],[],[]⟩:St)) (λ⟨i1,i2⟩ y h=>Ae q [1,3,4,9] [1] (gC h (λh=>tC h λc4_ h=>tC h λc5_ h=>tU q Ho [1] (c2 c4_ c5_) (Ae q Ho [1] (tN h))) λh=>tS h (gO (A3 (A8 [3] [] q))))) λx6 h=>gA (Ae q [2] [] (tS h (Bp [])))))
open Go Go.RowKit
set_option maxRecDepth 100000
set_option maxHeartbeats 2000000
def Gg(a0:TFunc)(i4:Int):Int->Option (LR Int (Unit ⊕ Bool)):=
 λ(i6:Int)=>(bif (decide (i6<(((a0.Blocks.getD i4.toNat default).Phis).length:Int))) then(Aw (As i6 ((a0.Blocks.getD i4.toNat default).Phis).length) ((Bn ((((a0.Blocks.getD i4.toNat default).Phis).getD i6.toNat default).Bits)).bind λx8=>((bif ((!x8)==false) then Bn ((((a0.Blocks.getD i4.toNat default).Phis).getD i6.toNat default).Dst) else some false).bind λx9=>((bif ((bif (!x8) then true else(!x9))==false) then Da ((((a0.Blocks.getD i4.toNat default).Phis).getD i6.toNat default).From) else some false).bind λx10=>((bif ((bif (bif (!x8) then true else(!x9)) then true else(!x10))==false) then Da ((((a0.Blocks.getD i4.toNat default).Phis).getD i6.toNat default).Args) else some false).bind λx11=>(bif (bif (bif (bif (!x8) then true else(!x9)) then true else(!x10)) then true else(!x11)) then(some (.done (.inr false))) else(some (.next (w64 (i6+1)))))))))) else(some (.done (.inl ()))))
def Gh(a0:TFunc)(i4:Int):Int->Option (LR Int (Unit ⊕ Bool)):=
 λ(i14:Int)=>(bif (decide (i14<(((a0.Blocks.getD i4.toNat default).Ops).length:Int))) then(Aw (As i14 ((a0.Blocks.getD i4.toNat default).Ops).length) ((Bn ((((a0.Blocks.getD i4.toNat default).Ops).getD i14.toNat default).Kind)).bind λx16=>((bif ((!x16)==false) then Bn ((((a0.Blocks.getD i4.toNat default).Ops).getD i14.toNat default).Bits) else some false).bind λx17=>((bif ((bif (!x16) then true else(!x17))==false) then Bn ((((a0.Blocks.getD i4.toNat default).Ops).getD i14.toNat default).Lanes) else some false).bind λx18=>((bif ((bif (bif (!x16) then true else(!x17)) then true else(!x18))==false) then Bn ((((a0.Blocks.getD i4.toNat default).Ops).getD i14.toNat default).Dst) else some false).bind λx19=>((bif ((bif (bif (bif (!x16) then true else(!x17)) then true else(!x18)) then true else(!x19))==false) then Da ((((a0.Blocks.getD i4.toNat default).Ops).getD i14.toNat default).Args) else some false).bind λx20=>(bif (bif (bif (bif (bif (!x16) then true else(!x17)) then true else(!x18)) then true else(!x19)) then true else(!x20)) then(some (.done (.inr false))) else(some (.next (w64 (i14+1))))))))))) else(some (.done (.inl ()))))
def Eh(a0:TFunc):Int->Option (LR Int (Unit ⊕ Bool)):=
 λ(i4:Int)=>(bif (decide (i4<(a0.Blocks.length:Int))) then(Aw (As i4 a0.Blocks.length) ((Ad (Gg a0 i4) (0:Int)).bind (λx12=>(match x12 with|(.inl _)=>((Ad (Gh a0 i4) (0:Int)).bind (λx21=>(match x21 with|(.inl _)=>((Bn ((a0.Blocks.getD i4.toNat default).End.Kind)).bind λx23=>((bif ((!x23)==false) then Bn ((a0.Blocks.getD i4.toNat default).End.Arg) else some false).bind λx24=>((bif ((bif (!x23) then true else(!x24))==false) then Da ((a0.Blocks.getD i4.toNat default).End.To) else some false).bind λx25=>(bif (bif (bif (!x23) then true else(!x24)) then true else(!x25)) then(some (.done (.inr false))) else(some (.next (w64 (i4+1))))))))|(.inr r26)=>(some (.done (.inr r26))))))|(.inr r27)=>(some (.done (.inr r27))))))) else(some (.done (.inl ()))))
def Ot(Γ:H4)(a0:TFunc)(r:Bool):Exit->St->Prop:=fK Tryz.prog Γ Tryz.f37.results.toList [] (.bool r) []
def cD(x8:Bool)(x9:Bool):=(bif (!x8) then true else(!x9))
def nG(a0:TFunc):=((a0.Blocks.length:Int)==0)
def nF(a0:TFunc):=(bif (bif (nG a0) then true else(decide ((64:Int)<(a0.Blocks.length:Int)))) then true else(decide ((16:Int)<(a0.Params.length:Int))))
def cE(a0:TFunc)(x1:Bool):=(bif (nF a0) then true else(!x1))
def wB(x23:Bool)(x24:Bool):=((bif (!x23) then true else(!x24))==false)
def Aa6(a0:TFunc)(i4:Int):=(a0.Blocks.getD i4.toNat default)
def Abl(a0:TFunc)(i4:Int)(i14:Int):=(((Aa6 a0 i4).Ops).getD i14.toNat default)
def cC(x16:Bool)(x17:Bool)(x18:Bool):=(bif (bif (!x16) then true else(!x17)) then true else(!x18))
def Aa7(a0:TFunc):=((bif (nG a0) then true else(decide ((64:Int)<(a0.Blocks.length:Int))))==false)
def Gq(a0:TFunc):Option Bool:=
 ((bif ((bif (bif ((a0.Blocks.length:Int)==0) then true else(decide ((64:Int)<(a0.Blocks.length:Int)))) then true else(decide ((16:Int)<(a0.Params.length:Int))))==false) then Da a0.Params else some false).bind λx1=>((bif ((bif (bif (bif ((a0.Blocks.length:Int)==0) then true else(decide ((64:Int)<(a0.Blocks.length:Int)))) then true else(decide ((16:Int)<(a0.Params.length:Int)))) then true else(!x1))==false) then Bn a0.Ret else some false).bind λx2=>((bif ((bif (bif (bif (bif ((a0.Blocks.length:Int)==0) then true else(decide ((64:Int)<(a0.Blocks.length:Int)))) then true else(decide ((16:Int)<(a0.Params.length:Int)))) then true else(!x1)) then true else(!x2))==false) then Kx a0 else some (0:Int)).bind λx3=>(bif (bif (bif (bif (bif (bif ((a0.Blocks.length:Int)==0) then true else(decide ((64:Int)<(a0.Blocks.length:Int)))) then true else(decide ((16:Int)<(a0.Params.length:Int)))) then true else(!x1)) then true else(!x2)) then true else(decide ((512:Int)<x3))) then(some false) else((Ad (Eh a0) (0:Int)).bind (λx28=>(match x28 with|(.inl _)=>(some true)|(.inr r30)=>(some r30))))))))
theorem Sx(h:Gq v0=some v3):sP 37 [(Yz v0)] [] (.bool v3) []:=
 sG Tryz.func37 λΓ q=>Ae q [1] [1] (tB h λx1 y1 h=>tB h λx2 y2 h=>tB h λx3 y3 h=>tT q [1,41] [1] [(Z7 x1),(Z7 x2),(JP x3)] (Sh ((nG v0)==false) (ci (I4 (nG v0)) (Sh (Aa7 v0) (ci (I4 (bif (nG v0) then true else(decide ((64:Int)<(v0.Blocks.length:Int))))) (J7 ((nF v0)==false) (bv (λ(hg:((nF v0)==false)=true)=>(Hc (Ba hg y1))) (gI ((nF v0)==false)) (I4 (nF v0)) (J7 ((cE v0 x1)==false) (c7 (λ(hg:((cE v0 x1)==false)=true)=>(B9 (Ba hg y2))) (gI ((cE v0 x1)==false)) (I4 (cE v0 x1)) (gI ((bif (cE v0 x1) then true else(!x2))==false)) (λ(hg:((bif (cE v0 x1) then true else(!x2))==false)=true)=>(Zz (Ba hg y3))) (gI ((bif (cE v0 x1) then true else(!x2))==false)) (I4 (bif (cE v0 x1) then true else(!x2))))))))))) (gC h (λh=>Ae q [2] [] (tS h (Bp []))) λh=>Ae q Iz [1] (tL q h Iz [1] (λu i4=>(Cn u [(3,(Z6 i4))] [])) (λu x_=>match x_ with|(.inl _)=>aG Γ (.exit 0) (⟨[],[],[]⟩:St)|(.inr r_)=>aR (Ot Γ v0 r_)) (λi4 y h=>Ae q [1,3,46] [1] (gC h (λh=>tV q Ho R3 h λh=>Ae q Gl R3 (tL q h Gl R3 (λu i6=>(Cn u [(5,(Z6 i6))] [])) (λu x_=>match x_ with|(.inl _)=>aG Γ (.exit 2) (Nc Ho R3 u [] [])|(.inr r_)=>aR (Ot Γ v0 r_)) (λi6 y h=>Ae q [1,3,4,5,58] R3 (gC h (λh=>tV q Oq [1,4,6] h λh=>tB h λx8 y8 h=>tB h λx9 y9 h=>tB h λx10 y10 h=>tB h λx11 y11 h=>tT q [1,3,4,5,87] R3 [(Z7 x8),(Z7 x9),(Z7 x10),(Z7 x11)] (ci (B9 y8) (J7 ((!x8)==false) (bv (λ(hg:((!x8)==false)=true)=>(B9 (Ba hg y9))) (gI ((!x8)==false)) (I4 (!x8)) (J7 ((cD x8 x9)==false) (bv (λ(hg:((cD x8 x9)==false)=true)=>(Hc (Ba hg y10))) (gI ((cD x8 x9)==false)) (I4 (cD x8 x9)) (J7 ((bif (cD x8 x9) then true else(!x10))==false) (c3 (λ(hg:((bif (cD x8 x9) then true else(!x10))==false)=true)=>(Hc (Ba hg y11))) (gI ((bif (cD x8 x9) then true else(!x10))==false)) (I4 (bif (cD x8 x9) then true else(!x10)))))))))) (gC h (λh=>Ae q [2] [] (tS h (gO (Mk (H5 [] (Le.refl _ _)))))) λh=>Ae q Gl R3 (tN h))) λh=>tS h (gO (A3 (A8 Ho R3 q))))) λx12 h=>(match x12,h with | .inl _,h=>gA (Ae q [1,3,4,7] R3 (tL q h [1,3,4,7] R3 (λu i14=>(Cn u [(7,(Z6 i14))] [])) (λu x_=>match x_ with|(.inl _)=>aG Γ (.exit 4) (Nc Ho R3 u [] [])|(.inr r_)=>aR (Ot Γ v0 r_)) (λi14 y h=>Ae q [1,3,4,7,92] R3 (gC h (λh=>tV q [1,3,4,7,8] [1,4,8] h λh=>tB h λx16 y16 h=>tB h λx17 y17 h=>tB h λx18 y18 h=>tB h λx19 y19 h=>tB h λx20 y20 h=>tT q [1,3,4,7,127] R3 [(Z7 x16),(Z7 x17),(Z7 x18),(Z7 x19),(Z7 x20)] (ci (B9 y16) (J7 ((!x16)==false) (bv (λ(hg:((!x16)==false)=true)=>(B9 (Ba hg y17))) (gI ((!x16)==false)) (I4 (!x16)) (J7 ((bif (!x16) then true else(!x17))==false) (bv (λ(hg:((bif (!x16) then true else(!x17))==false)=true)=>(B9 (Ba hg y18))) (gI ((bif (!x16) then true else(!x17))==false)) (I4 (bif (!x16) then true else(!x17))) (J7 ((cC x16 x17 x18)==false) (bv (λ(hg:((cC x16 x17 x18)==false)=true)=>(B9 (Ba hg y19))) (gI ((cC x16 x17 x18)==false)) (I4 (cC x16 x17 x18)) (J7 ((bif (cC x16 x17 x18) then true else(!x19))==false) (c3 (λ(hg:((bif (cC x16 x17 x18) then true else(!x19))==false)=true)=>(Hc (Ba hg y20))) (gI ((bif (cC x16 x17 x18) then true else(!x19))==false)) (I4 (bif (cC x16 x17 x18) then true else(!x19)))))))))))) (gC h (λh=>Ae q [2] [] (tS h (gO (Mk (H5 [] (Le.refl _ _)))))) λh=>Ae q [1,3,4,7] R3 (tN h))) λh=>tS h (gO (A3 (A8 Ho R3 q))))) λx21 h=>(match x21,h with | .inl _,h=>gA (tB h λx23 y23 h=>tB h λx24 y24 h=>tB h λx25 y25 h=>tT q [1,3,146] [1] [(Z7 x23),(Z7 x24),(Z7 x25)] (ci (B9 y23) (Sh ((!x23)==false) (bv (λ(hg:((!x23)==false)=true)=>(B9 (Ba hg y24))) (gI ((!x23)==false)) (I4 (!x23)) (Sh (wB x23 x24) (c3 (λ(hg:(wB x23 x24)=true)=>(Hc (Ba hg y25))) (gI (wB x23 x24)) (I4 (bif (!x23) then true else(!x24)))))))) (gC h (λh=>Ae q [2] [] (tS h (gO (Mk (H5 [] (Le.refl _ _)))))) λh=>Ae q Iz [1] (tN h))) | .inr r26,h=>gAr (λst' hk=>tS h (gO (Mk hk)))))) | .inr r27,h=>gAr (λst' hk=>tS h (gO (Mk hk)))))) λh=>tS h (gO (A3 (A8 [] [] q))))) λx28 h=>(match x28,h with | .inl _,h=>gA (Ae q [2] [] (tS h (Bp []))) | .inr r30,h=>gAr (λst' hk=>tS h (gK hk))))))
def Gi(aU:Ao)(aD:Int):Int->Option (LR Int (Unit ⊕ Bool)):=
 λ(i1:Int)=>(bif (decide (i1<(aU.length:Int))) then(Aw (As i1 aU.length) (bif ((aU.getD i1.toNat 0)==aD) then(some (.done (.inr true))) else(some (.next (w64 (i1+1)))))) else(some (.done (.inl ()))))
def EN(Γ:H4)(aU:Ao)(aD:Int)(r:Bool):Exit->St->Prop:=fK Tryz.prog Γ Tryz.f35.results.toList [] (.bool r) []
def Gr(aU:Ao)(aD:Int):Option Bool:=
 ((Ad (Gi aU aD) (0:Int)).bind (λx3=>(match x3 with|(.inl _)=>(some false)|(.inr r5)=>(some r5))))
theorem N1(h:Gr v2 v1=some v3):sP 35 [(Mw v2),(Z6 v1)] [] (.bool v3) []:=
 sG Tryz.func35 λΓ q=>tW q Fe [] Pf [] (tL q h Pf [] (λu i1=>(Cn u [(5,(Z6 i1))] [])) (λu x_=>match x_ with|(.inl _)=>aG Γ (.exit 0) (⟨[],[],[]⟩:St)|(.inr r_)=>aR (EN Γ v2 v1 r_)) (λi1 y h=>Ae q [0,1,5,9] [] (gC h (λh=>tV q [0,1,5,17] [] h λh=>gC h (λh=>Ae q [4] [] (tS h (gO (Mk (H5 [] (Le.refl _ _)))))) λh=>Ae q Pf [] (tN h)) λh=>tS h (gO (A3 (A8 [] [] q))))) λx3 h=>(match x3,h with | .inl _,h=>gA (Ae q [4] [] (tS h (Bp []))) | .inr r5,h=>gAr (λst' hk=>tS h (gK hk))))
abbrev xm:=(LR Int (Unit ⊕ (TGraph×Int)))
def Dx(a6:J8)(i1:Int):Int->Option xm:=
 λ(i2:Int)=>(Aw (As i1 a6.length) (bif (decide (i2<((a6.getD i1.toNat []).length:Int))) then(Aw (As i1 a6.length) (Aw (As i2 (a6.getD i1.toNat []).length) (Aw (((decide (((a6.getD i1.toNat []).getD i2.toNat 0)<0))==false)=true->(As i1 a6.length)) (Aw (((decide (((a6.getD i1.toNat []).getD i2.toNat 0)<0))==false)=true->(As i2 (a6.getD i1.toNat []).length)) (Aw ((((bif (decide (((a6.getD i1.toNat []).getD i2.toNat 0)<0)) then true else(decide ((a6.length:Int)<=((a6.getD i1.toNat []).getD i2.toNat 0))))==false)&&((decide ((0:Int)<i2))==true))=true->(As i1 a6.length)) (Aw ((((bif (decide (((a6.getD i1.toNat []).getD i2.toNat 0)<0)) then true else(decide ((a6.length:Int)<=((a6.getD i1.toNat []).getD i2.toNat 0))))==false)&&((decide ((0:Int)<i2))==true))=true->(As i2 (a6.getD i1.toNat []).length)) (Aw ((((bif (decide (((a6.getD i1.toNat []).getD i2.toNat 0)<0)) then true else(decide ((a6.length:Int)<=((a6.getD i1.toNat []).getD i2.toNat 0))))==false)&&((decide ((0:Int)<i2))==true))=true->(As i1 a6.length)) (Aw ((((bif (decide (((a6.getD i1.toNat []).getD i2.toNat 0)<0)) then true else(decide ((a6.length:Int)<=((a6.getD i1.toNat []).getD i2.toNat 0))))==false)&&((decide ((0:Int)<i2))==true))=true->(As (w64 (i2-1)) (a6.getD i1.toNat []).length)) (bif (bif (bif (decide (((a6.getD i1.toNat []).getD i2.toNat 0)<0)) then true else(decide ((a6.length:Int)<=((a6.getD i1.toNat []).getD i2.toNat 0)))) then true else(bif (decide ((0:Int)<i2)) then(decide (((a6.getD i1.toNat []).getD i2.toNat 0)<=((a6.getD i1.toNat []).getD (w64 (i2-1)).toNat (0:Int)))) else false)) then(some (.done (.inr ((⟨([]:J8),([]:J8)⟩:TGraph),(5:Int))))) else(some (.next (w64 (i2+1))))))))))))) else(some (.done (.inl ())))))
def Fv(a6:J8):Int->Option xm:=
 λ(i1:Int)=>(bif (decide (i1<(a6.length:Int))) then((Ad (Dx a6 i1) (0:Int)).bind (λx12=>(match x12 with|(.inl _)=>(some (.next (w64 (i1+1))))|(.inr r14)=>(some (.done (.inr r14)))))) else(some (.done (.inl ()))))
def Ii(a6:J8)(i18:Int):rV->Option yT6:=
 λ((i21,l22):rV)=>(bif (decide (i21<(a6.length:Int))) then(Option.bind (α:=J8) (Aw (As i21 a6.length) ((Gr (a6.getD i21.toNat []) i18).bind λx26=>(bif x26 then(Aw (As i18 l22.length) (Aw (As i18 l22.length) (Aw ((l22.getD i18.toNat []).length+([i21]:Ao).length<=room) (Aw (As i18 l22.length) (some (l22.set i18.toNat ((l22.getD i18.toNat [])++([i21]:Ao)))))))) else(some l22)))) (λx31=>(some (.next ((w64 (i21+1)),x31))))) else(some (.done l22)))
def Dy(a6:J8):rV->Option yT6:=
 λ((i18,l19):rV)=>(bif (decide (i18<(a6.length:Int))) then((Ad (Ii a6 i18) ((0:Int),l19)).bind (λx33=>(some (.next ((w64 (i18+1)),x33))))) else(some (.done l19)))
def Sp(Γ:H4)(a6:J8)(r:iJ):Exit->St->Prop:=fK Tryz.prog Γ Tryz.f83.results.toList [] (.tuple [(e8 r.1),(Z6 r.2)]) []
def Wt(a6:J8):AV:=(FY a6)
def sE(a6:J8):AV:=(JQ a6.length)
def sD(a6:J8)(i1:Int)(i2:Int):=((bif (decide (((a6.getD i1.toNat []).getD i2.toNat 0)<0)) then true else(decide ((a6.length:Int)<=((a6.getD i1.toNat []).getD i2.toNat 0))))==false)
def Aa8(i2:Int):=((decide ((0:Int)<i2))==true)
def kl(a6:J8)(i1:Int)(i2:Int):=((sD a6 i1 i2)&&(Aa8 i2))
def kj:List NI:=[N8,(3,(.int .i64 (5:Int)))]
def ZH(l22:J8)(i18:Int)(i21:Int):=((l22.getD i18.toNat [])++([i21]:Ao))
def yc:AV:=Z93
def fJ(a6:J8):=(List.replicate (a6.length:Int).toNat ([]:Ao))
def NV:List AV:=[UT,UT]
def sH(a6:J8):List NI:=[(0,(Wt a6)),N8,(4,(sE a6)),JS]
def wC(a6:J8)(i1:Int)(i2:Int):=((decide (((a6.getD i1.toNat []).getD i2.toNat 0)<0))==false)
def cF:List AV:=[xy,xy]
def sF(a6:J8)(i18:Int)(i21:Int):List NI:=[(0,(Wt a6)),N8,(4,(sE a6)),JS,(8,(Z6 i18)),(9,(Z6 i21))]
def H1(a6:J8):Option iJ:=
 (bif (bif ((a6.length:Int)==0) then true else(decide ((64:Int)<(a6.length:Int)))) then(some ((⟨([]:J8),([]:J8)⟩:TGraph),(5:Int))) else((Ad (Fv a6) (0:Int)).bind (λx15=>(match x15 with|(.inl _)=>(Aw (0<=(a6.length:Int)/\(a6.length:Int)<=(a6.length:Int)/\(a6.length:Int)<=(room:Int)) ((Ad (Dy a6) ((0:Int),(List.replicate (a6.length:Int).toNat ([]:Ao)))).bind (λx35=>(some ((⟨a6,x35⟩:TGraph),(0:Int))))))|(.inr r37)=>(some r37)))))
variable{v14:J8}{v16:iJ}
theorem Rv(h:H1 v14=some v16):sP 83 [(FY v14)] [] (.tuple [(e8 v16.1),(Z6 v16.2)]) []:=
 sG Tryz.func83 λΓ q=>have hΓ:=q.own;tW q [0,2] [2] [0,2,4] [2] (tU q [0,2,4,17] [2] (c2 (gI (((v14.length:Int)==0)==false)) (I4 ((v14.length:Int)==0))) (gC h (λh=>gR q Cb [2] [(18,(.agg cF))] [] (c1 (show(AVle (.agg NV) (.agg cF)) from(AVle.agg (.cons Dv (.cons Dv .nil))))) (O6 (⟨kj,[(L5 97 cF)],[]⟩:St) (tS h (gK (e:=.ret) (H5 [] (show Le Γ _ (⟨kj,[(mj yc)],[]⟩:St) from Le.trans (A8 (st':=⟨kj,[(L5 97 cF)],[]⟩) Cb [2] q) (Gu (.cons (AVle.refl _) (.cons (AVle.refl _) .nil)) (.row (.cons AVle.untag (.cons AVle.untag .nil)) .nil)))))))) λh=>Ae q UC [2] (tL q h UC [2] (λu i1=>(Cn u [(5,(Z6 i1))] [])) (λu x_=>match x_ with|(.inl _)=>aG Γ (.exit 0) (Nc [0,2,4] [2] u [] [])|(.inr r_)=>aR (Sp Γ v14 r_)) (λi1 y h=>Ae q [0,2,4,5,21] [2] (gC h (λh=>Ae q iw [2] (tL q h iw [2] (λu i2=>(Cn u [(6,(Z6 i2))] [])) (λu x_=>match x_ with|(.inl _)=>aG Γ (.exit 2) (Nc UC [2] u [] [])|(.inr r_)=>aR (Sp Γ v14 r_)) (λi2 y h=>tV q [0,2,4,5,6,30] [2] h λh=>gC h (λh=>tC h λc4_ h=>tC h λc5_ h=>tC h λc6_ h=>tC h λc7_ h=>tC h λc8_ h=>tC h λc9_ h=>tC h λc10_ h=>tC h λc11_ h=>tU q [0,2,4,5,6,73] [2] (PY c4_ c5_ (J7 (wC v14 i1 i2) (ci c6_ (Sh (wC v14 i1 i2) (ci c7_ (Sh (wC v14 i1 i2) (ci (I4 (decide (((v14.getD i1.toNat []).getD i2.toNat 0)<0))) (J7 (sD v14 i1 i2) (J7 (kl v14 i1 i2) (ci c8_ (Sh (kl v14 i1 i2) (ci c9_ (Sh (kl v14 i1 i2) (ci c10_ (QH (kl v14 i1 i2) (ci c11_ (Sh (kl v14 i1 i2) (c3 (gI (sD v14 i1 i2)) (show((sD v14 i1 i2)=true->((decide ((0:Int)<i2))=true->(kl v14 i1 i2)=true)) from(λhg=>(aT hg))) (I4 (bif (decide (((v14.getD i1.toNat []).getD i2.toNat 0)<0)) then true else(decide ((v14.length:Int)<=((v14.getD i1.toNat []).getD i2.toNat 0))))))))))))))))))))))) (gC h (λh=>gR q Cb [2] [(74,(.agg cF))] [] (c1 (show(AVle (.agg NV) (.agg cF)) from(AVle.agg (.cons Dv (.cons Dv .nil))))) (O6 (⟨kj,[(L5 97 cF)],[]⟩:St) (tS h (gO (Mk (H5 [] (show Le Γ _ (⟨kj,[(mj yc)],[]⟩:St) from Le.trans (A8 (st':=⟨kj,[(L5 97 cF)],[]⟩) Cb [2] q) (Gu (.cons (AVle.refl _) (.cons (AVle.refl _) .nil)) (.row (.cons AVle.untag (.cons AVle.untag .nil)) .nil))))))))) λh=>Ae q iw [2] (tN h))) λh=>tS h (gO (A3 (A8 UC [2] q)))) λx12 h=>(match x12,h with | .inl _,h=>gA (Ae q UC [2] (tN h)) | .inr r14,h=>gAr (λst' hk=>tS h (gO (Mk hk)))))) λh=>tS h (gO (A3 (A8 [0,2,4] [2] q))))) λx15 h=>(match x15,h with | .inl _,h=>gA (tV q [0,2,4,7] [2,7,77] h λh=>O6 (⟨(sH v14),[(L5 97 NV),(7,.row 97 [(Wt v14),(.vsl 77 (v14.length:Int).toNat)]),(77,.arr 1 22 ((v14.length:Int).toNat) (λi_=>AV.eraseAll (λn_=>B3 n_ [2,7,77]) ((λ_=>[UT]) i_)))],[]⟩:St) (M1 (Le.trans (Gu (st':=⟨(sH v14),[(L5 97 NV),(7,.row 97 [(Wt v14),(.vsl 77 (v14.length:Int).toNat)]),(77,.arr 1 22 ((v14.length:Int).toNat) (Oz 1 Am (0:Int) (fJ v14) (λ_=>.exact)))],[]⟩) (TmpsLe.refl _) (.same (.same (.arr cx .nil)))) (Le.trans (Le.trans (dI (r:=77) (b:=70077) Am (0:Int) (fJ v14) 3 rfl rfl (S2 ..).symm (λh_=>absurd h_ (by decide))) (H6 (st':=⟨(sH v14),[(L5 97 NV),(7,.row 97 [(Wt v14),(.vsl 77 (v14.length:Int).toNat)]),(77,.arr 1 22 ((v14.length:Int).toNat) (Oz 1 Am (0:Int) (fJ v14) (Tag.fam 70077)))],[(70077,⟨1,3,Nn (fJ v14)⟩)]⟩) (by kernel_rfl))) (H6 (Bl (λk_:Nat=>(⟨(sH v14),[(L5 97 NV),(ng (Wt v14) k_),(cJ 77 k_ (fJ v14) 70077)],[(70077,⟨1,3,Nn (fJ v14)⟩)]⟩:St)) (show(v14.length:Int).toNat=(fJ v14).length from(S2 ..).symm))))) (Ae q TR V3 (tL q h TR V3 (λu (i18,l19)=>(Cn u [(8,(Z6 i18))] [(ng (Wt v14) l19.length),(cJ 77 l19.length l19 70077)] [(70077,⟨1,3,Nn l19⟩)])) (λu l20=>aG Γ (.exit 4) (Nc [2,7] V3 u [] [(ng (Wt v14) l20.length),(cJ 77 l20.length l20 70077)] [(70077,⟨1,3,Nn l20⟩)])) (λ⟨i18,l19⟩ y h=>Ae q [0,2,4,7,8,81] V3 (gC h (λh=>Ae q TJ V3 (tL q h TJ V3 (λu (i21,l22)=>(Cn u [(9,(Z6 i21))] [(ng (Wt v14) l22.length),(cJ 77 l22.length l22 70077)] [(70077,⟨1,3,Nn l22⟩)])) (λu l23=>aG Γ (.exit 6) (Nc TR V3 u [] [(ng (Wt v14) l23.length),(cJ 77 l23.length l23 70077)] [(70077,⟨1,3,Nn l23⟩)])) (λ⟨i21,l22⟩ y h=>Ae q [0,2,4,7,8,9,86] V3 (gC h (λh=>tB h λx31 y31 h=>gJ y31 (λl24=>aG Γ .normal (⟨(sF v14 i18 i21),[(L5 97 NV),(ng (Wt v14) l24.length),(cJ 77 l24.length l24 70077)],[(70077,⟨1,3,Nn l24⟩)]⟩:St)) (λy h=>tC h λc25_ h=>tB h λx26 y26 h=>tT q [0,2,4,7,8,9,94] V3 [(Z7 x26)] (c2 c25_ (N1 y26)) (gC h (λh=>O6 (⟨[(0,(Wt v14)),N8,(4,(sE v14)),JS,(8,(Z6 i18)),(9,(Z6 i21)),(94,(.bool x26))],[(L5 97 NV),(ng (Wt v14) l22.length),(cJ 77 l22.length l22 70077)],[(70077,⟨1,3,Nn l22⟩)]⟩:St) (tC h λc27_ h=>tC h λc28_ h=>tC h λc29_ h=>tC h λc30_ h=>M1 (Le.trans (jm (r:=77) (b:=70077) (k:=60077) Am (0:Int) l22 i18.toNat 3 rfl rfl rfl rfl (Qo c27_) (by kernel_rfl) (.row (by kernel_rfl) (.row (by kernel_rfl) (.here .nil)))) (H6 (st':=⟨[(0,(Wt v14)),N8,(4,(sE v14)),JS,(8,(Z6 i18)),(9,(Z6 i21)),(94,(.bool x26))],[(L5 97 NV),(ng (Wt v14) l22.length),(77,.arr 1 22 l22.length (Oz 1 Am (0:Int) l22 (Hi 70077 i18.toNat 60077))),(60077,.tok 1 3 ((l22.getD i18.toNat []).length))],[(70077,⟨1,3,BJ l22 i18.toNat⟩)]⟩) (by kernel_rfl))) (gR q TJ rB [(102,(AV.list 1 Am 0 (l22.getD i18.toNat []) (.own 60077))),(104,(mh i21)),(105,(HL (ZH l22 i18 i21) 60077))] [] (yC c28_ (Eq.refl l22.length) (show(AVle (((Oz 1 Am (0:Int) l22 (Hi 70077 i18.toNat 60077)) i18.toNat).getD 0 .any) (AV.list 1 Am 0 (l22.getD i18.toNat []) (.own 60077))) from WR) (Az 1 Am (0:Int) ([i21]:Ao)) (Eq.refl ((l22.getD i18.toNat []).length)) c29_ (Cu 1 60077 Am (0:Int) (l22.getD i18.toNat []) ([i21]:Ao)) (Br (l22.getD i18.toNat []) ([i21]:Ao)) c30_ (c1 (Eq.refl l22.length))) (O6 (⟨(sF v14 i18 i21),[(L5 97 NV),(ng (Wt v14) l22.length),(77,.arr 1 22 l22.length (λi_=>AV.eraseAll (λn_=>B3 n_ rB) ((Fb (Oz 1 Am (0:Int) l22 (Hi 70077 i18.toNat 60077)) i18.toNat 0 [(HL (ZH l22 i18 i21) 60077)]) i_))),(60077,.tok 1 3 ((ZH l22 i18 i21).length))],[(70077,⟨1,3,BJ l22 i18.toNat⟩)]⟩:St) (tS h (gK (A3 (Le.trans (Le.trans (Le.trans (pC (r:=77) (b:=70077) (k:=60077) Am (0:Int) l22 i18.toNat (ZH l22 i18 i21) 3 rfl (dy (Qo c27_) rfl rfl) rfl rfl rfl rfl (Qo c27_) (by kernel_rfl) (.row (by kernel_rfl) (.row (by kernel_rfl) (.here (.tok .nil)))) (by rw[hΓ];rfl)) (H6 (st':=⟨(sF v14 i18 i21),[(L5 97 NV),(ng (Wt v14) l22.length),(77,.arr 1 22 l22.length (Oz 1 Am (0:Int) (l22.set i18.toNat (ZH l22 i18 i21)) (Tag.fam 70077)))],[(70077,⟨1,3,Nn (l22.set i18.toNat (ZH l22 i18 i21))⟩)]⟩) (by kernel_rfl))) (H6 (Bl (λk_:Nat=>(⟨(sF v14 i18 i21),[(L5 97 NV),(ng (Wt v14) k_),(77,.arr 1 22 k_ (Oz 1 Am (0:Int) (l22.set i18.toNat (ZH l22 i18 i21)) (Tag.fam 70077)))],[(70077,⟨1,3,Nn (l22.set i18.toNat (ZH l22 i18 i21))⟩)]⟩:St)) (show l22.length=(l22.set i18.toNat (ZH l22 i18 i21)).length from(D0 ..).symm)))) Gt)))))))) λh=>tS h (gK (A3 (A8 TJ V3 q))))) (gA (Ae q TJ V3 (tN h)))) λh=>tS h (gO (A3 (A8 TR V3 q))))) λx33 h=>gA (Ae q TR V3 (tN h)))) λh=>tS h (gO (A3 (A8 [2,7] V3 q))))) λx35 h=>gA (Ae q Cb [2,77,70077] (O6 (⟨[N8,(3,La)],[(2,.row 97 [(Wt v14),(.vsl 77 x35.length)]),(cJ 77 x35.length x35 70077)],[(70077,⟨1,3,Nn x35⟩)]⟩:St) (tS h (gK (e:=.ret) (H5 [] (Le.trans (Gm (nm:=77) (sz:=1) (n:=x35.length) (e:=22) (f:=(Oz 1 Am (0:Int) x35 (Tag.fam 70077))) (g:=(λi=>Kk (x35.getD i []))) rfl ⟨rfl,trivial⟩ (λ_ _=>rfl) (by rw[hΓ];rfl)) (A8 (st':=⟨[N8,(3,La)],[(2,.row 97 [(Wt v14),(rP x35 77)]),(77,.tok 1 22 x35.length)],[]⟩) Cb [2,77] q))))))))))) | .inr r37,h=>gAr (λst' hk=>tS h (gK hk))))))
def Ey(a0:TFunc)(i2:Int):Int->Option xm:=
 λ(i6:Int)=>(bif (decide (i6<(((a0.Blocks.getD i2.toNat default).End.To).length:Int))) then(Aw (As i6 ((a0.Blocks.getD i2.toNat default).End.To).length) (Aw (((decide ((((a0.Blocks.getD i2.toNat default).End.To).getD i6.toNat 0)<=0))==false)=true->(As i6 ((a0.Blocks.getD i2.toNat default).End.To).length)) (bif (bif (decide ((((a0.Blocks.getD i2.toNat default).End.To).getD i6.toNat 0)<=0)) then true else(decide ((a0.Blocks.length:Int)<=(((a0.Blocks.getD i2.toNat default).End.To).getD i6.toNat 0)))) then(some (.done (.inr ((⟨([]:J8),([]:J8)⟩:TGraph),(5:Int))))) else(some (.next (w64 (i6+1))))))) else(some (.done (.inl ()))))
abbrev WK:=(Ao×Int)
abbrev vB:=(LR (Ao×Int) Ao)
def G9(a0:TFunc)(i2:Int):WK->Option vB:=
 λ((l11,i12):WK)=>(bif (decide (i12<(a0.Blocks.length:Int))) then(Option.bind (α:=Ao) ((Gr ((a0.Blocks.getD i2.toNat default).End.To) i12).bind λx15=>(bif x15 then(Aw (l11.length+([i12]:Ao).length<=room) (some (l11++([i12]:Ao)))) else(some l11))) (λx17=>(some (.next (x17,(w64 (i12+1))))))) else(some (.done l11)))
def Cf(a0:TFunc):(J8×Int)->Option (LR (J8×Int) (J8 ⊕ (TGraph×Int))):=
 λ((l1,i2):(J8×Int))=>(bif (decide (i2<(a0.Blocks.length:Int))) then(Aw (As i2 a0.Blocks.length) (Aw (((bif (decide (((a0.Blocks.getD i2.toNat default).End.Kind:Int)<0)) then true else(decide ((3:Int)<(a0.Blocks.getD i2.toNat default).End.Kind)))==false)=true->(As (a0.Blocks.getD i2.toNat default).End.Kind ([(0:Int),(1:Int),(2:Int),(0:Int)]:Ao).length)) (bif (bif (bif (decide (((a0.Blocks.getD i2.toNat default).End.Kind:Int)<0)) then true else(decide ((3:Int)<(a0.Blocks.getD i2.toNat default).End.Kind))) then true else((((a0.Blocks.getD i2.toNat default).End.To).length:Int)!=(([(0:Int),(1:Int),(2:Int),(0:Int)]:Ao).getD ((a0.Blocks.getD i2.toNat default).End.Kind).toNat (0:Int)))) then(some (.done (.inr ((⟨([]:J8),([]:J8)⟩:TGraph),(5:Int))))) else((Ad (Ey a0 i2) (0:Int)).bind (λx9=>(match x9 with|(.inl _)=>((Ad (G9 a0 i2) (([]:Ao),(1:Int))).bind (λx19=>(Aw (l1.length+([x19]:J8).length<=room) (some (.next ((l1++([x19]:J8)),(w64 (i2+1))))))))|(.inr r22)=>(some (.done (.inr r22))))))))) else(some (.done (.inl l1))))
def Uc(Γ:H4)(a0:TFunc)(r:iJ):Exit->St->Prop:=fK Tryz.prog Γ Tryz.f47.results.toList [] (.tuple [(e8 r.1),(Z6 r.2)]) []
def fL:AV:=UT
def HJ(a0:TFunc)(i2:Int):=(a0.Blocks.getD i2.toNat default)
def FX:AV:=xy
def wF:AV:=(.agg [fL,fL])
def kn:=(⟨[N8,(3,(.int .i64 (5:Int)))],[(mj FX)],[]⟩:St)
def wD(a0:TFunc)(i2:Int)(i6:Int):=(decide ((((HJ a0 i2).End.To).getD i6.toNat 0)<=0))
def nJ(a0:TFunc):List AV:=(Z5 a0.Params a0.Ret a0.Blocks)
def wE:=(⟨[N8,(3,(.int .i64 (5:Int)))],[(2,.row 97 [Z93,Z93])],[]⟩:St)
def nI(a0:TFunc)(i2:Int):=(bif (decide (((HJ a0 i2).End.Kind:Int)<0)) then true else(decide ((3:Int)<(HJ a0 i2).End.Kind)))
def ye(a0:TFunc):=(⟨[Zn,N8,(4,(JQ a0.Blocks.length)),(5,(AV.list 1 Kk [] ([]:J8) (.own 5005))),(6,La)],[(1,.row 25 (nJ a0)),(mj fL),(5005,.tok 1 22 (([]:J8).length))],[]⟩:St)
def yd(a0:TFunc)(l1:J8)(i2:Int):=(⟨[Zn,N8,(4,(JQ a0.Blocks.length)),(5,(rP l1 5005)),(6,(Z6 i2)),JS,(8,(AV.list 1 Am 0 ([]:Ao) (.own 5008))),(10,mi)],[(1,.row 25 (nJ a0)),(mj fL),(7,.row 46 [(.int .i64 (HJ a0 i2).End.Kind),(.int .i64 (HJ a0 i2).End.Arg),(AV.list 1 Am 0 (HJ a0 i2).End.To .none)]),(5005,.tok 1 22 l1.length),(5008,.tok 1 3 (([]:Ao).length))],[]⟩:St)
def Hk(a0:TFunc):Option iJ:=
 (bif (bif ((a0.Blocks.length:Int)==0) then true else(decide ((64:Int)<(a0.Blocks.length:Int)))) then(some ((⟨([]:J8),([]:J8)⟩:TGraph),(5:Int))) else((Ad (Cf a0) (([]:J8),(0:Int))).bind (λx23=>(match x23 with|(.inl l3)=>((H1 l3).bind λx25=>(some (x25.1,x25.2)))|(.inr r26)=>(some r26)))))
theorem Ow(h:Hk v0=some v16):sP 47 [(Yz v0)] [] (.tuple [(e8 v16.1),(Z6 v16.2)]) []:=
 sG Tryz.func47 λΓ q=>tW q Ng Ng DF Ng (tU q [1,2,4,19] Ng (c2 (gI (((v0.Blocks.length:Int)==0)==false)) (I4 ((v0.Blocks.length:Int)==0))) (gC h (λh=>gR q Cb [2] [(20,(.agg [FX,FX]))] [] (c1 (show(AVle wF (.agg [FX,FX])) from(AVle.agg (.cons Dv (.cons Dv .nil))))) (O6 kn (tS h (gK (e:=.ret) (H5 [] (show Le Γ _ wE from Le.trans (A8 (st':=kn) Cb [2] q) (Gu (.cons (AVle.refl _) (.cons (AVle.refl _) .nil)) (.row (.cons AVle.untag (.cons AVle.untag .nil)) .nil)))))))) λh=>gR q TZ Ng [(5,FX)] [] (c1 (Bc 1 Kk [])) (Ae q LQ Ng (M1 (st':=(ye v0)) (Le.trans (A8 (st':=⟨[Zn,N8,(4,(JQ v0.Blocks.length)),(5,FX),(6,La)],[(1,.row 25 (nJ v0)),(mj fL)],[]⟩) LQ Ng q) (Le.trans (Lb (t:=5) (nm:=5005) (sz':=1) (λi=>Kk (([]:J8).getD i [])) 22 rfl rfl (.inl ⟨rfl,rfl⟩) (λh_=>absurd h_ (by decide))) (A8 (st':=(ye v0)) LQ UD q))) (tL q h LQ UD (λu (l1,i2)=>(Cn u [(5,(rP l1 5005)),(6,(Z6 i2))] [(5005,.tok 1 22 l1.length)])) (λu x_=>match x_ with|(.inl l3)=>aG Γ (.exit 0) (Nc Tf [2,5005] u [(5,(rP l3 5005))] [(5005,.tok 1 22 l3.length)])|(.inr r_)=>aR (Uc Γ v0 r_)) (λ⟨l1,i2⟩ y h=>Ae q [1,2,4,5,6,23] UD (gC h (λh=>tV q [1,2,4,5,6,7] Zh h λh=>tC h λc5_ h=>gR q [1,2,4,5,6,7,50] Zh [(44,(AV.list 1 Am 0 ([(0:Int),(1:Int),(2:Int),(0:Int)]:Ao) .exact))] [] (J7 ((decide (((HJ v0 i2).End.Kind:Int)<0))==false) (ci (I4 (decide (((HJ v0 i2).End.Kind:Int)<0))) (J7 ((nI v0 i2)==false) (ci (show(((nI v0 i2)==false)=true->(AVle (.slice 1 4 (λi=>([[La],[mi],[(.int .i64 (2:Int))],[La]]:List (List AV)).getD i []) .exact) (AV.list 1 Am 0 ([(0:Int),(1:Int),(2:Int),(0:Int)]:Ao) .exact))) from(λhg=>@(Az 1 Am (0:Int) ([(0:Int),(1:Int),(2:Int),(0:Int)]:Ao)))) (Sh ((nI v0 i2)==false) (ci c5_ (Sh ((nI v0 i2)==false) (c1 (I4 (nI v0 i2)))))))))) (gC h (λh=>gR q Cb [2] [(51,(.agg [FX,FX]))] [] (c1 (show(AVle wF (.agg [FX,FX])) from(AVle.agg (.cons Dv (.cons Dv .nil))))) (O6 kn (tS h (gO (Mk (H5 [] (show Le Γ _ wE from Le.trans (A8 (st':=kn) Cb [2] q) (Gu (.cons (AVle.refl _) (.cons (AVle.refl _) .nil)) (.row (.cons AVle.untag (.cons AVle.untag .nil)) .nil))))))))) λh=>gR q iT Zh [(8,jK)] [] (c1 (Bc 1 Am (0:Int))) (Ae q iP Zh (tL q h iP Zh (λu i6=>(Cn u [(9,(Z6 i6))] [])) (λu x_=>match x_ with|(.inl _)=>aG Γ (.exit 2) (Nc iT Zh u [] [])|(.inr r_)=>aR (Uc Γ v0 r_)) (λi6 y h=>Ae q [1,2,4,5,6,7,8,9,56] Zh (gC h (λh=>tC h λc7_ h=>tC h λc8_ h=>tU q [1,2,4,5,6,7,8,9,73] Zh (ci c7_ (Sh ((wD v0 i2 i6)==false) (ci c8_ (Sh ((wD v0 i2 i6)==false) (c1 (I4 (wD v0 i2 i6))))))) (gC h (λh=>gR q Cb [2] [(74,(.agg [FX,FX]))] [] (c1 (show(AVle wF (.agg [FX,FX])) from(AVle.agg (.cons Dv (.cons Dv .nil))))) (O6 kn (tS h (gO (Mk (H5 [] (show Le Γ _ wE from Le.trans (A8 (st':=kn) Cb [2] q) (Gu (.cons (AVle.refl _) (.cons (AVle.refl _) .nil)) (.row (.cons AVle.untag (.cons AVle.untag .nil)) .nil))))))))) λh=>Ae q iP Zh (tN h))) λh=>tS h (gO (A3 (A8 iT Zh q))))) λx9 h=>(match x9,h with | .inl _,h=>gA (Ae q UL Zh (M1 (st':=(yd v0 l1 i2)) (Le.trans (A8 (st':=⟨[Zn,N8,(4,(JQ v0.Blocks.length)),(5,(rP l1 5005)),(6,(Z6 i2)),JS,(8,jK),(10,mi)],[(1,.row 25 (nJ v0)),(mj fL),(7,.row 46 [(.int .i64 (HJ v0 i2).End.Kind),(.int .i64 (HJ v0 i2).End.Arg),(AV.list 1 Am 0 (HJ v0 i2).End.To .none)]),(5005,.tok 1 22 l1.length)],[]⟩) UL Zh q) (Le.trans (Lb (t:=8) (nm:=5008) (sz':=1) (λi=>Am (([]:Ao).getD i 0)) 3 rfl rfl (.inl ⟨rfl,rfl⟩) (λh_=>absurd h_ (by decide))) (A8 (st':=(yd v0 l1 i2)) UL UN q))) (tL q h UL UN (λu (l11,i12)=>(Cn u [(8,(HL l11 5008)),(10,(Z6 i12))] [(Tq 5008 l11.length)])) (λu l13=>aG Γ (.exit 4) (Nc [1,2,4,5,6,8] [1,2,5005,5008] u [(8,(HL l13 5008))] [(Tq 5008 l13.length)])) (λ⟨l11,i12⟩ y h=>Ae q [1,2,4,5,6,7,8,10,77] UN (gC h (λh=>tB h λx17 y17 h=>gJ y17 (λl14=>aG Γ .normal (⟨[Zn,N8,(4,(JQ v0.Blocks.length)),(5,(rP l1 5005)),(6,(Z6 i2)),JS,(8,(HL l14 5008)),(10,(Z6 i12))],[(1,.row 25 (nJ v0)),(mj fL),(7,.row 46 [(.int .i64 (HJ v0 i2).End.Kind),(.int .i64 (HJ v0 i2).End.Arg),(AV.list 1 Am 0 (HJ v0 i2).End.To .none)]),(5005,.tok 1 22 l1.length),(Tq 5008 l14.length)],[]⟩:St)) (λy h=>tB h λx15 y15 h=>tT q [1,2,4,5,6,7,8,10,83] UN [(Z7 x15)] (c1 (N1 y15)) (gC h (λh=>tC h λc16_ h=>gR q UL UN [(86,(mh i12)),(87,(AV.list 1 Am 0 (l11++([i12]:Ao)) (.own 5008)))] [] (c5 (Az 1 Am (0:Int) ([i12]:Ao)) (Eq.refl l11.length) c16_ (Cu 1 5008 Am (0:Int) l11 ([i12]:Ao)) (Br l11 ([i12]:Ao))) (tS h (gK (A3 Gt)))) λh=>tS h (gK (A3 (A8 UL UN q))))) (gA (Ae q UL UN (tN h)))) λh=>tS h (gO (A3 (A8 [1,2,4,5,6,8] [1,2,5005,5008] q))))) λx19 h=>gA (tC h λc21_ h=>gR q LQ UD [(90,(AV.list 1 Kk [] ([x19]:J8) .exact)),(91,(AV.list 1 Kk [] (l1++([x19]:J8)) (.own 5005)))] [] (c5 (Az 1 Kk [] ([x19]:J8)) (Eq.refl l1.length) c21_ (Cu 1 5005 Kk [] l1 ([x19]:J8)) (Br l1 ([x19]:J8))) (Ae q LQ UD (tN h)))))) | .inr r22,h=>gAr (λst' hk=>tS h (gO (Mk hk)))))))) λh=>tS h (gO (A3 (A8 Tf [2,5005] q))))) λx23 h=>(match x23,h with | .inl l3,h=>gA (tB h λx25 y25 h=>tT q Cb [2] [(wg x25.1 x25.2)] (c1 (Rv y25)) (tS h (Bp []))) | .inr r26,h=>gAr (λst' hk=>tS h (gK hk))))))))
def A4(a4:TGraph)(aO:Int)(i6:Int):WJ->Option qg:=
 λ((i9,l10):WJ)=>(Aw (As i6 l10.length) (Aw (((l10.getD i6.toNat false)==true)=true->(As i6 a4.Succ.length)) (bif (bif (l10.getD i6.toNat false) then(decide (i9<((a4.Succ.getD i6.toNat []).length:Int))) else false) then(Option.bind (α:=List Bool) (Aw (As i6 a4.Succ.length) (Aw (As i9 (a4.Succ.getD i6.toNat []).length) (bif (((a4.Succ.getD i6.toNat []).getD i9.toNat 0)!=aO) then(Aw (As i6 a4.Succ.length) (Aw (As i9 (a4.Succ.getD i6.toNat []).length) (Aw (As ((a4.Succ.getD i6.toNat []).getD i9.toNat 0) l10.length) (some (l10.set ((a4.Succ.getD i6.toNat []).getD i9.toNat 0).toNat true))))) else(some l10)))) (λx20=>(some (.next ((w64 (i9+1)),x20))))) else(some (.done l10)))))
def A5(a4:TGraph)(aO:Int):WJ->Option qg:=
 λ((i6,l7):WJ)=>(bif (decide (i6<(l7.length:Int))) then((Ad (A4 a4 aO i6) ((0:Int),l7)).bind (λx22=>(some (.next ((w64 (i6+1)),x22))))) else(some (.done l7)))
def A6(a4:TGraph)(aO:Int):WJ->Option qg:=
 λ((i3,l4):WJ)=>(bif (decide (i3<(l4.length:Int))) then((Ad (A5 a4 aO) ((0:Int),l4)).bind (λx24=>(some (.next ((w64 (i3+1)),x24))))) else(some (.done l4)))
def yg(l10:List Bool)(i6:Int):=((l10.getD i6.toNat false)==true)
def JR(a4:TGraph):=(List.replicate (a4.Succ.length:Int).toNat false)
def kp(a4:TGraph):=(λi=>eB ((JR a4).getD i false))
def sI(a4:TGraph)(i6:Int)(i9:Int):=((a4.Succ.getD i6.toNat []).getD i9.toNat 0)
def Cx(a4:TGraph)(a1:Int)(aO:Int):Option (List Bool):=
 (Aw (0<=(a4.Succ.length:Int)/\(a4.Succ.length:Int)<=(a4.Succ.length:Int)/\(a4.Succ.length:Int)<=(room:Int)) (bif (a1==aO) then(some (List.replicate (a4.Succ.length:Int).toNat false)) else(Aw (As a1 (List.replicate (a4.Succ.length:Int).toNat false).length) ((Ad (A6 a4 aO) ((0:Int),((List.replicate (a4.Succ.length:Int).toNat false).set a1.toNat true))).bind (λx26=>(some x26))))))
variable{v18:TGraph}{v53:List Bool}
theorem Mg(h:Cx v18 v1 v11=some v53):sP 78 [(e8 v18),(Z6 v1),(Z6 v11)] [] (VE v53 20000) [(Sg 20000 v53.length)]:=
 sG Tryz.func78 λΓ q=>have hΓ:=q.own;gR q [1,2,3] [3] [(6,(AV.list 1 eB false ([]:List Bool) .exact))] [] (c1 (Bc 1 eB false)) (tV q [1,2,3,7] Lz h λh=>by exact M1 (Le.trans (Vf 14 (show ∀ k_,k_<((v18.Succ.length:Int).toNat)->AVleL ((λi_=>AV.eraseAll (λn_=>B3 n_ Lz) ((λ_=>[(.bool false)]) i_)) k_) ((kp v18) k_) from(λk hk=>Rb (e:=eB) (d:=false) (.cons (AVle.refl _) .nil) _ k (Ri hk)))) (Vg (λ(k_:Nat) u=>(Cn u [(V6 14 k_)] [(14,.arr 1 4 k_ (kp v18))])) (show(v18.Succ.length:Int).toNat=(JR v18).length from(S2 ..).symm))) (Ae q [1,2,3,7,17] Lz (gC h (λh=>Ae q [6] [14] (O6 (⟨[(6,(.vsl 14 (JR v18).length))],[(14,.arr 1 4 ((JR v18).length) (kp v18))],[]⟩:St) (tS h (gK (e:=.ret) (H5 jD (Le.trans (Gm (nm:=14) (sz:=1) (n:=((JR v18).length)) (e:=4) (f:=(kp v18)) (g:=(kp v18)) rfl ⟨rfl,trivial⟩ (λ_ _=>rfl) (by rw[hΓ];rfl)) (H6 (st':=⟨[(6,(VE (JR v18) 14))],[(14,.tok 1 4 ((JR v18).length))],[]⟩) (by kernel_rfl)))))))) λh=>tC h λc2_ h=>tU q [2,3,7] Lz (c2 c2_ (Eq.refl ((JR v18).length))) (M1 (Le.trans (Vf 14 (show ∀ k_,k_<((JR v18).length)->AVleL ((λi_=>AV.eraseAll (λn_=>B3 n_ Lz) ((Fb (kp v18) v1.toNat 0 [(.bool true)]) i_)) k_) ((λi=>eB (((JR v18).set v1.toNat true).getD i false)) k_) from(Bj (D0 ..).symm (λk_ hk_=>(Bl (AV.eraseAll (λn_=>B3 n_ Lz)) ((Hd (λ_ _=>rfl) (Jx c2_) rfl) k_ hk_)).trans rfl)))) (Vg (λ(k_:Nat) u=>(Cn u [(V6 14 k_)] [(14,.arr 1 4 k_ (λi=>eB (((JR v18).set v1.toNat true).getD i false)))])) (show(JR v18).length=((JR v18).set v1.toNat true).length from(D0 ..).symm))) (Ae q UE Lz (tL q h UE Lz (λu (i3,l4)=>(Cn u [(V6 14 l4.length),(8,(Z6 i3))] [(lA 14 l4)])) (λu l5=>aG Γ (.exit 0) (⟨[(V6 14 l5.length)],[(lA 14 l5)],[]⟩:St)) (λ⟨i3,l4⟩ y h=>Ae q [2,3,7,8,25] Lz (gC h (λh=>Ae q TS Lz (tL q h TS Lz (λu (i6,l7)=>(Cn u [(V6 14 l7.length),(9,(Z6 i6))] [(lA 14 l7)])) (λu l8=>aG Γ (.exit 2) (Nc UE Lz u [(V6 14 l8.length)] [(lA 14 l8)])) (λ⟨i6,l7⟩ y h=>Ae q [2,3,7,8,9,31] Lz (gC h (λh=>Ae q TH Lz (tL q h TH Lz (λu (i9,l10)=>(Cn u [(V6 14 l10.length),(10,(Z6 i9))] [(lA 14 l10)])) (λu l11=>aG Γ (.exit 4) (Nc TS Lz u [(V6 14 l11.length)] [(lA 14 l11)])) (λ⟨i9,l10⟩ y h=>tC h λc12_ h=>tC h λc13_ h=>tU q [2,3,7,8,9,10,47] Lz (PY c12_ (Eq.refl l10.length) (Sh (yg l10 i6) (ci c13_ (QH (yg l10 i6) (c1 (M7 (l10.getD i6.toNat false))))))) (gC h (λh=>tB h λx20 y20 h=>gJ y20 (λl14=>aG Γ .normal (⟨[(2,(Z6 v11)),JU,(V6 14 l14.length),(8,(Z6 i3)),(9,(Z6 i6)),(10,(Z6 i9))],[(3,.row 97 [(FY v18.Succ),(FY v18.Pred)]),(lA 14 l14)],[]⟩:St)) (λy h=>tC h λc15_ h=>tC h λc16_ h=>tU q [2,3,7,8,9,10,59] Lz (c2 c15_ c16_) (gC h (λh=>tC h λc17_ h=>tC h λc18_ h=>tC h λc19_ h=>tU q TH Lz (c4 c17_ c18_ c19_ (Eq.refl l10.length)) (tS h (gK (A3 (Le.trans (Le.trans (Vf 14 (show ∀ k_,k_<l10.length->AVleL ((λi_=>AV.eraseAll (λn_=>B3 n_ Lz) ((Fb (λi=>eB (l10.getD i false)) (sI v18 i6 i9).toNat 0 [(.bool true)]) i_)) k_) ((λi=>eB ((l10.set (sI v18 i6 i9).toNat true).getD i false)) k_) from(Bj (D0 ..).symm (λk_ hk_=>(Bl (AV.eraseAll (λn_=>B3 n_ Lz)) ((Hd (λ_ _=>rfl) (Jx c19_) rfl) k_ hk_)).trans rfl)))) (Vg (λ(k_:Nat) u=>(Cn u [(V6 14 k_)] [(14,.arr 1 4 k_ (λi=>eB ((l10.set (sI v18 i6 i9).toNat true).getD i false)))])) (show l10.length=(l10.set (sI v18 i6 i9).toNat true).length from(D0 ..).symm))) Gt))))) λh=>tS h (gK (A3 (A8 TH Lz q))))) (gA (Ae q TH Lz (tN h)))) λh=>tS h (gO (A3 (A8 TS Lz q))))) λx22 h=>gA (Ae q TS Lz (tN h)))) λh=>tS h (gO (A3 (A8 UE Lz q))))) λx24 h=>gA (Ae q UE Lz (tN h)))) λh=>tS h (gO (A3 (A8 [7] [14] q))))) λx26 h=>gA (Ae q [6] [14] (O6 (⟨[(6,(.vsl 14 x26.length))],[(lA 14 x26)],[]⟩:St) (tS h (gK (e:=.ret) (H5 jD (Le.trans (Gm (nm:=14) (sz:=1) (n:=x26.length) (e:=4) (f:=(λi=>eB (x26.getD i false))) (g:=(λi=>eB (x26.getD i false))) rfl ⟨rfl,trivial⟩ (λ_ _=>rfl) (by rw[hΓ];rfl)) (H6 (st':=⟨[(6,(VE x26 14))],[(Sg 14 x26.length)],[]⟩) (by kernel_rfl))))))))))))))
def E4(a0:TFunc)(x1:iJ)(i3:Int):Int->Option (LR Int (Unit ⊕ Bool)):=
 λ(i6:Int)=>(bif (decide (i6<(((a0.Blocks.getD i3.toNat default).Phis).length:Int))) then(Aw (As i6 ((a0.Blocks.getD i3.toNat default).Phis).length) (Aw (As i3 x1.1.Pred.length) ((Ck ((((a0.Blocks.getD i3.toNat default).Phis).getD i6.toNat default).From) (x1.1.Pred.getD i3.toNat [])).bind λx9=>(Aw (((!x9)==false)=true->(As i6 ((a0.Blocks.getD i3.toNat default).Phis).length)) (Aw (((!x9)==false)=true->(As i3 x1.1.Pred.length)) (bif (bif (!x9) then true else((((((a0.Blocks.getD i3.toNat default).Phis).getD i6.toNat default).Args).length:Int)!=((x1.1.Pred.getD i3.toNat []).length:Int))) then(some (.done (.inr false))) else(some (.next (w64 (i6+1)))))))))) else(some (.done (.inl ()))))
def E5(a0:TFunc)(x1:iJ)(x2:List Bool):Int->Option (LR Int (Unit ⊕ Bool)):=
 λ(i3:Int)=>(bif (decide (i3<(a0.Blocks.length:Int))) then(Aw (As i3 a0.Blocks.length) (Aw (As i3 x2.length) (bif (bif (!(x2.getD i3.toNat false)) then true else(bif (bif (((a0.Blocks.getD i3.toNat default).End.Kind:Int)==1) then true else(((a0.Blocks.getD i3.toNat default).End.Kind:Int)==3)) then(((a0.Blocks.getD i3.toNat default).End.Arg:Int)!=0) else false)) then(some (.done (.inr false))) else((Ad (E4 a0 x1 i3) (0:Int)).bind (λx12=>(match x12 with|(.inl _)=>(some (.next (w64 (i3+1))))|(.inr r14)=>(some (.done (.inr r14))))))))) else(some (.done (.inl ()))))
def Rr(Γ:H4)(a0:TFunc)(r:Bool):Exit->St->Prop:=fK Tryz.prog Γ Tryz.f41.results.toList [] (.bool r) []
def ZI(x2:List Bool)(i3:Int):=((!(x2.getD i3.toNat false))==false)
def fM(a0:TFunc)(i3:Int):=((a0.Blocks.getD i3.toNat default).End.Kind:Int)
def yh(x2:List Bool)(i3:Int)(a0:TFunc):=((ZI x2 i3)&&((bif ((fM a0 i3)==1) then true else((fM a0 i3)==3))==true))
def J4(a0:TFunc):Option Bool:=
 ((Hk a0).bind λx1=>(bif (x1.2 !=0) then(some false) else((Cx x1.1 (0:Int) (-1:Int)).bind λx2=>((Ad (E5 a0 x1 x2) (0:Int)).bind (λx15=>(match x15 with|(.inl _)=>(some true)|(.inr r17)=>(some r17)))))))
theorem Yi(h:J4 v0=some v3):sP 41 [(Yz v0)] [] (.bool v3) []:=
 sG Tryz.func41 λΓ q=>Ae q [1] [1] (tB h λx1 y1 h=>tT q Ho Iz [(wg x1.1 x1.2)] (c1 (Ow y1)) (Ae q [1,3,15] Iz (gC h (λh=>Ae q [2] [] (tS h (Bp []))) λh=>tB h λx2 y2 h=>tT q HC HA [⟨[],[(20000,17)],(VE x2 20000),[(Sg 20000 x2.length)],[],[]⟩] (c1 (Mg y2)) (Ae q JL HA (tL q h JL HA (λu i3=>(Cn u [(6,(Z6 i3))] [])) (λu x_=>match x_ with|(.inl _)=>aG Γ (.exit 0) (⟨[],[],[]⟩:St)|(.inr r_)=>aR (Rr Γ v0 r_)) (λi3 y h=>Ae q [1,3,5,6,22] HA (gC h (λh=>tV q TT GY h λh=>tC h λc5_ h=>tU q [1,3,5,6,7,52] GY (ci c5_ (QH (ZI x2 i3) (Sh ((ZI x2 i3)&&(((fM v0 i3)==1)==false)) (bv (gI (ZI x2 i3)) (show((ZI x2 i3)=true->(((fM v0 i3)==1)=false->((ZI x2 i3)&&(((fM v0 i3)==1)==false))=true)) from(λhg=>(aF hg))) (gI (ZI x2 i3)) (Sh (yh x2 i3 v0) (c3 (gI (ZI x2 i3)) (show((ZI x2 i3)=true->((bif ((fM v0 i3)==1) then true else((fM v0 i3)==3))=true->(yh x2 i3 v0)=true)) from(λhg=>(aT hg))) (I4 (!(x2.getD i3.toNat false))))))))) (gC h (λh=>Ae q [2] [] (tS h (gO (Mk (H5 [] (Le.refl _ _)))))) λh=>Ae q ia GY (tL q h ia GY (λu i6=>(Cn u [(8,(Z6 i6))] [])) (λu x_=>match x_ with|(.inl _)=>aG Γ (.exit 2) (Nc JL HA u [] [])|(.inr r_)=>aR (Rr Γ v0 r_)) (λi6 y h=>Ae q [1,3,5,6,7,8,57] GY (gC h (λh=>tC h λc7_ h=>tC h λc8_ h=>tB h λx9 y9 h=>tC h λc10_ h=>tC h λc11_ h=>tT q [1,3,5,6,7,8,88] GY [(Z7 x9)] (bv c7_ c8_ (Hb y9) (Sh ((!x9)==false) (ci c10_ (gI6 ((!x9)==false) (ci c11_ (QH ((!x9)==false) (c1 (I4 (!x9))))))))) (gC h (λh=>Ae q [2] [] (tS h (gO (Mk (H5 [] (Le.refl _ _)))))) λh=>Ae q ia GY (tN h))) λh=>tS h (gO (A3 (A8 JL HA q))))) λx12 h=>(match x12,h with | .inl _,h=>gA (Ae q JL HA (tN h)) | .inr r14,h=>gAr (λst' hk=>tS h (gO (Mk hk))))))) λh=>tS h (gO (A3 (A8 [] [] q))))) λx15 h=>(match x15,h with | .inl _,h=>gA (Ae q [2] [] (tS h (Bp []))) | .inr r17,h=>gAr (λst' hk=>tS h (gK hk))))))))
def sJ(aI:Int):=(bif (bif (aI==1) then true else(aI==8)) then true else(aI==16))
def Cz(aI:Int):Option Bool:=
 (some (bif (bif (bif (bif (aI==1) then true else(aI==8)) then true else(aI==16)) then true else(aI==32)) then true else(aI==64)))
theorem Eb(h:Cz v1=some v3):sP 79 [(Z6 v1)] [] (.bool v3) []:=
 sG Tryz.func79 λΓ q=>Ae q [0] [] (tU q [2] [] (c8 (gI ((v1==1)==false)) (I4 (v1==1)) (gI ((bif (v1==1) then true else(v1==8))==false)) (I4 (bif (v1==1) then true else(v1==8))) (gI ((sJ v1)==false)) (I4 (sJ v1)) (gI ((bif (sJ v1) then true else(v1==32))==false)) (I4 (bif (sJ v1) then true else(v1==32)))) (tS h (Bp [])))
def nK(aV:Int):=(bif (aV==2) then true else(aV==4))
def wG(aV:Int):=(bif (bif (nK aV) then true else(aV==8)) then true else(aV==16))
def yi(aV:Int)(aI:Int):=(bif (wG aV) then(decide ((1:Int)<aI)) else false)
def J2(aI:Int)(aV:Int):Option Bool:=
 ((Cz aI).bind λx1=>(bif (!x1) then(some false) else(bif (aV==1) then(some true) else(some (bif (bif (bif (bif (bif (aV==2) then true else(aV==4)) then true else(aV==8)) then true else(aV==16)) then(decide ((1:Int)<aI)) else false) then(decide (((w64 (aI*aV)):Int)<=128)) else false)))))
theorem Yd(h:J2 v1 v11=some v3):sP 136 [(Z6 v1),(Z6 v11)] [] (.bool v3) []:=
 sG Tryz.func136 λΓ q=>Ae q Fe [] (tB h λx1 y1 h=>tT q [0,1,7] [] [(Z7 x1)] (c1 (Eb y1)) (gC h (λh=>Ae q [4] [] (tS h (Bp []))) λh=>Ae q [0,1,9] [] (gC h (λh=>Ae q [4] [] (tS h (Bp []))) λh=>tU q [4] [] (d8_ (gI ((v11==2)==false)) (I4 (v11==2)) (gI ((nK v11)==false)) (I4 (nK v11)) (gI ((bif (nK v11) then true else(v11==8))==false)) (I4 (bif (nK v11) then true else(v11==8))) (gI ((wG v11)==true)) (M7 (wG v11)) (Sh ((yi v11 v1)==true) (c1 (M7 (yi v11 v1))))) (tS h (Bp [])))))
def wH(a2:A2):List OM:=[(1,.row 51 (vO a2.Kind a2.Bits a2.Lanes a2.Dst a2.Args a2.Imm))]
def Kw(a2:A2):Option Int:=
 (bif (a2.Kind==0) then(some (0:Int)) else(Option.bind (α:=Bool) (bif (a2.Kind==1) then(some (a2.Kind==1)) else(bif (a2.Kind==2) then(some (a2.Kind==2)) else(bif (a2.Kind==3) then(some (a2.Kind==3)) else(bif (a2.Kind==4) then(some (a2.Kind==4)) else(bif (a2.Kind==5) then(some (a2.Kind==5)) else(bif (a2.Kind==6) then(some (a2.Kind==6)) else(bif (a2.Kind==7) then(some (a2.Kind==7)) else(bif (a2.Kind==8) then(some (a2.Kind==8)) else(bif (a2.Kind==9) then(some (a2.Kind==9)) else(bif (a2.Kind==10) then(some (a2.Kind==10)) else(bif (a2.Kind==11) then(some (a2.Kind==11)) else(bif (a2.Kind==12) then(some (a2.Kind==12)) else(some (a2.Kind==17)))))))))))))) (λx2=>(bif x2 then(some (2:Int)) else(Option.bind (α:=Bool) (bif (a2.Kind==13) then(some (a2.Kind==13)) else(bif (a2.Kind==18) then(some (a2.Kind==18)) else(some (a2.Kind==19)))) (λx5=>(bif x5 then(some (3:Int)) else(Option.bind (α:=Bool) (bif (a2.Kind==14) then(some (a2.Kind==14)) else(bif (a2.Kind==15) then(some (a2.Kind==15)) else(bif (a2.Kind==16) then(some (a2.Kind==16)) else(some (a2.Kind==22))))) (λx8=>(bif x8 then(some (1:Int)) else(bif (a2.Kind==20) then(some (4:Int)) else(bif (a2.Kind==21) then(some a2.Lanes) else(some (-1:Int))))))))))))))
variable{v6:A2}
theorem Zx(h:Kw v6=some v1):sP 137 [(UU v6)] [] (.int .i64 v1) []:=
 sG Tryz.func137 λΓ q=>tW q [1] [1] R3 [1] (Ae q [1,4,5] [1] (gC h (λh=>Ae q [2] [] (tS h (Bp []))) λh=>tB h λx2 y2 h=>gJ y2 (λb1=>aG Γ .normal (⟨[Zn,(4,(Z6 v6.Kind)),(7,(.bool b1))],(wH v6),[]⟩:St)) (λy h=>Ae q Xk [1] (gC h (λh=>tS h (gK (A3 Gt))) λh=>Ae q Xk [1] (gC h (λh=>tS h (gK (A3 Gt))) λh=>Ae q Xk [1] (gC h (λh=>tS h (gK (A3 Gt))) λh=>Ae q Xk [1] (gC h (λh=>tS h (gK (A3 Gt))) λh=>Ae q Xk [1] (gC h (λh=>tS h (gK (A3 Gt))) λh=>Ae q Xk [1] (gC h (λh=>tS h (gK (A3 Gt))) λh=>Ae q Xk [1] (gC h (λh=>tS h (gK (A3 Gt))) λh=>Ae q Xk [1] (gC h (λh=>tS h (gK (A3 Gt))) λh=>Ae q Xk [1] (gC h (λh=>tS h (gK (A3 Gt))) λh=>Ae q Xk [1] (gC h (λh=>tS h (gK (A3 Gt))) λh=>Ae q Xk [1] (gC h (λh=>tS h (gK (A3 Gt))) λh=>Ae q Xk [1] (gC h (λh=>tS h (gK (A3 Gt))) λh=>Ae q Xk [1] (tS h (gK (A3 Gt)))))))))))))))) (gA (gC h (λh=>Ae q [2] [] (tS h (Bp []))) λh=>tB h λx5 y5 h=>gJ y5 (λb4=>aG Γ .normal (⟨[Zn,(4,(Z6 v6.Kind)),(21,(.bool b4))],(wH v6),[]⟩:St)) (λy h=>Ae q [1,4,21] [1] (gC h (λh=>tS h (gK (A3 Gt))) λh=>Ae q [1,4,21] [1] (gC h (λh=>tS h (gK (A3 Gt))) λh=>Ae q [1,4,21] [1] (tS h (gK (A3 Gt)))))) (gA (gC h (λh=>Ae q [2] [] (tS h (Bp []))) λh=>tB h λx8 y8 h=>gJ y8 (λb7=>aG Γ .normal (⟨[Zn,(4,(Z6 v6.Kind)),(25,(.bool b7))],(wH v6),[]⟩:St)) (λy h=>Ae q [1,4,25] [1] (gC h (λh=>tS h (gK (A3 Gt))) λh=>Ae q [1,4,25] [1] (gC h (λh=>tS h (gK (A3 Gt))) λh=>Ae q [1,4,25] [1] (gC h (λh=>tS h (gK (A3 Gt))) λh=>Ae q [1,4,25] [1] (tS h (gK (A3 Gt))))))) (gA (gC h (λh=>Ae q [2] [] (tS h (Bp []))) λh=>Ae q [1,4,30] [1] (gC h (λh=>Ae q [2] [] (tS h (Bp []))) λh=>Ae q [1,32] [1] (gC h (λh=>Ae q [2] [] (tS h (Bp []))) λh=>Ae q [2] [] (tS h (Bp []))))))))))))
def Lp(aC:Int)(aI:Int):Option Int:=
 ((Cz aI).bind λx1=>(bif (!x1) then(some (0:Int)) else(bif (aI==64) then(some aC) else(Aw (0<=(Fj aI)) (Aw ((SK .u64 (1:Int) (Fj aI))≠0) (some (Int.tmod aC (SK .u64 (1:Int) (Fj aI)))))))))
theorem CA(h:Lp v1 v11=some v20):sP 174 [(JV v1),(Z6 v11)] [] (.int .u64 v20) []:=
 sG Tryz.func174 λΓ q=>Ae q Fe [] (tB h λx1 y1 h=>tT q [0,1,7] [] [(Z7 x1)] (c1 (Eb y1)) (gC h (λh=>Ae q [4] [] (tS h (Bp []))) λh=>Ae q [0,1,9] [] (gC h (λh=>Ae q [4] [] (tS h (Bp []))) λh=>tC h λc2_ h=>tC h λc3_ h=>tU q [4] [] (c2 c2_ c3_) (tS h (Bp [])))))
def AM(Γ:H4)(a2:A2)(r:Bool):Exit->St->Prop:=fK Tryz.prog Γ Tryz.f138.results.toList [] (.bool r) []
def yj(a2:A2):=(a2.Kind==15)
def nM(a2:A2):=((a2.Kind==4)==false)
def wK(a2:A2):=(decide (a2.Imm<(Fj a2.Bits)))
def wM(a2:A2):=(bif (a2.Kind==4) then true else(bif (decide ((10:Int)<=a2.Kind)) then(decide (a2.Kind<=12)) else false))
def sK(a2:A2):=(bif (wM a2) then true else(a2.Kind==14))
def nN(a2:A2):=((bif (sK a2) then true else(yj a2))==false)
def wL(a2:A2):=(bif (decide ((16:Int)<=a2.Kind)) then(decide (a2.Kind<=19)) else false)
def nL(a2:A2):=(bif (wL a2) then(decide (a2.Bits<8)) else false)
def yk(a2:A2):=(((nL a2)==false)&&((decide ((21:Int)<=a2.Kind))==true))
def wI(a2:A2):=(bif (decide (((Fj a2.Bits):Int)<a2.Imm)) then(decide (a2.Imm<=64)) else false)
def Ft(a2:A2):Option Bool:=
 (Option.bind (α:=(Unit ⊕ Bool)) (bif (bif (bif (bif (bif (a2.Kind==4) then true else(bif (decide ((10:Int)<=a2.Kind)) then(decide (a2.Kind<=12)) else false)) then true else(a2.Kind==14)) then true else(a2.Kind==15)) then true else(bif (decide ((18:Int)<=a2.Kind)) then(decide (a2.Kind<=20)) else false)) then(bif (a2.Lanes !=1) then(some (.inr false)) else(some (.inl ()))) else(some (.inl ()))) (λx1=>(match x1 with|(.inl _)=>(bif (bif (bif (bif (decide ((16:Int)<=a2.Kind)) then(decide (a2.Kind<=19)) else false) then(decide (a2.Bits<8)) else false) then true else(bif (decide ((21:Int)<=a2.Kind)) then(decide (a2.Lanes<2)) else false)) then(some false) else(bif (a2.Kind==0) then((Lp a2.Imm a2.Bits).bind λx3=>(some (x3==a2.Imm))) else(bif (a2.Kind==14) then((bif ((decide (a2.Imm<(Fj a2.Bits)))==true) then Cz (w64 a2.Imm) else some false).bind λx4=>(some (bif (decide (a2.Imm<(Fj a2.Bits))) then x4 else false))) else(bif (a2.Kind==15) then((bif ((bif (decide (((Fj a2.Bits):Int)<a2.Imm)) then(decide (a2.Imm<=64)) else false)==true) then Cz (w64 a2.Imm) else some false).bind λx5=>(some (bif (bif (decide (((Fj a2.Bits):Int)<a2.Imm)) then(decide (a2.Imm<=64)) else false) then x5 else false))) else(bif (a2.Kind==22) then(some (decide (a2.Imm<(Fj a2.Lanes)))) else(some (a2.Imm==0)))))))|(.inr r6)=>(some r6))))
theorem Zy(h:Ft v6=some v3):sP 138 [(UU v6)] [] (.bool v3) []:=
 sG Tryz.func138 λΓ q=>tW q [1] [1] Iz [1] (tB h λx1 y1 h=>gJ y1 (λx_=>match x_ with|(.inl _)=>aG Γ .normal (⟨[Zn,(3,(Z6 v6.Kind))],[(1,.row 51 (vO v6.Kind v6.Bits v6.Lanes v6.Dst v6.Args v6.Imm))],[]⟩:St)|(.inr r_)=>aR (AM Γ v6 r_)) (λy h=>tU q [1,3,31] [1] (J7 (nM v6) (d8_ (gI ((nM v6)&&((decide ((10:Int)<=v6.Kind))==true))) (gI (nM v6)) (show((nM v6)=true->((decide ((10:Int)<=v6.Kind))=true->((nM v6)&&((decide ((10:Int)<=v6.Kind))==true))=true)) from(λhg=>(aT hg))) (I4 (v6.Kind==4)) (gI ((wM v6)==false)) (I4 (wM v6)) (gI ((sK v6)==false)) (I4 (sK v6)) (J7 (nN v6) (c4 (gI ((nN v6)&&((decide ((18:Int)<=v6.Kind))==true))) (gI (nN v6)) (show((nN v6)=true->((decide ((18:Int)<=v6.Kind))=true->((nN v6)&&((decide ((18:Int)<=v6.Kind))==true))=true)) from(λhg=>(aT hg))) (I4 (bif (sK v6) then true else(yj v6))))))) (gC h (λh=>Ae q [1,3,34] [1] (gC h (λh=>Ae q [2] [] (tS h (gK (Mk (H5 [] (Le.refl _ _)))))) λh=>tS h (gK (A3 (A8 Iz [1] q))))) λh=>tS h (gK (A3 (A8 Iz [1] q))))) (match x1,h with | .inl _,h=>gA (tU q [1,3,54] [1] (PY (gI ((decide ((16:Int)<=v6.Kind))==true)) (M7 (decide ((16:Int)<=v6.Kind))) (J7 ((wL v6)==true) (ci (M7 (wL v6)) (J7 ((nL v6)==false) (J7 (yk v6) (c3 (gI ((nL v6)==false)) (show(((nL v6)==false)=true->((decide ((21:Int)<=v6.Kind))=true->(yk v6)=true)) from(λhg=>(aT hg))) (I4 (nL v6)))))))) (gC h (λh=>Ae q [2] [] (tS h (Bp []))) λh=>tW q [1,55] [1] [1,55,56] [1] (gC h (λh=>tB h λx3 y3 h=>tT q [2] [] [⟨[],[],(JV x3),[],[],[]⟩] (c1 (CA y3)) (tS h (Bp []))) λh=>Ae q [1,55,66] [1] (gC h (λh=>tB h λx4 y4 h=>tT q [2] [] [(Z7 x4)] (Sh ((wK v6)==true) (c2 (λ(hg:((wK v6)==true)=true)=>(Eb (Ba hg y4))) (M7 (wK v6)))) (tS h (Bp []))) λh=>Ae q [1,55,80] [1] (gC h (λh=>tB h λx5 y5 h=>tT q [2] [] [(Z7 x5)] (J7 ((decide (((Fj v6.Bits):Int)<v6.Imm))==true) (ci (M7 (decide (((Fj v6.Bits):Int)<v6.Imm))) (Sh ((wI v6)==true) (c2 (λ(hg:((wI v6)==true)=true)=>(Eb (Ba hg y5))) (M7 (wI v6)))))) (tS h (Bp []))) λh=>Ae q [1,99] [1] (gC h (λh=>Ae q [2] [] (tS h (Bp []))) λh=>Ae q [2] [] (tS h (Bp [])))))))) | .inr r6,h=>gAr (λst' hk=>tS h (gK hk))))
def Ex(aC:Int):Option Bool:=
 (some (bif (decide ((0:Int)<aC)) then(decide (aC<1024)) else false))
theorem Mf(h:Ex v1=some v3):sP 44 [(Z6 v1)] [] (.bool v3) []:=
 sG Tryz.func44 λΓ q=>Ae q [0] [] (tU q [2] [] (c2 (gI ((decide ((0:Int)<v1))==true)) (M7 (decide ((0:Int)<v1)))) (tS h (Bp [])))
def Gf(a2:A2):Int->Option (LR Int (Unit ⊕ Bool)):=
 λ(i4:Int)=>(bif (decide (i4<(a2.Args.length:Int))) then(Aw (As i4 a2.Args.length) ((Ex (a2.Args.getD i4.toNat 0)).bind λx6=>(bif (!x6) then(some (.done (.inr false))) else(some (.next (w64 (i4+1))))))) else(some (.done (.inl ()))))
def EM(Γ:H4)(a2:A2)(r:Bool):Exit->St->Prop:=fK Tryz.prog Γ Tryz.f80.results.toList [] (.bool r) []
def sL(x1:Bool)(x2:Int)(a2:A2):=(bif (!x1) then true else(x2 !=(a2.Args.length:Int)))
def Gp(a2:A2):Option Bool:=
 ((J2 a2.Bits a2.Lanes).bind λx1=>((bif ((!x1)==false) then Kw a2 else some (0:Int)).bind λx2=>((bif ((bif (!x1) then true else(x2 !=(a2.Args.length:Int)))==false) then Ft a2 else some false).bind λx3=>(bif (bif (bif (!x1) then true else(x2 !=(a2.Args.length:Int))) then true else(!x3)) then(some false) else((Ad (Gf a2) (0:Int)).bind (λx7=>(match x7 with|(.inl _)=>(bif (bif (a2.Kind==17) then true else(a2.Kind==19)) then(some (a2.Dst==0)) else((Ex a2.Dst).bind λx9=>(some x9)))|(.inr r10)=>(some r10))))))))
theorem N0(h:Gp v6=some v3):sP 80 [(UU v6)] [] (.bool v3) []:=
 sG Tryz.func80 λΓ q=>Ae q [1] [1] (tB h λx1 y1 h=>tB h λx2 y2 h=>tB h λx3 y3 h=>tT q [1,22] [1] [(Z7 x1),(JP x2),(Z7 x3)] (bv (Yd y1) (gI ((!x1)==false)) (λ(hg:((!x1)==false)=true)=>(Zx (Ba hg y2))) (QH ((!x1)==false) (c5 (I4 (!x1)) (gI ((sL x1 x2 v6)==false)) (λ(hg:((sL x1 x2 v6)==false)=true)=>(Zy (Ba hg y3))) (gI ((sL x1 x2 v6)==false)) (I4 (sL x1 x2 v6))))) (gC h (λh=>Ae q [2] [] (tS h (Bp []))) λh=>Ae q Iz [1] (tL q h Iz [1] (λu i4=>(Cn u [(3,(Z6 i4))] [])) (λu x_=>match x_ with|(.inl _)=>aG Γ (.exit 0) (Nc [1] [1] u [] [])|(.inr r_)=>aR (EM Γ v6 r_)) (λi4 y h=>Ae q [1,3,27] [1] (gC h (λh=>tC h λc5_ h=>tB h λx6 y6 h=>tT q [1,3,36] [1] [(Z7 x6)] (c2 c5_ (Mf y6)) (gC h (λh=>Ae q [2] [] (tS h (gO (Mk (H5 [] (Le.refl _ _)))))) λh=>Ae q Iz [1] (tN h))) λh=>tS h (gO (A3 (A8 [1] [1] q))))) λx7 h=>(match x7,h with | .inl _,h=>gA (tU q [1,44] [1] (J7 ((v6.Kind==17)==false) (c1 (I4 (v6.Kind==17)))) (gC h (λh=>Ae q [2] [] (tS h (Bp []))) λh=>tB h λx9 y9 h=>tT q [2] [] [(Z7 x9)] (c1 (Mf y9)) (tS h (Bp [])))) | .inr r10,h=>gAr (λst' hk=>tS h (gK hk))))))
def E6(a0:TFunc):Int->Option (LR Int (Unit ⊕ Bool)):=
 λ(i1:Int)=>(bif (decide (i1<(a0.Params.length:Int))) then(Aw (As i1 a0.Params.length) ((Cz (a0.Params.getD i1.toNat 0)).bind λx3=>(bif (!x3) then(some (.done (.inr false))) else(some (.next (w64 (i1+1))))))) else(some (.done (.inl ()))))
def Do(a0:TFunc)(i6:Int):Int->Option (LR Int (Unit ⊕ Bool)):=
 λ(i7:Int)=>(Aw (As i6 a0.Blocks.length) (bif (decide (i7<(((a0.Blocks.getD i6.toNat default).Phis).length:Int))) then(Aw (As i6 a0.Blocks.length) (Aw (As i7 ((a0.Blocks.getD i6.toNat default).Phis).length) ((Cz ((((a0.Blocks.getD i6.toNat default).Phis).getD i7.toNat default).Bits)).bind λx11=>(bif (!x11) then(some (.done (.inr false))) else(some (.next (w64 (i7+1)))))))) else(some (.done (.inl ())))))
def Dp(a0:TFunc)(a1:Int)(i6:Int):Int->Option (LR Int (Unit ⊕ Bool)):=
 λ(i14:Int)=>(Aw (As i6 a0.Blocks.length) (bif (decide (i14<(((a0.Blocks.getD i6.toNat default).Ops).length:Int))) then(Aw (As i6 a0.Blocks.length) (Aw (As i14 ((a0.Blocks.getD i6.toNat default).Ops).length) (Option.bind (α:=Int) (bif (a1==1) then(some (20:Int)) else(some (22:Int))) (λx19=>(Option.bind (α:=Int) (bif (a1==0) then(some (17:Int)) else(some x19)) (λx22=>((Gp (((a0.Blocks.getD i6.toNat default).Ops).getD i14.toNat default)).bind λx24=>(bif (bif (bif (!x24) then true else(decide (x22<(((a0.Blocks.getD i6.toNat default).Ops).getD i14.toNat default).Kind))) then true else(bif (decide (a1<2)) then(decide ((1:Int)<(((a0.Blocks.getD i6.toNat default).Ops).getD i14.toNat default).Lanes)) else false)) then(some (.done (.inr false))) else(some (.next (w64 (i14+1)))))))))))) else(some (.done (.inl ())))))
def E7(a0:TFunc)(a1:Int):Int->Option (LR Int (Unit ⊕ Bool)):=
 λ(i6:Int)=>(bif (decide (i6<(a0.Blocks.length:Int))) then((Ad (Do a0 i6) (0:Int)).bind (λx12=>(match x12 with|(.inl _)=>((Ad (Dp a0 a1 i6) (0:Int)).bind (λx25=>(match x25 with|(.inl _)=>(some (.next (w64 (i6+1))))|(.inr r27)=>(some (.done (.inr r27))))))|(.inr r28)=>(some (.done (.inr r28)))))) else(some (.done (.inl ()))))
def Jw(Γ:H4)(a0:TFunc)(a1:Int)(r:Bool):Exit->St->Prop:=fK Tryz.prog Γ Tryz.f42.results.toList [] (.bool r) []
def fN(a0:TFunc)(i6:Int)(i14:Int):=(((a0.Blocks.getD i6.toNat default).Ops).getD i14.toNat default)
def kq(x24:Bool)(x22:Int)(a0:TFunc)(i6:Int)(i14:Int):=(bif (!x24) then true else(decide (x22<(fN a0 i6 i14).Kind)))
def Aa9(a0:TFunc):List AV:=(Z5 a0.Params a0.Ret a0.Blocks)
def yl(a0:TFunc)(i6:Int)(i14:Int):List OM:=[(L5 25 (Aa9 a0)),(9,.row 51 [(.int .i64 (fN a0 i6 i14).Kind),(.int .i64 (fN a0 i6 i14).Bits),(.int .i64 (fN a0 i6 i14).Lanes),(.int .i64 (fN a0 i6 i14).Dst),(AV.list 1 Am 0 (fN a0 i6 i14).Args .none),(.int .u64 (fN a0 i6 i14).Imm)])]
def J5(a0:TFunc)(a1:Int):Option Bool:=
 ((Ad (E6 a0) (0:Int)).bind (λx4=>(match x4 with|(.inl _)=>((Ad (E7 a0 a1) (0:Int)).bind (λx29=>(match x29 with|(.inl _)=>((Cz a0.Ret).bind λx31=>(some x31))|(.inr r32)=>(some r32))))|(.inr r33)=>(some r33))))
theorem Yj(h:J5 v0 v1=some v3):sP 42 [(Yz v0),(Z6 v1)] [] (.bool v3) []:=
 sG Tryz.func42 λΓ q=>tW q Ng [2] Wm [2] (tL q h Wm [2] (λu i1=>(Cn u [(5,(Z6 i1))] [])) (λu x_=>match x_ with|(.inl _)=>aG Γ (.exit 0) (Nc Ng [2] u [] [])|(.inr r_)=>aR (Jw Γ v0 v1 r_)) (λi1 y h=>Ae q [1,2,5,15] [2] (gC h (λh=>tC h λc2_ h=>tB h λx3 y3 h=>tT q [1,2,5,24] [2] [(Z7 x3)] (c2 c2_ (Eb y3)) (gC h (λh=>Ae q [4] [] (tS h (gO (Mk (H5 [] (Le.refl _ _)))))) λh=>Ae q Wm [2] (tN h))) λh=>tS h (gO (A3 (A8 Ng [2] q))))) λx4 h=>(match x4,h with | .inl _,h=>gA (Ae q HE [2] (tL q h HE [2] (λu i6=>(Cn u [(6,(Z6 i6))] [])) (λu x_=>match x_ with|(.inl _)=>aG Γ (.exit 2) (Nc [2] [2] u [] [])|(.inr r_)=>aR (Jw Γ v0 v1 r_)) (λi6 y h=>Ae q [1,2,6,29] [2] (gC h (λh=>Ae q [1,2,6,7] [2] (tL q h [1,2,6,7] [2] (λu i7=>(Cn u [(7,(Z6 i7))] [])) (λu x_=>match x_ with|(.inl _)=>aG Γ (.exit 4) (Nc HE [2] u [] [])|(.inr r_)=>aR (Jw Γ v0 v1 r_)) (λi7 y h=>tV q [1,2,6,7,40] [2] h λh=>gC h (λh=>tC h λc9_ h=>tC h λc10_ h=>tB h λx11 y11 h=>tT q [1,2,6,7,54] [2] [(Z7 x11)] (c3 c9_ c10_ (Eb y11)) (gC h (λh=>Ae q [4] [] (tS h (gO (Mk (H5 [] (Le.refl _ _)))))) λh=>Ae q [1,2,6,7] [2] (tN h))) λh=>tS h (gO (A3 (A8 HE [2] q)))) λx12 h=>(match x12,h with | .inl _,h=>gA (Ae q [1,2,6,8] [2] (tL q h [1,2,6,8] [2] (λu i14=>(Cn u [(8,(Z6 i14))] [])) (λu x_=>match x_ with|(.inl _)=>aG Γ (.exit 6) (Nc HE [2] u [] [])|(.inr r_)=>aR (Jw Γ v0 v1 r_)) (λi14 y h=>tV q [1,2,6,8,63] [2] h λh=>gC h (λh=>tC h λc16_ h=>tC h λc17_ h=>tU q [1,2,6,8,9] [2,9] (c2 c16_ c17_) (Ae q TI [2,9] (tB h λx19 y19 h=>gJ y19 (λi18=>aG Γ .normal (⟨[(1,(Z6 v1)),N8,(6,(Z6 i6)),(8,(Z6 i14)),(9,(.ptr 9 0)),(10,(Z6 i18))],(yl v0 i6 i14),[]⟩:St)) (λy h=>Ae q [1,2,6,8,9,10,76] [2,9] (gC h (λh=>Ae q TI [2,9] (tS h (gK (A3 Gt)))) λh=>tS h (gK (A3 (A8 TI [2,9] q))))) (gA (tB h λx22 y22 h=>gJ y22 (λi21=>aG Γ .normal (⟨[(1,(Z6 v1)),N8,(6,(Z6 i6)),(8,(Z6 i14)),(9,(.ptr 9 0)),(10,(Z6 i21))],(yl v0 i6 i14),[]⟩:St)) (λy h=>Ae q [1,2,6,8,9,10,78] [2,9] (gC h (λh=>Ae q TI [2,9] (tS h (gK (A3 Gt)))) λh=>tS h (gK (A3 (A8 TI [2,9] q))))) (gA (tB h λx24 y24 h=>tT q [1,2,6,8,96] [2] [(Z7 x24)] (ci (N0 y24) (Sh ((!x24)==false) (ci (I4 (!x24)) (J7 ((kq x24 x22 v0 i6 i14)==false) (J7 (((kq x24 x22 v0 i6 i14)==false)&&((decide (v1<2))==true)) (c3 (gI ((kq x24 x22 v0 i6 i14)==false)) (show(((kq x24 x22 v0 i6 i14)==false)=true->((decide (v1<2))=true->(((kq x24 x22 v0 i6 i14)==false)&&((decide (v1<2))==true))=true)) from(λhg=>(aT hg))) (I4 (kq x24 x22 v0 i6 i14)))))))) (gC h (λh=>Ae q [4] [] (tS h (gO (Mk (H5 [] (Le.refl _ _)))))) λh=>Ae q [1,2,6,8] [2] (tN h))))))))) λh=>tS h (gO (A3 (A8 HE [2] q)))) λx25 h=>(match x25,h with | .inl _,h=>gA (Ae q HE [2] (tN h)) | .inr r27,h=>gAr (λst' hk=>tS h (gO (Mk hk)))))) | .inr r28,h=>gAr (λst' hk=>tS h (gO (Mk hk)))))) λh=>tS h (gO (A3 (A8 [2] [2] q))))) λx29 h=>(match x29,h with | .inl _,h=>gA (tB h λx31 y31 h=>tT q [4] [] [(Z7 x31)] (c1 (Eb y31)) (tS h (Bp []))) | .inr r32,h=>gAr (λst' hk=>tS h (gK hk))))) | .inr r33,h=>gAr (λst' hk=>tS h (gK hk))))
def G7(a2:A2):Option Hn:=
 ((Gp a2).bind λx1=>(bif (bif (bif (!x1) then true else(a2.Kind==17)) then true else(a2.Kind==19)) then(some ((0:Int),(0:Int))) else(bif (bif (decide ((10:Int)<=a2.Kind)) then(decide (a2.Kind<=12)) else false) then(some ((1:Int),(1:Int))) else(bif (a2.Kind==22) then(some (a2.Bits,(1:Int))) else(some (a2.Bits,a2.Lanes))))))
variable{v19:Hn}
theorem Yc(h:G7 v6=some v19):sP 81 [(UU v6)] [] (.tuple [(Z6 v19.1),(Z6 v19.2)]) []:=
 sG Tryz.func81 λΓ q=>Ae q [1] [1] (tB h λx1 y1 h=>tT q [1,16] [1] [(Z7 x1)] (ci (N0 y1) (J7 ((!x1)==false) (ci (I4 (!x1)) (J7 ((bif (!x1) then true else(v6.Kind==17))==false) (c1 (I4 (bif (!x1) then true else(v6.Kind==17)))))))) (gC h (λh=>Ae q Cb [] (tS h (Bp []))) λh=>tU q [1,24] [1] (J7 ((decide ((10:Int)<=v6.Kind))==true) (c1 (M7 (decide ((10:Int)<=v6.Kind))))) (gC h (λh=>Ae q Cb [] (tS h (Bp []))) λh=>Ae q [1,27] [1] (gC h (λh=>Ae q Cb [] (tS h (Bp []))) λh=>Ae q Cb [] (tS h (Bp []))))))
open Go Go.RowKit
set_option maxRecDepth 100000
set_option maxHeartbeats 2000000
abbrev eZ:=(List Cd×Int)
abbrev vC:=(LR (List Cd×Int) (List Cd))
def Im(a0:TFunc):eZ->Option vC:=
 λ((l1,i2):eZ)=>(bif (decide (i2<(a0.Params.length:Int))) then(Aw (As i2 a0.Params.length) (Aw (l1.length+([(⟨(w64 (i2+1)),(-1:Int),(0:Int),((a0.Params.getD i2.toNat 0),(1:Int))⟩:Cd)]:List Cd).length<=room) (some (.next ((l1++([(⟨(w64 (i2+1)),(-1:Int),(0:Int),((a0.Params.getD i2.toNat 0),(1:Int))⟩:Cd)]:List Cd)),(w64 (i2+1))))))) else(some (.done l1)))
def Fy(a0:TFunc)(i9:Int):eZ->Option vC:=
 λ((l12,i13):eZ)=>(bif (decide (i13<(((a0.Blocks.getD i9.toNat default).Phis).length:Int))) then(Aw (As i13 ((a0.Blocks.getD i9.toNat default).Phis).length) (Aw (As i13 ((a0.Blocks.getD i9.toNat default).Phis).length) (Aw (l12.length+([(⟨(((a0.Blocks.getD i9.toNat default).Phis).getD i13.toNat default).Dst,i9,(-1:Int),((((a0.Blocks.getD i9.toNat default).Phis).getD i13.toNat default).Bits,(1:Int))⟩:Cd)]:List Cd).length<=room) (some (.next ((l12++([(⟨(((a0.Blocks.getD i9.toNat default).Phis).getD i13.toNat default).Dst,i9,(-1:Int),((((a0.Blocks.getD i9.toNat default).Phis).getD i13.toNat default).Bits,(1:Int))⟩:Cd)]:List Cd)),(w64 (i13+1)))))))) else(some (.done l12)))
def Fz(a0:TFunc)(i9:Int):eZ->Option vC:=
 λ((l20,i21):eZ)=>(bif (decide (i21<(((a0.Blocks.getD i9.toNat default).Ops).length:Int))) then(Option.bind (α:=List Cd) (Aw (As i21 ((a0.Blocks.getD i9.toNat default).Ops).length) ((G7 (((a0.Blocks.getD i9.toNat default).Ops).getD i21.toNat default)).bind λx25=>(bif (decide ((0:Int)<x25.1)) then(Aw (As i21 ((a0.Blocks.getD i9.toNat default).Ops).length) (Aw (l20.length+([(⟨(((a0.Blocks.getD i9.toNat default).Ops).getD i21.toNat default).Dst,i9,i21,(x25.1,x25.2)⟩:Cd)]:List Cd).length<=room) (some (l20++([(⟨(((a0.Blocks.getD i9.toNat default).Ops).getD i21.toNat default).Dst,i9,i21,(x25.1,x25.2)⟩:Cd)]:List Cd))))) else(some l20)))) (λx28=>(some (.next (x28,(w64 (i21+1))))))) else(some (.done l20)))
def In(a0:TFunc):eZ->Option vC:=
 λ((l8,i9):eZ)=>(bif (decide (i9<(a0.Blocks.length:Int))) then(Aw (As i9 a0.Blocks.length) ((Ad (Fy a0 i9) (l8,(0:Int))).bind (λx18=>((Ad (Fz a0 i9) (x18,(0:Int))).bind (λx30=>(some (.next (x30,(w64 (i9+1)))))))))) else(some (.done l8)))
def cG(a0:TFunc)(i9:Int):=(a0.Blocks.getD i9.toNat default)
def wN(a0:TFunc):List AV:=(Z5 a0.Params a0.Ret a0.Blocks)
def sQ(i2:Int)(a0:TFunc):=([(⟨(w64 (i2+1)),(-1:Int),(0:Int),((a0.Params.getD i2.toNat 0),(1:Int))⟩:Cd)]:List Cd)
def sO(a0:TFunc)(i9:Int)(i21:Int)(x25:Hn):=([(⟨(((cG a0 i9).Ops).getD i21.toNat default).Dst,i9,i21,(x25.1,x25.2)⟩:Cd)]:List Cd)
def ym(a0:TFunc):=(⟨[Zn,(3,(AV.list 5 Pz default ([]:List Cd) (.own 5003))),(4,La)],[(1,.row 25 (wN a0)),(5003,.tok 5 90 (([]:List Cd).length))],[]⟩:St)
def sM(a0:TFunc)(i9:Int)(i13:Int):=([(⟨(((cG a0 i9).Phis).getD i13.toNat default).Dst,i9,(-1:Int),((((cG a0 i9).Phis).getD i13.toNat default).Bits,(1:Int))⟩:Cd)]:List Cd)
def K1(a0:TFunc):Option (List Cd):=
 ((Ad (Im a0) (([]:List Cd),(0:Int))).bind (λx6=>((Ad (In a0) (x6,(0:Int))).bind (λx32=>(some x32)))))
variable{v54:List Cd}
theorem AC(h:K1 v0=some v54):sP 43 [(Yz v0)] [] (AV.list 5 Pz default v54 (.own 20000)) [(M0 20000 90 v54.length)]:=
 sG Tryz.func43 λΓ q=>gR q [1] [1] [(2,(AV.list 5 Pz default ([]:List Cd) .exact))] [] (c1 (Bc 5 Pz (default:Cd))) (gR q Iz [1] [(3,(AV.list 5 Pz default ([]:List Cd) .exact))] [] (c1 (Bc 5 Pz (default:Cd))) (Ae q Ho [1] (M1 (st':=(ym v0)) (Le.trans (A8 (st':=⟨[Zn,(3,(AV.list 5 Pz default ([]:List Cd) .exact)),(4,La)],[(1,.row 25 (wN v0))],[]⟩) Ho [1] q) (Le.trans (Lb (t:=3) (nm:=5003) (sz':=5) (λi=>Pz (([]:List Cd).getD i default)) 90 rfl rfl (.inl ⟨rfl,rfl⟩) (λh_=>absurd h_ (by decide))) (A8 (st':=(ym v0)) Ho Nf q))) (tL q h Ho Nf (λu (l1,i2)=>(Cn u [(ss l1),(4,(Z6 i2))] [(M0 5003 90 l1.length)])) (λu l3=>aG Γ (.exit 0) (Nc Iz Nf u [(ss l3)] [(M0 5003 90 l3.length)])) (λ⟨l1,i2⟩ y h=>Ae q [1,3,4,15] Nf (gC h (λh=>tC h λc4_ h=>tC h λc5_ h=>gR q Ho Nf (Z61 28 (sQ i2 v0) 29 l1) [] (c6 c4_ (Az 5 Pz (default:Cd) (sQ i2 v0)) (Eq.refl l1.length) c5_ (Cu 5 5003 Pz (default:Cd) l1 (sQ i2 v0)) (Br l1 (sQ i2 v0))) (Ae q Ho Nf (tN h))) λh=>tS h (gO (A3 (A8 Iz Nf q))))) λx6 h=>gA (Ae q HC Nf (tL q h HC Nf (λu (l8,i9)=>(Cn u [(ss l8),(5,(Z6 i9))] [(M0 5003 90 l8.length)])) (λu l10=>aG Γ (.exit 2) (⟨[(ss l10)],[(M0 5003 90 l10.length)],[]⟩:St)) (λ⟨l8,i9⟩ y h=>Ae q [1,3,5,34] Nf (gC h (λh=>tV q JL Tm h λh=>Ae q TT Tm (tL q h TT Tm (λu (l12,i13)=>(Cn u [(ss l12),(7,(Z6 i13))] [(M0 5003 90 l12.length)])) (λu l14=>aG Γ (.exit 4) (Nc JL Tm u [(ss l14)] [(M0 5003 90 l14.length)])) (λ⟨l12,i13⟩ y h=>Ae q [1,3,5,6,7,46] Tm (gC h (λh=>tC h λc15_ h=>tC h λc16_ h=>tC h λc17_ h=>gR q TT Tm (Z61 65 (sM v0 i9 i13) 66 l12) [] (c7 c15_ c16_ (Az 5 Pz (default:Cd) (sM v0 i9 i13)) (Eq.refl l12.length) c17_ (Cu 5 5003 Pz (default:Cd) l12 (sM v0 i9 i13)) (Br l12 (sM v0 i9 i13))) (Ae q TT Tm (tN h))) λh=>tS h (gO (A3 (A8 JL Tm q))))) λx18 h=>gA (Ae q TU Tm (tL q h TU Tm (λu (l20,i21)=>(Cn u [(ss l20),(8,(Z6 i21))] [(M0 5003 90 l20.length)])) (λu l22=>aG Γ (.exit 6) (Nc HC Nf u [(ss l22)] [(M0 5003 90 l22.length)])) (λ⟨l20,i21⟩ y h=>Ae q [1,3,5,6,8,71] Tm (gC h (λh=>tB h λx28 y28 h=>gJ y28 (λl23=>aG Γ .normal (⟨[Zn,(ss l23),(5,(Z6 i9)),JT,(8,(Z6 i21))],[(1,.row 25 (wN v0)),(6,.row 48 [(AV.list 4 Gs default (cG v0 i9).Phis .none),(AV.list 6 Kd default (cG v0 i9).Ops .none),(.int .i64 (cG v0 i9).End.Kind),(.int .i64 (cG v0 i9).End.Arg),(AV.list 1 Am 0 (cG v0 i9).End.To .none)]),(M0 5003 90 l23.length)],[]⟩:St)) (λy h=>tC h λc24_ h=>tB h λx25 y25 h=>tT q [1,3,5,6,8,9,10] Tm [(sq x25.1 x25.2)] (c2 c24_ (Yc y25)) (Ae q [1,3,5,6,8,9,10,84] Tm (gC h (λh=>tC h λc26_ h=>tC h λc27_ h=>gR q TU Tm (Z61 98 (sO v0 i9 i21 x25) 99 l20) [] (c6 c26_ (Az 5 Pz (default:Cd) (sO v0 i9 i21 x25)) (Eq.refl l20.length) c27_ (Cu 5 5003 Pz (default:Cd) l20 (sO v0 i9 i21 x25)) (Br l20 (sO v0 i9 i21 x25))) (tS h (gK (A3 Gt)))) λh=>tS h (gK (A3 (A8 TU Tm q)))))) (gA (Ae q TU Tm (tN h)))) λh=>tS h (gO (A3 (A8 HC Nf q))))) λx30 h=>gA (Ae q HC Nf (tN h)))))) λh=>tS h (gO (A3 (A8 [3] [5003] q))))) λx32 h=>gA (Ae q [2] [5003] (tS h (Bp iy)))))))))
def F0(aU:List Cd)(aC:Int):Int->Option (LR Int (Unit ⊕ Int)):=
 λ(i1:Int)=>(bif (decide (i1<(aU.length:Int))) then(Aw (As i1 aU.length) (bif (((aU.getD i1.toNat default).V:Int)==aC) then(some (.done (.inr i1))) else(some (.next (w64 (i1+1)))))) else(some (.done (.inl ()))))
def AQ(Γ:H4)(aU:List Cd)(aC:Int)(r:Int):Exit->St->Prop:=fK Tryz.prog Γ Tryz.f45.results.toList [] (.int .i64 r) []
def D9(aU:List Cd)(aC:Int):Option Int:=
 ((Ad (F0 aU aC) (0:Int)).bind (λx3=>(match x3 with|(.inl _)=>(some (-1:Int))|(.inr r5)=>(some r5))))
theorem J6(h:D9 v54 v1=some v11):sP 45 [(AV.list 5 Pz default v54 .none),(Z6 v1)] [] (.int .i64 v11) []:=
 sG Tryz.func45 λΓ q=>tW q Fe [] Pf [] (tL q h Pf [] (λu i1=>(Cn u [(5,(Z6 i1))] [])) (λu x_=>match x_ with|(.inl _)=>aG Γ (.exit 0) (⟨[],[],[]⟩:St)|(.inr r_)=>aR (AQ Γ v54 v1 r_)) (λi1 y h=>Ae q [0,1,5,9] [] (gC h (λh=>tV q [0,1,5,18] [] h λh=>gC h (λh=>Ae q [4] [] (tS h (gO (Mk (H5 [] (Le.refl _ _)))))) λh=>Ae q Pf [] (tN h)) λh=>tS h (gO (A3 (A8 [] [] q))))) λx3 h=>(match x3,h with | .inl _,h=>gA (Ae q [4] [] (tS h (Bp []))) | .inr r5,h=>gAr (λst' hk=>tS h (gK hk))))
abbrev Aaz:=(List (Int×Int)×Int)
def Hv(a2:A2):Aaz->Option (LR (List (Int×Int)×Int) (List (Int×Int))):=
 λ((l2,i3):Aaz)=>(bif (decide (i3<(a2.Args.length:Int))) then(Option.bind (α:=Hn) (Option.bind (α:=Bool) (bif (a2.Kind==13) then(some (a2.Kind==13)) else(some (a2.Kind==20))) (λx8=>(bif x8 then(bif (i3==0) then(some ((1:Int),(1:Int))) else(some (a2.Bits,a2.Lanes))) else(Option.bind (α:=Bool) (bif (a2.Kind==14) then(some (a2.Kind==14)) else(some (a2.Kind==15))) (λx11=>(bif x11 then(some ((w64 a2.Imm),(1:Int))) else(Option.bind (α:=Bool) (bif (a2.Kind==16) then(some (a2.Kind==16)) else(some (a2.Kind==17))) (λx14=>(bif x14 then(bif (i3==0) then(some ((64:Int),(1:Int))) else(some (a2.Bits,a2.Lanes))) else(Option.bind (α:=Bool) (bif (a2.Kind==18) then(some (a2.Kind==18)) else(some (a2.Kind==19))) (λx17=>(bif x17 then(Option.bind (α:=Hn) (bif (i3==0) then(some ((1:Int),(1:Int))) else(some (a2.Bits,a2.Lanes))) (λx21=>(match x21 with|(i19,i20)=>(bif (i3==1) then(some ((64:Int),(1:Int))) else(some (i19,i20)))))) else(bif (a2.Kind==21) then(some (a2.Bits,(1:Int))) else(some (a2.Bits,a2.Lanes))))))))))))))) (λx23=>(match x23 with|(i5,i6)=>(Aw (l2.length+([(i5,i6)]:List Hn).length<=room) (some (.next ((l2++([(i5,i6)]:List Hn)),(w64 (i3+1))))))))) else(some (.done l2)))
def Aba(a2:A2):List AV:=[(Z6 a2.Bits),(Z6 a2.Lanes)]
def fO(l2:List LG):AV:=(wh l2 5003)
def ks:AV:=zN
def kr(a2:A2):List AV:=(vO a2.Kind a2.Bits a2.Lanes a2.Dst a2.Args a2.Imm)
def sR(a2:A2)(l2:List LG):List OM:=[(1,.row 51 (kr a2)),(5,.row 88 (Aba a2)),(5003,.tok 2 88 l2.length)]
def yn:List NI:=[Zn,(3,(AV.list 2 Bq ((0:Int),(0:Int)) ([]:List Hn) (.own 5003))),(4,La)]
def G8(a2:A2):Option qi:=
 ((Gp a2).bind λx1=>(bif (!x1) then(some ([]:List Hn)) else((Ad (Hv a2) (([]:List Hn),(0:Int))).bind (λx26=>(some x26)))))
variable{v21:List LG}
theorem Ye(h:G8 v6=some v21):sP 82 [(UU v6)] [] (wh v21 20000) [(20000,.tok 2 88 v21.length)]:=
 sG Tryz.func82 λΓ q=>gR q [1] [1] [(2,ks)] [] (c1 (Bc 2 Bq ((0:Int),(0:Int)))) (gR q Iz [1] [(3,ks)] [] (c1 (Bc 2 Bq ((0:Int),(0:Int)))) (tB h λx1 y1 h=>tT q [1,3,8] [1] [(Z7 x1)] (c1 (N0 y1)) (gC h (λh=>gR q [2] [] [(2,ks)] [] (c1 (Bc 2 Bq ((0:Int),(0:Int)))) (O6 (⟨[(2,ks)],[],[]⟩:St) (tS h (gK (e:=.ret) (H5 LP (show Le Γ _ (Z81:St) from Le.trans (A8 (st':=⟨[(2,ks)],[],[]⟩) [2] [] q) (Le.trans (Lb (t:=2) (nm:=6002) (sz':=2) (λi=>Bq (([]:List Hn).getD i ((0:Int),(0:Int)))) 88 rfl rfl (.inl ⟨rfl,rfl⟩) (λh_=>absurd h_ (by decide))) (A8 (st':=Z81) [2] [6002] q)))))))) λh=>Ae q Ho [1] (M1 (st':=⟨yn,[(1,.row 51 (kr v6)),(5003,.tok 2 88 (([]:List Hn).length))],[]⟩) (Le.trans (A8 (st':=⟨[Zn,(3,ks),(4,La)],[(1,.row 51 (kr v6))],[]⟩) Ho [1] q) (Le.trans (Lb (t:=3) (nm:=5003) (sz':=2) (λi=>Bq (([]:List Hn).getD i ((0:Int),(0:Int)))) 88 rfl rfl (.inl ⟨rfl,rfl⟩) (λh_=>absurd h_ (by decide))) (A8 (st':=⟨yn,[(1,.row 51 (kr v6)),(5003,.tok 2 88 (([]:List Hn).length))],[]⟩) Ho Nf q))) (tL q h Ho Nf (λu (l2,i3)=>(Cn u [(3,(fO l2)),(4,(Z6 i3))] [(5003,.tok 2 88 l2.length)])) (λu l4=>aG Γ (.exit 0) (⟨[(3,(wh l4 5003))],[(5003,.tok 2 88 l4.length)],[]⟩:St)) (λ⟨l2,i3⟩ y h=>Ae q [1,3,4,13] Nf (gC h (λh=>Ae q Gl Jv (tB h λx23 y23 h=>gJ y23 (λ(i5,i6)=>aG Γ .normal (⟨[Zn,(3,(fO l2)),(4,(Z6 i3)),VF],[(1,.row 51 (kr v6)),(5,.row 88 [(Z6 i5),(Z6 i6)]),(5003,.tok 2 88 l2.length)],[]⟩:St)) (λy h=>Ae q [1,3,4,5,22] Jv (tB h λx8 y8 h=>gJ y8 (λb7=>aG Γ .normal (⟨[Zn,(3,(fO l2)),(4,(Z6 i3)),VF,(22,(Z6 v6.Kind)),(23,(.bool b7))],(sR v6 l2),[]⟩:St)) (λy h=>Ae q [1,3,4,5,22,23] Jv (gC h (λh=>tS h (gK (A3 Gt))) λh=>Ae q [1,3,4,5,22,23] Jv (tS h (gK (A3 Gt))))) (gA (gC h (λh=>Ae q [1,3,4,5,27] Jv (gC h (λh=>Ae q Gl Jv (tS h (gK (A3 Gt)))) λh=>tS h (gK (A3 (A8 Gl Jv q))))) λh=>tB h λx11 y11 h=>gJ y11 (λb10=>aG Γ .normal (⟨[Zn,(3,(fO l2)),(4,(Z6 i3)),VF,(22,(Z6 v6.Kind)),(29,(.bool b10))],(sR v6 l2),[]⟩:St)) (λy h=>Ae q [1,3,4,5,22,29] Jv (gC h (λh=>tS h (gK (A3 Gt))) λh=>Ae q [1,3,4,5,22,29] Jv (tS h (gK (A3 Gt))))) (gA (gC h (λh=>Ae q Gl Jv (tS h (gK (A3 Gt)))) λh=>tB h λx14 y14 h=>gJ y14 (λb13=>aG Γ .normal (⟨[Zn,(3,(fO l2)),(4,(Z6 i3)),VF,(22,(Z6 v6.Kind)),(36,(.bool b13))],(sR v6 l2),[]⟩:St)) (λy h=>Ae q [1,3,4,5,22,36] Jv (gC h (λh=>tS h (gK (A3 Gt))) λh=>Ae q [1,3,4,5,22,36] Jv (tS h (gK (A3 Gt))))) (gA (gC h (λh=>Ae q [1,3,4,5,40] Jv (gC h (λh=>Ae q Gl Jv (tS h (gK (A3 Gt)))) λh=>tS h (gK (A3 (A8 Gl Jv q))))) λh=>tB h λx17 y17 h=>gJ y17 (λb16=>aG Γ .normal (⟨[Zn,(3,(fO l2)),(4,(Z6 i3)),VF,(22,(Z6 v6.Kind)),(42,(.bool b16))],(sR v6 l2),[]⟩:St)) (λy h=>Ae q [1,3,4,5,22,42] Jv (gC h (λh=>tS h (gK (A3 Gt))) λh=>Ae q [1,3,4,5,22,42] Jv (tS h (gK (A3 Gt))))) (gA (gC h (λh=>tB h λx21 y21 h=>gJ y21 (λ(i19,i20)=>aG Γ .normal (⟨[Zn,(3,(fO l2)),(4,(Z6 i3)),VF],[(1,.row 51 (kr v6)),(5,.row 88 [(Z6 i19),(Z6 i20)]),(5003,.tok 2 88 l2.length)],[]⟩:St)) (λy h=>Ae q [1,3,4,5,46] Jv (gC h (λh=>Ae q Gl Jv (tS h (gK (A3 Gt)))) λh=>tS h (gK (A3 (A8 Gl Jv q))))) (match x21,h with|⟨i19,i20⟩,h=>gA (Ae q [1,3,4,5,49] Jv (gC h (λh=>Ae q Gl Jv (tS h (gK (A3 Gt)))) λh=>tS h (gK (A3 (A8 Gl Jv q))))))) λh=>Ae q [1,3,4,5,51] Jv (gC h (λh=>Ae q Gl Jv (tS h (gK (A3 Gt)))) λh=>tS h (gK (A3 (A8 Gl Jv q)))))))))))))) (match x23,h with|⟨i5,i6⟩,h=>gA (tC h λc25_ h=>gR q Ho Nf [(58,(AV.list 2 Bq ((0:Int),(0:Int)) ([(i5,i6)]:List Hn) .exact)),(59,(AV.list 2 Bq ((0:Int),(0:Int)) (l2++([(i5,i6)]:List Hn)) (.own 5003)))] [] (c5 (Az 2 Bq ((0:Int),(0:Int)) ([(i5,i6)]:List Hn)) (Eq.refl l2.length) c25_ (Cu 2 5003 Bq ((0:Int),(0:Int)) l2 ([(i5,i6)]:List Hn)) (Br l2 ([(i5,i6)]:List Hn))) (Ae q Ho Nf (tN h)))))) λh=>tS h (gO (A3 (A8 [3] [5003] q))))) λx26 h=>gA (Ae q [2] [5003] (tS h (Bp iy))))))))
abbrev WL:=(List C9×Int)
abbrev ql:=(LR (List C9×Int) (List C9))
def F1(a0:TFunc)(i2:Int)(i7:Int):WL->Option ql:=
 λ((l10,i11):WL)=>(bif (decide (i11<(((((a0.Blocks.getD i2.toNat default).Phis).getD i7.toNat default).Args).length:Int))) then(Aw (As i11 ((((a0.Blocks.getD i2.toNat default).Phis).getD i7.toNat default).Args).length) (Aw (As i11 ((((a0.Blocks.getD i2.toNat default).Phis).getD i7.toNat default).From).length) (Aw (l10.length+([(⟨(((((a0.Blocks.getD i2.toNat default).Phis).getD i7.toNat default).Args).getD i11.toNat 0),(((((a0.Blocks.getD i2.toNat default).Phis).getD i7.toNat default).From).getD i11.toNat 0),(1000:Int),((((a0.Blocks.getD i2.toNat default).Phis).getD i7.toNat default).Bits,(1:Int))⟩:C9)]:List C9).length<=room) (some (.next ((l10++([(⟨(((((a0.Blocks.getD i2.toNat default).Phis).getD i7.toNat default).Args).getD i11.toNat 0),(((((a0.Blocks.getD i2.toNat default).Phis).getD i7.toNat default).From).getD i11.toNat 0),(1000:Int),((((a0.Blocks.getD i2.toNat default).Phis).getD i7.toNat default).Bits,(1:Int))⟩:C9)]:List C9)),(w64 (i11+1)))))))) else(some (.done l10)))
def F2(a0:TFunc)(i2:Int):WL->Option ql:=
 λ((l6,i7):WL)=>(bif (decide (i7<(((a0.Blocks.getD i2.toNat default).Phis).length:Int))) then(Aw (As i7 ((a0.Blocks.getD i2.toNat default).Phis).length) ((Ad (F1 a0 i2 i7) (l6,(0:Int))).bind (λx16=>(some (.next (x16,(w64 (i7+1)))))))) else(some (.done l6)))
def F3(a0:TFunc)(i2:Int)(i21:Int)(x24:List LG):WL->Option ql:=
 λ((l25,i26):WL)=>(bif (decide (i26<(x24.length:Int))) then(Aw (As i21 ((a0.Blocks.getD i2.toNat default).Ops).length) (Aw (As i26 ((((a0.Blocks.getD i2.toNat default).Ops).getD i21.toNat default).Args).length) (Aw (As i26 x24.length) (Aw (l25.length+([(⟨(((((a0.Blocks.getD i2.toNat default).Ops).getD i21.toNat default).Args).getD i26.toNat 0),i2,i21,(x24.getD i26.toNat ((0:Int),(0:Int)))⟩:C9)]:List C9).length<=room) (some (.next ((l25++([(⟨(((((a0.Blocks.getD i2.toNat default).Ops).getD i21.toNat default).Args).getD i26.toNat 0),i2,i21,(x24.getD i26.toNat ((0:Int),(0:Int)))⟩:C9)]:List C9)),(w64 (i26+1))))))))) else(some (.done l25)))
def F4(a0:TFunc)(i2:Int):WL->Option ql:=
 λ((l20,i21):WL)=>(bif (decide (i21<(((a0.Blocks.getD i2.toNat default).Ops).length:Int))) then(Aw (As i21 ((a0.Blocks.getD i2.toNat default).Ops).length) ((G8 (((a0.Blocks.getD i2.toNat default).Ops).getD i21.toNat default)).bind λx24=>((Ad (F3 a0 i2 i21 x24) (l20,(0:Int))).bind (λx32=>(some (.next (x32,(w64 (i21+1))))))))) else(some (.done l20)))
def Iq(a0:TFunc):WL->Option ql:=
 λ((l1,i2):WL)=>(bif (decide (i2<(a0.Blocks.length:Int))) then(Option.bind (α:=List C9) (Aw (As i2 a0.Blocks.length) ((Ad (F2 a0 i2) (l1,(0:Int))).bind (λx18=>((Ad (F4 a0 i2) (x18,(0:Int))).bind (λx34=>(Option.bind (α:=List C9) (bif (((a0.Blocks.getD i2.toNat default).End.Kind:Int)==0) then(Aw (x34.length+([(⟨(a0.Blocks.getD i2.toNat default).End.Arg,i2,(1000:Int),(a0.Ret,(1:Int))⟩:C9)]:List C9).length<=room) (some (x34++([(⟨(a0.Blocks.getD i2.toNat default).End.Arg,i2,(1000:Int),(a0.Ret,(1:Int))⟩:C9)]:List C9)))) else(some x34)) (λx38=>(bif (((a0.Blocks.getD i2.toNat default).End.Kind:Int)==2) then(Aw (x38.length+([(⟨(a0.Blocks.getD i2.toNat default).End.Arg,i2,(1000:Int),((1:Int),(1:Int))⟩:C9)]:List C9).length<=room) (some (x38++([(⟨(a0.Blocks.getD i2.toNat default).End.Arg,i2,(1000:Int),((1:Int),(1:Int))⟩:C9)]:List C9)))) else(some x38))))))))) (λx41=>(some (.next (x41,(w64 (i2+1))))))) else(some (.done l1)))
def PJ(a0:TFunc)(i2:Int):=(a0.Blocks.getD i2.toNat default)
def sW(a0:TFunc):List AV:=(Z5 a0.Params a0.Ret a0.Blocks)
def sV(a0:TFunc)(i2:Int):=([(⟨(PJ a0 i2).End.Arg,i2,(1000:Int),(a0.Ret,(1:Int))⟩:C9)]:List C9)
def sU(a0:TFunc)(i2:Int):=([(⟨(PJ a0 i2).End.Arg,i2,(1000:Int),((1:Int),(1:Int))⟩:C9)]:List C9)
def yo(a0:TFunc):=(⟨[Zn,(3,(AV.list 5 O5 default ([]:List C9) (.own 5003))),(4,La)],[(1,.row 25 (sW a0)),(5003,.tok 5 94 (([]:List C9).length))],[]⟩:St)
def sT(a0:TFunc)(i2:Int)(i21:Int)(i26:Int)(x24:List LG):=([(⟨(((((PJ a0 i2).Ops).getD i21.toNat default).Args).getD i26.toNat 0),i2,i21,(x24.getD i26.toNat ((0:Int),(0:Int)))⟩:C9)]:List C9)
def sS(a0:TFunc)(i2:Int)(i7:Int)(i11:Int):=([(⟨(((((PJ a0 i2).Phis).getD i7.toNat default).Args).getD i11.toNat 0),(((((PJ a0 i2).Phis).getD i7.toNat default).From).getD i11.toNat 0),(1000:Int),((((PJ a0 i2).Phis).getD i7.toNat default).Bits,(1:Int))⟩:C9)]:List C9)
def K3(a0:TFunc):Option (List C9):=
 ((Ad (Iq a0) (([]:List C9),(0:Int))).bind (λx43=>(some x43)))
variable{v55:List C9}
theorem AE(h:K3 v0=some v55):sP 46 [(Yz v0)] [] (AV.list 5 O5 default v55 (.own 20000)) [(M0 20000 94 v55.length)]:=
 sG Tryz.func46 λΓ q=>gR q [1] [1] [(2,(AV.list 5 O5 default ([]:List C9) .exact))] [] (c1 (Bc 5 O5 (default:C9))) (gR q Iz [1] [(3,(AV.list 5 O5 default ([]:List C9) .exact))] [] (c1 (Bc 5 O5 (default:C9))) (Ae q Ho [1] (M1 (st':=(yo v0)) (Le.trans (A8 (st':=⟨[Zn,(3,(AV.list 5 O5 default ([]:List C9) .exact)),(4,La)],[(1,.row 25 (sW v0))],[]⟩) Ho [1] q) (Le.trans (Lb (t:=3) (nm:=5003) (sz':=5) (λi=>O5 (([]:List C9).getD i default)) 94 rfl rfl (.inl ⟨rfl,rfl⟩) (λh_=>absurd h_ (by decide))) (A8 (st':=(yo v0)) Ho Nf q))) (tL q h Ho Nf (λu (l1,i2)=>(Cn u [(mg l1),(4,(Z6 i2))] [(M0 5003 94 l1.length)])) (λu l3=>aG Γ (.exit 0) (⟨[(mg l3)],[(M0 5003 94 l3.length)],[]⟩:St)) (λ⟨l1,i2⟩ y h=>Ae q [1,3,4,16] Nf (gC h (λh=>tB h λx41 y41 h=>gJ y41 (λl4=>aG Γ .normal (⟨[Zn,(mg l4),(4,(Z6 i2))],[(1,.row 25 (sW v0)),(M0 5003 94 l4.length)],[]⟩:St)) (λy h=>tV q Gl Jv h λh=>Ae q Oq Jv (tL q h Oq Jv (λu (l6,i7)=>(Cn u [(mg l6),(6,(Z6 i7))] [(M0 5003 94 l6.length)])) (λu l8=>aG Γ (.exit 2) (Nc Gl Jv u [(mg l8)] [(M0 5003 94 l8.length)])) (λ⟨l6,i7⟩ y h=>Ae q [1,3,4,5,6,28] Jv (gC h (λh=>tV q [1,3,4,5,6,7] LS h λh=>Ae q bb LS (tL q h bb LS (λu (l10,i11)=>(Cn u [(mg l10),(8,(Z6 i11))] [(M0 5003 94 l10.length)])) (λu l12=>aG Γ (.exit 4) (Nc Oq Jv u [(mg l12)] [(M0 5003 94 l12.length)])) (λ⟨l10,i11⟩ y h=>Ae q [1,3,4,5,6,7,8,40] LS (gC h (λh=>tC h λc13_ h=>tC h λc14_ h=>tC h λc15_ h=>gR q bb LS (Z43 58 (sS v0 i2 i7 i11) 59 l10) [] (c7 c13_ c14_ (Az 5 O5 (default:C9) (sS v0 i2 i7 i11)) (Eq.refl l10.length) c15_ (Cu 5 5003 O5 (default:C9) l10 (sS v0 i2 i7 i11)) (Br l10 (sS v0 i2 i7 i11))) (Ae q bb LS (tN h))) λh=>tS h (gO (A3 (A8 Oq Jv q))))) λx16 h=>gA (Ae q Oq Jv (tN h)))) λh=>tS h (gO (A3 (A8 Gl Jv q))))) λx18 h=>gA (Ae q TV Jv (tL q h TV Jv (λu (l20,i21)=>(Cn u [(mg l20),(9,(Z6 i21))] [(M0 5003 94 l20.length)])) (λu l22=>aG Γ (.exit 6) (Nc Gl Jv u [(mg l22)] [(M0 5003 94 l22.length)])) (λ⟨l20,i21⟩ y h=>Ae q [1,3,4,5,9,64] Jv (gC h (λh=>tC h λc23_ h=>tB h λx24 y24 h=>tT q [1,3,4,5,9,10] LN [⟨[],[(20000,72)],(wh x24 20000),[(20000,.tok 2 88 x24.length)],[],[]⟩] (c2 c23_ (Ye y24)) (Ae q bX LN (tL q h bX LN (λu (l25,i26)=>(Cn u [(mg l25),(11,(Z6 i26))] [(M0 5003 94 l25.length)])) (λu l27=>aG Γ (.exit 8) (Nc TV Jv u [(mg l27)] [(M0 5003 94 l27.length)])) (λ⟨l25,i26⟩ y h=>Ae q [1,3,4,5,9,10,11,76] LN (gC h (λh=>tC h λc28_ h=>tC h λc29_ h=>tC h λc30_ h=>tC h λc31_ h=>gR q bX LN (Z43 96 (sT v0 i2 i21 i26 x24) 97 l25) [] (c8 c28_ c29_ c30_ (Az 5 O5 (default:C9) (sT v0 i2 i21 i26 x24)) (Eq.refl l25.length) c31_ (Cu 5 5003 O5 (default:C9) l25 (sT v0 i2 i21 i26 x24)) (Br l25 (sT v0 i2 i21 i26 x24))) (Ae q bX LN (tN h))) λh=>tS h (gO (A3 (A8 TV Jv q))))) λx32 h=>gA (Ae q TV Jv (tN h))))) λh=>tS h (gO (A3 (A8 Gl Jv q))))) λx34 h=>gA (tB h λx38 y38 h=>gJ y38 (λl36=>aG Γ .normal (⟨[Zn,(mg l36),(4,(Z6 i2)),VF],[(1,.row 25 (sW v0)),(5,.row 48 [(AV.list 4 Gs default (PJ v0 i2).Phis .none),(AV.list 6 Kd default (PJ v0 i2).Ops .none),(.int .i64 (PJ v0 i2).End.Kind),(.int .i64 (PJ v0 i2).End.Arg),(AV.list 1 Am 0 (PJ v0 i2).End.To .none)]),(M0 5003 94 l36.length)],[]⟩:St)) (λy h=>Ae q [1,3,4,5,101] Jv (gC h (λh=>tC h λc37_ h=>gR q Gl Jv (Z43 111 (sV v0 i2) 112 x34) [] (c5 (Az 5 O5 (default:C9) (sV v0 i2)) (Eq.refl x34.length) c37_ (Cu 5 5003 O5 (default:C9) x34 (sV v0 i2)) (Br x34 (sV v0 i2))) (tS h (gK (A3 Gt)))) λh=>tS h (gK (A3 (A8 Gl Jv q))))) (gA (Ae q [1,3,4,5,116] Jv (gC h (λh=>tC h λc40_ h=>gR q Ho Nf (Z43 124 (sU v0 i2) 125 x38) [] (c5 (Az 5 O5 (default:C9) (sU v0 i2)) (Eq.refl x38.length) c40_ (Cu 5 5003 O5 (default:C9) x38 (sU v0 i2)) (Br x38 (sU v0 i2))) (tS h (gK (A3 Gt)))) λh=>tS h (gK (A3 (A8 Ho Nf q))))))))))) (gA (Ae q Ho Nf (tN h)))) λh=>tS h (gO (A3 (A8 [3] [5003] q))))) λx43 h=>gA (Ae q [2] [5003] (tS h (Bp iy)))))))
def Ij(aN:TGraph)(aP:TGraph):Int->Option (LR Int (Unit ⊕ Bool)):=
 λ(i1:Int)=>(bif (decide (i1<(aN.Succ.length:Int))) then(Aw (As i1 aN.Succ.length) (Aw (As i1 aP.Succ.length) ((Ck (aN.Succ.getD i1.toNat []) (aP.Succ.getD i1.toNat [])).bind λx4=>(bif (!x4) then(some (.done (.inr false))) else(some (.next (w64 (i1+1)))))))) else(some (.done (.inl ()))))
def Ik(aN:TGraph)(aP:TGraph):Int->Option (LR Int (Unit ⊕ Bool)):=
 λ(i7:Int)=>(bif (decide (i7<(aN.Pred.length:Int))) then(Aw (As i7 aN.Pred.length) (Aw (As i7 aP.Pred.length) ((Ck (aN.Pred.getD i7.toNat []) (aP.Pred.getD i7.toNat [])).bind λx10=>(bif (!x10) then(some (.done (.inr false))) else(some (.next (w64 (i7+1)))))))) else(some (.done (.inl ()))))
def Sq(Γ:H4)(aN:TGraph)(aP:TGraph)(r:Bool):Exit->St->Prop:=fK Tryz.prog Γ Tryz.f139.results.toList [] (.bool r) []
def Abb(aN:TGraph)(aP:TGraph):=(((aN.Succ.length:Int)!=(aP.Succ.length:Int))==false)
def Ky(aN:TGraph)(aP:TGraph):Option Bool:=
 (bif (bif ((aN.Succ.length:Int)!=(aP.Succ.length:Int)) then true else((aN.Pred.length:Int)!=(aP.Pred.length:Int))) then(some false) else((Ad (Ij aN aP) (0:Int)).bind (λx5=>(match x5 with|(.inl _)=>((Ad (Ik aN aP) (0:Int)).bind (λx11=>(match x11 with|(.inl _)=>(some true)|(.inr r13)=>(some r13))))|(.inr r14)=>(some r14)))))
variable{v56:TGraph}
theorem Z0(h:Ky v18 v56=some v3):sP 139 [(e8 v18),(e8 v56)] [] (.bool v3) []:=
 sG Tryz.func139 λΓ q=>Ae q Cb Cb (tU q [2,3,22] Cb (gI6 (Abb v18 v56) (c1 (I4 ((v18.Succ.length:Int)!=(v56.Succ.length:Int))))) (gC h (λh=>Ae q [4] [] (tS h (Bp []))) λh=>Ae q Yu Cb (tL q h Yu Cb (λu i1=>(Cn u [(5,(Z6 i1))] [])) (λu x_=>match x_ with|(.inl _)=>aG Γ (.exit 0) (Nc Cb Cb u [] [])|(.inr r_)=>aR (Sq Γ v18 v56 r_)) (λi1 y h=>Ae q [2,3,5,27] Cb (gC h (λh=>tC h λc2_ h=>tC h λc3_ h=>tB h λx4 y4 h=>tT q [2,3,5,41] Cb [(Z7 x4)] (c3 c2_ c3_ (Hb y4)) (gC h (λh=>Ae q [4] [] (tS h (gO (Mk (H5 [] (Le.refl _ _)))))) λh=>Ae q Yu Cb (tN h))) λh=>tS h (gO (A3 (A8 Cb Cb q))))) λx5 h=>(match x5,h with | .inl _,h=>gA (Ae q HD Cb (tL q h HD Cb (λu i7=>(Cn u [(6,(Z6 i7))] [])) (λu x_=>match x_ with|(.inl _)=>aG Γ (.exit 2) (⟨[],[],[]⟩:St)|(.inr r_)=>aR (Sq Γ v18 v56 r_)) (λi7 y h=>Ae q [2,3,6,46] Cb (gC h (λh=>tC h λc8_ h=>tC h λc9_ h=>tB h λx10 y10 h=>tT q [2,3,6,60] Cb [(Z7 x10)] (c3 c8_ c9_ (Hb y10)) (gC h (λh=>Ae q [4] [] (tS h (gO (Mk (H5 [] (Le.refl _ _)))))) λh=>Ae q HD Cb (tN h))) λh=>tS h (gO (A3 (A8 [] [] q))))) λx11 h=>(match x11,h with | .inl _,h=>gA (Ae q [4] [] (tS h (Bp []))) | .inr r13,h=>gAr (λst' hk=>tS h (gK hk))))) | .inr r14,h=>gAr (λst' hk=>tS h (gK hk))))))
def Lq(a4:TGraph):Option Bool:=
 ((H1 a4.Succ).bind λx1=>((bif ((x1.2==0)==true) then Ky x1.1 a4 else some false).bind λx2=>(some (bif (x1.2==0) then x2 else false))))
theorem CB(h:Lq v18=some v3):sP 84 [(e8 v18)] [] (.bool v3) []:=
 sG Tryz.func84 λΓ q=>Ae q [1] [1] (tB h λx1 y1 h=>tT q Ho Iz [(wg x1.1 x1.2)] (c1 (Rv y1)) (tB h λx2 y2 h=>tT q [2] [] [(Z7 x2)] (J7 ((x1.2==0)==true) (c2 (λ(hg:((x1.2==0)==true)=true)=>(Z0 (Ba hg y2))) (M7 (x1.2==0)))) (tS h (Bp []))))
def C3(a4:TGraph)(x2:List Bool)(i4:Int)(l5:List (List Bool))(x9:List Bool):WJ->Option qg:=
 λ((i10,l11):WJ)=>(bif (decide (i10<(a4.Succ.length:Int))) then(Aw (As i4 l5.length) (Aw (As i10 x2.length) (Aw (((x2.getD i10.toNat false)==true)=true->(As i10 x9.length)) (Aw (As i10 l11.length) (some (.next ((w64 (i10+1)),(l11.set i10.toNat (bif (x2.getD i10.toNat false) then(!(x9.getD i10.toNat false)) else false))))))))) else(some (.done l11)))
abbrev Aa0:=(Int×List (List Bool))
def Il(a4:TGraph)(a1:Int)(x2:List Bool):Aa0->Option (LR (Int×List (List Bool)) (List (List Bool))):=
 λ((i4,l5):Aa0)=>(bif (decide (i4<(a4.Succ.length:Int))) then(Aw (0<=(a4.Succ.length:Int)/\(a4.Succ.length:Int)<=(a4.Succ.length:Int)/\(a4.Succ.length:Int)<=(room:Int)) (Aw (As i4 l5.length) ((Cx a4 a1 i4).bind λx9=>((Ad (C3 a4 x2 i4 l5 x9) ((0:Int),(List.replicate (a4.Succ.length:Int).toNat false))).bind (λx17=>(some (.next ((w64 (i4+1)),(l5.set i4.toNat x17))))))))) else(some (.done l5)))
def C4(a4:TGraph)(l6:List (List Bool))(i22:Int)(i30:Int):(Bool×Int)->Option (LR (Bool×Int) Bool):=
 λ((b36,i37):(Bool×Int))=>(bif (decide (i37<(a4.Succ.length:Int))) then(Aw (((b36==true)&&((i37==i22)==false))=true->(As i37 l6.length)) (Aw (((b36==true)&&((i37==i22)==false))=true->(As i22 (l6.getD i37.toNat []).length)) (Aw (((b36==true)&&((bif (i37==i22) then true else(!((l6.getD i37.toNat []).getD i22.toNat false)))==false))=true->(As i37 l6.length)) (Aw (((b36==true)&&((bif (i37==i22) then true else(!((l6.getD i37.toNat []).getD i22.toNat false)))==false))=true->(As i30 (l6.getD i37.toNat []).length)) (some (.next ((bif b36 then(bif (bif (i37==i22) then true else(!((l6.getD i37.toNat []).getD i22.toNat false))) then true else((l6.getD i37.toNat []).getD i30.toNat false)) else false),(w64 (i37+1))))))))) else(some (.done b36)))
def B0(a4:TGraph)(a1:Int)(l6:List (List Bool))(i22:Int):GU->Option u3:=
 λ((i30,l31):GU)=>(bif (bif (decide (i30<(a4.Succ.length:Int))) then(i22 !=a1) else false) then(Option.bind (α:=Ao) (Aw (((i30==i22)==false)=true->(As i30 l6.length)) (Aw (((i30==i22)==false)=true->(As i22 (l6.getD i30.toNat []).length)) (bif (bif (i30==i22) then true else(!((l6.getD i30.toNat []).getD i22.toNat false))) then(some l31) else((Ad (C4 a4 l6 i22 i30) (true,(0:Int))).bind (λx43=>(bif x43 then(Aw (As i22 l31.length) (some (l31.set i22.toNat i30))) else(some l31))))))) (λx46=>(some (.next ((w64 (i30+1)),x46))))) else(some (.done l31)))
def C5(a4:TGraph)(a1:Int)(l6:List (List Bool)):GU->Option u3:=
 λ((i22,l23):GU)=>(bif (decide (i22<(a4.Succ.length:Int))) then(Aw (As i22 l23.length) (Option.bind (α:=Ao) (bif (i22==a1) then(Aw (As i22 (l23.set i22.toNat (-2:Int)).length) (some ((l23.set i22.toNat (-2:Int)).set i22.toNat (-1:Int)))) else(some (l23.set i22.toNat (-2:Int)))) (λx28=>((Ad (B0 a4 a1 l6 i22) ((0:Int),x28)).bind (λx48=>(some (.next ((w64 (i22+1)),x48)))))))) else(some (.done l23)))
def Qa(a4:TGraph):=(a4.Succ.length:Int)
def fR:=(λn_=>B3 n_ [37,75])
def P9(l5:List (List Bool)):=(λi=>td (l5.getD i []))
def PK(a4:TGraph):=(List.replicate (Qa a4).toNat false)
def cH(a4:TGraph):List AV:=[(.vsl 46 (PK a4).length)]
def nP(i30:Int)(i22:Int):=((i30==i22)==false)
def VC(l23:Ao)(i22:Int):=(l23.set i22.toNat (-2:Int))
def kx(l11:List Bool):=(λi=>eB (l11.getD i false))
def kw:=(λn_=>B3 n_ [2,35,37,46])
def PL:=(λn_=>B3 n_ [2,35,37,46,51])
def VB(a4:TGraph):=(λi=>eB ((PK a4).getD i false))
def NW(l11:List Bool)(i10:Int)(x2:List Bool)(x9:List Bool):=(l11.set i10.toNat (bif (x2.getD i10.toNat false) then(!(x9.getD i10.toNat false)) else false))
def fQ(l11:List Bool)(i10:Int)(x2:List Bool)(x9:List Bool):=(λi=>eB ((NW l11 i10 x2 x9).getD i false))
def kv(b36:Bool)(i37:Int)(i22:Int):=((b36==true)&&((i37==i22)==false))
def sa:List NI:=[(4,jK)]
def yp(x1:Bool)(a1:Int):=(bif (!x1) then true else(decide (a1<0)))
def Qh(a4:TGraph):List AV:=[(FY a4.Succ),(FY a4.Pred)]
def yq:=(Z36:St)
def ku(b36:Bool)(i37:Int)(i22:Int)(x19:List (List Bool)):=((b36==true)&&((bif (i37==i22) then true else(!((x19.getD i37.toNat []).getD i22.toNat false)))==false))
def fP(a1:Int)(a4:TGraph)(x2:List Bool)(l5:List (List Bool))(i4:Int):List NI:=[(1,(Z6 a1)),N8,(5,(Z6 (Qa a4))),(6,(VE x2 35)),(V6 37 l5.length),(8,(Z6 i4))]
def sZ(a1:Int)(a4:TGraph)(x2:List Bool)(l5:List (List Bool))(i4:Int):List NI:=[(1,(Z6 a1)),N8,(5,(Z6 (Qa a4))),(6,(VE x2 35)),(V6 37 l5.length),(8,(.int .i64 (w64 (i4+1))))]
def sY(a1:Int)(a4:TGraph)(x2:List Bool)(l5:List (List Bool))(i4:Int)(x9:List Bool)(i10:Int):List NI:=[(1,(Z6 a1)),N8,(5,(Z6 (Qa a4))),(6,(VE x2 35)),(V6 37 l5.length),(8,(Z6 i4)),(9,(VE x9 51)),(10,(Z6 i10))]
def nO(a1:Int)(a4:TGraph)(x2:List Bool)(l5:List (List Bool))(i4:Int)(x9:List Bool):List NI:=[(1,(Z6 a1)),N8,(5,(Z6 (Qa a4))),(6,(VE x2 35)),(V6 37 l5.length),(8,(Z6 i4)),(9,(VE x9 51)),(10,La)]
def sX(a1:Int)(a4:TGraph)(x2:List Bool)(l5:List (List Bool))(i4:Int)(x9:List Bool)(i10:Int):List NI:=[(1,(Z6 a1)),N8,(5,(Z6 (Qa a4))),(6,(VE x2 35)),(V6 37 l5.length),(8,(Z6 i4)),(9,(VE x9 51)),(10,(.int .i64 (w64 (i10+1))))]
def yr(a1:Int)(a4:TGraph)(x2:List Bool)(l5:List (List Bool))(i4:Int)(x9:List Bool)(i10:Int):List NI:=[(1,(Z6 a1)),N8,(5,(Z6 (Qa a4))),(6,(VE x2 35)),(V6 37 l5.length),(8,(Z6 i4)),(9,(VE x9 51)),(10,(Z6 i10)),(54,(.bool (decide (i10<(Qa a4)))))]
def K0(a4:TGraph)(a1:Int):Option Ao:=
 ((Lq a4).bind λx1=>(bif (bif (bif (!x1) then true else(decide (a1<0))) then true else(decide ((a4.Succ.length:Int)<=a1))) then(some ([]:Ao)) else((Cx a4 a1 (-1:Int)).bind λx2=>(Aw (0<=(a4.Succ.length:Int)/\(a4.Succ.length:Int)<=(a4.Succ.length:Int)/\(a4.Succ.length:Int)<=(room:Int)) ((Ad (Il a4 a1 x2) ((0:Int),(List.replicate (a4.Succ.length:Int).toNat ([]:List Bool)))).bind (λx19=>(Aw (0<=(a4.Succ.length:Int)/\(a4.Succ.length:Int)<=(a4.Succ.length:Int)/\(a4.Succ.length:Int)<=(room:Int)) ((Ad (C5 a4 a1 x19) ((0:Int),(List.replicate (a4.Succ.length:Int).toNat (0:Int)))).bind (λx50=>(some x50))))))))))
theorem AB(h:K0 v18 v1=some v2):sP 48 [(e8 v18),(Z6 v1)] [] (HL v2 20000) [(Tq 20000 v2.length)]:=
 sG Tryz.func48 λΓ q=>have hΓ:=q.own;gR q Ng [2] sa [] (c1 (Bc 1 Am (0:Int))) (tB h λx1 y1 h=>tT q [1,2,29] [2] [(Z7 x1)] (bv (CB y1) (gI ((!x1)==false)) (I4 (!x1)) (QH ((yp x1 v1)==false) (c1 (I4 (yp x1 v1))))) (gC h (λh=>gR q [4] [] sa [] (c1 (Bc 1 Am (0:Int))) (O6 (⟨sa,[],[]⟩:St) (tS h (gK (e:=.ret) (H5 TN (show Le Γ _ yq from Le.trans (A8 (st':=⟨sa,[],[]⟩) [4] [] q) (Le.trans (Lb (t:=4) (nm:=6004) (sz':=1) (λi=>Am (([]:Ao).getD i 0)) 3 rfl rfl (.inl ⟨rfl,rfl⟩) (λh_=>absurd h_ (by decide))) (A8 (st':=yq) [4] [6004] q)))))))) λh=>Ae q Wm [2] (tB h λx2 y2 h=>tT q [1,2,5,6] [2,35] [⟨[],[(20000,35)],(VE x2 20000),[(Sg 20000 x2.length)],[],[]⟩] (c1 (Mg y2)) (tV q io LV h λh=>by exact M1 (Le.trans (Vf 37 (show ∀ k_,k_<((Qa v18).toNat)->AVleL ((λi_=>AV.eraseAll (λn_=>B3 n_ LV) ((λ_=>[UT]) i_)) k_) ((λi=>td ((List.replicate (Qa v18).toNat ([]:List Bool)).getD i [])) k_) from(λk hk=>Rb (e:=td) (d:=[]) (.cons (λ_ _ _ _ _ hh=>AVle.untag _ _ _ _ _ (Dv _ _ _ _ _ hh)) .nil) _ k (Ri hk)))) (Vg (λ(k_:Nat) u=>(Cn u [(V6 37 k_)] [(37,.arr 1 143 k_ (λi=>td ((List.replicate (Qa v18).toNat ([]:List Bool)).getD i [])))])) (show(Qa v18).toNat=(List.replicate (Qa v18).toNat ([]:List Bool)).length from(S2 ..).symm))) (Ae q YZ LV (tL q h YZ LV (λu (i4,l5)=>(Cn u [(V6 37 l5.length),(8,(Z6 i4))] [(37,.arr 1 143 l5.length (P9 l5))])) (λu l6=>aG Γ (.exit 0) (Nc [1,5,7] [37] u [(V6 37 l6.length)] [(37,.arr 1 143 l6.length (λi=>td (l6.getD i [])))])) (λ⟨i4,l5⟩ y h=>Ae q [1,2,5,6,7,8,40] LV (gC h (λh=>tC h λc7_ h=>tC h λc8_ h=>tU q YZ iz (c3 c7_ c8_ (Eq.refl l5.length)) (O6 (⟨(fP v1 v18 x2 l5 i4),[(L5 97 (Qh v18)),(Sg 35 x2.length),(37,.arr 1 143 l5.length (λi_=>AV.eraseAll kw ((Fb (P9 l5) i4.toNat 0 [(.vsl 46 (Qa v18).toNat)]) i_))),(46,.arr 1 4 ((Qa v18).toNat) (λi_=>AV.eraseAll kw ((λ_=>[(.bool false)]) i_)))],[]⟩:St) (by exact M1 (Le.trans (Le.trans (Gu (st':=⟨(fP v1 v18 x2 l5 i4),[(L5 97 (Qh v18)),(Sg 35 x2.length),(37,.arr 1 143 l5.length (λi_=>AV.eraseAll kw ((Fb (P9 l5) i4.toNat 0 [(.vsl 46 (Qa v18).toNat)]) i_))),(46,.arr 1 4 ((Qa v18).toNat) (VB v18))],[]⟩) (TmpsLe.refl _) (.same (.same (.same (.arr (λk hk=>Rb (e:=eB) (d:=false) (.cons (AVle.refl _) .nil) _ k (Ri hk)) .nil))))) (H6 (Bl (λk_:Nat=>(⟨(fP v1 v18 x2 l5 i4),[(L5 97 (Qh v18)),(Sg 35 x2.length),(wd l5.length kw (P9 l5) i4.toNat k_),(46,.arr 1 4 k_ (VB v18))],[]⟩:St)) (show(Qa v18).toNat=(PK v18).length from(S2 ..).symm)))) (Gu (st':=⟨(fP v1 v18 x2 l5 i4),[(L5 97 (Qh v18)),(Sg 35 x2.length),(37,.arr 1 143 l5.length (Fb (P9 l5) i4.toNat 0 (cH v18))),(46,.arr 1 4 ((PK v18).length) (VB v18))],[]⟩) (TmpsLe.refl _) (.same (.same (.arr (Mx (λ_=>rfl) rfl) (.same .nil)))))) (tB h λx9 y9 h=>tT q [1,2,5,6,7,8,9] UP [⟨[],[(20000,51)],(VE x9 20000),[(Sg 20000 x9.length)],[],[]⟩] (c1 (Mg y9)) (O6 (⟨[(1,(Z6 v1)),N8,(5,(Z6 (Qa v18))),(6,(VE x2 35)),(V6 37 l5.length),(8,(Z6 i4)),(9,(VE x9 51))],[(L5 97 (Qh v18)),(Sg 35 x2.length),(37,.arr 1 143 l5.length (λi_=>AV.eraseAll PL ((Fb (P9 l5) i4.toNat 0 (cH v18)) i_))),(46,.arr 1 4 ((PK v18).length) (VB v18)),(Sg 51 x9.length)],[]⟩:St) (M1 (Gu (st':=⟨[(1,(Z6 v1)),N8,(5,(Z6 (Qa v18))),(6,(VE x2 35)),(V6 37 l5.length),(8,(Z6 i4)),(9,(VE x9 51))],[(L5 97 (Qh v18)),(Sg 35 x2.length),(37,.arr 1 143 l5.length (Fb (P9 l5) i4.toNat 0 (cH v18))),(46,.arr 1 4 ((PK v18).length) (VB v18)),(Sg 51 x9.length)],[]⟩) (TmpsLe.refl _) (.same (.same (.arr (Mx (λ_=>rfl) rfl) (.same (.same .nil)))))) (Ae q eg UP (O6 (⟨(nO v1 v18 x2 l5 i4 x9),[(L5 97 (Qh v18)),(Sg 35 x2.length),(37,.arr 1 143 l5.length (λi_=>AV.eraseAll PL ((Fb (P9 l5) i4.toNat 0 (cH v18)) i_))),(46,.arr 1 4 ((PK v18).length) (VB v18)),(Sg 51 x9.length)],[]⟩:St) (M1 (Gu (st':=⟨(nO v1 v18 x2 l5 i4 x9),[(L5 97 (Qh v18)),(Sg 35 x2.length),(37,.arr 1 143 l5.length (Fb (P9 l5) i4.toNat 0 (cH v18))),(46,.arr 1 4 ((PK v18).length) (VB v18)),(Sg 51 x9.length)],[]⟩) (TmpsLe.refl _) (.same (.same (.arr (Mx (λ_=>rfl) rfl) (.same (.same .nil)))))) (M1 (st':=⟨(nO v1 v18 x2 l5 i4 x9),[(L5 97 (Qh v18)),(Sg 35 x2.length),(37,.arr 1 143 l5.length (Fb (P9 l5) i4.toNat 0 (cH v18))),(46,.arr 1 4 ((PK v18).length) (VB v18)),(Sg 51 x9.length)],[]⟩) (Le.trans (Le.trans (A8 (st':=⟨(nO v1 v18 x2 l5 i4 x9),[(L5 97 (Qh v18)),(Sg 35 x2.length),(37,.arr 1 143 l5.length (λi_=>AV.eraseAll PL ((Fb (P9 l5) i4.toNat 0 (cH v18)) i_))),(46,.arr 1 4 ((PK v18).length) (VB v18)),(Sg 51 x9.length)],[]⟩) eg UP q) (Gu (st':=⟨(nO v1 v18 x2 l5 i4 x9),[(L5 97 (Qh v18)),(Sg 35 x2.length),(37,.arr 1 143 l5.length (Fb (P9 l5) i4.toNat 0 (cH v18))),(46,.arr 1 4 ((PK v18).length) (VB v18)),(Sg 51 x9.length)],[]⟩) (TmpsLe.refl _) (.same (.same (.arr (Mx (λ_=>rfl) rfl) (.same (.same .nil))))))) (H6 (by kernel_rfl))) (tB h λx17 y17 h=>gL0 y17 (λu (i10,l11)=>(Cn u [(10,(Z6 i10))] [(nf l5.length (P9 l5) i4.toNat l11.length),(46,.arr 1 4 l11.length (kx l11))])) (λu l12=>aG Γ (.exit 2) (⟨(fP v1 v18 x2 l5 i4),[(L5 97 (Qh v18)),(Sg 35 x2.length),(nf l5.length (P9 l5) i4.toNat l12.length),(lA 46 l12)],[]⟩:St)) (λ⟨i10,l11⟩ y h=>Ae q [1,2,5,6,7,8,9,10,54] UP (O6 (⟨(yr v1 v18 x2 l5 i4 x9 i10),[(L5 97 (Qh v18)),(Sg 35 x2.length),(wd l5.length PL (P9 l5) i4.toNat l11.length),(46,.arr 1 4 l11.length (kx l11)),(Sg 51 x9.length)],[]⟩:St) (M1 (Gu (st':=⟨(yr v1 v18 x2 l5 i4 x9 i10),[(L5 97 (Qh v18)),(Sg 35 x2.length),(nf l5.length (P9 l5) i4.toNat l11.length),(46,.arr 1 4 l11.length (kx l11)),(Sg 51 x9.length)],[]⟩) (TmpsLe.refl _) (.same (.same (.arr (Mx (λ_=>rfl) rfl) (.same (.same .nil)))))) (gC h (λh=>tC h λc13_ h=>tC h λc14_ h=>tC h λc15_ h=>tC h λc16_ h=>gR q eg UP [(60,(.vsl 46 l11.length))] [] (zX c13_ (Eq.refl l5.length) (show(AVle (((Fb (P9 l5) i4.toNat 0 [(.vsl 46 l11.length)]) i4.toNat).getD 0 .any) (.vsl 46 l11.length)) from lb) c14_ (J7 ((x2.getD i10.toNat false)==true) (ci c15_ (J7 ((x2.getD i10.toNat false)==true) (c3 (M7 (x2.getD i10.toNat false)) c16_ (Eq.refl l11.length)))))) (O6 (⟨(sY v1 v18 x2 l5 i4 x9 i10),[(L5 97 (Qh v18)),(Sg 35 x2.length),(wd l5.length PL (P9 l5) i4.toNat l11.length),(46,.arr 1 4 l11.length (λi_=>AV.eraseAll PL ((Fb (kx l11) i10.toNat 0 [(.bool (bif (x2.getD i10.toNat false) then(!(x9.getD i10.toNat false)) else false))]) i_))),(Sg 51 x9.length)],[]⟩:St) (M1 (Le.trans (Le.trans (Gu (st':=⟨(sY v1 v18 x2 l5 i4 x9 i10),[(L5 97 (Qh v18)),(Sg 35 x2.length),(wd l5.length PL (P9 l5) i4.toNat l11.length),(46,.arr 1 4 l11.length (fQ l11 i10 x2 x9)),(Sg 51 x9.length)],[]⟩) (TmpsLe.refl _) (.same (.same (.same (.arr (Bj (D0 ..).symm (λk_ hk_=>(Bl (AV.eraseAll PL) ((Hd (λ_ _=>rfl) (Jx c16_) rfl) k_ hk_)).trans rfl)) (.same .nil)))))) (H6 (Bl (λk_:Nat=>(⟨(sY v1 v18 x2 l5 i4 x9 i10),[(L5 97 (Qh v18)),(Sg 35 x2.length),(wd l5.length PL (P9 l5) i4.toNat k_),(46,.arr 1 4 k_ (fQ l11 i10 x2 x9)),(Sg 51 x9.length)],[]⟩:St)) (show l11.length=(NW l11 i10 x2 x9).length from(D0 ..).symm)))) (Gu (st':=⟨(sY v1 v18 x2 l5 i4 x9 i10),[(L5 97 (Qh v18)),(Sg 35 x2.length),(37,.arr 1 143 l5.length (Fb (P9 l5) i4.toNat 0 [(.vsl 46 (NW l11 i10 x2 x9).length)])),(46,.arr 1 4 ((NW l11 i10 x2 x9).length) (fQ l11 i10 x2 x9)),(Sg 51 x9.length)],[]⟩) (TmpsLe.refl _) (.same (.same (.arr (Mx (λ_=>rfl) rfl) (.same (.same .nil))))))) (Ae q eg UP (O6 (⟨(sX v1 v18 x2 l5 i4 x9 i10),[(L5 97 (Qh v18)),(Sg 35 x2.length),(37,.arr 1 143 l5.length (λi_=>AV.eraseAll PL ((Fb (P9 l5) i4.toNat 0 [(.vsl 46 (NW l11 i10 x2 x9).length)]) i_))),(46,.arr 1 4 ((NW l11 i10 x2 x9).length) (fQ l11 i10 x2 x9)),(Sg 51 x9.length)],[]⟩:St) (tS h (gN (Le.trans (Gu (st':=⟨(sX v1 v18 x2 l5 i4 x9 i10),[(L5 97 (Qh v18)),(Sg 35 x2.length),(37,.arr 1 143 l5.length (Fb (P9 l5) i4.toNat 0 [(.vsl 46 (NW l11 i10 x2 x9).length)])),(46,.arr 1 4 ((NW l11 i10 x2 x9).length) (fQ l11 i10 x2 x9)),(Sg 51 x9.length)],[]⟩) (TmpsLe.refl _) (.same (.same (.arr (Mx (λ_=>rfl) rfl) (.same (.same .nil)))))) (Le.trans (Le.trans (A8 (st':=⟨(sX v1 v18 x2 l5 i4 x9 i10),[(L5 97 (Qh v18)),(Sg 35 x2.length),(37,.arr 1 143 l5.length (λi_=>AV.eraseAll PL ((Fb (P9 l5) i4.toNat 0 [(.vsl 46 (NW l11 i10 x2 x9).length)]) i_))),(46,.arr 1 4 ((NW l11 i10 x2 x9).length) (fQ l11 i10 x2 x9)),(Sg 51 x9.length)],[]⟩) eg UP q) (Gu (st':=⟨(sX v1 v18 x2 l5 i4 x9 i10),[(L5 97 (Qh v18)),(Sg 35 x2.length),(37,.arr 1 143 l5.length (Fb (P9 l5) i4.toNat 0 [(.vsl 46 (NW l11 i10 x2 x9).length)])),(46,.arr 1 4 ((NW l11 i10 x2 x9).length) (fQ l11 i10 x2 x9)),(Sg 51 x9.length)],[]⟩) (TmpsLe.refl _) (.same (.same (.arr (Mx (λ_=>rfl) rfl) (.same (.same .nil))))))) (H6 (by kernel_rfl))))))))))) λh=>tS h (gO (A3 (Le.trans (Le.trans (A8 (st':=⟨(fP v1 v18 x2 l5 i4),[(L5 97 (Qh v18)),(Sg 35 x2.length),(wd l5.length kw (P9 l5) i4.toNat l11.length),(46,.arr 1 4 l11.length (kx l11))],[]⟩) YZ iz q) (Gu (st':=⟨(fP v1 v18 x2 l5 i4),[(L5 97 (Qh v18)),(Sg 35 x2.length),(nf l5.length (P9 l5) i4.toNat l11.length),(46,.arr 1 4 l11.length (kx l11))],[]⟩) (TmpsLe.refl _) (.same (.same (.arr (Mx (λ_=>rfl) rfl) (.same .nil)))))) (H6 (by kernel_rfl))))))))) (gA (Ae q YZ iz (O6 (⟨(sZ v1 v18 x2 l5 i4),[(L5 97 (Qh v18)),(Sg 35 x2.length),(wd l5.length kw (P9 l5) i4.toNat x17.length),(lA 46 x17)],[]⟩:St) (tS h (gN (Le.trans (Le.trans (Gu (st':=⟨(sZ v1 v18 x2 l5 i4),[(L5 97 (Qh v18)),(Sg 35 x2.length),(nf l5.length (P9 l5) i4.toNat x17.length),(lA 46 x17)],[]⟩) (TmpsLe.refl _) (.same (.same (.arr (Mx (λ_=>rfl) rfl) (.same .nil))))) (Le.trans (Le.trans (Le.trans (Gm (nm:=46) (sz:=1) (n:=x17.length) (e:=4) (f:=(λi=>eB (x17.getD i false))) (g:=(λi=>eB (x17.getD i false))) rfl trivial (λ_ _=>rfl) (by rw[hΓ];rfl)) (H6 (st':=⟨(sZ v1 v18 x2 l5 i4),[(L5 97 (Qh v18)),(Sg 35 x2.length),(37,.arr 1 143 l5.length (λi_=>AV.frwAll 46 1 x17.length (λi=>eB (x17.getD i false)) ((Fb (P9 l5) i4.toNat 0 [(.vsl 46 x17.length)]) i_))),(Sg 46 x17.length)],[]⟩) (by kernel_rfl))) (Gu (st':=⟨(sZ v1 v18 x2 l5 i4),[(L5 97 (Qh v18)),(Sg 35 x2.length),(37,.arr 1 143 l5.length (λi=>td ((l5.set i4.toNat x17).getD i []))),(Sg 46 x17.length)],[]⟩) (TmpsLe.refl _) (.same (.same (.arr (pE (λ_=>rfl) (λ_=>rfl) rfl) (.same .nil)))))) (H6 (Bl (λk_:Nat=>(⟨[(1,(Z6 v1)),N8,(5,(Z6 (Qa v18))),(6,(VE x2 35)),(V6 37 k_),(8,(.int .i64 (w64 (i4+1))))],[(L5 97 (Qh v18)),(Sg 35 x2.length),(37,.arr 1 143 k_ (λi=>td ((l5.set i4.toNat x17).getD i []))),(Sg 46 x17.length)],[]⟩:St)) (show l5.length=(l5.set i4.toNat x17).length from(D0 ..).symm))))) (A8 YZ LV q)))))))))))))))))) λh=>tS h (gO (A3 (A8 [1,5,7] [37] q))))) λx19 h=>gA (tV q [1,5,7,11] Ll h λh=>by exact M1 (Le.trans (Vf 75 (show ∀ k_,k_<((Qa v18).toNat)->AVleL ((λi_=>AV.eraseAll fR ((λ_=>[La]) i_)) k_) ((λi=>Am ((List.replicate (Qa v18).toNat (0:Int)).getD i 0)) k_) from(λk hk=>Rb (e:=Am) (d:=(0:Int)) (.cons (AVle.refl _) .nil) _ k (Ri hk)))) (Vg (λ(k_:Nat) u=>(Cn u [(11,(.vsl 75 k_))] [(75,.arr 1 3 k_ (λi=>Am ((List.replicate (Qa v18).toNat (0:Int)).getD i 0)))])) (show(Qa v18).toNat=(List.replicate (Qa v18).toNat (0:Int)).length from(S2 ..).symm))) (Ae q NP Ll (tL q h NP Ll (λu (i22,l23)=>(Cn u [(11,(.vsl 75 l23.length)),(12,(Z6 i22))] [(Z4 75 l23)])) (λu l24=>aG Γ (.exit 4) (⟨[(11,(.vsl 75 l24.length))],[(Z4 75 l24)],[]⟩:St)) (λ⟨i22,l23⟩ y h=>Ae q [1,5,7,11,12,78] Ll (gC h (λh=>tC h λc25_ h=>tU q NP Ll (c2 c25_ (Eq.refl l23.length)) (M1 (Le.trans (Vf 75 (show ∀ k_,k_<l23.length->AVleL ((λi_=>AV.eraseAll fR ((Fb (λi=>Am (l23.getD i 0)) i22.toNat 0 [(.int .i64 (-2:Int))]) i_)) k_) ((λi=>Am ((VC l23 i22).getD i 0)) k_) from(Bj (D0 ..).symm (λk_ hk_=>(Bl (AV.eraseAll fR) ((Hd (λ_ _=>rfl) (Jx c25_) rfl) k_ hk_)).trans rfl)))) (Vg (λ(k_:Nat) u=>(Cn u [(11,(.vsl 75 k_))] [(75,.arr 1 3 k_ (λi=>Am ((VC l23 i22).getD i 0)))])) (show l23.length=(VC l23 i22).length from(D0 ..).symm))) (tB h λx28 y28 h=>gJ y28 (λl26=>aG Γ .normal (⟨[(1,(Z6 v1)),(5,(Z6 (Qa v18))),(V6 37 x19.length),(11,(.vsl 75 l26.length)),(12,(Z6 i22))],[(37,.arr 1 143 x19.length (λi=>td (x19.getD i []))),(Z4 75 l26)],[]⟩:St)) (λy h=>Ae q [1,5,7,11,12,86] Ll (gC h (λh=>tC h λc27_ h=>tU q NP Ll (c2 c27_ (Eq.refl ((VC l23 i22).length))) (tS h (gK (A3 (Le.trans (Le.trans (Vf 75 (show ∀ k_,k_<((VC l23 i22).length)->AVleL ((λi_=>AV.eraseAll fR ((Fb (λi=>Am ((VC l23 i22).getD i 0)) i22.toNat 0 [(.int .i64 (-1:Int))]) i_)) k_) ((λi=>Am (((VC l23 i22).set i22.toNat (-1:Int)).getD i 0)) k_) from(Bj (D0 ..).symm (λk_ hk_=>(Bl (AV.eraseAll fR) ((Hd (λ_ _=>rfl) (Jx c27_) rfl) k_ hk_)).trans rfl)))) (Vg (λ(k_:Nat) u=>(Cn u [(11,(.vsl 75 k_))] [(75,.arr 1 3 k_ (λi=>Am (((VC l23 i22).set i22.toNat (-1:Int)).getD i 0)))])) (show(VC l23 i22).length=((VC l23 i22).set i22.toNat (-1:Int)).length from(D0 ..).symm))) Gt))))) λh=>tS h (gK (A3 (A8 NP Ll q))))) (gA (Ae q YW Ll (tL q h YW Ll (λu (i30,l31)=>(Cn u [(11,(.vsl 75 l31.length)),(13,(Z6 i30))] [(Z4 75 l31)])) (λu l32=>aG Γ (.exit 6) (Nc NP Ll u [(11,(.vsl 75 l32.length))] [(Z4 75 l32)])) (λ⟨i30,l31⟩ y h=>tU q [1,5,7,11,12,13,97] Ll (J7 ((decide (i30<(Qa v18)))==true) (c1 (M7 (decide (i30<(Qa v18)))))) (gC h (λh=>tB h λx46 y46 h=>gJ y46 (λl33=>aG Γ .normal (⟨[(1,(Z6 v1)),(5,(Z6 (Qa v18))),(V6 37 x19.length),(11,(.vsl 75 l33.length)),(12,(Z6 i22)),(13,(Z6 i30))],[(37,.arr 1 143 x19.length (λi=>td (x19.getD i []))),(Z4 75 l33)],[]⟩:St)) (λy h=>tC h λc34_ h=>tC h λc35_ h=>tU q [1,5,7,11,12,13,112] Ll (J7 (nP i30 i22) (bv c34_ (gI (nP i30 i22)) (show((nP i30 i22)=true->(x19.length=x19.length)) from(λhg=>rfl)) (J7 (nP i30 i22) (ci c35_ (J7 (nP i30 i22) (c1 (I4 (i30==i22)))))))) (gC h (λh=>tS h (gK (A3 (A8 YW Ll q)))) λh=>tW q iO Ll kV Ll (tL q h kV Ll (λu (b36,i37)=>(Cn u [(14,(.bool b36)),(15,(Z6 i37))] [])) (λu b38=>aG Γ (.exit 8) (Nc iO Ll u [(14,(.bool b38))] [])) (λ⟨b36,i37⟩ y h=>Ae q [1,5,7,11,12,13,14,15,115] Ll (gC h (λh=>tC h λc39_ h=>tC h λc40_ h=>tC h λc41_ h=>tC h λc42_ h=>tU q kV Ll (Sh (b36==true) (J7 (kv b36 i37 i22) (bv c39_ (gI (kv b36 i37 i22)) (show((kv b36 i37 i22)=true->(x19.length=x19.length)) from(λhg=>rfl)) (J7 (kv b36 i37 i22) (ci c40_ (J7 (kv b36 i37 i22) (bv (gI (b36==true)) (show((b36==true)=true->((i37==i22)=false->(kv b36 i37 i22)=true)) from(λhg=>(aF hg))) (gI (b36==true)) (J7 (ku b36 i37 i22 x19) (bv c41_ (gI (ku b36 i37 i22 x19)) (show((ku b36 i37 i22 x19)=true->(x19.length=x19.length)) from(λhg=>rfl)) (J7 (ku b36 i37 i22 x19) (c5 c42_ (gI (ku b36 i37 i22 x19)) (gI (b36==true)) (show((b36==true)=true->((bif (i37==i22) then true else(!((x19.getD i37.toNat []).getD i22.toNat false)))=false->(ku b36 i37 i22 x19)=true)) from(λhg=>(aF hg))) (M7 b36)))))))))))) (Ae q kV Ll (tN h))) λh=>tS h (gO (A3 (A8 iO Ll q))))) λx43 h=>gA (Ae q [1,5,7,11,12,13,143] Ll (gC h (λh=>tC h λc45_ h=>tU q YW Ll (c2 c45_ (Eq.refl l31.length)) (tS h (gK (A3 (Le.trans (Le.trans (Vf 75 (show ∀ k_,k_<l31.length->AVleL ((λi_=>AV.eraseAll fR ((Fb (λi=>Am (l31.getD i 0)) i22.toNat 0 [(Z6 i30)]) i_)) k_) ((λi=>Am ((l31.set i22.toNat i30).getD i 0)) k_) from(Bj (D0 ..).symm (λk_ hk_=>(Bl (AV.eraseAll fR) ((Hd (λ_ _=>rfl) (Jx c45_) rfl) k_ hk_)).trans rfl)))) (Vg (λ(k_:Nat) u=>(Cn u [(11,(.vsl 75 k_))] [(75,.arr 1 3 k_ (λi=>Am ((l31.set i22.toNat i30).getD i 0)))])) (show l31.length=(l31.set i22.toNat i30).length from(D0 ..).symm))) Gt))))) λh=>tS h (gK (A3 (A8 YW Ll q)))))))) (gA (Ae q YW Ll (tN h)))) λh=>tS h (gO (A3 (A8 NP Ll q))))) λx48 h=>gA (Ae q NP Ll (tN h)))))))) λh=>tS h (gO (A3 (A8 [11] [75] q))))) λx50 h=>gA (Ae q [4] [75] (O6 ((k8 75 x50.length x50):St) (tS h (gK (e:=.ret) (H5 [(75,20000)] (Le.trans (Gm (nm:=75) (sz:=1) (n:=x50.length) (e:=3) (f:=(λi=>Am (x50.getD i 0))) (g:=(λi=>Am (x50.getD i 0))) rfl ⟨rfl,trivial⟩ (λ_ _=>rfl) (by rw[hΓ];rfl)) (H6 (st':=(yA x50 75 x50.length)) (by kernel_rfl)))))))))))))))))
def Cg(a9:Ao):GU->Option (LR (Int×Ao) (Unit ⊕ Ao)):=
 λ((i1,l2):GU)=>(bif (bif (bif (decide ((l2.length:Int)<(a9.length:Int))) then(decide ((0:Int)<=i1)) else false) then(decide (i1<(a9.length:Int))) else false) then(Aw (l2.length+([i1]:Ao).length<=room) (Aw (As i1 a9.length) (bif ((a9.getD i1.toNat 0)==-1) then(some (.done (.inr (l2++([i1]:Ao))))) else(Aw (As i1 a9.length) (some (.next ((a9.getD i1.toNat 0),(l2++([i1]:Ao))))))))) else(some (.done (.inl ()))))
def AP(Γ:H4)(a9:Ao)(aN:Int)(r:Ao):Exit->St->Prop:=fK Tryz.prog Γ Tryz.f86.results.toList [] (HL r 20000) [(Tq 20000 r.length)]
def ky:AV:=jK
def yu(l2:Ao)(a9:Ao)(i1:Int):=(bif (decide ((l2.length:Int)<(a9.length:Int))) then(decide ((0:Int)<=i1)) else false)
def yw:=(Z36:St)
def yv(a9:Ao)(aN:Int):=(⟨[(0,(Mw a9)),(1,(Z6 aN)),(5,(AV.list 1 Am 0 ([]:Ao) (.own 5005)))],[(5005,.tok 1 3 (([]:Ao).length))],[]⟩:St)
def Fx(a9:Ao)(aN:Int):Option Ao:=
 ((Ad (Cg a9) (aN,([]:Ao))).bind (λx6=>(match x6 with|(.inl _)=>(some ([]:Ao))|(.inr r8)=>(some r8))))
theorem M2(h:Fx v2 v1=some v17):sP 86 [(Mw v2),(Z6 v1)] [] (HL v17 20000) [(Tq 20000 v17.length)]:=
 sG Tryz.func86 λΓ q=>gR q Fe [] [(4,ky)] [] (c1 (Bc 1 Am (0:Int))) (gR q Pf [] [(5,ky)] [] (c1 (Bc 1 Am (0:Int))) (M1 (st':=(yv v2 v1)) (Le.trans (A8 (st':=⟨[(0,(Mw v2)),(1,(Z6 v1)),(5,ky)],[],[]⟩) Pf [] q) (Le.trans (Lb (t:=5) (nm:=5005) (sz':=1) (λi=>Am (([]:Ao).getD i 0)) 3 rfl rfl (.inl ⟨rfl,rfl⟩) (λh_=>absurd h_ (by decide))) (A8 (st':=(yv v2 v1)) Pf [5005] q))) (tL q h Pf [5005] (λu (i1,l2)=>(Cn u [(1,(Z6 i1)),(5,(HL l2 5005))] [(Tq 5005 l2.length)])) (λu x_=>match x_ with|(.inl _)=>aG Γ (.exit 0) (⟨[],[],[]⟩:St)|(.inr r_)=>aR (AP Γ v2 v1 r_)) (λ⟨i1,l2⟩ y h=>tU q [0,1,5,20] [5005] (PY (gI ((decide ((l2.length:Int)<(v2.length:Int)))==true)) (M7 (decide ((l2.length:Int)<(v2.length:Int)))) (Sh ((yu l2 v2 i1)==true) (c1 (M7 (yu l2 v2 i1))))) (gC h (λh=>tC h λc3_ h=>gR q Pf [5005] [(23,(mh i1)),(24,(AV.list 1 Am 0 (l2++([i1]:Ao)) (.own 5005)))] [] (c5 (Az 1 Am (0:Int) ([i1]:Ao)) (Eq.refl l2.length) c3_ (Cu 1 5005 Am (0:Int) l2 ([i1]:Ao)) (Br l2 ([i1]:Ao))) (tV q [0,1,5,29] [5005] h λh=>gC h (λh=>Ae q [4] [5005] (tS h (gO (Mk (H5 [(5005,20000)] (Le.refl _ _)))))) λh=>tV q Pf [5005] h λh=>tN h)) λh=>tS h (gO (A3 (A8 [] [] q))))) λx6 h=>(match x6,h with | .inl _,h=>gA (gR q [4] [] [(4,ky)] [] (c1 (Bc 1 Am (0:Int))) (O6 (⟨[(4,ky)],[],[]⟩:St) (tS h (gK (e:=.ret) (H5 TN (show Le Γ _ yw from Le.trans (A8 (st':=⟨[(4,ky)],[],[]⟩) [4] [] q) (Le.trans (Lb (t:=4) (nm:=6004) (sz':=1) (λi=>Am (([]:Ao).getD i 0)) 3 rfl rfl (.inl ⟨rfl,rfl⟩) (λh_=>absurd h_ (by decide))) (A8 (st':=yw) [4] [6004] q)))))))) | .inr r8,h=>gAr (λst' hk=>tS h (gK hk))))))
def Bz(a9:Ao):Hn->Option (LR (Int×Int) (Int ⊕ Bool)):=
 λ((i1,i2):Hn)=>(bif (decide (i2<(a9.length:Int))) then(Option.bind (α:=Int) (Aw (As i2 a9.length) (bif ((a9.getD i2.toNat 0)==-1) then(some (w64 (i1+1))) else(some i1))) (λx6=>(Aw (As i2 a9.length) ((bif (((a9.getD i2.toNat 0)!=-2)==true) then Fx a9 i2 else some []).bind λx9=>(bif (bif ((a9.getD i2.toNat 0)!=-2) then((x9.length:Int)==0) else false) then(some (.done (.inr false))) else(some (.next (x6,(w64 (i2+1)))))))))) else(some (.done (.inl i1))))
def Zm(Γ:H4)(a9:Ao)(r:Bool):Exit->St->Prop:=fK Tryz.prog Γ Tryz.f85.results.toList [] (.bool r) []
def sb(a9:Ao)(i2:Int):=((a9.getD i2.toNat 0)!=-2)
def J3(a9:Ao):Option Bool:=
 ((Ad (Bz a9) ((0:Int),(0:Int))).bind (λx10=>(match x10 with|(.inl i3)=>(some (i3==1))|(.inr r12)=>(some r12))))
theorem Yg(h:J3 v2=some v3):sP 85 [(Mw v2)] [] (.bool v3) []:=
 sG Tryz.func85 λΓ q=>tW q [0] [] R0 [] (Ae q Tn [] (tL q h Tn [] (λu (i1,i2)=>(Cn u [(3,(Z6 i1)),(4,(Z6 i2))] [])) (λu x_=>match x_ with|(.inl i3)=>aG Γ (.exit 0) (⟨[(3,(Z6 i3))],[],[]⟩:St)|(.inr r_)=>aR (Zm Γ v2 r_)) (λ⟨i1,i2⟩ y h=>Ae q [0,3,4,8] [] (gC h (λh=>tB h λx6 y6 h=>gJ y6 (λi4=>aG Γ .normal (⟨[(0,(Mw v2)),(3,(Z6 i4)),(4,(Z6 i2))],[],[]⟩:St)) (λy h=>tV q [0,3,4,15] [] h λh=>gC h (λh=>Ae q Tn [] (tS h (gK (A3 Gt)))) λh=>tS h (gK (A3 (A8 Tn [] q)))) (gA (tC h λc8_ h=>tB h λx9 y9 h=>tT q [0,3,4,29] [] [⟨[],[],(Mw x9),[],[],[]⟩] (ci c8_ (J7 ((sb v2 i2)==true) (ci (show(((sb v2 i2)==true)=true->(sP 86 [(Mw v2),(Z6 i2)] [] (Mw x9) [])) from(λhg=>(Spec.drop (M2 (Ba hg y9))))) (J7 ((sb v2 i2)==true) (c1 (M7 (sb v2 i2))))))) (gC h (λh=>Ae q [2] [] (tS h (gO (Mk (H5 [] (Le.refl _ _)))))) λh=>Ae q Tn [] (tN h))))) λh=>tS h (gO (A3 (A8 [3] [] q))))) λx10 h=>(match x10,h with | .inl i3,h=>gA (Ae q [2] [] (tS h (Bp []))) | .inr r12,h=>gAr (λst' hk=>tS h (gK hk)))))
def Dz(x2:Ao)(x3:Ao):Int->Option (LR Int (Unit ⊕ Int)):=
 λ(i4:Int)=>(bif (decide (i4<(x2.length:Int))) then(Aw (As i4 x2.length) ((Gr x3 (x2.getD i4.toNat 0)).bind λx6=>(bif x6 then(Aw (As i4 x2.length) (some (.done (.inr (x2.getD i4.toNat 0))))) else(some (.next (w64 (i4+1))))))) else(some (.done (.inl ()))))
def AO(Γ:H4)(a9:Ao)(aN:Int)(aP:Int)(r:Int):Exit->St->Prop:=fK Tryz.prog Γ Tryz.f49.results.toList [] (.int .i64 r) []
def Kz(a9:Ao)(aN:Int)(aP:Int):Option Int:=
 ((J3 a9).bind λx1=>(bif (!x1) then(some (-2:Int)) else((Fx a9 aN).bind λx2=>((Fx a9 aP).bind λx3=>((Ad (Dz x2 x3) (0:Int)).bind (λx8=>(match x8 with|(.inl _)=>(some (-2:Int))|(.inr r10)=>(some r10))))))))
theorem AA(h:Kz v2 v1 v11=some v20):sP 49 [(Mw v2),(Z6 v1),(Z6 v11)] [] (.int .i64 v20) []:=
 sG Tryz.func49 λΓ q=>Ae q UJ [] (tB h λx1 y1 h=>tT q [0,1,2,12] [] [(Z7 x1)] (c1 (Yg y1)) (gC h (λh=>Ae q [6] [] (tS h (Bp []))) λh=>tB h λx2 y2 h=>tT q UK [15] [(we 15 x2 x2.length)] (c1 (M2 y2)) (tB h λx3 y3 h=>tT q [7,8] LX [(we 18 x3 x3.length)] (c1 (M2 y3)) (Ae q [7,8,9] LX (tL q h [7,8,9] LX (λu i4=>(Cn u [(9,(Z6 i4))] [])) (λu x_=>match x_ with|(.inl _)=>aG Γ (.exit 0) (⟨[],[],[]⟩:St)|(.inr r_)=>aR (AO Γ v2 v1 v11 r_)) (λi4 y h=>Ae q [7,8,9,22] LX (gC h (λh=>tC h λc5_ h=>tB h λx6 y6 h=>tT q [7,8,9,30] LX [(Z7 x6)] (c2 c5_ (N1 y6)) (gC h (λh=>tV q [6] [] h λh=>tS h (gO (Mk (H5 [] (Le.refl _ _))))) λh=>Ae q [7,8,9] LX (tN h))) λh=>tS h (gO (A3 (A8 [] [] q))))) λx8 h=>(match x8,h with | .inl _,h=>gA (Ae q [6] [] (tS h (Bp []))) | .inr r10,h=>gAr (λst' hk=>tS h (gK hk))))))))
def E3(x4:List Cd):Int->Option (LR Int (Unit ⊕ Int)):=
 λ(i5:Int)=>(bif (decide (i5<(x4.length:Int))) then(Aw (As i5 x4.length) ((Ex ((x4.getD i5.toNat default).V)).bind λx7=>(Aw (((!x7)==false)=true->(As i5 x4.length)) ((bif ((!x7)==false) then D9 x4 ((x4.getD i5.toNat default).V) else some (0:Int)).bind λx9=>(bif (bif (!x7) then true else(x9 !=i5)) then(some (.done (.inr (7:Int)))) else(some (.next (w64 (i5+1))))))))) else(some (.done (.inl ()))))
def Dm(x4:List Cd)(x12:List C9):Int->Option (LR Int (Unit ⊕ Int)):=
 λ(i13:Int)=>(bif (decide (i13<(x12.length:Int))) then(Aw (As i13 x12.length) ((D9 x4 ((x12.getD i13.toNat default).V)).bind λx15=>(bif (decide (x15<0)) then(some (.done (.inr (7:Int)))) else(some (.next (w64 (i13+1))))))) else(some (.done (.inl ()))))
def Dn(x4:List Cd)(x12:List C9):Int->Option (LR Int (Unit ⊕ Int)):=
 λ(i18:Int)=>(bif (decide (i18<(x12.length:Int))) then(Aw (As i18 x12.length) ((D9 x4 ((x12.getD i18.toNat default).V)).bind λx20=>(Aw (As x20 x4.length) (Aw (As i18 x12.length) (bif (!((((x4.getD x20.toNat default).Shape.1:Int)==(x12.getD i18.toNat default).Shape.1)&&((((x4.getD x20.toNat default).Shape.2:Int)==(x12.getD i18.toNat default).Shape.2)&&true))) then(some (.done (.inr (6:Int)))) else(some (.next (w64 (i18+1))))))))) else(some (.done (.inl ()))))
def Ct(x4:List Cd)(x12:List C9)(x26:Ao):Int->Option (LR Int (Unit ⊕ Int)):=
 λ(i27:Int)=>(bif (decide (i27<(x12.length:Int))) then(Option.bind (α:=(Unit ⊕ Int)) (Aw (As i27 x12.length) ((D9 x4 ((x12.getD i27.toNat default).V)).bind λx29=>(Aw (As x29 x4.length) (bif (bif (decide (((x4.getD x29.toNat default).Block:Int)<0)) then true else(bif (((x4.getD x29.toNat default).Block:Int)==(x12.getD i27.toNat default).Block) then(decide (((x4.getD x29.toNat default).At:Int)<(x12.getD i27.toNat default).At)) else false)) then(some (.inl ())) else((bif ((((x4.getD x29.toNat default).Block:Int)==(x12.getD i27.toNat default).Block)==false) then Kz x26 ((x4.getD x29.toNat default).Block) ((x12.getD i27.toNat default).Block) else some (0:Int)).bind λx31=>(bif (bif (((x4.getD x29.toNat default).Block:Int)==(x12.getD i27.toNat default).Block) then true else(x31 !=(x4.getD x29.toNat default).Block)) then(some (.inr (7:Int))) else(some (.inl ())))))))) (λx32=>(match x32 with|(.inl _)=>(some (.next (w64 (i27+1))))|(.inr r34)=>(some (.done (.inr r34)))))) else(some (.done (.inl ()))))
def G3(Γ:H4)(a0:TFunc)(a1:Int)(r:Int):Exit->St->Prop:=fK Tryz.prog Γ Tryz.f14.results.toList [] (.int .i64 r) []
def nQ(x4:List Cd)(x29:Int):=((decide (((x4.getD x29.toNat default).Block:Int)<0))==false)
def fS(x4:List Cd)(x29:Int)(x12:List C9)(i27:Int):=(((x4.getD x29.toNat default).Block:Int)==(x12.getD i27.toNat default).Block)
def Cy(a0:TFunc)(a1:Int):Option Int:=
 (bif (bif (decide (a1<0)) then true else(decide ((2:Int)<a1))) then(some (1:Int)) else((Gq a0).bind λx1=>(bif (!x1) then(some (4:Int)) else((J4 a0).bind λx2=>(bif (!x2) then(some (5:Int)) else((J5 a0 a1).bind λx3=>(bif (!x3) then(some (6:Int)) else((K1 a0).bind λx4=>((Ad (E3 x4) (0:Int)).bind (λx10=>(match x10 with|(.inl _)=>((K3 a0).bind λx12=>((Ad (Dm x4 x12) (0:Int)).bind (λx16=>(match x16 with|(.inl _)=>((Ad (Dn x4 x12) (0:Int)).bind (λx23=>(match x23 with|(.inl _)=>((Hk a0).bind λx25=>((K0 x25.1 (0:Int)).bind λx26=>((Ad (Ct x4 x12 x26) (0:Int)).bind (λx35=>(match x35 with|(.inl _)=>(some (0:Int))|(.inr r37)=>(some r37))))))|(.inr r38)=>(some r38))))|(.inr r39)=>(some r39)))))|(.inr r40)=>(some r40))))))))))))
theorem Mh(h:Cy v0 v1=some v11):sP 14 [(Yz v0),(Z6 v1)] [] (.int .i64 v11) []:=
 sG Tryz.func14 λΓ q=>Ae q Ng [2] (tU q [1,2,21] [2] (c2 (gI ((decide (v1<0))==false)) (I4 (decide (v1<0)))) (gC h (λh=>Ae q [4] [] (tS h (Bp []))) λh=>tB h λx1 y1 h=>tT q [1,2,24] [2] [(Z7 x1)] (c1 (Sx y1)) (gC h (λh=>Ae q [4] [] (tS h (Bp []))) λh=>tB h λx2 y2 h=>tT q [1,2,27] [2] [(Z7 x2)] (c1 (Yi y2)) (gC h (λh=>Ae q [4] [] (tS h (Bp []))) λh=>tB h λx3 y3 h=>tT q [2,31] [2] [(Z7 x3)] (c1 (Yj y3)) (gC h (λh=>Ae q [4] [] (tS h (Bp []))) λh=>tB h λx4 y4 h=>tT q Tf DD [⟨[],[(20000,33)],(AV.list 5 Pz default x4 (.own 20000)),[(M0 20000 90 x4.length)],[],[]⟩] (c1 (AC y4)) (Ae q V5 DD (tL q h V5 DD (λu i5=>(Cn u [(6,(Z6 i5))] [])) (λu x_=>match x_ with|(.inl _)=>aG Γ (.exit 0) (Nc Tf DD u [] [])|(.inr r_)=>aR (G3 Γ v0 v1 r_)) (λi5 y h=>Ae q [2,5,6,37] DD (gC h (λh=>tC h λc6_ h=>tB h λx7 y7 h=>tC h λc8_ h=>tB h λx9 y9 h=>tT q [2,5,6,57] DD [(Z7 x7),(JP x9)] (PY c6_ (Mf y7) (J7 ((!x7)==false) (ci c8_ (QH ((!x7)==false) (ci (λ(hg:((!x7)==false)=true)=>(J6 (Ba hg y9))) (J7 ((!x7)==false) (c1 (I4 (!x7))))))))) (gC h (λh=>Ae q [4] [] (tS h (gO (Mk (H5 [] (Le.refl _ _)))))) λh=>Ae q V5 DD (tN h))) λh=>tS h (gO (A3 (A8 Tf DD q))))) λx10 h=>(match x10,h with | .inl _,h=>gA (tB h λx12 y12 h=>tT q Jl Vd [⟨[],[(20000,59)],(AV.list 5 O5 default x12 (.own 20000)),[(M0 20000 94 x12.length)],[],[]⟩] (c1 (AE y12)) (Ae q bt Vd (tL q h bt Vd (λu i13=>(Cn u [(8,(Z6 i13))] [])) (λu x_=>match x_ with|(.inl _)=>aG Γ (.exit 2) (Nc Jl Vd u [] [])|(.inr r_)=>aR (G3 Γ v0 v1 r_)) (λi13 y h=>Ae q [2,5,7,8,63] Vd (gC h (λh=>tC h λc14_ h=>tB h λx15 y15 h=>tT q [2,5,7,8,73] Vd [(JP x15)] (c2 c14_ (J6 y15)) (gC h (λh=>Ae q [4] [] (tS h (gO (Mk (H5 [] (Le.refl _ _)))))) λh=>Ae q bt Vd (tN h))) λh=>tS h (gO (A3 (A8 Jl Vd q))))) λx16 h=>(match x16,h with | .inl _,h=>gA (Ae q CY Vd (tL q h CY Vd (λu i18=>(Cn u [(9,(Z6 i18))] [])) (λu x_=>match x_ with|(.inl _)=>aG Γ (.exit 4) (Nc Jl Vd u [] [])|(.inr r_)=>aR (G3 Γ v0 v1 r_)) (λi18 y h=>Ae q [2,5,7,9,77] Vd (gC h (λh=>tC h λc19_ h=>tB h λx20 y20 h=>tC h λc21_ h=>tC h λc22_ h=>tT q [2,5,7,9,96] Vd [(JP x20)] (c4 c19_ (J6 y20) c21_ c22_) (gC h (λh=>Ae q [4] [] (tS h (gO (Mk (H5 [] (Le.refl _ _)))))) λh=>Ae q CY Vd (tN h))) λh=>tS h (gO (A3 (A8 Jl Vd q))))) λx23 h=>(match x23,h with | .inl _,h=>gA (tB h λx25 y25 h=>tT q [5,7,10] [10,33,59] [(wg x25.1 x25.2)] (c1 (Ow y25)) (tB h λx26 y26 h=>tT q [5,7,12] NS [(we 103 x26 x26.length)] (c1 (AB y26)) (Ae q TX NS (tL q h TX NS (λu i27=>(Cn u [(13,(Z6 i27))] [])) (λu x_=>match x_ with|(.inl _)=>aG Γ (.exit 6) (⟨[],[],[]⟩:St)|(.inr r_)=>aR (G3 Γ v0 v1 r_)) (λi27 y h=>Ae q [5,7,12,13,107] NS (gC h (λh=>tB h λx32 y32 h=>gJ y32 (λx_=>match x_ with|(.inl _)=>aG Γ .normal (⟨[(5,(AV.list 5 Pz default x4 (.own 33))),(7,(AV.list 5 O5 default x12 (.own 59))),(12,(HL x26 103)),(13,(Z6 i27))],[(M0 33 90 x4.length),(M0 59 94 x12.length),(Tq 103 x26.length)],[]⟩:St)|(.inr r_)=>aR (G3 Γ v0 v1 r_)) (λy h=>tV q [5,7,12,13,14] [14,33,59,103] h λh=>tB h λx29 y29 h=>tC h λc30_ h=>tT q [5,7,12,13,14,15] [14,15,33,59,103] [(JP x29)] (c2 (J6 y29) c30_) (tU q [5,7,12,13,14,15,137] [14,15,33,59,103] (xC (nQ x4 x29) (QH ((nQ x4 x29)&&((fS x4 x29 x12 i27)==true)) (c3 (gI (nQ x4 x29)) (show((nQ x4 x29)=true->((fS x4 x29 x12 i27)=true->((nQ x4 x29)&&((fS x4 x29 x12 i27)==true))=true)) from(λhg=>(aT hg))) (I4 (decide (((x4.getD x29.toNat default).Block:Int)<0)))))) (gC h (λh=>tS h (gK (A3 (A8 TX NS q)))) λh=>tB h λx31 y31 h=>tT q [5,7,12,13,153] NS [(JP x31)] (xC ((fS x4 x29 x12 i27)==false) (ci (λ(hg:((fS x4 x29 x12 i27)==false)=true)=>(AA (Ba hg y31))) (Sh ((fS x4 x29 x12 i27)==false) (c1 (I4 (fS x4 x29 x12 i27)))))) (gC h (λh=>Ae q [4] [] (tS h (gK (Mk (H5 [] (Le.refl _ _)))))) λh=>tS h (gK (A3 (A8 TX NS q))))))) (match x32,h with | .inl _,h=>gA (Ae q TX NS (tN h)) | .inr r34,h=>gAr (λst' hk=>tS h (gO (Mk hk))))) λh=>tS h (gO (A3 (A8 [] [] q))))) λx35 h=>(match x35,h with | .inl _,h=>gA (Ae q [4] [] (tS h (Bp []))) | .inr r37,h=>gAr (λst' hk=>tS h (gK hk))))))) | .inr r38,h=>gAr (λst' hk=>tS h (gK hk))))) | .inr r39,h=>gAr (λst' hk=>tS h (gK hk)))))) | .inr r40,h=>gAr (λst' hk=>tS h (gK hk))))))))))
open Go Go.RowKit
set_option maxRecDepth 100000
set_option maxHeartbeats 2000000
def wO(a1:TGraph)(aS:Int)(aO:Int)(a0:TFunc):=(bif (bif (((a1.Pred.getD aS.toNat []).length:Int)==1) then(((a1.Pred.getD aS.toNat []).getD (0:Int).toNat (0:Int))==aO) else false) then((((a0.Blocks.getD aS.toNat default).Phis).length:Int)==0) else false)
def Abc(a0:TFunc)(aS:Int):=(((a0.Blocks.getD aS.toNat default).End.Kind:Int)==1)
def wQ(a1:TGraph)(aS:Int)(aO:Int)(a0:TFunc):=(bif (wO a1 aS aO a0) then(Abc a0 aS) else false)
def wP(a1:TGraph)(aS:Int):=((((a1.Pred.getD aS.toNat []).length:Int)==1)==true)
def Abd(a1:TGraph)(aS:Int)(aO:Int):=((bif (((a1.Pred.getD aS.toNat []).length:Int)==1) then(((a1.Pred.getD aS.toNat []).getD (0:Int).toNat (0:Int))==aO) else false)==true)
def F5(a0:TFunc)(a1:TGraph)(aO:Int)(aZ:Int)(aS:Int)(aaY:Int):Option Bool:=
 (bif (aS==-1) then(some (aZ==aaY)) else(bif (aS !=aZ) then(some false) else(Aw (As aS a0.Blocks.length) (Aw (As aS a1.Pred.length) (Aw (((((a1.Pred.getD aS.toNat []).length:Int)==1)==true)=true->(As aS a1.Pred.length)) (Aw (((((a1.Pred.getD aS.toNat []).length:Int)==1)==true)=true->(As (0:Int) (a1.Pred.getD aS.toNat []).length)) (Aw (((bif (bif (bif (((a1.Pred.getD aS.toNat []).length:Int)==1) then(((a1.Pred.getD aS.toNat []).getD (0:Int).toNat (0:Int))==aO) else false) then((((a0.Blocks.getD aS.toNat default).Phis).length:Int)==0) else false) then(((a0.Blocks.getD aS.toNat default).End.Kind:Int)==1) else false)==true)=true->(As (0:Int) ((a0.Blocks.getD aS.toNat default).End.To).length)) (some (bif (bif (bif (bif (((a1.Pred.getD aS.toNat []).length:Int)==1) then(((a1.Pred.getD aS.toNat []).getD (0:Int).toNat (0:Int))==aO) else false) then((((a0.Blocks.getD aS.toNat default).Phis).length:Int)==0) else false) then(((a0.Blocks.getD aS.toNat default).End.Kind:Int)==1) else false) then((((a0.Blocks.getD aS.toNat default).End.To).getD (0:Int).toNat (0:Int))==aaY) else false)))))))))
theorem Rw(h:F5 v0 v18 v1 v11 v20 v40=some v3):sP 92 [(Yz v0),(e8 v18),(Z6 v1),(Z6 v11),(Z6 v20),(Z6 v40)] [] (.bool v3) []:=
 sG Tryz.func92 λΓ q=>tW q [2,3,4,5,6,7] Wo [2,3,4,5,6,7,15] Wo (gC h (λh=>Ae q [12] [] (tS h (Bp []))) λh=>Ae q [2,4,5,6,7,21] Wo (gC h (λh=>Ae q [12] [] (tS h (Bp []))) λh=>tV q [2,4,5,7,13] [7,13] h λh=>tC h λc2_ h=>tC h λc3_ h=>tC h λc4_ h=>tC h λc5_ h=>tU q [12] [] (ci c2_ (Sh (wP v18 v20) (ci c3_ (J7 (wP v18 v20) (ci c4_ (Sh (wP v18 v20) (ci (M7 (((v18.Pred.getD v20.toNat []).length:Int)==1)) (Sh (Abd v18 v20 v1) (ci (M7 (bif (((v18.Pred.getD v20.toNat []).length:Int)==1) then(((v18.Pred.getD v20.toNat []).getD (0:Int).toNat (0:Int))==v1) else false)) (Sh ((wO v18 v20 v1 v0)==true) (ci (M7 (wO v18 v20 v1 v0)) (Sh ((wQ v18 v20 v1 v0)==true) (ci c5_ (Sh ((wQ v18 v20 v1 v0)==true) (c1 (M7 (wQ v18 v20 v1 v0))))))))))))))))) (tS h (Bp []))))
def yx(a1:THammock):=(a1.At==a1.Join)
def nS(a1:THammock)(a0:TFunc):=(bif (decide (a1.At<0)) then true else(decide ((a0.Blocks.length:Int)<=a1.At)))
def sc(a1:THammock)(a0:TFunc):=(bif (bif (nS a1 a0) then true else(decide (a1.Join<0))) then true else(decide ((a0.Blocks.length:Int)<=a1.Join)))
def nR(a1:THammock)(a0:TFunc):=((bif (sc a1 a0) then true else(yx a1))==false)
def wR(a0:TFunc)(a1:THammock):=((((a0.Blocks.getD (a1.At).toNat (default:Ab)).End.Kind:Int)!=2)==false)
def Abe(a1:THammock)(a0:TFunc):=((bif (nS a1 a0) then true else(decide (a1.Join<0)))==false)
def Js(a0:TFunc)(a1:THammock):Option Bool:=
 ((Cy a0 (2:Int)).bind λx1=>(bif (x1 !=0) then(some false) else(bif (bif (bif (bif (bif (bif (decide (a1.At<0)) then true else(decide ((a0.Blocks.length:Int)<=a1.At))) then true else(decide (a1.Join<0))) then true else(decide ((a0.Blocks.length:Int)<=a1.Join))) then true else(a1.At==a1.Join)) then true else(bif (a1.Then==-1) then(a1.Else==-1) else false)) then(some false) else(Aw (As a1.At a0.Blocks.length) (Aw (((((a0.Blocks.getD (a1.At).toNat (default:Ab)).End.Kind:Int)!=2)==false)=true->(As (0:Int) ((a0.Blocks.getD (a1.At).toNat (default:Ab)).End.To).length)) (Aw (((((a0.Blocks.getD (a1.At).toNat (default:Ab)).End.Kind:Int)!=2)==false)=true->(As (1:Int) ((a0.Blocks.getD (a1.At).toNat (default:Ab)).End.To).length)) (bif (bif (((a0.Blocks.getD (a1.At).toNat (default:Ab)).End.Kind:Int)!=2) then true else((((a0.Blocks.getD (a1.At).toNat (default:Ab)).End.To).getD (0:Int).toNat (0:Int))==(((a0.Blocks.getD (a1.At).toNat (default:Ab)).End.To).getD (1:Int).toNat (0:Int)))) then(some false) else((Hk a0).bind λx5=>(Aw (As (0:Int) ((a0.Blocks.getD (a1.At).toNat (default:Ab)).End.To).length) ((F5 a0 x5.1 a1.At (((a0.Blocks.getD (a1.At).toNat (default:Ab)).End.To).getD (0:Int).toNat (0:Int)) a1.Then a1.Join).bind λx7=>(Aw ((x7==true)=true->(As (1:Int) ((a0.Blocks.getD (a1.At).toNat (default:Ab)).End.To).length)) ((bif (x7==true) then F5 a0 x5.1 a1.At (((a0.Blocks.getD (a1.At).toNat (default:Ab)).End.To).getD (1:Int).toNat (0:Int)) a1.Else a1.Join else some false).bind λx9=>(some (bif x7 then x9 else false))))))))))))))
theorem ES(h:Js v0 v37=some v3):sP 51 [(Yz v0),(e7 v37)] [] (.bool v3) []:=
 sG Tryz.func51 λΓ q=>Ae q Cb Cb (tB h λx1 y1 h=>tT q [2,3,11] Cb [(JP x1)] (c1 (Mh y1)) (gC h (λh=>Ae q [4] [] (tS h (Bp []))) λh=>Ae q Yu Cb (tU q [2,3,51] Cb (Sh ((decide (v37.At<0))==false) (ci (I4 (decide (v37.At<0))) (J7 ((nS v37 v0)==false) (ci (I4 (nS v37 v0)) (Sh (Abe v37 v0) (ci (I4 (bif (nS v37 v0) then true else(decide (v37.Join<0)))) (QH ((sc v37 v0)==false) (ci (I4 (sc v37 v0)) (Sh (nR v37 v0) (J7 ((nR v37 v0)&&((v37.Then==-1)==true)) (c3 (gI (nR v37 v0)) (show((nR v37 v0)=true->((v37.Then==-1)=true->((nR v37 v0)&&((v37.Then==-1)==true))=true)) from(λhg=>(aT hg))) (I4 (bif (sc v37 v0) then true else(yx v37)))))))))))))) (gC h (λh=>Ae q [4] [] (tS h (Bp []))) λh=>tV q HD HD h λh=>tC h λc3_ h=>tC h λc4_ h=>tU q [2,3,6,72] HD (J7 (wR v0 v37) (ci c3_ (Sh (wR v0 v37) (ci c4_ (Sh (wR v0 v37) (c1 (I4 (((v0.Blocks.getD (v37.At).toNat (default:Ab)).End.Kind:Int)!=2)))))))) (gC h (λh=>Ae q [4] [] (tS h (Bp []))) λh=>tB h λx5 y5 h=>tT q [2,3,6,7] [2,3,6,7] [(wg x5.1 x5.2)] (c1 (Ow y5)) (tC h λc6_ h=>tB h λx7 y7 h=>tC h λc8_ h=>tB h λx9 y9 h=>tT q [4] [] [(Z7 x7),(Z7 x9)] (PY c6_ (Rw y7) (Sh (x7==true) (ci c8_ (gI9 (x7==true) (c2 (λ(hg:(x7==true)=true)=>(Rw (Ba hg y9))) (M7 x7)))))) (tS h (Bp []))))))))
def wS(a0:TFunc):List AV:=(Z5 a0.Params a0.Ret a0.Blocks)
def yy(a0:TFunc)(aE:THammock):=(⟨[N8,JU,(5,(si 8005))],[(L5 25 (wS a0)),(3,.row 27 [(Z6 aE.At),(Z6 aE.Then),(Z6 aE.Else),(Z6 aE.Join)]),(8005,.tok 6 51 (([]:List A2).length))],[]⟩:St)
def Lr(a0:TFunc)(aE:THammock):Option (List A2):=
 (Option.bind (α:=List A2) (bif (decide ((0:Int)<=aE.Then)) then(Aw (As aE.Then a0.Blocks.length) (Aw (([]:List A2).length+((a0.Blocks.getD (aE.Then).toNat (default:Ab)).Ops).length<=room) (some (([]:List A2)++(a0.Blocks.getD (aE.Then).toNat (default:Ab)).Ops)))) else(some ([]:List A2))) (λx4=>(Option.bind (α:=List A2) (bif (decide ((0:Int)<=aE.Else)) then(Aw (As aE.Else a0.Blocks.length) (Aw (x4.length+((a0.Blocks.getD (aE.Else).toNat (default:Ab)).Ops).length<=room) (some (x4++(a0.Blocks.getD (aE.Else).toNat (default:Ab)).Ops)))) else(some x4)) (λx9=>(some x9)))))
theorem CC(h:Lr v0 v37=some v7):sP 17 [(Yz v0),(e7 v37)] [] (jL v7 20000) [(NX 20000 v7.length)]:=
 sG Tryz.func17 λΓ q=>gR q Cb Cb [(4,vM)] [] (c1 (Bc 6 Kd (default:A2))) (gR q Yu Cb [(5,vM)] [] (c1 (Bc 6 Kd (default:A2))) (M1 (st':=(yy v0 v37)) (Le.trans (A8 (st':=⟨[N8,JU,(5,vM)],[(L5 25 (wS v0)),(3,.row 27 [(Z6 v37.At),(Z6 v37.Then),(Z6 v37.Else),(Z6 v37.Join)])],[]⟩) Yu Cb q) (Le.trans (Lb (t:=5) (nm:=8005) (sz':=6) (λi=>Kd (([]:List A2).getD i default)) 51 rfl rfl (.inl ⟨rfl,rfl⟩) (λh_=>absurd h_ (by decide))) (A8 (st':=(yy v0 v37)) Yu UF q))) (tB h λx4 y4 h=>gJ y4 (λl1=>aG Γ .normal (⟨[N8,JU,(5,(jL l1 8005))],[(L5 25 (wS v0)),(3,.row 27 [(Z6 v37.At),(Z6 v37.Then),(Z6 v37.Else),(Z6 v37.Join)]),(NX 8005 l1.length)],[]⟩:St)) (λy h=>Ae q [2,3,5,8] UF (gC h (λh=>tC h λc2_ h=>tC h λc3_ h=>gR q Yu UF [(17,(AV.list 6 Kd default (([]:List A2)++(v0.Blocks.getD (v37.Then).toNat (default:Ab)).Ops) (.own 8005)))] [] (c5 c2_ (Eq.refl (([]:List A2).length)) c3_ (Cu 6 8005 Kd (default:A2) ([]:List A2) ((v0.Blocks.getD (v37.Then).toNat (default:Ab)).Ops)) (Br ([]:List A2) ((v0.Blocks.getD (v37.Then).toNat (default:Ab)).Ops))) (tS h (gK (A3 Gt)))) λh=>tS h (gK (A3 (A8 Yu UF q))))) (gA (tB h λx9 y9 h=>gJ y9 (λl6=>aG Γ .normal (⟨[(5,(jL l6 8005))],[(NX 8005 l6.length)],[]⟩:St)) (λy h=>Ae q [2,3,5,20] UF (gC h (λh=>tC h λc7_ h=>tC h λc8_ h=>gR q [5] [8005] [(29,(AV.list 6 Kd default (x4++(v0.Blocks.getD (v37.Else).toNat (default:Ab)).Ops) (.own 8005)))] [] (c5 c7_ (Eq.refl x4.length) c8_ (Cu 6 8005 Kd (default:A2) x4 ((v0.Blocks.getD (v37.Else).toNat (default:Ab)).Ops)) (Br x4 ((v0.Blocks.getD (v37.Else).toNat (default:Ab)).Ops))) (tS h (gK (A3 Gt)))) λh=>tS h (gK (A3 (A8 [5] [8005] q))))) (gA (Ae q [4] [8005] (tS h (Bp [(8005,20000)])))))))))
def Io(a0:TFunc)(i2:Int):Hn->Option iI:=
 λ((i4,i5):Hn)=>(Aw (As i2 a0.Blocks.length) (bif (decide (i5<(((a0.Blocks.getD i2.toNat default).Phis).length:Int))) then(Option.bind (α:=Int) (Aw (As i2 a0.Blocks.length) (Aw (As i5 ((a0.Blocks.getD i2.toNat default).Phis).length) (bif (decide (i4<(((a0.Blocks.getD i2.toNat default).Phis).getD i5.toNat default).Dst)) then(Aw (As i2 a0.Blocks.length) (Aw (As i5 ((a0.Blocks.getD i2.toNat default).Phis).length) (some ((((a0.Blocks.getD i2.toNat default).Phis).getD i5.toNat default).Dst)))) else(some i4)))) (λx13=>(some (.next (x13,(w64 (i5+1))))))) else(some (.done i4))))
def Ip(a0:TFunc)(i2:Int):Hn->Option iI:=
 λ((i17,i18):Hn)=>(Aw (As i2 a0.Blocks.length) (bif (decide (i18<(((a0.Blocks.getD i2.toNat default).Ops).length:Int))) then(Option.bind (α:=Int) (Aw (As i2 a0.Blocks.length) (Aw (As i18 ((a0.Blocks.getD i2.toNat default).Ops).length) (bif (decide (i17<(((a0.Blocks.getD i2.toNat default).Ops).getD i18.toNat default).Dst)) then(Aw (As i2 a0.Blocks.length) (Aw (As i18 ((a0.Blocks.getD i2.toNat default).Ops).length) (some ((((a0.Blocks.getD i2.toNat default).Ops).getD i18.toNat default).Dst)))) else(some i17)))) (λx26=>(some (.next (x26,(w64 (i18+1))))))) else(some (.done i17))))
def Lu(a0:TFunc):Hn->Option iI:=
 λ((i1,i2):Hn)=>(bif (decide (i2<(a0.Blocks.length:Int))) then((Ad (Io a0 i2) (i1,(0:Int))).bind (λx15=>((Ad (Ip a0 i2) (x15,(0:Int))).bind (λx28=>(some (.next (x28,(w64 (i2+1))))))))) else(some (.done i1)))
def yz(a0:TFunc):List OM:=[(1,.row 25 (Z5 a0.Params a0.Ret a0.Blocks))]
def K2(a0:TFunc):Option Int:=
 ((Ad (Lu a0) ((a0.Params.length:Int),(0:Int))).bind (λx30=>(some x30)))
theorem AD(h:K2 v0=some v1):sP 19 [(Yz v0)] [] (.int .i64 v1) []:=
 sG Tryz.func19 λΓ q=>tW q [1] [1] Iz [1] (Ae q Ho [1] (tL q h Ho [1] (λu (i1,i2)=>(Cn u [(3,(Z6 i1)),(4,(Z6 i2))] [])) (λu i3=>aG Γ (.exit 0) (⟨[(3,(Z6 i3))],[],[]⟩:St)) (λ⟨i1,i2⟩ y h=>Ae q [1,3,4,14] [1] (gC h (λh=>Ae q Gl [1] (tL q h Gl [1] (λu (i4,i5)=>(Cn u [(3,(Z6 i4)),(5,(Z6 i5))] [])) (λu i6=>aG Γ (.exit 2) (Nc Ho [1] u [(3,(Z6 i6))] [])) (λ⟨i4,i5⟩ y h=>tV q [1,3,4,5,25] [1] h λh=>gC h (λh=>tB h λx13 y13 h=>gJ y13 (λi8=>aG Γ .normal (⟨[Zn,(3,(Z6 i8)),(4,(Z6 i2)),(5,(Z6 i5))],(yz v0),[]⟩:St)) (λy h=>tC h λc9_ h=>tC h λc10_ h=>tU q [1,3,4,5,39] [1] (c2 c9_ c10_) (gC h (λh=>tC h λc11_ h=>tC h λc12_ h=>tU q Gl [1] (c2 c11_ c12_) (tS h (gK (A3 Gt)))) λh=>tS h (gK (A3 (A8 Gl [1] q))))) (gA (Ae q Gl [1] (tN h)))) λh=>tS h (gO (A3 (A8 Ho [1] q)))) λx15 h=>gA (Ae q JO [1] (tL q h JO [1] (λu (i17,i18)=>(Cn u [(3,(Z6 i17)),(6,(Z6 i18))] [])) (λu i19=>aG Γ (.exit 4) (Nc Ho [1] u [(3,(Z6 i19))] [])) (λ⟨i17,i18⟩ y h=>tV q [1,3,4,6,58] [1] h λh=>gC h (λh=>tB h λx26 y26 h=>gJ y26 (λi21=>aG Γ .normal (⟨[Zn,(3,(Z6 i21)),(4,(Z6 i2)),(6,(Z6 i18))],(yz v0),[]⟩:St)) (λy h=>tC h λc22_ h=>tC h λc23_ h=>tU q [1,3,4,6,72] [1] (c2 c22_ c23_) (gC h (λh=>tC h λc24_ h=>tC h λc25_ h=>tU q JO [1] (c2 c24_ c25_) (tS h (gK (A3 Gt)))) λh=>tS h (gK (A3 (A8 JO [1] q))))) (gA (Ae q JO [1] (tN h)))) λh=>tS h (gO (A3 (A8 Ho [1] q)))) λx28 h=>gA (Ae q Ho [1] (tN h)))))) λh=>tS h (gO (A3 (A8 [3] [] q))))) λx30 h=>gA (Ae q [2] [] (tS h (Bp [])))))
open Go Go.RowKit
set_option maxRecDepth 100000
set_option maxHeartbeats 2000000
abbrev Aa1:=(LR Int (Unit ⊕ (THammock×Bool)))
def m_lockstepref14_Find_L1(a0:TFunc)(a1:Int)(i4:Int):Int->Option Aa1:=
 λ(i5:Int)=>(bif (decide (i5<(a0.Blocks.length:Int))) then(Aw (As (0:Int) ((a0.Blocks.getD a1.toNat default).End.To).length) (Aw (As (1:Int) ((a0.Blocks.getD a1.toNat default).End.To).length) (Option.bind (α:=Int) (bif (i4==1) then(some (-1:Int)) else(some (((a0.Blocks.getD a1.toNat default).End.To).getD (1:Int).toNat (0:Int)))) (λx9=>(Option.bind (α:=Int) (bif (i4==2) then(some (-1:Int)) else(some (((a0.Blocks.getD a1.toNat default).End.To).getD (0:Int).toNat (0:Int)))) (λx12=>((Js a0 (⟨a1,x12,x9,i5⟩:THammock)).bind λx14=>(bif x14 then(some (.done (.inr ((⟨a1,x12,x9,i5⟩:THammock),true)))) else(some (.next (w64 (i5+1)))))))))))) else(some (.done (.inl ()))))
def Bw(a0:TFunc)(a1:Int):Int->Option Aa1:=
 λ(i4:Int)=>(bif (decide (i4<3)) then((Ad (m_lockstepref14_Find_L1 a0 a1 i4) (0:Int)).bind (λx15=>(match x15 with|(.inl _)=>(some (.next (w64 (i4+1))))|(.inr r17)=>(some (.done (.inr r17)))))) else(some (.done (.inl ()))))
def Sr(Γ:H4)(a0:TFunc)(a1:Int)(r:SX):Exit->St->Prop:=fK Tryz.prog Γ Tryz.f16.results.toList [] (.tuple [(e7 r.1),(.bool r.2)]) []
def fT(a0:TFunc)(a1:Int):=(a0.Blocks.getD a1.toNat default)
def Abf(x1:Int)(a1:Int):=((bif (x1 !=0) then true else(decide (a1<0)))==false)
def y0(a0:TFunc):List AV:=(Z5 a0.Params a0.Ret a0.Blocks)
def wU(x1:Int)(a1:Int)(a0:TFunc):=(bif (bif (x1 !=0) then true else(decide (a1<0))) then true else(decide ((a0.Blocks.length:Int)<=a1)))
def K4(a0:TFunc)(a1:Int):Option SX:=
 ((Cy a0 (2:Int)).bind λx1=>(Aw (((bif (bif (x1 !=0) then true else(decide (a1<0))) then true else(decide ((a0.Blocks.length:Int)<=a1)))==false)=true->(As a1 a0.Blocks.length)) (bif (bif (bif (bif (x1 !=0) then true else(decide (a1<0))) then true else(decide ((a0.Blocks.length:Int)<=a1))) then true else(((a0.Blocks.getD a1.toNat default).End.Kind:Int)!=2)) then(some ((⟨(0:Int),(0:Int),(0:Int),(0:Int)⟩:THammock),false)) else(Aw (As a1 a0.Blocks.length) ((Ad (Bw a0 a1) (0:Int)).bind (λx18=>(match x18 with|(.inl _)=>(some ((⟨(0:Int),(0:Int),(0:Int),(0:Int)⟩:THammock),false))|(.inr r20)=>(some r20))))))))
variable{v35:SX}
theorem AF(h:K4 v0 v1=some v35):sP 16 [(Yz v0),(Z6 v1)] [] (.tuple [(e7 v35.1),(.bool v35.2)]) []:=
 sG Tryz.func16 λΓ q=>Ae q DF S4 (tB h λx1 y1 h=>tC h λc2_ h=>tT q [1,2,4,33] S4 [(JP x1)] (bv (Mh y1) (gI ((x1 !=0)==false)) (I4 (x1 !=0)) (QH (Abf x1 v1) (ci (I4 (bif (x1 !=0) then true else(decide (v1<0)))) (Sh ((wU x1 v1 v0)==false) (ci c2_ (QH ((wU x1 v1 v0)==false) (c1 (I4 (wU x1 v1 v0))))))))) (gC h (λh=>Ae q Px [4] (tS h (Bp []))) λh=>tV q [1,2,4,6] Vb h λh=>Ae q TW Vb (tL q h TW Vb (λu i4=>(Cn u [(7,(Z6 i4))] [])) (λu x_=>match x_ with|(.inl _)=>aG Γ (.exit 0) (Nc [4] [4] u [] [])|(.inr r_)=>aR (Sr Γ v0 v1 r_)) (λi4 y h=>Ae q [1,2,4,6,7,42] Vb (gC h (λh=>Ae q ib Vb (tL q h ib Vb (λu i5=>(Cn u [(8,(Z6 i5))] [])) (λu x_=>match x_ with|(.inl _)=>aG Γ (.exit 2) (Nc TW Vb u [] [])|(.inr r_)=>aR (Sr Γ v0 v1 r_)) (λi5 y h=>Ae q [1,2,4,6,7,8,49] Vb (gC h (λh=>tC h λc6_ h=>tC h λc7_ h=>tU q ek CZ (c2 c6_ c7_) (tB h λx9 y9 h=>gJ y9 (λi8=>aG Γ .normal (⟨[(1,(Z6 v1)),N8,LZ,JT,(7,(Z6 i4)),(8,(Z6 i5)),(9,(.ptr 9 0))],[(L5 25 (y0 v0)),(4,.row 27 [La,La,La,La]),(6,.row 46 [(.int .i64 (fT v0 v1).End.Kind),(.int .i64 (fT v0 v1).End.Arg),(AV.list 1 Am 0 (fT v0 v1).End.To .none)]),(9,.row 27 [(Z6 v1),(.int .i64 (((fT v0 v1).End.To).getD (0:Int).toNat (0:Int))),(Z6 i8),(Z6 i5)])],[]⟩:St)) (λy h=>Ae q [1,2,4,6,7,8,9,64] CZ (gC h (λh=>Ae q ek CZ (tS h (gK (A3 Gt)))) λh=>tS h (gK (A3 (A8 ek CZ q))))) (gA (tB h λx12 y12 h=>gJ y12 (λi11=>aG Γ .normal (⟨[(1,(Z6 v1)),N8,LZ,JT,(7,(Z6 i4)),(8,(Z6 i5)),(9,(.ptr 9 0))],[(L5 25 (y0 v0)),(4,.row 27 [La,La,La,La]),(6,.row 46 [(.int .i64 (fT v0 v1).End.Kind),(.int .i64 (fT v0 v1).End.Arg),(AV.list 1 Am 0 (fT v0 v1).End.To .none)]),(9,.row 27 [(Z6 v1),(Z6 i11),(Z6 x9),(Z6 i5)])],[]⟩:St)) (λy h=>Ae q [1,2,4,6,7,8,9,67] CZ (gC h (λh=>Ae q ek CZ (tS h (gK (A3 Gt)))) λh=>tS h (gK (A3 (A8 ek CZ q))))) (gA (tB h λx14 y14 h=>tT q [1,2,4,6,7,8,9,71] CZ [(Z7 x14)] (c1 (ES y14)) (gC h (λh=>Ae q Px [4] (tS h (gO (Mk (H5 [] (Le.refl _ _)))))) λh=>Ae q ib Vb (tN h)))))))) λh=>tS h (gO (A3 (A8 TW Vb q))))) λx15 h=>(match x15,h with | .inl _,h=>gA (Ae q TW Vb (tN h)) | .inr r17,h=>gAr (λst' hk=>tS h (gO (Mk hk)))))) λh=>tS h (gO (A3 (A8 [4] [4] q))))) λx18 h=>(match x18,h with | .inl _,h=>gA (Ae q Px [4] (tS h (Bp []))) | .inr r20,h=>gAr (λst' hk=>tS h (gK hk))))))
def ZJ(aC:Int):=([(u1 aC)]:Ao)
def kz(aC:Int):=([(u1 (Fj ((Int.tmod aC (128:Int))+128)))]:Ao)
def Hy(rec_lockstepref02_Put:Int->Option Ao)(aC:Int):Option Ao:=
 (bif (decide (aC<128)) then(some ([(u1 aC)]:Ao)) else((rec_lockstepref02_Put (Fj (Int.tdiv aC (128:Int)))).bind λx1=>(Aw (([(u1 (Fj ((Int.tmod aC (128:Int))+128)))]:Ao).length+x1.length<=room) (Aw (([(u1 (Fj ((Int.tmod aC (128:Int))+128)))]:Ao).length=0\/0<x1.length) (some (([(u1 (Fj ((Int.tmod aC (128:Int))+128)))]:Ao)++x1))))))
def Hz:Nat->Int->Option Ao
 | 0=>λ_=>none
 | n+1=>Hy (Hz n)
def Et(aC:Int):Option Ao:=oq λn=>Hz n aC
theorem Zq(n:Nat):(∀(aC:Int) (r:Ao),Hz n aC=some r->sP 54 [(JV aC)] [] (cK r 20000) [(20000,.tok 1 5 r.length)]):=by
 induction n with
 | zero=>exact λaC r h=>by cases h
 | succ n ih=>
  have ih_lockstepref02_Put:=ih;intro aC r h;refine EG mix Tryz.func54 (λΓ hq=>?_);change Hy (Hz n) aC=some r at h;unfold Hy at h;refine gR hq [0] [] [(2,so)] [] (c1 (Bc 1 Wy (0:Int))) ?_;refine Ae hq Yv [] ?_;refine gC h ?_ ?_<;>intro h
  ·refine gR hq [2] [] [(7,(AV.list 1 Wy 0 (ZJ aC) .exact))] [] (c1 (Az 1 Wy (0:Int) (ZJ aC))) ?_;refine O6 (⟨[(2,(AV.list 1 Wy 0 (ZJ aC) .exact))],[],[]⟩:St) ?_;cases h;exact gK (e:=.ret) (H5 LP (show Le Γ _ (⟨[(2,(cK (ZJ aC) 6002))],[(6002,.tok 1 5 ((ZJ aC).length))],[]⟩:St) from Le.trans (A8 (st':=⟨[(2,(AV.list 1 Wy 0 (ZJ aC) .exact))],[],[]⟩) [2] [] hq) (Le.trans (Lb (t:=2) (nm:=6002) (sz':=1) (λi=>Wy ((ZJ aC).getD i 0)) 5 rfl rfl (.inl ⟨rfl,rfl⟩) (λh_=>absurd h_ (by decide))) (A8 (st':=⟨[(2,(cK (ZJ aC) 6002))],[(6002,.tok 1 5 ((ZJ aC).length))],[]⟩) [2] [6002] hq))))
  ·obtain⟨x1,hx1,h⟩:=bind_some h;obtain⟨hc2,h⟩:=O4 h;obtain⟨hc3,h⟩:=O4 h;refine gR hq [2] [16] [(12,(AV.list 1 Wy 0 (kz aC) .exact)),(16,(AV.list 1 Wy 0 ((kz aC)++x1) (.own 16)))] [(vL 15 x1 x1.length)] (ci (show((128:Int)≠0) from(by decide)) (ci (Az 1 Wy (0:Int) (kz aC)) (ci (show((128:Int)≠0) from(by decide)) (ci (ih_lockstepref02_Put (Fj (Int.tdiv aC (128:Int))) x1 hx1) (ci hc2 (ci (show(5=Zc->(kz aC).length=0\/0<x1.length) from(λ_=>hc3)) (ci (Cu 1 16 Wy (0:Int) (kz aC) x1) (c1 (Br (kz aC) x1))))))))) ?_;cases h;exact Bp [(16,20000)]
theorem K6(h:Et v1=some v2):sP 54 [(JV v1)] [] (cK v2 20000) [(20000,.tok 1 5 v2.length)]:=by
 obtain⟨n,hn⟩:=lZ h;exact(Zq n) v1 v2 hn
def Ra(aU:Ao):WK->Option (LR (Ao×Int) (Ao ⊕ Ao)):=
 λ((l2,i3):WK)=>(bif (decide (i3<(aU.length:Int))) then(Aw (As i3 aU.length) (bif (decide ((aU.getD i3.toNat 0)<0)) then(some (.done (.inr ([]:Ao)))) else(Aw (As i3 aU.length) ((Et (Fj (aU.getD i3.toNat 0))).bind λx7=>(Aw (l2.length+x7.length<=room) (some (.next ((l2++x7),(w64 (i3+1)))))))))) else(some (.done (.inl l2))))
def EL(Γ:H4)(aU:Ao)(r:Ao):Exit->St->Prop:=fK Tryz.prog Γ Tryz.f52.results.toList [] (cK r 20000) [(20000,.tok 1 5 r.length)]
def sd:List NI:=[(2,so)]
def zA:=(Z115:St)
def C0(aU:Ao):Option Ao:=
 ((Et (Fj (aU.length:Int))).bind λx1=>((Ad (Ra aU) (x1,(0:Int))).bind (λx9=>(match x9 with|(.inl l4)=>(some l4)|(.inr r11)=>(some r11)))))
theorem H2(h:C0 v2=some v17):sP 52 [(Mw v2)] [] (cK v17 20000) [(20000,.tok 1 5 v17.length)]:=
 sG Tryz.func52 λΓ q=>gR q [0] [] sd [] (c1 (Bc 1 Wy (0:Int))) (tB h λx1 y1 h=>tT q R0 [8] [⟨[],[(20000,8)],(cK x1 20000),[(20000,.tok 1 5 x1.length)],[],[]⟩] (c1 (K6 y1)) (Ae q Tn [8] (tL q h Tn [8] (λu (l2,i3)=>(Cn u [(3,(AV.list 1 Wy 0 l2 (.own 8))),(4,(Z6 i3))] [(8,.tok 1 5 l2.length)])) (λu x_=>match x_ with|(.inl l4)=>aG Γ (.exit 0) (⟨[(3,(AV.list 1 Wy 0 l4 (.own 8)))],[(8,.tok 1 5 l4.length)],[]⟩:St)|(.inr r_)=>aR (EL Γ v2 r_)) (λ⟨l2,i3⟩ y h=>Ae q [0,3,4,12] [8] (gC h (λh=>tV q [0,3,4,19] [8] h λh=>gC h (λh=>gR q [2] [] sd [] (c1 (Bc 1 Wy (0:Int))) (O6 (⟨sd,[],[]⟩:St) (tS h (gO (Mk (H5 LP (show Le Γ _ zA from Le.trans (A8 (st':=⟨sd,[],[]⟩) [2] [] q) (Le.trans (Lb (t:=2) (nm:=6002) (sz':=1) (λi=>Wy (([]:Ao).getD i 0)) 5 rfl rfl (.inl ⟨rfl,rfl⟩) (λh_=>absurd h_ (by decide))) (A8 (st':=zA) [2] [6002] q))))))))) λh=>tC h λc6_ h=>tB h λx7 y7 h=>tC h λc8_ h=>gR q Tn [8] [(27,(AV.list 1 Wy 0 (l2++x7) (.own 8)))] [(vL 26 x7 x7.length)] (c6 c6_ (K6 y7) (Eq.refl l2.length) c8_ (Cu 1 8 Wy (0:Int) l2 x7) (Br l2 x7)) (Ae q Tn [8] (tN h))) λh=>tS h (gO (A3 (A8 [3] [8] q))))) λx9 h=>(match x9,h with | .inl l4,h=>gA (Ae q [2] [8] (tS h (Bp [(8,20000)]))) | .inr r11,h=>gAr (λst' hk=>tS h (gK hk))))))
def Bb(aP:Ao)(aW:Int):Option Ao:=
 ((Et (Fj aW)).bind λx1=>(Aw (aP.length+x1.length<=room) (some (aP++x1))))
theorem Bt(h:Bb v2 v1=some v17):sP 53 [(cK v2 32000),(Z6 v1)] [(32000,.tok 1 5 v2.length)] (cK v17 32000) [(32000,.tok 1 5 v17.length)]:=
 sG Tryz.func53 λΓ q=>gR q Fe [32000] [(4,so)] [] (c1 (Bc 1 Wy (0:Int))) (tB h λx1 y1 h=>tC h λc2_ h=>gR q [4] [32000] [(9,(AV.list 1 Wy 0 (v2++x1) (.own 32000)))] [⟨[],[(20000,8)],(cK x1 20000),[(20000,.tok 1 5 x1.length)],[],[]⟩] (c5 (K6 y1) (Eq.refl v2.length) c2_ (Cu 1 32000 Wy (0:Int) v2 x1) (Br v2 x1)) (tS h (Bp [(32000,32000)])))
def G0(a0:TFunc)(i6:Int):WK->Option vB:=
 λ((l10,i11):WK)=>(bif (decide (i11<(((a0.Blocks.getD i6.toNat default).Phis).length:Int))) then(Aw (As i11 ((a0.Blocks.getD i6.toNat default).Phis).length) ((Bb l10 ((((a0.Blocks.getD i6.toNat default).Phis).getD i11.toNat default).Bits)).bind λx14=>(Aw (As i11 ((a0.Blocks.getD i6.toNat default).Phis).length) ((Bb x14 ((((a0.Blocks.getD i6.toNat default).Phis).getD i11.toNat default).Dst)).bind λx16=>(Aw (As i11 ((a0.Blocks.getD i6.toNat default).Phis).length) ((C0 ((((a0.Blocks.getD i6.toNat default).Phis).getD i11.toNat default).From)).bind λx18=>(Aw (x16.length+x18.length<=room) (Aw (As i11 ((a0.Blocks.getD i6.toNat default).Phis).length) ((C0 ((((a0.Blocks.getD i6.toNat default).Phis).getD i11.toNat default).Args)).bind λx21=>(Aw ((x16++x18).length+x21.length<=room) (some (.next (((x16++x18)++x21),(w64 (i11+1))))))))))))))) else(some (.done l10)))
def G1(a0:TFunc)(i6:Int):WK->Option vB:=
 λ((l26,i27):WK)=>(bif (decide (i27<(((a0.Blocks.getD i6.toNat default).Ops).length:Int))) then(Aw (As i27 ((a0.Blocks.getD i6.toNat default).Ops).length) ((Bb l26 ((((a0.Blocks.getD i6.toNat default).Ops).getD i27.toNat default).Kind)).bind λx30=>((Bb x30 ((((a0.Blocks.getD i6.toNat default).Ops).getD i27.toNat default).Bits)).bind λx31=>((Bb x31 ((((a0.Blocks.getD i6.toNat default).Ops).getD i27.toNat default).Lanes)).bind λx32=>((Bb x32 ((((a0.Blocks.getD i6.toNat default).Ops).getD i27.toNat default).Dst)).bind λx33=>((C0 ((((a0.Blocks.getD i6.toNat default).Ops).getD i27.toNat default).Args)).bind λx34=>(Aw (x33.length+x34.length<=room) ((Et ((((a0.Blocks.getD i6.toNat default).Ops).getD i27.toNat default).Imm)).bind λx36=>(Aw ((x33++x34).length+x36.length<=room) (some (.next (((x33++x34)++x36),(w64 (i27+1)))))))))))))) else(some (.done l26)))
def G2(a0:TFunc):WK->Option vB:=
 λ((l5,i6):WK)=>(bif (decide (i6<(a0.Blocks.length:Int))) then(Aw (As i6 a0.Blocks.length) ((Bb l5 (((a0.Blocks.getD i6.toNat default).Phis).length:Int)).bind λx9=>((Ad (G0 a0 i6) (x9,(0:Int))).bind (λx23=>((Bb x23 (((a0.Blocks.getD i6.toNat default).Ops).length:Int)).bind λx25=>((Ad (G1 a0 i6) (x25,(0:Int))).bind (λx38=>((Bb x38 ((a0.Blocks.getD i6.toNat default).End.Kind)).bind λx40=>((Bb x40 ((a0.Blocks.getD i6.toNat default).End.Arg)).bind λx41=>((C0 ((a0.Blocks.getD i6.toNat default).End.To)).bind λx42=>(Aw (x41.length+x42.length<=room) (some (.next ((x41++x42),(w64 (i6+1)))))))))))))))) else(some (.done l5)))
def Abg(a0:TFunc)(i6:Int):=(a0.Blocks.getD i6.toNat default)
def Abm(a0:TFunc)(i6:Int)(i27:Int):=(((Abg a0 i6).Ops).getD i27.toNat default)
def se:List NI:=[(2,so)]
def zB:=(Z115:St)
def Ja(a0:TFunc):Option Ao:=
 ((Gq a0).bind λx1=>(bif (!x1) then(some ([]:Ao)) else((C0 a0.Params).bind λx2=>((Bb x2 a0.Ret).bind λx3=>((Bb x3 (a0.Blocks.length:Int)).bind λx4=>((Ad (G2 a0) (x4,(0:Int))).bind (λx44=>(some x44))))))))
theorem Xa(h:Ja v0=some v2):sP 18 [(Yz v0)] [] (cK v2 20000) [(20000,.tok 1 5 v2.length)]:=
 sG Tryz.func18 λΓ q=>gR q [1] [1] se [] (c1 (Bc 1 Wy (0:Int))) (tB h λx1 y1 h=>tT q [1,11] [1] [(Z7 x1)] (c1 (Sx y1)) (gC h (λh=>gR q [2] [] se [] (c1 (Bc 1 Wy (0:Int))) (O6 (⟨se,[],[]⟩:St) (tS h (gK (e:=.ret) (H5 LP (show Le Γ _ zB from Le.trans (A8 (st':=⟨se,[],[]⟩) [2] [] q) (Le.trans (Lb (t:=2) (nm:=6002) (sz':=1) (λi=>Wy (([]:Ao).getD i 0)) 5 rfl rfl (.inl ⟨rfl,rfl⟩) (λh_=>absurd h_ (by decide))) (A8 (st':=zB) [2] [6002] q)))))))) λh=>tB h λx2 y2 h=>tT q Iz DC [(vL 14 x2 x2.length)] (c1 (H2 y2)) (tB h λx3 y3 h=>tB h λx4 y4 h=>tT q Iz DC [(mf x3 x3.length),(mf x4 x4.length)] (c2 (Bt y3) (Bt y4)) (Ae q Ho DC (tL q h Ho DC (λu (l5,i6)=>(Cn u [(3,(cK l5 14)),(4,(Z6 i6))] [(14,.tok 1 5 l5.length)])) (λu l7=>aG Γ (.exit 0) (⟨[(3,(cK l7 14))],[(14,.tok 1 5 l7.length)],[]⟩:St)) (λ⟨l5,i6⟩ y h=>Ae q [1,3,4,27] DC (gC h (λh=>tV q Gl Rq h λh=>tB h λx9 y9 h=>tT q Gl Rq [(mf x9 x9.length)] (c1 (Bt y9)) (Ae q Oq Rq (tL q h Oq Rq (λu (l10,i11)=>(Cn u [(3,(cK l10 14)),(6,(Z6 i11))] [(14,.tok 1 5 l10.length)])) (λu l12=>aG Γ (.exit 2) (Nc Gl Rq u [(3,(cK l12 14))] [(14,.tok 1 5 l12.length)])) (λ⟨l10,i11⟩ y h=>Ae q [1,3,4,5,6,44] Rq (gC h (λh=>tC h λc13_ h=>tB h λx14 y14 h=>tC h λc15_ h=>tB h λx16 y16 h=>tT q Oq Rq [(mf x14 x14.length),(mf x16 x16.length)] (c4 c13_ (Bt y14) c15_ (Bt y16)) (tC h λc17_ h=>tB h λx18 y18 h=>tC h λc19_ h=>tC h λc20_ h=>tB h λx21 y21 h=>tC h λc22_ h=>gR q Oq Rq [(70,(AV.list 1 Wy 0 (x16++x18) (.own 14))),(78,(AV.list 1 Wy 0 ((x16++x18)++x21) (.own 14)))] [(vL 69 x18 x18.length),(vL 77 x21 x21.length)] (yC c17_ (H2 y18) (Eq.refl x16.length) c19_ (Cu 1 14 Wy (0:Int) x16 x18) (Br x16 x18) c20_ (H2 y21) (Eq.refl ((x16++x18).length)) (c3 c22_ (Cu 1 14 Wy (0:Int) (x16++x18) x21) (Br (x16++x18) x21))) (Ae q Oq Rq (tN h)))) λh=>tS h (gO (A3 (A8 Gl Rq q))))) λx23 h=>gA (tB h λx25 y25 h=>tT q Gl Rq [(mf x25 x25.length)] (c1 (Bt y25)) (Ae q bn Rq (tL q h bn Rq (λu (l26,i27)=>(Cn u [(3,(cK l26 14)),(7,(Z6 i27))] [(14,.tok 1 5 l26.length)])) (λu l28=>aG Γ (.exit 4) (Nc Gl Rq u [(3,(cK l28 14))] [(14,.tok 1 5 l28.length)])) (λ⟨l26,i27⟩ y h=>Ae q [1,3,4,5,7,88] Rq (gC h (λh=>tV q [1,3,4,5,7,8] [1,5,8,14] h λh=>tB h λx30 y30 h=>tB h λx31 y31 h=>tB h λx32 y32 h=>tB h λx33 y33 h=>tT q [1,3,4,5,7,8] [1,5,8,14] [(mf x30 x30.length),(mf x31 x31.length),(mf x32 x32.length),(mf x33 x33.length)] (c4 (Bt y30) (Bt y31) (Bt y32) (Bt y33)) (tB h λx34 y34 h=>tC h λc35_ h=>tB h λx36 y36 h=>tC h λc37_ h=>gR q bn Rq [(113,(AV.list 1 Wy 0 (x33++x34) (.own 14))),(117,(AV.list 1 Wy 0 ((x33++x34)++x36) (.own 14)))] [(vL 112 x34 x34.length),(vL 116 x36 x36.length)] (yC (H2 y34) (Eq.refl x33.length) c35_ (Cu 1 14 Wy (0:Int) x33 x34) (Br x33 x34) (K6 y36) (Eq.refl ((x33++x34).length)) c37_ (Cu 1 14 Wy (0:Int) (x33++x34) x36) (c1 (Br (x33++x34) x36))) (Ae q bn Rq (tN h)))) λh=>tS h (gO (A3 (A8 Gl Rq q))))) λx38 h=>gA (tB h λx40 y40 h=>tB h λx41 y41 h=>tT q Gl Rq [(mf x40 x40.length),(mf x41 x41.length)] (c2 (Bt y40) (Bt y41)) (tB h λx42 y42 h=>tC h λc43_ h=>gR q Ho DC [(132,(AV.list 1 Wy 0 (x41++x42) (.own 14)))] [(vL 131 x42 x42.length)] (c5 (H2 y42) (Eq.refl x41.length) c43_ (Cu 1 14 Wy (0:Int) x41 x42) (Br x41 x42)) (Ae q Ho DC (tN h)))))))))) λh=>tS h (gO (A3 (A8 [3] [14] q))))) λx44 h=>gA (Ae q [2] [14] (tS h (Bp jD))))))))
def Eg(a0:TFunc)(x6:CT)(i17:Int):Hn->Option iI:=
 λ((i20,i21):Hn)=>(Aw (As i17 x6.1.Blocks.length) (bif (decide (i21<(((x6.1.Blocks.getD i17.toNat default).Ops).length:Int))) then(Option.bind (α:=Int) (Aw (As i17 x6.1.Blocks.length) (Aw (As i21 ((x6.1.Blocks.getD i17.toNat default).Ops).length) (Aw (((((((x6.1.Blocks.getD i17.toNat default).Ops).getD i21.toNat default).Dst:Int)==0)==false)=true->(As i17 x6.1.Blocks.length)) (Aw (((((((x6.1.Blocks.getD i17.toNat default).Ops).getD i21.toNat default).Dst:Int)==0)==false)=true->(As i21 ((x6.1.Blocks.getD i17.toNat default).Ops).length)) ((bif ((((((x6.1.Blocks.getD i17.toNat default).Ops).getD i21.toNat default).Dst:Int)==0)==false) then K2 a0 else some (0:Int)).bind λx29=>(bif (bif (((((x6.1.Blocks.getD i17.toNat default).Ops).getD i21.toNat default).Dst:Int)==0) then true else(decide (((((x6.1.Blocks.getD i17.toNat default).Ops).getD i21.toNat default).Dst:Int)<=x29))) then(some (w64 (i20+1))) else(some i20))))))) (λx30=>(some (.next (x30,(w64 (i21+1))))))) else(some (.done i20))))
def zC(x5:SX):=(decide ((0:Int)<=x5.1.Else))
def zD(x5:SX):=(decide ((0:Int)<=x5.1.Then))
def sf(x6:CT)(a0:TFunc)(x11:Int):=((x6.1.Blocks.length:Int)!=(w64 ((a0.Blocks.length:Int)-x11)))
def wW(x32:Int)(a0:TFunc)(x5:SX)(x35:List A2):=(x32==(w64 ((((a0.Blocks.getD (x5.1.At).toNat (default:Ab)).Ops).length:Int)+(x35.length:Int))))
def nV(x6:CT)(x18:Int)(i21:Int):=((((((x6.1.Blocks.getD x18.toNat default).Ops).getD i21.toNat default).Dst:Int)==0)==false)
def nU(a0:TFunc)(x5:SX)(x6:CT):List OM:=[(2,.row 25 (Z5 a0.Params a0.Ret a0.Blocks)),(5,.row 27 [(Z6 x5.1.At),(Z6 x5.1.Then),(Z6 x5.1.Else),(Z6 x5.1.Join)]),(7,.row 25 (Z5 x6.1.Params x6.1.Ret x6.1.Blocks))]
def I9(a0:TFunc)(a1:Int):Option Bool:=
 (m_locksteplaw15_awake.bind λx1=>(bif (!x1) then(some false) else((Ez a0).bind λx2=>((bif ((!x2)==false) then Cy a0 (2:Int) else some (0:Int)).bind λx3=>(bif (bif (!x2) then true else(x3 !=0)) then(some true) else(Aw ((a0.Blocks.length:Int)≠0) ((K4 a0 (Int.tmod (w64 a1) (a0.Blocks.length:Int))).bind λx5=>(bif (!x5.2) then(some true) else((H0 a0 x5.1).bind λx6=>(bif (x6.2 !=0) then(some ((x6.1.Blocks.length:Int)==0)) else(Option.bind (α:=Int) (bif (decide ((0:Int)<=x5.1.Then)) then(some (w64 ((0:Int)+1))) else(some (0:Int))) (λx8=>(Option.bind (α:=Int) (bif (decide ((0:Int)<=x5.1.Else)) then(some (w64 (x8+1))) else(some x8)) (λx11=>((bif (((x6.1.Blocks.length:Int)!=(w64 ((a0.Blocks.length:Int)-x11)))==false) then Ja x6.1 else some []).bind λx13=>(bif (bif ((x6.1.Blocks.length:Int)!=(w64 ((a0.Blocks.length:Int)-x11))) then true else((x13.length:Int)==0)) then(some false) else(Option.bind (α:=Int) (bif (bif (decide ((0:Int)<=x5.1.Then)) then(decide ((x5.1.Then:Int)<x5.1.At)) else false) then(some (w64 (x5.1.At-1))) else(some x5.1.At)) (λx15=>(Option.bind (α:=Int) (bif (bif (decide ((0:Int)<=x5.1.Else)) then(decide ((x5.1.Else:Int)<x5.1.At)) else false) then(some (w64 (x15-1))) else(some x15)) (λx18=>((Ad (Eg a0 x6 x18) ((0:Int),(0:Int))).bind (λx32=>(Aw (As x5.1.At a0.Blocks.length) ((Lr a0 x5.1).bind λx35=>(Aw (((x32==(w64 ((((a0.Blocks.getD (x5.1.At).toNat (default:Ab)).Ops).length:Int)+(x35.length:Int))))==true)=true->(As x18 x6.1.Blocks.length)) (some (bif (x32==(w64 ((((a0.Blocks.getD (x5.1.At).toNat (default:Ab)).Ops).length:Int)+(x35.length:Int)))) then(((x6.1.Blocks.getD x18.toNat default).End.Kind:Int)==1) else false)))))))))))))))))))))))))))
theorem ok_locksteplaw15_IfconvFewer(a0:TFunc)(a1:Int)(r:Bool)(h:I9 a0 a1=some r):sP 5 [(Yz a0),(.int .u8 a1)] [] (.bool r) []:=
 sG Tryz.func5 λΓ q=>Ae q Ng [2] (tB h λx1 y1 h=>tT q [1,2,14] [2] [(Z7 x1)] (c1 (Yb  x1 y1)) (gC h (λh=>Ae q [4] [] (tS h (Bp []))) λh=>tB h λx2 y2 h=>tB h λx3 y3 h=>tT q [1,2,22] [2] [(Z7 x2),(JP x3)] (c5 (Yh y2) (gI ((!x2)==false)) (λ(hg:((!x2)==false)=true)=>(Mh (Ba hg y3))) (gI ((!x2)==false)) (I4 (!x2))) (gC h (λh=>Ae q [4] [] (tS h (Bp []))) λh=>tC h λc4_ h=>tB h λx5 y5 h=>tT q V5 Tf [(sk x5.1 x5.2)] (c2 c4_ (AF y5)) (Ae q [2,5,35] Tf (gC h (λh=>Ae q [4] [] (tS h (Bp []))) λh=>tB h λx6 y6 h=>tT q bt Jl [(zP x6.1 x6.2)] (c1 (Mo y6)) (Ae q [2,5,7,43] Jl (gC h (λh=>Ae q [4] [] (tS h (Bp []))) λh=>Ae q CY Jl (tB h λx8 y8 h=>gJ y8 (λi7=>aG Γ .normal (⟨[N8,VF,JS,(9,(Z6 i7))],(nU a0 x5 x6),[]⟩:St)) (λy h=>Ae q [2,5,7,9,50] Jl (gC h (λh=>Ae q CY Jl (tS h (gK (A3 Gt)))) λh=>tS h (gK (A3 (A8 CY Jl q))))) (gA (tB h λx11 y11 h=>gJ y11 (λi10=>aG Γ .normal (⟨[N8,VF,JS,(9,(Z6 i10))],(nU a0 x5 x6),[]⟩:St)) (λy h=>Ae q [2,5,7,9,55] Jl (gC h (λh=>Ae q CY Jl (tS h (gK (A3 Gt)))) λh=>tS h (gK (A3 (A8 CY Jl q))))) (gA (tB h λx13 y13 h=>tT q [2,5,7,72] Jl [⟨[],[],(AV.list 1 Wy 0 x13 .none),[],[],[]⟩] (PY (gI ((sf x6 a0 x11)==false)) (show(((sf x6 a0 x11)==false)=true->(sP 18 [(Yz x6.1)] [] (AV.list 1 Wy 0 x13 .none) [])) from(λhg=>(Spec.drop (Xa (Ba hg y13))))) (J7 ((sf x6 a0 x11)==false) (c1 (I4 (sf x6 a0 x11))))) (gC h (λh=>Ae q [4] [] (tS h (Bp []))) λh=>Ae q TY Jl (tB h λx15 y15 h=>gJ y15 (λi14=>aG Γ .normal (⟨[N8,VF,JS,(10,(Z6 i14))],(nU a0 x5 x6),[]⟩:St)) (λy h=>tU q [2,5,7,10,84] Jl (QH ((zD x5)==true) (c1 (M7 (zD x5)))) (gC h (λh=>Ae q TY Jl (tS h (gK (A3 Gt)))) λh=>tS h (gK (A3 (A8 TY Jl q))))) (gA (tB h λx18 y18 h=>gJ y18 (λi17=>aG Γ .normal (⟨[N8,VF,JS,(10,(Z6 i17))],(nU a0 x5 x6),[]⟩:St)) (λy h=>tU q [2,5,7,10,96] Jl (QH ((zC x5)==true) (c1 (M7 (zC x5)))) (gC h (λh=>Ae q TY Jl (tS h (gK (A3 Gt)))) λh=>tS h (gK (A3 (A8 TY Jl q))))) (gA (tW q ii Jl en Jl (tL q h en Jl (λu (i20,i21)=>(Cn u [(11,(Z6 i20)),(12,(Z6 i21))] [])) (λu i22=>aG Γ (.exit 0) (Nc ii Jl u [(11,(Z6 i22))] [])) (λ⟨i20,i21⟩ y h=>tV q [2,5,7,10,11,12,107] Jl h λh=>gC h (λh=>tB h λx30 y30 h=>gJ y30 (λi24=>aG Γ .normal (⟨[N8,VF,JS,(10,(Z6 x18)),(11,(Z6 i24)),(12,(Z6 i21))],(nU a0 x5 x6),[]⟩:St)) (λy h=>tC h λc25_ h=>tC h λc26_ h=>tC h λc27_ h=>tC h λc28_ h=>tB h λx29 y29 h=>tT q [2,5,7,10,11,12,135] Jl [(JP x29)] (PY c25_ c26_ (Sh (nV x6 x18 i21) (ci c27_ (QH (nV x6 x18 i21) (ci c28_ (Sh (nV x6 x18 i21) (ci (λ(hg:(nV x6 x18 i21)=true)=>(AD (Ba hg y29))) (J7 (nV x6 x18 i21) (c1 (I4 (((((x6.1.Blocks.getD x18.toNat default).Ops).getD i21.toNat default).Dst:Int)==0))))))))))) (gC h (λh=>Ae q en Jl (tS h (gK (A3 Gt)))) λh=>tS h (gK (A3 (A8 en Jl q))))) (gA (Ae q en Jl (tN h)))) λh=>tS h (gO (A3 (A8 ii Jl q)))) λx32 h=>gA (tC h λc34_ h=>tB h λx35 y35 h=>tC h λc36_ h=>tT q [4] [] [⟨[],[(20000,149)],(jL x35 20000),[(NX 20000 x35.length)],[],[]⟩] (PY c34_ (CC y35) (Sh ((wW x32 a0 x5 x35)==true) (ci c36_ (QH ((wW x32 a0 x5 x35)==true) (c1 (M7 (wW x32 a0 x5 x35))))))) (tS h (Bp []))))))))))))))))))))))
open Go Go.RowKit
set_option maxRecDepth 100000
set_option maxHeartbeats 2000000
theorem Em{n:Int}(h:-9223372036854775808<=n)(h':n<9223372036854775808):w64 n=n:=by
 show IntKind.i64.wrap n=n
 simp only[IntKind.wrap,IntKind.bits,IntKind.signed]
 simp
 split<;>omega
theorem So{n:Int}(h:0<=n)(h':n<18446744073709551616):Fj n=n:=by
 show IntKind.u64.wrap n=n
 simp[IntKind.wrap,IntKind.bits,IntKind.signed];omega
theorem qZ(n:Int):Fj n=n % 18446744073709551616:=by
 show IntKind.u64.wrap n=_
 simp[IntKind.wrap,IntKind.bits,IntKind.signed]
theorem qa{n:Int}(h:0<=n)(h':n<256):u1 n=n:=by
 show IntKind.u8.wrap n=n
 simp[IntKind.wrap,IntKind.bits,IntKind.signed];omega
theorem Aa{R:Type}{p:Prop}[Decidable p]{k:Option R}(h:p):Aw p k=k:=if_pos h
theorem oi{x:Int}(j:Nat):x.fdiv (2 ^ j)=x / 2 ^ j:=by rw[Int.fdiv_eq_ediv_of_nonneg _ (by exact Int.le_of_lt (Int.pow_pos (by decide)))]
theorem An{α:Type}(l:List α)(i:Nat)(d:α)(h:i<l.length):l.getD i d=l[i]:=by simp[List.getD,h]
theorem CO:(2:Nat) ^ 64=18446744073709551616:=by decide
theorem kinds(k:Int):k=0\/k=1\/k=2\/k=3\/k=4\/k=5\/k=6\/k=7\/k=8\/k=9\/k=10\/k=11\/k=12\/k=13\/k=14\/k=15\/k=16\/k=17\/k=18\/k=19\/k=20\/k=21\/k=22\/(k<0\/22<k):=by omega
theorem gr{k:Int}(h:k<0\/22<k):(k==0)=false/\(k==1)=false/\(k==2)=false/\(k==3)=false/\(k==4)=false/\(k==5)=false/\(k==6)=false/\(k==7)=false/\(k==8)=false/\(k==9)=false/\(k==10)=false/\(k==11)=false/\(k==12)=false /\
  (k==13)=false/\(k==14)=false/\(k==15)=false/\(k==16)=false/\(k==17)=false/\(k==18)=false/\(k==19)=false/\(k==20)=false/\(k==21)=false/\(k==22)=false:=by
 simp only[zzL34];omega
def widthB(b:Int):Bool:=b==1 || b==8 || b==16 || b==32 || b==64
def X1(b n:Int):Bool:=widthB b&&(n==1 || ((n==2 || n==4 || n==8 || n==16)&&decide (8<=b)&&decide (b*n<=128)))
theorem width_cases{b:Int}(h:widthB b=true):b=1\/b=8\/b=16\/b=32\/b=64:=by simp[widthB]at h;omega
theorem CL{b n:Int}(h:X1 b n=true):widthB b=true:=by simp[X1]at h;exact h.1
theorem shape_lanes{b n:Int}(h:X1 b n=true):n=1\/n=2\/n=4\/n=8\/n=16:=by simp[X1]at h;omega
theorem Xg(b:Int):Lh b=some (widthB b):=by
 unfold Lh widthB
 by_cases h1:b=1
 ·subst h1;rfl
 by_cases h2:b=8
 ·subst h2;rfl
 by_cases h3:b=16
 ·subst h3;rfl
 by_cases h4:b=32
 ·subst h4;rfl
 by_cases h5:b=64
 ·subst h5;rfl
 have e1:(b==1)=false:=by simpa using h1
 have e2:(b==8)=false:=by simpa using h2
 have e3:(b==16)=false:=by simpa using h3
 have e4:(b==32)=false:=by simpa using h4
 have e5:(b==64)=false:=by simpa using h5
 simp[e1,e2,e3,e4,e5]
theorem Sz(b:Int):Cz b=some (widthB b):=by
 cases(b==1)<;>cases(b==8)<;>cases(b==16)<;>cases(b==32)<;>rfl
theorem gQ(b n:Int):Tx b n=some (X1 b n):=by
 unfold Tx;simp only[Xg,Aj]
 by_cases hn:n=1\/n=2\/n=4\/n=8\/n=16
 ·cases hw:widthB b with
  | false=>rcases hn with rfl|rfl|rfl|rfl|rfl<;>simp[X1,hw]
  | true=>
   rcases width_cases hw with rfl|rfl|rfl|rfl|rfl<;>rcases hn with rfl|rfl|rfl|rfl|rfl<;>rfl
 ·have e1:(n==1)=false:=by simp;omega
  have e2:(n==2)=false:=by simp;omega
  have e3:(n==4)=false:=by simp;omega
  have e4:(n==8)=false:=by simp;omega
  have e5:(n==16)=false:=by simp;omega
  simp[X1,e1,e2,e3,e4,e5]
theorem mF(b n:Int):J2 b n=some (X1 b n):=by
 unfold J2;simp only[Sz,Aj]
 cases hw:widthB b with
 | false=>simp[X1,hw]
 | true=>
  by_cases hn:n=1\/n=2\/n=4\/n=8\/n=16
  ·rcases width_cases hw with rfl|rfl|rfl|rfl|rfl<;>rcases hn with rfl|rfl|rfl|rfl|rfl<;>rfl
  ·have e1:(n==1)=false:=by simp;omega
   have e2:(n==2)=false:=by simp;omega
   have e3:(n==4)=false:=by simp;omega
   have e4:(n==8)=false:=by simp;omega
   have e5:(n==16)=false:=by simp;omega
   simp[X1,e1,e2,e3,e4,e5]
theorem qY{v b:Int}(hv:0<=v/\v<18446744073709551616)(hb:widthB b=true):X5 v b=some (v % 2 ^ b.toNat):=by
 unfold X5;simp only[Xg,hb,Aj,Dt,Ar]
 have key:∀ j:Nat,j<64->Xf .u64 (SK .u64 v (j:Int)) (j:Int)=(v*2 ^ j % 18446744073709551616) / 2 ^ j:=λj hj=>by
  simp only[Xf,SK,Co,IntKind.bits];rw[Nat.min_eq_left (by omega),oi,show IntKind.u64.wrap (v*2 ^ j)=v*2 ^ j % 18446744073709551616 from qZ _]
 rcases width_cases hb with rfl|rfl|rfl|rfl|rfl
 ·have:=key 63 (by decide);simp only[show w64 (64-1)=((63:Nat):Int) from rfl,this];rw[Aa (by decide),Aa (by decide)];congr 1;simp only[show((1:Int).toNat)=1 from rfl];omega
 ·have:=key 56 (by decide);simp only[show w64 (64-8)=((56:Nat):Int) from rfl,this];rw[Aa (by decide),Aa (by decide)];congr 1;simp only[show((8:Int).toNat)=8 from rfl];omega
 ·have:=key 48 (by decide);simp only[show w64 (64-16)=((48:Nat):Int) from rfl,this];rw[Aa (by decide),Aa (by decide)];congr 1;simp only[show((16:Int).toNat)=16 from rfl];omega
 ·have:=key 32 (by decide);simp only[show w64 (64-32)=((32:Nat):Int) from rfl,this];rw[Aa (by decide),Aa (by decide)];congr 1;simp only[show((32:Int).toNat)=32 from rfl];omega
 ·have:=key 0 (by decide);simp only[show w64 (64-64)=((0:Nat):Int) from rfl,this];rw[Aa (by decide),Aa (by decide)];congr 1;simp only[show((64:Int).toNat)=64 from rfl];omega
theorem uf{v b:Int}(hv:0<=v/\v<18446744073709551616)(hb:widthB b=true):Lp v b=some (v % 2 ^ b.toNat):=by
 unfold Lp;simp only[Sz,hb,Aj,Dt,Ar];rcases width_cases hb with rfl|rfl|rfl|rfl|rfl
 ·rw[show((1:Int)==64)=false from rfl,Ar,Aa (by decide),Aa (by decide),show SK .u64 (1:Int) (Fj 1)=2 ^ (1:Int).toNat from rfl,Int.tmod_eq_emod_of_nonneg hv.1]
 ·rw[show((8:Int)==64)=false from rfl,Ar,Aa (by decide),Aa (by decide),show SK .u64 (1:Int) (Fj 8)=2 ^ (8:Int).toNat from rfl,Int.tmod_eq_emod_of_nonneg hv.1]
 ·rw[show((16:Int)==64)=false from rfl,Ar,Aa (by decide),Aa (by decide),show SK .u64 (1:Int) (Fj 16)=2 ^ (16:Int).toNat from rfl,Int.tmod_eq_emod_of_nonneg hv.1]
 ·rw[show((32:Int)==64)=false from rfl,Ar,Aa (by decide),Aa (by decide),show SK .u64 (1:Int) (Fj 32)=2 ^ (32:Int).toNat from rfl,Int.tmod_eq_emod_of_nonneg hv.1]
 ·rw[show((64:Int)==64)=true from rfl,Af]
  congr 1
  simp only[show((64:Int).toNat)=64 from rfl];omega
theorem ah{i:Int}(h:0<=i/\i<18446744073709551616):Nx i=some (widthB i):=by
 unfold Nx
 by_cases hi:i<=64
 ·have:w64 i=i:=Em (by omega) (by omega);simp[hi,this,Xg]
 ·have:widthB i=false:=by simp[widthB];omega
  simp[hi,this]
def gM(k:Int):Bool:=decide (0<=k)&&decide (k<=22)
def Rd(k n:Int):Int:=
 bif k==0 then 0 else bif k==13 || k==18 || k==19 then 3 else bif k==14 || k==15 || k==16 || k==22 then 1 else bif k==20 then 4 else bif k==21 then n else 2
def sfitS(k b n:Int):Bool:=
 bif k==16 || k==17 then decide (8<=b) else bif k==18 || k==19 then decide (8<=b)&&n==1 else
 bif k==4 || k==10 || k==11 || k==12 || k==14 || k==15 || k==20 then n==1 else bif k==21 || k==22 then decide (1<n) else true
def ifitS(k b n i:Int):Bool:=
 bif k==0 then i % 2 ^ b.toNat==i else bif k==14 then widthB i&&decide (i<b) else bif k==15 then widthB i&&decide (b<i) else bif k==22 then decide (i<n) else i==0
def valS(v:Int):Bool:=decide (1<=v)&&decide (v<=1023)
def dstS(k d:Int):Bool:=bif k==17 || k==19 then d==0 else valS d
def Jr(o:A2):Bool:=X1 o.Bits o.Lanes&&(gM o.Kind&&sfitS o.Kind o.Bits o.Lanes&&ifitS o.Kind o.Bits o.Lanes o.Imm&&((o.Args.length:Int)==Rd o.Kind o.Lanes))&&(o.Args.all valS&&dstS o.Kind o.Dst)
def cn(o:A2)(i:Nat):Int×Int:=
 bif o.Kind==13 || o.Kind==20 then(bif Nat.beq i 0 then(1,1) else(o.Bits,o.Lanes)) else bif o.Kind==14 || o.Kind==15 then(w64 o.Imm,1) else
 bif o.Kind==16 || o.Kind==17 then(bif Nat.beq i 0 then(64,1) else(o.Bits,o.Lanes)) else
 bif o.Kind==18 || o.Kind==19 then(bif Nat.beq i 1 then(64,1) else bif Nat.beq i 0 then(1,1) else(o.Bits,o.Lanes)) else bif o.Kind==21 then(o.Bits,1) else(o.Bits,o.Lanes)
def Yq(o:A2):List (Int×Int):=(List.range (Rd o.Kind o.Lanes).toNat).map (cn o)
def GE(k b n:Int):Int×Int:=bif k==17 || k==19 then(0,0) else bif k==10 || k==11 || k==12 then(1,1) else bif k==22 then(b,1) else(b,n)
def YC(k:Int):Bool:=gM k&&!(k==4 || k==16 || k==17 || k==18 || k==19 || k==20)
theorem HX{k:Int}(h:k<0\/22<k):gM k=false:=by simp[gM];omega
theorem MM(k:Int):O8 k=some (gM k):=by unfold O8 gM;cases decide ((0:Int)<=k)<;>rfl
theorem X0(v:Int):Nw v=some (valS v):=by unfold Nw valS;cases decide ((1:Int)<=v)<;>rfl
theorem EC(v:Int):Ex v=some (valS v):=by
 unfold Ex valS
 have e1:decide ((0:Int)<v)=decide (1<=v):=by congr 1
 have e2:decide (v<(1024:Int))=decide (v<=1023):=by apply zzL74.2;omega
 rw[e1,e2]
 cases decide ((1:Int)<=v)<;>rfl
theorem QP(o:A2):Oe o=some (sfitS o.Kind o.Bits o.Lanes):=by
 obtain⟨k,b,n,d,args,i⟩:=o;rcases kinds k with rfl|rfl|rfl|rfl|rfl|rfl|rfl|rfl|rfl|rfl|rfl|rfl|rfl|rfl|rfl|rfl|rfl|rfl|rfl|rfl|rfl|rfl|rfl|h
 any_goals rfl
 ·show some (bif decide (8<=b) then n==1 else false)=some (decide (8<=b)&&n==1);cases decide (8<=b)<;>rfl
 ·show some (bif decide (8<=b) then n==1 else false)=some (decide (8<=b)&&n==1);cases decide (8<=b)<;>rfl
 ·unfold Oe sfitS;simp[gr h]
theorem QO(o:A2):Qy o=some (GE o.Kind o.Bits o.Lanes):=by
 obtain⟨k,b,n,d,args,i⟩:=o;rcases kinds k with rfl|rfl|rfl|rfl|rfl|rfl|rfl|rfl|rfl|rfl|rfl|rfl|rfl|rfl|rfl|rfl|rfl|rfl|rfl|rfl|rfl|rfl|rfl|h
 any_goals rfl
 unfold Qy GE;simp[gr h]
theorem af(o:A2)(hw:widthB o.Bits=true)(hn:0<=o.Lanes/\o.Lanes<=16)(hi:0<=o.Imm/\o.Imm<18446744073709551616):Qz o=some (ifitS o.Kind o.Bits o.Lanes o.Imm):=by
 unfold Qz ifitS
 have hb:Fj o.Bits=o.Bits:=by apply So<;>(rcases width_cases hw with h|h|h|h|h<;>omega)
 have hl:Fj o.Lanes=o.Lanes:=by apply So<;>omega
 rw[qY hi hw,ah hi,hb,hl]
 cases(o.Kind==0)<;>cases(o.Kind==14)<;>cases(o.Kind==15)<;>cases(o.Kind==22)<;>cases widthB o.Imm<;>rfl
set_option maxHeartbeats 2000000 in
theorem qB (o : A2) (hs : X1 o.Bits o.Lanes = true) (hk : gM o.Kind = true) (hi : 0 ≤ o.Imm ∧ o.Imm < 18446744073709551616) : Ft o = some (sfitS o.Kind o.Bits o.Lanes && ifitS o.Kind o.Bits o.Lanes o.Imm) := by
  have hw := CL hs; have hl := shape_lanes hs; obtain ⟨k, b, n, d, args, i⟩ := o; simp only at hs hk hi hw hl ⊢
  have hb : Fj b = b := by apply So <;> (rcases width_cases hw with h | h | h | h | h <;> omega)
  have hn : Fj n = n := by apply So <;> omega
  have hb8 : decide (b < 8) = !decide (8 ≤ b) := by rw [← decide_not]; apply zzL74.2; omega
  have hn2 : decide (n < 2) = !decide (1 < n) := by rw [← decide_not]; apply zzL74.2; omega
  have h14 : (bif decide (i < b) then widthB (w64 i) else false) = (widthB i && decide (i < b)) := by
    by_cases h : i < b
    · have : w64 i = i := Em (by omega) (by rcases width_cases hw with h | h | h | h | h <;> omega); simp [h, this]
    · simp [h]
  have h15 : (bif (bif decide (b < i) then decide (i ≤ 64) else false) then widthB (w64 i) else false) = (widthB i && decide (b < i)) := by
    by_cases h : i ≤ 64
    · have : w64 i = i := Em (by omega) (by omega)
      by_cases h2 : b < i <;> simp [h, this, h2]
    · have : widthB i = false := by simp [widthB]; omega
      simp [h, this]
  have hc := uf (v := i) hi hw; rcases kinds k with rfl | rfl | rfl | rfl | rfl | rfl | rfl | rfl | rfl | rfl | rfl | rfl | rfl | rfl | rfl | rfl | rfl | rfl | rfl | rfl | rfl | rfl | rfl | h
  case inl => unfold Ft; simp [hc, sfitS, ifitS]
  all_goals first
    | (rw [HX h] at hk; cases hk)
    | (unfold Ft sfitS ifitS
       simp only [hb8]
       generalize decide (8 ≤ b) = u at *
       clear hc h14 h15 hb8 hw hs; rcases hl with rfl | rfl | rfl | rfl | rfl <;> cases u <;> simp_all
       done)
    | (unfold Ft sfitS ifitS
       rw [hb]; simp only [Sz]; clear hc hs
       generalize decide (i < b) = p at *
       generalize decide (b < i) = q at *
       generalize decide (i ≤ 64) = r at *
       generalize widthB (w64 i) = s at *
       rcases hl with rfl | rfl | rfl | rfl | rfl <;> cases p <;> cases q <;> cases r <;> cases s <;> simp_all
       done)
theorem G4{α X:Type}(l:List α)(d:α)(p:α->Bool)(f:Int->Option (LR Int X))(yes no:X)(hn:∀ i:Nat,i<l.length->p (l.getD i d)=true->f i=some (.next ((i:Int)+1)))
  (hf:∀ i:Nat,i<l.length->p (l.getD i d)=false->f i=some (.done no)) (he:f l.length=some (.done yes)):∀(k i:Nat),i+k=l.length->Ad f i=some (bif (l.drop i).all p then yes else no)
 | 0,i,h=>by
  obtain rfl:i=l.length:=by omega
  rw[Ak he]
  simp
 | k+1,i,h=>by
  have hi:i<l.length:=by omega
  have hd:l.drop i=l.getD i d::l.drop (i+1):=by simp_all
  cases hp:p _ with
  | true=>
   rw[Aq (hn i hi hp)];have:=G4 l d p f yes no hn hf he k (i+1) (by omega);rw[show((i:Int)+1)=(i+1:Nat) by omega,this,hd,FO,hp,Jj]
  | false=>
   rw[Ak (hf i hi hp),hd,FO,hp,GV,Ar]
theorem QU{α X:Type}(n:Nat)(g:Nat->α)(f:List α×Int->Option (LR (List α×Int) X))(out:List α->X)(hn:∀(l:List α) (i:Nat),i<n->l.length=i->f (l,(i:Int))=some (.next (l++[g i],(i:Int)+1)))
  (he:∀ l:List α,l.length=n->f (l,(n:Int))=some (.done (out l))):∀(k i:Nat) (l:List α),i+k=n->l=(List.range i).map g->Ad f (l,(i:Int))=some (out ((List.range n).map g))
 | 0,i,l,h,hl=>by
  obtain rfl:i=n:=by omega
  subst hl;exact Ak (he _ (by simp))
 | k+1,i,l,h,hl=>by
  subst hl;rw[Aq (hn _ i (by omega) (by simp))];exact QU n g f out hn he k (i+1) _ (by omega) (by simp[FM])
theorem IB{α:Type}(l:List α)(d:α)(wt:α->Nat)(C:Nat)(f:Int×Int->Option (LR (Int×Int) Int))
  (hn:∀(n i:Nat),i<l.length->n<=C->∃ m:Nat,f ((n:Int),(i:Int))=some (.next ((m:Int),((i+1:Nat):Int)))/\(n+wt (l.getD i d)<=C->m=n+wt (l.getD i d))/\(m<=C->n+wt (l.getD i d)<=C))
  (hd:∀(n i:Nat),i<=l.length->(i=l.length\/C<n)->f ((n:Int),(i:Int))=some (.done (n:Int))) :
  ∀(k i n:Nat),i+k=l.length->∃ m:Nat,Ad f ((n:Int),(i:Int))=some (m:Int)/\(n+((l.drop i).map wt).sum<=C->m=n+((l.drop i).map wt).sum)/\(m<=C->n+((l.drop i).map wt).sum<=C)
 | 0,i,n,h=>by
  obtain rfl:i=l.length:=by omega
  refine⟨n,Ak (hd n _ (zzL8 _) (.inl rfl)),?_,?_⟩
  ·simp
  ·simp
 | k+1,i,n,h=>by
  have hi:i<l.length:=by omega
  have hdr:l.drop i=l.getD i d::l.drop (i+1):=by rw[bS hi,An _ _ _ hi]
  by_cases hC:n<=C
  ·obtain⟨m,h1,h2,h3⟩:=hn n i hi hC;obtain⟨m',h4,h5,h6⟩:=IB l d wt C f hn hd k (i+1) m (by omega);refine⟨m',by rw[Aq h1];exact h4,λhle=>?_,λhle=>?_⟩
   ·rw[hdr,Ch,List.sum_cons]at hle ⊢;have:=h2 (by omega);subst this;rw[h5 (by omega)];omega
   ·rw[hdr,Ch,List.sum_cons];have h7:=h6 hle;have h8:=h3 (by omega);have:=h2 h8;omega
  ·refine⟨n,Ak (hd n i (by omega) (.inr (by omega))),λhle=>by omega,λhle=>by omega⟩
theorem Uf{X:Type}(N:Nat)(f:Int×Int->Option (LR (Int×Int) X))(hn:∀(n:Int) (i:Nat),i<N->(∃ m:Int,f (n,(i:Int))=some (.next (m,((i+1:Nat):Int))))\/∃ x,f (n,(i:Int))=some (.done x))(hd:∀ n:Int,∃ x,f (n,(N:Int))=some (.done x)) :
  ∀(k i:Nat) (n:Int),i+k=N->∃ x,Ad f (n,(i:Int))=some x
 | 0,i,n,h=>by
  obtain rfl:i=N:=by omega
  obtain⟨x,hx⟩:=hd n;exact⟨x,Ak hx⟩
 | k+1,i,n,h=>by
  rcases hn n i (by omega) with⟨m,hm⟩|⟨x,hx⟩
  ·obtain⟨x,hx⟩:=Uf N f hn hd k (i+1) m (by omega);exact⟨x,by rw[Aq hm];exact hx⟩
  ·exact⟨x,Ak hx⟩
theorem DW{α X:Type}(l:List α)(d:α)(wt:α->Nat)(out:Int->X)(f:Int×Int->Option (LR (Int×Int) X))
  (hn:∀(n i:Nat),i<l.length->f (w64 n,(i:Int))=some (.next (w64 ((n+wt (l.getD i d):Nat):Int),((i+1:Nat):Int)))) (hd:∀ n:Int,f (n,(l.length:Int))=some (.done (out n))) :
  ∀(k i n:Nat),i+k=l.length->Ad f (w64 n,(i:Int))=some (out (w64 ((n+((l.drop i).map wt).sum:Nat):Int)))
 | 0,i,n,h=>by
  obtain rfl:i=l.length:=by omega
  rw[Ak (hd _)]
  simp
 | k+1,i,n,h=>by
  have hi:i<l.length:=by omega
  have hdr:l.drop i=l.getD i d::l.drop (i+1):=by simp_all
  rw[Aq (hn n i hi),DW l d wt out f hn hd k _ _ (by omega),hdr,Ch,List.sum_cons,FN]
theorem Vz(a b:Int):w64 (w64 a+b)=w64 (a+b):=by
 simp only[IntKind.wrap,IntKind.bits,IntKind.signed]
 simp
 split<;>split<;>omega
theorem Vp{α β:Type}(l:List α)(d:α)(E:α->List β)(M:Nat)(f:List β×Int->Option (LR (List β×Int) (List β)))
  (hn:∀(out:List β) (i:Nat),i<l.length->out.length+(E (l.getD i d)).length<=M->f (out,(i:Int))=some (.next (out++E (l.getD i d),((i+1:Nat):Int))))
  (hd:∀ out:List β,f (out,(l.length:Int))=some (.done out)) :
  ∀(k i:Nat) (out:List β),i+k=l.length->out.length+((l.drop i).map E).flatten.length<=M->Ad f (out,(i:Int))=some (out++((l.drop i).map E).flatten)
 | 0,i,out,h,_=>by
  obtain rfl:i=l.length:=by omega
  rw[Ak (hd out)]
  simp
 | k+1,i,out,h,hM=>by
  have hi:i<l.length:=by omega
  have hdr:l.drop i=l.getD i d::l.drop (i+1):=by simp_all
  rw[hdr,Ch,List.flatten_cons,Du]at hM;rw[Aq (hn out i hi (by omega)),Vp l d E M f hn hd k _ _ (by omega) (by grind),hdr,Ch,List.flatten_cons,U8]
theorem QG{α β:Type}(l:List α)(E:α->List β)(B:Nat)(h:∀ a∈l,(E a).length<=B):(l.map E).flatten.length<=l.length*B:=by
 induction l with
 | nil=>simp
 | cons a l ih=>
  have h1:=h a (by simp);have h2:=ih (λb hb=>h b (by simp[hb]));rw[Ch,List.flatten_cons,Du,Rz,Jk];omega
theorem Ai{α:Type}{l:List α}{i:Nat}{d:α}(h:i<l.length):l.getD i d∈l:=by grind
theorem Ag{i n:Nat}(h:i<n):As (i:Int) n:=⟨by omega,by exact_mod_cast h⟩
theorem A0{i n:Nat}(h:i<n)(hn:n<9223372036854775808):w64 ((i:Int)+1)=(i:Int)+1:=Em (by omega) (by omega)
def good31(l:List Int):Prop:=∀ x∈l,0<=x/\x<=2147483647
theorem Fl{S X:Type}(f:S->Option (LR S X))(T:Nat->S)(x:X):∀(n:Nat),(∀ i,i<n->f (T i)=some (.next (T (i+1))))->f (T n)=some (.done x)->Ad f (T 0)=some x:=by
 suffices h:∀(k i n:Nat),i+k=n->(∀ j,i<=j->j<n->f (T j)=some (.next (T (j+1))))->f (T n)=some _->Ad f (T i)=some x from
  λn h1 h2=>h n 0 n (by omega) (λj _ hj=>h1 j hj) h2
 intro k
 induction k with
 | zero=>
  intro i n hi _ h2
  have hin:n=i:=by omega
  subst hin;exact Ak h2
 | succ k ih=>intro i n hi h1 h2;rw[Aq (h1 i (zzL8 _) (by omega))];exact ih _ n (by omega) (λj hj hj'=>h1 j (by omega) hj') h2
theorem VQ{S X:Type}(f:S->Option (LR S X))(T:Nat->S):∀(n:Nat),(∀ i,i<n->f (T i)=some (.next (T (i+1))))->Ad f (T 0)=Ad f (T n):=by
 intro n
 induction n with
 | zero=>intro _;rfl
 | succ n ih=>intro h;rw[ih (λi hi=>h i (by omega)),Aq (h n (by omega))]
theorem H7{S X:Type}(f:S->Option (LR S X))(T:Nat->S)(p:Nat->Bool)(yes no:X)(n:Nat)(hn:∀ i,i<n->p i=true->f (T i)=some (.next (T (i+1))))(hf:∀ i,i<n->p i=false->f (T i)=some (.done no))
  (he:f (T n)=some (.done yes)):Ad f (T 0)=some (bif (List.range n).all p then yes else no):=by
 cases hall:(List.range n).all p with
 | true=>
  exact Fl f T yes n (λi hi=>hn i hi (zzL28.1 hall i (zzL84.2 hi))) he
 | false=>
  have hex:∃ i,i<n/\p i=false:=by
   grind
  obtain⟨m,hm⟩:=hex
  have key:∀ m,m<n->p m=false->∃ k,k<n/\p k=false/\∀ j,j<k->p j=true:=by
   intro m
   induction m using Nat.strongRecOn with
   | ind m ih=>
    intro h1 h2
    by_cases h:∃ j,j<m/\p j=false
    ·obtain⟨j,hj,hpj⟩:=h;exact ih j hj (by omega) hpj
    ·grind
  obtain⟨k,hk,hpk,hlt⟩:=key m hm.1 hm.2;rw[VQ f T k (λi hi=>hn i (by omega) (hlt i hi))];exact Ak (hf k hk hpk)
theorem all_range{n:Nat}{p:Nat->Bool}:(List.range n).all p=true↔∀ i,i<n->p i=true:=by
 grind
theorem Ap(i:Nat):((i:Int)).toNat=i:=Co i
theorem w1{i:Nat}(h:i<4611686018427387904):w64 ((i:Int)+1)=((i+1:Nat):Int):=by rw[Em (by omega) (by omega)];omega
theorem B4{i n:Nat}(h:i<n):decide (((i:Nat):Int)<((n:Nat):Int))=true:=by simpa using h
theorem Dh{n:Nat}:decide (((n:Nat):Int)<((n:Nat):Int))=false:=by simp
theorem Fc{i n:Nat}(h:i<n):As ((i:Nat):Int) n:=Ag h
theorem zi{x:Int}{n:Nat}(h0:0<=x)(h1:x<n):As x n:=⟨h0,h1⟩
structure bz(o:A2):Prop where
 imm:0<=o.Imm/\o.Imm<18446744073709551616
 args:o.Args.length<=200
theorem g9(x:Int×Int)(n:Int)(h:n=2\/n=4\/n=8\/n=16):B7 [x] n=some (List.replicate n.toNat x):=by
 let d:Int×Int:=(0,0)
 rcases h with rfl|rfl|rfl|rfl
 ·have e:B7 [x] 2=(Ad C6 (1,[x,d])).bind some:=by kernel_rfl
  rw[e,Aq (s':=(2,[x,x])) (by kernel_rfl)]
  rfl
 ·have e:B7 [x] 4=(Ad C6 (1,[x,d,d,d])).bind some:=by kernel_rfl
  rw[e,Aq (s':=(2,[x,x,d,d])) (by kernel_rfl),Aq (s':=(4,[x,x,x,x])) (by kernel_rfl)]
  rfl
 ·have e:B7 [x] 8=(Ad C6 (1,[x,d,d,d,d,d,d,d])).bind some:=by kernel_rfl
  rw[e,Aq (s':=(2,[x,x,d,d,d,d,d,d])) (by kernel_rfl),Aq (s':=(4,[x,x,x,x,d,d,d,d])) (by kernel_rfl),Aq (s':=(8,[x,x,x,x,x,x,x,x])) (by kernel_rfl)]
  rfl
 ·have e:B7 [x] 16=(Ad C6 (1,[x,d,d,d,d,d,d,d,d,d,d,d,d,d,d,d])).bind some:=by kernel_rfl
  rw[e,Aq (s':=(2,[x,x,d,d,d,d,d,d,d,d,d,d,d,d,d,d])) (by kernel_rfl),Aq (s':=(4,[x,x,x,x,d,d,d,d,d,d,d,d,d,d,d,d])) (by kernel_rfl),
   Aq (s':=(8,[x,x,x,x,x,x,x,x,d,d,d,d,d,d,d,d])) (by kernel_rfl),Aq (s':=(16,List.replicate 16 x)) (by kernel_rfl)]
  rfl
theorem o9(l:List (Int×Int)):Iu l=some l:=rfl
theorem QQ(o:A2)(hs:X1 o.Bits o.Lanes=true)(hk:gM o.Kind=true)(hf:sfitS o.Kind o.Bits o.Lanes=true):Q0 o=some (Yq o):=by
 have hl:=shape_lanes hs;obtain⟨k,b,n,d,args,i⟩:=o;simp only at hs hk hf hl ⊢;rcases kinds k with rfl|rfl|rfl|rfl|rfl|rfl|rfl|rfl|rfl|rfl|rfl|rfl|rfl|rfl|rfl|rfl|rfl|rfl|rfl|rfl|rfl|rfl|rfl|h
 case inr.inr.inr.inr.inr.inr.inr.inr.inr.inr.inr.inr.inr.inr.inr.inr.inr.inr.inr.inr.inr.inl=>
  have h1:n≠1:=by rintro rfl;simp[sfitS]at hf
  have h4:n=2\/n=4\/n=8\/n=16:=by omega
  unfold Q0;simp only[g9 _ _ h4,o9];rcases h4 with rfl|rfl|rfl|rfl<;>rfl
 all_goals first
  | rfl
  | (rw[HX h]at hk;cases hk)
  | (rcases hl with rfl|rfl|rfl|rfl|rfl<;>first|rfl|(simp[sfitS]at hf))
theorem ab(o:A2)(hs:X1 o.Bits o.Lanes=true)(hk:gM o.Kind=true)(hf:sfitS o.Kind o.Bits o.Lanes=true)(hl:o.Args.length<=200):Qw o=some (((o.Args.length:Int)==Rd o.Kind o.Lanes)&&o.Args.all valS):=by
 unfold Qw;rw[QQ o hs hk hf]
 have hn:0<=Rd o.Kind o.Lanes:=by
  have:=shape_lanes hs;unfold Rd
  cases(o.Kind==0)<;>cases(o.Kind==13 || o.Kind==18 || o.Kind==19)<;>cases(o.Kind==14 || o.Kind==15 || o.Kind==16 || o.Kind==22)<;>cases(o.Kind==20)<;>cases(o.Kind==21)<;>simp<;>omega
 have hlen:(Yq o).length=Rd o.Kind o.Lanes:=by simp[Yq];omega
 simp only[Aj,hlen]
 by_cases he:o.Args.length=Rd o.Kind o.Lanes
 ·have e1:(o.Args.length==Rd o.Kind o.Lanes)=true:=by simpa using he
  have e2:(o.Args.length !=Rd o.Kind o.Lanes)=false:=by simpa using he
  rw[e1,e2]
  have hloop:=G4 o.Args 0 valS (Kv o) (.inl ()) (.inr false) (λi hi hp=>by
    unfold Kv
    have:decide (i<(o.Args.length:Int))=true:=by simpa using hi
    simp only[this,Af,Aa (Ag hi),Co,X0,Aj,hp,Dt,Ar,A0 hi (by omega)]) (λi hi hp=>by
    unfold Kv
    have:decide (i<(o.Args.length:Int))=true:=by simpa using hi
    simp only[this,Af,Aa (Ag hi),Co,X0,Aj,hp,Mu]) (by
    unfold Kv
    simp) o.Args.length 0 (by omega)
  rw[show 0=((0:Nat):Int) from rfl,hloop,Mv]
  cases o.Args.all valS<;>rfl
 ·grind
theorem f8{k b n:Int}(hs:X1 b n=true):((GE k b n).1==0)=(k==17 || k==19):=by
 have hb:(b==0)=false:=by
  have:=width_cases (CL hs);simp;omega
 unfold GE
 cases(k==17 || k==19)<;>cases(k==10 || k==11 || k==12)<;>cases(k==22)<;>simp_all
theorem ae(o:A2)(hs:X1 o.Bits o.Lanes=true):Qx o=some (dstS o.Kind o.Dst):=by
 unfold Qx;simp only[QO,Aj,f8 hs,X0,dstS]
 cases(o.Kind==17 || o.Kind==19)<;>rfl
theorem QN(o:A2)(ho:bz o):Sa o=some (Jr o):=by
 unfold Sa Jr;simp only[MM,gQ,QP]
 cases hs:X1 _ _ with
 | false=>cases gM _<;>rfl
 | true=>
  have hl:=shape_lanes hs
  cases hk:gM _ with
  | false=>rfl
  | true=>
   rw[af o (CL hs) (by omega) ho.imm];simp only[ae o hs]
   cases hf:sfitS _ _ _ with
   | false=>rfl
   | true=>
    rw[ab o hs hk hf ho.args]
    generalize ifitS _ _ _ _=p
    generalize (o.Args.length==Rd _ _)=q
    generalize o.Args.all _=r
    generalize dstS _ _=s
    cases p<;>cases q<;>cases r<;>cases s<;>rfl
theorem qA(o:A2):Kw o=some (bif gM o.Kind then Rd o.Kind o.Lanes else -1):=by
 obtain⟨k,b,n,d,args,i⟩:=o;rcases kinds k with rfl|rfl|rfl|rfl|rfl|rfl|rfl|rfl|rfl|rfl|rfl|rfl|rfl|rfl|rfl|rfl|rfl|rfl|rfl|rfl|rfl|rfl|rfl|h
 any_goals rfl
 unfold Kw;simp[gr h,HX h]
theorem bL(o:A2)(ho:bz o):Gp o=some (Jr o):=by
 unfold Gp Jr;simp only[mF]
 cases hs:X1 o.Bits o.Lanes with
 | false=>rfl
 | true=>
  simp only[qA,Dt,U9,Af, Aj]
  cases hk:gM o.Kind with
  | false=>
   grind
  | true=>
   simp only[Af];rw[qB o hs hk ho.imm]
   by_cases he:o.Args.length=Rd o.Kind o.Lanes
   ·have e1:(o.Args.length==Rd o.Kind o.Lanes)=true:=by simpa using he
    have e2:(Rd o.Kind o.Lanes !=o.Args.length)=false:=by simpa using he.symm
    rw[e1,e2]
    have hloop:=G4 o.Args 0 valS (Gf o) (.inl ()) (.inr false) (λi hi hp=>by
      unfold Gf
      have:decide (i<(o.Args.length:Int))=true:=by simpa using hi
      simp only[this,Af,Aa (Ag hi),Co,EC,Aj,hp,Dt,Ar,A0 hi (by have:=ho.args;omega)]) (λi hi hp=>by
      unfold Gf
      have:decide ((i:Int)<o.Args.length)=true:=by simpa using hi
      simp only[this,Af,Aa (Ag hi),Co,EC,Aj,hp,Mu]) (by
      unfold Gf
      simp) o.Args.length 0 (by omega)
    rw[show 0=((0:Nat):Int) from rfl,hloop,Mv];simp only[EC, dstS]
    generalize sfitS o.Kind o.Bits o.Lanes=p
    generalize ifitS o.Kind o.Bits o.Lanes o.Imm=q
    generalize o.Args.all valS=r
    cases p<;>cases q<;>cases r<;>cases(o.Kind==17)<;>cases(o.Kind==19)<;>rfl
   ·grind
theorem am{o:A2}(h:Jr o=true):X1 o.Bits o.Lanes=true/\gM o.Kind=true/\sfitS o.Kind o.Bits o.Lanes=true/\ifitS o.Kind o.Bits o.Lanes o.Imm=true/\(o.Args.length:Int)=Rd o.Kind o.Lanes/\o.Args.all valS=true/\dstS o.Kind o.Dst=true:=by
 simp only[Jr,A1,zzL46]at h;exact⟨h.1.1,h.1.2.1.1.1,h.1.2.1.1.2,h.1.2.1.2,h.1.2.2,h.2.1,h.2.2⟩
theorem gV(o:A2)(ho:bz o):Qv o=some (bif Jr o then Yq o else[]):=by
 unfold Qv;rw[QN o ho]
 cases hm:Jr o with
 | false=>rfl
 | true=>
  obtain⟨h1,h2,h3,_⟩:=am hm;simp only[QQ o h1 h2 h3]
  rfl
theorem gP(o:A2)(ho:bz o):Qu o=some (bif Jr o then GE o.Kind o.Bits o.Lanes else(0,0)):=by
 unfold Qu;rw[QN o ho];simp only[ QO]
 cases Jr o<;>rfl
theorem mE(o:A2)(ho:bz o):G7 o=some (bif Jr o then GE o.Kind o.Bits o.Lanes else(0,0)):=by
 unfold G7;rw[bL o ho]
 cases hm:Jr o with
 | false=>rfl
 | true=>
  obtain⟨_,h2,_⟩:=am hm;obtain⟨k,b,n,d,args,i⟩:=o;rcases kinds k with rfl|rfl|rfl|rfl|rfl|rfl|rfl|rfl|rfl|rfl|rfl|rfl|rfl|rfl|rfl|rfl|rfl|rfl|rfl|rfl|rfl|rfl|rfl|h
  any_goals rfl
  rw[HX h]at h2;cases h2
theorem mG(o:A2)(ho:bz o):G8 o=some (bif Jr o then Yq o else[]):=by
 unfold G8;rw[bL o ho]
 cases hm:Jr o with
 | false=>rfl
 | true=>
  obtain⟨h1,h2,h3,h4,h5,_⟩:=am hm
  have hloop:=QU (X:=List (Int×Int)) o.Args.length (cn o) (Hv o) id (λl i hi hl=>by
   unfold Hv
   have e0:decide ((i:Int)<(o.Args.length:Int))=true:=by simpa using hi
   have e1:((i:Int)==0)=Nat.beq i 0:=by cases i<;>rfl
   have e2:((i:Int)==1)=Nat.beq i 1:=by
    rcases i with _|_|i
    ·rfl
    ·rfl
    ·have:¬ (((i+1+1:Nat):Int)=1):=by omega
     simp only[Nat.beq]
     simpa using this
   have hr:l.length+([cn o i]:List (Int×Int)).length<=room:=by have:=ho.args;simp[room];omega
   simp only[e0,e1,e2,Af];have e3 :=A0 hi (by have:=ho.args;omega);simp only[e3]
   have key:∀(x:Option (Int×Int)),x=some (cn o i)->(x.bind λx23=>Aw (l.length+([(x23.1,x23.2)]:List (Int×Int)).length<=room) (some (LR.next (l++([(x23.1,x23.2)]:List (Int×Int)),(i:Int)+1))))=(some (LR.next (l++[cn o i],(i:Int)+1)):Option (LR _ (List (Int×Int)))):=by
    rintro x rfl;exact Aa hr
   refine key _ ?_;clear key hr;obtain⟨k,b,n,d,args,im⟩:=o;rcases kinds k with rfl|rfl|rfl|rfl|rfl|rfl|rfl|rfl|rfl|rfl|rfl|rfl|rfl|rfl|rfl|rfl|rfl|rfl|rfl|rfl|rfl|rfl|rfl|h
   all_goals first
    | rfl
    | (rw[HX h]at h2;cases h2)
    | (rcases i with _|_|i<;>rfl)) (λl hl=>by
   unfold Hv
   simp) o.Args.length 0 [] (by omega) rfl
  rw[show(0:Int)=((0:Nat):Int) from rfl];simp only[Dt,Ar,hloop,Aj,id];rw[Yq,<- h5]
  rfl
theorem xh{n:Int}(h:(Lit.int .u64 n).wf=true):0<=n/\n<18446744073709551616:=by simp[Lit.wf,IntKind.min,IntKind.max,IntKind.bits,IntKind.signed]at h;omega
theorem wf_u8{n:Int}(h:(Lit.int .u8 n).wf=true):0<=n/\n<256:=by simp[Lit.wf,IntKind.min,IntKind.max,IntKind.bits,IntKind.signed]at h;omega
abbrev Iall(w:World):Nat->Nat->Prop:=λb o=>∃ u,w.cell? ⟨b,o,none⟩=some u
structure mv(w:World)(cs:List Value)(avs:List AV):Prop where
 len:cs.length=avs.length
 one:∀ j,j<avs.length->(cs.getD j undef).oneCell'=true
 rep:∀ j,j<avs.length->RepV (Iall w) w (cs.getD j undef) (avs.getD j .any)
structure Opens(P:Program)(t:TypeId){α:Type}(e:α->List AV)(ok:α->Prop):Prop where
 get:∀{H:Type} {enc:TypeId×Value->H} {w:World} {base:Nat} {spare:Nat->Bool} {held:Bool} {fuel:Nat} {cs:List Value} {x:DataW H×List MemPlace},
  DataW.trod enc P w base spare held fuel t cs=some x->∃ a,ok a/\mv w cs (e a)
theorem PX{w:World}{v:Value}{x:AV}(h1:v.oneCell'=true)(h:RepV (Iall w) w v x):mv w [v] [x]:=
 ⟨rfl,λj hj=>(by
   grind),λj hj=>(by
   grind)⟩
theorem KW{P:Program}{t:TypeId}{k:IntKind}{e:Int->List AV}(ht:P.underlying t=some (.int k))(he:∀ n,e n=[.int k n]):Opens P t e (λn=>(Lit.int k n).wf=true):=by
 refine⟨?_⟩;intro H enc w base spare held fuel cs x h;obtain⟨n,rfl,rfl,hw⟩:=DataW.trod_int ht h;exact⟨n,hw,by rw[he];exact PX rfl (.int _ _)⟩
theorem fq{w:World}{base:Nat}{a:Addr}{n:Nat}{cs:List Value}(h:w.cells? base a n=some cs):cs.length=n/\∀ i,i<n->w.cell? (a.add i)=some (cs.getD i undef):=by
 unfold World.cells? at h
 split at h
 ·have hl:=mapM_some_length h;simp at hl;refine⟨hl,λi hi=>?_⟩;have:=mapM_some_get h i i (by simp[hi]);rw[this];simp[ show i<cs.length by omega]
 ·cases h
theorem Vw{P:Program}{t el:TypeId}{α:Type}{e:α->List AV}{ok:α->Prop}{sz:Nat}{d:α}{e':List α->List AV}(ht:P.underlying t=some (.slice el))(hs:P.cellsOf el=sz)(h1:1<=sz)(he:Opens P el e ok)(hlen:∀ a,(e a).length=sz)
  (he':∀ l,e' l=[AV.list sz e d l .none]):Opens P t e' (λl=>(∀ a∈l,ok a)/\l.length<=maxLen):=by
 refine⟨?_⟩;intro H enc w base spare held fuel cs x h;rcases DataW.trod_slice ht h with⟨rfl,rfl⟩|⟨a,len,cap,elems,rest,n,_,rfl,rfl,hb,hl,hm,hlen2,hel,_⟩
 ·exact⟨[],⟨by simp,by simp⟩,by rw[he'];exact PX rfl (.slice none 0 0 sz _ (λ_=>undef) (zzL8 _) (by simp) (λh=>by simp at h) (λ_=>rfl) (λj hj=>by simp at hj) (λi hi=>by simp at hi) (λi c hi=>by simp at hi))⟩
 ·have each:∀ i:Fin len,∃ b,ok b/\∃ cs,w.cells? base (a.add (i.1*sz)) sz=some cs/\mv w cs (e b):=λ⟨i,hi⟩=>by
   have:=hel i hi;rw[hs,NJ (by omega),zzL97]at this;obtain⟨cs,hcs,htr⟩:=this;obtain⟨b,hb,hr⟩:=he.get htr;exact⟨b,hb,cs,hcs,hr⟩
  let f:Fin len->α:=λi=>(each i).choose
  have hf:∀ i,ok (f i)/\∃ cs,w.cells? base (a.add (i.1*sz)) sz=some cs/\mv w cs (e (f i)):=λi=>(each i).choose_spec
  have hlf:(List.ofFn f).length=len:=by simp
  refine⟨List.ofFn f,⟨λb hb=>?_,by simp;omega⟩,?_⟩
  ·obtain⟨i,rfl⟩:=List.mem_ofFn.1 hb;exact(hf i).1
  rw[he'];refine PX rfl ?_
  have hcell0:∀ i (hi:i<len),∀ c,c<sz->∃ u,w.cell? ((a.add (i*sz)).add c)=some u/\u.oneCell'=true/\RepV (Iall w) w u ((e (f ⟨i,hi⟩)).getD c .any):=λi hi c hc=>by
   obtain⟨_,cs,hcs,hr⟩:=hf ⟨i,hi⟩;obtain⟨hl,hg⟩:=fq hcs;exact⟨_,hg c hc,hr.one c (by rw[hlen];exact hc),hr.rep c (by rw[hlen];exact hc)⟩
  have hspot:0<len->a.spot=none:=λhp=>by
   obtain⟨u,hu,_⟩:=hcell0 0 hp 0 h1;have h2:=World.cell?_spot hu
   simpa [Addr.add] using h2
  have hcell:∀ i (hi:i<len),∀ c,c<sz->∃ u,w.cell? ⟨a.block,a.off+(i*sz+c),none⟩=some u/\u.oneCell'=true/\RepV (Iall w) w u ((e (f ⟨i,hi⟩)).getD c .any):=λi hi c hc=>by
   obtain⟨u,hu,h1,h2⟩:=hcell0 i hi c hc;have hsp:=hspot (by omega);rw[Nl hsp,S3]at hu;exact⟨u,by rw[<- FN];exact hu,h1,h2⟩
  have hdm:∀ j,j<len*sz->∃ i c,i<len/\c<sz/\j=i*sz+c:=λj hj=>by
   refine⟨j / sz,j % sz,(TD (by omega)).2 hj,Yt _ (by omega),?_⟩;rw[Ys];exact(NM j sz).symm
  unfold AV.list;rw[hlf];refine .slice (some a) len cap sz _ (λj=>(w.cell? ⟨a.block,a.off+j,none⟩).getD undef) hl hm (λhp=>⟨a,rfl,hspot hp,λj hj=>?_,λj hj=>?_⟩) (λh=>by cases h) (λj hj=>?_) (λi hi=>hlen _) (λi c hi hc=>?_)
  ·obtain⟨i,c,hi,hc,rfl⟩:=hdm j hj;obtain⟨u,hu,_⟩:=hcell i hi c hc;exact⟨u,hu⟩
  ·obtain⟨i,c,hi,hc,rfl⟩:=hdm j hj;obtain⟨u,hu,_⟩:=hcell i hi c hc;rw[hu];rfl
  ·obtain⟨i,c,hi,hc,rfl⟩:=hdm j hj;obtain⟨u,hu,h1,_⟩:=hcell i hi c hc;simp only[hu];exact h1
  ·grind
structure ZD(P:Program)(fs:List Field)(off N:Nat){α:Type}(e:α->List AV)(ok:α->Prop):Prop where
 get:∀{H:Type} {enc:TypeId×Value->H} {w:World} {base:Nat} {spare:Nat->Bool} {held:Bool} {n:Nat} {cs:List Value},cs.length=N->
  (∀ f∈fs,∃ x,DataW.trod enc P w base spare held n f.type ((cs.drop f.offset).take (P.cellsOf f.type))=some x)->∃ a,ok a/\mv w (cs.drop off) (e a)
theorem Ut{P:Program}{N:Nat}:ZD P [] N N (λ_:Unit=>[]) (λ_=>True):=by
 refine⟨?_⟩;intro H enc w base spare held n cs hN _;rw[List.drop_eq_nil_of_le (by omega)];exact⟨(),trivial,rfl,(λj hj=>by simp at hj),(λj hj=>by simp at hj)⟩
theorem Cm{P:Program}{f:Field}{fs:List Field}{off sz N:Nat}{α β:Type}{e:α->List AV}{ok:α->Prop}{e':β->List AV}{ok':β->Prop}(hoff:f.offset=off)(hsz:P.cellsOf f.type=sz)(hle:off+sz<=N)
  (h:Opens P f.type e ok) (h':ZD P fs (off+sz) N e' ok'):ZD P (f::fs) off N (λp:α×β=>e p.1++e' p.2) (λp=>ok p.1/\ok' p.2):=by
 refine⟨?_⟩;intro H enc w base spare held n cs hN hall;obtain⟨x,hx⟩:=hall f (by simp);rw[hoff,hsz]at hx;obtain⟨a,ha,hr⟩:=h.get hx;obtain⟨b,hb,hr'⟩:=h'.get hN (λg hg=>hall g (by simp[hg]))
 have hl:(e a).length=sz:=by rw[<- hr.len];simp;omega
 have hl':(e' b).length=N-(off+sz):=by rw[<- hr'.len];simp;omega
 have hsplit:cs.drop off=(cs.drop off).take sz++cs.drop (off+sz):=by rw[<- List.drop_drop];exact(List.take_append_drop sz _).symm
 have hl2:((cs.drop off).take sz).length=sz:=by simp;omega
 refine⟨(a,b),⟨ha,hb⟩,?_,λj hj=>?_,λj hj=>?_⟩
 ·simp[hl,hl'];omega
 ·rw[hsplit];replace hj:j<(e a++e' b).length:=hj
  show _
  by_cases hlt:j<sz
  ·have:=hr.one j (by omega);rwa[List.getD,V0 (by omega)]
  ·have:=hr'.one (j-sz) (by simp at hj;omega);rwa[List.getD,U7 (by omega),hl2]
 ·rw[hsplit];replace hj:j<(e a++e' b).length:=hj
  show RepV (Iall w) w _ ((e a++e' b).getD j .any)
  by_cases hlt:j<sz
  ·have:=hr.rep j (by omega);rwa[List.getD,V0 (by omega),List.getD,V0 (by omega)]
  ·have:=hr'.rep (j-sz) (by simp at hj;omega);rwa[List.getD,U7 (by omega),hl2,List.getD,U7 (by omega),hl]
theorem Rg{P:Program}{t:TypeId}{fs:Array Field}{N:Nat}{α:Type}{e:α->List AV}{ok:α->Prop}(ht:P.underlying t=some (.struct fs))(hN:P.cellsOf t=N)(h:ZD P fs.toList 0 N e ok):Opens P t e ok:=by
 refine⟨?_⟩;intro H enc w base spare held fuel cs x hx;obtain⟨xs,n,_,_,hl,hxl,hall⟩:=DataW.trod_struct ht hx
 have:=h.get  (hl.trans hN)      (λf hf=>by
  obtain⟨i,hi,rfl⟩:=List.mem_iff_getElem.1 hf
  have hi' :=by simpa using hi
  have:=hall i fs.toList[i] (by simp[hi']);rw[NJ (by omega)]at this
  exact⟨_,this⟩)
 simpa using this
theorem Opens.to{P:Program}{t:TypeId}{α β:Type}{e:α->List AV}{ok:α->Prop}(h:Opens P t e ok){e':β->List AV}{ok':β->Prop}(g:α->β)(he:∀ a,e' (g a)=e a)(hok:∀ a,ok a->ok' (g a)):Opens P t e' ok':=by
 refine⟨?_⟩;intro H enc w base spare held fuel cs x hx;obtain⟨a,ha,hr⟩:=h.get hx;exact⟨g a,hok a ha,by rw[he];exact hr⟩
theorem arg_one{P:Program}{t:TypeId}{α:Type}{e:α->List AV}{ok:α->Prop}(h:Opens P t e ok){x:α->AV}(he:∀ a,e a=[x a]){H:Type}{enc:TypeId×Value->H}{w:World}{base:Nat}{spare:Nat->Bool}{held:Bool}{v:Value}{d:DataW H}{ps:List MemPlace}
  (hv:v.cells = #[v]) (hd:DataW.Trod enc P w base spare held t v d ps):∃ a,ok a/\RepV (Iall w) w v (x a):=by
 obtain⟨fuel,hf⟩:=hd;obtain⟨a,ha,hr⟩:=h.get hf;refine⟨a,ha,?_⟩;have:=hr.rep 0 (by simp[he])
 simpa [hv,he] using this
theorem arg_agg{P:Program}{t:TypeId}{α:Type}{e:α->List AV}{ok:α->Prop}(h:Opens P t e ok){H:Type}{enc:TypeId×Value->H}{w:World}{base:Nat}{spare:Nat->Bool}{held:Bool}{cs:Array Value}{d:DataW H}{ps:List MemPlace}
  (hd:DataW.Trod enc P w base spare held t (.agg cs) d ps):∃ a,ok a/\RepV (Iall w) w (.agg cs) (.agg (e a)):=by
 obtain⟨fuel,hf⟩:=hd;obtain⟨a,ha,hr⟩:=h.get hf;have e1:(Value.agg cs).cells.toList=cs.toList:=rfl;rw[e1]at hr
 have e2:∀ j,cs.toList.getD j undef=cs.getD j undef:=λj=>by simp_all
 refine⟨a,ha,.agg _ _ (by simpa using hr.len) (λj hj=>?_) (λj hj=>?_)⟩
 ·rw[<- e2];exact hr.one j hj
 ·rw[<- e2];exact hr.rep j hj
def BO(n:Int):Prop:=(Lit.int .i64 n).wf=true
theorem WC:Opens Tryz.prog 3 Am BO:=KW Tryz.underlying3 (λ_=>rfl)
def KN(l:List (Int)):Prop:=(∀ a∈l,BO a)/\l.length<=maxLen
theorem dp:Opens Tryz.prog 22 Kk KN:=Vw (d:=(0:Int)) Tryz.underlying22 (by kernel_rfl) (by decide) WC (λ_=>rfl) (λ_=>rfl)
def pe(a:Bf):Prop:=BO a.Bits/\BO a.Dst/\KN a.From/\KN a.Args/\True
theorem Aae:Opens Tryz.prog 56 Gs pe:=Opens.to (Rg (N:=4) Tryz.underlying56 (by kernel_rfl) (Cm (off:=0) (sz:=1) (N:=4) rfl (by kernel_rfl) (by decide) WC (Cm (off:=1) (sz:=1) (N:=4) rfl (by kernel_rfl) (by decide) WC (Cm (off:=2) (sz:=1) (N:=4) rfl (by kernel_rfl) (by decide) dp (Cm (off:=3) (sz:=1) (N:=4) rfl (by kernel_rfl) (by decide) dp Ut))))) (λp=>⟨p.1,p.2.1,p.2.2.1,p.2.2.2.1⟩) (λ_=>rfl) (λ_ h=>h)
def jr(l:List (Bf)):Prop:=(∀ a∈l,pe a)/\l.length<=maxLen
theorem z8:Opens Tryz.prog 44 xA jr:=Vw (d:=(default:Bf)) Tryz.underlying44 (by kernel_rfl) (by decide) Aae (λ_=>rfl) (λ_=>rfl)
def vb(n:Int):Prop:=(Lit.int .u64 n).wf=true
theorem Aac:Opens Tryz.prog 49 Abh vb:=KW Tryz.underlying49 (λ_=>rfl)
def va(a:A2):Prop:=BO a.Kind/\BO a.Bits/\BO a.Lanes/\BO a.Dst/\KN a.Args/\vb a.Imm/\True
theorem Aad:Opens Tryz.prog 51 Kd va:=Opens.to (Rg (N:=6) Tryz.underlying51 (by kernel_rfl) (Cm (off:=0) (sz:=1) (N:=6) rfl (by kernel_rfl) (by decide) WC (Cm (off:=1) (sz:=1) (N:=6) rfl (by kernel_rfl) (by decide) WC (Cm (off:=2) (sz:=1) (N:=6) rfl (by kernel_rfl) (by decide) WC (Cm (off:=3) (sz:=1) (N:=6) rfl (by kernel_rfl) (by decide) WC (Cm (off:=4) (sz:=1) (N:=6) rfl (by kernel_rfl) (by decide) dp (Cm (off:=5) (sz:=1) (N:=6) rfl (by kernel_rfl) (by decide) Aac Ut))))))) (λp=>⟨p.1,p.2.1,p.2.2.1,p.2.2.2.1,p.2.2.2.2.1,p.2.2.2.2.2.1⟩) (λ_=>rfl) (λ_ h=>h)
def pY(l:List (A2)):Prop:=(∀ a∈l,va a)/\l.length<=maxLen
theorem z7:Opens Tryz.prog 39 zZ pY:=Vw (d:=(default:A2)) Tryz.underlying39 (by kernel_rfl) (by decide) Aad (λ_=>rfl) (λ_=>rfl)
def pd(a:Jm):Prop:=BO a.Kind/\BO a.Arg/\KN a.To/\True
theorem Aaa:Opens Tryz.prog 46 jY pd:=Opens.to (Rg (N:=3) Tryz.underlying46 (by kernel_rfl) (Cm (off:=0) (sz:=1) (N:=3) rfl (by kernel_rfl) (by decide) WC (Cm (off:=1) (sz:=1) (N:=3) rfl (by kernel_rfl) (by decide) WC (Cm (off:=2) (sz:=1) (N:=3) rfl (by kernel_rfl) (by decide) dp Ut)))) (λp=>⟨p.1,p.2.1,p.2.2.1⟩) (λ_=>rfl) (λ_ h=>h)
def db(a:Ab):Prop:=jr a.Phis/\pY a.Ops/\pd a.End/\True
theorem Aab:Opens Tryz.prog 48 Bd db:=Opens.to (Rg (N:=5) Tryz.underlying48 (by kernel_rfl) (Cm (off:=0) (sz:=1) (N:=5) rfl (by kernel_rfl) (by decide) z8 (Cm (off:=1) (sz:=1) (N:=5) rfl (by kernel_rfl) (by decide) z7 (Cm (off:=2) (sz:=3) (N:=5) rfl (by kernel_rfl) (by decide) Aaa Ut)))) (λp=>⟨p.1,p.2.1,p.2.2.1⟩) (λ_=>rfl) (λ_ h=>h)
def XV(l:List (Ab)):Prop:=(∀ a∈l,db a)/\l.length<=maxLen
theorem z6:Opens Tryz.prog 23 oa XV:=Vw (d:=(default:Ab)) Tryz.underlying23 (by kernel_rfl) (by decide) Aab (λ_=>rfl) (λ_=>rfl)
def okTFunc(a:TFunc):Prop:=KN a.Params/\BO a.Ret/\XV a.Blocks/\True
theorem op_25:Opens Tryz.prog 25 eTFunc okTFunc:=Opens.to (Rg (N:=3) Tryz.underlying25 (by kernel_rfl) (Cm (off:=0) (sz:=1) (N:=3) rfl (by kernel_rfl) (by decide) dp (Cm (off:=1) (sz:=1) (N:=3) rfl (by kernel_rfl) (by decide) WC (Cm (off:=2) (sz:=1) (N:=3) rfl (by kernel_rfl) (by decide) z6 Ut)))) (λp=>⟨p.1,p.2.1,p.2.2.1⟩) (λ_=>rfl) (λ_ h=>h)
def okU8(n:Int):Prop:=(Lit.int .u8 n).wf=true
theorem op_5:Opens Tryz.prog 5 Wy okU8:=KW Tryz.underlying5 (λ_=>rfl)
def numB(n:Int):Bool:=decide (0<=n)&&decide (n<=2147483647)
def listB(l:List Int):Bool:=l.all numB&&decide (l.length<=64)
def AG(p:Bf):Bool:=numB p.Bits&&numB p.Dst&&listB p.From&&listB p.Args
def bG(o:A2):Bool:=numB o.Kind&&numB o.Bits&&numB o.Lanes&&numB o.Dst&&listB o.Args
def VJ(e:Jm):Bool:=numB e.Kind&&numB e.Arg&&listB e.To
def blockB(b:Ab):Bool:=b.Phis.all AG&&b.Ops.all bG&&VJ b.End
def Uy(b:Ab):Nat:=b.Phis.length+b.Ops.length+1
def Rx(f:TFunc):Nat:=(f.Blocks.map Uy).sum
def sizeW(f:TFunc):Int:=w64 (Rx f)
def Qb(f:TFunc):Bool:=decide (1<=f.Blocks.length)&&decide (f.Blocks.length<=64)&&decide (f.Params.length<=16)&&listB f.Params&&numB f.Ret&&decide (sizeW f<=512)&&f.Blocks.all blockB
def cq(p:Bf):Nat:=1+p.From.length+p.Args.length
def cp(o:A2):Nat:=1+o.Args.length
def VK(b:Ab):Nat:=1+b.End.To.length+(b.Phis.map cq).sum+(b.Ops.map cp).sum
def f6(f:TFunc):Nat:=f.Params.length+(f.Blocks.map VK).sum
theorem T8:maxLen=9223372036854775807:=rfl
structure US(f:TFunc):Prop where
 params:f.Params.length<=maxLen
 blocks:f.Blocks.length<=maxLen
 block:∀ b∈f.Blocks,b.Phis.length<=maxLen/\b.Ops.length<=maxLen/\b.End.To.length<=maxLen
 phi:∀ b∈f.Blocks,∀ p∈b.Phis,p.From.length<=maxLen/\p.Args.length<=maxLen
 op:∀ b∈f.Blocks,∀ o∈b.Ops,o.Args.length<=maxLen/\0<=o.Imm/\o.Imm<18446744073709551616
theorem inF{f:TFunc}(h:okTFunc f):US f:=
 ⟨h.1.2,h.2.2.1.2,λb hb=>⟨(h.2.2.1.1 b hb).1.2,(h.2.2.1.1 b hb).2.1.2,(h.2.2.1.1 b hb).2.2.1.2.2.1.2⟩,λb hb p hp=>⟨((h.2.2.1.1 b hb).1.1 p hp).2.2.1.2,((h.2.2.1.1 b hb).1.1 p hp).2.2.2.1.2⟩,
  λb hb o ho=>⟨((h.2.2.1.1 b hb).2.1.1 o ho).2.2.2.2.1.2,xh ((h.2.2.1.1 b hb).2.1.1 o ho).2.2.2.2.2.1⟩⟩
theorem JD{n:Nat}(h:n<9223372036854775808):w64 (n:Int)=n:=Em (by omega) (by omega)
theorem K8{i n:Nat}(h:i<n)(hn:n<=maxLen):w64 ((i:Int)+1)=((i+1:Nat):Int):=by rw[T8]at hn;rw[show((i:Int)+1)=(i+1:Nat) by omega,JD (by omega)]
theorem SM(f:TFunc)(hf:US f):∃ b,Cw f=some b:=by
 have h3:∃ x,Ad (Cs f) (f.Params.length,(0:Nat))=some x:=by
  refine Uf f.Blocks.length _ (λn i hi=>?_) (λn=>?_) _ 0 _ (Hp _)
  ·have hmem:=Ai (d:=default) hi;obtain⟨b1,b2,_⟩:=hf.block _ hmem;have hI :=Ag hi;unfold Cs
   cases hc:(bif decide (i<(f.Blocks.length:Int)) then decide (n<=20000) else false) with
   | false=>right;simp only[hc];exact⟨_,rfl⟩
   | true=>
    left
    simp only[hc, Aa hI]
    obtain⟨x1,h1⟩:=Uf (f.Blocks.getD i default).Phis.length (Cq f i) (λn j hj=>by
      unfold Cq;simp only[Aa hI,Co]
      cases hc:(bif decide (j<((f.Blocks.getD i default).Phis.length:Int)) then decide (n<=20000) else false) with
      | false=>grind
      | true=>left;simp only[ Aa (Ag hj),K8 hj b1];exact⟨_,rfl⟩) (λn=>by
      unfold Cq;simp only[Aa hI,Co]
      have:decide ((f.Blocks.getD i default).Phis.length<((f.Blocks.getD i default).Phis.length:Int))=false:=by simp
      simp only[this];exact⟨_,rfl⟩) _ 0 (w64 (w64 (n+1)+(f.Blocks.getD i default).End.To.length)) (Hp _)
    obtain⟨x2,h2⟩:=Uf (f.Blocks.getD i default).Ops.length (Cr f i) (λn j hj=>by
      unfold Cr;simp only[Aa hI,Co]
      cases hc:(bif decide (j<((f.Blocks.getD i default).Ops.length:Int)) then decide (n<=20000) else false) with
      | false=>grind
      | true=>left;simp only[ Aa (Ag hj),K8 hj b2];exact⟨_,rfl⟩) (λn=>by
      unfold Cr;simp only[Aa hI,Co]
      have:decide ((f.Blocks.getD i default).Ops.length<((f.Blocks.getD i default).Ops.length:Int))=false:=by simp
      simp only[this];exact⟨_,rfl⟩) _ 0 x1 (Hp _)
    rw[show((0:Nat):Int)=0 from rfl]at h1 h2;simp only[Co,h1,h2,Aj,K8 hi hf.blocks];exact⟨_,rfl⟩
  ·unfold Cs
   have:decide ((f.Blocks.length:Int)<(f.Blocks.length:Int))=false:=by simp
   simp only[this];exact⟨_,rfl⟩
 obtain⟨x,hx⟩:=h3;unfold Cw;rw[show((0:Nat):Int)=0 from rfl]at hx;rw[hx];exact⟨_,rfl⟩
theorem eM(f:TFunc)(hf:US f)(h0:f.Params.length<=64)(hb:∀ b∈f.Blocks,b.End.To.length<=64/\(∀ p∈b.Phis,p.From.length<=64/\p.Args.length<=64)/\∀ o∈b.Ops,o.Args.length<=64):Cw f=some (decide (f6 f<=20000)):=by
 have h3:=IB f.Blocks (default:Ab) VK 20000 (Cs f) (λn i hi hn=>by
   have hmem:=Ai (d:=(default:Ab)) hi;obtain⟨b1,b2,b3⟩:=hf.block _ hmem;obtain⟨hTo,hPh,hOp⟩:=hb _ hmem;have hI1:As (i:Int) f.Blocks.length:=Ag hi
   have l1:=IB (f.Blocks.getD i default).Phis (default:Bf) cq 20000 (Cq f i) (λn j hj hn=>by
     have hm:=Ai (d:=(default:Bf)) hj;obtain⟨p1,p2⟩:=hPh _ hm
     have e1:decide ((j:Int)<((f.Blocks.getD i default).Phis.length:Int))=true:=by simpa using hj
     have e2:decide ((n:Int)<=20000)=true:=by simp;omega
     refine⟨n+cq ((f.Blocks.getD i default).Phis.getD j default),?_,λ_=>rfl,λh=>h⟩;unfold Cq;simp only[Aa hI1,Co,e1,e2,Af,Aa (Ag hj),K8 hj b1]
     congr 3
     rw[Em (n:=(n:Int)+1) (by omega) (by omega),Em (n:=(n:Int)+1+_) (by omega) (by omega),Em (by omega) (by omega)];simp only[cq]
     omega) (λn j hj hd=>by
     unfold Cq;simp only[Aa hI1,Co]
     have:(bif decide ((j:Int)<((f.Blocks.getD i default).Phis.length:Int)) then decide ((n:Int)<=20000) else false)=false:=by
      rcases hd with rfl|h
      ·simp
      ·simp;omega
     rw[this];rfl)
   have l2:=IB (f.Blocks.getD i default).Ops (default:A2) cp 20000 (Cr f i) (λn j hj hn=>by
     have hm:=Ai (d:=(default:A2)) hj;have p1:=hOp _ hm
     have e1:decide ((j:Int)<((f.Blocks.getD i default).Ops.length:Int))=true:=by simpa using hj
     have e2:decide ((n:Int)<=20000)=true:=by simp;omega
     refine⟨n+cp ((f.Blocks.getD i default).Ops.getD j default),?_,λ_=>rfl,λh=>h⟩;unfold Cr;simp only[Aa hI1,Co,e1,e2,Af,Aa (Ag hj),K8 hj b2]
     congr 3
     rw[Em (n:=(n:Int)+1) (by omega) (by omega),Em (by omega) (by omega)];simp only[cp]
     omega) (λn j hj hd=>by
     unfold Cr;simp only[Aa hI1,Co]
     have:(bif decide ((j:Int)<((f.Blocks.getD i default).Ops.length:Int)) then decide ((n:Int)<=20000) else false)=false:=by
      rcases hd with rfl|h
      ·simp
      ·simp;omega
     rw[this];rfl)
   have e1:decide ((i:Int)<(f.Blocks.length:Int))=true:=by simpa using hi
   have e2:decide ((n:Int)<=20000)=true:=by simp;omega
   obtain⟨m1,q1,q2,q3⟩:=l1 _ 0 (n+1+(f.Blocks.getD i default).End.To.length) (Hp _);obtain⟨m2,q4,q5,q6⟩:=l2 _ 0 m1 (Hp _);rw[Mv]at q2 q3 q5 q6;refine⟨m2,?_,λhle=>?_,λhle=>?_⟩
   ·unfold Cs;simp only[e1,e2,Af,Aa hI1,Co,K8 hi hf.blocks];rw[Em (n:=(n:Int)+1) (by omega) (by omega),Em (by omega) (by omega),show(n:Int)+1+((f.Blocks.getD i default).End.To.length:Int)=((n+1+(f.Blocks.getD i default).End.To.length:Nat):Int) by omega];rw[show((0:Nat):Int)=0 from rfl]at q1 q4;rw[q1,Aj,q4,Aj]
   ·simp only[VK]at hle ⊢;have:=q2 (by omega);rw[q5 (by omega)];omega
   ·simp only[VK];have h6:=q6 hle;have h3:=q3 (by omega);have:=q2 h3
    omega) (λn i hi hd=>by
   unfold Cs
   have:(bif decide ((i:Int)<(f.Blocks.length:Int)) then decide ((n:Int)<=20000) else false)=false:=by
    rcases hd with rfl|h
    ·simp
    ·simp;omega
   simp only[this,Ar]) f.Blocks.length 0 f.Params.length (Hp _)
 obtain⟨m,h1,h2,h4⟩:=h3;rw[Mv]at h2 h4;unfold Cw;rw[show((0:Nat):Int)=0 from rfl]at h1;rw[h1,Aj]
 congr 1
 apply zzL74.2
 simp only[f6]
 constructor
 ·intro h;exact h4 (by omega)
 ·intro h;have:=h2 h;omega
theorem Vx(n:Int):Bn n=some (numB n):=by unfold Bn numB;cases decide (0<=n)<;>rfl
theorem S0(l:List Int)(h:l.length<=maxLen):Da l=some (listB l):=by
 unfold Da;rw[T8]at h
 have hloop:=G4 l 0 numB (Fu l) (.inl ()) (.inr false) (λi hi hp=>by
   unfold Fu
   have:decide (i<(l.length:Int))=true:=by simpa using hi
   simp only[this,Af,Aa (Ag hi),Co,Vx,Aj,hp,Dt,Ar,A0 hi (by omega)]) (λi hi hp=>by
   unfold Fu
   have:decide (i<(l.length:Int))=true:=by simpa using hi
   simp only[this,Af,Aa (Ag hi),Co,Vx,Aj,hp,Mu]) (by
   unfold Fu
   simp) l.length 0 (by omega)
 rw[show(0:Int)=(0:Nat) from rfl,hloop,Mv];unfold listB
 have e:decide ((l.length:Int)<=64)=decide (l.length<=64):=by grind
 cases l.all _
 ·rfl
 ·simp[e]
theorem qK(f:TFunc)(hf:US f):Kx f=some (sizeW f):=by
 unfold Kx
 have hl:=DW _ default Uy id (Ih f) (λn i hi=>by
   have e1:decide ((i:Int)<f.Blocks.length)=true:=by simpa using hi
   unfold Ih;simp only[e1,Af,Aa (Ag hi),Co,K8 hi hf.blocks]
   congr 3
   rw[Vz,Vz,Int.add_assoc _,Vz];unfold Uy
   congr 1
   omega) (λn=>by
   unfold Ih
   simp) _ 0 0 (Hp _)
 rw[show w64 _=0 from rfl,show((0:Nat):Int)=0 from rfl]at hl;rw[hl];simp[Rx,sizeW]
theorem WS{p q:Bool}:(bif p then true else q)=(p || q):=by cases p<;>rfl
theorem kA(f:TFunc)(hf:US f):Gq f=some (Qb f):=by
 have hloop:Ad (Eh f) ((0:Nat):Int)=some (bif (f.Blocks.drop 0).all blockB then .inl () else .inr false):=by
  have step:∀ i:Nat,i<f.Blocks.length->Eh f (i:Int)=bif blockB (f.Blocks.getD i default) then some (.next ((i:Int)+1)) else some (.done (.inr false)):=λi hi=>by
   have hmem:=Ai (d:=(default:Ab)) hi;obtain⟨b1,b2,b3⟩:=hf.block _ hmem;have hPh:=hf.phi _ hmem;have hOp:=hf.op _ hmem;have hM:=T8
   have e0:decide ((i:Int)<(f.Blocks.length:Int))=true:=by simpa using hi
   have l1:=G4 (f.Blocks.getD i default).Phis (default:Bf) AG (Gg f i) (.inl ()) (.inr false) (λj hj hp=>by
     obtain⟨p1,p2⟩:=hPh _ (Ai (d:=(default:Bf)) hj)
     have e1:decide ((j:Int)<((f.Blocks.getD i default).Phis.length:Int))=true:=by simpa using hj
     unfold Gg;simp only[e1,Af,Co,Aa (Ag hj),Vx,Aj,S0 _ p1,S0 _ p2,A0 hj (by omega)]
     revert hp
     unfold AG
     cases numB ((f.Blocks.getD i default).Phis.getD j default).Bits<;>cases numB ((f.Blocks.getD i default).Phis.getD j default).Dst<;>cases listB ((f.Blocks.getD i default).Phis.getD j default).From<;>cases listB ((f.Blocks.getD i default).Phis.getD j default).Args<;>simp) (λj hj hp=>by
     obtain⟨p1,p2⟩:=hPh _ (Ai (d:=(default:Bf)) hj)
     have e1:decide ((j:Int)<((f.Blocks.getD i default).Phis.length:Int))=true:=by simpa using hj
     unfold Gg;simp only[e1,Af,Co,Aa (Ag hj),Vx,Aj,S0 _ p1,S0 _ p2,A0 hj (by omega)]
     revert hp
     unfold AG
     cases numB ((f.Blocks.getD i default).Phis.getD j default).Bits<;>cases numB ((f.Blocks.getD i default).Phis.getD j default).Dst<;>cases listB ((f.Blocks.getD i default).Phis.getD j default).From<;>cases listB ((f.Blocks.getD i default).Phis.getD j default).Args<;>simp) (by
     unfold Gg
     simp) _ 0 (Hp _)
   have l2:=G4 (f.Blocks.getD i default).Ops (default:A2) bG (Gh f i) (.inl ()) (.inr false) (λj hj hp=>by
     obtain⟨p1,_⟩:=hOp _ (Ai (d:=(default:A2)) hj)
     have e1:decide ((j:Int)<((f.Blocks.getD i default).Ops.length:Int))=true:=by simpa using hj
     unfold Gh;simp only[e1,Af,Co,Aa (Ag hj),Vx,Aj,S0 _ p1,A0 hj (by omega)]
     revert hp
     unfold bG
     cases numB ((f.Blocks.getD i default).Ops.getD j default).Kind<;>cases numB ((f.Blocks.getD i default).Ops.getD j default).Bits<;>cases numB ((f.Blocks.getD i default).Ops.getD j default).Lanes<;>cases numB ((f.Blocks.getD i default).Ops.getD j default).Dst<;>cases listB ((f.Blocks.getD i default).Ops.getD j default).Args<;>simp) (λj hj hp=>by
     obtain⟨p1,_⟩:=hOp _ (Ai (d:=(default:A2)) hj)
     have e1:decide ((j:Int)<((f.Blocks.getD i default).Ops.length:Int))=true:=by simpa using hj
     unfold Gh;simp only[e1,Af,Co,Aa (Ag hj),Vx,Aj,S0 _ p1,A0 hj (by omega)]
     revert hp
     unfold bG
     cases numB ((f.Blocks.getD i default).Ops.getD j default).Kind<;>cases numB ((f.Blocks.getD i default).Ops.getD j default).Bits<;>cases numB ((f.Blocks.getD i default).Ops.getD j default).Lanes<;>cases numB ((f.Blocks.getD i default).Ops.getD j default).Dst<;>cases listB ((f.Blocks.getD i default).Ops.getD j default).Args<;>simp) (by
     unfold Gh
     simp) _ 0 (Hp _)
   rw[show((0:Nat):Int)=0 from rfl,Mv]at l1 l2;unfold Eh;simp only[e0,Af,Aa (Ag hi),l1,Aj];unfold blockB
   cases(f.Blocks.getD i default).Phis.all AG with
   | false=>rfl
   | true=>
    simp only[Af,l2,Aj,Co,Vx,S0 _ b3,A0 hi (by have:=hf.blocks;omega)]
    cases(f.Blocks.getD i default).Ops.all bG with
    | false=>rfl
    | true=>
     unfold VJ
     cases numB (f.Blocks.getD i default).End.Kind<;>cases numB (f.Blocks.getD i default).End.Arg<;>cases listB (f.Blocks.getD i default).End.To<;>rfl
  exact G4 f.Blocks (default:Ab) blockB (Eh f) (.inl ()) (.inr false) (λi hi hp=>by rw[step i hi,hp];rfl) (λi hi hp=>by rw[step i hi,hp];rfl) (by
   unfold Eh
   simp) _ 0 (Hp _)
 rw[show((0:Nat):Int)=0 from rfl,Mv]at hloop;unfold Gq Qb;simp only[S0 _ hf.params,Vx,qK f hf,hloop]
 have e1:((f.Blocks.length:Int)==0) = !decide (1<=f.Blocks.length):=by
  rw[<- decide_not]
  by_cases h:f.Blocks.length=0
  ·simp[h]
  ·have h1:((f.Blocks.length:Int)==0)=false:=by simpa using h
   rw[h1];symm;apply Dl;omega
 have e2:decide ((64:Int)<(f.Blocks.length:Int)) = !decide (f.Blocks.length<=64):=by rw[<- decide_not];apply zzL74.2;omega
 have e3:decide ((16:Int)<(f.Params.length:Int)) = !decide (f.Params.length<=16):=by rw[<- decide_not];apply zzL74.2;omega
 have e4:decide ((512:Int)<sizeW f) = !decide (sizeW f<=512):=by rw[<- decide_not];apply zzL74.2;omega
 rw[e1,e2,e3]
 generalize decide (1<=f.Blocks.length)=p1
 generalize decide (f.Blocks.length<=64)=p2
 generalize decide (f.Params.length<=16)=p3
 generalize listB f.Params=p4
 generalize numB f.Ret=p5
 cases p1 with
 | false=>simp
 | true=>cases p2 with
  | false=>simp
  | true=>cases p3 with
   | false=>simp
   | true=>cases p4 with
    | false=>simp
    | true=>cases p5 with
     | false=>simp
     | true=>
      simp only[Dt,Bool.or_self,Af,Ar,U9,Aj,e4]
      cases decide (sizeW f<=512) with
      | false=>simp
      | true=>cases f.Blocks.all blockB<;>simp
theorem numB_iff{n:Int}:numB n=true↔0<=n/\n<=2147483647:=by simp[numB]
theorem listB_iff{l:List Int}:listB l=true↔good31 l/\l.length<=64:=by
 simp[listB,good31,numB_iff]
def eW(n:Int):Prop:=0<=n/\n<18446744073709551616
structure OkB(b:Ab):Prop where
 may:blockB b=true
 phis:b.Phis.length<=512
 ops:b.Ops.length<=512
 imm:∀ o∈b.Ops,eW o.Imm
structure OkF(f:TFunc):Prop where
 params:listB f.Params=true
 few:f.Params.length<=16
 ret:numB f.Ret=true
 blocks:f.Blocks.length<=64
 block:∀ b∈f.Blocks,OkB b
theorem blockB_iff{b:Ab}:blockB b=true↔(∀ p∈b.Phis,AG p=true)/\(∀ o∈b.Ops,bG o=true)/\VJ b.End=true:=by
 simp[blockB,and_assoc]
theorem bP{α:Type}(l:List α)(g:α->Nat)(B:Nat)(h:∀ a∈l,g a<=B):(l.map g).sum<=l.length*B:=by
 induction l with
 | nil=>simp
 | cons a l ih=>
  have h1:=h a (by simp);have h2:=ih (λb hb=>h b (by simp[hb]));rw[Ch,List.sum_cons,Rz,Jk];omega
theorem qP{α:Type}(l:List α)(g k:α->Nat)(h:∀ a∈l,g a<=k a):(l.map g).sum<=(l.map k).sum:=by
 induction l with
 | nil=>simp
 | cons a l ih=>
  grind
theorem QS{α:Type}(l:List α)(g:α->Nat)(h:∀ a∈l,1<=g a):l.length<=(l.map g).sum:=by
 induction l with
 | nil=>simp
 | cons a l ih=>
  grind
theorem gf{α:Type}{l:List α}{a:α}(g:α->Nat)(h:a∈l):g a<=(l.map g).sum:=by
 induction l with
 | nil=>cases h
 | cons b l ih=>
  grind
theorem OkF.size{f:TFunc}(h:OkF f):Rx f<=65600/\sizeW f=Rx f:=by
 have:Rx f<=f.Blocks.length*1025:=bP _ _ _ λb hb=>by
  have h1:=(h.block b hb).phis;have h2:=(h.block b hb).ops;simp only[Uy];omega
 have h2:=h.blocks
 have h3:Rx f<=65600:=by omega
 exact⟨h3,JD (by omega)⟩
theorem KL{f:TFunc}(h:Qb f=true):1<=f.Blocks.length/\f.Blocks.length<=64/\f.Params.length<=16/\listB f.Params=true/\numB f.Ret=true/\sizeW f<=512/\∀ b∈f.Blocks,blockB b=true:=by
 simp only[Qb,A1,Dq,zzL28]at h;exact⟨h.1.1.1.1.1.1,h.1.1.1.1.1.2,h.1.1.1.1.2,h.1.1.1.2,h.1.1.2,h.1.2,h.2⟩
theorem lq{f:TFunc}(h:Qb f=true):f.Params.length<=64/\∀ b∈f.Blocks,b.End.To.length<=64/\(∀ p∈b.Phis,p.From.length<=64/\p.Args.length<=64)/\∀ o∈b.Ops,o.Args.length<=64:=by
 obtain⟨_,_,h3,_,_,_,h7⟩:=KL h;refine⟨by omega,λb hb=>?_⟩;obtain⟨q1,q2,q3⟩:=blockB_iff.1 (h7 b hb);simp only[VJ,A1]at q3;refine⟨(listB_iff.1 q3.2).2,λp hp=>?_,λo ho=>?_⟩
 ·have:=q1 p hp;simp only[AG,A1]at this;exact⟨(listB_iff.1 this.1.2).2,(listB_iff.1 this.2).2⟩
 ·have:=q2 o ho;simp only[bG,A1]at this;exact(listB_iff.1 this.2).2
theorem xP{f:TFunc}(hf:US f)(h:Qb f=true)(hs:f6 f<=20000):OkF f/\Rx f<=512:=by
 obtain⟨h1,h2,h3,h4,h5,h6,h7⟩:=KL h
 have hle:Rx f<=f6 f:=by
  have:Rx f<=(f.Blocks.map VK).sum:=qP _ _ _ λb hb=>by
   have q1:b.Phis.length<=(b.Phis.map cq).sum:=QS _ _ λp hp=>by simp only[cq];omega
   have q2:b.Ops.length<=(b.Ops.map cp).sum:=QS _ _ λp hp=>by simp only[cp];omega
   simp only[Uy,VK];omega
  simp only[f6];omega
 have hw:sizeW f=Rx f:=JD (by omega)
 have h512:Rx f<=512:=by omega
 refine⟨⟨h4,h3,h5,h2,λb hb=>?_⟩,h512⟩;have hb512:Uy b<=Rx f:=gf _ hb;simp only[Uy]at hb512;exact⟨h7 b hb,by omega,by omega,λo ho=>(hf.op b hb o ho).2⟩
theorem E0{n:Int}(h:numB n=true):eW n:=by have:=numB_iff.1 h;exact⟨this.1,by omega⟩
theorem NC(f:TFunc)(hf:US f):∃ sm,Cw f=some sm/\(sm=true->Qb f=true->OkF f/\Rx f<=512/\1<=f.Blocks.length):=by
 obtain⟨sm,h⟩:=SM f hf;refine⟨sm,h,λh1 h2=>?_⟩;obtain⟨q1,q2⟩:=lq h2;rw[eM f hf q1 q2]at h;obtain⟨r1,r2⟩:=xP hf h2 (by grind);exact⟨r1,r2,(KL h2).1⟩
def IA(l:Int):Int:=bif l==0 then 17 else bif l==1 then 20 else 22
def Rf(l:Int)(o:A2):Bool:=Jr o&&!decide (IA l<o.Kind)&&!(decide (l<2)&&decide (1<o.Lanes))
def Jp(l:Int)(b:Ab):Bool:=(b.Phis.all λp=>widthB p.Bits)&&b.Ops.all (Rf l)
def U1(f:TFunc)(l:Int):Bool:=f.Params.all widthB&&f.Blocks.all (Jp l)&&widthB f.Ret
theorem uW{m a b c:Bool}{x:Int}:(bif (bif (bif (!m) then true else a) then true else(bif b then c else false)) then(some (LR.done (Sum.inr false))) else some (LR.next x):Option (LR Int (Unit ⊕ Bool)))=some (bif (m&&!a&&!(b&&c)) then .next x else .done (.inr false)):=by
 grind
theorem mB{f:TFunc}(hf:OkF f){b:Ab}(hb:b∈f.Blocks){o:A2}(ho:o∈b.Ops):bz o:=by
 have h1:=hf.block b hb;have h2:=(blockB_iff.1 h1.may).2.1 o ho;simp only[bG,A1]at h2;exact⟨⟨(h1.imm o ho).1,(h1.imm o ho).2⟩,by have:=(listB_iff.1 h2.2).2;omega⟩
theorem uE{f:TFunc}(hf:OkF f)(l:Int):J5 f l=some (U1 f l):=by
 have hp:=G4 f.Params (0:Int) widthB (E6 f) (.inl ()) (.inr false) (λi hi hp=>by
   unfold E6
   have:decide ((i:Int)<(f.Params.length:Int))=true:=by simpa using hi
   simp only[this,Af,Aa (Ag hi),Co,Sz,Aj,hp,Dt,Ar,A0 hi (by have:=hf.few;omega)]) (λi hi hp=>by
   unfold E6
   have:decide ((i:Int)<(f.Params.length:Int))=true:=by simpa using hi
   simp only[this,Af,Aa (Ag hi),Co,Sz,Aj,hp,Mu]) (by
   unfold E6;simp) f.Params.length 0 (by omega)
 have hb:=G4 f.Blocks (default:Ab) (Jp l) (E7 f l) (.inl ()) (.inr false)
 have hphi:∀ i:Nat,i<f.Blocks.length->Ad (Do f (i:Int)) (0:Int)=some _:=λi hi=>by
  have hB:=hf.block _ (Ai (d:=(default:Ab)) hi)
  have:=G4 (f.Blocks.getD i default).Phis (default:Bf) (λp=>widthB p.Bits) (Do f (i:Int)) (.inl ()) (.inr false) (λj hj hp=>by
   unfold Do
   have:decide ((j:Int)<((f.Blocks.getD i default).Phis.length:Int))=true:=by simpa using hj
   simp only[Aa (Ag hi),Co,this,Af,Aa (Ag hj),Sz,Aj,hp,Dt,Ar,A0 hj (by have:=hB.phis;omega)]) (λj hj hp=>by
   unfold Do
   have:decide ((j:Int)<((f.Blocks.getD i default).Phis.length:Int))=true:=by simpa using hj
   simp only[Aa (Ag hi),Co,this,Af,Aa (Ag hj),Sz,Aj,hp,Mu]) (by
   unfold Do;simp[Aa (Ag hi)]) (f.Blocks.getD i default).Phis.length 0 (by omega)
  rw[show(0:Int)=((0:Nat):Int) from rfl,this,Mv]
 have hops:∀ i:Nat,i<f.Blocks.length->Ad (Dp f l (i:Int)) (0:Int)=some _:=λi hi=>by
  have hmem:=Ai (d:=(default:Ab)) hi;have hB:=hf.block _ hmem
  have key:∀(j:Nat),j<(f.Blocks.getD i default).Ops.length->Dp f l (i:Int) (j:Int)=some (bif Rf l ((f.Blocks.getD i default).Ops.getD j default) then .next ((j:Int)+1) else .done (.inr false)):=λj hj=>by
   unfold Dp
   have hd:decide ((j:Int)<((f.Blocks.getD i default).Ops.length:Int))=true:=by simpa using hj
   have hok:=mB hf hmem (Ai (d:=(default:A2)) hj);simp only[Aa (Ag hi),Co,hd,Af,Aa (Ag hj),A0 hj (by have:=hB.ops;omega)];unfold Rf IA;cases h1:(l==1)<;>cases h0:(l==0)<;>simp only[Af,Ar,Aj,bL _ hok,uW]
  have:=G4 (f.Blocks.getD i default).Ops (default:A2) (Rf l) (Dp f l (i:Int)) (.inl ()) (.inr false) (λj hj hp=>by rw[key j hj,hp];rfl) (λj hj hp=>by rw[key j hj,hp];rfl) (by
   unfold Dp;simp[Aa (Ag hi)]) (f.Blocks.getD i default).Ops.length 0 (by omega)
  rw[show(0:Int)=((0:Nat):Int) from rfl,this,Mv]
 have hb':=hb (λi hi hp=>by
   unfold E7
   have:decide ((i:Int)<(f.Blocks.length:Int))=true:=by simpa using hi
   simp only[Jp,A1]at hp
   simp only[this,Af,hphi i hi,hops i hi,hp.1,hp.2,Aj,A0 hi (by have:=hf.blocks;omega)]) (λi hi hp=>by
   unfold E7
   have:decide ((i:Int)<(f.Blocks.length:Int))=true:=by simpa using hi
   simp only[Jp]at hp;simp only[this,Af,hphi i hi,hops i hi,Aj]
   cases h1:((f.Blocks.getD i default).Phis.all λp=>widthB p.Bits) with
   | false=>rfl
   | true=>grind) (by
   unfold E7;simp) f.Blocks.length 0 (by omega)
 unfold J5 U1;rw[show(0:Int)=((0:Nat):Int) from rfl,hp,hb',Mv,Mv]
 cases f.Params.all widthB<;>cases f.Blocks.all (Jp l)<;>simp[Sz]
theorem JB:room=1099511627776:=rfl
theorem Ls{β:Type}(n A C:Nat)(E:Nat->List β)(hE:∀ i,i<n->(E i).length<=C)(f:List β×Int->Option (LR (List β×Int) (List β)))
  (hn:∀(acc:List β) (i:Nat),i<n->acc.length<=A+i*C->f (acc,(i:Int))=some (.next (acc++E i,(i:Int)+1)))
  (hd:∀ acc:List β,f (acc,(n:Int))=some (.done acc)):∀(k i:Nat) (acc:List β),i+k=n->acc.length<=A+i*C->Ad f (acc,(i:Int))=some (acc++(List.range' i k).flatMap E)
 | 0,i,acc,h,_=>by
  obtain rfl:i=n:=by omega
  rw[Ak (hd acc)]
  simp
 | k+1,i,acc,h,hA=>by
  have hi:i<n:=by omega
  have h2:acc.length+C<=A+(i+1)*C:=by rw[Jk];omega
  rw[Aq (hn acc i hi hA),show(i+1)=((i+1:Nat):Int) by omega,Ls n A C E hE f hn hd k _ _ (by omega) (by grind),CW,LI,U8]
theorem Jc{β:Type}(C:Nat)(E:Nat->List β):∀ l:List Nat,(∀ i∈l,(E i).length<=C)->(l.flatMap E).length<=l.length*C
 | [],_=>by simp
 | a::l,h=>by
  have h1:=h a (by simp);have h2:=Jc C E l (λi hi=>h i (by simp[hi]));rw[LI,Du,Rz,Jk];omega
def Np(l:List Cd)(v:Int):Int:=match l.findIdx? (λd=>d.V==v) with|some i=>(i:Int)|none=>-1
theorem aj(l:List Cd)(v:Int)(hl:l.length<=1000000):D9 l v=some (Np l v):=by
 have key:∀(k i:Nat),i+k=l.length->Ad (F0 l v) i=some (match(l.drop i).findIdx? (λd=>d.V==v) with|some j=>.inr (i+j:Nat)|none=>.inl ()):=by
  intro k
  induction k with
  | zero=>
   intro i h
   obtain rfl:i=l.length:=by omega
   rw[Ak (x:=.inl ()) (by unfold F0;simp)]
   simp
  | succ k ih=>
   intro i h
   have hi:i<l.length:=by omega
   have hdr:l.drop i=l.getD i default::l.drop (i+1):=by simp_all
   have hd:decide (i<(l.length:Int))=true:=by simpa using hi
   rw[hdr,List.findIdx?_cons]
   cases hb:(l.getD i _).V==v with
   | true=>
    rw[Ak (x:=.inr i) (by unfold F0;simp only[hd,Af,Aa (Ag hi),Co,hb])]
    simp
   | false=>
    rw[Aq (s':=((i+1:Nat):Int)) (by unfold F0;simp only[hd, Aa (Ag hi),Co,hb, A0 hi (by omega)];rfl),ih _ (by omega)]
    cases(l.drop _).findIdx? _ with
    | none=>simp
    | some j=>simp;omega
 unfold D9 Np;rw[show 0=((0:Nat):Int) from rfl,key l.length 0 (by omega),Mv]
 cases l.findIdx? _ with
 | none=>rfl
 | some j=>simp
def Pr(o:A2):Int×Int:=bif Jr o then GE o.Kind o.Bits o.Lanes else(0,0)
def Jb(o:A2):List (Int×Int):=bif Jr o then Yq o else[]
def Th(f:TFunc):List Cd:=(List.range f.Params.length).flatMap λ(i:Nat)=>[⟨(i:Int)+1,-1,0,(f.Params.getD i 0,1)⟩]
def Vm(b:Ab)(i:Nat):List Cd:=(List.range b.Phis.length).flatMap λ(k:Nat)=>[⟨(b.Phis.getD k default).Dst,i,-1,((b.Phis.getD k default).Bits,1)⟩]
def GD(b:Ab)(i:Nat):List Cd:=(List.range b.Ops.length).flatMap λ(k:Nat)=>bif decide (0<(Pr (b.Ops.getD k default)).1) then[⟨(b.Ops.getD k default).Dst,i,k,Pr (b.Ops.getD k default)⟩] else[]
def Ud(b:Ab)(i:Nat):List Cd:=Vm b i++GD b i
def Bg(f:TFunc):List Cd:=Th f++(List.range f.Blocks.length).flatMap λi=>Ud (f.Blocks.getD i default) i
theorem ME(b:Ab)(i:Nat):(Vm b i).length<=b.Phis.length:=by
 have:=Jc 1 (λk=>[(⟨(b.Phis.getD k default).Dst,i,-1,((b.Phis.getD k default).Bits,1)⟩:Cd)]) (List.range b.Phis.length) (λ_ _=>zzL8 _)
 simpa [Vm] using this
theorem f4(b:Ab)(i:Nat):(GD b i).length<=b.Ops.length:=by
 have:=Jc 1 (λk=>bif decide (0<(Pr (b.Ops.getD k default)).1) then[(⟨(b.Ops.getD k default).Dst,i,k,Pr (b.Ops.getD k default)⟩:Cd)] else[]) (List.range b.Ops.length) (λk _=>by grind)
 simpa [GD] using this
theorem WX{f:TFunc}(hf:OkF f){i:Nat}(hi:i<f.Blocks.length):(Ud (f.Blocks.getD i default) i).length<=1024:=by
 have hB:=hf.block _ (Ai (d:=default) hi);have h1:=ME (f.Blocks.getD i default) i;have h2:=f4 (f.Blocks.getD i default) i;have h3:=hB.phis;have h4:=hB.ops;rw[Ud,Du];omega
theorem DP(f:TFunc):(Th f).length=f.Params.length:=by
 have h:∀ l:List Nat,(l.map λ_=>1).sum=l.length:=λl=>by induction l with|nil=>rfl|cons a l ih=>simp[ih];omega
 simp[Th, h]
theorem lT{f:TFunc}(hf:OkF f):(Bg f).length<=100000:=by
 have h1:=Jc _ _ (List.range _) (λi hi=>WX hf (by simpa using hi));have h2:=DP f;have h3:=hf.few;have h4:=hf.blocks;rw[Xh]at h1;rw[Bg,Du];omega
theorem xJ{f:TFunc}(hf:OkF f):K1 f=some (Bg f):=by
 have hp:=Ls f.Params.length 0 1 (λ(i:Nat)=>[(⟨(i:Int)+1,-1,0,(f.Params.getD i 0,1)⟩:Cd)]) (λ_ _=>zzL8 _) (Im f) (λacc i hi hA=>by
   unfold Im
   have hd:decide ((i:Int)<(f.Params.length:Int))=true:=by simpa using hi
   have hr:acc.length+([(⟨(i:Int)+1,(-1:Int),(0:Int),((f.Params.getD i 0),(1:Int))⟩:Cd)]:List (Cd)).length<=room:=by have:=hf.few;rw[JB];simp;omega
   simp only[hd,Af,Aa (Ag hi),Co,A0 hi (by have:=hf.few;omega),Aa hr]) (λacc=>by unfold Im;simp) f.Params.length 0 [] (by omega) (by simp)
 have hphi:∀(i:Nat),i<f.Blocks.length->∀ acc:List Cd,acc.length<=100000->Ad (Fy f (i:Int)) (acc,(0:Int))=some (acc++Vm (f.Blocks.getD i default) i):=λi hi acc hacc=>by
  have hB:=hf.block _ (Ai (d:=(default:Ab)) hi)
  have:=Ls (f.Blocks.getD i default).Phis.length 100000 1 (λ(k:Nat)=>[(⟨((f.Blocks.getD i default).Phis.getD k default).Dst,i,-1,(((f.Blocks.getD i default).Phis.getD k default).Bits,1)⟩:Cd)]) (λ_ _=>zzL8 _) (Fy f (i:Int)) (λacc k hk hA=>by
   unfold Fy
   have hd:decide ((k:Int)<((f.Blocks.getD i default).Phis.length:Int))=true:=by simpa using hk
   have hr:∀ x:Cd,acc.length+([x]:List Cd).length<=room:=λx=>by have:=hB.phis;rw[JB];simp;omega
   simp only[Co,hd,Af,Aa (Ag hk),A0 hk (by have:=hB.phis;omega),Aa (hr _)]) (λacc=>by unfold Fy;simp) (f.Blocks.getD i default).Phis.length 0 acc (by omega) (by omega)
  rw[show(0:Int)=((0:Nat):Int) from rfl,this,Vm,P7]
 have hop:∀(i:Nat),i<f.Blocks.length->∀ acc:List Cd,acc.length<=100000->Ad (Fz f (i:Int)) (acc,(0:Int))=some (acc++GD (f.Blocks.getD i default) i):=λi hi acc hacc=>by
  have hmem:=Ai (d:=(default:Ab)) hi;have hB:=hf.block _ hmem
  have:=Ls (f.Blocks.getD i default).Ops.length 100000 1 (λ(k:Nat)=>bif decide (0<(Pr ((f.Blocks.getD i default).Ops.getD k default)).1) then[(⟨((f.Blocks.getD i default).Ops.getD k default).Dst,i,k,Pr ((f.Blocks.getD i default).Ops.getD k default)⟩:Cd)] else[]) (λk _=>by grind) (Fz f (i:Int)) (λacc k hk hA=>by
   unfold Fz;have hok:=mB hf hmem (Ai (d:=(default:A2)) hk)
   have hd:decide ((k:Int)<((f.Blocks.getD i default).Ops.length:Int))=true:=by simpa using hk
   have hr:∀ x:Cd,acc.length+([x]:List Cd).length<=room:=λx=>by have:=hB.ops;rw[JB];simp;omega
   have hg:G7 ((f.Blocks.getD i default).Ops.getD k default)=some (Pr ((f.Blocks.getD i default).Ops.getD k default)):=mE _ hok;simp only[Co,hd,Af,Aa (Ag hk),hg,Aj,A0 hk (by have:=hB.ops;omega),Aa (hr _)]
   cases decide (0<(Pr ((f.Blocks.getD i default).Ops.getD k default)).1)<;>simp) (λacc=>by unfold Fz;simp) (f.Blocks.getD i default).Ops.length 0 acc (by omega) (by omega)
  rw[show(0:Int)=((0:Nat):Int) from rfl,this,GD,P7]
 have hb:=Ls f.Blocks.length 16 1024 (λi=>Ud (f.Blocks.getD i default) i) (λi hi=>WX hf hi) (In f) (λacc i hi hA=>by
   unfold In
   have hd:decide ((i:Int)<(f.Blocks.length:Int))=true:=by simpa using hi
   have hB:=hf.block _ (Ai (d:=(default:Ab)) hi);have h64:=hf.blocks;have h2:=ME (f.Blocks.getD i default) i;have h3:=hB.phis
   simp only[hd,Af,Aa (Ag hi),hphi i hi acc (by omega),Aj,hop i hi (acc++Vm (f.Blocks.getD i default) i) (by rw[Du];omega),A0 hi (by omega),Ud,U8]) (λacc=>by unfold In;simp) f.Blocks.length 0 (Th f) (by omega) (by have:=DP f;have:=hf.few;omega)
 unfold K1;rw[show(0:Int)=((0:Nat):Int) from rfl,hp,Aj,V2]
 have e:(List.range' 0 f.Params.length).flatMap (λ(i:Nat)=>[(⟨(i:Int)+1,-1,0,(f.Params.getD i 0,1)⟩:Cd)])=Th f:=by rw[Th,P7]
 rw[e,hb,Aj,Bg,P7]
end
end Go.Proofs.YtlnbjgmjaioagaaGreat
