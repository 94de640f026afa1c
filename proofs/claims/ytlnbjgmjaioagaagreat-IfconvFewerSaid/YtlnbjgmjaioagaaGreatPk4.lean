/-
  The machine, the program's functions and the laws' arithmetic: part 4 of 6.
-/
import Derived.Test.YtlnbjgmjaioagaaGreatPk3
import Derived.OpenShut
import Derived.ShutString
set_option linter.unusedSectionVars false
set_option linter.unusedVariables false
set_option linter.unusedSimpArgs false
namespace Go.Proofs.YtlnbjgmjaioagaaGreat
noncomputable section
open Go Go.RowKit
set_option maxRecDepth 100000
set_option maxHeartbeats 2000000
def Lp(aJ:Bh)(a1:Int)(aO:Int):(Int×Ao×Ao)->Option (LR (Int×Ao×Ao) (Ao×Ao)):=
 λ((i1,l2,l3):(Int×Ao×Ao))=>(bif (decide (i1<(aJ.From.length:Int))) then(Option.bind (α:=ma) (Aw (As i1 aJ.From.length) (bif (bif ((aJ.From.getD i1.toNat 0)!=a1) then((aJ.From.getD i1.toNat 0)!=aO) else false) then(Aw (l2.length+([(aJ.From.getD i1.toNat 0)]:Ao).length<=room) (Aw (As i1 aJ.Args.length) (Aw (l3.length+([(aJ.Args.getD i1.toNat 0)]:Ao).length<=room) (some ((l2++([(aJ.From.getD i1.toNat 0)]:Ao)),(l3++([(aJ.Args.getD i1.toNat 0)]:Ao))))))) else(some (l2,l3)))) (λ(l6,l7)=>(some (.next ((w64 (i1+1)),l6,l7))))) else(some (.done (l2,l3))))
def nD(x19:(Ao×Ao×Ao)):=(λi=>An (x19.2.1.getD i 0))
def nC:AV:=jM
def bz(aJ:Bh)(i1:Int):=([(aJ.Args.getD i1.toNat 0)]:Ao)
def b6(aJ:Bh)(i1:Int):=([(aJ.From.getD i1.toNat 0)]:Ao)
def ru:List AV:=[Lc,Lc,UT,UT]
def rq(aJ:Bh):List AV:=[(Z6 aJ.Bits),(Z6 aJ.Dst),(My aJ.From),(My aJ.Args)]
def yU(a1:Int)(aO:Int)(aZ:Int)(aS:Int)(aJ:Bh):=(⟨[(1,(Z6 a1)),(2,(Z6 aO)),(3,(Z6 aZ)),(4,(Z6 aS)),VF,(10,(.ptr 10 0)),(11,(.vsl 36011 ([]:Ao).length)),(12,(.vsl 36012 ([]:Ao).length)),(18,(My aJ.From)),(19,(JT aJ.From.length)),(20,Lc)],[(5,.row 56 (rq aJ)),(10,.row 56 ru),(Z83 36011),(Z83 36012)],[]⟩:St)
def Oe(aJ:Bh)(a1:Int)(aO:Int)(aZ:Int)(aS:Int):Option Bh:=
 ((Ad (Lp aJ a1 aO) ((0:Int),([]:Ao),([]:Ao))).bind (λ(l4,l5)=>((Eu l4 aZ).bind λx16=>((CS l4 x16.1 [aZ]).bind λx17=>(Aw (1=x17.2.2.length) ((CS l5 x16.1 [aS]).bind λx19=>(Aw (1=x19.2.2.length) (some (⟨aJ.Bits,aJ.Dst,x17.2.1,x19.2.1⟩:Bh)))))))))
variable{v1:Int}{v11:Int}{v20:Int}{v4:Bh}{v40:Int}{v46:Bh}
theorem IP(h:Oe v4 v1 v11 v20 v40=some v46):sP 121 [(.agg (Gu v4)),(Z6 v1),(Z6 v11),(Z6 v20),(Z6 v40)] [] (.agg (Gu v46)) []:=
 sG Tryz.func121 λΓ q=>have hΓ:=q.own;Ae q [1,2,3,4,5,10] [5,10] (gR q [1,2,3,4,5,10,11,12] [5,10] [(11,nC),(12,nC)] [] (c2 (Bd 1 An (0:Int)) (Bd 1 An (0:Int))) (Ae q NQ [5,10] (M3 (st':=(yU v1 v11 v20 v40 v4)) (Le.trans (A8 (st':=⟨[(1,(Z6 v1)),(2,(Z6 v11)),(3,(Z6 v20)),(4,(Z6 v40)),VF,(10,(.ptr 10 0)),(11,nC),(12,nC),(18,(My v4.From)),(19,(JT v4.From.length)),(20,Lc)],[(5,.row 56 (rq v4)),(10,.row 56 ru)],[]⟩) NQ [5,10] q) (Le.trans (Le.trans (aj (t:=11) (nm:=36011) (sz':=1) (λi=>An (([]:Ao).getD i 0)) 3 rfl rfl) (A8 (st':=⟨[(1,(Z6 v1)),(2,(Z6 v11)),(3,(Z6 v20)),(4,(Z6 v40)),VF,(10,(.ptr 10 0)),(11,(.vsl 36011 ([]:Ao).length)),(12,nC),(18,(My v4.From)),(19,(JT v4.From.length)),(20,Lc)],[(5,.row 56 (rq v4)),(10,.row 56 ru),(Z83 36011)],[]⟩) NQ [5,10,36011] q)) (Le.trans (aj (t:=12) (nm:=36012) (sz':=1) (λi=>An (([]:Ao).getD i 0)) 3 rfl rfl) (A8 (st':=(yU v1 v11 v20 v40 v4)) NQ Tm q)))) (tL q h NQ Tm (λu (i1,l2,l3)=>(Cn u [(11,(.vsl 36011 l2.length)),(12,(.vsl 36012 l3.length)),(20,(Z6 i1))] [(Z4 36011 l2),(Z4 36012 l3)])) (λu (l4,l5)=>aG Γ (.exit 0) (Ng [3,4,5,10,11,12] Tm u [(11,(.vsl 36011 l4.length)),(12,(.vsl 36012 l5.length))] [(Z4 36011 l4),(Z4 36012 l5)])) (λ⟨i1,l2,l3⟩ y h=>Ae q [1,2,3,4,5,10,11,12,18,19,20,21] Tm (gC h (λh=>tB h λx12 y12 h=>gJ y12 (λ(l6,l7)=>aG Γ .normal (⟨[(1,(Z6 v1)),(2,(Z6 v11)),(3,(Z6 v20)),(4,(Z6 v40)),VF,(10,(.ptr 10 0)),(11,(.vsl 36011 l6.length)),(12,(.vsl 36012 l7.length)),(18,(My v4.From)),(19,(JT v4.From.length)),(20,(Z6 i1))],[(5,.row 56 (rq v4)),(10,.row 56 ru),(Z4 36011 l6),(Z4 36012 l7)],[]⟩:St)) (λy h=>tV q [1,2,3,4,5,10,11,12,13,14,18,19,20] Tm h λh=>tU q [1,2,3,4,5,10,11,12,13,14,18,19,20,32] Tm (Kb (((v4.From.getD i1.toNat 0)!=v1)==true) (c1 (Na ((v4.From.getD i1.toNat 0)!=v1)))) (gC h (λh=>tC h λc9_ h=>tC h λc10_ h=>tC h λc11_ h=>gR q NQ Tm [(35,(sx (b6 v4 i1))),(43,(sx (bz v4 i1)))] [] (c7 (Az 1 An (0:Int) (b6 v4 i1)) (Eq.refl l2.length) c9_ c10_ (Az 1 An (0:Int) (bz v4 i1)) (Eq.refl l3.length) c11_) (tS h (gK (A3 (Le.trans (Le.trans (Vf 36011 (show ∀ k_,k_<(l2.length+(b6 v4 i1).length)->AVleL ((λi_=>AV.eraseAll (λn_=>B4 n_ Tm) ((O5 l2.length (λi=>An (l2.getD i 0)) (λi=>An ((b6 v4 i1).getD i 0))) i_)) k_) ((λi=>An ((l2++(b6 v4 i1)).getD i 0)) k_) from(Bl (Bs _ _) (λk_ hk_=>(Bn (AV.eraseAll (λn_=>B4 n_ Tm)) ((Wv (λ_ _=>rfl) (λ_ _=>rfl)) k_ hk_)).trans rfl)))) (Le.trans (Vg (λ(k_:Nat) u=>(Cn u [(11,(.vsl 36011 k_))] [(36011,.arr 1 3 k_ (λi=>An ((l2++(b6 v4 i1)).getD i 0)))])) (show(l2.length+(b6 v4 i1).length)=(l2++(b6 v4 i1)).length from(Bs _ _))) (Le.trans (Vf 36012 (show ∀ k_,k_<(l3.length+(bz v4 i1).length)->AVleL ((λi_=>AV.eraseAll (λn_=>B4 n_ Tm) ((O5 l3.length (λi=>An (l3.getD i 0)) (λi=>An ((bz v4 i1).getD i 0))) i_)) k_) ((λi=>An ((l3++(bz v4 i1)).getD i 0)) k_) from(Bl (Bs _ _) (λk_ hk_=>(Bn (AV.eraseAll (λn_=>B4 n_ Tm)) ((Wv (λ_ _=>rfl) (λ_ _=>rfl)) k_ hk_)).trans rfl)))) (Vg (λ(k_:Nat) u=>(Cn u [(12,(.vsl 36012 k_))] [(36012,.arr 1 3 k_ (λi=>An ((l3++(bz v4 i1)).getD i 0)))])) (show(l3.length+(bz v4 i1).length)=(l3++(bz v4 i1)).length from(Bs _ _)))))) Gv))))) λh=>tS h (gK (A3 (A8 NQ Tm q))))) (match x12,h with|⟨l6,l7⟩,h=>gA (Ae q NQ Tm (tN h)))) λh=>tS h (gO (A3 (A8 [3,4,5,10,11,12] Tm q))))) λx14 h=>(match x14,h with|⟨l4,l5⟩,h=>gA (tB h λx16 y16 h=>tT q [3,4,5,10,11,12,15] Tm [⟨[],[],(.tuple [(Z6 x16.1),(.bool x16.2)]),[],[36011],[]⟩] (c3 (Se y16) (show(MK []) from trivial) (Eq.refl l4.length)) (tB h λx17 y17 h=>tC h λc18_ h=>tB h λx19 y19 h=>tC h λc20_ h=>gR q [5,10] Tm [(55,(.vsl 55 1)),(60,(.vsl 60 1))] [⟨qs,[],(.vsl 34000 x17.2.1.length),[(Z4 34000 x17.2.1),(Z4 34002 x17.2.2)],[],[]⟩,⟨qt,[],(.vsl 34000 x19.2.1.length),[(34000,.arr 1 3 x19.2.1.length (nD x19)),(Z4 34002 x19.2.2)],[],[]⟩] (c2 (SZ l4 x16.1 [v20] x17 y17 (λi_=>AV.renAll qs ((λi_=>([(Z6 v20)].drop (i_*1)).take 1) i_)) (bL (n:=0) gy rfl)) (SZ l5 x16.1 [v40] x19 y19 (λi_=>AV.renAll qt ((λi_=>([(Z6 v40)].drop (i_*1)).take 1) i_)) (bL (n:=0) gy rfl))) (Ae q [10] [10,36011,36012] (O8 (⟨[(10,(.ptr 10 0))],[(10,.row 56 [(Z6 v4.Bits),(Z6 v4.Dst),(.vsl 36011 x17.2.1.length),(.vsl 36012 x19.2.1.length)]),(Z4 36011 x17.2.1),(36012,.arr 1 3 x19.2.1.length (nD x19))],[]⟩:St) (tS h (gK (e:=.ret) (H7 [] (Le.trans (Le.trans (Gp (nm:=36011) (sz:=1) (n:=x17.2.1.length) (e:=3) (f:=(λi=>An (x17.2.1.getD i 0))) (g:=(λi=>An (x17.2.1.getD i 0))) rfl ⟨rfl,trivial⟩ (λ_ _=>rfl) (by rw[hΓ];rfl)) (H8 (st':=⟨[(10,(.ptr 10 0))],[(10,.row 56 [(Z6 v4.Bits),(Z6 v4.Dst),(HO x17.2.1 36011),(.vsl 36012 x19.2.1.length)]),(Ts 36011 x17.2.1.length),(36012,.arr 1 3 x19.2.1.length (nD x19))],[]⟩) (by kernel_rfl))) (Le.trans (Gp (nm:=36012) (sz:=1) (n:=x19.2.1.length) (e:=3) (f:=(nD x19)) (g:=(nD x19)) rfl ⟨rfl,trivial⟩ (λ_ _=>rfl) (by rw[hΓ];rfl)) (H8 (st':=⟨[(10,(.ptr 10 0))],[(10,.row 56 [(Z6 v4.Bits),(Z6 v4.Dst),(HO x17.2.1 36011),(HO x19.2.1 36012)]),(Ts 36011 x17.2.1.length),(Ts 36012 x19.2.1.length)],[]⟩) (by kernel_rfl))))))))))))))))
abbrev Aay:=(List Bh×Int×Ao×Int×List Ab×Int×Int×Int×Int×List A2×Int)
def Jd(a1:Int)(a3:TFunc)(a5:THammock)(x1:Int)(x2:Int):Aay->Option (LR (List Bh×Int×Ao×Int×List Ab×Int×Int×Int×Int×List A2×Int) (List Bh×Ao×Int×List Ab×Int×Int×Int×Int×List A2×Int)):=
 λ((l4,i5,l6,i7,l8,i9,i10,i11,i12,l13,i14):Aay)=>(bif (decide (i5<(((a3.Blocks.getD (a5.Join).toNat (default:Ab)).Phis).length:Int))) then(Aw (As i5 ((a3.Blocks.getD (a5.Join).toNat (default:Ab)).Phis).length) ((Sw (((a3.Blocks.getD (a5.Join).toNat (default:Ab)).Phis).getD i5.toNat default) x1).bind λx26=>((Sw (((a3.Blocks.getD (a5.Join).toNat (default:Ab)).Phis).getD i5.toNat default) x2).bind λx27=>((Jb ((((a3.Blocks.getD (a5.Join).toNat (default:Ab)).Phis).getD i5.toNat default).Bits) a1 x26 x27 (⟨l6,i7,l8⟩:TFunc) (⟨i9,i10,i11,i12⟩:THammock) l13 i14).bind λx28=>((Oe (((a3.Blocks.getD (a5.Join).toNat (default:Ab)).Phis).getD i5.toNat default) x1 x2 x28.2.2.1.At x28.1).bind λx29=>(Aw (l4.length+([(⟨x29.Bits,x29.Dst,x29.From,x29.Args⟩:Bh)]:List Bh).length<=room) (some (.next ((l4++([(⟨x29.Bits,x29.Dst,x29.From,x29.Args⟩:Bh)]:List Bh)),(w64 (i5+1)),x28.2.1.Params,x28.2.1.Ret,x28.2.1.Blocks,x28.2.2.1.At,x28.2.2.1.Then,x28.2.2.1.Else,x28.2.2.1.Join,x28.2.2.2.1,x28.2.2.2.2))))))))) else(some (.done (l4,l6,i7,l8,i9,i10,i11,i12,l13,i14))))
def rv(a3:TFunc)(a5:THammock):=(a3.Blocks.getD (a5.Join).toNat (default:Ab))
def nE(x29:Bh):=([(⟨x29.Bits,x29.Dst,x29.From,x29.Args⟩:Bh)]:List Bh)
def ki(a3:TFunc)(a5:THammock)(a7:List A2)(a8:Int):List AV:=(Z2 a3.Params a3.Ret a3.Blocks a5.At a5.Then a5.Else a5.Join a7 a8)
def yV(a1:Int)(x1:Int)(x2:Int)(a3:TFunc)(a5:THammock)(a7:List A2)(a8:Int):=(⟨[(0,Wt),(1,(Z6 a1)),(5,(Z6 x1)),(6,(Z6 x2)),(7,(AV.list 4 Gu default ([]:List Bh) (.own 5007))),(37,(AV.list 4 Gu default (rv a3 a5).Phis .none)),(38,(.int .i64 (((rv a3 a5).Phis).length:Int))),(39,Lc)],[(5007,.tok 4 56 (([]:List Bh).length)),(30000,.row 71 (ki a3 a5 a7 a8)),(OA 37007 a7.length)],[]⟩:St)
abbrev OR:=(List Bh×TFunc×THammock×List A2×Int)
def Lq(a1:Int)(a3:TFunc)(a5:THammock)(a7:List A2)(a8:Int):Option OR:=
 ((G8 a5.Then a3 a5 a7 a8).bind λx1=>((G8 a5.Else a3 a5 a7 a8).bind λx2=>(Aw (As a5.Join a3.Blocks.length) ((Ad (Jd a1 a3 a5 x1 x2) (([]:List Bh),(0:Int),a3.Params,a3.Ret,a3.Blocks,a5.At,a5.Then,a5.Else,a5.Join,a7,a8)).bind (λ(l15,l16,i17,l18,i19,i20,i21,i22,l23,i24)=>(some (l15,(⟨l16,i17,l18⟩:TFunc),(⟨i19,i20,i21,i22⟩:THammock),l23,i24)))))))
variable{v0:TFunc}{v37:THammock}{v47:OR}{v7:List A2}
theorem BV(h:Lq v1 v0 v37 v7 v11=some v47):sP 64 [Wt,(Z6 v1)] (OT v0.Params v0.Ret v0.Blocks v37.At v37.Then v37.Else v37.Join v7 v11 v7.length) (yD v47.1 20000) [(30000,.row 71 (Z2 v47.2.1.Params v47.2.1.Ret v47.2.1.Blocks v47.2.2.1.At v47.2.2.1.Then v47.2.2.1.Else v47.2.2.1.Join v47.2.2.2.1 v47.2.2.2.2)),(OA 37007 v47.2.2.2.1.length),(20000,.tok 4 56 v47.1.length)]:=
 sG Tryz.func64 λΓ q=>gR q Fg Mo [(4,Z89)] [] (c1 (Bd 4 Gu (default:Bh))) (tB h λx1 y1 h=>tB h λx2 y2 h=>tT q UB Mo [⟨Yy,[],(Z6 x1),(lD (ki v0 v37 v7 v11) v7.length),[],Mo⟩,⟨Yy,[],(Z6 x2),(lD (ki v0 v37 v7 v11) v7.length),[],Mo⟩] (ci (Rg y1) (rkc [(.row 71 (ki v0 v37 v7 v11)),(.tok 6 51 v7.length)] (ci (Rg y2) (rkl [(.row 71 (ki v0 v37 v7 v11)),(.tok 6 51 v7.length)])))) (gR q [0,1,5,6,7] Mo [(7,Z89)] [] (c1 (Bd 4 Gu (default:Bh))) (tV q YU Mo h λh=>M3 (st':=(yV v1 x1 x2 v0 v37 v7 v11)) (Le.trans (A8 (st':=⟨[(0,Wt),(1,(Z6 v1)),(5,(Z6 x1)),(6,(Z6 x2)),(7,Z89),(37,(AV.list 4 Gu default (rv v0 v37).Phis .none)),(38,(.int .i64 (((rv v0 v37).Phis).length:Int))),(39,Lc)],(lD (ki v0 v37 v7 v11) v7.length),[]⟩) YU Mo q) (Le.trans (Ld (t:=7) (nm:=5007) (sz':=4) (λi=>Gu (([]:List Bh).getD i default)) 56 rfl rfl (.inl ⟨rfl,rfl⟩) (λh_=>absurd h_ (by decide))) (A8 (st':=(yV v1 x1 x2 v0 v37 v7 v11)) YU UO q))) (tL q h YU UO (λu (l4,i5,l6,i7,l8,i9,i10,i11,i12,l13,i14)=>(Cn u [(7,(yD l4 5007)),(39,(Z6 i5))] [(5007,.tok 4 56 l4.length),(30000,.row 71 (Z2 l6 i7 l8 i9 i10 i11 i12 l13 i14)),(OA 37007 l13.length)])) (λu (l15,l16,i17,l18,i19,i20,i21,i22,l23,i24)=>aG Γ (.exit 0) (⟨[(7,(yD l15 5007))],[(5007,.tok 4 56 l15.length),(30000,.row 71 (Z2 l16 i17 l18 i19 i20 i21 i22 l23 i24)),(OA 37007 l23.length)],[]⟩:St)) (λ⟨l4,i5,l6,i7,l8,i9,i10,i11,i12,l13,i14⟩ y h=>Ae q [0,1,5,6,7,37,38,39,40] UO (gC h (λh=>tV q [0,1,5,6,7,9,37,38,39] rE h λh=>tB h λx26 y26 h=>tB h λx27 y27 h=>tB h λx28 y28 h=>tT q [0,1,5,6,7,9,10,37,38,39] rE [(JS x26),(JS x27),(so x28.1 x28.2.1.Params x28.2.1.Ret x28.2.1.Blocks x28.2.2.1.At x28.2.2.1.Then x28.2.2.1.Else x28.2.2.1.Join x28.2.2.2.1 x28.2.2.2.2 x28.2.2.2.1.length)] (c3 (IM y26) (IM y27) (W7 y28)) (tB h λx29 y29 h=>tC h λc30_ h=>gR q YU UO [(65,(AV.list 4 Gu default (nE x29) .exact)),(66,(AV.list 4 Gu default (l4++(nE x29)) (.own 5007)))] [⟨[],[],(.agg (Gu x29)),[],[],[]⟩] (c6 (IP y29) (Az 4 Gu (default:Bh) (nE x29)) (Eq.refl l4.length) c30_ (Cv 4 5007 Gu (default:Bh) l4 (nE x29)) (Bs l4 (nE x29))) (Ae q YU UO (tN h)))) λh=>tS h (gO (A3 (A8 [7] UO q))))) λx31 h=>(match x31,h with|⟨l15,l16,i17,l18,i19,i20,i21,i22,l23,i24⟩,h=>gA (Ae q [4] UO (tS h (Bq [(30000,30000),(37007,37007),(5007,20000)]))))))))
def kj:AV:=wd
def yW:=(⟨[(2,(.vsl 36002 ([]:List Ab).length))],[(36002,.arr 5 48 (([]:List Ab).length) (λi=>Be (([]:List Ab).getD i default)))],[]⟩:St)
def Cw(aL:List Ab):Option (List Ab):=
 (Aw (aL.length<=room) (some aL))
variable{v10:List Ab}{v34:List Ab}
theorem N5(h:Cw v10=some v34):sP 65 [(VD v10)] [] (.vsl 20000 v34.length) [(20000,.arr 5 48 v34.length (λi=>Be (v34.getD i default)))]:=by
 refine EI mix Tryz.func65 (λΓ hq=>?_);unfold Cw at h;refine gR hq [0] [] [(2,kj)] [] (c1 (Bd 5 Be (default:Ab))) ?_;refine Ae hq Yx [] ?_;refine zi true v10.length (λhb=>?_) (λhb=>?_)
 ·replace h:=pY (some ([]:List Ab)) (λ(l2:List Ab)=>(Aw (l2.length<=room) (some l2))) h (hb rfl) rfl (λh0=>by first|exact h0|simpa [Aw,room] using h0);clear hb;refine gR hq [2] [] [(2,kj)] [] (c1 (Bd 5 Be (default:Ab))) ?_;refine O8 (⟨[(2,kj)],[],[]⟩:St) ?_;cases h;exact gK (e:=.ret) (H7 [(36002,20000)] (show Le Γ _ yW from Le.trans (A8 (st':=⟨[(2,kj)],[],[]⟩) [2] [] hq) (Le.trans (aj (t:=2) (nm:=36002) (sz':=5) (λi=>Be (([]:List Ab).getD i default)) 48 rfl rfl) (A8 (st':=yW) [2] [36002] hq))))
 ·clear hb;obtain⟨hc1,h⟩:=O6 h;refine gR hq [2] [7] [(5,kj),(7,.vsl 7 0)] [] (ci (show(AVle (.slice 5 0 (λi=>([]:List (List AV)).getD i []) .exact) kj) from fh rfl (λi hi=>absurd hi (V1 i))) (c1 hc1)) ?_;obtain rfl:=OI h;exact Bq [(7,20000)]
def S9(aE:THammock):Option Unit:=
 (some ())
variable{v32:Unit}
theorem KZ(h:S9 v37=some v32):sP 66 [(e9 v37)] [] (nh v37) []:=
 sG Tryz.func66 λΓ q=>gR q [1] [] [(1,(.rptr []))] [] trivial (Ae q [2] [] (tS h (Bq [])))
def Nf(aK:Int)(a1:THammock):Option Int:=
 (Option.bind (α:=Int) (bif (bif (a1.Then !=-1) then(decide (a1.Then<aK)) else false) then(some (w64 (aK-1))) else(some aK)) (λx2=>(Option.bind (α:=Int) (bif (bif (a1.Else !=-1) then(decide (a1.Else<aK)) else false) then(some (w64 (x2-1))) else(some x2)) (λx5=>(some x5)))))
theorem GO(h:Nf v1 v37=some v11):sP 122 [(Z6 v1),(.rptr (Dd v37))] [] (.int .i64 v11) []:=
 sG Tryz.func122 λΓ q=>tW q Fg [] [0,1,4] [] (Ae q HA [] (gU 2 (Ae q bb [] (bv true (tB h λx2 y2 h=>gJ y2 (λi1=>aG Γ .normal (⟨[(0,(Z6 v1)),(4,(Z6 i1)),(12,(.agg [(Z6 v37.Then),(Z6 v37.Else)])),(13,Lc)],[],[]⟩:St)) (λy h=>tU q [0,4,6,12,13] [] (c1 (show(As (0:Int) 2) from(by decide))) (tU q [0,4,12,13,22] [] (Kb ((v37.Then !=-1)==true) (c1 (Na (v37.Then !=-1)))) (gC h (λh=>Ae q HA [] (tS h (gK (A3 Gv)))) λh=>tS h (gK (A3 (A8 HA [] q)))))) (gA (tW q HA [] bb [] (bv true (tB h λx5 y5 h=>gJ y5 (λi4=>aG Γ .normal (⟨[(0,(Z6 v1)),(4,(Z6 i4)),(12,(.agg [(Z6 v37.Then),(Z6 v37.Else)])),(13,mn)],[],[]⟩:St)) (λy h=>tU q [0,4,6,12,13] [] (c1 (show(As (1:Int) 2) from(by decide))) (tU q [0,4,12,13,22] [] (Kb ((v37.Else !=-1)==true) (c1 (Na (v37.Else !=-1)))) (gC h (λh=>Ae q HA [] (tS h (gK (A3 Gv)))) λh=>tS h (gK (A3 (A8 HA [] q)))))) (gA (tW q HA [] bb [] (bv false (Ae q [3] [] (tS h (Bq [])))))))))))))))
def Ny(aB:Ao)(aaA:THammock):GV->Option u5:=
 λ((i2,l3):GV)=>(bif (decide (i2<(aB.length:Int))) then(Aw (As i2 aB.length) ((Nf (aB.getD i2.toNat 0) aaA).bind λx6=>(Aw (As i2 l3.length) (some (.next ((w64 (i2+1)),(l3.set i2.toNat x6))))))) else(some (.done l3)))
def Kw(aB:Ao)(aaA:THammock):Option Ao:=
 (Aw (0<=(aB.length:Int)/\(aB.length:Int)<=(aB.length:Int)/\(aB.length:Int)<=(room:Int)) ((Ad (Ny aB aaA) ((0:Int),(List.replicate (aB.length:Int).toNat (0:Int)))).bind (λx8=>(some x8))))
variable{v17:Ao}{v2:Ao}
theorem Ut(h:Kw v2 v37=some v17):sP 123 [(My v2),(nh v37)] [] (HO v17 20000) [(Ts 20000 v17.length)]:=
 sG Tryz.func123 λΓ q=>have hΓ:=q.own;gR q Fg [] [(4,jM)] [] (c1 (Bd 1 An (0:Int))) (tV q Ph [10] h λh=>by exact M3 (Le.trans (Vf 10 (show ∀ k_,k_<((v2.length:Int).toNat)->AVleL ((λi_=>AV.eraseAll (λn_=>B4 n_ [10]) ((λ_=>[Lc]) i_)) k_) ((λi=>An ((List.replicate (v2.length:Int).toNat (0:Int)).getD i 0)) k_) from(λk hk=>Rd (e:=An) (d:=(0:Int)) (.cons (AVle.refl _) .nil) _ k (Rk hk)))) (Vg (λ(k_:Nat) u=>(Cn u [(5,(.vsl 10 k_))] [(10,.arr 1 3 k_ (λi=>An ((List.replicate (v2.length:Int).toNat (0:Int)).getD i 0)))])) (show(v2.length:Int).toNat=(List.replicate (v2.length:Int).toNat (0:Int)).length from(S3 ..).symm))) (Ae q bc [10] (tL q h bc [10] (λu (i2,l3)=>(Cn u [(5,(.vsl 10 l3.length)),(13,(Z6 i2))] [(Z4 10 l3)])) (λu l4=>aG Γ (.exit 0) (⟨[(5,(.vsl 10 l4.length))],[(Z4 10 l4)],[]⟩:St)) (λ⟨i2,l3⟩ y h=>Ae q [1,5,11,12,13,14] [10] (gC h (λh=>tV q [1,5,6,7,11,12,13] [10] h λh=>tB h λx6 y6 h=>tC h λc7_ h=>tT q bc [10] [(JS x6)] (c3 (GO y6) c7_ (Eq.refl l3.length)) (M3 (Le.trans (Vf 10 (show ∀ k_,k_<l3.length->AVleL ((λi_=>AV.eraseAll (λn_=>B4 n_ [10]) ((Fd (λi=>An (l3.getD i 0)) i2.toNat 0 [(Z6 x6)]) i_)) k_) ((λi=>An ((l3.set i2.toNat x6).getD i 0)) k_) from(Bl (D0 ..).symm (λk_ hk_=>(Bn (AV.eraseAll (λn_=>B4 n_ [10])) ((Hg (λ_ _=>rfl) (J1 c7_) rfl) k_ hk_)).trans rfl)))) (Vg (λ(k_:Nat) u=>(Cn u [(5,(.vsl 10 k_))] [(10,.arr 1 3 k_ (λi=>An ((l3.set i2.toNat x6).getD i 0)))])) (show l3.length=(l3.set i2.toNat x6).length from(D0 ..).symm))) (Ae q bc [10] (tN h)))) λh=>tS h (gO (A3 (A8 [5] [10] q))))) λx8 h=>gA (Ae q [4] [10] (O8 ((lA 10 x8.length x8):St) (tS h (gK (e:=.ret) (H7 [(10,20000)] (Le.trans (Gp (nm:=10) (sz:=1) (n:=x8.length) (e:=3) (f:=(λi=>An (x8.getD i 0))) (g:=(λi=>An (x8.getD i 0))) rfl ⟨rfl,trivial⟩ (λ_ _=>rfl) (by rw[hΓ];rfl)) (H8 (st':=(yC x8 10 x8.length)) (by kernel_rfl)))))))))))
def Qu(aH:Ab)(aaA:THammock):(Int×List Bh)->Option (LR (Int×List Bh) (List Bh)):=
 λ((i2,l3):(Int×List Bh))=>(bif (decide (i2<(aH.Phis.length:Int))) then(Aw (As i2 aH.Phis.length) ((Kw ((aH.Phis.getD i2.toNat default).From) aaA).bind λx6=>(Aw (As i2 l3.length) (some (.next ((w64 (i2+1)),(l3.set i2.toNat (⟨(aH.Phis.getD i2.toNat default).Bits,(aH.Phis.getD i2.toNat default).Dst,x6,(aH.Phis.getD i2.toNat default).Args⟩:Bh)))))))) else(some (.done l3)))
def b8:AV:=UT
def FX(aH:Ab)(i2:Int):=(aH.Phis.getD i2.toNat default)
def rx(l3:List Bh):=(λi=>Gu (l3.getD i default))
def vt(aH:Ab):=(List.replicate (aH.Phis.length:Int).toNat (default:Bh))
def yZ(aH:Ab)(i2:Int)(x6:Ao):List AV:=[(.int .i64 (FX aH i2).Bits),(.int .i64 (FX aH i2).Dst),(My x6),(AV.list 1 An 0 (FX aH i2).Args .none)]
def yY(aH:Ab):List AV:=[(wk aH.Phis),(bt aH.Ops),(Z6 aH.End.Kind),(Z6 aH.End.Arg),(My aH.End.To)]
def yX(aaA:THammock)(l3:List Bh)(i2:Int)(aH:Ab):List NL:=[(1,(nh aaA)),Ob,MC,(5,(.vsl 11 l3.length)),(6,(Z6 i2)),JV,(13,(wk aH.Phis)),(14,(JT aH.Phis.length)),(15,(Z6 i2))]
def Qt(aH:Ab)(aaA:THammock):Option Ab:=
 (Aw (0<=(aH.Phis.length:Int)/\(aH.Phis.length:Int)<=(aH.Phis.length:Int)/\(aH.Phis.length:Int)<=(room:Int)) ((Ad (Qu aH aaA) ((0:Int),(List.replicate (aH.Phis.length:Int).toNat (default:Bh)))).bind (λx8=>((Kw aH.End.To aaA).bind λx10=>(some (⟨x8,aH.Ops,(⟨aH.End.Kind,aH.End.Arg,x10⟩:Jo)⟩:Ab))))))
variable{v48:Ab}{v9:Ab}
theorem OK(h:Qt v9 v37=some v48):sP 67 [(.agg (Be v9)),(nh v37)] [] (.agg (Be v48)) []:=
 sG Tryz.func67 λΓ q=>have hΓ:=q.own;Ae q DH S4 (tV q TZ Zj h λh=>by exact M3 (Le.trans (Vf 11 (show ∀ k_,k_<((v9.Phis.length:Int).toNat)->AVleL ((λi_=>AV.eraseAll (λn_=>B4 n_ Zj) ((λ_=>[Lc,Lc,b8,b8]) i_)) k_) ((λi=>Gu ((vt v9).getD i default)) k_) from(λk hk=>Rd (e:=Gu) (d:=(default:Bh)) (.cons (AVle.refl _) (.cons (AVle.refl _) (.cons (λ_ _ _ _ _ hh=>AVle.untag _ _ _ _ _ (Dv _ _ _ _ _ hh)) (.cons (λ_ _ _ _ _ hh=>AVle.untag _ _ _ _ _ (Dv _ _ _ _ _ hh)) .nil)))) _ k (Rk hk)))) (Vg (λ(k_:Nat) u=>(Cn u [(5,(.vsl 11 k_))] [(11,.arr 4 56 k_ (λi=>Gu ((vt v9).getD i default)))])) (show(v9.Phis.length:Int).toNat=(vt v9).length from(S3 ..).symm))) (Ae q bV Zj (tL q h bV Zj (λu (i2,l3)=>(Cn u [(5,(.vsl 11 l3.length)),(15,(Z6 i2))] [(11,.arr 4 56 l3.length (rx l3))])) (λu l4=>aG Γ (.exit 0) (Ng TZ Zj u [(5,(.vsl 11 l4.length))] [(11,.arr 4 56 l4.length (λi=>Gu (l4.getD i default)))])) (λ⟨i2,l3⟩ y h=>Ae q [1,2,4,5,13,14,15,16] Zj (gC h (λh=>tV q iN [2,4,7,11] h λh=>tB h λx6 y6 h=>tT q iN [2,4,7,11,23] [(wh 23 x6 x6.length)] (c1 (Ut y6)) (O8 (⟨(yX v37 l3 i2 v9),[(L9 48 (yY v9)),(4,.row 48 [b8,b8,Lc,Lc,b8]),(7,.row 56 [(.int .i64 (FX v9 i2).Bits),(.int .i64 (FX v9 i2).Dst),(HO x6 23),(AV.list 1 An 0 (FX v9 i2).Args .none)]),(11,.arr 4 56 l3.length (rx l3)),(Ts 23 x6.length)],[]⟩:St) (M3 (show Le Γ _ (⟨(yX v37 l3 i2 v9),[(L9 48 (yY v9)),(4,.row 48 [b8,b8,Lc,Lc,b8]),(7,.row 56 (yZ v9 i2 x6)),(11,.arr 4 56 l3.length (rx l3))],[]⟩:St) from A8 iN [2,4,7,11] q) (tC h λc7_ h=>tU q bV Zj (c2 c7_ (Eq.refl l3.length)) (M3 (Le.trans (Vf 11 (show ∀ k_,k_<l3.length->AVleL ((λi_=>AV.eraseAll (λn_=>B4 n_ Zj) ((Fd (rx l3) i2.toNat 0 (yZ v9 i2 x6)) i_)) k_) ((λi=>Gu ((l3.set i2.toNat (⟨(FX v9 i2).Bits,(FX v9 i2).Dst,x6,(FX v9 i2).Args⟩:Bh)).getD i default)) k_) from(Bl (D0 ..).symm (λk_ hk_=>(Bn (AV.eraseAll (λn_=>B4 n_ Zj)) ((Hg (λ_ _=>rfl) (J1 c7_) rfl) k_ hk_)).trans rfl)))) (Vg (λ(k_:Nat) u=>(Cn u [(5,(.vsl 11 k_))] [(11,.arr 4 56 k_ (λi=>Gu ((l3.set i2.toNat (⟨(FX v9 i2).Bits,(FX v9 i2).Dst,x6,(FX v9 i2).Args⟩:Bh)).getD i default)))])) (show l3.length=(l3.set i2.toNat (⟨(FX v9 i2).Bits,(FX v9 i2).Dst,x6,(FX v9 i2).Args⟩:Bh)).length from(D0 ..).symm))) (Ae q bV Zj (tN h))))))) λh=>tS h (gO (A3 (A8 TZ Zj q))))) λx8 h=>gA (Ae q DH Zj (tB h λx10 y10 h=>tT q S4 [2,4,11,36] [(wh 36 x10 x10.length)] (c1 (Ut y10)) (Ae q [4] [4,11,36] (O8 (⟨[MC],[(4,.row 48 [(.vsl 11 x8.length),(bt v9.Ops),(Z6 v9.End.Kind),(Z6 v9.End.Arg),(HO x10 36)]),(11,.arr 4 56 x8.length (λi=>Gu (x8.getD i default))),(Ts 36 x10.length)],[]⟩:St) (tS h (gK (e:=.ret) (H7 [] (Le.trans (Gp (nm:=11) (sz:=4) (n:=x8.length) (e:=56) (f:=(λi=>Gu (x8.getD i default))) (g:=(λi=>Gu (x8.getD i default))) rfl ⟨rfl,trivial⟩ (λ_ _=>rfl) (by rw[hΓ];rfl)) (H8 (st':=⟨[MC],[(4,.row 48 [(yD x8 11),(bt v9.Ops),(Z6 v9.End.Kind),(Z6 v9.End.Arg),(HO x10 36)]),(11,.tok 4 56 x8.length),(Ts 36 x10.length)],[]⟩) (by kernel_rfl)))))))))))))
def G0(aM:Qk)(x4:OR)(x5:List Ab):(Int×List Ab)->Option (LR (Int×List Ab) (List Ab)):=
 λ((i9,l10):(Int×List Ab))=>(bif (decide (i9<(((x5.set (x4.2.2.1.Join).toNat (⟨x4.1,(x5.getD (x4.2.2.1.Join).toNat (default:Ab)).Ops,(⟨(x5.getD (x4.2.2.1.Join).toNat (default:Ab)).End.Kind,(x5.getD (x4.2.2.1.Join).toNat (default:Ab)).End.Arg,(x5.getD (x4.2.2.1.Join).toNat (default:Ab)).End.To⟩:Jo)⟩:Ab)).set (x4.2.2.1.At).toNat (⟨(aM.f.Blocks.getD (aM.h.At).toNat (default:Ab)).Phis,x4.2.2.2.1,(⟨(1:Int),(0:Int),([x4.2.2.1.Join]:Ao)⟩:Jo)⟩:Ab)).length:Int))) then(Option.bind (α:=List Ab) (Aw (As i9 ((x5.set (x4.2.2.1.Join).toNat (⟨x4.1,(x5.getD (x4.2.2.1.Join).toNat (default:Ab)).Ops,(⟨(x5.getD (x4.2.2.1.Join).toNat (default:Ab)).End.Kind,(x5.getD (x4.2.2.1.Join).toNat (default:Ab)).End.Arg,(x5.getD (x4.2.2.1.Join).toNat (default:Ab)).End.To⟩:Jo)⟩:Ab)).set (x4.2.2.1.At).toNat (⟨(aM.f.Blocks.getD (aM.h.At).toNat (default:Ab)).Phis,x4.2.2.2.1,(⟨(1:Int),(0:Int),([x4.2.2.1.Join]:Ao)⟩:Jo)⟩:Ab)).length) (bif (bif (i9 !=x4.2.2.1.Then) then(i9 !=x4.2.2.1.Else) else false) then((Qt (((x5.set (x4.2.2.1.Join).toNat (⟨x4.1,(x5.getD (x4.2.2.1.Join).toNat (default:Ab)).Ops,(⟨(x5.getD (x4.2.2.1.Join).toNat (default:Ab)).End.Kind,(x5.getD (x4.2.2.1.Join).toNat (default:Ab)).End.Arg,(x5.getD (x4.2.2.1.Join).toNat (default:Ab)).End.To⟩:Jo)⟩:Ab)).set (x4.2.2.1.At).toNat (⟨(aM.f.Blocks.getD (aM.h.At).toNat (default:Ab)).Phis,x4.2.2.2.1,(⟨(1:Int),(0:Int),([x4.2.2.1.Join]:Ao)⟩:Jo)⟩:Ab)).getD i9.toNat default) x4.2.2.1).bind λx14=>(Aw (l10.length+([(⟨x14.Phis,x14.Ops,(⟨x14.End.Kind,x14.End.Arg,x14.End.To⟩:Jo)⟩:Ab)]:List Ab).length<=room) (some (l10++([(⟨x14.Phis,x14.Ops,(⟨x14.End.Kind,x14.End.Arg,x14.End.To⟩:Jo)⟩:Ab)]:List Ab))))) else(some l10))) (λx16=>(some (.next ((w64 (i9+1)),x16))))) else(some (.done l10)))
def r9(x4:OR):AV:=(nh x4.2.2.1)
def ZH(x4:OR):AV:=(My x4.2.1.Params)
def sA(x5:List Ab):=(λi=>Be (x5.getD i default))
def HL(x5:List Ab)(x4:OR):=(x5.set (x4.2.2.1.Join).toNat (⟨x4.1,(x5.getD (x4.2.2.1.Join).toNat (default:Ab)).Ops,(⟨(x5.getD (x4.2.2.1.Join).toNat (default:Ab)).End.Kind,(x5.getD (x4.2.2.1.Join).toNat (default:Ab)).End.Arg,(x5.getD (x4.2.2.1.Join).toNat (default:Ab)).End.To⟩:Jo)⟩:Ab))
def Aa5(aM:Qk)(x4:OR):=(⟨(aM.f.Blocks.getD (aM.h.At).toNat (default:Ab)).Phis,x4.2.2.2.1,(⟨(1:Int),(0:Int),([x4.2.2.1.Join]:Ao)⟩:Jo)⟩:Ab)
def EQ(x5:List Ab)(x4:OR)(aM:Qk):=((HL x5 x4).set (x4.2.2.1.At).toNat (Aa5 aM x4))
def fI:List AV:=[UT,Lc,UT]
def nF(x14:Ab):=([(⟨x14.Phis,x14.Ops,(⟨x14.End.Kind,x14.End.Arg,x14.End.To⟩:Jo)⟩:Ab)]:List Ab)
def wA(x4:OR):List AV:=[(ZH x4),(Z6 x4.2.1.Ret),wd]
def rz(x4:OR):List AV:=[(ZH x4),(Z6 x4.2.1.Ret),(VD x4.2.1.Blocks),(Z6 x4.2.2.1.At),(Z6 x4.2.2.1.Then),(Z6 x4.2.2.1.Else),(Z6 x4.2.2.1.Join),(bt x4.2.2.2.1),(Z6 x4.2.2.2.2)]
def vv(x4:OR):List AV:=[(ZH x4),(Z6 x4.2.1.Ret),(VD x4.2.1.Blocks),(Z6 x4.2.2.1.At),(Z6 x4.2.2.1.Then),(Z6 x4.2.2.1.Else),(Z6 x4.2.2.1.Join),(jN x4.2.2.2.1 25),(Z6 x4.2.2.2.2)]
def ry(aM:Qk):List AV:=[(AV.list 4 Gu default (aM.f.Blocks.getD (aM.h.At).toNat (default:Ab)).Phis .none),(AV.list 6 Kf default (aM.f.Blocks.getD (aM.h.At).toNat (default:Ab)).Ops .none),(.int .i64 (aM.f.Blocks.getD (aM.h.At).toNat (default:Ab)).End.Kind),(.int .i64 (aM.f.Blocks.getD (aM.h.At).toNat (default:Ab)).End.Arg),(AV.list 1 An 0 (aM.f.Blocks.getD (aM.h.At).toNat (default:Ab)).End.To .none)]
def ya(x4:OR)(x5:List Ab)(aM:Qk):=(⟨[(0,Wt),Ob,JW,(7,(r9 x4)),(90,(.vsl 43 (EQ x5 x4 aM).length)),(91,(.int .i64 ((EQ x5 x4 aM).length:Int))),(92,Lc)],[(L9 25 fI),(6,.row 25 [(ZH x4),(Z6 x4.2.1.Ret),(AV.list 5 Be default ([]:List Ab) (.own 5602))]),(43,.arr 5 48 ((EQ x5 x4 aM).length) (λi=>Be ((EQ x5 x4 aM).getD i default))),(5602,.tok 5 48 (([]:List Ab).length)),(30000,.row 71 (rz x4))],[]⟩:St)
def Jc(aM:Qk):Option (TFunc×Qk):=
 (Aw (As aM.h.At aM.f.Blocks.length) ((Fc ((aM.f.Blocks.getD (aM.h.At).toNat (default:Ab)).Ops)).bind λx2=>((Hv ((aM.f.Blocks.getD (aM.h.At).toNat (default:Ab)).End.Arg) (⟨aM.f.Params,aM.f.Ret,aM.f.Blocks⟩:TFunc) (⟨aM.h.At,aM.h.Then,aM.h.Else,aM.h.Join⟩:THammock) x2 aM.last).bind λx3=>((Lq ((aM.f.Blocks.getD (aM.h.At).toNat (default:Ab)).End.Arg) x3.1 x3.2.1 x3.2.2.1 x3.2.2.2).bind λx4=>((Cw x4.2.1.Blocks).bind λx5=>(Aw (As x4.2.2.1.Join x5.length) (Aw (As x4.2.2.1.At (x5.set (x4.2.2.1.Join).toNat (⟨x4.1,(x5.getD (x4.2.2.1.Join).toNat (default:Ab)).Ops,(⟨(x5.getD (x4.2.2.1.Join).toNat (default:Ab)).End.Kind,(x5.getD (x4.2.2.1.Join).toNat (default:Ab)).End.Arg,(x5.getD (x4.2.2.1.Join).toNat (default:Ab)).End.To⟩:Jo)⟩:Ab)).length) ((S9 x4.2.2.1).bind λx8=>((Ad (G0 aM x4 x5) ((0:Int),([]:List Ab))).bind (λx18=>(some ((⟨x4.2.1.Params,x4.2.1.Ret,x18⟩:TFunc),(⟨x4.2.1,x4.2.2.1,x4.2.2.2.1,x4.2.2.2.2⟩:Qk)))))))))))))
variable{v49:Qk}{v50:(TFunc×Qk)}
theorem W8(h:Jc v49=some v50):sP 27 [Wt] (wc v49.f.Params v49.f.Ret v49.f.Blocks v49.h.At v49.h.Then v49.h.Else v49.h.Join v49.ops v49.last) (Y1 v50.1) (wc v50.2.f.Params v50.2.f.Ret v50.2.f.Blocks v50.2.h.At v50.2.h.Then v50.2.h.Else v50.2.h.Join v50.2.ops v50.2.last):=
 sG Tryz.func27 λΓ q=>Ae q [0,2] [2,30000] (tV q HE [2,3,30000] h λh=>tB h λx2 y2 h=>tT q HE [2,3,25,30000] [⟨[],[(20000,25)],(jN x2 20000),[(OA 20000 x2.length)],[],[]⟩] (c1 (Sz y2)) (tB h λx3 y3 h=>tT q HE [2,3,25,30000] [⟨qu,[],(.tuple []),(OT x3.1.Params x3.1.Ret x3.1.Blocks x3.2.1.At x3.2.1.Then x3.2.1.Else x3.2.1.Join x3.2.2.1 x3.2.2.2 x3.2.2.1.length),[],[]⟩] (c1 (Vh y3)) (tB h λx4 y4 h=>tT q [0,2,3,4] [2,3,25,37,30000] [⟨qu,[(20000,37)],(yD x4.1 20000),[(30000,.row 71 [(ZH x4),(Z6 x4.2.1.Ret),(VD x4.2.1.Blocks),(Z6 x4.2.2.1.At),(Z6 x4.2.2.1.Then),(Z6 x4.2.2.1.Else),(Z6 x4.2.2.1.Join),(jN x4.2.2.2.1 37007),(Z6 x4.2.2.2.2)]),(OA 37007 x4.2.2.2.1.length),(20000,.tok 4 56 x4.1.length)],[],[]⟩] (c1 (BV y4)) (tB h λx5 y5 h=>tT q [0,2,3,4,5] [2,3,25,37,43,30000] [⟨[],[(20000,43)],(.vsl 20000 x5.length),[(20000,.arr 5 48 x5.length (sA x5))],[],[]⟩] (c1 (N5 y5)) (O8 (⟨[(0,Wt),Ob,JX,(4,(yD x4.1 37)),(5,(.vsl 43 x5.length))],[(L9 25 fI),(3,.row 48 (ry v49)),(OA 25 x4.2.2.2.1.length),(37,.tok 4 56 x4.1.length),(43,.arr 5 48 x5.length (sA x5)),(30000,.row 71 (vv x4))],[]⟩:St) (M3 (show Le Γ _ (⟨[(0,Wt),Ob,JX,(4,(wk x4.1)),(5,(.vsl 43 x5.length))],[(L9 25 fI),(3,.row 48 (ry v49)),(OA 25 x4.2.2.2.1.length),(43,.arr 5 48 x5.length (sA x5)),(30000,.row 71 (vv x4))],[]⟩:St) from A8 [0,2,3,4,5] bZ q) (tC h λc6_ h=>tU q [0,2,3,5] bZ (c2 c6_ (Eq.refl x5.length)) (M3 (Le.trans (Vf 43 (show ∀ k_,k_<x5.length->AVleL ((λi_=>AV.eraseAll (λn_=>B4 n_ bZ) ((Fd (sA x5) (x4.2.2.1.Join).toNat 0 [(wk x4.1)]) i_)) k_) ((λi=>Be ((HL x5 x4).getD i default)) k_) from(Bl (D0 ..).symm (λk_ hk_=>(Bn (AV.eraseAll (λn_=>B4 n_ bZ)) ((Hg (λ_ _=>rfl) (J1 c6_) rfl) k_ hk_)).trans rfl)))) (Vg (λ(k_:Nat) u=>(Cn u [(5,(.vsl 43 k_))] [(43,.arr 5 48 k_ (λi=>Be ((HL x5 x4).getD i default)))])) (show x5.length=(HL x5 x4).length from(D0 ..).symm))) (O8 (⟨[(0,Wt),Ob,JX,(5,(.vsl 43 (HL x5 x4).length))],[(L9 25 fI),(3,.row 48 (ry v49)),(OA 25 x4.2.2.2.1.length),(43,.arr 5 48 ((HL x5 x4).length) (λi=>Be ((HL x5 x4).getD i default))),(30000,.row 71 (vv x4))],[]⟩:St) (M3 (show Le Γ _ (⟨[(0,Wt),Ob,JX,(5,(.vsl 43 (HL x5 x4).length))],[(L9 25 fI),(3,.row 48 (ry v49)),(43,.arr 5 48 ((HL x5 x4).length) (λi=>Be ((HL x5 x4).getD i default))),(30000,.row 71 (rz x4))],[]⟩:St) from A8 [0,2,3,5] [2,3,43,30000] q) (tC h λc7_ h=>gR q [0,2,5] jE [(70,(AV.list 1 An 0 ([x4.2.2.1.Join]:Ao) .none))] [] (c3 (show(AVle (wb x4.2.2.1.Join) (AV.list 1 An 0 ([x4.2.2.1.Join]:Ao) .none)) from(λ_ _ _ _ _ hh=>AVle.untag _ _ _ _ _ ((Az 1 An (0:Int) ([x4.2.2.1.Join]:Ao)) _ _ _ _ _ hh))) c7_ (Eq.refl ((HL x5 x4).length))) (M3 (Le.trans (Vf 43 (show ∀ k_,k_<((HL x5 x4).length)->AVleL ((λi_=>AV.eraseAll (λn_=>B4 n_ jE) ((Fd (λi=>Be ((HL x5 x4).getD i default)) (x4.2.2.1.At).toNat 0 [(AV.list 4 Gu default (v49.f.Blocks.getD (v49.h.At).toNat (default:Ab)).Phis .none),(bt x4.2.2.2.1),mn,Lc,(AV.list 1 An 0 ([x4.2.2.1.Join]:Ao) .none)]) i_)) k_) ((λi=>Be ((EQ x5 x4 v49).getD i default)) k_) from(Bl (D0 ..).symm (λk_ hk_=>(Bn (AV.eraseAll (λn_=>B4 n_ jE)) ((Hg (λ_ _=>rfl) (J1 c7_) rfl) k_ hk_)).trans rfl)))) (Vg (λ(k_:Nat) u=>(Cn u [(5,(.vsl 43 k_))] [(43,.arr 5 48 k_ (λi=>Be ((EQ x5 x4 v49).getD i default)))])) (show(HL x5 x4).length=(EQ x5 x4 v49).length from(D0 ..).symm))) (gR q [0,2,5,6] be [(84,(.agg (wA x4)))] [] (c1 (show(AVle (.agg [(ZH x4),(Z6 x4.2.1.Ret),UT]) (.agg (wA x4))) from(AVle.agg (.cons (AVle.refl _) (.cons (AVle.refl _) (.cons Dv .nil)))))) (tB h λx8 y8 h=>tT q [0,2,5,6,7] be [⟨[],[],(r9 x4),[],[],[]⟩] (c1 (KZ y8)) (Ae q UM be (M3 (st':=(ya x4 x5 v49)) (Le.trans (A8 (st':=⟨[(0,Wt),Ob,JW,(7,(r9 x4)),(90,(.vsl 43 (EQ x5 x4 v49).length)),(91,(.int .i64 ((EQ x5 x4 v49).length:Int))),(92,Lc)],[(L9 25 fI),(6,.row 25 (wA x4)),(43,.arr 5 48 ((EQ x5 x4 v49).length) (λi=>Be ((EQ x5 x4 v49).getD i default))),(30000,.row 71 (rz x4))],[]⟩) UM be q) (Le.trans (MQ (r:=6) (j:=2) (nm:=5602) (sz':=5) (λi=>Be (([]:List Ab).getD i default)) 48 rfl rfl (nl rfl) rfl (.inl ⟨rfl,rfl⟩) (λh_=>absurd h_ (by decide))) (A8 (st':=(ya x4 x5 v49)) UM YV q))) (tL q h UM YV (λu (i9,l10)=>(Cn u [(92,(Z6 i9))] [(we (ZH x4) x4.2.1.Ret l10),(M2 5602 48 l10.length)])) (λu l11=>aG Γ (.exit 0) (Ng [2,6] [2,6,5602,30000] u [] [(we (ZH x4) x4.2.1.Ret l11),(M2 5602 48 l11.length)])) (λ⟨i9,l10⟩ y h=>Ae q [0,2,6,7,90,91,92,93] YV (gC h (λh=>tB h λx16 y16 h=>gJ y16 (λl12=>aG Γ .normal (⟨[(0,Wt),Ob,JW,(7,(r9 x4)),(90,(.vsl 43 (EQ x5 x4 v49).length)),(91,(.int .i64 ((EQ x5 x4 v49).length:Int))),(92,(Z6 i9))],[(L9 25 fI),(we (ZH x4) x4.2.1.Ret l12),(43,.arr 5 48 ((EQ x5 x4 v49).length) (λi=>Be ((EQ x5 x4 v49).getD i default))),(M2 5602 48 l12.length),(30000,.row 71 (rz x4))],[]⟩:St)) (λy h=>tC h λc13_ h=>tU q [0,2,6,7,8,9,90,91,92] rB (c2 c13_ (Eq.refl ((EQ x5 x4 v49).length))) (tU q [0,2,6,7,9,90,91,92,112] rB (gI6 ((i9 !=x4.2.2.1.Then)==true) (c1 (Na (i9 !=x4.2.2.1.Then)))) (gC h (λh=>tB h λx14 y14 h=>tC h λc15_ h=>gR q UM YV [(118,(AV.list 5 Be default (nF x14) .exact)),(119,(AV.list 5 Be default (l10++(nF x14)) (.own 5602)))] [⟨[],[],(.agg (Be x14)),[],[],[]⟩] (c6 (OK y14) (Az 5 Be (default:Ab) (nF x14)) (Eq.refl l10.length) c15_ (Cv 5 5602 Be (default:Ab) l10 (nF x14)) (Bs l10 (nF x14))) (tS h (gK (A3 Gv)))) λh=>tS h (gK (A3 (A8 UM YV q)))))) (gA (Ae q UM YV (tN h)))) λh=>tS h (gO (A3 (A8 [2,6] [2,6,5602,30000] q))))) λx18 h=>gA (Ae q [2] [2,5602,30000] (tS h (Bq [(30000,30000)]))))))))))))))))))))
def nG:List AV:=[UT,Lc,UT]
def cA:List AV:=[jM,Lc,wd]
def yb:List OQ:=[(4,.row 25 [(AV.list 1 An 0 ([]:Ao) .none),Lc,(AV.list 5 Be default ([]:List Ab) .none)])]
def sB(a0:TFunc)(aE:THammock)(x2:Int):List AV:=[(My a0.Params),(Z6 a0.Ret),(VD a0.Blocks),(Z6 aE.At),(Z6 aE.Then),(Z6 aE.Else),(Z6 aE.Join),vO,(Z6 x2)]
abbrev CU:=(TFunc×Int)
def H1(a0:TFunc)(aE:THammock):Option CU:=
 ((Od a0 aE).bind λx1=>(bif (!x1) then(some ((⟨([]:Ao),(0:Int),([]:List Ab)⟩:TFunc),(10:Int))) else((Tu a0).bind λx2=>((Jc (⟨a0,aE,([]:List A2),x2⟩:Qk)).bind λx3=>((bif ((decide ((1023:Int)<x3.2.last))==false) then Ui x3.1 else some false).bind λx4=>(bif (bif (decide ((1023:Int)<x3.2.last)) then true else(!x4)) then(some ((⟨([]:Ao),(0:Int),([]:List Ab)⟩:TFunc),(4:Int))) else(some (x3.1,(0:Int)))))))))
variable{v51:CU}
theorem Mt(h:H1 v0 v37=some v51):sP 9 [(Y1 v0),(e9 v37)] [] (.tuple [(Y1 v51.1),(Z6 v51.2)]) []:=
 sG Tryz.func9 λΓ q=>Ae q [2,3,4] [2,3,4] (tB h λx1 y1 h=>tT q [2,3,4,11] [2,3,4] [(Z7 x1)] (c1 (IL y1)) (gC h (λh=>gR q P0 [4] [(12,(.agg cA))] [] (c1 (show(AVle (.agg nG) (.agg cA)) from(AVle.agg (.cons Dv (.cons (AVle.refl _) (.cons Dv .nil)))))) (O8 (⟨[MC,(5,(JT 10))],[(4,.row 25 cA)],[]⟩:St) (tS h (gK (e:=.ret) (H7 [] (show Le Γ _ (⟨[MC,(5,(JT 10))],yb,[]⟩:St) from Le.trans (A8 (st':=⟨[MC,(5,(JT 10))],[(4,.row 25 cA)],[]⟩) P0 [4] q) (Gw (.cons (AVle.refl _) (.cons (AVle.refl _) .nil)) (.row (.cons AVle.untag (.cons (AVle.refl _) (.cons AVle.untag .nil))) .nil)))))))) λh=>tB h λx2 y2 h=>gR q Vc [4,18] [(17,(.agg (sB v0 v37 x2)))] [(JS x2)] (c2 (VU y2) (show(AVle (.agg [(My v0.Params),(Z6 v0.Ret),(VD v0.Blocks),(Z6 v37.At),(Z6 v37.Then),(Z6 v37.Else),(Z6 v37.Join),UT,(Z6 x2)]) (.agg (sB v0 v37 x2))) from(AVle.agg (.cons (AVle.refl _) (.cons (AVle.refl _) (.cons (AVle.refl _) (.cons (AVle.refl _) (.cons (AVle.refl _) (.cons (AVle.refl _) (.cons (AVle.refl _) (.cons Dv (.cons (AVle.refl _) .nil)))))))))))) (O8 (⟨[MC,(6,(.ptr 18 0))],[(4,.row 25 nG),(18,.row 71 (sB v0 v37 x2))],[]⟩:St) (M3 (show Le Γ _ (⟨[MC,(6,(.ptr 18 0))],[(4,.row 25 nG),(18,.row 71 [(My v0.Params),(Z6 v0.Ret),(VD v0.Blocks),(Z6 v37.At),(Z6 v37.Then),(Z6 v37.Else),(Z6 v37.Join),(AV.list 6 Kf default ([]:List A2) .none),(Z6 x2)])],[]⟩:St) from Le.trans (A8 (st':=⟨[MC,(6,(.ptr 18 0))],[(4,.row 25 nG),(18,.row 71 (sB v0 v37 x2))],[]⟩) Vc [4,18] q) (Gw (.cons (AVle.refl _) (.cons (AVle.refl _) .nil)) (.same (.row (.cons (AVle.refl _) (.cons (AVle.refl _) (.cons (AVle.refl _) (.cons (AVle.refl _) (.cons (AVle.refl _) (.cons (AVle.refl _) (.cons (AVle.refl _) (.cons AVle.untag (.cons (AVle.refl _) .nil))))))))) .nil)))) (tB h λx3 y3 h=>tT q [4,6,7] [4,7,18] [⟨[(18,30000)],[],(Y1 x3.1),(wc x3.2.f.Params x3.2.f.Ret x3.2.f.Blocks x3.2.h.At x3.2.h.Then x3.2.h.Else x3.2.h.Join x3.2.ops x3.2.last),[],[]⟩] (c1 (W8 y3)) (tB h λx4 y4 h=>tT q [4,7,30] [4,7] [(Z7 x4)] (c4 (gI ((decide ((1023:Int)<x3.2.last))==false)) (λ(hg:((decide ((1023:Int)<x3.2.last))==false)=true)=>(MU (Ba hg y4))) (gI ((decide ((1023:Int)<x3.2.last))==false)) (I9 (decide ((1023:Int)<x3.2.last)))) (gC h (λh=>gR q P0 [4] [(31,(.agg cA))] [] (c1 (show(AVle (.agg nG) (.agg cA)) from(AVle.agg (.cons Dv (.cons (AVle.refl _) (.cons Dv .nil)))))) (O8 (⟨[MC,(5,sy)],[(4,.row 25 cA)],[]⟩:St) (tS h (gK (e:=.ret) (H7 [] (show Le Γ _ (⟨[MC,(5,sy)],yb,[]⟩:St) from Le.trans (A8 (st':=⟨[MC,(5,sy)],[(4,.row 25 cA)],[]⟩) P0 [4] q) (Gw (.cons (AVle.refl _) (.cons (AVle.refl _) .nil)) (.row (.cons AVle.untag (.cons (AVle.refl _) (.cons AVle.untag .nil))) .nil)))))))) λh=>Ae q P0 [4] (tS h (Bq [])))))))))
def Ul(a0:TFunc)(aE:THammock):Option Int:=
 ((Ks a0 aE).bind λx1=>(some (x1.1.length:Int)))
theorem Y9(h:Ul v0 v37=some v1):sP 40 [(Y1 v0),(e9 v37)] [] (.int .i64 v1) []:=
 sG Tryz.func40 λΓ q=>Ae q Cc Cc (tB h λx1 y1 h=>tT q [5] [10] [⟨[],bo,(.tuple [(jN x1.1 20000),(.bool x1.2)]),[(OA 20000 x1.1.length)],[],[]⟩] (c1 (Ur y1)) (Ae q [4] [] (tS h (Bq []))))
abbrev Aaz:=(LR Int (Unit ⊕ (Ao×Int×List Ab)))
abbrev Aa0:=((Ao×Int×List Ab) ⊕ Unit)
def OD(a0:TFunc)(aaC:Int)(x4:List THammock):Int->Option Aaz:=
 λ(i5:Int)=>(bif (decide (i5<(x4.length:Int))) then(Option.bind (α:=Aa0) (Aw (As i5 x4.length) ((Ul a0 (x4.getD i5.toNat default)).bind λx13=>(bif (decide (aaC<x13)) then(some (.inr ())) else((H1 a0 (x4.getD i5.toNat default)).bind λx14=>(bif (x14.2==0) then(some (.inl (x14.1.Params,x14.1.Ret,x14.1.Blocks))) else(some (.inr ()))))))) (λx15=>(match x15 with|(.inl (l9,i10,l11))=>(some (.done (.inr (l9,i10,l11))))|(.inr _)=>(some (.next (w64 (i5+1))))))) else(some (.done (.inl ()))))
def OE(aaC:Int)(l1:Ao)(i2:Int)(l3:List Ab)(x21:List THammock):Int->Option Aaz:=
 λ(i22:Int)=>(bif (decide (i22<(x21.length:Int))) then(Option.bind (α:=Aa0) (Aw (As i22 x21.length) ((Ul (⟨l1,i2,l3⟩:TFunc) (x21.getD i22.toNat default)).bind λx30=>(bif (decide (aaC<x30)) then(some (.inr ())) else((H1 (⟨l1,i2,l3⟩:TFunc) (x21.getD i22.toNat default)).bind λx31=>(bif (x31.2==0) then(some (.inl (x31.1.Params,x31.1.Ret,x31.1.Blocks))) else(some (.inr ()))))))) (λx32=>(match x32 with|(.inl (l26,i27,l28))=>(some (.done (.inr (l26,i27,l28))))|(.inr _)=>(some (.next (w64 (i22+1))))))) else(some (.done (.inl ()))))
abbrev qm:=(Ao×Int×List Ab)
def OC(aaC:Int):qm->Option (LR (Ao×Int×List Ab) TFunc):=
 λ(s_:qm)=>match s_ with|(l1,i2,l3)=>((Li (⟨l1,i2,l3⟩:TFunc)).bind λx21=>((Ad (OE aaC l1 i2 l3 x21) (0:Int)).bind (λx35=>(match x35 with|(.inl _)=>(some (.done (⟨l1,i2,l3⟩:TFunc)))|(.inr (l23,i24,l25))=>(some (.next (l23,i24,l25)))))))
def ZD(Γ:H6)(a0:TFunc)(aaC:Int)(r:TFunc):Exit->St->Prop:=fK Tryz.prog Γ Tryz.f12.results.toList [] (Y1 r) []
def nH:List AV:=[UT,Lc,UT]
def X5(a0:TFunc)(aaC:Int):Option TFunc:=
 ((Tc (S:=qm) (X:=TFunc) ((Li a0).bind λx4=>((Ad (OD a0 aaC x4) (0:Int)).bind (λx18=>(match x18 with|(.inl _)=>(some (.done a0))|(.inr (l6,i7,l8))=>(some (.next (l6,i7,l8))))))) (OC aaC)).bind (λx38=>(some x38)))
variable{v52:TFunc}
theorem FE(h:X5 v0 v1=some v52):sP 12 [(Y1 v0),(Z6 v1)] [] (Y1 v52) []:=
 sG Tryz.func12 λΓ q=>Ae q DH S4 (tB h λx38 y38 h=>gS y38 (λ(s_:qm)=>match s_ with|(l1,i2,l3)=>0) (λ(s_:qm)=>match s_ with|(l1,i2,l3)=>(⟨[(1,(Z6 v1)),Ob,MC],[(2,.row 25 (Z5 l1 i2 l3)),(4,.row 25 nH)],[]⟩:St)) (λr_=>aR (ZD Γ v0 v1 r_)) (λy h=>tB h λx4 y4 h=>tT q FS Zk [⟨[],bo,(rQ x4 20000),[(20000,.tok 4 27 x4.length)],[],[]⟩] (c1 (Uq y4)) (tL q h FS Zk (λu i5=>(Cn u [(12,(Z6 i5))] [])) (λu x_=>match x_ with|(.inl _)=>aG Γ (.exit 0) (Ng S4 S4 u [] [])|(.inr (l6,i7,l8))=>aG Γ (.goto 0) (Ng DH S4 u [] [(2,.row 25 (Z5 l6 i7 l8))])) (λi5 y h=>Ae q rC Zk (gC h (λh=>tB h λx15 y15 h=>gJ y15 (λx_=>match x_ with|(.inl (l9,i10,l11))=>aG Γ (.goto 0) (⟨[(1,(Z6 v1)),Ob,MC],[(2,.row 25 (Z5 l9 i10 l11)),(4,.row 25 nH)],[]⟩:St)|(.inr _)=>aG Γ .normal (⟨[(1,(Z6 v1)),Ob,MC,(10,(rQ x4 10)),(11,(JT x4.length)),(12,(Z6 i5))],[(2,.row 25 (Z5 v0.Params v0.Ret v0.Blocks)),(4,.row 25 nH),(10,.tok 4 27 x4.length)],[]⟩:St)) (λy h=>tV q [1,2,4,6,10,11,12] bp h λh=>tB h λx13 y13 h=>tT q qw bp [(JS x13)] (c1 (Y9 y13)) (gC h (λh=>tS h (gK (A3 (A8 FS Zk q)))) λh=>tB h λx14 y14 h=>tT q q8 bq [(zR x14.1 x14.2)] (c1 (Mt y14)) (Ae q qx bq (gC h (λh=>Ae q DH S4 (tS h (gK (A3 Gv)))) λh=>tS h (gK (A3 (A8 FS Zk q))))))) (match x15,h with | .inl ⟨l9,i10,l11⟩,h=>mq (λst' hl16=>tS h (gO (A3 (Le.trans hl16 Gv)))) | .inr _,h=>gA (Ae q FS Zk (tN h)))) λh=>tS h (gO (A3 (A8 S4 S4 q))))) λx18 h=>(match x18,h with | .inl _,h=>gA (Ae q [4] [4] (tS h (mr (Mp (H7 [] (Le.refl _ _)))))) | .inr ⟨l6,i7,l8⟩,h=>mq (λst' hl20=>tS h (oz (Le.trans hl20 Gv)))))) (λ⟨l1,i2,l3⟩ y h=>tB h λx21 y21 h=>tT q FS Zk [⟨[],bo,(rQ x21 20000),[(20000,.tok 4 27 x21.length)],[],[]⟩] (c1 (Uq y21)) (tL q h FS Zk (λu i22=>(Cn u [(12,(Z6 i22))] [])) (λu x_=>match x_ with|(.inl _)=>aG Γ (.exit 0) (Ng S4 S4 u [] [])|(.inr (l23,i24,l25))=>aG Γ (.goto 0) (Ng DH S4 u [] [(2,.row 25 (Z5 l23 i24 l25))])) (λi22 y h=>Ae q rC Zk (gC h (λh=>tB h λx32 y32 h=>gJ y32 (λx_=>match x_ with|(.inl (l26,i27,l28))=>aG Γ (.goto 0) (⟨[(1,(Z6 v1)),Ob,MC],[(2,.row 25 (Z5 l26 i27 l28)),(4,.row 25 nH)],[]⟩:St)|(.inr _)=>aG Γ .normal (⟨[(1,(Z6 v1)),Ob,MC,(10,(rQ x21 10)),(11,(JT x21.length)),(12,(Z6 i22))],[(2,.row 25 (Z5 l1 i2 l3)),(4,.row 25 nH),(10,.tok 4 27 x21.length)],[]⟩:St)) (λy h=>tV q [1,2,4,6,10,11,12] bp h λh=>tB h λx30 y30 h=>tT q qw bp [(JS x30)] (c1 (Y9 y30)) (gC h (λh=>tS h (gK (A3 (A8 FS Zk q)))) λh=>tB h λx31 y31 h=>tT q q8 bq [(zR x31.1 x31.2)] (c1 (Mt y31)) (Ae q qx bq (gC h (λh=>Ae q DH S4 (tS h (gK (A3 Gv)))) λh=>tS h (gK (A3 (A8 FS Zk q))))))) (match x32,h with | .inl ⟨l26,i27,l28⟩,h=>mq (λst' hl33=>tS h (gO (A3 (Le.trans hl33 Gv)))) | .inr _,h=>gA (Ae q FS Zk (tN h)))) λh=>tS h (gO (A3 (A8 S4 S4 q))))) λx35 h=>(match x35,h with | .inl _,h=>gA (Ae q [4] [4] (tS h (mr (Mp (H7 [] (Le.refl _ _)))))) | .inr ⟨l23,i24,l25⟩,h=>mq (λst' hl37=>tS h (oz (Le.trans hl37 Gv)))))) (gAr (λst' hk=>tS h (gK hk))))
def Fu(aN:Ao)(aP:Ao):Int->Option (LR Int (Unit ⊕ Bool)):=
 λ(i1:Int)=>(bif (decide (i1<(aN.length:Int))) then(Aw (As i1 aN.length) (Aw (As i1 aP.length) (bif ((aN.getD i1.toNat 0)!=(aP.getD i1.toNat 0)) then(some (.done (.inr false))) else(some (.next (w64 (i1+1))))))) else(some (.done (.inl ()))))
def AN(Γ:H6)(aN:Ao)(aP:Ao)(r:Bool):Exit->St->Prop:=fK Tryz.prog Γ Tryz.f23.results.toList [] (.bool r) []
def Ck(aN:Ao)(aP:Ao):Option Bool:=
 (bif ((aN.length:Int)!=(aP.length:Int)) then(some false) else((Ad (Fu aN aP) (0:Int)).bind (λx4=>(match x4 with|(.inl _)=>(some true)|(.inr r6)=>(some r6)))))
variable{v3:Bool}
theorem Hd(h:Ck v2 v17=some v3):sP 23 [(My v2),(My v17)] [] (.bool v3) []:=
 sG Tryz.func23 λΓ q=>tW q Fg [] DC [] (gC h (λh=>Ae q [4] [] (tS h (Bq []))) λh=>Ae q Ph [] (tL q h Ph [] (λu i1=>(Cn u [(5,(Z6 i1))] [])) (λu x_=>match x_ with|(.inl _)=>aG Γ (.exit 0) (⟨[],[],[]⟩:St)|(.inr r_)=>aR (AN Γ v2 v17 r_)) (λi1 y h=>Ae q [0,1,5,14] [] (gC h (λh=>tC h λc2_ h=>tC h λc3_ h=>tU q [0,1,5,25] [] (c2 c2_ c3_) (gC h (λh=>Ae q [4] [] (tS h (gO (Mp (H7 [] (Le.refl _ _)))))) λh=>Ae q Ph [] (tN h))) λh=>tS h (gO (A3 (A8 [] [] q))))) λx4 h=>(match x4,h with | .inl _,h=>gA (Ae q [4] [] (tS h (Bq []))) | .inr r6,h=>gAr (λst' hk=>tS h (gK hk)))))
def fJ(x2:CU):=(bif (((((x2.1.Blocks.getD (0:Int).toNat (default:Ab)).Ops).getD (2:Int).toNat (default:A2)).Kind:Int)==13) then(((((x2.1.Blocks.getD (0:Int).toNat (default:Ab)).Ops).getD (2:Int).toNat (default:A2)).Dst:Int)==5) else false)
def kl(x2:CU)(x12:Bool):=((bif (fJ x2) then x12 else false)==true)
def yd(x7:TFunc):=((x7.Blocks.length:Int)!=2)
def wB:=([(1:Int),(2:Int),(3:Int)]:Ao)
def fL(x2:CU)(x4:CU):=(bif (bif (bif (x2.2 !=0) then true else(x4.2 !=10)) then true else((x2.1.Blocks.length:Int)!=2)) then true else((((x2.1.Blocks.getD (0:Int).toNat (default:Ab)).Ops).length:Int)!=3))
def sC(x2:CU)(x4:CU)(x7:TFunc):=((bif (fL x2 x4) then true else(yd x7))==false)
def Aa6(x2:CU)(x4:CU):=((bif (x2.2 !=0) then true else(x4.2 !=10))==false)
def Aa7(x2:CU):=((((((x2.1.Blocks.getD (0:Int).toNat (default:Ab)).Ops).getD (2:Int).toNat (default:A2)).Kind:Int)==13)==true)
def yc(x2:CU)(x4:CU):=((bif (bif (x2.2 !=0) then true else(x4.2 !=10)) then true else((x2.1.Blocks.length:Int)!=2))==false)
def m_locksteplaw15_awake :Option Bool:=
 (m_locksteplaw15_diamond.bind λx1=>((H1 x1 (⟨(0:Int),(1:Int),(2:Int),(3:Int)⟩:THammock)).bind λx2=>(m_locksteplaw15_diamond.bind λx3=>((H1 x3 (⟨(0:Int),(0:Int),(0:Int),(0:Int)⟩:THammock)).bind λx4=>(Aw (((bif (bif (x2.2 !=0) then true else(x4.2 !=10)) then true else((x2.1.Blocks.length:Int)!=2))==false)=true->(As (0:Int) x2.1.Blocks.length)) ((bif ((bif (bif (bif (x2.2 !=0) then true else(x4.2 !=10)) then true else((x2.1.Blocks.length:Int)!=2)) then true else((((x2.1.Blocks.getD (0:Int).toNat (default:Ab)).Ops).length:Int)!=3))==false) then m_locksteplaw15_diamond else some (default:TFunc)).bind λx6=>((bif ((bif (bif (bif (x2.2 !=0) then true else(x4.2 !=10)) then true else((x2.1.Blocks.length:Int)!=2)) then true else((((x2.1.Blocks.getD (0:Int).toNat (default:Ab)).Ops).length:Int)!=3))==false) then X5 x6 (2:Int) else some (default:TFunc)).bind λx7=>((bif ((bif (bif (bif (bif (x2.2 !=0) then true else(x4.2 !=10)) then true else((x2.1.Blocks.length:Int)!=2)) then true else((((x2.1.Blocks.getD (0:Int).toNat (default:Ab)).Ops).length:Int)!=3)) then true else((x7.Blocks.length:Int)!=2))==false) then m_locksteplaw15_diamond else some (default:TFunc)).bind λx8=>((bif ((bif (bif (bif (bif (x2.2 !=0) then true else(x4.2 !=10)) then true else((x2.1.Blocks.length:Int)!=2)) then true else((((x2.1.Blocks.getD (0:Int).toNat (default:Ab)).Ops).length:Int)!=3)) then true else((x7.Blocks.length:Int)!=2))==false) then X5 x8 (1:Int) else some (default:TFunc)).bind λx9=>(bif (bif (bif (bif (bif (bif (x2.2 !=0) then true else(x4.2 !=10)) then true else((x2.1.Blocks.length:Int)!=2)) then true else((((x2.1.Blocks.getD (0:Int).toNat (default:Ab)).Ops).length:Int)!=3)) then true else((x7.Blocks.length:Int)!=2)) then true else((x9.Blocks.length:Int)!=4)) then(some false) else(Aw (As (0:Int) x2.1.Blocks.length) (Aw (As (2:Int) ((x2.1.Blocks.getD (0:Int).toNat (default:Ab)).Ops).length) ((bif ((bif (((((x2.1.Blocks.getD (0:Int).toNat (default:Ab)).Ops).getD (2:Int).toNat (default:A2)).Kind:Int)==13) then(((((x2.1.Blocks.getD (0:Int).toNat (default:Ab)).Ops).getD (2:Int).toNat (default:A2)).Dst:Int)==5) else false)==true) then Ck ((((x2.1.Blocks.getD (0:Int).toNat (default:Ab)).Ops).getD (2:Int).toNat (default:A2)).Args) ([(1:Int),(2:Int),(3:Int)]:Ao) else some false).bind λx12=>(Aw (((bif (bif (((((x2.1.Blocks.getD (0:Int).toNat (default:Ab)).Ops).getD (2:Int).toNat (default:A2)).Kind:Int)==13) then(((((x2.1.Blocks.getD (0:Int).toNat (default:Ab)).Ops).getD (2:Int).toNat (default:A2)).Dst:Int)==5) else false) then x12 else false)==true)=true->(As (1:Int) x2.1.Blocks.length)) (Aw (((bif (bif (((((x2.1.Blocks.getD (0:Int).toNat (default:Ab)).Ops).getD (2:Int).toNat (default:A2)).Kind:Int)==13) then(((((x2.1.Blocks.getD (0:Int).toNat (default:Ab)).Ops).getD (2:Int).toNat (default:A2)).Dst:Int)==5) else false) then x12 else false)==true)=true->(As (0:Int) ((x2.1.Blocks.getD (1:Int).toNat (default:Ab)).Phis).length)) ((bif ((bif (bif (((((x2.1.Blocks.getD (0:Int).toNat (default:Ab)).Ops).getD (2:Int).toNat (default:A2)).Kind:Int)==13) then(((((x2.1.Blocks.getD (0:Int).toNat (default:Ab)).Ops).getD (2:Int).toNat (default:A2)).Dst:Int)==5) else false) then x12 else false)==true) then Ck ((((x2.1.Blocks.getD (1:Int).toNat (default:Ab)).Phis).getD (0:Int).toNat (default:Bh)).From) ([(0:Int)]:Ao) else some false).bind λx15=>(some (bif (bif (bif (((((x2.1.Blocks.getD (0:Int).toNat (default:Ab)).Ops).getD (2:Int).toNat (default:A2)).Kind:Int)==13) then(((((x2.1.Blocks.getD (0:Int).toNat (default:Ab)).Ops).getD (2:Int).toNat (default:A2)).Dst:Int)==5) else false) then x12 else false) then x15 else false))))))))))))))))))
theorem Yc  (r:Bool) (h:m_locksteplaw15_awake=some r):sP 7 [] [] (.bool r) []:=
 sG Tryz.func7 λΓ q=>Ae q [] [] (tB h λx1 y1 h=>tB h λx2 y2 h=>tT q Nj [1] [(lB x1),(zR x2.1 x2.2)] (c2 (Hx  x1 y1) (Mt y2)) (tB h λx3 y3 h=>tB h λx4 y4 h=>tT q DH [1] [(lB x3),(zR x4.1 x4.2)] (c2 (Hx  x3 y3) (Mt y4)) (tC h λc5_ h=>tB h λx6 y6 h=>tB h λx7 y7 h=>tB h λx8 y8 h=>tB h λx9 y9 h=>tT q [1,52] [1] [(lB x6),(lB x7),(lB x8),(lB x9)] (QD (gI ((x2.2 !=0)==false)) (I9 (x2.2 !=0)) (Si (Aa6 x2 x4) (ci (I9 (bif (x2.2 !=0) then true else(x4.2 !=10))) (Kb (yc x2 x4) (ci c5_ (QL (yc x2 x4) (zZ (I9 (bif (bif (x2.2 !=0) then true else(x4.2 !=10)) then true else((x2.1.Blocks.length:Int)!=2))) (λ(hg:((fL x2 x4)==false)=true)=>(Hx  x6 (Ba hg y6))) (gI ((fL x2 x4)==false)) (λ(hg:((fL x2 x4)==false)=true)=>(FE (Ba hg y7))) (Si ((fL x2 x4)==false) (zZ (I9 (fL x2 x4)) (λ(hg:(sC x2 x4 x7)=true)=>(Hx  x8 (Ba hg y8))) (gI (sC x2 x4 x7)) (λ(hg:(sC x2 x4 x7)=true)=>(FE (Ba hg y9))) (Si (sC x2 x4 x7) (c1 (I9 (bif (fL x2 x4) then true else(yd x7)))))))))))))) (gC h (λh=>Ae q [0] [] (tS h (Bq []))) λh=>tC h λc10_ h=>tC h λc11_ h=>tU q [1,5] [1,5] (c2 c10_ c11_) (tB h λx12 y12 h=>tC h λc13_ h=>tC h λc14_ h=>tB h λx15 y15 h=>gR q [0] [] [(71,(sx wB)),(83,(AV.list 1 An 0 ([(0:Int)]:Ao) .exact))] [(Z7 x12),(Z7 x15)] (Kb (Aa7 x2) (bu (Na (((((x2.1.Blocks.getD (0:Int).toNat (default:Ab)).Ops).getD (2:Int).toNat (default:A2)).Kind:Int)==13)) (gI ((fJ x2)==true)) (show(((fJ x2)==true)=true->(AVle (.slice 1 3 (λi=>([[mn],[(.int .i64 (2:Int))],[(.int .i64 (3:Int))]]:List (List AV)).getD i []) .exact) (sx wB))) from(λhg=>@(Az 1 An (0:Int) wB))) (Kb ((fJ x2)==true) (QD (λ(hg:((fJ x2)==true)=true)=>(Hd (Ba hg y12))) (Na (fJ x2)) (Kb (kl x2 x12) (ci c13_ (Si (kl x2 x12) (ci c14_ (Kb (kl x2 x12) (ci (show((kl x2 x12)=true->(AVle (.slice 1 1 (λi=>([[Lc]]:List (List AV)).getD i []) .exact) (AV.list 1 An 0 ([(0:Int)]:Ao) .exact))) from(λhg=>@(Az 1 An (0:Int) ([(0:Int)]:Ao)))) (Kb (kl x2 x12) (c2 (λ(hg:(kl x2 x12)=true)=>(Hd (Ba hg y15))) (Na (bif (fJ x2) then x12 else false)))))))))))))) (tS h (Bq [])))))))
def Cr(a0:TFunc)(i2:Int):Ho->Option iK:=
 λ((i5,i6):Ho)=>(Aw (As i2 a0.Blocks.length) (bif (bif (decide (i6<(((a0.Blocks.getD i2.toNat default).Phis).length:Int))) then(decide (i5<=20000)) else false) then(Aw (As i2 a0.Blocks.length) (Aw (As i6 ((a0.Blocks.getD i2.toNat default).Phis).length) (Aw (As i2 a0.Blocks.length) (Aw (As i6 ((a0.Blocks.getD i2.toNat default).Phis).length) (some (.next ((w64 ((w64 ((w64 (i5+1))+(((((a0.Blocks.getD i2.toNat default).Phis).getD i6.toNat default).From).length:Int)))+(((((a0.Blocks.getD i2.toNat default).Phis).getD i6.toNat default).Args).length:Int))),(w64 (i6+1))))))))) else(some (.done i5))))
def Cs(a0:TFunc)(i2:Int):Ho->Option iK:=
 λ((i15,i16):Ho)=>(Aw (As i2 a0.Blocks.length) (bif (bif (decide (i16<(((a0.Blocks.getD i2.toNat default).Ops).length:Int))) then(decide (i15<=20000)) else false) then(Aw (As i2 a0.Blocks.length) (Aw (As i16 ((a0.Blocks.getD i2.toNat default).Ops).length) (some (.next ((w64 ((w64 (i15+1))+(((((a0.Blocks.getD i2.toNat default).Ops).getD i16.toNat default).Args).length:Int))),(w64 (i16+1))))))) else(some (.done i15))))
def Ct(a0:TFunc):Ho->Option iK:=
 λ((i1,i2):Ho)=>(bif (bif (decide (i2<(a0.Blocks.length:Int))) then(decide (i1<=20000)) else false) then(Aw (As i2 a0.Blocks.length) ((Ad (Cr a0 i2) ((w64 ((w64 (i1+1))+(((a0.Blocks.getD i2.toNat default).End.To).length:Int))),(0:Int))).bind (λx13=>((Ad (Cs a0 i2) (x13,(0:Int))).bind (λx21=>(some (.next (x21,(w64 (i2+1)))))))))) else(some (.done i1)))
def Cx(a0:TFunc):Option Bool:=
 ((Ad (Ct a0) ((a0.Params.length:Int),(0:Int))).bind (λx23=>(some (decide (x23<=20000)))))
theorem Yg(h:Cx v0=some v3):sP 24 [(Y1 v0)] [] (.bool v3) []:=
 sG Tryz.func24 λΓ q=>tW q [1] [1] I8 [1] (Ae q Hp [1] (tL q h Hp [1] (λu (i1,i2)=>(Cn u [(3,(Z6 i1)),(4,(Z6 i2))] [])) (λu i3=>aG Γ (.exit 0) (⟨[(3,(Z6 i3))],[],[]⟩:St)) (λ⟨i1,i2⟩ y h=>tU q [1,3,4,18] [1] (c2 (gI ((decide (i2<(v0.Blocks.length:Int)))==true)) (Na (decide (i2<(v0.Blocks.length:Int))))) (gC h (λh=>tV q Hp [1] h λh=>Ae q Gn [1] (tL q h Gn [1] (λu (i5,i6)=>(Cn u [(3,(Z6 i5)),(5,(Z6 i6))] [])) (λu i7=>aG Γ (.exit 2) (Ng Hp [1] u [(3,(Z6 i7))] [])) (λ⟨i5,i6⟩ y h=>tC h λc8_ h=>tU q [1,3,4,5,44] [1] (c3 c8_ (gI ((decide (i6<(((v0.Blocks.getD i2.toNat default).Phis).length:Int)))==true)) (Na (decide (i6<(((v0.Blocks.getD i2.toNat default).Phis).length:Int))))) (gC h (λh=>tC h λc9_ h=>tC h λc10_ h=>tC h λc11_ h=>tC h λc12_ h=>tU q Gn [1] (c4 c9_ c10_ c11_ c12_) (Ae q Gn [1] (tN h))) λh=>tS h (gO (A3 (A8 Hp [1] q))))) λx13 h=>gA (Ae q JR [1] (tL q h JR [1] (λu (i15,i16)=>(Cn u [(3,(Z6 i15)),(6,(Z6 i16))] [])) (λu i17=>aG Γ (.exit 4) (Ng Hp [1] u [(3,(Z6 i17))] [])) (λ⟨i15,i16⟩ y h=>tC h λc18_ h=>tU q [1,3,4,6,85] [1] (c3 c18_ (gI ((decide (i16<(((v0.Blocks.getD i2.toNat default).Ops).length:Int)))==true)) (Na (decide (i16<(((v0.Blocks.getD i2.toNat default).Ops).length:Int))))) (gC h (λh=>tC h λc19_ h=>tC h λc20_ h=>tU q JR [1] (c2 c19_ c20_) (Ae q JR [1] (tN h))) λh=>tS h (gO (A3 (A8 Hp [1] q))))) λx21 h=>gA (Ae q Hp [1] (tN h)))))) λh=>tS h (gO (A3 (A8 [3] [] q))))) λx23 h=>gA (Ae q [2] [] (tS h (Bq [])))))
def B0(a0:TFunc):Ho->Option iK:=
 λ((i1,i2):Ho)=>(bif (decide (i2<(a0.Blocks.length:Int))) then(Aw (As i2 a0.Blocks.length) (Aw (As i2 a0.Blocks.length) (some (.next ((w64 ((w64 ((w64 (i1+1))+(((a0.Blocks.getD i2.toNat default).Ops).length:Int)))+(((a0.Blocks.getD i2.toNat default).Phis).length:Int))),(w64 (i2+1))))))) else(some (.done i1)))
def sD(a0:TFunc)(x6:Int):=(bif (decide ((a0.Blocks.length:Int)<=16)) then(decide (x6<=100)) else false)
def wC(a0:TFunc)(x6:Int):=(bif (sD a0 x6) then true else(decide ((64:Int)<(a0.Blocks.length:Int))))
def E1(a0:TFunc):Option Bool:=
 ((Ad (B0 a0) ((0:Int),(0:Int))).bind (λx6=>((Cx a0).bind λx8=>(some (bif x8 then(bif (bif (bif (decide ((a0.Blocks.length:Int)<=16)) then(decide (x6<=100)) else false) then true else(decide ((64:Int)<(a0.Blocks.length:Int)))) then true else(decide ((512:Int)<x6))) else false)))))
theorem Yi(h:E1 v0=some v3):sP 8 [(Y1 v0)] [] (.bool v3) []:=
 sG Tryz.func8 λΓ q=>tW q [1] [1] I8 [1] (Ae q Hp [1] (tL q h Hp [1] (λu (i1,i2)=>(Cn u [(3,(Z6 i1)),(4,(Z6 i2))] [])) (λu i3=>aG Γ (.exit 0) (Ng I8 [1] u [(3,(Z6 i3))] [])) (λ⟨i1,i2⟩ y h=>Ae q [1,3,4,9] [1] (gC h (λh=>tC h λc4_ h=>tC h λc5_ h=>tU q Hp [1] (c2 c4_ c5_) (Ae q Hp [1] (tN h))) λh=>tS h (gO (A3 (A8 I8 [1] q))))) λx6 h=>gA (tB h λx8 y8 h=>tT q [2] [] [(Z7 x8)] (ci (Yg y8) (QL (x8==true) (zZ (gI ((x8==true)&&((decide ((v0.Blocks.length:Int)<=16))==true))) (gI (x8==true)) (show((x8==true)=true->((decide ((v0.Blocks.length:Int)<=16))=true->((x8==true)&&((decide ((v0.Blocks.length:Int)<=16))==true))=true)) from(λhg=>(aT hg))) (gI (x8==true)) (Si ((x8==true)&&((sD v0 x6)==false)) (c7 (gI (x8==true)) (show((x8==true)=true->((sD v0 x6)=false->((x8==true)&&((sD v0 x6)==false))=true)) from(λhg=>(aF hg))) (gI (x8==true)) (gI ((x8==true)&&((wC v0 x6)==false))) (gI (x8==true)) (show((x8==true)=true->((wC v0 x6)=false->((x8==true)&&((wC v0 x6)==false))=true)) from(λhg=>(aF hg))) (Na x8)))))) (tS h (Bq [])))))
def Bo(aW:Int):Option Bool:=
 (some (bif (decide ((0:Int)<=aW)) then(decide (aW<=2147483647)) else false))
theorem Ca(h:Bo v1=some v3):sP 73 [(Z6 v1)] [] (.bool v3) []:=
 sG Tryz.func73 λΓ q=>Ae q [0] [] (tU q [2] [] (c2 (gI ((decide ((0:Int)<=v1))==true)) (Na (decide ((0:Int)<=v1)))) (tS h (Bq [])))
def Fx(aU:Ao):Int->Option (LR Int (Unit ⊕ Bool)):=
 λ(i1:Int)=>(bif (decide (i1<(aU.length:Int))) then(Aw (As i1 aU.length) ((Bo (aU.getD i1.toNat 0)).bind λx3=>(bif (!x3) then(some (.done (.inr false))) else(some (.next (w64 (i1+1))))))) else(some (.done (.inl ()))))
def AP(Γ:H6)(aU:Ao)(r:Bool):Exit->St->Prop:=fK Tryz.prog Γ Tryz.f72.results.toList [] (.bool r) []
def Dc(aU:Ao):Option Bool:=
 ((Ad (Fx aU) (0:Int)).bind (λx4=>(match x4 with|(.inl _)=>(some (decide ((aU.length:Int)<=64)))|(.inr r6)=>(some r6))))
theorem He(h:Dc v2=some v3):sP 72 [(My v2)] [] (.bool v3) []:=
 sG Tryz.func72 λΓ q=>tW q [0] [] R4 [] (tL q h R4 [] (λu i1=>(Cn u [(3,(Z6 i1))] [])) (λu x_=>match x_ with|(.inl _)=>aG Γ (.exit 0) (Ng [0] [] u [] [])|(.inr r_)=>aR (AP Γ v2 r_)) (λi1 y h=>Ae q [0,3,7] [] (gC h (λh=>tC h λc2_ h=>tB h λx3 y3 h=>tT q [0,3,15] [] [(Z7 x3)] (c2 c2_ (Ca y3)) (gC h (λh=>Ae q [2] [] (tS h (gO (Mp (H7 [] (Le.refl _ _)))))) λh=>Ae q R4 [] (tN h))) λh=>tS h (gO (A3 (A8 [0] [] q))))) λx4 h=>(match x4,h with | .inl _,h=>gA (Ae q [2] [] (tS h (Bq []))) | .inr r6,h=>gAr (λst' hk=>tS h (gK hk))))
def Ij(a0:TFunc):Ho->Option iK:=
 λ((i1,i2):Ho)=>(bif (decide (i2<(a0.Blocks.length:Int))) then(Aw (As i2 a0.Blocks.length) (Aw (As i2 a0.Blocks.length) (some (.next ((w64 ((w64 ((w64 (i1+(((a0.Blocks.getD i2.toNat default).Phis).length:Int)))+(((a0.Blocks.getD i2.toNat default).Ops).length:Int)))+1)),(w64 (i2+1))))))) else(some (.done i1)))
def Kz(a0:TFunc):Option Int:=
 ((Ad (Ij a0) ((0:Int),(0:Int))).bind (λx6=>(some x6)))
theorem AA(h:Kz v0=some v1):sP 74 [(Y1 v0)] [] (.int .i64 v1) []:=
 sG Tryz.func74 λΓ q=>tW q [1] [1] I8 [1] (Ae q Hp [1] (tL q h Hp [1] (λu (i1,i2)=>(Cn u [(3,(Z6 i1)),(4,(Z6 i2))] [])) (λu i3=>aG Γ (.exit 0) (⟨[(3,(Z6 i3))],[],[]⟩:St)) (λ⟨i1,i2⟩ y h=>Ae q [1,3,4,9] [1] (gC h (λh=>tC h λc4_ h=>tC h λc5_ h=>tU q Hp [1] (c2 c4_ c5_) (Ae q Hp [1] (tN h))) λh=>tS h (gO (A3 (A8 [3] [] q))))) λx6 h=>gA (Ae q [2] [] (tS h (Bq [])))))
open Go Go.RowKit
set_option maxRecDepth 100000
set_option maxHeartbeats 2000000
def Gj(a0:TFunc)(i4:Int):Int->Option (LR Int (Unit ⊕ Bool)):=
 λ(i6:Int)=>(bif (decide (i6<(((a0.Blocks.getD i4.toNat default).Phis).length:Int))) then(Aw (As i6 ((a0.Blocks.getD i4.toNat default).Phis).length) ((Bo ((((a0.Blocks.getD i4.toNat default).Phis).getD i6.toNat default).Bits)).bind λx8=>((bif ((!x8)==false) then Bo ((((a0.Blocks.getD i4.toNat default).Phis).getD i6.toNat default).Dst) else some false).bind λx9=>((bif ((bif (!x8) then true else(!x9))==false) then Dc ((((a0.Blocks.getD i4.toNat default).Phis).getD i6.toNat default).From) else some false).bind λx10=>((bif ((bif (bif (!x8) then true else(!x9)) then true else(!x10))==false) then Dc ((((a0.Blocks.getD i4.toNat default).Phis).getD i6.toNat default).Args) else some false).bind λx11=>(bif (bif (bif (bif (!x8) then true else(!x9)) then true else(!x10)) then true else(!x11)) then(some (.done (.inr false))) else(some (.next (w64 (i6+1)))))))))) else(some (.done (.inl ()))))
def Gk(a0:TFunc)(i4:Int):Int->Option (LR Int (Unit ⊕ Bool)):=
 λ(i14:Int)=>(bif (decide (i14<(((a0.Blocks.getD i4.toNat default).Ops).length:Int))) then(Aw (As i14 ((a0.Blocks.getD i4.toNat default).Ops).length) ((Bo ((((a0.Blocks.getD i4.toNat default).Ops).getD i14.toNat default).Kind)).bind λx16=>((bif ((!x16)==false) then Bo ((((a0.Blocks.getD i4.toNat default).Ops).getD i14.toNat default).Bits) else some false).bind λx17=>((bif ((bif (!x16) then true else(!x17))==false) then Bo ((((a0.Blocks.getD i4.toNat default).Ops).getD i14.toNat default).Lanes) else some false).bind λx18=>((bif ((bif (bif (!x16) then true else(!x17)) then true else(!x18))==false) then Bo ((((a0.Blocks.getD i4.toNat default).Ops).getD i14.toNat default).Dst) else some false).bind λx19=>((bif ((bif (bif (bif (!x16) then true else(!x17)) then true else(!x18)) then true else(!x19))==false) then Dc ((((a0.Blocks.getD i4.toNat default).Ops).getD i14.toNat default).Args) else some false).bind λx20=>(bif (bif (bif (bif (bif (!x16) then true else(!x17)) then true else(!x18)) then true else(!x19)) then true else(!x20)) then(some (.done (.inr false))) else(some (.next (w64 (i14+1))))))))))) else(some (.done (.inl ()))))
def Eh(a0:TFunc):Int->Option (LR Int (Unit ⊕ Bool)):=
 λ(i4:Int)=>(bif (decide (i4<(a0.Blocks.length:Int))) then(Aw (As i4 a0.Blocks.length) ((Ad (Gj a0 i4) (0:Int)).bind (λx12=>(match x12 with|(.inl _)=>((Ad (Gk a0 i4) (0:Int)).bind (λx21=>(match x21 with|(.inl _)=>((Bo ((a0.Blocks.getD i4.toNat default).End.Kind)).bind λx23=>((bif ((!x23)==false) then Bo ((a0.Blocks.getD i4.toNat default).End.Arg) else some false).bind λx24=>((bif ((bif (!x23) then true else(!x24))==false) then Dc ((a0.Blocks.getD i4.toNat default).End.To) else some false).bind λx25=>(bif (bif (bif (!x23) then true else(!x24)) then true else(!x25)) then(some (.done (.inr false))) else(some (.next (w64 (i4+1))))))))|(.inr r26)=>(some (.done (.inr r26))))))|(.inr r27)=>(some (.done (.inr r27))))))) else(some (.done (.inl ()))))
def Ou(Γ:H6)(a0:TFunc)(r:Bool):Exit->St->Prop:=fK Tryz.prog Γ Tryz.f37.results.toList [] (.bool r) []
def cC(x8:Bool)(x9:Bool):=(bif (!x8) then true else(!x9))
def nJ(a0:TFunc):=((a0.Blocks.length:Int)==0)
def nI(a0:TFunc):=(bif (bif (nJ a0) then true else(decide ((64:Int)<(a0.Blocks.length:Int)))) then true else(decide ((16:Int)<(a0.Params.length:Int))))
def cD(a0:TFunc)(x1:Bool):=(bif (nI a0) then true else(!x1))
def wD(x23:Bool)(x24:Bool):=((bif (!x23) then true else(!x24))==false)
def Aa8(a0:TFunc)(i4:Int):=(a0.Blocks.getD i4.toNat default)
def Abn(a0:TFunc)(i4:Int)(i14:Int):=(((Aa8 a0 i4).Ops).getD i14.toNat default)
def cB(x16:Bool)(x17:Bool)(x18:Bool):=(bif (bif (!x16) then true else(!x17)) then true else(!x18))
def Aa9(a0:TFunc):=((bif (nJ a0) then true else(decide ((64:Int)<(a0.Blocks.length:Int))))==false)
def Gs(a0:TFunc):Option Bool:=
 ((bif ((bif (bif ((a0.Blocks.length:Int)==0) then true else(decide ((64:Int)<(a0.Blocks.length:Int)))) then true else(decide ((16:Int)<(a0.Params.length:Int))))==false) then Dc a0.Params else some false).bind λx1=>((bif ((bif (bif (bif ((a0.Blocks.length:Int)==0) then true else(decide ((64:Int)<(a0.Blocks.length:Int)))) then true else(decide ((16:Int)<(a0.Params.length:Int)))) then true else(!x1))==false) then Bo a0.Ret else some false).bind λx2=>((bif ((bif (bif (bif (bif ((a0.Blocks.length:Int)==0) then true else(decide ((64:Int)<(a0.Blocks.length:Int)))) then true else(decide ((16:Int)<(a0.Params.length:Int)))) then true else(!x1)) then true else(!x2))==false) then Kz a0 else some (0:Int)).bind λx3=>(bif (bif (bif (bif (bif (bif ((a0.Blocks.length:Int)==0) then true else(decide ((64:Int)<(a0.Blocks.length:Int)))) then true else(decide ((16:Int)<(a0.Params.length:Int)))) then true else(!x1)) then true else(!x2)) then true else(decide ((512:Int)<x3))) then(some false) else((Ad (Eh a0) (0:Int)).bind (λx28=>(match x28 with|(.inl _)=>(some true)|(.inr r30)=>(some r30))))))))
theorem Sy(h:Gs v0=some v3):sP 37 [(Y1 v0)] [] (.bool v3) []:=
 sG Tryz.func37 λΓ q=>Ae q [1] [1] (tB h λx1 y1 h=>tB h λx2 y2 h=>tB h λx3 y3 h=>tT q [1,41] [1] [(Z7 x1),(Z7 x2),(JS x3)] (Si ((nJ v0)==false) (ci (I9 (nJ v0)) (Si (Aa9 v0) (ci (I9 (bif (nJ v0) then true else(decide ((64:Int)<(v0.Blocks.length:Int))))) (Kb ((nI v0)==false) (bu (λ(hg:((nI v0)==false)=true)=>(He (Ba hg y1))) (gI ((nI v0)==false)) (I9 (nI v0)) (Kb ((cD v0 x1)==false) (c7 (λ(hg:((cD v0 x1)==false)=true)=>(Ca (Ba hg y2))) (gI ((cD v0 x1)==false)) (I9 (cD v0 x1)) (gI ((bif (cD v0 x1) then true else(!x2))==false)) (λ(hg:((bif (cD v0 x1) then true else(!x2))==false)=true)=>(AA (Ba hg y3))) (gI ((bif (cD v0 x1) then true else(!x2))==false)) (I9 (bif (cD v0 x1) then true else(!x2))))))))))) (gC h (λh=>Ae q [2] [] (tS h (Bq []))) λh=>Ae q I8 [1] (tL q h I8 [1] (λu i4=>(Cn u [(3,(Z6 i4))] [])) (λu x_=>match x_ with|(.inl _)=>aG Γ (.exit 0) (⟨[],[],[]⟩:St)|(.inr r_)=>aR (Ou Γ v0 r_)) (λi4 y h=>Ae q [1,3,46] [1] (gC h (λh=>tV q Hp R5 h λh=>Ae q Gn R5 (tL q h Gn R5 (λu i6=>(Cn u [(5,(Z6 i6))] [])) (λu x_=>match x_ with|(.inl _)=>aG Γ (.exit 2) (Ng Hp R5 u [] [])|(.inr r_)=>aR (Ou Γ v0 r_)) (λi6 y h=>Ae q [1,3,4,5,58] R5 (gC h (λh=>tV q Ot [1,4,6] h λh=>tB h λx8 y8 h=>tB h λx9 y9 h=>tB h λx10 y10 h=>tB h λx11 y11 h=>tT q [1,3,4,5,87] R5 [(Z7 x8),(Z7 x9),(Z7 x10),(Z7 x11)] (ci (Ca y8) (Kb ((!x8)==false) (bu (λ(hg:((!x8)==false)=true)=>(Ca (Ba hg y9))) (gI ((!x8)==false)) (I9 (!x8)) (Kb ((cC x8 x9)==false) (bu (λ(hg:((cC x8 x9)==false)=true)=>(He (Ba hg y10))) (gI ((cC x8 x9)==false)) (I9 (cC x8 x9)) (Kb ((bif (cC x8 x9) then true else(!x10))==false) (c3 (λ(hg:((bif (cC x8 x9) then true else(!x10))==false)=true)=>(He (Ba hg y11))) (gI ((bif (cC x8 x9) then true else(!x10))==false)) (I9 (bif (cC x8 x9) then true else(!x10)))))))))) (gC h (λh=>Ae q [2] [] (tS h (gO (Mp (H7 [] (Le.refl _ _)))))) λh=>Ae q Gn R5 (tN h))) λh=>tS h (gO (A3 (A8 Hp R5 q))))) λx12 h=>(match x12,h with | .inl _,h=>gA (Ae q [1,3,4,7] R5 (tL q h [1,3,4,7] R5 (λu i14=>(Cn u [(7,(Z6 i14))] [])) (λu x_=>match x_ with|(.inl _)=>aG Γ (.exit 4) (Ng Hp R5 u [] [])|(.inr r_)=>aR (Ou Γ v0 r_)) (λi14 y h=>Ae q [1,3,4,7,92] R5 (gC h (λh=>tV q [1,3,4,7,8] [1,4,8] h λh=>tB h λx16 y16 h=>tB h λx17 y17 h=>tB h λx18 y18 h=>tB h λx19 y19 h=>tB h λx20 y20 h=>tT q [1,3,4,7,127] R5 [(Z7 x16),(Z7 x17),(Z7 x18),(Z7 x19),(Z7 x20)] (ci (Ca y16) (Kb ((!x16)==false) (bu (λ(hg:((!x16)==false)=true)=>(Ca (Ba hg y17))) (gI ((!x16)==false)) (I9 (!x16)) (Kb ((bif (!x16) then true else(!x17))==false) (bu (λ(hg:((bif (!x16) then true else(!x17))==false)=true)=>(Ca (Ba hg y18))) (gI ((bif (!x16) then true else(!x17))==false)) (I9 (bif (!x16) then true else(!x17))) (Kb ((cB x16 x17 x18)==false) (bu (λ(hg:((cB x16 x17 x18)==false)=true)=>(Ca (Ba hg y19))) (gI ((cB x16 x17 x18)==false)) (I9 (cB x16 x17 x18)) (Kb ((bif (cB x16 x17 x18) then true else(!x19))==false) (c3 (λ(hg:((bif (cB x16 x17 x18) then true else(!x19))==false)=true)=>(He (Ba hg y20))) (gI ((bif (cB x16 x17 x18) then true else(!x19))==false)) (I9 (bif (cB x16 x17 x18) then true else(!x19)))))))))))) (gC h (λh=>Ae q [2] [] (tS h (gO (Mp (H7 [] (Le.refl _ _)))))) λh=>Ae q [1,3,4,7] R5 (tN h))) λh=>tS h (gO (A3 (A8 Hp R5 q))))) λx21 h=>(match x21,h with | .inl _,h=>gA (tB h λx23 y23 h=>tB h λx24 y24 h=>tB h λx25 y25 h=>tT q [1,3,146] [1] [(Z7 x23),(Z7 x24),(Z7 x25)] (ci (Ca y23) (Si ((!x23)==false) (bu (λ(hg:((!x23)==false)=true)=>(Ca (Ba hg y24))) (gI ((!x23)==false)) (I9 (!x23)) (Si (wD x23 x24) (c3 (λ(hg:(wD x23 x24)=true)=>(He (Ba hg y25))) (gI (wD x23 x24)) (I9 (bif (!x23) then true else(!x24)))))))) (gC h (λh=>Ae q [2] [] (tS h (gO (Mp (H7 [] (Le.refl _ _)))))) λh=>Ae q I8 [1] (tN h))) | .inr r26,h=>gAr (λst' hk=>tS h (gO (Mp hk)))))) | .inr r27,h=>gAr (λst' hk=>tS h (gO (Mp hk)))))) λh=>tS h (gO (A3 (A8 [] [] q))))) λx28 h=>(match x28,h with | .inl _,h=>gA (Ae q [2] [] (tS h (Bq []))) | .inr r30,h=>gAr (λst' hk=>tS h (gK hk))))))
def Gl(aU:Ao)(aD:Int):Int->Option (LR Int (Unit ⊕ Bool)):=
 λ(i1:Int)=>(bif (decide (i1<(aU.length:Int))) then(Aw (As i1 aU.length) (bif ((aU.getD i1.toNat 0)==aD) then(some (.done (.inr true))) else(some (.next (w64 (i1+1)))))) else(some (.done (.inl ()))))
def EP(Γ:H6)(aU:Ao)(aD:Int)(r:Bool):Exit->St->Prop:=fK Tryz.prog Γ Tryz.f35.results.toList [] (.bool r) []
def Gt(aU:Ao)(aD:Int):Option Bool:=
 ((Ad (Gl aU aD) (0:Int)).bind (λx3=>(match x3 with|(.inl _)=>(some false)|(.inr r5)=>(some r5))))
theorem N4(h:Gt v2 v1=some v3):sP 35 [(My v2),(Z6 v1)] [] (.bool v3) []:=
 sG Tryz.func35 λΓ q=>tW q Fg [] Ph [] (tL q h Ph [] (λu i1=>(Cn u [(5,(Z6 i1))] [])) (λu x_=>match x_ with|(.inl _)=>aG Γ (.exit 0) (⟨[],[],[]⟩:St)|(.inr r_)=>aR (EP Γ v2 v1 r_)) (λi1 y h=>Ae q [0,1,5,9] [] (gC h (λh=>tV q [0,1,5,17] [] h λh=>gC h (λh=>Ae q [4] [] (tS h (gO (Mp (H7 [] (Le.refl _ _)))))) λh=>Ae q Ph [] (tN h)) λh=>tS h (gO (A3 (A8 [] [] q))))) λx3 h=>(match x3,h with | .inl _,h=>gA (Ae q [4] [] (tS h (Bq []))) | .inr r5,h=>gAr (λst' hk=>tS h (gK hk))))
abbrev xo:=(LR Int (Unit ⊕ (TGraph×Int)))
def Dx(a6:Kc)(i1:Int):Int->Option xo:=
 λ(i2:Int)=>(Aw (As i1 a6.length) (bif (decide (i2<((a6.getD i1.toNat []).length:Int))) then(Aw (As i1 a6.length) (Aw (As i2 (a6.getD i1.toNat []).length) (Aw (((decide (((a6.getD i1.toNat []).getD i2.toNat 0)<0))==false)=true->(As i1 a6.length)) (Aw (((decide (((a6.getD i1.toNat []).getD i2.toNat 0)<0))==false)=true->(As i2 (a6.getD i1.toNat []).length)) (Aw ((((bif (decide (((a6.getD i1.toNat []).getD i2.toNat 0)<0)) then true else(decide ((a6.length:Int)<=((a6.getD i1.toNat []).getD i2.toNat 0))))==false)&&((decide ((0:Int)<i2))==true))=true->(As i1 a6.length)) (Aw ((((bif (decide (((a6.getD i1.toNat []).getD i2.toNat 0)<0)) then true else(decide ((a6.length:Int)<=((a6.getD i1.toNat []).getD i2.toNat 0))))==false)&&((decide ((0:Int)<i2))==true))=true->(As i2 (a6.getD i1.toNat []).length)) (Aw ((((bif (decide (((a6.getD i1.toNat []).getD i2.toNat 0)<0)) then true else(decide ((a6.length:Int)<=((a6.getD i1.toNat []).getD i2.toNat 0))))==false)&&((decide ((0:Int)<i2))==true))=true->(As i1 a6.length)) (Aw ((((bif (decide (((a6.getD i1.toNat []).getD i2.toNat 0)<0)) then true else(decide ((a6.length:Int)<=((a6.getD i1.toNat []).getD i2.toNat 0))))==false)&&((decide ((0:Int)<i2))==true))=true->(As (w64 (i2-1)) (a6.getD i1.toNat []).length)) (bif (bif (bif (decide (((a6.getD i1.toNat []).getD i2.toNat 0)<0)) then true else(decide ((a6.length:Int)<=((a6.getD i1.toNat []).getD i2.toNat 0)))) then true else(bif (decide ((0:Int)<i2)) then(decide (((a6.getD i1.toNat []).getD i2.toNat 0)<=((a6.getD i1.toNat []).getD (w64 (i2-1)).toNat (0:Int)))) else false)) then(some (.done (.inr ((⟨([]:Kc),([]:Kc)⟩:TGraph),(5:Int))))) else(some (.next (w64 (i2+1))))))))))))) else(some (.done (.inl ())))))
def Fy(a6:Kc):Int->Option xo:=
 λ(i1:Int)=>(bif (decide (i1<(a6.length:Int))) then((Ad (Dx a6 i1) (0:Int)).bind (λx12=>(match x12 with|(.inl _)=>(some (.next (w64 (i1+1))))|(.inr r14)=>(some (.done (.inr r14)))))) else(some (.done (.inl ()))))
def Ik(a6:Kc)(i18:Int):rX->Option yT6:=
 λ((i21,l22):rX)=>(bif (decide (i21<(a6.length:Int))) then(Option.bind (α:=Kc) (Aw (As i21 a6.length) ((Gt (a6.getD i21.toNat []) i18).bind λx26=>(bif x26 then(Aw (As i18 l22.length) (Aw (As i18 l22.length) (Aw ((l22.getD i18.toNat []).length+([i21]:Ao).length<=room) (Aw (As i18 l22.length) (some (l22.set i18.toNat ((l22.getD i18.toNat [])++([i21]:Ao)))))))) else(some l22)))) (λx31=>(some (.next ((w64 (i21+1)),x31))))) else(some (.done l22)))
def Dy(a6:Kc):rX->Option yT6:=
 λ((i18,l19):rX)=>(bif (decide (i18<(a6.length:Int))) then((Ad (Ik a6 i18) ((0:Int),l19)).bind (λx33=>(some (.next ((w64 (i18+1)),x33))))) else(some (.done l19)))
def Sq(Γ:H6)(a6:Kc)(r:iL):Exit->St->Prop:=fK Tryz.prog Γ Tryz.f83.results.toList [] (.tuple [(fA r.1),(Z6 r.2)]) []
def Ws(a6:Kc):AV:=(FZ a6)
def sH(a6:Kc):AV:=(JT a6.length)
def sF(a6:Kc)(i1:Int)(i2:Int):=((bif (decide (((a6.getD i1.toNat []).getD i2.toNat 0)<0)) then true else(decide ((a6.length:Int)<=((a6.getD i1.toNat []).getD i2.toNat 0))))==false)
def Aba(i2:Int):=((decide ((0:Int)<i2))==true)
def kp(a6:Kc)(i1:Int)(i2:Int):=((sF a6 i1 i2)&&(Aba i2))
def kn:List NL:=[Ob,(3,(.int .i64 (5:Int)))]
def ZI(l22:Kc)(i18:Int)(i21:Int):=((l22.getD i18.toNat [])++([i21]:Ao))
def ye:AV:=Z93
def fM(a6:Kc):=(List.replicate (a6.length:Int).toNat ([]:Ao))
def NY:List AV:=[UT,UT]
def sJ(a6:Kc):List NL:=[(0,(Ws a6)),Ob,(4,(sH a6)),JV]
def wE(a6:Kc)(i1:Int)(i2:Int):=((decide (((a6.getD i1.toNat []).getD i2.toNat 0)<0))==false)
def cE:List AV:=[yA,yA]
def sI(a6:Kc)(i18:Int)(i21:Int):List NL:=[(0,(Ws a6)),Ob,(4,(sH a6)),JV,(8,(Z6 i18)),(9,(Z6 i21))]
def H2(a6:Kc):Option iL:=
 (bif (bif ((a6.length:Int)==0) then true else(decide ((64:Int)<(a6.length:Int)))) then(some ((⟨([]:Kc),([]:Kc)⟩:TGraph),(5:Int))) else((Ad (Fy a6) (0:Int)).bind (λx15=>(match x15 with|(.inl _)=>(Aw (0<=(a6.length:Int)/\(a6.length:Int)<=(a6.length:Int)/\(a6.length:Int)<=(room:Int)) ((Ad (Dy a6) ((0:Int),(List.replicate (a6.length:Int).toNat ([]:Ao)))).bind (λx35=>(some ((⟨a6,x35⟩:TGraph),(0:Int))))))|(.inr r37)=>(some r37)))))
variable{v14:Kc}{v16:iL}
theorem Rw(h:H2 v14=some v16):sP 83 [(FZ v14)] [] (.tuple [(fA v16.1),(Z6 v16.2)]) []:=
 sG Tryz.func83 λΓ q=>have hΓ:=q.own;tW q [0,2] [2] [0,2,4] [2] (tU q [0,2,4,17] [2] (c2 (gI (((v14.length:Int)==0)==false)) (I9 ((v14.length:Int)==0))) (gC h (λh=>gR q Cc [2] [(18,(.agg cE))] [] (c1 (show(AVle (.agg NY) (.agg cE)) from(AVle.agg (.cons Dv (.cons Dv .nil))))) (O8 (⟨kn,[(L9 97 cE)],[]⟩:St) (tS h (gK (e:=.ret) (H7 [] (show Le Γ _ (⟨kn,[(mo ye)],[]⟩:St) from Le.trans (A8 (st':=⟨kn,[(L9 97 cE)],[]⟩) Cc [2] q) (Gw (.cons (AVle.refl _) (.cons (AVle.refl _) .nil)) (.row (.cons AVle.untag (.cons AVle.untag .nil)) .nil)))))))) λh=>Ae q UC [2] (tL q h UC [2] (λu i1=>(Cn u [(5,(Z6 i1))] [])) (λu x_=>match x_ with|(.inl _)=>aG Γ (.exit 0) (Ng [0,2,4] [2] u [] [])|(.inr r_)=>aR (Sq Γ v14 r_)) (λi1 y h=>Ae q [0,2,4,5,21] [2] (gC h (λh=>Ae q iz [2] (tL q h iz [2] (λu i2=>(Cn u [(6,(Z6 i2))] [])) (λu x_=>match x_ with|(.inl _)=>aG Γ (.exit 2) (Ng UC [2] u [] [])|(.inr r_)=>aR (Sq Γ v14 r_)) (λi2 y h=>tV q [0,2,4,5,6,30] [2] h λh=>gC h (λh=>tC h λc4_ h=>tC h λc5_ h=>tC h λc6_ h=>tC h λc7_ h=>tC h λc8_ h=>tC h λc9_ h=>tC h λc10_ h=>tC h λc11_ h=>tU q [0,2,4,5,6,73] [2] (QD c4_ c5_ (Kb (wE v14 i1 i2) (ci c6_ (Si (wE v14 i1 i2) (ci c7_ (Si (wE v14 i1 i2) (ci (I9 (decide (((v14.getD i1.toNat []).getD i2.toNat 0)<0))) (Kb (sF v14 i1 i2) (Kb (kp v14 i1 i2) (ci c8_ (Si (kp v14 i1 i2) (ci c9_ (Si (kp v14 i1 i2) (ci c10_ (QL (kp v14 i1 i2) (ci c11_ (Si (kp v14 i1 i2) (c3 (gI (sF v14 i1 i2)) (show((sF v14 i1 i2)=true->((decide ((0:Int)<i2))=true->(kp v14 i1 i2)=true)) from(λhg=>(aT hg))) (I9 (bif (decide (((v14.getD i1.toNat []).getD i2.toNat 0)<0)) then true else(decide ((v14.length:Int)<=((v14.getD i1.toNat []).getD i2.toNat 0))))))))))))))))))))))) (gC h (λh=>gR q Cc [2] [(74,(.agg cE))] [] (c1 (show(AVle (.agg NY) (.agg cE)) from(AVle.agg (.cons Dv (.cons Dv .nil))))) (O8 (⟨kn,[(L9 97 cE)],[]⟩:St) (tS h (gO (Mp (H7 [] (show Le Γ _ (⟨kn,[(mo ye)],[]⟩:St) from Le.trans (A8 (st':=⟨kn,[(L9 97 cE)],[]⟩) Cc [2] q) (Gw (.cons (AVle.refl _) (.cons (AVle.refl _) .nil)) (.row (.cons AVle.untag (.cons AVle.untag .nil)) .nil))))))))) λh=>Ae q iz [2] (tN h))) λh=>tS h (gO (A3 (A8 UC [2] q)))) λx12 h=>(match x12,h with | .inl _,h=>gA (Ae q UC [2] (tN h)) | .inr r14,h=>gAr (λst' hk=>tS h (gO (Mp hk)))))) λh=>tS h (gO (A3 (A8 [0,2,4] [2] q))))) λx15 h=>(match x15,h with | .inl _,h=>gA (tV q [0,2,4,7] [2,7,77] h λh=>O8 (⟨(sJ v14),[(L9 97 NY),(7,.row 97 [(Ws v14),(.vsl 77 (v14.length:Int).toNat)]),(77,.arr 1 22 ((v14.length:Int).toNat) (λi_=>AV.eraseAll (λn_=>B4 n_ [2,7,77]) ((λ_=>[UT]) i_)))],[]⟩:St) (M3 (Le.trans (Gw (st':=⟨(sJ v14),[(L9 97 NY),(7,.row 97 [(Ws v14),(.vsl 77 (v14.length:Int).toNat)]),(77,.arr 1 22 ((v14.length:Int).toNat) (O0 1 An (0:Int) (fM v14) (λ_=>.exact)))],[]⟩) (TmpsLe.refl _) (.same (.same (.arr cx .nil)))) (Le.trans (Le.trans (dI (r:=77) (b:=70077) An (0:Int) (fM v14) 3 rfl rfl (S3 ..).symm (λh_=>absurd h_ (by decide))) (H8 (st':=⟨(sJ v14),[(L9 97 NY),(7,.row 97 [(Ws v14),(.vsl 77 (v14.length:Int).toNat)]),(77,.arr 1 22 ((v14.length:Int).toNat) (O0 1 An (0:Int) (fM v14) (Tag.fam 70077)))],[(70077,⟨1,3,Nr (fM v14)⟩)]⟩) (by kernel_rfl))) (H8 (Bn (λk_:Nat=>(⟨(sJ v14),[(L9 97 NY),(nj (Ws v14) k_),(cI 77 k_ (fM v14) 70077)],[(70077,⟨1,3,Nr (fM v14)⟩)]⟩:St)) (show(v14.length:Int).toNat=(fM v14).length from(S3 ..).symm))))) (Ae q TR V3 (tL q h TR V3 (λu (i18,l19)=>(Cn u [(8,(Z6 i18))] [(nj (Ws v14) l19.length),(cI 77 l19.length l19 70077)] [(70077,⟨1,3,Nr l19⟩)])) (λu l20=>aG Γ (.exit 4) (Ng [2,7] V3 u [] [(nj (Ws v14) l20.length),(cI 77 l20.length l20 70077)] [(70077,⟨1,3,Nr l20⟩)])) (λ⟨i18,l19⟩ y h=>Ae q [0,2,4,7,8,81] V3 (gC h (λh=>Ae q TJ V3 (tL q h TJ V3 (λu (i21,l22)=>(Cn u [(9,(Z6 i21))] [(nj (Ws v14) l22.length),(cI 77 l22.length l22 70077)] [(70077,⟨1,3,Nr l22⟩)])) (λu l23=>aG Γ (.exit 6) (Ng TR V3 u [] [(nj (Ws v14) l23.length),(cI 77 l23.length l23 70077)] [(70077,⟨1,3,Nr l23⟩)])) (λ⟨i21,l22⟩ y h=>Ae q [0,2,4,7,8,9,86] V3 (gC h (λh=>tB h λx31 y31 h=>gJ y31 (λl24=>aG Γ .normal (⟨(sI v14 i18 i21),[(L9 97 NY),(nj (Ws v14) l24.length),(cI 77 l24.length l24 70077)],[(70077,⟨1,3,Nr l24⟩)]⟩:St)) (λy h=>tC h λc25_ h=>tB h λx26 y26 h=>tT q [0,2,4,7,8,9,94] V3 [(Z7 x26)] (c2 c25_ (N4 y26)) (gC h (λh=>O8 (⟨[(0,(Ws v14)),Ob,(4,(sH v14)),JV,(8,(Z6 i18)),(9,(Z6 i21)),(94,(.bool x26))],[(L9 97 NY),(nj (Ws v14) l22.length),(cI 77 l22.length l22 70077)],[(70077,⟨1,3,Nr l22⟩)]⟩:St) (tC h λc27_ h=>tC h λc28_ h=>tC h λc29_ h=>tC h λc30_ h=>M3 (Le.trans (jo (r:=77) (b:=70077) (k:=60077) An (0:Int) l22 i18.toNat 3 rfl rfl rfl rfl (Qp c27_) (by kernel_rfl) (.row (by kernel_rfl) (.row (by kernel_rfl) (.here .nil)))) (H8 (st':=⟨[(0,(Ws v14)),Ob,(4,(sH v14)),JV,(8,(Z6 i18)),(9,(Z6 i21)),(94,(.bool x26))],[(L9 97 NY),(nj (Ws v14) l22.length),(77,.arr 1 22 l22.length (O0 1 An (0:Int) l22 (Hj 70077 i18.toNat 60077))),(60077,.tok 1 3 ((l22.getD i18.toNat []).length))],[(70077,⟨1,3,BK l22 i18.toNat⟩)]⟩) (by kernel_rfl))) (gR q TJ rD [(102,(AV.list 1 An 0 (l22.getD i18.toNat []) (.own 60077))),(104,(ml i21)),(105,(HO (ZI l22 i18 i21) 60077))] [] (yE c28_ (Eq.refl l22.length) (show(AVle (((O0 1 An (0:Int) l22 (Hj 70077 i18.toNat 60077)) i18.toNat).getD 0 .any) (AV.list 1 An 0 (l22.getD i18.toNat []) (.own 60077))) from WS) (Az 1 An (0:Int) ([i21]:Ao)) (Eq.refl ((l22.getD i18.toNat []).length)) c29_ (Cv 1 60077 An (0:Int) (l22.getD i18.toNat []) ([i21]:Ao)) (Bs (l22.getD i18.toNat []) ([i21]:Ao)) c30_ (c1 (Eq.refl l22.length))) (O8 (⟨(sI v14 i18 i21),[(L9 97 NY),(nj (Ws v14) l22.length),(77,.arr 1 22 l22.length (λi_=>AV.eraseAll (λn_=>B4 n_ rD) ((Fd (O0 1 An (0:Int) l22 (Hj 70077 i18.toNat 60077)) i18.toNat 0 [(HO (ZI l22 i18 i21) 60077)]) i_))),(60077,.tok 1 3 ((ZI l22 i18 i21).length))],[(70077,⟨1,3,BK l22 i18.toNat⟩)]⟩:St) (tS h (gK (A3 (Le.trans (Le.trans (Le.trans (pE (r:=77) (b:=70077) (k:=60077) An (0:Int) l22 i18.toNat (ZI l22 i18 i21) 3 rfl (dy (Qp c27_) rfl rfl) rfl rfl rfl rfl (Qp c27_) (by kernel_rfl) (.row (by kernel_rfl) (.row (by kernel_rfl) (.here (.tok .nil)))) (by rw[hΓ];rfl)) (H8 (st':=⟨(sI v14 i18 i21),[(L9 97 NY),(nj (Ws v14) l22.length),(77,.arr 1 22 l22.length (O0 1 An (0:Int) (l22.set i18.toNat (ZI l22 i18 i21)) (Tag.fam 70077)))],[(70077,⟨1,3,Nr (l22.set i18.toNat (ZI l22 i18 i21))⟩)]⟩) (by kernel_rfl))) (H8 (Bn (λk_:Nat=>(⟨(sI v14 i18 i21),[(L9 97 NY),(nj (Ws v14) k_),(77,.arr 1 22 k_ (O0 1 An (0:Int) (l22.set i18.toNat (ZI l22 i18 i21)) (Tag.fam 70077)))],[(70077,⟨1,3,Nr (l22.set i18.toNat (ZI l22 i18 i21))⟩)]⟩:St)) (show l22.length=(l22.set i18.toNat (ZI l22 i18 i21)).length from(D0 ..).symm)))) Gv)))))))) λh=>tS h (gK (A3 (A8 TJ V3 q))))) (gA (Ae q TJ V3 (tN h)))) λh=>tS h (gO (A3 (A8 TR V3 q))))) λx33 h=>gA (Ae q TR V3 (tN h)))) λh=>tS h (gO (A3 (A8 [2,7] V3 q))))) λx35 h=>gA (Ae q Cc [2,77,70077] (O8 (⟨[Ob,(3,Lc)],[(2,.row 97 [(Ws v14),(.vsl 77 x35.length)]),(cI 77 x35.length x35 70077)],[(70077,⟨1,3,Nr x35⟩)]⟩:St) (tS h (gK (e:=.ret) (H7 [] (Le.trans (Gp (nm:=77) (sz:=1) (n:=x35.length) (e:=22) (f:=(O0 1 An (0:Int) x35 (Tag.fam 70077))) (g:=(λi=>Km (x35.getD i []))) rfl ⟨rfl,trivial⟩ (λ_ _=>rfl) (by rw[hΓ];rfl)) (A8 (st':=⟨[Ob,(3,Lc)],[(2,.row 97 [(Ws v14),(rR x35 77)]),(77,.tok 1 22 x35.length)],[]⟩) Cc [2,77] q))))))))))) | .inr r37,h=>gAr (λst' hk=>tS h (gK hk))))))
def E0(a0:TFunc)(i2:Int):Int->Option xo:=
 λ(i6:Int)=>(bif (decide (i6<(((a0.Blocks.getD i2.toNat default).End.To).length:Int))) then(Aw (As i6 ((a0.Blocks.getD i2.toNat default).End.To).length) (Aw (((decide ((((a0.Blocks.getD i2.toNat default).End.To).getD i6.toNat 0)<=0))==false)=true->(As i6 ((a0.Blocks.getD i2.toNat default).End.To).length)) (bif (bif (decide ((((a0.Blocks.getD i2.toNat default).End.To).getD i6.toNat 0)<=0)) then true else(decide ((a0.Blocks.length:Int)<=(((a0.Blocks.getD i2.toNat default).End.To).getD i6.toNat 0)))) then(some (.done (.inr ((⟨([]:Kc),([]:Kc)⟩:TGraph),(5:Int))))) else(some (.next (w64 (i6+1))))))) else(some (.done (.inl ()))))
abbrev WL:=(Ao×Int)
abbrev vD:=(LR (Ao×Int) Ao)
def Hb(a0:TFunc)(i2:Int):WL->Option vD:=
 λ((l11,i12):WL)=>(bif (decide (i12<(a0.Blocks.length:Int))) then(Option.bind (α:=Ao) ((Gt ((a0.Blocks.getD i2.toNat default).End.To) i12).bind λx15=>(bif x15 then(Aw (l11.length+([i12]:Ao).length<=room) (some (l11++([i12]:Ao)))) else(some l11))) (λx17=>(some (.next (x17,(w64 (i12+1))))))) else(some (.done l11)))
def Cg(a0:TFunc):(Kc×Int)->Option (LR (Kc×Int) (Kc ⊕ (TGraph×Int))):=
 λ((l1,i2):(Kc×Int))=>(bif (decide (i2<(a0.Blocks.length:Int))) then(Aw (As i2 a0.Blocks.length) (Aw (((bif (decide (((a0.Blocks.getD i2.toNat default).End.Kind:Int)<0)) then true else(decide ((3:Int)<(a0.Blocks.getD i2.toNat default).End.Kind)))==false)=true->(As (a0.Blocks.getD i2.toNat default).End.Kind ([(0:Int),(1:Int),(2:Int),(0:Int)]:Ao).length)) (bif (bif (bif (decide (((a0.Blocks.getD i2.toNat default).End.Kind:Int)<0)) then true else(decide ((3:Int)<(a0.Blocks.getD i2.toNat default).End.Kind))) then true else((((a0.Blocks.getD i2.toNat default).End.To).length:Int)!=(([(0:Int),(1:Int),(2:Int),(0:Int)]:Ao).getD ((a0.Blocks.getD i2.toNat default).End.Kind).toNat (0:Int)))) then(some (.done (.inr ((⟨([]:Kc),([]:Kc)⟩:TGraph),(5:Int))))) else((Ad (E0 a0 i2) (0:Int)).bind (λx9=>(match x9 with|(.inl _)=>((Ad (Hb a0 i2) (([]:Ao),(1:Int))).bind (λx19=>(Aw (l1.length+([x19]:Kc).length<=room) (some (.next ((l1++([x19]:Kc)),(w64 (i2+1))))))))|(.inr r22)=>(some (.done (.inr r22))))))))) else(some (.done (.inl l1))))
def Ud(Γ:H6)(a0:TFunc)(r:iL):Exit->St->Prop:=fK Tryz.prog Γ Tryz.f47.results.toList [] (.tuple [(fA r.1),(Z6 r.2)]) []
def fN:AV:=UT
def HM(a0:TFunc)(i2:Int):=(a0.Blocks.getD i2.toNat default)
def FY:AV:=yA
def wH:AV:=(.agg [fN,fN])
def kq:=(⟨[Ob,(3,(.int .i64 (5:Int)))],[(mo FY)],[]⟩:St)
def wF(a0:TFunc)(i2:Int)(i6:Int):=(decide ((((HM a0 i2).End.To).getD i6.toNat 0)<=0))
def nM(a0:TFunc):List AV:=(Z5 a0.Params a0.Ret a0.Blocks)
def wG:=(⟨[Ob,(3,(.int .i64 (5:Int)))],[(2,.row 97 [Z93,Z93])],[]⟩:St)
def nL(a0:TFunc)(i2:Int):=(bif (decide (((HM a0 i2).End.Kind:Int)<0)) then true else(decide ((3:Int)<(HM a0 i2).End.Kind)))
def yg(a0:TFunc):=(⟨[Zo,Ob,(4,(JT a0.Blocks.length)),(5,(AV.list 1 Km [] ([]:Kc) (.own 5005))),(6,Lc)],[(1,.row 25 (nM a0)),(mo fN),(5005,.tok 1 22 (([]:Kc).length))],[]⟩:St)
def yf(a0:TFunc)(l1:Kc)(i2:Int):=(⟨[Zo,Ob,(4,(JT a0.Blocks.length)),(5,(rR l1 5005)),(6,(Z6 i2)),JV,(8,(AV.list 1 An 0 ([]:Ao) (.own 5008))),(10,mn)],[(1,.row 25 (nM a0)),(mo fN),(7,.row 46 [(.int .i64 (HM a0 i2).End.Kind),(.int .i64 (HM a0 i2).End.Arg),(AV.list 1 An 0 (HM a0 i2).End.To .none)]),(5005,.tok 1 22 l1.length),(5008,.tok 1 3 (([]:Ao).length))],[]⟩:St)
def Hl(a0:TFunc):Option iL:=
 (bif (bif ((a0.Blocks.length:Int)==0) then true else(decide ((64:Int)<(a0.Blocks.length:Int)))) then(some ((⟨([]:Kc),([]:Kc)⟩:TGraph),(5:Int))) else((Ad (Cg a0) (([]:Kc),(0:Int))).bind (λx23=>(match x23 with|(.inl l3)=>((H2 l3).bind λx25=>(some (x25.1,x25.2)))|(.inr r26)=>(some r26)))))
theorem Ox(h:Hl v0=some v16):sP 47 [(Y1 v0)] [] (.tuple [(fA v16.1),(Z6 v16.2)]) []:=
 sG Tryz.func47 λΓ q=>tW q Nj Nj DH Nj (tU q [1,2,4,19] Nj (c2 (gI (((v0.Blocks.length:Int)==0)==false)) (I9 ((v0.Blocks.length:Int)==0))) (gC h (λh=>gR q Cc [2] [(20,(.agg [FY,FY]))] [] (c1 (show(AVle wH (.agg [FY,FY])) from(AVle.agg (.cons Dv (.cons Dv .nil))))) (O8 kq (tS h (gK (e:=.ret) (H7 [] (show Le Γ _ wG from Le.trans (A8 (st':=kq) Cc [2] q) (Gw (.cons (AVle.refl _) (.cons (AVle.refl _) .nil)) (.row (.cons AVle.untag (.cons AVle.untag .nil)) .nil)))))))) λh=>gR q TZ Nj [(5,FY)] [] (c1 (Bd 1 Km [])) (Ae q LU Nj (M3 (st':=(yg v0)) (Le.trans (A8 (st':=⟨[Zo,Ob,(4,(JT v0.Blocks.length)),(5,FY),(6,Lc)],[(1,.row 25 (nM v0)),(mo fN)],[]⟩) LU Nj q) (Le.trans (Ld (t:=5) (nm:=5005) (sz':=1) (λi=>Km (([]:Kc).getD i [])) 22 rfl rfl (.inl ⟨rfl,rfl⟩) (λh_=>absurd h_ (by decide))) (A8 (st':=(yg v0)) LU UD q))) (tL q h LU UD (λu (l1,i2)=>(Cn u [(5,(rR l1 5005)),(6,(Z6 i2))] [(5005,.tok 1 22 l1.length)])) (λu x_=>match x_ with|(.inl l3)=>aG Γ (.exit 0) (Ng Tf [2,5005] u [(5,(rR l3 5005))] [(5005,.tok 1 22 l3.length)])|(.inr r_)=>aR (Ud Γ v0 r_)) (λ⟨l1,i2⟩ y h=>Ae q [1,2,4,5,6,23] UD (gC h (λh=>tV q [1,2,4,5,6,7] Zi h λh=>tC h λc5_ h=>gR q [1,2,4,5,6,7,50] Zi [(44,(AV.list 1 An 0 ([(0:Int),(1:Int),(2:Int),(0:Int)]:Ao) .exact))] [] (Kb ((decide (((HM v0 i2).End.Kind:Int)<0))==false) (ci (I9 (decide (((HM v0 i2).End.Kind:Int)<0))) (Kb ((nL v0 i2)==false) (ci (show(((nL v0 i2)==false)=true->(AVle (.slice 1 4 (λi=>([[Lc],[mn],[(.int .i64 (2:Int))],[Lc]]:List (List AV)).getD i []) .exact) (AV.list 1 An 0 ([(0:Int),(1:Int),(2:Int),(0:Int)]:Ao) .exact))) from(λhg=>@(Az 1 An (0:Int) ([(0:Int),(1:Int),(2:Int),(0:Int)]:Ao)))) (Si ((nL v0 i2)==false) (ci c5_ (Si ((nL v0 i2)==false) (c1 (I9 (nL v0 i2)))))))))) (gC h (λh=>gR q Cc [2] [(51,(.agg [FY,FY]))] [] (c1 (show(AVle wH (.agg [FY,FY])) from(AVle.agg (.cons Dv (.cons Dv .nil))))) (O8 kq (tS h (gO (Mp (H7 [] (show Le Γ _ wG from Le.trans (A8 (st':=kq) Cc [2] q) (Gw (.cons (AVle.refl _) (.cons (AVle.refl _) .nil)) (.row (.cons AVle.untag (.cons AVle.untag .nil)) .nil))))))))) λh=>gR q iV Zi [(8,jM)] [] (c1 (Bd 1 An (0:Int))) (Ae q iR Zi (tL q h iR Zi (λu i6=>(Cn u [(9,(Z6 i6))] [])) (λu x_=>match x_ with|(.inl _)=>aG Γ (.exit 2) (Ng iV Zi u [] [])|(.inr r_)=>aR (Ud Γ v0 r_)) (λi6 y h=>Ae q [1,2,4,5,6,7,8,9,56] Zi (gC h (λh=>tC h λc7_ h=>tC h λc8_ h=>tU q [1,2,4,5,6,7,8,9,73] Zi (ci c7_ (Si ((wF v0 i2 i6)==false) (ci c8_ (Si ((wF v0 i2 i6)==false) (c1 (I9 (wF v0 i2 i6))))))) (gC h (λh=>gR q Cc [2] [(74,(.agg [FY,FY]))] [] (c1 (show(AVle wH (.agg [FY,FY])) from(AVle.agg (.cons Dv (.cons Dv .nil))))) (O8 kq (tS h (gO (Mp (H7 [] (show Le Γ _ wG from Le.trans (A8 (st':=kq) Cc [2] q) (Gw (.cons (AVle.refl _) (.cons (AVle.refl _) .nil)) (.row (.cons AVle.untag (.cons AVle.untag .nil)) .nil))))))))) λh=>Ae q iR Zi (tN h))) λh=>tS h (gO (A3 (A8 iV Zi q))))) λx9 h=>(match x9,h with | .inl _,h=>gA (Ae q UL Zi (M3 (st':=(yf v0 l1 i2)) (Le.trans (A8 (st':=⟨[Zo,Ob,(4,(JT v0.Blocks.length)),(5,(rR l1 5005)),(6,(Z6 i2)),JV,(8,jM),(10,mn)],[(1,.row 25 (nM v0)),(mo fN),(7,.row 46 [(.int .i64 (HM v0 i2).End.Kind),(.int .i64 (HM v0 i2).End.Arg),(AV.list 1 An 0 (HM v0 i2).End.To .none)]),(5005,.tok 1 22 l1.length)],[]⟩) UL Zi q) (Le.trans (Ld (t:=8) (nm:=5008) (sz':=1) (λi=>An (([]:Ao).getD i 0)) 3 rfl rfl (.inl ⟨rfl,rfl⟩) (λh_=>absurd h_ (by decide))) (A8 (st':=(yf v0 l1 i2)) UL UN q))) (tL q h UL UN (λu (l11,i12)=>(Cn u [(8,(HO l11 5008)),(10,(Z6 i12))] [(Ts 5008 l11.length)])) (λu l13=>aG Γ (.exit 4) (Ng [1,2,4,5,6,8] [1,2,5005,5008] u [(8,(HO l13 5008))] [(Ts 5008 l13.length)])) (λ⟨l11,i12⟩ y h=>Ae q [1,2,4,5,6,7,8,10,77] UN (gC h (λh=>tB h λx17 y17 h=>gJ y17 (λl14=>aG Γ .normal (⟨[Zo,Ob,(4,(JT v0.Blocks.length)),(5,(rR l1 5005)),(6,(Z6 i2)),JV,(8,(HO l14 5008)),(10,(Z6 i12))],[(1,.row 25 (nM v0)),(mo fN),(7,.row 46 [(.int .i64 (HM v0 i2).End.Kind),(.int .i64 (HM v0 i2).End.Arg),(AV.list 1 An 0 (HM v0 i2).End.To .none)]),(5005,.tok 1 22 l1.length),(Ts 5008 l14.length)],[]⟩:St)) (λy h=>tB h λx15 y15 h=>tT q [1,2,4,5,6,7,8,10,83] UN [(Z7 x15)] (c1 (N4 y15)) (gC h (λh=>tC h λc16_ h=>gR q UL UN [(86,(ml i12)),(87,(AV.list 1 An 0 (l11++([i12]:Ao)) (.own 5008)))] [] (c5 (Az 1 An (0:Int) ([i12]:Ao)) (Eq.refl l11.length) c16_ (Cv 1 5008 An (0:Int) l11 ([i12]:Ao)) (Bs l11 ([i12]:Ao))) (tS h (gK (A3 Gv)))) λh=>tS h (gK (A3 (A8 UL UN q))))) (gA (Ae q UL UN (tN h)))) λh=>tS h (gO (A3 (A8 [1,2,4,5,6,8] [1,2,5005,5008] q))))) λx19 h=>gA (tC h λc21_ h=>gR q LU UD [(90,(AV.list 1 Km [] ([x19]:Kc) .exact)),(91,(AV.list 1 Km [] (l1++([x19]:Kc)) (.own 5005)))] [] (c5 (Az 1 Km [] ([x19]:Kc)) (Eq.refl l1.length) c21_ (Cv 1 5005 Km [] l1 ([x19]:Kc)) (Bs l1 ([x19]:Kc))) (Ae q LU UD (tN h)))))) | .inr r22,h=>gAr (λst' hk=>tS h (gO (Mp hk)))))))) λh=>tS h (gO (A3 (A8 Tf [2,5005] q))))) λx23 h=>(match x23,h with | .inl l3,h=>gA (tB h λx25 y25 h=>tT q Cc [2] [(wi x25.1 x25.2)] (c1 (Rw y25)) (tS h (Bq []))) | .inr r26,h=>gAr (λst' hk=>tS h (gK hk))))))))
def A4(a4:TGraph)(aO:Int)(i6:Int):WK->Option qi:=
 λ((i9,l10):WK)=>(Aw (As i6 l10.length) (Aw (((l10.getD i6.toNat false)==true)=true->(As i6 a4.Succ.length)) (bif (bif (l10.getD i6.toNat false) then(decide (i9<((a4.Succ.getD i6.toNat []).length:Int))) else false) then(Option.bind (α:=List Bool) (Aw (As i6 a4.Succ.length) (Aw (As i9 (a4.Succ.getD i6.toNat []).length) (bif (((a4.Succ.getD i6.toNat []).getD i9.toNat 0)!=aO) then(Aw (As i6 a4.Succ.length) (Aw (As i9 (a4.Succ.getD i6.toNat []).length) (Aw (As ((a4.Succ.getD i6.toNat []).getD i9.toNat 0) l10.length) (some (l10.set ((a4.Succ.getD i6.toNat []).getD i9.toNat 0).toNat true))))) else(some l10)))) (λx20=>(some (.next ((w64 (i9+1)),x20))))) else(some (.done l10)))))
def A5(a4:TGraph)(aO:Int):WK->Option qi:=
 λ((i6,l7):WK)=>(bif (decide (i6<(l7.length:Int))) then((Ad (A4 a4 aO i6) ((0:Int),l7)).bind (λx22=>(some (.next ((w64 (i6+1)),x22))))) else(some (.done l7)))
def A6(a4:TGraph)(aO:Int):WK->Option qi:=
 λ((i3,l4):WK)=>(bif (decide (i3<(l4.length:Int))) then((Ad (A5 a4 aO) ((0:Int),l4)).bind (λx24=>(some (.next ((w64 (i3+1)),x24))))) else(some (.done l4)))
def yi(l10:List Bool)(i6:Int):=((l10.getD i6.toNat false)==true)
def JU(a4:TGraph):=(List.replicate (a4.Succ.length:Int).toNat false)
def kr(a4:TGraph):=(λi=>eB ((JU a4).getD i false))
def sK(a4:TGraph)(i6:Int)(i9:Int):=((a4.Succ.getD i6.toNat []).getD i9.toNat 0)
def Cy(a4:TGraph)(a1:Int)(aO:Int):Option (List Bool):=
 (Aw (0<=(a4.Succ.length:Int)/\(a4.Succ.length:Int)<=(a4.Succ.length:Int)/\(a4.Succ.length:Int)<=(room:Int)) (bif (a1==aO) then(some (List.replicate (a4.Succ.length:Int).toNat false)) else(Aw (As a1 (List.replicate (a4.Succ.length:Int).toNat false).length) ((Ad (A6 a4 aO) ((0:Int),((List.replicate (a4.Succ.length:Int).toNat false).set a1.toNat true))).bind (λx26=>(some x26))))))
variable{v18:TGraph}{v53:List Bool}
theorem Ml(h:Cy v18 v1 v11=some v53):sP 78 [(fA v18),(Z6 v1),(Z6 v11)] [] (VE v53 20000) [(Sh 20000 v53.length)]:=
 sG Tryz.func78 λΓ q=>have hΓ:=q.own;gR q [1,2,3] [3] [(6,(AV.list 1 eB false ([]:List Bool) .exact))] [] (c1 (Bd 1 eB false)) (tV q [1,2,3,7] L2 h λh=>by exact M3 (Le.trans (Vf 14 (show ∀ k_,k_<((v18.Succ.length:Int).toNat)->AVleL ((λi_=>AV.eraseAll (λn_=>B4 n_ L2) ((λ_=>[(.bool false)]) i_)) k_) ((kr v18) k_) from(λk hk=>Rd (e:=eB) (d:=false) (.cons (AVle.refl _) .nil) _ k (Rk hk)))) (Vg (λ(k_:Nat) u=>(Cn u [(V6 14 k_)] [(14,.arr 1 4 k_ (kr v18))])) (show(v18.Succ.length:Int).toNat=(JU v18).length from(S3 ..).symm))) (Ae q [1,2,3,7,17] L2 (gC h (λh=>Ae q [6] [14] (O8 (⟨[(6,(.vsl 14 (JU v18).length))],[(14,.arr 1 4 ((JU v18).length) (kr v18))],[]⟩:St) (tS h (gK (e:=.ret) (H7 jF (Le.trans (Gp (nm:=14) (sz:=1) (n:=((JU v18).length)) (e:=4) (f:=(kr v18)) (g:=(kr v18)) rfl ⟨rfl,trivial⟩ (λ_ _=>rfl) (by rw[hΓ];rfl)) (H8 (st':=⟨[(6,(VE (JU v18) 14))],[(14,.tok 1 4 ((JU v18).length))],[]⟩) (by kernel_rfl)))))))) λh=>tC h λc2_ h=>tU q [2,3,7] L2 (c2 c2_ (Eq.refl ((JU v18).length))) (M3 (Le.trans (Vf 14 (show ∀ k_,k_<((JU v18).length)->AVleL ((λi_=>AV.eraseAll (λn_=>B4 n_ L2) ((Fd (kr v18) v1.toNat 0 [(.bool true)]) i_)) k_) ((λi=>eB (((JU v18).set v1.toNat true).getD i false)) k_) from(Bl (D0 ..).symm (λk_ hk_=>(Bn (AV.eraseAll (λn_=>B4 n_ L2)) ((Hg (λ_ _=>rfl) (J1 c2_) rfl) k_ hk_)).trans rfl)))) (Vg (λ(k_:Nat) u=>(Cn u [(V6 14 k_)] [(14,.arr 1 4 k_ (λi=>eB (((JU v18).set v1.toNat true).getD i false)))])) (show(JU v18).length=((JU v18).set v1.toNat true).length from(D0 ..).symm))) (Ae q UE L2 (tL q h UE L2 (λu (i3,l4)=>(Cn u [(V6 14 l4.length),(8,(Z6 i3))] [(lC 14 l4)])) (λu l5=>aG Γ (.exit 0) (⟨[(V6 14 l5.length)],[(lC 14 l5)],[]⟩:St)) (λ⟨i3,l4⟩ y h=>Ae q [2,3,7,8,25] L2 (gC h (λh=>Ae q TS L2 (tL q h TS L2 (λu (i6,l7)=>(Cn u [(V6 14 l7.length),(9,(Z6 i6))] [(lC 14 l7)])) (λu l8=>aG Γ (.exit 2) (Ng UE L2 u [(V6 14 l8.length)] [(lC 14 l8)])) (λ⟨i6,l7⟩ y h=>Ae q [2,3,7,8,9,31] L2 (gC h (λh=>Ae q TH L2 (tL q h TH L2 (λu (i9,l10)=>(Cn u [(V6 14 l10.length),(10,(Z6 i9))] [(lC 14 l10)])) (λu l11=>aG Γ (.exit 4) (Ng TS L2 u [(V6 14 l11.length)] [(lC 14 l11)])) (λ⟨i9,l10⟩ y h=>tC h λc12_ h=>tC h λc13_ h=>tU q [2,3,7,8,9,10,47] L2 (QD c12_ (Eq.refl l10.length) (Si (yi l10 i6) (ci c13_ (QL (yi l10 i6) (c1 (Na (l10.getD i6.toNat false))))))) (gC h (λh=>tB h λx20 y20 h=>gJ y20 (λl14=>aG Γ .normal (⟨[(2,(Z6 v11)),JX,(V6 14 l14.length),(8,(Z6 i3)),(9,(Z6 i6)),(10,(Z6 i9))],[(3,.row 97 [(FZ v18.Succ),(FZ v18.Pred)]),(lC 14 l14)],[]⟩:St)) (λy h=>tC h λc15_ h=>tC h λc16_ h=>tU q [2,3,7,8,9,10,59] L2 (c2 c15_ c16_) (gC h (λh=>tC h λc17_ h=>tC h λc18_ h=>tC h λc19_ h=>tU q TH L2 (c4 c17_ c18_ c19_ (Eq.refl l10.length)) (tS h (gK (A3 (Le.trans (Le.trans (Vf 14 (show ∀ k_,k_<l10.length->AVleL ((λi_=>AV.eraseAll (λn_=>B4 n_ L2) ((Fd (λi=>eB (l10.getD i false)) (sK v18 i6 i9).toNat 0 [(.bool true)]) i_)) k_) ((λi=>eB ((l10.set (sK v18 i6 i9).toNat true).getD i false)) k_) from(Bl (D0 ..).symm (λk_ hk_=>(Bn (AV.eraseAll (λn_=>B4 n_ L2)) ((Hg (λ_ _=>rfl) (J1 c19_) rfl) k_ hk_)).trans rfl)))) (Vg (λ(k_:Nat) u=>(Cn u [(V6 14 k_)] [(14,.arr 1 4 k_ (λi=>eB ((l10.set (sK v18 i6 i9).toNat true).getD i false)))])) (show l10.length=(l10.set (sK v18 i6 i9).toNat true).length from(D0 ..).symm))) Gv))))) λh=>tS h (gK (A3 (A8 TH L2 q))))) (gA (Ae q TH L2 (tN h)))) λh=>tS h (gO (A3 (A8 TS L2 q))))) λx22 h=>gA (Ae q TS L2 (tN h)))) λh=>tS h (gO (A3 (A8 UE L2 q))))) λx24 h=>gA (Ae q UE L2 (tN h)))) λh=>tS h (gO (A3 (A8 [7] [14] q))))) λx26 h=>gA (Ae q [6] [14] (O8 (⟨[(6,(.vsl 14 x26.length))],[(lC 14 x26)],[]⟩:St) (tS h (gK (e:=.ret) (H7 jF (Le.trans (Gp (nm:=14) (sz:=1) (n:=x26.length) (e:=4) (f:=(λi=>eB (x26.getD i false))) (g:=(λi=>eB (x26.getD i false))) rfl ⟨rfl,trivial⟩ (λ_ _=>rfl) (by rw[hΓ];rfl)) (H8 (st':=⟨[(6,(VE x26 14))],[(Sh 14 x26.length)],[]⟩) (by kernel_rfl))))))))))))))
def E6(a0:TFunc)(x1:iL)(i3:Int):Int->Option (LR Int (Unit ⊕ Bool)):=
 λ(i6:Int)=>(bif (decide (i6<(((a0.Blocks.getD i3.toNat default).Phis).length:Int))) then(Aw (As i6 ((a0.Blocks.getD i3.toNat default).Phis).length) (Aw (As i3 x1.1.Pred.length) ((Ck ((((a0.Blocks.getD i3.toNat default).Phis).getD i6.toNat default).From) (x1.1.Pred.getD i3.toNat [])).bind λx9=>(Aw (((!x9)==false)=true->(As i6 ((a0.Blocks.getD i3.toNat default).Phis).length)) (Aw (((!x9)==false)=true->(As i3 x1.1.Pred.length)) (bif (bif (!x9) then true else((((((a0.Blocks.getD i3.toNat default).Phis).getD i6.toNat default).Args).length:Int)!=((x1.1.Pred.getD i3.toNat []).length:Int))) then(some (.done (.inr false))) else(some (.next (w64 (i6+1)))))))))) else(some (.done (.inl ()))))
def E7(a0:TFunc)(x1:iL)(x2:List Bool):Int->Option (LR Int (Unit ⊕ Bool)):=
 λ(i3:Int)=>(bif (decide (i3<(a0.Blocks.length:Int))) then(Aw (As i3 a0.Blocks.length) (Aw (As i3 x2.length) (bif (bif (!(x2.getD i3.toNat false)) then true else(bif (bif (((a0.Blocks.getD i3.toNat default).End.Kind:Int)==1) then true else(((a0.Blocks.getD i3.toNat default).End.Kind:Int)==3)) then(((a0.Blocks.getD i3.toNat default).End.Arg:Int)!=0) else false)) then(some (.done (.inr false))) else((Ad (E6 a0 x1 i3) (0:Int)).bind (λx12=>(match x12 with|(.inl _)=>(some (.next (w64 (i3+1))))|(.inr r14)=>(some (.done (.inr r14))))))))) else(some (.done (.inl ()))))
def Rs(Γ:H6)(a0:TFunc)(r:Bool):Exit->St->Prop:=fK Tryz.prog Γ Tryz.f41.results.toList [] (.bool r) []
def ZJ(x2:List Bool)(i3:Int):=((!(x2.getD i3.toNat false))==false)
def fO(a0:TFunc)(i3:Int):=((a0.Blocks.getD i3.toNat default).End.Kind:Int)
def yj(x2:List Bool)(i3:Int)(a0:TFunc):=((ZJ x2 i3)&&((bif ((fO a0 i3)==1) then true else((fO a0 i3)==3))==true))
def J8(a0:TFunc):Option Bool:=
 ((Hl a0).bind λx1=>(bif (x1.2 !=0) then(some false) else((Cy x1.1 (0:Int) (-1:Int)).bind λx2=>((Ad (E7 a0 x1 x2) (0:Int)).bind (λx15=>(match x15 with|(.inl _)=>(some true)|(.inr r17)=>(some r17)))))))
theorem Yj(h:J8 v0=some v3):sP 41 [(Y1 v0)] [] (.bool v3) []:=
 sG Tryz.func41 λΓ q=>Ae q [1] [1] (tB h λx1 y1 h=>tT q Hp I8 [(wi x1.1 x1.2)] (c1 (Ox y1)) (Ae q [1,3,15] I8 (gC h (λh=>Ae q [2] [] (tS h (Bq []))) λh=>tB h λx2 y2 h=>tT q HF HD [⟨[],[(20000,17)],(VE x2 20000),[(Sh 20000 x2.length)],[],[]⟩] (c1 (Ml y2)) (Ae q JO HD (tL q h JO HD (λu i3=>(Cn u [(6,(Z6 i3))] [])) (λu x_=>match x_ with|(.inl _)=>aG Γ (.exit 0) (⟨[],[],[]⟩:St)|(.inr r_)=>aR (Rs Γ v0 r_)) (λi3 y h=>Ae q [1,3,5,6,22] HD (gC h (λh=>tV q TT HB h λh=>tC h λc5_ h=>tU q [1,3,5,6,7,52] HB (ci c5_ (QL (ZJ x2 i3) (Si ((ZJ x2 i3)&&(((fO v0 i3)==1)==false)) (bu (gI (ZJ x2 i3)) (show((ZJ x2 i3)=true->(((fO v0 i3)==1)=false->((ZJ x2 i3)&&(((fO v0 i3)==1)==false))=true)) from(λhg=>(aF hg))) (gI (ZJ x2 i3)) (Si (yj x2 i3 v0) (c3 (gI (ZJ x2 i3)) (show((ZJ x2 i3)=true->((bif ((fO v0 i3)==1) then true else((fO v0 i3)==3))=true->(yj x2 i3 v0)=true)) from(λhg=>(aT hg))) (I9 (!(x2.getD i3.toNat false))))))))) (gC h (λh=>Ae q [2] [] (tS h (gO (Mp (H7 [] (Le.refl _ _)))))) λh=>Ae q ic HB (tL q h ic HB (λu i6=>(Cn u [(8,(Z6 i6))] [])) (λu x_=>match x_ with|(.inl _)=>aG Γ (.exit 2) (Ng JO HD u [] [])|(.inr r_)=>aR (Rs Γ v0 r_)) (λi6 y h=>Ae q [1,3,5,6,7,8,57] HB (gC h (λh=>tC h λc7_ h=>tC h λc8_ h=>tB h λx9 y9 h=>tC h λc10_ h=>tC h λc11_ h=>tT q [1,3,5,6,7,8,88] HB [(Z7 x9)] (bu c7_ c8_ (Hd y9) (Si ((!x9)==false) (ci c10_ (gI6 ((!x9)==false) (ci c11_ (QL ((!x9)==false) (c1 (I9 (!x9))))))))) (gC h (λh=>Ae q [2] [] (tS h (gO (Mp (H7 [] (Le.refl _ _)))))) λh=>Ae q ic HB (tN h))) λh=>tS h (gO (A3 (A8 JO HD q))))) λx12 h=>(match x12,h with | .inl _,h=>gA (Ae q JO HD (tN h)) | .inr r14,h=>gAr (λst' hk=>tS h (gO (Mp hk))))))) λh=>tS h (gO (A3 (A8 [] [] q))))) λx15 h=>(match x15,h with | .inl _,h=>gA (Ae q [2] [] (tS h (Bq []))) | .inr r17,h=>gAr (λst' hk=>tS h (gK hk))))))))
def sL(aI:Int):=(bif (bif (aI==1) then true else(aI==8)) then true else(aI==16))
def C0(aI:Int):Option Bool:=
 (some (bif (bif (bif (bif (aI==1) then true else(aI==8)) then true else(aI==16)) then true else(aI==32)) then true else(aI==64)))
theorem Ec(h:C0 v1=some v3):sP 79 [(Z6 v1)] [] (.bool v3) []:=
 sG Tryz.func79 λΓ q=>Ae q [0] [] (tU q [2] [] (c8 (gI ((v1==1)==false)) (I9 (v1==1)) (gI ((bif (v1==1) then true else(v1==8))==false)) (I9 (bif (v1==1) then true else(v1==8))) (gI ((sL v1)==false)) (I9 (sL v1)) (gI ((bif (sL v1) then true else(v1==32))==false)) (I9 (bif (sL v1) then true else(v1==32)))) (tS h (Bq [])))
def nN(aV:Int):=(bif (aV==2) then true else(aV==4))
def wI(aV:Int):=(bif (bif (nN aV) then true else(aV==8)) then true else(aV==16))
def yk(aV:Int)(aI:Int):=(bif (wI aV) then(decide ((1:Int)<aI)) else false)
def J6(aI:Int)(aV:Int):Option Bool:=
 ((C0 aI).bind λx1=>(bif (!x1) then(some false) else(bif (aV==1) then(some true) else(some (bif (bif (bif (bif (bif (aV==2) then true else(aV==4)) then true else(aV==8)) then true else(aV==16)) then(decide ((1:Int)<aI)) else false) then(decide (((w64 (aI*aV)):Int)<=128)) else false)))))
theorem Ye(h:J6 v1 v11=some v3):sP 136 [(Z6 v1),(Z6 v11)] [] (.bool v3) []:=
 sG Tryz.func136 λΓ q=>Ae q Fg [] (tB h λx1 y1 h=>tT q [0,1,7] [] [(Z7 x1)] (c1 (Ec y1)) (gC h (λh=>Ae q [4] [] (tS h (Bq []))) λh=>Ae q [0,1,9] [] (gC h (λh=>Ae q [4] [] (tS h (Bq []))) λh=>tU q [4] [] (d8_ (gI ((v11==2)==false)) (I9 (v11==2)) (gI ((nN v11)==false)) (I9 (nN v11)) (gI ((bif (nN v11) then true else(v11==8))==false)) (I9 (bif (nN v11) then true else(v11==8))) (gI ((wI v11)==true)) (Na (wI v11)) (Si ((yk v11 v1)==true) (c1 (Na (yk v11 v1))))) (tS h (Bq [])))))
def wJ(a2:A2):List OQ:=[(1,.row 51 (vQ a2.Kind a2.Bits a2.Lanes a2.Dst a2.Args a2.Imm))]
def Ky(a2:A2):Option Int:=
 (bif (a2.Kind==0) then(some (0:Int)) else(Option.bind (α:=Bool) (bif (a2.Kind==1) then(some (a2.Kind==1)) else(bif (a2.Kind==2) then(some (a2.Kind==2)) else(bif (a2.Kind==3) then(some (a2.Kind==3)) else(bif (a2.Kind==4) then(some (a2.Kind==4)) else(bif (a2.Kind==5) then(some (a2.Kind==5)) else(bif (a2.Kind==6) then(some (a2.Kind==6)) else(bif (a2.Kind==7) then(some (a2.Kind==7)) else(bif (a2.Kind==8) then(some (a2.Kind==8)) else(bif (a2.Kind==9) then(some (a2.Kind==9)) else(bif (a2.Kind==10) then(some (a2.Kind==10)) else(bif (a2.Kind==11) then(some (a2.Kind==11)) else(bif (a2.Kind==12) then(some (a2.Kind==12)) else(some (a2.Kind==17)))))))))))))) (λx2=>(bif x2 then(some (2:Int)) else(Option.bind (α:=Bool) (bif (a2.Kind==13) then(some (a2.Kind==13)) else(bif (a2.Kind==18) then(some (a2.Kind==18)) else(some (a2.Kind==19)))) (λx5=>(bif x5 then(some (3:Int)) else(Option.bind (α:=Bool) (bif (a2.Kind==14) then(some (a2.Kind==14)) else(bif (a2.Kind==15) then(some (a2.Kind==15)) else(bif (a2.Kind==16) then(some (a2.Kind==16)) else(some (a2.Kind==22))))) (λx8=>(bif x8 then(some (1:Int)) else(bif (a2.Kind==20) then(some (4:Int)) else(bif (a2.Kind==21) then(some a2.Lanes) else(some (-1:Int))))))))))))))
variable{v6:A2}
theorem Zz(h:Ky v6=some v1):sP 137 [(UU v6)] [] (.int .i64 v1) []:=
 sG Tryz.func137 λΓ q=>tW q [1] [1] R5 [1] (Ae q [1,4,5] [1] (gC h (λh=>Ae q [2] [] (tS h (Bq []))) λh=>tB h λx2 y2 h=>gJ y2 (λb1=>aG Γ .normal (⟨[Zo,(4,(Z6 v6.Kind)),(7,(.bool b1))],(wJ v6),[]⟩:St)) (λy h=>Ae q Xl [1] (gC h (λh=>tS h (gK (A3 Gv))) λh=>Ae q Xl [1] (gC h (λh=>tS h (gK (A3 Gv))) λh=>Ae q Xl [1] (gC h (λh=>tS h (gK (A3 Gv))) λh=>Ae q Xl [1] (gC h (λh=>tS h (gK (A3 Gv))) λh=>Ae q Xl [1] (gC h (λh=>tS h (gK (A3 Gv))) λh=>Ae q Xl [1] (gC h (λh=>tS h (gK (A3 Gv))) λh=>Ae q Xl [1] (gC h (λh=>tS h (gK (A3 Gv))) λh=>Ae q Xl [1] (gC h (λh=>tS h (gK (A3 Gv))) λh=>Ae q Xl [1] (gC h (λh=>tS h (gK (A3 Gv))) λh=>Ae q Xl [1] (gC h (λh=>tS h (gK (A3 Gv))) λh=>Ae q Xl [1] (gC h (λh=>tS h (gK (A3 Gv))) λh=>Ae q Xl [1] (gC h (λh=>tS h (gK (A3 Gv))) λh=>Ae q Xl [1] (tS h (gK (A3 Gv)))))))))))))))) (gA (gC h (λh=>Ae q [2] [] (tS h (Bq []))) λh=>tB h λx5 y5 h=>gJ y5 (λb4=>aG Γ .normal (⟨[Zo,(4,(Z6 v6.Kind)),(21,(.bool b4))],(wJ v6),[]⟩:St)) (λy h=>Ae q [1,4,21] [1] (gC h (λh=>tS h (gK (A3 Gv))) λh=>Ae q [1,4,21] [1] (gC h (λh=>tS h (gK (A3 Gv))) λh=>Ae q [1,4,21] [1] (tS h (gK (A3 Gv)))))) (gA (gC h (λh=>Ae q [2] [] (tS h (Bq []))) λh=>tB h λx8 y8 h=>gJ y8 (λb7=>aG Γ .normal (⟨[Zo,(4,(Z6 v6.Kind)),(25,(.bool b7))],(wJ v6),[]⟩:St)) (λy h=>Ae q [1,4,25] [1] (gC h (λh=>tS h (gK (A3 Gv))) λh=>Ae q [1,4,25] [1] (gC h (λh=>tS h (gK (A3 Gv))) λh=>Ae q [1,4,25] [1] (gC h (λh=>tS h (gK (A3 Gv))) λh=>Ae q [1,4,25] [1] (tS h (gK (A3 Gv))))))) (gA (gC h (λh=>Ae q [2] [] (tS h (Bq []))) λh=>Ae q [1,4,30] [1] (gC h (λh=>Ae q [2] [] (tS h (Bq []))) λh=>Ae q [1,32] [1] (gC h (λh=>Ae q [2] [] (tS h (Bq []))) λh=>Ae q [2] [] (tS h (Bq []))))))))))))
def Lr(aC:Int)(aI:Int):Option Int:=
 ((C0 aI).bind λx1=>(bif (!x1) then(some (0:Int)) else(bif (aI==64) then(some aC) else(Aw (0<=(Fl aI)) (Aw ((SN .u64 (1:Int) (Fl aI))≠0) (some (Int.tmod aC (SN .u64 (1:Int) (Fl aI)))))))))
theorem CB(h:Lr v1 v11=some v20):sP 174 [(JY v1),(Z6 v11)] [] (.int .u64 v20) []:=
 sG Tryz.func174 λΓ q=>Ae q Fg [] (tB h λx1 y1 h=>tT q [0,1,7] [] [(Z7 x1)] (c1 (Ec y1)) (gC h (λh=>Ae q [4] [] (tS h (Bq []))) λh=>Ae q [0,1,9] [] (gC h (λh=>Ae q [4] [] (tS h (Bq []))) λh=>tC h λc2_ h=>tC h λc3_ h=>tU q [4] [] (c2 c2_ c3_) (tS h (Bq [])))))
def AO(Γ:H6)(a2:A2)(r:Bool):Exit->St->Prop:=fK Tryz.prog Γ Tryz.f138.results.toList [] (.bool r) []
def yl(a2:A2):=(a2.Kind==15)
def nP(a2:A2):=((a2.Kind==4)==false)
def wM(a2:A2):=(decide (a2.Imm<(Fl a2.Bits)))
def wO(a2:A2):=(bif (a2.Kind==4) then true else(bif (decide ((10:Int)<=a2.Kind)) then(decide (a2.Kind<=12)) else false))
def sM(a2:A2):=(bif (wO a2) then true else(a2.Kind==14))
def nQ(a2:A2):=((bif (sM a2) then true else(yl a2))==false)
def wN(a2:A2):=(bif (decide ((16:Int)<=a2.Kind)) then(decide (a2.Kind<=19)) else false)
def nO(a2:A2):=(bif (wN a2) then(decide (a2.Bits<8)) else false)
def ym(a2:A2):=(((nO a2)==false)&&((decide ((21:Int)<=a2.Kind))==true))
def wK(a2:A2):=(bif (decide (((Fl a2.Bits):Int)<a2.Imm)) then(decide (a2.Imm<=64)) else false)
def Fv(a2:A2):Option Bool:=
 (Option.bind (α:=(Unit ⊕ Bool)) (bif (bif (bif (bif (bif (a2.Kind==4) then true else(bif (decide ((10:Int)<=a2.Kind)) then(decide (a2.Kind<=12)) else false)) then true else(a2.Kind==14)) then true else(a2.Kind==15)) then true else(bif (decide ((18:Int)<=a2.Kind)) then(decide (a2.Kind<=20)) else false)) then(bif (a2.Lanes !=1) then(some (.inr false)) else(some (.inl ()))) else(some (.inl ()))) (λx1=>(match x1 with|(.inl _)=>(bif (bif (bif (bif (decide ((16:Int)<=a2.Kind)) then(decide (a2.Kind<=19)) else false) then(decide (a2.Bits<8)) else false) then true else(bif (decide ((21:Int)<=a2.Kind)) then(decide (a2.Lanes<2)) else false)) then(some false) else(bif (a2.Kind==0) then((Lr a2.Imm a2.Bits).bind λx3=>(some (x3==a2.Imm))) else(bif (a2.Kind==14) then((bif ((decide (a2.Imm<(Fl a2.Bits)))==true) then C0 (w64 a2.Imm) else some false).bind λx4=>(some (bif (decide (a2.Imm<(Fl a2.Bits))) then x4 else false))) else(bif (a2.Kind==15) then((bif ((bif (decide (((Fl a2.Bits):Int)<a2.Imm)) then(decide (a2.Imm<=64)) else false)==true) then C0 (w64 a2.Imm) else some false).bind λx5=>(some (bif (bif (decide (((Fl a2.Bits):Int)<a2.Imm)) then(decide (a2.Imm<=64)) else false) then x5 else false))) else(bif (a2.Kind==22) then(some (decide (a2.Imm<(Fl a2.Lanes)))) else(some (a2.Imm==0)))))))|(.inr r6)=>(some r6))))
theorem Z0(h:Fv v6=some v3):sP 138 [(UU v6)] [] (.bool v3) []:=
 sG Tryz.func138 λΓ q=>tW q [1] [1] I8 [1] (tB h λx1 y1 h=>gJ y1 (λx_=>match x_ with|(.inl _)=>aG Γ .normal (⟨[Zo,(3,(Z6 v6.Kind))],[(1,.row 51 (vQ v6.Kind v6.Bits v6.Lanes v6.Dst v6.Args v6.Imm))],[]⟩:St)|(.inr r_)=>aR (AO Γ v6 r_)) (λy h=>tU q [1,3,31] [1] (Kb (nP v6) (d8_ (gI ((nP v6)&&((decide ((10:Int)<=v6.Kind))==true))) (gI (nP v6)) (show((nP v6)=true->((decide ((10:Int)<=v6.Kind))=true->((nP v6)&&((decide ((10:Int)<=v6.Kind))==true))=true)) from(λhg=>(aT hg))) (I9 (v6.Kind==4)) (gI ((wO v6)==false)) (I9 (wO v6)) (gI ((sM v6)==false)) (I9 (sM v6)) (Kb (nQ v6) (c4 (gI ((nQ v6)&&((decide ((18:Int)<=v6.Kind))==true))) (gI (nQ v6)) (show((nQ v6)=true->((decide ((18:Int)<=v6.Kind))=true->((nQ v6)&&((decide ((18:Int)<=v6.Kind))==true))=true)) from(λhg=>(aT hg))) (I9 (bif (sM v6) then true else(yl v6))))))) (gC h (λh=>Ae q [1,3,34] [1] (gC h (λh=>Ae q [2] [] (tS h (gK (Mp (H7 [] (Le.refl _ _)))))) λh=>tS h (gK (A3 (A8 I8 [1] q))))) λh=>tS h (gK (A3 (A8 I8 [1] q))))) (match x1,h with | .inl _,h=>gA (tU q [1,3,54] [1] (QD (gI ((decide ((16:Int)<=v6.Kind))==true)) (Na (decide ((16:Int)<=v6.Kind))) (Kb ((wN v6)==true) (ci (Na (wN v6)) (Kb ((nO v6)==false) (Kb (ym v6) (c3 (gI ((nO v6)==false)) (show(((nO v6)==false)=true->((decide ((21:Int)<=v6.Kind))=true->(ym v6)=true)) from(λhg=>(aT hg))) (I9 (nO v6)))))))) (gC h (λh=>Ae q [2] [] (tS h (Bq []))) λh=>tW q [1,55] [1] [1,55,56] [1] (gC h (λh=>tB h λx3 y3 h=>tT q [2] [] [⟨[],[],(JY x3),[],[],[]⟩] (c1 (CB y3)) (tS h (Bq []))) λh=>Ae q [1,55,66] [1] (gC h (λh=>tB h λx4 y4 h=>tT q [2] [] [(Z7 x4)] (Si ((wM v6)==true) (c2 (λ(hg:((wM v6)==true)=true)=>(Ec (Ba hg y4))) (Na (wM v6)))) (tS h (Bq []))) λh=>Ae q [1,55,80] [1] (gC h (λh=>tB h λx5 y5 h=>tT q [2] [] [(Z7 x5)] (Kb ((decide (((Fl v6.Bits):Int)<v6.Imm))==true) (ci (Na (decide (((Fl v6.Bits):Int)<v6.Imm))) (Si ((wK v6)==true) (c2 (λ(hg:((wK v6)==true)=true)=>(Ec (Ba hg y5))) (Na (wK v6)))))) (tS h (Bq []))) λh=>Ae q [1,99] [1] (gC h (λh=>Ae q [2] [] (tS h (Bq []))) λh=>Ae q [2] [] (tS h (Bq [])))))))) | .inr r6,h=>gAr (λst' hk=>tS h (gK hk))))
def Ez(aC:Int):Option Bool:=
 (some (bif (decide ((0:Int)<aC)) then(decide (aC<1024)) else false))
theorem Mk(h:Ez v1=some v3):sP 44 [(Z6 v1)] [] (.bool v3) []:=
 sG Tryz.func44 λΓ q=>Ae q [0] [] (tU q [2] [] (c2 (gI ((decide ((0:Int)<v1))==true)) (Na (decide ((0:Int)<v1)))) (tS h (Bq [])))
def Gi(a2:A2):Int->Option (LR Int (Unit ⊕ Bool)):=
 λ(i4:Int)=>(bif (decide (i4<(a2.Args.length:Int))) then(Aw (As i4 a2.Args.length) ((Ez (a2.Args.getD i4.toNat 0)).bind λx6=>(bif (!x6) then(some (.done (.inr false))) else(some (.next (w64 (i4+1))))))) else(some (.done (.inl ()))))
def EO(Γ:H6)(a2:A2)(r:Bool):Exit->St->Prop:=fK Tryz.prog Γ Tryz.f80.results.toList [] (.bool r) []
def sO(x1:Bool)(x2:Int)(a2:A2):=(bif (!x1) then true else(x2 !=(a2.Args.length:Int)))
def Gr(a2:A2):Option Bool:=
 ((J6 a2.Bits a2.Lanes).bind λx1=>((bif ((!x1)==false) then Ky a2 else some (0:Int)).bind λx2=>((bif ((bif (!x1) then true else(x2 !=(a2.Args.length:Int)))==false) then Fv a2 else some false).bind λx3=>(bif (bif (bif (!x1) then true else(x2 !=(a2.Args.length:Int))) then true else(!x3)) then(some false) else((Ad (Gi a2) (0:Int)).bind (λx7=>(match x7 with|(.inl _)=>(bif (bif (a2.Kind==17) then true else(a2.Kind==19)) then(some (a2.Dst==0)) else((Ez a2.Dst).bind λx9=>(some x9)))|(.inr r10)=>(some r10))))))))
theorem N3(h:Gr v6=some v3):sP 80 [(UU v6)] [] (.bool v3) []:=
 sG Tryz.func80 λΓ q=>Ae q [1] [1] (tB h λx1 y1 h=>tB h λx2 y2 h=>tB h λx3 y3 h=>tT q [1,22] [1] [(Z7 x1),(JS x2),(Z7 x3)] (bu (Ye y1) (gI ((!x1)==false)) (λ(hg:((!x1)==false)=true)=>(Zz (Ba hg y2))) (QL ((!x1)==false) (c5 (I9 (!x1)) (gI ((sO x1 x2 v6)==false)) (λ(hg:((sO x1 x2 v6)==false)=true)=>(Z0 (Ba hg y3))) (gI ((sO x1 x2 v6)==false)) (I9 (sO x1 x2 v6))))) (gC h (λh=>Ae q [2] [] (tS h (Bq []))) λh=>Ae q I8 [1] (tL q h I8 [1] (λu i4=>(Cn u [(3,(Z6 i4))] [])) (λu x_=>match x_ with|(.inl _)=>aG Γ (.exit 0) (Ng [1] [1] u [] [])|(.inr r_)=>aR (EO Γ v6 r_)) (λi4 y h=>Ae q [1,3,27] [1] (gC h (λh=>tC h λc5_ h=>tB h λx6 y6 h=>tT q [1,3,36] [1] [(Z7 x6)] (c2 c5_ (Mk y6)) (gC h (λh=>Ae q [2] [] (tS h (gO (Mp (H7 [] (Le.refl _ _)))))) λh=>Ae q I8 [1] (tN h))) λh=>tS h (gO (A3 (A8 [1] [1] q))))) λx7 h=>(match x7,h with | .inl _,h=>gA (tU q [1,44] [1] (Kb ((v6.Kind==17)==false) (c1 (I9 (v6.Kind==17)))) (gC h (λh=>Ae q [2] [] (tS h (Bq []))) λh=>tB h λx9 y9 h=>tT q [2] [] [(Z7 x9)] (c1 (Mk y9)) (tS h (Bq [])))) | .inr r10,h=>gAr (λst' hk=>tS h (gK hk))))))
def E8(a0:TFunc):Int->Option (LR Int (Unit ⊕ Bool)):=
 λ(i1:Int)=>(bif (decide (i1<(a0.Params.length:Int))) then(Aw (As i1 a0.Params.length) ((C0 (a0.Params.getD i1.toNat 0)).bind λx3=>(bif (!x3) then(some (.done (.inr false))) else(some (.next (w64 (i1+1))))))) else(some (.done (.inl ()))))
def Dq(a0:TFunc)(i6:Int):Int->Option (LR Int (Unit ⊕ Bool)):=
 λ(i7:Int)=>(Aw (As i6 a0.Blocks.length) (bif (decide (i7<(((a0.Blocks.getD i6.toNat default).Phis).length:Int))) then(Aw (As i6 a0.Blocks.length) (Aw (As i7 ((a0.Blocks.getD i6.toNat default).Phis).length) ((C0 ((((a0.Blocks.getD i6.toNat default).Phis).getD i7.toNat default).Bits)).bind λx11=>(bif (!x11) then(some (.done (.inr false))) else(some (.next (w64 (i7+1)))))))) else(some (.done (.inl ())))))
def Dr(a0:TFunc)(a1:Int)(i6:Int):Int->Option (LR Int (Unit ⊕ Bool)):=
 λ(i14:Int)=>(Aw (As i6 a0.Blocks.length) (bif (decide (i14<(((a0.Blocks.getD i6.toNat default).Ops).length:Int))) then(Aw (As i6 a0.Blocks.length) (Aw (As i14 ((a0.Blocks.getD i6.toNat default).Ops).length) (Option.bind (α:=Int) (bif (a1==1) then(some (20:Int)) else(some (22:Int))) (λx19=>(Option.bind (α:=Int) (bif (a1==0) then(some (17:Int)) else(some x19)) (λx22=>((Gr (((a0.Blocks.getD i6.toNat default).Ops).getD i14.toNat default)).bind λx24=>(bif (bif (bif (!x24) then true else(decide (x22<(((a0.Blocks.getD i6.toNat default).Ops).getD i14.toNat default).Kind))) then true else(bif (decide (a1<2)) then(decide ((1:Int)<(((a0.Blocks.getD i6.toNat default).Ops).getD i14.toNat default).Lanes)) else false)) then(some (.done (.inr false))) else(some (.next (w64 (i14+1)))))))))))) else(some (.done (.inl ())))))
def E9(a0:TFunc)(a1:Int):Int->Option (LR Int (Unit ⊕ Bool)):=
 λ(i6:Int)=>(bif (decide (i6<(a0.Blocks.length:Int))) then((Ad (Dq a0 i6) (0:Int)).bind (λx12=>(match x12 with|(.inl _)=>((Ad (Dr a0 a1 i6) (0:Int)).bind (λx25=>(match x25 with|(.inl _)=>(some (.next (w64 (i6+1))))|(.inr r27)=>(some (.done (.inr r27))))))|(.inr r28)=>(some (.done (.inr r28)))))) else(some (.done (.inl ()))))
def Jz(Γ:H6)(a0:TFunc)(a1:Int)(r:Bool):Exit->St->Prop:=fK Tryz.prog Γ Tryz.f42.results.toList [] (.bool r) []
def fP(a0:TFunc)(i6:Int)(i14:Int):=(((a0.Blocks.getD i6.toNat default).Ops).getD i14.toNat default)
def ks(x24:Bool)(x22:Int)(a0:TFunc)(i6:Int)(i14:Int):=(bif (!x24) then true else(decide (x22<(fP a0 i6 i14).Kind)))
def Abb(a0:TFunc):List AV:=(Z5 a0.Params a0.Ret a0.Blocks)
def yn(a0:TFunc)(i6:Int)(i14:Int):List OQ:=[(L9 25 (Abb a0)),(9,.row 51 [(.int .i64 (fP a0 i6 i14).Kind),(.int .i64 (fP a0 i6 i14).Bits),(.int .i64 (fP a0 i6 i14).Lanes),(.int .i64 (fP a0 i6 i14).Dst),(AV.list 1 An 0 (fP a0 i6 i14).Args .none),(.int .u64 (fP a0 i6 i14).Imm)])]
def J9(a0:TFunc)(a1:Int):Option Bool:=
 ((Ad (E8 a0) (0:Int)).bind (λx4=>(match x4 with|(.inl _)=>((Ad (E9 a0 a1) (0:Int)).bind (λx29=>(match x29 with|(.inl _)=>((C0 a0.Ret).bind λx31=>(some x31))|(.inr r32)=>(some r32))))|(.inr r33)=>(some r33))))
theorem Yk(h:J9 v0 v1=some v3):sP 42 [(Y1 v0),(Z6 v1)] [] (.bool v3) []:=
 sG Tryz.func42 λΓ q=>tW q Nj [2] Wl [2] (tL q h Wl [2] (λu i1=>(Cn u [(5,(Z6 i1))] [])) (λu x_=>match x_ with|(.inl _)=>aG Γ (.exit 0) (Ng Nj [2] u [] [])|(.inr r_)=>aR (Jz Γ v0 v1 r_)) (λi1 y h=>Ae q [1,2,5,15] [2] (gC h (λh=>tC h λc2_ h=>tB h λx3 y3 h=>tT q [1,2,5,24] [2] [(Z7 x3)] (c2 c2_ (Ec y3)) (gC h (λh=>Ae q [4] [] (tS h (gO (Mp (H7 [] (Le.refl _ _)))))) λh=>Ae q Wl [2] (tN h))) λh=>tS h (gO (A3 (A8 Nj [2] q))))) λx4 h=>(match x4,h with | .inl _,h=>gA (Ae q HH [2] (tL q h HH [2] (λu i6=>(Cn u [(6,(Z6 i6))] [])) (λu x_=>match x_ with|(.inl _)=>aG Γ (.exit 2) (Ng [2] [2] u [] [])|(.inr r_)=>aR (Jz Γ v0 v1 r_)) (λi6 y h=>Ae q [1,2,6,29] [2] (gC h (λh=>Ae q [1,2,6,7] [2] (tL q h [1,2,6,7] [2] (λu i7=>(Cn u [(7,(Z6 i7))] [])) (λu x_=>match x_ with|(.inl _)=>aG Γ (.exit 4) (Ng HH [2] u [] [])|(.inr r_)=>aR (Jz Γ v0 v1 r_)) (λi7 y h=>tV q [1,2,6,7,40] [2] h λh=>gC h (λh=>tC h λc9_ h=>tC h λc10_ h=>tB h λx11 y11 h=>tT q [1,2,6,7,54] [2] [(Z7 x11)] (c3 c9_ c10_ (Ec y11)) (gC h (λh=>Ae q [4] [] (tS h (gO (Mp (H7 [] (Le.refl _ _)))))) λh=>Ae q [1,2,6,7] [2] (tN h))) λh=>tS h (gO (A3 (A8 HH [2] q)))) λx12 h=>(match x12,h with | .inl _,h=>gA (Ae q [1,2,6,8] [2] (tL q h [1,2,6,8] [2] (λu i14=>(Cn u [(8,(Z6 i14))] [])) (λu x_=>match x_ with|(.inl _)=>aG Γ (.exit 6) (Ng HH [2] u [] [])|(.inr r_)=>aR (Jz Γ v0 v1 r_)) (λi14 y h=>tV q [1,2,6,8,63] [2] h λh=>gC h (λh=>tC h λc16_ h=>tC h λc17_ h=>tU q [1,2,6,8,9] [2,9] (c2 c16_ c17_) (Ae q TI [2,9] (tB h λx19 y19 h=>gJ y19 (λi18=>aG Γ .normal (⟨[(1,(Z6 v1)),Ob,(6,(Z6 i6)),(8,(Z6 i14)),(9,(.ptr 9 0)),(10,(Z6 i18))],(yn v0 i6 i14),[]⟩:St)) (λy h=>Ae q [1,2,6,8,9,10,76] [2,9] (gC h (λh=>Ae q TI [2,9] (tS h (gK (A3 Gv)))) λh=>tS h (gK (A3 (A8 TI [2,9] q))))) (gA (tB h λx22 y22 h=>gJ y22 (λi21=>aG Γ .normal (⟨[(1,(Z6 v1)),Ob,(6,(Z6 i6)),(8,(Z6 i14)),(9,(.ptr 9 0)),(10,(Z6 i21))],(yn v0 i6 i14),[]⟩:St)) (λy h=>Ae q [1,2,6,8,9,10,78] [2,9] (gC h (λh=>Ae q TI [2,9] (tS h (gK (A3 Gv)))) λh=>tS h (gK (A3 (A8 TI [2,9] q))))) (gA (tB h λx24 y24 h=>tT q [1,2,6,8,96] [2] [(Z7 x24)] (ci (N3 y24) (Si ((!x24)==false) (ci (I9 (!x24)) (Kb ((ks x24 x22 v0 i6 i14)==false) (Kb (((ks x24 x22 v0 i6 i14)==false)&&((decide (v1<2))==true)) (c3 (gI ((ks x24 x22 v0 i6 i14)==false)) (show(((ks x24 x22 v0 i6 i14)==false)=true->((decide (v1<2))=true->(((ks x24 x22 v0 i6 i14)==false)&&((decide (v1<2))==true))=true)) from(λhg=>(aT hg))) (I9 (ks x24 x22 v0 i6 i14)))))))) (gC h (λh=>Ae q [4] [] (tS h (gO (Mp (H7 [] (Le.refl _ _)))))) λh=>Ae q [1,2,6,8] [2] (tN h))))))))) λh=>tS h (gO (A3 (A8 HH [2] q)))) λx25 h=>(match x25,h with | .inl _,h=>gA (Ae q HH [2] (tN h)) | .inr r27,h=>gAr (λst' hk=>tS h (gO (Mp hk)))))) | .inr r28,h=>gAr (λst' hk=>tS h (gO (Mp hk)))))) λh=>tS h (gO (A3 (A8 [2] [2] q))))) λx29 h=>(match x29,h with | .inl _,h=>gA (tB h λx31 y31 h=>tT q [4] [] [(Z7 x31)] (c1 (Ec y31)) (tS h (Bq []))) | .inr r32,h=>gAr (λst' hk=>tS h (gK hk))))) | .inr r33,h=>gAr (λst' hk=>tS h (gK hk))))
def G9(a2:A2):Option Ho:=
 ((Gr a2).bind λx1=>(bif (bif (bif (!x1) then true else(a2.Kind==17)) then true else(a2.Kind==19)) then(some ((0:Int),(0:Int))) else(bif (bif (decide ((10:Int)<=a2.Kind)) then(decide (a2.Kind<=12)) else false) then(some ((1:Int),(1:Int))) else(bif (a2.Kind==22) then(some (a2.Bits,(1:Int))) else(some (a2.Bits,a2.Lanes))))))
variable{v19:Ho}
theorem Yd(h:G9 v6=some v19):sP 81 [(UU v6)] [] (.tuple [(Z6 v19.1),(Z6 v19.2)]) []:=
 sG Tryz.func81 λΓ q=>Ae q [1] [1] (tB h λx1 y1 h=>tT q [1,16] [1] [(Z7 x1)] (ci (N3 y1) (Kb ((!x1)==false) (ci (I9 (!x1)) (Kb ((bif (!x1) then true else(v6.Kind==17))==false) (c1 (I9 (bif (!x1) then true else(v6.Kind==17)))))))) (gC h (λh=>Ae q Cc [] (tS h (Bq []))) λh=>tU q [1,24] [1] (Kb ((decide ((10:Int)<=v6.Kind))==true) (c1 (Na (decide ((10:Int)<=v6.Kind))))) (gC h (λh=>Ae q Cc [] (tS h (Bq []))) λh=>Ae q [1,27] [1] (gC h (λh=>Ae q Cc [] (tS h (Bq []))) λh=>Ae q Cc [] (tS h (Bq []))))))
open Go Go.RowKit
set_option maxRecDepth 100000
set_option maxHeartbeats 2000000
abbrev eZ:=(List Ce×Int)
abbrev vE:=(LR (List Ce×Int) (List Ce))
def Io(a0:TFunc):eZ->Option vE:=
 λ((l1,i2):eZ)=>(bif (decide (i2<(a0.Params.length:Int))) then(Aw (As i2 a0.Params.length) (Aw (l1.length+([(⟨(w64 (i2+1)),(-1:Int),(0:Int),((a0.Params.getD i2.toNat 0),(1:Int))⟩:Ce)]:List Ce).length<=room) (some (.next ((l1++([(⟨(w64 (i2+1)),(-1:Int),(0:Int),((a0.Params.getD i2.toNat 0),(1:Int))⟩:Ce)]:List Ce)),(w64 (i2+1))))))) else(some (.done l1)))
def F0(a0:TFunc)(i9:Int):eZ->Option vE:=
 λ((l12,i13):eZ)=>(bif (decide (i13<(((a0.Blocks.getD i9.toNat default).Phis).length:Int))) then(Aw (As i13 ((a0.Blocks.getD i9.toNat default).Phis).length) (Aw (As i13 ((a0.Blocks.getD i9.toNat default).Phis).length) (Aw (l12.length+([(⟨(((a0.Blocks.getD i9.toNat default).Phis).getD i13.toNat default).Dst,i9,(-1:Int),((((a0.Blocks.getD i9.toNat default).Phis).getD i13.toNat default).Bits,(1:Int))⟩:Ce)]:List Ce).length<=room) (some (.next ((l12++([(⟨(((a0.Blocks.getD i9.toNat default).Phis).getD i13.toNat default).Dst,i9,(-1:Int),((((a0.Blocks.getD i9.toNat default).Phis).getD i13.toNat default).Bits,(1:Int))⟩:Ce)]:List Ce)),(w64 (i13+1)))))))) else(some (.done l12)))
def F1(a0:TFunc)(i9:Int):eZ->Option vE:=
 λ((l20,i21):eZ)=>(bif (decide (i21<(((a0.Blocks.getD i9.toNat default).Ops).length:Int))) then(Option.bind (α:=List Ce) (Aw (As i21 ((a0.Blocks.getD i9.toNat default).Ops).length) ((G9 (((a0.Blocks.getD i9.toNat default).Ops).getD i21.toNat default)).bind λx25=>(bif (decide ((0:Int)<x25.1)) then(Aw (As i21 ((a0.Blocks.getD i9.toNat default).Ops).length) (Aw (l20.length+([(⟨(((a0.Blocks.getD i9.toNat default).Ops).getD i21.toNat default).Dst,i9,i21,(x25.1,x25.2)⟩:Ce)]:List Ce).length<=room) (some (l20++([(⟨(((a0.Blocks.getD i9.toNat default).Ops).getD i21.toNat default).Dst,i9,i21,(x25.1,x25.2)⟩:Ce)]:List Ce))))) else(some l20)))) (λx28=>(some (.next (x28,(w64 (i21+1))))))) else(some (.done l20)))
def Ip(a0:TFunc):eZ->Option vE:=
 λ((l8,i9):eZ)=>(bif (decide (i9<(a0.Blocks.length:Int))) then(Aw (As i9 a0.Blocks.length) ((Ad (F0 a0 i9) (l8,(0:Int))).bind (λx18=>((Ad (F1 a0 i9) (x18,(0:Int))).bind (λx30=>(some (.next (x30,(w64 (i9+1)))))))))) else(some (.done l8)))
def cF(a0:TFunc)(i9:Int):=(a0.Blocks.getD i9.toNat default)
def wP(a0:TFunc):List AV:=(Z5 a0.Params a0.Ret a0.Blocks)
def sS(i2:Int)(a0:TFunc):=([(⟨(w64 (i2+1)),(-1:Int),(0:Int),((a0.Params.getD i2.toNat 0),(1:Int))⟩:Ce)]:List Ce)
def sR(a0:TFunc)(i9:Int)(i21:Int)(x25:Ho):=([(⟨(((cF a0 i9).Ops).getD i21.toNat default).Dst,i9,i21,(x25.1,x25.2)⟩:Ce)]:List Ce)
def yo(a0:TFunc):=(⟨[Zo,(3,(AV.list 5 P1 default ([]:List Ce) (.own 5003))),(4,Lc)],[(1,.row 25 (wP a0)),(5003,.tok 5 90 (([]:List Ce).length))],[]⟩:St)
def sQ(a0:TFunc)(i9:Int)(i13:Int):=([(⟨(((cF a0 i9).Phis).getD i13.toNat default).Dst,i9,(-1:Int),((((cF a0 i9).Phis).getD i13.toNat default).Bits,(1:Int))⟩:Ce)]:List Ce)
def K3(a0:TFunc):Option (List Ce):=
 ((Ad (Io a0) (([]:List Ce),(0:Int))).bind (λx6=>((Ad (Ip a0) (x6,(0:Int))).bind (λx32=>(some x32)))))
variable{v54:List Ce}
theorem AE(h:K3 v0=some v54):sP 43 [(Y1 v0)] [] (AV.list 5 P1 default v54 (.own 20000)) [(M2 20000 90 v54.length)]:=
 sG Tryz.func43 λΓ q=>gR q [1] [1] [(2,(AV.list 5 P1 default ([]:List Ce) .exact))] [] (c1 (Bd 5 P1 (default:Ce))) (gR q I8 [1] [(3,(AV.list 5 P1 default ([]:List Ce) .exact))] [] (c1 (Bd 5 P1 (default:Ce))) (Ae q Hp [1] (M3 (st':=(yo v0)) (Le.trans (A8 (st':=⟨[Zo,(3,(AV.list 5 P1 default ([]:List Ce) .exact)),(4,Lc)],[(1,.row 25 (wP v0))],[]⟩) Hp [1] q) (Le.trans (Ld (t:=3) (nm:=5003) (sz':=5) (λi=>P1 (([]:List Ce).getD i default)) 90 rfl rfl (.inl ⟨rfl,rfl⟩) (λh_=>absurd h_ (by decide))) (A8 (st':=(yo v0)) Hp Ni q))) (tL q h Hp Ni (λu (l1,i2)=>(Cn u [(sv l1),(4,(Z6 i2))] [(M2 5003 90 l1.length)])) (λu l3=>aG Γ (.exit 0) (Ng I8 Ni u [(sv l3)] [(M2 5003 90 l3.length)])) (λ⟨l1,i2⟩ y h=>Ae q [1,3,4,15] Ni (gC h (λh=>tC h λc4_ h=>tC h λc5_ h=>gR q Hp Ni (Z61 28 (sS i2 v0) 29 l1) [] (c6 c4_ (Az 5 P1 (default:Ce) (sS i2 v0)) (Eq.refl l1.length) c5_ (Cv 5 5003 P1 (default:Ce) l1 (sS i2 v0)) (Bs l1 (sS i2 v0))) (Ae q Hp Ni (tN h))) λh=>tS h (gO (A3 (A8 I8 Ni q))))) λx6 h=>gA (Ae q HF Ni (tL q h HF Ni (λu (l8,i9)=>(Cn u [(sv l8),(5,(Z6 i9))] [(M2 5003 90 l8.length)])) (λu l10=>aG Γ (.exit 2) (⟨[(sv l10)],[(M2 5003 90 l10.length)],[]⟩:St)) (λ⟨l8,i9⟩ y h=>Ae q [1,3,5,34] Ni (gC h (λh=>tV q JO Tn h λh=>Ae q TT Tn (tL q h TT Tn (λu (l12,i13)=>(Cn u [(sv l12),(7,(Z6 i13))] [(M2 5003 90 l12.length)])) (λu l14=>aG Γ (.exit 4) (Ng JO Tn u [(sv l14)] [(M2 5003 90 l14.length)])) (λ⟨l12,i13⟩ y h=>Ae q [1,3,5,6,7,46] Tn (gC h (λh=>tC h λc15_ h=>tC h λc16_ h=>tC h λc17_ h=>gR q TT Tn (Z61 65 (sQ v0 i9 i13) 66 l12) [] (c7 c15_ c16_ (Az 5 P1 (default:Ce) (sQ v0 i9 i13)) (Eq.refl l12.length) c17_ (Cv 5 5003 P1 (default:Ce) l12 (sQ v0 i9 i13)) (Bs l12 (sQ v0 i9 i13))) (Ae q TT Tn (tN h))) λh=>tS h (gO (A3 (A8 JO Tn q))))) λx18 h=>gA (Ae q TU Tn (tL q h TU Tn (λu (l20,i21)=>(Cn u [(sv l20),(8,(Z6 i21))] [(M2 5003 90 l20.length)])) (λu l22=>aG Γ (.exit 6) (Ng HF Ni u [(sv l22)] [(M2 5003 90 l22.length)])) (λ⟨l20,i21⟩ y h=>Ae q [1,3,5,6,8,71] Tn (gC h (λh=>tB h λx28 y28 h=>gJ y28 (λl23=>aG Γ .normal (⟨[Zo,(sv l23),(5,(Z6 i9)),JW,(8,(Z6 i21))],[(1,.row 25 (wP v0)),(6,.row 48 [(AV.list 4 Gu default (cF v0 i9).Phis .none),(AV.list 6 Kf default (cF v0 i9).Ops .none),(.int .i64 (cF v0 i9).End.Kind),(.int .i64 (cF v0 i9).End.Arg),(AV.list 1 An 0 (cF v0 i9).End.To .none)]),(M2 5003 90 l23.length)],[]⟩:St)) (λy h=>tC h λc24_ h=>tB h λx25 y25 h=>tT q [1,3,5,6,8,9,10] Tn [(ss x25.1 x25.2)] (c2 c24_ (Yd y25)) (Ae q [1,3,5,6,8,9,10,84] Tn (gC h (λh=>tC h λc26_ h=>tC h λc27_ h=>gR q TU Tn (Z61 98 (sR v0 i9 i21 x25) 99 l20) [] (c6 c26_ (Az 5 P1 (default:Ce) (sR v0 i9 i21 x25)) (Eq.refl l20.length) c27_ (Cv 5 5003 P1 (default:Ce) l20 (sR v0 i9 i21 x25)) (Bs l20 (sR v0 i9 i21 x25))) (tS h (gK (A3 Gv)))) λh=>tS h (gK (A3 (A8 TU Tn q)))))) (gA (Ae q TU Tn (tN h)))) λh=>tS h (gO (A3 (A8 HF Ni q))))) λx30 h=>gA (Ae q HF Ni (tN h)))))) λh=>tS h (gO (A3 (A8 [3] [5003] q))))) λx32 h=>gA (Ae q [2] [5003] (tS h (Bq jA)))))))))
def F2(aU:List Ce)(aC:Int):Int->Option (LR Int (Unit ⊕ Int)):=
 λ(i1:Int)=>(bif (decide (i1<(aU.length:Int))) then(Aw (As i1 aU.length) (bif (((aU.getD i1.toNat default).V:Int)==aC) then(some (.done (.inr i1))) else(some (.next (w64 (i1+1)))))) else(some (.done (.inl ()))))
def AS(Γ:H6)(aU:List Ce)(aC:Int)(r:Int):Exit->St->Prop:=fK Tryz.prog Γ Tryz.f45.results.toList [] (.int .i64 r) []
def Ea(aU:List Ce)(aC:Int):Option Int:=
 ((Ad (F2 aU aC) (0:Int)).bind (λx3=>(match x3 with|(.inl _)=>(some (-1:Int))|(.inr r5)=>(some r5))))
theorem Ka(h:Ea v54 v1=some v11):sP 45 [(AV.list 5 P1 default v54 .none),(Z6 v1)] [] (.int .i64 v11) []:=
 sG Tryz.func45 λΓ q=>tW q Fg [] Ph [] (tL q h Ph [] (λu i1=>(Cn u [(5,(Z6 i1))] [])) (λu x_=>match x_ with|(.inl _)=>aG Γ (.exit 0) (⟨[],[],[]⟩:St)|(.inr r_)=>aR (AS Γ v54 v1 r_)) (λi1 y h=>Ae q [0,1,5,9] [] (gC h (λh=>tV q [0,1,5,18] [] h λh=>gC h (λh=>Ae q [4] [] (tS h (gO (Mp (H7 [] (Le.refl _ _)))))) λh=>Ae q Ph [] (tN h)) λh=>tS h (gO (A3 (A8 [] [] q))))) λx3 h=>(match x3,h with | .inl _,h=>gA (Ae q [4] [] (tS h (Bq []))) | .inr r5,h=>gAr (λst' hk=>tS h (gK hk))))
abbrev Aa1:=(List (Int×Int)×Int)
def Hw(a2:A2):Aa1->Option (LR (List (Int×Int)×Int) (List (Int×Int))):=
 λ((l2,i3):Aa1)=>(bif (decide (i3<(a2.Args.length:Int))) then(Option.bind (α:=Ho) (Option.bind (α:=Bool) (bif (a2.Kind==13) then(some (a2.Kind==13)) else(some (a2.Kind==20))) (λx8=>(bif x8 then(bif (i3==0) then(some ((1:Int),(1:Int))) else(some (a2.Bits,a2.Lanes))) else(Option.bind (α:=Bool) (bif (a2.Kind==14) then(some (a2.Kind==14)) else(some (a2.Kind==15))) (λx11=>(bif x11 then(some ((w64 a2.Imm),(1:Int))) else(Option.bind (α:=Bool) (bif (a2.Kind==16) then(some (a2.Kind==16)) else(some (a2.Kind==17))) (λx14=>(bif x14 then(bif (i3==0) then(some ((64:Int),(1:Int))) else(some (a2.Bits,a2.Lanes))) else(Option.bind (α:=Bool) (bif (a2.Kind==18) then(some (a2.Kind==18)) else(some (a2.Kind==19))) (λx17=>(bif x17 then(Option.bind (α:=Ho) (bif (i3==0) then(some ((1:Int),(1:Int))) else(some (a2.Bits,a2.Lanes))) (λx21=>(match x21 with|(i19,i20)=>(bif (i3==1) then(some ((64:Int),(1:Int))) else(some (i19,i20)))))) else(bif (a2.Kind==21) then(some (a2.Bits,(1:Int))) else(some (a2.Bits,a2.Lanes))))))))))))))) (λx23=>(match x23 with|(i5,i6)=>(Aw (l2.length+([(i5,i6)]:List Ho).length<=room) (some (.next ((l2++([(i5,i6)]:List Ho)),(w64 (i3+1))))))))) else(some (.done l2)))
def Abc(a2:A2):List AV:=[(Z6 a2.Bits),(Z6 a2.Lanes)]
def fQ(l2:List LJ):AV:=(wj l2 5003)
def kv:AV:=zP
def ku(a2:A2):List AV:=(vQ a2.Kind a2.Bits a2.Lanes a2.Dst a2.Args a2.Imm)
def sT(a2:A2)(l2:List LJ):List OQ:=[(1,.row 51 (ku a2)),(5,.row 88 (Abc a2)),(5003,.tok 2 88 l2.length)]
def yp:List NL:=[Zo,(3,(AV.list 2 Br ((0:Int),(0:Int)) ([]:List Ho) (.own 5003))),(4,Lc)]
def Ha(a2:A2):Option qk:=
 ((Gr a2).bind λx1=>(bif (!x1) then(some ([]:List Ho)) else((Ad (Hw a2) (([]:List Ho),(0:Int))).bind (λx26=>(some x26)))))
variable{v21:List LJ}
theorem Yf(h:Ha v6=some v21):sP 82 [(UU v6)] [] (wj v21 20000) [(20000,.tok 2 88 v21.length)]:=
 sG Tryz.func82 λΓ q=>gR q [1] [1] [(2,kv)] [] (c1 (Bd 2 Br ((0:Int),(0:Int)))) (gR q I8 [1] [(3,kv)] [] (c1 (Bd 2 Br ((0:Int),(0:Int)))) (tB h λx1 y1 h=>tT q [1,3,8] [1] [(Z7 x1)] (c1 (N3 y1)) (gC h (λh=>gR q [2] [] [(2,kv)] [] (c1 (Bd 2 Br ((0:Int),(0:Int)))) (O8 (⟨[(2,kv)],[],[]⟩:St) (tS h (gK (e:=.ret) (H7 LT (show Le Γ _ (Z81:St) from Le.trans (A8 (st':=⟨[(2,kv)],[],[]⟩) [2] [] q) (Le.trans (Ld (t:=2) (nm:=6002) (sz':=2) (λi=>Br (([]:List Ho).getD i ((0:Int),(0:Int)))) 88 rfl rfl (.inl ⟨rfl,rfl⟩) (λh_=>absurd h_ (by decide))) (A8 (st':=Z81) [2] [6002] q)))))))) λh=>Ae q Hp [1] (M3 (st':=⟨yp,[(1,.row 51 (ku v6)),(5003,.tok 2 88 (([]:List Ho).length))],[]⟩) (Le.trans (A8 (st':=⟨[Zo,(3,kv),(4,Lc)],[(1,.row 51 (ku v6))],[]⟩) Hp [1] q) (Le.trans (Ld (t:=3) (nm:=5003) (sz':=2) (λi=>Br (([]:List Ho).getD i ((0:Int),(0:Int)))) 88 rfl rfl (.inl ⟨rfl,rfl⟩) (λh_=>absurd h_ (by decide))) (A8 (st':=⟨yp,[(1,.row 51 (ku v6)),(5003,.tok 2 88 (([]:List Ho).length))],[]⟩) Hp Ni q))) (tL q h Hp Ni (λu (l2,i3)=>(Cn u [(3,(fQ l2)),(4,(Z6 i3))] [(5003,.tok 2 88 l2.length)])) (λu l4=>aG Γ (.exit 0) (⟨[(3,(wj l4 5003))],[(5003,.tok 2 88 l4.length)],[]⟩:St)) (λ⟨l2,i3⟩ y h=>Ae q [1,3,4,13] Ni (gC h (λh=>Ae q Gn Jy (tB h λx23 y23 h=>gJ y23 (λ(i5,i6)=>aG Γ .normal (⟨[Zo,(3,(fQ l2)),(4,(Z6 i3)),VF],[(1,.row 51 (ku v6)),(5,.row 88 [(Z6 i5),(Z6 i6)]),(5003,.tok 2 88 l2.length)],[]⟩:St)) (λy h=>Ae q [1,3,4,5,22] Jy (tB h λx8 y8 h=>gJ y8 (λb7=>aG Γ .normal (⟨[Zo,(3,(fQ l2)),(4,(Z6 i3)),VF,(22,(Z6 v6.Kind)),(23,(.bool b7))],(sT v6 l2),[]⟩:St)) (λy h=>Ae q [1,3,4,5,22,23] Jy (gC h (λh=>tS h (gK (A3 Gv))) λh=>Ae q [1,3,4,5,22,23] Jy (tS h (gK (A3 Gv))))) (gA (gC h (λh=>Ae q [1,3,4,5,27] Jy (gC h (λh=>Ae q Gn Jy (tS h (gK (A3 Gv)))) λh=>tS h (gK (A3 (A8 Gn Jy q))))) λh=>tB h λx11 y11 h=>gJ y11 (λb10=>aG Γ .normal (⟨[Zo,(3,(fQ l2)),(4,(Z6 i3)),VF,(22,(Z6 v6.Kind)),(29,(.bool b10))],(sT v6 l2),[]⟩:St)) (λy h=>Ae q [1,3,4,5,22,29] Jy (gC h (λh=>tS h (gK (A3 Gv))) λh=>Ae q [1,3,4,5,22,29] Jy (tS h (gK (A3 Gv))))) (gA (gC h (λh=>Ae q Gn Jy (tS h (gK (A3 Gv)))) λh=>tB h λx14 y14 h=>gJ y14 (λb13=>aG Γ .normal (⟨[Zo,(3,(fQ l2)),(4,(Z6 i3)),VF,(22,(Z6 v6.Kind)),(36,(.bool b13))],(sT v6 l2),[]⟩:St)) (λy h=>Ae q [1,3,4,5,22,36] Jy (gC h (λh=>tS h (gK (A3 Gv))) λh=>Ae q [1,3,4,5,22,36] Jy (tS h (gK (A3 Gv))))) (gA (gC h (λh=>Ae q [1,3,4,5,40] Jy (gC h (λh=>Ae q Gn Jy (tS h (gK (A3 Gv)))) λh=>tS h (gK (A3 (A8 Gn Jy q))))) λh=>tB h λx17 y17 h=>gJ y17 (λb16=>aG Γ .normal (⟨[Zo,(3,(fQ l2)),(4,(Z6 i3)),VF,(22,(Z6 v6.Kind)),(42,(.bool b16))],(sT v6 l2),[]⟩:St)) (λy h=>Ae q [1,3,4,5,22,42] Jy (gC h (λh=>tS h (gK (A3 Gv))) λh=>Ae q [1,3,4,5,22,42] Jy (tS h (gK (A3 Gv))))) (gA (gC h (λh=>tB h λx21 y21 h=>gJ y21 (λ(i19,i20)=>aG Γ .normal (⟨[Zo,(3,(fQ l2)),(4,(Z6 i3)),VF],[(1,.row 51 (ku v6)),(5,.row 88 [(Z6 i19),(Z6 i20)]),(5003,.tok 2 88 l2.length)],[]⟩:St)) (λy h=>Ae q [1,3,4,5,46] Jy (gC h (λh=>Ae q Gn Jy (tS h (gK (A3 Gv)))) λh=>tS h (gK (A3 (A8 Gn Jy q))))) (match x21,h with|⟨i19,i20⟩,h=>gA (Ae q [1,3,4,5,49] Jy (gC h (λh=>Ae q Gn Jy (tS h (gK (A3 Gv)))) λh=>tS h (gK (A3 (A8 Gn Jy q))))))) λh=>Ae q [1,3,4,5,51] Jy (gC h (λh=>Ae q Gn Jy (tS h (gK (A3 Gv)))) λh=>tS h (gK (A3 (A8 Gn Jy q)))))))))))))) (match x23,h with|⟨i5,i6⟩,h=>gA (tC h λc25_ h=>gR q Hp Ni [(58,(AV.list 2 Br ((0:Int),(0:Int)) ([(i5,i6)]:List Ho) .exact)),(59,(AV.list 2 Br ((0:Int),(0:Int)) (l2++([(i5,i6)]:List Ho)) (.own 5003)))] [] (c5 (Az 2 Br ((0:Int),(0:Int)) ([(i5,i6)]:List Ho)) (Eq.refl l2.length) c25_ (Cv 2 5003 Br ((0:Int),(0:Int)) l2 ([(i5,i6)]:List Ho)) (Bs l2 ([(i5,i6)]:List Ho))) (Ae q Hp Ni (tN h)))))) λh=>tS h (gO (A3 (A8 [3] [5003] q))))) λx26 h=>gA (Ae q [2] [5003] (tS h (Bq jA))))))))
abbrev WM:=(List Db×Int)
abbrev qn:=(LR (List Db×Int) (List Db))
def F3(a0:TFunc)(i2:Int)(i7:Int):WM->Option qn:=
 λ((l10,i11):WM)=>(bif (decide (i11<(((((a0.Blocks.getD i2.toNat default).Phis).getD i7.toNat default).Args).length:Int))) then(Aw (As i11 ((((a0.Blocks.getD i2.toNat default).Phis).getD i7.toNat default).Args).length) (Aw (As i11 ((((a0.Blocks.getD i2.toNat default).Phis).getD i7.toNat default).From).length) (Aw (l10.length+([(⟨(((((a0.Blocks.getD i2.toNat default).Phis).getD i7.toNat default).Args).getD i11.toNat 0),(((((a0.Blocks.getD i2.toNat default).Phis).getD i7.toNat default).From).getD i11.toNat 0),(1000:Int),((((a0.Blocks.getD i2.toNat default).Phis).getD i7.toNat default).Bits,(1:Int))⟩:Db)]:List Db).length<=room) (some (.next ((l10++([(⟨(((((a0.Blocks.getD i2.toNat default).Phis).getD i7.toNat default).Args).getD i11.toNat 0),(((((a0.Blocks.getD i2.toNat default).Phis).getD i7.toNat default).From).getD i11.toNat 0),(1000:Int),((((a0.Blocks.getD i2.toNat default).Phis).getD i7.toNat default).Bits,(1:Int))⟩:Db)]:List Db)),(w64 (i11+1)))))))) else(some (.done l10)))
def F4(a0:TFunc)(i2:Int):WM->Option qn:=
 λ((l6,i7):WM)=>(bif (decide (i7<(((a0.Blocks.getD i2.toNat default).Phis).length:Int))) then(Aw (As i7 ((a0.Blocks.getD i2.toNat default).Phis).length) ((Ad (F3 a0 i2 i7) (l6,(0:Int))).bind (λx16=>(some (.next (x16,(w64 (i7+1)))))))) else(some (.done l6)))
def F5(a0:TFunc)(i2:Int)(i21:Int)(x24:List LJ):WM->Option qn:=
 λ((l25,i26):WM)=>(bif (decide (i26<(x24.length:Int))) then(Aw (As i21 ((a0.Blocks.getD i2.toNat default).Ops).length) (Aw (As i26 ((((a0.Blocks.getD i2.toNat default).Ops).getD i21.toNat default).Args).length) (Aw (As i26 x24.length) (Aw (l25.length+([(⟨(((((a0.Blocks.getD i2.toNat default).Ops).getD i21.toNat default).Args).getD i26.toNat 0),i2,i21,(x24.getD i26.toNat ((0:Int),(0:Int)))⟩:Db)]:List Db).length<=room) (some (.next ((l25++([(⟨(((((a0.Blocks.getD i2.toNat default).Ops).getD i21.toNat default).Args).getD i26.toNat 0),i2,i21,(x24.getD i26.toNat ((0:Int),(0:Int)))⟩:Db)]:List Db)),(w64 (i26+1))))))))) else(some (.done l25)))
def F6(a0:TFunc)(i2:Int):WM->Option qn:=
 λ((l20,i21):WM)=>(bif (decide (i21<(((a0.Blocks.getD i2.toNat default).Ops).length:Int))) then(Aw (As i21 ((a0.Blocks.getD i2.toNat default).Ops).length) ((Ha (((a0.Blocks.getD i2.toNat default).Ops).getD i21.toNat default)).bind λx24=>((Ad (F5 a0 i2 i21 x24) (l20,(0:Int))).bind (λx32=>(some (.next (x32,(w64 (i21+1))))))))) else(some (.done l20)))
def Iu(a0:TFunc):WM->Option qn:=
 λ((l1,i2):WM)=>(bif (decide (i2<(a0.Blocks.length:Int))) then(Option.bind (α:=List Db) (Aw (As i2 a0.Blocks.length) ((Ad (F4 a0 i2) (l1,(0:Int))).bind (λx18=>((Ad (F6 a0 i2) (x18,(0:Int))).bind (λx34=>(Option.bind (α:=List Db) (bif (((a0.Blocks.getD i2.toNat default).End.Kind:Int)==0) then(Aw (x34.length+([(⟨(a0.Blocks.getD i2.toNat default).End.Arg,i2,(1000:Int),(a0.Ret,(1:Int))⟩:Db)]:List Db).length<=room) (some (x34++([(⟨(a0.Blocks.getD i2.toNat default).End.Arg,i2,(1000:Int),(a0.Ret,(1:Int))⟩:Db)]:List Db)))) else(some x34)) (λx38=>(bif (((a0.Blocks.getD i2.toNat default).End.Kind:Int)==2) then(Aw (x38.length+([(⟨(a0.Blocks.getD i2.toNat default).End.Arg,i2,(1000:Int),((1:Int),(1:Int))⟩:Db)]:List Db).length<=room) (some (x38++([(⟨(a0.Blocks.getD i2.toNat default).End.Arg,i2,(1000:Int),((1:Int),(1:Int))⟩:Db)]:List Db)))) else(some x38))))))))) (λx41=>(some (.next (x41,(w64 (i2+1))))))) else(some (.done l1)))
def PN(a0:TFunc)(i2:Int):=(a0.Blocks.getD i2.toNat default)
def sY(a0:TFunc):List AV:=(Z5 a0.Params a0.Ret a0.Blocks)
def sX(a0:TFunc)(i2:Int):=([(⟨(PN a0 i2).End.Arg,i2,(1000:Int),(a0.Ret,(1:Int))⟩:Db)]:List Db)
def sW(a0:TFunc)(i2:Int):=([(⟨(PN a0 i2).End.Arg,i2,(1000:Int),((1:Int),(1:Int))⟩:Db)]:List Db)
def yq(a0:TFunc):=(⟨[Zo,(3,(AV.list 5 O7 default ([]:List Db) (.own 5003))),(4,Lc)],[(1,.row 25 (sY a0)),(5003,.tok 5 94 (([]:List Db).length))],[]⟩:St)
def sV(a0:TFunc)(i2:Int)(i21:Int)(i26:Int)(x24:List LJ):=([(⟨(((((PN a0 i2).Ops).getD i21.toNat default).Args).getD i26.toNat 0),i2,i21,(x24.getD i26.toNat ((0:Int),(0:Int)))⟩:Db)]:List Db)
def sU(a0:TFunc)(i2:Int)(i7:Int)(i11:Int):=([(⟨(((((PN a0 i2).Phis).getD i7.toNat default).Args).getD i11.toNat 0),(((((PN a0 i2).Phis).getD i7.toNat default).From).getD i11.toNat 0),(1000:Int),((((PN a0 i2).Phis).getD i7.toNat default).Bits,(1:Int))⟩:Db)]:List Db)
def K5(a0:TFunc):Option (List Db):=
 ((Ad (Iu a0) (([]:List Db),(0:Int))).bind (λx43=>(some x43)))
variable{v55:List Db}
theorem AG(h:K5 v0=some v55):sP 46 [(Y1 v0)] [] (AV.list 5 O7 default v55 (.own 20000)) [(M2 20000 94 v55.length)]:=
 sG Tryz.func46 λΓ q=>gR q [1] [1] [(2,(AV.list 5 O7 default ([]:List Db) .exact))] [] (c1 (Bd 5 O7 (default:Db))) (gR q I8 [1] [(3,(AV.list 5 O7 default ([]:List Db) .exact))] [] (c1 (Bd 5 O7 (default:Db))) (Ae q Hp [1] (M3 (st':=(yq v0)) (Le.trans (A8 (st':=⟨[Zo,(3,(AV.list 5 O7 default ([]:List Db) .exact)),(4,Lc)],[(1,.row 25 (sY v0))],[]⟩) Hp [1] q) (Le.trans (Ld (t:=3) (nm:=5003) (sz':=5) (λi=>O7 (([]:List Db).getD i default)) 94 rfl rfl (.inl ⟨rfl,rfl⟩) (λh_=>absurd h_ (by decide))) (A8 (st':=(yq v0)) Hp Ni q))) (tL q h Hp Ni (λu (l1,i2)=>(Cn u [(mj l1),(4,(Z6 i2))] [(M2 5003 94 l1.length)])) (λu l3=>aG Γ (.exit 0) (⟨[(mj l3)],[(M2 5003 94 l3.length)],[]⟩:St)) (λ⟨l1,i2⟩ y h=>Ae q [1,3,4,16] Ni (gC h (λh=>tB h λx41 y41 h=>gJ y41 (λl4=>aG Γ .normal (⟨[Zo,(mj l4),(4,(Z6 i2))],[(1,.row 25 (sY v0)),(M2 5003 94 l4.length)],[]⟩:St)) (λy h=>tV q Gn Jy h λh=>Ae q Ot Jy (tL q h Ot Jy (λu (l6,i7)=>(Cn u [(mj l6),(6,(Z6 i7))] [(M2 5003 94 l6.length)])) (λu l8=>aG Γ (.exit 2) (Ng Gn Jy u [(mj l8)] [(M2 5003 94 l8.length)])) (λ⟨l6,i7⟩ y h=>Ae q [1,3,4,5,6,28] Jy (gC h (λh=>tV q [1,3,4,5,6,7] LV h λh=>Ae q ba LV (tL q h ba LV (λu (l10,i11)=>(Cn u [(mj l10),(8,(Z6 i11))] [(M2 5003 94 l10.length)])) (λu l12=>aG Γ (.exit 4) (Ng Ot Jy u [(mj l12)] [(M2 5003 94 l12.length)])) (λ⟨l10,i11⟩ y h=>Ae q [1,3,4,5,6,7,8,40] LV (gC h (λh=>tC h λc13_ h=>tC h λc14_ h=>tC h λc15_ h=>gR q ba LV (Z43 58 (sU v0 i2 i7 i11) 59 l10) [] (c7 c13_ c14_ (Az 5 O7 (default:Db) (sU v0 i2 i7 i11)) (Eq.refl l10.length) c15_ (Cv 5 5003 O7 (default:Db) l10 (sU v0 i2 i7 i11)) (Bs l10 (sU v0 i2 i7 i11))) (Ae q ba LV (tN h))) λh=>tS h (gO (A3 (A8 Ot Jy q))))) λx16 h=>gA (Ae q Ot Jy (tN h)))) λh=>tS h (gO (A3 (A8 Gn Jy q))))) λx18 h=>gA (Ae q TV Jy (tL q h TV Jy (λu (l20,i21)=>(Cn u [(mj l20),(9,(Z6 i21))] [(M2 5003 94 l20.length)])) (λu l22=>aG Γ (.exit 6) (Ng Gn Jy u [(mj l22)] [(M2 5003 94 l22.length)])) (λ⟨l20,i21⟩ y h=>Ae q [1,3,4,5,9,64] Jy (gC h (λh=>tC h λc23_ h=>tB h λx24 y24 h=>tT q [1,3,4,5,9,10] LQ [⟨[],[(20000,72)],(wj x24 20000),[(20000,.tok 2 88 x24.length)],[],[]⟩] (c2 c23_ (Yf y24)) (Ae q bW LQ (tL q h bW LQ (λu (l25,i26)=>(Cn u [(mj l25),(11,(Z6 i26))] [(M2 5003 94 l25.length)])) (λu l27=>aG Γ (.exit 8) (Ng TV Jy u [(mj l27)] [(M2 5003 94 l27.length)])) (λ⟨l25,i26⟩ y h=>Ae q [1,3,4,5,9,10,11,76] LQ (gC h (λh=>tC h λc28_ h=>tC h λc29_ h=>tC h λc30_ h=>tC h λc31_ h=>gR q bW LQ (Z43 96 (sV v0 i2 i21 i26 x24) 97 l25) [] (c8 c28_ c29_ c30_ (Az 5 O7 (default:Db) (sV v0 i2 i21 i26 x24)) (Eq.refl l25.length) c31_ (Cv 5 5003 O7 (default:Db) l25 (sV v0 i2 i21 i26 x24)) (Bs l25 (sV v0 i2 i21 i26 x24))) (Ae q bW LQ (tN h))) λh=>tS h (gO (A3 (A8 TV Jy q))))) λx32 h=>gA (Ae q TV Jy (tN h))))) λh=>tS h (gO (A3 (A8 Gn Jy q))))) λx34 h=>gA (tB h λx38 y38 h=>gJ y38 (λl36=>aG Γ .normal (⟨[Zo,(mj l36),(4,(Z6 i2)),VF],[(1,.row 25 (sY v0)),(5,.row 48 [(AV.list 4 Gu default (PN v0 i2).Phis .none),(AV.list 6 Kf default (PN v0 i2).Ops .none),(.int .i64 (PN v0 i2).End.Kind),(.int .i64 (PN v0 i2).End.Arg),(AV.list 1 An 0 (PN v0 i2).End.To .none)]),(M2 5003 94 l36.length)],[]⟩:St)) (λy h=>Ae q [1,3,4,5,101] Jy (gC h (λh=>tC h λc37_ h=>gR q Gn Jy (Z43 111 (sX v0 i2) 112 x34) [] (c5 (Az 5 O7 (default:Db) (sX v0 i2)) (Eq.refl x34.length) c37_ (Cv 5 5003 O7 (default:Db) x34 (sX v0 i2)) (Bs x34 (sX v0 i2))) (tS h (gK (A3 Gv)))) λh=>tS h (gK (A3 (A8 Gn Jy q))))) (gA (Ae q [1,3,4,5,116] Jy (gC h (λh=>tC h λc40_ h=>gR q Hp Ni (Z43 124 (sW v0 i2) 125 x38) [] (c5 (Az 5 O7 (default:Db) (sW v0 i2)) (Eq.refl x38.length) c40_ (Cv 5 5003 O7 (default:Db) x38 (sW v0 i2)) (Bs x38 (sW v0 i2))) (tS h (gK (A3 Gv)))) λh=>tS h (gK (A3 (A8 Hp Ni q))))))))))) (gA (Ae q Hp Ni (tN h)))) λh=>tS h (gO (A3 (A8 [3] [5003] q))))) λx43 h=>gA (Ae q [2] [5003] (tS h (Bq jA)))))))
def Il(aN:TGraph)(aP:TGraph):Int->Option (LR Int (Unit ⊕ Bool)):=
 λ(i1:Int)=>(bif (decide (i1<(aN.Succ.length:Int))) then(Aw (As i1 aN.Succ.length) (Aw (As i1 aP.Succ.length) ((Ck (aN.Succ.getD i1.toNat []) (aP.Succ.getD i1.toNat [])).bind λx4=>(bif (!x4) then(some (.done (.inr false))) else(some (.next (w64 (i1+1)))))))) else(some (.done (.inl ()))))
def Im(aN:TGraph)(aP:TGraph):Int->Option (LR Int (Unit ⊕ Bool)):=
 λ(i7:Int)=>(bif (decide (i7<(aN.Pred.length:Int))) then(Aw (As i7 aN.Pred.length) (Aw (As i7 aP.Pred.length) ((Ck (aN.Pred.getD i7.toNat []) (aP.Pred.getD i7.toNat [])).bind λx10=>(bif (!x10) then(some (.done (.inr false))) else(some (.next (w64 (i7+1)))))))) else(some (.done (.inl ()))))
def Sr(Γ:H6)(aN:TGraph)(aP:TGraph)(r:Bool):Exit->St->Prop:=fK Tryz.prog Γ Tryz.f139.results.toList [] (.bool r) []
def Abd(aN:TGraph)(aP:TGraph):=(((aN.Succ.length:Int)!=(aP.Succ.length:Int))==false)
def K0(aN:TGraph)(aP:TGraph):Option Bool:=
 (bif (bif ((aN.Succ.length:Int)!=(aP.Succ.length:Int)) then true else((aN.Pred.length:Int)!=(aP.Pred.length:Int))) then(some false) else((Ad (Il aN aP) (0:Int)).bind (λx5=>(match x5 with|(.inl _)=>((Ad (Im aN aP) (0:Int)).bind (λx11=>(match x11 with|(.inl _)=>(some true)|(.inr r13)=>(some r13))))|(.inr r14)=>(some r14)))))
variable{v56:TGraph}
theorem AB(h:K0 v18 v56=some v3):sP 139 [(fA v18),(fA v56)] [] (.bool v3) []:=
 sG Tryz.func139 λΓ q=>Ae q Cc Cc (tU q [2,3,22] Cc (gI6 (Abd v18 v56) (c1 (I9 ((v18.Succ.length:Int)!=(v56.Succ.length:Int))))) (gC h (λh=>Ae q [4] [] (tS h (Bq []))) λh=>Ae q Yw Cc (tL q h Yw Cc (λu i1=>(Cn u [(5,(Z6 i1))] [])) (λu x_=>match x_ with|(.inl _)=>aG Γ (.exit 0) (Ng Cc Cc u [] [])|(.inr r_)=>aR (Sr Γ v18 v56 r_)) (λi1 y h=>Ae q [2,3,5,27] Cc (gC h (λh=>tC h λc2_ h=>tC h λc3_ h=>tB h λx4 y4 h=>tT q [2,3,5,41] Cc [(Z7 x4)] (c3 c2_ c3_ (Hd y4)) (gC h (λh=>Ae q [4] [] (tS h (gO (Mp (H7 [] (Le.refl _ _)))))) λh=>Ae q Yw Cc (tN h))) λh=>tS h (gO (A3 (A8 Cc Cc q))))) λx5 h=>(match x5,h with | .inl _,h=>gA (Ae q HG Cc (tL q h HG Cc (λu i7=>(Cn u [(6,(Z6 i7))] [])) (λu x_=>match x_ with|(.inl _)=>aG Γ (.exit 2) (⟨[],[],[]⟩:St)|(.inr r_)=>aR (Sr Γ v18 v56 r_)) (λi7 y h=>Ae q [2,3,6,46] Cc (gC h (λh=>tC h λc8_ h=>tC h λc9_ h=>tB h λx10 y10 h=>tT q [2,3,6,60] Cc [(Z7 x10)] (c3 c8_ c9_ (Hd y10)) (gC h (λh=>Ae q [4] [] (tS h (gO (Mp (H7 [] (Le.refl _ _)))))) λh=>Ae q HG Cc (tN h))) λh=>tS h (gO (A3 (A8 [] [] q))))) λx11 h=>(match x11,h with | .inl _,h=>gA (Ae q [4] [] (tS h (Bq []))) | .inr r13,h=>gAr (λst' hk=>tS h (gK hk))))) | .inr r14,h=>gAr (λst' hk=>tS h (gK hk))))))
def Ls(a4:TGraph):Option Bool:=
 ((H2 a4.Succ).bind λx1=>((bif ((x1.2==0)==true) then K0 x1.1 a4 else some false).bind λx2=>(some (bif (x1.2==0) then x2 else false))))
theorem CC(h:Ls v18=some v3):sP 84 [(fA v18)] [] (.bool v3) []:=
 sG Tryz.func84 λΓ q=>Ae q [1] [1] (tB h λx1 y1 h=>tT q Hp I8 [(wi x1.1 x1.2)] (c1 (Rw y1)) (tB h λx2 y2 h=>tT q [2] [] [(Z7 x2)] (Kb ((x1.2==0)==true) (c2 (λ(hg:((x1.2==0)==true)=true)=>(AB (Ba hg y2))) (Na (x1.2==0)))) (tS h (Bq []))))
def C4(a4:TGraph)(x2:List Bool)(i4:Int)(l5:List (List Bool))(x9:List Bool):WK->Option qi:=
 λ((i10,l11):WK)=>(bif (decide (i10<(a4.Succ.length:Int))) then(Aw (As i4 l5.length) (Aw (As i10 x2.length) (Aw (((x2.getD i10.toNat false)==true)=true->(As i10 x9.length)) (Aw (As i10 l11.length) (some (.next ((w64 (i10+1)),(l11.set i10.toNat (bif (x2.getD i10.toNat false) then(!(x9.getD i10.toNat false)) else false))))))))) else(some (.done l11)))
abbrev Aa2:=(Int×List (List Bool))
def In(a4:TGraph)(a1:Int)(x2:List Bool):Aa2->Option (LR (Int×List (List Bool)) (List (List Bool))):=
 λ((i4,l5):Aa2)=>(bif (decide (i4<(a4.Succ.length:Int))) then(Aw (0<=(a4.Succ.length:Int)/\(a4.Succ.length:Int)<=(a4.Succ.length:Int)/\(a4.Succ.length:Int)<=(room:Int)) (Aw (As i4 l5.length) ((Cy a4 a1 i4).bind λx9=>((Ad (C4 a4 x2 i4 l5 x9) ((0:Int),(List.replicate (a4.Succ.length:Int).toNat false))).bind (λx17=>(some (.next ((w64 (i4+1)),(l5.set i4.toNat x17))))))))) else(some (.done l5)))
def C5(a4:TGraph)(l6:List (List Bool))(i22:Int)(i30:Int):(Bool×Int)->Option (LR (Bool×Int) Bool):=
 λ((b36,i37):(Bool×Int))=>(bif (decide (i37<(a4.Succ.length:Int))) then(Aw (((b36==true)&&((i37==i22)==false))=true->(As i37 l6.length)) (Aw (((b36==true)&&((i37==i22)==false))=true->(As i22 (l6.getD i37.toNat []).length)) (Aw (((b36==true)&&((bif (i37==i22) then true else(!((l6.getD i37.toNat []).getD i22.toNat false)))==false))=true->(As i37 l6.length)) (Aw (((b36==true)&&((bif (i37==i22) then true else(!((l6.getD i37.toNat []).getD i22.toNat false)))==false))=true->(As i30 (l6.getD i37.toNat []).length)) (some (.next ((bif b36 then(bif (bif (i37==i22) then true else(!((l6.getD i37.toNat []).getD i22.toNat false))) then true else((l6.getD i37.toNat []).getD i30.toNat false)) else false),(w64 (i37+1))))))))) else(some (.done b36)))
def B1(a4:TGraph)(a1:Int)(l6:List (List Bool))(i22:Int):GV->Option u5:=
 λ((i30,l31):GV)=>(bif (bif (decide (i30<(a4.Succ.length:Int))) then(i22 !=a1) else false) then(Option.bind (α:=Ao) (Aw (((i30==i22)==false)=true->(As i30 l6.length)) (Aw (((i30==i22)==false)=true->(As i22 (l6.getD i30.toNat []).length)) (bif (bif (i30==i22) then true else(!((l6.getD i30.toNat []).getD i22.toNat false))) then(some l31) else((Ad (C5 a4 l6 i22 i30) (true,(0:Int))).bind (λx43=>(bif x43 then(Aw (As i22 l31.length) (some (l31.set i22.toNat i30))) else(some l31))))))) (λx46=>(some (.next ((w64 (i30+1)),x46))))) else(some (.done l31)))
def C6(a4:TGraph)(a1:Int)(l6:List (List Bool)):GV->Option u5:=
 λ((i22,l23):GV)=>(bif (decide (i22<(a4.Succ.length:Int))) then(Aw (As i22 l23.length) (Option.bind (α:=Ao) (bif (i22==a1) then(Aw (As i22 (l23.set i22.toNat (-2:Int)).length) (some ((l23.set i22.toNat (-2:Int)).set i22.toNat (-1:Int)))) else(some (l23.set i22.toNat (-2:Int)))) (λx28=>((Ad (B1 a4 a1 l6 i22) ((0:Int),x28)).bind (λx48=>(some (.next ((w64 (i22+1)),x48)))))))) else(some (.done l23)))
def Qc(a4:TGraph):=(a4.Succ.length:Int)
def fT:=(λn_=>B4 n_ [37,75])
def Qb(l5:List (List Bool)):=(λi=>tf (l5.getD i []))
def PO(a4:TGraph):=(List.replicate (Qc a4).toNat false)
def cG(a4:TGraph):List AV:=[(.vsl 46 (PO a4).length)]
def nS(i30:Int)(i22:Int):=((i30==i22)==false)
def VC(l23:Ao)(i22:Int):=(l23.set i22.toNat (-2:Int))
def kz(l11:List Bool):=(λi=>eB (l11.getD i false))
def ky:=(λn_=>B4 n_ [2,35,37,46])
def PP:=(λn_=>B4 n_ [2,35,37,46,51])
def VB(a4:TGraph):=(λi=>eB ((PO a4).getD i false))
def NZ(l11:List Bool)(i10:Int)(x2:List Bool)(x9:List Bool):=(l11.set i10.toNat (bif (x2.getD i10.toNat false) then(!(x9.getD i10.toNat false)) else false))
def fS(l11:List Bool)(i10:Int)(x2:List Bool)(x9:List Bool):=(λi=>eB ((NZ l11 i10 x2 x9).getD i false))
def kx(b36:Bool)(i37:Int)(i22:Int):=((b36==true)&&((i37==i22)==false))
def sc:List NL:=[(4,jM)]
def yr(x1:Bool)(a1:Int):=(bif (!x1) then true else(decide (a1<0)))
def Qj(a4:TGraph):List AV:=[(FZ a4.Succ),(FZ a4.Pred)]
def yu:=(Z36:St)
def kw(b36:Bool)(i37:Int)(i22:Int)(x19:List (List Bool)):=((b36==true)&&((bif (i37==i22) then true else(!((x19.getD i37.toNat []).getD i22.toNat false)))==false))
def fR(a1:Int)(a4:TGraph)(x2:List Bool)(l5:List (List Bool))(i4:Int):List NL:=[(1,(Z6 a1)),Ob,(5,(Z6 (Qc a4))),(6,(VE x2 35)),(V6 37 l5.length),(8,(Z6 i4))]
def sb(a1:Int)(a4:TGraph)(x2:List Bool)(l5:List (List Bool))(i4:Int):List NL:=[(1,(Z6 a1)),Ob,(5,(Z6 (Qc a4))),(6,(VE x2 35)),(V6 37 l5.length),(8,(.int .i64 (w64 (i4+1))))]
def sa(a1:Int)(a4:TGraph)(x2:List Bool)(l5:List (List Bool))(i4:Int)(x9:List Bool)(i10:Int):List NL:=[(1,(Z6 a1)),Ob,(5,(Z6 (Qc a4))),(6,(VE x2 35)),(V6 37 l5.length),(8,(Z6 i4)),(9,(VE x9 51)),(10,(Z6 i10))]
def nR(a1:Int)(a4:TGraph)(x2:List Bool)(l5:List (List Bool))(i4:Int)(x9:List Bool):List NL:=[(1,(Z6 a1)),Ob,(5,(Z6 (Qc a4))),(6,(VE x2 35)),(V6 37 l5.length),(8,(Z6 i4)),(9,(VE x9 51)),(10,Lc)]
def sZ(a1:Int)(a4:TGraph)(x2:List Bool)(l5:List (List Bool))(i4:Int)(x9:List Bool)(i10:Int):List NL:=[(1,(Z6 a1)),Ob,(5,(Z6 (Qc a4))),(6,(VE x2 35)),(V6 37 l5.length),(8,(Z6 i4)),(9,(VE x9 51)),(10,(.int .i64 (w64 (i10+1))))]
def yv(a1:Int)(a4:TGraph)(x2:List Bool)(l5:List (List Bool))(i4:Int)(x9:List Bool)(i10:Int):List NL:=[(1,(Z6 a1)),Ob,(5,(Z6 (Qc a4))),(6,(VE x2 35)),(V6 37 l5.length),(8,(Z6 i4)),(9,(VE x9 51)),(10,(Z6 i10)),(54,(.bool (decide (i10<(Qc a4)))))]
def K2(a4:TGraph)(a1:Int):Option Ao:=
 ((Ls a4).bind λx1=>(bif (bif (bif (!x1) then true else(decide (a1<0))) then true else(decide ((a4.Succ.length:Int)<=a1))) then(some ([]:Ao)) else((Cy a4 a1 (-1:Int)).bind λx2=>(Aw (0<=(a4.Succ.length:Int)/\(a4.Succ.length:Int)<=(a4.Succ.length:Int)/\(a4.Succ.length:Int)<=(room:Int)) ((Ad (In a4 a1 x2) ((0:Int),(List.replicate (a4.Succ.length:Int).toNat ([]:List Bool)))).bind (λx19=>(Aw (0<=(a4.Succ.length:Int)/\(a4.Succ.length:Int)<=(a4.Succ.length:Int)/\(a4.Succ.length:Int)<=(room:Int)) ((Ad (C6 a4 a1 x19) ((0:Int),(List.replicate (a4.Succ.length:Int).toNat (0:Int)))).bind (λx50=>(some x50))))))))))
theorem AD(h:K2 v18 v1=some v2):sP 48 [(fA v18),(Z6 v1)] [] (HO v2 20000) [(Ts 20000 v2.length)]:=
 sG Tryz.func48 λΓ q=>have hΓ:=q.own;gR q Nj [2] sc [] (c1 (Bd 1 An (0:Int))) (tB h λx1 y1 h=>tT q [1,2,29] [2] [(Z7 x1)] (bu (CC y1) (gI ((!x1)==false)) (I9 (!x1)) (QL ((yr x1 v1)==false) (c1 (I9 (yr x1 v1))))) (gC h (λh=>gR q [4] [] sc [] (c1 (Bd 1 An (0:Int))) (O8 (⟨sc,[],[]⟩:St) (tS h (gK (e:=.ret) (H7 TN (show Le Γ _ yu from Le.trans (A8 (st':=⟨sc,[],[]⟩) [4] [] q) (Le.trans (Ld (t:=4) (nm:=6004) (sz':=1) (λi=>An (([]:Ao).getD i 0)) 3 rfl rfl (.inl ⟨rfl,rfl⟩) (λh_=>absurd h_ (by decide))) (A8 (st':=yu) [4] [6004] q)))))))) λh=>Ae q Wl [2] (tB h λx2 y2 h=>tT q [1,2,5,6] [2,35] [⟨[],[(20000,35)],(VE x2 20000),[(Sh 20000 x2.length)],[],[]⟩] (c1 (Ml y2)) (tV q iq LY h λh=>by exact M3 (Le.trans (Vf 37 (show ∀ k_,k_<((Qc v18).toNat)->AVleL ((λi_=>AV.eraseAll (λn_=>B4 n_ LY) ((λ_=>[UT]) i_)) k_) ((λi=>tf ((List.replicate (Qc v18).toNat ([]:List Bool)).getD i [])) k_) from(λk hk=>Rd (e:=tf) (d:=[]) (.cons (λ_ _ _ _ _ hh=>AVle.untag _ _ _ _ _ (Dv _ _ _ _ _ hh)) .nil) _ k (Rk hk)))) (Vg (λ(k_:Nat) u=>(Cn u [(V6 37 k_)] [(37,.arr 1 143 k_ (λi=>tf ((List.replicate (Qc v18).toNat ([]:List Bool)).getD i [])))])) (show(Qc v18).toNat=(List.replicate (Qc v18).toNat ([]:List Bool)).length from(S3 ..).symm))) (Ae q ZA LY (tL q h ZA LY (λu (i4,l5)=>(Cn u [(V6 37 l5.length),(8,(Z6 i4))] [(37,.arr 1 143 l5.length (Qb l5))])) (λu l6=>aG Γ (.exit 0) (Ng [1,5,7] [37] u [(V6 37 l6.length)] [(37,.arr 1 143 l6.length (λi=>tf (l6.getD i [])))])) (λ⟨i4,l5⟩ y h=>Ae q [1,2,5,6,7,8,40] LY (gC h (λh=>tC h λc7_ h=>tC h λc8_ h=>tU q ZA jB (c3 c7_ c8_ (Eq.refl l5.length)) (O8 (⟨(fR v1 v18 x2 l5 i4),[(L9 97 (Qj v18)),(Sh 35 x2.length),(37,.arr 1 143 l5.length (λi_=>AV.eraseAll ky ((Fd (Qb l5) i4.toNat 0 [(.vsl 46 (Qc v18).toNat)]) i_))),(46,.arr 1 4 ((Qc v18).toNat) (λi_=>AV.eraseAll ky ((λ_=>[(.bool false)]) i_)))],[]⟩:St) (by exact M3 (Le.trans (Le.trans (Gw (st':=⟨(fR v1 v18 x2 l5 i4),[(L9 97 (Qj v18)),(Sh 35 x2.length),(37,.arr 1 143 l5.length (λi_=>AV.eraseAll ky ((Fd (Qb l5) i4.toNat 0 [(.vsl 46 (Qc v18).toNat)]) i_))),(46,.arr 1 4 ((Qc v18).toNat) (VB v18))],[]⟩) (TmpsLe.refl _) (.same (.same (.same (.arr (λk hk=>Rd (e:=eB) (d:=false) (.cons (AVle.refl _) .nil) _ k (Rk hk)) .nil))))) (H8 (Bn (λk_:Nat=>(⟨(fR v1 v18 x2 l5 i4),[(L9 97 (Qj v18)),(Sh 35 x2.length),(wg l5.length ky (Qb l5) i4.toNat k_),(46,.arr 1 4 k_ (VB v18))],[]⟩:St)) (show(Qc v18).toNat=(PO v18).length from(S3 ..).symm)))) (Gw (st':=⟨(fR v1 v18 x2 l5 i4),[(L9 97 (Qj v18)),(Sh 35 x2.length),(37,.arr 1 143 l5.length (Fd (Qb l5) i4.toNat 0 (cG v18))),(46,.arr 1 4 ((PO v18).length) (VB v18))],[]⟩) (TmpsLe.refl _) (.same (.same (.arr (Mz (λ_=>rfl) rfl) (.same .nil)))))) (tB h λx9 y9 h=>tT q [1,2,5,6,7,8,9] UP [⟨[],[(20000,51)],(VE x9 20000),[(Sh 20000 x9.length)],[],[]⟩] (c1 (Ml y9)) (O8 (⟨[(1,(Z6 v1)),Ob,(5,(Z6 (Qc v18))),(6,(VE x2 35)),(V6 37 l5.length),(8,(Z6 i4)),(9,(VE x9 51))],[(L9 97 (Qj v18)),(Sh 35 x2.length),(37,.arr 1 143 l5.length (λi_=>AV.eraseAll PP ((Fd (Qb l5) i4.toNat 0 (cG v18)) i_))),(46,.arr 1 4 ((PO v18).length) (VB v18)),(Sh 51 x9.length)],[]⟩:St) (M3 (Gw (st':=⟨[(1,(Z6 v1)),Ob,(5,(Z6 (Qc v18))),(6,(VE x2 35)),(V6 37 l5.length),(8,(Z6 i4)),(9,(VE x9 51))],[(L9 97 (Qj v18)),(Sh 35 x2.length),(37,.arr 1 143 l5.length (Fd (Qb l5) i4.toNat 0 (cG v18))),(46,.arr 1 4 ((PO v18).length) (VB v18)),(Sh 51 x9.length)],[]⟩) (TmpsLe.refl _) (.same (.same (.arr (Mz (λ_=>rfl) rfl) (.same (.same .nil)))))) (Ae q ek UP (O8 (⟨(nR v1 v18 x2 l5 i4 x9),[(L9 97 (Qj v18)),(Sh 35 x2.length),(37,.arr 1 143 l5.length (λi_=>AV.eraseAll PP ((Fd (Qb l5) i4.toNat 0 (cG v18)) i_))),(46,.arr 1 4 ((PO v18).length) (VB v18)),(Sh 51 x9.length)],[]⟩:St) (M3 (Gw (st':=⟨(nR v1 v18 x2 l5 i4 x9),[(L9 97 (Qj v18)),(Sh 35 x2.length),(37,.arr 1 143 l5.length (Fd (Qb l5) i4.toNat 0 (cG v18))),(46,.arr 1 4 ((PO v18).length) (VB v18)),(Sh 51 x9.length)],[]⟩) (TmpsLe.refl _) (.same (.same (.arr (Mz (λ_=>rfl) rfl) (.same (.same .nil)))))) (M3 (st':=⟨(nR v1 v18 x2 l5 i4 x9),[(L9 97 (Qj v18)),(Sh 35 x2.length),(37,.arr 1 143 l5.length (Fd (Qb l5) i4.toNat 0 (cG v18))),(46,.arr 1 4 ((PO v18).length) (VB v18)),(Sh 51 x9.length)],[]⟩) (Le.trans (Le.trans (A8 (st':=⟨(nR v1 v18 x2 l5 i4 x9),[(L9 97 (Qj v18)),(Sh 35 x2.length),(37,.arr 1 143 l5.length (λi_=>AV.eraseAll PP ((Fd (Qb l5) i4.toNat 0 (cG v18)) i_))),(46,.arr 1 4 ((PO v18).length) (VB v18)),(Sh 51 x9.length)],[]⟩) ek UP q) (Gw (st':=⟨(nR v1 v18 x2 l5 i4 x9),[(L9 97 (Qj v18)),(Sh 35 x2.length),(37,.arr 1 143 l5.length (Fd (Qb l5) i4.toNat 0 (cG v18))),(46,.arr 1 4 ((PO v18).length) (VB v18)),(Sh 51 x9.length)],[]⟩) (TmpsLe.refl _) (.same (.same (.arr (Mz (λ_=>rfl) rfl) (.same (.same .nil))))))) (H8 (by kernel_rfl))) (tB h λx17 y17 h=>gL0 y17 (λu (i10,l11)=>(Cn u [(10,(Z6 i10))] [(ni l5.length (Qb l5) i4.toNat l11.length),(46,.arr 1 4 l11.length (kz l11))])) (λu l12=>aG Γ (.exit 2) (⟨(fR v1 v18 x2 l5 i4),[(L9 97 (Qj v18)),(Sh 35 x2.length),(ni l5.length (Qb l5) i4.toNat l12.length),(lC 46 l12)],[]⟩:St)) (λ⟨i10,l11⟩ y h=>Ae q [1,2,5,6,7,8,9,10,54] UP (O8 (⟨(yv v1 v18 x2 l5 i4 x9 i10),[(L9 97 (Qj v18)),(Sh 35 x2.length),(wg l5.length PP (Qb l5) i4.toNat l11.length),(46,.arr 1 4 l11.length (kz l11)),(Sh 51 x9.length)],[]⟩:St) (M3 (Gw (st':=⟨(yv v1 v18 x2 l5 i4 x9 i10),[(L9 97 (Qj v18)),(Sh 35 x2.length),(ni l5.length (Qb l5) i4.toNat l11.length),(46,.arr 1 4 l11.length (kz l11)),(Sh 51 x9.length)],[]⟩) (TmpsLe.refl _) (.same (.same (.arr (Mz (λ_=>rfl) rfl) (.same (.same .nil)))))) (gC h (λh=>tC h λc13_ h=>tC h λc14_ h=>tC h λc15_ h=>tC h λc16_ h=>gR q ek UP [(60,(.vsl 46 l11.length))] [] (zZ c13_ (Eq.refl l5.length) (show(AVle (((Fd (Qb l5) i4.toNat 0 [(.vsl 46 l11.length)]) i4.toNat).getD 0 .any) (.vsl 46 l11.length)) from ld) c14_ (Kb ((x2.getD i10.toNat false)==true) (ci c15_ (Kb ((x2.getD i10.toNat false)==true) (c3 (Na (x2.getD i10.toNat false)) c16_ (Eq.refl l11.length)))))) (O8 (⟨(sa v1 v18 x2 l5 i4 x9 i10),[(L9 97 (Qj v18)),(Sh 35 x2.length),(wg l5.length PP (Qb l5) i4.toNat l11.length),(46,.arr 1 4 l11.length (λi_=>AV.eraseAll PP ((Fd (kz l11) i10.toNat 0 [(.bool (bif (x2.getD i10.toNat false) then(!(x9.getD i10.toNat false)) else false))]) i_))),(Sh 51 x9.length)],[]⟩:St) (M3 (Le.trans (Le.trans (Gw (st':=⟨(sa v1 v18 x2 l5 i4 x9 i10),[(L9 97 (Qj v18)),(Sh 35 x2.length),(wg l5.length PP (Qb l5) i4.toNat l11.length),(46,.arr 1 4 l11.length (fS l11 i10 x2 x9)),(Sh 51 x9.length)],[]⟩) (TmpsLe.refl _) (.same (.same (.same (.arr (Bl (D0 ..).symm (λk_ hk_=>(Bn (AV.eraseAll PP) ((Hg (λ_ _=>rfl) (J1 c16_) rfl) k_ hk_)).trans rfl)) (.same .nil)))))) (H8 (Bn (λk_:Nat=>(⟨(sa v1 v18 x2 l5 i4 x9 i10),[(L9 97 (Qj v18)),(Sh 35 x2.length),(wg l5.length PP (Qb l5) i4.toNat k_),(46,.arr 1 4 k_ (fS l11 i10 x2 x9)),(Sh 51 x9.length)],[]⟩:St)) (show l11.length=(NZ l11 i10 x2 x9).length from(D0 ..).symm)))) (Gw (st':=⟨(sa v1 v18 x2 l5 i4 x9 i10),[(L9 97 (Qj v18)),(Sh 35 x2.length),(37,.arr 1 143 l5.length (Fd (Qb l5) i4.toNat 0 [(.vsl 46 (NZ l11 i10 x2 x9).length)])),(46,.arr 1 4 ((NZ l11 i10 x2 x9).length) (fS l11 i10 x2 x9)),(Sh 51 x9.length)],[]⟩) (TmpsLe.refl _) (.same (.same (.arr (Mz (λ_=>rfl) rfl) (.same (.same .nil))))))) (Ae q ek UP (O8 (⟨(sZ v1 v18 x2 l5 i4 x9 i10),[(L9 97 (Qj v18)),(Sh 35 x2.length),(37,.arr 1 143 l5.length (λi_=>AV.eraseAll PP ((Fd (Qb l5) i4.toNat 0 [(.vsl 46 (NZ l11 i10 x2 x9).length)]) i_))),(46,.arr 1 4 ((NZ l11 i10 x2 x9).length) (fS l11 i10 x2 x9)),(Sh 51 x9.length)],[]⟩:St) (tS h (gN (Le.trans (Gw (st':=⟨(sZ v1 v18 x2 l5 i4 x9 i10),[(L9 97 (Qj v18)),(Sh 35 x2.length),(37,.arr 1 143 l5.length (Fd (Qb l5) i4.toNat 0 [(.vsl 46 (NZ l11 i10 x2 x9).length)])),(46,.arr 1 4 ((NZ l11 i10 x2 x9).length) (fS l11 i10 x2 x9)),(Sh 51 x9.length)],[]⟩) (TmpsLe.refl _) (.same (.same (.arr (Mz (λ_=>rfl) rfl) (.same (.same .nil)))))) (Le.trans (Le.trans (A8 (st':=⟨(sZ v1 v18 x2 l5 i4 x9 i10),[(L9 97 (Qj v18)),(Sh 35 x2.length),(37,.arr 1 143 l5.length (λi_=>AV.eraseAll PP ((Fd (Qb l5) i4.toNat 0 [(.vsl 46 (NZ l11 i10 x2 x9).length)]) i_))),(46,.arr 1 4 ((NZ l11 i10 x2 x9).length) (fS l11 i10 x2 x9)),(Sh 51 x9.length)],[]⟩) ek UP q) (Gw (st':=⟨(sZ v1 v18 x2 l5 i4 x9 i10),[(L9 97 (Qj v18)),(Sh 35 x2.length),(37,.arr 1 143 l5.length (Fd (Qb l5) i4.toNat 0 [(.vsl 46 (NZ l11 i10 x2 x9).length)])),(46,.arr 1 4 ((NZ l11 i10 x2 x9).length) (fS l11 i10 x2 x9)),(Sh 51 x9.length)],[]⟩) (TmpsLe.refl _) (.same (.same (.arr (Mz (λ_=>rfl) rfl) (.same (.same .nil))))))) (H8 (by kernel_rfl))))))))))) λh=>tS h (gO (A3 (Le.trans (Le.trans (A8 (st':=⟨(fR v1 v18 x2 l5 i4),[(L9 97 (Qj v18)),(Sh 35 x2.length),(wg l5.length ky (Qb l5) i4.toNat l11.length),(46,.arr 1 4 l11.length (kz l11))],[]⟩) ZA jB q) (Gw (st':=⟨(fR v1 v18 x2 l5 i4),[(L9 97 (Qj v18)),(Sh 35 x2.length),(ni l5.length (Qb l5) i4.toNat l11.length),(46,.arr 1 4 l11.length (kz l11))],[]⟩) (TmpsLe.refl _) (.same (.same (.arr (Mz (λ_=>rfl) rfl) (.same .nil)))))) (H8 (by kernel_rfl))))))))) (gA (Ae q ZA jB (O8 (⟨(sb v1 v18 x2 l5 i4),[(L9 97 (Qj v18)),(Sh 35 x2.length),(wg l5.length ky (Qb l5) i4.toNat x17.length),(lC 46 x17)],[]⟩:St) (tS h (gN (Le.trans (Le.trans (Gw (st':=⟨(sb v1 v18 x2 l5 i4),[(L9 97 (Qj v18)),(Sh 35 x2.length),(ni l5.length (Qb l5) i4.toNat x17.length),(lC 46 x17)],[]⟩) (TmpsLe.refl _) (.same (.same (.arr (Mz (λ_=>rfl) rfl) (.same .nil))))) (Le.trans (Le.trans (Le.trans (Gp (nm:=46) (sz:=1) (n:=x17.length) (e:=4) (f:=(λi=>eB (x17.getD i false))) (g:=(λi=>eB (x17.getD i false))) rfl trivial (λ_ _=>rfl) (by rw[hΓ];rfl)) (H8 (st':=⟨(sb v1 v18 x2 l5 i4),[(L9 97 (Qj v18)),(Sh 35 x2.length),(37,.arr 1 143 l5.length (λi_=>AV.frwAll 46 1 x17.length (λi=>eB (x17.getD i false)) ((Fd (Qb l5) i4.toNat 0 [(.vsl 46 x17.length)]) i_))),(Sh 46 x17.length)],[]⟩) (by kernel_rfl))) (Gw (st':=⟨(sb v1 v18 x2 l5 i4),[(L9 97 (Qj v18)),(Sh 35 x2.length),(37,.arr 1 143 l5.length (λi=>tf ((l5.set i4.toNat x17).getD i []))),(Sh 46 x17.length)],[]⟩) (TmpsLe.refl _) (.same (.same (.arr (pG (λ_=>rfl) (λ_=>rfl) rfl) (.same .nil)))))) (H8 (Bn (λk_:Nat=>(⟨[(1,(Z6 v1)),Ob,(5,(Z6 (Qc v18))),(6,(VE x2 35)),(V6 37 k_),(8,(.int .i64 (w64 (i4+1))))],[(L9 97 (Qj v18)),(Sh 35 x2.length),(37,.arr 1 143 k_ (λi=>tf ((l5.set i4.toNat x17).getD i []))),(Sh 46 x17.length)],[]⟩:St)) (show l5.length=(l5.set i4.toNat x17).length from(D0 ..).symm))))) (A8 ZA LY q)))))))))))))))))) λh=>tS h (gO (A3 (A8 [1,5,7] [37] q))))) λx19 h=>gA (tV q [1,5,7,11] Ln h λh=>by exact M3 (Le.trans (Vf 75 (show ∀ k_,k_<((Qc v18).toNat)->AVleL ((λi_=>AV.eraseAll fT ((λ_=>[Lc]) i_)) k_) ((λi=>An ((List.replicate (Qc v18).toNat (0:Int)).getD i 0)) k_) from(λk hk=>Rd (e:=An) (d:=(0:Int)) (.cons (AVle.refl _) .nil) _ k (Rk hk)))) (Vg (λ(k_:Nat) u=>(Cn u [(11,(.vsl 75 k_))] [(75,.arr 1 3 k_ (λi=>An ((List.replicate (Qc v18).toNat (0:Int)).getD i 0)))])) (show(Qc v18).toNat=(List.replicate (Qc v18).toNat (0:Int)).length from(S3 ..).symm))) (Ae q NS Ln (tL q h NS Ln (λu (i22,l23)=>(Cn u [(11,(.vsl 75 l23.length)),(12,(Z6 i22))] [(Z4 75 l23)])) (λu l24=>aG Γ (.exit 4) (⟨[(11,(.vsl 75 l24.length))],[(Z4 75 l24)],[]⟩:St)) (λ⟨i22,l23⟩ y h=>Ae q [1,5,7,11,12,78] Ln (gC h (λh=>tC h λc25_ h=>tU q NS Ln (c2 c25_ (Eq.refl l23.length)) (M3 (Le.trans (Vf 75 (show ∀ k_,k_<l23.length->AVleL ((λi_=>AV.eraseAll fT ((Fd (λi=>An (l23.getD i 0)) i22.toNat 0 [(.int .i64 (-2:Int))]) i_)) k_) ((λi=>An ((VC l23 i22).getD i 0)) k_) from(Bl (D0 ..).symm (λk_ hk_=>(Bn (AV.eraseAll fT) ((Hg (λ_ _=>rfl) (J1 c25_) rfl) k_ hk_)).trans rfl)))) (Vg (λ(k_:Nat) u=>(Cn u [(11,(.vsl 75 k_))] [(75,.arr 1 3 k_ (λi=>An ((VC l23 i22).getD i 0)))])) (show l23.length=(VC l23 i22).length from(D0 ..).symm))) (tB h λx28 y28 h=>gJ y28 (λl26=>aG Γ .normal (⟨[(1,(Z6 v1)),(5,(Z6 (Qc v18))),(V6 37 x19.length),(11,(.vsl 75 l26.length)),(12,(Z6 i22))],[(37,.arr 1 143 x19.length (λi=>tf (x19.getD i []))),(Z4 75 l26)],[]⟩:St)) (λy h=>Ae q [1,5,7,11,12,86] Ln (gC h (λh=>tC h λc27_ h=>tU q NS Ln (c2 c27_ (Eq.refl ((VC l23 i22).length))) (tS h (gK (A3 (Le.trans (Le.trans (Vf 75 (show ∀ k_,k_<((VC l23 i22).length)->AVleL ((λi_=>AV.eraseAll fT ((Fd (λi=>An ((VC l23 i22).getD i 0)) i22.toNat 0 [(.int .i64 (-1:Int))]) i_)) k_) ((λi=>An (((VC l23 i22).set i22.toNat (-1:Int)).getD i 0)) k_) from(Bl (D0 ..).symm (λk_ hk_=>(Bn (AV.eraseAll fT) ((Hg (λ_ _=>rfl) (J1 c27_) rfl) k_ hk_)).trans rfl)))) (Vg (λ(k_:Nat) u=>(Cn u [(11,(.vsl 75 k_))] [(75,.arr 1 3 k_ (λi=>An (((VC l23 i22).set i22.toNat (-1:Int)).getD i 0)))])) (show(VC l23 i22).length=((VC l23 i22).set i22.toNat (-1:Int)).length from(D0 ..).symm))) Gv))))) λh=>tS h (gK (A3 (A8 NS Ln q))))) (gA (Ae q YX Ln (tL q h YX Ln (λu (i30,l31)=>(Cn u [(11,(.vsl 75 l31.length)),(13,(Z6 i30))] [(Z4 75 l31)])) (λu l32=>aG Γ (.exit 6) (Ng NS Ln u [(11,(.vsl 75 l32.length))] [(Z4 75 l32)])) (λ⟨i30,l31⟩ y h=>tU q [1,5,7,11,12,13,97] Ln (Kb ((decide (i30<(Qc v18)))==true) (c1 (Na (decide (i30<(Qc v18)))))) (gC h (λh=>tB h λx46 y46 h=>gJ y46 (λl33=>aG Γ .normal (⟨[(1,(Z6 v1)),(5,(Z6 (Qc v18))),(V6 37 x19.length),(11,(.vsl 75 l33.length)),(12,(Z6 i22)),(13,(Z6 i30))],[(37,.arr 1 143 x19.length (λi=>tf (x19.getD i []))),(Z4 75 l33)],[]⟩:St)) (λy h=>tC h λc34_ h=>tC h λc35_ h=>tU q [1,5,7,11,12,13,112] Ln (Kb (nS i30 i22) (bu c34_ (gI (nS i30 i22)) (show((nS i30 i22)=true->(x19.length=x19.length)) from(λhg=>rfl)) (Kb (nS i30 i22) (ci c35_ (Kb (nS i30 i22) (c1 (I9 (i30==i22)))))))) (gC h (λh=>tS h (gK (A3 (A8 YX Ln q)))) λh=>tW q iQ Ln kX Ln (tL q h kX Ln (λu (b36,i37)=>(Cn u [(14,(.bool b36)),(15,(Z6 i37))] [])) (λu b38=>aG Γ (.exit 8) (Ng iQ Ln u [(14,(.bool b38))] [])) (λ⟨b36,i37⟩ y h=>Ae q [1,5,7,11,12,13,14,15,115] Ln (gC h (λh=>tC h λc39_ h=>tC h λc40_ h=>tC h λc41_ h=>tC h λc42_ h=>tU q kX Ln (Si (b36==true) (Kb (kx b36 i37 i22) (bu c39_ (gI (kx b36 i37 i22)) (show((kx b36 i37 i22)=true->(x19.length=x19.length)) from(λhg=>rfl)) (Kb (kx b36 i37 i22) (ci c40_ (Kb (kx b36 i37 i22) (bu (gI (b36==true)) (show((b36==true)=true->((i37==i22)=false->(kx b36 i37 i22)=true)) from(λhg=>(aF hg))) (gI (b36==true)) (Kb (kw b36 i37 i22 x19) (bu c41_ (gI (kw b36 i37 i22 x19)) (show((kw b36 i37 i22 x19)=true->(x19.length=x19.length)) from(λhg=>rfl)) (Kb (kw b36 i37 i22 x19) (c5 c42_ (gI (kw b36 i37 i22 x19)) (gI (b36==true)) (show((b36==true)=true->((bif (i37==i22) then true else(!((x19.getD i37.toNat []).getD i22.toNat false)))=false->(kw b36 i37 i22 x19)=true)) from(λhg=>(aF hg))) (Na b36)))))))))))) (Ae q kX Ln (tN h))) λh=>tS h (gO (A3 (A8 iQ Ln q))))) λx43 h=>gA (Ae q [1,5,7,11,12,13,143] Ln (gC h (λh=>tC h λc45_ h=>tU q YX Ln (c2 c45_ (Eq.refl l31.length)) (tS h (gK (A3 (Le.trans (Le.trans (Vf 75 (show ∀ k_,k_<l31.length->AVleL ((λi_=>AV.eraseAll fT ((Fd (λi=>An (l31.getD i 0)) i22.toNat 0 [(Z6 i30)]) i_)) k_) ((λi=>An ((l31.set i22.toNat i30).getD i 0)) k_) from(Bl (D0 ..).symm (λk_ hk_=>(Bn (AV.eraseAll fT) ((Hg (λ_ _=>rfl) (J1 c45_) rfl) k_ hk_)).trans rfl)))) (Vg (λ(k_:Nat) u=>(Cn u [(11,(.vsl 75 k_))] [(75,.arr 1 3 k_ (λi=>An ((l31.set i22.toNat i30).getD i 0)))])) (show l31.length=(l31.set i22.toNat i30).length from(D0 ..).symm))) Gv))))) λh=>tS h (gK (A3 (A8 YX Ln q)))))))) (gA (Ae q YX Ln (tN h)))) λh=>tS h (gO (A3 (A8 NS Ln q))))) λx48 h=>gA (Ae q NS Ln (tN h)))))))) λh=>tS h (gO (A3 (A8 [11] [75] q))))) λx50 h=>gA (Ae q [4] [75] (O8 ((lA 75 x50.length x50):St) (tS h (gK (e:=.ret) (H7 [(75,20000)] (Le.trans (Gp (nm:=75) (sz:=1) (n:=x50.length) (e:=3) (f:=(λi=>An (x50.getD i 0))) (g:=(λi=>An (x50.getD i 0))) rfl ⟨rfl,trivial⟩ (λ_ _=>rfl) (by rw[hΓ];rfl)) (H8 (st':=(yC x50 75 x50.length)) (by kernel_rfl)))))))))))))))))
def Ch(a9:Ao):GV->Option (LR (Int×Ao) (Unit ⊕ Ao)):=
 λ((i1,l2):GV)=>(bif (bif (bif (decide ((l2.length:Int)<(a9.length:Int))) then(decide ((0:Int)<=i1)) else false) then(decide (i1<(a9.length:Int))) else false) then(Aw (l2.length+([i1]:Ao).length<=room) (Aw (As i1 a9.length) (bif ((a9.getD i1.toNat 0)==-1) then(some (.done (.inr (l2++([i1]:Ao))))) else(Aw (As i1 a9.length) (some (.next ((a9.getD i1.toNat 0),(l2++([i1]:Ao))))))))) else(some (.done (.inl ()))))
def AR(Γ:H6)(a9:Ao)(aN:Int)(r:Ao):Exit->St->Prop:=fK Tryz.prog Γ Tryz.f86.results.toList [] (HO r 20000) [(Ts 20000 r.length)]
def k7:AV:=jM
def yw(l2:Ao)(a9:Ao)(i1:Int):=(bif (decide ((l2.length:Int)<(a9.length:Int))) then(decide ((0:Int)<=i1)) else false)
def yy:=(Z36:St)
def yx(a9:Ao)(aN:Int):=(⟨[(0,(My a9)),(1,(Z6 aN)),(5,(AV.list 1 An 0 ([]:Ao) (.own 5005)))],[(5005,.tok 1 3 (([]:Ao).length))],[]⟩:St)
def Fz(a9:Ao)(aN:Int):Option Ao:=
 ((Ad (Ch a9) (aN,([]:Ao))).bind (λx6=>(match x6 with|(.inl _)=>(some ([]:Ao))|(.inr r8)=>(some r8))))
theorem M4(h:Fz v2 v1=some v17):sP 86 [(My v2),(Z6 v1)] [] (HO v17 20000) [(Ts 20000 v17.length)]:=
 sG Tryz.func86 λΓ q=>gR q Fg [] [(4,k7)] [] (c1 (Bd 1 An (0:Int))) (gR q Ph [] [(5,k7)] [] (c1 (Bd 1 An (0:Int))) (M3 (st':=(yx v2 v1)) (Le.trans (A8 (st':=⟨[(0,(My v2)),(1,(Z6 v1)),(5,k7)],[],[]⟩) Ph [] q) (Le.trans (Ld (t:=5) (nm:=5005) (sz':=1) (λi=>An (([]:Ao).getD i 0)) 3 rfl rfl (.inl ⟨rfl,rfl⟩) (λh_=>absurd h_ (by decide))) (A8 (st':=(yx v2 v1)) Ph [5005] q))) (tL q h Ph [5005] (λu (i1,l2)=>(Cn u [(1,(Z6 i1)),(5,(HO l2 5005))] [(Ts 5005 l2.length)])) (λu x_=>match x_ with|(.inl _)=>aG Γ (.exit 0) (⟨[],[],[]⟩:St)|(.inr r_)=>aR (AR Γ v2 v1 r_)) (λ⟨i1,l2⟩ y h=>tU q [0,1,5,20] [5005] (QD (gI ((decide ((l2.length:Int)<(v2.length:Int)))==true)) (Na (decide ((l2.length:Int)<(v2.length:Int)))) (Si ((yw l2 v2 i1)==true) (c1 (Na (yw l2 v2 i1))))) (gC h (λh=>tC h λc3_ h=>gR q Ph [5005] [(23,(ml i1)),(24,(AV.list 1 An 0 (l2++([i1]:Ao)) (.own 5005)))] [] (c5 (Az 1 An (0:Int) ([i1]:Ao)) (Eq.refl l2.length) c3_ (Cv 1 5005 An (0:Int) l2 ([i1]:Ao)) (Bs l2 ([i1]:Ao))) (tV q [0,1,5,29] [5005] h λh=>gC h (λh=>Ae q [4] [5005] (tS h (gO (Mp (H7 [(5005,20000)] (Le.refl _ _)))))) λh=>tV q Ph [5005] h λh=>tN h)) λh=>tS h (gO (A3 (A8 [] [] q))))) λx6 h=>(match x6,h with | .inl _,h=>gA (gR q [4] [] [(4,k7)] [] (c1 (Bd 1 An (0:Int))) (O8 (⟨[(4,k7)],[],[]⟩:St) (tS h (gK (e:=.ret) (H7 TN (show Le Γ _ yy from Le.trans (A8 (st':=⟨[(4,k7)],[],[]⟩) [4] [] q) (Le.trans (Ld (t:=4) (nm:=6004) (sz':=1) (λi=>An (([]:Ao).getD i 0)) 3 rfl rfl (.inl ⟨rfl,rfl⟩) (λh_=>absurd h_ (by decide))) (A8 (st':=yy) [4] [6004] q)))))))) | .inr r8,h=>gAr (λst' hk=>tS h (gK hk))))))
def Bz(a9:Ao):Ho->Option (LR (Int×Int) (Int ⊕ Bool)):=
 λ((i1,i2):Ho)=>(bif (decide (i2<(a9.length:Int))) then(Option.bind (α:=Int) (Aw (As i2 a9.length) (bif ((a9.getD i2.toNat 0)==-1) then(some (w64 (i1+1))) else(some i1))) (λx6=>(Aw (As i2 a9.length) ((bif (((a9.getD i2.toNat 0)!=-2)==true) then Fz a9 i2 else some []).bind λx9=>(bif (bif ((a9.getD i2.toNat 0)!=-2) then((x9.length:Int)==0) else false) then(some (.done (.inr false))) else(some (.next (x6,(w64 (i2+1)))))))))) else(some (.done (.inl i1))))
def Zn(Γ:H6)(a9:Ao)(r:Bool):Exit->St->Prop:=fK Tryz.prog Γ Tryz.f85.results.toList [] (.bool r) []
def sd(a9:Ao)(i2:Int):=((a9.getD i2.toNat 0)!=-2)
def J7(a9:Ao):Option Bool:=
 ((Ad (Bz a9) ((0:Int),(0:Int))).bind (λx10=>(match x10 with|(.inl i3)=>(some (i3==1))|(.inr r12)=>(some r12))))
theorem Yh(h:J7 v2=some v3):sP 85 [(My v2)] [] (.bool v3) []:=
 sG Tryz.func85 λΓ q=>tW q [0] [] R4 [] (Ae q Tq [] (tL q h Tq [] (λu (i1,i2)=>(Cn u [(3,(Z6 i1)),(4,(Z6 i2))] [])) (λu x_=>match x_ with|(.inl i3)=>aG Γ (.exit 0) (⟨[(3,(Z6 i3))],[],[]⟩:St)|(.inr r_)=>aR (Zn Γ v2 r_)) (λ⟨i1,i2⟩ y h=>Ae q [0,3,4,8] [] (gC h (λh=>tB h λx6 y6 h=>gJ y6 (λi4=>aG Γ .normal (⟨[(0,(My v2)),(3,(Z6 i4)),(4,(Z6 i2))],[],[]⟩:St)) (λy h=>tV q [0,3,4,15] [] h λh=>gC h (λh=>Ae q Tq [] (tS h (gK (A3 Gv)))) λh=>tS h (gK (A3 (A8 Tq [] q)))) (gA (tC h λc8_ h=>tB h λx9 y9 h=>tT q [0,3,4,29] [] [⟨[],[],(My x9),[],[],[]⟩] (ci c8_ (Kb ((sd v2 i2)==true) (ci (show(((sd v2 i2)==true)=true->(sP 86 [(My v2),(Z6 i2)] [] (My x9) [])) from(λhg=>(Spec.drop (M4 (Ba hg y9))))) (Kb ((sd v2 i2)==true) (c1 (Na (sd v2 i2))))))) (gC h (λh=>Ae q [2] [] (tS h (gO (Mp (H7 [] (Le.refl _ _)))))) λh=>Ae q Tq [] (tN h))))) λh=>tS h (gO (A3 (A8 [3] [] q))))) λx10 h=>(match x10,h with | .inl i3,h=>gA (Ae q [2] [] (tS h (Bq []))) | .inr r12,h=>gAr (λst' hk=>tS h (gK hk)))))
def Dz(x2:Ao)(x3:Ao):Int->Option (LR Int (Unit ⊕ Int)):=
 λ(i4:Int)=>(bif (decide (i4<(x2.length:Int))) then(Aw (As i4 x2.length) ((Gt x3 (x2.getD i4.toNat 0)).bind λx6=>(bif x6 then(Aw (As i4 x2.length) (some (.done (.inr (x2.getD i4.toNat 0))))) else(some (.next (w64 (i4+1))))))) else(some (.done (.inl ()))))
def AQ(Γ:H6)(a9:Ao)(aN:Int)(aP:Int)(r:Int):Exit->St->Prop:=fK Tryz.prog Γ Tryz.f49.results.toList [] (.int .i64 r) []
def K1(a9:Ao)(aN:Int)(aP:Int):Option Int:=
 ((J7 a9).bind λx1=>(bif (!x1) then(some (-2:Int)) else((Fz a9 aN).bind λx2=>((Fz a9 aP).bind λx3=>((Ad (Dz x2 x3) (0:Int)).bind (λx8=>(match x8 with|(.inl _)=>(some (-2:Int))|(.inr r10)=>(some r10))))))))
theorem AC(h:K1 v2 v1 v11=some v20):sP 49 [(My v2),(Z6 v1),(Z6 v11)] [] (.int .i64 v20) []:=
 sG Tryz.func49 λΓ q=>Ae q UJ [] (tB h λx1 y1 h=>tT q [0,1,2,12] [] [(Z7 x1)] (c1 (Yh y1)) (gC h (λh=>Ae q [6] [] (tS h (Bq []))) λh=>tB h λx2 y2 h=>tT q UK [15] [(wh 15 x2 x2.length)] (c1 (M4 y2)) (tB h λx3 y3 h=>tT q [7,8] MA [(wh 18 x3 x3.length)] (c1 (M4 y3)) (Ae q [7,8,9] MA (tL q h [7,8,9] MA (λu i4=>(Cn u [(9,(Z6 i4))] [])) (λu x_=>match x_ with|(.inl _)=>aG Γ (.exit 0) (⟨[],[],[]⟩:St)|(.inr r_)=>aR (AQ Γ v2 v1 v11 r_)) (λi4 y h=>Ae q [7,8,9,22] MA (gC h (λh=>tC h λc5_ h=>tB h λx6 y6 h=>tT q [7,8,9,30] MA [(Z7 x6)] (c2 c5_ (N4 y6)) (gC h (λh=>tV q [6] [] h λh=>tS h (gO (Mp (H7 [] (Le.refl _ _))))) λh=>Ae q [7,8,9] MA (tN h))) λh=>tS h (gO (A3 (A8 [] [] q))))) λx8 h=>(match x8,h with | .inl _,h=>gA (Ae q [6] [] (tS h (Bq []))) | .inr r10,h=>gAr (λst' hk=>tS h (gK hk))))))))
def E5(x4:List Ce):Int->Option (LR Int (Unit ⊕ Int)):=
 λ(i5:Int)=>(bif (decide (i5<(x4.length:Int))) then(Aw (As i5 x4.length) ((Ez ((x4.getD i5.toNat default).V)).bind λx7=>(Aw (((!x7)==false)=true->(As i5 x4.length)) ((bif ((!x7)==false) then Ea x4 ((x4.getD i5.toNat default).V) else some (0:Int)).bind λx9=>(bif (bif (!x7) then true else(x9 !=i5)) then(some (.done (.inr (7:Int)))) else(some (.next (w64 (i5+1))))))))) else(some (.done (.inl ()))))
def Do(x4:List Ce)(x12:List Db):Int->Option (LR Int (Unit ⊕ Int)):=
 λ(i13:Int)=>(bif (decide (i13<(x12.length:Int))) then(Aw (As i13 x12.length) ((Ea x4 ((x12.getD i13.toNat default).V)).bind λx15=>(bif (decide (x15<0)) then(some (.done (.inr (7:Int)))) else(some (.next (w64 (i13+1))))))) else(some (.done (.inl ()))))
def Dp(x4:List Ce)(x12:List Db):Int->Option (LR Int (Unit ⊕ Int)):=
 λ(i18:Int)=>(bif (decide (i18<(x12.length:Int))) then(Aw (As i18 x12.length) ((Ea x4 ((x12.getD i18.toNat default).V)).bind λx20=>(Aw (As x20 x4.length) (Aw (As i18 x12.length) (bif (!((((x4.getD x20.toNat default).Shape.1:Int)==(x12.getD i18.toNat default).Shape.1)&&((((x4.getD x20.toNat default).Shape.2:Int)==(x12.getD i18.toNat default).Shape.2)&&true))) then(some (.done (.inr (6:Int)))) else(some (.next (w64 (i18+1))))))))) else(some (.done (.inl ()))))
def Cu(x4:List Ce)(x12:List Db)(x26:Ao):Int->Option (LR Int (Unit ⊕ Int)):=
 λ(i27:Int)=>(bif (decide (i27<(x12.length:Int))) then(Option.bind (α:=(Unit ⊕ Int)) (Aw (As i27 x12.length) ((Ea x4 ((x12.getD i27.toNat default).V)).bind λx29=>(Aw (As x29 x4.length) (bif (bif (decide (((x4.getD x29.toNat default).Block:Int)<0)) then true else(bif (((x4.getD x29.toNat default).Block:Int)==(x12.getD i27.toNat default).Block) then(decide (((x4.getD x29.toNat default).At:Int)<(x12.getD i27.toNat default).At)) else false)) then(some (.inl ())) else((bif ((((x4.getD x29.toNat default).Block:Int)==(x12.getD i27.toNat default).Block)==false) then K1 x26 ((x4.getD x29.toNat default).Block) ((x12.getD i27.toNat default).Block) else some (0:Int)).bind λx31=>(bif (bif (((x4.getD x29.toNat default).Block:Int)==(x12.getD i27.toNat default).Block) then true else(x31 !=(x4.getD x29.toNat default).Block)) then(some (.inr (7:Int))) else(some (.inl ())))))))) (λx32=>(match x32 with|(.inl _)=>(some (.next (w64 (i27+1))))|(.inr r34)=>(some (.done (.inr r34)))))) else(some (.done (.inl ()))))
def G5(Γ:H6)(a0:TFunc)(a1:Int)(r:Int):Exit->St->Prop:=fK Tryz.prog Γ Tryz.f14.results.toList [] (.int .i64 r) []
def nT(x4:List Ce)(x29:Int):=((decide (((x4.getD x29.toNat default).Block:Int)<0))==false)
def fU(x4:List Ce)(x29:Int)(x12:List Db)(i27:Int):=(((x4.getD x29.toNat default).Block:Int)==(x12.getD i27.toNat default).Block)
def Cz(a0:TFunc)(a1:Int):Option Int:=
 (bif (bif (decide (a1<0)) then true else(decide ((2:Int)<a1))) then(some (1:Int)) else((Gs a0).bind λx1=>(bif (!x1) then(some (4:Int)) else((J8 a0).bind λx2=>(bif (!x2) then(some (5:Int)) else((J9 a0 a1).bind λx3=>(bif (!x3) then(some (6:Int)) else((K3 a0).bind λx4=>((Ad (E5 x4) (0:Int)).bind (λx10=>(match x10 with|(.inl _)=>((K5 a0).bind λx12=>((Ad (Do x4 x12) (0:Int)).bind (λx16=>(match x16 with|(.inl _)=>((Ad (Dp x4 x12) (0:Int)).bind (λx23=>(match x23 with|(.inl _)=>((Hl a0).bind λx25=>((K2 x25.1 (0:Int)).bind λx26=>((Ad (Cu x4 x12 x26) (0:Int)).bind (λx35=>(match x35 with|(.inl _)=>(some (0:Int))|(.inr r37)=>(some r37))))))|(.inr r38)=>(some r38))))|(.inr r39)=>(some r39)))))|(.inr r40)=>(some r40))))))))))))
theorem Mm(h:Cz v0 v1=some v11):sP 14 [(Y1 v0),(Z6 v1)] [] (.int .i64 v11) []:=
 sG Tryz.func14 λΓ q=>Ae q Nj [2] (tU q [1,2,21] [2] (c2 (gI ((decide (v1<0))==false)) (I9 (decide (v1<0)))) (gC h (λh=>Ae q [4] [] (tS h (Bq []))) λh=>tB h λx1 y1 h=>tT q [1,2,24] [2] [(Z7 x1)] (c1 (Sy y1)) (gC h (λh=>Ae q [4] [] (tS h (Bq []))) λh=>tB h λx2 y2 h=>tT q [1,2,27] [2] [(Z7 x2)] (c1 (Yj y2)) (gC h (λh=>Ae q [4] [] (tS h (Bq []))) λh=>tB h λx3 y3 h=>tT q [2,31] [2] [(Z7 x3)] (c1 (Yk y3)) (gC h (λh=>Ae q [4] [] (tS h (Bq []))) λh=>tB h λx4 y4 h=>tT q Tf DF [⟨[],[(20000,33)],(AV.list 5 P1 default x4 (.own 20000)),[(M2 20000 90 x4.length)],[],[]⟩] (c1 (AE y4)) (Ae q V5 DF (tL q h V5 DF (λu i5=>(Cn u [(6,(Z6 i5))] [])) (λu x_=>match x_ with|(.inl _)=>aG Γ (.exit 0) (Ng Tf DF u [] [])|(.inr r_)=>aR (G5 Γ v0 v1 r_)) (λi5 y h=>Ae q [2,5,6,37] DF (gC h (λh=>tC h λc6_ h=>tB h λx7 y7 h=>tC h λc8_ h=>tB h λx9 y9 h=>tT q [2,5,6,57] DF [(Z7 x7),(JS x9)] (QD c6_ (Mk y7) (Kb ((!x7)==false) (ci c8_ (QL ((!x7)==false) (ci (λ(hg:((!x7)==false)=true)=>(Ka (Ba hg y9))) (Kb ((!x7)==false) (c1 (I9 (!x7))))))))) (gC h (λh=>Ae q [4] [] (tS h (gO (Mp (H7 [] (Le.refl _ _)))))) λh=>Ae q V5 DF (tN h))) λh=>tS h (gO (A3 (A8 Tf DF q))))) λx10 h=>(match x10,h with | .inl _,h=>gA (tB h λx12 y12 h=>tT q Jn Vd [⟨[],[(20000,59)],(AV.list 5 O7 default x12 (.own 20000)),[(M2 20000 94 x12.length)],[],[]⟩] (c1 (AG y12)) (Ae q bs Vd (tL q h bs Vd (λu i13=>(Cn u [(8,(Z6 i13))] [])) (λu x_=>match x_ with|(.inl _)=>aG Γ (.exit 2) (Ng Jn Vd u [] [])|(.inr r_)=>aR (G5 Γ v0 v1 r_)) (λi13 y h=>Ae q [2,5,7,8,63] Vd (gC h (λh=>tC h λc14_ h=>tB h λx15 y15 h=>tT q [2,5,7,8,73] Vd [(JS x15)] (c2 c14_ (Ka y15)) (gC h (λh=>Ae q [4] [] (tS h (gO (Mp (H7 [] (Le.refl _ _)))))) λh=>Ae q bs Vd (tN h))) λh=>tS h (gO (A3 (A8 Jn Vd q))))) λx16 h=>(match x16,h with | .inl _,h=>gA (Ae q DA Vd (tL q h DA Vd (λu i18=>(Cn u [(9,(Z6 i18))] [])) (λu x_=>match x_ with|(.inl _)=>aG Γ (.exit 4) (Ng Jn Vd u [] [])|(.inr r_)=>aR (G5 Γ v0 v1 r_)) (λi18 y h=>Ae q [2,5,7,9,77] Vd (gC h (λh=>tC h λc19_ h=>tB h λx20 y20 h=>tC h λc21_ h=>tC h λc22_ h=>tT q [2,5,7,9,96] Vd [(JS x20)] (c4 c19_ (Ka y20) c21_ c22_) (gC h (λh=>Ae q [4] [] (tS h (gO (Mp (H7 [] (Le.refl _ _)))))) λh=>Ae q DA Vd (tN h))) λh=>tS h (gO (A3 (A8 Jn Vd q))))) λx23 h=>(match x23,h with | .inl _,h=>gA (tB h λx25 y25 h=>tT q [5,7,10] [10,33,59] [(wi x25.1 x25.2)] (c1 (Ox y25)) (tB h λx26 y26 h=>tT q [5,7,12] NV [(wh 103 x26 x26.length)] (c1 (AD y26)) (Ae q TX NV (tL q h TX NV (λu i27=>(Cn u [(13,(Z6 i27))] [])) (λu x_=>match x_ with|(.inl _)=>aG Γ (.exit 6) (⟨[],[],[]⟩:St)|(.inr r_)=>aR (G5 Γ v0 v1 r_)) (λi27 y h=>Ae q [5,7,12,13,107] NV (gC h (λh=>tB h λx32 y32 h=>gJ y32 (λx_=>match x_ with|(.inl _)=>aG Γ .normal (⟨[(5,(AV.list 5 P1 default x4 (.own 33))),(7,(AV.list 5 O7 default x12 (.own 59))),(12,(HO x26 103)),(13,(Z6 i27))],[(M2 33 90 x4.length),(M2 59 94 x12.length),(Ts 103 x26.length)],[]⟩:St)|(.inr r_)=>aR (G5 Γ v0 v1 r_)) (λy h=>tV q [5,7,12,13,14] [14,33,59,103] h λh=>tB h λx29 y29 h=>tC h λc30_ h=>tT q [5,7,12,13,14,15] [14,15,33,59,103] [(JS x29)] (c2 (Ka y29) c30_) (tU q [5,7,12,13,14,15,137] [14,15,33,59,103] (xE (nT x4 x29) (QL ((nT x4 x29)&&((fU x4 x29 x12 i27)==true)) (c3 (gI (nT x4 x29)) (show((nT x4 x29)=true->((fU x4 x29 x12 i27)=true->((nT x4 x29)&&((fU x4 x29 x12 i27)==true))=true)) from(λhg=>(aT hg))) (I9 (decide (((x4.getD x29.toNat default).Block:Int)<0)))))) (gC h (λh=>tS h (gK (A3 (A8 TX NV q)))) λh=>tB h λx31 y31 h=>tT q [5,7,12,13,153] NV [(JS x31)] (xE ((fU x4 x29 x12 i27)==false) (ci (λ(hg:((fU x4 x29 x12 i27)==false)=true)=>(AC (Ba hg y31))) (Si ((fU x4 x29 x12 i27)==false) (c1 (I9 (fU x4 x29 x12 i27)))))) (gC h (λh=>Ae q [4] [] (tS h (gK (Mp (H7 [] (Le.refl _ _)))))) λh=>tS h (gK (A3 (A8 TX NV q))))))) (match x32,h with | .inl _,h=>gA (Ae q TX NV (tN h)) | .inr r34,h=>gAr (λst' hk=>tS h (gO (Mp hk))))) λh=>tS h (gO (A3 (A8 [] [] q))))) λx35 h=>(match x35,h with | .inl _,h=>gA (Ae q [4] [] (tS h (Bq []))) | .inr r37,h=>gAr (λst' hk=>tS h (gK hk))))))) | .inr r38,h=>gAr (λst' hk=>tS h (gK hk))))) | .inr r39,h=>gAr (λst' hk=>tS h (gK hk)))))) | .inr r40,h=>gAr (λst' hk=>tS h (gK hk))))))))))
open Go Go.RowKit
set_option maxRecDepth 100000
set_option maxHeartbeats 2000000
def wQ(a1:TGraph)(aS:Int)(aO:Int)(a0:TFunc):=(bif (bif (((a1.Pred.getD aS.toNat []).length:Int)==1) then(((a1.Pred.getD aS.toNat []).getD (0:Int).toNat (0:Int))==aO) else false) then((((a0.Blocks.getD aS.toNat default).Phis).length:Int)==0) else false)
def Abe(a0:TFunc)(aS:Int):=(((a0.Blocks.getD aS.toNat default).End.Kind:Int)==1)
def wS(a1:TGraph)(aS:Int)(aO:Int)(a0:TFunc):=(bif (wQ a1 aS aO a0) then(Abe a0 aS) else false)
def wR(a1:TGraph)(aS:Int):=((((a1.Pred.getD aS.toNat []).length:Int)==1)==true)
def Abf(a1:TGraph)(aS:Int)(aO:Int):=((bif (((a1.Pred.getD aS.toNat []).length:Int)==1) then(((a1.Pred.getD aS.toNat []).getD (0:Int).toNat (0:Int))==aO) else false)==true)
def F7(a0:TFunc)(a1:TGraph)(aO:Int)(aZ:Int)(aS:Int)(aaY:Int):Option Bool:=
 (bif (aS==-1) then(some (aZ==aaY)) else(bif (aS !=aZ) then(some false) else(Aw (As aS a0.Blocks.length) (Aw (As aS a1.Pred.length) (Aw (((((a1.Pred.getD aS.toNat []).length:Int)==1)==true)=true->(As aS a1.Pred.length)) (Aw (((((a1.Pred.getD aS.toNat []).length:Int)==1)==true)=true->(As (0:Int) (a1.Pred.getD aS.toNat []).length)) (Aw (((bif (bif (bif (((a1.Pred.getD aS.toNat []).length:Int)==1) then(((a1.Pred.getD aS.toNat []).getD (0:Int).toNat (0:Int))==aO) else false) then((((a0.Blocks.getD aS.toNat default).Phis).length:Int)==0) else false) then(((a0.Blocks.getD aS.toNat default).End.Kind:Int)==1) else false)==true)=true->(As (0:Int) ((a0.Blocks.getD aS.toNat default).End.To).length)) (some (bif (bif (bif (bif (((a1.Pred.getD aS.toNat []).length:Int)==1) then(((a1.Pred.getD aS.toNat []).getD (0:Int).toNat (0:Int))==aO) else false) then((((a0.Blocks.getD aS.toNat default).Phis).length:Int)==0) else false) then(((a0.Blocks.getD aS.toNat default).End.Kind:Int)==1) else false) then((((a0.Blocks.getD aS.toNat default).End.To).getD (0:Int).toNat (0:Int))==aaY) else false)))))))))
theorem Rx(h:F7 v0 v18 v1 v11 v20 v40=some v3):sP 92 [(Y1 v0),(fA v18),(Z6 v1),(Z6 v11),(Z6 v20),(Z6 v40)] [] (.bool v3) []:=
 sG Tryz.func92 λΓ q=>tW q [2,3,4,5,6,7] Wn [2,3,4,5,6,7,15] Wn (gC h (λh=>Ae q [12] [] (tS h (Bq []))) λh=>Ae q [2,4,5,6,7,21] Wn (gC h (λh=>Ae q [12] [] (tS h (Bq []))) λh=>tV q [2,4,5,7,13] [7,13] h λh=>tC h λc2_ h=>tC h λc3_ h=>tC h λc4_ h=>tC h λc5_ h=>tU q [12] [] (ci c2_ (Si (wR v18 v20) (ci c3_ (Kb (wR v18 v20) (ci c4_ (Si (wR v18 v20) (ci (Na (((v18.Pred.getD v20.toNat []).length:Int)==1)) (Si (Abf v18 v20 v1) (ci (Na (bif (((v18.Pred.getD v20.toNat []).length:Int)==1) then(((v18.Pred.getD v20.toNat []).getD (0:Int).toNat (0:Int))==v1) else false)) (Si ((wQ v18 v20 v1 v0)==true) (ci (Na (wQ v18 v20 v1 v0)) (Si ((wS v18 v20 v1 v0)==true) (ci c5_ (Si ((wS v18 v20 v1 v0)==true) (c1 (Na (wS v18 v20 v1 v0))))))))))))))))) (tS h (Bq []))))
def yz(a1:THammock):=(a1.At==a1.Join)
def nV(a1:THammock)(a0:TFunc):=(bif (decide (a1.At<0)) then true else(decide ((a0.Blocks.length:Int)<=a1.At)))
def se(a1:THammock)(a0:TFunc):=(bif (bif (nV a1 a0) then true else(decide (a1.Join<0))) then true else(decide ((a0.Blocks.length:Int)<=a1.Join)))
def nU(a1:THammock)(a0:TFunc):=((bif (se a1 a0) then true else(yz a1))==false)
def wT(a0:TFunc)(a1:THammock):=((((a0.Blocks.getD (a1.At).toNat (default:Ab)).End.Kind:Int)!=2)==false)
def Abg(a1:THammock)(a0:TFunc):=((bif (nV a1 a0) then true else(decide (a1.Join<0)))==false)
def Jv(a0:TFunc)(a1:THammock):Option Bool:=
 ((Cz a0 (2:Int)).bind λx1=>(bif (x1 !=0) then(some false) else(bif (bif (bif (bif (bif (bif (decide (a1.At<0)) then true else(decide ((a0.Blocks.length:Int)<=a1.At))) then true else(decide (a1.Join<0))) then true else(decide ((a0.Blocks.length:Int)<=a1.Join))) then true else(a1.At==a1.Join)) then true else(bif (a1.Then==-1) then(a1.Else==-1) else false)) then(some false) else(Aw (As a1.At a0.Blocks.length) (Aw (((((a0.Blocks.getD (a1.At).toNat (default:Ab)).End.Kind:Int)!=2)==false)=true->(As (0:Int) ((a0.Blocks.getD (a1.At).toNat (default:Ab)).End.To).length)) (Aw (((((a0.Blocks.getD (a1.At).toNat (default:Ab)).End.Kind:Int)!=2)==false)=true->(As (1:Int) ((a0.Blocks.getD (a1.At).toNat (default:Ab)).End.To).length)) (bif (bif (((a0.Blocks.getD (a1.At).toNat (default:Ab)).End.Kind:Int)!=2) then true else((((a0.Blocks.getD (a1.At).toNat (default:Ab)).End.To).getD (0:Int).toNat (0:Int))==(((a0.Blocks.getD (a1.At).toNat (default:Ab)).End.To).getD (1:Int).toNat (0:Int)))) then(some false) else((Hl a0).bind λx5=>(Aw (As (0:Int) ((a0.Blocks.getD (a1.At).toNat (default:Ab)).End.To).length) ((F7 a0 x5.1 a1.At (((a0.Blocks.getD (a1.At).toNat (default:Ab)).End.To).getD (0:Int).toNat (0:Int)) a1.Then a1.Join).bind λx7=>(Aw ((x7==true)=true->(As (1:Int) ((a0.Blocks.getD (a1.At).toNat (default:Ab)).End.To).length)) ((bif (x7==true) then F7 a0 x5.1 a1.At (((a0.Blocks.getD (a1.At).toNat (default:Ab)).End.To).getD (1:Int).toNat (0:Int)) a1.Else a1.Join else some false).bind λx9=>(some (bif x7 then x9 else false))))))))))))))
theorem EU(h:Jv v0 v37=some v3):sP 51 [(Y1 v0),(e9 v37)] [] (.bool v3) []:=
 sG Tryz.func51 λΓ q=>Ae q Cc Cc (tB h λx1 y1 h=>tT q [2,3,11] Cc [(JS x1)] (c1 (Mm y1)) (gC h (λh=>Ae q [4] [] (tS h (Bq []))) λh=>Ae q Yw Cc (tU q [2,3,51] Cc (Si ((decide (v37.At<0))==false) (ci (I9 (decide (v37.At<0))) (Kb ((nV v37 v0)==false) (ci (I9 (nV v37 v0)) (Si (Abg v37 v0) (ci (I9 (bif (nV v37 v0) then true else(decide (v37.Join<0)))) (QL ((se v37 v0)==false) (ci (I9 (se v37 v0)) (Si (nU v37 v0) (Kb ((nU v37 v0)&&((v37.Then==-1)==true)) (c3 (gI (nU v37 v0)) (show((nU v37 v0)=true->((v37.Then==-1)=true->((nU v37 v0)&&((v37.Then==-1)==true))=true)) from(λhg=>(aT hg))) (I9 (bif (se v37 v0) then true else(yz v37)))))))))))))) (gC h (λh=>Ae q [4] [] (tS h (Bq []))) λh=>tV q HG HG h λh=>tC h λc3_ h=>tC h λc4_ h=>tU q [2,3,6,72] HG (Kb (wT v0 v37) (ci c3_ (Si (wT v0 v37) (ci c4_ (Si (wT v0 v37) (c1 (I9 (((v0.Blocks.getD (v37.At).toNat (default:Ab)).End.Kind:Int)!=2)))))))) (gC h (λh=>Ae q [4] [] (tS h (Bq []))) λh=>tB h λx5 y5 h=>tT q [2,3,6,7] [2,3,6,7] [(wi x5.1 x5.2)] (c1 (Ox y5)) (tC h λc6_ h=>tB h λx7 y7 h=>tC h λc8_ h=>tB h λx9 y9 h=>tT q [4] [] [(Z7 x7),(Z7 x9)] (QD c6_ (Rx y7) (Si (x7==true) (ci c8_ (gI9 (x7==true) (c2 (λ(hg:(x7==true)=true)=>(Rx (Ba hg y9))) (Na x7)))))) (tS h (Bq []))))))))
def wU(a0:TFunc):List AV:=(Z5 a0.Params a0.Ret a0.Blocks)
def y0(a0:TFunc)(aE:THammock):=(⟨[Ob,JX,(5,(sk 8005))],[(L9 25 (wU a0)),(3,.row 27 [(Z6 aE.At),(Z6 aE.Then),(Z6 aE.Else),(Z6 aE.Join)]),(8005,.tok 6 51 (([]:List A2).length))],[]⟩:St)
def Lt(a0:TFunc)(aE:THammock):Option (List A2):=
 (Option.bind (α:=List A2) (bif (decide ((0:Int)<=aE.Then)) then(Aw (As aE.Then a0.Blocks.length) (Aw (([]:List A2).length+((a0.Blocks.getD (aE.Then).toNat (default:Ab)).Ops).length<=room) (some (([]:List A2)++(a0.Blocks.getD (aE.Then).toNat (default:Ab)).Ops)))) else(some ([]:List A2))) (λx4=>(Option.bind (α:=List A2) (bif (decide ((0:Int)<=aE.Else)) then(Aw (As aE.Else a0.Blocks.length) (Aw (x4.length+((a0.Blocks.getD (aE.Else).toNat (default:Ab)).Ops).length<=room) (some (x4++(a0.Blocks.getD (aE.Else).toNat (default:Ab)).Ops)))) else(some x4)) (λx9=>(some x9)))))
theorem CD(h:Lt v0 v37=some v7):sP 17 [(Y1 v0),(e9 v37)] [] (jN v7 20000) [(OA 20000 v7.length)]:=
 sG Tryz.func17 λΓ q=>gR q Cc Cc [(4,vO)] [] (c1 (Bd 6 Kf (default:A2))) (gR q Yw Cc [(5,vO)] [] (c1 (Bd 6 Kf (default:A2))) (M3 (st':=(y0 v0 v37)) (Le.trans (A8 (st':=⟨[Ob,JX,(5,vO)],[(L9 25 (wU v0)),(3,.row 27 [(Z6 v37.At),(Z6 v37.Then),(Z6 v37.Else),(Z6 v37.Join)])],[]⟩) Yw Cc q) (Le.trans (Ld (t:=5) (nm:=8005) (sz':=6) (λi=>Kf (([]:List A2).getD i default)) 51 rfl rfl (.inl ⟨rfl,rfl⟩) (λh_=>absurd h_ (by decide))) (A8 (st':=(y0 v0 v37)) Yw UF q))) (tB h λx4 y4 h=>gJ y4 (λl1=>aG Γ .normal (⟨[Ob,JX,(5,(jN l1 8005))],[(L9 25 (wU v0)),(3,.row 27 [(Z6 v37.At),(Z6 v37.Then),(Z6 v37.Else),(Z6 v37.Join)]),(OA 8005 l1.length)],[]⟩:St)) (λy h=>Ae q [2,3,5,8] UF (gC h (λh=>tC h λc2_ h=>tC h λc3_ h=>gR q Yw UF [(17,(AV.list 6 Kf default (([]:List A2)++(v0.Blocks.getD (v37.Then).toNat (default:Ab)).Ops) (.own 8005)))] [] (c5 c2_ (Eq.refl (([]:List A2).length)) c3_ (Cv 6 8005 Kf (default:A2) ([]:List A2) ((v0.Blocks.getD (v37.Then).toNat (default:Ab)).Ops)) (Bs ([]:List A2) ((v0.Blocks.getD (v37.Then).toNat (default:Ab)).Ops))) (tS h (gK (A3 Gv)))) λh=>tS h (gK (A3 (A8 Yw UF q))))) (gA (tB h λx9 y9 h=>gJ y9 (λl6=>aG Γ .normal (⟨[(5,(jN l6 8005))],[(OA 8005 l6.length)],[]⟩:St)) (λy h=>Ae q [2,3,5,20] UF (gC h (λh=>tC h λc7_ h=>tC h λc8_ h=>gR q [5] [8005] [(29,(AV.list 6 Kf default (x4++(v0.Blocks.getD (v37.Else).toNat (default:Ab)).Ops) (.own 8005)))] [] (c5 c7_ (Eq.refl x4.length) c8_ (Cv 6 8005 Kf (default:A2) x4 ((v0.Blocks.getD (v37.Else).toNat (default:Ab)).Ops)) (Bs x4 ((v0.Blocks.getD (v37.Else).toNat (default:Ab)).Ops))) (tS h (gK (A3 Gv)))) λh=>tS h (gK (A3 (A8 [5] [8005] q))))) (gA (Ae q [4] [8005] (tS h (Bq [(8005,20000)])))))))))
def Iq(a0:TFunc)(i2:Int):Ho->Option iK:=
 λ((i4,i5):Ho)=>(Aw (As i2 a0.Blocks.length) (bif (decide (i5<(((a0.Blocks.getD i2.toNat default).Phis).length:Int))) then(Option.bind (α:=Int) (Aw (As i2 a0.Blocks.length) (Aw (As i5 ((a0.Blocks.getD i2.toNat default).Phis).length) (bif (decide (i4<(((a0.Blocks.getD i2.toNat default).Phis).getD i5.toNat default).Dst)) then(Aw (As i2 a0.Blocks.length) (Aw (As i5 ((a0.Blocks.getD i2.toNat default).Phis).length) (some ((((a0.Blocks.getD i2.toNat default).Phis).getD i5.toNat default).Dst)))) else(some i4)))) (λx13=>(some (.next (x13,(w64 (i5+1))))))) else(some (.done i4))))
def Ir(a0:TFunc)(i2:Int):Ho->Option iK:=
 λ((i17,i18):Ho)=>(Aw (As i2 a0.Blocks.length) (bif (decide (i18<(((a0.Blocks.getD i2.toNat default).Ops).length:Int))) then(Option.bind (α:=Int) (Aw (As i2 a0.Blocks.length) (Aw (As i18 ((a0.Blocks.getD i2.toNat default).Ops).length) (bif (decide (i17<(((a0.Blocks.getD i2.toNat default).Ops).getD i18.toNat default).Dst)) then(Aw (As i2 a0.Blocks.length) (Aw (As i18 ((a0.Blocks.getD i2.toNat default).Ops).length) (some ((((a0.Blocks.getD i2.toNat default).Ops).getD i18.toNat default).Dst)))) else(some i17)))) (λx26=>(some (.next (x26,(w64 (i18+1))))))) else(some (.done i17))))
def It(a0:TFunc):Ho->Option iK:=
 λ((i1,i2):Ho)=>(bif (decide (i2<(a0.Blocks.length:Int))) then((Ad (Iq a0 i2) (i1,(0:Int))).bind (λx15=>((Ad (Ir a0 i2) (x15,(0:Int))).bind (λx28=>(some (.next (x28,(w64 (i2+1))))))))) else(some (.done i1)))
def zA(a0:TFunc):List OQ:=[(1,.row 25 (Z5 a0.Params a0.Ret a0.Blocks))]
def K4(a0:TFunc):Option Int:=
 ((Ad (It a0) ((a0.Params.length:Int),(0:Int))).bind (λx30=>(some x30)))
theorem AF(h:K4 v0=some v1):sP 19 [(Y1 v0)] [] (.int .i64 v1) []:=
 sG Tryz.func19 λΓ q=>tW q [1] [1] I8 [1] (Ae q Hp [1] (tL q h Hp [1] (λu (i1,i2)=>(Cn u [(3,(Z6 i1)),(4,(Z6 i2))] [])) (λu i3=>aG Γ (.exit 0) (⟨[(3,(Z6 i3))],[],[]⟩:St)) (λ⟨i1,i2⟩ y h=>Ae q [1,3,4,14] [1] (gC h (λh=>Ae q Gn [1] (tL q h Gn [1] (λu (i4,i5)=>(Cn u [(3,(Z6 i4)),(5,(Z6 i5))] [])) (λu i6=>aG Γ (.exit 2) (Ng Hp [1] u [(3,(Z6 i6))] [])) (λ⟨i4,i5⟩ y h=>tV q [1,3,4,5,25] [1] h λh=>gC h (λh=>tB h λx13 y13 h=>gJ y13 (λi8=>aG Γ .normal (⟨[Zo,(3,(Z6 i8)),(4,(Z6 i2)),(5,(Z6 i5))],(zA v0),[]⟩:St)) (λy h=>tC h λc9_ h=>tC h λc10_ h=>tU q [1,3,4,5,39] [1] (c2 c9_ c10_) (gC h (λh=>tC h λc11_ h=>tC h λc12_ h=>tU q Gn [1] (c2 c11_ c12_) (tS h (gK (A3 Gv)))) λh=>tS h (gK (A3 (A8 Gn [1] q))))) (gA (Ae q Gn [1] (tN h)))) λh=>tS h (gO (A3 (A8 Hp [1] q)))) λx15 h=>gA (Ae q JR [1] (tL q h JR [1] (λu (i17,i18)=>(Cn u [(3,(Z6 i17)),(6,(Z6 i18))] [])) (λu i19=>aG Γ (.exit 4) (Ng Hp [1] u [(3,(Z6 i19))] [])) (λ⟨i17,i18⟩ y h=>tV q [1,3,4,6,58] [1] h λh=>gC h (λh=>tB h λx26 y26 h=>gJ y26 (λi21=>aG Γ .normal (⟨[Zo,(3,(Z6 i21)),(4,(Z6 i2)),(6,(Z6 i18))],(zA v0),[]⟩:St)) (λy h=>tC h λc22_ h=>tC h λc23_ h=>tU q [1,3,4,6,72] [1] (c2 c22_ c23_) (gC h (λh=>tC h λc24_ h=>tC h λc25_ h=>tU q JR [1] (c2 c24_ c25_) (tS h (gK (A3 Gv)))) λh=>tS h (gK (A3 (A8 JR [1] q))))) (gA (Ae q JR [1] (tN h)))) λh=>tS h (gO (A3 (A8 Hp [1] q)))) λx28 h=>gA (Ae q Hp [1] (tN h)))))) λh=>tS h (gO (A3 (A8 [3] [] q))))) λx30 h=>gA (Ae q [2] [] (tS h (Bq [])))))
open Go Go.RowKit
set_option maxRecDepth 100000
set_option maxHeartbeats 2000000
abbrev Aa3:=(LR Int (Unit ⊕ (THammock×Bool)))
def m_lockstepref14_Find_L1(a0:TFunc)(a1:Int)(i4:Int):Int->Option Aa3:=
 λ(i5:Int)=>(bif (decide (i5<(a0.Blocks.length:Int))) then(Aw (As (0:Int) ((a0.Blocks.getD a1.toNat default).End.To).length) (Aw (As (1:Int) ((a0.Blocks.getD a1.toNat default).End.To).length) (Option.bind (α:=Int) (bif (i4==1) then(some (-1:Int)) else(some (((a0.Blocks.getD a1.toNat default).End.To).getD (1:Int).toNat (0:Int)))) (λx9=>(Option.bind (α:=Int) (bif (i4==2) then(some (-1:Int)) else(some (((a0.Blocks.getD a1.toNat default).End.To).getD (0:Int).toNat (0:Int)))) (λx12=>((Jv a0 (⟨a1,x12,x9,i5⟩:THammock)).bind λx14=>(bif x14 then(some (.done (.inr ((⟨a1,x12,x9,i5⟩:THammock),true)))) else(some (.next (w64 (i5+1)))))))))))) else(some (.done (.inl ()))))
def Bw(a0:TFunc)(a1:Int):Int->Option Aa3:=
 λ(i4:Int)=>(bif (decide (i4<3)) then((Ad (m_lockstepref14_Find_L1 a0 a1 i4) (0:Int)).bind (λx15=>(match x15 with|(.inl _)=>(some (.next (w64 (i4+1))))|(.inr r17)=>(some (.done (.inr r17)))))) else(some (.done (.inl ()))))
def Ss(Γ:H6)(a0:TFunc)(a1:Int)(r:TA):Exit->St->Prop:=fK Tryz.prog Γ Tryz.f16.results.toList [] (.tuple [(e9 r.1),(.bool r.2)]) []
def fV(a0:TFunc)(a1:Int):=(a0.Blocks.getD a1.toNat default)
def Abh(x1:Int)(a1:Int):=((bif (x1 !=0) then true else(decide (a1<0)))==false)
def zB(a0:TFunc):List AV:=(Z5 a0.Params a0.Ret a0.Blocks)
def wW(x1:Int)(a1:Int)(a0:TFunc):=(bif (bif (x1 !=0) then true else(decide (a1<0))) then true else(decide ((a0.Blocks.length:Int)<=a1)))
def K6(a0:TFunc)(a1:Int):Option TA:=
 ((Cz a0 (2:Int)).bind λx1=>(Aw (((bif (bif (x1 !=0) then true else(decide (a1<0))) then true else(decide ((a0.Blocks.length:Int)<=a1)))==false)=true->(As a1 a0.Blocks.length)) (bif (bif (bif (bif (x1 !=0) then true else(decide (a1<0))) then true else(decide ((a0.Blocks.length:Int)<=a1))) then true else(((a0.Blocks.getD a1.toNat default).End.Kind:Int)!=2)) then(some ((⟨(0:Int),(0:Int),(0:Int),(0:Int)⟩:THammock),false)) else(Aw (As a1 a0.Blocks.length) ((Ad (Bw a0 a1) (0:Int)).bind (λx18=>(match x18 with|(.inl _)=>(some ((⟨(0:Int),(0:Int),(0:Int),(0:Int)⟩:THammock),false))|(.inr r20)=>(some r20))))))))
variable{v35:TA}
theorem AH(h:K6 v0 v1=some v35):sP 16 [(Y1 v0),(Z6 v1)] [] (.tuple [(e9 v35.1),(.bool v35.2)]) []:=
 sG Tryz.func16 λΓ q=>Ae q DH S4 (tB h λx1 y1 h=>tC h λc2_ h=>tT q [1,2,4,33] S4 [(JS x1)] (bu (Mm y1) (gI ((x1 !=0)==false)) (I9 (x1 !=0)) (QL (Abh x1 v1) (ci (I9 (bif (x1 !=0) then true else(decide (v1<0)))) (Si ((wW x1 v1 v0)==false) (ci c2_ (QL ((wW x1 v1 v0)==false) (c1 (I9 (wW x1 v1 v0))))))))) (gC h (λh=>Ae q P0 [4] (tS h (Bq []))) λh=>tV q [1,2,4,6] Vb h λh=>Ae q TW Vb (tL q h TW Vb (λu i4=>(Cn u [(7,(Z6 i4))] [])) (λu x_=>match x_ with|(.inl _)=>aG Γ (.exit 0) (Ng [4] [4] u [] [])|(.inr r_)=>aR (Ss Γ v0 v1 r_)) (λi4 y h=>Ae q [1,2,4,6,7,42] Vb (gC h (λh=>Ae q ig Vb (tL q h ig Vb (λu i5=>(Cn u [(8,(Z6 i5))] [])) (λu x_=>match x_ with|(.inl _)=>aG Γ (.exit 2) (Ng TW Vb u [] [])|(.inr r_)=>aR (Ss Γ v0 v1 r_)) (λi5 y h=>Ae q [1,2,4,6,7,8,49] Vb (gC h (λh=>tC h λc6_ h=>tC h λc7_ h=>tU q er DB (c2 c6_ c7_) (tB h λx9 y9 h=>gJ y9 (λi8=>aG Γ .normal (⟨[(1,(Z6 v1)),Ob,MC,JW,(7,(Z6 i4)),(8,(Z6 i5)),(9,(.ptr 9 0))],[(L9 25 (zB v0)),(4,.row 27 [Lc,Lc,Lc,Lc]),(6,.row 46 [(.int .i64 (fV v0 v1).End.Kind),(.int .i64 (fV v0 v1).End.Arg),(AV.list 1 An 0 (fV v0 v1).End.To .none)]),(9,.row 27 [(Z6 v1),(.int .i64 (((fV v0 v1).End.To).getD (0:Int).toNat (0:Int))),(Z6 i8),(Z6 i5)])],[]⟩:St)) (λy h=>Ae q [1,2,4,6,7,8,9,64] DB (gC h (λh=>Ae q er DB (tS h (gK (A3 Gv)))) λh=>tS h (gK (A3 (A8 er DB q))))) (gA (tB h λx12 y12 h=>gJ y12 (λi11=>aG Γ .normal (⟨[(1,(Z6 v1)),Ob,MC,JW,(7,(Z6 i4)),(8,(Z6 i5)),(9,(.ptr 9 0))],[(L9 25 (zB v0)),(4,.row 27 [Lc,Lc,Lc,Lc]),(6,.row 46 [(.int .i64 (fV v0 v1).End.Kind),(.int .i64 (fV v0 v1).End.Arg),(AV.list 1 An 0 (fV v0 v1).End.To .none)]),(9,.row 27 [(Z6 v1),(Z6 i11),(Z6 x9),(Z6 i5)])],[]⟩:St)) (λy h=>Ae q [1,2,4,6,7,8,9,67] DB (gC h (λh=>Ae q er DB (tS h (gK (A3 Gv)))) λh=>tS h (gK (A3 (A8 er DB q))))) (gA (tB h λx14 y14 h=>tT q [1,2,4,6,7,8,9,71] DB [(Z7 x14)] (c1 (EU y14)) (gC h (λh=>Ae q P0 [4] (tS h (gO (Mp (H7 [] (Le.refl _ _)))))) λh=>Ae q ig Vb (tN h)))))))) λh=>tS h (gO (A3 (A8 TW Vb q))))) λx15 h=>(match x15,h with | .inl _,h=>gA (Ae q TW Vb (tN h)) | .inr r17,h=>gAr (λst' hk=>tS h (gO (Mp hk)))))) λh=>tS h (gO (A3 (A8 [4] [4] q))))) λx18 h=>(match x18,h with | .inl _,h=>gA (Ae q P0 [4] (tS h (Bq []))) | .inr r20,h=>gAr (λst' hk=>tS h (gK hk))))))
def ZK(aC:Int):=([(u3 aC)]:Ao)
def k8(aC:Int):=([(u3 (Fl ((Int.tmod aC (128:Int))+128)))]:Ao)
def Hz(rec_lockstepref02_Put:Int->Option Ao)(aC:Int):Option Ao:=
 (bif (decide (aC<128)) then(some ([(u3 aC)]:Ao)) else((rec_lockstepref02_Put (Fl (Int.tdiv aC (128:Int)))).bind λx1=>(Aw (([(u3 (Fl ((Int.tmod aC (128:Int))+128)))]:Ao).length+x1.length<=room) (Aw (([(u3 (Fl ((Int.tmod aC (128:Int))+128)))]:Ao).length=0\/0<x1.length) (some (([(u3 (Fl ((Int.tmod aC (128:Int))+128)))]:Ao)++x1))))))
def H0:Nat->Int->Option Ao
 | 0=>λ_=>none
 | n+1=>Hz (H0 n)
def Et(aC:Int):Option Ao:=ou λn=>H0 n aC
theorem Zs(n:Nat):(∀(aC:Int) (r:Ao),H0 n aC=some r->sP 54 [(JY aC)] [] (cJ r 20000) [(20000,.tok 1 5 r.length)]):=by
 induction n with
 | zero=>exact λaC r h=>by cases h
 | succ n ih=>
  have ih_lockstepref02_Put:=ih;intro aC r h;refine EI mix Tryz.func54 (λΓ hq=>?_);change Hz (H0 n) aC=some r at h;unfold Hz at h;refine gR hq [0] [] [(2,sr)] [] (c1 (Bd 1 Wx (0:Int))) ?_;refine Ae hq Yx [] ?_;refine gC h ?_ ?_<;>intro h
  ·refine gR hq [2] [] [(7,(AV.list 1 Wx 0 (ZK aC) .exact))] [] (c1 (Az 1 Wx (0:Int) (ZK aC))) ?_;refine O8 (⟨[(2,(AV.list 1 Wx 0 (ZK aC) .exact))],[],[]⟩:St) ?_;cases h;exact gK (e:=.ret) (H7 LT (show Le Γ _ (⟨[(2,(cJ (ZK aC) 6002))],[(6002,.tok 1 5 ((ZK aC).length))],[]⟩:St) from Le.trans (A8 (st':=⟨[(2,(AV.list 1 Wx 0 (ZK aC) .exact))],[],[]⟩) [2] [] hq) (Le.trans (Ld (t:=2) (nm:=6002) (sz':=1) (λi=>Wx ((ZK aC).getD i 0)) 5 rfl rfl (.inl ⟨rfl,rfl⟩) (λh_=>absurd h_ (by decide))) (A8 (st':=⟨[(2,(cJ (ZK aC) 6002))],[(6002,.tok 1 5 ((ZK aC).length))],[]⟩) [2] [6002] hq))))
  ·obtain⟨x1,hx1,h⟩:=bind_some h;obtain⟨hc2,h⟩:=O6 h;obtain⟨hc3,h⟩:=O6 h;refine gR hq [2] [16] [(12,(AV.list 1 Wx 0 (k8 aC) .exact)),(16,(AV.list 1 Wx 0 ((k8 aC)++x1) (.own 16)))] [(vN 15 x1 x1.length)] (ci (show((128:Int)≠0) from(by decide)) (ci (Az 1 Wx (0:Int) (k8 aC)) (ci (show((128:Int)≠0) from(by decide)) (ci (ih_lockstepref02_Put (Fl (Int.tdiv aC (128:Int))) x1 hx1) (ci hc2 (ci (show(5=Ze->(k8 aC).length=0\/0<x1.length) from(λ_=>hc3)) (ci (Cv 1 16 Wx (0:Int) (k8 aC) x1) (c1 (Bs (k8 aC) x1))))))))) ?_;cases h;exact Bq [(16,20000)]
theorem K8(h:Et v1=some v2):sP 54 [(JY v1)] [] (cJ v2 20000) [(20000,.tok 1 5 v2.length)]:=by
 obtain⟨n,hn⟩:=lb h;exact(Zs n) v1 v2 hn
def Rb(aU:Ao):WL->Option (LR (Ao×Int) (Ao ⊕ Ao)):=
 λ((l2,i3):WL)=>(bif (decide (i3<(aU.length:Int))) then(Aw (As i3 aU.length) (bif (decide ((aU.getD i3.toNat 0)<0)) then(some (.done (.inr ([]:Ao)))) else(Aw (As i3 aU.length) ((Et (Fl (aU.getD i3.toNat 0))).bind λx7=>(Aw (l2.length+x7.length<=room) (some (.next ((l2++x7),(w64 (i3+1)))))))))) else(some (.done (.inl l2))))
def EN(Γ:H6)(aU:Ao)(r:Ao):Exit->St->Prop:=fK Tryz.prog Γ Tryz.f52.results.toList [] (cJ r 20000) [(20000,.tok 1 5 r.length)]
def sf:List NL:=[(2,sr)]
def zC:=(Z115:St)
def C1(aU:Ao):Option Ao:=
 ((Et (Fl (aU.length:Int))).bind λx1=>((Ad (Rb aU) (x1,(0:Int))).bind (λx9=>(match x9 with|(.inl l4)=>(some l4)|(.inr r11)=>(some r11)))))
theorem H3(h:C1 v2=some v17):sP 52 [(My v2)] [] (cJ v17 20000) [(20000,.tok 1 5 v17.length)]:=
 sG Tryz.func52 λΓ q=>gR q [0] [] sf [] (c1 (Bd 1 Wx (0:Int))) (tB h λx1 y1 h=>tT q R4 [8] [⟨[],[(20000,8)],(cJ x1 20000),[(20000,.tok 1 5 x1.length)],[],[]⟩] (c1 (K8 y1)) (Ae q Tq [8] (tL q h Tq [8] (λu (l2,i3)=>(Cn u [(3,(AV.list 1 Wx 0 l2 (.own 8))),(4,(Z6 i3))] [(8,.tok 1 5 l2.length)])) (λu x_=>match x_ with|(.inl l4)=>aG Γ (.exit 0) (⟨[(3,(AV.list 1 Wx 0 l4 (.own 8)))],[(8,.tok 1 5 l4.length)],[]⟩:St)|(.inr r_)=>aR (EN Γ v2 r_)) (λ⟨l2,i3⟩ y h=>Ae q [0,3,4,12] [8] (gC h (λh=>tV q [0,3,4,19] [8] h λh=>gC h (λh=>gR q [2] [] sf [] (c1 (Bd 1 Wx (0:Int))) (O8 (⟨sf,[],[]⟩:St) (tS h (gO (Mp (H7 LT (show Le Γ _ zC from Le.trans (A8 (st':=⟨sf,[],[]⟩) [2] [] q) (Le.trans (Ld (t:=2) (nm:=6002) (sz':=1) (λi=>Wx (([]:Ao).getD i 0)) 5 rfl rfl (.inl ⟨rfl,rfl⟩) (λh_=>absurd h_ (by decide))) (A8 (st':=zC) [2] [6002] q))))))))) λh=>tC h λc6_ h=>tB h λx7 y7 h=>tC h λc8_ h=>gR q Tq [8] [(27,(AV.list 1 Wx 0 (l2++x7) (.own 8)))] [(vN 26 x7 x7.length)] (c6 c6_ (K8 y7) (Eq.refl l2.length) c8_ (Cv 1 8 Wx (0:Int) l2 x7) (Bs l2 x7)) (Ae q Tq [8] (tN h))) λh=>tS h (gO (A3 (A8 [3] [8] q))))) λx9 h=>(match x9,h with | .inl l4,h=>gA (Ae q [2] [8] (tS h (Bq [(8,20000)]))) | .inr r11,h=>gAr (λst' hk=>tS h (gK hk))))))
def Bb(aP:Ao)(aW:Int):Option Ao:=
 ((Et (Fl aW)).bind λx1=>(Aw (aP.length+x1.length<=room) (some (aP++x1))))
theorem Bu(h:Bb v2 v1=some v17):sP 53 [(cJ v2 32000),(Z6 v1)] [(32000,.tok 1 5 v2.length)] (cJ v17 32000) [(32000,.tok 1 5 v17.length)]:=
 sG Tryz.func53 λΓ q=>gR q Fg [32000] [(4,sr)] [] (c1 (Bd 1 Wx (0:Int))) (tB h λx1 y1 h=>tC h λc2_ h=>gR q [4] [32000] [(9,(AV.list 1 Wx 0 (v2++x1) (.own 32000)))] [⟨[],[(20000,8)],(cJ x1 20000),[(20000,.tok 1 5 x1.length)],[],[]⟩] (c5 (K8 y1) (Eq.refl v2.length) c2_ (Cv 1 32000 Wx (0:Int) v2 x1) (Bs v2 x1)) (tS h (Bq [(32000,32000)])))
def G2(a0:TFunc)(i6:Int):WL->Option vD:=
 λ((l10,i11):WL)=>(bif (decide (i11<(((a0.Blocks.getD i6.toNat default).Phis).length:Int))) then(Aw (As i11 ((a0.Blocks.getD i6.toNat default).Phis).length) ((Bb l10 ((((a0.Blocks.getD i6.toNat default).Phis).getD i11.toNat default).Bits)).bind λx14=>(Aw (As i11 ((a0.Blocks.getD i6.toNat default).Phis).length) ((Bb x14 ((((a0.Blocks.getD i6.toNat default).Phis).getD i11.toNat default).Dst)).bind λx16=>(Aw (As i11 ((a0.Blocks.getD i6.toNat default).Phis).length) ((C1 ((((a0.Blocks.getD i6.toNat default).Phis).getD i11.toNat default).From)).bind λx18=>(Aw (x16.length+x18.length<=room) (Aw (As i11 ((a0.Blocks.getD i6.toNat default).Phis).length) ((C1 ((((a0.Blocks.getD i6.toNat default).Phis).getD i11.toNat default).Args)).bind λx21=>(Aw ((x16++x18).length+x21.length<=room) (some (.next (((x16++x18)++x21),(w64 (i11+1))))))))))))))) else(some (.done l10)))
def G3(a0:TFunc)(i6:Int):WL->Option vD:=
 λ((l26,i27):WL)=>(bif (decide (i27<(((a0.Blocks.getD i6.toNat default).Ops).length:Int))) then(Aw (As i27 ((a0.Blocks.getD i6.toNat default).Ops).length) ((Bb l26 ((((a0.Blocks.getD i6.toNat default).Ops).getD i27.toNat default).Kind)).bind λx30=>((Bb x30 ((((a0.Blocks.getD i6.toNat default).Ops).getD i27.toNat default).Bits)).bind λx31=>((Bb x31 ((((a0.Blocks.getD i6.toNat default).Ops).getD i27.toNat default).Lanes)).bind λx32=>((Bb x32 ((((a0.Blocks.getD i6.toNat default).Ops).getD i27.toNat default).Dst)).bind λx33=>((C1 ((((a0.Blocks.getD i6.toNat default).Ops).getD i27.toNat default).Args)).bind λx34=>(Aw (x33.length+x34.length<=room) ((Et ((((a0.Blocks.getD i6.toNat default).Ops).getD i27.toNat default).Imm)).bind λx36=>(Aw ((x33++x34).length+x36.length<=room) (some (.next (((x33++x34)++x36),(w64 (i27+1)))))))))))))) else(some (.done l26)))
def G4(a0:TFunc):WL->Option vD:=
 λ((l5,i6):WL)=>(bif (decide (i6<(a0.Blocks.length:Int))) then(Aw (As i6 a0.Blocks.length) ((Bb l5 (((a0.Blocks.getD i6.toNat default).Phis).length:Int)).bind λx9=>((Ad (G2 a0 i6) (x9,(0:Int))).bind (λx23=>((Bb x23 (((a0.Blocks.getD i6.toNat default).Ops).length:Int)).bind λx25=>((Ad (G3 a0 i6) (x25,(0:Int))).bind (λx38=>((Bb x38 ((a0.Blocks.getD i6.toNat default).End.Kind)).bind λx40=>((Bb x40 ((a0.Blocks.getD i6.toNat default).End.Arg)).bind λx41=>((C1 ((a0.Blocks.getD i6.toNat default).End.To)).bind λx42=>(Aw (x41.length+x42.length<=room) (some (.next ((x41++x42),(w64 (i6+1)))))))))))))))) else(some (.done l5)))
def Abi(a0:TFunc)(i6:Int):=(a0.Blocks.getD i6.toNat default)
def Abo(a0:TFunc)(i6:Int)(i27:Int):=(((Abi a0 i6).Ops).getD i27.toNat default)
def sg:List NL:=[(2,sr)]
def zD:=(Z115:St)
def Jf(a0:TFunc):Option Ao:=
 ((Gs a0).bind λx1=>(bif (!x1) then(some ([]:Ao)) else((C1 a0.Params).bind λx2=>((Bb x2 a0.Ret).bind λx3=>((Bb x3 (a0.Blocks.length:Int)).bind λx4=>((Ad (G4 a0) (x4,(0:Int))).bind (λx44=>(some x44))))))))
theorem W9(h:Jf v0=some v2):sP 18 [(Y1 v0)] [] (cJ v2 20000) [(20000,.tok 1 5 v2.length)]:=
 sG Tryz.func18 λΓ q=>gR q [1] [1] sg [] (c1 (Bd 1 Wx (0:Int))) (tB h λx1 y1 h=>tT q [1,11] [1] [(Z7 x1)] (c1 (Sy y1)) (gC h (λh=>gR q [2] [] sg [] (c1 (Bd 1 Wx (0:Int))) (O8 (⟨sg,[],[]⟩:St) (tS h (gK (e:=.ret) (H7 LT (show Le Γ _ zD from Le.trans (A8 (st':=⟨sg,[],[]⟩) [2] [] q) (Le.trans (Ld (t:=2) (nm:=6002) (sz':=1) (λi=>Wx (([]:Ao).getD i 0)) 5 rfl rfl (.inl ⟨rfl,rfl⟩) (λh_=>absurd h_ (by decide))) (A8 (st':=zD) [2] [6002] q)))))))) λh=>tB h λx2 y2 h=>tT q I8 DE [(vN 14 x2 x2.length)] (c1 (H3 y2)) (tB h λx3 y3 h=>tB h λx4 y4 h=>tT q I8 DE [(mi x3 x3.length),(mi x4 x4.length)] (c2 (Bu y3) (Bu y4)) (Ae q Hp DE (tL q h Hp DE (λu (l5,i6)=>(Cn u [(3,(cJ l5 14)),(4,(Z6 i6))] [(14,.tok 1 5 l5.length)])) (λu l7=>aG Γ (.exit 0) (⟨[(3,(cJ l7 14))],[(14,.tok 1 5 l7.length)],[]⟩:St)) (λ⟨l5,i6⟩ y h=>Ae q [1,3,4,27] DE (gC h (λh=>tV q Gn Rr h λh=>tB h λx9 y9 h=>tT q Gn Rr [(mi x9 x9.length)] (c1 (Bu y9)) (Ae q Ot Rr (tL q h Ot Rr (λu (l10,i11)=>(Cn u [(3,(cJ l10 14)),(6,(Z6 i11))] [(14,.tok 1 5 l10.length)])) (λu l12=>aG Γ (.exit 2) (Ng Gn Rr u [(3,(cJ l12 14))] [(14,.tok 1 5 l12.length)])) (λ⟨l10,i11⟩ y h=>Ae q [1,3,4,5,6,44] Rr (gC h (λh=>tC h λc13_ h=>tB h λx14 y14 h=>tC h λc15_ h=>tB h λx16 y16 h=>tT q Ot Rr [(mi x14 x14.length),(mi x16 x16.length)] (c4 c13_ (Bu y14) c15_ (Bu y16)) (tC h λc17_ h=>tB h λx18 y18 h=>tC h λc19_ h=>tC h λc20_ h=>tB h λx21 y21 h=>tC h λc22_ h=>gR q Ot Rr [(70,(AV.list 1 Wx 0 (x16++x18) (.own 14))),(78,(AV.list 1 Wx 0 ((x16++x18)++x21) (.own 14)))] [(vN 69 x18 x18.length),(vN 77 x21 x21.length)] (yE c17_ (H3 y18) (Eq.refl x16.length) c19_ (Cv 1 14 Wx (0:Int) x16 x18) (Bs x16 x18) c20_ (H3 y21) (Eq.refl ((x16++x18).length)) (c3 c22_ (Cv 1 14 Wx (0:Int) (x16++x18) x21) (Bs (x16++x18) x21))) (Ae q Ot Rr (tN h)))) λh=>tS h (gO (A3 (A8 Gn Rr q))))) λx23 h=>gA (tB h λx25 y25 h=>tT q Gn Rr [(mi x25 x25.length)] (c1 (Bu y25)) (Ae q bm Rr (tL q h bm Rr (λu (l26,i27)=>(Cn u [(3,(cJ l26 14)),(7,(Z6 i27))] [(14,.tok 1 5 l26.length)])) (λu l28=>aG Γ (.exit 4) (Ng Gn Rr u [(3,(cJ l28 14))] [(14,.tok 1 5 l28.length)])) (λ⟨l26,i27⟩ y h=>Ae q [1,3,4,5,7,88] Rr (gC h (λh=>tV q [1,3,4,5,7,8] [1,5,8,14] h λh=>tB h λx30 y30 h=>tB h λx31 y31 h=>tB h λx32 y32 h=>tB h λx33 y33 h=>tT q [1,3,4,5,7,8] [1,5,8,14] [(mi x30 x30.length),(mi x31 x31.length),(mi x32 x32.length),(mi x33 x33.length)] (c4 (Bu y30) (Bu y31) (Bu y32) (Bu y33)) (tB h λx34 y34 h=>tC h λc35_ h=>tB h λx36 y36 h=>tC h λc37_ h=>gR q bm Rr [(113,(AV.list 1 Wx 0 (x33++x34) (.own 14))),(117,(AV.list 1 Wx 0 ((x33++x34)++x36) (.own 14)))] [(vN 112 x34 x34.length),(vN 116 x36 x36.length)] (yE (H3 y34) (Eq.refl x33.length) c35_ (Cv 1 14 Wx (0:Int) x33 x34) (Bs x33 x34) (K8 y36) (Eq.refl ((x33++x34).length)) c37_ (Cv 1 14 Wx (0:Int) (x33++x34) x36) (c1 (Bs (x33++x34) x36))) (Ae q bm Rr (tN h)))) λh=>tS h (gO (A3 (A8 Gn Rr q))))) λx38 h=>gA (tB h λx40 y40 h=>tB h λx41 y41 h=>tT q Gn Rr [(mi x40 x40.length),(mi x41 x41.length)] (c2 (Bu y40) (Bu y41)) (tB h λx42 y42 h=>tC h λc43_ h=>gR q Hp DE [(132,(AV.list 1 Wx 0 (x41++x42) (.own 14)))] [(vN 131 x42 x42.length)] (c5 (H3 y42) (Eq.refl x41.length) c43_ (Cv 1 14 Wx (0:Int) x41 x42) (Bs x41 x42)) (Ae q Hp DE (tN h)))))))))) λh=>tS h (gO (A3 (A8 [3] [14] q))))) λx44 h=>gA (Ae q [2] [14] (tS h (Bq jF))))))))
def Eg(a0:TFunc)(x6:CU)(i17:Int):Ho->Option iK:=
 λ((i20,i21):Ho)=>(Aw (As i17 x6.1.Blocks.length) (bif (decide (i21<(((x6.1.Blocks.getD i17.toNat default).Ops).length:Int))) then(Option.bind (α:=Int) (Aw (As i17 x6.1.Blocks.length) (Aw (As i21 ((x6.1.Blocks.getD i17.toNat default).Ops).length) (Aw (((((((x6.1.Blocks.getD i17.toNat default).Ops).getD i21.toNat default).Dst:Int)==0)==false)=true->(As i17 x6.1.Blocks.length)) (Aw (((((((x6.1.Blocks.getD i17.toNat default).Ops).getD i21.toNat default).Dst:Int)==0)==false)=true->(As i21 ((x6.1.Blocks.getD i17.toNat default).Ops).length)) ((bif ((((((x6.1.Blocks.getD i17.toNat default).Ops).getD i21.toNat default).Dst:Int)==0)==false) then K4 a0 else some (0:Int)).bind λx29=>(bif (bif (((((x6.1.Blocks.getD i17.toNat default).Ops).getD i21.toNat default).Dst:Int)==0) then true else(decide (((((x6.1.Blocks.getD i17.toNat default).Ops).getD i21.toNat default).Dst:Int)<=x29))) then(some (w64 (i20+1))) else(some i20))))))) (λx30=>(some (.next (x30,(w64 (i21+1))))))) else(some (.done i20))))
def zE(x5:TA):=(decide ((0:Int)<=x5.1.Else))
def zF(x5:TA):=(decide ((0:Int)<=x5.1.Then))
def si(x6:CU)(a0:TFunc)(x11:Int):=((x6.1.Blocks.length:Int)!=(w64 ((a0.Blocks.length:Int)-x11)))
def wY(x32:Int)(a0:TFunc)(x5:TA)(x35:List A2):=(x32==(w64 ((((a0.Blocks.getD (x5.1.At).toNat (default:Ab)).Ops).length:Int)+(x35.length:Int))))
def nY(x6:CU)(x18:Int)(i21:Int):=((((((x6.1.Blocks.getD x18.toNat default).Ops).getD i21.toNat default).Dst:Int)==0)==false)
def nX(a0:TFunc)(x5:TA)(x6:CU):List OQ:=[(2,.row 25 (Z5 a0.Params a0.Ret a0.Blocks)),(5,.row 27 [(Z6 x5.1.At),(Z6 x5.1.Then),(Z6 x5.1.Else),(Z6 x5.1.Join)]),(7,.row 25 (Z5 x6.1.Params x6.1.Ret x6.1.Blocks))]
def Je(a0:TFunc)(a1:Int):Option Bool:=
 (m_locksteplaw15_awake.bind λx1=>(bif (!x1) then(some false) else((E1 a0).bind λx2=>((bif ((!x2)==false) then Cz a0 (2:Int) else some (0:Int)).bind λx3=>(bif (bif (!x2) then true else(x3 !=0)) then(some true) else(Aw ((a0.Blocks.length:Int)≠0) ((K6 a0 (Int.tmod (w64 a1) (a0.Blocks.length:Int))).bind λx5=>(bif (!x5.2) then(some true) else((H1 a0 x5.1).bind λx6=>(bif (x6.2 !=0) then(some ((x6.1.Blocks.length:Int)==0)) else(Option.bind (α:=Int) (bif (decide ((0:Int)<=x5.1.Then)) then(some (w64 ((0:Int)+1))) else(some (0:Int))) (λx8=>(Option.bind (α:=Int) (bif (decide ((0:Int)<=x5.1.Else)) then(some (w64 (x8+1))) else(some x8)) (λx11=>((bif (((x6.1.Blocks.length:Int)!=(w64 ((a0.Blocks.length:Int)-x11)))==false) then Jf x6.1 else some []).bind λx13=>(bif (bif ((x6.1.Blocks.length:Int)!=(w64 ((a0.Blocks.length:Int)-x11))) then true else((x13.length:Int)==0)) then(some false) else(Option.bind (α:=Int) (bif (bif (decide ((0:Int)<=x5.1.Then)) then(decide ((x5.1.Then:Int)<x5.1.At)) else false) then(some (w64 (x5.1.At-1))) else(some x5.1.At)) (λx15=>(Option.bind (α:=Int) (bif (bif (decide ((0:Int)<=x5.1.Else)) then(decide ((x5.1.Else:Int)<x5.1.At)) else false) then(some (w64 (x15-1))) else(some x15)) (λx18=>((Ad (Eg a0 x6 x18) ((0:Int),(0:Int))).bind (λx32=>(Aw (As x5.1.At a0.Blocks.length) ((Lt a0 x5.1).bind λx35=>(Aw (((x32==(w64 ((((a0.Blocks.getD (x5.1.At).toNat (default:Ab)).Ops).length:Int)+(x35.length:Int))))==true)=true->(As x18 x6.1.Blocks.length)) (some (bif (x32==(w64 ((((a0.Blocks.getD (x5.1.At).toNat (default:Ab)).Ops).length:Int)+(x35.length:Int)))) then(((x6.1.Blocks.getD x18.toNat default).End.Kind:Int)==1) else false)))))))))))))))))))))))))))
theorem ok_locksteplaw15_IfconvFewer(a0:TFunc)(a1:Int)(r:Bool)(h:Je a0 a1=some r):sP 5 [(Y1 a0),(.int .u8 a1)] [] (.bool r) []:=
 sG Tryz.func5 λΓ q=>Ae q Nj [2] (tB h λx1 y1 h=>tT q [1,2,14] [2] [(Z7 x1)] (c1 (Yc  x1 y1)) (gC h (λh=>Ae q [4] [] (tS h (Bq []))) λh=>tB h λx2 y2 h=>tB h λx3 y3 h=>tT q [1,2,22] [2] [(Z7 x2),(JS x3)] (c5 (Yi y2) (gI ((!x2)==false)) (λ(hg:((!x2)==false)=true)=>(Mm (Ba hg y3))) (gI ((!x2)==false)) (I9 (!x2))) (gC h (λh=>Ae q [4] [] (tS h (Bq []))) λh=>tC h λc4_ h=>tB h λx5 y5 h=>tT q V5 Tf [(sn x5.1 x5.2)] (c2 c4_ (AH y5)) (Ae q [2,5,35] Tf (gC h (λh=>Ae q [4] [] (tS h (Bq []))) λh=>tB h λx6 y6 h=>tT q bs Jn [(zR x6.1 x6.2)] (c1 (Mt y6)) (Ae q [2,5,7,43] Jn (gC h (λh=>Ae q [4] [] (tS h (Bq []))) λh=>Ae q DA Jn (tB h λx8 y8 h=>gJ y8 (λi7=>aG Γ .normal (⟨[Ob,VF,JV,(9,(Z6 i7))],(nX a0 x5 x6),[]⟩:St)) (λy h=>Ae q [2,5,7,9,50] Jn (gC h (λh=>Ae q DA Jn (tS h (gK (A3 Gv)))) λh=>tS h (gK (A3 (A8 DA Jn q))))) (gA (tB h λx11 y11 h=>gJ y11 (λi10=>aG Γ .normal (⟨[Ob,VF,JV,(9,(Z6 i10))],(nX a0 x5 x6),[]⟩:St)) (λy h=>Ae q [2,5,7,9,55] Jn (gC h (λh=>Ae q DA Jn (tS h (gK (A3 Gv)))) λh=>tS h (gK (A3 (A8 DA Jn q))))) (gA (tB h λx13 y13 h=>tT q [2,5,7,72] Jn [⟨[],[],(AV.list 1 Wx 0 x13 .none),[],[],[]⟩] (QD (gI ((si x6 a0 x11)==false)) (show(((si x6 a0 x11)==false)=true->(sP 18 [(Y1 x6.1)] [] (AV.list 1 Wx 0 x13 .none) [])) from(λhg=>(Spec.drop (W9 (Ba hg y13))))) (Kb ((si x6 a0 x11)==false) (c1 (I9 (si x6 a0 x11))))) (gC h (λh=>Ae q [4] [] (tS h (Bq []))) λh=>Ae q TY Jn (tB h λx15 y15 h=>gJ y15 (λi14=>aG Γ .normal (⟨[Ob,VF,JV,(10,(Z6 i14))],(nX a0 x5 x6),[]⟩:St)) (λy h=>tU q [2,5,7,10,84] Jn (QL ((zF x5)==true) (c1 (Na (zF x5)))) (gC h (λh=>Ae q TY Jn (tS h (gK (A3 Gv)))) λh=>tS h (gK (A3 (A8 TY Jn q))))) (gA (tB h λx18 y18 h=>gJ y18 (λi17=>aG Γ .normal (⟨[Ob,VF,JV,(10,(Z6 i17))],(nX a0 x5 x6),[]⟩:St)) (λy h=>tU q [2,5,7,10,96] Jn (QL ((zE x5)==true) (c1 (Na (zE x5)))) (gC h (λh=>Ae q TY Jn (tS h (gK (A3 Gv)))) λh=>tS h (gK (A3 (A8 TY Jn q))))) (gA (tW q ik Jn et Jn (tL q h et Jn (λu (i20,i21)=>(Cn u [(11,(Z6 i20)),(12,(Z6 i21))] [])) (λu i22=>aG Γ (.exit 0) (Ng ik Jn u [(11,(Z6 i22))] [])) (λ⟨i20,i21⟩ y h=>tV q [2,5,7,10,11,12,107] Jn h λh=>gC h (λh=>tB h λx30 y30 h=>gJ y30 (λi24=>aG Γ .normal (⟨[Ob,VF,JV,(10,(Z6 x18)),(11,(Z6 i24)),(12,(Z6 i21))],(nX a0 x5 x6),[]⟩:St)) (λy h=>tC h λc25_ h=>tC h λc26_ h=>tC h λc27_ h=>tC h λc28_ h=>tB h λx29 y29 h=>tT q [2,5,7,10,11,12,135] Jn [(JS x29)] (QD c25_ c26_ (Si (nY x6 x18 i21) (ci c27_ (QL (nY x6 x18 i21) (ci c28_ (Si (nY x6 x18 i21) (ci (λ(hg:(nY x6 x18 i21)=true)=>(AF (Ba hg y29))) (Kb (nY x6 x18 i21) (c1 (I9 (((((x6.1.Blocks.getD x18.toNat default).Ops).getD i21.toNat default).Dst:Int)==0))))))))))) (gC h (λh=>Ae q et Jn (tS h (gK (A3 Gv)))) λh=>tS h (gK (A3 (A8 et Jn q))))) (gA (Ae q et Jn (tN h)))) λh=>tS h (gO (A3 (A8 ik Jn q)))) λx32 h=>gA (tC h λc34_ h=>tB h λx35 y35 h=>tC h λc36_ h=>tT q [4] [] [⟨[],[(20000,149)],(jN x35 20000),[(OA 20000 x35.length)],[],[]⟩] (QD c34_ (CD y35) (Si ((wY x32 a0 x5 x35)==true) (ci c36_ (QL ((wY x32 a0 x5 x35)==true) (c1 (Na (wY x32 a0 x5 x35))))))) (tS h (Bq []))))))))))))))))))))))
open Go Go.RowKit
set_option maxRecDepth 100000
set_option maxHeartbeats 2000000
theorem Em{n:Int}(h:-9223372036854775808<=n)(h':n<9223372036854775808):w64 n=n:=by
 show IntKind.i64.wrap n=n
 simp only[IntKind.wrap,IntKind.bits,IntKind.signed]
 simp
 split<;>omega
theorem Sp{n:Int}(h:0<=n)(h':n<18446744073709551616):Fl n=n:=by
 show IntKind.u64.wrap n=n
 simp[IntKind.wrap,IntKind.bits,IntKind.signed];omega
theorem qc(n:Int):Fl n=n % 18446744073709551616:=by
 show IntKind.u64.wrap n=_
 simp[IntKind.wrap,IntKind.bits,IntKind.signed]
theorem qd{n:Int}(h:0<=n)(h':n<256):u3 n=n:=by
 show IntKind.u8.wrap n=n
 simp[IntKind.wrap,IntKind.bits,IntKind.signed];omega
theorem Aa{R:Type}{p:Prop}[Decidable p]{k:Option R}(h:p):Aw p k=k:=if_pos h
theorem oq{x:Int}(j:Nat):x.fdiv (2 ^ j)=x / 2 ^ j:=by rw[Int.fdiv_eq_ediv_of_nonneg _ (by exact Int.le_of_lt (Int.pow_pos (by decide)))]
theorem Am{α:Type}(l:List α)(i:Nat)(d:α)(h:i<l.length):l.getD i d=l[i]:=by simp[List.getD,h]
theorem CP:(2:Nat) ^ 64=18446744073709551616:=by decide
theorem kinds(k:Int):k=0\/k=1\/k=2\/k=3\/k=4\/k=5\/k=6\/k=7\/k=8\/k=9\/k=10\/k=11\/k=12\/k=13\/k=14\/k=15\/k=16\/k=17\/k=18\/k=19\/k=20\/k=21\/k=22\/(k<0\/22<k):=by omega
theorem gu{k:Int}(h:k<0\/22<k):(k==0)=false/\(k==1)=false/\(k==2)=false/\(k==3)=false/\(k==4)=false/\(k==5)=false/\(k==6)=false/\(k==7)=false/\(k==8)=false/\(k==9)=false/\(k==10)=false/\(k==11)=false/\(k==12)=false /\
  (k==13)=false/\(k==14)=false/\(k==15)=false/\(k==16)=false/\(k==17)=false/\(k==18)=false/\(k==19)=false/\(k==20)=false/\(k==21)=false/\(k==22)=false:=by
 simp only[zzL35];omega
def widthB(b:Int):Bool:=b==1 || b==8 || b==16 || b==32 || b==64
def X2(b n:Int):Bool:=widthB b&&(n==1 || ((n==2 || n==4 || n==8 || n==16)&&decide (8<=b)&&decide (b*n<=128)))
theorem width_cases{b:Int}(h:widthB b=true):b=1\/b=8\/b=16\/b=32\/b=64:=by simp[widthB]at h;omega
theorem CM{b n:Int}(h:X2 b n=true):widthB b=true:=by simp[X2]at h;exact h.1
theorem shape_lanes{b n:Int}(h:X2 b n=true):n=1\/n=2\/n=4\/n=8\/n=16:=by simp[X2]at h;omega
theorem Xf(b:Int):Lj b=some (widthB b):=by
 unfold Lj widthB
 by_cases h1:b=1
 ·subst h1;rfl
 by_cases h2:b=8
 ·subst h2;rfl
 by_cases h3:b=16
 ·subst h3;rfl
 by_cases h4:b=32
 ·subst h4;rfl
 by_cases h5:b=64
 ·subst h5;rfl
 have e1:(b==1)=false:=by simpa using h1
 have e2:(b==8)=false:=by simpa using h2
 have e3:(b==16)=false:=by simpa using h3
 have e4:(b==32)=false:=by simpa using h4
 have e5:(b==64)=false:=by simpa using h5
 simp[e1,e2,e3,e4,e5]
theorem S0(b:Int):C0 b=some (widthB b):=by
 cases(b==1)<;>cases(b==8)<;>cases(b==16)<;>cases(b==32)<;>rfl
theorem gW(b n:Int):Ty b n=some (X2 b n):=by
 unfold Ty;simp only[Xf,Aj]
 by_cases hn:n=1\/n=2\/n=4\/n=8\/n=16
 ·cases hw:widthB b with
  | false=>rcases hn with rfl|rfl|rfl|rfl|rfl<;>simp[X2,hw]
  | true=>
   rcases width_cases hw with rfl|rfl|rfl|rfl|rfl<;>rcases hn with rfl|rfl|rfl|rfl|rfl<;>rfl
 ·have e1:(n==1)=false:=by simp;omega
  have e2:(n==2)=false:=by simp;omega
  have e3:(n==4)=false:=by simp;omega
  have e4:(n==8)=false:=by simp;omega
  have e5:(n==16)=false:=by simp;omega
  simp[X2,e1,e2,e3,e4,e5]
theorem mI(b n:Int):J6 b n=some (X2 b n):=by
 unfold J6;simp only[S0,Aj]
 cases hw:widthB b with
 | false=>simp[X2,hw]
 | true=>
  by_cases hn:n=1\/n=2\/n=4\/n=8\/n=16
  ·rcases width_cases hw with rfl|rfl|rfl|rfl|rfl<;>rcases hn with rfl|rfl|rfl|rfl|rfl<;>rfl
  ·have e1:(n==1)=false:=by simp;omega
   have e2:(n==2)=false:=by simp;omega
   have e3:(n==4)=false:=by simp;omega
   have e4:(n==8)=false:=by simp;omega
   have e5:(n==16)=false:=by simp;omega
   simp[X2,e1,e2,e3,e4,e5]
theorem qa{v b:Int}(hv:0<=v/\v<18446744073709551616)(hb:widthB b=true):X6 v b=some (v % 2 ^ b.toNat):=by
 unfold X6;simp only[Xf,hb,Aj,Dj,Aq]
 have key:∀ j:Nat,j<64->Xe .u64 (SN .u64 v (j:Int)) (j:Int)=(v*2 ^ j % 18446744073709551616) / 2 ^ j:=λj hj=>by
  simp only[Xe,SN,Cp,IntKind.bits];rw[Nat.min_eq_left (by omega),oq,show IntKind.u64.wrap (v*2 ^ j)=v*2 ^ j % 18446744073709551616 from qc _]
 rcases width_cases hb with rfl|rfl|rfl|rfl|rfl
 ·have:=key 63 (by decide);simp only[show w64 (64-1)=((63:Nat):Int) from rfl,this];rw[Aa (by decide),Aa (by decide)];congr 1;simp only[show((1:Int).toNat)=1 from rfl];omega
 ·have:=key 56 (by decide);simp only[show w64 (64-8)=((56:Nat):Int) from rfl,this];rw[Aa (by decide),Aa (by decide)];congr 1;simp only[show((8:Int).toNat)=8 from rfl];omega
 ·have:=key 48 (by decide);simp only[show w64 (64-16)=((48:Nat):Int) from rfl,this];rw[Aa (by decide),Aa (by decide)];congr 1;simp only[show((16:Int).toNat)=16 from rfl];omega
 ·have:=key 32 (by decide);simp only[show w64 (64-32)=((32:Nat):Int) from rfl,this];rw[Aa (by decide),Aa (by decide)];congr 1;simp only[show((32:Int).toNat)=32 from rfl];omega
 ·have:=key 0 (by decide);simp only[show w64 (64-64)=((0:Nat):Int) from rfl,this];rw[Aa (by decide),Aa (by decide)];congr 1;simp only[show((64:Int).toNat)=64 from rfl];omega
theorem uh{v b:Int}(hv:0<=v/\v<18446744073709551616)(hb:widthB b=true):Lr v b=some (v % 2 ^ b.toNat):=by
 unfold Lr;simp only[S0,hb,Aj,Dj,Aq];rcases width_cases hb with rfl|rfl|rfl|rfl|rfl
 ·rw[show((1:Int)==64)=false from rfl,Aq,Aa (by decide),Aa (by decide),show SN .u64 (1:Int) (Fl 1)=2 ^ (1:Int).toNat from rfl,Int.tmod_eq_emod_of_nonneg hv.1]
 ·rw[show((8:Int)==64)=false from rfl,Aq,Aa (by decide),Aa (by decide),show SN .u64 (1:Int) (Fl 8)=2 ^ (8:Int).toNat from rfl,Int.tmod_eq_emod_of_nonneg hv.1]
 ·rw[show((16:Int)==64)=false from rfl,Aq,Aa (by decide),Aa (by decide),show SN .u64 (1:Int) (Fl 16)=2 ^ (16:Int).toNat from rfl,Int.tmod_eq_emod_of_nonneg hv.1]
 ·rw[show((32:Int)==64)=false from rfl,Aq,Aa (by decide),Aa (by decide),show SN .u64 (1:Int) (Fl 32)=2 ^ (32:Int).toNat from rfl,Int.tmod_eq_emod_of_nonneg hv.1]
 ·rw[show((64:Int)==64)=true from rfl,Af]
  congr 1
  simp only[show((64:Int).toNat)=64 from rfl];omega
theorem ai{i:Int}(h:0<=i/\i<18446744073709551616):N0 i=some (widthB i):=by
 unfold N0
 by_cases hi:i<=64
 ·have:w64 i=i:=Em (by omega) (by omega);simp[hi,this,Xf]
 ·have:widthB i=false:=by simp[widthB];omega
  simp[hi,this]
def gQ(k:Int):Bool:=decide (0<=k)&&decide (k<=22)
def Re(k n:Int):Int:=
 bif k==0 then 0 else bif k==13 || k==18 || k==19 then 3 else bif k==14 || k==15 || k==16 || k==22 then 1 else bif k==20 then 4 else bif k==21 then n else 2
def sfitS(k b n:Int):Bool:=
 bif k==16 || k==17 then decide (8<=b) else bif k==18 || k==19 then decide (8<=b)&&n==1 else
 bif k==4 || k==10 || k==11 || k==12 || k==14 || k==15 || k==20 then n==1 else bif k==21 || k==22 then decide (1<n) else true
def ifitS(k b n i:Int):Bool:=
 bif k==0 then i % 2 ^ b.toNat==i else bif k==14 then widthB i&&decide (i<b) else bif k==15 then widthB i&&decide (b<i) else bif k==22 then decide (i<n) else i==0
def valS(v:Int):Bool:=decide (1<=v)&&decide (v<=1023)
def dstS(k d:Int):Bool:=bif k==17 || k==19 then d==0 else valS d
def Ju(o:A2):Bool:=X2 o.Bits o.Lanes&&(gQ o.Kind&&sfitS o.Kind o.Bits o.Lanes&&ifitS o.Kind o.Bits o.Lanes o.Imm&&((o.Args.length:Int)==Re o.Kind o.Lanes))&&(o.Args.all valS&&dstS o.Kind o.Dst)
def cn(o:A2)(i:Nat):Int×Int:=
 bif o.Kind==13 || o.Kind==20 then(bif Nat.beq i 0 then(1,1) else(o.Bits,o.Lanes)) else bif o.Kind==14 || o.Kind==15 then(w64 o.Imm,1) else
 bif o.Kind==16 || o.Kind==17 then(bif Nat.beq i 0 then(64,1) else(o.Bits,o.Lanes)) else
 bif o.Kind==18 || o.Kind==19 then(bif Nat.beq i 1 then(64,1) else bif Nat.beq i 0 then(1,1) else(o.Bits,o.Lanes)) else bif o.Kind==21 then(o.Bits,1) else(o.Bits,o.Lanes)
def Yr(o:A2):List (Int×Int):=(List.range (Re o.Kind o.Lanes).toNat).map (cn o)
def GF(k b n:Int):Int×Int:=bif k==17 || k==19 then(0,0) else bif k==10 || k==11 || k==12 then(1,1) else bif k==22 then(b,1) else(b,n)
def YD(k:Int):Bool:=gQ k&&!(k==4 || k==16 || k==17 || k==18 || k==19 || k==20)
theorem IA{k:Int}(h:k<0\/22<k):gQ k=false:=by simp[gQ];omega
theorem MP(k:Int):Pa k=some (gQ k):=by unfold Pa gQ;cases decide ((0:Int)<=k)<;>rfl
theorem X1(v:Int):Nz v=some (valS v):=by unfold Nz valS;cases decide ((1:Int)<=v)<;>rfl
theorem EE(v:Int):Ez v=some (valS v):=by
 unfold Ez valS
 have e1:decide ((0:Int)<v)=decide (1<=v):=by congr 1
 have e2:decide (v<(1024:Int))=decide (v<=1023):=by apply zzL74.2;omega
 rw[e1,e2]
 cases decide ((1:Int)<=v)<;>rfl
theorem QS(o:A2):Of o=some (sfitS o.Kind o.Bits o.Lanes):=by
 obtain⟨k,b,n,d,args,i⟩:=o;rcases kinds k with rfl|rfl|rfl|rfl|rfl|rfl|rfl|rfl|rfl|rfl|rfl|rfl|rfl|rfl|rfl|rfl|rfl|rfl|rfl|rfl|rfl|rfl|rfl|h
 any_goals rfl
 ·show some (bif decide (8<=b) then n==1 else false)=some (decide (8<=b)&&n==1);cases decide (8<=b)<;>rfl
 ·show some (bif decide (8<=b) then n==1 else false)=some (decide (8<=b)&&n==1);cases decide (8<=b)<;>rfl
 ·unfold Of sfitS;simp[gu h]
theorem QR(o:A2):Qz o=some (GF o.Kind o.Bits o.Lanes):=by
 obtain⟨k,b,n,d,args,i⟩:=o;rcases kinds k with rfl|rfl|rfl|rfl|rfl|rfl|rfl|rfl|rfl|rfl|rfl|rfl|rfl|rfl|rfl|rfl|rfl|rfl|rfl|rfl|rfl|rfl|rfl|h
 any_goals rfl
 unfold Qz GF;simp[gu h]
theorem ah(o:A2)(hw:widthB o.Bits=true)(hn:0<=o.Lanes/\o.Lanes<=16)(hi:0<=o.Imm/\o.Imm<18446744073709551616):Q0 o=some (ifitS o.Kind o.Bits o.Lanes o.Imm):=by
 unfold Q0 ifitS
 have hb:Fl o.Bits=o.Bits:=by apply Sp<;>(rcases width_cases hw with h|h|h|h|h<;>omega)
 have hl:Fl o.Lanes=o.Lanes:=by apply Sp<;>omega
 rw[qa hi hw,ai hi,hb,hl]
 cases(o.Kind==0)<;>cases(o.Kind==14)<;>cases(o.Kind==15)<;>cases(o.Kind==22)<;>cases widthB o.Imm<;>rfl
set_option maxHeartbeats 2000000 in
theorem qD (o : A2) (hs : X2 o.Bits o.Lanes = true) (hk : gQ o.Kind = true) (hi : 0 ≤ o.Imm ∧ o.Imm < 18446744073709551616) : Fv o = some (sfitS o.Kind o.Bits o.Lanes && ifitS o.Kind o.Bits o.Lanes o.Imm) := by
  have hw := CM hs; have hl := shape_lanes hs; obtain ⟨k, b, n, d, args, i⟩ := o; simp only at hs hk hi hw hl ⊢
  have hb : Fl b = b := by apply Sp <;> (rcases width_cases hw with h | h | h | h | h <;> omega)
  have hn : Fl n = n := by apply Sp <;> omega
  have hb8 : decide (b < 8) = !decide (8 ≤ b) := by rw [← decide_not]; apply zzL74.2; omega
  have hn2 : decide (n < 2) = !decide (1 < n) := by rw [← decide_not]; apply zzL74.2; omega
  have h14 : (bif decide (i < b) then widthB (w64 i) else false) = (widthB i && decide (i < b)) := by
    by_cases h : i < b
    · have : w64 i = i := Em (by omega) (by rcases width_cases hw with h | h | h | h | h <;> omega); simp [h, this]
    · simp [h]
  have h15 : (bif (bif decide (b < i) then decide (i ≤ 64) else false) then widthB (w64 i) else false) = (widthB i && decide (b < i)) := by
    by_cases h : i ≤ 64
    · have : w64 i = i := Em (by omega) (by omega)
      by_cases h2 : b < i <;> simp [h, this, h2]
    · have : widthB i = false := by simp [widthB]; omega
      simp [h, this]
  have hc := uh (v := i) hi hw; rcases kinds k with rfl | rfl | rfl | rfl | rfl | rfl | rfl | rfl | rfl | rfl | rfl | rfl | rfl | rfl | rfl | rfl | rfl | rfl | rfl | rfl | rfl | rfl | rfl | h
  case inl => unfold Fv; simp [hc, sfitS, ifitS]
  all_goals first
    | (rw [IA h] at hk; cases hk)
    | (unfold Fv sfitS ifitS
       simp only [hb8]
       generalize decide (8 ≤ b) = u at *
       clear hc h14 h15 hb8 hw hs; rcases hl with rfl | rfl | rfl | rfl | rfl <;> cases u <;> simp_all
       done)
    | (unfold Fv sfitS ifitS
       rw [hb]; simp only [S0]; clear hc hs
       generalize decide (i < b) = p at *
       generalize decide (b < i) = q at *
       generalize decide (i ≤ 64) = r at *
       generalize widthB (w64 i) = s at *
       rcases hl with rfl | rfl | rfl | rfl | rfl <;> cases p <;> cases q <;> cases r <;> cases s <;> simp_all
       done)
theorem G6{α X:Type}(l:List α)(d:α)(p:α->Bool)(f:Int->Option (LR Int X))(yes no:X)(hn:∀ i:Nat,i<l.length->p (l.getD i d)=true->f i=some (.next ((i:Int)+1)))
  (hf:∀ i:Nat,i<l.length->p (l.getD i d)=false->f i=some (.done no)) (he:f l.length=some (.done yes)):∀(k i:Nat),i+k=l.length->Ad f i=some (bif (l.drop i).all p then yes else no)
 | 0,i,h=>by
  obtain rfl:i=l.length:=by omega
  rw[Ak he]
  simp
 | k+1,i,h=>by
  have hi:i<l.length:=by omega
  have hd:l.drop i=l.getD i d::l.drop (i+1):=by simp_all
  cases hp:p _ with
  | true=>
   rw[Ar (hn i hi hp)];have:=G6 l d p f yes no hn hf he k (i+1) (by omega);rw[show((i:Int)+1)=(i+1:Nat) by omega,this,hd,FP,hp,Hi]
  | false=>
   rw[Ak (hf i hi hp),hd,FP,hp,CZ,Aq]
theorem QX{α X:Type}(n:Nat)(g:Nat->α)(f:List α×Int->Option (LR (List α×Int) X))(out:List α->X)(hn:∀(l:List α) (i:Nat),i<n->l.length=i->f (l,(i:Int))=some (.next (l++[g i],(i:Int)+1)))
  (he:∀ l:List α,l.length=n->f (l,(n:Int))=some (.done (out l))):∀(k i:Nat) (l:List α),i+k=n->l=(List.range i).map g->Ad f (l,(i:Int))=some (out ((List.range n).map g))
 | 0,i,l,h,hl=>by
  obtain rfl:i=n:=by omega
  subst hl;exact Ak (he _ (by simp))
 | k+1,i,l,h,hl=>by
  subst hl;rw[Ar (hn _ i (by omega) (by simp))];exact QX n g f out hn he k (i+1) _ (by omega) (by simp[FN])
theorem IE{α:Type}(l:List α)(d:α)(wt:α->Nat)(C:Nat)(f:Int×Int->Option (LR (Int×Int) Int))
  (hn:∀(n i:Nat),i<l.length->n<=C->∃ m:Nat,f ((n:Int),(i:Int))=some (.next ((m:Int),((i+1:Nat):Int)))/\(n+wt (l.getD i d)<=C->m=n+wt (l.getD i d))/\(m<=C->n+wt (l.getD i d)<=C))
  (hd:∀(n i:Nat),i<=l.length->(i=l.length\/C<n)->f ((n:Int),(i:Int))=some (.done (n:Int))) :
  ∀(k i n:Nat),i+k=l.length->∃ m:Nat,Ad f ((n:Int),(i:Int))=some (m:Int)/\(n+((l.drop i).map wt).sum<=C->m=n+((l.drop i).map wt).sum)/\(m<=C->n+((l.drop i).map wt).sum<=C)
 | 0,i,n,h=>by
  obtain rfl:i=l.length:=by omega
  refine⟨n,Ak (hd n _ (zzL8 _) (.inl rfl)),?_,?_⟩
  ·simp
  ·simp
 | k+1,i,n,h=>by
  have hi:i<l.length:=by omega
  have hdr:l.drop i=l.getD i d::l.drop (i+1):=by rw[ee hi,Am _ _ _ hi]
  by_cases hC:n<=C
  ·obtain⟨m,h1,h2,h3⟩:=hn n i hi hC;obtain⟨m',h4,h5,h6⟩:=IE l d wt C f hn hd k (i+1) m (by omega);refine⟨m',by rw[Ar h1];exact h4,λhle=>?_,λhle=>?_⟩
   ·rw[hdr,Cb,List.sum_cons]at hle ⊢;have:=h2 (by omega);subst this;rw[h5 (by omega)];omega
   ·rw[hdr,Cb,List.sum_cons];have h7:=h6 hle;have h8:=h3 (by omega);have:=h2 h8;omega
  ·refine⟨n,Ak (hd n i (by omega) (.inr (by omega))),λhle=>by omega,λhle=>by omega⟩
theorem Ug{X:Type}(N:Nat)(f:Int×Int->Option (LR (Int×Int) X))(hn:∀(n:Int) (i:Nat),i<N->(∃ m:Int,f (n,(i:Int))=some (.next (m,((i+1:Nat):Int))))\/∃ x,f (n,(i:Int))=some (.done x))(hd:∀ n:Int,∃ x,f (n,(N:Int))=some (.done x)) :
  ∀(k i:Nat) (n:Int),i+k=N->∃ x,Ad f (n,(i:Int))=some x
 | 0,i,n,h=>by
  obtain rfl:i=N:=by omega
  obtain⟨x,hx⟩:=hd n;exact⟨x,Ak hx⟩
 | k+1,i,n,h=>by
  rcases hn n i (by omega) with⟨m,hm⟩|⟨x,hx⟩
  ·obtain⟨x,hx⟩:=Ug N f hn hd k (i+1) m (by omega);exact⟨x,by rw[Ar hm];exact hx⟩
  ·exact⟨x,Ak hx⟩
theorem DY{α X:Type}(l:List α)(d:α)(wt:α->Nat)(out:Int->X)(f:Int×Int->Option (LR (Int×Int) X))
  (hn:∀(n i:Nat),i<l.length->f (w64 n,(i:Int))=some (.next (w64 ((n+wt (l.getD i d):Nat):Int),((i+1:Nat):Int)))) (hd:∀ n:Int,f (n,(l.length:Int))=some (.done (out n))) :
  ∀(k i n:Nat),i+k=l.length->Ad f (w64 n,(i:Int))=some (out (w64 ((n+((l.drop i).map wt).sum:Nat):Int)))
 | 0,i,n,h=>by
  obtain rfl:i=l.length:=by omega
  rw[Ak (hd _)]
  simp
 | k+1,i,n,h=>by
  have hi:i<l.length:=by omega
  have hdr:l.drop i=l.getD i d::l.drop (i+1):=by simp_all
  rw[Ar (hn n i hi),DY l d wt out f hn hd k _ _ (by omega),hdr,Cb,List.sum_cons,FO]
theorem Vz(a b:Int):w64 (w64 a+b)=w64 (a+b):=by
 simp only[IntKind.wrap,IntKind.bits,IntKind.signed]
 simp
 split<;>split<;>omega
theorem Vp{α β:Type}(l:List α)(d:α)(E:α->List β)(M:Nat)(f:List β×Int->Option (LR (List β×Int) (List β)))
  (hn:∀(out:List β) (i:Nat),i<l.length->out.length+(E (l.getD i d)).length<=M->f (out,(i:Int))=some (.next (out++E (l.getD i d),((i+1:Nat):Int))))
  (hd:∀ out:List β,f (out,(l.length:Int))=some (.done out)) :
  ∀(k i:Nat) (out:List β),i+k=l.length->out.length+((l.drop i).map E).flatten.length<=M->Ad f (out,(i:Int))=some (out++((l.drop i).map E).flatten)
 | 0,i,out,h,_=>by
  obtain rfl:i=l.length:=by omega
  rw[Ak (hd out)]
  simp
 | k+1,i,out,h,hM=>by
  have hi:i<l.length:=by omega
  have hdr:l.drop i=l.getD i d::l.drop (i+1):=by simp_all
  rw[hdr,Cb,List.flatten_cons,Du]at hM;rw[Ar (hn out i hi (by omega)),Vp l d E M f hn hd k _ _ (by omega) (by grind),hdr,Cb,List.flatten_cons,U9]
theorem QK{α β:Type}(l:List α)(E:α->List β)(B:Nat)(h:∀ a∈l,(E a).length<=B):(l.map E).flatten.length<=l.length*B:=by
 induction l with
 | nil=>simp
 | cons a l ih=>
  have h1:=h a (by simp);have h2:=ih (λb hb=>h b (by simp[hb]));rw[Cb,List.flatten_cons,Du,R0,I6];omega
theorem Ai{α:Type}{l:List α}{i:Nat}{d:α}(h:i<l.length):l.getD i d∈l:=by grind
theorem Ag{i n:Nat}(h:i<n):As (i:Int) n:=⟨by omega,by exact_mod_cast h⟩
theorem A0{i n:Nat}(h:i<n)(hn:n<9223372036854775808):w64 ((i:Int)+1)=(i:Int)+1:=Em (by omega) (by omega)
def good31(l:List Int):Prop:=∀ x∈l,0<=x/\x<=2147483647
theorem Fn{S X:Type}(f:S->Option (LR S X))(T:Nat->S)(x:X):∀(n:Nat),(∀ i,i<n->f (T i)=some (.next (T (i+1))))->f (T n)=some (.done x)->Ad f (T 0)=some x:=by
 suffices h:∀(k i n:Nat),i+k=n->(∀ j,i<=j->j<n->f (T j)=some (.next (T (j+1))))->f (T n)=some _->Ad f (T i)=some x from
  λn h1 h2=>h n 0 n (by omega) (λj _ hj=>h1 j hj) h2
 intro k
 induction k with
 | zero=>
  intro i n hi _ h2
  have hin:n=i:=by omega
  subst hin;exact Ak h2
 | succ k ih=>intro i n hi h1 h2;rw[Ar (h1 i (zzL8 _) (by omega))];exact ih _ n (by omega) (λj hj hj'=>h1 j (by omega) hj') h2
theorem VQ{S X:Type}(f:S->Option (LR S X))(T:Nat->S):∀(n:Nat),(∀ i,i<n->f (T i)=some (.next (T (i+1))))->Ad f (T 0)=Ad f (T n):=by
 intro n
 induction n with
 | zero=>intro _;rfl
 | succ n ih=>intro h;rw[ih (λi hi=>h i (by omega)),Ar (h n (by omega))]
theorem H9{S X:Type}(f:S->Option (LR S X))(T:Nat->S)(p:Nat->Bool)(yes no:X)(n:Nat)(hn:∀ i,i<n->p i=true->f (T i)=some (.next (T (i+1))))(hf:∀ i,i<n->p i=false->f (T i)=some (.done no))
  (he:f (T n)=some (.done yes)):Ad f (T 0)=some (bif (List.range n).all p then yes else no):=by
 cases hall:(List.range n).all p with
 | true=>
  exact Fn f T yes n (λi hi=>hn i hi (zzL29.1 hall i (zzL85.2 hi))) he
 | false=>
  have hex:∃ i,i<n/\p i=false:=by
   grind
  obtain⟨m,hm⟩:=hex
  have key:∀ m,m<n->p m=false->∃ k,k<n/\p k=false/\∀ j,j<k->p j=true:=by
   intro m
   induction m using Nat.strongRecOn with
   | ind m ih=>
    intro h1 h2
    by_cases h:∃ j,j<m/\p j=false
    ·obtain⟨j,hj,hpj⟩:=h;exact ih j hj (by omega) hpj
    ·grind
  obtain⟨k,hk,hpk,hlt⟩:=key m hm.1 hm.2;rw[VQ f T k (λi hi=>hn i (by omega) (hlt i hi))];exact Ak (hf k hk hpk)
theorem all_range{n:Nat}{p:Nat->Bool}:(List.range n).all p=true↔∀ i,i<n->p i=true:=by
 grind
theorem Ap(i:Nat):((i:Int)).toNat=i:=Cp i
theorem w1{i:Nat}(h:i<4611686018427387904):w64 ((i:Int)+1)=((i+1:Nat):Int):=by rw[Em (by omega) (by omega)];omega
theorem B5{i n:Nat}(h:i<n):decide (((i:Nat):Int)<((n:Nat):Int))=true:=by simpa using h
theorem Dk{n:Nat}:decide (((n:Nat):Int)<((n:Nat):Int))=false:=by simp
theorem Ff{i n:Nat}(h:i<n):As ((i:Nat):Int) n:=Ag h
theorem zk{x:Int}{n:Nat}(h0:0<=x)(h1:x<n):As x n:=⟨h0,h1⟩
structure bx(o:A2):Prop where
 imm:0<=o.Imm/\o.Imm<18446744073709551616
 args:o.Args.length<=200
theorem hZ(x:Int×Int)(n:Int)(h:n=2\/n=4\/n=8\/n=16):B9 [x] n=some (List.replicate n.toNat x):=by
 let d:Int×Int:=(0,0)
 rcases h with rfl|rfl|rfl|rfl
 ·have e:B9 [x] 2=(Ad C7 (1,[x,d])).bind some:=by kernel_rfl
  rw[e,Ar (s':=(2,[x,x])) (by kernel_rfl)]
  rfl
 ·have e:B9 [x] 4=(Ad C7 (1,[x,d,d,d])).bind some:=by kernel_rfl
  rw[e,Ar (s':=(2,[x,x,d,d])) (by kernel_rfl),Ar (s':=(4,[x,x,x,x])) (by kernel_rfl)]
  rfl
 ·have e:B9 [x] 8=(Ad C7 (1,[x,d,d,d,d,d,d,d])).bind some:=by kernel_rfl
  rw[e,Ar (s':=(2,[x,x,d,d,d,d,d,d])) (by kernel_rfl),Ar (s':=(4,[x,x,x,x,d,d,d,d])) (by kernel_rfl),Ar (s':=(8,[x,x,x,x,x,x,x,x])) (by kernel_rfl)]
  rfl
 ·have e:B9 [x] 16=(Ad C7 (1,[x,d,d,d,d,d,d,d,d,d,d,d,d,d,d,d])).bind some:=by kernel_rfl
  rw[e,Ar (s':=(2,[x,x,d,d,d,d,d,d,d,d,d,d,d,d,d,d])) (by kernel_rfl),Ar (s':=(4,[x,x,x,x,d,d,d,d,d,d,d,d,d,d,d,d])) (by kernel_rfl),
   Ar (s':=(8,[x,x,x,x,x,x,x,x,d,d,d,d,d,d,d,d])) (by kernel_rfl),Ar (s':=(16,List.replicate 16 x)) (by kernel_rfl)]
  rfl
theorem pB(l:List (Int×Int)):Iz l=some l:=rfl
theorem QT(o:A2)(hs:X2 o.Bits o.Lanes=true)(hk:gQ o.Kind=true)(hf:sfitS o.Kind o.Bits o.Lanes=true):Ra o=some (Yr o):=by
 have hl:=shape_lanes hs;obtain⟨k,b,n,d,args,i⟩:=o;simp only at hs hk hf hl ⊢;rcases kinds k with rfl|rfl|rfl|rfl|rfl|rfl|rfl|rfl|rfl|rfl|rfl|rfl|rfl|rfl|rfl|rfl|rfl|rfl|rfl|rfl|rfl|rfl|rfl|h
 case inr.inr.inr.inr.inr.inr.inr.inr.inr.inr.inr.inr.inr.inr.inr.inr.inr.inr.inr.inr.inr.inl=>
  have h1:n≠1:=by rintro rfl;simp[sfitS]at hf
  have h4:n=2\/n=4\/n=8\/n=16:=by omega
  unfold Ra;simp only[hZ _ _ h4,pB];rcases h4 with rfl|rfl|rfl|rfl<;>rfl
 all_goals first
  | rfl
  | (rw[IA h]at hk;cases hk)
  | (rcases hl with rfl|rfl|rfl|rfl|rfl<;>first|rfl|(simp[sfitS]at hf))
theorem ae(o:A2)(hs:X2 o.Bits o.Lanes=true)(hk:gQ o.Kind=true)(hf:sfitS o.Kind o.Bits o.Lanes=true)(hl:o.Args.length<=200):Qx o=some (((o.Args.length:Int)==Re o.Kind o.Lanes)&&o.Args.all valS):=by
 unfold Qx;rw[QT o hs hk hf]
 have hn:0<=Re o.Kind o.Lanes:=by
  have:=shape_lanes hs;unfold Re
  cases(o.Kind==0)<;>cases(o.Kind==13 || o.Kind==18 || o.Kind==19)<;>cases(o.Kind==14 || o.Kind==15 || o.Kind==16 || o.Kind==22)<;>cases(o.Kind==20)<;>cases(o.Kind==21)<;>simp<;>omega
 have hlen:(Yr o).length=Re o.Kind o.Lanes:=by simp[Yr];omega
 simp only[Aj,hlen]
 by_cases he:o.Args.length=Re o.Kind o.Lanes
 ·have e1:(o.Args.length==Re o.Kind o.Lanes)=true:=by simpa using he
  have e2:(o.Args.length !=Re o.Kind o.Lanes)=false:=by simpa using he
  rw[e1,e2]
  have hloop:=G6 o.Args 0 valS (Kx o) (.inl ()) (.inr false) (λi hi hp=>by
    unfold Kx
    have:decide (i<(o.Args.length:Int))=true:=by simpa using hi
    simp only[this,Af,Aa (Ag hi),Cp,X1,Aj,hp,Dj,Aq,A0 hi (by omega)]) (λi hi hp=>by
    unfold Kx
    have:decide (i<(o.Args.length:Int))=true:=by simpa using hi
    simp only[this,Af,Aa (Ag hi),Cp,X1,Aj,hp,L0]) (by
    unfold Kx
    simp) o.Args.length 0 (by omega)
  rw[show 0=((0:Nat):Int) from rfl,hloop,L1]
  cases o.Args.all valS<;>rfl
 ·grind
theorem gB{k b n:Int}(hs:X2 b n=true):((GF k b n).1==0)=(k==17 || k==19):=by
 have hb:(b==0)=false:=by
  have:=width_cases (CM hs);simp;omega
 unfold GF
 cases(k==17 || k==19)<;>cases(k==10 || k==11 || k==12)<;>cases(k==22)<;>simp_all
theorem af(o:A2)(hs:X2 o.Bits o.Lanes=true):Qy o=some (dstS o.Kind o.Dst):=by
 unfold Qy;simp only[QR,Aj,gB hs,X1,dstS]
 cases(o.Kind==17 || o.Kind==19)<;>rfl
theorem QQ(o:A2)(ho:bx o):Sc o=some (Ju o):=by
 unfold Sc Ju;simp only[MP,gW,QS]
 cases hs:X2 _ _ with
 | false=>cases gQ _<;>rfl
 | true=>
  have hl:=shape_lanes hs
  cases hk:gQ _ with
  | false=>rfl
  | true=>
   rw[ah o (CM hs) (by omega) ho.imm];simp only[af o hs]
   cases hf:sfitS _ _ _ with
   | false=>rfl
   | true=>
    rw[ae o hs hk hf ho.args]
    generalize ifitS _ _ _ _=p
    generalize (o.Args.length==Re _ _)=q
    generalize o.Args.all _=r
    generalize dstS _ _=s
    cases p<;>cases q<;>cases r<;>cases s<;>rfl
theorem qC(o:A2):Ky o=some (bif gQ o.Kind then Re o.Kind o.Lanes else -1):=by
 obtain⟨k,b,n,d,args,i⟩:=o;rcases kinds k with rfl|rfl|rfl|rfl|rfl|rfl|rfl|rfl|rfl|rfl|rfl|rfl|rfl|rfl|rfl|rfl|rfl|rfl|rfl|rfl|rfl|rfl|rfl|h
 any_goals rfl
 unfold Ky;simp[gu h,IA h]
theorem bM(o:A2)(ho:bx o):Gr o=some (Ju o):=by
 unfold Gr Ju;simp only[mI]
 cases hs:X2 o.Bits o.Lanes with
 | false=>rfl
 | true=>
  simp only[qC,Dj,Va,Af, Aj]
  cases hk:gQ o.Kind with
  | false=>
   grind
  | true=>
   simp only[Af];rw[qD o hs hk ho.imm]
   by_cases he:o.Args.length=Re o.Kind o.Lanes
   ·have e1:(o.Args.length==Re o.Kind o.Lanes)=true:=by simpa using he
    have e2:(Re o.Kind o.Lanes !=o.Args.length)=false:=by simpa using he.symm
    rw[e1,e2]
    have hloop:=G6 o.Args 0 valS (Gi o) (.inl ()) (.inr false) (λi hi hp=>by
      unfold Gi
      have:decide (i<(o.Args.length:Int))=true:=by simpa using hi
      simp only[this,Af,Aa (Ag hi),Cp,EE,Aj,hp,Dj,Aq,A0 hi (by have:=ho.args;omega)]) (λi hi hp=>by
      unfold Gi
      have:decide ((i:Int)<o.Args.length)=true:=by simpa using hi
      simp only[this,Af,Aa (Ag hi),Cp,EE,Aj,hp,L0]) (by
      unfold Gi
      simp) o.Args.length 0 (by omega)
    rw[show 0=((0:Nat):Int) from rfl,hloop,L1];simp only[EE, dstS]
    generalize sfitS o.Kind o.Bits o.Lanes=p
    generalize ifitS o.Kind o.Bits o.Lanes o.Imm=q
    generalize o.Args.all valS=r
    cases p<;>cases q<;>cases r<;>cases(o.Kind==17)<;>cases(o.Kind==19)<;>rfl
   ·grind
theorem an{o:A2}(h:Ju o=true):X2 o.Bits o.Lanes=true/\gQ o.Kind=true/\sfitS o.Kind o.Bits o.Lanes=true/\ifitS o.Kind o.Bits o.Lanes o.Imm=true/\(o.Args.length:Int)=Re o.Kind o.Lanes/\o.Args.all valS=true/\dstS o.Kind o.Dst=true:=by
 simp only[Ju,A1,zzL47]at h;exact⟨h.1.1,h.1.2.1.1.1,h.1.2.1.1.2,h.1.2.1.2,h.1.2.2,h.2.1,h.2.2⟩
theorem gX(o:A2)(ho:bx o):Qw o=some (bif Ju o then Yr o else[]):=by
 unfold Qw;rw[QQ o ho]
 cases hm:Ju o with
 | false=>rfl
 | true=>
  obtain⟨h1,h2,h3,_⟩:=an hm;simp only[QT o h1 h2 h3]
  rfl
theorem gV(o:A2)(ho:bx o):Qv o=some (bif Ju o then GF o.Kind o.Bits o.Lanes else(0,0)):=by
 unfold Qv;rw[QQ o ho];simp only[ QR]
 cases Ju o<;>rfl
theorem mH(o:A2)(ho:bx o):G9 o=some (bif Ju o then GF o.Kind o.Bits o.Lanes else(0,0)):=by
 unfold G9;rw[bM o ho]
 cases hm:Ju o with
 | false=>rfl
 | true=>
  obtain⟨_,h2,_⟩:=an hm;obtain⟨k,b,n,d,args,i⟩:=o;rcases kinds k with rfl|rfl|rfl|rfl|rfl|rfl|rfl|rfl|rfl|rfl|rfl|rfl|rfl|rfl|rfl|rfl|rfl|rfl|rfl|rfl|rfl|rfl|rfl|h
  any_goals rfl
  rw[IA h]at h2;cases h2
theorem mJ(o:A2)(ho:bx o):Ha o=some (bif Ju o then Yr o else[]):=by
 unfold Ha;rw[bM o ho]
 cases hm:Ju o with
 | false=>rfl
 | true=>
  obtain⟨h1,h2,h3,h4,h5,_⟩:=an hm
  have hloop:=QX (X:=List (Int×Int)) o.Args.length (cn o) (Hw o) id (λl i hi hl=>by
   unfold Hw
   have e0:decide ((i:Int)<(o.Args.length:Int))=true:=by simpa using hi
   have e1:((i:Int)==0)=Nat.beq i 0:=by cases i<;>rfl
   have e2:((i:Int)==1)=Nat.beq i 1:=by
    rcases i with _|_|i
    ·rfl
    ·rfl
    ·have:¬ (((i+1+1:Nat):Int)=1):=by omega
     simp only[Nat.beq]
     simpa using this
   have hr:l.length+([cn o i]:List (Int×Int)).length<=room:=by have:=ho.args;simp[room];omega
   simp only[e0,e1,e2,Af];have e3 :=A0 hi (by have:=ho.args;omega);simp only[e3]
   have key:∀(x:Option (Int×Int)),x=some (cn o i)->(x.bind λx23=>Aw (l.length+([(x23.1,x23.2)]:List (Int×Int)).length<=room) (some (LR.next (l++([(x23.1,x23.2)]:List (Int×Int)),(i:Int)+1))))=(some (LR.next (l++[cn o i],(i:Int)+1)):Option (LR _ (List (Int×Int)))):=by
    rintro x rfl;exact Aa hr
   refine key _ ?_;clear key hr;obtain⟨k,b,n,d,args,im⟩:=o;rcases kinds k with rfl|rfl|rfl|rfl|rfl|rfl|rfl|rfl|rfl|rfl|rfl|rfl|rfl|rfl|rfl|rfl|rfl|rfl|rfl|rfl|rfl|rfl|rfl|h
   all_goals first
    | rfl
    | (rw[IA h]at h2;cases h2)
    | (rcases i with _|_|i<;>rfl)) (λl hl=>by
   unfold Hw
   simp) o.Args.length 0 [] (by omega) rfl
  rw[show(0:Int)=((0:Nat):Int) from rfl];simp only[Dj,Aq,hloop,Aj,id];rw[Yr,<- h5]
  rfl
theorem xj{n:Int}(h:(Lit.int .u64 n).wf=true):0<=n/\n<18446744073709551616:=by simp[Lit.wf,IntKind.min,IntKind.max,IntKind.bits,IntKind.signed]at h;omega
theorem wf_u8{n:Int}(h:(Lit.int .u8 n).wf=true):0<=n/\n<256:=by simp[Lit.wf,IntKind.min,IntKind.max,IntKind.bits,IntKind.signed]at h;omega
abbrev Iall(w:World):Nat->Nat->Prop:=λb o=>∃ u,w.cell? ⟨b,o,none⟩=some u
structure m5(w:World)(cs:List Value)(avs:List AV):Prop where
 len:cs.length=avs.length
 one:∀ j,j<avs.length->(cs.getD j undef).oneCell'=true
 rep:∀ j,j<avs.length->RepV (Iall w) w (cs.getD j undef) (avs.getD j .any)
structure Opens(P:Program)(t:TypeId){α:Type}(e:α->List AV)(ok:α->Prop):Prop where
 get:∀{H:Type} {enc:TypeId×Value->H} {w:World} {base:Nat} {spare:Nat->Bool} {held:Bool} {fuel:Nat} {cs:List Value} {x:DataW H×List MemPlace},
  DataW.trod enc P w base spare held fuel t cs=some x->∃ a,ok a/\m5 w cs (e a)
theorem QC{w:World}{v:Value}{x:AV}(h1:v.oneCell'=true)(h:RepV (Iall w) w v x):m5 w [v] [x]:=
 ⟨rfl,λj hj=>(by
   grind),λj hj=>(by
   grind)⟩
theorem LA{P:Program}{t:TypeId}{k:IntKind}{e:Int->List AV}(ht:P.underlying t=some (.int k))(he:∀ n,e n=[.int k n]):Opens P t e (λn=>(Lit.int k n).wf=true):=by
 refine⟨?_⟩;intro H enc w base spare held fuel cs x h;obtain⟨n,rfl,rfl,hw⟩:=DataW.trod_int ht h;exact⟨n,hw,by rw[he];exact QC rfl (.int _ _)⟩
theorem fu{w:World}{base:Nat}{a:Addr}{n:Nat}{cs:List Value}(h:w.cells? base a n=some cs):cs.length=n/\∀ i,i<n->w.cell? (a.add i)=some (cs.getD i undef):=by
 unfold World.cells? at h
 split at h
 ·have hl:=mapM_some_length h;simp at hl;refine⟨hl,λi hi=>?_⟩;have:=mapM_some_get h i i (by simp[hi]);rw[this];simp[ show i<cs.length by omega]
 ·cases h
theorem Vw{P:Program}{t el:TypeId}{α:Type}{e:α->List AV}{ok:α->Prop}{sz:Nat}{d:α}{e':List α->List AV}(ht:P.underlying t=some (.slice el))(hs:P.cellsOf el=sz)(h1:1<=sz)(he:Opens P el e ok)(hlen:∀ a,(e a).length=sz)
  (he':∀ l,e' l=[AV.list sz e d l .none]):Opens P t e' (λl=>(∀ a∈l,ok a)/\l.length<=maxLen):=by
 refine⟨?_⟩;intro H enc w base spare held fuel cs x h;rcases DataW.trod_slice ht h with⟨rfl,rfl⟩|⟨a,len,cap,elems,rest,n,_,rfl,rfl,hb,hl,hm,hlen2,hel,_⟩
 ·exact⟨[],⟨by simp,by simp⟩,by rw[he'];exact QC rfl (.slice none 0 0 sz _ (λ_=>undef) (zzL8 _) (by simp) (λh=>by simp at h) (λ_=>rfl) (λj hj=>by simp at hj) (λi hi=>by simp at hi) (λi c hi=>by simp at hi))⟩
 ·have each:∀ i:Fin len,∃ b,ok b/\∃ cs,w.cells? base (a.add (i.1*sz)) sz=some cs/\m5 w cs (e b):=λ⟨i,hi⟩=>by
   have:=hel i hi;rw[hs,NM (by omega),zzL102]at this;obtain⟨cs,hcs,htr⟩:=this;obtain⟨b,hb,hr⟩:=he.get htr;exact⟨b,hb,cs,hcs,hr⟩
  let f:Fin len->α:=λi=>(each i).choose
  have hf:∀ i,ok (f i)/\∃ cs,w.cells? base (a.add (i.1*sz)) sz=some cs/\m5 w cs (e (f i)):=λi=>(each i).choose_spec
  have hlf:(List.ofFn f).length=len:=by simp
  refine⟨List.ofFn f,⟨λb hb=>?_,by simp;omega⟩,?_⟩
  ·obtain⟨i,rfl⟩:=List.mem_ofFn.1 hb;exact(hf i).1
  rw[he'];refine QC rfl ?_
  have hcell0:∀ i (hi:i<len),∀ c,c<sz->∃ u,w.cell? ((a.add (i*sz)).add c)=some u/\u.oneCell'=true/\RepV (Iall w) w u ((e (f ⟨i,hi⟩)).getD c .any):=λi hi c hc=>by
   obtain⟨_,cs,hcs,hr⟩:=hf ⟨i,hi⟩;obtain⟨hl,hg⟩:=fu hcs;exact⟨_,hg c hc,hr.one c (by rw[hlen];exact hc),hr.rep c (by rw[hlen];exact hc)⟩
  have hspot:0<len->a.spot=none:=λhp=>by
   obtain⟨u,hu,_⟩:=hcell0 0 hp 0 h1;have h2:=World.cell?_spot hu
   simpa [Addr.add] using h2
  have hcell:∀ i (hi:i<len),∀ c,c<sz->∃ u,w.cell? ⟨a.block,a.off+(i*sz+c),none⟩=some u/\u.oneCell'=true/\RepV (Iall w) w u ((e (f ⟨i,hi⟩)).getD c .any):=λi hi c hc=>by
   obtain⟨u,hu,h1,h2⟩:=hcell0 i hi c hc;have hsp:=hspot (by omega);rw[Np hsp,R3]at hu;exact⟨u,by rw[<- FO];exact hu,h1,h2⟩
  have hdm:∀ j,j<len*sz->∃ i c,i<len/\c<sz/\j=i*sz+c:=λj hj=>by
   refine⟨j / sz,j % sz,(TG (by omega)).2 hj,Yv _ (by omega),?_⟩;rw[Yu];exact(NP j sz).symm
  unfold AV.list;rw[hlf];refine .slice (some a) len cap sz _ (λj=>(w.cell? ⟨a.block,a.off+j,none⟩).getD undef) hl hm (λhp=>⟨a,rfl,hspot hp,λj hj=>?_,λj hj=>?_⟩) (λh=>by cases h) (λj hj=>?_) (λi hi=>hlen _) (λi c hi hc=>?_)
  ·obtain⟨i,c,hi,hc,rfl⟩:=hdm j hj;obtain⟨u,hu,_⟩:=hcell i hi c hc;exact⟨u,hu⟩
  ·obtain⟨i,c,hi,hc,rfl⟩:=hdm j hj;obtain⟨u,hu,_⟩:=hcell i hi c hc;rw[hu];rfl
  ·obtain⟨i,c,hi,hc,rfl⟩:=hdm j hj;obtain⟨u,hu,h1,_⟩:=hcell i hi c hc;simp only[hu];exact h1
  ·grind
structure ZE(P:Program)(fs:List Field)(off N:Nat){α:Type}(e:α->List AV)(ok:α->Prop):Prop where
 get:∀{H:Type} {enc:TypeId×Value->H} {w:World} {base:Nat} {spare:Nat->Bool} {held:Bool} {n:Nat} {cs:List Value},cs.length=N->
  (∀ f∈fs,∃ x,DataW.trod enc P w base spare held n f.type ((cs.drop f.offset).take (P.cellsOf f.type))=some x)->∃ a,ok a/\m5 w (cs.drop off) (e a)
theorem Uu{P:Program}{N:Nat}:ZE P [] N N (λ_:Unit=>[]) (λ_=>True):=by
 refine⟨?_⟩;intro H enc w base spare held n cs hN _;rw[List.drop_eq_nil_of_le (by omega)];exact⟨(),trivial,rfl,(λj hj=>by simp at hj),(λj hj=>by simp at hj)⟩
theorem Cm{P:Program}{f:Field}{fs:List Field}{off sz N:Nat}{α β:Type}{e:α->List AV}{ok:α->Prop}{e':β->List AV}{ok':β->Prop}(hoff:f.offset=off)(hsz:P.cellsOf f.type=sz)(hle:off+sz<=N)
  (h:Opens P f.type e ok) (h':ZE P fs (off+sz) N e' ok'):ZE P (f::fs) off N (λp:α×β=>e p.1++e' p.2) (λp=>ok p.1/\ok' p.2):=by
 refine⟨?_⟩;intro H enc w base spare held n cs hN hall;obtain⟨x,hx⟩:=hall f (by simp);rw[hoff,hsz]at hx;obtain⟨a,ha,hr⟩:=h.get hx;obtain⟨b,hb,hr'⟩:=h'.get hN (λg hg=>hall g (by simp[hg]))
 have hl:(e a).length=sz:=by rw[<- hr.len];simp;omega
 have hl':(e' b).length=N-(off+sz):=by rw[<- hr'.len];simp;omega
 have hsplit:cs.drop off=(cs.drop off).take sz++cs.drop (off+sz):=by rw[<- List.drop_drop];exact(List.take_append_drop sz _).symm
 have hl2:((cs.drop off).take sz).length=sz:=by simp;omega
 refine⟨(a,b),⟨ha,hb⟩,?_,λj hj=>?_,λj hj=>?_⟩
 ·simp[hl,hl'];omega
 ·rw[hsplit];replace hj:j<(e a++e' b).length:=hj
  show _
  by_cases hlt:j<sz
  ·have:=hr.one j (by omega);rwa[List.getD,V0 (by omega)]
  ·have:=hr'.one (j-sz) (by simp at hj;omega);rwa[List.getD,U8 (by omega),hl2]
 ·rw[hsplit];replace hj:j<(e a++e' b).length:=hj
  show RepV (Iall w) w _ ((e a++e' b).getD j .any)
  by_cases hlt:j<sz
  ·have:=hr.rep j (by omega);rwa[List.getD,V0 (by omega),List.getD,V0 (by omega)]
  ·have:=hr'.rep (j-sz) (by simp at hj;omega);rwa[List.getD,U8 (by omega),hl2,List.getD,U8 (by omega),hl]
theorem Ri{P:Program}{t:TypeId}{fs:Array Field}{N:Nat}{α:Type}{e:α->List AV}{ok:α->Prop}(ht:P.underlying t=some (.struct fs))(hN:P.cellsOf t=N)(h:ZE P fs.toList 0 N e ok):Opens P t e ok:=by
 refine⟨?_⟩;intro H enc w base spare held fuel cs x hx;obtain⟨xs,n,_,_,hl,hxl,hall⟩:=DataW.trod_struct ht hx
 have:=h.get  (hl.trans hN)      (λf hf=>by
  obtain⟨i,hi,rfl⟩:=List.mem_iff_getElem.1 hf
  have hi' :=by simpa using hi
  have:=hall i fs.toList[i] (by simp[hi']);rw[NM (by omega)]at this
  exact⟨_,this⟩)
 simpa using this
theorem Opens.to{P:Program}{t:TypeId}{α β:Type}{e:α->List AV}{ok:α->Prop}(h:Opens P t e ok){e':β->List AV}{ok':β->Prop}(g:α->β)(he:∀ a,e' (g a)=e a)(hok:∀ a,ok a->ok' (g a)):Opens P t e' ok':=by
 refine⟨?_⟩;intro H enc w base spare held fuel cs x hx;obtain⟨a,ha,hr⟩:=h.get hx;exact⟨g a,hok a ha,by rw[he];exact hr⟩
theorem arg_one{P:Program}{t:TypeId}{α:Type}{e:α->List AV}{ok:α->Prop}(h:Opens P t e ok){x:α->AV}(he:∀ a,e a=[x a]){H:Type}{enc:TypeId×Value->H}{w:World}{base:Nat}{spare:Nat->Bool}{held:Bool}{v:Value}{d:DataW H}{ps:List MemPlace}
  (hv:v.cells = #[v]) (hd:DataW.Trod enc P w base spare held t v d ps):∃ a,ok a/\RepV (Iall w) w v (x a):=by
 obtain⟨fuel,hf⟩:=hd;obtain⟨a,ha,hr⟩:=h.get hf;refine⟨a,ha,?_⟩;have:=hr.rep 0 (by simp[he])
 simpa [hv,he] using this
theorem arg_agg{P:Program}{t:TypeId}{α:Type}{e:α->List AV}{ok:α->Prop}(h:Opens P t e ok){H:Type}{enc:TypeId×Value->H}{w:World}{base:Nat}{spare:Nat->Bool}{held:Bool}{cs:Array Value}{d:DataW H}{ps:List MemPlace}
  (hd:DataW.Trod enc P w base spare held t (.agg cs) d ps):∃ a,ok a/\RepV (Iall w) w (.agg cs) (.agg (e a)):=by
 obtain⟨fuel,hf⟩:=hd;obtain⟨a,ha,hr⟩:=h.get hf;have e1:(Value.agg cs).cells.toList=cs.toList:=rfl;rw[e1]at hr
 have e2:∀ j,cs.toList.getD j undef=cs.getD j undef:=λj=>by simp_all
 refine⟨a,ha,.agg _ _ (by simpa using hr.len) (λj hj=>?_) (λj hj=>?_)⟩
 ·rw[<- e2];exact hr.one j hj
 ·rw[<- e2];exact hr.rep j hj
def BP(n:Int):Prop:=(Lit.int .i64 n).wf=true
theorem WD:Opens Tryz.prog 3 An BP:=LA Tryz.underlying3 (λ_=>rfl)
def KQ(l:List (Int)):Prop:=(∀ a∈l,BP a)/\l.length<=maxLen
theorem dp:Opens Tryz.prog 22 Km KQ:=Vw (d:=(0:Int)) Tryz.underlying22 (by kernel_rfl) (by decide) WD (λ_=>rfl) (λ_=>rfl)
def pg(a:Bh):Prop:=BP a.Bits/\BP a.Dst/\KQ a.From/\KQ a.Args/\True
theorem Aag:Opens Tryz.prog 56 Gu pg:=Opens.to (Ri (N:=4) Tryz.underlying56 (by kernel_rfl) (Cm (off:=0) (sz:=1) (N:=4) rfl (by kernel_rfl) (by decide) WD (Cm (off:=1) (sz:=1) (N:=4) rfl (by kernel_rfl) (by decide) WD (Cm (off:=2) (sz:=1) (N:=4) rfl (by kernel_rfl) (by decide) dp (Cm (off:=3) (sz:=1) (N:=4) rfl (by kernel_rfl) (by decide) dp Uu))))) (λp=>⟨p.1,p.2.1,p.2.2.1,p.2.2.2.1⟩) (λ_=>rfl) (λ_ h=>h)
def jt(l:List (Bh)):Prop:=(∀ a∈l,pg a)/\l.length<=maxLen
theorem Aab:Opens Tryz.prog 44 xC jt:=Vw (d:=(default:Bh)) Tryz.underlying44 (by kernel_rfl) (by decide) Aag (λ_=>rfl) (λ_=>rfl)
def ve(n:Int):Prop:=(Lit.int .u64 n).wf=true
theorem Aae:Opens Tryz.prog 49 Abj ve:=LA Tryz.underlying49 (λ_=>rfl)
def vd(a:A2):Prop:=BP a.Kind/\BP a.Bits/\BP a.Lanes/\BP a.Dst/\KQ a.Args/\ve a.Imm/\True
theorem Aaf:Opens Tryz.prog 51 Kf vd:=Opens.to (Ri (N:=6) Tryz.underlying51 (by kernel_rfl) (Cm (off:=0) (sz:=1) (N:=6) rfl (by kernel_rfl) (by decide) WD (Cm (off:=1) (sz:=1) (N:=6) rfl (by kernel_rfl) (by decide) WD (Cm (off:=2) (sz:=1) (N:=6) rfl (by kernel_rfl) (by decide) WD (Cm (off:=3) (sz:=1) (N:=6) rfl (by kernel_rfl) (by decide) WD (Cm (off:=4) (sz:=1) (N:=6) rfl (by kernel_rfl) (by decide) dp (Cm (off:=5) (sz:=1) (N:=6) rfl (by kernel_rfl) (by decide) Aae Uu))))))) (λp=>⟨p.1,p.2.1,p.2.2.1,p.2.2.2.1,p.2.2.2.2.1,p.2.2.2.2.2.1⟩) (λ_=>rfl) (λ_ h=>h)
def pc(l:List (A2)):Prop:=(∀ a∈l,vd a)/\l.length<=maxLen
theorem Aaa:Opens Tryz.prog 39 zh pc:=Vw (d:=(default:A2)) Tryz.underlying39 (by kernel_rfl) (by decide) Aaf (λ_=>rfl) (λ_=>rfl)
def pf(a:Jo):Prop:=BP a.Kind/\BP a.Arg/\KQ a.To/\True
theorem Aac:Opens Tryz.prog 46 ja pf:=Opens.to (Ri (N:=3) Tryz.underlying46 (by kernel_rfl) (Cm (off:=0) (sz:=1) (N:=3) rfl (by kernel_rfl) (by decide) WD (Cm (off:=1) (sz:=1) (N:=3) rfl (by kernel_rfl) (by decide) WD (Cm (off:=2) (sz:=1) (N:=3) rfl (by kernel_rfl) (by decide) dp Uu)))) (λp=>⟨p.1,p.2.1,p.2.2.1⟩) (λ_=>rfl) (λ_ h=>h)
def db(a:Ab):Prop:=jt a.Phis/\pc a.Ops/\pf a.End/\True
theorem Aad:Opens Tryz.prog 48 Be db:=Opens.to (Ri (N:=5) Tryz.underlying48 (by kernel_rfl) (Cm (off:=0) (sz:=1) (N:=5) rfl (by kernel_rfl) (by decide) Aab (Cm (off:=1) (sz:=1) (N:=5) rfl (by kernel_rfl) (by decide) Aaa (Cm (off:=2) (sz:=3) (N:=5) rfl (by kernel_rfl) (by decide) Aac Uu)))) (λp=>⟨p.1,p.2.1,p.2.2.1⟩) (λ_=>rfl) (λ_ h=>h)
def XW(l:List (Ab)):Prop:=(∀ a∈l,db a)/\l.length<=maxLen
theorem z8:Opens Tryz.prog 23 od XW:=Vw (d:=(default:Ab)) Tryz.underlying23 (by kernel_rfl) (by decide) Aad (λ_=>rfl) (λ_=>rfl)
def okTFunc(a:TFunc):Prop:=KQ a.Params/\BP a.Ret/\XW a.Blocks/\True
theorem op_25:Opens Tryz.prog 25 eTFunc okTFunc:=Opens.to (Ri (N:=3) Tryz.underlying25 (by kernel_rfl) (Cm (off:=0) (sz:=1) (N:=3) rfl (by kernel_rfl) (by decide) dp (Cm (off:=1) (sz:=1) (N:=3) rfl (by kernel_rfl) (by decide) WD (Cm (off:=2) (sz:=1) (N:=3) rfl (by kernel_rfl) (by decide) z8 Uu)))) (λp=>⟨p.1,p.2.1,p.2.2.1⟩) (λ_=>rfl) (λ_ h=>h)
def okU8(n:Int):Prop:=(Lit.int .u8 n).wf=true
theorem op_5:Opens Tryz.prog 5 Wx okU8:=LA Tryz.underlying5 (λ_=>rfl)
def numB(n:Int):Bool:=decide (0<=n)&&decide (n<=2147483647)
def listB(l:List Int):Bool:=l.all numB&&decide (l.length<=64)
def AJ(p:Bh):Bool:=numB p.Bits&&numB p.Dst&&listB p.From&&listB p.Args
def bH(o:A2):Bool:=numB o.Kind&&numB o.Bits&&numB o.Lanes&&numB o.Dst&&listB o.Args
def VJ(e:Jo):Bool:=numB e.Kind&&numB e.Arg&&listB e.To
def blockB(b:Ab):Bool:=b.Phis.all AJ&&b.Ops.all bH&&VJ b.End
def Uz(b:Ab):Nat:=b.Phis.length+b.Ops.length+1
def Ry(f:TFunc):Nat:=(f.Blocks.map Uz).sum
def sizeW(f:TFunc):Int:=w64 (Ry f)
def Qd(f:TFunc):Bool:=decide (1<=f.Blocks.length)&&decide (f.Blocks.length<=64)&&decide (f.Params.length<=16)&&listB f.Params&&numB f.Ret&&decide (sizeW f<=512)&&f.Blocks.all blockB
def cq(p:Bh):Nat:=1+p.From.length+p.Args.length
def cp(o:A2):Nat:=1+o.Args.length
def VK(b:Ab):Nat:=1+b.End.To.length+(b.Phis.map cq).sum+(b.Ops.map cp).sum
def f8(f:TFunc):Nat:=f.Params.length+(f.Blocks.map VK).sum
theorem T9:maxLen=9223372036854775807:=rfl
structure US(f:TFunc):Prop where
 params:f.Params.length<=maxLen
 blocks:f.Blocks.length<=maxLen
 block:∀ b∈f.Blocks,b.Phis.length<=maxLen/\b.Ops.length<=maxLen/\b.End.To.length<=maxLen
 phi:∀ b∈f.Blocks,∀ p∈b.Phis,p.From.length<=maxLen/\p.Args.length<=maxLen
 op:∀ b∈f.Blocks,∀ o∈b.Ops,o.Args.length<=maxLen/\0<=o.Imm/\o.Imm<18446744073709551616
theorem inF{f:TFunc}(h:okTFunc f):US f:=
 ⟨h.1.2,h.2.2.1.2,λb hb=>⟨(h.2.2.1.1 b hb).1.2,(h.2.2.1.1 b hb).2.1.2,(h.2.2.1.1 b hb).2.2.1.2.2.1.2⟩,λb hb p hp=>⟨((h.2.2.1.1 b hb).1.1 p hp).2.2.1.2,((h.2.2.1.1 b hb).1.1 p hp).2.2.2.1.2⟩,
  λb hb o ho=>⟨((h.2.2.1.1 b hb).2.1.1 o ho).2.2.2.2.1.2,xj ((h.2.2.1.1 b hb).2.1.1 o ho).2.2.2.2.2.1⟩⟩
theorem JG{n:Nat}(h:n<9223372036854775808):w64 (n:Int)=n:=Em (by omega) (by omega)
theorem La{i n:Nat}(h:i<n)(hn:n<=maxLen):w64 ((i:Int)+1)=((i+1:Nat):Int):=by rw[T9]at hn;rw[show((i:Int)+1)=(i+1:Nat) by omega,JG (by omega)]
theorem SP(f:TFunc)(hf:US f):∃ b,Cx f=some b:=by
 have h3:∃ x,Ad (Ct f) (f.Params.length,(0:Nat))=some x:=by
  refine Ug f.Blocks.length _ (λn i hi=>?_) (λn=>?_) _ 0 _ (Hq _)
  ·have hmem:=Ai (d:=default) hi;obtain⟨b1,b2,_⟩:=hf.block _ hmem;have hI :=Ag hi;unfold Ct
   cases hc:(bif decide (i<(f.Blocks.length:Int)) then decide (n<=20000) else false) with
   | false=>right;simp only[hc];exact⟨_,rfl⟩
   | true=>
    left
    simp only[hc, Aa hI]
    obtain⟨x1,h1⟩:=Ug (f.Blocks.getD i default).Phis.length (Cr f i) (λn j hj=>by
      unfold Cr;simp only[Aa hI,Cp]
      cases hc:(bif decide (j<((f.Blocks.getD i default).Phis.length:Int)) then decide (n<=20000) else false) with
      | false=>grind
      | true=>left;simp only[ Aa (Ag hj),La hj b1];exact⟨_,rfl⟩) (λn=>by
      unfold Cr;simp only[Aa hI,Cp]
      have:decide ((f.Blocks.getD i default).Phis.length<((f.Blocks.getD i default).Phis.length:Int))=false:=by simp
      simp only[this];exact⟨_,rfl⟩) _ 0 (w64 (w64 (n+1)+(f.Blocks.getD i default).End.To.length)) (Hq _)
    obtain⟨x2,h2⟩:=Ug (f.Blocks.getD i default).Ops.length (Cs f i) (λn j hj=>by
      unfold Cs;simp only[Aa hI,Cp]
      cases hc:(bif decide (j<((f.Blocks.getD i default).Ops.length:Int)) then decide (n<=20000) else false) with
      | false=>grind
      | true=>left;simp only[ Aa (Ag hj),La hj b2];exact⟨_,rfl⟩) (λn=>by
      unfold Cs;simp only[Aa hI,Cp]
      have:decide ((f.Blocks.getD i default).Ops.length<((f.Blocks.getD i default).Ops.length:Int))=false:=by simp
      simp only[this];exact⟨_,rfl⟩) _ 0 x1 (Hq _)
    rw[show((0:Nat):Int)=0 from rfl]at h1 h2;simp only[Cp,h1,h2,Aj,La hi hf.blocks];exact⟨_,rfl⟩
  ·unfold Ct
   have:decide ((f.Blocks.length:Int)<(f.Blocks.length:Int))=false:=by simp
   simp only[this];exact⟨_,rfl⟩
 obtain⟨x,hx⟩:=h3;unfold Cx;rw[show((0:Nat):Int)=0 from rfl]at hx;rw[hx];exact⟨_,rfl⟩
theorem eM(f:TFunc)(hf:US f)(h0:f.Params.length<=64)(hb:∀ b∈f.Blocks,b.End.To.length<=64/\(∀ p∈b.Phis,p.From.length<=64/\p.Args.length<=64)/\∀ o∈b.Ops,o.Args.length<=64):Cx f=some (decide (f8 f<=20000)):=by
 have h3:=IE f.Blocks (default:Ab) VK 20000 (Ct f) (λn i hi hn=>by
   have hmem:=Ai (d:=(default:Ab)) hi;obtain⟨b1,b2,b3⟩:=hf.block _ hmem;obtain⟨hTo,hPh,hOp⟩:=hb _ hmem;have hI1:As (i:Int) f.Blocks.length:=Ag hi
   have l1:=IE (f.Blocks.getD i default).Phis (default:Bh) cq 20000 (Cr f i) (λn j hj hn=>by
     have hm:=Ai (d:=(default:Bh)) hj;obtain⟨p1,p2⟩:=hPh _ hm
     have e1:decide ((j:Int)<((f.Blocks.getD i default).Phis.length:Int))=true:=by simpa using hj
     have e2:decide ((n:Int)<=20000)=true:=by simp;omega
     refine⟨n+cq ((f.Blocks.getD i default).Phis.getD j default),?_,λ_=>rfl,λh=>h⟩;unfold Cr;simp only[Aa hI1,Cp,e1,e2,Af,Aa (Ag hj),La hj b1]
     congr 3
     rw[Em (n:=(n:Int)+1) (by omega) (by omega),Em (n:=(n:Int)+1+_) (by omega) (by omega),Em (by omega) (by omega)];simp only[cq]
     omega) (λn j hj hd=>by
     unfold Cr;simp only[Aa hI1,Cp]
     have:(bif decide ((j:Int)<((f.Blocks.getD i default).Phis.length:Int)) then decide ((n:Int)<=20000) else false)=false:=by
      rcases hd with rfl|h
      ·simp
      ·simp;omega
     rw[this];rfl)
   have l2:=IE (f.Blocks.getD i default).Ops (default:A2) cp 20000 (Cs f i) (λn j hj hn=>by
     have hm:=Ai (d:=(default:A2)) hj;have p1:=hOp _ hm
     have e1:decide ((j:Int)<((f.Blocks.getD i default).Ops.length:Int))=true:=by simpa using hj
     have e2:decide ((n:Int)<=20000)=true:=by simp;omega
     refine⟨n+cp ((f.Blocks.getD i default).Ops.getD j default),?_,λ_=>rfl,λh=>h⟩;unfold Cs;simp only[Aa hI1,Cp,e1,e2,Af,Aa (Ag hj),La hj b2]
     congr 3
     rw[Em (n:=(n:Int)+1) (by omega) (by omega),Em (by omega) (by omega)];simp only[cp]
     omega) (λn j hj hd=>by
     unfold Cs;simp only[Aa hI1,Cp]
     have:(bif decide ((j:Int)<((f.Blocks.getD i default).Ops.length:Int)) then decide ((n:Int)<=20000) else false)=false:=by
      rcases hd with rfl|h
      ·simp
      ·simp;omega
     rw[this];rfl)
   have e1:decide ((i:Int)<(f.Blocks.length:Int))=true:=by simpa using hi
   have e2:decide ((n:Int)<=20000)=true:=by simp;omega
   obtain⟨m1,q1,q2,q3⟩:=l1 _ 0 (n+1+(f.Blocks.getD i default).End.To.length) (Hq _);obtain⟨m2,q4,q5,q6⟩:=l2 _ 0 m1 (Hq _);rw[L1]at q2 q3 q5 q6;refine⟨m2,?_,λhle=>?_,λhle=>?_⟩
   ·unfold Ct;simp only[e1,e2,Af,Aa hI1,Cp,La hi hf.blocks];rw[Em (n:=(n:Int)+1) (by omega) (by omega),Em (by omega) (by omega),show(n:Int)+1+((f.Blocks.getD i default).End.To.length:Int)=((n+1+(f.Blocks.getD i default).End.To.length:Nat):Int) by omega];rw[show((0:Nat):Int)=0 from rfl]at q1 q4;rw[q1,Aj,q4,Aj]
   ·simp only[VK]at hle ⊢;have:=q2 (by omega);rw[q5 (by omega)];omega
   ·simp only[VK];have h6:=q6 hle;have h3:=q3 (by omega);have:=q2 h3
    omega) (λn i hi hd=>by
   unfold Ct
   have:(bif decide ((i:Int)<(f.Blocks.length:Int)) then decide ((n:Int)<=20000) else false)=false:=by
    rcases hd with rfl|h
    ·simp
    ·simp;omega
   simp only[this,Aq]) f.Blocks.length 0 f.Params.length (Hq _)
 obtain⟨m,h1,h2,h4⟩:=h3;rw[L1]at h2 h4;unfold Cx;rw[show((0:Nat):Int)=0 from rfl]at h1;rw[h1,Aj]
 congr 1
 apply zzL74.2
 simp only[f8]
 constructor
 ·intro h;exact h4 (by omega)
 ·intro h;have:=h2 h;omega
theorem Vx(n:Int):Bo n=some (numB n):=by unfold Bo numB;cases decide (0<=n)<;>rfl
theorem S1(l:List Int)(h:l.length<=maxLen):Dc l=some (listB l):=by
 unfold Dc;rw[T9]at h
 have hloop:=G6 l 0 numB (Fx l) (.inl ()) (.inr false) (λi hi hp=>by
   unfold Fx
   have:decide (i<(l.length:Int))=true:=by simpa using hi
   simp only[this,Af,Aa (Ag hi),Cp,Vx,Aj,hp,Dj,Aq,A0 hi (by omega)]) (λi hi hp=>by
   unfold Fx
   have:decide (i<(l.length:Int))=true:=by simpa using hi
   simp only[this,Af,Aa (Ag hi),Cp,Vx,Aj,hp,L0]) (by
   unfold Fx
   simp) l.length 0 (by omega)
 rw[show(0:Int)=(0:Nat) from rfl,hloop,L1];unfold listB
 have e:decide ((l.length:Int)<=64)=decide (l.length<=64):=by grind
 cases l.all _
 ·rfl
 ·simp[e]
theorem qM(f:TFunc)(hf:US f):Kz f=some (sizeW f):=by
 unfold Kz
 have hl:=DY _ default Uz id (Ij f) (λn i hi=>by
   have e1:decide ((i:Int)<f.Blocks.length)=true:=by simpa using hi
   unfold Ij;simp only[e1,Af,Aa (Ag hi),Cp,La hi hf.blocks]
   congr 3
   rw[Vz,Vz,Int.add_assoc _,Vz];unfold Uz
   congr 1
   omega) (λn=>by
   unfold Ij
   simp) _ 0 0 (Hq _)
 rw[show w64 _=0 from rfl,show((0:Nat):Int)=0 from rfl]at hl;rw[hl];simp[Ry,sizeW]
theorem WT{p q:Bool}:(bif p then true else q)=(p || q):=by cases p<;>rfl
theorem kC(f:TFunc)(hf:US f):Gs f=some (Qd f):=by
 have hloop:Ad (Eh f) ((0:Nat):Int)=some (bif (f.Blocks.drop 0).all blockB then .inl () else .inr false):=by
  have step:∀ i:Nat,i<f.Blocks.length->Eh f (i:Int)=bif blockB (f.Blocks.getD i default) then some (.next ((i:Int)+1)) else some (.done (.inr false)):=λi hi=>by
   have hmem:=Ai (d:=(default:Ab)) hi;obtain⟨b1,b2,b3⟩:=hf.block _ hmem;have hPh:=hf.phi _ hmem;have hOp:=hf.op _ hmem;have hM:=T9
   have e0:decide ((i:Int)<(f.Blocks.length:Int))=true:=by simpa using hi
   have l1:=G6 (f.Blocks.getD i default).Phis (default:Bh) AJ (Gj f i) (.inl ()) (.inr false) (λj hj hp=>by
     obtain⟨p1,p2⟩:=hPh _ (Ai (d:=(default:Bh)) hj)
     have e1:decide ((j:Int)<((f.Blocks.getD i default).Phis.length:Int))=true:=by simpa using hj
     unfold Gj;simp only[e1,Af,Cp,Aa (Ag hj),Vx,Aj,S1 _ p1,S1 _ p2,A0 hj (by omega)]
     revert hp
     unfold AJ
     cases numB ((f.Blocks.getD i default).Phis.getD j default).Bits<;>cases numB ((f.Blocks.getD i default).Phis.getD j default).Dst<;>cases listB ((f.Blocks.getD i default).Phis.getD j default).From<;>cases listB ((f.Blocks.getD i default).Phis.getD j default).Args<;>simp) (λj hj hp=>by
     obtain⟨p1,p2⟩:=hPh _ (Ai (d:=(default:Bh)) hj)
     have e1:decide ((j:Int)<((f.Blocks.getD i default).Phis.length:Int))=true:=by simpa using hj
     unfold Gj;simp only[e1,Af,Cp,Aa (Ag hj),Vx,Aj,S1 _ p1,S1 _ p2,A0 hj (by omega)]
     revert hp
     unfold AJ
     cases numB ((f.Blocks.getD i default).Phis.getD j default).Bits<;>cases numB ((f.Blocks.getD i default).Phis.getD j default).Dst<;>cases listB ((f.Blocks.getD i default).Phis.getD j default).From<;>cases listB ((f.Blocks.getD i default).Phis.getD j default).Args<;>simp) (by
     unfold Gj
     simp) _ 0 (Hq _)
   have l2:=G6 (f.Blocks.getD i default).Ops (default:A2) bH (Gk f i) (.inl ()) (.inr false) (λj hj hp=>by
     obtain⟨p1,_⟩:=hOp _ (Ai (d:=(default:A2)) hj)
     have e1:decide ((j:Int)<((f.Blocks.getD i default).Ops.length:Int))=true:=by simpa using hj
     unfold Gk;simp only[e1,Af,Cp,Aa (Ag hj),Vx,Aj,S1 _ p1,A0 hj (by omega)]
     revert hp
     unfold bH
     cases numB ((f.Blocks.getD i default).Ops.getD j default).Kind<;>cases numB ((f.Blocks.getD i default).Ops.getD j default).Bits<;>cases numB ((f.Blocks.getD i default).Ops.getD j default).Lanes<;>cases numB ((f.Blocks.getD i default).Ops.getD j default).Dst<;>cases listB ((f.Blocks.getD i default).Ops.getD j default).Args<;>simp) (λj hj hp=>by
     obtain⟨p1,_⟩:=hOp _ (Ai (d:=(default:A2)) hj)
     have e1:decide ((j:Int)<((f.Blocks.getD i default).Ops.length:Int))=true:=by simpa using hj
     unfold Gk;simp only[e1,Af,Cp,Aa (Ag hj),Vx,Aj,S1 _ p1,A0 hj (by omega)]
     revert hp
     unfold bH
     cases numB ((f.Blocks.getD i default).Ops.getD j default).Kind<;>cases numB ((f.Blocks.getD i default).Ops.getD j default).Bits<;>cases numB ((f.Blocks.getD i default).Ops.getD j default).Lanes<;>cases numB ((f.Blocks.getD i default).Ops.getD j default).Dst<;>cases listB ((f.Blocks.getD i default).Ops.getD j default).Args<;>simp) (by
     unfold Gk
     simp) _ 0 (Hq _)
   rw[show((0:Nat):Int)=0 from rfl,L1]at l1 l2;unfold Eh;simp only[e0,Af,Aa (Ag hi),l1,Aj];unfold blockB
   cases(f.Blocks.getD i default).Phis.all AJ with
   | false=>rfl
   | true=>
    simp only[Af,l2,Aj,Cp,Vx,S1 _ b3,A0 hi (by have:=hf.blocks;omega)]
    cases(f.Blocks.getD i default).Ops.all bH with
    | false=>rfl
    | true=>
     unfold VJ
     cases numB (f.Blocks.getD i default).End.Kind<;>cases numB (f.Blocks.getD i default).End.Arg<;>cases listB (f.Blocks.getD i default).End.To<;>rfl
  exact G6 f.Blocks (default:Ab) blockB (Eh f) (.inl ()) (.inr false) (λi hi hp=>by rw[step i hi,hp];rfl) (λi hi hp=>by rw[step i hi,hp];rfl) (by
   unfold Eh
   simp) _ 0 (Hq _)
 rw[show((0:Nat):Int)=0 from rfl,L1]at hloop;unfold Gs Qd;simp only[S1 _ hf.params,Vx,qM f hf,hloop]
 have e1:((f.Blocks.length:Int)==0) = !decide (1<=f.Blocks.length):=by
  rw[<- decide_not]
  by_cases h:f.Blocks.length=0
  ·simp[h]
  ·have h1:((f.Blocks.length:Int)==0)=false:=by simpa using h
   rw[h1];symm;apply Da;omega
 have e2:decide ((64:Int)<(f.Blocks.length:Int)) = !decide (f.Blocks.length<=64):=by rw[<- decide_not];apply zzL74.2;omega
 have e3:decide ((16:Int)<(f.Params.length:Int)) = !decide (f.Params.length<=16):=by rw[<- decide_not];apply zzL74.2;omega
 have e4:decide ((512:Int)<sizeW f) = !decide (sizeW f<=512):=by rw[<- decide_not];apply zzL74.2;omega
 rw[e1,e2,e3]
 generalize decide (1<=f.Blocks.length)=p1
 generalize decide (f.Blocks.length<=64)=p2
 generalize decide (f.Params.length<=16)=p3
 generalize listB f.Params=p4
 generalize numB f.Ret=p5
 cases p1 with
 | false=>simp
 | true=>cases p2 with
  | false=>simp
  | true=>cases p3 with
   | false=>simp
   | true=>cases p4 with
    | false=>simp
    | true=>cases p5 with
     | false=>simp
     | true=>
      simp only[Dj,Bool.or_self,Af,Aq,Va,Aj,e4]
      cases decide (sizeW f<=512) with
      | false=>simp
      | true=>cases f.Blocks.all blockB<;>simp
theorem numB_iff{n:Int}:numB n=true↔0<=n/\n<=2147483647:=by simp[numB]
theorem listB_iff{l:List Int}:listB l=true↔good31 l/\l.length<=64:=by
 simp[listB,good31,numB_iff]
def eW(n:Int):Prop:=0<=n/\n<18446744073709551616
structure OkB(b:Ab):Prop where
 may:blockB b=true
 phis:b.Phis.length<=512
 ops:b.Ops.length<=512
 imm:∀ o∈b.Ops,eW o.Imm
structure OkF(f:TFunc):Prop where
 params:listB f.Params=true
 few:f.Params.length<=16
 ret:numB f.Ret=true
 blocks:f.Blocks.length<=64
 block:∀ b∈f.Blocks,OkB b
theorem blockB_iff{b:Ab}:blockB b=true↔(∀ p∈b.Phis,AJ p=true)/\(∀ o∈b.Ops,bH o=true)/\VJ b.End=true:=by
 simp[blockB,and_assoc]
theorem bQ{α:Type}(l:List α)(g:α->Nat)(B:Nat)(h:∀ a∈l,g a<=B):(l.map g).sum<=l.length*B:=by
 induction l with
 | nil=>simp
 | cons a l ih=>
  have h1:=h a (by simp);have h2:=ih (λb hb=>h b (by simp[hb]));rw[Cb,List.sum_cons,R0,I6];omega
theorem qR{α:Type}(l:List α)(g k:α->Nat)(h:∀ a∈l,g a<=k a):(l.map g).sum<=(l.map k).sum:=by
 induction l with
 | nil=>simp
 | cons a l ih=>
  grind
theorem QV{α:Type}(l:List α)(g:α->Nat)(h:∀ a∈l,1<=g a):l.length<=(l.map g).sum:=by
 induction l with
 | nil=>simp
 | cons a l ih=>
  grind
theorem gi{α:Type}{l:List α}{a:α}(g:α->Nat)(h:a∈l):g a<=(l.map g).sum:=by
 induction l with
 | nil=>cases h
 | cons b l ih=>
  grind
theorem OkF.size{f:TFunc}(h:OkF f):Ry f<=65600/\sizeW f=Ry f:=by
 have:Ry f<=f.Blocks.length*1025:=bQ _ _ _ λb hb=>by
  have h1:=(h.block b hb).phis;have h2:=(h.block b hb).ops;simp only[Uz];omega
 have h2:=h.blocks
 have h3:Ry f<=65600:=by omega
 exact⟨h3,JG (by omega)⟩
theorem KO{f:TFunc}(h:Qd f=true):1<=f.Blocks.length/\f.Blocks.length<=64/\f.Params.length<=16/\listB f.Params=true/\numB f.Ret=true/\sizeW f<=512/\∀ b∈f.Blocks,blockB b=true:=by
 simp only[Qd,A1,Ds,zzL29]at h;exact⟨h.1.1.1.1.1.1,h.1.1.1.1.1.2,h.1.1.1.1.2,h.1.1.1.2,h.1.1.2,h.1.2,h.2⟩
theorem ls{f:TFunc}(h:Qd f=true):f.Params.length<=64/\∀ b∈f.Blocks,b.End.To.length<=64/\(∀ p∈b.Phis,p.From.length<=64/\p.Args.length<=64)/\∀ o∈b.Ops,o.Args.length<=64:=by
 obtain⟨_,_,h3,_,_,_,h7⟩:=KO h;refine⟨by omega,λb hb=>?_⟩;obtain⟨q1,q2,q3⟩:=blockB_iff.1 (h7 b hb);simp only[VJ,A1]at q3;refine⟨(listB_iff.1 q3.2).2,λp hp=>?_,λo ho=>?_⟩
 ·have:=q1 p hp;simp only[AJ,A1]at this;exact⟨(listB_iff.1 this.1.2).2,(listB_iff.1 this.2).2⟩
 ·have:=q2 o ho;simp only[bH,A1]at this;exact(listB_iff.1 this.2).2
theorem xR{f:TFunc}(hf:US f)(h:Qd f=true)(hs:f8 f<=20000):OkF f/\Ry f<=512:=by
 obtain⟨h1,h2,h3,h4,h5,h6,h7⟩:=KO h
 have hle:Ry f<=f8 f:=by
  have:Ry f<=(f.Blocks.map VK).sum:=qR _ _ _ λb hb=>by
   have q1:b.Phis.length<=(b.Phis.map cq).sum:=QV _ _ λp hp=>by simp only[cq];omega
   have q2:b.Ops.length<=(b.Ops.map cp).sum:=QV _ _ λp hp=>by simp only[cp];omega
   simp only[Uz,VK];omega
  simp only[f8];omega
 have hw:sizeW f=Ry f:=JG (by omega)
 have h512:Ry f<=512:=by omega
 refine⟨⟨h4,h3,h5,h2,λb hb=>?_⟩,h512⟩;have hb512:Uz b<=Ry f:=gi _ hb;simp only[Uz]at hb512;exact⟨h7 b hb,by omega,by omega,λo ho=>(hf.op b hb o ho).2⟩
theorem E2{n:Int}(h:numB n=true):eW n:=by have:=numB_iff.1 h;exact⟨this.1,by omega⟩
theorem NF(f:TFunc)(hf:US f):∃ sm,Cx f=some sm/\(sm=true->Qd f=true->OkF f/\Ry f<=512/\1<=f.Blocks.length):=by
 obtain⟨sm,h⟩:=SP f hf;refine⟨sm,h,λh1 h2=>?_⟩;obtain⟨q1,q2⟩:=ls h2;rw[eM f hf q1 q2]at h;obtain⟨r1,r2⟩:=xR hf h2 (by grind);exact⟨r1,r2,(KO h2).1⟩
def ID(l:Int):Int:=bif l==0 then 17 else bif l==1 then 20 else 22
def Rh(l:Int)(o:A2):Bool:=Ju o&&!decide (ID l<o.Kind)&&!(decide (l<2)&&decide (1<o.Lanes))
def Js(l:Int)(b:Ab):Bool:=(b.Phis.all λp=>widthB p.Bits)&&b.Ops.all (Rh l)
def U2(f:TFunc)(l:Int):Bool:=f.Params.all widthB&&f.Blocks.all (Js l)&&widthB f.Ret
theorem uY{m a b c:Bool}{x:Int}:(bif (bif (bif (!m) then true else a) then true else(bif b then c else false)) then(some (LR.done (Sum.inr false))) else some (LR.next x):Option (LR Int (Unit ⊕ Bool)))=some (bif (m&&!a&&!(b&&c)) then .next x else .done (.inr false)):=by
 grind
theorem mE{f:TFunc}(hf:OkF f){b:Ab}(hb:b∈f.Blocks){o:A2}(ho:o∈b.Ops):bx o:=by
 have h1:=hf.block b hb;have h2:=(blockB_iff.1 h1.may).2.1 o ho;simp only[bH,A1]at h2;exact⟨⟨(h1.imm o ho).1,(h1.imm o ho).2⟩,by have:=(listB_iff.1 h2.2).2;omega⟩
theorem uG{f:TFunc}(hf:OkF f)(l:Int):J9 f l=some (U2 f l):=by
 have hp:=G6 f.Params (0:Int) widthB (E8 f) (.inl ()) (.inr false) (λi hi hp=>by
   unfold E8
   have:decide ((i:Int)<(f.Params.length:Int))=true:=by simpa using hi
   simp only[this,Af,Aa (Ag hi),Cp,S0,Aj,hp,Dj,Aq,A0 hi (by have:=hf.few;omega)]) (λi hi hp=>by
   unfold E8
   have:decide ((i:Int)<(f.Params.length:Int))=true:=by simpa using hi
   simp only[this,Af,Aa (Ag hi),Cp,S0,Aj,hp,L0]) (by
   unfold E8;simp) f.Params.length 0 (by omega)
 have hb:=G6 f.Blocks (default:Ab) (Js l) (E9 f l) (.inl ()) (.inr false)
 have hphi:∀ i:Nat,i<f.Blocks.length->Ad (Dq f (i:Int)) (0:Int)=some _:=λi hi=>by
  have hB:=hf.block _ (Ai (d:=(default:Ab)) hi)
  have:=G6 (f.Blocks.getD i default).Phis (default:Bh) (λp=>widthB p.Bits) (Dq f (i:Int)) (.inl ()) (.inr false) (λj hj hp=>by
   unfold Dq
   have:decide ((j:Int)<((f.Blocks.getD i default).Phis.length:Int))=true:=by simpa using hj
   simp only[Aa (Ag hi),Cp,this,Af,Aa (Ag hj),S0,Aj,hp,Dj,Aq,A0 hj (by have:=hB.phis;omega)]) (λj hj hp=>by
   unfold Dq
   have:decide ((j:Int)<((f.Blocks.getD i default).Phis.length:Int))=true:=by simpa using hj
   simp only[Aa (Ag hi),Cp,this,Af,Aa (Ag hj),S0,Aj,hp,L0]) (by
   unfold Dq;simp[Aa (Ag hi)]) (f.Blocks.getD i default).Phis.length 0 (by omega)
  rw[show(0:Int)=((0:Nat):Int) from rfl,this,L1]
 have hops:∀ i:Nat,i<f.Blocks.length->Ad (Dr f l (i:Int)) (0:Int)=some _:=λi hi=>by
  have hmem:=Ai (d:=(default:Ab)) hi;have hB:=hf.block _ hmem
  have key:∀(j:Nat),j<(f.Blocks.getD i default).Ops.length->Dr f l (i:Int) (j:Int)=some (bif Rh l ((f.Blocks.getD i default).Ops.getD j default) then .next ((j:Int)+1) else .done (.inr false)):=λj hj=>by
   unfold Dr
   have hd:decide ((j:Int)<((f.Blocks.getD i default).Ops.length:Int))=true:=by simpa using hj
   have hok:=mE hf hmem (Ai (d:=(default:A2)) hj);simp only[Aa (Ag hi),Cp,hd,Af,Aa (Ag hj),A0 hj (by have:=hB.ops;omega)];unfold Rh ID;cases h1:(l==1)<;>cases h0:(l==0)<;>simp only[Af,Aq,Aj,bM _ hok,uY]
  have:=G6 (f.Blocks.getD i default).Ops (default:A2) (Rh l) (Dr f l (i:Int)) (.inl ()) (.inr false) (λj hj hp=>by rw[key j hj,hp];rfl) (λj hj hp=>by rw[key j hj,hp];rfl) (by
   unfold Dr;simp[Aa (Ag hi)]) (f.Blocks.getD i default).Ops.length 0 (by omega)
  rw[show(0:Int)=((0:Nat):Int) from rfl,this,L1]
 have hb':=hb (λi hi hp=>by
   unfold E9
   have:decide ((i:Int)<(f.Blocks.length:Int))=true:=by simpa using hi
   simp only[Js,A1]at hp
   simp only[this,Af,hphi i hi,hops i hi,hp.1,hp.2,Aj,A0 hi (by have:=hf.blocks;omega)]) (λi hi hp=>by
   unfold E9
   have:decide ((i:Int)<(f.Blocks.length:Int))=true:=by simpa using hi
   simp only[Js]at hp;simp only[this,Af,hphi i hi,hops i hi,Aj]
   cases h1:((f.Blocks.getD i default).Phis.all λp=>widthB p.Bits) with
   | false=>rfl
   | true=>grind) (by
   unfold E9;simp) f.Blocks.length 0 (by omega)
 unfold J9 U2;rw[show(0:Int)=((0:Nat):Int) from rfl,hp,hb',L1,L1]
 cases f.Params.all widthB<;>cases f.Blocks.all (Js l)<;>simp[S0]
theorem JE:room=1099511627776:=rfl
theorem Lu{β:Type}(n A C:Nat)(E:Nat->List β)(hE:∀ i,i<n->(E i).length<=C)(f:List β×Int->Option (LR (List β×Int) (List β)))
  (hn:∀(acc:List β) (i:Nat),i<n->acc.length<=A+i*C->f (acc,(i:Int))=some (.next (acc++E i,(i:Int)+1)))
  (hd:∀ acc:List β,f (acc,(n:Int))=some (.done acc)):∀(k i:Nat) (acc:List β),i+k=n->acc.length<=A+i*C->Ad f (acc,(i:Int))=some (acc++(List.range' i k).flatMap E)
 | 0,i,acc,h,_=>by
  obtain rfl:i=n:=by omega
  rw[Ak (hd acc)]
  simp
 | k+1,i,acc,h,hA=>by
  have hi:i<n:=by omega
  have h2:acc.length+C<=A+(i+1)*C:=by rw[I6];omega
  rw[Ar (hn acc i hi hA),show(i+1)=((i+1:Nat):Int) by omega,Lu n A C E hE f hn hd k _ _ (by omega) (by grind),CX,LL,U9]
theorem Jh{β:Type}(C:Nat)(E:Nat->List β):∀ l:List Nat,(∀ i∈l,(E i).length<=C)->(l.flatMap E).length<=l.length*C
 | [],_=>by simp
 | a::l,h=>by
  have h1:=h a (by simp);have h2:=Jh C E l (λi hi=>h i (by simp[hi]));rw[LL,Du,R0,I6];omega
def Ns(l:List Ce)(v:Int):Int:=match l.findIdx? (λd=>d.V==v) with|some i=>(i:Int)|none=>-1
theorem ak(l:List Ce)(v:Int)(hl:l.length<=1000000):Ea l v=some (Ns l v):=by
 have key:∀(k i:Nat),i+k=l.length->Ad (F2 l v) i=some (match(l.drop i).findIdx? (λd=>d.V==v) with|some j=>.inr (i+j:Nat)|none=>.inl ()):=by
  intro k
  induction k with
  | zero=>
   intro i h
   obtain rfl:i=l.length:=by omega
   rw[Ak (x:=.inl ()) (by unfold F2;simp)]
   simp
  | succ k ih=>
   intro i h
   have hi:i<l.length:=by omega
   have hdr:l.drop i=l.getD i default::l.drop (i+1):=by simp_all
   have hd:decide (i<(l.length:Int))=true:=by simpa using hi
   rw[hdr,List.findIdx?_cons]
   cases hb:(l.getD i _).V==v with
   | true=>
    rw[Ak (x:=.inr i) (by unfold F2;simp only[hd,Af,Aa (Ag hi),Cp,hb])]
    simp
   | false=>
    rw[Ar (s':=((i+1:Nat):Int)) (by unfold F2;simp only[hd, Aa (Ag hi),Cp,hb, A0 hi (by omega)];rfl),ih _ (by omega)]
    cases(l.drop _).findIdx? _ with
    | none=>simp
    | some j=>simp;omega
 unfold Ea Ns;rw[show 0=((0:Nat):Int) from rfl,key l.length 0 (by omega),L1]
 cases l.findIdx? _ with
 | none=>rfl
 | some j=>simp
def Pv(o:A2):Int×Int:=bif Ju o then GF o.Kind o.Bits o.Lanes else(0,0)
def Jg(o:A2):List (Int×Int):=bif Ju o then Yr o else[]
def Th(f:TFunc):List Ce:=(List.range f.Params.length).flatMap λ(i:Nat)=>[⟨(i:Int)+1,-1,0,(f.Params.getD i 0,1)⟩]
def Vm(b:Ab)(i:Nat):List Ce:=(List.range b.Phis.length).flatMap λ(k:Nat)=>[⟨(b.Phis.getD k default).Dst,i,-1,((b.Phis.getD k default).Bits,1)⟩]
def GE(b:Ab)(i:Nat):List Ce:=(List.range b.Ops.length).flatMap λ(k:Nat)=>bif decide (0<(Pv (b.Ops.getD k default)).1) then[⟨(b.Ops.getD k default).Dst,i,k,Pv (b.Ops.getD k default)⟩] else[]
def Ue(b:Ab)(i:Nat):List Ce:=Vm b i++GE b i
def Bi(f:TFunc):List Ce:=Th f++(List.range f.Blocks.length).flatMap λi=>Ue (f.Blocks.getD i default) i
theorem MH(b:Ab)(i:Nat):(Vm b i).length<=b.Phis.length:=by
 have:=Jh 1 (λk=>[(⟨(b.Phis.getD k default).Dst,i,-1,((b.Phis.getD k default).Bits,1)⟩:Ce)]) (List.range b.Phis.length) (λ_ _=>zzL8 _)
 simpa [Vm] using this
theorem f7(b:Ab)(i:Nat):(GE b i).length<=b.Ops.length:=by
 have:=Jh 1 (λk=>bif decide (0<(Pv (b.Ops.getD k default)).1) then[(⟨(b.Ops.getD k default).Dst,i,k,Pv (b.Ops.getD k default)⟩:Ce)] else[]) (List.range b.Ops.length) (λk _=>by grind)
 simpa [GE] using this
theorem WY{f:TFunc}(hf:OkF f){i:Nat}(hi:i<f.Blocks.length):(Ue (f.Blocks.getD i default) i).length<=1024:=by
 have hB:=hf.block _ (Ai (d:=default) hi);have h1:=MH (f.Blocks.getD i default) i;have h2:=f7 (f.Blocks.getD i default) i;have h3:=hB.phis;have h4:=hB.ops;rw[Ue,Du];omega
theorem DR(f:TFunc):(Th f).length=f.Params.length:=by
 have h:∀ l:List Nat,(l.map λ_=>1).sum=l.length:=λl=>by induction l with|nil=>rfl|cons a l ih=>simp[ih];omega
 simp[Th, h]
theorem lV{f:TFunc}(hf:OkF f):(Bi f).length<=100000:=by
 have h1:=Jh _ _ (List.range _) (λi hi=>WY hf (by simpa using hi));have h2:=DR f;have h3:=hf.few;have h4:=hf.blocks;rw[Xg]at h1;rw[Bi,Du];omega
theorem xL{f:TFunc}(hf:OkF f):K3 f=some (Bi f):=by
 have hp:=Lu f.Params.length 0 1 (λ(i:Nat)=>[(⟨(i:Int)+1,-1,0,(f.Params.getD i 0,1)⟩:Ce)]) (λ_ _=>zzL8 _) (Io f) (λacc i hi hA=>by
   unfold Io
   have hd:decide ((i:Int)<(f.Params.length:Int))=true:=by simpa using hi
   have hr:acc.length+([(⟨(i:Int)+1,(-1:Int),(0:Int),((f.Params.getD i 0),(1:Int))⟩:Ce)]:List (Ce)).length<=room:=by have:=hf.few;rw[JE];simp;omega
   simp only[hd,Af,Aa (Ag hi),Cp,A0 hi (by have:=hf.few;omega),Aa hr]) (λacc=>by unfold Io;simp) f.Params.length 0 [] (by omega) (by simp)
 have hphi:∀(i:Nat),i<f.Blocks.length->∀ acc:List Ce,acc.length<=100000->Ad (F0 f (i:Int)) (acc,(0:Int))=some (acc++Vm (f.Blocks.getD i default) i):=λi hi acc hacc=>by
  have hB:=hf.block _ (Ai (d:=(default:Ab)) hi)
  have:=Lu (f.Blocks.getD i default).Phis.length 100000 1 (λ(k:Nat)=>[(⟨((f.Blocks.getD i default).Phis.getD k default).Dst,i,-1,(((f.Blocks.getD i default).Phis.getD k default).Bits,1)⟩:Ce)]) (λ_ _=>zzL8 _) (F0 f (i:Int)) (λacc k hk hA=>by
   unfold F0
   have hd:decide ((k:Int)<((f.Blocks.getD i default).Phis.length:Int))=true:=by simpa using hk
   have hr:∀ x:Ce,acc.length+([x]:List Ce).length<=room:=λx=>by have:=hB.phis;rw[JE];simp;omega
   simp only[Cp,hd,Af,Aa (Ag hk),A0 hk (by have:=hB.phis;omega),Aa (hr _)]) (λacc=>by unfold F0;simp) (f.Blocks.getD i default).Phis.length 0 acc (by omega) (by omega)
  rw[show(0:Int)=((0:Nat):Int) from rfl,this,Vm,P9]
 have hop:∀(i:Nat),i<f.Blocks.length->∀ acc:List Ce,acc.length<=100000->Ad (F1 f (i:Int)) (acc,(0:Int))=some (acc++GE (f.Blocks.getD i default) i):=λi hi acc hacc=>by
  have hmem:=Ai (d:=(default:Ab)) hi;have hB:=hf.block _ hmem
  have:=Lu (f.Blocks.getD i default).Ops.length 100000 1 (λ(k:Nat)=>bif decide (0<(Pv ((f.Blocks.getD i default).Ops.getD k default)).1) then[(⟨((f.Blocks.getD i default).Ops.getD k default).Dst,i,k,Pv ((f.Blocks.getD i default).Ops.getD k default)⟩:Ce)] else[]) (λk _=>by grind) (F1 f (i:Int)) (λacc k hk hA=>by
   unfold F1;have hok:=mE hf hmem (Ai (d:=(default:A2)) hk)
   have hd:decide ((k:Int)<((f.Blocks.getD i default).Ops.length:Int))=true:=by simpa using hk
   have hr:∀ x:Ce,acc.length+([x]:List Ce).length<=room:=λx=>by have:=hB.ops;rw[JE];simp;omega
   have hg:G9 ((f.Blocks.getD i default).Ops.getD k default)=some (Pv ((f.Blocks.getD i default).Ops.getD k default)):=mH _ hok;simp only[Cp,hd,Af,Aa (Ag hk),hg,Aj,A0 hk (by have:=hB.ops;omega),Aa (hr _)]
   cases decide (0<(Pv ((f.Blocks.getD i default).Ops.getD k default)).1)<;>simp) (λacc=>by unfold F1;simp) (f.Blocks.getD i default).Ops.length 0 acc (by omega) (by omega)
  rw[show(0:Int)=((0:Nat):Int) from rfl,this,GE,P9]
 have hb:=Lu f.Blocks.length 16 1024 (λi=>Ue (f.Blocks.getD i default) i) (λi hi=>WY hf hi) (Ip f) (λacc i hi hA=>by
   unfold Ip
   have hd:decide ((i:Int)<(f.Blocks.length:Int))=true:=by simpa using hi
   have hB:=hf.block _ (Ai (d:=(default:Ab)) hi);have h64:=hf.blocks;have h2:=MH (f.Blocks.getD i default) i;have h3:=hB.phis
   simp only[hd,Af,Aa (Ag hi),hphi i hi acc (by omega),Aj,hop i hi (acc++Vm (f.Blocks.getD i default) i) (by rw[Du];omega),A0 hi (by omega),Ue,U9]) (λacc=>by unfold Ip;simp) f.Blocks.length 0 (Th f) (by omega) (by have:=DR f;have:=hf.few;omega)
 unfold K3;rw[show(0:Int)=((0:Nat):Int) from rfl,hp,Aj,V2]
 have e:(List.range' 0 f.Params.length).flatMap (λ(i:Nat)=>[(⟨(i:Int)+1,-1,0,(f.Params.getD i 0,1)⟩:Ce)])=Th f:=by rw[Th,P9]
 rw[e,hb,Aj,Bi,P9]
end
end Go.Proofs.YtlnbjgmjaioagaaGreat
