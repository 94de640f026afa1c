/-
  The machine, the program's functions and the laws' arithmetic: part 5 of 6.
-/
import Derived.Test.YtjpnobeadcdnoaaGreatPk4
import Derived.Lib.RowBridge
import Derived.OpenShut
import Derived.ShutString
set_option linter.unusedSectionVars false
set_option linter.defProp false
set_option linter.unusedVariables false
set_option linter.unusedSimpArgs false
namespace Go.Proofs.YtjpnobeadcdnoaaGreat
noncomputable section
open Go Go.RowKit
set_option maxRecDepth 100000
set_option maxHeartbeats 2000000
def Fn(x4:List TDef):Int->Option (LR Int (Unit ⊕ Int)):=
 λ(i5:Int)=>(bif (decide (i5<(x4.length:Int))) then(A7 (A5 i5 x4.length) ((Fi ((x4.getD i5.toNat default).V)).bind λx7=>(A7 (((!x7)==false)=true->(A5 i5 x4.length)) ((bif ((!x7)==false) then E1 x4 ((x4.getD i5.toNat default).V) else some (0:Int)).bind λx9=>(bif (bif (!x7) then true else(x9 !=i5)) then(some (.done (.inr (7:Int)))) else(some (.next (w64 (i5+1))))))))) else(some (.done (.inl ()))))
def D6(x4:List TDef)(x12:List C9):Int->Option (LR Int (Unit ⊕ Int)):=
 λ(i13:Int)=>(bif (decide (i13<(x12.length:Int))) then(A7 (A5 i13 x12.length) ((E1 x4 ((x12.getD i13.toNat default).V)).bind λx15=>(bif (decide (x15<0)) then(some (.done (.inr (7:Int)))) else(some (.next (w64 (i13+1))))))) else(some (.done (.inl ()))))
def D7(x4:List TDef)(x12:List C9):Int->Option (LR Int (Unit ⊕ Int)):=
 λ(i18:Int)=>(bif (decide (i18<(x12.length:Int))) then(A7 (A5 i18 x12.length) ((E1 x4 ((x12.getD i18.toNat default).V)).bind λx20=>(A7 (A5 x20 x4.length) (A7 (A5 i18 x12.length) (bif (!((((x4.getD x20.toNat default).Shape.1:Int)==(x12.getD i18.toNat default).Shape.1)&&((((x4.getD x20.toNat default).Shape.2:Int)==(x12.getD i18.toNat default).Shape.2)&&true))) then(some (.done (.inr (6:Int)))) else(some (.next (w64 (i18+1))))))))) else(some (.done (.inl ()))))
def C8(x4:List TDef)(x12:List C9)(x26:Az):Int->Option (LR Int (Unit ⊕ Int)):=
 λ(i27:Int)=>(bif (decide (i27<(x12.length:Int))) then(Option.bind (α:=(Unit ⊕ Int)) (A7 (A5 i27 x12.length) ((E1 x4 ((x12.getD i27.toNat default).V)).bind λx29=>(A7 (A5 x29 x4.length) (bif (bif (decide (((x4.getD x29.toNat default).Block:Int)<0)) then true else(bif (((x4.getD x29.toNat default).Block:Int)==(x12.getD i27.toNat default).Block) then(decide (((x4.getD x29.toNat default).At:Int)<(x12.getD i27.toNat default).At)) else false)) then(some (.inl ())) else((bif ((((x4.getD x29.toNat default).Block:Int)==(x12.getD i27.toNat default).Block)==false) then Ku x26 ((x4.getD x29.toNat default).Block) ((x12.getD i27.toNat default).Block) else some (0:Int)).bind λx31=>(bif (bif (((x4.getD x29.toNat default).Block:Int)==(x12.getD i27.toNat default).Block) then true else(x31 !=(x4.getD x29.toNat default).Block)) then(some (.inr (7:Int))) else(some (.inl ())))))))) (λx32=>(match x32 with|(.inl _)=>(some (.next (w64 (i27+1))))|(.inr r34)=>(some (.done (.inr r34)))))) else(some (.done (.inl ()))))
def Hh(Γ:Ix)(a0:TFunc)(a2:Int)(r:Int):Exit->St->Prop:=fK Tryz.prog Γ Tryz.f23.results.toList [] (.int .i64 r) []
def nB(x4:List TDef)(x29:Int):=((decide (((x4.getD x29.toNat default).Block:Int)<0))==false)
def fQ(x4:List TDef)(x29:Int)(x12:List C9)(i27:Int):=(((x4.getD x29.toNat default).Block:Int)==(x12.getD i27.toNat default).Block)
def Fk(a0:TFunc)(a2:Int):Option Int:=
 (bif (bif (decide (a2<0)) then true else(decide ((2:Int)<a2))) then(some (1:Int)) else((I6 a0).bind λx1=>(bif (!x1) then(some (4:Int)) else((J2 a0).bind λx2=>(bif (!x2) then(some (5:Int)) else((J3 a0 a2).bind λx3=>(bif (!x3) then(some (6:Int)) else((Kw a0).bind λx4=>((Ab (Fn x4) (0:Int)).bind (λx10=>(match x10 with|(.inl _)=>((Kx a0).bind λx12=>((Ab (D6 x4 x12) (0:Int)).bind (λx16=>(match x16 with|(.inl _)=>((Ab (D7 x4 x12) (0:Int)).bind (λx23=>(match x23 with|(.inl _)=>((Jo a0).bind λx25=>((Kv x25.1 (0:Int)).bind λx26=>((Ab (C8 x4 x12 x26) (0:Int)).bind (λx35=>(match x35 with|(.inl _)=>(some (0:Int))|(.inr r37)=>(some r37))))))|(.inr r38)=>(some r38))))|(.inr r39)=>(some r39)))))|(.inr r40)=>(some r40))))))))))))
variable{v0:TFunc}{v1:Int}{v2:Int}
theorem Yb(h:Fk v0 v1=some v2):sP 23 [(FM v0),(Z6 v1)] [] (.int .i64 v2) []:=
 sG Tryz.func23 λΓ q=>Ac q Om [2] (tU q [1,2,21] [2] (c2 (gI ((decide (v1<0))==false)) (Ja (decide (v1<0)))) (gC h (λh=>Ac q [4] [] (tS h (B2 []))) λh=>tB h λx1 y1 h=>tT q [1,2,24] [2] [(Z2 x1)] (c1 (BO y1)) (gC h (λh=>Ac q [4] [] (tS h (B2 []))) λh=>tB h λx2 y2 h=>tT q [1,2,27] [2] [(Z2 x2)] (c1 (Yd y2)) (gC h (λh=>Ac q [4] [] (tS h (B2 []))) λh=>tB h λx3 y3 h=>tT q [2,31] [2] [(Z2 x3)] (c1 (Ye y3)) (gC h (λh=>Ac q [4] [] (tS h (B2 []))) λh=>tB h λx4 y4 h=>tT q Wd CQ [⟨[],[(20000,33)],(AV.list 5 Po default x4 (.own 20000)),[(Ni 20000 75 x4.length)],[],[]⟩] (c1 (Zz y4)) (Ac q Xb CQ (tL q h Xb CQ (λu i5=>(Do u [(6,(Z6 i5))] [])) (λu x_=>match x_ with|(.inl _)=>aG Γ (.exit 0) (N4 Wd CQ u [] [])|(.inr r_)=>aR (Hh Γ v0 v1 r_)) (λi5 y h=>Ac q [2,5,6,37] CQ (gC h (λh=>tC h λc6_ h=>tB h λx7 y7 h=>tC h λc8_ h=>tB h λx9 y9 h=>tT q [2,5,6,57] CQ [(Z2 x7),(EE x9)] (e7 c6_ (Mb y7) (M2 ((!x7)==false) (ci c8_ (dC ((!x7)==false) (ci (λ(hg:((!x7)==false)=true)=>(J6 (Bh hg y9))) (M2 ((!x7)==false) (c1 (Ja (!x7))))))))) (gC h (λh=>Ac q [4] [] (tS h (gO (M1 (H6 [] (Le.refl _ _)))))) λh=>Ac q Xb CQ (tN h))) λh=>tS h (gO (Bk (Bn Wd CQ q))))) λx10 h=>(match x10,h with | .inl _,h=>gA (tB h λx12 y12 h=>tT q UH Uv [⟨[],[(20000,59)],(AV.list 5 Ow default x12 (.own 20000)),[(Ni 20000 79 x12.length)],[],[]⟩] (c1 (Z0 y12)) (Ac q [2,5,7,8] Uv (tL q h [2,5,7,8] Uv (λu i13=>(Do u [(8,(Z6 i13))] [])) (λu x_=>match x_ with|(.inl _)=>aG Γ (.exit 2) (N4 UH Uv u [] [])|(.inr r_)=>aR (Hh Γ v0 v1 r_)) (λi13 y h=>Ac q [2,5,7,8,63] Uv (gC h (λh=>tC h λc14_ h=>tB h λx15 y15 h=>tT q [2,5,7,8,73] Uv [(EE x15)] (c2 c14_ (J6 y15)) (gC h (λh=>Ac q [4] [] (tS h (gO (M1 (H6 [] (Le.refl _ _)))))) λh=>Ac q [2,5,7,8] Uv (tN h))) λh=>tS h (gO (Bk (Bn UH Uv q))))) λx16 h=>(match x16,h with | .inl _,h=>gA (Ac q [2,5,7,9] Uv (tL q h [2,5,7,9] Uv (λu i18=>(Do u [(9,(Z6 i18))] [])) (λu x_=>match x_ with|(.inl _)=>aG Γ (.exit 4) (N4 UH Uv u [] [])|(.inr r_)=>aR (Hh Γ v0 v1 r_)) (λi18 y h=>Ac q [2,5,7,9,77] Uv (gC h (λh=>tC h λc19_ h=>tB h λx20 y20 h=>tC h λc21_ h=>tC h λc22_ h=>tT q [2,5,7,9,96] Uv [(EE x20)] (c4 c19_ (J6 y20) c21_ c22_) (gC h (λh=>Ac q [4] [] (tS h (gO (M1 (H6 [] (Le.refl _ _)))))) λh=>Ac q [2,5,7,9] Uv (tN h))) λh=>tS h (gO (Bk (Bn UH Uv q))))) λx23 h=>(match x23,h with | .inl _,h=>gA (tB h λx25 y25 h=>tT q [5,7,10] [10,33,59] [(nU x25.1 x25.2)] (c1 (Td y25)) (tB h λx26 y26 h=>tT q [5,7,12] NS [(xN 103 x26 x26.length)] (c1 (Zy y26)) (Ac q TW NS (tL q h TW NS (λu i27=>(Do u [(13,(Z6 i27))] [])) (λu x_=>match x_ with|(.inl _)=>aG Γ (.exit 6) (⟨[],[],[]⟩:St)|(.inr r_)=>aR (Hh Γ v0 v1 r_)) (λi27 y h=>Ac q [5,7,12,13,107] NS (gC h (λh=>tB h λx32 y32 h=>gJ y32 (λx_=>match x_ with|(.inl _)=>aG Γ .normal (⟨[(5,(AV.list 5 Po default x4 (.own 33))),(7,(AV.list 5 Ow default x12 (.own 59))),(12,(DW x26 103)),(13,(Z6 i27))],[(Ni 33 75 x4.length),(Ni 59 79 x12.length),(103,.tok 1 3 x26.length)],[]⟩:St)|(.inr r_)=>aR (Hh Γ v0 v1 r_)) (λy h=>tV q [5,7,12,13,14] [14,33,59,103] h λh=>tB h λx29 y29 h=>tC h λc30_ h=>tT q [5,7,12,13,14,15] [14,15,33,59,103] [(EE x29)] (c2 (J6 y29) c30_) (tU q [5,7,12,13,14,15,137] [14,15,33,59,103] (qz (nB x4 x29) (dC ((nB x4 x29)&&((fQ x4 x29 x12 i27)==true)) (c3 (gI (nB x4 x29)) (show((nB x4 x29)=true->((fQ x4 x29 x12 i27)=true->((nB x4 x29)&&((fQ x4 x29 x12 i27)==true))=true)) from(λhg=>(aT hg))) (Ja (decide (((x4.getD x29.toNat default).Block:Int)<0)))))) (gC h (λh=>tS h (gK (Bk (Bn TW NS q)))) λh=>tB h λx31 y31 h=>tT q [5,7,12,13,153] NS [(EE x31)] (qz ((fQ x4 x29 x12 i27)==false) (ci (λ(hg:((fQ x4 x29 x12 i27)==false)=true)=>(Zx (Bh hg y31))) (Y1 ((fQ x4 x29 x12 i27)==false) (c1 (Ja (fQ x4 x29 x12 i27)))))) (gC h (λh=>Ac q [4] [] (tS h (gK (M1 (H6 [] (Le.refl _ _)))))) λh=>tS h (gK (Bk (Bn TW NS q))))))) (match x32,h with | .inl _,h=>gA (Ac q TW NS (tN h)) | .inr r34,h=>P4 (λst' hk=>tS h (gO (M1 hk))))) λh=>tS h (gO (Bk (Bn [] [] q))))) λx35 h=>(match x35,h with | .inl _,h=>gA (Ac q [4] [] (tS h (B2 []))) | .inr r37,h=>P4 (λst' hk=>tS h (gK hk))))))) | .inr r38,h=>P4 (λst' hk=>tS h (gK hk))))) | .inr r39,h=>P4 (λst' hk=>tS h (gK hk)))))) | .inr r40,h=>P4 (λst' hk=>tS h (gK hk))))))))))
def J5(aS:Int):Option Int:=
 (bif (bif (aS==16) then true else(aS==17)) then(some (0:Int)) else(bif (bif (aS==18) then true else(aS==19)) then(some (1:Int)) else(some (-1:Int))))
theorem Yg(h:J5 v1=some v2):sP 24 [(Z6 v1)] [] (.int .i64 v2) []:=
 sG Tryz.func24 λΓ q=>Ac q [0] [] (tU q [0,8] [] (c2 (gI ((v1==16)==false)) (Ja (v1==16))) (gC h (λh=>Ac q [2] [] (tS h (B2 []))) λh=>tU q [14] [] (c2 (gI ((v1==18)==false)) (Ja (v1==18))) (gC h (λh=>Ac q [2] [] (tS h (B2 []))) λh=>Ac q [2] [] (tS h (B2 [])))))
def nC(x1:Int)(a2:Int):=(bif (x1 !=0) then true else(decide (a2<0)))
def Aah(x1:Int)(a2:Int):=((nC x1 a2)==false)
def vW(x1:Int)(a2:Int)(a0:TFunc)(aQ:Int):=(bif (bif (nC x1 a2) then true else(decide ((a0.Blocks.length:Int)<=a2))) then true else(decide (aQ<0)))
def Cg(a0:TFunc)(a2:Int)(aQ:Int):Option AB:=
 ((Fk a0 (2:Int)).bind λx1=>(A7 (((bif (bif (bif (x1 !=0) then true else(decide (a2<0))) then true else(decide ((a0.Blocks.length:Int)<=a2))) then true else(decide (aQ<0)))==false)=true->(A5 a2 a0.Blocks.length)) (bif (bif (bif (bif (bif (x1 !=0) then true else(decide (a2<0))) then true else(decide ((a0.Blocks.length:Int)<=a2))) then true else(decide (aQ<0))) then true else(decide ((((a0.Blocks.getD a2.toNat default).Ops).length:Int)<=aQ))) then(some ((0:Int),(0:Int),false)) else(A7 (A5 a2 a0.Blocks.length) (A7 (A5 aQ ((a0.Blocks.getD a2.toNat default).Ops).length) ((J5 ((((a0.Blocks.getD a2.toNat default).Ops).getD aQ.toNat default).Kind)).bind λx5=>(bif (decide (x5<0)) then(some ((0:Int),(0:Int),false)) else(A7 (A5 x5 ((((a0.Blocks.getD a2.toNat default).Ops).getD aQ.toNat default).Args).length) (some ((((((a0.Blocks.getD a2.toNat default).Ops).getD aQ.toNat default).Args).getD x5.toNat 0),(w64 ((((a0.Blocks.getD a2.toNat default).Ops).getD aQ.toNat default).Lanes*(w64 (Int.tdiv (((a0.Blocks.getD a2.toNat default).Ops).getD aQ.toNat default).Bits (8:Int))))),true))))))))))
variable{v32:AB}
theorem Ea(h:Cg v0 v1 v2=some v32):sP 10 [(FM v0),(Z6 v1),(Z6 v2)] [] (.tuple [(Z6 v32.1),(Z6 v32.2.1),(.bool v32.2.2)]) []:=
 sG Tryz.func10 λΓ q=>Ac q [1,2,3] [3] (tB h λx1 y1 h=>tC h λc2_ h=>tT q [1,2,3,39] [3] [(EE x1)] (ah (Yb y1) (gI ((x1 !=0)==false)) (Ja (x1 !=0)) (dC (Aah x1 v1) (ah (Ja (nC x1 v1)) (gI ((bif (nC x1 v1) then true else(decide ((v0.Blocks.length:Int)<=v1)))==false)) (Ja (bif (nC x1 v1) then true else(decide ((v0.Blocks.length:Int)<=v1)))) (Y1 ((vW x1 v1 v0 v2)==false) (ci c2_ (qz ((vW x1 v1 v0 v2)==false) (c1 (Ja (vW x1 v1 v0 v2))))))))) (gC h (λh=>Ac q UG [] (tS h (B2 []))) λh=>tC h λc3_ h=>tC h λc4_ h=>tU q [9] [9] (c2 c3_ c4_) (tB h λx5 y5 h=>tT q [9,10] [9] [(EE x5)] (c1 (Yg y5)) (Ac q [9,10,53] [9] (gC h (λh=>Ac q UG [] (tS h (B2 []))) λh=>tC h λc6_ h=>tU q UG [] (c2 c6_ (show((8:Int)≠0) from(by decide))) (tS h (B2 [])))))))
abbrev uZ:=(Int×A4)
abbrev zW:=(LR (Int×A4) A4)
def Gy(a0:TFunc)(i1:Int):uZ->Option zW:=
 λ((i4,z5):uZ)=>(A7 (A5 i1 a0.Blocks.length) (bif (decide (i4<(((a0.Blocks.getD i1.toNat default).Ops).length:Int))) then(A7 (A5 i1 a0.Blocks.length) (A7 (A5 i4 ((a0.Blocks.getD i1.toNat default).Ops).length) (A7 (A5 i1 a0.Blocks.length) (A7 (A5 i4 ((a0.Blocks.getD i1.toNat default).Ops).length) (A7 (A5 (((a0.Blocks.getD i1.toNat default).Ops).getD i4.toNat default).Dst 1024) (some (.next ((w64 (i4+1)),(⟨Fx 1024 (default:Ce) z5.Op ((((a0.Blocks.getD i1.toNat default).Ops).getD i4.toNat default).Dst).toNat (((a0.Blocks.getD i1.toNat default).Ops).getD i4.toNat default),z5.Found,z5.Form⟩:A4))))))))) else(some (.done z5))))
def Gz(a0:TFunc):uZ->Option zW:=
 λ((i1,z2):uZ)=>(bif (decide (i1<(a0.Blocks.length:Int))) then((Ab (Gy a0 i1) ((0:Int),z2)).bind (λx13=>(some (.next ((w64 (i1+1)),x13))))) else(some (.done z2)))
def cH:=(λn_=>Bj n_ [1,7])
def cG(z5:A4):=(λ(_:Nat)=>Ak z5)
def fR(z2:A4):=(λ(_:Nat)=>Ak z2)
def r9:=(λ(_:Nat)=>Ak (⟨[],[],[]⟩:A4))
def sA:=(⟨(0:Int),(0:Int),(0:Int),(0:Int),([]:Az),(0:Int)⟩:Ce)
def GU(a0:TFunc)(i1:Int)(i4:Int):=(((a0.Blocks.getD i1.toNat default).Ops).getD i4.toNat default)
def nE(z5:A4)(a0:TFunc)(i1:Int)(i4:Int):=(⟨Fx 1024 (default:Ce) z5.Op ((GU a0 i1 i4).Dst).toNat (GU a0 i1 i4),z5.Found,z5.Form⟩:A4)
def vX:=(Hi 1024 (λ_=>[(.bool false)])++(Hi 1024 (λ_=>Z5)++([]:List AV)))
def rz:List AV:=[Mt,Mt,Mt,Mt,PP,FL]
def Q271:List AV:=[Mt,Mt,Mt,Mt,ZP,FL]
def nD(x15:A4):=(⟨Fx 1024 (default:Ce) x15.Op (0:Int).toNat sA,x15.Found,x15.Form⟩:A4)
def Lj(a0:TFunc):Option A4:=
 ((Ab (Gz a0) ((0:Int),(⟨[],[],[]⟩:A4))).bind (λx15=>(A7 (A5 (0:Int) 1024) (some (⟨Fx 1024 (default:Ce) x15.Op (0:Int).toNat (⟨(0:Int),(0:Int),(0:Int),(0:Int),([]:Az),(0:Int)⟩:Ce),x15.Found,x15.Form⟩:A4)))))
variable{v49:A4}
theorem BQ(h:Lj v0=some v49):sP 27 [(FM v0)] [] (.vpt 20000 1 0 0) [(20000,.arr 9216 100 1 (λ(_:Nat)=>Ak v49))]:=
 sG Tryz.func27 λΓ q=>Ac q [1] [1] (gR q Ji Ta [(7,(.vpt 7 1 0 0))] [] trivial (Gl (Hy 7 (show ∀ k_,k_<1->AVleL ((λ(i_:Nat)=>AV.eraseAll cH ((λ(i_:Nat)=>((Hi 1024 (λ_=>rz)++vX).drop (i_*9216)).take 9216) i_)) k_) (r9 k_) from(B9 (Aw (F:=(λ(i_:Nat)=>((Hi 1024 (λ_=>rz)++vX).drop (i_*9216)).take 9216)) (j0 (Z:=Hi 1024 (λ_=>rz)++vX) (R:=Ak (⟨[],[],[]⟩:A4)) (Vv (U5 λ_ _=>rfl) (Vv (U5 λ_ _=>rfl) (Vv (U5 λ_ _=>rfl) (λ_=>rfl)))) (U6 (HK λ_=>(.cons (AVle.refl _) (.cons (AVle.refl _) (.cons (AVle.refl _) (.cons (AVle.refl _) (.cons (λ_ _ _ _ _ hh=>AVle.untag _ _ _ _ _ (Cs _ _ _ _ _ hh)) (.cons (AVle.refl _) .nil))))))) (U6 (HK λ_=>(.cons (AVle.refl _) .nil)) (U6 (HK λ_=>(.cons (λ_ _ _ _ _ hh=>AVle.untag _ _ _ _ _ (Cs _ _ _ _ _ hh)) (.cons (AVle.refl _) .nil))) .nil))) (by kernel_rfl)))))) (Ac q Ib Ta (Gl (Hy 7 (show ∀ k_,k_<1->AVleL ((λ(i_:Nat)=>AV.eraseAll cH (r9 i_)) k_) (r9 k_) from(B9 (Aw (F:=r9) (A2 (Bl (⟨[],[],[]⟩:A4))))))) (tL q h Ib Ta (λu (i1,z2)=>(Do u [(4,(Z6 i1))] [(7,.arr 9216 100 1 (fR z2))])) (λu z3=>aG Γ (.exit 0) (N4 [3] [7] u [] [(7,.arr 9216 100 1 (λ(_:Nat)=>Ak z3))])) (λ⟨i1,z2⟩ y h=>Ac q [1,3,4,12] Ta (Gl (Hy 7 (show ∀ k_,k_<1->AVleL ((λ(i_:Nat)=>AV.eraseAll cH ((fR z2) i_)) k_) ((fR z2) k_) from(B9 (Aw (F:=(fR z2)) (A2 (Bl z2)))))) (gC h (λh=>Ac q J8 Ta (Gl (Hy 7 (show ∀ k_,k_<1->AVleL ((λ(i_:Nat)=>AV.eraseAll cH ((fR z2) i_)) k_) ((fR z2) k_) from(B9 (Aw (F:=(fR z2)) (A2 (Bl z2)))))) (tL q h J8 Ta (λu (i4,z5)=>(Do u [(5,(Z6 i4))] [(7,.arr 9216 100 1 (cG z5))])) (λu z6=>aG Γ (.exit 2) (N4 Ib Ta u [] [(7,.arr 9216 100 1 (λ(_:Nat)=>Ak z6))])) (λ⟨i4,z5⟩ y h=>tV q [1,3,4,5,23] Ta h λh=>Gl (Hy 7 (show ∀ k_,k_<1->AVleL ((λ(i_:Nat)=>AV.eraseAll cH ((cG z5) i_)) k_) ((cG z5) k_) from(B9 (Aw (F:=(cG z5)) (A2 (Bl z5)))))) (gC h (λh=>tC h λc8_ h=>tC h λc9_ h=>tC h λc10_ h=>tC h λc11_ h=>tC h λc12_ h=>tU q J8 Ta (c7 c8_ c9_ c10_ c11_ c12_ (Eq.refl 1) (show((0+((GU v0 i1 i4).Dst).toNat*6)+((Qz (GU v0 i1 i4)):List AV).length<=9216) from(Yn c12_ (by kernel_rfl)))) (Gl (Hy 7 (show ∀ k_,k_<1->AVleL ((λ(i_:Nat)=>AV.eraseAll cH ((Eb (cG z5) 0 (0+((GU v0 i1 i4).Dst).toNat*6) (Qz (GU v0 i1 i4))) i_)) k_) ((λ(_:Nat)=>Ak (nE z5 v0 i1 i4)) k_) from(B9 (Aw (F:=(Eb (cG z5) 0 (0+((GU v0 i1 i4).Dst).toNat*6) (Qz (GU v0 i1 i4)))) (GE (F:=(cG z5)) (G:=(cG z5)) (cs:=(Qz (GU v0 i1 i4))) (cs':=Qz (GU v0 i1 i4)) (A2 (Bl z5)) (λ_=>rfl) (show AVleL (Qz (GU v0 i1 i4)) (Qz (GU v0 i1 i4)) from AVleL.refl _) (ER z5 ((GU v0 i1 i4).Dst) c12_ (GU v0 i1 i4))))))) (Ac q J8 Ta (tS h (gN (Le.trans (Hy 7 (show ∀ k_,k_<1->AVleL ((λ(i_:Nat)=>AV.eraseAll cH ((λ(_:Nat)=>Ak (nE z5 v0 i1 i4)) i_)) k_) ((λ(_:Nat)=>Ak (nE z5 v0 i1 i4)) k_) from(B9 (Aw (F:=(λ(_:Nat)=>Ak (nE z5 v0 i1 i4))) (A2 (Bl (nE z5 v0 i1 i4))))))) H7)))))) λh=>tS h (gO (Bk (Bn Ib Ta q))))) λx13 h=>gA (Ac q Ib Ta (tS h (gN (Le.trans (Hy 7 (show ∀ k_,k_<1->AVleL ((λ(i_:Nat)=>AV.eraseAll cH ((λ(_:Nat)=>Ak x13) i_)) k_) ((λ(_:Nat)=>Ak x13) k_) from(B9 (Aw (F:=(λ(_:Nat)=>Ak x13)) (A2 (Bl x13)))))) H7))))))) λh=>tS h (gO (Bk (Bn [3] [7] q)))))) λx15 h=>gA (tC h λc17_ h=>gR q [3] [7] [(50,(.agg Q271))] [] (c4 (show(AVle (.agg rz) (.agg Q271)) from(AVle.agg (.cons (AVle.refl _) (.cons (AVle.refl _) (.cons (AVle.refl _) (.cons (AVle.refl _) (.cons Cs (.cons (AVle.refl _) .nil)))))))) c17_ (Eq.refl 1) (show((0+(0:Int).toNat*6)+(Q271:List AV).length<=9216) from(Yn c17_ (by kernel_rfl)))) (Gl (Hy 7 (show ∀ k_,k_<1->AVleL ((λ(i_:Nat)=>AV.eraseAll (λn_=>Bj n_ [7]) ((Eb (λ(_:Nat)=>Ak x15) 0 (0+(0:Int).toNat*6) Q271) i_)) k_) ((λ(_:Nat)=>Ak (nD x15)) k_) from(B9 (Aw (F:=(Eb (λ(_:Nat)=>Ak x15) 0 (0+(0:Int).toNat*6) Q271)) (GE (F:=(λ(_:Nat)=>Ak x15)) (G:=(λ(_:Nat)=>Ak x15)) (cs:=Q271) (cs':=Qz sA) (A2 (Bl x15)) (λ_=>rfl) (show AVleL Q271 (Qz sA) from(.cons (AVle.refl _) (.cons (AVle.refl _) (.cons (AVle.refl _) (.cons (AVle.refl _) (.cons AVle.untag (.cons (AVle.refl _) .nil))))))) (ER x15 (0:Int) c17_ sA)))))) (Ac q [2] [7] (tS h (gK (e:=.ret) (H6 [(7,20000)] (Hy 7 (show ∀ k_,k_<1->AVleL ((λ(i_:Nat)=>AV.eraseAll (λn_=>Bj n_ [7]) ((λ(_:Nat)=>Ak (nD x15)) i_)) k_) ((λ(_:Nat)=>Ak (nD x15)) k_) from(B9 (Aw (F:=(λ(_:Nat)=>Ak (nD x15))) (A2 (Bl (nD x15))))))))))))))))))
abbrev ua:=(Int×E6)
abbrev zX:=(LR (Int×E6) E6)
def Hp(a4:Au):ua->Option zX:=
 λ((i1,z2):ua)=>(bif (decide (i1<(a4.Terms.length:Int))) then(A7 (A5 i1 a4.Terms.length) (A7 (A5 i1 a4.Terms.length) (A7 (A5 (a4.Terms.getD i1.toNat default).V 1024) (some (.next ((w64 (i1+1)),(⟨Fx 1024 (0:Int) z2.Scale ((a4.Terms.getD i1.toNat default).V).toNat ((a4.Terms.getD i1.toNat default).Scale),z2.Off⟩:E6))))))) else(some (.done z2)))
def cI(z2:E6):=(λ(_:Nat)=>Er z2)
def GV(a4:Au)(i1:Int):=(a4.Terms.getD i1.toNat default)
def sB(a4:Au):=(λ(_:Nat)=>Er (⟨[],a4.Off⟩:E6))
def nG(z2:E6)(a4:Au)(i1:Int):=(⟨Fx 1024 (0:Int) z2.Scale ((GV a4 i1).V).toNat ((GV a4 i1).Scale),z2.Off⟩:E6)
def yM(a4:Au):=(λ(i_:Nat)=>((Hi 1024 (λ_=>[FL])++(([(Me a4.Off)]:List AV)++([]:List AV))).drop (i_*1025)).take 1025)
def Jp(a4:Au):Option E6:=
 ((Ab (Hp a4) ((0:Int),(⟨[],a4.Off⟩:E6))).bind (λx7=>(some x7)))
variable{v35:Au}{v50:E6}
theorem Te(h:Jp v35=some v50):sP 50 [(Pd v35)] [] (.vpt 20000 1 0 0) [(20000,.arr 1025 105 1 (λ(_:Nat)=>Er v50))]:=
 sG Tryz.func50 λΓ q=>Ac q [1] [1] (gR q Ji S9 [(8,(.vpt 8 1 0 0))] [] trivial (Gl (Hy 8 (show ∀ k_,k_<1->AVleL ((λ(i_:Nat)=>AV.eraseAll (λn_=>Bj n_ S9) ((yM v35) i_)) k_) ((sB v35) k_) from(B9 (Aw (F:=(yM v35)) (j0 (Z:=Hi 1024 (λ_=>[FL])++(([(Me v35.Off)]:List AV)++([]:List AV))) (R:=Er (⟨[],v35.Off⟩:E6)) (Vv (U5 λ_ _=>rfl) (Vv (λ_=>rfl) (λ_=>rfl))) (U6 (HK λ_=>(.cons (AVle.refl _) .nil)) (U6 (.cons (AVle.refl _) .nil) .nil)) (by kernel_rfl)))))) (Ac q Ib S9 (Gl (Hy 8 (show ∀ k_,k_<1->AVleL ((λ(i_:Nat)=>AV.eraseAll (λn_=>Bj n_ S9) ((sB v35) i_)) k_) ((sB v35) k_) from(B9 (Aw (F:=(sB v35)) (A2 (D1 (⟨[],v35.Off⟩:E6))))))) (tL q h Ib S9 (λu (i1,z2)=>(Do u [(4,(Z6 i1))] [(8,.arr 1025 105 1 (cI z2))])) (λu z3=>aG Γ (.exit 0) (N4 [3] [8] u [] [(8,.arr 1025 105 1 (λ(_:Nat)=>Er z3))])) (λ⟨i1,z2⟩ y h=>Ac q [1,3,4,13] S9 (Gl (Hy 8 (show ∀ k_,k_<1->AVleL ((λ(i_:Nat)=>AV.eraseAll (λn_=>Bj n_ S9) ((cI z2) i_)) k_) ((cI z2) k_) from(B9 (Aw (F:=(cI z2)) (A2 (D1 z2)))))) (gC h (λh=>tC h λc4_ h=>tC h λc5_ h=>tC h λc6_ h=>tU q Ib S9 (c5 c4_ c5_ c6_ (Eq.refl 1) (show((0+((GV v35 i1).V).toNat*1)+([(.int .u64 (GV v35 i1).Scale)]:List AV).length<=1025) from(Yn c6_ (by kernel_rfl)))) (Gl (Hy 8 (show ∀ k_,k_<1->AVleL ((λ(i_:Nat)=>AV.eraseAll (λn_=>Bj n_ S9) ((Eb (cI z2) 0 (0+((GV v35 i1).V).toNat*1) [(.int .u64 (GV v35 i1).Scale)]) i_)) k_) ((λ(_:Nat)=>Er (nG z2 v35 i1)) k_) from(B9 (Aw (F:=(Eb (cI z2) 0 (0+((GV v35 i1).V).toNat*1) [(.int .u64 (GV v35 i1).Scale)])) (GE (F:=(cI z2)) (G:=(cI z2)) (cs:=[(.int .u64 (GV v35 i1).Scale)]) (cs':=JS ((GV v35 i1).Scale)) (A2 (D1 z2)) (λ_=>rfl) (show AVleL [(.int .u64 (GV v35 i1).Scale)] (JS ((GV v35 i1).Scale)) from AVleL.refl _) (CD z2 ((GV v35 i1).V) c6_ ((GV v35 i1).Scale))))))) (Ac q Ib S9 (tS h (gN (Le.trans (Hy 8 (show ∀ k_,k_<1->AVleL ((λ(i_:Nat)=>AV.eraseAll (λn_=>Bj n_ S9) ((λ(_:Nat)=>Er (nG z2 v35 i1)) i_)) k_) ((λ(_:Nat)=>Er (nG z2 v35 i1)) k_) from(B9 (Aw (F:=(λ(_:Nat)=>Er (nG z2 v35 i1))) (A2 (D1 (nG z2 v35 i1))))))) H7)))))) λh=>tS h (gO (Bk (Bn [3] [8] q)))))) λx7 h=>gA (Ac q [2] [8] (tS h (gK (e:=.ret) (H6 [(8,20000)] (Hy 8 (show ∀ k_,k_<1->AVleL ((λ(i_:Nat)=>AV.eraseAll (λn_=>Bj n_ [8]) ((λ(_:Nat)=>Er x7) i_)) k_) ((λ(_:Nat)=>Er x7) k_) from(B9 (Aw (F:=(λ(_:Nat)=>Er x7)) (A2 (D1 x7)))))))))))))))
def D5(aK:E6):uX->Option (LR (Int×List Ar) (List Ar)):=
 λ((i1,l2):uX)=>(bif (decide (i1<1024)) then(Option.bind (α:=List Ar) (A7 (A5 i1 1024) (bif ((aK.Scale.getD i1.toNat 0)!=0) then(A7 (A5 i1 1024) (A7 (l2.length+([(⟨i1,(aK.Scale.getD i1.toNat 0)⟩:Ar)]:List Ar).length<=room) (some (l2++([(⟨i1,(aK.Scale.getD i1.toNat 0)⟩:Ar)]:List Ar))))) else(some l2))) (λx8=>(some (.next ((w64 (i1+1)),x8))))) else(some (.done l2)))
def Sg(aK:E6):=(λ(_:Nat)=>Er aK)
def vZ:List AV:=Z5
def nH(i1:Int)(aK:E6):=([(⟨i1,(aK.Scale.getD i1.toNat 0)⟩:Ar)]:List Ar)
def vY(aK:E6):List AV:=[kr,(Me aK.Off)]
def yN:List PI:=[(0,(.vpt 34000 1 0 0)),Ty,fT,(4,Mt)]
def sC(aK:E6):=(λ(i_:Nat)=>AV.eraseAll (λn_=>Bj n_ [2,3,5300,34000]) ((Sg aK) i_))
def yO(aK:E6):=(⟨yN,[(Oh 57 vZ),(3,.row 57 [(AV.list 2 D0 default ([]:List Ar) (.own 5300)),(Me aK.Off)]),(5300,.tok 2 134 (([]:List Ar).length)),(34000,.arr 1025 105 1 (Sg aK))],[]⟩:St)
def Hg(aK:E6):Option (Au×E6):=
 ((Ab (D5 aK) ((0:Int),([]:List Ar))).bind (λx10=>(some ((⟨x10,aK.Off⟩:Au),aK))))
variable{v51:(Au×E6)}
theorem Ui(h:Hg v50=some v51):sP 51 [(.vpt 34000 1 0 0)] [(34000,.arr 1025 105 1 (λ(_:Nat)=>Er v50))] (Pd v51.1) [(34000,.arr 1025 105 1 (λ(_:Nat)=>Er v51.2))]:=
 sG Tryz.func51 λΓ q=>Ac q [0,2] [2,34000] (Gl (Hy 34000 (show ∀ k_,k_<1->AVleL ((λ(i_:Nat)=>AV.eraseAll (λn_=>Bj n_ [2,34000]) ((Sg v50) i_)) k_) ((Sg v50) k_) from(B9 (Aw (F:=(Sg v50)) (A2 (D1 v50)))))) (gR q UE TX [(9,(.agg (vY v50)))] [] (c3 (Eq.refl 1) (show(1024<1025) from(by decide)) (show(AVle (.agg [PP,(Me v50.Off)]) (.agg (vY v50))) from(AVle.agg (.cons Cs (.cons (AVle.refl _) .nil))))) (Gl (Hy 34000 (show ∀ k_,k_<1->AVleL ((λ(i_:Nat)=>AV.eraseAll (λn_=>Bj n_ TX) ((Sg v50) i_)) k_) ((Sg v50) k_) from(B9 (Aw (F:=(Sg v50)) (A2 (D1 v50)))))) (Ac q GL TX (Gl (Hy 34000 (show ∀ k_,k_<1->AVleL ((λ(i_:Nat)=>AV.eraseAll (λn_=>Bj n_ TX) ((Sg v50) i_)) k_) ((Sg v50) k_) from(B9 (Aw (F:=(Sg v50)) (A2 (D1 v50)))))) (Gl (st':=(yO v50)) (Le.trans (Bn (st':=⟨yN,[(Oh 57 vZ),(3,.row 57 (vY v50)),(34000,.arr 1025 105 1 (Sg v50))],[]⟩) GL TX q) (Le.trans (Pp (r:=3) (j:=0) (nm:=5300) (sz':=2) (λi=>D0 (([]:List Ar).getD i default)) 134 rfl rfl (nl rfl) rfl (.inl ⟨rfl,rfl⟩) (λh_=>absurd h_ (by decide))) (Bn (st':=(yO v50)) GL JE q))) (tL q h GL JE (λu (i1,l2)=>(Do u [(4,(Z6 i1))] [(3,.row 57 (sO l2 5300 v50.Off)),(5300,.tok 2 134 l2.length)])) (λu l3=>aG Γ (.exit 0) (N4 C3 JE u [] [(3,.row 57 (sO l3 5300 v50.Off)),(5300,.tok 2 134 l3.length)])) (λ⟨i1,l2⟩ y h=>Ac q [0,2,3,4,11] JE (Gl (Hy 34000 (show ∀ k_,k_<1->AVleL ((sC v50) k_) ((Sg v50) k_) from(B9 (Aw (F:=(Sg v50)) (A2 (D1 v50)))))) (gC h (λh=>tB h λx8 y8 h=>gJ y8 (λl4=>aG Γ .normal (⟨[(0,(.vpt 34000 1 0 0)),Ty,fT,(4,(Z6 i1))],[(Oh 57 vZ),(3,.row 57 (sO l4 5300 v50.Off)),(5300,.tok 2 134 l4.length),(34000,.arr 1025 105 1 (Sg v50))],[]⟩:St)) (λy h=>tC h λc5_ h=>gR q [0,2,3,4,20] JE [(19,(.int .u64 (v50.Scale.getD i1.toNat 0)))] [] (c4 c5_ (Eq.refl 1) (show((0+i1.toNat*1)<1025) from(IK c5_ (by kernel_rfl))) (show(AVle (((Sg v50) 0).getD (0+i1.toNat*1) .any) (.int .u64 (v50.Scale.getD i1.toNat 0))) from(IL (Qs v50) c5_ rfl))) (Gl (Hy 34000 (show ∀ k_,k_<1->AVleL ((sC v50) k_) ((Sg v50) k_) from(B9 (Aw (F:=(Sg v50)) (A2 (D1 v50)))))) (gC h (λh=>tC h λc6_ h=>tC h λc7_ h=>gR q GL JE [(29,(.int .u64 (v50.Scale.getD i1.toNat 0))),(31,(AV.list 2 D0 default (nH i1 v50) .exact)),(32,(AV.list 2 D0 default (l2++(nH i1 v50)) (.own 5300)))] [] (c9 c6_ (Eq.refl 1) (show((0+i1.toNat*1)<1025) from(IK c6_ (by kernel_rfl))) (show(AVle (((Sg v50) 0).getD (0+i1.toNat*1) .any) (.int .u64 (v50.Scale.getD i1.toNat 0))) from(IL (Qs v50) c6_ rfl)) (Bu 2 D0 (default:Ar) (nH i1 v50)) (Eq.refl l2.length) c7_ (Ie 2 5300 D0 (default:Ar) l2 (nH i1 v50)) (Ep l2 (nH i1 v50))) (tS h (gK (Bk (Le.trans (Hy 34000 (show ∀ k_,k_<1->AVleL ((sC v50) k_) ((Sg v50) k_) from(B9 (Aw (F:=(Sg v50)) (A2 (D1 v50)))))) H7))))) λh=>tS h (gK (Bk (Bn GL JE q)))))) (gA (Ac q GL JE (tS h (gN (Le.trans (Hy 34000 (show ∀ k_,k_<1->AVleL ((sC v50) k_) ((Sg v50) k_) from(B9 (Aw (F:=(Sg v50)) (A2 (D1 v50)))))) H7)))))) λh=>tS h (gO (Bk (Bn C3 JE q)))))) λx10 h=>gA (Ac q [2] [2,5300,34000] (tS h (gK (e:=.ret) (H6 Uu (Hy 34000 (show ∀ k_,k_<1->AVleL ((λ(i_:Nat)=>AV.eraseAll (λn_=>Bj n_ [2,5300,34000]) ((Sg v50) i_)) k_) ((Sg v50) k_) from(B9 (Aw (F:=(Sg v50)) (A2 (D1 v50)))))))))))))))))
def Gx(aL:Int)(aV:Int)(x2:E6):ua->Option zX:=
 λ((i3,z4):ua)=>(bif (decide (i3<1024)) then(A7 (A5 i3 1024) (A7 (A5 i3 1024) (A7 (A5 i3 1024) (some (.next ((w64 (i3+1)),(⟨Fx 1024 (0:Int) z4.Scale i3.toNat (Bo ((Bo ((z4.Scale.getD i3.toNat 0)*aL))+(Bo ((x2.Scale.getD i3.toNat 0)*aV)))),z4.Off⟩:E6))))))) else(some (.done z4)))
def UZ(x1:E6):=(λ(_:Nat)=>Er x1)
def ZL(z4:E6):=(λ(_:Nat)=>Er z4)
def JJ(x2:E6):=(λ(_:Nat)=>Er x2)
def ZK(x9:E6)(aL:Int)(x2:E6)(aV:Int):=(Bo ((Bo (x9.Off*aL))+(Bo (x2.Off*aV))))
def nI(x2:E6):=(λ(i_:Nat)=>AV.eraseAll (λn_=>Bj n_ [8,13,15]) ((JJ x2) i_))
def UY(z4:E6)(i3:Int)(aL:Int)(x2:E6)(aV:Int):=(Bo ((Bo ((z4.Scale.getD i3.toNat 0)*aL))+(Bo ((x2.Scale.getD i3.toNat 0)*aV))))
def sD(z4:E6)(i3:Int)(aL:Int)(x2:E6)(aV:Int):=(λ(_:Nat)=>Er (⟨Fx 1024 (0:Int) z4.Scale i3.toNat (UY z4 i3 aL x2 aV),z4.Off⟩:E6))
def Bc(a4:Au)(aL:Int)(aW:Au)(aV:Int):Option Au:=
 ((Jp a4).bind λx1=>((Jp aW).bind λx2=>((Ab (Gx aL aV x2) ((0:Int),x1)).bind (λx9=>((Hg (⟨x9.Scale,(Bo ((Bo (x9.Off*aL))+(Bo (x2.Off*aV))))⟩:E6)).bind λx11=>(some x11.1))))))
variable{v38:Au}{v39:Au}
theorem Gj(h:Bc v35 v1 v38 v2=some v39):sP 29 [(Pd v35),(Me v1),(Pd v38),(Me v2)] [] (Pd v39) []:=
 sG Tryz.func29 λΓ q=>Ac q [1,3,4,6,8] [4,6,8] (tB h λx1 y1 h=>tT q [1,3,6,8,9] [6,8,13] [⟨[],[(20000,13)],(.vpt 20000 1 0 0),[(20000,.arr 1025 105 1 (UZ x1))],[],[]⟩] (c1 (Te y1)) (Gl (Hy 13 (show ∀ k_,k_<1->AVleL ((λ(i_:Nat)=>AV.eraseAll (λn_=>Bj n_ [6,8,13]) ((UZ x1) i_)) k_) ((UZ x1) k_) from(B9 (Aw (F:=(UZ x1)) (A2 (D1 x1)))))) (tB h λx2 y2 h=>tT q ia Xa [⟨[],[(20000,15)],(.vpt 20000 1 0 0),[(20000,.arr 1025 105 1 (JJ x2))],[],[]⟩] (c1 (Te y2)) (Gl (Le.trans (Hy 13 (show ∀ k_,k_<1->AVleL ((λ(i_:Nat)=>AV.eraseAll (λn_=>Bj n_ Xa) ((UZ x1) i_)) k_) ((UZ x1) k_) from(B9 (Aw (F:=(UZ x1)) (A2 (D1 x1)))))) (Hy 15 (show ∀ k_,k_<1->AVleL ((nI x2) k_) ((JJ x2) k_) from(B9 (Aw (F:=(JJ x2)) (A2 (D1 x2))))))) (Ac q bi Xa (Gl (Le.trans (Hy 13 (show ∀ k_,k_<1->AVleL ((λ(i_:Nat)=>AV.eraseAll (λn_=>Bj n_ Xa) ((UZ x1) i_)) k_) ((UZ x1) k_) from(B9 (Aw (F:=(UZ x1)) (A2 (D1 x1)))))) (Hy 15 (show ∀ k_,k_<1->AVleL ((nI x2) k_) ((JJ x2) k_) from(B9 (Aw (F:=(JJ x2)) (A2 (D1 x2))))))) (tL q h bi Xa (λu (i3,z4)=>(Do u [(11,(Z6 i3))] [(13,.arr 1025 105 1 (ZL z4))])) (λu z5=>aG Γ (.exit 0) (N4 ia Xa u [] [(13,.arr 1025 105 1 (λ(_:Nat)=>Er z5))])) (λ⟨i3,z4⟩ y h=>Ac q [1,3,8,9,10,11,17] Xa (Gl (Le.trans (Hy 13 (show ∀ k_,k_<1->AVleL ((λ(i_:Nat)=>AV.eraseAll (λn_=>Bj n_ Xa) ((ZL z4) i_)) k_) ((ZL z4) k_) from(B9 (Aw (F:=(ZL z4)) (A2 (D1 z4)))))) (Hy 15 (show ∀ k_,k_<1->AVleL ((nI x2) k_) ((JJ x2) k_) from(B9 (Aw (F:=(JJ x2)) (A2 (D1 x2))))))) (gC h (λh=>tC h λc6_ h=>tC h λc7_ h=>tC h λc8_ h=>gR q bi Xa [(27,(.int .u64 (z4.Scale.getD i3.toNat 0))),(35,(.int .u64 (x2.Scale.getD i3.toNat 0)))] [] (xT c6_ (Eq.refl 1) (show((0+i3.toNat*1)<1025) from(IK c6_ (by kernel_rfl))) (show(AVle (((ZL z4) 0).getD (0+i3.toNat*1) .any) (.int .u64 (z4.Scale.getD i3.toNat 0))) from(IL (Qs z4) c6_ rfl)) c7_ (Eq.refl 1) (show((0+i3.toNat*1)<1025) from(IK c7_ (by kernel_rfl))) (show(AVle (((JJ x2) 0).getD (0+i3.toNat*1) .any) (.int .u64 (x2.Scale.getD i3.toNat 0))) from(IL (Qs x2) c7_ rfl)) c8_ (c2 (Eq.refl 1) (show((0+i3.toNat*1)+([(Me (UY z4 i3 v1 x2 v2))]:List AV).length<=1025) from(Yn c8_ (by kernel_rfl))))) (Gl (Le.trans (Hy 13 (show ∀ k_,k_<1->AVleL ((λ(i_:Nat)=>AV.eraseAll (λn_=>Bj n_ Xa) ((Eb (ZL z4) 0 (0+i3.toNat*1) [(Me (UY z4 i3 v1 x2 v2))]) i_)) k_) ((sD z4 i3 v1 x2 v2) k_) from(B9 (Aw (F:=(Eb (ZL z4) 0 (0+i3.toNat*1) [(Me (UY z4 i3 v1 x2 v2))])) (GE (F:=(ZL z4)) (G:=(ZL z4)) (cs:=[(Me (UY z4 i3 v1 x2 v2))]) (cs':=JS (UY z4 i3 v1 x2 v2)) (A2 (D1 z4)) (λ_=>rfl) (show AVleL [(Me (UY z4 i3 v1 x2 v2))] (JS (UY z4 i3 v1 x2 v2)) from AVleL.refl _) (CD z4 i3 c8_ (UY z4 i3 v1 x2 v2))))))) (Hy 15 (show ∀ k_,k_<1->AVleL ((nI x2) k_) ((JJ x2) k_) from(B9 (Aw (F:=(JJ x2)) (A2 (D1 x2))))))) (Ac q bi Xa (tS h (gN (Le.trans (Le.trans (Hy 13 (show ∀ k_,k_<1->AVleL ((λ(i_:Nat)=>AV.eraseAll (λn_=>Bj n_ Xa) ((sD z4 i3 v1 x2 v2) i_)) k_) ((sD z4 i3 v1 x2 v2) k_) from(B9 (Aw (F:=(sD z4 i3 v1 x2 v2)) (A2 (D1 (⟨Fx 1024 (0:Int) z4.Scale i3.toNat (UY z4 i3 v1 x2 v2),z4.Off⟩:E6))))))) (Hy 15 (show ∀ k_,k_<1->AVleL ((nI x2) k_) ((JJ x2) k_) from(B9 (Aw (F:=(JJ x2)) (A2 (D1 x2))))))) H7)))))) λh=>tS h (gO (Bk (Bn ia Xa q)))))) λx9 h=>gA (tU q Yu [8,13] (c6 (Eq.refl 1) (show(1024<1025) from(by decide)) (Eq.refl 1) (show(1024<1025) from(by decide)) (Eq.refl 1) (show(1024+([(Me (ZK x9 v1 x2 v2))]:List AV).length<=1025) from(nl rfl))) (Gl (Hy 13 (show ∀ k_,k_<1->AVleL ((λ(i_:Nat)=>AV.eraseAll (λn_=>Bj n_ [8,13]) ((Eb (λ(_:Nat)=>Er x9) 0 1024 [(Me (ZK x9 v1 x2 v2))]) i_)) k_) ((λ(_:Nat)=>Er (⟨x9.Scale,(ZK x9 v1 x2 v2)⟩:E6)) k_) from(B9 (Aw (F:=(Eb (λ(_:Nat)=>Er x9) 0 1024 [(Me (ZK x9 v1 x2 v2))])) (GE (F:=(λ(_:Nat)=>Er x9)) (G:=(λ(_:Nat)=>Er x9)) (cs:=[(Me (ZK x9 v1 x2 v2))]) (cs':=JS (ZK x9 v1 x2 v2)) (A2 (D1 x9)) (λ_=>rfl) (show AVleL [(Me (ZK x9 v1 x2 v2))] (JS (ZK x9 v1 x2 v2)) from AVleL.refl _) (bW x9 (ZK x9 v1 x2 v2))))))) (tB h λx11 y11 h=>tT q [8] [8] [⟨[(13,34000)],[],(Pd x11.1),[(34000,.arr 1025 105 1 (λ(_:Nat)=>Er x11.2))],[],[]⟩] (c1 (Ui y11)) (tS h (B2 []))))))))))))
def Pc(a4:A4):=(λ(_:Nat)=>Ak a4)
def cJ(z13:A4):=(λ(_:Nat)=>Ak z13)
def T7(a4:A4)(a2:Int):=(a4.Op.getD a2.toNat default)
def kZ(z6:A4)(a2:Int):=(⟨z6.Op,Fx 1024 false z6.Found a2.toNat true,z6.Form⟩:A4)
def nL(z6:A4)(a2:Int):=(λ(_:Nat)=>Ak (kZ z6 a2))
def kg:List AV:=Z5
def ka(l4:List Ar)(i5:Int):List AV:=(Z8 l4 i5)
def ve(a4:A4):=(λ(i_:Nat)=>AV.eraseAll (λn_=>Bj n_ [4,34000]) ((Pc a4) i_))
def sE(a4:A4)(a2:Int):=(bif (((T7 a4 a2).Kind:Int)==1) then true else(((T7 a4 a2).Kind:Int)==2))
def vf(a4:A4)(a2:Int):=(bif (sE a4 a2) then true else(((T7 a4 a2).Kind:Int)==3))
def va(a2:Int):List PI:=[(0,(.vpt 34000 1 0 0)),(1,(Z6 a2)),ZQ,cP]
def sF(a4:A4):=(λ(i_:Nat)=>AV.eraseAll (λn_=>Bj n_ [4,5,6,7,34000]) ((Pc a4) i_))
def vd(a4:A4)(a2:Int):=(bif (((T7 a4 a2).Dst:Int)==a2) then(((T7 a4 a2).Bits:Int)==64) else false)
def nJ(a2:Int):List AV:=[(zu a2),FL]
def nK(z6:A4)(a2:Int)(l4:List Ar)(i5:Int):=(⟨(kZ z6 a2).Op,(kZ z6 a2).Found,Fx 1024 (default:Au) (kZ z6 a2).Form a2.toNat (⟨l4,i5⟩:Au)⟩:A4)
abbrev AC:=(Au×A4)
abbrev zY:=(List Ar×Int×A4)
def B6(rec_lockstepref17_Finder_get:A4->Int->Option AC)(rec_lockstepref17_Finder_two:A4->Ce->Au->Option AC)(a4:A4)(a2:Int):Option AC:=
 (A7 (A5 a2 1024) (bif (a4.Found.getD a2.toNat false) then(A7 (A5 a2 1024) (some ((a4.Form.getD a2.toNat default),a4))) else(A7 (A5 a2 1024) (Option.bind (α:=zY) (bif (bif (bif (((a4.Op.getD a2.toNat default).Dst:Int)==a2) then(((a4.Op.getD a2.toNat default).Bits:Int)==64) else false) then(((a4.Op.getD a2.toNat default).Lanes:Int)==1) else false) then(Option.bind (α:=w9) (bif (((a4.Op.getD a2.toNat default).Kind:Int)==0) then(some (([]:List Ar),(a4.Op.getD a2.toNat default).Imm)) else(some (([(⟨a2,(1:Int)⟩:Ar)]:List Ar),(0:Int)))) (λx9=>(match x9 with|(l7,i8)=>(Option.bind (α:=zY) (bif (bif (bif (bif (((a4.Op.getD a2.toNat default).Kind:Int)==1) then true else(((a4.Op.getD a2.toNat default).Kind:Int)==2)) then true else(((a4.Op.getD a2.toNat default).Kind:Int)==3)) then true else(((a4.Op.getD a2.toNat default).Kind:Int)==8)) then((rec_lockstepref17_Finder_two a4 (a4.Op.getD a2.toNat default) (⟨([(⟨a2,(1:Int)⟩:Ar)]:List Ar),(0:Int)⟩:Au)).bind λx14=>(some (x14.1.Terms,x14.1.Off,x14.2))) else(some (l7,i8,a4))) (λx15=>(match x15 with|(l11,i12,z13)=>(bif (decide ((l11.length:Int)<=16)) then(some (l11,i12,z13)) else(some (([(⟨a2,(1:Int)⟩:Ar)]:List Ar),(0:Int),z13))))))))) else(some (([(⟨a2,(1:Int)⟩:Ar)]:List Ar),(0:Int),a4))) (λx17=>(match x17 with|(l4,i5,z6)=>(A7 (A5 a2 1024) (A7 (A5 a2 1024) (some ((⟨l4,i5⟩:Au),(⟨(⟨z6.Op,Fx 1024 false z6.Found a2.toNat true,z6.Form⟩:A4).Op,(⟨z6.Op,Fx 1024 false z6.Found a2.toNat true,z6.Form⟩:A4).Found,Fx 1024 (default:Au) (⟨z6.Op,Fx 1024 false z6.Found a2.toNat true,z6.Form⟩:A4).Form a2.toNat (⟨l4,i5⟩:Au)⟩:A4)))))))))))
def T6(Γ:Ix)(a4:A4)(a2:Ce)(aQ:Au)(r:AC):Exit->St->Prop:=fK Tryz.prog Γ Tryz.f70.results.toList [(34000,.arr 9216 100 1 (λ(_:Nat)=>Ak a4))] (Pd r.1) [(34000,.arr 9216 100 1 (λ(_:Nat)=>Ak r.2))]
def FK(x4:AC):=(Bl x4.2)
def Aaj:=(λn_=>Bj n_ [6,34000])
def Nj(x4:AC):=(λ(_:Nat)=>Ak x4.2)
def Aai:=(λn_=>Bj n_ [5,6,7,8,34000])
def cK(x4:AC):=(λ(i_:Nat)=>AV.eraseAll Aai ((Nj x4) i_))
def kj(x4:AC):=(λ(i_:Nat)=>AV.eraseAll Aaj ((Nj x4) i_))
def sH:List AV:=Z5
def kh:AV:=(.agg [kr,FL])
def Ef(rec_lockstepref17_Finder_get:A4->Int->Option AC)(rec_lockstepref17_Finder_two:A4->Ce->Au->Option AC)(a4:A4)(a2:Ce)(aQ:Au):Option AC:=
 (A7 (A5 (0:Int) a2.Args.length) ((rec_lockstepref17_Finder_get a4 (a2.Args.getD (0:Int).toNat (0:Int))).bind λx2=>(A7 (A5 (1:Int) a2.Args.length) ((rec_lockstepref17_Finder_get x2.2 (a2.Args.getD (1:Int).toNat (0:Int))).bind λx4=>(Option.bind (α:=(Unit ⊕ (Au×A4))) (bif (a2.Kind==1) then((Bc x2.1 (1:Int) x4.1 (1:Int)).bind λx5=>(some (.inr (x5,x4.2)))) else(bif (a2.Kind==2) then((Bc x2.1 (1:Int) x4.1 (18446744073709551615:Int)).bind λx6=>(some (.inr (x6,x4.2)))) else(bif (a2.Kind==3) then(bif ((x4.1.Terms.length:Int)==0) then((Bc x2.1 x4.1.Off (⟨([]:List Ar),(0:Int)⟩:Au) (0:Int)).bind λx7=>(some (.inr (x7,x4.2)))) else(bif ((x2.1.Terms.length:Int)==0) then((Bc x4.1 x2.1.Off (⟨([]:List Ar),(0:Int)⟩:Au) (0:Int)).bind λx8=>(some (.inr (x8,x4.2)))) else(some (.inl ())))) else(bif (a2.Kind==8) then(bif (bif ((x4.1.Terms.length:Int)==0) then(decide ((x4.1.Off:Int)<64)) else false) then(A7 (0<=x4.1.Off) ((Bc x2.1 (GC .u64 (1:Int) x4.1.Off) (⟨([]:List Ar),(0:Int)⟩:Au) (0:Int)).bind λx10=>(some (.inr (x10,x4.2))))) else(some (.inl ()))) else(some (.inl ())))))) (λx11=>(match x11 with|(.inl _)=>(some (aQ,x4.2))|(.inr r13)=>(some r13))))))))
mutual
def Bi:Nat->A4->Int->Option AC
 | 0=>λ_=>λ_=>none
 | n+1=>B6 (Bi n) (Br n)
def Br:Nat->A4->Ce->Au->Option AC
 | 0=>λ_=>λ_=>λ_=>none
 | n+1=>Ef (Bi n) (Br n)
end
def Gw(a4:A4)(a2:Int):Option AC:=lQ λn=>Bi n a4 a2
theorem S1(n:Nat):(∀(a4:A4) a2 (r:AC),Bi n a4 a2=some r->sP 49 [(.vpt 34000 1 0 0),(Z6 a2)] [(34000,.arr 9216 100 1 (λ(_:Nat)=>Ak a4))] (Pd r.1) [(34000,.arr 9216 100 1 (λ(_:Nat)=>Ak r.2))])/\(∀(a4:A4) (a2:Ce) (aQ:Au) (r:AC),Br n a4 a2 aQ=some r->sP 70 [(.vpt 34000 1 0 0),(Uz a2),(Pd aQ)] [(34000,.arr 9216 100 1 (λ(_:Nat)=>Ak a4))] (Pd r.1) [(34000,.arr 9216 100 1 (λ(_:Nat)=>Ak r.2))]):=by
 induction n with
 | zero=>exact⟨(λa4 a2 r h=>by cases h),(λa4 a2 aQ r h=>by cases h)⟩
 | succ n ih=>
  obtain⟨ih_lockstepref17_Finder_get,ih_lockstepref17_Finder_two⟩:=ih;refine⟨?_,?_⟩
  ·intro a4 a2 r h;refine W5 mix Tryz.func49 (λΓ hq=>?_);change B6 (Bi n) (Br n) a4 a2=some r at h;unfold B6 at h;refine Ac hq LZ Yt ?_;refine Gl (Hy 34000 (show ∀ k_,k_<1->AVleL ((ve a4) k_) ((Pc a4) k_) from(B9 (Aw (F:=(Pc a4)) (A2 (Bl a4)))))) ?_;obtain⟨hc1,h⟩:=Jl h;refine gR hq [0,1,4,13] Yt [(13,(.bool (a4.Found.getD a2.toNat false)))] [] (ci hc1 (ci (Eq.refl 1) (ci (show((6144+a2.toNat*1)<9216) from(IK hc1 (by kernel_rfl))) (c1 (show(AVle (((Pc a4) 0).getD (6144+a2.toNat*1) .any) (.bool (a4.Found.getD a2.toNat false))) from(IL (KT a4) hc1 rfl)))))) ?_;refine Gl (Hy 34000 (show ∀ k_,k_<1->AVleL ((ve a4) k_) ((Pc a4) k_) from(B9 (Aw (F:=(Pc a4)) (A2 (Bl a4)))))) ?_;refine gC h ?_ ?_<;>intro h
   ·obtain⟨hc2,h⟩:=Jl h;refine gR hq [4] Yt [(19,(.agg (Ua (a4.Form.getD a2.toNat default))))] [] (ci hc2 (ci (Eq.refl 1) (ci (show((7168+a2.toNat*2)+2<=9216) from(Yn hc2 (by kernel_rfl))) (c1 (show(AVle (.agg ((((Pc a4) 0).drop (7168+a2.toNat*2)).take 2)) (.agg (Ua (a4.Form.getD a2.toNat default)))) from(jz (OH a4) hc2)))))) ?_;cases h;exact gK (e:=.ret) (H6 Uu (Hy 34000 (show ∀ k_,k_<1->AVleL ((ve a4) k_) ((Pc a4) k_) from(B9 (Aw (F:=(Pc a4)) (A2 (Bl a4)))))))
   ·refine gR hq UB FF [(22,(zu a2))] [] (c1 (Bu 2 D0 (default:Ar) ([(⟨a2,(1:Int)⟩:Ar)]:List Ar))) ?_;refine Gl (Hy 34000 (show ∀ k_,k_<1->AVleL ((λ(i_:Nat)=>AV.eraseAll (λn_=>Bj n_ FF) ((Pc a4) i_)) k_) ((Pc a4) k_) from(B9 (Aw (F:=(Pc a4)) (A2 (Bl a4)))))) ?_;obtain⟨hc3,h⟩:=Jl h;refine gR hq [0,1,4,5,6] YY [(29,(Uz (T7 a4 a2)))] [] (ci hc3 (ci (Eq.refl 1) (ci (show((0+a2.toNat*6)+6<=9216) from(Yn hc3 (by kernel_rfl))) (c1 (show(AVle (.agg ((((Pc a4) 0).drop (0+a2.toNat*6)).take 6)) (Uz (T7 a4 a2))) from(jz (WA a4) hc3)))))) ?_;refine Gl (Hy 34000 (show ∀ k_,k_<1->AVleL ((λ(i_:Nat)=>AV.eraseAll (λn_=>Bj n_ YY) ((Pc a4) i_)) k_) ((Pc a4) k_) from(B9 (Aw (F:=(Pc a4)) (A2 (Bl a4)))))) ?_;obtain⟨x17,hx17,h⟩:=bind_some h;refine gJ hx17 (λ(l4,i5,z6)=>aG Γ .normal (⟨(va a2),[(4,.row 57 kg),(5,.row 57 (ka l4 i5)),(34000,.arr 9216 100 1 (λ(_:Nat)=>Ak z6))],[]⟩:St)) ?_ ?_
    ·clear h hx17;intro y h;refine gR hq [0,1,4,5,6,43] YY [] [] (ci (gI ((((T7 a4 a2).Dst:Int)==a2)==true)) (ci (gI ((((T7 a4 a2).Dst:Int)==a2)==true)) (ci (M3 (((T7 a4 a2).Dst:Int)==a2)) (ci (gI ((vd a4 a2)==true)) (ci (gI ((vd a4 a2)==true)) (c1 (M3 (vd a4 a2)))))))) ?_;refine Gl (Hy 34000 (show ∀ k_,k_<1->AVleL ((λ(i_:Nat)=>AV.eraseAll (λn_=>Bj n_ YY) ((Pc a4) i_)) k_) ((Pc a4) k_) from(B9 (Aw (F:=(Pc a4)) (A2 (Bl a4)))))) ?_;refine gC h ?_ ?_<;>intro h
     ·refine Ac hq iV UL ?_;refine Gl (Hy 34000 (show ∀ k_,k_<1->AVleL ((sF a4) k_) ((Pc a4) k_) from(B9 (Aw (F:=(Pc a4)) (A2 (Bl a4)))))) ?_;obtain⟨x9,hx9,h⟩:=bind_some h;refine gJ hx9 (λ(l7,i8)=>aG Γ .normal (⟨[(0,(.vpt 34000 1 0 0)),(1,(Z6 a2)),ZQ,cP,PQ,cO],[(4,.row 57 kg),(5,.row 57 (nJ a2)),(6,.row 46 [(.int .i64 (T7 a4 a2).Kind),(.int .i64 (T7 a4 a2).Bits),(.int .i64 (T7 a4 a2).Lanes),(.int .i64 (T7 a4 a2).Dst),(AV.list 1 As 0 (T7 a4 a2).Args .none),(.int .u64 (T7 a4 a2).Imm)]),(7,.row 57 [(AV.list 2 D0 default l7 .exact),(Me i8)]),(34000,.arr 9216 100 1 (Pc a4))],[]⟩:St)) ?_ ?_
      ·clear h hx9;intro y h;refine Ac hq [0,1,4,5,6,7,47] UL ?_;refine Gl (Hy 34000 (show ∀ k_,k_<1->AVleL ((sF a4) k_) ((Pc a4) k_) from(B9 (Aw (F:=(Pc a4)) (A2 (Bl a4)))))) ?_;refine gC h ?_ ?_<;>intro h
       ·refine gR hq iV UL [(50,(.agg [kr,(.int .u64 (T7 a4 a2).Imm)]))] [] (c1 (show(AVle (.agg [PP,(.int .u64 (T7 a4 a2).Imm)]) (.agg [kr,(.int .u64 (T7 a4 a2).Imm)])) from(AVle.agg (.cons Cs (.cons (AVle.refl _) .nil))))) ?_;cases h;exact gK (Bk (Le.trans (Hy 34000 (show ∀ k_,k_<1->AVleL ((sF a4) k_) ((Pc a4) k_) from(B9 (Aw (F:=(Pc a4)) (A2 (Bl a4)))))) H7))
       ·cases h;exact gK (Bk (Bn iV UL hq))
      ·clear hx9;rcases x9 with⟨l7,i8⟩;refine gA ?_;obtain⟨x15,hx15,h⟩:=bind_some h;refine gJ hx15 (λ(l11,i12,z13)=>aG Γ .normal (⟨[(0,(.vpt 34000 1 0 0)),(1,(Z6 a2)),ZQ,cP,cO],[(4,.row 57 kg),(5,.row 57 (nJ a2)),(7,.row 57 (Z8 l11 i12)),(34000,.arr 9216 100 1 (cJ z13))],[]⟩:St)) ?_ ?_
       ·clear h hx15;intro y h;refine gR hq [0,1,4,5,6,7,68] UL [] [] (ci (gI ((((T7 a4 a2).Kind:Int)==1)==false)) (ci (gI ((((T7 a4 a2).Kind:Int)==1)==false)) (ci (Ja (((T7 a4 a2).Kind:Int)==1)) (ci (gI ((sE a4 a2)==false)) (ci (gI ((sE a4 a2)==false)) (ci (Ja (sE a4 a2)) (ci (gI ((vf a4 a2)==false)) (ci (gI ((vf a4 a2)==false)) (c1 (Ja (vf a4 a2))))))))))) ?_;refine Gl (Hy 34000 (show ∀ k_,k_<1->AVleL ((sF a4) k_) ((Pc a4) k_) from(B9 (Aw (F:=(Pc a4)) (A2 (Bl a4)))))) ?_;refine gC h ?_ ?_<;>intro h
        ·obtain⟨x14,hx14,h⟩:=bind_some h;refine gR hq [0,1,4,5,7] TL [] [⟨Uu,[],(Pd x14.1),[(34000,.arr 9216 100 1 (λ(_:Nat)=>Ak x14.2))],[],[]⟩] (c1 (ih_lockstepref17_Finder_two a4 (T7 a4 a2) (⟨([(⟨a2,(1:Int)⟩:Ar)]:List Ar),(0:Int)⟩:Au) x14 hx14)) ?_;cases h;exact gK (Bk (Le.trans (Hy 34000 (show ∀ k_,k_<1->AVleL ((λ(i_:Nat)=>AV.eraseAll (λn_=>Bj n_ TL) ((λ(_:Nat)=>Ak x14.2) i_)) k_) ((λ(_:Nat)=>Ak x14.2) k_) from(B9 (Aw (F:=(λ(_:Nat)=>Ak x14.2)) (A2 (Bl x14.2)))))) H7))
        ·cases h;exact gK (Bk (Le.trans (Bn (st':=⟨[(0,(.vpt 34000 1 0 0)),(1,(Z6 a2)),ZQ,cP,cO],[(4,.row 57 kg),(5,.row 57 (nJ a2)),(7,.row 57 [(AV.list 2 D0 default l7 .exact),(Me i8)]),(34000,.arr 9216 100 1 (Pc a4))],[]⟩) [0,1,4,5,7] TL hq) (Fg (.cons (AVle.refl _) (.cons (AVle.refl _) (.cons (AVle.refl _) (.cons (AVle.refl _) (.cons (AVle.refl _) .nil))))) (.same (.same (.row (.cons AVle.untag (.cons (AVle.refl _) .nil)) (.same .nil)))))))
       ·clear hx15;rcases x15 with⟨l11,i12,z13⟩;refine gA ?_;refine Ac hq [0,1,4,5,7,76] TL ?_;refine Gl (Hy 34000 (show ∀ k_,k_<1->AVleL ((λ(i_:Nat)=>AV.eraseAll (λn_=>Bj n_ TL) ((cJ z13) i_)) k_) ((cJ z13) k_) from(B9 (Aw (F:=(cJ z13)) (A2 (Bl z13)))))) ?_;refine gC h ?_ ?_<;>intro h
        ·refine Ac hq UB FF ?_;cases h;exact gK (Bk (Le.trans (Hy 34000 (show ∀ k_,k_<1->AVleL ((λ(i_:Nat)=>AV.eraseAll (λn_=>Bj n_ FF) ((cJ z13) i_)) k_) ((cJ z13) k_) from(B9 (Aw (F:=(cJ z13)) (A2 (Bl z13)))))) H7))
        ·cases h;exact gK (Bk (Le.trans (Bn (st':=⟨(va a2),[(4,.row 57 kg),(5,.row 57 (nJ a2)),(34000,.arr 9216 100 1 (cJ z13))],[]⟩) UB FF hq) (Fg (.cons (AVle.refl _) (.cons (AVle.refl _) (.cons (AVle.refl _) (.cons (AVle.refl _) .nil)))) (.same (.row (.cons AVle.untag (.cons (AVle.refl _) .nil)) (.same .nil))))))
     ·cases h;exact gK (Bk (Le.trans (Bn (st':=⟨(va a2),[(4,.row 57 kg),(5,.row 57 (nJ a2)),(34000,.arr 9216 100 1 (Pc a4))],[]⟩) UB FF hq) (Fg (.cons (AVle.refl _) (.cons (AVle.refl _) (.cons (AVle.refl _) (.cons (AVle.refl _) .nil)))) (.same (.row (.cons AVle.untag (.cons (AVle.refl _) .nil)) (.same .nil))))))
    ·clear hx17;rcases x17 with⟨l4,i5,z6⟩;refine gA ?_;obtain⟨hc19,h⟩:=Jl h;refine gR hq UB FF [] [] (ci hc19 (ci (Eq.refl 1) (c1 (show((6144+a2.toNat*1)+([(.bool true)]:List AV).length<=9216) from(Yn hc19 (by kernel_rfl)))))) ?_;refine Gl (Hy 34000 (show ∀ k_,k_<1->AVleL ((λ(i_:Nat)=>AV.eraseAll (λn_=>Bj n_ FF) ((Eb (λ(_:Nat)=>Ak z6) 0 (6144+a2.toNat*1) [(.bool true)]) i_)) k_) ((nL z6 a2) k_) from(B9 (Aw (F:=(Eb (λ(_:Nat)=>Ak z6) 0 (6144+a2.toNat*1) [(.bool true)])) (GE (F:=(λ(_:Nat)=>Ak z6)) (G:=(λ(_:Nat)=>Ak z6)) (cs:=[(.bool true)]) (cs':=eB true) (A2 (Bl z6)) (λ_=>rfl) (show AVleL [(.bool true)] (eB true) from AVleL.refl _) (KU z6 a2 hc19 true)))))) ?_;obtain⟨hc20,h⟩:=Jl h;refine gR hq R3 FF [] [] (ci hc20 (ci (Eq.refl 1) (c1 (show((7168+a2.toNat*2)+((ka l4 i5):List AV).length<=9216) from(Yn hc20 (by kernel_rfl)))))) ?_;refine Gl (Hy 34000 (show ∀ k_,k_<1->AVleL ((λ(i_:Nat)=>AV.eraseAll (λn_=>Bj n_ FF) ((Eb (nL z6 a2) 0 (7168+a2.toNat*2) (ka l4 i5)) i_)) k_) ((λ(_:Nat)=>Ak (nK z6 a2 l4 i5)) k_) from(B9 (Aw (F:=(Eb (nL z6 a2) 0 (7168+a2.toNat*2) (ka l4 i5))) (GE (F:=(nL z6 a2)) (G:=(nL z6 a2)) (cs:=(ka l4 i5)) (cs':=Ua (⟨l4,i5⟩:Au)) (A2 (Bl (kZ z6 a2))) (λ_=>rfl) (show AVleL (ka l4 i5) (Ua (⟨l4,i5⟩:Au)) from AVleL.refl _) (OJ (kZ z6 a2) a2 hc20 (⟨l4,i5⟩:Au))))))) ?_;refine Ac hq [4] Yt ?_;cases h;exact gK (e:=.ret) (H6 Uu (Hy 34000 (show ∀ k_,k_<1->AVleL ((λ(i_:Nat)=>AV.eraseAll (λn_=>Bj n_ Yt) ((λ(_:Nat)=>Ak (nK z6 a2 l4 i5)) i_)) k_) ((λ(_:Nat)=>Ak (nK z6 a2 l4 i5)) k_) from(B9 (Aw (F:=(λ(_:Nat)=>Ak (nK z6 a2 l4 i5))) (A2 (Bl (nK z6 a2 l4 i5))))))))
  ·intro a4 a2 aQ r h;refine W5 mix Tryz.func70 (λΓ hq=>?_);change Ef (Bi n) (Br n) a4 a2 aQ=some r at h;unfold Ef at h;refine Ac hq [0,4,5,6] YY ?_;refine Gl (Hy 34000 (show ∀ k_,k_<1->AVleL ((λ(i_:Nat)=>AV.eraseAll (λn_=>Bj n_ YY) ((λ(_:Nat)=>Ak a4) i_)) k_) ((λ(_:Nat)=>Ak a4) k_) from(B9 (Aw (F:=(λ(_:Nat)=>Ak a4)) (A2 (Bl a4)))))) ?_;obtain⟨hc1,h⟩:=Jl h;obtain⟨x2,hx2,h⟩:=bind_some h;refine gR hq [0,4,5,6,7] UL [] [⟨Uu,[],(Pd x2.1),[(34000,.arr 9216 100 1 (λ(_:Nat)=>Ak x2.2))],[],[]⟩] (ci hc1 (c1 (ih_lockstepref17_Finder_get a4 (a2.Args.getD (0:Int).toNat (0:Int)) x2 hx2))) ?_;refine Gl (Hy 34000 (show ∀ k_,k_<1->AVleL ((λ(i_:Nat)=>AV.eraseAll (λn_=>Bj n_ UL) ((λ(_:Nat)=>Ak x2.2) i_)) k_) ((λ(_:Nat)=>Ak x2.2) k_) from(B9 (Aw (F:=(λ(_:Nat)=>Ak x2.2)) (A2 (Bl x2.2)))))) ?_;obtain⟨hc3,h⟩:=Jl h;obtain⟨x4,hx4,h⟩:=bind_some h;refine gR hq [4,5,6,7,8] [4,5,6,7,8,34000] [] [⟨Uu,[],(Pd x4.1),[(34000,.arr 9216 100 1 (Nj x4))],[],[]⟩] (ci hc3 (c1 (ih_lockstepref17_Finder_get x2.2 (a2.Args.getD (1:Int).toNat (0:Int)) x4 hx4))) ?_;refine Gl (Hy 34000 (show ∀ k_,k_<1->AVleL ((λ(i_:Nat)=>AV.eraseAll (λn_=>Bj n_ [4,5,6,7,8,34000]) ((Nj x4) i_)) k_) ((Nj x4) k_) from(B9 (Aw (F:=(Nj x4)) (A2 (FK x4)))))) ?_;obtain⟨x11,hx11,h⟩:=bind_some h;refine gJ hx11 (λx_=>match x_ with|(.inl _)=>aG Γ .normal (⟨[cP,PQ],[(5,.row 57 (Z8 aQ.Terms aQ.Off)),(6,.row 57 sH),(34000,.arr 9216 100 1 (Nj x4))],[]⟩:St)|(.inr r_)=>aR (T6 Γ a4 a2 aQ r_)) ?_ ?_
   ·clear h hx11;intro y h;refine Ac hq [5,6,7,8,22] NO ?_;refine Gl (Hy 34000 (show ∀ k_,k_<1->AVleL ((cK x4) k_) ((Nj x4) k_) from(B9 (Aw (F:=(Nj x4)) (A2 (FK x4)))))) ?_;refine Ac hq [5,6,7,8,22,23] NO ?_;refine Gl (Hy 34000 (show ∀ k_,k_<1->AVleL ((cK x4) k_) ((Nj x4) k_) from(B9 (Aw (F:=(Nj x4)) (A2 (FK x4)))))) ?_;refine gC h ?_ ?_<;>intro h
    ·obtain⟨x5,hx5,h⟩:=bind_some h;refine gR hq [6] LX [] [(iz x5)] (c1 (Gj hx5)) ?_;cases h;exact gK (M1 (H6 Uu (Hy 34000 (show ∀ k_,k_<1->AVleL ((kj x4) k_) ((Nj x4) k_) from(B9 (Aw (F:=(Nj x4)) (A2 (FK x4))))))))
    ·refine Ac hq [5,6,7,8,22,28] NO ?_;refine Gl (Hy 34000 (show ∀ k_,k_<1->AVleL ((cK x4) k_) ((Nj x4) k_) from(B9 (Aw (F:=(Nj x4)) (A2 (FK x4)))))) ?_;refine gC h ?_ ?_<;>intro h
     ·obtain⟨x6,hx6,h⟩:=bind_some h;refine gR hq [6] LX [] [(iz x6)] (c1 (Gj hx6)) ?_;cases h;exact gK (M1 (H6 Uu (Hy 34000 (show ∀ k_,k_<1->AVleL ((kj x4) k_) ((Nj x4) k_) from(B9 (Aw (F:=(Nj x4)) (A2 (FK x4))))))))
     ·refine Ac hq [5,6,7,8,22,33] NO ?_;refine Gl (Hy 34000 (show ∀ k_,k_<1->AVleL ((cK x4) k_) ((Nj x4) k_) from(B9 (Aw (F:=(Nj x4)) (A2 (FK x4)))))) ?_;refine gC h ?_ ?_<;>intro h
      ·refine Ac hq [5,6,7,8,38] NO ?_;refine Gl (Hy 34000 (show ∀ k_,k_<1->AVleL ((cK x4) k_) ((Nj x4) k_) from(B9 (Aw (F:=(Nj x4)) (A2 (FK x4)))))) ?_;refine gC h ?_ ?_<;>intro h
       ·obtain⟨x7,hx7,h⟩:=bind_some h;refine gR hq [6] LX [(42,kh)] [(iz x7)] (ci (show(AVle (.agg sH) kh) from(AVle.agg (.cons Cs (.cons (AVle.refl _) .nil)))) (c1 (Gj hx7))) ?_;cases h;exact gK (M1 (H6 Uu (Hy 34000 (show ∀ k_,k_<1->AVleL ((kj x4) k_) ((Nj x4) k_) from(B9 (Aw (F:=(Nj x4)) (A2 (FK x4))))))))
       ·refine Ac hq [5,6,7,8,47] NO ?_;refine Gl (Hy 34000 (show ∀ k_,k_<1->AVleL ((cK x4) k_) ((Nj x4) k_) from(B9 (Aw (F:=(Nj x4)) (A2 (FK x4)))))) ?_;refine gC h ?_ ?_<;>intro h
        ·obtain⟨x8,hx8,h⟩:=bind_some h;refine gR hq [6] LX [(51,kh)] [(iz x8)] (ci (show(AVle (.agg sH) kh) from(AVle.agg (.cons Cs (.cons (AVle.refl _) .nil)))) (c1 (Gj hx8))) ?_;cases h;exact gK (M1 (H6 Uu (Hy 34000 (show ∀ k_,k_<1->AVleL ((kj x4) k_) ((Nj x4) k_) from(B9 (Aw (F:=(Nj x4)) (A2 (FK x4))))))))
        ·cases h;exact gK (Bk (Bn [5,6] iq hq))
      ·refine Ac hq [5,6,7,8,53] NO ?_;refine Gl (Hy 34000 (show ∀ k_,k_<1->AVleL ((cK x4) k_) ((Nj x4) k_) from(B9 (Aw (F:=(Nj x4)) (A2 (FK x4)))))) ?_;refine gC h ?_ ?_<;>intro h
       ·refine gR hq [5,6,7,8,63] NO [] [] (ci (gI (((x4.1.Terms.length:Int)==0)==true)) (ci (gI (((x4.1.Terms.length:Int)==0)==true)) (c1 (M3 ((x4.1.Terms.length:Int)==0))))) ?_;refine Gl (Hy 34000 (show ∀ k_,k_<1->AVleL ((cK x4) k_) ((Nj x4) k_) from(B9 (Aw (F:=(Nj x4)) (A2 (FK x4)))))) ?_;refine gC h ?_ ?_<;>intro h
        ·obtain⟨hc9,h⟩:=Jl h;obtain⟨x10,hx10,h⟩:=bind_some h;refine gR hq [6] LX [(68,kh)] [(iz x10)] (ci hc9 (ci (show(AVle (.agg sH) kh) from(AVle.agg (.cons Cs (.cons (AVle.refl _) .nil)))) (c1 (Gj hx10)))) ?_;cases h;exact gK (M1 (H6 Uu (Hy 34000 (show ∀ k_,k_<1->AVleL ((kj x4) k_) ((Nj x4) k_) from(B9 (Aw (F:=(Nj x4)) (A2 (FK x4))))))))
        ·cases h;exact gK (Bk (Bn [5,6] iq hq))
       ·cases h;exact gK (Bk (Bn [5,6] iq hq))
   ·clear hx11;rcases x11 with _|r13
    ·refine gA ?_;refine Ac hq [6] LX ?_;cases h;exact gK (e:=.ret) (H6 Uu (Hy 34000 (show ∀ k_,k_<1->AVleL ((kj x4) k_) ((Nj x4) k_) from(B9 (Aw (F:=(Nj x4)) (A2 (FK x4)))))))
    ·refine P4 (λst' hk=>?_);obtain rfl:=OI h;exact gK hk
variable{v52:AC}
theorem Ts(h:Gw v49 v1=some v52):sP 49 [(.vpt 34000 1 0 0),(Z6 v1)] [(34000,.arr 9216 100 1 (λ(_:Nat)=>Ak v49))] (Pd v52.1) [(34000,.arr 9216 100 1 (λ(_:Nat)=>Ak v52.2))]:=by
 obtain⟨n,hn⟩:=WV h;exact(S1 n).1 v49 v1 v52 hn
def Gv(a4:A4)(aA:Int):Option AC:=
 ((Gw a4 aA).bind λx1=>(some (x1.1,x1.2)))
theorem Nc(h:Gv v49 v1=some v52):sP 28 [(.vpt 34000 1 0 0),(Z6 v1)] [(34000,.arr 9216 100 1 (λ(_:Nat)=>Ak v49))] (Pd v52.1) [(34000,.arr 9216 100 1 (λ(_:Nat)=>Ak v52.2))]:=
 sG Tryz.func28 λΓ q=>Ac q LZ Yt (Gl (Hy 34000 (show ∀ k_,k_<1->AVleL ((λ(i_:Nat)=>AV.eraseAll (λn_=>Bj n_ Yt) ((λ(_:Nat)=>Ak v49) i_)) k_) ((λ(_:Nat)=>Ak v49) k_) from(B9 (Aw (F:=(λ(_:Nat)=>Ak v49)) (A2 (Bl v49)))))) (tB h λx1 y1 h=>tT q [4] Yt [⟨Uu,[],(Pd x1.1),[(34000,.arr 9216 100 1 (λ(_:Nat)=>Ak x1.2))],[],[]⟩] (c1 (Ts y1)) (tS h (gK (e:=.ret) (H6 Uu (Hy 34000 (show ∀ k_,k_<1->AVleL ((λ(i_:Nat)=>AV.eraseAll (λn_=>Bj n_ Yt) ((λ(_:Nat)=>Ak x1.2) i_)) k_) ((λ(_:Nat)=>Ak x1.2) k_) from(B9 (Aw (F:=(λ(_:Nat)=>Ak x1.2)) (A2 (Bl x1.2)))))))))))
def Ft(a0:TFunc)(aC:Int)(aB:Int)(aE:Int):Option IX:=
 ((Cg a0 aC aB).bind λx1=>((Cg a0 aC aE).bind λx2=>(bif (bif (!x1.2.2) then true else(!x2.2.2)) then(some ((0:Int),false)) else((Lj a0).bind λx3=>((Gv x3 x1.1).bind λx4=>((Gv x4.2 x2.1).bind λx5=>((Bc x5.1 (1:Int) x4.1 (18446744073709551615:Int)).bind λx6=>(bif ((x6.Terms.length:Int)!=0) then(some ((0:Int),false)) else(some (x6.Off,true))))))))))
variable{v20:Int}{v44:IX}
theorem Oi(h:Ft v0 v1 v2 v20=some v44):sP 12 [(FM v0),(Z6 v1),(Z6 v2),(Z6 v20)] [] (.tuple [(Me v44.1),(.bool v44.2)]) []:=
 sG Tryz.func12 λΓ q=>Ac q LV [4] (tB h λx1 y1 h=>tT q [1,3,4,10,12] [4] [(ui x1.1 x1.2.1 x1.2.2)] (c1 (Ea y1)) (tB h λx2 y2 h=>tT q [4,10,12,13,15] [4] [(ui x2.1 x2.2.1 x2.2.2)] (c1 (Ea y2)) (tU q [4,10,13,41] [4] (c2 (gI ((!x1.2.2)==false)) (Ja (!x1.2.2))) (gC h (λh=>Ac q Yu [] (tS h (B2 []))) λh=>tB h λx3 y3 h=>tT q [10,13,16] [43] [⟨[],[(20000,43)],(.vpt 20000 1 0 0),[(20000,.arr 9216 100 1 (λ(_:Nat)=>Ak x3))],[],[]⟩] (c1 (BQ y3)) (Gl (Hy 43 (show ∀ k_,k_<1->AVleL ((λ(i_:Nat)=>AV.eraseAll (λn_=>Bj n_ [43]) ((λ(_:Nat)=>Ak x3) i_)) k_) ((λ(_:Nat)=>Ak x3) k_) from(B9 (Aw (F:=(λ(_:Nat)=>Ak x3)) (A2 (Bl x3)))))) (tB h λx4 y4 h=>tT q [13,16,17] [17,43] [⟨[(43,34000)],[],(Pd x4.1),[(34000,.arr 9216 100 1 (λ(_:Nat)=>Ak x4.2))],[],[]⟩] (c1 (Nc y4)) (Gl (Hy 43 (show ∀ k_,k_<1->AVleL ((λ(i_:Nat)=>AV.eraseAll (λn_=>Bj n_ [17,43]) ((λ(_:Nat)=>Ak x4.2) i_)) k_) ((λ(_:Nat)=>Ak x4.2) k_) from(B9 (Aw (F:=(λ(_:Nat)=>Ak x4.2)) (A2 (Bl x4.2)))))) (tB h λx5 y5 h=>tT q [17,18] [17,18] [⟨[(43,34000)],[],(Pd x5.1),[(34000,.arr 9216 100 1 (λ(_:Nat)=>Ak x5.2))],[],[]⟩] (c1 (Nc y5)) (tB h λx6 y6 h=>tT q [19] [19] [(iz x6)] (c1 (Gj y6)) (Ac q [19,56] [19] (gC h (λh=>Ac q Yu [] (tS h (B2 []))) λh=>Ac q Yu [] (tS h (B2 [])))))))))))))
def Cb(x1:IX)(x3:AB)(i4:Int):Int->Option (LR Int (Unit ⊕ Bool)):=
 λ(i5:Int)=>(bif (decide (i5<x3.2.1)) then(bif (((Bo i4):Int)==(Bo (x1.1+(Bo i5)))) then(some (.done (.inr false))) else(some (.next (w64 (i5+1))))) else(some (.done (.inl ()))))
def Cc(x1:IX)(x2:AB)(x3:AB):Int->Option (LR Int (Unit ⊕ Bool)):=
 λ(i4:Int)=>(bif (decide (i4<x2.2.1)) then((Ab (Cb x1 x3 i4) (0:Int)).bind (λx6=>(match x6 with|(.inl _)=>(some (.next (w64 (i4+1))))|(.inr r8)=>(some (.done (.inr r8)))))) else(some (.done (.inl ()))))
def Ra(Γ:Ix)(a0:TFunc)(aC:Int)(aB:Int)(aE:Int)(r:Bool):Exit->St->Prop:=fK Tryz.prog Γ Tryz.f14.results.toList [] (.bool r) []
def J4(a0:TFunc)(aC:Int)(aB:Int)(aE:Int):Option Bool:=
 ((Ft a0 aC aB aE).bind λx1=>(bif (!x1.2) then(some false) else((Cg a0 aC aB).bind λx2=>((Cg a0 aC aE).bind λx3=>((Ab (Cc x1 x2 x3) (0:Int)).bind (λx9=>(match x9 with|(.inl _)=>(some true)|(.inr r11)=>(some r11))))))))
variable{v5:Bool}
theorem Yf(h:J4 v0 v1 v2 v20=some v5):sP 14 [(FM v0),(Z6 v1),(Z6 v2),(Z6 v20)] [] (.bool v5) []:=
 sG Tryz.func14 λΓ q=>Ac q LV [4] (tB h λx1 y1 h=>tT q [1,2,3,4,9,10] [4] [(xP x1.1 x1.2)] (c1 (Oi y1)) (Ac q [1,2,3,4,9,28] [4] (gC h (λh=>Ac q [8] [] (tS h (B2 []))) λh=>tB h λx2 y2 h=>tT q [1,3,4,9,12] [4] [(ui x2.1 x2.2.1 x2.2.2)] (c1 (Ea y2)) (tB h λx3 y3 h=>tT q [9,12,15] [] [(ui x3.1 x3.2.1 x3.2.2)] (c1 (Ea y3)) (Ac q TV [] (tL q h TV [] (λu i4=>(Do u [(17,(Z6 i4))] [])) (λu x_=>match x_ with|(.inl _)=>aG Γ (.exit 0) (⟨[],[],[]⟩:St)|(.inr r_)=>aR (Ra Γ v0 v1 v2 v20 r_)) (λi4 y h=>Ac q [9,12,15,17,47] [] (gC h (λh=>Ac q iR [] (tL q h iR [] (λu i5=>(Do u [(18,(Z6 i5))] [])) (λu x_=>match x_ with|(.inl _)=>aG Γ (.exit 2) (N4 TV [] u [] [])|(.inr r_)=>aR (Ra Γ v0 v1 v2 v20 r_)) (λi5 y h=>Ac q [9,12,15,17,18,52] [] (gC h (λh=>Ac q [9,12,15,17,18,61] [] (gC h (λh=>Ac q [8] [] (tS h (gO (M1 (H6 [] (Le.refl _ _)))))) λh=>Ac q iR [] (tN h))) λh=>tS h (gO (Bk (Bn TV [] q))))) λx6 h=>(match x6,h with | .inl _,h=>gA (Ac q TV [] (tN h)) | .inr r8,h=>P4 (λst' hk=>tS h (gO (M1 hk)))))) λh=>tS h (gO (Bk (Bn [] [] q))))) λx9 h=>(match x9,h with | .inl _,h=>gA (Ac q [8] [] (tS h (B2 []))) | .inr r11,h=>P4 (λst' hk=>tS h (gK hk)))))))))
def Cv(a0:TFunc)(a2:TThree):mU->Option xA:=
 λ((l10,i11):mU)=>(A7 (((bif (decide ((0:Int)<=a2.Block)) then(decide (a2.Block<(a0.Blocks.length:Int))) else false)==true)=true->(A5 a2.Block a0.Blocks.length)) (bif (bif (bif (decide ((0:Int)<=a2.Block)) then(decide (a2.Block<(a0.Blocks.length:Int))) else false) then(decide (i11<(((a0.Blocks.getD (a2.Block).toNat (default:Am)).Ops).length:Int))) else false) then(Option.bind (α:=Az) ((Cg a0 a2.Block i11).bind λx15=>(bif x15.2.2 then(A7 (l10.length+([i11]:Az).length<=room) (some (l10++([i11]:Az)))) else(some l10))) (λx17=>(some (.next (x17,(w64 (i11+1))))))) else(some (.done l10))))
def nM(x3:AB)(x4:AB):=(bif (bif (x3.1 !=x4.1) then true else(x3.2.1 !=x4.2.1)) then true else(x3.2.2 !=x4.2.2))
def sI(x3:AB)(x4:AB)(x5:IX)(x6:IX):=(bif (bif (nM x3 x4) then true else(x5.1 !=x6.1)) then true else(x5.2 !=x6.2))
def nN(x3:AB)(x4:AB)(x5:IX)(x6:IX):=((sI x3 x4 x5 x6)==false)
def Aak(a2:TThree):=((decide ((0:Int)<=a2.Block))==true)
def cL(x3:AB)(x4:AB)(x5:IX)(x6:IX)(x7:Bool)(x8:Bool):=((bif (sI x3 x4 x5 x6) then true else(x7 !=x8))==false)
def vh(a2:TThree)(a0:TFunc):=(bif (decide ((0:Int)<=a2.Block)) then(decide (a2.Block<(a0.Blocks.length:Int))) else false)
def vj(a0:TFunc):List AV:=[(Z7 a0.Params),(Z6 a0.Ret),(OM a0.Blocks)]
def yP(a0:TFunc)(a2:TThree):=(⟨[Ty,fT,(15,(sK 5015)),(16,Mt)],[(Oh 25 (vj a0)),(3,.row 27 [(Z6 a2.Block),(Z6 a2.A),(Z6 a2.B)]),(5015,.tok 1 3 (([]:Az).length))],[]⟩:St)
def Jn(a0:TFunc)(a2:TThree):Option Bool:=
 (m_locksteplaw18_awake.bind λx1=>(bif (!x1) then(some false) else((J1 a0).bind λx2=>(bif (!x2) then(some true) else((Mi a0 a2.Block a2.A).bind λx3=>((Cg a0 a2.Block a2.A).bind λx4=>((Hv a0 a2.Block a2.A a2.B).bind λx5=>((Ft a0 a2.Block a2.A a2.B).bind λx6=>((bif ((bif (bif (bif (bif (x3.1 !=x4.1) then true else(x3.2.1 !=x4.2.1)) then true else(x3.2.2 !=x4.2.2)) then true else(x5.1 !=x6.1)) then true else(x5.2 !=x6.2))==false) then Mw a0 a2.Block a2.A a2.B else some false).bind λx7=>((bif ((bif (bif (bif (bif (x3.1 !=x4.1) then true else(x3.2.1 !=x4.2.1)) then true else(x3.2.2 !=x4.2.2)) then true else(x5.1 !=x6.1)) then true else(x5.2 !=x6.2))==false) then J4 a0 a2.Block a2.A a2.B else some false).bind λx8=>((bif ((bif (bif (bif (bif (bif (x3.1 !=x4.1) then true else(x3.2.1 !=x4.2.1)) then true else(x3.2.2 !=x4.2.2)) then true else(x5.1 !=x6.1)) then true else(x5.2 !=x6.2)) then true else(x7 !=x8))==false) then Kc a0 a2.Block a2.A a2.B else some false).bind λx9=>(bif (bif (bif (bif (bif (bif (bif (x3.1 !=x4.1) then true else(x3.2.1 !=x4.2.1)) then true else(x3.2.2 !=x4.2.2)) then true else(x5.1 !=x6.1)) then true else(x5.2 !=x6.2)) then true else(x7 !=x8)) then true else(x9 !=(bif x6.2 then(x6.1==(Bo x4.2.1)) else false))) then(some false) else((Ab (Cv a0 a2) (([]:Az),(0:Int))).bind (λx19=>((Mj a0 a2.Block).bind λx21=>((C1 x21 x19).bind λx22=>(some x22)))))))))))))))))
theorem ok_locksteplaw18_AliasTells(a0:TFunc)(a2:TThree)(r:Bool)(h:Jn a0 a2=some r):sP 3 [(FM a0),(.agg (eTThree a2))] [] (.bool r) []:=
 sG Tryz.func3 λΓ q=>Ac q C3 C3 (tB h λx1 y1 h=>tT q [2,3,21] C3 [(Z2 x1)] (c1 (X5  x1 y1)) (gC h (λh=>Ac q [4] [] (tS h (B2 []))) λh=>tB h λx2 y2 h=>tT q [2,3,24] C3 [(Z2 x2)] (c1 (Yc y2)) (gC h (λh=>Ac q [4] [] (tS h (B2 []))) λh=>tB h λx3 y3 h=>tT q [2,3,5,6,7] C3 [(ui x3.1 x3.2.1 x3.2.2)] (c1 (Wr y3)) (tB h λx4 y4 h=>tT q [2,3,5,6,7,8,9,10] C3 [(ui x4.1 x4.2.1 x4.2.2)] (c1 (Ea y4)) (tB h λx5 y5 h=>tT q [2,3,5,6,7,8,9,10,11,12] C3 [(xP x5.1 x5.2)] (c1 (Nb y5)) (tB h λx6 y6 h=>tT q [2,3,5,6,7,8,9,10,11,12,13,14] C3 [(xP x6.1 x6.2)] (c1 (Oi y6)) (tB h λx7 y7 h=>tB h λx8 y8 h=>tB h λx9 y9 h=>tT q [2,3,126] C3 [(Z2 x7),(Z2 x8),(Z2 x9)] (M2 ((x3.1 !=x4.1)==false) (ci (Ja (x3.1 !=x4.1)) (M2 ((bif (x3.1 !=x4.1) then true else(x3.2.1 !=x4.2.1))==false) (ci (Ja (bif (x3.1 !=x4.1) then true else(x3.2.1 !=x4.2.1))) (M2 ((nM x3 x4)==false) (ci (Ja (nM x3 x4)) (M2 ((bif (nM x3 x4) then true else(x5.1 !=x6.1))==false) (ci (Ja (bif (nM x3 x4) then true else(x5.1 !=x6.1))) (gI7 (nN x3 x4 x5 x6) (ci (λ(hg:(nN x3 x4 x5 x6)=true)=>(Ug (Bh hg y7))) (gI7 (nN x3 x4 x5 x6) (ci (λ(hg:(nN x3 x4 x5 x6)=true)=>(Yf (Bh hg y8))) (M2 (nN x3 x4 x5 x6) (ci (Ja (sI x3 x4 x5 x6)) (gI7 (cL x3 x4 x5 x6 x7 x8) (e7 (λ(hg:(cL x3 x4 x5 x6 x7 x8)=true)=>(Rr (Bh hg y9))) (gI (cL x3 x4 x5 x6 x7 x8)) (Y1 ((cL x3 x4 x5 x6 x7 x8)&&(x6.2==true)) (e7 (gI (cL x3 x4 x5 x6 x7 x8)) (show((cL x3 x4 x5 x6 x7 x8)=true->(x6.2=true->((cL x3 x4 x5 x6 x7 x8)&&(x6.2==true))=true)) from(λhg=>(aT hg))) (M2 (cL x3 x4 x5 x6 x7 x8) (c1 (Ja (bif (sI x3 x4 x5 x6) then true else(x7 !=x8))))))))))))))))))))))) (gC h (λh=>Ac q [4] [] (tS h (B2 []))) λh=>gR q [2,3,15] C3 [(15,ZP)] [] (c1 (Dp 1 As (0:Int))) (Ac q UO C3 (Gl (st':=(yP a0 a2)) (Le.trans (Bn (st':=⟨[Ty,fT,(15,ZP),(16,Mt)],[(Oh 25 (vj a0)),(3,.row 27 [(Z6 a2.Block),(Z6 a2.A),(Z6 a2.B)])],[]⟩) UO C3 q) (Le.trans (Qb (t:=15) (nm:=5015) (sz':=1) (λi=>As (([]:Az).getD i 0)) 3 rfl rfl (.inl ⟨rfl,rfl⟩) (λh_=>absurd h_ (by decide))) (Bn (st':=(yP a0 a2)) UO FG q))) (tL q h UO FG (λu (l10,i11)=>(Do u [(15,(DW l10 5015)),(16,(Z6 i11))] (VB 5015 l10.length))) (λu l12=>aG Γ (.exit 0) (N4 [2,3,15] FG u [(15,(DW l12 5015))] (VB 5015 l12.length))) (λ⟨l10,i11⟩ y h=>tC h λc13_ h=>tU q [2,3,15,16,149] FG (qz (Aak a2) (ci (M3 (decide ((0:Int)<=a2.Block))) (dC ((vh a2 a0)==true) (ci c13_ (qz ((vh a2 a0)==true) (c1 (M3 (vh a2 a0)))))))) (gC h (λh=>tB h λx17 y17 h=>gJ y17 (λl14=>aG Γ .normal (⟨[Ty,fT,(15,(DW l14 5015)),(16,(Z6 i11))],[(Oh 25 (vj a0)),(3,.row 27 [(Z6 a2.Block),(Z6 a2.A),(Z6 a2.B)]),(5015,.tok 1 3 l14.length)],[]⟩:St)) (λy h=>tB h λx15 y15 h=>tT q [2,3,15,16,19] FG [(ui x15.1 x15.2.1 x15.2.2)] (c1 (Ea y15)) (Ac q [2,3,15,16,161] FG (gC h (λh=>tC h λc16_ h=>gR q UO FG (zw 164 i11 165 l10 5015) [] (c5 (Bu 1 As (0:Int) ([i11]:Az)) (Eq.refl l10.length) c16_ (Ie 1 5015 As (0:Int) l10 ([i11]:Az)) (Ep l10 ([i11]:Az))) (tS h (gK (Bk H7)))) λh=>tS h (gK (Bk (Bn UO FG q)))))) (gA (Ac q UO FG (tN h)))) λh=>tS h (gO (Bk (Bn [2,3,15] FG q))))) λx19 h=>gA (tB h λx21 y21 h=>tB h λx22 y22 h=>tT q [4] [] [(xN 169 x21 x21.length),(Z2 x22)] (c2 (Ws y21) (Hs y22)) (tS h (B2 []))))))))))))))
open Go Go.RowKit
set_option maxRecDepth 100000
set_option maxHeartbeats 2000000
theorem wy{n:Int}(h:(Lit.int .u64 n).wf=true):0<=n/\n<18446744073709551616:=by simp[Lit.wf,IntKind.min,IntKind.max,IntKind.bits,IntKind.signed]at h;omega
abbrev Iall(w:World):Nat->Nat->Prop:=λb o=>∃ u,w.cell? ⟨b,o,none⟩=some u
structure mj(w:World)(cs:List Value)(avs:List AV):Prop where
 len:cs.length=avs.length
 one:∀ j,j<avs.length->(cs.getD j undef).oneCell'=true
 rep:∀ j,j<avs.length->RepV (Iall w) w (cs.getD j undef) (avs.getD j .any)
structure Opens(P:Program)(t:TypeId){α:Type}(e:α->List AV)(ok:α->Prop):Prop where
 get:∀{H:Type} {enc:TypeId×Value->H} {w:World} {base:Nat} {spare:Nat->Bool} {held:Bool} {fuel:Nat} {cs:List Value} {x:DataW H×List MemPlace},
  DataW.trod enc P w base spare held fuel t cs=some x->∃ a,ok a/\mj w cs (e a)
theorem QC{w:World}{v:Value}{x:AV}(h1:v.oneCell'=true)(h:RepV (Iall w) w v x):mj w [v] [x]:=
 ⟨rfl,λj hj=>(by
   have hj0:j=0:=by simpa using hj
   subst hj0
   exact h1),λj hj=>(by
   have hj0:j=0:=by simpa using hj
   subst hj0
   exact h)⟩
theorem XQ{P:Program}{t:TypeId}{k:IntKind}{e:Int->List AV}(ht:P.underlying t=some (.int k))(he:∀ n,e n=[.int k n]):Opens P t e (λn=>(Lit.int k n).wf=true):=by
 refine⟨?_⟩;intro H enc w base spare held fuel cs x h;obtain⟨n,rfl,rfl,hw⟩:=DataW.trod_int ht h;exact⟨n,hw,by rw[he];exact QC rfl (.int _ _)⟩
theorem fm{w:World}{base:Nat}{a:Addr}{n:Nat}{cs:List Value}(h:w.cells? base a n=some cs):cs.length=n/\∀ i,i<n->w.cell? (a.add i)=some (cs.getD i undef):=by
 unfold World.cells? at h
 split at h
 ·have hl:=mapM_some_length h;simp at hl;refine⟨hl,λi hi=>?_⟩;have:=mapM_some_get h i i (by simp[hi]);rw[this];simp[List.getD,show i<cs.length by omega]
 ·cases h
theorem Vj{P:Program}{t el:TypeId}{α:Type}{e:α->List AV}{ok:α->Prop}{sz:Nat}{d:α}{e':List α->List AV}(ht:P.underlying t=some (.slice el))(hs:P.cellsOf el=sz)(h1:1<=sz)(he:Opens P el e ok)(hlen:∀ a,(e a).length=sz)
  (he':∀ l,e' l=[AV.list sz e d l .none]):Opens P t e' (λl=>(∀ a∈l,ok a)/\l.length<=maxLen):=by
 refine⟨?_⟩;intro H enc w base spare held fuel cs x h;rcases DataW.trod_slice ht h with⟨rfl,rfl⟩|⟨a,len,cap,elems,rest,n,_,rfl,rfl,hb,hl,hm,hlen2,hel,_⟩
 ·exact⟨[],⟨by simp,by simp⟩,by rw[he'];exact QC rfl (.slice none 0 0 sz _ (λ_=>undef) (zzL7 _) (by simp) (λh=>by simp at h) (λ_=>rfl) (λj hj=>by simp at hj) (λi hi=>by simp at hi) (λi c hi=>by simp at hi))⟩
 ·have each:∀ i:Fin len,∃ b,ok b/\∃ cs,w.cells? base (a.add (i.1*sz)) sz=some cs/\mj w cs (e b):=λ⟨i,hi⟩=>by
   have:=hel i hi;rw[hs,Tf (by omega),zzL108]at this;obtain⟨cs,hcs,htr⟩:=this;obtain⟨b,hb,hr⟩:=he.get htr;exact⟨b,hb,cs,hcs,hr⟩
  let f:Fin len->α:=λi=>(each i).choose
  have hf:∀ i,ok (f i)/\∃ cs,w.cells? base (a.add (i.1*sz)) sz=some cs/\mj w cs (e (f i)):=λi=>(each i).choose_spec
  have hlf:(List.ofFn f).length=len:=by simp
  refine⟨List.ofFn f,⟨λb hb=>?_,by simp;omega⟩,?_⟩
  ·obtain⟨i,rfl⟩:=List.mem_ofFn.1 hb;exact(hf i).1
  rw[he'];refine QC rfl ?_
  have hcell0:∀ i (hi:i<len),∀ c,c<sz->∃ u,w.cell? ((a.add (i*sz)).add c)=some u/\u.oneCell'=true/\RepV (Iall w) w u ((e (f ⟨i,hi⟩)).getD c .any):=λi hi c hc=>by
   obtain⟨_,cs,hcs,hr⟩:=hf ⟨i,hi⟩;obtain⟨hl,hg⟩:=fm hcs;exact⟨_,hg c hc,hr.one c (by rw[hlen];exact hc),hr.rep c (by rw[hlen];exact hc)⟩
  have hspot:0<len->a.spot=none:=λhp=>by
   obtain⟨u,hu,_⟩:=hcell0 0 hp 0 h1;have h2:=World.cell?_spot hu
   simpa [Addr.add] using h2
  have hcell:∀ i (hi:i<len),∀ c,c<sz->∃ u,w.cell? ⟨a.block,a.off+(i*sz+c),none⟩=some u/\u.oneCell'=true/\RepV (Iall w) w u ((e (f ⟨i,hi⟩)).getD c .any):=λi hi c hc=>by
   obtain⟨u,hu,h1,h2⟩:=hcell0 i hi c hc;have hsp:=hspot (by omega);rw[Mf hsp,O3]at hu;exact⟨u,by rw[<- Ut];exact hu,h1,h2⟩
  have hdm:∀ j,j<len*sz->∃ i c,i<len/\c<sz/\j=i*sz+c:=λj hj=>by
   refine⟨j / sz,j % sz,(TH (by omega)).2 hj,Nat.mod_lt _ (by omega),?_⟩;rw[CO];exact(IZ j sz).symm
  unfold AV.list;rw[hlf];refine .slice (some a) len cap sz _ (λj=>(w.cell? ⟨a.block,a.off+j,none⟩).getD undef) hl hm (λhp=>⟨a,rfl,hspot hp,λj hj=>?_,λj hj=>?_⟩) (λh=>by cases h) (λj hj=>?_) (λi hi=>hlen _) (λi c hi hc=>?_)
  ·obtain⟨i,c,hi,hc,rfl⟩:=hdm j hj;obtain⟨u,hu,_⟩:=hcell i hi c hc;exact⟨u,hu⟩
  ·obtain⟨i,c,hi,hc,rfl⟩:=hdm j hj;obtain⟨u,hu,_⟩:=hcell i hi c hc;rw[hu];rfl
  ·obtain⟨i,c,hi,hc,rfl⟩:=hdm j hj;obtain⟨u,hu,h1,_⟩:=hcell i hi c hc;simp only[hu];exact h1
  ·obtain⟨u,hu,_,h2⟩:=hcell i hi c hc
   have e1:(List.ofFn f).getD i d=f ⟨i,hi⟩:=by simp[List.getD,hi]
   rw[e1,hu];exact h2
structure ZE(P:Program)(fs:List Field)(off N:Nat){α:Type}(e:α->List AV)(ok:α->Prop):Prop where
 get:∀{H:Type} {enc:TypeId×Value->H} {w:World} {base:Nat} {spare:Nat->Bool} {held:Bool} {n:Nat} {cs:List Value},cs.length=N->
  (∀ f∈fs,∃ x,DataW.trod enc P w base spare held n f.type ((cs.drop f.offset).take (P.cellsOf f.type))=some x)->∃ a,ok a/\mj w (cs.drop off) (e a)
theorem Ru{P:Program}{N:Nat}:ZE P [] N N (λ_:Unit=>[]) (λ_=>True):=by
 refine⟨?_⟩;intro H enc w base spare held n cs hN _;rw[List.drop_eq_nil_of_le (by omega)];exact⟨(),trivial,rfl,(λj hj=>by simp at hj),(λj hj=>by simp at hj)⟩
theorem Cj{P:Program}{f:Field}{fs:List Field}{off sz N:Nat}{α β:Type}{e:α->List AV}{ok:α->Prop}{e':β->List AV}{ok':β->Prop}(hoff:f.offset=off)(hsz:P.cellsOf f.type=sz)(hle:off+sz<=N)
  (h:Opens P f.type e ok) (h':ZE P fs (off+sz) N e' ok'):ZE P (f::fs) off N (λp:α×β=>e p.1++e' p.2) (λp=>ok p.1/\ok' p.2):=by
 refine⟨?_⟩;intro H enc w base spare held n cs hN hall;obtain⟨x,hx⟩:=hall f (by simp);rw[hoff,hsz]at hx;obtain⟨a,ha,hr⟩:=h.get hx;obtain⟨b,hb,hr'⟩:=h'.get hN (λg hg=>hall g (by simp[hg]))
 have hl:(e a).length=sz:=by rw[<- hr.len];simp;omega
 have hl':(e' b).length=N-(off+sz):=by rw[<- hr'.len];simp;omega
 have hsplit:cs.drop off=(cs.drop off).take sz++cs.drop (off+sz):=by rw[<- List.drop_drop];exact(List.take_append_drop sz _).symm
 have hl2:((cs.drop off).take sz).length=sz:=by simp;omega
 refine⟨(a,b),⟨ha,hb⟩,?_,λj hj=>?_,λj hj=>?_⟩
 ·simp[hl,hl'];omega
 ·rw[hsplit];replace hj:j<(e a++e' b).length:=hj
  show _
  by_cases hlt:j<sz
  ·have:=hr.one j (by omega);rwa[List.getD,Zc (by omega)]
  ·have:=hr'.one (j-sz) (by simp at hj;omega);rwa[List.getD,CM (by omega),hl2]
 ·rw[hsplit];replace hj:j<(e a++e' b).length:=hj
  show RepV (Iall w) w _ ((e a++e' b).getD j .any)
  by_cases hlt:j<sz
  ·have:=hr.rep j (by omega);rwa[List.getD,Zc (by omega),List.getD,Zc (by omega)]
  ·have:=hr'.rep (j-sz) (by simp at hj;omega);rwa[List.getD,CM (by omega),hl2,List.getD,CM (by omega),hl]
theorem Oe{P:Program}{t:TypeId}{fs:Array Field}{N:Nat}{α:Type}{e:α->List AV}{ok:α->Prop}(ht:P.underlying t=some (.struct fs))(hN:P.cellsOf t=N)(h:ZE P fs.toList 0 N e ok):Opens P t e ok:=by
 refine⟨?_⟩;intro H enc w base spare held fuel cs x hx;obtain⟨xs,n,_,_,hl,hxl,hall⟩:=DataW.trod_struct ht hx
 have:=h.get (n:=n) (hl.trans hN) (enc:=enc) (w:=w) (base:=base) (spare:=spare) (held:=held) (λf hf=>by
  obtain⟨i,hi,rfl⟩:=List.mem_iff_getElem.1 hf
  have hi':i<fs.size:=by simpa using hi
  have:=hall i fs.toList[i] (by simp[hi']);rw[Tf (by omega)]at this
  exact⟨_,this⟩)
 simpa using this
theorem Opens.to{P:Program}{t:TypeId}{α β:Type}{e:α->List AV}{ok:α->Prop}(h:Opens P t e ok){e':β->List AV}{ok':β->Prop}(g:α->β)(he:∀ a,e' (g a)=e a)(hok:∀ a,ok a->ok' (g a)):Opens P t e' ok':=by
 refine⟨?_⟩;intro H enc w base spare held fuel cs x hx;obtain⟨a,ha,hr⟩:=h.get hx;exact⟨g a,hok a ha,by rw[he];exact hr⟩
theorem arg_agg{P:Program}{t:TypeId}{α:Type}{e:α->List AV}{ok:α->Prop}(h:Opens P t e ok){H:Type}{enc:TypeId×Value->H}{w:World}{base:Nat}{spare:Nat->Bool}{held:Bool}{cs:Array Value}{d:DataW H}{ps:List MemPlace}
  (hd:DataW.Trod enc P w base spare held t (.agg cs) d ps):∃ a,ok a/\RepV (Iall w) w (.agg cs) (.agg (e a)):=by
 obtain⟨fuel,hf⟩:=hd;obtain⟨a,ha,hr⟩:=h.get hf;have e1:(Value.agg cs).cells.toList=cs.toList:=rfl;rw[e1]at hr
 have e2:∀ j,cs.toList.getD j undef=cs.getD j undef:=λj=>by simp[Ss,List.getD]
 refine⟨a,ha,.agg _ _ (by simpa using hr.len) (λj hj=>?_) (λj hj=>?_)⟩
 ·rw[<- e2];exact hr.one j hj
 ·rw[<- e2];exact hr.rep j hj
def Vf(n:Int):Prop:=(Lit.int .i64 n).wf=true
theorem KQ:Opens Tryz.prog 3 As Vf:=XQ Tryz.underlying3 (λ_=>rfl)
def KF(l:List (Int)):Prop:=(∀ a∈l,Vf a)/\l.length<=maxLen
theorem dr:Opens Tryz.prog 22 La KF:=Vj (d:=(0:Int)) Tryz.underlying22 (by kernel_rfl) (by decide) KQ (λ_=>rfl) (λ_=>rfl)
def pR(a:Ic):Prop:=Vf a.Bits/\Vf a.Dst/\KF a.From/\KF a.Args/\True
theorem yv:Opens Tryz.prog 68 Y0 pR:=Opens.to (Oe (N:=4) Tryz.underlying68 (by kernel_rfl) (Cj (off:=0) (sz:=1) (N:=4) rfl (by kernel_rfl) (by decide) KQ (Cj (off:=1) (sz:=1) (N:=4) rfl (by kernel_rfl) (by decide) KQ (Cj (off:=2) (sz:=1) (N:=4) rfl (by kernel_rfl) (by decide) dr (Cj (off:=3) (sz:=1) (N:=4) rfl (by kernel_rfl) (by decide) dr Ru))))) (λp=>⟨p.1,p.2.1,p.2.2.1,p.2.2.2.1⟩) (λ_=>rfl) (λ_ h=>h)
def jg(l:List (Ic)):Prop:=(∀ a∈l,pR a)/\l.length<=maxLen
theorem yo:Opens Tryz.prog 36 wP jg:=Vj (d:=(default:Ic)) Tryz.underlying36 (by kernel_rfl) (by decide) yv (λ_=>rfl) (λ_=>rfl)
def u4(n:Int):Prop:=(Lit.int .u64 n).wf=true
theorem yn:Opens Tryz.prog 32 JS u4:=XQ Tryz.underlying32 (λ_=>rfl)
def u3(a:Ce):Prop:=Vf a.Kind/\Vf a.Bits/\Vf a.Lanes/\Vf a.Dst/\KF a.Args/\u4 a.Imm/\True
theorem yu:Opens Tryz.prog 46 Qz u3:=Opens.to (Oe (N:=6) Tryz.underlying46 (by kernel_rfl) (Cj (off:=0) (sz:=1) (N:=6) rfl (by kernel_rfl) (by decide) KQ (Cj (off:=1) (sz:=1) (N:=6) rfl (by kernel_rfl) (by decide) KQ (Cj (off:=2) (sz:=1) (N:=6) rfl (by kernel_rfl) (by decide) KQ (Cj (off:=3) (sz:=1) (N:=6) rfl (by kernel_rfl) (by decide) KQ (Cj (off:=4) (sz:=1) (N:=6) rfl (by kernel_rfl) (by decide) dr (Cj (off:=5) (sz:=1) (N:=6) rfl (by kernel_rfl) (by decide) yn Ru))))))) (λp=>⟨p.1,p.2.1,p.2.2.1,p.2.2.2.1,p.2.2.2.2.1,p.2.2.2.2.2.1⟩) (λ_=>rfl) (λ_ h=>h)
def pN(l:List (Ce)):Prop:=(∀ a∈l,u3 a)/\l.length<=maxLen
theorem yp:Opens Tryz.prog 37 yf pN:=Vj (d:=(default:Ce)) Tryz.underlying37 (by kernel_rfl) (by decide) yu (λ_=>rfl) (λ_=>rfl)
def pQ(a:M0):Prop:=Vf a.Kind/\Vf a.Arg/\KF a.To/\True
theorem yq:Opens Tryz.prog 39 jQ pQ:=Opens.to (Oe (N:=3) Tryz.underlying39 (by kernel_rfl) (Cj (off:=0) (sz:=1) (N:=3) rfl (by kernel_rfl) (by decide) KQ (Cj (off:=1) (sz:=1) (N:=3) rfl (by kernel_rfl) (by decide) KQ (Cj (off:=2) (sz:=1) (N:=3) rfl (by kernel_rfl) (by decide) dr Ru)))) (λp=>⟨p.1,p.2.1,p.2.2.1⟩) (λ_=>rfl) (λ_ h=>h)
def de(a:Am):Prop:=jg a.Phis/\pN a.Ops/\pQ a.End/\True
theorem yr:Opens Tryz.prog 41 Jv de:=Opens.to (Oe (N:=5) Tryz.underlying41 (by kernel_rfl) (Cj (off:=0) (sz:=1) (N:=5) rfl (by kernel_rfl) (by decide) yo (Cj (off:=1) (sz:=1) (N:=5) rfl (by kernel_rfl) (by decide) yp (Cj (off:=2) (sz:=3) (N:=5) rfl (by kernel_rfl) (by decide) yq Ru)))) (λp=>⟨p.1,p.2.1,p.2.2.1⟩) (λ_=>rfl) (λ_ h=>h)
def XN(l:List (Am)):Prop:=(∀ a∈l,de a)/\l.length<=maxLen
theorem ym:Opens Tryz.prog 23 oX XN:=Vj (d:=(default:Am)) Tryz.underlying23 (by kernel_rfl) (by decide) yr (λ_=>rfl) (λ_=>rfl)
def okTFunc(a:TFunc):Prop:=KF a.Params/\Vf a.Ret/\XN a.Blocks/\True
theorem op_25:Opens Tryz.prog 25 eTFunc okTFunc:=Opens.to (Oe (N:=3) Tryz.underlying25 (by kernel_rfl) (Cj (off:=0) (sz:=1) (N:=3) rfl (by kernel_rfl) (by decide) dr (Cj (off:=1) (sz:=1) (N:=3) rfl (by kernel_rfl) (by decide) KQ (Cj (off:=2) (sz:=1) (N:=3) rfl (by kernel_rfl) (by decide) ym Ru)))) (λp=>⟨p.1,p.2.1,p.2.2.1⟩) (λ_=>rfl) (λ_ h=>h)
def okTThree(a:TThree):Prop:=Vf a.Block/\Vf a.A/\Vf a.B/\True
theorem op_27:Opens Tryz.prog 27 eTThree okTThree:=Opens.to (Oe (N:=3) Tryz.underlying27 (by kernel_rfl) (Cj (off:=0) (sz:=1) (N:=3) rfl (by kernel_rfl) (by decide) KQ (Cj (off:=1) (sz:=1) (N:=3) rfl (by kernel_rfl) (by decide) KQ (Cj (off:=2) (sz:=1) (N:=3) rfl (by kernel_rfl) (by decide) KQ Ru)))) (λp=>⟨p.1,p.2.1,p.2.2.1⟩) (λ_=>rfl) (λ_ h=>h)
theorem F0{n:Int}(h:-9223372036854775808<=n)(h':n<9223372036854775808):w64 n=n:=by
 show IntKind.i64.wrap n=n
 simp only[IntKind.wrap,IntKind.bits,IntKind.signed]
 simp
 split<;>omega
theorem Tx{n:Int}(h:0<=n)(h':n<18446744073709551616):Bo n=n:=by
 show IntKind.u64.wrap n=n
 simp[IntKind.wrap,IntKind.bits,IntKind.signed];omega
theorem Qu(n:Int):Bo n=n % 18446744073709551616:=by
 show IntKind.u64.wrap n=_
 simp[IntKind.wrap,IntKind.bits,IntKind.signed]
theorem Ad{R:Type}{p:Prop}[Decidable p]{k:Option R}(h:p):A7 p k=k:=if_pos h
theorem oa{x:Int}(j:Nat):x.fdiv (2 ^ j)=x / 2 ^ j:=by rw[Int.fdiv_eq_ediv_of_nonneg _ (by exact Int.le_of_lt (Int.pow_pos (by decide)))]
theorem Af{α:Type}(l:List α)(i:Nat)(d:α)(h:i<l.length):l.getD i d=l[i]:=by simp[List.getD,h]
theorem kinds(k:Int):k=0\/k=1\/k=2\/k=3\/k=4\/k=5\/k=6\/k=7\/k=8\/k=9\/k=10\/k=11\/k=12\/k=13\/k=14\/k=15\/k=16\/k=17\/k=18\/k=19\/k=20\/k=21\/k=22\/(k<0\/22<k):=by omega
theorem gn{k:Int}(h:k<0\/22<k):(k==0)=false/\(k==1)=false/\(k==2)=false/\(k==3)=false/\(k==4)=false/\(k==5)=false/\(k==6)=false/\(k==7)=false/\(k==8)=false/\(k==9)=false/\(k==10)=false/\(k==11)=false/\(k==12)=false /\
  (k==13)=false/\(k==14)=false/\(k==15)=false/\(k==16)=false/\(k==17)=false/\(k==18)=false/\(k==19)=false/\(k==20)=false/\(k==21)=false/\(k==22)=false:=by
 simp only[zzL17];omega
def widthB(b:Int):Bool:=b==1 || b==8 || b==16 || b==32 || b==64
def Vy(b n:Int):Bool:=widthB b&&(n==1 || ((n==2 || n==4 || n==8 || n==16)&&decide (8<=b)&&decide (b*n<=128)))
theorem width_cases{b:Int}(h:widthB b=true):b=1\/b=8\/b=16\/b=32\/b=64:=by simp[widthB]at h;omega
theorem shape_width{b n:Int}(h:Vy b n=true):widthB b=true:=by simp[Vy]at h;exact h.1
theorem Pu{b n:Int}(h:Vy b n=true):n=1\/n=2\/n=4\/n=8\/n=16:=by simp[Vy]at h;omega
theorem W6(b:Int):K7 b=some (widthB b):=by
 unfold K7 widthB
 by_cases h1:b=1
 ·subst h1;rfl
 by_cases h2:b=8
 ·subst h2;rfl
 by_cases h3:b=16
 ·subst h3;rfl
 by_cases h4:b=32
 ·subst h4;rfl
 by_cases h5:b=64
 ·subst h5;rfl
 have e1:(b==1)=false:=by simpa using h1
 have e2:(b==8)=false:=by simpa using h2
 have e3:(b==16)=false:=by simpa using h3
 have e4:(b==32)=false:=by simpa using h4
 have e5:(b==64)=false:=by simpa using h5
 simp[e1,e2,e3,e4,e5]
theorem Sl(b:Int):Df b=some (widthB b):=by
 cases(b==1)<;>cases(b==8)<;>cases(b==16)<;>cases(b==32)<;>rfl
theorem f9(b n:Int):Tm b n=some (Vy b n):=by
 unfold Tm;simp only[W6,Ai]
 by_cases hn:n=1\/n=2\/n=4\/n=8\/n=16
 ·cases hw:widthB b with
  | false=>rcases hn with rfl|rfl|rfl|rfl|rfl<;>simp[Vy,hw]
  | true=>
   rcases width_cases hw with rfl|rfl|rfl|rfl|rfl<;>rcases hn with rfl|rfl|rfl|rfl|rfl<;>rfl
 ·have e1:(n==1)=false:=by simp;omega
  have e2:(n==2)=false:=by simp;omega
  have e3:(n==4)=false:=by simp;omega
  have e4:(n==8)=false:=by simp;omega
  have e5:(n==16)=false:=by simp;omega
  simp[Vy,e1,e2,e3,e4,e5]
theorem lx(b n:Int):Jz b n=some (Vy b n):=by
 unfold Jz;simp only[Sl,Ai]
 cases hw:widthB b with
 | false=>simp[Vy,hw]
 | true=>
  by_cases hn:n=1\/n=2\/n=4\/n=8\/n=16
  ·rcases width_cases hw with rfl|rfl|rfl|rfl|rfl<;>rcases hn with rfl|rfl|rfl|rfl|rfl<;>rfl
  ·have e1:(n==1)=false:=by simp;omega
   have e2:(n==2)=false:=by simp;omega
   have e3:(n==4)=false:=by simp;omega
   have e4:(n==8)=false:=by simp;omega
   have e5:(n==16)=false:=by simp;omega
   simp[Vy,e1,e2,e3,e4,e5]
theorem qO{v b:Int}(hv:0<=v/\v<18446744073709551616)(hb:widthB b=true):Xx v b=some (v % 2 ^ b.toNat):=by
 unfold Xx;simp only[W6,hb,Ai,E7,An]
 have key:∀ j:Nat,j<64->IM .u64 (GC .u64 v (j:Int)) (j:Int)=(v*2 ^ j % 18446744073709551616) / 2 ^ j:=λj hj=>by
  simp only[IM,GC,Ec,IntKind.bits];rw[Nat.min_eq_left (by omega),oa,show IntKind.u64.wrap (v*2 ^ j)=v*2 ^ j % 18446744073709551616 from Qu _]
 rcases width_cases hb with rfl|rfl|rfl|rfl|rfl
 ·have:=key 63 (by decide);simp only[show w64 (64-1)=((63:Nat):Int) from rfl,this];rw[Ad (by decide),Ad (by decide)];congr 1;simp only[show((1:Int).toNat)=1 from rfl];omega
 ·have:=key 56 (by decide);simp only[show w64 (64-8)=((56:Nat):Int) from rfl,this];rw[Ad (by decide),Ad (by decide)];congr 1;simp only[show((8:Int).toNat)=8 from rfl];omega
 ·have:=key 48 (by decide);simp only[show w64 (64-16)=((48:Nat):Int) from rfl,this];rw[Ad (by decide),Ad (by decide)];congr 1;simp only[show((16:Int).toNat)=16 from rfl];omega
 ·have:=key 32 (by decide);simp only[show w64 (64-32)=((32:Nat):Int) from rfl,this];rw[Ad (by decide),Ad (by decide)];congr 1;simp only[show((32:Int).toNat)=32 from rfl];omega
 ·have:=key 0 (by decide);simp only[show w64 (64-64)=((0:Nat):Int) from rfl,this];rw[Ad (by decide),Ad (by decide)];congr 1;simp only[show((64:Int).toNat)=64 from rfl];omega
theorem tz{v b:Int}(hv:0<=v/\v<18446744073709551616)(hb:widthB b=true):Lh v b=some (v % 2 ^ b.toNat):=by
 unfold Lh;simp only[Sl,hb,Ai,E7,An];rcases width_cases hb with rfl|rfl|rfl|rfl|rfl
 ·rw[show((1:Int)==64)=false from rfl,An,Ad (by decide),Ad (by decide),show GC .u64 (1:Int) (Bo 1)=2 ^ (1:Int).toNat from rfl,Int.tmod_eq_emod_of_nonneg hv.1]
 ·rw[show((8:Int)==64)=false from rfl,An,Ad (by decide),Ad (by decide),show GC .u64 (1:Int) (Bo 8)=2 ^ (8:Int).toNat from rfl,Int.tmod_eq_emod_of_nonneg hv.1]
 ·rw[show((16:Int)==64)=false from rfl,An,Ad (by decide),Ad (by decide),show GC .u64 (1:Int) (Bo 16)=2 ^ (16:Int).toNat from rfl,Int.tmod_eq_emod_of_nonneg hv.1]
 ·rw[show((32:Int)==64)=false from rfl,An,Ad (by decide),Ad (by decide),show GC .u64 (1:Int) (Bo 32)=2 ^ (32:Int).toNat from rfl,Int.tmod_eq_emod_of_nonneg hv.1]
 ·rw[show((64:Int)==64)=true from rfl,Ae]
  congr 1
  simp only[show((64:Int).toNat)=64 from rfl];omega
theorem au{i:Int}(h:0<=i/\i<18446744073709551616):Nw i=some (widthB i):=by
 unfold Nw
 by_cases hi:i<=64
 ·have:w64 i=i:=F0 (by omega) (by omega);simp[hi,this,W6]
 ·have:widthB i=false:=by simp[widthB];omega
  simp[hi,this]
def jW(k:Int):Bool:=decide (0<=k)&&decide (k<=22)
def Re(k n:Int):Int:=
 bif k==0 then 0 else bif k==13 || k==18 || k==19 then 3 else bif k==14 || k==15 || k==16 || k==22 then 1 else bif k==20 then 4 else bif k==21 then n else 2
def sfitS(k b n:Int):Bool:=
 bif k==16 || k==17 then decide (8<=b) else bif k==18 || k==19 then decide (8<=b)&&n==1 else
 bif k==4 || k==10 || k==11 || k==12 || k==14 || k==15 || k==20 then n==1 else bif k==21 || k==22 then decide (1<n) else true
def ifitS(k b n i:Int):Bool:=
 bif k==0 then i % 2 ^ b.toNat==i else bif k==14 then widthB i&&decide (i<b) else bif k==15 then widthB i&&decide (b<i) else bif k==22 then decide (i<n) else i==0
def valS(v:Int):Bool:=decide (1<=v)&&decide (v<=1023)
def dstS(k d:Int):Bool:=bif k==17 || k==19 then d==0 else valS d
def Lb(o:Ce):Bool:=Vy o.Bits o.Lanes&&(jW o.Kind&&sfitS o.Kind o.Bits o.Lanes&&ifitS o.Kind o.Bits o.Lanes o.Imm&&((o.Args.length:Int)==Re o.Kind o.Lanes))&&(o.Args.all valS&&dstS o.Kind o.Dst)
def Wl(o:Ce)(i:Nat):Int×Int:=
 bif o.Kind==13 || o.Kind==20 then(bif Nat.beq i 0 then(1,1) else(o.Bits,o.Lanes)) else bif o.Kind==14 || o.Kind==15 then(w64 o.Imm,1) else
 bif o.Kind==16 || o.Kind==17 then(bif Nat.beq i 0 then(64,1) else(o.Bits,o.Lanes)) else
 bif o.Kind==18 || o.Kind==19 then(bif Nat.beq i 1 then(64,1) else bif Nat.beq i 0 then(1,1) else(o.Bits,o.Lanes)) else bif o.Kind==21 then(o.Bits,1) else(o.Bits,o.Lanes)
def Rz(o:Ce):List (Int×Int):=(List.range (Re o.Kind o.Lanes).toNat).map (Wl o)
def Pg(k b n:Int):Int×Int:=bif k==17 || k==19 then(0,0) else bif k==10 || k==11 || k==12 then(1,1) else bif k==22 then(b,1) else(b,n)
theorem HJ{k:Int}(h:k<0\/22<k):jW k=false:=by simp[jW];omega
theorem dG(k:Int):Sc k=some (jW k):=by unfold Sc jW;cases decide ((0:Int)<=k)<;>rfl
theorem Xr(v:Int):Nv v=some (valS v):=by unfold Nv valS;cases decide ((1:Int)<=v)<;>rfl
theorem DM(v:Int):Fi v=some (valS v):=by
 unfold Fi valS
 have e1:decide ((0:Int)<v)=decide (1<=v):=by congr 1
 have e2:decide (v<(1024:Int))=decide (v<=1023):=by apply zzL76.2;omega
 rw[e1,e2]
 cases decide ((1:Int)<=v)<;>rfl
theorem QU(o:Ce):N9 o=some (sfitS o.Kind o.Bits o.Lanes):=by
 obtain⟨k,b,n,d,args,i⟩:=o;rcases kinds k with rfl|rfl|rfl|rfl|rfl|rfl|rfl|rfl|rfl|rfl|rfl|rfl|rfl|rfl|rfl|rfl|rfl|rfl|rfl|rfl|rfl|rfl|rfl|h
 any_goals rfl
 ·show some (bif decide (8<=b) then n==1 else false)=some (decide (8<=b)&&n==1);cases decide (8<=b)<;>rfl
 ·show some (bif decide (8<=b) then n==1 else false)=some (decide (8<=b)&&n==1);cases decide (8<=b)<;>rfl
 ·unfold N9 sfitS;simp[gn h]
theorem QT(o:Ce):Qk o=some (Pg o.Kind o.Bits o.Lanes):=by
 obtain⟨k,b,n,d,args,i⟩:=o;rcases kinds k with rfl|rfl|rfl|rfl|rfl|rfl|rfl|rfl|rfl|rfl|rfl|rfl|rfl|rfl|rfl|rfl|rfl|rfl|rfl|rfl|rfl|rfl|rfl|h
 any_goals rfl
 unfold Qk Pg;simp[gn h]
theorem ar(o:Ce)(hw:widthB o.Bits=true)(hn:0<=o.Lanes/\o.Lanes<=16)(hi:0<=o.Imm/\o.Imm<18446744073709551616):Ql o=some (ifitS o.Kind o.Bits o.Lanes o.Imm):=by
 unfold Ql ifitS
 have hb:Bo o.Bits=o.Bits:=by apply Tx<;>(rcases width_cases hw with h|h|h|h|h<;>omega)
 have hl:Bo o.Lanes=o.Lanes:=by apply Tx<;>omega
 rw[qO hi hw,au hi,hb,hl]
 cases(o.Kind==0)<;>cases(o.Kind==14)<;>cases(o.Kind==15)<;>cases(o.Kind==22)<;>cases widthB o.Imm<;>rfl
set_option maxHeartbeats 2000000 in
theorem pl (o : Ce) (hs : Vy o.Bits o.Lanes = true) (hk : jW o.Kind = true) (hi : 0 ≤ o.Imm ∧ o.Imm < 18446744073709551616) : F7 o = some (sfitS o.Kind o.Bits o.Lanes && ifitS o.Kind o.Bits o.Lanes o.Imm) := by
  have hw := shape_width hs; have hl := Pu hs; obtain ⟨k, b, n, d, args, i⟩ := o; simp only at hs hk hi hw hl ⊢
  have hb : Bo b = b := by apply Tx <;> (rcases width_cases hw with h | h | h | h | h <;> omega)
  have hn : Bo n = n := by apply Tx <;> omega
  have hb8 : decide (b < 8) = !decide (8 ≤ b) := by rw [← decide_not]; apply zzL76.2; omega
  have hn2 : decide (n < 2) = !decide (1 < n) := by rw [← decide_not]; apply zzL76.2; omega
  have h14 : (bif decide (i < b) then widthB (w64 i) else false) = (widthB i && decide (i < b)) := by
    by_cases h : i < b
    · have : w64 i = i := F0 (by omega) (by rcases width_cases hw with h | h | h | h | h <;> omega); simp [h, this]
    · simp [h]
  have h15 : (bif (bif decide (b < i) then decide (i ≤ 64) else false) then widthB (w64 i) else false) = (widthB i && decide (b < i)) := by
    by_cases h : i ≤ 64
    · have : w64 i = i := F0 (by omega) (by omega)
      by_cases h2 : b < i <;> simp [h, this, h2]
    · have : widthB i = false := by simp [widthB]; omega
      simp [h, this]
  have hc := tz (v := i) hi hw; rcases kinds k with rfl | rfl | rfl | rfl | rfl | rfl | rfl | rfl | rfl | rfl | rfl | rfl | rfl | rfl | rfl | rfl | rfl | rfl | rfl | rfl | rfl | rfl | rfl | h
  case inl => unfold F7; simp [hc, sfitS, ifitS]
  all_goals first
    | (rw [HJ h] at hk; cases hk)
    | (unfold F7 sfitS ifitS
       simp only [hb8]
       generalize decide (8 ≤ b) = u at *
       clear hc h14 h15 hb8 hw hs; rcases hl with rfl | rfl | rfl | rfl | rfl <;> cases u <;> simp_all
       done)
    | (unfold F7 sfitS ifitS
       rw [hb]; simp only [Sl]; clear hc hs
       generalize decide (i < b) = p at *
       generalize decide (b < i) = q at *
       generalize decide (i ≤ 64) = r at *
       generalize widthB (w64 i) = s at *
       rcases hl with rfl | rfl | rfl | rfl | rfl <;> cases p <;> cases q <;> cases r <;> cases s <;> simp_all
       done)
theorem Hj{α X:Type}(l:List α)(d:α)(p:α->Bool)(f:Int->Option (LR Int X))(yes no:X)(hn:∀ i:Nat,i<l.length->p (l.getD i d)=true->f i=some (.next ((i:Int)+1)))
  (hf:∀ i:Nat,i<l.length->p (l.getD i d)=false->f i=some (.done no)) (he:f l.length=some (.done yes)):∀(k i:Nat),i+k=l.length->Ab f i=some (bif (l.drop i).all p then yes else no)
 | 0,i,h=>by
  obtain rfl:i=l.length:=by omega
  rw[Ah he]
  simp
 | k+1,i,h=>by
  have hi:i<l.length:=by omega
  have hd:l.drop i=l.getD i d::l.drop (i+1):=by rw[W8 hi,Af _ _ _ hi]
  cases hp:p (l.getD i d) with
  | true=>
   rw[Aq (hn i hi hp)];have:=Hj l d p f yes no hn hf he k (i+1) (by omega);rw[show((i:Int)+1)=((i+1:Nat):Int) by omega,this,hd,FC,hp,Ly]
  | false=>
   rw[Ah (hf i hi hp),hd,FC,hp,Yr,An]
theorem QY{α X:Type}(n:Nat)(g:Nat->α)(f:List α×Int->Option (LR (List α×Int) X))(out:List α->X)(hn:∀(l:List α) (i:Nat),i<n->l.length=i->f (l,(i:Int))=some (.next (l++[g i],(i:Int)+1)))
  (he:∀ l:List α,l.length=n->f (l,(n:Int))=some (.done (out l))):∀(k i:Nat) (l:List α),i+k=n->l=(List.range i).map g->Ab f (l,(i:Int))=some (out ((List.range n).map g))
 | 0,i,l,h,hl=>by
  obtain rfl:i=n:=by omega
  subst hl;exact Ah (he _ (by simp))
 | k+1,i,l,h,hl=>by
  subst hl;rw[Aq (hn _ i (by omega) (by simp)),show((i:Int)+1)=((i+1:Nat):Int) by omega];exact QY n g f out hn he k (i+1) _ (by omega) (by simp[JA])
theorem HM{α:Type}(l:List α)(d:α)(wt:α->Nat)(C:Nat)(f:Int×Int->Option (LR (Int×Int) Int))
  (hn:∀(n i:Nat),i<l.length->n<=C->∃ m:Nat,f ((n:Int),(i:Int))=some (.next ((m:Int),((i+1:Nat):Int)))/\(n+wt (l.getD i d)<=C->m=n+wt (l.getD i d))/\(m<=C->n+wt (l.getD i d)<=C))
  (hd:∀(n i:Nat),i<=l.length->(i=l.length\/C<n)->f ((n:Int),(i:Int))=some (.done (n:Int))) :
  ∀(k i n:Nat),i+k=l.length->∃ m:Nat,Ab f ((n:Int),(i:Int))=some (m:Int)/\(n+((l.drop i).map wt).sum<=C->m=n+((l.drop i).map wt).sum)/\(m<=C->n+((l.drop i).map wt).sum<=C)
 | 0,i,n,h=>by
  obtain rfl:i=l.length:=by omega
  refine⟨n,Ah (hd n _ (zzL7 _) (.inl rfl)),?_,?_⟩
  ·simp
  ·simp
 | k+1,i,n,h=>by
  have hi:i<l.length:=by omega
  have hdr:l.drop i=l.getD i d::l.drop (i+1):=by rw[W8 hi,Af _ _ _ hi]
  by_cases hC:n<=C
  ·obtain⟨m,h1,h2,h3⟩:=hn n i hi hC;obtain⟨m',h4,h5,h6⟩:=HM l d wt C f hn hd k (i+1) m (by omega);refine⟨m',by rw[Aq h1];exact h4,λhle=>?_,λhle=>?_⟩
   ·rw[hdr,Cy,TF]at hle ⊢;have:=h2 (by omega);subst this;rw[h5 (by omega)];omega
   ·rw[hdr,Cy,TF];have h7:=h6 hle;have h8:=h3 (by omega);have:=h2 h8;omega
  ·refine⟨n,Ah (hd n i (by omega) (.inr (by omega))),λhle=>by omega,λhle=>by omega⟩
theorem Ub{X:Type}(N:Nat)(f:Int×Int->Option (LR (Int×Int) X))(hn:∀(n:Int) (i:Nat),i<N->(∃ m:Int,f (n,(i:Int))=some (.next (m,((i+1:Nat):Int))))\/∃ x,f (n,(i:Int))=some (.done x))(hd:∀ n:Int,∃ x,f (n,(N:Int))=some (.done x)) :
  ∀(k i:Nat) (n:Int),i+k=N->∃ x,Ab f (n,(i:Int))=some x
 | 0,i,n,h=>by
  obtain rfl:i=N:=by omega
  obtain⟨x,hx⟩:=hd n;exact⟨x,Ah hx⟩
 | k+1,i,n,h=>by
  rcases hn n i (by omega) with⟨m,hm⟩|⟨x,hx⟩
  ·obtain⟨x,hx⟩:=Ub N f hn hd k (i+1) m (by omega);exact⟨x,by rw[Aq hm];exact hx⟩
  ·exact⟨x,Ah hx⟩
theorem JY{α X:Type}(l:List α)(d:α)(wt:α->Nat)(out:Int->X)(f:Int×Int->Option (LR (Int×Int) X))
  (hn:∀(n i:Nat),i<l.length->f (w64 n,(i:Int))=some (.next (w64 ((n+wt (l.getD i d):Nat):Int),((i+1:Nat):Int)))) (hd:∀ n:Int,f (n,(l.length:Int))=some (.done (out n))) :
  ∀(k i n:Nat),i+k=l.length->Ab f (w64 n,(i:Int))=some (out (w64 ((n+((l.drop i).map wt).sum:Nat):Int)))
 | 0,i,n,h=>by
  obtain rfl:i=l.length:=by omega
  rw[Ah (hd _)]
  simp
 | k+1,i,n,h=>by
  have hi:i<l.length:=by omega
  have hdr:l.drop i=l.getD i d::l.drop (i+1):=by rw[W8 hi,Af _ _ _ hi]
  rw[Aq (hn n i hi),JY l d wt out f hn hd k (i+1) _ (by omega),hdr,Cy,TF,Ut]
theorem IV(a b:Int):w64 (w64 a+b)=w64 (a+b):=by
 show IntKind.i64.wrap (IntKind.i64.wrap a+b)=IntKind.i64.wrap (a+b)
 simp only[IntKind.wrap,IntKind.bits,IntKind.signed]
 simp
 split<;>split<;>omega
theorem MR{α β:Type}(l:List α)(d:α)(E:α->List β)(M:Nat)(f:List β×Int->Option (LR (List β×Int) (List β)))
  (hn:∀(out:List β) (i:Nat),i<l.length->out.length+(E (l.getD i d)).length<=M->f (out,(i:Int))=some (.next (out++E (l.getD i d),((i+1:Nat):Int))))
  (hd:∀ out:List β,f (out,(l.length:Int))=some (.done out)) :
  ∀(k i:Nat) (out:List β),i+k=l.length->out.length+((l.drop i).map E).flatten.length<=M->Ab f (out,(i:Int))=some (out++((l.drop i).map E).flatten)
 | 0,i,out,h,_=>by
  obtain rfl:i=l.length:=by omega
  rw[Ah (hd out)]
  simp
 | k+1,i,out,h,hM=>by
  have hi:i<l.length:=by omega
  have hdr:l.drop i=l.getD i d::l.drop (i+1):=by rw[W8 hi,Af _ _ _ hi]
  rw[hdr,Cy,List.flatten_cons,Gk]at hM;rw[Aq (hn out i hi (by omega)),MR l d E M f hn hd k (i+1) _ (by omega) (by rw[Gk];omega),hdr,Cy,List.flatten_cons,Px]
theorem QL{α β:Type}(l:List α)(E:α->List β)(B:Nat)(h:∀ a∈l,(E a).length<=B):(l.map E).flatten.length<=l.length*B:=by
 induction l with
 | nil=>simp
 | cons a l ih=>
  have h1:=h a (by simp);have h2:=ih (λb hb=>h b (by simp[hb]));rw[Cy,List.flatten_cons,Gk,Vq,E8];omega
theorem getD_mem{α:Type}{l:List α}{i:Nat}{d:α}(h:i<l.length):l.getD i d∈l:=by rw[Af _ _ _ h];exact LI h
theorem Ao{i n:Nat}(h:i<n):A5 (i:Int) n:=⟨by omega,by exact_mod_cast h⟩
theorem A3{i n:Nat}(h:i<n)(hn:n<9223372036854775808):w64 ((i:Int)+1)=(i:Int)+1:=F0 (by omega) (by omega)
def oq(l:List Int):Prop:=∀ x∈l,0<=x/\x<=2147483647
theorem F1{S X:Type}(f:S->Option (LR S X))(T:Nat->S)(x:X):∀(n:Nat),(∀ i,i<n->f (T i)=some (.next (T (i+1))))->f (T n)=some (.done x)->Ab f (T 0)=some x:=by
 suffices h:∀(k i n:Nat),i+k=n->(∀ j,i<=j->j<n->f (T j)=some (.next (T (j+1))))->f (T n)=some (.done x)->Ab f (T i)=some x from
  λn h1 h2=>h n 0 n (by omega) (λj _ hj=>h1 j hj) h2
 intro k
 induction k with
 | zero=>
  intro i n hi _ h2
  have hin:n=i:=by omega
  subst hin;exact Ah h2
 | succ k ih=>intro i n hi h1 h2;rw[Aq (h1 i (zzL7 _) (by omega))];exact ih (i+1) n (by omega) (λj hj hj'=>h1 j (by omega) hj') h2
theorem VI{S X:Type}(f:S->Option (LR S X))(T:Nat->S):∀(n:Nat),(∀ i,i<n->f (T i)=some (.next (T (i+1))))->Ab f (T 0)=Ab f (T n):=by
 intro n
 induction n with
 | zero=>intro _;rfl
 | succ n ih=>intro h;rw[ih (λi hi=>h i (by omega)),Aq (h n (by omega))]
theorem G3{S X:Type}(f:S->Option (LR S X))(T:Nat->S)(p:Nat->Bool)(yes no:X)(n:Nat)(hn:∀ i,i<n->p i=true->f (T i)=some (.next (T (i+1))))(hf:∀ i,i<n->p i=false->f (T i)=some (.done no))
  (he:f (T n)=some (.done yes)):Ab f (T 0)=some (bif (List.range n).all p then yes else no):=by
 cases hall:(List.range n).all p with
 | true=>
  rw[Ae];exact F1 f T yes n (λi hi=>hn i hi (zzL30.1 hall i (zzL44.2 hi))) he
 | false=>
  rw[An]
  have hex:∃ i,i<n/\p i=false:=by
   have:¬ ∀ i∈List.range n,p i=true:=λh=>by rw[zzL30.2 h]at hall;cases hall
   simpa using this
  let P:Nat->Prop:=λm=>m<n/\p m=false
  obtain⟨m,hm⟩:=hex
  have key:∀ m,m<n->p m=false->∃ k,k<n/\p k=false/\∀ j,j<k->p j=true:=by
   intro m
   induction m using Nat.strongRecOn with
   | ind m ih=>
    intro h1 h2
    by_cases h:∃ j,j<m/\p j=false
    ·obtain⟨j,hj,hpj⟩:=h;exact ih j hj (by omega) hpj
    ·refine⟨m,h1,h2,λj hj=>?_⟩
     cases hpj:p j with
     | true=>rfl
     | false=>exact(h ⟨j,hj,hpj⟩).elim
  obtain⟨k,hk,hpk,hlt⟩:=key m hm.1 hm.2;rw[VI f T k (λi hi=>hn i (by omega) (hlt i hi))];exact Ah (hf k hk hpk)
theorem all_range{n:Nat}{p:Nat->Bool}:(List.range n).all p=true↔∀ i,i<n->p i=true:=by
 rw[zzL30];exact⟨λh i hi=>h i (zzL44.2 hi),λh i hi=>h i (zzL44.1 hi)⟩
theorem Ap(i:Nat):((i:Int)).toNat=i:=Ec i
theorem w1{i:Nat}(h:i<4611686018427387904):w64 ((i:Int)+1)=((i+1:Nat):Int):=by rw[F0 (by omega) (by omega)];omega
theorem Cr{i n:Nat}(h:i<n):decide (((i:Nat):Int)<((n:Nat):Int))=true:=by simpa using h
theorem Ei{n:Nat}:decide (((n:Nat):Int)<((n:Nat):Int))=false:=by simp
theorem Eo{i n:Nat}(h:i<n):A5 ((i:Nat):Int) n:=Ao h
theorem yh{x:Int}{n:Nat}(h0:0<=x)(h1:x<n):A5 x n:=⟨h0,h1⟩
structure bz(o:Ce):Prop where
 imm:0<=o.Imm/\o.Imm<18446744073709551616
 args:o.Args.length<=200
theorem gx(x:Int×Int)(n:Int)(h:n=2\/n=4\/n=8\/n=16):Co [x] n=some (List.replicate n.toNat x):=by
 let d:Int×Int:=(0,0)
 rcases h with rfl|rfl|rfl|rfl
 ·have e:Co [x] 2=(Ab Dj (1,[x,d])).bind some:=by kernel_rfl
  rw[e,Aq (s':=(2,[x,x])) (by kernel_rfl)]
  rfl
 ·have e:Co [x] 4=(Ab Dj (1,[x,d,d,d])).bind some:=by kernel_rfl
  rw[e,Aq (s':=(2,[x,x,d,d])) (by kernel_rfl),Aq (s':=(4,[x,x,x,x])) (by kernel_rfl)]
  rfl
 ·have e:Co [x] 8=(Ab Dj (1,[x,d,d,d,d,d,d,d])).bind some:=by kernel_rfl
  rw[e,Aq (s':=(2,[x,x,d,d,d,d,d,d])) (by kernel_rfl),Aq (s':=(4,[x,x,x,x,d,d,d,d])) (by kernel_rfl),Aq (s':=(8,[x,x,x,x,x,x,x,x])) (by kernel_rfl)]
  rfl
 ·have e:Co [x] 16=(Ab Dj (1,[x,d,d,d,d,d,d,d,d,d,d,d,d,d,d,d])).bind some:=by kernel_rfl
  rw[e,Aq (s':=(2,[x,x,d,d,d,d,d,d,d,d,d,d,d,d,d,d])) (by kernel_rfl),Aq (s':=(4,[x,x,x,x,d,d,d,d,d,d,d,d,d,d,d,d])) (by kernel_rfl),
   Aq (s':=(8,[x,x,x,x,x,x,x,x,d,d,d,d,d,d,d,d])) (by kernel_rfl),Aq (s':=(16,List.replicate 16 x)) (by kernel_rfl)]
  rfl
theorem o5(l:List (Int×Int)):Iz l=some l:=rfl
theorem QV(o:Ce)(hs:Vy o.Bits o.Lanes=true)(hk:jW o.Kind=true)(hf:sfitS o.Kind o.Bits o.Lanes=true):Qm o=some (Rz o):=by
 have hl:=Pu hs;obtain⟨k,b,n,d,args,i⟩:=o;simp only at hs hk hf hl ⊢;rcases kinds k with rfl|rfl|rfl|rfl|rfl|rfl|rfl|rfl|rfl|rfl|rfl|rfl|rfl|rfl|rfl|rfl|rfl|rfl|rfl|rfl|rfl|rfl|rfl|h
 case inr.inr.inr.inr.inr.inr.inr.inr.inr.inr.inr.inr.inr.inr.inr.inr.inr.inr.inr.inr.inr.inl=>
  have h1:n≠1:=by rintro rfl;simp[sfitS]at hf
  have h4:n=2\/n=4\/n=8\/n=16:=by omega
  unfold Qm;simp only[gx _ _ h4,o5];rcases h4 with rfl|rfl|rfl|rfl<;>rfl
 all_goals first
  | rfl
  | (rw[HJ h]at hk;cases hk)
  | (rcases hl with rfl|rfl|rfl|rfl|rfl<;>first|rfl|(simp[sfitS]at hf))
theorem ap(o:Ce)(hs:Vy o.Bits o.Lanes=true)(hk:jW o.Kind=true)(hf:sfitS o.Kind o.Bits o.Lanes=true)(hl:o.Args.length<=200):Qi o=some (((o.Args.length:Int)==Re o.Kind o.Lanes)&&o.Args.all valS):=by
 unfold Qi;rw[QV o hs hk hf]
 have hn:0<=Re o.Kind o.Lanes:=by
  have:=Pu hs;unfold Re
  cases(o.Kind==0)<;>cases(o.Kind==13 || o.Kind==18 || o.Kind==19)<;>cases(o.Kind==14 || o.Kind==15 || o.Kind==16 || o.Kind==22)<;>cases(o.Kind==20)<;>cases(o.Kind==21)<;>simp<;>omega
 have hlen:(Rz o).length=Re o.Kind o.Lanes:=by simp[Rz];omega
 simp only[Ai,hlen]
 by_cases he:o.Args.length=Re o.Kind o.Lanes
 ·have e1:(o.Args.length==Re o.Kind o.Lanes)=true:=by simpa using he
  have e2:(o.Args.length !=Re o.Kind o.Lanes)=false:=by simpa using he
  rw[e1,e2]
  have hloop:=Hj o.Args 0 valS (Kq o) (.inl ()) (.inr false) (λi hi hp=>by
    unfold Kq
    have:decide (i<(o.Args.length:Int))=true:=by simpa using hi
    simp only[this,Ae,Ad (Ao hi),Ec,Xr,Ai,hp,E7,An,A3 hi (by omega)]) (λi hi hp=>by
    unfold Kq
    have:decide (i<(o.Args.length:Int))=true:=by simpa using hi
    simp only[this,Ae,Ad (Ao hi),Ec,Xr,Ai,hp,Mr]) (by
    unfold Kq
    simp) o.Args.length 0 (by omega)
  rw[show 0=((0:Nat):Int) from rfl,hloop,Js]
  cases o.Args.all valS<;>rfl
 ·grind
theorem QN{k b n:Int}(hs:Vy b n=true):((Pg k b n).1==0)=(k==17 || k==19):=by
 have hb:(b==0)=false:=by
  have:=width_cases (shape_width hs);simp;omega
 unfold Pg
 cases(k==17 || k==19)<;>cases(k==10 || k==11 || k==12)<;>cases(k==22)<;>simp_all
theorem aq(o:Ce)(hs:Vy o.Bits o.Lanes=true):Qj o=some (dstS o.Kind o.Dst):=by
 unfold Qj;simp only[QT,Ai,QN hs,Xr,dstS]
 cases(o.Kind==17 || o.Kind==19)<;>rfl
theorem QS(o:Ce)(ho:bz o):Rq o=some (Lb o):=by
 unfold Rq Lb;simp only[dG,f9,QU]
 cases hs:Vy _ _ with
 | false=>cases jW _<;>rfl
 | true=>
  have hl:=Pu hs
  cases hk:jW _ with
  | false=>rfl
  | true=>
   rw[ar o (shape_width hs) (by omega) ho.imm];simp only[aq o hs]
   cases hf:sfitS _ _ _ with
   | false=>rfl
   | true=>
    rw[ap o hs hk hf ho.args]
    generalize ifitS _ _ _ _=p
    generalize (o.Args.length==Re _ _)=q
    generalize o.Args.all _=r
    generalize dstS _ _=s
    cases p<;>cases q<;>cases r<;>cases s<;>rfl
theorem pk(o:Ce):Kr o=some (bif jW o.Kind then Re o.Kind o.Lanes else -1):=by
 obtain⟨k,b,n,d,args,i⟩:=o;rcases kinds k with rfl|rfl|rfl|rfl|rfl|rfl|rfl|rfl|rfl|rfl|rfl|rfl|rfl|rfl|rfl|rfl|rfl|rfl|rfl|rfl|rfl|rfl|rfl|h
 any_goals rfl
 unfold Kr;simp[gn h,HJ h]
theorem bR(o:Ce)(ho:bz o):G5 o=some (Lb o):=by
 unfold G5 Lb;simp only[lx]
 cases hs:Vy o.Bits o.Lanes with
 | false=>rfl
 | true=>
  simp only[pk,E7,Vp,Ae, Ai]
  cases hk:jW o.Kind with
  | false=>
   grind
  | true=>
   simp only[Ae];rw[pl o hs hk ho.imm]
   by_cases he:o.Args.length=Re o.Kind o.Lanes
   ·have e1:(o.Args.length==Re o.Kind o.Lanes)=true:=by simpa using he
    have e2:(Re o.Kind o.Lanes !=o.Args.length)=false:=by simpa using he.symm
    rw[e1,e2]
    have hloop:=Hj o.Args 0 valS (Gr o) (.inl ()) (.inr false) (λi hi hp=>by
      unfold Gr
      have:decide (i<(o.Args.length:Int))=true:=by simpa using hi
      simp only[this,Ae,Ad (Ao hi),Ec,DM,Ai,hp,E7,An,A3 hi (by have:=ho.args;omega)]) (λi hi hp=>by
      unfold Gr
      have:decide ((i:Int)<o.Args.length)=true:=by simpa using hi
      simp only[this,Ae,Ad (Ao hi),Ec,DM,Ai,hp,Mr]) (by
      unfold Gr
      simp) o.Args.length 0 (by omega)
    rw[show 0=((0:Nat):Int) from rfl,hloop,Js];simp only[DM, dstS]
    generalize sfitS o.Kind o.Bits o.Lanes=p
    generalize ifitS o.Kind o.Bits o.Lanes o.Imm=q
    generalize o.Args.all valS=r
    cases p<;>cases q<;>cases r<;>cases(o.Kind==17)<;>cases(o.Kind==19)<;>rfl
   ·grind
theorem Xy{o:Ce}(h:Lb o=true):Vy o.Bits o.Lanes=true/\jW o.Kind=true/\sfitS o.Kind o.Bits o.Lanes=true/\ifitS o.Kind o.Bits o.Lanes o.Imm=true/\(o.Args.length:Int)=Re o.Kind o.Lanes/\o.Args.all valS=true/\dstS o.Kind o.Dst=true:=by
 simp only[Lb,Be,zzL61]at h;exact⟨h.1.1,h.1.2.1.1.1,h.1.2.1.1.2,h.1.2.1.2,h.1.2.2,h.2.1,h.2.2⟩
theorem gB(o:Ce)(ho:bz o):Qh o=some (bif Lb o then Rz o else[]):=by
 unfold Qh;rw[QS o ho]
 cases hm:Lb o with
 | false=>rfl
 | true=>
  obtain⟨h1,h2,h3,_⟩:=Xy hm;simp only[QV o h1 h2 h3]
  rfl
theorem f8(o:Ce)(ho:bz o):Qg o=some (bif Lb o then Pg o.Kind o.Bits o.Lanes else(0,0)):=by
 unfold Qg;rw[QS o ho];simp only[ QT]
 cases Lb o<;>rfl
theorem lw(o:Ce)(ho:bz o):Hm o=some (bif Lb o then Pg o.Kind o.Bits o.Lanes else(0,0)):=by
 unfold Hm;rw[bR o ho]
 cases hm:Lb o with
 | false=>rfl
 | true=>
  obtain⟨_,h2,_⟩:=Xy hm;obtain⟨k,b,n,d,args,i⟩:=o;rcases kinds k with rfl|rfl|rfl|rfl|rfl|rfl|rfl|rfl|rfl|rfl|rfl|rfl|rfl|rfl|rfl|rfl|rfl|rfl|rfl|rfl|rfl|rfl|rfl|h
  any_goals rfl
  rw[HJ h]at h2;cases h2
theorem ly(o:Ce)(ho:bz o):Hn o=some (bif Lb o then Rz o else[]):=by
 unfold Hn;rw[bR o ho]
 cases hm:Lb o with
 | false=>rfl
 | true=>
  obtain⟨h1,h2,h3,h4,h5,_⟩:=Xy hm
  have hloop:=QY (X:=List (Int×Int)) o.Args.length (Wl o) (H4 o) id (λl i hi hl=>by
   unfold H4
   have e0:decide ((i:Int)<(o.Args.length:Int))=true:=by simpa using hi
   have e1:((i:Int)==0)=Nat.beq i 0:=by cases i<;>rfl
   have e2:((i:Int)==1)=Nat.beq i 1:=by
    rcases i with _|_|i
    ·rfl
    ·rfl
    ·have:¬ (((i+1+1:Nat):Int)=1):=by omega
     simp only[Nat.beq]
     simpa using this
   have hr:l.length+([Wl o i]:List (Int×Int)).length<=room:=by have:=ho.args;simp[room];omega
   simp only[e0,e1,e2,Ae];have e3 :=A3 hi (by have:=ho.args;omega);simp only[e3]
   have key:∀(x:Option (Int×Int)),x=some (Wl o i)->(x.bind λx23=>A7 (l.length+([(x23.1,x23.2)]:List (Int×Int)).length<=room) (some (LR.next (l++([(x23.1,x23.2)]:List (Int×Int)),(i:Int)+1))))=(some (LR.next (l++[Wl o i],(i:Int)+1)):Option (LR _ (List (Int×Int)))):=by
    rintro x rfl;exact Ad hr
   refine key _ ?_;clear key hr;obtain⟨k,b,n,d,args,im⟩:=o;rcases kinds k with rfl|rfl|rfl|rfl|rfl|rfl|rfl|rfl|rfl|rfl|rfl|rfl|rfl|rfl|rfl|rfl|rfl|rfl|rfl|rfl|rfl|rfl|rfl|h
   all_goals first
    | rfl
    | (rw[HJ h]at h2;cases h2)
    | (rcases i with _|_|i<;>rfl)) (λl hl=>by
   unfold H4
   simp) o.Args.length 0 [] (by omega) rfl
  rw[show(0:Int)=((0:Nat):Int) from rfl];simp only[E7,An,hloop,Ai,id];rw[Rz,<- h5]
  rfl
def numB(n:Int):Bool:=decide (0<=n)&&decide (n<=2147483647)
def listB(l:List Int):Bool:=l.all numB&&decide (l.length<=64)
def IB(p:Ic):Bool:=numB p.Bits&&numB p.Dst&&listB p.From&&listB p.Args
def gf(o:Ce):Bool:=numB o.Kind&&numB o.Bits&&numB o.Lanes&&numB o.Dst&&listB o.Args
def fw(e:M0):Bool:=numB e.Kind&&numB e.Arg&&listB e.To
def blockB(b:Am):Bool:=b.Phis.all IB&&b.Ops.all gf&&fw b.End
def NG(b:Am):Nat:=b.Phis.length+b.Ops.length+1
def Vo(f:TFunc):Nat:=(f.Blocks.map NG).sum
def sizeW(f:TFunc):Int:=w64 (Vo f)
def V1(f:TFunc):Bool:=decide (1<=f.Blocks.length)&&decide (f.Blocks.length<=64)&&decide (f.Params.length<=16)&&listB f.Params&&numB f.Ret&&decide (sizeW f<=512)&&f.Blocks.all blockB
def lM(p:Ic):Nat:=1+p.From.length+p.Args.length
def ai(o:Ce):Nat:=1+o.Args.length
def lK(b:Am):Nat:=1+b.End.To.length+(b.Phis.map lM).sum+(b.Ops.map ai).sum
def lL(f:TFunc):Nat:=f.Params.length+(f.Blocks.map lK).sum
theorem Lq:maxLen=9223372036854775807:=rfl
structure fA(f:TFunc):Prop where
 params:f.Params.length<=maxLen
 blocks:f.Blocks.length<=maxLen
 block:∀ b∈f.Blocks,b.Phis.length<=maxLen/\b.Ops.length<=maxLen/\b.End.To.length<=maxLen
 phi:∀ b∈f.Blocks,∀ p∈b.Phis,p.From.length<=maxLen/\p.Args.length<=maxLen
 op:∀ b∈f.Blocks,∀ o∈b.Ops,o.Args.length<=maxLen/\0<=o.Imm/\o.Imm<18446744073709551616
theorem inF{f:TFunc}(h:okTFunc f):fA f:=
 ⟨h.1.2,h.2.2.1.2,λb hb=>⟨(h.2.2.1.1 b hb).1.2,(h.2.2.1.1 b hb).2.1.2,(h.2.2.1.1 b hb).2.2.1.2.2.1.2⟩,λb hb p hp=>⟨((h.2.2.1.1 b hb).1.1 p hp).2.2.1.2,((h.2.2.1.1 b hb).1.1 p hp).2.2.2.1.2⟩,
  λb hb o ho=>⟨((h.2.2.1.1 b hb).2.1.1 o ho).2.2.2.2.1.2,wy ((h.2.2.1.1 b hb).2.1.1 o ho).2.2.2.2.2.1⟩⟩
theorem PH{n:Nat}(h:n<9223372036854775808):w64 (n:Int)=n:=F0 (by omega) (by omega)
theorem Lx{i n:Nat}(h:i<n)(hn:n<=maxLen):w64 ((i:Int)+1)=((i+1:Nat):Int):=by rw[Lq]at hn;rw[show((i:Int)+1)=(i+1:Nat) by omega,PH (by omega)]
theorem SS(f:TFunc)(hf:fA f):∃ b,Dc f=some b:=by
 have h3:∃ x,Ab (C7 f) (f.Params.length,(0:Nat))=some x:=by
  refine Ub f.Blocks.length _ (λn i hi=>?_) (λn=>?_) _ 0 _ (Ha _)
  ·have hmem:=getD_mem (d:=default) hi;obtain⟨b1,b2,_⟩:=hf.block _ hmem;have hI :=Ao hi;unfold C7
   cases hc:(bif decide (i<(f.Blocks.length:Int)) then decide (n<=20000) else false) with
   | false=>right;simp only[hc];exact⟨_,rfl⟩
   | true=>
    left
    simp only[hc, Ad hI]
    obtain⟨x1,h1⟩:=Ub (f.Blocks.getD i default).Phis.length (C5 f i) (λn j hj=>by
      unfold C5;simp only[Ad hI,Ec]
      cases hc:(bif decide (j<((f.Blocks.getD i default).Phis.length:Int)) then decide (n<=20000) else false) with
      | false=>grind
      | true=>left;simp only[ Ad (Ao hj),Lx hj b1];exact⟨_,rfl⟩) (λn=>by
      unfold C5;simp only[Ad hI,Ec]
      have:decide ((f.Blocks.getD i default).Phis.length<((f.Blocks.getD i default).Phis.length:Int))=false:=by simp
      simp only[this];exact⟨_,rfl⟩) _ 0 (w64 (w64 (n+1)+(f.Blocks.getD i default).End.To.length)) (Ha _)
    obtain⟨x2,h2⟩:=Ub (f.Blocks.getD i default).Ops.length (C6 f i) (λn j hj=>by
      unfold C6;simp only[Ad hI,Ec]
      cases hc:(bif decide (j<((f.Blocks.getD i default).Ops.length:Int)) then decide (n<=20000) else false) with
      | false=>grind
      | true=>left;simp only[ Ad (Ao hj),Lx hj b2];exact⟨_,rfl⟩) (λn=>by
      unfold C6;simp only[Ad hI,Ec]
      have:decide ((f.Blocks.getD i default).Ops.length<((f.Blocks.getD i default).Ops.length:Int))=false:=by simp
      simp only[this];exact⟨_,rfl⟩) _ 0 x1 (Ha _)
    rw[show((0:Nat):Int)=0 from rfl]at h1 h2;simp only[Ec,h1,h2,Ai,Lx hi hf.blocks];exact⟨_,rfl⟩
  ·unfold C7
   have:decide ((f.Blocks.length:Int)<(f.Blocks.length:Int))=false:=by simp
   simp only[this];exact⟨_,rfl⟩
 obtain⟨x,hx⟩:=h3;unfold Dc;rw[show((0:Nat):Int)=0 from rfl]at hx;rw[hx];exact⟨_,rfl⟩
theorem eK(f:TFunc)(hf:fA f)(h0:f.Params.length<=64)(hb:∀ b∈f.Blocks,b.End.To.length<=64/\(∀ p∈b.Phis,p.From.length<=64/\p.Args.length<=64)/\∀ o∈b.Ops,o.Args.length<=64):Dc f=some (decide (lL f<=20000)):=by
 have h3:=HM f.Blocks (default:Am) lK 20000 (C7 f) (λn i hi hn=>by
   have hmem:=getD_mem (d:=(default:Am)) hi;obtain⟨b1,b2,b3⟩:=hf.block _ hmem;obtain⟨hTo,hPh,hOp⟩:=hb _ hmem;have hI1:A5 (i:Int) f.Blocks.length:=Ao hi
   have l1:=HM (f.Blocks.getD i default).Phis (default:Ic) lM 20000 (C5 f i) (λn j hj hn=>by
     have hm:=getD_mem (d:=(default:Ic)) hj;obtain⟨p1,p2⟩:=hPh _ hm
     have e1:decide ((j:Int)<((f.Blocks.getD i default).Phis.length:Int))=true:=by simpa using hj
     have e2:decide ((n:Int)<=20000)=true:=by simp;omega
     refine⟨n+lM ((f.Blocks.getD i default).Phis.getD j default),?_,λ_=>rfl,λh=>h⟩;unfold C5;simp only[Ad hI1,Ec,e1,e2,Ae,Ad (Ao hj),Lx hj b1]
     congr 3
     rw[F0 (n:=(n:Int)+1) (by omega) (by omega),F0 (n:=(n:Int)+1+_) (by omega) (by omega),F0 (by omega) (by omega)];simp only[lM]
     omega) (λn j hj hd=>by
     unfold C5;simp only[Ad hI1,Ec]
     have:(bif decide ((j:Int)<((f.Blocks.getD i default).Phis.length:Int)) then decide ((n:Int)<=20000) else false)=false:=by
      rcases hd with rfl|h
      ·simp
      ·simp;omega
     rw[this];rfl)
   have l2:=HM (f.Blocks.getD i default).Ops (default:Ce) ai 20000 (C6 f i) (λn j hj hn=>by
     have hm:=getD_mem (d:=(default:Ce)) hj;have p1:=hOp _ hm
     have e1:decide ((j:Int)<((f.Blocks.getD i default).Ops.length:Int))=true:=by simpa using hj
     have e2:decide ((n:Int)<=20000)=true:=by simp;omega
     refine⟨n+ai ((f.Blocks.getD i default).Ops.getD j default),?_,λ_=>rfl,λh=>h⟩;unfold C6;simp only[Ad hI1,Ec,e1,e2,Ae,Ad (Ao hj),Lx hj b2]
     congr 3
     rw[F0 (n:=(n:Int)+1) (by omega) (by omega),F0 (by omega) (by omega)];simp only[ai]
     omega) (λn j hj hd=>by
     unfold C6;simp only[Ad hI1,Ec]
     have:(bif decide ((j:Int)<((f.Blocks.getD i default).Ops.length:Int)) then decide ((n:Int)<=20000) else false)=false:=by
      rcases hd with rfl|h
      ·simp
      ·simp;omega
     rw[this];rfl)
   have e1:decide ((i:Int)<(f.Blocks.length:Int))=true:=by simpa using hi
   have e2:decide ((n:Int)<=20000)=true:=by simp;omega
   obtain⟨m1,q1,q2,q3⟩:=l1 _ 0 (n+1+(f.Blocks.getD i default).End.To.length) (Ha _);obtain⟨m2,q4,q5,q6⟩:=l2 _ 0 m1 (Ha _);rw[Js]at q2 q3 q5 q6;refine⟨m2,?_,λhle=>?_,λhle=>?_⟩
   ·unfold C7;simp only[e1,e2,Ae,Ad hI1,Ec,Lx hi hf.blocks];rw[F0 (n:=(n:Int)+1) (by omega) (by omega),F0 (by omega) (by omega),show(n:Int)+1+((f.Blocks.getD i default).End.To.length:Int)=((n+1+(f.Blocks.getD i default).End.To.length:Nat):Int) by omega];rw[show((0:Nat):Int)=0 from rfl]at q1 q4;rw[q1,Ai,q4,Ai]
   ·simp only[lK]at hle ⊢;have:=q2 (by omega);rw[q5 (by omega)];omega
   ·simp only[lK];have h6:=q6 hle;have h3:=q3 (by omega);have:=q2 h3
    omega) (λn i hi hd=>by
   unfold C7
   have:(bif decide ((i:Int)<(f.Blocks.length:Int)) then decide ((n:Int)<=20000) else false)=false:=by
    rcases hd with rfl|h
    ·simp
    ·simp;omega
   simp only[this,An]) f.Blocks.length 0 f.Params.length (Ha _)
 obtain⟨m,h1,h2,h4⟩:=h3;rw[Js]at h2 h4;unfold Dc;rw[show((0:Nat):Int)=0 from rfl]at h1;rw[h1,Ai]
 congr 1
 apply zzL76.2
 simp only[lL]
 constructor
 ·intro h;exact h4 (by omega)
 ·intro h;have:=h2 h;omega
theorem Vl(n:Int):Bw n=some (numB n):=by unfold Bw numB;cases decide (0<=n)<;>rfl
theorem Sn(l:List Int)(h:l.length<=maxLen):Ds l=some (listB l):=by
 unfold Ds;rw[Lq]at h
 have hloop:=Hj l 0 numB (F8 l) (.inl ()) (.inr false) (λi hi hp=>by
   unfold F8
   have:decide (i<(l.length:Int))=true:=by simpa using hi
   simp only[this,Ae,Ad (Ao hi),Ec,Vl,Ai,hp,E7,An,A3 hi (by omega)]) (λi hi hp=>by
   unfold F8
   have:decide (i<(l.length:Int))=true:=by simpa using hi
   simp only[this,Ae,Ad (Ao hi),Ec,Vl,Ai,hp,Mr]) (by
   unfold F8
   simp) l.length 0 (by omega)
 rw[show(0:Int)=(0:Nat) from rfl,hloop,Js];unfold listB
 have e:decide ((l.length:Int)<=64)=decide (l.length<=64):=by grind
 cases l.all _
 ·rfl
 ·simp[e]
theorem py(f:TFunc)(hf:fA f):Ks f=some (sizeW f):=by
 unfold Ks
 have hl:=JY _ default NG id (In f) (λn i hi=>by
   have e1:decide ((i:Int)<f.Blocks.length)=true:=by simpa using hi
   unfold In;simp only[e1,Ae,Ad (Ao hi),Ec,Lx hi hf.blocks]
   congr 3
   rw[IV,IV,Int.add_assoc _,IV];unfold NG
   congr 1
   omega) (λn=>by
   unfold In
   simp) _ 0 0 (Ha _)
 rw[show w64 _=0 from rfl,show((0:Nat):Int)=0 from rfl]at hl;rw[hl];simp[Vo,sizeW]
theorem uE(f:TFunc)(hf:fA f):I6 f=some (V1 f):=by
 have hloop:Ab (Fa f) ((0:Nat):Int)=some (bif (f.Blocks.drop 0).all blockB then .inl () else .inr false):=by
  have step:∀ i:Nat,i<f.Blocks.length->Fa f (i:Int)=bif blockB (f.Blocks.getD i default) then some (.next ((i:Int)+1)) else some (.done (.inr false)):=λi hi=>by
   have hmem:=getD_mem (d:=(default:Am)) hi;obtain⟨b1,b2,b3⟩:=hf.block _ hmem;have hPh:=hf.phi _ hmem;have hOp:=hf.op _ hmem;have hM:=Lq
   have e0:decide ((i:Int)<(f.Blocks.length:Int))=true:=by simpa using hi
   have l1:=Hj (f.Blocks.getD i default).Phis (default:Ic) IB (Gs f i) (.inl ()) (.inr false) (λj hj hp=>by
     obtain⟨p1,p2⟩:=hPh _ (getD_mem (d:=(default:Ic)) hj)
     have e1:decide ((j:Int)<((f.Blocks.getD i default).Phis.length:Int))=true:=by simpa using hj
     unfold Gs;simp only[e1,Ae,Ec,Ad (Ao hj),Vl,Ai,Sn _ p1,Sn _ p2,A3 hj (by omega)]
     revert hp
     unfold IB
     cases numB ((f.Blocks.getD i default).Phis.getD j default).Bits<;>cases numB ((f.Blocks.getD i default).Phis.getD j default).Dst<;>cases listB ((f.Blocks.getD i default).Phis.getD j default).From<;>cases listB ((f.Blocks.getD i default).Phis.getD j default).Args<;>simp) (λj hj hp=>by
     obtain⟨p1,p2⟩:=hPh _ (getD_mem (d:=(default:Ic)) hj)
     have e1:decide ((j:Int)<((f.Blocks.getD i default).Phis.length:Int))=true:=by simpa using hj
     unfold Gs;simp only[e1,Ae,Ec,Ad (Ao hj),Vl,Ai,Sn _ p1,Sn _ p2,A3 hj (by omega)]
     revert hp
     unfold IB
     cases numB ((f.Blocks.getD i default).Phis.getD j default).Bits<;>cases numB ((f.Blocks.getD i default).Phis.getD j default).Dst<;>cases listB ((f.Blocks.getD i default).Phis.getD j default).From<;>cases listB ((f.Blocks.getD i default).Phis.getD j default).Args<;>simp) (by
     unfold Gs
     simp) _ 0 (Ha _)
   have l2:=Hj (f.Blocks.getD i default).Ops (default:Ce) gf (Gt f i) (.inl ()) (.inr false) (λj hj hp=>by
     obtain⟨p1,_⟩:=hOp _ (getD_mem (d:=(default:Ce)) hj)
     have e1:decide ((j:Int)<((f.Blocks.getD i default).Ops.length:Int))=true:=by simpa using hj
     unfold Gt;simp only[e1,Ae,Ec,Ad (Ao hj),Vl,Ai,Sn _ p1,A3 hj (by omega)]
     revert hp
     unfold gf
     cases numB ((f.Blocks.getD i default).Ops.getD j default).Kind<;>cases numB ((f.Blocks.getD i default).Ops.getD j default).Bits<;>cases numB ((f.Blocks.getD i default).Ops.getD j default).Lanes<;>cases numB ((f.Blocks.getD i default).Ops.getD j default).Dst<;>cases listB ((f.Blocks.getD i default).Ops.getD j default).Args<;>simp) (λj hj hp=>by
     obtain⟨p1,_⟩:=hOp _ (getD_mem (d:=(default:Ce)) hj)
     have e1:decide ((j:Int)<((f.Blocks.getD i default).Ops.length:Int))=true:=by simpa using hj
     unfold Gt;simp only[e1,Ae,Ec,Ad (Ao hj),Vl,Ai,Sn _ p1,A3 hj (by omega)]
     revert hp
     unfold gf
     cases numB ((f.Blocks.getD i default).Ops.getD j default).Kind<;>cases numB ((f.Blocks.getD i default).Ops.getD j default).Bits<;>cases numB ((f.Blocks.getD i default).Ops.getD j default).Lanes<;>cases numB ((f.Blocks.getD i default).Ops.getD j default).Dst<;>cases listB ((f.Blocks.getD i default).Ops.getD j default).Args<;>simp) (by
     unfold Gt
     simp) _ 0 (Ha _)
   rw[show((0:Nat):Int)=0 from rfl,Js]at l1 l2;unfold Fa;simp only[e0,Ae,Ad (Ao hi),l1,Ai];unfold blockB
   cases(f.Blocks.getD i default).Phis.all IB with
   | false=>rfl
   | true=>
    simp only[Ae,l2,Ai,Ec,Vl,Sn _ b3,A3 hi (by have:=hf.blocks;omega)]
    cases(f.Blocks.getD i default).Ops.all gf with
    | false=>rfl
    | true=>
     unfold fw
     cases numB (f.Blocks.getD i default).End.Kind<;>cases numB (f.Blocks.getD i default).End.Arg<;>cases listB (f.Blocks.getD i default).End.To<;>rfl
  exact Hj f.Blocks (default:Am) blockB (Fa f) (.inl ()) (.inr false) (λi hi hp=>by rw[step i hi,hp];rfl) (λi hi hp=>by rw[step i hi,hp];rfl) (by
   unfold Fa
   simp) _ 0 (Ha _)
 rw[show((0:Nat):Int)=0 from rfl,Js]at hloop;unfold I6 V1;simp only[Sn _ hf.params,Vl,py f hf,hloop]
 have e1:((f.Blocks.length:Int)==0) = !decide (1<=f.Blocks.length):=by
  rw[<- decide_not]
  by_cases h:f.Blocks.length=0
  ·simp[h]
  ·have h1:((f.Blocks.length:Int)==0)=false:=by simpa using h
   rw[h1];symm;apply B7;omega
 have e2:decide ((64:Int)<(f.Blocks.length:Int)) = !decide (f.Blocks.length<=64):=by rw[<- decide_not];apply zzL76.2;omega
 have e3:decide ((16:Int)<(f.Params.length:Int)) = !decide (f.Params.length<=16):=by rw[<- decide_not];apply zzL76.2;omega
 have e4:decide ((512:Int)<sizeW f) = !decide (sizeW f<=512):=by rw[<- decide_not];apply zzL76.2;omega
 rw[e1,e2,e3]
 generalize decide (1<=f.Blocks.length)=p1
 generalize decide (f.Blocks.length<=64)=p2
 generalize decide (f.Params.length<=16)=p3
 generalize listB f.Params=p4
 generalize numB f.Ret=p5
 cases p1 with
 | false=>simp
 | true=>cases p2 with
  | false=>simp
  | true=>cases p3 with
   | false=>simp
   | true=>cases p4 with
    | false=>simp
    | true=>cases p5 with
     | false=>simp
     | true=>
      simp only[E7,Bool.or_self,Ae,An,Vp,Ai,e4]
      cases decide (sizeW f<=512) with
      | false=>simp
      | true=>cases f.Blocks.all blockB<;>simp
theorem pL{n:Int}:numB n=true↔0<=n/\n<=2147483647:=by simp[numB]
theorem listB_iff{l:List Int}:listB l=true↔oq l/\l.length<=64:=by
 simp[listB,oq,pL]
def zI(n:Int):Prop:=0<=n/\n<18446744073709551616
structure OkB(b:Am):Prop where
 may:blockB b=true
 phis:b.Phis.length<=512
 ops:b.Ops.length<=512
 imm:∀ o∈b.Ops,zI o.Imm
structure OkF(f:TFunc):Prop where
 params:listB f.Params=true
 few:f.Params.length<=16
 ret:numB f.Ret=true
 blocks:f.Blocks.length<=64
 block:∀ b∈f.Blocks,OkB b
theorem blockB_iff{b:Am}:blockB b=true↔(∀ p∈b.Phis,IB p=true)/\(∀ o∈b.Ops,gf o=true)/\fw b.End=true:=by
 simp[blockB,and_assoc]
theorem ww{α:Type}(l:List α)(g:α->Nat)(B:Nat)(h:∀ a∈l,g a<=B):(l.map g).sum<=l.length*B:=by
 induction l with
 | nil=>simp
 | cons a l ih=>
  have h1:=h a (by simp);have h2:=ih (λb hb=>h b (by simp[hb]));rw[Cy,TF,Vq,E8];omega
theorem qD{α:Type}(l:List α)(g k:α->Nat)(h:∀ a∈l,g a<=k a):(l.map g).sum<=(l.map k).sum:=by
 induction l with
 | nil=>simp
 | cons a l ih=>
  grind
theorem QX{α:Type}(l:List α)(g:α->Nat)(h:∀ a∈l,1<=g a):l.length<=(l.map g).sum:=by
 induction l with
 | nil=>simp
 | cons a l ih=>
  grind
theorem gQ{α:Type}{l:List α}{a:α}(g:α->Nat)(h:a∈l):g a<=(l.map g).sum:=by
 induction l with
 | nil=>cases h
 | cons b l ih=>
  grind
theorem OkF.size{f:TFunc}(h:OkF f):Vo f<=65600/\sizeW f=Vo f:=by
 have:Vo f<=f.Blocks.length*1025:=ww _ _ _ λb hb=>by
  have h1:=(h.block b hb).phis;have h2:=(h.block b hb).ops;simp only[NG];omega
 have h2:=h.blocks
 have h3:Vo f<=65600:=by omega
 exact⟨h3,PH (by omega)⟩
theorem KB{f:TFunc}(h:V1 f=true):1<=f.Blocks.length/\f.Blocks.length<=64/\f.Params.length<=16/\listB f.Params=true/\numB f.Ret=true/\sizeW f<=512/\∀ b∈f.Blocks,blockB b=true:=by
 simp only[V1,Be,En,zzL30]at h;exact⟨h.1.1.1.1.1.1,h.1.1.1.1.1.2,h.1.1.1.1.2,h.1.1.1.2,h.1.1.2,h.1.2,h.2⟩
theorem lf{f:TFunc}(h:V1 f=true):f.Params.length<=64/\∀ b∈f.Blocks,b.End.To.length<=64/\(∀ p∈b.Phis,p.From.length<=64/\p.Args.length<=64)/\∀ o∈b.Ops,o.Args.length<=64:=by
 obtain⟨_,_,h3,_,_,_,h7⟩:=KB h;refine⟨by omega,λb hb=>?_⟩;obtain⟨q1,q2,q3⟩:=blockB_iff.1 (h7 b hb);simp only[fw,Be]at q3;refine⟨(listB_iff.1 q3.2).2,λp hp=>?_,λo ho=>?_⟩
 ·have:=q1 p hp;simp only[IB,Be]at this;exact⟨(listB_iff.1 this.1.2).2,(listB_iff.1 this.2).2⟩
 ·have:=q2 o ho;simp only[gf,Be]at this;exact(listB_iff.1 this.2).2
theorem wb{f:TFunc}(hf:fA f)(h:V1 f=true)(hs:lL f<=20000):OkF f/\Vo f<=512:=by
 obtain⟨h1,h2,h3,h4,h5,h6,h7⟩:=KB h
 have hle:Vo f<=lL f:=by
  have:Vo f<=(f.Blocks.map lK).sum:=qD _ _ _ λb hb=>by
   have q1:b.Phis.length<=(b.Phis.map lM).sum:=QX _ _ λp hp=>by simp only[lM];omega
   have q2:b.Ops.length<=(b.Ops.map ai).sum:=QX _ _ λp hp=>by simp only[ai];omega
   simp only[NG,lK];omega
  simp only[lL];omega
 have hw:sizeW f=Vo f:=PH (by omega)
 have h512:Vo f<=512:=by omega
 refine⟨⟨h4,h3,h5,h2,λb hb=>?_⟩,h512⟩;have hb512:NG b<=Vo f:=gQ _ hb;simp only[NG]at hb512;exact⟨h7 b hb,by omega,by omega,λo ho=>(hf.op b hb o ho).2⟩
theorem eL(f:TFunc)(hf:fA f):∃ sm,Dc f=some sm/\(sm=true->V1 f=true->OkF f/\Vo f<=512/\1<=f.Blocks.length):=by
 obtain⟨sm,h⟩:=SS f hf;refine⟨sm,h,λh1 h2=>?_⟩;obtain⟨q1,q2⟩:=lf h2;rw[eK f hf q1 q2]at h;obtain⟨r1,r2⟩:=wb hf h2 (by grind);exact⟨r1,r2,(KB h2).1⟩
def OX(l:Int):Int:=bif l==0 then 17 else bif l==1 then 20 else 22
def Qq(l:Int)(o:Ce):Bool:=Lb o&&!decide (OX l<o.Kind)&&!(decide (l<2)&&decide (1<o.Lanes))
def Jk(l:Int)(b:Am):Bool:=(b.Phis.all λp=>widthB p.Bits)&&b.Ops.all (Qq l)
def Uo(f:TFunc)(l:Int):Bool:=f.Params.all widthB&&f.Blocks.all (Jk l)&&widthB f.Ret
theorem tf{m a b c:Bool}{x:Int}:(bif (bif (bif (!m) then true else a) then true else(bif b then c else false)) then(some (LR.done (Sum.inr false))) else some (LR.next x):Option (LR Int (Unit ⊕ Bool)))=some (bif (m&&!a&&!(b&&c)) then .next x else .done (.inr false)):=by
 grind
theorem ln{f:TFunc}(hf:OkF f){b:Am}(hb:b∈f.Blocks){o:Ce}(ho:o∈b.Ops):bz o:=by
 have h1:=hf.block b hb;have h2:=(blockB_iff.1 h1.may).2.1 o ho;simp only[gf,Be]at h2;exact⟨⟨(h1.imm o ho).1,(h1.imm o ho).2⟩,by have:=(listB_iff.1 h2.2).2;omega⟩
theorem tF{f:TFunc}(hf:OkF f)(l:Int):J3 f l=some (Uo f l):=by
 have hp:=Hj f.Params (0:Int) widthB (Fq f) (.inl ()) (.inr false) (λi hi hp=>by
   unfold Fq
   have:decide ((i:Int)<(f.Params.length:Int))=true:=by simpa using hi
   simp only[this,Ae,Ad (Ao hi),Ec,Sl,Ai,hp,E7,An,A3 hi (by have:=hf.few;omega)]) (λi hi hp=>by
   unfold Fq
   have:decide ((i:Int)<(f.Params.length:Int))=true:=by simpa using hi
   simp only[this,Ae,Ad (Ao hi),Ec,Sl,Ai,hp,Mr]) (by
   unfold Fq;simp) f.Params.length 0 (by omega)
 have hb:=Hj f.Blocks (default:Am) (Jk l) (Fs f l) (.inl ()) (.inr false)
 have hphi:∀ i:Nat,i<f.Blocks.length->Ab (D8 f (i:Int)) (0:Int)=some _:=λi hi=>by
  have hB:=hf.block _ (getD_mem (d:=(default:Am)) hi)
  have:=Hj (f.Blocks.getD i default).Phis (default:Ic) (λp=>widthB p.Bits) (D8 f (i:Int)) (.inl ()) (.inr false) (λj hj hp=>by
   unfold D8
   have:decide ((j:Int)<((f.Blocks.getD i default).Phis.length:Int))=true:=by simpa using hj
   simp only[Ad (Ao hi),Ec,this,Ae,Ad (Ao hj),Sl,Ai,hp,E7,An,A3 hj (by have:=hB.phis;omega)]) (λj hj hp=>by
   unfold D8
   have:decide ((j:Int)<((f.Blocks.getD i default).Phis.length:Int))=true:=by simpa using hj
   simp only[Ad (Ao hi),Ec,this,Ae,Ad (Ao hj),Sl,Ai,hp,Mr]) (by
   unfold D8;simp[Ad (Ao hi)]) (f.Blocks.getD i default).Phis.length 0 (by omega)
  rw[show(0:Int)=((0:Nat):Int) from rfl,this,Js]
 have hops:∀ i:Nat,i<f.Blocks.length->Ab (D9 f l (i:Int)) (0:Int)=some _:=λi hi=>by
  have hmem:=getD_mem (d:=(default:Am)) hi;have hB:=hf.block _ hmem
  have key:∀(j:Nat),j<(f.Blocks.getD i default).Ops.length->D9 f l (i:Int) (j:Int)=some (bif Qq l ((f.Blocks.getD i default).Ops.getD j default) then .next ((j:Int)+1) else .done (.inr false)):=λj hj=>by
   unfold D9
   have hd:decide ((j:Int)<((f.Blocks.getD i default).Ops.length:Int))=true:=by simpa using hj
   have hok:=ln hf hmem (getD_mem (d:=(default:Ce)) hj);simp only[Ad (Ao hi),Ec,hd,Ae,Ad (Ao hj),A3 hj (by have:=hB.ops;omega)];unfold Qq OX;cases h1:(l==1)<;>cases h0:(l==0)<;>simp only[Ae,An,Ai,bR _ hok,tf]
  have:=Hj (f.Blocks.getD i default).Ops (default:Ce) (Qq l) (D9 f l (i:Int)) (.inl ()) (.inr false) (λj hj hp=>by rw[key j hj,hp];rfl) (λj hj hp=>by rw[key j hj,hp];rfl) (by
   unfold D9;simp[Ad (Ao hi)]) (f.Blocks.getD i default).Ops.length 0 (by omega)
  rw[show(0:Int)=((0:Nat):Int) from rfl,this,Js]
 have hb':=hb (λi hi hp=>by
   unfold Fs
   have:decide ((i:Int)<(f.Blocks.length:Int))=true:=by simpa using hi
   simp only[Jk,Be]at hp
   simp only[this,Ae,hphi i hi,hops i hi,hp.1,hp.2,Ai,A3 hi (by have:=hf.blocks;omega)]) (λi hi hp=>by
   unfold Fs
   have:decide ((i:Int)<(f.Blocks.length:Int))=true:=by simpa using hi
   simp only[Jk]at hp;simp only[this,Ae,hphi i hi,hops i hi,Ai]
   cases h1:((f.Blocks.getD i default).Phis.all λp=>widthB p.Bits) with
   | false=>rfl
   | true=>grind) (by
   unfold Fs;simp) f.Blocks.length 0 (by omega)
 unfold J3 Uo;rw[show(0:Int)=((0:Nat):Int) from rfl,hp,hb',Js,Js]
 cases f.Params.all widthB<;>cases f.Blocks.all (Jk l)<;>simp[Sl]
theorem DO:room=1099511627776:=rfl
theorem Mv{β:Type}(n A C:Nat)(E:Nat->List β)(hE:∀ i,i<n->(E i).length<=C)(f:List β×Int->Option (LR (List β×Int) (List β)))
  (hn:∀(acc:List β) (i:Nat),i<n->acc.length<=A+i*C->f (acc,(i:Int))=some (.next (acc++E i,(i:Int)+1)))
  (hd:∀ acc:List β,f (acc,(n:Int))=some (.done acc)):∀(k i:Nat) (acc:List β),i+k=n->acc.length<=A+i*C->Ab f (acc,(i:Int))=some (acc++(List.range' i k).flatMap E)
 | 0,i,acc,h,_=>by
  obtain rfl:i=n:=by omega
  rw[Ah (hd acc)]
  simp
 | k+1,i,acc,h,hA=>by
  have hi:i<n:=by omega
  have h2:acc.length+C<=A+(i+1)*C:=by rw[E8];omega
  rw[Aq (hn acc i hi hA),show(i+1)=((i+1:Nat):Int) by omega,Mv n A C E hE f hn hd k _ _ (by omega) (by grind),EY,Ur,Px]
theorem Kh{β:Type}(C:Nat)(E:Nat->List β):∀ l:List Nat,(∀ i∈l,(E i).length<=C)->(l.flatMap E).length<=l.length*C
 | [],_=>by simp
 | a::l,h=>by
  have h1:=h a (by simp);have h2:=Kh C E l (λi hi=>h i (by simp[hi]));rw[Ur,Gk,Vq,E8];omega
def Lk(l:List TDef)(v:Int):Int:=match l.findIdx? (λd=>d.V==v) with|some i=>(i:Int)|none=>-1
theorem ay(l:List TDef)(v:Int)(hl:l.length<=1000000):E1 l v=some (Lk l v):=by
 have key:∀(k i:Nat),i+k=l.length->Ab (Ge l v) i=some (match(l.drop i).findIdx? (λd=>d.V==v) with|some j=>.inr (i+j:Nat)|none=>.inl ()):=by
  intro k
  induction k with
  | zero=>
   intro i h
   obtain rfl:i=l.length:=by omega
   rw[Ah (x:=.inl ()) (by unfold Ge;simp)]
   simp
  | succ k ih=>
   intro i h
   have hi:i<l.length:=by omega
   have hdr:l.drop i=l.getD i default::l.drop (i+1):=by simp_all
   have hd:decide (i<(l.length:Int))=true:=by simpa using hi
   rw[hdr,List.findIdx?_cons]
   cases hb:(l.getD i _).V==v with
   | true=>
    rw[Ah (x:=.inr i) (by unfold Ge;simp only[hd,Ae,Ad (Ao hi),Ec,hb])]
    simp
   | false=>
    rw[Aq (s':=((i+1:Nat):Int)) (by unfold Ge;simp only[hd, Ad (Ao hi),Ec,hb, A3 hi (by omega)];rfl),ih _ (by omega)]
    cases(l.drop _).findIdx? _ with
    | none=>simp
    | some j=>simp;omega
 unfold E1 Lk;rw[show 0=((0:Nat):Int) from rfl,key l.length 0 (by omega),Js]
 cases l.findIdx? _ with
 | none=>rfl
 | some j=>simp
def Ll(o:Ce):Int×Int:=bif Lb o then Pg o.Kind o.Bits o.Lanes else(0,0)
def Hc(o:Ce):List (Int×Int):=bif Lb o then Rz o else[]
def Sh(f:TFunc):List TDef:=(List.range f.Params.length).flatMap λ(i:Nat)=>[⟨(i:Int)+1,-1,0,(f.Params.getD i 0,1)⟩]
def Tj(b:Am)(i:Nat):List TDef:=(List.range b.Phis.length).flatMap λ(k:Nat)=>[⟨(b.Phis.getD k default).Dst,i,-1,((b.Phis.getD k default).Bits,1)⟩]
def AU(b:Am)(i:Nat):List TDef:=(List.range b.Ops.length).flatMap λ(k:Nat)=>bif decide (0<(Ll (b.Ops.getD k default)).1) then[⟨(b.Ops.getD k default).Dst,i,k,Ll (b.Ops.getD k default)⟩] else[]
def Tc(b:Am)(i:Nat):List TDef:=Tj b i++AU b i
def A1(f:TFunc):List TDef:=Sh f++(List.range f.Blocks.length).flatMap λi=>Tc (f.Blocks.getD i default) i
theorem MJ(b:Am)(i:Nat):(Tj b i).length<=b.Phis.length:=by
 have:=Kh 1 (λk=>[(⟨(b.Phis.getD k default).Dst,i,-1,((b.Phis.getD k default).Bits,1)⟩:TDef)]) (List.range b.Phis.length) (λ_ _=>zzL7 _)
 simpa [Tj] using this
theorem fu(b:Am)(i:Nat):(AU b i).length<=b.Ops.length:=by
 have:=Kh 1 (λk=>bif decide (0<(Ll (b.Ops.getD k default)).1) then[(⟨(b.Ops.getD k default).Dst,i,k,Ll (b.Ops.getD k default)⟩:TDef)] else[]) (List.range b.Ops.length) (λk _=>by grind)
 simpa [AU] using this
theorem WS{f:TFunc}(hf:OkF f){i:Nat}(hi:i<f.Blocks.length):(Tc (f.Blocks.getD i default) i).length<=1024:=by
 have hB:=hf.block _ (getD_mem (d:=default) hi);have h1:=MJ (f.Blocks.getD i default) i;have h2:=fu (f.Blocks.getD i default) i;have h3:=hB.phis;have h4:=hB.ops;rw[Tc,Gk];omega
theorem CY(f:TFunc):(Sh f).length=f.Params.length:=by
 have h:∀ l:List Nat,(l.map λ_=>1).sum=l.length:=λl=>by induction l with|nil=>rfl|cons a l ih=>simp[ih];omega
 simp[Sh, h]
theorem lG{f:TFunc}(hf:OkF f):(A1 f).length<=100000:=by
 have h1:=Kh _ _ (List.range _) (λi hi=>WS hf (by simpa using hi));have h2:=CY f;have h3:=hf.few;have h4:=hf.blocks;rw[Zd]at h1;rw[A1,Gk];omega
theorem wW{f:TFunc}(hf:OkF f):Kw f=some (A1 f):=by
 have hp:=Mv f.Params.length 0 1 (λ(i:Nat)=>[(⟨(i:Int)+1,-1,0,(f.Params.getD i 0,1)⟩:TDef)]) (λ_ _=>zzL7 _) (It f) (λacc i hi hA=>by
   unfold It
   have hd:decide ((i:Int)<(f.Params.length:Int))=true:=by simpa using hi
   have hr:acc.length+([(⟨(i:Int)+1,(-1:Int),(0:Int),((f.Params.getD i 0),(1:Int))⟩:TDef)]:List (TDef)).length<=room:=by have:=hf.few;rw[DO];simp;omega
   simp only[hd,Ae,Ad (Ao hi),Ec,A3 hi (by have:=hf.few;omega),Ad hr]) (λacc=>by unfold It;simp) f.Params.length 0 [] (by omega) (by simp)
 have hphi:∀(i:Nat),i<f.Blocks.length->∀ acc:List TDef,acc.length<=100000->Ab (Gb f (i:Int)) (acc,(0:Int))=some (acc++Tj (f.Blocks.getD i default) i):=λi hi acc hacc=>by
  have hB:=hf.block _ (getD_mem (d:=(default:Am)) hi)
  have:=Mv (f.Blocks.getD i default).Phis.length 100000 1 (λ(k:Nat)=>[(⟨((f.Blocks.getD i default).Phis.getD k default).Dst,i,-1,(((f.Blocks.getD i default).Phis.getD k default).Bits,1)⟩:TDef)]) (λ_ _=>zzL7 _) (Gb f (i:Int)) (λacc k hk hA=>by
   unfold Gb
   have hd:decide ((k:Int)<((f.Blocks.getD i default).Phis.length:Int))=true:=by simpa using hk
   have hr:∀ x:TDef,acc.length+([x]:List TDef).length<=room:=λx=>by have:=hB.phis;rw[DO];simp;omega
   simp only[Ec,hd,Ae,Ad (Ao hk),A3 hk (by have:=hB.phis;omega),Ad (hr _)]) (λacc=>by unfold Gb;simp) (f.Blocks.getD i default).Phis.length 0 acc (by omega) (by omega)
  rw[show(0:Int)=((0:Nat):Int) from rfl,this,Tj,Qv]
 have hop:∀(i:Nat),i<f.Blocks.length->∀ acc:List TDef,acc.length<=100000->Ab (Gc f (i:Int)) (acc,(0:Int))=some (acc++AU (f.Blocks.getD i default) i):=λi hi acc hacc=>by
  have hmem:=getD_mem (d:=(default:Am)) hi;have hB:=hf.block _ hmem
  have:=Mv (f.Blocks.getD i default).Ops.length 100000 1 (λ(k:Nat)=>bif decide (0<(Ll ((f.Blocks.getD i default).Ops.getD k default)).1) then[(⟨((f.Blocks.getD i default).Ops.getD k default).Dst,i,k,Ll ((f.Blocks.getD i default).Ops.getD k default)⟩:TDef)] else[]) (λk _=>by grind) (Gc f (i:Int)) (λacc k hk hA=>by
   unfold Gc;have hok:=ln hf hmem (getD_mem (d:=(default:Ce)) hk)
   have hd:decide ((k:Int)<((f.Blocks.getD i default).Ops.length:Int))=true:=by simpa using hk
   have hr:∀ x:TDef,acc.length+([x]:List TDef).length<=room:=λx=>by have:=hB.ops;rw[DO];simp;omega
   have hg:Hm ((f.Blocks.getD i default).Ops.getD k default)=some (Ll ((f.Blocks.getD i default).Ops.getD k default)):=lw _ hok;simp only[Ec,hd,Ae,Ad (Ao hk),hg,Ai,A3 hk (by have:=hB.ops;omega),Ad (hr _)]
   cases decide (0<(Ll ((f.Blocks.getD i default).Ops.getD k default)).1)<;>simp) (λacc=>by unfold Gc;simp) (f.Blocks.getD i default).Ops.length 0 acc (by omega) (by omega)
  rw[show(0:Int)=((0:Nat):Int) from rfl,this,AU,Qv]
 have hb:=Mv f.Blocks.length 16 1024 (λi=>Tc (f.Blocks.getD i default) i) (λi hi=>WS hf hi) (Iu f) (λacc i hi hA=>by
   unfold Iu
   have hd:decide ((i:Int)<(f.Blocks.length:Int))=true:=by simpa using hi
   have hB:=hf.block _ (getD_mem (d:=(default:Am)) hi);have h64:=hf.blocks;have h2:=MJ (f.Blocks.getD i default) i;have h3:=hB.phis
   simp only[hd,Ae,Ad (Ao hi),hphi i hi acc (by omega),Ai,hop i hi (acc++Tj (f.Blocks.getD i default) i) (by rw[Gk];omega),A3 hi (by omega),Tc,Px]) (λacc=>by unfold Iu;simp) f.Blocks.length 0 (Sh f) (by omega) (by have:=CY f;have:=hf.few;omega)
 unfold Kw;rw[show(0:Int)=((0:Nat):Int) from rfl,hp,Ai,W9]
 have e:(List.range' 0 f.Params.length).flatMap (λ(i:Nat)=>[(⟨(i:Int)+1,-1,0,(f.Params.getD i 0,1)⟩:TDef)])=Sh f:=by rw[Sh,Qv]
 rw[e,hb,Ai,A1,Qv]
def N3(p:Ic):List C9:=(List.range p.Args.length).flatMap λ(j:Nat)=>[⟨p.Args.getD j 0,p.From.getD j 0,1000,(p.Bits,1)⟩]
def Nd(b:Am):List C9:=(List.range b.Phis.length).flatMap λ(k:Nat)=>N3 (b.Phis.getD k default)
def Qt(o:Ce)(i k:Nat):List C9:=(List.range (Hc o).length).flatMap λ(j:Nat)=>[⟨o.Args.getD j 0,i,k,(Hc o).getD j (0,0)⟩]
def S5(b:Am)(i:Nat):List C9:=(List.range b.Ops.length).flatMap λ(k:Nat)=>Qt (b.Ops.getD k default) i k
def Yq(f:TFunc)(b:Am)(i:Nat):List C9:=(bif b.End.Kind==0 then[⟨b.End.Arg,i,1000,(f.Ret,1)⟩] else[])++(bif b.End.Kind==2 then[⟨b.End.Arg,i,1000,(1,1)⟩] else[])
def IR(f:TFunc)(b:Am)(i:Nat):List C9:=Nd b++S5 b i++Yq f b i
def B5(f:TFunc):List C9:=(List.range f.Blocks.length).flatMap λ(i:Nat)=>IR f (f.Blocks.getD i default) i
theorem Yo{o:Ce}(h:o.Args.length<=64):(Hc o).length<=64/\(Hc o).length<=o.Args.length:=by
 unfold Hc
 cases hm:Lb o with
 | false=>simp
 | true=>
  simp only[Ae]
  have :=by
   simp only[Lb,Be]at hm;exact hm.1.2.2
  have h2 :=by simpa using this
  have h3:(Rz o).length=o.Args.length:=by rw[Rz,Ze,Zd,<- h2,Ec]
  omega
theorem RS{f:TFunc}(hf:OkF f){b:Am}(hb:b∈f.Blocks){p:Ic}(hp:p∈b.Phis):p.From.length<=64/\p.Args.length<=64:=by
 have:=(blockB_iff.1 (hf.block b hb).may).1 p hp;simp only[IB,Be]at this;exact⟨(listB_iff.1 this.1.2).2,(listB_iff.1 this.2).2⟩
theorem jl{f:TFunc}(hf:OkF f){b:Am}(hb:b∈f.Blocks){o:Ce}(ho:o∈b.Ops):o.Args.length<=64:=by
 have:=(blockB_iff.1 (hf.block b hb).may).2.1 o ho;simp only[gf,Be]at this;exact(listB_iff.1 this.2).2
theorem IU(p:Ic):(N3 p).length<=p.Args.length:=by
 have:=Kh 1 (λj=>[(⟨p.Args.getD j 0,p.From.getD j 0,1000,(p.Bits,1)⟩:C9)]) (List.range p.Args.length) (λ_ _=>zzL7 _)
 simpa [N3] using this
theorem NI(o:Ce)(i k:Nat):(Qt o i k).length<=(Hc o).length:=by
 have:=Kh 1 (λj=>[(⟨o.Args.getD j 0,i,k,(Hc o).getD j (0,0)⟩:C9)]) (List.range (Hc o).length) (λ_ _=>zzL7 _)
 simpa [Qt] using this
theorem NJ{f:TFunc}(hf:OkF f){b:Am}(hb:b∈f.Blocks):(Nd b).length<=32768:=by
 have:=Kh 64 (λk=>N3 (b.Phis.getD k default)) (List.range _) (λk hk=>by
  have h1:=IU (b.Phis.getD k default);have h2:=(RS hf hb (getD_mem (d:=default) (by simpa using hk))).2
  omega)
 have h3:=(hf.block b hb).phis;rw[Zd]at this;rw[Nd];omega
theorem SY{f:TFunc}(hf:OkF f){b:Am}(hb:b∈f.Blocks)(i:Nat):(S5 b i).length<=32768:=by
 have:=Kh 64 (λk=>Qt (b.Ops.getD k default) i k) (List.range _) (λk hk=>by
  have h1:=NI (b.Ops.getD k default) i k;have h2:=(Yo (jl hf hb (getD_mem (d:=default) (by simpa using hk)))).1
  omega)
 have h3:=(hf.block b hb).ops;rw[Zd]at this;rw[S5];omega
theorem eW(f:TFunc)(b:Am)(i:Nat):(Yq f b i).length<=2:=by
 unfold Yq
 cases b.End.Kind==0<;>cases b.End.Kind==2<;>simp
theorem YJ{f:TFunc}(hf:OkF f){i:Nat}(hi:i<f.Blocks.length):(IR f (f.Blocks.getD i default) i).length<=70000:=by
 have hmem:=getD_mem (d:=default) hi;have h1:=NJ hf hmem;have h2:=SY hf hmem i;have h3:=eW f (f.Blocks.getD i default) i;rw[IR,Gk,Gk];omega
theorem KZ{f:TFunc}(hf:OkF f):(B5 f).length<=4480000:=by
 have h1:=Kh _ _ (List.range _) (λi hi=>YJ hf (by simpa using hi));have h4:=hf.blocks;rw[Zd]at h1;rw[B5];omega
def jq(f:TFunc):Prop:=∀ b∈f.Blocks,∀ p∈b.Phis,p.Args.length<=p.From.length
theorem wZ{f:TFunc}(hf:OkF f)(hp:jq f):Kx f=some (B5 f):=by
 have hbig:∀{n:Nat},n<=100000000->∀ x:C9,n+([x]:List C9).length<=room:=λ{n} h x=>by rw[DO];simp;omega
 have h1:∀(i:Nat),i<f.Blocks.length->∀(k:Nat),k<(f.Blocks.getD i default).Phis.length->∀ acc:List C9,acc.length<=50000000->Ab (Gf f (i:Int) (k:Int)) (acc,(0:Int))=some (acc++N3 ((f.Blocks.getD i default).Phis.getD k default)):=λi hi k hk acc hacc=>by
  have hmem:=getD_mem (d:=(default:Am)) hi;have hpm:=getD_mem (d:=(default:Ic)) hk;have hlen:=RS hf hmem hpm;have hfit:=hp _ hmem _ hpm
  have:=Mv ((f.Blocks.getD i default).Phis.getD k default).Args.length 50000000 1 (λ(j:Nat)=>[(⟨((f.Blocks.getD i default).Phis.getD k default).Args.getD j 0,((f.Blocks.getD i default).Phis.getD k default).From.getD j 0,1000,(((f.Blocks.getD i default).Phis.getD k default).Bits,1)⟩:C9)]) (λ_ _=>zzL7 _) (Gf f (i:Int) (k:Int)) (λacc j hj hA=>by
   unfold Gf
   have hd:decide ((j:Int)<(((f.Blocks.getD i default).Phis.getD k default).Args.length:Int))=true:=by simpa using hj
   simp only[Ec,hd,Ae,Ad (Ao hj),Ad (Ao (Nat.lt_of_lt_of_le hj hfit)),A3 hj (by omega),Ad (hbig (n:=acc.length) (by omega) _)]) (λacc=>by unfold Gf;simp) ((f.Blocks.getD i default).Phis.getD k default).Args.length 0 acc (by omega) (by omega)
  rw[show(0:Int)=((0:Nat):Int) from rfl,this,N3,Qv]
 have h2:∀(i:Nat),i<f.Blocks.length->∀ acc:List C9,acc.length<=40000000->Ab (Gg f (i:Int)) (acc,(0:Int))=some (acc++Nd (f.Blocks.getD i default)):=λi hi acc hacc=>by
  have hmem:=getD_mem (d:=(default:Am)) hi;have hB:=hf.block _ hmem
  have:=Mv (f.Blocks.getD i default).Phis.length 40000000 64 (λ(k:Nat)=>N3 ((f.Blocks.getD i default).Phis.getD k default)) (λk hk=>by have:=IU ((f.Blocks.getD i default).Phis.getD k default);have:=(RS hf hmem (getD_mem (d:=(default:Ic)) hk)).2;omega) (Gg f (i:Int)) (λacc k hk hA=>by
   unfold Gg
   have hd:decide ((k:Int)<((f.Blocks.getD i default).Phis.length:Int))=true:=by simpa using hk
   have h5:=hB.phis;have h6:k*64<=512*64:=Em _ (by omega)
   simp only[Ec,hd,Ae,Ad (Ao hk),h1 i hi k hk acc (by omega),Ai,A3 hk (by omega)]) (λacc=>by unfold Gg;simp) (f.Blocks.getD i default).Phis.length 0 acc (by omega) (by omega)
  rw[show(0:Int)=((0:Nat):Int) from rfl,this,Nd,Qv]
 have h3:∀(i:Nat),i<f.Blocks.length->∀(k:Nat),k<(f.Blocks.getD i default).Ops.length->∀ acc:List C9,acc.length<=50000000->Ab (Gh f (i:Int) (k:Int) (Hc ((f.Blocks.getD i default).Ops.getD k default))) (acc,(0:Int))=some (acc++Qt ((f.Blocks.getD i default).Ops.getD k default) i k):=λi hi k hk acc hacc=>by
  have hmem:=getD_mem (d:=(default:Am)) hi;have hom:=getD_mem (d:=(default:Ce)) hk;have hlen:=Yo (jl hf hmem hom)
  have:=Mv (Hc ((f.Blocks.getD i default).Ops.getD k default)).length 50000000 1 (λ(j:Nat)=>[(⟨((f.Blocks.getD i default).Ops.getD k default).Args.getD j 0,i,k,(Hc ((f.Blocks.getD i default).Ops.getD k default)).getD j (0,0)⟩:C9)]) (λ_ _=>zzL7 _) (Gh f (i:Int) (k:Int) (Hc ((f.Blocks.getD i default).Ops.getD k default))) (λacc j hj hA=>by
   unfold Gh
   have hd:decide ((j:Int)<((Hc ((f.Blocks.getD i default).Ops.getD k default)).length:Int))=true:=by simpa using hj
   simp only[Ec,hd,Ae,Ad (Ao hk),Ad (Ao hj),Ad (Ao (Nat.lt_of_lt_of_le hj hlen.2)),A3 hj (by omega),Ad (hbig (n:=acc.length) (by omega) _)]) (λacc=>by unfold Gh;simp) (Hc ((f.Blocks.getD i default).Ops.getD k default)).length 0 acc (by omega) (by omega)
  rw[show(0:Int)=((0:Nat):Int) from rfl,this,Qt,Qv]
 have h4:∀(i:Nat),i<f.Blocks.length->∀ acc:List C9,acc.length<=40000000->Ab (Gi f (i:Int)) (acc,(0:Int))=some (acc++S5 (f.Blocks.getD i default) i):=λi hi acc hacc=>by
  have hmem:=getD_mem (d:=(default:Am)) hi;have hB:=hf.block _ hmem
  have:=Mv (f.Blocks.getD i default).Ops.length 40000000 64 (λ(k:Nat)=>Qt ((f.Blocks.getD i default).Ops.getD k default) i k) (λk hk=>by have:=NI ((f.Blocks.getD i default).Ops.getD k default) i k;have:=(Yo (jl hf hmem (getD_mem (d:=(default:Ce)) hk))).1;omega) (Gi f (i:Int)) (λacc k hk hA=>by
   unfold Gi
   have hd:decide ((k:Int)<((f.Blocks.getD i default).Ops.length:Int))=true:=by simpa using hk
   have h5:=hB.ops;have h6:k*64<=512*64:=Em _ (by omega);have ht:Hn ((f.Blocks.getD i default).Ops.getD k default)=some (Hc ((f.Blocks.getD i default).Ops.getD k default)):=ly _ (ln hf hmem (getD_mem (d:=(default:Ce)) hk))
   simp only[Ec,hd,Ae,Ad (Ao hk),ht,Ai,h3 i hi k hk acc (by omega),A3 hk (by omega)]) (λacc=>by unfold Gi;simp) (f.Blocks.getD i default).Ops.length 0 acc (by omega) (by omega)
  rw[show(0:Int)=((0:Nat):Int) from rfl,this,S5,Qv]
 have hb:=Mv f.Blocks.length 0 70000 (λ(i:Nat)=>IR f (f.Blocks.getD i default) i) (λi hi=>YJ hf hi) (Iv f) (λacc i hi hA=>by
   unfold Iv
   have hd:decide ((i:Int)<(f.Blocks.length:Int))=true:=by simpa using hi
   have hmem:=getD_mem (d:=(default:Am)) hi;have h64:=hf.blocks;have q1:i*70000<=64*70000:=Em _ (by omega);have q2:=NJ hf hmem;have q3:=SY hf hmem i;have e1:=h4 i hi (acc++Nd (f.Blocks.getD i default)) (by rw[Gk];omega)
   have l1:(acc++Nd (f.Blocks.getD i default)++S5 (f.Blocks.getD i default) i).length<=50000000:=by rw[Gk,Gk];omega
   simp only[hd,Ae,Ad (Ao hi),h2 i hi acc (by omega),Ai,e1,Ec,Ad (hbig (n:=(acc++Nd (f.Blocks.getD i default)++S5 (f.Blocks.getD i default) i).length) (by omega) _),IR,Yq]
   cases(f.Blocks.getD i default).End.Kind==0 with
   | true=>
    simp only[Ae,Ai]
    cases(f.Blocks.getD i default).End.Kind==2 with
    | true=>rw[Ad (by rw[Gk];have:=hbig (n:=(acc++Nd (f.Blocks.getD i default)++S5 (f.Blocks.getD i default) i).length+1) (by omega) (default:C9);simpa using this)];simp[A3 hi (by omega:f.Blocks.length<9223372036854775808)]
    | false=>simp[A3 hi (by omega:f.Blocks.length<9223372036854775808)]
   | false=>
    simp only[An,Ai]
    cases(f.Blocks.getD i default).End.Kind==2 with
    | true=>rw[Ae,Ad (hbig (n:=(acc++Nd (f.Blocks.getD i default)++S5 (f.Blocks.getD i default) i).length) (by omega) _)];simp[A3 hi (by omega:f.Blocks.length<9223372036854775808)]
    | false=>simp[A3 hi (by omega:f.Blocks.length<9223372036854775808)]) (λacc=>by unfold Iv;simp) f.Blocks.length 0 [] (by omega) (by simp)
 unfold Kx;rw[show(0:Int)=((0:Nat):Int) from rfl,hb,Ai,B5,Qv,W9]
def gZ(n:Nat)(l:List Int)(i:Nat):Bool:=decide ((if i=0 then(-1:Int) else l.getD (i-1) 0)<l.getD i 0)&&(decide (0<=l.getD i 0)&&decide (l.getD i 0<n))
def md(n:Nat)(l:List Int):Bool:=(List.range l.length).all (gZ n l)
def Oa(L:List (List Int)):Bool:=decide (1<=L.length)&&decide (L.length<=64)&&(List.range L.length).all λi=>md L.length (L.getD i [])
def AZ(L:List (List Int))(k i:Nat):Bool:=(L.getD k []).contains (i:Int)
def K8(L:List (List Int))(m i:Nat):List Int:=((List.range m).filter λk=>AZ L k i).map Int.ofNat
def Ff(L:List (List Int)):List (List Int):=(List.range L.length).map (K8 L L.length)
theorem Wo(a n:Int):Kd a n=some (decide (0<=a)&&decide (a<n)):=by
 unfold Kd
 cases decide (0<=a)<;>rfl
theorem XG(n:Nat):Ml (n:Int)=some (decide (1<=n)&&decide (n<=64)):=by
 unfold Ml
 have h1:decide ((1:Int)<=n)=decide (1<=n):=by grind
 have h2:decide (n<=(64:Int))=decide (n<=64):=by grind
 rw[h1,h2]
 cases decide (1<=n)<;>rfl
theorem SU(L:List (List Int))(i:Nat)(hl:(L.getD i []).length<4611686018427387904) :
  Ab (Hw L (i:Int)) ((-1:Int),(0:Int))=some (bif md L.length (L.getD i []) then .inl () else .inr false):=by
 refine G3 (Hw L i) (λj=>((if j=0 then -1 else(L.getD i []).getD (j-1) 0),(j:Nat))) _ _ _ _ (λj hj hp=>?_) (λj hj hp=>?_) ?_
 ·unfold gZ at hp;simp only[Be,En]at hp;obtain⟨h1,h2,h3⟩:=hp;unfold Hw;simp only[Ap,Cr hj, Wo];rw[Aa (Eo hj)]
  have e1:decide ((L.getD i []).getD j 0<=(if j=0 then -1 else(L.getD i []).getD (j-1) 0))=false:=by simpa using h1
  simp only[e1,Bv h2,Bv h3,     E7];rw[w1 (show j<4611686018427387904 by omega)]
  simp
 ·unfold Hw;simp only[Ap,Cr hj, Wo];rw[Aa (Eo hj)]
  cases h1:decide ((L.getD i []).getD j 0<=(if j=0 then -1 else(L.getD i []).getD _ 0)) with
  | true=>grind
  | false=>
   have h1':decide ((if j=0 then -1 else(L.getD i []).getD (j-1) 0)<(L.getD i []).getD j 0)=true:=by simpa using h1
   unfold gZ at hp;rw[h1',Ly]at hp;simp only[Vp,Ae,An,Ai,hp,Mr]
 ·unfold Hw;simp only[Ap,Ei,An]
def Fits(L:List (List Int)):Prop:=L.length<4611686018427387904/\∀ l∈L,l.length<4611686018427387904
theorem Fits.at{L:List (List Int)}(h:Fits L)(i:Nat):(L.getD i []).length<4611686018427387904:=by
 by_cases hi:i<L.length
 ·exact h.2 _ (getD_mem hi)
 ·grind
theorem ld(L:List (List Int))(h:Fits L):O9 L=some (Oa L):=by
 unfold O9;rw[XG,Ai];unfold Oa
 cases hc:(decide (1<=L.length)&&decide (L.length<=64)) with
 | false=>rfl
 | true=>
  simp only[E7,An,Ly];have:=G3 (Dw L) (λj=>((j:Nat):Int)) (λi=>md L.length (L.getD i [])) (.inl ()) (.inr false) L.length (λj hj hp=>?_) (λj hj hp=>?_) ?_
  ·rw[show Ab (Dw L) (0:Int)=_ from this]
   cases(List.range L.length).all λi=>md L.length (L.getD i [])<;>rfl
  ·show Dw L (j:Int)=_
   unfold Dw;simp only[Cr hj,Ae];rw[Aa (Eo hj),SU L j (h.at j),hp];simp only[Ae,Ai,w1 (show j<4611686018427387904 by have:=h.1;omega)]
  ·show Dw L (j:Int)=_
   unfold Dw;simp only[Cr hj,Ae];rw[Aa (Eo hj),SU L j (h.at j),hp]
   rfl
  ·show Dw L _=_
   unfold Dw;simp only[Ei,An]
theorem R7{α:Type}{n i:Nat}{g:Nat->α}{d:α}(h:i<n):((List.range n).map g).getD i d=g i:=by simp[ h]
theorem CC{α:Type}{n i:Nat}{g:Nat->α}{x:α}:((List.range n).map g).set i x=(List.range n).map λj=>if j=i then x else g j:=by
 apply List.ext_getElem?
 intro j;rw[List.getElem?_set]
 by_cases hj:j<n
 ·grind
 ·grind
theorem Hq{α:Type}{n:Nat}{g h:Nat->α}(H:∀ i,i<n->g i=h i):(List.range n).map g=(List.range n).map h:=bc λi hi=>H i (zzL44.1 hi)
theorem mayS_iff{L:List (List Int)}:Oa L=true↔1<=L.length/\L.length<=64/\∀ i,i<L.length->md L.length (L.getD i [])=true:=by
 unfold Oa;rw[Be,Be,all_range];simp only[En];exact⟨λ⟨⟨a,b⟩,c⟩=>⟨a,b,c⟩,λ⟨a,b,c⟩=>⟨⟨a,b⟩,c⟩⟩
theorem okL_iff{n:Nat}{l:List Int}:md n l=true↔∀ i,i<l.length->(0<=l.getD i 0/\l.getD i 0<n)/\(0<i->l.getD (i-1) 0<l.getD i 0):=by
 unfold md;rw[all_range];unfold gZ;simp only[Be,En]
 constructor
 ·grind
 ·intro h i hi;obtain⟨⟨h2,h3⟩,h1⟩:=h i hi
  by_cases hz:i=0
  · omega
  ·grind
section
variable {n:Nat} {l:List Int} (h:md n l=true)
include h
theorem BG{i:Nat}(hi:i<l.length):0<=l.getD i 0/\l.getD i 0<n:=(okL_iff.1 h i hi).1
theorem pO{i j:Nat}(hij:i<j)(hj:j<l.length):l.getD i 0<l.getD j 0:=by
 induction j with
 | zero=>omega
 | succ j ih=>
  have h1:=(okL_iff.1 h _ hj).2 (by omega)
  by_cases he:i=j
  ·rw[he];exact h1
  ·grind
theorem wc{i:Nat}(hi:i<l.length):(i:Int)<=l.getD i 0:=by
 induction i with
 | zero=>exact(BG h hi).1
 | succ i ih=>
  have:=pO h (show i<i+1 by omega) hi;omega
theorem DJ:l.length<=n:=by
 by_cases hz:l.length=0
 ·omega
 ·have h1:=wc h (show l.length-1<l.length by omega);have h2:=(BG h (show l.length-1<l.length by omega)).2;omega
theorem jh{x:Int}(hx:x∈l):0<=x/\x<n:=by
 obtain⟨i,hi,rfl⟩:=Qw hx;have:=BG h hi;rwa[Af _ _ _ hi]at this
end
theorem wd{n:Nat}{l:List Int}(h1:∀ x∈l,0<=x/\x<n)(h2:l.Pairwise (·<·)):md n l=true:=by
 rw[okL_iff];intro i hi;rw[Af _ _ _ hi];refine⟨h1 _ (LI hi),λhp=>?_⟩;rw[Af _ _ _ (show i-1<l.length by omega)];exact(zzL105.1 h2) _ _ _ _ (by omega)
theorem T0{L:List (List Int)}(h:Oa L=true):L.length<=64/\∀ l∈L,l.length<=64:=by
 obtain⟨h1,h2,h3⟩:=mayS_iff.1 h;refine⟨h2,λl hl=>?_⟩;obtain⟨i,hi,rfl⟩:=Qw hl;have:=DJ (h3 i hi);rw[Af _ _ _ hi]at this;omega
theorem sr{L:List (List Int)}(h:L.length<=1000/\∀ l∈L,l.length<=1000):Fits L:=⟨by omega,λl hl=>by have:=h.2 l hl;omega⟩
theorem BR(L:List (List Int))(k i:Nat):K8 L (k+1) i=K8 L k i++(if AZ L k i=true then[(k:Int)] else[]):=by
 unfold K8;rw[JA,LH];cases hg:AZ L k i<;>simp[hg]
theorem Yh(L:List (List Int))(k i:Nat):(K8 L k i).length<=k:=by
 unfold K8;have:=List.length_filter_le (λk=>AZ L k i) (List.range k)
 simpa using this
theorem WX{l:List Int}{j:Nat}(hj:j<l.length):l.take (j+1)=l.take j++[l.getD j 0]:=by
 simp_all
def Vx(L:List (List Int))(k j i:Nat):Bool:=((L.getD k []).take j).contains (i:Int)
def Ot(L:List (List Int))(k j:Nat):List (List Int):=(List.range L.length).map λi=>K8 L k i++(if Vx L k j i=true then[(k:Int)] else[])
theorem cm(L:List (List Int))(h:Oa L=true)(k j:Nat)(hk:k<L.length)(hj:j<(L.getD k []).length) :
  (Ot L k j).set ((L.getD k []).getD j 0).toNat ((Ot L k j).getD ((L.getD k []).getD j 0).toNat []++[(k:Int)])=Ot L k (j+1):=by
 obtain⟨h1,h2,h3⟩:=mayS_iff.1 h;have hok:=h3 k hk;obtain⟨a0,a1⟩:=BG hok hj;unfold Ot;rw[R7 (by omega),CC]
 apply Hq
 intro i hi
 have hnot:Vx L k j ((L.getD k []).getD j 0).toNat=false:=by
  unfold Vx;rw[CN a0]
  cases hc:((L.getD k []).take j).contains _ with
  | false=>rfl
  | true=>
   rw[zzL80]at hc;obtain⟨m,hm,he⟩:=Qw hc
   have hm':m<j:=by simp at hm;omega
   rw[List.getElem_take]at he;have:=pO hok hm' hj;rw[Af _ _ _ (show m<(L.getD k []).length by omega)]at this;omega
 by_cases hi2:i=((L.getD k []).getD j 0).toNat
 ·rw[ hnot]
  have:Vx L k (j+1) i=true:=by
   unfold Vx;rw[WX hj, hi2,CN a0]
   simp
  rw[this,hi2]
  simp
 ·rw[if_neg hi2]
  have:Vx L k (j+1) i=Vx L k j i:=by
   unfold Vx;rw[WX hj,CK,zzL80,zzL80,zzL18]
   constructor
   ·grind
   ·exact .inl
  rw[this]
theorem dR(L:List (List Int))(h:Oa L=true):Nu L=some (Ff L):=by
 obtain⟨h1,h2,h3⟩:=mayS_iff.1 h
 have hroom:(1000:Nat)<=room:=by decide
 unfold Nu;rw[Aa ⟨by omega,Int.le_refl _,by omega⟩,Ap]
 have inner:∀ k,k<L.length->Ab _ ((0:Int),Ot L k 0)=some (Ot L k (L.getD k []).length):=λk hk=>by
  have hok:=h3 k hk;refine F1 (Na L (k:Int)) (λj=>(((j:Nat):Int),Ot L k j)) _ (L.getD k []).length (λj hj=>?_) ?_
  ·obtain⟨a0,a1⟩:=BG hok hj
   have hlen:(Ot L k j).length=L.length:=by simp[Ot]
   have hl64:=DJ hok;unfold Na;simp only[Ap,Cr hj,Ae];have hb:A5 ((L.getD k []).getD j 0) (Ot L k j).length:=⟨a0,by rw[hlen];exact a1⟩
   have hrow:((Ot L k j).getD ((L.getD k []).getD j 0).toNat []).length<=k+1:=by
    unfold Ot;rw[R7 (by omega),Gk];have:=Yh L k ((L.getD k []).getD j 0).toNat
    split
    ·rw[EW];omega
    ·rw[List.length_nil];omega
   rw[Aa (Eo hj),Aa hb,Aa hb,Aa (by grind),Aa hb,cm L h k j hk hj,w1 (by omega)]
  ·unfold Na;simp only[Ap,Ei,An]
 have r0:∀ k,Ot L k 0=(List.range L.length).map (K8 L k):=λk=>by
  unfold Ot
  apply Hq
  intro i _;simp[Vx]
 have r1:∀ k,Ot L k (L.getD k []).length=(List.range L.length).map (K8 L (k+1)):=λk=>by
  unfold Ot
  apply Hq
  intro i _;rw[BR];unfold Vx AZ;rw[CI]
 have:Ab (Kp L) ((0:Int),(List.range L.length).map (K8 L 0))=some (Ff L):=F1 (Kp L) (λk=>(((k:Nat):Int),(List.range L.length).map (K8 L k))) (Ff L) L.length (λk hk=>?_) ?_
 ·have e0:(List.replicate L.length ([]:List Int))=(List.range L.length).map (K8 L 0):=by
   apply List.ext_getElem?
   intro i
   by_cases hi:i<L.length<;>simp[hi,List.getElem?_replicate,K8]
  rw[e0,this];rfl
 ·unfold Kp;simp only[Cr hk,Ae];rw[Aa (Eo hk),<- r0,inner k hk,r1,w1 (by omega)]
  rfl
 ·unfold Kp;simp only[Ei,An]
  rfl
theorem U7{α:Type}[DecidableEq α]{a b:List α}{d:α}(h:a.length=b.length):((List.range a.length).all λi=>decide (a.getD i d=b.getD i d))=decide (a=b):=by
 rw[CK,all_range,En]
 constructor
 ·intro hall
  apply EZ h
  intro i h1 h2;have:=EX (hall i h1);rwa[Af _ _ _ h1,Af _ _ _ h2]at this
 ·rintro rfl i _
  simp
theorem HL{a b:Nat}:(((a:Nat):Int)!=(b:Int))=decide (a≠b):=by
 grind
theorem an{a b:Int}:(a !=b) = !decide (a=b):=by
 grind
theorem ax(a b:List Int)(hb:b.length<4611686018427387904):G0 a b=some (decide (a=b)):=by
 unfold G0;rw[HL]
 by_cases hl:a.length=b.length
 ·rw[B7 (by simpa using hl)];have:Ab (Fc a b) 0=_:=G3 _ (λj=>(j:Int)) (λi=>decide (a.getD i 0=b.getD i 0)) (.inl ()) (.inr false) a.length (λj hj hp=>?_) (λj hj hp=>?_) ?_
  ·rw[this,U7 hl]
   cases decide (a=b)<;>rfl
  ·unfold Fc;simp only[Ap,Cr hj];rw[Aa (Eo hj),Aa (Eo (by omega)),an,hp,w1 (by omega)]
   rfl
  ·unfold Fc;simp only[Ap,Cr hj];rw[Aa (Eo hj),Aa (Eo (by omega)),an,hp]
   rfl
  ·unfold Fc;simp only[Ei,An]
 ·rw[Bv (by simpa using hl),Ae,B7 (λh=>hl (by rw[h]))]
theorem QZ(a b:List Int)(ha:a.length<4611686018427387904):C1 a b=some (decide (a=b)):=by
 unfold C1;rw[HL]
 by_cases hl:a.length=b.length
 ·rw[B7 (by simpa using hl)];have:Ab _ (0:Int)=_:=G3 (F6 a b) (λj=>(j:Nat)) (λi=>decide (a.getD i 0=b.getD i 0)) (.inl ()) (.inr false) a.length (λj hj hp=>?_) (λj hj hp=>?_) ?_
  ·rw[this,U7 hl]
   cases decide (a=b)<;>rfl
  ·unfold F6;simp only[Ap,Cr hj];rw[Aa (Eo hj),Aa (Eo (by omega)),an,hp,w1 (by omega)]
   rfl
  ·unfold F6;simp only[Ap,Cr hj];rw[Aa (Eo hj),Aa (Eo (by omega)),an,hp]
   rfl
  ·unfold F6;simp only[Ei,An]
 ·rw[Bv (by simpa using hl),Ae,B7 (λh=>hl (by rw[h]))]
theorem dS(a b:List (List Int))(hb:Fits b):Dx a b=some (decide (a=b)):=by
 unfold Dx;rw[HL]
 by_cases hl:a.length=b.length
 ·rw[B7 (by simpa using hl)];have hb1:=hb.1;have:Ab _ (0:Int)=_:=G3 (Ch a b) (λj=>(j:Nat)) (λi=>decide (a.getD i []=b.getD i [])) (.inl ()) (.inr false) a.length (λj hj hp=>?_) (λj hj hp=>?_) ?_
  ·rw[this,U7 hl]
   cases decide (a=b)<;>rfl
  ·unfold Ch;simp only[Ap,Cr hj];rw[Aa (Eo hj),Aa (Eo (by omega)),ax _ _ (hb.at j),hp,w1 (by omega)]
   rfl
  ·unfold Ch;simp only[Ap,Cr hj];rw[Aa (Eo hj),Aa (Eo (by omega)),ax _ _ (hb.at j),hp]
   rfl
  ·unfold Ch;simp only[Ei,An]
 ·rw[Bv (by simpa using hl),Ae,B7 (λh=>hl (by rw[h]))]
theorem Rv(L:List (List Int)):(Ff L).length=L.length:=by simp[Ff]
theorem XW{L:List (List Int)}{i:Nat}(hi:i<L.length):(Ff L).getD i []=K8 L L.length i:=by unfold Ff;rw[R7 hi]
theorem Yi{L:List (List Int)}(h:Oa L=true):(Ff L).length<=64/\∀ l∈Ff L,l.length<=64:=by
 obtain⟨h1,_⟩:=T0 h;refine⟨by rw[Rv];exact h1,λl hl=>?_⟩;obtain⟨i,hi,rfl⟩:=zzL27.1 hl;have:=Yh L L.length i;omega
theorem Um{L:List (List Int)}(h:L.length<=64/\∀ l∈L,l.length<=64):Fits L:=sr ⟨by omega,λl hl=>by have:=h.2 l hl;omega⟩
def DX(g:TGraph):Bool:=Oa g.Succ&&decide (g.Pred=Ff g.Succ)
theorem uz(g:TGraph)(h:Fits g.Succ):Vd g=some (DX g):=by
 unfold Vd DX;rw[ld _ h]
 cases hm:Oa _ with
 | false=>rfl
 | true=>
  simp only[Vp,Ae,dR _ hm,Ai,dS _ _ (Um (Yi hm)),Ly]
def K4(L:List (List Int)):TGraph:=⟨L,Ff L⟩
def g0:TGraph:=⟨[],[]⟩
theorem dW{L:List (List Int)}(h:Oa L=true):DX (K4 L)=true:=by simp[DX,K4,h]
theorem pD(l:List Int)(x:Int)(h:l.length<4611686018427387904):G6 l x=some (l.contains x):=by
 unfold G6;have:Ab _ (0:Int)=_:=G3 (Gu l x) (λj=>(j:Nat)) (λi=>!decide (l.getD i 0=x)) (.inl ()) (.inr true) l.length (λj hj hp=>?_) (λj hj hp=>?_) ?_
 ·rw[this]
  have e:l.contains x = !((List.range l.length).all λi=>!decide (l.getD i 0=x)):=by
   rw[CK,zzL80,Su,<- Bool.not_eq_true,all_range]
   constructor
   ·intro hx hall;obtain⟨i,hi,rfl⟩:=Qw hx;have:=hall i hi;rw[Af _ _ _ hi]at this;simp at this
   ·grind
  rw[e]
  cases(List.range _).all _<;>rfl
 ·unfold Gu;simp only[Ap,Cr hj]
  have:(l.getD j 0==x)=false:=by simpa using hp
  rw[Aa (Eo hj),this,w1 (by omega)]
  rfl
 ·unfold Gu;simp only[Ap,Cr hj]
  have:(l.getD j 0==x)=true:=by simpa using hp
  rw[Aa (Eo hj),this]
  rfl
 ·unfold Gu;simp only[Ei,An]
theorem YF{X:Type}(a b:List (List Int))(f:Int->Option (LR Int (Unit ⊕ Bool)))(ha:Fits a)(hl:a.length=b.length)
  (hn:∀ i:Nat,i<a.length->f (i:Int)=(C1 (a.getD i []) (b.getD i [])).bind λx=>bif (!x) then some (.done (.inr false)) else some (.next (w64 ((i:Int)+1)))) (he:f (a.length:Int)=some (.done (.inl ()))) :
  Ab f (0:Int)=some (bif decide (a=b) then .inl () else .inr false):=by
 have ha1:=ha.1;have:Ab f 0=_:=G3 f (λj=>(j:Int)) (λi=>decide (a.getD i []=b.getD i [])) _ (.inr false) _ (λj hj hp=>?_) (λj hj hp=>?_) he
 ·rw[this,U7 hl]
 ·rw[hn j hj,QZ _ _ (ha.at j),hp,w1 (by omega)];rfl
 ·rw[hn j hj,QZ _ _ (ha.at j),hp];rfl
theorem wY(a b:TGraph)(h1:Fits a.Succ)(h2:Fits a.Pred):Kt a b=some (decide (a=b)):=by
 have e:decide (a=b)=(decide (a.Succ=b.Succ)&&decide (a.Pred=b.Pred)):=by
  cases a;cases b
  simp
 rw[e];unfold Kt;rw[HL,HL]
 by_cases hs:a.Succ.length=b.Succ.length
 ·by_cases hp:a.Pred.length=b.Pred.length
  ·rw[B7 (by simpa using hs), B7 (by simpa using hp)]
   have s1:=YF (X:=Unit) _ _ (Ip a b) h1 hs (λi hi=>by
    unfold Ip;simp only[Ap,Cr hi,Ae]
    rw[Aa (Eo hi),Aa (Eo (by omega))]) (by
    unfold Ip
    simp only[Ei,An])
   have s2:=YF (X:=Unit) _ _ (Iq a b) h2 hp (λi hi=>by
    unfold Iq;simp only[Ap,Cr hi,Ae]
    rw[Aa (Eo hi),Aa (Eo (by omega))]) (by
    unfold Iq
    simp only[Ei,An])
   rw[s1]
   cases decide (a.Succ=b.Succ) with
   | false=>rfl
   | true=>
    grind
  ·grind
 ·grind
theorem M7{R:Type}{c:Bool}{q:Prop}[Decidable q]{k:Option R}(h:q):A7 (c=true->q) k=k:=Aa λ_=>h
def n9(n:Nat)(l:List Int)(j:Nat):Bool:=
 bif (bif decide (l.getD j 0<0) then true else decide ((n:Int)<=l.getD j 0)) then true else(bif decide ((0:Int)<(j:Int)) then decide (l.getD j 0<=l.getD (j-1) 0) else false)
theorem oA(n:Nat)(l:List Int)(j:Nat):n9 n l j = !gZ n l j:=by
 unfold n9 gZ
 by_cases h0:l.getD j 0<0
 ·grind
 ·grind
theorem NA(L:List (List Int))(i:Nat)(hi:i<L.length)(hl:(L.getD i []).length<4611686018427387904) :
  Ab (Ej L (i:Int)) (0:Int)=some (bif md L.length (L.getD i []) then .inl () else .inr (g0,5)):=by
 have hw:∀ j:Nat,j<(L.getD i []).length->0<j->w64 (j-1)=(j-1:Nat):=λj hj hp=>by rw[F0 (by omega) (by omega)];omega
 have step:∀ j,j<(L.getD i []).length->Ej L i j=bif n9 _ _ j then some _ else some (.next ((j+1:Nat))):=λj hj=>by
  unfold Ej;simp only[Ap,Cr hj];rw[Aa (Eo hi),Aa (Eo hi),Aa (Eo hj),M7 (Eo hi),M7 (Eo hj),M7 (Eo hi),M7 (Eo hj),M7 (Eo hi),w1 (by omega)]
  by_cases hz:j=0
  ·subst hz
   have:decide (0<((0:Nat):Int))=false:=by decide
   rw[this];rw[show((false==true)=false) from rfl,Bool.and_false]
   rfl
  ·rw[hw j hj (by omega),M7 (Eo (by omega))]
   rfl
 have:=G3 (Ej L i) (λj=>(j:Nat)) (gZ L.length (L.getD i [])) (.inl ()) (.inr (g0,5)) (L.getD i []).length (λj hj hp=>?_) (λj hj hp=>?_) ?_
 ·exact this
 ·rw[step j hj,oA,hp];rfl
 ·rw[step j hj,oA,hp];rfl
 ·unfold Ej;simp only[Ap,Ei,An];rw[Aa (Eo hi)]
theorem VW(L:List (List Int))(h:Oa L=true):Ab (Ek L) ((0:Int),List.replicate L.length ([]:List Int))=some (Ff L):=by
 obtain⟨h1,h2,h3⟩:=mayS_iff.1 h
 have hroom:(1000:Nat)<=room:=by decide
 have hfit:=Um (T0 h)
 let R:Nat->Nat->List (List Int):=λi k=>(List.range L.length).map λj=>if j<i then K8 L L.length j else if j=i then K8 L k i else[]
 have inner:∀ i,i<L.length->Ab _ ((0:Int),R i 0)=some (R i L.length):=λi hi=>by
  refine F1 (Io L (i:Int)) (λk=>(((k:Nat):Int),R i k)) (R i L.length) L.length (λk hk=>?_) ?_
  ·have hlen:(R i k).length=L.length:=by simp[R]
   have hat:(R i k).getD i []=K8 L k i:=by simp only[R];rw[R7 hi];simp
   unfold Io;simp only[Ap,Cr hk,Ae];rw[Aa (Eo hk),pD _ _ (hfit.at k),Ai,w1 (by omega)];have hg:AZ L k i=(L.getD k []).contains (i:Int):=rfl;rw[<- hg,hat]
   have hs:(if AZ L k i=true then(R i k).set i (K8 L k i++[(k:Int)]) else R i k)=R i (k+1):=by
    split
    ·rename_i hgo
     simp only[R];rw[CC]
     apply Hq
     intro j hj
     by_cases hji:j=i
     ·subst hji;simp[BR,hgo]
     ·simp[hji]
    ·rename_i hgo
     simp only[R]
     apply Hq
     intro j hj
     by_cases hji:j=i
     ·subst hji;simp[BR,hgo]
     ·simp[hji]
   rw[<- hs]
   cases hgo:AZ L k i with
   | false=>rfl
   | true=>
    have:=Yh L k i;simp only[Ae];rw[Aa (by rw[hlen];exact Eo hi),Aa (by rw[hlen];exact Eo hi),Aa (by rw[EW];omega),Aa (by rw[hlen];exact Eo hi)]
    rfl
  ·unfold Io;simp only[Ei,An]
 have:Ab (Ek L) ((0:Int),R 0 0)=some (Ff L):=F1 (Ek L) (λi=>(((i:Nat):Int),R i 0)) (Ff L) L.length (λi hi=>?_) ?_
 ·have e0:List.replicate L.length ([]:List Int)=R 0 0:=by
   simp only[R]
   apply List.ext_getElem?
   intro j
   by_cases hj:j<L.length<;>simp[hj,List.getElem?_replicate,K8]
  rw[e0,this]
 ·unfold Ek;simp only[Cr hi,Ae];rw[inner i hi,w1 (by omega)];simp only[Ai]
  congr 3
  simp only[R]
  apply Hq
  intro j hj
  by_cases h4:j<i
  ·simp[h4,show j<i+1 by omega]
  ·by_cases h5:j=i
   ·subst h5;simp
   ·simp[h4,h5,show ¬ j<i+1 by omega];intro h6;simp[K8]
 ·unfold Ek;simp only[Ei,An]
  congr 2
  simp only[R,Ff]
  apply Hq
  intro j hj;simp[hj]
theorem RA(L:List (List Int))(h:Fits L):H9 L=some (bif Oa L then(K4 L,0) else(g0,5)):=by
 have hroom:1000<=room:=by decide
 unfold H9
 have hc:(bif (L.length==(0:Int)) then true else decide (64<(L.length:Int))) = !(decide (1<=L.length)&&decide (L.length<=64)):=by
  grind
 rw[hc];have hm:Oa L=((decide _&&decide _)&&(List.range _).all _):=rfl
 cases hb:(decide (1<=L.length)&&decide (L.length<=64)) with
 | false=>rw[hm,hb];rfl
 | true=>
  have hb':=hb;simp only[Be,En]at hb';have:Ab (F9 L) 0=_:=G3 _ (λj=>(j:Int)) (λi=>md L.length (L.getD i [])) (.inl ()) (.inr (g0,5)) L.length (λj hj hp=>?_) (λj hj hp=>?_) ?_
  ·rw[this]
   cases hall:(List.range L.length).all _ with
   | false=>rw[hm,hb,hall];rfl
   | true=>
    have hmay:Oa L=true:=by rw[hm,hb,hall];rfl
    rw[hmay];rw[Aa ⟨by omega,Int.le_refl _,by omega⟩,Ap,VW L hmay]
    rfl
  ·unfold F9;simp only[Cr hj];rw[NA L j hj (h.at j),hp,w1 (by omega)]
   rfl
  ·unfold F9;simp only[Cr hj];rw[NA L j hj (h.at j),hp]
   rfl
  ·unfold F9;simp only[Ei,An]
theorem HH{L:List (List Int)}(h:Oa L=true):Fits (K4 L).Succ/\Fits (K4 L).Pred:=⟨Um (T0 h),Um (Yi h)⟩
theorem lY(g:TGraph)(h:Fits g.Succ):Li g=some (DX g):=by
 unfold Li DX;rw[RA _ h,Ai]
 cases hm:Oa _ with
 | false=>rfl
 | true=>
  simp only[Ae,Vp];rw[wY _ _ (HH hm).1 (HH hm).2];simp only[Ai]
  congr 1
  apply zzL76.2
  cases g with
  | mk s p=>
   simp only[K4,TGraph.mk.injEq,true_and];exact Wb
noncomputable section
def upd(s:Nat->Bool)(y:Nat):Nat->Bool:=λz=>decide (z=y) || s z
theorem upd_true{s:Nat->Bool}{y z:Nat}:upd s y z=true↔z=y\/s z=true:=by simp[upd]
theorem upd_false{s:Nat->Bool}{y z:Nat}:upd s y z=false↔z≠y/\s z=false:=by simp[upd]
inductive VL (S:Nat->List Nat):(Nat->Bool)->List Nat->(Nat->Bool)->List Nat->Prop
 | nil (s:Nat->Bool):VL S s [] s []
 | skip {s s':Nat->Bool} {y:Nat} {l o:List Nat} (h:s y=true) (t:VL S s l s' o):VL S s (y::l) s' o
 | step {s s1 s2:Nat->Bool} {y:Nat} {l o1 o2:List Nat} (h:s y=false) (a:VL S (upd s y) (S y) s1 o1) (b:VL S s1 l s2 o2):VL S s (y::l) s2 (o1++y::o2)
inductive Rch (S:Nat->List Nat):Nat->Nat->Prop
 | refl (x:Nat):Rch S x x
 | head {x y z:Nat} (h:y∈S x) (t:Rch S y z):Rch S x z
theorem Rch.tail{S:Nat->List Nat}{x y z:Nat}(h:Rch S x y)(hz:z∈S y):Rch S x z:=by
 induction h with
 | refl x=>exact .head hz (.refl _)
 | head h _ ih=>exact .head h (ih hz)
theorem Rch.trans{S:Nat->List Nat}{x y z:Nat}(h:Rch S x y)(k:Rch S y z):Rch S x z:=by
 induction h with
 | refl x=>exact k
 | head h _ ih=>exact .head h (ih k)
variable {S:Nat->List Nat} {s s':Nat->Bool} {l o:List Nat}
theorem VL.seen(h:VL S s l s' o)(z:Nat):s' z=true↔s z=true\/z∈o:=by
 induction h with
 | nil s=>simp
 | skip h _ ih=>exact ih
 | @step s s1 s2 y l o1 o2 h a b iha ihb=>
  rw[ihb,iha,upd_true]
  constructor
  ·grind
  ·grind
theorem VL.fresh(h:VL S s l s' o){z:Nat}(hz:z∈o):s z=false:=by
 induction h with
 | nil s=>cases hz
 | skip h _ ih=>exact ih hz
 | @step s s1 s2 y l o1 o2 h a b iha ihb=>
  rcases zzL18.1 hz with h1|h1
  ·exact(upd_false.1 (iha h1)).2
  ·rcases zzL28.1 h1 with rfl|h1
   ·exact h
   ·have:=ihb h1
    cases hs:s z with
    | false=>rfl
    | true=>rw[(a.seen z).2 (.inl (upd_true.2 (.inr hs)))]at this;cases this
theorem VL.nodup(h:VL S s l s' o):o.Nodup:=by
 induction h with
 | nil s=>exact List.nodup_nil
 | skip h _ ih=>exact ih
 | @step s s1 s2 y l o1 o2 h a b iha ihb=>
  rw[List.nodup_append];refine⟨iha,zzL81.2 ⟨λhy=>?_,ihb⟩,λu hu v hv=>?_⟩
  ·have:=b.fresh hy;rw[(a.seen y).2 (.inl (upd_true.2 (.inl rfl)))]at this
   cases this
  ·rintro rfl;rcases zzL28.1 hv with rfl|hv
   ·have:=a.fresh hu;rw[upd_true.2 (.inl rfl)]at this
    cases this
   ·have:=b.fresh hv;rw[(a.seen u).2 (.inr hu)]at this
    cases this
theorem VL.rch(h:VL S s l s' o){z:Nat}(hz:z∈o):∃ y∈l,Rch S y z:=by
 induction h with
 | nil s=>cases hz
 | skip h _ ih=>grind
 | @step s s1 s2 y l o1 o2 h a b iha ihb=>
  rcases zzL18.1 hz with h1|h1
  ·obtain⟨u,hu,hr⟩:=iha h1;exact⟨y,zzL51 ..,.head hu hr⟩
  ·rcases zzL28.1 h1 with rfl|h1
   ·exact⟨z,zzL51 ..,.refl z⟩
   ·grind
theorem VL.closed(h:VL S s l s' o):(∀ y∈l,s' y=true)/\∀ z∈o,∀ y∈S z,s' y=true:=by
 induction h with
 | nil s=>grind
 | @skip s s' y l o h t ih=>
  refine⟨λu hu=>?_,ih.2⟩;rcases zzL28.1 hu with rfl|hu
  ·exact(t.seen u).2 (.inl h)
  ·exact ih.1 u hu
 | @step s s1 s2 y l o1 o2 h a b iha ihb=>
  refine⟨λu hu=>?_,λz hz u hu=>?_⟩
  ·rcases zzL28.1 hu with rfl|hu
   ·exact(b.seen u).2 (.inl ((a.seen u).2 (.inl (upd_true.2 (.inl rfl)))))
   ·exact ihb.1 u hu
  ·rcases zzL18.1 hz with h1|h1
   ·exact(b.seen u).2 (.inl (iha.2 z h1 u hu))
   ·rcases zzL28.1 h1 with rfl|h1
    ·exact(b.seen u).2 (.inl (iha.1 u hu))
    ·exact ihb.2 z h1 u hu
theorem VL.above(h:VL S s l s' o)(hf:∀ z,∀ y∈S z,z<y){b:Nat}(hb:∀ y∈l,b<y):∀ z∈o,b<z:=by
 induction h generalizing b with
 | nil s=>intro z hz;cases hz
 | skip h _ ih=>exact ih (λy hy=>hb y (Nf _ hy))
 | @step s s1 s2 y l o1 o2 h a c iha ihb=>
  intro z hz;have hy:=hb y (zzL51 ..);rcases zzL18.1 hz with h1|h1
  ·exact iha (λu hu=>Nat.lt_trans hy (hf y u hu)) z h1
  ·rcases zzL28.1 h1 with rfl|h1
   ·exact hy
   ·exact ihb (λu hu=>hb u (Nf _ hu)) z h1
theorem VL.ahead(h:VL S s l s' o)(hf:∀ z,∀ y∈S z,z<y):∀ z∈o,∀ y∈S z,s y=true\/∃ A B,o=A++z::B/\y∈A:=by
 induction h with
 | nil s=>intro z hz;cases hz
 | skip h _ ih=>exact ih
 | @step s s1 s2 y l o1 o2 h a c iha ihb=>
  intro z hz u hu;rcases zzL18.1 hz with h1|h1
  ·have hzy :=a.above hf (λv hv=>hf y v hv) z h1;have hzu:=hf z u hu;rcases iha z h1 u hu with h2|⟨A,B,rfl,hA⟩
   ·rcases upd_true.1 h2 with rfl|h2
    ·omega
    ·exact .inl h2
   ·grind
  ·rcases zzL28.1 h1 with rfl|h1z
   ·have hzu:=hf z u hu;rcases(a.seen u).1 (a.closed.1 u hu) with h2|h2
    ·rcases upd_true.1 h2 with rfl|h2
     ·omega
     ·exact .inl h2
    ·grind
   ·rcases ihb z h1z u hu with h2|⟨A,B,rfl,hA⟩
    ·rcases(a.seen u).1 h2 with h3|h3
     ·rcases upd_true.1 h3 with rfl|h3
      ·obtain⟨P,Q,rfl⟩:=List.append_of_mem h1z;exact .inr ⟨o1++u::P,Q,by simp,by simp⟩
      ·exact .inl h3
     ·obtain⟨P,Q,rfl⟩:=List.append_of_mem h1z;exact .inr ⟨o1++y::P,Q,by simp,by simp[h3]⟩
    ·grind
def ck(n:Nat)(s:Nat->Bool):Nat:=((List.range n).filter λz=>!s z).length
theorem CX{n:Nat}{s:Nat->Bool}{y:Nat}(hy:y<n)(h:s y=false):ck n (upd s y)+1=ck n s:=by
 unfold ck
 induction n with
 | zero=>omega
 | succ n ih=>
  rw[JA,LH,LH,Gk,Gk]
  by_cases hyn:y=n
  ·subst hyn
   have e:(List.range y).filter (λz=>!upd s y z)=(List.range y).filter (λz=>!s z):=by
    apply List.filter_congr
    intro z hz;have:=zzL44.1 hz;simp[upd,show z≠y by omega]
   rw[e];simp[upd,h]
  ·have e:([n].filter λz=>!upd s y z).length=([n].filter λz=>!s z).length:=by
    simp only[List.filter_cons, upd];simp[Ol hyn]
   omega
theorem cl{n:Nat}{s s':Nat->Bool}(h:∀ z,s z=true->s' z=true):ck n s'<=ck n s:=by
 apply List.Sublist.length_le
 have:(List.range n).filter (λz=>!s' z)=((List.range n).filter λz=>!s z).filter λz=>!s' z:=by
  rw[List.filter_filter]
  apply List.filter_congr
  intro z _
  cases hs:s z with
  | false=>simp
  | true=>simp[h z hs]
 rw[this];exact List.filter_sublist
theorem VL.exist{n:Nat}(hS:∀ z,z<n->∀ y∈S z,y<n):∀(m:Nat) (s:Nat->Bool),ck n s<=m->∀ l:List Nat,(∀ y∈l,y<n)->∃ s' o,VL S s l s' o:=by
 intro m
 induction m with
 | zero=>
  intro s hm l
  induction l with
  | nil=>intro _;exact⟨s,[],.nil s⟩
  | cons y l ih=>
   intro hl;obtain⟨s',o,h⟩:=ih (λz hz=>hl z (Nf _ hz))
   cases hy:s y with
   | true=>exact⟨s',o,.skip hy h⟩
   | false=>have:=CX (hl y (zzL51 ..)) hy;omega
 | succ m ih=>
  intro s hm l
  induction l generalizing s with
  | nil=>intro _;exact⟨s,[],.nil s⟩
  | cons y l ihl=>
   intro hl
   cases hy:s y with
   | true=>
    obtain⟨s',o,h⟩:=ihl s hm (λz hz=>hl z (Nf _ hz));exact⟨s',o,.skip hy h⟩
   | false=>
    have hyn:=hl y (zzL51 ..);have:=CX hyn hy;obtain⟨s1,o1,h1⟩:=ih (upd s y) (by omega) _ (hS y hyn);have h2:ck n s1<=ck n s:=cl λz hz=>(h1.seen z).2 (.inl (upd_true.2 (.inr hz)));obtain⟨s2,o2,h3⟩:=ihl s1 (by omega) (λz hz=>hl z (Nf _ hz));exact⟨s2,_,.step hy h1 h3⟩
def one(r:Nat):Nat->Bool:=λz=>decide (z=r)
def Ord(S:Nat->List Nat)(r:Nat)(L:List Nat):Prop:=∃ s' o,VL S (one r) (S r) s' o/\L=r::o.reverse
theorem Ord.exist{n:Nat}(hS:∀ z,z<n->∀ y∈S z,y<n){r:Nat}(hr:r<n):∃ L,Ord S r L:=by
 obtain⟨s',o,h⟩:=VL.exist hS _ _ (zzL7 _) _ (hS r hr);exact⟨_,s',o,h,rfl⟩
theorem Ord.mem{r:Nat}{L:List Nat}(h:Ord S r L)(z:Nat):z∈L↔Rch S r z:=by
 obtain⟨s',o,h,rfl⟩:=h
 have hs:∀ z,s' z=true↔z=r\/z∈o:=λz=>by rw[h.seen];simp[one]
 have hc:∀ x,s' x=true->∀ y∈S x,s' y=true:=λx hx y hy=>by
  rcases(hs x).1 hx with rfl|hx
  ·exact h.closed.1 y hy
  ·exact h.closed.2 x hx y hy
 simp only[zzL28,zzL125];rw[<- hs z]
 constructor
 ·intro hz;rcases(hs z).1 hz with rfl|hz
  ·exact .refl _
  ·obtain⟨y,hy,hr⟩:=h.rch hz;exact .head hy hr
 ·intro hr
  have key:∀ x z,Rch S x z->s' x=true->s' z=true:=by
   intro x z hxz
   induction hxz with
   | refl x=>exact id
   | head hy _ ih=>grind
  exact key r z hr ((hs r).2 (.inl rfl))
theorem Ord.nodup{r:Nat}{L:List Nat}(h:Ord S r L):L.Nodup:=by
 obtain⟨s',o,h,rfl⟩:=h;refine zzL81.2 ⟨λhr=>?_,(List.reverse_perm o).nodup_iff.2 h.nodup⟩;have:=h.fresh (zzL125.1 hr);simp[one]at this
theorem Ord.fwd{r:Nat}{L:List Nat}(h:Ord S r L)(hf:∀ z,∀ y∈S z,z<y):∀ z∈L,∀ y∈S z,∃ A B,L=A++z::B/\y∈B:=by
 obtain⟨s',o,h,rfl⟩:=h;intro z hz y hy;have hzy:=hf z y hy;rcases zzL28.1 hz with rfl|hz
 ·refine⟨[],o.reverse,rfl,?_⟩;rcases(h.seen y).1 (h.closed.1 y hy) with h1|h1
  ·simp[one]at h1;omega
  ·grind
 ·have hz:=zzL125.1 hz;have hrz :=h.above hf (λv hv=>hf r v hv) z hz;rcases h.ahead hf z hz y hy with h1|⟨A,B,rfl,hA⟩
  ·simp[one]at h1;omega
  ·grind
end
theorem lZ(l:List Int)(hl:l.length<4611686018427387904):Fu l=some l.reverse:=by
 unfold Fu
 by_cases h0:l.length=0
 ·obtain rfl:l=[]:=zzL109.1 h0
  have:Ab Bs ((0:Int),(w64 ((([]:List Int).length:Int)-1)),([]:List Int))=some []:=by
   apply Ah
   unfold Bs;rw[F0 (by simp) (by simp)]
   rfl
  rw[this];rfl
 ·have hw:w64 ((l.length:Int)-1)=((l.length-1:Nat):Int):=by rw[F0 (by omega) (by omega)];omega
  rw[hw]
  let C:Nat->List Int:=λk=>(List.range l.length).map λi=>if i<k\/l.length-1-k<i then l.getD (l.length-1-i) 0 else l.getD i 0
  have hC:∀ k i,i<l.length->(C k).getD i 0=if i<k\/l.length-1-k<i then l.getD (l.length-1-i) 0 else l.getD i 0:=λk i hi=>by simp only[C];rw[R7 hi]
  have hlen:∀ k,(C k).length=l.length:=λk=>by simp[C]
  have:=F1 Bs (λk=>(((k:Nat):Int),((l.length-1-k:Nat):Int),C k)) l.reverse (l.length / 2) (λk hk=>?_) ?_
  ·have e0:C 0=l:=by
    apply EZ (by simp[C])
    intro i h1 h2;have:=hC 0 i h2;rw[Af _ _ _ h1,Af _ _ _ h2]at this;rw[this,if_neg (by omega)]
   have this':Ab Bs ((0:Int),((l.length-1:Nat):Int),l)=some l.reverse:=by
    have h2:=this;simp only[e0]at h2;exact h2
   rw[this'];rfl
  ·show Bs (_,_,_)=_
   unfold Bs
   have hlt:k<l.length-1-k:=by omega
   simp only[Cr hlt,Ae,Ap];rw[Aa (Eo (by rw[hlen];omega)),Aa (Eo (by rw[hlen];omega)),Aa (Eo (by rw[hlen];omega)),Aa (Eo (by rw[hlen];omega))];rw[w1 (by omega),show w64 (((l.length-1-k:Nat):Int)-1)=((l.length-1-(k+1):Nat):Int) by rw[F0 (by omega) (by omega)];omega]
   congr 4
   rw[hC k _ (by omega),hC k _ (by omega),if_neg (by omega),if_neg (by omega)];simp only[C];rw[CC,CC]
   apply Hq
   intro i hi
   by_cases h1:i=k
   ·subst h1;rw[if_neg (by omega),if_pos rfl,if_pos (by omega)]
   ·by_cases h2:i=l.length-1-k
    ·subst h2;rw[if_pos rfl,if_pos (by omega)]
     congr 1;omega
    ·rw[if_neg h2,if_neg h1]
     by_cases h3:i<k\/l.length-1-k<i
     ·rw[if_pos h3,if_pos (by omega)]
     ·rw[if_neg h3,if_neg (by omega)]
  ·show Bs (_,_,_)=_
   unfold Bs;have hd:decide (((l.length / 2:Nat):Int)<((l.length-1-l.length / 2:Nat):Int))=false:=B7 (by omega);simp only[hd,An]
   congr 2
   apply EZ (by simp[C])
   intro i h1 h2
   have h3:i<l.length:=by simpa [C] using h1
   have:=hC (l.length / 2) i h3;rw[Af _ _ _ h1]at this;rw[this,List.getElem_reverse]
   split
   ·rw[Af _ _ _ (by omega)]
   ·rw[Af _ _ _ h3]
    congr 1;omega
theorem top{st:List Int}{a:Int}(h:st.length<4611686018427387904):(st++[a]).getD (w64 (((st++[a]).length:Int)-1)).toNat 0=a:=by
 have:w64 ((st++[a]).length-1)=(st.length:Int):=by rw[Gk,EW,F0 (by omega) (by omega)];omega
 rw[this];simp[List.getD]
theorem zH{st:List Int}{a:Int}(h:st.length<4611686018427387904):w64 (((st++[a]).length:Int)-1)=((st.length:Nat):Int):=by
 rw[Gk,EW,F0 (by omega) (by omega)];omega
theorem rF{g:TGraph}{R:List Bool}{st T:List Int}{a:Nat}(hst:st.length<64)(ha:a<g.Succ.length)(h64:g.Succ.length<=64)(ht:T.getD a 0=((g.Succ.getD a []).length:Int)) :
  Jj g R (st++[(a:Int)]) T=some (.done (.inl T)):=by
 unfold Jj;simp only[top (st:=st)  (by omega),Ap];rw[Aa (Eo (by omega)),Aa (Eo ha),ht,Ei,An]
theorem iv{g:TGraph}{R:List Bool}{st T:List Int}{a t y:Nat}(hst:st.length<64)(ha:a<g.Succ.length)(h64:g.Succ.length<=64)(ht:T.getD a 0=(t:Int))(htl:t<(g.Succ.getD a []).length)(htm:t<64)
  (hy:(g.Succ.getD a []).getD t 0=(y:Int)) (hyn:y<g.Succ.length) :
  Jj g R (st++[(a:Int)]) T=bif R.getD y false then some (.next (Fx 64 (0:Int) T a ((t+1:Nat):Int))) else some (.done (.inr (Fx 64 false R y true,Fx 64 (0:Int) T a ((t+1:Nat):Int),(st++[(a:Int)])++[(y:Int)]))):=by
 have hroom:1000<=room:=by decide
 unfold Jj;simp only[top (st:=st)  (by omega),Ap,ht,hy];rw[Aa (Eo (by omega)),Aa (Eo ha),Cr htl, Aa (Eo ha),Aa (Eo (by omega)),Aa (Eo htl),Aa (Eo (by omega)),Aa (Eo (by omega)),Aa (Eo (by omega)),w1 (by omega)]
 cases R.getD y _ with
 | true=>rfl
 | false=>
  simp only[Mr,Ae,An];rw[Aa (Eo (by omega)),Aa (by grind)]
theorem iu{g:TGraph}{R:List Bool}{st T Lf:List Int}{a:Nat}(hst:st.length<64)(hLf:Lf.length<64) :
  E9 g (R,T,st++[(a:Int)],Lf)=(Ab (Jj g R (st++[(a:Int)])) T).bind λx=>match x with
   | .inl T'=>if st=[] then some (.done (Lf++[(a:Int)]).reverse) else some (.next (R,T',st,Lf++[(a:Int)]))
   | .inr (R',T',st')=>some (.next (R',T',st',Lf)):=by
 have hroom:1000<=room:=by decide
 unfold E9;simp only
 have hb:A5 (w64 ((st++[(a:Int)]).length-1)) (st++[(a:Int)]).length:=by rw[zH (by omega)];exact Eo (by simp)
 rw[Aa hb]
 congr 1
 funext x
 cases x with
 | inr y =>  rfl
 | inl T'=>
  simp only[top (st:=st)  (by omega)];rw[zH (by omega),Ap,Aa (by grind),Aa ⟨by omega,by simp⟩];have e:(st++[(a:Int)]).take _=st:=List.take_left' rfl;rw[e]
  cases st with
  | nil=>
   rw[if_pos rfl]
   have:decide (0<(([]:List Int).length:Int))=false:=by decide
   rw[this,An,lZ _ (by simp;omega)];simp only[Ai];rw[Aa (by simp)]
  | cons b st'=>
   simp_all
theorem gG{S X:Type}{f:S->Option (LR S X)}{a b:S}(h:f a=f b):Ab f a=Ab f b:=by
 cases hb:f b with
 | none=>rw[FV (h.trans hb),FV hb]
 | some r=>cases r with
  | done x=>rw[Ah (h.trans hb),Ah hb]
  | next s=>rw[Aq (h.trans hb),Aq hb]
theorem NF{S X:Type}{f:S->Option (LR S X)}{s:S}:Ym (f s) f=Ab f s:=by
 cases hb:f s with
 | none=>rw[FV hb];rfl
 | some r=>cases r with
  | done x=>rw[Ah hb];rfl
  | next s'=>rw[Aq hb];rfl
def sN(L:List (List Int))(k:Nat):List Nat:=(L.getD k []).map Int.toNat
def RelS(R:List Bool)(s:Nat->Bool):Prop:=∀ z,z<64->R.getD z false=s z
theorem Tw{α:Type}{d:α}{l:List α}{i:Nat}{x:α}{k:Nat}(hk:k<64):(Fx 64 d l i x).getD k d=if k=i then x else l.getD k d:=by
 rw[Lw hk]
 by_cases h:k=i
 · simp
 ·have:Nat.beq k i=false:=by cases hb:Nat.beq k i with|false=>rfl|true=>simp_all
  rw[this,if_neg h];rfl
theorem RelS.set{R:List Bool}{s:Nat->Bool}(h:RelS R s){y:Nat}:RelS (Fx 64 false R y true) (upd s y):=λz hz=>by
 rw[Tw hz,h z hz]
 by_cases hzy:z=y
 ·simp[upd]
 ·simp[upd]
def Wh(o:List Nat):List Int:=o.map Int.ofNat
theorem gk{g:TGraph}(hm:Oa g.Succ=true){s s':Nat->Bool}{l o:List Nat}(hv:VL (sN g.Succ) s l s' o) :
  ∀(R:List Bool) (T st Lf:List Int) (a t:Nat),RelS R s->a<g.Succ.length->l=(sN g.Succ a).drop t->T.getD a 0=(t:Int)->t<=(sN g.Succ a).length->s a=true->(∀ z,z<64->s z=false->T.getD z 0=0)->
   Lf.length+ck 64 s+st.length+1<=64->
   ∃(R':List Bool) (T':List Int),RelS R' s'/\(∀ z,z<64->s' z=false->T'.getD z 0=0)/\(∀ z,z<64->s z=true->z≠a->T'.getD z 0=T.getD z 0)/\Lf.length+o.length+ck 64 s'+st.length+1<=64 /\
    Ab (E9 g) (R,T,st++[(a:Int)],Lf)=if st=[] then some (Lf++Wh o++[(a:Int)]).reverse else Ab (E9 g) (R',T',st,Lf++Wh o++[(a:Int)]):=by
 obtain⟨hL1,hL64,hLok⟩:=mayS_iff.1 hm
 have hlenS:∀ a,(sN g.Succ a).length=(g.Succ.getD a []).length:=λa=>by simp[sN]
 have hdrop:∀(a t y:Nat) (l':List Nat),a<g.Succ.length->y::l'=(sN g.Succ a).drop t->t<(g.Succ.getD a []).length/\(g.Succ.getD a []).getD t 0=(y:Int)/\y<g.Succ.length/\l'=(sN g.Succ a).drop (t+1):=λa t y l' ha he=>by
  have ht:t<(sN g.Succ a).length:=by
   rcases zzL136 t (sN g.Succ a).length with h|h
   ·exact h
   ·rw[List.drop_eq_nil_of_le h]at he;cases he
  rw[W8 ht]at he;simp only[Dq]at he;obtain⟨h1,h2⟩:=he
  have ht':t<(g.Succ.getD a []).length:=by rw[<- hlenS];exact ht
  obtain⟨b0,b1⟩:=BG (hLok a ha) ht'
  have h3:(sN g.Succ a)[t]=((g.Succ.getD a []).getD t 0).toNat:=by rw[Af _ _ _ ht'];simp[sN]
  exact⟨ht',by omega,by omega,h2⟩
 induction hv with
 | nil s=>
  intro R T st Lf a t hR ha hl hT htl hsa hz hc
  have ht:t=(g.Succ.getD a []).length:=by
   have:=Ci List.length hl;simp at this;rw[hlenS]at htl this;omega
  refine⟨R,T,hR,hz,λ_ _ _ _=>rfl,by simpa using hc,?_⟩
  have hF:E9 g (R,T,st++[(a:Int)],Lf)=if st=[] then some (.done (Lf++[(a:Int)]).reverse) else some (.next (R,T,st,Lf++[(a:Int)])):=by
   rw[iu (by omega) (by omega),Ah (rF (by omega) ha hL64 (by rw[hT,ht]))]
   rfl
  by_cases hst:st=[]
  ·rw[if_pos hst]at hF ⊢;rw[Ah hF];simp[Wh]
  ·rw[if_neg hst]at hF ⊢;rw[Aq hF];simp[Wh]
 | @skip s s' y l o h tl ih=>
  intro R T st Lf a t hR ha hl hT htl hsa hz hc;obtain⟨h1,h2,h3,h4⟩:=hdrop a t y l ha hl;have hb:=DJ (hLok a ha);have hs:=iv (g:=g) (R:=R) (st:=st) (T:=T) (a:=a) (t:=t) (y:=y) (by omega) ha hL64 hT h1 (by omega) h2 h3;rw[hR y (by omega),h,Ae]at hs;obtain⟨R',T',a1,a2,a3,a4,a5⟩:=ih R (Fx 64 (0:Int) T a ((t+1:Nat):Int)) st Lf a (t+1) hR ha h4 (by rw[Tw (by omega),if_pos rfl]) (by rw[hlenS];omega) hsa
   (λz hz1 hz2=>by rw[Tw hz1,if_neg (by rintro rfl;rw[hsa]at hz2;cases hz2)];exact hz z hz1 hz2) hc
  refine⟨R',T',a1,a2,λz hz1 hz2 hz3=>by rw[a3 z hz1 hz2 hz3,Tw hz1,if_neg hz3],a4,?_⟩;rw[<- a5]
  apply gG
  rw[iu (by omega) (by omega),iu (by omega) (by omega),Aq hs]
 | @step s s1 s2 y l o1 o2 h tl tr ih1 ih2=>
  intro R T st Lf a t hR ha hl hT htl hsa hz hc;obtain⟨h1,h2,h3,h4⟩:=hdrop a t y l ha hl;have hb:=DJ (hLok a ha)
  have hay:y≠a:=by rintro rfl;rw[hsa]at h;cases h
  have hs:=iv (g:=g) (R:=R) (st:=st) (T:=T) (a:=a) (t:=t) (y:=y) (by omega) ha hL64 hT h1 (by omega) h2 h3;rw[hR y (by omega),h,An]at hs;have hcu:=CX (n:=64) (show y<64 by omega) h
  have hF:E9 g (R,T,st++[(a:Int)],Lf)=some (.next (Fx 64 false R y true,Fx 64 (0:Int) T a ((t+1:Nat):Int),(st++[(a:Int)])++[(y:Int)],Lf)):=by
   rw[iu (by omega) (by omega),Ah hs]
   rfl
  obtain⟨R1,T1,b1,b2,b3,b4,b5⟩:=ih1 (Fx 64 false R y true) (Fx 64 (0:Int) T a ((t+1:Nat):Int)) (st++[(a:Int)]) Lf y 0 hR.set h3 (by simp)
   (by rw[Tw (by omega),if_neg hay];exact hz y (by omega) h) (Rh _) (upd_true.2 (.inl rfl))
   (λz hz1 hz2=>by
    obtain⟨c1,c2⟩:=upd_false.1 hz2;rw[Tw hz1,if_neg (by rintro rfl;rw[hsa]at c2;cases c2)]
    exact hz z hz1 c2) (by rw[Gk,EW];omega)
  rw[if_neg (by simp)]at b5
  have hTa:T1.getD a 0=((t+1:Nat):Int):=by rw[b3 a (by omega) (upd_true.2 (.inr hsa)) (Ol hay),Tw (by omega),if_pos rfl]
  rw[Gk,EW]at b4;obtain⟨R2,T2,c1,c2,c3,c4,c5⟩:=ih2 R1 T1 st (Lf++Wh o1++[(y:Int)]) a (t+1) b1 ha h4 hTa (by rw[hlenS];omega) ((tl.seen a).2 (.inl (upd_true.2 (.inr hsa)))) b2
   (by simp only[Gk,EW,Wh,Ze];omega)
  refine⟨R2,T2,c1,c2,λz hz1 hz2 hz3=>?_,?_,?_⟩
  ·rw[c3 z hz1 ((tl.seen z).2 (.inl (upd_true.2 (.inr hz2)))) hz3,b3 z hz1 (upd_true.2 (.inr hz2)) (by rintro rfl;rw[h]at hz2;cases hz2),Tw hz1,if_neg hz3]
  ·simp only[Gk,EW,Wh,Ze,Vq]at c4 ⊢;omega
  ·rw[Aq hF,b5,c5]
   have e:Lf++Wh o1++[(y:Int)]++Wh o2++[(a:Int)]=Lf++Wh (o1++y::o2)++[(a:Int)]:=by simp[Wh]
   rw[e]
theorem Zb{L:List (List Int)}(h:Oa L=true):∀ z,z<L.length->∀ y∈sN L z,y<L.length:=λz hz y hy=>by
 obtain⟨_,_,h3⟩:=mayS_iff.1 h;obtain⟨x,hx,rfl⟩:=zzL27.1 hy;have:=jh (h3 z hz) hx;omega
theorem sk{r:Nat}(hr:r<64):ck 64 (one r)=63:=by
 have h:=CX  (s:=λ_=>false) hr rfl
 have e:upd (λ_=>false) r=one r:=by funext z;simp[upd,one]
 rw[e]at h
 have:ck 64 (λ_=>false)=64:=by decide
 omega
theorem II{α:Type}{n z:Nat}{d:α}:(List.replicate n d).getD z d=d:=by grind
theorem bB(g:TGraph)(h:Fits g.Succ)(hP:True)(r:Int) :
  (DX g=true->0<=r->r<(g.Succ.length:Int)->∀ L,Ord (sN g.Succ) r.toNat L->K6 g r=some (Wh L)) /\
  ((DX g&&(decide (0<=r)&&decide (r<(g.Succ.length:Int))))=false->K6 g r=some []):=by
 refine⟨λhm h0 h1 L hL=>?_,λhf=>?_⟩
 ·have hms:Oa g.Succ=true:=by unfold DX at hm;exact(Be _ _▸hm).1
  obtain⟨hL1,hL64,hLok⟩:=mayS_iff.1 hms;obtain⟨s',o,hv,rfl⟩:=hL;have hrn :=CN h0
  have hr:r.toNat<g.Succ.length:=by omega
  obtain⟨R',T',_,_,_,_,hmain⟩:=gk hms hv (Fx 64 false (List.replicate 64 false) r.toNat true) _ [] [] r.toNat 0
   (λz hz=>by rw[Tw hz,II];by_cases hzr:z=r.toNat<;>simp[one,hzr]) hr (by simp) II (Rh _) (by simp[one])
   (λz hz _=>II) (by rw[sk (by omega)];simp)
  rw[if_pos rfl,hrn]at hmain;unfold K6;rw[uz _ h,hm,Ai];simp only[E7,Vp,Ae,An,Wo,Bv h0,Bv h1,FB,Ai];rw[Aa ⟨h0,by omega⟩];have hF:∀ X,Ab (E9 g) (Fx 64 false (List.replicate 64 false) r.toNat true,List.replicate 64 (0:Int),[]++[r],[])=some X->
    (Ym _ (E9 g)).bind (λx=>some x)=some X:=λX hX=>by
   rw[NF];rw[hX];rfl
  refine(hF _ hmain).trans ?_;simp only[W9,List.reverse_append,Wh,Cy,List.map_reverse,List.reverse_cons,List.reverse_nil]
  simp
  omega
 ·unfold K6;rw[uz _ h,Ai]
  cases hm:DX g with
  | false=>rfl
  | true=>
   rw[hm,Ly]at hf;simp only[E7,Vp,Ae,An,Wo,hf,Ai,Mr]
   rfl
def RelN(n:Nat)(R:List Bool)(s:Nat->Bool):Prop:=R.length=n/\∀ z,z<n->R.getD z false=s z
theorem RelN.set{n:Nat}{R:List Bool}{s:Nat->Bool}(h:RelN n R s){y:Nat}(hy:y<n):RelN n (R.set y true) (upd s y):=by
 refine⟨by rw[G9];exact h.1,λz hz=>?_⟩;rw[EU,List.getElem?_set]
 by_cases hzy:y=z
 ·subst hzy;simp[upd,h.1,hy]
 ·rw[if_neg hzy,<- EU,h.2 z hz];simp[upd,Ol hzy]
theorem T3:∀(n:Nat) (l:List Nat),l.Nodup->(∀ x∈l,x<n)->l.length<=n
 | 0,l,_,h=>by
  cases l with
  | nil=>simp
  | cons x l=>have:=h x (zzL51 ..);omega
 | n+1,l,hd,h=>by
  by_cases hn:n∈l
  ·have h1:=T3 n _ (hd.erase n) λx hx=>by
    grind
   rw[List.length_erase_of_mem hn]at h1;omega
  ·have h1:=T3 n l hd λx hx=>by
    grind
   omega
theorem ST:∀{a b:List Int},a.Pairwise (·<·)->b.Pairwise (·<·)->(∀ x,x∈a↔x∈b)->a=b
 | [],[],_,_,_=>rfl
 | [],y::b,_,_,h=>by have:=(h y).2 (zzL51 ..);cases this
 | x::a,[],_,_,h=>by have:=(h x).1 (zzL51 ..);cases this
 | x::a,y::b,ha,hb,h=>by
  have ha':=zzL104.1 ha;have hb':=zzL104.1 hb
  have hxy:x=y:=by
   rcases zzL28.1 ((h x).1 (zzL51 ..)) with h1|h1
   ·exact h1
   ·rcases zzL28.1 ((h y).2 (zzL51 ..)) with h2|h2
    ·exact h2.symm
    ·grind
  congr 1
  refine ST ha'.2 hb'.2 λz=>⟨λhz=>?_,λhz=>?_⟩
  ·grind
  ·grind
theorem cz(p:Nat->Bool)(n:Nat):(((List.range n).filter p).map Int.ofNat).Pairwise (·<·):=by
 rw[List.pairwise_map];have:=(List.pairwise_lt_range (n:=n)).filter p
 exact this.imp λh=>by simpa using h
theorem dX{p:Nat->Bool}{n:Nat}{x:Int}:x∈((List.range n).filter p).map Int.ofNat↔∃ k:Nat,x=(k:Int)/\k<n/\p k=true:=by
 grind
theorem om{L:List (List Int)}{k i:Nat}:AZ L k i=true↔(i:Int)∈L.getD k []:=by unfold AZ;rw[zzL80]
theorem oC{b:Bool}{α:Type}{x:α}:(bif b then x else x)=x:=by cases b<;>rfl
def mk(o:List Bool)(l:List Nat):List Bool:=l.foldl (λo y=>o.set y true) o
theorem gV(l:List Nat):∀ o:List Bool,(mk o l).length=o.length:=by
 induction l with
 | nil=>intro o;rfl
 | cons y l ih=>intro o;show(mk _ l).length=_;rw[ih,G9]
theorem mk_at{n:Nat}(l:List Nat):∀(o:List Bool),o.length=n->(∀ y∈l,y<n)->∀ z,(mk o l).getD z false=true↔o.getD z false=true\/z∈l:=by
 induction l with
 | nil =>  simp[mk]
 | cons y l ih=>
  intro o ho hl z
  show(mk _ l).getD z _=true↔_
  rw[ih _ (by grind) (λu hu=>hl u (Nf _ hu)) z]
  have e:(o.set y true).getD z false=true↔o.getD z false=true\/z=y:=by
   grind
  rw[e,zzL28]
  constructor
  ·grind
  ·rintro(h|h|h)
   ·exact .inl (.inl h)
   ·exact .inl (.inr h)
   ·exact .inr h
def sw(S:Nat->List Nat)(o:List Bool):Nat->List Bool
 | 0=>o
 | i+1=>if(sw S o i).getD i false=true then mk (sw S o i) (S i) else sw S o i
def IF(S:Nat->List Nat)(n:Nat)(o:List Bool):Nat->List Bool
 | 0=>o
 | j+1=>sw S (IF S n o j) n
section
variable {S:Nat->List Nat} {n:Nat} (hS:∀ z,z<n->∀ y∈S z,y<n)
theorem sw_len(o:List Bool):∀ i,(sw S o i).length=o.length:=by
 intro i
 induction i with
 | zero=>rfl
 | succ i ih=>unfold sw;split;rw[gV,ih];exact ih
theorem Yj(o:List Bool):∀ j,(IF S n o j).length=o.length:=by
 intro j
 induction j with
 | zero=>rfl
 | succ j ih=>unfold IF;rw[sw_len,ih]
include hS
theorem PG{o:List Bool}(ho:o.length=n):∀ i,i<=n->∀ z,o.getD z false=true->(sw S o i).getD z false=true:=by
 intro i
 induction i with
 | zero=>intro _ z h;exact h
 | succ i ih=>
  intro hi z h;unfold sw
  split
  ·exact(mk_at  _ _ (by rw[sw_len];exact ho) (hS i (by omega)) z).2 (.inl (ih (by omega) z h))
  ·exact ih (by omega) z h
theorem qE{o:List Bool}{r:Nat}(ho:o.length=n)(h:∀ z,o.getD z false=true->Rch S r z):∀ i,i<=n->∀ z,(sw S o i).getD z false=true->Rch S r z:=by
 intro i
 induction i with
 | zero=>intro _ z hz;exact h z hz
 | succ i ih=>
  intro hi z hz;unfold sw at hz
  split at hz
  ·rename_i hsi
   rcases(mk_at  _ _ (by rw[sw_len];exact ho) (hS i (by omega)) z).1 hz with h1|h1
   ·exact ih (by omega) z h1
   ·exact(ih (by omega) i hsi).tail h1
  ·exact ih (by omega) z hz
theorem uJ{o:List Bool}(ho:o.length=n):∀ i,i<=n->∀ j,j<i->o.getD j false=true->∀ y∈S j,(sw S o i).getD y false=true:=by
 intro i
 induction i with
 | zero =>  omega
 | succ i ih=>
  intro hi j hj hoj y hy;unfold sw
  by_cases hji:j=i
  ·subst hji;have h1:=PG hS ho j (by omega) j hoj;rw[if_pos h1];exact(mk_at  _ _ (by rw[sw_len];exact ho) (hS j (by omega)) y).2 (.inr hy)
  ·have h1:=ih (by omega) j (by omega) hoj y hy
   split
   ·exact(mk_at  _ _ (by rw[sw_len];exact ho) (hS i (by omega)) y).2 (.inl h1)
   ·exact h1
theorem mK{o:List Bool}(ho:o.length=n)(hc:∀ j,j<n->o.getD j false=true->∀ y∈S j,o.getD y false=true):∀ i,i<=n->∀ z,(sw S o i).getD z false=true->o.getD z false=true:=by
 intro i
 induction i with
 | zero=>intro _ z h;exact h
 | succ i ih=>
  intro hi z hz;unfold sw at hz
  split at hz
  ·rcases(mk_at  _ _ (by rw[sw_len];exact ho) (hS i (by omega)) z).1 hz with h1|h1
   ·exact ih (by omega) z h1
   ·grind
  ·exact ih (by omega) z hz
theorem IG{r:Nat}(hr:r<n)(z:Nat):(IF S n ((List.replicate n false).set r true) n).getD z false=true↔Rch S r z:=by
 let o0:=(List.replicate n false).set r true
 have ho0:o0.length=n:=by simp[o0]
 have hat0:∀ z,o0.getD z false=true↔z=r:=λz=>by
  grind
 have hlen:∀ j,(IF S n o0 j).length=n:=λj=>by rw[Yj,ho0]
 have hsound:∀ j z,(IF S n o0 j).getD z false=true->Rch S r z:=by
  intro j
  induction j with
  | zero=>intro z hz;rw[(hat0 z).1 hz];exact .refl _
  | succ j ih=>intro z hz;exact qE hS (hlen j) ih n (zzL7 _) z hz
 have hmono:∀ j,∀ z,o0.getD z false=true->(IF S n o0 j).getD z false=true:=by
  intro j
  induction j with
  | zero=>intro z h;exact h
  | succ j ih=>intro z h;exact PG hS (hlen j) n (zzL7 _) z (ih z h)
 let C:Nat->Prop:=λj=>∀ i,i<n->(IF S n o0 j).getD i false=true->∀ y∈S i,(IF S n o0 j).getD y false=true
 have key:∀ j,C j\/ck n (λz=>(IF S n o0 j).getD z false)+j+1<=n:=by
  intro j
  induction j with
  | zero=>
   refine .inr ?_;have h1:=CX (n:=n) (s:=λ_=>false) hr rfl
   have e:upd (λ_=>false) r=λz=>(IF S n o0 0).getD z false:=by
    funext z
    rw[CK,upd_true]
    show _↔o0.getD z false=true
    rw[hat0]
    simp
   rw[e]at h1
   have hcl:ck n (λ_=>false)=n:=by
    unfold ck;rw[List.filter_eq_self.2 (by simp)]
    simp
   omega
  | succ j ih=>
   by_cases hc:C j
   ·refine .inl λi hi h y hy=>?_;have h1:=mK hS (hlen j) hc n (zzL7 _) i h;exact PG hS (hlen j) n (zzL7 _) y (hc i hi h1 y hy)
   ·rcases ih with ih|ih
    ·exact(hc ih).elim
    ·refine .inr ?_
     have hex:∃ i,i<n/\(IF S n o0 j).getD i false=true/\∃ y,y∈S i/\(IF S n o0 j).getD y false=false:=by
      grind
     obtain⟨i,hi,h1,y,hy,h2⟩:=hex;have h3:=uJ hS (hlen j) n (zzL7 _) i hi h1 y hy;have hyn:=hS i hi y hy;have h4:=CX (n:=n) (s:=λz=>(IF S n o0 j).getD z false) hyn h2
     have h5:ck n (λz=>(IF S n o0 (j+1)).getD z false)<=ck n (upd (λz=>(IF S n o0 j).getD z false) y):=cl λz hz=>by
      rcases upd_true.1 hz with rfl|hz
      ·exact h3
      ·exact PG hS (hlen j) n (zzL7 _) z hz
     omega
 constructor
 ·exact hsound n z
 ·intro hrch
  have hlt:∀ x z,Rch S x z->x<n->z<n/\((IF S n o0 n).getD x false=true->(IF S n o0 n).getD z false=true):=by
   intro x z hxz
   induction hxz with
   | refl x=>exact λhx=>⟨hx,id⟩
   | @head x y z hy _ ih=>
    grind
  exact(hlt r z hrch hr).2 (hmono n r ((hat0 r).2 rfl))
end
theorem tA{L:List (List Int)}(hm:Oa L=true){r:Nat}(hr:r<L.length) :
  Dd (K4 L) (r:Int) (-1:Int)=some (IF (sN L) L.length ((List.replicate L.length false).set r true) L.length):=by
 obtain⟨h1,h2,h3⟩:=mayS_iff.1 hm
 have hroom:(1000:Nat)<=room:=by decide
 have hS:=Zb hm;have hgs:(K4 L).Succ=L:=rfl
 have hlenS:∀ a,(sN L a).length=(L.getD a []).length:=λa=>by simp[sN]
 have hin:∀(o:List Bool) (i:Nat),o.length=L.length->i<L.length->Ab (A9 (K4 L) (-1) (i:Int)) ((0:Int),o)=some (if o.getD i false=true then mk o (sN L i) else o):=λo i ho hi=>by
  have hb:=DJ (h3 i hi)
  by_cases hoi:o.getD i false=true
  ·rw[if_pos hoi];have hmi:∀ k,(mk o ((sN L i).take k)).getD i false=true:=λk=>(mk_at (n:=L.length) _ _ ho (λy hy=>hS i hi y (List.mem_of_mem_take hy)) i).2 (.inl hoi)
   have hml:∀ k,(mk o ((sN L i).take k)).length=L.length:=λk=>by rw[gV,ho]
   refine F1 (A9 (K4 L) (-1) (i:Int)) (λk=>(((k:Nat):Int),mk o ((sN L i).take k))) _ (L.getD i []).length (λk hk=>?_) ?_
   ·unfold A9;obtain⟨a0,a1⟩:=BG (h3 i hi) hk;simp only[hgs,Ap,hmi];rw[Aa (Eo (by rw[hml];exact hi)),M7 (Eo hi),Ae,Cr hk,Ae,Aa (Eo hi),Aa (Eo hk)]
    have hne:((L.getD i []).getD k 0 !=(-1:Int))=true:=by rw[zzL75];omega
    rw[hne,Ae,Aa (Eo hi),Aa (Eo hk),Aa ⟨a0,by rw[hml];exact a1⟩,w1 (by omega)]
    have e:mk o ((sN L i).take (k+1))=(mk o ((sN L i).take k)).set ((L.getD i []).getD k 0).toNat true:=by
     have hk':k<(sN L i).length:=by rw[hlenS];exact hk
     rw[ba hk'];unfold mk;rw[List.foldl_append]
     have:(sN L i)[k]=((L.getD i []).getD k 0).toNat:=by rw[Af _ _ _ hk];simp[sN]
     rw[this]
     rfl
    rw[e]
    rfl
   ·unfold A9;simp only[hgs,Ap,hmi];rw[Aa (Eo (by rw[hml];exact hi)),M7 (Eo hi),Ae,Ei,An]
    have:(sN L i).take (L.getD i []).length=sN L i:=by rw[<- hlenS];exact CI ..
    rw[this]
  ·have hof:o.getD i false=false:=by simpa using hoi
   rw[if_neg hoi]
   apply Ah
   unfold A9;simp only[hgs,Ap,hof];rw[Aa (Eo (by rw[ho];exact hi)),M7 (Eo hi),An,An]
 have hsw:∀ o:List Bool,o.length=L.length->Ab (Ba (K4 L) (-1)) ((0:Int),o)=some (sw (sN L) o L.length):=λo ho=>by
  refine F1 (Ba (K4 L) (-1)) (λi=>(((i:Nat):Int),sw (sN L) o i)) _ L.length (λi hi=>?_) ?_
  ·show Ba (K4 L) (-1) (_,_)=_
   unfold Ba
   have hl:(sw (sN L) o i).length=L.length:=by rw[sw_len,ho]
   simp only[hl,Cr hi,Ae];rw[hin _ i hl hi,w1 (by omega)]
   rfl
  ·show Ba (K4 L) (-1) (_,_)=_
   unfold Ba
   have hl:(sw (sN L) o L.length).length=L.length:=by rw[sw_len,ho]
   simp only[hl,Ei,An]
 unfold Dd;simp only[hgs,Ap];rw[Aa ⟨by omega,Int.le_refl _,by omega⟩]
 have hne:((r:Int)==(-1:Int))=false:=by rw[zzL17];omega
 rw[hne,An,Aa (Eo (by simpa using hr))]
 have hl0:((List.replicate L.length false).set r true).length=L.length:=by simp
 have:Ab (Bb (K4 L) (-1)) ((0:Int),(List.replicate L.length false).set r true)=some (IF (sN L) L.length ((List.replicate L.length false).set r true) L.length):=by
  refine F1 (Bb (K4 L) (-1)) (λj=>(((j:Nat):Int),IF (sN L) L.length ((List.replicate L.length false).set r true) j)) _ L.length (λj hj=>?_) ?_
  ·show Bb (K4 L) (-1) (_,_)=_
   unfold Bb
   have hl:(IF (sN L) L.length ((List.replicate L.length false).set r true) j).length=L.length:=by rw[Yj,hl0]
   simp only[hl,Cr hj,Ae];rw[hsw _ hl,w1 (by omega)]
   rfl
  ·show Bb (K4 L) (-1) (_,_)=_
   unfold Bb
   have hl:(IF (sN L) L.length ((List.replicate L.length false).set r true) L.length).length=L.length:=by rw[Yj,hl0]
   simp only[hl,Ei,An]
 rw[this]
 rfl
def pos:List Nat->Nat->Nat
 | [],_=>0
 | x::l,z=>if x=z then 0 else pos l z+1
theorem SB(x:Nat)(l:List Nat)(z:Nat):pos (x::l) z=if x=z then 0 else pos l z+1:=rfl
theorem tn{A l:List Nat}{z:Nat}(h:z∉A):pos (A++l) z=A.length+pos l z:=by
 induction A with
 | nil=>simp
 | cons x A ih=>
  have h1:x≠z:=λe=>h (by grind);have h2 :=λe=>h (Nf _ e);rw[CJ,SB,if_neg h1,ih h2,Vq];omega
theorem PB{P:List Nat}(hd:P.Nodup){i:Nat}(hi:i<P.length):P[i]∉P.take i/\pos P P[i]=i:=by
 have e:P=P.take i++P[i]::P.drop (i+1):=by simp_all
 have hn:P[i]∉P.take i:=by
  grind
 refine⟨hn,?_⟩
 have h2:pos (P.take i++P[i]::P.drop (i+1)) P[i]=i:=by
  rw[tn hn]
  have:pos (P[i]::P.drop (i+1)) P[i]=0:=by rw[SB,if_pos rfl]
  rw[ GI];omega
 rw[<- e]at h2;exact h2
theorem np{n:Nat}{p:Nat->Bool}:(List.range (n+1)).all p=((List.range n).all p&&p n):=by
 grind
theorem cn(d:Array Int)(hs:∀ i j,i<=j->j<d.size->d[i]!<=d[j]!):∀ m,m<=d.size->(∀ x∈Lib.compactUpTo d m,∃ j,j<m/\x=d[j]!)/\(∀ j,j<m->d[j]!∈Lib.compactUpTo d m)/\(Lib.compactUpTo d m).Pairwise (·<·):=by
 intro m
 induction m with
 | zero=>intro _;exact⟨(λx hx=>by simp[Lib.compactUpTo]at hx),(λj hj=>by omega),by simp[Lib.compactUpTo]⟩
 | succ m ih=>
  intro hm;obtain⟨h1,h2,h3⟩:=ih (by omega);rw[Lib.compactUpTo_succ]
  cases hk:Lib.keeps d m with
  | true=>
   rw[if_pos rfl];refine⟨λx hx=>?_,λj hj=>?_,?_⟩
   ·grind
   ·grind
   ·rw[zzL124];refine⟨h3,List.pairwise_singleton _ _,λx hx y hy=>?_⟩;obtain⟨j,hj,rfl⟩:=h1 x hx
    have hy':y=d[m]!:=by simpa using hy
    subst hy'
    have hk':m=0\/d[m]!≠d[m-1]!:=by simpa [Lib.keeps] using hk
    rcases hk' with h0|h0
    ·omega
    ·have a1:=hs j (m-1) (by omega) (by omega);have a2:=hs (m-1) m (by omega) (by omega);omega
  | false=>
   have hk':m≠0/\d[m]! = d[m-1]!:=by
    have:¬ (m=0\/d[m]!≠d[m-1]!):=by
     intro h
     have:Lib.keeps d m=true:=by simpa [Lib.keeps] using h
     rw[hk]at this;cases this
    exact⟨λh=>this (.inl h),Classical.not_not.1 λh=>this (.inr h)⟩
   simp only[IY,Hz,List.append_nil];refine⟨λx hx=>by grind,λj hj=>?_,h3⟩
   by_cases hjm:j=m
   ·subst hjm;rw[hk'.2];exact h2 _ (by omega)
   ·exact h2 j (by omega)
def NC(l:List Int):List Int:=Lib.compact (l.mergeSort λx y=>decide (x<=y))
theorem YB(l:List Int):(NC l).Pairwise (·<·)/\∀ x,x∈NC l↔x∈l:=by
 unfold NC Lib.compact;have hp:(l.mergeSort _).Pairwise (λa b=>decide (a<=b)=true):=List.pairwise_mergeSort (λa b c h1 h2=>by simp at *;omega) (λa b=>by simp;omega) l;have hm:∀ x,x∈(l.mergeSort λx y=>decide (x<=y))↔x∈l:=λx=>List.mem_mergeSort
 generalize l.mergeSort _=z at hp hm ⊢
 have hz:∀ j,j<z.length->z.toArray[j]! = z.getD j 0:=λj hj=>by simp[ hj]
 obtain⟨h1,h2,h3⟩:=cn z.toArray (λi j hij hj=>by
  have hj' :=by simpa using hj
  rw[hz i (by omega),hz j hj']
  by_cases he:i=j
  ·grind
  ·have:=(zzL105.1 hp) i j (by omega) hj' (by omega);rw[Af _ _ _ _,Af _ _ _ hj']
   simpa using this) z.length (by simp)
 refine⟨h3,λx=>?_⟩;rw[<- hm x]
 constructor
 ·grind
 ·intro hx;obtain⟨j,hj,rfl⟩:=Qw hx;have:=h2 j hj;rwa[hz j hj,Af _ _ _ hj]at this
def rA(n:Nat)(l:List Int):Bool:=(List.range l.length).all λi=>decide (0<l.getD i 0)&&decide (l.getD i 0<(n:Int))
def NK(k:Int):Int:=([0,1,2,0]:List Int).getD k.toNat 0
def MP(e:M0):Bool:=(decide (0<=e.Kind)&&decide (e.Kind<=3))&&decide ((e.To.length:Int)=NK e.Kind)
def Oy(e:M0)(n:Nat):Bool:=MP e&&rA n e.To
theorem toB_iff{n:Nat}{l:List Int}:rA n l=true↔∀ x∈l,0<x/\x<n:=by
 unfold rA;rw[all_range];simp only[Be,En]
 constructor
 ·intro h x hx;obtain⟨i,hi,rfl⟩:=Qw hx;have:=h i hi;rwa[Af _ _ _ hi]at this
 ·simp_all
theorem oY(e:M0)(n:Nat)(hl:e.To.length<4611686018427387904):Ab (Fz e (n:Int)) (0:Int)=some (bif rA n e.To then .inl () else .inr false):=by
 have step:∀ j ,j<e.To.length->Fz e n j=bif (decide (0<e.To.getD j 0)&&decide (e.To.getD j 0<n)) then some (.next ((j+1:Int))) else some _:=λj hj=>by
  unfold Fz;simp only[Ap,Cr hj, Wo,w1 (show j<4611686018427387904 by omega)];rw[Aa (Eo hj)]
  by_cases h0:e.To.getD j 0=0
  ·rw[h0];rfl
  ·grind
 have:=G3 (Fz e n) (λj=>(j:Nat)) (λi=>decide (0<e.To.getD i 0)&&decide (e.To.getD i 0<n)) (.inl ()) (.inr false) e.To.length (λj hj hp=>?_) (λj hj hp=>?_) ?_
 ·exact this
 ·grind
 ·rw[step j hj,hp];rfl
 ·unfold Fz;simp only[Ei,An]
theorem HF(e:M0)(n:Nat)(w:Int)(hw:0<=w/\w<=2) :
  (bif ((e.To.length:Int)!=w) then(some false) else((Ab (Fz e (n:Int)) (0:Int)).bind (λx10=>(match x10 with|(.inl _)=>(some true)|(.inr r12)=>(some r12)))))=some (decide ((e.To.length:Int)=w)&&rA n e.To):=by
 by_cases h:e.To.length=w
 ·rw[show(e.To.length !=w)=false by simpa using h, oY e n (by omega),Bv h]
  cases rA n _<;>rfl
 ·grind
theorem lW(e:M0)(n:Nat):O8 e (n:Int)=some (Oy e n):=by
 unfold O8 Oy MP
 by_cases h0:e.Kind=0
 ·rw[h0];exact HF e n 0 (by omega)
 by_cases h1:e.Kind=1
 ·rw[h1];exact HF e n 1 (by omega)
 by_cases h2:e.Kind=2
 ·rw[h2];exact HF e n 2 (by omega)
 by_cases h3:e.Kind=3
 ·rw[h3];exact HF e n 0 (by omega)
 have e0:(e.Kind==0)=false:=by rw[zzL17];exact h0
 have e1:(e.Kind==1)=false:=by rw[zzL17];exact h1
 have e2:(e.Kind==2)=false:=by rw[zzL17];exact h2
 have e3:(e.Kind==3)=false:=by rw[zzL17];exact h3
 rw[e0,e1,e2,e3]
 have:(decide (0<=e.Kind)&&decide (e.Kind<=3))=false:=by
  by_cases h:0<=e.Kind
  ·rw[B7 (show ¬ e.Kind<=3 by omega)];simp
  ·rw[B7 h];rfl
 rw[this]
 rfl
theorem oe{e:M0}{n:Nat}(h:Oy e n=true):e.To.length<=2:=by
 unfold Oy MP at h;simp only[Be,En]at h;obtain⟨⟨⟨h0,h1⟩,h2⟩,_⟩:=h
 have:NK e.Kind<=2:=by
  have:e.Kind=0\/e.Kind=1\/e.Kind=2\/e.Kind=3:=by omega
  rcases this with h|h|h|h<;>rw[h]<;>decide
 omega
theorem jS{e:M0}{n:Nat}(h:Oy e n=true):rA n e.To=true:=by unfold Oy at h;exact(Be _ _▸h).2
def Bx(f:TFunc)(i:Nat):M0:=(f.Blocks.getD i (default:Am)).End
def Dm(f:TFunc):List (List Int):=(List.range f.Blocks.length).map λi=>NC (Bx f i).To
def Ry(f:TFunc):Bool:=(decide (1<=f.Blocks.length)&&decide (f.Blocks.length<=64))&&(List.range f.Blocks.length).all λi=>Oy (Bx f i) f.Blocks.length
theorem shape_iff{f:TFunc}:Ry f=true↔(1<=f.Blocks.length/\f.Blocks.length<=64)/\∀ i,i<f.Blocks.length->Oy (Bx f i) f.Blocks.length=true:=by
 unfold Ry;rw[Be,Be,all_range];simp only[En]
theorem uC{f:TFunc}{i:Nat}(h:Oy (Bx f i) f.Blocks.length=true):md f.Blocks.length (NC (Bx f i).To)=true:=by
 obtain⟨h1,h2⟩:=YB (Bx f i).To;exact wd (λx hx=>by have:=(toB_iff.1 (jS h)) x ((h2 x).1 hx);omega) h1
theorem So{f:TFunc}(h:Ry f=true):Oa (Dm f)=true:=by
 obtain⟨⟨h1,h2⟩,h3⟩:=shape_iff.1 h
 have hl:(Dm f).length=f.Blocks.length:=by simp[Dm]
 refine mayS_iff.2 ⟨by omega,by omega,λi hi=>?_⟩;rw[hl]at hi ⊢;unfold Dm;rw[R7 hi];exact uC (h3 i hi)
theorem Aam(f:TFunc)(hf:f.Blocks.length<=maxLen):Xw f=some (bif Ry f then(K4 (Dm f),0) else(g0,5)):=by
 have hroom:(1000:Nat)<=room:=by decide
 unfold Xw;rw[XG,Ai];have hsh:Ry f=((decide (1<=f.Blocks.length)&&decide (f.Blocks.length<=64))&&(List.range f.Blocks.length).all λi=>Oy (Bx f i) f.Blocks.length):=rfl
 cases hc:(decide (1<=f.Blocks.length)&&decide (f.Blocks.length<=64)) with
 | false=>rw[hsh,hc];rfl
 | true=>
  have hc':=hc;simp only[Be,En]at hc';simp only[E7,An];rw[Aa ⟨by omega,Int.le_refl _,by omega⟩,Ap]
  let U:Nat->List (List Int):=λi=>(List.range f.Blocks.length).map λj=>if j<i then NC (Bx f j).To else[]
  have e0:List.replicate f.Blocks.length ([]:List Int)=U 0:=by
   simp only[U]
   apply List.ext_getElem?
   intro j
   by_cases hj:j<f.Blocks.length<;>simp[hj,List.getElem?_replicate]
  have eN:U f.Blocks.length=Dm f:=by
   simp only[U,Dm]
   apply Hq
   intro j hj;rw[if_pos hj]
  rw[e0]
  have hstep:∀ i:Nat,i<f.Blocks.length->H3 f ((i:Int),U i)=bif Oy (Bx f i) f.Blocks.length then some (.next (((i+1:Nat):Int),U (i+1))) else some (.done (.inr (g0,5))):=λi hi=>by
   unfold H3;simp only[Cr hi,Ae,Ap];rw[Aa (Eo hi)];have he:(⟨(f.Blocks.getD i (default:Am)).End.Kind,(f.Blocks.getD i (default:Am)).End.Arg,(f.Blocks.getD i (default:Am)).End.To⟩:M0)=Bx f i:=rfl;rw[he,lW,Ai]
   cases hfit:Oy (Bx f i) f.Blocks.length with
   | false=>rfl
   | true=>
    have hl2:=oe hfit;simp only[E7,An,Ae]
    have hx:IW (f.Blocks.getD i (default:Am)).End.To=some (NC (Bx f i).To):=by
     unfold IW;rw[jX,Aa (by show(Bx f i).To.length<=_;omega)]
     rfl
    rw[hx,Ai,Aa (Eo (by simp[U];omega)),w1 (by omega)]
    congr 3
    simp only[U];rw[CC]
    apply Hq
    intro j hj
    by_cases h1:j=i
    ·subst h1;rw[if_pos rfl,if_pos (by omega)]
    ·rw[if_neg h1]
     by_cases h2:j<i
     ·rw[if_pos h2,if_pos (by omega)]
     ·rw[if_neg h2,if_neg (by omega)]
  have:=G3 (H3 f) (λi=>(((i:Nat):Int),U i)) (λi=>Oy (Bx f i) f.Blocks.length) (.inl (U f.Blocks.length)) (.inr (g0,5)) f.Blocks.length (λi hi hp=>?_) (λi hi hp=>?_) ?_
  ·rw[show Ab (H3 f) ((0:Int),U 0)=_ from this,hsh,hc,eN,Ly]
   cases hall:(List.range f.Blocks.length).all λi=>Oy (Bx f i) f.Blocks.length with
   | false=>rfl
   | true=>
    simp only[Ae,Ai];rw[dR _ (So (by rw[hsh,hc,hall];rfl))]
    rfl
  ·show H3 f (_,_)=_
   rw[hstep i hi,hp];rfl
  ·show H3 f (_,_)=_
   rw[hstep i hi,hp];rfl
  ·show H3 f (_,_)=_
   unfold H3;simp only[Ei,An]
def KS(l:List Int)(k:Nat):List Int:=((List.range k).filter λz:Nat=>decide (1<=z)&&l.contains (z:Int)).map Int.ofNat
theorem pm{n:Nat}{l:List Int}(h:rA n l=true):KS l n=NC l:=by
 obtain⟨h1,h2⟩:=YB l;refine ST (cz _ _) h1 λx=>?_;rw[h2 x];unfold KS;rw[dX]
 constructor
 ·grind
 ·intro hx;have:=(toB_iff.1 h) x hx;refine⟨x.toNat,by omega,by omega,?_⟩;rw[CN (by omega),zzL80.2 hx,Bv (by omega)]
  rfl
theorem lz(f:TFunc)(i:Nat)(hl:(Bx f i).To.length<4611686018427387904):Ab (Fj f (i:Int)) (0:Int)=some (bif rA f.Blocks.length (Bx f i).To then .inl () else .inr (g0,5)):=by
 have hE:(f.Blocks.getD i _).End=Bx f i:=rfl
 have step:∀ j ,j<(Bx f i).To.length->Fj f i j=bif (decide (0<(Bx f i).To.getD j 0)&&decide ((Bx f i).To.getD j 0<f.Blocks.length)) then some (.next ((j+1:Nat))) else some _:=λj hj=>by
  unfold Fj;simp only[Ap,hE,Cr hj, w1 (show j<4611686018427387904 by omega)];rw[Aa (Eo hj),M7 (Eo hj)]
  by_cases h0:(Bx f i).To.getD j 0<=0
  ·rw[Bv h0,B7 (show ¬ 0<(Bx f i).To.getD j 0 by omega)];rfl
  ·rw[B7 h0,Bv (show 0<(Bx f i).To.getD j 0 by omega)]
   by_cases h1:f.Blocks.length<=(Bx f i).To.getD j 0
   ·rw[Bv h1,B7 (show ¬ (Bx f i).To.getD j 0<f.Blocks.length by omega)];rfl
   ·grind
 have:=G3 (Fj f i) (λj=>(j:Nat)) (λk=>decide (0<(Bx f i).To.getD k 0)&&decide ((Bx f i).To.getD k 0<f.Blocks.length)) (.inl ()) (.inr (g0,5)) (Bx f i).To.length (λj hj hp=>?_) (λj hj hp=>?_) ?_
 ·exact this
 ·grind
 ·rw[step j hj,hp];rfl
 ·unfold Fj;simp only[Ap,hE,Ei,An]
theorem mA(f:TFunc)(i:Nat)(hn:1<=f.Blocks.length/\f.Blocks.length<=64)(hl:(Bx f i).To.length<4611686018427387904):Ab (Ho f (i:Int)) (([]:List Int),(1:Int))=some (KS (Bx f i).To f.Blocks.length):=by
 have hroom:1000<=room:=by decide
 have hE:(f.Blocks.getD i _).End=Bx f i:=rfl
 have e0:KS (Bx f i).To 1=[]:=by unfold KS;simp
 have key:=F1 (Ho f i) (λk=>(KS (Bx f i).To (k+1),(k+1:Nat))) (KS (Bx f i).To f.Blocks.length) (f.Blocks.length-1) (λk hk=>?_) ?_
 ·grind
 ·unfold Ho
  have hlen:(KS (Bx f i).To (k+1)).length<=k+1:=by
   unfold KS;have:=List.length_filter_le (λz =>decide (1<=z)&&(Bx f i).To.contains (z:Nat)) (List.range (k+1))
   simpa using this
  simp only[Ap,hE,Cr (show k+1<f.Blocks.length by omega)];rw[pD _ _ hl,Ai,w1 (by omega)]
  have hs:KS (Bx f i).To (k+1+1)=KS (Bx f i).To (k+1)++(if(Bx f i).To.contains ((k+1:Nat))=true then[(k+1:Int)] else[]):=by
   unfold KS;rw[JA,LH]
   cases hg:(Bx f i).To.contains _ with
   | true=>grind
   | false=>grind
  rw[hs]
  cases hg:(Bx f i).To.contains _ with
  | true=>
   rw[ Aa (by grind)]
   rfl
  | false =>  simp
 ·unfold Ho;simp only[show f.Blocks.length-1+1=f.Blocks.length by omega,Ei,An]
theorem dU(f:TFunc)(hf:f.Blocks.length<=maxLen):Jo f=some (bif Ry f then(K4 (Dm f),0) else(g0,5)):=by
 have hroom:(1000:Nat)<=room:=by decide
 unfold Jo
 have hc:(bif ((f.Blocks.length:Int)==(0:Int)) then true else decide ((64:Int)<(f.Blocks.length:Int))) = !(decide (1<=f.Blocks.length)&&decide (f.Blocks.length<=64)):=by
  grind
 rw[hc];have hsh:Ry f=((decide (1<=f.Blocks.length)&&decide (f.Blocks.length<=64))&&(List.range f.Blocks.length).all λi=>Oy (Bx f i) f.Blocks.length):=rfl
 cases hb:(decide (1<=f.Blocks.length)&&decide (f.Blocks.length<=64)) with
 | false=>rw[hsh,hb];rfl
 | true=>
  have hb':=hb;simp only[Be,En]at hb';simp only[E7,An]
  let U:Nat->List (List Int):=λi=>(List.range i).map λj=>KS (Bx f j).To f.Blocks.length
  have hstep:∀ i:Nat,i<f.Blocks.length->Cu f (U i,(i:Int))=bif Oy (Bx f i) f.Blocks.length then some (.next (U (i+1),((i+1:Nat):Int))) else some (.done (.inr (g0,5))):=λi hi=>by
   unfold Cu;have hE:(f.Blocks.getD i (default:Am)).End=Bx f i:=rfl;simp only[Cr hi,Ae,Ap,hE];rw[Aa (Eo hi),w1 (by omega)]
   by_cases hk:0<=(Bx f i).Kind/\(Bx f i).Kind<=3
   ·rw[B7 (show ¬ (Bx f i).Kind<0 by omega),B7 (show ¬ (3:Int)<(Bx f i).Kind by omega)];simp only[An];rw[M7 (show A5 (Bx f i).Kind ([(0:Int),1,2,0]:List Int).length from⟨hk.1,by show(Bx f i).Kind<4;omega⟩)];have hw:([(0:Int),1,2,0]:List Int).getD (Bx f i).Kind.toNat 0=NK (Bx f i).Kind:=rfl;rw[hw]
    have hkb:MP (Bx f i)=decide (((Bx f i).To.length:Int)=NK (Bx f i).Kind):=by
     unfold MP;rw[Bv hk.1,Bv hk.2];rfl
    unfold Oy;rw[hkb]
    by_cases hl:((Bx f i).To.length:Int)=NK (Bx f i).Kind
    ·have hw2:NK (Bx f i).Kind<=2:=by
      have:(Bx f i).Kind=0\/(Bx f i).Kind=1\/(Bx f i).Kind=2\/(Bx f i).Kind=3:=by omega
      rcases this with h|h|h|h<;>rw[h]<;>decide
     rw[show(((Bx f i).To.length:Int)!=NK (Bx f i).Kind)=false by simpa using hl,Bv hl,An,lz f i (by omega),Ly]
     cases htb:rA f.Blocks.length (Bx f i).To with
     | false=>rfl
     | true=>
      simp only[Ae,Ai];rw[mA f i hb' (by omega)];simp only[Ai];rw[Aa (by simp only[U,Ze,Zd,EW];omega)]
      congr 3
      simp only[U];rw[JA,LJ]
      rfl
    ·rw[show(((Bx f i).To.length:Int)!=NK (Bx f i).Kind)=true by simpa using hl,B7 hl];rfl
   ·have hbad:(bif decide ((Bx f i).Kind<0) then true else decide ((3:Int)<(Bx f i).Kind))=true:=by
     by_cases h0:(Bx f i).Kind<0
     ·rw[Bv h0];rfl
     ·rw[B7 h0,Bv (show(3:Int)<(Bx f i).Kind by omega)];rfl
    have hkb:MP (Bx f i)=false:=by
     unfold MP
     by_cases h0:0<=(Bx f i).Kind
     ·rw[B7 (show ¬ (Bx f i).Kind<=3 by omega)];simp
     ·rw[B7 h0];simp
    simp only[hbad];rw[Aa (by intro h;cases h)];unfold Oy;rw[hkb]
    rfl
  have:=G3 (Cu f) (λi=>(U i,((i:Nat):Int))) (λi=>Oy (Bx f i) f.Blocks.length) (.inl (U f.Blocks.length)) (.inr (g0,5)) f.Blocks.length (λi hi hp=>?_) (λi hi hp=>?_) ?_
  ·rw[show Ab (Cu f) (([]:List (List Int)),(0:Int))=_ from this,hsh,hb,Ly]
   cases hall:(List.range f.Blocks.length).all λi=>Oy (Bx f i) f.Blocks.length with
   | false=>rfl
   | true=>
    have hshape:Ry f=true:=by rw[hsh,hb,hall];rfl
    have hm:=So hshape
    have hU:U f.Blocks.length=Dm f:=by
     simp only[U,Dm]
     apply Hq
     intro j hj;exact pm (jS ((shape_iff.1 hshape).2 j hj))
    simp only[Ae,Ai];rw[hU,RA _ (Um (T0 hm)),hm]
    rfl
  ·show Cu f (_,_)=_
   rw[hstep i hi,hp];rfl
  ·show Cu f (_,_)=_
   rw[hstep i hi,hp];rfl
  ·show Cu f (_,_)=_
   unfold Cu;simp only[Ei,An]
inductive Rc (S:Nat->List Nat) (r:Nat):Nat->Prop
 | root:Rc S r r
 | step {x y:Nat} (h:Rc S r x) (hy:y∈S x):Rc S r y
inductive Av (S:Nat->List Nat) (r z:Nat):Nat->Prop
 | root (h:r≠z):Av S r z r
 | step {x y:Nat} (h:Av S r z x) (hy:y∈S x) (hz:y≠z):Av S r z y
inductive AvN (S:Nat->List Nat) (r z:Nat):Nat->Nat->Prop
 | root (h:r≠z) (k:Nat):AvN S r z k r
 | step {k x y:Nat} (h:AvN S r z k x) (hy:y∈S x) (hz:y≠z):AvN S r z (k+1) y
section
variable {S:Nat->List Nat} {r:Nat}
theorem rc_iff{x:Nat}:Rc S r x↔Rch S r x:=by
 constructor
 ·intro h
  induction h with
  | root=>exact .refl _
  | step _ hy ih=>exact ih.tail hy
 ·intro h
  have key:∀ a b,Rch S a b->Rc S r a->Rc S r b:=by
   intro a b hab
   induction hab with
   | refl x=>exact id
   | head hy _ ih=>exact λha=>ih (.step ha hy)
  exact key _ _ h .root
def wo(S:Nat->List Nat)(z:Nat):Nat->List Nat:=λx=>(S x).filter λy=>decide (y≠z)
theorem av_iff{z x:Nat}:Av S r z x↔r≠z/\Rch (wo S z) r x:=by
 constructor
 ·intro h
  induction h with
  | root h=>exact⟨h,.refl _⟩
  | step _ hy hz ih=>exact⟨ih.1,ih.2.tail (zzL90.2 ⟨hy,by simpa using hz⟩)⟩
 ·rintro⟨hr,h⟩
  have key:∀ a b,Rch (wo S z) a b->Av S r z a->Av S r z b:=by
   intro a b hab
   induction hab with
   | refl x=>exact id
   | head hy _ ih=>
    obtain⟨h1,h2⟩:=zzL90.1 hy;exact λha=>ih (.step ha h1 (by simpa using h2))
  exact key _ _ h (.root hr)
theorem Av.rc{z x:Nat}(h:Av S r z x):Rc S r x:=by
 induction h with
 | root _=>exact .root
 | step _ hy _ ih=>exact .step ih hy
theorem Av.ne{z x:Nat}(h:Av S r z x):x≠z:=by
 cases h with
 | root h=>exact h
 | step _ _ hz=>exact hz
theorem AvN.av{z k x:Nat}(h:AvN S r z k x):Av S r z x:=by
 induction h with
 | root h=>exact .root h
 | step _ hy hz ih=>exact .step ih hy hz
theorem AvN.up{z k x:Nat}(h:AvN S r z k x):AvN S r z (k+1) x:=by
 induction h with
 | root h k=>exact .root h _
 | step _ hy hz ih=>exact .step ih hy hz
theorem AvN.mono{z k m x:Nat}(h:AvN S r z k x)(hm:k<=m):AvN S r z m x:=by
 obtain⟨d,rfl⟩:=Nat.exists_eq_add_of_le hm;clear hm
 induction d with
 | zero=>exact h
 | succ d ih=>exact ih.up
theorem Av.avn{z x:Nat}(h:Av S r z x):∃ k,AvN S r z k x:=by
 induction h with
 | root h=>exact⟨0,.root h 0⟩
 | step _ hy hz ih=>obtain⟨k,hk⟩:=ih;exact⟨k+1,.step hk hy hz⟩
theorem AvN.via {z k x : Nat} (h : AvN S r z k x) (y : Nat) : AvN S r y k x ∨ AvN S r z k y := by
  induction h with
  | root h k => by_cases hy : r = y
                · subst hy; exact .inr (.root h _)
                · exact .inl (.root hy _)
  | @step k x w h hy hz ih =>
    rcases ih with h1 | h1
    · by_cases hw : w = y
      · subst hw; exact .inr (.step h hy hz)
      · exact .inl (.step h1 hy hw)
    · exact .inr h1.up
theorem kz(n:Nat):∃ K,∀ z,z<n->∀ x,x<n->Av S r z x->AvN S r z K x:=by
 have one:∀ z m,∃ K,∀ x,x<m->Av S r z x->AvN S r z K x:=by
  intro z m
  induction m with
  | zero=>simp_all
  | succ m ih=>
   obtain⟨K,hK⟩:=ih
   by_cases h:Av S r z m
   ·obtain⟨k,hk⟩:=h.avn;refine⟨max K k,λx hx ha=>?_⟩;rcases Nat.lt_succ_iff_lt_or_eq.1 hx with h1|rfl
    ·exact(hK x h1 ha).mono (Nat.le_max_left ..)
    ·exact hk.mono (Nat.le_max_right ..)
   ·refine⟨K,λx hx ha=>?_⟩;rcases Nat.lt_succ_iff_lt_or_eq.1 hx with h1|rfl
    ·exact hK x h1 ha
    ·exact absurd ha h
 have two:∀ m,∃ K,∀ z,z<m->∀ x,x<n->Av S r z x->AvN S r z K x:=by
  intro m
  induction m with
  | zero=>simp_all
  | succ m ih=>
   obtain⟨K,hK⟩:=ih;obtain⟨k,hk⟩:=one m n;refine⟨max K k,λz hz x hx ha=>?_⟩;rcases Nat.lt_succ_iff_lt_or_eq.1 hz with h1|rfl
   ·exact(hK z h1 x hx ha).mono (Nat.le_max_left ..)
   ·exact(hk x hx ha).mono (Nat.le_max_right ..)
 exact two n
end
inductive UpTo (par:Nat->Int):Nat->Nat->Prop
 | refl (x:Nat):UpTo par x x
 | up {x y z:Nat} (h:par x=(y:Int)) (t:UpTo par y z):UpTo par x z
inductive Fw (S:Nat->List Nat) (at_:Nat->Nat) (u:Nat):Nat->Prop
 | refl:Fw S at_ u u
 | step {v w:Nat} (h:Fw S at_ u v) (hw:w∈S v) (hl:at_ v<at_ w):Fw S at_ u w
section
variable {S:Nat->List Nat} {at_:Nat->Nat} {par:Nat->Int}
theorem Fw.le{u w:Nat}(h:Fw S at_ u w):at_ u<=at_ w:=by
 induction h with
 | refl=>exact zzL7 _
 | step _ _ hl ih=>omega
theorem Fw.trans{u v w:Nat}(h:Fw S at_ u v)(k:Fw S at_ v w):Fw S at_ u w:=by
 induction k with
 | refl=>exact h
 | step _ hw hl ih=>exact .step ih hw hl
theorem Fw.av{r d u w:Nat}(h:Fw S at_ u w)(ha:Av S r d u)(hd:at_ d<at_ u):Av S r d w:=by
 induction h with
 | refl=>exact ha
 | @step v w h hw hl ih=>exact .step ih hw (by rintro rfl;have:=h.le;omega)
theorem UpTo.trans{x y z:Nat}(h:UpTo par x y)(k:UpTo par y z):UpTo par x z:=by
 induction h with
 | refl x=>exact k
 | up h _ ih=>exact .up h (ih k)
theorem anc_up{x p z:Nat}(h:par x=(p:Int)):UpTo par x z↔z=x\/UpTo par p z:=by
 constructor
 ·intro k
  cases k with
  | refl=>exact .inl rfl
  | up h' t=>grind
 ·rintro(rfl|k)
  ·exact .refl _
  ·exact .up h k
theorem OO{x z:Nat}(h:∀ p:Nat,par x≠(p:Int)):UpTo par x z↔z=x:=by
 constructor
 ·intro k
  cases k with
  | refl=>rfl
  | up h' t=>exact absurd h' (h _)
 ·rintro rfl;exact .refl _
structure Inv(S:Nat->List Nat)(r n:Nat)(at_:Nat->Nat)(par:Nat->Int):Prop where
 top:par r = -1
 kind:∀ x,x<n->par x = -2\/x=r\/∃ z:Nat,par x=(z:Int)
 up:∀ x,x<n->∀ z:Nat,par x=(z:Int)->z<n/\par z≠-2/\at_ z<at_ x/\Fw S at_ z x
 rc:∀ x,x<n->par x≠-2->Rc S r x
 all:∀ x,x<n->par x≠-2->∀ d,¬ UpTo par x d->Av S r d x
end
section
variable {S:Nat->List Nat} {at_:Nat->Nat} {par:Nat->Int} {r n:Nat}
theorem Inv.anc(h:Inv S r n at_ par){x z:Nat}(k:UpTo par x z)(hx:x<n)(hp:par x≠-2):z<n/\par z≠-2/\at_ z<=at_ x/\Fw S at_ z x:=by
 induction k with
 | refl x=>exact⟨hx,hp,zzL7 _,.refl⟩
 | @up x y z hxy t ih=>
  obtain⟨h1,h2,h3,h4⟩:=h.up x hx y hxy;obtain⟨i1,i2,i3,i4⟩:=ih h1 h2;exact⟨i1,i2,by omega,i4.trans h4⟩
theorem Inv.root_anc(h:Inv S r n at_ par){z:Nat}:UpTo par r z↔z=r:=OO λp hp=>by rw[h.top]at hp;omega
theorem Inv.strict(h:Inv S r n at_ par){x z:Nat}(k:UpTo par x z)(hx:x<n)(hp:par x≠-2):z=x\/at_ z<at_ x:=by
 cases k with
 | refl=>exact .inl rfl
 | up hxy t=>
  obtain⟨h1,h2,h3,h4⟩:=h.up x hx _ hxy;obtain⟨i1,i2,i3,i4⟩:=h.anc t h1 h2;exact .inr (by omega)
theorem Inv.antisymm(h:Inv S r n at_ par){x z:Nat}(k:UpTo par x z)(m:UpTo par z x)(hx:x<n)(hp:par x≠-2):z=x:=by
 rcases h.strict k hx hp with rfl|h1
 ·rfl
 ·obtain⟨i1,i2,i3,i4⟩:=h.anc k hx hp;have:=(h.anc m i1 i2).2.2.1;omega
def MeetAt(par:Nat->Int)(a b m:Nat):Prop:=∀ w,UpTo par m w↔UpTo par a w/\UpTo par b w
theorem XH{a:Nat}:MeetAt par a a a:=λw=>by simp
theorem lh{a b m:Nat}(h:MeetAt par a b m):MeetAt par b a m:=λw=>by rw[h w];exact And.comm
theorem Inv.meet_left(h:Inv S r n at_ par)(hinj:∀ x y,x<n->y<n->par x≠-2->par y≠-2->at_ x=at_ y->x=y){a b p m:Nat}(ha:a<n)(hpa:par a≠-2)(hb:b<n)(hpb:par b≠-2)(hab:a≠b)(hl:at_ b<=at_ a)(hp:par a=(p:Int))(k:MeetAt par p b m):MeetAt par a b m:=λw=>by
 rw[k w]
 constructor
 ·rintro⟨h1,h2⟩;exact⟨.up hp h1,h2⟩
 ·rintro⟨h1,h2⟩;rcases(anc_up hp).1 h1 with rfl|h1
  ·exfalso
   rcases h.strict h2 hb hpb with h3|h3
   ·exact hab h3
   ·omega
  ·exact⟨h1,h2⟩
end
section
variable {S:Nat->List Nat} {at_:Nat->Nat} {par:Nat->Int} {r n:Nat}
def R0(par:Nat->Int)(y:Nat)(v:Int):Nat->Int:=λx=>if x=y then v else par x
def e8(S:Nat->List Nat)(n:Nat)(par:Nat->Int)(y z:Nat):Prop:=∀ w,UpTo par z w↔∀ p,p<n->y∈S p->par p≠-2->UpTo par p w
theorem MF{y:Nat}{v:Int}{x z:Nat}(k:UpTo par x z)(hy:¬ UpTo par x y):UpTo (R0 par y v) x z:=by
 induction k with
 | refl x=>exact .refl _
 | @up x q z h t ih=>
  have hxy:x≠y:=by rintro rfl;exact hy (.refl _)
  refine .up  ?_ (ih λk=>hy (.up h k));unfold R0;rw[if_neg hxy];exact h
theorem cS{y:Nat}{v:Int}{x:Nat}(k:UpTo par x y):UpTo (R0 par y v) x y:=by
 induction k with
 | refl x=>exact .refl _
 | @up x q z h t ih=>
  by_cases hxy:x=z
  ·subst hxy;exact .refl _
  ·refine .up  ?_ ih;unfold R0;rw[if_neg hxy];exact h
theorem anc_upd_inv{y:Nat}{v:Int}{x w:Nat}(k:UpTo (R0 par y v) x w):UpTo par x w\/(UpTo par x y/\UpTo (R0 par y v) y w):=by
 induction k with
 | refl x=>exact .inl (.refl _)
 | @up x q w h t ih=>
  by_cases hxy:x=y
  ·subst hxy;exact .inr ⟨.refl _,.up h t⟩
  ·unfold R0 at h;rw[if_neg hxy]at h;rcases ih with h1|⟨h1,h2⟩
   ·exact .inl (.up h h1)
   ·exact .inr ⟨.up h h1,h2⟩
theorem low_or{y:Nat}{v:Int}{x d:Nat}(k:UpTo par x y)(hd:UpTo par x d):UpTo par y d\/UpTo (R0 par y v) x d:=by
 induction k with
 | refl x=>exact .inl hd
 | @up x q y hq t ih=>
  by_cases e:x=y
  ·subst e;exact .inl hd
  ·rcases(anc_up hq).1 hd with rfl|k
   ·exact .inr (.refl _)
   ·rcases ih k with h1|h1
    ·exact .inl h1
    ·exact .inr (.up  (by unfold R0;rw[if_neg e];exact hq) h1)
structure Better(S:Nat->List Nat)(r n:Nat)(at_:Nat->Nat)(par:Nat->Int)(y z:Nat):Prop where
 inv:Inv S r n at_ par
 hy:y<n
 hr:y≠r
 hz:z<n
 best:e8 S n par y z
 fwd:∃ p,p<n/\y∈S p/\par p≠-2/\at_ p<at_ y
variable {y z:Nat}
theorem Better.zlt(h:Better S r n at_ par y z):UpTo par z z/\par z≠-2/\at_ z<at_ y/\Fw S at_ z y:=by
 obtain⟨p,hp,hyp,hpp,hl⟩:=h.fwd;obtain⟨h1,h2,h3,h4⟩:=h.inv.anc ((h.best z).1 (.refl _) p hp hyp hpp) hp hpp;exact⟨.refl _,h2,by omega,.step h4 hyp hl⟩
theorem Better.above(h:Better S r n at_ par y z){w:Nat}:UpTo (R0 par y z) z w↔UpTo par z w:=by
 obtain⟨_,h2,h3,_⟩:=h.zlt
 have hn:¬ UpTo par z y:=λk=>by have:=(h.inv.anc k h.hz h2).2.2.1;omega
 constructor
 ·intro k;rcases anc_upd_inv k with h1|⟨h1,_⟩
  ·exact h1
  ·exact absurd h1 hn
 ·intro k;exact MF k hn
theorem Better.here(h:Better S r n at_ par y z){w:Nat}:UpTo (R0 par y z) y w↔w=y\/UpTo par z w:=by
 rw[anc_up (p:=z) (by simp[R0]),h.above]
theorem Better.av_here(h:Better S r n at_ par y z){d:Nat}(hd:¬ UpTo (R0 par y z) y d):Av S r d y:=by
 rw[h.here]at hd;have h1:¬ ∀ p,p<n->y∈S p->par p≠-2->UpTo par p d:=λhh=>hd (.inr ((h.best d).2 hh));simp only[Classical.not_forall]at h1;obtain⟨p,hp,hyp,hpp,hnp⟩:=h1;exact .step (h.inv.all p hp hpp d hnp) hyp λe=>hd (.inl e.symm)
theorem Better.inv'(h:Better S r n at_ par y z):Inv S r n at_ (R0 par y z):=by
 obtain⟨hzz,hz2,hzl,hzf⟩:=h.zlt;obtain⟨p,hp,hyp,hpp,hl⟩:=h.fwd
 have hne:∀ x,R0 par y z x≠-2->x=y\/par x≠-2:=λx hx=>by
  by_cases e:x=y
  ·exact .inl e
  ·unfold R0 at hx;rw[if_neg e]at hx;exact .inr hx
 have hyv:R0 par y z y=z:=by simp[R0]
 have hyo:∀ x,x≠y->R0 par y z x=par x:=λx e=>by unfold R0;rw[if_neg e]
 refine⟨by rw[hyo _ (Ol h.hr)];exact h.inv.top,λx hx=>?_,λx hx w hw=>?_,λx hx hxp=>?_,λx hx hxp d hd=>?_⟩
 ·by_cases e:x=y
  ·grind
  ·rw[hyo x e];exact h.inv.kind x hx
 ·have hzn:∀ w,par w≠-2->R0 par y z w≠-2:=λw hw=>by
   grind
  by_cases e:x=y
  ·subst e;rw[hyv]at hw
   cases LM hw
   exact⟨h.hz,hzn _ hz2,hzl,hzf⟩
  ·rw[hyo x e]at hw;obtain⟨h1,h2,h3,h4⟩:=h.inv.up x hx w hw;exact⟨h1,hzn _ h2,h3,h4⟩
 ·rcases hne x hxp with rfl|h1
  ·exact .step (h.inv.rc p hp hpp) hyp
  ·exact h.inv.rc x hx h1
 ·by_cases e:x=y
  ·subst e;exact h.av_here hd
  ·rw[hyo x e]at hxp
   by_cases hxd:UpTo par x d
   ·
    by_cases hxy:UpTo par x y
    ·have hyd :=λk=>hd ((cS hxy).trans k);have hav:=h.av_here hyd;have hf:=(h.inv.anc hxy hx hxp).2.2.2
     have hdy:UpTo par y d:=by
      rcases low_or  hxy hxd with h1|h1
      ·exact h1
      ·exact absurd h1 hd
     by_cases hpy:par y = -2
     ·
      have :=by
       refine(OO  λp hp=>?_).1 hdy;rw[hpy]at hp;omega
      subst this;exact absurd (.refl _) hyd
     ·rcases h.inv.strict hdy h.hy hpy with rfl|hlt
      ·exact absurd (.refl _) hyd
      ·exact hf.av hav hlt
    ·exact absurd (MF hxd hxy) hd
   ·exact h.inv.all x hx hxp d hxd
end
section
variable {S:Nat->List Nat} {at_:Nat->Nat} {par:Nat->Int} {r n:Nat}
def QB(S:Nat->List Nat)(r n:Nat)(par:Nat->Int)(b:Nat->Nat):Prop:=∀ x,x<n->par x≠-2->∀ z,AvN S r z (b x) x->¬ UpTo par x z
def e9(S:Nat->List Nat)(r n:Nat)(par:Nat->Int):Prop:=∀ x,x<n->Rc S r x->par x≠-2
def ir(S:Nat->List Nat)(r n:Nat)(par:Nat->Int):Prop:=∀ x,x<n->par x≠-2->∀ d,UpTo par x d↔¬ Av S r d x
theorem tu(h:Inv S r n at_ par):QB S r n par λ_=>0:=λx hx hp z hz k=>by
 cases hz with
 | root hr _=>exact hr (h.root_anc.1 k).symm
theorem js(hS:∀ x,x<n->∀ w∈S x,w<n)(hr:r<n){x:Nat}(h:Rc S r x):x<n:=by
 induction h with
 | root=>exact hr
 | step _ hy ih=>exact hS _ ih _ hy
theorem Better.qb{y z k:Nat}{b:Nat->Nat}(h:Better S r n at_ par y z)(hS:∀ x,x<n->∀ w∈S x,w<n)(hrn:r<n)(full:e9 S r n par)(hb:∀ x,x<n->k<=b x/\b x<=k+1)(q:QB S r n par b) :
  QB S r n (R0 par y z) λx=>if x=y then k+1 else b x:=by
 have here:∀ w,AvN S r w (k+1) y->¬ UpTo _ y w:=λw hw hu=>by
  rcases h.here.1 hu with rfl|hu
  ·exact hw.av.ne rfl
  ·cases hw with
   | root hr _=>exact h.hr rfl
   | @step _ p _ hp hyp hne=>
    have hpn:=js hS hrn hp.av.rc;have hpp:=full p hpn hp.av.rc;exact q p hpn hpp w (hp.mono (hb p hpn).1) ((h.best w).1 hu p hpn hyp hpp)
 intro x hx hxp w hw hu
 dsimp only at hw
 by_cases e:x=y
 ·grind
 ·rw[if_neg e]at hw;unfold R0 at hxp;rw[if_neg e]at hxp;rcases anc_upd_inv hu with h1|⟨h1,h2⟩
  ·exact q x hx hxp w hw h1
  ·rcases hw.via y with h3|h3
   ·exact q x hx hxp y h3 h1
   ·exact here w (h3.mono (hb x hx).2) h2
theorem oZ(h:Inv S r n at_ par){K:Nat}(hK:∀ z,z<n->∀ x,x<n->Av S r z x->AvN S r z K x)(q:QB S r n par λ_=>K):ir S r n par:=λx hx hp d=>by
 constructor
 ·intro hu ha;exact q x hx hp d (hK d (h.anc hu hx hp).1 x hx ha) hu
 ·intro ha;exact bb λhn=>ha (h.all x hx hp d hn)
theorem Better.same{y z:Nat}(h:Better S r n at_ par y z)(hS:∀ x,x<n->∀ w∈S x,w<n)(hrn:r<n)(full:e9 S r n par)(hy2:par y≠-2)(ex:ir S r n par):par y=(z:Int):=by
 obtain⟨hzz,hz2,hzl,hzf⟩:=h.zlt;rcases h.inv.kind y h.hy with h1|h1|⟨q,hq⟩
 ·exact absurd h1 hy2
 ·exact absurd h1 h.hr
 ·obtain⟨q1,q2,q3,q4⟩:=h.inv.up y h.hy q hq
  have key:∀ w,UpTo par z w↔UpTo par q w:=λw=>by
   rw[h.best w]
   constructor
   ·intro hall
    have hwy:¬ Av S r w y:=λha=>by
     cases ha with
     | root _=>exact h.hr rfl
     | @step p _ hp hyp hne=>
      have hpn:=js hS hrn hp.rc;have hpp:=full p hpn hp.rc;exact(ex p hpn hpp w).1 (hall p hpn hyp hpp) hp
    rcases(anc_up hq).1 ((ex y h.hy hy2 w).2 hwy) with rfl|hu
    ·have:=(h.inv.anc ((h.best _).2 hall) h.hz hz2).2.2.1;omega
    ·exact hu
   ·intro hu p hp hyp hpp;have hwy:UpTo par y w:=.up hq hu;refine(ex p hp hpp w).2 λha=>?_
    have hne:y≠w:=by rintro rfl;have:=(h.inv.anc hu q1 q2).2.2.1;omega
    exact(ex y h.hy hy2 w).1 hwy (.step ha hyp hne)
  have:=h.inv.antisymm ((key q).2 (.refl _)) ((key z).1 (.refl _)) h.hz hz2;rw[hq,this]
theorem lO(h:Inv S r n at_ par)(hS:∀ x,x<n->∀ w∈S x,w<n)(hrn:r<n)(full:e9 S r n par)(fix:∀ y,y<n->y≠r->Rc S r y->∃ z:Nat,par y=(z:Int)/\e8 S n par y z):ir S r n par:=λx hx hp d=>by
 constructor
 ·intro hu ha
  induction ha with
  | root hne=>exact hne (h.root_anc.1 hu).symm
  | @step p y hp' hyp hne ih=>
   have hpn:=js hS hrn hp'.rc;have hpp:=full p hpn hp'.rc
   by_cases e:y=r
   ·subst e;exact hne (h.root_anc.1 hu).symm
   ·obtain⟨z,hz,hb⟩:=fix y hx e (.step hp'.rc hyp);rcases(anc_up hz).1 hu with rfl|hu
    ·exact hne rfl
    ·exact ih hpn hpp ((hb d).1 hu p hpn hyp hpp)
 ·intro ha;exact bb λhn=>ha (h.all x hx hp d hn)
end
def B3(t:List Int):Nat->Int:=λx=>t.getD x 0
theorem du{t:List Int}{y:Nat}{v:Int}(hy:y<t.length):B3 (t.set y v)=R0 (B3 t) y v:=by
 funext x
 unfold B3 R0
 by_cases e:x=y
 ·grind
 ·grind
open Classical in
def Pe(S:Nat->List Nat)(n:Nat)(t:List Int)(y:Nat):Nat:=if h:∃ z,z<n/\e8 S n (B3 t) y z then Classical.choose h else 0
def AD(S:Nat->List Nat)(n:Nat)(P:List Nat)(t:List Int):Nat->List Int
 | 0=>t
 | i+1=>(AD S n P t i).set (P.getD i 0) (Pe S n (AD S n P t i) (P.getD i 0):Int)
def UR(S:Nat->List Nat)(n:Nat)(P:List Nat)(t:List Int):Nat->List Int
 | 0=>t
 | j+1=>AD S n P (UR S n P t j) P.length
def Jh(n r:Nat):List Int:=(List.replicate n (-2:Int)).set r (-1)
structure Ordered(S:Nat->List Nat)(r n:Nat)(P:List Nat):Prop where
 hr:r<n
 hS:∀ x,x<n->∀ w∈S x,w<n
 nodup:(r::P).Nodup
 mem:∀ x,x∈r::P↔Rc S r x
 fwd:∀ i,i<P.length->∃ p,p∈r::P.take i/\P.getD i 0∈S p
section
variable {S:Nat->List Nat} {r n:Nat} {P:List Nat}
theorem Ordered.lt(o:Ordered S r n P){x:Nat}(h:x∈r::P):x<n:=js o.hS o.hr ((o.mem x).1 h)
theorem Wm{i:Nat}(hi:i<P.length):P.getD i 0∈P:=by grind
theorem Ordered.at_lt(o:Ordered S r n P){i:Nat}(hi:i<P.length){p:Nat}(hp:p∈r::P.take i):pos (r::P) p<pos (r::P) (P.getD i 0):=by
 have hd:=o.nodup
 have h1:pos (r::P) (P.getD i 0)=i+1:=by
  have:=(PB hd (i:=i+1) (by simpa using hi)).2;rw[Af _ _ _ hi]
  simpa using this
 rw[h1];obtain⟨j,hj,rfl⟩:=Qw hp
 have hj':j<i+1:=by simp at hj;omega
 have hjl:j<(r::P).length:=by simp;omega
 have e:(r::P.take i)[j]=(r::P)[j]:=by
  grind
 rw[e,(PB hd hjl).2];exact hj'
theorem Aal(o:Ordered S r n P):Inv S r n (pos (r::P)) (B3 (Jh n r))/\(Jh n r).length=n/\B3 (Jh n r) r≠-2:=by
 have hlen:(Jh n r).length=n:=by simp[Jh]
 have hr:=o.hr
 have at_:∀ x,x<n->B3 (Jh n r) x=if x=r then -1 else -2:=λx hx=>by
  unfold B3 Jh
  by_cases e:x=r
  ·grind
  ·grind
 have hno:∀ x,x<n->∀ p:Nat,B3 (Jh n r) x≠p:=λx hx p hp=>by grind
 refine⟨⟨by grind,λx hx=>?_,λx hx z hz=>absurd hz (hno x hx z),λx hx hp=>?_,λx hx hp d hd=>?_⟩,hlen,by grind⟩
 ·grind
 ·by_cases e:x=r
  ·subst e;exact .root
  ·grind
 ·by_cases e:x=r
  ·subst e;exact .root (λe=>hd (by rw[e];exact .refl _))
  ·grind
structure Ready(S:Nat->List Nat)(r n:Nat)(P:List Nat)(t:List Int)(i:Nat):Prop where
 inv:Inv S r n (pos (r::P)) (B3 t)
 len:t.length=n
 done:∀ x∈r::P.take i,B3 t x≠-2
theorem Inv.meets{at_:Nat->Nat}{par:Nat->Int}(h:Inv S r n at_ par)(hinj:∀ x y,x<n->y<n->par x≠-2->par y≠-2->at_ x=at_ y->x=y)(hr:at_ r=0):∀ m a b,at_ a+at_ b<=m->a<n->b<n->par a≠-2->par b≠-2->∃ c,MeetAt par a b c/\c<n/\par c≠-2:=by
 intro m
 induction m with
 | zero=>
  intro a b hm ha hb hpa hpb;have:a=b:=hinj a b ha hb hpa hpb (by omega);subst this;exact⟨a,XH,ha,hpa⟩
 | succ m ih=>
  have go:∀ a b,at_ a+at_ b<=m+1->a<n->b<n->par a≠-2->par b≠-2->at_ b<=at_ a->∃ c,MeetAt par a b c/\c<n/\par c≠-2:=λa b hm ha hb hpa hpb hl=>by
   by_cases e:a=b
   ·subst e;exact⟨a,XH,ha,hpa⟩
   ·rcases h.kind a ha with h1|h1|⟨p,hp⟩
    ·exact absurd h1 hpa
    ·subst h1;exact absurd (hinj a b ha hb hpa hpb (by omega)) e
    ·obtain⟨p1,p2,p3,p4⟩:=h.up a ha p hp;obtain⟨c,hc,hc2⟩:=ih p b (by omega) p1 hb p2 hpb;exact⟨c,h.meet_left hinj ha hpa hb hpb e hl hp hc,hc2⟩
  intro a b hm ha hb hpa hpb;rcases Nat.le_total (at_ b) (at_ a) with hl|hl
  ·exact go a b hm ha hb hpa hpb hl
  ·obtain⟨c,hc,hc2⟩:=go b a (by omega) hb ha hpb hpa hl;exact⟨c,lh hc,hc2⟩
theorem Ready.inj(o:Ordered S r n P){t:List Int}{i:Nat}(h:Ready S r n P t i):∀ x y,x<n->y<n->B3 t x≠-2->B3 t y≠-2->pos (r::P) x=pos (r::P) y->x=y:=λx y hx hy hpx hpy he=>by
 have hm :=λx hx hp=>(o.mem x).2 (h.inv.rc x hx hp)
 have back:∀ x∈r::P,(r::P).getD (pos _ x) 0=x:=λx hx=>by
  obtain⟨j,hj,rfl⟩:=Qw hx;rw[(PB o.nodup hj).2,Af _ _ _ hj]
 rw[<- back x (hm x hx hpx),<- back y (hm y hy hpy),he]
theorem dy:pos (r::P) r=0:=by rw[SB,if_pos rfl]
theorem Ready.meetAll(o:Ordered S r n P){t:List Int}{i:Nat}(h:Ready S r n P t i):∀ l:List Nat,(∀ p∈l,p<n/\B3 t p≠-2)->l≠[]->∃ z,z<n/\B3 t z≠-2/\∀ w,UpTo (B3 t) z w↔∀ p∈l,UpTo (B3 t) p w:=by
 intro l
 induction l with
 | nil=>grind
 | cons p l ih=>
  intro hl _;obtain⟨hp1,hp2⟩:=hl p (zzL51 ..)
  by_cases hl0:l=[]
  ·grind
  ·obtain⟨z,hz1,hz2,hz3⟩:=ih (λq hq=>hl q (Nf _ hq)) hl0;obtain⟨c,hc1,hc2,hc3⟩:=h.inv.meets (h.inj o) dy _ p z (zzL7 _) hp1 hz1 hp2 hz2;exact⟨c,hc2,hc3,λw=>by rw[hc1 w,hz3 w];simp⟩
theorem Ready.best(o:Ordered S r n P){t:List Int}{i:Nat}(h:Ready S r n P t i)(hi:i<P.length):Better S r n (pos (r::P)) (B3 t) (P.getD i 0) (Pe S n t (P.getD i 0)):=by
 have hy:=Wm hi;have hyr:P.getD i 0≠r:=λe=>(zzL81.1 o.nodup).1 (e▸hy);have hyn:=o.lt (Nf _ hy);obtain⟨p,hp,hyp⟩:=o.fwd i hi;have hp2:=h.done p hp
 have hpP:p∈r::P:=by
  grind
 have hpn:=o.lt hpP
 have hex:∃ z,z<n/\e8 S n (B3 t) (P.getD i 0) z:=by
  classical
  obtain⟨z,hz1,hz2,hz3⟩:=h.meetAll o ((List.range n).filter λp=>decide (P.getD i 0∈S p/\B3 t p≠-2)) (λp hp=>by
   grind) (λe=>by
   simp_all)
  refine⟨z,hz1,λw=>?_⟩
  constructor
  ·grind
  ·grind
 have hb:Pe S n t (P.getD i 0)<n/\e8 S n (B3 t) (P.getD i 0) (Pe S n t (P.getD i 0)):=by
  unfold Pe;rw[dif_pos hex];exact Classical.choose_spec hex
 exact⟨h.inv,hyn,hyr,hb.1,hb.2,p,hpn,hyp,hp2,o.at_lt hi hp⟩
theorem Ready.best_eq(o:Ordered S r n P){t:List Int}{i:Nat}(h:Ready S r n P t i)(hi:i<P.length){z:Nat}(hz:z<n)(hz2:B3 t z≠-2)(hb:e8 S n (B3 t) (P.getD i 0) z):z=Pe S n t (P.getD i 0):=by
 have b:=h.best o hi;exact(h.inv.antisymm ((hb _).2 ((b.best _).1 (.refl _))) ((b.best _).2 ((hb _).1 (.refl _))) hz hz2).symm
theorem Ready.next(o:Ordered S r n P){t:List Int}{i:Nat}(h:Ready S r n P t i)(hi:i<P.length):Ready S r n P (t.set (P.getD i 0) (Pe S n t (P.getD i 0):Int)) (i+1):=by
 have b:=h.best o hi;have e:=du   (v:=Pe S n t (P.getD i 0)) (by rw[h.len];exact b.hy);refine⟨by rw[e];exact b.inv',by rw[G9];exact h.len,λx hx=>?_⟩;rw[e];unfold R0
 split
 ·omega
 ·refine h.done x ?_;rcases zzL28.1 hx with rfl|hx
  ·grind
  ·rw[ba hi]at hx;rcases zzL18.1 hx with hx|hx
   ·grind
   ·grind
theorem Ready.more(o:Ordered S r n P){t:List Int}(h:Ready S r n P t P.length)(i:Nat):Ready S r n P t i:=
 ⟨h.inv,h.len,λx hx=>h.done x (by
  grind)⟩
theorem Ready.full(o:Ordered S r n P){t:List Int}(h:Ready S r n P t P.length):e9 S r n (B3 t):=λx hx hr=>h.done x (by rw[CI];exact(o.mem x).2 hr)
theorem Ready.round(o:Ordered S r n P){t:List Int}(h:Ready S r n P t 0):∀ i,i<=P.length->Ready S r n P (AD S n P t i) i:=by
 intro i
 induction i with
 | zero=>intro _;exact h
 | succ i ih=>intro hi;exact(ih (by omega)).next o (by omega)
theorem wu(o:Ordered S r n P):Ready S r n P (Jh n r) 0:=by
 obtain⟨h1,h2,h3⟩:=Aal o;exact⟨h1,h2,λx hx=>by grind⟩
theorem Ready.rounds(o:Ordered S r n P):∀ j,Ready S r n P (UR S n P (Jh n r) j) 0:=by
 intro j
 induction j with
 | zero=>exact wu o
 | succ j ih=>exact((ih.round o) _ (zzL7 _)).more o 0
theorem Ready.rounds'(o:Ordered S r n P)(j:Nat):Ready S r n P (UR S n P (Jh n r) (j+1)) P.length:=(Ready.rounds o j).round o _ (zzL7 _)
theorem pg(o:Ordered S r n P){t:List Int}{k:Nat}(h:Ready S r n P t P.length)(q:QB S r n (B3 t) λ_=>k):QB S r n (B3 (AD S n P t P.length)) λ_=>k+1:=by
 have key:∀ i,i<=P.length->QB S r n (B3 (AD S n P t i)) (λx=>if x∈P.take i then k+1 else k)/\e9 S r n (B3 (AD S n P t i)):=by
  intro i
  induction i with
  | zero=>intro _;exact⟨by simpa [AD] using q,h.full o⟩
  | succ i ih=>
   intro hi;obtain⟨q1,f1⟩:=ih (by omega);have rd:=(h.more o 0).round o i (by omega);have b:=rd.best o (by omega);have e:=du   (v:=Pe S n (AD S n P t i) (P.getD i 0)) (by rw[rd.len];exact b.hy)
   constructor
   ·show QB S r n (B3 ((AD S n P t i).set _ _)) _
    rw[e];have:=b.qb (k:=k) o.hS o.hr f1 (λx _=>by split<;>omega) q1;intro x hx hp z hz;refine this x hx hp z ?_;rw[ba (by omega)]at hz
    by_cases e1:x=P.getD i 0
    ·grind
    ·grind
   ·show e9 S r n (B3 ((AD S n P t i).set _ _))
    rw[e];intro x hx hr;unfold R0
    split
    ·omega
    ·exact f1 x hx hr
 have q1:=(key _ (zzL7 _)).1;rw[CI]at q1;have rd:=(h.more o 0).round o _ (zzL7 _);intro x hx hp z hz;refine q1 x hx hp z ?_
 dsimp only at hz ⊢
 by_cases e:x∈P
 ·rw[if_pos e];exact hz
 ·rw[if_neg e]
  have hxr:x=r:=by
   rcases zzL28.1 ((o.mem x).2 (rd.inv.rc x hx hp)) with h1|h1
   ·exact h1
   ·exact absurd h1 e
  subst hxr;exact .root hz.av.ne k
def AN(S:Nat->List Nat)(n:Nat)(P:List Nat)(t:List Int):Prop:=∀ i,i<P.length->B3 t (P.getD i 0)=(Pe S n t (P.getD i 0):Int)
theorem CE{t:List Int}(o:Ordered S r n P)(hl:t.length=n)(h:AN S n P t):∀ i,i<=P.length->AD S n P t i=t:=by
 intro i
 induction i with
 | zero=>intro _;rfl
 | succ i ih=>
  intro hi;unfold AD;rw[ih (by omega),<- h i (by omega)]
  have hlt:P.getD i 0<t.length:=by rw[hl];exact o.lt (Nf _ (Wm (by omega)))
  unfold B3;rw[Af _ _ _ hlt];exact List.set_getElem_self hlt
theorem u9(o:Ordered S r n P):∃ J,(∀ j,j<J->¬ AN S n P (UR S n P (Jh n r) j))/\AN S n P (UR S n P (Jh n r) J):=by
 obtain⟨K,hK⟩:=kz   n
 have hq:∀ k,QB S r n (B3 (UR S n P (Jh n r) (k+1))) λ_=>k:=by
  intro k
  induction k with
  | zero=>exact tu (Ready.rounds' o 0).inv
  | succ k ih=>exact pg o (Ready.rounds' o k) ih
 have hst :=λi hi=>by
  have rd:=Ready.rounds' o K;exact((rd.more o i).best o hi).same o.hS o.hr (rd.full o) (rd.done _ (Nf _ (by grind))) (oZ rd.inv hK (hq K))
 have key:∀ m,(∃ J,J<=m/\AN S n P (UR S n P (Jh n r) J))->∃ J,(∀ j,j<J->¬ AN S n P (UR S n P (Jh n r) j))/\AN S n P (UR S n P (Jh n r) J):=by
  intro m
  induction m with
  | zero=>grind
  | succ m ih=>
   rintro⟨J,hJ,h⟩
   by_cases hm:∃ J,J<=m/\AN S n P (UR S n P (Jh n r) J)
   ·exact ih hm
   ·grind
 exact key _ ⟨K+1,zzL7 _,hst⟩
structure DomTree(S:Nat->List Nat)(r n:Nat)(P:List Nat)(t:List Int):Prop where
 inv:Inv S r n (pos (r::P)) (B3 t)
 len:t.length=n
 full:e9 S r n (B3 t)
 exact_:ir S r n (B3 t)
theorem NH(o:Ordered S r n P){j:Nat}(h:AN S n P (UR S n P (Jh n r) j)):DomTree S r n P (UR S n P (Jh n r) j):=by
 have rd:=Ready.rounds o j
 have hall :=by
  have:=rd.round o _ (zzL7 _);rwa[CE o rd.len h _ (zzL7 _)]at this
 refine⟨rd.inv,rd.len,hall.full o,lO rd.inv o.hS o.hr (hall.full o) λy hy hne hr=>?_⟩
 have hm:y∈P:=by
  rcases zzL28.1 ((o.mem y).2 hr) with h1|h1
  ·exact absurd h1 hne
  ·exact h1
 obtain⟨i,hi,rfl⟩:=Qw hm;have b:=(hall.more o i).best o hi;rw[Af _ _ _ hi]at b;have hs:=h i hi;rw[Af _ _ _ hi]at hs;exact⟨_,hs,b.best⟩
end
section
variable {S:Nat->List Nat} {s s':Nat->Bool} {l o:List Nat}
theorem VL.before(h:VL S s l s' o):∀ A z B,o=A++z::B->z∈l\/∃ p∈B,z∈S p:=by
 induction h with
 | nil s=>intro A z B e;simp at e
 | skip h _ ih=>
  grind
 | @step s s1 s2 y l o1 o2 h a b iha ihb=>
  intro A z B e;rcases List.append_eq_append_iff.1 e with⟨C,hC1,hC2⟩|⟨C,hC1,hC2⟩
  ·
   cases C with
   | nil=>
    grind
   | cons c C=>
    grind
  ·cases C with
   | nil=>
    grind
   | cons c C=>
    grind
theorem Ord.ordered{n r:Nat}{L:List Nat}(hr:r<n)(hS:∀ x,x<n->∀ w∈S x,w<n)(h:Ord S r L):∃ P,L=r::P/\Ordered S r n P:=by
 have h1:=h.nodup;have h2:=h.mem;obtain⟨s',o,hv,rfl⟩:=h;refine⟨o.reverse,rfl,hr,hS,h1,λx=>by rw[h2 x,rc_iff],λi hi=>?_⟩
 have e:o.reverse=o.reverse.take i++o.reverse[i]::o.reverse.drop (i+1):=by rw[<- W8 hi,List.take_append_drop]
 have e2:o=(o.reverse.drop (i+1)).reverse++o.reverse[i]::(o.reverse.take i).reverse:=by
  have:=Ci List.reverse e
  simpa using this
 rw[Af _ _ _ hi];rcases hv.before _ _ _ e2 with h3|⟨p,hp,hz⟩
 ·exact⟨r,zzL51 ..,h3⟩
 ·grind
end
def j9(S:Nat->List Nat)(w:Int):Nat->List Nat:=λx=>(S x).filter λy=>decide ((y:Int)≠w)
theorem qN(S:Nat->List Nat):j9 S (-1)=S:=by
 funext x
 exact List.filter_eq_self.2 λy _=>Bv (by omega)
theorem uR(S:Nat->List Nat)(z:Nat):j9 S (z:Int)=wo S z:=by
 funext x
 unfold j9 wo
 congr 1
 funext y
 exact zzL76.2 ⟨λh e=>h (by rw[e]),λh e=>h (LM e)⟩
def M5(L:List (List Int))(r:Nat)(w:Int):List Bool:=if(r:Int)=w then List.replicate L.length false else IF (j9 (sN L) w) L.length ((List.replicate L.length false).set r true) L.length
theorem SD(L:List (List Int))(r:Nat)(w:Int):(M5 L r w).length=L.length:=by
 unfold M5
 split
 ·simp
 ·rw[Yj];simp
theorem dT{L:List (List Int)}(hm:Oa L=true){r:Nat}(hr:r<L.length)(w:Int) :
  Dd (K4 L) (r:Int) w=some (M5 L r w):=by
 obtain⟨h1,h2,h3⟩:=mayS_iff.1 hm
 have hroom:(1000:Nat)<=room:=by decide
 have hS:=Zb hm;have hSw:∀ z,z<L.length->∀ y∈j9 (sN L) w z,y<L.length:=λz hz y hy=>hS z hz y (zzL90.1 hy).1;have hgs:(K4 L).Succ=L:=rfl
 have hlenS:∀ a,(sN L a).length=(L.getD a []).length:=λa=>by simp[sN]
 let fl:List Nat->List Nat:=λl=>l.filter λy=>decide ((y:Int)≠w)
 have hin:∀(o:List Bool) (i:Nat),o.length=L.length->i<L.length->Ab (A9 (K4 L) w (i:Int)) ((0:Int),o)=some (if o.getD i false=true then mk o (j9 (sN L) w i) else o):=λo i ho hi=>by
  have hb:=DJ (h3 i hi)
  by_cases hoi:o.getD i false=true
  ·rw[if_pos hoi];have hmi:∀ k,(mk o (fl ((sN L i).take k))).getD i false=true:=λk=>(mk_at (n:=L.length) _ _ ho (λy hy=>hS i hi y (List.mem_of_mem_take (zzL90.1 hy).1)) i).2 (.inl hoi)
   have hml:∀ k,(mk o (fl ((sN L i).take k))).length=L.length:=λk=>by rw[gV,ho]
   refine F1 (A9 (K4 L) w (i:Int)) (λk=>(((k:Nat):Int),mk o (fl ((sN L i).take k)))) _ (L.getD i []).length (λk hk=>?_) ?_
   ·show A9 (K4 L) w (i:Int) (_,_)=_
    unfold A9;obtain⟨a0,a1⟩:=BG (h3 i hi) hk;simp only[hgs,Ap,hmi];rw[Aa (Eo (by rw[hml];exact hi)),M7 (Eo hi),Ae,Cr hk,Ae,Aa (Eo hi),Aa (Eo hk)]
    have hk':k<(sN L i).length:=by rw[hlenS];exact hk
    have hsk:(sN L i)[k]=((L.getD i []).getD k 0).toNat:=by rw[Af _ _ _ hk];simp[sN]
    have hski:(((sN L i)[k]:Nat):Int)=(L.getD i []).getD k 0:=by rw[hsk];exact CN a0
    have e:mk o (fl ((sN L i).take (k+1)))=if(L.getD i []).getD k 0=w then mk o (fl ((sN L i).take k)) else(mk o (fl ((sN L i).take k))).set ((L.getD i []).getD k 0).toNat true:=by
     rw[ba hk']
     show mk o (List.filter _ (_++[_]))=_
     rw[LH]
     by_cases hw:(L.getD i []).getD k 0=w
     ·rw[if_pos hw]
      have:List.filter (λy:Nat=>decide ((y:Int)≠w)) [(sN L i)[k]]=[]:=by rw[List.filter_cons,hski,hw];simp
      rw[this,List.append_nil]
     ·rw[if_neg hw]
      have:List.filter (λy:Nat=>decide ((y:Int)≠w)) [(sN L i)[k]]=[(sN L i)[k]]:=by rw[List.filter_cons,hski,if_pos (Bv hw)];rfl
      rw[this];unfold mk;rw[List.foldl_append,hsk]
      rfl
    by_cases hw:(L.getD i []).getD k 0=w
    ·have hne:((L.getD i []).getD k 0 !=w)=false:=by rw[hw];simp
     rw[hne,An,Ai,w1 (by omega),e,if_pos hw]
    ·have hne:((L.getD i []).getD k 0 !=w)=true:=by rw[zzL75];exact hw
     rw[hne,Ae,Aa (Eo hi),Aa (Eo hk),Aa ⟨a0,by rw[hml];exact a1⟩,w1 (by omega),e,if_neg hw]
     rfl
   ·show A9 (K4 L) w (i:Int) (_,_)=_
    unfold A9;simp only[hgs,Ap,hmi];rw[Aa (Eo (by rw[hml];exact hi)),M7 (Eo hi),Ae,Ei,An]
    have:(sN L i).take (L.getD i []).length=sN L i:=by rw[<- hlenS];exact CI ..
    rw[this]
    rfl
  ·have hof:o.getD i false=false:=by simpa using hoi
   rw[if_neg hoi]
   apply Ah
   unfold A9;simp only[hgs,Ap,hof];rw[Aa (Eo (by rw[ho];exact hi)),M7 (Eo hi),An,An]
 have hsw:∀ o:List Bool,o.length=L.length->Ab (Ba (K4 L) w) ((0:Int),o)=some (sw (j9 (sN L) w) o L.length):=λo ho=>by
  refine F1 (Ba (K4 L) w) (λi=>(((i:Nat):Int),sw (j9 (sN L) w) o i)) _ L.length (λi hi=>?_) ?_
  ·show Ba (K4 L) w (_,_)=_
   unfold Ba
   have hl:(sw (j9 (sN L) w) o i).length=L.length:=by rw[sw_len,ho]
   simp only[hl,Cr hi,Ae];rw[hin _ i hl hi,w1 (by omega)]
   rfl
  ·show Ba (K4 L) w (_,_)=_
   unfold Ba
   have hl:(sw (j9 (sN L) w) o L.length).length=L.length:=by rw[sw_len,ho]
   simp only[hl,Ei,An]
 unfold Dd;simp only[hgs,Ap];rw[Aa ⟨by omega,Int.le_refl _,by omega⟩];unfold M5
 by_cases hrw:(r:Int)=w
 ·rw[if_pos hrw]
  have:((r:Int)==w)=true:=by simpa using hrw
  rw[this,Ae]
 ·rw[if_neg hrw]
  have hne:((r:Int)==w)=false:=by rw[zzL17];exact hrw
  rw[hne,An,Aa (Eo (by simpa using hr))]
  have hl0:((List.replicate L.length false).set r true).length=L.length:=by simp
  have:Ab (Bb (K4 L) w) ((0:Int),(List.replicate L.length false).set r true)=some (IF (j9 (sN L) w) L.length ((List.replicate L.length false).set r true) L.length):=by
   refine F1 (Bb (K4 L) w) (λj=>(((j:Nat):Int),IF (j9 (sN L) w) L.length ((List.replicate L.length false).set r true) j)) _ L.length (λj hj=>?_) ?_
   ·show Bb (K4 L) w (_,_)=_
    unfold Bb
    have hl:(IF (j9 (sN L) w) L.length ((List.replicate L.length false).set r true) j).length=L.length:=by rw[Yj,hl0]
    simp only[hl,Cr hj,Ae];rw[hsw _ hl,w1 (by omega)]
    rfl
   ·show Bb (K4 L) w (_,_)=_
    unfold Bb
    have hl:(IF (j9 (sN L) w) L.length ((List.replicate L.length false).set r true) L.length).length=L.length:=by rw[Yj,hl0]
    simp only[hl,Ei,An]
  rw[this]
  rfl
theorem pj{L:List (List Int)}(hm:Oa L=true){r:Nat}(hr:r<L.length){b:Nat}:(M5 L r (-1)).getD b false=true↔Rc (sN L) r b:=by
 unfold M5;rw[if_neg (by omega),qN,IG (Zb hm) hr b,rc_iff]
theorem gt{L:List (List Int)}(hm:Oa L=true){r:Nat}(hr:r<L.length){a b:Nat}(hb:b<L.length):(M5 L r (a:Int)).getD b false=true↔Av (sN L) r a b:=by
 unfold M5;rw[av_iff]
 by_cases h:r=a
 ·grind
 ·rw[if_neg (by omega),uR,IG (S:=wo _ a) (λz hz y hy=>Zb hm z hz y (zzL90.1 hy).1) hr b];simp[h]
def Pt(L:List (List Int))(r a b:Nat):Bool:=(M5 L r (-1)).getD b false&&!(M5 L r (a:Int)).getD b false
theorem dt{L:List (List Int)}(hm:Oa L=true){r a b:Nat}(hr:r<L.length)(hb:b<L.length):Pt L r a b=true↔Rc (sN L) r b/\¬ Av (sN L) r a b:=by
 unfold Pt;rw[Be,Su,<- Bool.not_eq_true,pj hm hr,gt hm hr hb]
def RG(L:List (List Int))(r a b:Nat):Bool:=(List.range L.length).all λc=>decide (c=b) || !Pt L r c b || Pt L r c a
def Uj(L:List (List Int))(r b:Nat):Nat->Int
 | 0=>-2
 | a+1=>if a≠b/\Pt L r a b=true/\RG L r a b=true then(a:Int) else Uj L r b a
def Yp(L:List (List Int))(r b:Nat):Int:=if b=r then -1 else Uj L r b L.length
def CF(L:List (List Int))(r:Nat):List Int:=(List.range L.length).map (Yp L r)
theorem YI(L:List (List Int))(r:Nat):(CF L r).length=L.length:=by simp[CF]
theorem qI{L:List (List Int)}{r b:Nat}(hb:b<L.length):(CF L r).getD b 0=Yp L r b:=by unfold CF;rw[R7 hb]
theorem pick_cases(L:List (List Int))(r b:Nat):∀ m,(Uj L r b m = -2/\∀ a,a<m->¬ (a≠b/\Pt L r a b=true/\RG L r a b=true))\/∃ a,a<m/\Uj L r b m=(a:Int)/\a≠b/\Pt L r a b=true/\RG L r a b=true:=by
 intro m
 induction m with
 | zero=>exact .inl ⟨rfl,λa ha=>absurd ha (Us a)⟩
 | succ m ih=>
  unfold Uj
  by_cases h:m≠b/\Pt L r m b=true/\RG L r m b=true
  ·grind
  ·grind
theorem DomTree.eq{L:List (List Int)}(hm:Oa L=true){r:Nat}(hr:r<L.length){P t:List _}(o:Ordered (sN L) r L.length P)(h:DomTree (sN L) r L.length P t):t=CF L r:=by
 refine EZ (by rw[h.len,YI]) λb h1 h2=>?_
 have hb:b<L.length:=by rw[<- h.len];exact h1
 rw[<- Af _ _ 0 h1,<- Af _ _ 0 h2,qI hb]
 show B3 t b=_
 have hov:∀ a b,b<L.length->B3 t b≠-2->(Pt L r a b=true↔UpTo _ b a):=λa b hb hp=>by
  rw[dt hm hr hb,h.exact_ b hb hp];exact⟨λk=>k.2,λk=>⟨h.inv.rc b hb hp,k⟩⟩
 unfold Yp
 by_cases hbr:b=r
 ·subst hbr;rw[if_pos rfl];exact h.inv.top
 ·rw[if_neg hbr];rcases h.inv.kind b hb with hk|hk|⟨z,hz⟩
  ·
   have hn :=λk=>h.full b hb k hk;rcases pick_cases L r b _ with⟨h3,_⟩|⟨a,_,_,_,h6,_⟩
   ·rw[hk,h3]
   ·exact absurd ((dt hm hr hb).1 h6).1 hn
  ·exact absurd hk hbr
  ·obtain⟨z1,z2,z3,z4⟩:=h.inv.up b hb z hz
   have hp:B3 t b≠-2:=by omega
   have hzo :=(hov z b hb hp).2 (.up hz (.refl _))
   have hzb:z≠b:=by rintro rfl;omega
   have hnear:RG L r z b=true:=all_range.2 λc hc=>by
    by_cases e:c=b
    ·simp[e]
    ·cases ho:Pt L r c b with
     | false=>simp
     | true=>
      have:=(hov c b hb hp).1 ho;rcases(anc_up hz).1 this with h3|h3
      ·exact absurd h3 e
      ·grind
   rcases pick_cases L r b L.length with⟨_,h3⟩|⟨a,h3,h4,h5,h6,h7⟩
   ·grind
   ·rw[h4,hz];have haU:=(hov a b hb hp).1 h6
    have ha1:UpTo (B3 t) z a:=by
     rcases(anc_up hz).1 haU with h8|h8
     ·exact absurd h8 h5
     ·exact h8
    have hap:=(h.inv.anc ha1 z1 z2).2.1
    have hza :=by
     have:=all_range.1 h7 z z1;simp only[hzo,hzb, E7]at this;exact(hov z a h3 hap).1 this
    rw[h.inv.antisymm ha1 hza z1 z2]
theorem jd{g:TGraph}(h:DX g=true):Oa g.Succ=true/\g=K4 g.Succ:=by
 unfold DX at h;rw[Be]at h;refine⟨h.1,?_⟩;obtain⟨s,p⟩:=g;have:=EX h.2;simp only at this;unfold K4;rw[this]
theorem HB{a b:Nat}:(((a:Nat):Int)==(b:Int))=decide (a=b):=by
 grind
theorem jH{a b:Nat}:(((a:Nat):Int)!=(b:Int)) = !decide (a=b):=by
 unfold bne;rw[HB]
section
variable {L:List (List Int)} (hm:Oa L=true) {r:Nat} (hr:r<L.length)
def SM(L:List (List Int))(r a k:Nat):List Bool:=(List.range L.length).map λb=>if b<k then Pt L r a b else false
def SL(L:List (List Int))(r a:Nat):List Bool:=(List.range L.length).map λb=>Pt L r a b
def lq(L:List (List Int))(r:Nat):List (List Bool):=(List.range L.length).map λa=>SL L r a
theorem jo:(lq L r).length=L.length:=by simp[lq]
theorem pe{a:Nat}(ha:a<L.length):(lq L r).getD a []=SL L r a:=by unfold lq;rw[R7 ha]
theorem eH{a:Nat}:(SL L r a).length=L.length:=by simp[SL]
theorem bS{a b:Nat}(hb:b<L.length):(SL L r a).getD b false=Pt L r a b:=by unfold SL;rw[R7 hb]
include hm hr
omit hr in
theorem uL(a:Nat)(l5:List (List Bool))(hl5:l5.length=L.length)(ha:a<L.length):Ab (Dg (K4 L) (M5 L r (-1)) (a:Int) l5 (M5 L r (a:Int))) ((0:Int),List.replicate L.length false)=some (SL L r a):=by
 obtain⟨h1,h2,h3⟩:=mayS_iff.1 hm;have hgs:(K4 L).Succ=L:=rfl
 have e0:List.replicate L.length false=SM L r a 0:=by
  refine EZ (by simp[SM]) λi h1 h2=>by simp[SM]
 have e1:SL L r a=SM L r a L.length:=by
  unfold SL SM
  exact Hq λi hi=>by rw[if_pos hi]
 have hlen:∀ k,(SM L r a k).length=L.length:=λk=>by simp[SM]
 rw[e0];refine F1 (Dg (K4 L) (M5 L r (-1)) (a:Int) l5 (M5 L r (a:Int))) (λk=>(((k:Nat):Int),SM L r a k)) _ L.length (λk hk=>?_) ?_
 ·show Dg (K4 L) _ _ _ _ (_,_)=_
  unfold Dg;simp only[hgs,Ap,Cr hk,Ae];rw[Aa (Eo (by rw[hl5];exact ha)),Aa (Eo (by rw[SD];exact hk)),Aa (λ_=>Eo (by rw[SD];exact hk)),Aa (Eo (by rw[hlen];exact hk)),w1 (by omega)]
  have:(SM L r a k).set k (bif (M5 L r (-1)).getD k false then !(M5 L r (a:Int)).getD k false else false)=SM L r a (k+1):=by
   unfold SM;rw[CC];refine Hq λi hi=>?_
   by_cases e:i=k
   ·subst e;rw[if_pos rfl,if_pos (by omega)];unfold Pt
    cases(M5 L r (-1)).getD i false<;>rfl
   ·rw[if_neg e]
    by_cases e2:i<k
    ·rw[if_pos e2,if_pos (by omega)]
    ·rw[if_neg e2,if_neg (by omega)]
  rw[this]
 ·show Dg (K4 L) _ _ _ _ (_,_)=_
  unfold Dg;simp only[hgs,Ei,An];rw[e1]
theorem uM:Ab (Ir (K4 L) (r:Int) (M5 L r (-1))) ((0:Int),List.replicate L.length ([]:List Bool))=some (lq L r):=by
 obtain⟨h1,h2,h3⟩:=mayS_iff.1 hm;have hgs:(K4 L).Succ=L:=rfl
 have hroom:1000<=room:=by decide
 let M:Nat->List _:=λk=>(List.range L.length).map λa=>if a<k then SL L r a else[]
 have hM:∀ k,(M k).length=L.length:=λk=>by simp[M]
 have e0:List.replicate L.length []=M 0:=by
  refine EZ (by simp[M]) λi h1 h2=>by simp[M]
 have e1:lq L r=M _:=Hq λi hi=>by rw[if_pos hi]
 rw[e0];refine F1 _ (λk=>(((k:Nat):Int),M k)) _ L.length (λk hk=>?_) ?_
 ·unfold Ir;simp only[hgs,Ap,Cr hk,Ae];rw[Aa ⟨by omega,Int.le_refl _,by omega⟩,Aa (Eo (by rw[hM];exact hk)),dT hm hr,Ai,uL hm k (M k) (hM k) hk,Ai,w1 (by omega)]
  have:(M k).set k (SL L r k)=M (k+1):=by
   rw[CC];refine Hq λi hi=>?_
   by_cases e:i=k
   ·grind
   ·grind
  rw[this]
 ·unfold Ir;simp only[hgs,Ei,An];rw[e1]
omit hr in
theorem uN(a b:Nat)(ha:a<L.length)(hb:b<L.length):Ab (Dh (K4 L) (lq L r) (b:Int) (a:Int)) (true,(0:Int))=some (RG L r a b):=by
 obtain⟨h1,h2,h3⟩:=mayS_iff.1 hm;have hgs:(K4 L).Succ=L:=rfl
 let N:Nat->Bool:=λk=>(List.range k).all λc=>decide (c=b) || !Pt L r c b || Pt L r c a
 refine F1 (Dh (K4 L) (lq L r) (b:Int) (a:Int)) (λk=>(N k,((k:Nat):Int))) _ L.length (λk hk=>?_) ?_
 ·show Dh (K4 L) _ _ _ (_,_)=_
  unfold Dh;simp only[hgs,Ap,Cr hk,Ae,pe hk,jo,eH,bS hb,bS ha];rw[Aa (λ_=>Eo hk),Aa (λ_=>Eo hb),Aa (λ_=>Eo hk),Aa (λ_=>Eo ha),w1 (by omega),HB]
  have:(bif N k then(bif (bif decide (k=b) then true else !Pt L r k b) then true else Pt L r k a) else false)=N (k+1):=by
   show _=(List.range (k+1)).all _
   rw[np]
   show _=(N k&&_)
   cases N k<;>cases decide (k=b)<;>cases Pt L r k b<;>rfl
  rw[this]
 ·show Dh (K4 L) _ _ _ (_,_)=_
  unfold Dh;simp only[hgs,Ei,An]
  rfl
def Rg(L:List (List Int))(r b:Nat)(x:Int):List Int:=(List.range L.length).map λj=>if j<b then Yp L r j else if j=b then x else 0
omit hm hr in
theorem KW{b:Nat}{x:Int}:(Rg L r b x).length=L.length:=by simp[Rg]
omit hm hr in
theorem KY{b:Nat}{x y:Int}:(Rg L r b x).set b y=Rg L r b y:=by
 unfold Rg;rw[CC];refine Hq λi hi=>?_
 by_cases e:i=b
 ·subst e;rw[if_pos rfl,if_neg (by omega),if_pos rfl]
 ·rw[if_neg e,if_neg e,if_neg e]
omit hm hr in
theorem SX{b:Nat}:Rg L r b (Yp L r b)=Rg L r (b+1) 0:=by
 unfold Rg;refine Hq λi hi=>?_
 by_cases e:i<b
 ·rw[if_pos e,if_pos (by omega)]
 ·rw[if_neg e]
  by_cases e2:i=b
  ·subst e2;rw[if_pos rfl,if_pos (by omega)]
  ·rw[if_neg e2,if_neg (by omega)];split<;>rfl
omit hr in
theorem uO(b:Nat)(hb:b<L.length)(hbr:b≠r):Ab (Cf (K4 L) (r:Int) (lq L r) (b:Int)) ((0:Int),Rg L r b (-2))=some (Rg L r b (Uj L r b L.length)):=by
 obtain⟨h1,h2,h3⟩:=mayS_iff.1 hm;have hgs:(K4 L).Succ=L:=rfl;refine F1 (Cf (K4 L) (r:Int) (lq L r) (b:Int)) (λk=>(((k:Nat):Int),Rg L r b (Uj L r b k))) _ L.length (λk hk=>?_) ?_
 ·show Cf (K4 L) _ _ _ (_,_)=_
  unfold Cf
  have hne:decide (b=r)=false:=by simp[hbr]
  simp only[hgs,Ap,Cr hk,Ae,pe hk,jo,eH,bS hb,HB,jH,hne,Mr];rw[Aa (λ_=>Eo hk),Aa (λ_=>Eo hb),uN hm k b hk hb]
  by_cases hkb:k=b
  ·have e:Uj L r b (k+1)=Uj L r b k:=by show(if _ then _ else _)=_;rw[if_neg (λh=>h.1 hkb)]
   rw[Bv hkb,Ae,Ae,Ai,w1 (by omega),e]
  ·rw[B7 hkb,An]
   cases ho:Pt L r k b with
   | false=>
    have e:Uj L r b (k+1)=Uj L r b k:=by show(if _ then _ else _)=_;rw[if_neg (λh=>by rw[ho]at h;exact absurd h.2.1 (by decide))]
    rw[Mr,Ae,Ai,w1 (by omega),e]
   | true=>
    rw[E7,An,Ai]
    cases hn:RG L r k b with
    | false=>
     have e:Uj L r b (k+1)=Uj L r b k:=by show(if _ then _ else _)=_;rw[if_neg (λh=>by rw[hn]at h;exact absurd h.2.2 (by decide))]
     rw[An,Ai,w1 (by omega),e]
    | true=>
     have e:Uj L r b (k+1)=(k:Int):=by show(if _ then _ else _)=_;rw[if_pos ⟨hkb,ho,hn⟩]
     rw[Ae,Aa (Eo (by rw[KW];exact hb)),Ai,w1 (by omega),e,KY]
 ·show Cf (K4 L) _ _ _ (_,_)=_
  unfold Cf;simp only[hgs,Ei,An]
omit hr in
theorem uP:Ab (Di (K4 L) (r:Int) (lq L r)) ((0:Int),List.replicate L.length (0:Int))=some (CF L r):=by
 obtain⟨h1,h2,h3⟩:=mayS_iff.1 hm;have hgs:(K4 L).Succ=L:=rfl
 have e0:List.replicate L.length (0:Int)=Rg L r 0 0:=by
  refine EZ (by simp[Rg]) λi h1 h2=>by simp[Rg]
 have e1:CF L r=Rg L r L.length 0:=Hq λi hi=>by rw[if_pos hi]
 rw[e0];refine F1 (Di (K4 L) (r:Int) (lq L r)) (λk=>(((k:Nat):Int),Rg L r k 0)) _ L.length (λk hk=>?_) ?_
 ·show Di (K4 L) _ _ (_,_)=_
  unfold Di;simp only[hgs,Ap,Cr hk,Ae];rw[Aa (Eo (by rw[KW];exact hk)),HB,KY,KY]
  by_cases hkr:k=r
  ·rw[Bv hkr,Ae,Aa (Eo (by rw[KW];exact hk)),Ai]
   have hd:Ab (Cf (K4 L) (r:Int) (lq L r) (k:Int)) ((0:Int),Rg L r k (-1))=some (Rg L r k (-1)):=by
    apply Ah
    unfold Cf;simp only[jH,Bv hkr,E7,oC,An]
   rw[hd,Ai,w1 (by omega)]
   have:Yp L r k = -1:=by unfold Yp;rw[if_pos hkr]
   rw[<- this,SX]
  ·rw[B7 hkr,An,Ai,uO hm k hk hkr,Ai,w1 (by omega)]
   have:Yp L r k=Uj L r k L.length:=by unfold Yp;rw[if_neg hkr]
   rw[<- this,SX]
 ·show Di (K4 L) _ _ (_,_)=_
  unfold Di;simp only[hgs,Ei,An];rw[e1]
end
def SW(g:TGraph)(r:Int):List Int:=if DX g=true/\0<=r/\r<(g.Succ.length:Int) then CF g.Succ r.toNat else[]
theorem gP(g:TGraph)(h:Fits g.Succ)(r:Int):Kv g r=some (SW g r):=by
 have hroom:1000<=room:=by decide
 unfold Kv SW;rw[lY g h,Ai]
 cases hmg:DX g with
 | false=>
  rfl
 | true=>
  rw[E7,An]
  by_cases h0:r<0
  ·grind
  ·rw[B7 h0,An]
   by_cases h1:g.Succ.length<=r
   ·grind
   ·rw[B7 h1,An,if_pos ⟨rfl,by omega,by omega⟩];obtain⟨hms,hg⟩:=jd hmg;obtain⟨hl1,hl2,hl3⟩:=mayS_iff.1 hms;obtain⟨q,rfl⟩:∃ q:Nat,r=q:=⟨r.toNat,by omega⟩
    have hq:q<g.Succ.length:=by omega
    rw[hg];have hgs:(K4 _).Succ=g.Succ:=rfl;simp only[hgs,Ap];rw[dT hms hq,Ai,Aa ⟨by omega,Int.le_refl _,by omega⟩,uM hms hq,Ai,Aa ⟨by omega,Int.le_refl _,by omega⟩,uP hms,Ai]
def upD(t:List Int):Nat->Int->Option (List Int)
 | 0,_=>none
 | k+1,a=>if 0<=a/\a<(t.length:Int) then(if t.getD a.toNat 0 = -1 then some [a] else(upD t k (t.getD a.toNat 0)).map λl=>a::l) else none
def Dl(t:List Int)(a:Int):List Int:=(upD t t.length a).getD []
def Aan(l:List Int):Option (List Int)->Unit ⊕ List Int
 | none=>.inl ()
 | some q=>.inr (l++q)
theorem lr(t:List Int)(ht:t.length<=1000):∀(k:Nat) (a:Int) (l:List Int),l.length+k=t.length->Ab (Cw t) (a,l)=some (Aan l (upD t k a)):=by
 have hroom:2000<=room:=by decide
 intro k
 induction k with
 | zero=>
  intro a l hl
  apply Ah
  unfold Cw;have:decide ((l.length:Int)<t.length)=false:=B7 (by omega);simp only[this]
  rfl
 | succ k ih=>
  intro a l hl;have hlt:decide (l.length<(t.length:Int))=true:=Bv (by omega);unfold upD
  by_cases h0:0<=a
  ·by_cases h1:a<t.length
   ·have hin:A5 a _:=⟨h0,h1⟩;rw[if_pos ⟨h0,h1⟩]
    by_cases ht1:t.getD a.toNat 0 = -1
    ·apply Ah
     unfold Cw;simp only[hlt,Bv h0,Bv h1];rw[Aa (by simp;omega),Aa hin,ht1]
     rfl
    ·rw[if_neg ht1]
     have hs:Cw t (a,l)=some (.next (t.getD a.toNat 0,l++[a])):=by
      unfold Cw;have hb :=zzL17.2 ht1;simp only[hlt,Bv h0,Bv h1,Ae];rw[Aa (by simp;omega),Aa hin,hb,An,Aa hin]
     rw[Aq hs,ih _ _ (by simp;omega)]
     cases upD t k _ with
     | none=>rfl
     | some q=>show some (Sum.inr _)=some (Sum.inr _);simp
   ·rw[if_neg (by omega)]
    apply Ah
    unfold Cw;simp only[hlt,Bv h0,B7 h1,Ae]
    rfl
  ·rw[if_neg (by omega)]
   apply Ah
   unfold Cw;simp only[hlt,B7 h0,Ae]
   rfl
theorem gM(t:List Int)(ht:t.length<=1000)(a:Int):Ga t a=some (Dl t a):=by
 unfold Ga Dl;rw[lr t ht t.length a [] (by simp)]
 cases upD t _ a with
 | none=>rfl
 | some q=>rfl
theorem j7(t:List Int):∀ k a q,upD t k a=some q->q.length<=k/\1<=q.length:=by
 intro k
 induction k with
 | zero=>intro a q h;cases h
 | succ k ih=>
  intro a q h;unfold upD at h
  split at h
  ·split at h
   ·cases h;simp
   ·cases hu:upD t k _ with
    | none=>rw[hu]at h;cases h
    | some q'=>grind
  ·cases h
theorem XT(t:List Int)(a:Int):(Dl t a).length<=t.length:=by
 unfold Dl
 cases h:upD t _ a with
 | none=>simp
 | some q=>exact(j7 t _ _ _ h).1
theorem pathD_nil{t:List Int}{a:Int}:Dl t a=[]↔upD t t.length a=none:=by
 unfold Dl
 cases h:upD t _ a with
 | none=>simp
 | some q=>have:=(j7 t _ _ _ h).2;simp;intro e;subst e;simp at this
def topsK(t:List Int)(k:Nat):Nat:=((List.range k).filter λa=>decide (t.getD a 0 = -1)).length
def pP(t:List Int)(a:Nat):Bool:=decide (t.getD a 0 = -2) || !decide (Dl t (a:Int)=[])
def M6(t:List Int):Bool:=(List.range t.length).all (pP t)&&decide (topsK t t.length=1)
theorem GF(t:List Int)(k:Nat):topsK t (k+1)=topsK t k+if t.getD k 0 = -1 then 1 else 0:=by
 unfold topsK;rw[JA,LH]
 by_cases h:t.getD k 0 = -1
 ·grind
 ·grind
theorem qG(t:List Int)(k:Nat):topsK t k<=k:=by
 exact Tg (List.length_filter_le ..) (by simp)
theorem pA{l:List Int}:(((l.length:Nat):Int)==(0:Int))=decide (l=[]):=by
 cases l with
 | nil=>rfl
 | cons x l=>simp;omega
theorem g6(t:List Int)(ht:t.length<=1000):Ab (Ca t) ((0:Int),(0:Int))=some (bif (List.range t.length).all (pP t) then .inl ((topsK t t.length:Nat):Int) else .inr false):=by
 have body:∀ k,k<t.length->Ca t (((topsK t k:Nat):Int),(k:Int))=some (bif pP t k then .next (((topsK t (k+1):Nat):Int),((k+1:Nat):Int)) else .done (.inr false)):=λk hk=>by
  have hle:=qG t k;unfold Ca;simp only[Ap,Cr hk,Ae];rw[Aa (Eo hk)]
  have e1:(bif (t.getD k 0==(-1:Int)) then some (w64 (((topsK t k:Nat):Int)+1)) else some ((topsK t k:Nat):Int))=some ((topsK t (k+1):Nat):Int):=by
   rw[GF]
   by_cases h:t.getD k 0 = -1
   ·rw[if_pos h,zzL61.2 h,Ae,w1 (by omega)]
   ·rw[if_neg h,zzL17.2 h,An];rfl
  rw[e1,Ai]
  by_cases h2:t.getD k 0 = -2
  ·have hb:(t.getD k 0 !=(-2:Int))=false:=by rw[h2];rfl
   have ho:pP t k=true:=by unfold pP;rw[Bv h2];rfl
   rw[hb,show(false==true)=false from rfl,An,Ai,An,An,Aa (Eo hk),w1 (by omega),ho,Ae]
  ·have hb:(t.getD k 0 !=(-2:Int))=true:=zzL75.2 h2
   have ho:pP t k = !decide (Dl t (k:Int)=[]):=by unfold pP;rw[B7 h2];rfl
   rw[hb,show(true==true)=true from rfl,Ae,gM t ht,Ai,Ae,pA,Aa (Eo hk),w1 (by omega),ho]
   cases decide (Dl t (k:Int)=[])<;>rfl
 have:=G3 (Ca t) (λk=>(((topsK t k:Nat):Int),((k:Nat):Int))) (pP t) (.inl ((topsK t t.length:Nat):Int)) (.inr false) t.length (λi hi hp=>by
   show Ca t _=_;rw[body i hi,hp,Ae]) (λi hi hp=>by
   show Ca t _=_;rw[body i hi,hp,An]) (by
   show Ca t _=_
   unfold Ca
   simp only[Ei,An])
 exact this
theorem tD(t:List Int)(ht:t.length<=1000):J0 t=some (M6 t):=by
 unfold J0 M6;rw[g6 t ht]
 cases(List.range _).all _ with
 | false=>rfl
 | true=>
  rw[ Ly]
  show some _=_
  have:(1:Int)=(1:Nat):=rfl;rw[this,HB]
theorem find_first(p:Int->Bool):∀ l:List Int,(∃ n,n<l.length/\(∀ i,i<n->p (l.getD i 0)=false)/\p (l.getD n 0)=true/\l.find? p=some (l.getD n 0))\/((∀ i,i<l.length->p (l.getD i 0)=false)/\l.find? p=none):=by
 intro l
 induction l with
 | nil=>grind
 | cons x l ih=>
  cases hx:p x with
  | true=>exact .inl ⟨0,by simp,λi hi=>absurd hi (Us i),by simpa using hx,by simp[ hx]⟩
  | false=>
   rcases ih with⟨n,h1,h2,h3,h4⟩|⟨h1,h2⟩
   ·refine .inl ⟨n+1,by simpa using h1,λi hi=>?_,by simpa using h3,by grind⟩
    cases i with
    | zero=>simpa using hx
    | succ i=>grind
   ·grind
def Qn(t:List Int)(a b:Int):Int:=if M6 t=true then((Dl t a).find? λx=>(Dl t b).contains x).getD (-2) else -2
def Wx(t:List Int)(a b:Int):Bool:=Qn t a b==a&&Qn t a b !=-2
theorem wX(t:List Int)(ht:t.length<=1000)(a b:Int):Ku t a b=some (Qn t a b):=by
 unfold Ku Qn;rw[tD t ht,Ai]
 cases M6 t with
 | false=>rfl
 | true=>
  rw[E7, gM t ht,Ai,gM t ht,Ai];have hp:=XT t a;have hq:=XT t b
  have body:∀ k,k<(Dl t a).length->El (Dl t a) (Dl t b) (k:Int)=some (bif (Dl t b).contains _ then .done _ else .next _):=λk hk=>by
   unfold El;simp only[Ap,Cr hk];rw[Aa (Eo hk),pD _ _ (by omega), w1 (by omega),Aa (Eo hk)]
   cases(Dl t b).contains _<;>rfl
  rcases find_first (λx=>(Dl t b).contains x) (Dl t a) with⟨n,h1,h2,h3,h4⟩|⟨h1,h2⟩
  ·have:=F1 (El (Dl t a) (Dl t b)) (λk=>(k:Nat)) (.inr ((Dl t a).getD n 0)) n (λk hk=>by
    grind) (by
    grind)
   have e:Ab _ (0:Int)=_:=this;rw[e, h4]
   rfl
  ·have:=F1 (El (Dl t a) (Dl t b)) (λk=>((k:Nat):Int)) (.inl ()) (Dl t a).length (λk hk=>by
    grind) (by
    unfold El
    simp only[Ei,An])
   have e:Ab _ (0:Int)=_:=this;rw[e, h2]
   rfl
section
variable {S:Nat->List Nat} {r n:Nat} {P:List Nat} {t:List Int}
theorem DomTree.up(h:DomTree S r n P t):∀ k x,x<n->B3 t x≠-2->pos (r::P) x<k->∃ q,upD t k (x:Int)=some q/\(∀ w:Int,w∈q↔∃ z:Nat,w=(z:Int)/\UpTo (B3 t) x z) /\
  ∀ p:Int->Bool,(q.find? p=none/\∀ z:Nat,UpTo (B3 t) x z->p (z:Int)=false)\/∃ f:Nat,q.find? p=some (f:Int)/\UpTo (B3 t) x f/\p (f:Int)=true/\∀ z:Nat,UpTo (B3 t) x z->p (z:Int)=true->UpTo (B3 t) f z:=by
 intro k
 induction k with
 | zero=>omega
 | succ k ih=>
  intro x hx hp hk
  have hxt:(0:Int)<=(x:Int)/\(x:Int)<(t.length:Int):=by rw[h.len];omega
  unfold upD;rw[if_pos hxt,Ap];have hpx:t.getD x 0=B3 t x:=rfl;rw[hpx];rcases h.inv.kind x hx with h1|rfl|⟨z,hz⟩
  ·exact absurd h1 hp
  ·rw[if_pos h.inv.top];refine⟨_,rfl,λw=>?_,λp=>?_⟩
   ·rw[zzL24]
    constructor
    ·rintro rfl;exact⟨x,rfl,.refl _⟩
    ·rintro⟨z,rfl,hz⟩;rw[h.inv.root_anc.1 hz]
   ·cases hpp:p (x:Int) with
    | false=>exact .inl ⟨by simp[List.find?,hpp],λz hz=>by rw[h.inv.root_anc.1 hz];exact hpp⟩
    | true=>exact .inr ⟨x,by simp[List.find?,hpp],.refl _,hpp,λz hz _=>hz⟩
  ·obtain⟨z1,z2,z3,z4⟩:=h.inv.up x hx z hz;rw[hz,if_neg (by omega)];obtain⟨q,hq1,hq2,hq3⟩:=ih z z1 z2 (by omega);rw[hq1];refine⟨(x:Int)::q,rfl,λw=>?_,λp=>?_⟩
   ·rw[zzL28,hq2 w]
    constructor
    ·rintro(rfl|⟨y,rfl,hy⟩)
     ·exact⟨x,rfl,.refl _⟩
     ·exact⟨y,rfl,.up hz hy⟩
    ·rintro⟨y,rfl,hy⟩;rcases(anc_up hz).1 hy with rfl|hy
     ·exact .inl rfl
     ·exact .inr ⟨y,rfl,hy⟩
   ·cases hpp:p (x:Int) with
    | true=>exact .inr ⟨x,by simp[List.find?,hpp],.refl _,hpp,λy hy _=>hy⟩
    | false=>
     have hf:((x:Int)::q).find? p=q.find? p:=by simp[List.find?,hpp]
     rw[hf];rcases hq3 p with⟨e1,e2⟩|⟨f,e1,e2,e3,e4⟩
     ·refine .inl ⟨e1,λy hy=>?_⟩;rcases(anc_up hz).1 hy with rfl|hy
      ·exact hpp
      ·exact e2 y hy
     ·refine .inr ⟨f,e1,.up hz e2,e3,λy hy hpy=>?_⟩;rcases(anc_up hz).1 hy with rfl|hy
      ·rw[hpp]at hpy;cases hpy
      ·exact e4 y hy hpy
theorem Ordered.pos_lt(o:Ordered S r n P){x:Nat}(hx:x∈r::P):pos (r::P) x<n:=by
 obtain⟨j,hj,rfl⟩:=Qw hx;rw[(PB o.nodup hj).2];have:=T3 n _ o.nodup λy hy=>o.lt hy;omega
theorem DomTree.path(h:DomTree S r n P t)(o:Ordered S r n P){x:Nat}(hx:x<n)(hp:B3 t x≠-2):Dl t (x:Int)≠[]/\(∀ w:Int,w∈Dl t (x:Int)↔∃ z:Nat,w=(z:Int)/\UpTo (B3 t) x z) /\
  ∀ p:Int->Bool,((Dl t (x:Int)).find? p=none/\∀ z:Nat,UpTo (B3 t) x z->p (z:Int)=false)\/∃ f:Nat,(Dl t (x:Int)).find? p=some (f:Int)/\UpTo (B3 t) x f/\p (f:Int)=true/\∀ z:Nat,UpTo (B3 t) x z->p (z:Int)=true->UpTo (B3 t) f z:=by
 have hm:=(o.mem x).2 (h.inv.rc x hx hp);obtain⟨q,h1,h2,h3⟩:=h.up n x hx hp (o.pos_lt hm)
 have e:Dl t x=q:=by unfold Dl;rw[h.len,h1];rfl
 rw[e];refine⟨λe=>?_,h2,h3⟩;have:=(h2 _).2 ⟨x,rfl,.refl _⟩;rw[e]at this
 cases this
theorem DomTree.nopath(h:DomTree S r n P t){x:Nat}(hx:x<n)(hp:B3 t x = -2):Dl t (x:Int)=[]:=by
 rw[pathD_nil]
 cases hl:t.length with
 | zero=>rfl
 | succ k=>
  unfold upD;rw[if_pos ⟨by omega,by rw[h.len];omega⟩,Ap,show t.getD x 0=B3 t x from rfl,hp]
  cases k with
  | zero=>rfl
  | succ k =>   rfl
theorem DomTree.right(h:DomTree S r n P t)(o:Ordered S r n P):M6 t=true:=by
 unfold M6;rw[Be]
 constructor
 ·refine all_range.2 λx hx=>?_;rw[h.len]at hx;unfold pP
  by_cases hp:B3 t x = -2
  ·rw[show t.getD x 0=B3 t x from rfl,hp];rfl
  ·rw[B7 (h.path o hx hp).1];simp
 ·apply Bv
  have key:∀ k,k<=n->topsK t k=if r<k then 1 else 0:=by
   intro k
   induction k with
   | zero=>intro _;rfl
   | succ k ih=>
    intro hk;rw[GF]
    have hr:t.getD k 0 = -1↔k=r:=by
     constructor
     ·intro he;rcases h.inv.kind k (by omega) with h1|h1|⟨z,hz⟩
      ·rw[show t.getD k 0=B3 t k from rfl]at he;omega
      ·exact h1
      ·rw[show t.getD k 0=B3 t k from rfl]at he;omega
     ·rintro rfl;exact h.inv.top
    by_cases hkr:k=r
    ·grind
    ·grind
  rw[h.len,key n (zzL7 _),if_pos o.hr]
theorem DomTree.meet(h:DomTree S r n P t)(o:Ordered S r n P){a b:Nat}(ha:a<n)(hb:b<n)(hpa:B3 t a≠-2)(hpb:B3 t b≠-2):∃ m:Nat,Qn t (a:Int) (b:Int)=(m:Int)/\MeetAt (B3 t) a b m/\m<n/\B3 t m≠-2:=by
 have rd:Ready S r n P t _:=⟨h.inv,h.len,λx hx=>by rw[CI]at hx;exact h.full x (o.lt hx) ((o.mem x).1 hx)⟩;obtain⟨c,hc1,hc2,hc3⟩:=h.inv.meets (rd.inj o) dy _ a b (zzL7 _) ha hb hpa hpb;refine⟨c,?_,hc1,hc2,hc3⟩;unfold Qn;rw[if_pos (h.right o)];obtain⟨hca,hcb⟩:=(hc1 c).1 (.refl _)
 have hin:∀ z:Nat,(Dl t _).contains z=true↔UpTo (B3 t) b z:=λz=>by
  rw[zzL80,(h.path o hb hpb).2.1]
  constructor
  ·grind
  ·grind
 rcases(h.path o ha hpa).2.2 λx=>(Dl t b).contains x with⟨_,h2⟩|⟨f,h1,h2,h3,h4⟩
 ·grind
 ·rw[h1];have hfc:=h4 c hca ((hin c).2 hcb);have hcf:=(hc1 f).2 ⟨h2,(hin f).1 h3⟩;rw[h.inv.antisymm hcf hfc hc2 hc3]
  rfl
theorem DomTree.meet_none(h:DomTree S r n P t)(o:Ordered S r n P){a b:Nat}(ha:a<n)(hb:b<n)(hp:B3 t a = -2\/B3 t b = -2):Qn t (a:Int) (b:Int) = -2:=by
 unfold Qn;rw[if_pos (h.right o)];rcases hp with hp|hp
 ·rw[h.nopath ha hp];rfl
 ·rw[h.nopath hb hp]
  have:(Dl t a).find? (λx=>[].contains x)=none:=List.find?_eq_none.2 λx _=>by simp
  rw[this];rfl
theorem DomTree.over(h:DomTree S r n P t)(o:Ordered S r n P){a b:Nat}(ha:a<n)(hb:b<n):Wx t (a:Int) (b:Int)=true↔B3 t b≠-2/\UpTo (B3 t) b a:=by
 unfold Wx;rw[Be,zzL61,zzL75]
 by_cases hpa:B3 t a = -2
 ·rw[h.meet_none o ha hb (.inl hpa)]
  constructor
  ·omega
  ·rintro⟨h1,h2⟩;exact absurd hpa (h.inv.anc h2 hb h1).2.1
 ·by_cases hpb:B3 t b = -2
  ·rw[h.meet_none o ha hb (.inr hpb)]
   constructor
   ·omega
   ·grind
  ·obtain⟨m,hm1,hm2,hm3,hm4⟩:=h.meet o ha hb hpa hpb;rw[hm1]
   constructor
   ·rintro⟨h1,_⟩;have h1:=LM h1;subst h1;exact⟨hpb,((hm2 _).1 (.refl _)).2⟩
   ·rintro⟨_,h2⟩;have:=(hm2 a).2 ⟨.refl _,h2⟩;have h3:=((hm2 m).1 (.refl _)).1;rw[h.inv.antisymm h3 this ha hpa];exact⟨rfl,by omega⟩
theorem DomTree.over_dom(h:DomTree S r n P t)(o:Ordered S r n P){a b:Nat}(ha:a<n)(hb:b<n):Wx t (a:Int) (b:Int)=true↔Rc S r b/\¬ Av S r a b:=by
 rw[h.over o ha hb]
 constructor
 ·rintro⟨h1,h2⟩;exact⟨h.inv.rc b hb h1,(h.exact_ b hb h1 a).1 h2⟩
 ·rintro⟨h1,h2⟩;have:=h.full b hb h1;exact⟨this,(h.exact_ b hb this a).2 h2⟩
end
section
variable {L:List (List Int)} (hm:Oa L=true) {r:Nat} (hr:r<L.length)
include hm hr
theorem mO:∃ P,Ord (sN L) r (r::P)/\Ordered (sN L) r L.length P/\DomTree (sN L) r L.length P (CF L r):=by
 obtain⟨O,hO⟩:=Ord.exist (Zb hm) hr;obtain⟨P,rfl,o⟩:=hO.ordered hr (Zb hm);obtain⟨J,_,hJ⟩:=u9 o;have hd:=NH o hJ;refine⟨P,hO,o,?_⟩;rw[<- hd.eq hm hr o];exact hd
end
theorem JZ{X:Type}(n:Nat)(p:Nat->Bool)(f:Int->Option (LR Int X))(yes no:X)(hn:∀ i:Nat,i<n->p i=true->f (i:Int)=some (.next ((i:Int)+1)))
  (hf:∀ i:Nat,i<n->p i=false->f (i:Int)=some (.done no)) (he:f (n:Int)=some (.done yes)):Ab f (0:Int)=some (bif (List.range n).all p then yes else no):=by
 have hg:∀ i,i<(List.range n).length->(List.range n).getD i 0=i:=λi hi=>by grind
 have:=Hj (List.range n) 0 p f yes no (λi hi hp=>by grind) (λi hi hp=>by grind) (by simpa using he) n 0 (by simp);rw[show(0:Int)=(0:Nat) from rfl,this,Js]
theorem nj{n:Nat}{p:Nat->Bool}(h:(List.range n).all p=true):∀ i,i<n->p i=true:=λi hi=>zzL30.1 h i (by simpa using hi)
def Sd(L:List (List Int)):List Bool:=IF (sN L) L.length ((List.replicate L.length false).set 0 true) L.length
def Lt(l:List Int)(p:Ic):Bool:=decide (p.From=l)&&((p.Args.length:Int)==(l.length:Int))
def Pf(L:List (List Int))(b:Am)(i:Nat):Bool:=(Sd L).getD i false&&!((b.End.Kind==1 || b.End.Kind==3)&&(b.End.Arg !=0))&&b.Phis.all (Lt ((Ff L).getD i []))
def Ia(f:TFunc):Bool:=Ry f&&(List.range f.Blocks.length).all λi=>Pf (Dm f) (f.Blocks.getD i default) i
theorem BU(f:TFunc):(Dm f).length=f.Blocks.length:=by simp[Dm]
theorem d6(L:List (List Int)):(Sd L).length=L.length:=by rw[Sd,Yj];simp
theorem sY{a b c d:Bool}{x:Option (LR Int (Unit ⊕ Bool))}:(bif (bif (!a) then true else(bif (bif b then true else c) then d else false)) then some (LR.done (Sum.inr false)) else x)=bif (a&&!((b || c)&&d)) then x else some (LR.done (Sum.inr false)):=by
 grind
theorem tE {f : TFunc} (hf : OkF f) : J2 f = some (Ia f) := by
  have hmax : f.Blocks.length ≤ maxLen := by have := hf.blocks; have : (64 : Nat) ≤ maxLen := by decide
                                             omega
  unfold J2 Ia; rw [dU f hmax, Ai]
  cases hs : Ry f with
  | false => rfl
  | true =>
    have hm := So hs; have hlen := BU f; obtain ⟨h1, h2⟩ := T0 hm
    have hpos : 0 < (Dm f).length := by have := (shape_iff.1 hs).1.1; omega
    simp only [Ae, Ly]; have hr := tA hm hpos; rw [show (((0 : Nat) : Int)) = 0 from rfl] at hr; rw [hr, Ai]
    show ((Ab (Fp f (K4 (Dm f), 0) (Sd (Dm f))) 0).bind _) = _
    have hphi : ∀ i, i < f.Blocks.length → Ab _ (0 : Int) = some _ := fun i hi => by
      have hmem := getD_mem (d := (default : Am)) hi; have hB := hf.block _ hmem
      have hpl : (K4 (Dm f)).Pred.length = f.Blocks.length := by rw [← hlen]; exact Rv _
      have hpi : A5 (i : Int) (K4 (Dm f)).Pred.length := Ao (by omega)
      have key : ∀ j, j < (f.Blocks.getD i default).Phis.length → Fo f (K4 (Dm f), 0) (i : Int) (j : Int) = some (bif Lt ((Ff (Dm f)).getD i []) _ then .next ((j : Int) + 1) else .done (.inr false)) := fun j hj => by
        have hp := RS hf hmem (getD_mem (d := (default : Ic)) hj); unfold Fo
        have hd : decide ((j : Int) < ((f.Blocks.getD i default).Phis.length : Int)) = true := by simpa using hj
        have hi1 := QZ ((f.Blocks.getD i default).Phis.getD j default).From ((K4 (Dm f)).Pred.getD i []) (by omega); simp only [Ec, hd, Ae, Ad (Ao hj), Ad hpi, hi1, Ai]; rw [Ad (fun _ => Ao hj), Ad (fun _ => hpi), A3 hj (by have := hB.phis; omega)]; unfold Lt
        show (bif (bif (!decide (((f.Blocks.getD i default).Phis.getD j default).From = (Ff (Dm f)).getD i [])) then true else ((((f.Blocks.getD i default).Phis.getD j default).Args.length : Int) != (((Ff (Dm f)).getD i []).length : Int))) then _ else _) = _
        cases decide (((f.Blocks.getD i default).Phis.getD j default).From = (Ff (Dm f)).getD i []) with
        | false => rfl
        | true =>
          grind
      have := Hj (f.Blocks.getD i default).Phis (default : Ic) (Lt ((Ff (Dm f)).getD i [])) (Fo f (K4 (Dm f), 0) (i : Int)) (.inl ()) (.inr false) (fun j hj hp => by rw [key j hj, hp]; rfl) (fun j hj hp => by rw [key j hj, hp]; rfl) (by unfold Fo; simp) (f.Blocks.getD i default).Phis.length 0 (by omega); rw [Js] at this; exact this
    have hrl := d6 (Dm f)
    have key : ∀ i, i < f.Blocks.length → Fp f (K4 (Dm f), 0) (Sd (Dm f)) (i : Int) = some (bif Pf (Dm f) (f.Blocks.getD i default) i then .next ((i : Int) + 1) else .done (.inr false)) := fun i hi => by
      unfold Fp
      have hd : decide ((i : Int) < (f.Blocks.length : Int)) = true := by simpa using hi
      simp only [hd, Ae, Ad (Ao hi), Ad (Ao (show i < (Sd (Dm f)).length by omega)), Ec, sY, hphi i hi, Ai, A3 hi (by have := hf.blocks; omega)]; unfold Pf
      cases ((Sd (Dm f)).getD i false && !(((f.Blocks.getD i default).End.Kind == 1 || (f.Blocks.getD i default).End.Kind == 3) && ((f.Blocks.getD i default).End.Arg != 0))) with
      | false => rfl
      | true => grind
    rw [JZ f.Blocks.length (fun i => Pf (Dm f) (f.Blocks.getD i default) i) _ (.inl ()) (.inr false) (fun i hi hp => by rw [key i hi, hp]; rfl) (fun i hi hp => by rw [key i hi, hp]; rfl) (by unfold Fp; simp)]
    cases (List.range f.Blocks.length).all _ <;> rfl
theorem YG{f:TFunc}(h:Ia f=true):jq f:=λb hb p hp=>by
 simp only[Ia,Be]at h;obtain⟨i,hi,rfl⟩:=Qw hb;have h1:=nj h.2 i hi;rw[Af _ _ _ hi]at h1;simp only[Pf,Be]at h1;have h2:=zzL30.1 h1.2 p hp;simp only[Lt,Be,En,zzL61]at h2;rw[h2.1];omega
def Qo(l:List TDef)(i:Nat):Bool:=valS (l.getD i default).V&&(Lk l (l.getD i default).V==(i:Int))
def Ma(l:List TDef)(u:C9):Bool:=!decide (Lk l u.V<0)
def defOf(l:List TDef)(v:Int):TDef:=l.getD (Lk l v).toNat default
def Y3(l:List TDef)(u:C9):Bool:=((defOf l u.V).Shape.1==u.Shape.1)&&(((defOf l u.V).Shape.2==u.Shape.2)&&true)
def Y2(l:List TDef)(t:List Int)(u:C9):Bool:=
 (decide ((defOf l u.V).Block<0) || ((defOf l u.V).Block==u.Block&&decide ((defOf l u.V).At<u.At))) || (!((defOf l u.V).Block==u.Block)&&!(Qn t (defOf l u.V).Block u.Block !=(defOf l u.V).Block))
def Dy(f:TFunc):List Int:=SW (K4 (Dm f)) 0
def TA(f:TFunc)(l:Int):Int:=
 bif !Ia f then 5 else bif !Uo f l then 6 else bif !(List.range (A1 f).length).all (Qo (A1 f)) then 7 else bif !(B5 f).all (Ma (A1 f)) then 7 else
 bif !(B5 f).all (Y3 (A1 f)) then 6 else bif !(B5 f).all (Y2 (A1 f) (Dy f)) then 7 else 0
def Da(f:TFunc)(l:Int):Int:=bif decide (l<0) || decide (2<l) then 1 else bif !V1 f then 4 else TA f l
theorem QI{l:List TDef}{v:Int}(h:¬ Lk l v<0):A5 (Lk l v) l.length:=by
 unfold Lk at h ⊢
 cases hx:l.findIdx? _ with
 | none=>grind
 | some i=>
  obtain⟨hi,_⟩:=List.findIdx?_eq_some_iff_getElem.1 hx;exact Ao hi
theorem eT{f:TFunc}(h:Ry f=true):(Dy f).length<=1000:=by
 have h1:=(T0 (So h)).1;unfold Dy SW
 split
 ·rw[YI];show(Dm f).length<=1000;omega
 ·simp
theorem sn(a b c:Bool)(m q x:Int):(Option.bind (α:=Unit ⊕ Int) (bif (bif a then true else(bif b then c else false)) then some (.inl ()) else((bif (b==false) then some m else some 0).bind λx31=>(bif (bif b then true else(x31 !=q)) then some (.inr 7) else some (.inl ())))) (λx32=>match x32 with | .inl _=>some (LR.next x) | .inr r34=>some (.done (.inr r34)))) =
  (some (bif (a || (b&&c)) || (!b&&!(m !=q)) then .next x else .done (.inr 7)):Option (LR Int (Unit ⊕ Int))):=by
 grind
theorem tG {f : TFunc} (hf : OkF f) (l : Int) (hm : I6 f = some (V1 f)) : Fk f l = some (Da f l) := by
  unfold Fk Da; rw [show (bif decide (l < (0 : Int)) then true else decide ((2 : Int) < l)) = (decide (l < 0) || decide (2 < l)) by cases decide (l < (0 : Int)) <;> rfl]
  cases (decide (l < 0) || decide (2 < l)) with
  | true => rfl
  | false =>
  simp only [An, hm, Ai]
  cases V1 f with
  | false => rfl
  | true =>
  simp only [E7, An, tE hf, Ai, TA]
  cases hs : Ia f with
  | false => rfl
  | true =>
  simp only [E7, An, tF hf, Ai]
  cases ht : Uo f l with
  | false => rfl
  | true =>
  simp only [E7, An, wW hf, Ai]; have hdl := lG hf; have hul := KZ hf
  have hL1 : Ab (S := Int) (X := (Unit ⊕ Int)) (Fn (A1 f)) (0 : Int) = some (bif (List.range (A1 f).length).all (Qo (A1 f)) then .inl () else .inr 7) := by
    have key : ∀ i, i < (A1 f).length → Fn (A1 f) (i : Int) = some (bif Qo (A1 f) i then .next ((i : Int) + 1) else .done (.inr 7)) := fun i hi => by
      unfold Fn Qo
      have hd : decide ((i : Int) < ((A1 f).length : Int)) = true := by simpa using hi
      simp only [hd, Ae, Ad (Ao hi), Ec, DM, Ai, Ad (fun _ => Ao hi), ay (A1 f) _ (by omega), A3 hi (by omega)]
      cases valS ((A1 f).getD i default).V with
      | false => rfl
      | true =>
        grind
    exact JZ _ _ _ _ _ (fun i hi hp => by rw [key i hi, hp]; rfl) (fun i hi hp => by rw [key i hi, hp]; rfl) (by unfold Fn; simp)
  rw [hL1, Ai]
  cases (List.range (A1 f).length).all (Qo (A1 f)) with
  | false => rfl
  | true =>
  simp only [Ae, E7, An, wZ hf (YG hs), Ai]
  have hL2 : Ab (S := Int) (X := (Unit ⊕ Int)) (D6 (A1 f) (B5 f)) (0 : Int) = some (bif (B5 f).all (Ma (A1 f)) then .inl () else .inr 7) := by
    have key : ∀ i, i < (B5 f).length → D6 (A1 f) (B5 f) (i : Int) = some (bif Ma (A1 f) ((B5 f).getD i default) then .next ((i : Int) + 1) else .done (.inr 7)) := fun i hi => by
      unfold D6 Ma
      have hd : decide ((i : Int) < ((B5 f).length : Int)) = true := by simpa using hi
      simp only [hd, Ae, Ad (Ao hi), Ec, ay (A1 f) _ (by omega), Ai, A3 hi (by omega)]
      cases decide (Lk (A1 f) ((B5 f).getD i default).V < 0) <;> rfl
    have := Hj (B5 f) default (Ma (A1 f)) (D6 (A1 f) (B5 f)) (.inl ()) (.inr 7) (fun i hi hp => by rw [key i hi, hp]; rfl) (fun i hi hp => by rw [key i hi, hp]; rfl) (by unfold D6; simp) (B5 f).length 0 (by omega); rw [Js] at this; exact this
  rw [hL2, Ai]
  cases hF : (B5 f).all (Ma (A1 f)) with
  | false => rfl
  | true =>
  have hfound : ∀ i, i < (B5 f).length → A5 (Lk (A1 f) ((B5 f).getD i default).V) (A1 f).length := fun i hi => by
    have := zzL30.1 hF _ (getD_mem (d := (default : C9)) hi); simp only [Ma, Su, TG] at this; exact QI this
  simp only [Ae, E7, An]
  have hL3 : Ab (S := Int) (X := (Unit ⊕ Int)) (D7 (A1 f) (B5 f)) (0 : Int) = some (bif (B5 f).all (Y3 (A1 f)) then .inl () else .inr 6) := by
    have key : ∀ i, i < (B5 f).length → D7 (A1 f) (B5 f) (i : Int) = some (bif Y3 (A1 f) ((B5 f).getD i default) then .next ((i : Int) + 1) else .done (.inr 6)) := fun i hi => by
      unfold D7 Y3 defOf
      have hd : decide ((i : Int) < ((B5 f).length : Int)) = true := by simpa using hi
      simp only [hd, Ae, Ad (Ao hi), Ec, ay (A1 f) _ (by omega), Ai, Ad (hfound i hi), A3 hi (by omega)]
      cases ((((A1 f).getD (Lk (A1 f) ((B5 f).getD i default).V).toNat default).Shape.1 == ((B5 f).getD i default).Shape.1) && ((((A1 f).getD (Lk (A1 f) ((B5 f).getD i default).V).toNat default).Shape.2 == ((B5 f).getD i default).Shape.2) && true)) <;> rfl
    have := Hj (B5 f) default (Y3 (A1 f)) (D7 (A1 f) (B5 f)) (.inl ()) (.inr 6) (fun i hi hp => by rw [key i hi, hp]; rfl) (fun i hi hp => by rw [key i hi, hp]; rfl) (by unfold D7; simp) (B5 f).length 0 (by omega); rw [Js] at this; exact this
  rw [hL3, Ai]
  cases (B5 f).all (Y3 (A1 f)) with
  | false => rfl
  | true =>
  have hsB : Ry f = true := by simp only [Ia, Be] at hs; exact hs.1
  have hmax : f.Blocks.length ≤ maxLen := by have := hf.blocks; have : (64 : Nat) ≤ maxLen := by decide
                                             omega
  simp only [Ae, E7, An, dU f hmax, hsB, Ai]; rw [gP _ (HH (So hsB)).1 0, Ai]; have htl := eT hsB
  have hL4 : Ab (S := Int) (X := (Unit ⊕ Int)) (C8 (A1 f) (B5 f) (Dy f)) (0 : Int) = some (bif (B5 f).all (Y2 (A1 f) (Dy f)) then .inl () else .inr 7) := by
    have key : ∀ i, i < (B5 f).length → C8 (A1 f) (B5 f) (Dy f) (i : Int) = some (bif Y2 (A1 f) (Dy f) ((B5 f).getD i default) then .next ((i : Int) + 1) else .done (.inr 7)) := fun i hi => by
      unfold C8 Y2 defOf
      have hd : decide ((i : Int) < ((B5 f).length : Int)) = true := by simpa using hi
      simp only [hd, Ae, Ad (Ao hi), Ec, ay (A1 f) _ (by omega), Ai, Ad (hfound i hi), A3 hi (by omega), wX (Dy f) htl]; exact sn _ _ _ _ _ _
    have := Hj (B5 f) default (Y2 (A1 f) (Dy f)) (C8 (A1 f) (B5 f) (Dy f)) (.inl ()) (.inr 7) (fun i hi hp => by rw [key i hi, hp]; rfl) (fun i hi hp => by rw [key i hi, hp]; rfl) (by unfold C8; simp) (B5 f).length 0 (by omega); rw [Js] at this; exact this
  show ((Ab (C8 (A1 f) (B5 f) (Dy f)) 0).bind _) = _
  rw [hL4, Ai]
  cases (B5 f).all (Y2 (A1 f) (Dy f)) <;> rfl
def grow(n d:Int):Int:=bif decide (n<d) then d else n
def Sm(f:TFunc):Prop:=fA f/\Dc f=some true
theorem qA{f:TFunc}(h:Sm f)(hm:V1 f=true):OkF f:=by
 obtain⟨sm,h1,h2⟩:=eL f h.1;rw[h.2]at h1;exact(h2 (OI h1).symm hm).1
theorem lc{f:TFunc}(hf:fA f):∃ b,J1 f=some b/\(b=true->Sm f):=by
 obtain⟨x,hx⟩:∃ x,Ab _ ((0:Int),(0:Int))=some x:=by
  refine Ub f.Blocks.length (H5 f) (λn i hi=>.inl ?_) (λn=>?_) f.Blocks.length 0 0 (by omega)
  ·unfold H5
   have hd:decide (i<(f.Blocks.length:Int))=true:=by simpa using hi
   simp only[hd, Ad (Ao hi),Lx hi hf.blocks];exact⟨_,rfl⟩
  ·unfold H5;exact⟨n,by simp⟩
 obtain⟨sm,h1⟩:=SS f hf;unfold J1;rw[hx, h1];refine⟨_,rfl,λhb=>⟨hf,?_⟩⟩
 cases sm with
 | true=>exact h1
 | false=>cases hb
theorem dQ{f:TFunc}(h:Sm f)(l:Int):Fk f l=some (Da f l):=by
 have hm:=uE f h.1
 cases hb:V1 f with
 | true=>exact tG (qA h hb) l hm
 | false=>
  unfold Fk Da;rw[show(bif decide _ then true else decide _)=(decide (l<0) || decide (2<l)) by grind]
  cases(decide (l<0) || decide (2<l)) with
  | true=>rfl
  | false=>grind
structure nR(f:TFunc)(s:List (Int×(Int×Int))):Prop where
 none:Da f 2≠0->s.length=0
 len:Da f 2=0->s.length=(A1 f).length
 get:Da f 2=0->∀ d∈A1 f,mget ((0:Int),(0:Int)) s d.V=d.Shape
 has:Da f 2=0->∀ v,C2 s v=true->∃ d∈A1 f,d.V=v
theorem zG{f:TFunc}(hf:fA f)(h0:f.Params.length<=64)(hb:∀ b∈f.Blocks,b.End.To.length<=64/\(∀ p∈b.Phis,p.From.length<=64/\p.Args.length<=64)/\∀ o∈b.Ops,o.Args.length<=64)(he:lL f<=20000):Sm f:=
 ⟨hf,by rw[eK f hf h0 hb,Bv he]⟩
def eG(f:TFunc):Int:=
 bif !(List.range (A1 f).length).all (Qo (A1 f)) then 7 else bif !(B5 f).all (Ma (A1 f)) then 7 else
 bif !(B5 f).all (Y3 (A1 f)) then 6 else bif !(B5 f).all (Y2 (A1 f) (Dy f)) then 7 else 0
theorem FP{f:TFunc}{l:Int}(h0:0<=l)(h2:l<=2):Da f l=0↔V1 f=true/\Ia f=true/\Uo f l=true/\eG f=0:=by
 unfold Da TA;rw[B7 (show ¬ l<0 by omega),B7 (show ¬ 2<l by omega)]
 have e:(bif !(List.range _).all _ then 7 else bif !(B5 f).all _ then 7 else
  bif !(B5 f).all _ then 6 else bif !(B5 f).all _ then 7 else 0)=eG f:=rfl
 rw[e]
 cases V1 f<;>cases Ia f<;>cases Uo f l<;>simp
theorem o6{o:Ce}(h:Lb o=true):1<=o.Lanes:=by
 simp only[Lb,Be]at h;have:=Pu h.1.1;omega
end
end Go.Proofs.YtjpnobeadcdnoaaGreat
