/-
  The machine, the program's functions and the laws' arithmetic: part 5 of 6.
-/
import Derived.Test.YtmkiepobhjiabaaGreatPk4
import Derived.Lib.RowBridge
import Derived.OpenShut
import Derived.ShutString
set_option linter.unusedVariables false
set_option linter.unusedSimpArgs false
namespace Go.Proofs.YtmkiepobhjiabaaGreat
noncomputable section
open Go Go.RowKit
set_option maxRecDepth 100000
set_option maxHeartbeats 2000000
def E6(a0:TFunc)(i2:Int)(i7:Int):(List Cp×Int)->Option (LR (List Cp×Int) (List Cp)):=
 fun((l10,i11):(List Cp×Int))=>(bif (decide (i11<(((((a0.Blocks.getD i2.toNat default).Phis).getD i7.toNat default).Args).length:Int))) then(A6 (A2 i11 ((((a0.Blocks.getD i2.toNat default).Phis).getD i7.toNat default).Args).length) (A6 (A2 i11 ((((a0.Blocks.getD i2.toNat default).Phis).getD i7.toNat default).From).length) (A6 (l10.length+([(⟨(((((a0.Blocks.getD i2.toNat default).Phis).getD i7.toNat default).Args).getD i11.toNat 0),(((((a0.Blocks.getD i2.toNat default).Phis).getD i7.toNat default).From).getD i11.toNat 0),(1000:Int),((((a0.Blocks.getD i2.toNat default).Phis).getD i7.toNat default).Bits,(1:Int))⟩:Cp)]:List Cp).length<=room) (some (.next ((l10++([(⟨(((((a0.Blocks.getD i2.toNat default).Phis).getD i7.toNat default).Args).getD i11.toNat 0),(((((a0.Blocks.getD i2.toNat default).Phis).getD i7.toNat default).From).getD i11.toNat 0),(1000:Int),((((a0.Blocks.getD i2.toNat default).Phis).getD i7.toNat default).Bits,(1:Int))⟩:Cp)]:List Cp)),(w64 (i11+1)))))))) else(some (.done l10)))
def E7(a0:TFunc)(i2:Int):(List Cp×Int)->Option (LR (List Cp×Int) (List Cp)):=
 fun((l6,i7):(List Cp×Int))=>(bif (decide (i7<(((a0.Blocks.getD i2.toNat default).Phis).length:Int))) then(A6 (A2 i7 ((a0.Blocks.getD i2.toNat default).Phis).length) ((Ah (E6 a0 i2 i7) (l6,(0:Int))).bind (fun x16=>(some (.next (x16,(w64 (i7+1)))))))) else(some (.done l6)))
def E8(a0:TFunc)(i2:Int)(i21:Int)(x24:List ((Int×Int))):(List Cp×Int)->Option (LR (List Cp×Int) (List Cp)):=
 fun((l25,i26):(List Cp×Int))=>(bif (decide (i26<(x24.length:Int))) then(A6 (A2 i21 ((a0.Blocks.getD i2.toNat default).Ops).length) (A6 (A2 i26 ((((a0.Blocks.getD i2.toNat default).Ops).getD i21.toNat default).Args).length) (A6 (A2 i26 x24.length) (A6 (l25.length+([(⟨(((((a0.Blocks.getD i2.toNat default).Ops).getD i21.toNat default).Args).getD i26.toNat 0),i2,i21,(x24.getD i26.toNat ((0:Int),(0:Int)))⟩:Cp)]:List Cp).length<=room) (some (.next ((l25++([(⟨(((((a0.Blocks.getD i2.toNat default).Ops).getD i21.toNat default).Args).getD i26.toNat 0),i2,i21,(x24.getD i26.toNat ((0:Int),(0:Int)))⟩:Cp)]:List Cp)),(w64 (i26+1))))))))) else(some (.done l25)))
def E9(a0:TFunc)(i2:Int):(List Cp×Int)->Option (LR (List Cp×Int) (List Cp)):=
 fun((l20,i21):(List Cp×Int))=>(bif (decide (i21<(((a0.Blocks.getD i2.toNat default).Ops).length:Int))) then(A6 (A2 i21 ((a0.Blocks.getD i2.toNat default).Ops).length) ((Gd (((a0.Blocks.getD i2.toNat default).Ops).getD i21.toNat default)).bind fun x24=>((Ah (E8 a0 i2 i21 x24) (l20,(0:Int))).bind (fun x32=>(some (.next (x32,(w64 (i21+1))))))))) else(some (.done l20)))
def G1(a0:TFunc):(List Cp×Int)->Option (LR (List Cp×Int) (List Cp)):=
 fun((l1,i2):(List Cp×Int))=>(bif (decide (i2<(a0.Blocks.length:Int))) then(Option.bind (α:=List Cp) (A6 (A2 i2 a0.Blocks.length) ((Ah (E7 a0 i2) (l1,(0:Int))).bind (fun x18=>((Ah (E9 a0 i2) (x18,(0:Int))).bind (fun x34=>(Option.bind (α:=List Cp) (bif (((a0.Blocks.getD i2.toNat default).End.Kind:Int)==0) then(A6 (x34.length+([(⟨(a0.Blocks.getD i2.toNat default).End.Arg,i2,(1000:Int),(a0.Ret,(1:Int))⟩:Cp)]:List Cp).length<=room) (some (x34++([(⟨(a0.Blocks.getD i2.toNat default).End.Arg,i2,(1000:Int),(a0.Ret,(1:Int))⟩:Cp)]:List Cp)))) else(some x34)) (fun x38=>(bif (((a0.Blocks.getD i2.toNat default).End.Kind:Int)==2) then(A6 (x38.length+([(⟨(a0.Blocks.getD i2.toNat default).End.Arg,i2,(1000:Int),((1:Int),(1:Int))⟩:Cp)]:List Cp).length<=room) (some (x38++([(⟨(a0.Blocks.getD i2.toNat default).End.Arg,i2,(1000:Int),((1:Int),(1:Int))⟩:Cp)]:List Cp)))) else(some x38))))))))) (fun x41=>(some (.next (x41,(w64 (i2+1))))))) else(some (.done l1)))
def Q214(a0:TFunc)(i2:Int):=(a0.Blocks.getD i2.toNat default)
def Q212(a0:TFunc):List AV:=[(Z8 a0.Params),(Z7 a0.Ret),(Z16 a0.Blocks)]
def Q211(a0:TFunc)(i2:Int):=([(⟨(Q214 a0 i2).End.Arg,i2,(1000:Int),(a0.Ret,(1:Int))⟩:Cp)]:List Cp)
def Q210(a0:TFunc)(i2:Int):=([(⟨(Q214 a0 i2).End.Arg,i2,(1000:Int),((1:Int),(1:Int))⟩:Cp)]:List Cp)
def Q215(a0:TFunc):=(⟨[Xo,(3,(AV.list 5 N1 default ([]:List Cp) (.own 5003))),(4,Pq)],[(1,.row 25 (Q212 a0)),(5003,.tok 5 94 (([]:List Cp).length))],[]⟩:St)
def Q209(a0:TFunc)(i2:Int)(i21:Int)(i26:Int)(x24:List ((Int×Int))):=([(⟨(((((Q214 a0 i2).Ops).getD i21.toNat default).Args).getD i26.toNat 0),i2,i21,(x24.getD i26.toNat ((0:Int),(0:Int)))⟩:Cp)]:List Cp)
def Q208(a0:TFunc)(i2:Int)(i7:Int)(i11:Int):=([(⟨(((((Q214 a0 i2).Phis).getD i7.toNat default).Args).getD i11.toNat 0),(((((Q214 a0 i2).Phis).getD i7.toNat default).From).getD i11.toNat 0),(1000:Int),((((Q214 a0 i2).Phis).getD i7.toNat default).Bits,(1:Int))⟩:Cp)]:List Cp)
def Ir(a0:TFunc):Option (List Cp):=
 ((Ah (G1 a0) (([]:List Cp),(0:Int))).bind (fun x43=>(some x43)))
theorem Xd(a0:TFunc)(r:List Cp)(h:Ir a0=some r):Spec Tryz.prog 52 [(Z35 a0)] [] (AV.list 5 N1 default r (.own 20000)) [(Mj 20000 94 r.length)]:=by
 refine Ac mix Tryz.func52 (fun Γ hq=>?_);unfold Ir at h;refine gR hq [1] [1] [(2,(AV.list 5 N1 default ([]:List Cp) .exact))] [] (c1 (Dh 5 N1 (default:Cp))) ?_;refine gR hq Kn [1] [(3,(AV.list 5 N1 default ([]:List Cp) .exact))] [] (c1 (Dh 5 N1 (default:Cp))) ?_;refine Af hq Ko [1] ?_;refine Or (st':=(Q215 a0)) (Le.trans (B2 (st':=⟨[Xo,(3,(AV.list 5 N1 default ([]:List Cp) .exact)),(4,Pq)],[(1,.row 25 (Q212 a0))],[]⟩) Ko [1] hq) (Le.trans (Nw (t:=3) (nm:=5003) (sz':=5) (fun i=>N1 (([]:List Cp).getD i default)) 94 rfl rfl (.inl ⟨rfl,rfl⟩) (fun h_=>absurd h_ (by decide))) (B2 (st':=(Q215 a0)) Ko Mg hq))) ?_;obtain⟨x43,hx43,h⟩:=bind_some h;refine gL hq hx43 Ko Mg (fun u (l1,i2)=>(Eu u [(Z18 l1),(4,(Z7 i2))] [(Mj 5003 94 l1.length)])) (fun u l3=>aG Γ (.exit 0) (⟨[(Z18 l3)],[(Mj 5003 94 l3.length)],[]⟩:St)) ?_ ?_
 ·rintro⟨l1,i2⟩ y h;unfold G1 at h;refine Af hq [1,3,4,16] Mg ?_;refine gC h ?_ ?_<;>intro h
  ·obtain⟨x41,hx41,h⟩:=bind_some h;refine gJ hx41 (fun l4=>aG Γ .normal (⟨[Xo,(Z18 l4),(4,(Z7 i2))],[(1,.row 25 (Q212 a0)),(Mj 5003 94 l4.length)],[]⟩:St)) ?_ ?_
   ·clear h hx41;intro y h;obtain⟨hc5,h⟩:=Aa h;refine gR hq Ln Jz [] [] (c1 hc5) ?_;refine Af hq Qz Jz ?_;obtain⟨x18,hx18,h⟩:=bind_some h;refine gL hq hx18 Qz Jz (fun u (l6,i7)=>(Eu u [(Z18 l6),(6,(Z7 i7))] [(Mj 5003 94 l6.length)])) (fun u l8=>aG Γ (.exit 2) (Oz Ln Jz u [(Z18 l8)] [(Mj 5003 94 l8.length)])) ?_ ?_
    ·rintro⟨l6,i7⟩ y h;unfold E7 at h;refine Af hq [1,3,4,5,6,28] Jz ?_;refine gC h ?_ ?_<;>intro h
     ·obtain⟨hc9,h⟩:=Aa h;refine gR hq [1,3,4,5,6,7] zzN92 [] [] (c1 hc9) ?_;refine Af hq zzN98 zzN92 ?_;obtain⟨x16,hx16,h⟩:=bind_some h;refine gL hq hx16 zzN98 zzN92 (fun u (l10,i11)=>(Eu u [(Z18 l10),(8,(Z7 i11))] [(Mj 5003 94 l10.length)])) (fun u l12=>aG Γ (.exit 4) (Oz Qz Jz u [(Z18 l12)] [(Mj 5003 94 l12.length)])) ?_ ?_
      ·rintro⟨l10,i11⟩ y h;unfold E6 at h;refine Af hq [1,3,4,5,6,7,8,40] zzN92 ?_;refine gC h ?_ ?_<;>intro h
       ·obtain⟨hc13,h⟩:=Aa h;obtain⟨hc14,h⟩:=Aa h;obtain⟨hc15,h⟩:=Aa h;refine gR hq zzN98 zzN92 (Z31 58 (Q208 a0 i2 i7 i11) 59 l10) [] (ci hc13 (ci hc14 (ci (Bx 5 N1 (default:Cp) (Q208 a0 i2 i7 i11)) (ci (Eq.refl l10.length) (ci hc15 (ci (Ix 5 5003 N1 (default:Cp) l10 (Q208 a0 i2 i7 i11)) (c1 (Fe l10 (Q208 a0 i2 i7 i11))))))))) ?_;refine Af hq zzN98 zzN92 ?_;cases h;exact gN Cr
       ·cases h;exact gO (Bk (B2 Qz Jz hq))
      ·clear hx16;refine gA ?_;refine Af hq Qz Jz ?_;cases h;exact gN Cr
     ·cases h;exact gO (Bk (B2 Ln Jz hq))
    ·clear hx18;refine gA ?_;refine Af hq zzN109 Jz ?_;obtain⟨x34,hx34,h⟩:=bind_some h;refine gL hq hx34 zzN109 Jz (fun u (l20,i21)=>(Eu u [(Z18 l20),(9,(Z7 i21))] [(Mj 5003 94 l20.length)])) (fun u l22=>aG Γ (.exit 6) (Oz Ln Jz u [(Z18 l22)] [(Mj 5003 94 l22.length)])) ?_ ?_
     ·rintro⟨l20,i21⟩ y h;unfold E9 at h;refine Af hq [1,3,4,5,9,64] Jz ?_;refine gC h ?_ ?_<;>intro h
      ·obtain⟨hc23,h⟩:=Aa h;obtain⟨x24,hx24,h⟩:=bind_some h;refine gR hq [1,3,4,5,9,10] zzN81 [] [⟨[],[(20000,72)],(Z39 x24 20000),[(20000,.tok 2 88 x24.length)],[],[]⟩] (ci hc23 (c1 (Vp (((Q214 a0 i2).Ops).getD i21.toNat default) x24 hx24))) ?_;refine Af hq zzN86 zzN81 ?_;obtain⟨x32,hx32,h⟩:=bind_some h;refine gL hq hx32 zzN86 zzN81 (fun u (l25,i26)=>(Eu u [(Z18 l25),(11,(Z7 i26))] [(Mj 5003 94 l25.length)])) (fun u l27=>aG Γ (.exit 8) (Oz zzN109 Jz u [(Z18 l27)] [(Mj 5003 94 l27.length)])) ?_ ?_
       ·rintro⟨l25,i26⟩ y h;unfold E8 at h;refine Af hq [1,3,4,5,9,10,11,76] zzN81 ?_;refine gC h ?_ ?_<;>intro h
        ·obtain⟨hc28,h⟩:=Aa h;obtain⟨hc29,h⟩:=Aa h;obtain⟨hc30,h⟩:=Aa h;obtain⟨hc31,h⟩:=Aa h;refine gR hq zzN86 zzN81 (Z31 96 (Q209 a0 i2 i21 i26 x24) 97 l25) [] (ci hc28 (ci hc29 (ci hc30 (ci (Bx 5 N1 (default:Cp) (Q209 a0 i2 i21 i26 x24)) (ci (Eq.refl l25.length) (ci hc31 (ci (Ix 5 5003 N1 (default:Cp) l25 (Q209 a0 i2 i21 i26 x24)) (c1 (Fe l25 (Q209 a0 i2 i21 i26 x24)))))))))) ?_;refine Af hq zzN86 zzN81 ?_;cases h;exact gN Cr
        ·cases h;exact gO (Bk (B2 zzN109 Jz hq))
       ·clear hx32;refine gA ?_;refine Af hq zzN109 Jz ?_;cases h;exact gN Cr
      ·cases h;exact gO (Bk (B2 Ln Jz hq))
     ·clear hx34;refine gA ?_;obtain⟨x38,hx38,h⟩:=bind_some h;refine gJ hx38 (fun l36=>aG Γ .normal (⟨[Xo,(Z18 l36),(4,(Z7 i2)),Z79],[(1,.row 25 (Q212 a0)),(5,.row 53 [(AV.list 4 Xt default (Q214 a0 i2).Phis .none),(AV.list 6 Nv default (Q214 a0 i2).Ops .none),(.int .i64 (Q214 a0 i2).End.Kind),(.int .i64 (Q214 a0 i2).End.Arg),(AV.list 1 Au 0 (Q214 a0 i2).End.To .none)]),(Mj 5003 94 l36.length)],[]⟩:St)) ?_ ?_
      ·clear h hx38;intro y h;refine Af hq [1,3,4,5,101] Jz ?_;refine gC h ?_ ?_<;>intro h
       ·obtain⟨hc37,h⟩:=Aa h;refine gR hq Ln Jz (Z31 111 (Q211 a0 i2) 112 x34) [] (ci (Bx 5 N1 (default:Cp) (Q211 a0 i2)) (ci (Eq.refl x34.length) (ci hc37 (ci (Ix 5 5003 N1 (default:Cp) x34 (Q211 a0 i2)) (c1 (Fe x34 (Q211 a0 i2))))))) ?_;cases h;exact gK (Bk Cr)
       ·obtain rfl:=OI h;exact gK (Bk (B2 Ln Jz hq))
      ·clear hx38;refine gA ?_;refine Af hq [1,3,4,5,116] Jz ?_;refine gC h ?_ ?_<;>intro h
       ·obtain⟨hc40,h⟩:=Aa h;refine gR hq Ko Mg (Z31 124 (Q210 a0 i2) 125 x38) [] (ci (Bx 5 N1 (default:Cp) (Q210 a0 i2)) (ci (Eq.refl x38.length) (ci hc40 (ci (Ix 5 5003 N1 (default:Cp) x38 (Q210 a0 i2)) (c1 (Fe x38 (Q210 a0 i2))))))) ?_;cases h;exact gK (Bk Cr)
       ·obtain rfl:=OI h;exact gK (Bk (B2 Ko Mg hq))
   ·clear hx41;refine gA ?_;refine Af hq Ko Mg ?_;cases h;exact gN Cr
  ·cases h;exact gO (Bk (B2 [3] [5003] hq))
 ·clear hx43;refine gA ?_;refine Af hq [2] [5003] ?_;obtain rfl:=OI h;exact Cf zzN180
def Gx(aI:TGraph)(aK:TGraph):Int->Option (LR Int (Unit ⊕ Bool)):=
 fun(i1:Int)=>(bif (decide (i1<(aI.Succ.length:Int))) then(A6 (A2 i1 aI.Succ.length) (A6 (A2 i1 aK.Succ.length) ((Ea (aI.Succ.getD i1.toNat []) (aK.Succ.getD i1.toNat [])).bind fun x4=>(bif (!x4) then(some (.done (.inr false))) else(some (.next (w64 (i1+1)))))))) else(some (.done (.inl ()))))
def Gy(aI:TGraph)(aK:TGraph):Int->Option (LR Int (Unit ⊕ Bool)):=
 fun(i7:Int)=>(bif (decide (i7<(aI.Pred.length:Int))) then(A6 (A2 i7 aI.Pred.length) (A6 (A2 i7 aK.Pred.length) ((Ea (aI.Pred.getD i7.toNat []) (aK.Pred.getD i7.toNat [])).bind fun x10=>(bif (!x10) then(some (.done (.inr false))) else(some (.next (w64 (i7+1)))))))) else(some (.done (.inl ()))))
def Qk(Γ:Iw)(aI:TGraph)(aK:TGraph)(r:Bool):Exit->St->Prop:=fK Tryz.prog Γ Tryz.f103.results.toList [] (.bool r) []
def Q216(aI:TGraph)(aK:TGraph):=((((aI.Succ.length:Int):Int)!=(aK.Succ.length:Int))==false)
def In(aI:TGraph)(aK:TGraph):Option Bool:=
 (bif (bif (((aI.Succ.length:Int):Int)!=(aK.Succ.length:Int)) then true else(((aI.Pred.length:Int):Int)!=(aK.Pred.length:Int))) then(some false) else((Ah (Gx aI aK) (0:Int)).bind (fun x5=>(match x5 with|(.inl _)=>((Ah (Gy aI aK) (0:Int)).bind (fun x11=>(match x11 with|(.inl _)=>(some true)|(.inr r13)=>(some r13))))|(.inr r14)=>(some r14)))))
theorem W9(aI:TGraph)(aK:TGraph)(r:Bool)(h:In aI aK=some r):Spec Tryz.prog 103 [(Z61 aI),(Z61 aK)] [] (.bool r) []:=by
 refine Ac mix Tryz.func103 (fun Γ hq=>?_);unfold In at h;refine Af hq F5 F5 ?_;refine gR hq [2,3,22] F5 [] [] (ci (gI (Q216 aI aK)) (ci (gI (Q216 aI aK)) (ci (gI (Q216 aI aK)) (ci (gI (Q216 aI aK)) (ci (gI (Q216 aI aK)) (ci (gI (Q216 aI aK)) (c1 (J1 (((aI.Succ.length:Int):Int)!=(aK.Succ.length:Int)))))))))) ?_;refine gC h ?_ ?_<;>intro h
 ·refine Af hq [4] [] ?_;obtain rfl:=OI h;exact Cf []
 ·refine Af hq zzN99 F5 ?_;obtain⟨x5,hx5,h⟩:=bind_some h;refine gL hq hx5 zzN99 F5 (fun u i1=>(Eu u [(5,(Z7 i1))] [])) (fun u x_=>match x_ with|(.inl _)=>aG Γ (.exit 0) (Oz F5 F5 u [] [])|(.inr r_)=>aR (Qk Γ aI aK r_)) ?_ ?_
  ·intro i1 y h;unfold Gx at h;refine Af hq [2,3,5,27] F5 ?_;refine gC h ?_ ?_<;>intro h
   ·obtain⟨hc2,h⟩:=Aa h;obtain⟨hc3,h⟩:=Aa h;obtain⟨x4,hx4,h⟩:=bind_some h;refine gR hq [2,3,5,41] F5 [] [(Z2 x4)] (ci hc2 (ci hc3 (c1 (Ma (aI.Succ.getD i1.toNat []) (aK.Succ.getD i1.toNat []) x4 hx4)))) ?_;refine gC h ?_ ?_<;>intro h
    ·refine Af hq [4] [] ?_;cases h;exact gO (L0 (J7 [] (Le.refl _ _)))
    ·refine Af hq zzN99 F5 ?_;cases h;exact gN Cr
   ·cases h;exact gO (Bk (B2 F5 F5 hq))
  ·clear hx5;rcases x5 with _|r14
   ·refine gA ?_;refine Af hq zzN133 F5 ?_;obtain⟨x11,hx11,h⟩:=bind_some h;refine gL hq hx11 zzN133 F5 (fun u i7=>(Eu u [(6,(Z7 i7))] [])) (fun u x_=>match x_ with|(.inl _)=>aG Γ (.exit 2) (⟨[],[],[]⟩:St)|(.inr r_)=>aR (Qk Γ aI aK r_)) ?_ ?_
    ·intro i7 y h;unfold Gy at h;refine Af hq [2,3,6,46] F5 ?_;refine gC h ?_ ?_<;>intro h
     ·obtain⟨hc8,h⟩:=Aa h;obtain⟨hc9,h⟩:=Aa h;obtain⟨x10,hx10,h⟩:=bind_some h;refine gR hq [2,3,6,60] F5 [] [(Z2 x10)] (ci hc8 (ci hc9 (c1 (Ma (aI.Pred.getD i7.toNat []) (aK.Pred.getD i7.toNat []) x10 hx10)))) ?_;refine gC h ?_ ?_<;>intro h
      ·refine Af hq [4] [] ?_;cases h;exact gO (L0 (J7 [] (Le.refl _ _)))
      ·refine Af hq zzN133 F5 ?_;cases h;exact gN Cr
     ·cases h;exact gO (Bk (B2 [] [] hq))
    ·clear hx11;rcases x11 with _|r13
     ·refine gA ?_;refine Af hq [4] [] ?_;obtain rfl:=OI h;exact Cf []
     ·refine N2 (fun st' hk=>?_);obtain rfl:=OI h;exact gK hk
   ·refine N2 (fun st' hk=>?_);obtain rfl:=OI h;exact gK hk
def Jd(a3:TGraph):Option Bool:=
 ((Gw a3.Succ).bind fun x1=>((bif ((x1.2==0)==true) then In x1.1 a3 else some false).bind fun x2=>(some (bif (x1.2==0) then x2 else false))))
theorem Yf(a3:TGraph)(r:Bool)(h:Jd a3=some r):Spec Tryz.prog 86 [(Z61 a3)] [] (.bool r) []:=by
 refine Ac mix Tryz.func86 (fun Γ hq=>?_);unfold Jd at h;refine Af hq [1] [1] ?_;obtain⟨x1,hx1,h⟩:=bind_some h;refine gR hq Ko Kn [] [(Z36 x1.1 x1.2)] (c1 (Pt a3.Succ x1 hx1)) ?_;obtain⟨x2,hx2,h⟩:=bind_some h;refine gR hq [2] [] [] [(Z2 x2)] (ci (gI ((x1.2==0)==true)) (ci (gI ((x1.2==0)==true)) (ci (fun(hg:((x1.2==0)==true)=true)=>(W9 x1.1 a3 x2 (Bg hg hx2))) (c1 (M7 (x1.2==0)))))) ?_;cases h;exact Cf []
def C9(a3:TGraph)(x2:List Bool)(i4:Int)(l5:List (List Bool))(x9:List Bool):(Int×List Bool)->Option (LR (Int×List Bool) (List Bool)):=
 fun((i10,l11):(Int×List Bool))=>(bif (decide (i10<(a3.Succ.length:Int))) then(A6 (A2 i4 l5.length) (A6 (A2 i10 x2.length) (A6 (((x2.getD i10.toNat false)==true)=true->(A2 i10 x9.length)) (A6 (A2 i10 l11.length) (some (.next ((w64 (i10+1)),(l11.set i10.toNat (bif (x2.getD i10.toNat false) then(!(x9.getD i10.toNat false)) else false))))))))) else(some (.done l11)))
def Da(a3:TGraph)(a2:Int)(x2:List Bool):(Int×List (List Bool))->Option (LR (Int×List (List Bool)) (List (List Bool))):=
 fun((i4,l5):(Int×List (List Bool)))=>(bif (decide (i4<(a3.Succ.length:Int))) then(A6 (0<=(a3.Succ.length:Int)/\(a3.Succ.length:Int)<=(a3.Succ.length:Int)/\(a3.Succ.length:Int)<=(room:Int)) (A6 (A2 i4 l5.length) ((C6 a3 a2 i4).bind fun x9=>((Ah (C9 a3 x2 i4 l5 x9) ((0:Int),(List.replicate (a3.Succ.length:Int).toNat false))).bind (fun x17=>(some (.next ((w64 (i4+1)),(l5.set i4.toNat x17))))))))) else(some (.done l5)))
def Db(a3:TGraph)(l6:List (List Bool))(i22:Int)(i30:Int):(Bool×Int)->Option (LR (Bool×Int) Bool):=
 fun((b36,i37):(Bool×Int))=>(bif (decide (i37<(a3.Succ.length:Int))) then(A6 (((b36==true)&&((i37==i22)==false))=true->(A2 i37 l6.length)) (A6 (((b36==true)&&((i37==i22)==false))=true->(A2 i22 (l6.getD i37.toNat []).length)) (A6 (((b36==true)&&((bif (i37==i22) then true else(!((l6.getD i37.toNat []).getD i22.toNat false)))==false))=true->(A2 i37 l6.length)) (A6 (((b36==true)&&((bif (i37==i22) then true else(!((l6.getD i37.toNat []).getD i22.toNat false)))==false))=true->(A2 i30 (l6.getD i37.toNat []).length)) (some (.next ((bif b36 then(bif (bif (i37==i22) then true else(!((l6.getD i37.toNat []).getD i22.toNat false))) then true else((l6.getD i37.toNat []).getD i30.toNat false)) else false),(w64 (i37+1))))))))) else(some (.done b36)))
def Bw(a3:TGraph)(a2:Int)(l6:List (List Bool))(i22:Int):(Int×List Int)->Option (LR (Int×List Int) (List Int)):=
 fun((i30,l31):(Int×List Int))=>(bif (bif (decide (i30<(a3.Succ.length:Int))) then(i22 !=a2) else false) then(Option.bind (α:=List Int) (A6 (((i30==i22)==false)=true->(A2 i30 l6.length)) (A6 (((i30==i22)==false)=true->(A2 i22 (l6.getD i30.toNat []).length)) (bif (bif (i30==i22) then true else(!((l6.getD i30.toNat []).getD i22.toNat false))) then(some l31) else((Ah (Db a3 l6 i22 i30) (true,(0:Int))).bind (fun x43=>(bif x43 then(A6 (A2 i22 l31.length) (some (l31.set i22.toNat i30))) else(some l31))))))) (fun x46=>(some (.next ((w64 (i30+1)),x46))))) else(some (.done l31)))
def Dc(a3:TGraph)(a2:Int)(l6:List (List Bool)):(Int×List Int)->Option (LR (Int×List Int) (List Int)):=
 fun((i22,l23):(Int×List Int))=>(bif (decide (i22<(a3.Succ.length:Int))) then(A6 (A2 i22 l23.length) (Option.bind (α:=List Int) (bif (i22==a2) then(A6 (A2 i22 (l23.set i22.toNat (-2:Int)).length) (some ((l23.set i22.toNat (-2:Int)).set i22.toNat (-1:Int)))) else(some (l23.set i22.toNat (-2:Int)))) (fun x28=>((Ah (Bw a3 a2 l6 i22) ((0:Int),x28)).bind (fun x48=>(some (.next ((w64 (i22+1)),x48)))))))) else(some (.done l23)))
def Of(a3:TGraph):=(a3.Succ.length:Int)
def Q239:=(fun n_=>D5 n_ [37,75])
def Ox(l5:List (List Bool)):=(fun i=>eLB (l5.getD i []))
def Q219(a3:TGraph):=(List.replicate (Of a3).toNat false)
def Q235(a3:TGraph):List AV:=[(.vsl 46 (Q219 a3).length)]
def Q234(i30:Int)(i22:Int):=((i30==i22)==false)
def Q233(l23:List Int)(i22:Int):=(l23.set i22.toNat (-2:Int))
def Q238(l11:List Bool):=(fun i=>eB (l11.getD i false))
def Q237:=(fun n_=>D5 n_ [2,35,37,46])
def Q228:=(fun n_=>D5 n_ [2,35,37,46,51])
def Q230(a3:TGraph):=(fun i=>eB ((Q219 a3).getD i false))
def Q218(l11:List Bool)(i10:Int)(x2:List Bool)(x9:List Bool):=(l11.set i10.toNat (bif (x2.getD i10.toNat false) then(!(x9.getD i10.toNat false)) else false))
def Q231(l11:List Bool)(i10:Int)(x2:List Bool)(x9:List Bool):=(fun i=>eB ((Q218 l11 i10 x2 x9).getD i false))
def Q227(b36:Bool)(i37:Int)(i22:Int):=((b36==true)&&((i37==i22)==false))
def Q236:List (Nat×AV):=[(4,Z25)]
def Q232(x1:Bool)(a2:Int):=(bif (!x1) then true else(decide (a2<0)))
def O2(a3:TGraph):List AV:=[(Z20 a3.Succ),(Z20 a3.Pred)]
def Q240:=(Z28:St)
def Q222(b36:Bool)(i37:Int)(i22:Int)(x19:List (List Bool)):=((b36==true)&&((bif (i37==i22) then true else(!((x19.getD i37.toNat []).getD i22.toNat false)))==false))
def Q220(a2:Int)(a3:TGraph)(x2:List Bool)(l5:List (List Bool))(i4:Int):List (Nat×AV):=[(1,(Z7 a2)),Ra,(5,(Z7 (Of a3))),(6,(Z21 x2 35)),(Ti 37 l5.length),(8,(Z7 i4))]
def Q226(a2:Int)(a3:TGraph)(x2:List Bool)(l5:List (List Bool))(i4:Int):List (Nat×AV):=[(1,(Z7 a2)),Ra,(5,(Z7 (Of a3))),(6,(Z21 x2 35)),(Ti 37 l5.length),(8,(.int .i64 (w64 (i4+1))))]
def Q224(a2:Int)(a3:TGraph)(x2:List Bool)(l5:List (List Bool))(i4:Int)(x9:List Bool)(i10:Int):List (Nat×AV):=[(1,(Z7 a2)),Ra,(5,(Z7 (Of a3))),(6,(Z21 x2 35)),(Ti 37 l5.length),(8,(Z7 i4)),(9,(Z21 x9 51)),(10,(Z7 i10))]
def Q221(a2:Int)(a3:TGraph)(x2:List Bool)(l5:List (List Bool))(i4:Int)(x9:List Bool):List (Nat×AV):=[(1,(Z7 a2)),Ra,(5,(Z7 (Of a3))),(6,(Z21 x2 35)),(Ti 37 l5.length),(8,(Z7 i4)),(9,(Z21 x9 51)),(10,Pq)]
def Q223(a2:Int)(a3:TGraph)(x2:List Bool)(l5:List (List Bool))(i4:Int)(x9:List Bool)(i10:Int):List (Nat×AV):=[(1,(Z7 a2)),Ra,(5,(Z7 (Of a3))),(6,(Z21 x2 35)),(Ti 37 l5.length),(8,(Z7 i4)),(9,(Z21 x9 51)),(10,(.int .i64 (w64 (i10+1))))]
def Q241(a2:Int)(a3:TGraph)(x2:List Bool)(l5:List (List Bool))(i4:Int)(x9:List Bool)(i10:Int):List (Nat×AV):=[(1,(Z7 a2)),Ra,(5,(Z7 (Of a3))),(6,(Z21 x2 35)),(Ti 37 l5.length),(8,(Z7 i4)),(9,(Z21 x9 51)),(10,(Z7 i10)),(54,(.bool (decide (i10<(Of a3)))))]
def Ip(a3:TGraph)(a2:Int):Option (List Int):=
 ((Jd a3).bind fun x1=>(bif (bif (bif (!x1) then true else(decide (a2<0))) then true else(decide (((a3.Succ.length:Int):Int)<=a2))) then(some ([]:List Int)) else((C6 a3 a2 (-1:Int)).bind fun x2=>(A6 (0<=(a3.Succ.length:Int)/\(a3.Succ.length:Int)<=(a3.Succ.length:Int)/\(a3.Succ.length:Int)<=(room:Int)) ((Ah (Da a3 a2 x2) ((0:Int),(List.replicate (a3.Succ.length:Int).toNat ([]:List Bool)))).bind (fun x19=>(A6 (0<=(a3.Succ.length:Int)/\(a3.Succ.length:Int)<=(a3.Succ.length:Int)/\(a3.Succ.length:Int)<=(room:Int)) ((Ah (Dc a3 a2 x19) ((0:Int),(List.replicate (a3.Succ.length:Int).toNat (0:Int)))).bind (fun x50=>(some x50))))))))))
theorem Xb(a3:TGraph)(a2:Int)(r:List Int)(h:Ip a3 a2=some r):Spec Tryz.prog 53 [(Z61 a3),(Z7 a2)] [] (Z13 r 20000) [(20000,.tok 1 3 r.length)]:=by
 refine Ac mix Tryz.func53 (fun Γ hq=>?_);have hΓ:=hq.own;unfold Ip at h;refine gR hq M5 [2] Q236 [] (c1 (Dh 1 Au (0:Int))) ?_;obtain⟨x1,hx1,h⟩:=bind_some h;refine gR hq [1,2,29] [2] [] [(Z2 x1)] (ci (Yf a3 x1 hx1) (ci (gI ((!x1)==false)) (ci (J1 (!x1)) (ci (gI ((Q232 x1 a2)==false)) (ci (gI ((Q232 x1 a2)==false)) (ci (gI ((Q232 x1 a2)==false)) (ci (gI ((Q232 x1 a2)==false)) (c1 (J1 (Q232 x1 a2)))))))))) ?_;refine gC h ?_ ?_<;>intro h
 ·refine gR hq [4] [] Q236 [] (c1 (Dh 1 Au (0:Int))) ?_;refine Ri (⟨Q236,[],[]⟩:St) ?_;cases h;exact gK (e:=.ret) (J7 zzN103 (show Le Γ _ Q240 from Le.trans (B2 (st':=⟨Q236,[],[]⟩) [4] [] hq) (Le.trans (Nw (t:=4) (nm:=6004) (sz':=1) (fun i=>Au (([]:List Int).getD i 0)) 3 rfl rfl (.inl ⟨rfl,rfl⟩) (fun h_=>absurd h_ (by decide))) (B2 (st':=Q240) [4] [6004] hq))))
 ·refine Af hq zzN88 [2] ?_;obtain⟨x2,hx2,h⟩:=bind_some h;refine gR hq [1,2,5,6] [2,35] [] [⟨[],[(20000,35)],(Z21 x2 20000),[(Qc 20000 x2.length)],[],[]⟩] (c1 (Lv a3 a2 (-1:Int) x2 hx2)) ?_;obtain⟨hc3,h⟩:=Aa h;refine gR hq zzN175 zzN128 [] [] (c1 hc3) ?_;refine Or (Le.trans (Wv 37 (show ∀ k_,k_<((Of a3).toNat)->AVleL ((fun i_=>AV.eraseAll (fun n_=>D5 n_ zzN128) ((fun _=>[Z43]) i_)) k_) ((fun i=>eLB ((List.replicate (Of a3).toNat ([]:List Bool)).getD i [])) k_) from(fun k hk=>Rr (e:=eLB) (d:=[]) (.cons (fun _ _ _ _ _ hh=>AVle.untag _ _ _ _ _ (Hg _ _ _ _ _ hh)) .nil) _ k (Ru hk)))) (Ww (fun(k_:Nat) u=>(Eu u [(Ti 37 k_)] [(37,.arr 1 47 k_ (fun i=>eLB ((List.replicate (Of a3).toNat ([]:List Bool)).getD i [])))])) (show(Of a3).toNat=(List.replicate (Of a3).toNat ([]:List Bool)).length from(Rj ..).symm))) ?_;refine Af hq zzN71 zzN128 ?_;obtain⟨x19,hx19,h⟩:=bind_some h;refine gL hq hx19 zzN71 zzN128 (fun u (i4,l5)=>(Eu u [(Ti 37 l5.length),(8,(Z7 i4))] [(37,.arr 1 47 l5.length (Ox l5))])) (fun u l6=>aG Γ (.exit 0) (Oz [1,5,7] [37] u [(Ti 37 l6.length)] [(37,.arr 1 47 l6.length (fun i=>eLB (l6.getD i [])))])) ?_ ?_
  ·rintro⟨i4,l5⟩ y h;unfold Da at h;refine Af hq [1,2,5,6,7,8,40] zzN128 ?_;refine gC h ?_ ?_<;>intro h
   ·obtain⟨hc7,h⟩:=Aa h;obtain⟨hc8,h⟩:=Aa h;refine gR hq zzN71 zzN181 [] [] (ci hc7 (ci hc8 (c1 (Eq.refl l5.length)))) ?_;refine Ri (⟨(Q220 a2 a3 x2 l5 i4),[(M6 41 (O2 a3)),(Qc 35 x2.length),(37,.arr 1 47 l5.length (fun i_=>AV.eraseAll Q237 ((G5 (Ox l5) i4.toNat 0 [(.vsl 46 (Of a3).toNat)]) i_))),(46,.arr 1 4 ((Of a3).toNat) (fun i_=>AV.eraseAll Q237 ((fun _=>[(.bool false)]) i_)))],[]⟩:St) ?_;refine Or (Le.trans (Le.trans (Jo (st':=⟨(Q220 a2 a3 x2 l5 i4),[(M6 41 (O2 a3)),(Qc 35 x2.length),(37,.arr 1 47 l5.length (fun i_=>AV.eraseAll Q237 ((G5 (Ox l5) i4.toNat 0 [(.vsl 46 (Of a3).toNat)]) i_))),(46,.arr 1 4 ((Of a3).toNat) (Q230 a3))],[]⟩) (TmpsLe.refl _) (.same (.same (.same (.arr (fun k hk=>Rr (e:=eB) (d:=false) (.cons (AVle.refl _) .nil) _ k (Ru hk)) .nil))))) (J5 (Cq (fun k_:Nat=>(⟨(Q220 a2 a3 x2 l5 i4),[(M6 41 (O2 a3)),(Qc 35 x2.length),(Z29 l5.length Q237 (Ox l5) i4.toNat k_),(46,.arr 1 4 k_ (Q230 a3))],[]⟩:St)) (show(Of a3).toNat=(Q219 a3).length from(Rj ..).symm)))) (Jo (st':=⟨(Q220 a2 a3 x2 l5 i4),[(M6 41 (O2 a3)),(Qc 35 x2.length),(37,.arr 1 47 l5.length (G5 (Ox l5) i4.toNat 0 (Q235 a3))),(46,.arr 1 4 ((Q219 a3).length) (Q230 a3))],[]⟩) (TmpsLe.refl _) (.same (.same (.arr (L9 (fun _=>rfl) rfl) (.same .nil)))))) ?_;obtain⟨x9,hx9,h⟩:=bind_some h;refine gR hq [1,2,5,6,7,8,9] zzN48 [] [⟨[],[(20000,51)],(Z21 x9 20000),[(Qc 20000 x9.length)],[],[]⟩] (c1 (Lv a3 a2 i4 x9 hx9)) ?_;refine Ri (⟨[(1,(Z7 a2)),Ra,(5,(Z7 (Of a3))),(6,(Z21 x2 35)),(Ti 37 l5.length),(8,(Z7 i4)),(9,(Z21 x9 51))],[(M6 41 (O2 a3)),(Qc 35 x2.length),(37,.arr 1 47 l5.length (fun i_=>AV.eraseAll Q228 ((G5 (Ox l5) i4.toNat 0 (Q235 a3)) i_))),(46,.arr 1 4 ((Q219 a3).length) (Q230 a3)),(Qc 51 x9.length)],[]⟩:St) ?_;refine Or (Jo (st':=⟨[(1,(Z7 a2)),Ra,(5,(Z7 (Of a3))),(6,(Z21 x2 35)),(Ti 37 l5.length),(8,(Z7 i4)),(9,(Z21 x9 51))],[(M6 41 (O2 a3)),(Qc 35 x2.length),(37,.arr 1 47 l5.length (G5 (Ox l5) i4.toNat 0 (Q235 a3))),(46,.arr 1 4 ((Q219 a3).length) (Q230 a3)),(Qc 51 x9.length)],[]⟩) (TmpsLe.refl _) (.same (.same (.arr (L9 (fun _=>rfl) rfl) (.same (.same .nil)))))) ?_;refine Af hq zzN55 zzN48 ?_;refine Ri (⟨(Q221 a2 a3 x2 l5 i4 x9),[(M6 41 (O2 a3)),(Qc 35 x2.length),(37,.arr 1 47 l5.length (fun i_=>AV.eraseAll Q228 ((G5 (Ox l5) i4.toNat 0 (Q235 a3)) i_))),(46,.arr 1 4 ((Q219 a3).length) (Q230 a3)),(Qc 51 x9.length)],[]⟩:St) ?_;refine Or (Jo (st':=⟨(Q221 a2 a3 x2 l5 i4 x9),[(M6 41 (O2 a3)),(Qc 35 x2.length),(37,.arr 1 47 l5.length (G5 (Ox l5) i4.toNat 0 (Q235 a3))),(46,.arr 1 4 ((Q219 a3).length) (Q230 a3)),(Qc 51 x9.length)],[]⟩) (TmpsLe.refl _) (.same (.same (.arr (L9 (fun _=>rfl) rfl) (.same (.same .nil)))))) ?_;refine Or (st':=⟨(Q221 a2 a3 x2 l5 i4 x9),[(M6 41 (O2 a3)),(Qc 35 x2.length),(37,.arr 1 47 l5.length (G5 (Ox l5) i4.toNat 0 (Q235 a3))),(46,.arr 1 4 ((Q219 a3).length) (Q230 a3)),(Qc 51 x9.length)],[]⟩) (Le.trans (Le.trans (B2 (st':=⟨(Q221 a2 a3 x2 l5 i4 x9),[(M6 41 (O2 a3)),(Qc 35 x2.length),(37,.arr 1 47 l5.length (fun i_=>AV.eraseAll Q228 ((G5 (Ox l5) i4.toNat 0 (Q235 a3)) i_))),(46,.arr 1 4 ((Q219 a3).length) (Q230 a3)),(Qc 51 x9.length)],[]⟩) zzN55 zzN48 hq) (Jo (st':=⟨(Q221 a2 a3 x2 l5 i4 x9),[(M6 41 (O2 a3)),(Qc 35 x2.length),(37,.arr 1 47 l5.length (G5 (Ox l5) i4.toNat 0 (Q235 a3))),(46,.arr 1 4 ((Q219 a3).length) (Q230 a3)),(Qc 51 x9.length)],[]⟩) (TmpsLe.refl _) (.same (.same (.arr (L9 (fun _=>rfl) rfl) (.same (.same .nil))))))) (J5 (by kernel_rfl))) ?_;obtain⟨x17,hx17,h⟩:=bind_some h;refine gL0 hx17 (fun u (i10,l11)=>(Eu u [(10,(Z7 i10))] [(Z78 l5.length (Ox l5) i4.toNat l11.length),(46,.arr 1 4 l11.length (Q238 l11))])) (fun u l12=>aG Γ (.exit 2) (⟨(Q220 a2 a3 x2 l5 i4),[(M6 41 (O2 a3)),(Qc 35 x2.length),(Z78 l5.length (Ox l5) i4.toNat l12.length),(Z11 46 l12)],[]⟩:St)) ?_ ?_
    ·rintro⟨i10,l11⟩ y h;unfold C9 at h;refine Af hq [1,2,5,6,7,8,9,10,54] zzN48 ?_;refine Ri (⟨(Q241 a2 a3 x2 l5 i4 x9 i10),[(M6 41 (O2 a3)),(Qc 35 x2.length),(Z29 l5.length Q228 (Ox l5) i4.toNat l11.length),(46,.arr 1 4 l11.length (Q238 l11)),(Qc 51 x9.length)],[]⟩:St) ?_;refine Or (Jo (st':=⟨(Q241 a2 a3 x2 l5 i4 x9 i10),[(M6 41 (O2 a3)),(Qc 35 x2.length),(Z78 l5.length (Ox l5) i4.toNat l11.length),(46,.arr 1 4 l11.length (Q238 l11)),(Qc 51 x9.length)],[]⟩) (TmpsLe.refl _) (.same (.same (.arr (L9 (fun _=>rfl) rfl) (.same (.same .nil)))))) ?_;refine gC h ?_ ?_<;>intro h
     ·obtain⟨hc13,h⟩:=Aa h;obtain⟨hc14,h⟩:=Aa h;obtain⟨hc15,h⟩:=Aa h;obtain⟨hc16,h⟩:=Aa h;refine gR hq zzN55 zzN48 [(60,(.vsl 46 l11.length))] [] (ci hc13 (ci (Eq.refl l5.length) (ci (show(AVle (((G5 (Ox l5) i4.toNat 0 [(.vsl 46 l11.length)]) i4.toNat).getD 0 .any) (.vsl 46 l11.length)) from lent_load) (ci hc14 (ci (gI ((x2.getD i10.toNat false)==true)) (ci (gI ((x2.getD i10.toNat false)==true)) (ci hc15 (ci (gI ((x2.getD i10.toNat false)==true)) (ci (gI ((x2.getD i10.toNat false)==true)) (ci (M7 (x2.getD i10.toNat false)) (ci hc16 (c1 (Eq.refl l11.length))))))))))))) ?_;refine Ri (⟨(Q224 a2 a3 x2 l5 i4 x9 i10),[(M6 41 (O2 a3)),(Qc 35 x2.length),(Z29 l5.length Q228 (Ox l5) i4.toNat l11.length),(46,.arr 1 4 l11.length (fun i_=>AV.eraseAll Q228 ((G5 (Q238 l11) i10.toNat 0 [(.bool (bif (x2.getD i10.toNat false) then(!(x9.getD i10.toNat false)) else false))]) i_))),(Qc 51 x9.length)],[]⟩:St) ?_;refine Or (Le.trans (Le.trans (Jo (st':=⟨(Q224 a2 a3 x2 l5 i4 x9 i10),[(M6 41 (O2 a3)),(Qc 35 x2.length),(Z29 l5.length Q228 (Ox l5) i4.toNat l11.length),(46,.arr 1 4 l11.length (Q231 l11 i10 x2 x9)),(Qc 51 x9.length)],[]⟩) (TmpsLe.refl _) (.same (.same (.same (.arr (Cn (Hb ..).symm (fun k_ hk_=>(Cq (AV.eraseAll Q228) ((Kl (fun _ _=>rfl) (Md hc16) rfl) k_ hk_)).trans rfl)) (.same .nil)))))) (J5 (Cq (fun k_:Nat=>(⟨(Q224 a2 a3 x2 l5 i4 x9 i10),[(M6 41 (O2 a3)),(Qc 35 x2.length),(Z29 l5.length Q228 (Ox l5) i4.toNat k_),(46,.arr 1 4 k_ (Q231 l11 i10 x2 x9)),(Qc 51 x9.length)],[]⟩:St)) (show l11.length=(Q218 l11 i10 x2 x9).length from(Hb ..).symm)))) (Jo (st':=⟨(Q224 a2 a3 x2 l5 i4 x9 i10),[(M6 41 (O2 a3)),(Qc 35 x2.length),(37,.arr 1 47 l5.length (G5 (Ox l5) i4.toNat 0 [(.vsl 46 (Q218 l11 i10 x2 x9).length)])),(46,.arr 1 4 ((Q218 l11 i10 x2 x9).length) (Q231 l11 i10 x2 x9)),(Qc 51 x9.length)],[]⟩) (TmpsLe.refl _) (.same (.same (.arr (L9 (fun _=>rfl) rfl) (.same (.same .nil))))))) ?_;refine Af hq zzN55 zzN48 ?_;refine Ri (⟨(Q223 a2 a3 x2 l5 i4 x9 i10),[(M6 41 (O2 a3)),(Qc 35 x2.length),(37,.arr 1 47 l5.length (fun i_=>AV.eraseAll Q228 ((G5 (Ox l5) i4.toNat 0 [(.vsl 46 (Q218 l11 i10 x2 x9).length)]) i_))),(46,.arr 1 4 ((Q218 l11 i10 x2 x9).length) (Q231 l11 i10 x2 x9)),(Qc 51 x9.length)],[]⟩:St) ?_;cases h;exact gN (Le.trans (Jo (st':=⟨(Q223 a2 a3 x2 l5 i4 x9 i10),[(M6 41 (O2 a3)),(Qc 35 x2.length),(37,.arr 1 47 l5.length (G5 (Ox l5) i4.toNat 0 [(.vsl 46 (Q218 l11 i10 x2 x9).length)])),(46,.arr 1 4 ((Q218 l11 i10 x2 x9).length) (Q231 l11 i10 x2 x9)),(Qc 51 x9.length)],[]⟩) (TmpsLe.refl _) (.same (.same (.arr (L9 (fun _=>rfl) rfl) (.same (.same .nil)))))) (Le.trans (Le.trans (B2 (st':=⟨(Q223 a2 a3 x2 l5 i4 x9 i10),[(M6 41 (O2 a3)),(Qc 35 x2.length),(37,.arr 1 47 l5.length (fun i_=>AV.eraseAll Q228 ((G5 (Ox l5) i4.toNat 0 [(.vsl 46 (Q218 l11 i10 x2 x9).length)]) i_))),(46,.arr 1 4 ((Q218 l11 i10 x2 x9).length) (Q231 l11 i10 x2 x9)),(Qc 51 x9.length)],[]⟩) zzN55 zzN48 hq) (Jo (st':=⟨(Q223 a2 a3 x2 l5 i4 x9 i10),[(M6 41 (O2 a3)),(Qc 35 x2.length),(37,.arr 1 47 l5.length (G5 (Ox l5) i4.toNat 0 [(.vsl 46 (Q218 l11 i10 x2 x9).length)])),(46,.arr 1 4 ((Q218 l11 i10 x2 x9).length) (Q231 l11 i10 x2 x9)),(Qc 51 x9.length)],[]⟩) (TmpsLe.refl _) (.same (.same (.arr (L9 (fun _=>rfl) rfl) (.same (.same .nil))))))) (J5 (by kernel_rfl))))
     ·cases h;exact gO (Bk (Le.trans (Le.trans (B2 (st':=⟨(Q220 a2 a3 x2 l5 i4),[(M6 41 (O2 a3)),(Qc 35 x2.length),(Z29 l5.length Q237 (Ox l5) i4.toNat l11.length),(46,.arr 1 4 l11.length (Q238 l11))],[]⟩) zzN71 zzN181 hq) (Jo (st':=⟨(Q220 a2 a3 x2 l5 i4),[(M6 41 (O2 a3)),(Qc 35 x2.length),(Z78 l5.length (Ox l5) i4.toNat l11.length),(46,.arr 1 4 l11.length (Q238 l11))],[]⟩) (TmpsLe.refl _) (.same (.same (.arr (L9 (fun _=>rfl) rfl) (.same .nil)))))) (J5 (by kernel_rfl))))
    ·clear hx17;refine gA ?_;refine Af hq zzN71 zzN181 ?_;refine Ri (⟨(Q226 a2 a3 x2 l5 i4),[(M6 41 (O2 a3)),(Qc 35 x2.length),(Z29 l5.length Q237 (Ox l5) i4.toNat x17.length),(Z11 46 x17)],[]⟩:St) ?_;cases h;exact gN (Le.trans (Le.trans (Jo (st':=⟨(Q226 a2 a3 x2 l5 i4),[(M6 41 (O2 a3)),(Qc 35 x2.length),(Z78 l5.length (Ox l5) i4.toNat x17.length),(Z11 46 x17)],[]⟩) (TmpsLe.refl _) (.same (.same (.arr (L9 (fun _=>rfl) rfl) (.same .nil))))) (Le.trans (Le.trans (Le.trans (J9 (nm:=46) (sz:=1) (n:=x17.length) (e:=4) (f:=(fun i=>eB (x17.getD i false))) (g:=(fun i=>eB (x17.getD i false))) rfl trivial (fun _ _=>rfl) (by rw[hΓ];rfl)) (J5 (st':=⟨(Q226 a2 a3 x2 l5 i4),[(M6 41 (O2 a3)),(Qc 35 x2.length),(37,.arr 1 47 l5.length (fun i_=>AV.frwAll 46 1 x17.length (fun i=>eB (x17.getD i false)) ((G5 (Ox l5) i4.toNat 0 [(.vsl 46 x17.length)]) i_))),(Qc 46 x17.length)],[]⟩) (by kernel_rfl))) (Jo (st':=⟨(Q226 a2 a3 x2 l5 i4),[(M6 41 (O2 a3)),(Qc 35 x2.length),(37,.arr 1 47 l5.length (fun i=>eLB ((l5.set i4.toNat x17).getD i []))),(Qc 46 x17.length)],[]⟩) (TmpsLe.refl _) (.same (.same (.arr (lent_put (fun _=>rfl) (fun _=>rfl) rfl) (.same .nil)))))) (J5 (Cq (fun k_:Nat=>(⟨[(1,(Z7 a2)),Ra,(5,(Z7 (Of a3))),(6,(Z21 x2 35)),(Ti 37 k_),(8,(.int .i64 (w64 (i4+1))))],[(M6 41 (O2 a3)),(Qc 35 x2.length),(37,.arr 1 47 k_ (fun i=>eLB ((l5.set i4.toNat x17).getD i []))),(Qc 46 x17.length)],[]⟩:St)) (show l5.length=(l5.set i4.toNat x17).length from(Hb ..).symm))))) (B2 zzN71 zzN128 hq))
   ·cases h;exact gO (Bk (B2 [1,5,7] [37] hq))
  ·clear hx19;refine gA ?_;obtain⟨hc21,h⟩:=Aa h;refine gR hq [1,5,7,11] Kw [] [] (c1 hc21) ?_;refine Or (Le.trans (Wv 75 (show ∀ k_,k_<((Of a3).toNat)->AVleL ((fun i_=>AV.eraseAll Q239 ((fun _=>[Pq]) i_)) k_) ((fun i=>Au ((List.replicate (Of a3).toNat (0:Int)).getD i 0)) k_) from(fun k hk=>Rr (e:=Au) (d:=(0:Int)) (.cons (AVle.refl _) .nil) _ k (Ru hk)))) (Ww (fun(k_:Nat) u=>(Eu u [(11,(.vsl 75 k_))] [(75,.arr 1 3 k_ (fun i=>Au ((List.replicate (Of a3).toNat (0:Int)).getD i 0)))])) (show(Of a3).toNat=(List.replicate (Of a3).toNat (0:Int)).length from(Rj ..).symm))) ?_;refine Af hq zzN47 Kw ?_;obtain⟨x50,hx50,h⟩:=bind_some h;refine gL hq hx50 zzN47 Kw (fun u (i22,l23)=>(Eu u [(11,(.vsl 75 l23.length)),(12,(Z7 i22))] [(Z4 75 l23)])) (fun u l24=>aG Γ (.exit 4) (⟨[(11,(.vsl 75 l24.length))],[(Z4 75 l24)],[]⟩:St)) ?_ ?_
   ·rintro⟨i22,l23⟩ y h;unfold Dc at h;refine Af hq [1,5,7,11,12,78] Kw ?_;refine gC h ?_ ?_<;>intro h
    ·obtain⟨hc25,h⟩:=Aa h;refine gR hq zzN47 Kw [] [] (ci hc25 (c1 (Eq.refl l23.length))) ?_;refine Or (Le.trans (Wv 75 (show ∀ k_,k_<l23.length->AVleL ((fun i_=>AV.eraseAll Q239 ((G5 (fun i=>Au (l23.getD i 0)) i22.toNat 0 [(.int .i64 (-2:Int))]) i_)) k_) ((fun i=>Au ((Q233 l23 i22).getD i 0)) k_) from(Cn (Hb ..).symm (fun k_ hk_=>(Cq (AV.eraseAll Q239) ((Kl (fun _ _=>rfl) (Md hc25) rfl) k_ hk_)).trans rfl)))) (Ww (fun(k_:Nat) u=>(Eu u [(11,(.vsl 75 k_))] [(75,.arr 1 3 k_ (fun i=>Au ((Q233 l23 i22).getD i 0)))])) (show l23.length=(Q233 l23 i22).length from(Hb ..).symm))) ?_;obtain⟨x28,hx28,h⟩:=bind_some h;refine gJ hx28 (fun l26=>aG Γ .normal (⟨[(1,(Z7 a2)),(5,(Z7 (Of a3))),(Ti 37 x19.length),(11,(.vsl 75 l26.length)),(12,(Z7 i22))],[(37,.arr 1 47 x19.length (fun i=>eLB (x19.getD i []))),(Z4 75 l26)],[]⟩:St)) ?_ ?_
     ·clear h hx28;intro y h;refine Af hq [1,5,7,11,12,86] Kw ?_;refine gC h ?_ ?_<;>intro h
      ·obtain⟨hc27,h⟩:=Aa h;refine gR hq zzN47 Kw [] [] (ci hc27 (c1 (Eq.refl ((Q233 l23 i22).length)))) ?_;cases h;exact gK (Bk (Le.trans (Le.trans (Wv 75 (show ∀ k_,k_<((Q233 l23 i22).length)->AVleL ((fun i_=>AV.eraseAll Q239 ((G5 (fun i=>Au ((Q233 l23 i22).getD i 0)) i22.toNat 0 [(.int .i64 (-1:Int))]) i_)) k_) ((fun i=>Au (((Q233 l23 i22).set i22.toNat (-1:Int)).getD i 0)) k_) from(Cn (Hb ..).symm (fun k_ hk_=>(Cq (AV.eraseAll Q239) ((Kl (fun _ _=>rfl) (Md hc27) rfl) k_ hk_)).trans rfl)))) (Ww (fun(k_:Nat) u=>(Eu u [(11,(.vsl 75 k_))] [(75,.arr 1 3 k_ (fun i=>Au (((Q233 l23 i22).set i22.toNat (-1:Int)).getD i 0)))])) (show(Q233 l23 i22).length=((Q233 l23 i22).set i22.toNat (-1:Int)).length from(Hb ..).symm))) Cr))
      ·cases h;exact gK (Bk (B2 zzN47 Kw hq))
     ·clear hx28;refine gA ?_;refine Af hq zzN54 Kw ?_;obtain⟨x48,hx48,h⟩:=bind_some h;refine gL hq hx48 zzN54 Kw (fun u (i30,l31)=>(Eu u [(11,(.vsl 75 l31.length)),(13,(Z7 i30))] [(Z4 75 l31)])) (fun u l32=>aG Γ (.exit 6) (Oz zzN47 Kw u [(11,(.vsl 75 l32.length))] [(Z4 75 l32)])) ?_ ?_
      ·rintro⟨i30,l31⟩ y h;unfold Bw at h;refine gR hq [1,5,7,11,12,13,97] Kw [] [] (ci (gI ((decide (i30<(Of a3)))==true)) (ci (gI ((decide (i30<(Of a3)))==true)) (c1 (M7 (decide (i30<(Of a3))))))) ?_;refine gC h ?_ ?_<;>intro h
       ·obtain⟨x46,hx46,h⟩:=bind_some h;refine gJ hx46 (fun l33=>aG Γ .normal (⟨[(1,(Z7 a2)),(5,(Z7 (Of a3))),(Ti 37 x19.length),(11,(.vsl 75 l33.length)),(12,(Z7 i22)),(13,(Z7 i30))],[(37,.arr 1 47 x19.length (fun i=>eLB (x19.getD i []))),(Z4 75 l33)],[]⟩:St)) ?_ ?_
        ·clear h hx46;intro y h;obtain⟨hc34,h⟩:=Aa h;obtain⟨hc35,h⟩:=Aa h;refine gR hq [1,5,7,11,12,13,112] Kw [] [] (ci (gI (Q234 i30 i22)) (ci (gI (Q234 i30 i22)) (ci hc34 (ci (gI (Q234 i30 i22)) (ci (show((Q234 i30 i22)=true->(x19.length=x19.length)) from(fun hg=>rfl)) (ci (gI (Q234 i30 i22)) (ci (gI (Q234 i30 i22)) (ci hc35 (ci (gI (Q234 i30 i22)) (ci (gI (Q234 i30 i22)) (c1 (J1 (i30==i22))))))))))))) ?_;refine gC h ?_ ?_<;>intro h
         ·obtain rfl:=OI h;exact gK (Bk (B2 zzN54 Kw hq))
         ·refine Af hq zzN110 Kw ?_;refine Af hq zzN62 Kw ?_;obtain⟨x43,hx43,h⟩:=bind_some h;refine gL hq hx43 zzN62 Kw (fun u (b36,i37)=>(Eu u [(14,(.bool b36)),(15,(Z7 i37))] [])) (fun u b38=>aG Γ (.exit 8) (Oz zzN110 Kw u [(14,(.bool b38))] [])) ?_ ?_
          ·rintro⟨b36,i37⟩ y h;unfold Db at h;refine Af hq [1,5,7,11,12,13,14,15,115] Kw ?_;refine gC h ?_ ?_<;>intro h
           ·obtain⟨hc39,h⟩:=Aa h;obtain⟨hc40,h⟩:=Aa h;obtain⟨hc41,h⟩:=Aa h;obtain⟨hc42,h⟩:=Aa h;refine gR hq zzN62 Kw [] [] (ci (gI (b36==true)) (ci (gI (b36==true)) (ci (gI (b36==true)) (ci (gI (Q227 b36 i37 i22)) (ci (gI (Q227 b36 i37 i22)) (ci hc39 (ci (gI (Q227 b36 i37 i22)) (ci (show((Q227 b36 i37 i22)=true->(x19.length=x19.length)) from(fun hg=>rfl)) (ci (gI (Q227 b36 i37 i22)) (ci (gI (Q227 b36 i37 i22)) (ci hc40 (ci (gI (Q227 b36 i37 i22)) (ci (gI (Q227 b36 i37 i22)) (ci (gI (b36==true)) (ci (show((b36==true)=true->((i37==i22)=false->(Q227 b36 i37 i22)=true)) from(fun hg=>(aF hg))) (ci (gI (b36==true)) (ci (gI (Q222 b36 i37 i22 x19)) (ci (gI (Q222 b36 i37 i22 x19)) (ci hc41 (ci (gI (Q222 b36 i37 i22 x19)) (ci (show((Q222 b36 i37 i22 x19)=true->(x19.length=x19.length)) from(fun hg=>rfl)) (ci (gI (Q222 b36 i37 i22 x19)) (ci (gI (Q222 b36 i37 i22 x19)) (ci hc42 (ci (gI (Q222 b36 i37 i22 x19)) (ci (gI (b36==true)) (ci (show((b36==true)=true->((bif (i37==i22) then true else(!((x19.getD i37.toNat []).getD i22.toNat false)))=false->(Q222 b36 i37 i22 x19)=true)) from(fun hg=>(aF hg))) (c1 (M7 b36))))))))))))))))))))))))))))) ?_;refine Af hq zzN62 Kw ?_;cases h;exact gN Cr
           ·cases h;exact gO (Bk (B2 zzN110 Kw hq))
          ·clear hx43;refine gA ?_;refine Af hq [1,5,7,11,12,13,143] Kw ?_;refine gC h ?_ ?_<;>intro h
           ·obtain⟨hc45,h⟩:=Aa h;refine gR hq zzN54 Kw [] [] (ci hc45 (c1 (Eq.refl l31.length))) ?_;cases h;exact gK (Bk (Le.trans (Le.trans (Wv 75 (show ∀ k_,k_<l31.length->AVleL ((fun i_=>AV.eraseAll Q239 ((G5 (fun i=>Au (l31.getD i 0)) i22.toNat 0 [(Z7 i30)]) i_)) k_) ((fun i=>Au ((l31.set i22.toNat i30).getD i 0)) k_) from(Cn (Hb ..).symm (fun k_ hk_=>(Cq (AV.eraseAll Q239) ((Kl (fun _ _=>rfl) (Md hc45) rfl) k_ hk_)).trans rfl)))) (Ww (fun(k_:Nat) u=>(Eu u [(11,(.vsl 75 k_))] [(75,.arr 1 3 k_ (fun i=>Au ((l31.set i22.toNat i30).getD i 0)))])) (show l31.length=(l31.set i22.toNat i30).length from(Hb ..).symm))) Cr))
           ·obtain rfl:=OI h;exact gK (Bk (B2 zzN54 Kw hq))
        ·clear hx46;refine gA ?_;refine Af hq zzN54 Kw ?_;cases h;exact gN Cr
       ·cases h;exact gO (Bk (B2 zzN47 Kw hq))
      ·clear hx48;refine gA ?_;refine Af hq zzN47 Kw ?_;cases h;exact gN Cr
    ·cases h;exact gO (Bk (B2 [11] [75] hq))
   ·clear hx50;refine gA ?_;refine Af hq [4] [75] ?_;refine Ri (⟨[(4,(.vsl 75 x50.length))],[(Z4 75 x50)],[]⟩:St) ?_;obtain rfl:=OI h;exact gK (e:=.ret) (J7 [(75,20000)] (Le.trans (J9 (nm:=75) (sz:=1) (n:=x50.length) (e:=3) (f:=(fun i=>Au (x50.getD i 0))) (g:=(fun i=>Au (x50.getD i 0))) rfl ⟨rfl,trivial⟩ (fun _ _=>rfl) (by rw[hΓ];rfl)) (J5 (st':=(Z74 x50 75 x50.length)) (by kernel_rfl))))
def B9(a6:List Int):(Int×List Int)->Option (LR (Int×List Int) (Unit ⊕ List Int)):=
 fun((i1,l2):(Int×List Int))=>(bif (bif (bif (decide (((l2.length:Int):Int)<(a6.length:Int))) then(decide (((0:Int):Int)<=i1)) else false) then(decide (i1<(a6.length:Int))) else false) then(A6 (l2.length+([i1]:List Int).length<=room) (A6 (A2 i1 a6.length) (bif (((a6.getD i1.toNat 0):Int)==-1) then(some (.done (.inr (l2++([i1]:List Int))))) else(A6 (A2 i1 a6.length) (some (.next ((a6.getD i1.toNat 0),(l2++([i1]:List Int))))))))) else(some (.done (.inl ()))))
def Xm(Γ:Iw)(a6:List Int)(aI:Int)(r:List Int):Exit->St->Prop:=fK Tryz.prog Γ Tryz.f88.results.toList [] (Z13 r 20000) [(20000,.tok 1 3 r.length)]
def Q243:AV:=Z25
def Q242(l2:List Int)(a6:List Int)(i1:Int):=(bif (decide (((l2.length:Int):Int)<(a6.length:Int))) then(decide (((0:Int):Int)<=i1)) else false)
def Q245:=(Z28:St)
def Q244(a6:List Int)(aI:Int):=(⟨[(0,(Z8 a6)),(1,(Z7 aI)),(5,(AV.list 1 Au 0 ([]:List Int) (.own 5005)))],[(5005,.tok 1 3 (([]:List Int).length))],[]⟩:St)
def Fj(a6:List Int)(aI:Int):Option (List Int):=
 ((Ah (B9 a6) (aI,([]:List Int))).bind (fun x6=>(match x6 with|(.inl _)=>(some ([]:List Int))|(.inr r8)=>(some r8))))
theorem Mb(a6:List Int)(aI:Int)(r:List Int)(h:Fj a6 aI=some r):Spec Tryz.prog 88 [(Z8 a6),(Z7 aI)] [] (Z13 r 20000) [(20000,.tok 1 3 r.length)]:=by
 refine Ac mix Tryz.func88 (fun Γ hq=>?_);unfold Fj at h;refine gR hq Jy [] [(4,Q243)] [] (c1 (Dh 1 Au (0:Int))) ?_;refine gR hq Ow [] [(5,Q243)] [] (c1 (Dh 1 Au (0:Int))) ?_;refine Or (st':=(Q244 a6 aI)) (Le.trans (B2 (st':=⟨[(0,(Z8 a6)),(1,(Z7 aI)),(5,Q243)],[],[]⟩) Ow [] hq) (Le.trans (Nw (t:=5) (nm:=5005) (sz':=1) (fun i=>Au (([]:List Int).getD i 0)) 3 rfl rfl (.inl ⟨rfl,rfl⟩) (fun h_=>absurd h_ (by decide))) (B2 (st':=(Q244 a6 aI)) Ow [5005] hq))) ?_;obtain⟨x6,hx6,h⟩:=bind_some h;refine gL hq hx6 Ow [5005] (fun u (i1,l2)=>(Eu u [(1,(Z7 i1)),(5,(Z13 l2 5005))] [(5005,.tok 1 3 l2.length)])) (fun u x_=>match x_ with|(.inl _)=>aG Γ (.exit 0) (⟨[],[],[]⟩:St)|(.inr r_)=>aR (Xm Γ a6 aI r_)) ?_ ?_
 ·rintro⟨i1,l2⟩ y h;unfold B9 at h;refine gR hq [0,1,5,20] [5005] [] [] (ci (gI ((decide (((l2.length:Int):Int)<(a6.length:Int)))==true)) (ci (M7 (decide (((l2.length:Int):Int)<(a6.length:Int)))) (ci (gI ((Q242 l2 a6 i1)==true)) (ci (gI ((Q242 l2 a6 i1)==true)) (ci (gI ((Q242 l2 a6 i1)==true)) (c1 (M7 (Q242 l2 a6 i1)))))))) ?_;refine gC h ?_ ?_<;>intro h
  ·obtain⟨hc3,h⟩:=Aa h;refine gR hq Ow [5005] [(23,(Z26 i1)),(24,(AV.list 1 Au 0 (l2++([i1]:List Int)) (.own 5005)))] [] (ci (Bx 1 Au (0:Int) ([i1]:List Int)) (ci (Eq.refl l2.length) (ci hc3 (ci (Ix 1 5005 Au (0:Int) l2 ([i1]:List Int)) (c1 (Fe l2 ([i1]:List Int))))))) ?_;obtain⟨hc4,h⟩:=Aa h;refine gR hq [0,1,5,29] [5005] [] [] (c1 hc4) ?_;refine gC h ?_ ?_<;>intro h
   ·refine Af hq [4] [5005] ?_;cases h;exact gO (L0 (J7 [(5005,20000)] (Le.refl _ _)))
   ·obtain⟨hc5,h⟩:=Aa h;refine gR hq Ow [5005] [] [] (c1 hc5) ?_;cases h;exact gN Cr
  ·cases h;exact gO (Bk (B2 [] [] hq))
 ·clear hx6;rcases x6 with _|r8
  ·refine gA ?_;refine gR hq [4] [] [(4,Q243)] [] (c1 (Dh 1 Au (0:Int))) ?_;refine Ri (⟨[(4,Q243)],[],[]⟩:St) ?_;cases h;exact gK (e:=.ret) (J7 zzN103 (show Le Γ _ Q245 from Le.trans (B2 (st':=⟨[(4,Q243)],[],[]⟩) [4] [] hq) (Le.trans (Nw (t:=4) (nm:=6004) (sz':=1) (fun i=>Au (([]:List Int).getD i 0)) 3 rfl rfl (.inl ⟨rfl,rfl⟩) (fun h_=>absurd h_ (by decide))) (B2 (st':=Q245) [4] [6004] hq))))
  ·refine N2 (fun st' hk=>?_);obtain rfl:=OI h;exact gK hk
def Bn(a6:List Int):(Int×Int)->Option (LR (Int×Int) (Int ⊕ Bool)):=
 fun((i1,i2):(Int×Int))=>(bif (decide (i2<(a6.length:Int))) then(Option.bind (α:=Int) (A6 (A2 i2 a6.length) (bif (((a6.getD i2.toNat 0):Int)==-1) then(some (w64 (i1+1))) else(some i1))) (fun x6=>(A6 (A2 i2 a6.length) ((bif ((((a6.getD i2.toNat 0):Int)!=-2)==true) then Fj a6 i2 else some []).bind fun x9=>(bif (bif (((a6.getD i2.toNat 0):Int)!=-2) then(((x9.length:Int):Int)==0) else false) then(some (.done (.inr false))) else(some (.next (x6,(w64 (i2+1)))))))))) else(some (.done (.inl i1))))
def Wu(Γ:Iw)(a6:List Int)(r:Bool):Exit->St->Prop:=fK Tryz.prog Γ Tryz.f87.results.toList [] (.bool r) []
def Q246(a6:List Int)(i2:Int):=(((a6.getD i2.toNat 0):Int)!=-2)
def Hr(a6:List Int):Option Bool:=
 ((Ah (Bn a6) ((0:Int),(0:Int))).bind (fun x10=>(match x10 with|(.inl i3)=>(some (i3==1))|(.inr r12)=>(some r12))))
theorem Vr(a6:List Int)(r:Bool)(h:Hr a6=some r):Spec Tryz.prog 87 [(Z8 a6)] [] (.bool r) []:=by
 refine Ac mix Tryz.func87 (fun Γ hq=>?_);unfold Hr at h;refine Af hq [0] [] ?_;refine Af hq Rp [] ?_;refine Af hq zzN130 [] ?_;obtain⟨x10,hx10,h⟩:=bind_some h;refine gL hq hx10 zzN130 [] (fun u (i1,i2)=>(Eu u [(3,(Z7 i1)),(4,(Z7 i2))] [])) (fun u x_=>match x_ with|(.inl i3)=>aG Γ (.exit 0) (⟨[(3,(Z7 i3))],[],[]⟩:St)|(.inr r_)=>aR (Wu Γ a6 r_)) ?_ ?_
 ·rintro⟨i1,i2⟩ y h;unfold Bn at h;refine Af hq [0,3,4,8] [] ?_;refine gC h ?_ ?_<;>intro h
  ·obtain⟨x6,hx6,h⟩:=bind_some h;refine gJ hx6 (fun i4=>aG Γ .normal (⟨[(0,(Z8 a6)),(3,(Z7 i4)),(4,(Z7 i2))],[],[]⟩:St)) ?_ ?_
   ·clear h hx6;intro y h;obtain⟨hc5,h⟩:=Aa h;refine gR hq [0,3,4,15] [] [] [] (c1 hc5) ?_;refine gC h ?_ ?_<;>intro h
    ·refine Af hq zzN130 [] ?_;cases h;exact gK (Bk Cr)
    ·obtain rfl:=OI h;exact gK (Bk (B2 zzN130 [] hq))
   ·clear hx6;refine gA ?_;obtain⟨hc8,h⟩:=Aa h;obtain⟨x9,hx9,h⟩:=bind_some h;refine gR hq [0,3,4,29] [] [] [⟨[],[],(Z8 x9),[],[],[]⟩] (ci hc8 (ci (gI ((Q246 a6 i2)==true)) (ci (gI ((Q246 a6 i2)==true)) (ci (show(((Q246 a6 i2)==true)=true->(Spec Tryz.prog 88 [(Z8 a6),(Z7 i2)] [] (Z8 x9) [])) from(fun hg=>(Spec.drop (Mb a6 i2 x9 (Bg hg hx9))))) (ci (gI ((Q246 a6 i2)==true)) (ci (gI ((Q246 a6 i2)==true)) (c1 (M7 (Q246 a6 i2))))))))) ?_;refine gC h ?_ ?_<;>intro h
    ·refine Af hq [2] [] ?_;cases h;exact gO (L0 (J7 [] (Le.refl _ _)))
    ·refine Af hq zzN130 [] ?_;cases h;exact gN Cr
  ·cases h;exact gO (Bk (B2 [3] [] hq))
 ·clear hx10;rcases x10 with i3|r12
  ·refine gA ?_;refine Af hq [2] [] ?_;cases h;exact Cf []
  ·refine N2 (fun st' hk=>?_);obtain rfl:=OI h;exact gK hk
def Bb(x2:List Int)(x3:List Int):Int->Option (LR Int (Unit ⊕ Int)):=
 fun(i4:Int)=>(bif (decide (i4<(x2.length:Int))) then(A6 (A2 i4 x2.length) ((F3 x3 (x2.getD i4.toNat 0)).bind fun x6=>(bif x6 then(A6 (A2 i4 x2.length) (some (.done (.inr (x2.getD i4.toNat 0))))) else(some (.next (w64 (i4+1))))))) else(some (.done (.inl ()))))
def Xl(Γ:Iw)(a6:List Int)(aI:Int)(aK:Int)(r:Int):Exit->St->Prop:=fK Tryz.prog Γ Tryz.f54.results.toList [] (.int .i64 r) []
def Io(a6:List Int)(aI:Int)(aK:Int):Option Int:=
 ((Hr a6).bind fun x1=>(bif (!x1) then(some (-2:Int)) else((Fj a6 aI).bind fun x2=>((Fj a6 aK).bind fun x3=>((Ah (Bb x2 x3) (0:Int)).bind (fun x8=>(match x8 with|(.inl _)=>(some (-2:Int))|(.inr r10)=>(some r10))))))))
theorem Xa(a6:List Int)(aI:Int)(aK:Int)(r:Int)(h:Io a6 aI aK=some r):Spec Tryz.prog 54 [(Z8 a6),(Z7 aI),(Z7 aK)] [] (.int .i64 r) []:=by
 refine Ac mix Tryz.func54 (fun Γ hq=>?_);unfold Io at h;refine Af hq zzN174 [] ?_;obtain⟨x1,hx1,h⟩:=bind_some h;refine gR hq [0,1,2,12] [] [] [(Z2 x1)] (c1 (Vr a6 x1 hx1)) ?_;refine gC h ?_ ?_<;>intro h
 ·refine Af hq [6] [] ?_;cases h;exact Cf []
 ·obtain⟨x2,hx2,h⟩:=bind_some h;refine gR hq zzN176 [15] [] [(Z47 15 x2 x2.length)] (c1 (Mb a6 aI x2 hx2)) ?_;obtain⟨x3,hx3,h⟩:=bind_some h;refine gR hq [7,8] zzN171 [] [(Z47 18 x3 x3.length)] (c1 (Mb a6 aK x3 hx3)) ?_;refine Af hq [7,8,9] zzN171 ?_;obtain⟨x8,hx8,h⟩:=bind_some h;refine gL hq hx8 [7,8,9] zzN171 (fun u i4=>(Eu u [(9,(Z7 i4))] [])) (fun u x_=>match x_ with|(.inl _)=>aG Γ (.exit 0) (⟨[],[],[]⟩:St)|(.inr r_)=>aR (Xl Γ a6 aI aK r_)) ?_ ?_
  ·intro i4 y h;unfold Bb at h;refine Af hq [7,8,9,22] zzN171 ?_;refine gC h ?_ ?_<;>intro h
   ·obtain⟨hc5,h⟩:=Aa h;obtain⟨x6,hx6,h⟩:=bind_some h;refine gR hq [7,8,9,30] zzN171 [] [(Z2 x6)] (ci hc5 (c1 (My x3 (x2.getD i4.toNat 0) x6 hx6))) ?_;refine gC h ?_ ?_<;>intro h
    ·obtain⟨hc7,h⟩:=Aa h;refine gR hq [6] [] [] [] (c1 hc7) ?_;cases h;exact gO (L0 (J7 [] (Le.refl _ _)))
    ·refine Af hq [7,8,9] zzN171 ?_;cases h;exact gN Cr
   ·cases h;exact gO (Bk (B2 [] [] hq))
  ·clear hx8;rcases x8 with _|r10
   ·refine gA ?_;refine Af hq [6] [] ?_;cases h;exact Cf []
   ·refine N2 (fun st' hk=>?_);obtain rfl:=OI h;exact gK hk
def Em(x4:List Bz):Int->Option (LR Int (Unit ⊕ Int)):=
 fun(i5:Int)=>(bif (decide (i5<(x4.length:Int))) then(A6 (A2 i5 x4.length) ((Ey ((x4.getD i5.toNat default).V)).bind fun x7=>(A6 (((!x7)==false)=true->(A2 i5 x4.length)) ((bif ((!x7)==false) then Eb x4 ((x4.getD i5.toNat default).V) else some (0:Int)).bind fun x9=>(bif (bif (!x7) then true else(x9 !=i5)) then(some (.done (.inr (7:Int)))) else(some (.next (w64 (i5+1))))))))) else(some (.done (.inl ()))))
def Dn(x4:List Bz)(x12:List Cp):Int->Option (LR Int (Unit ⊕ Int)):=
 fun(i13:Int)=>(bif (decide (i13<(x12.length:Int))) then(A6 (A2 i13 x12.length) ((Eb x4 ((x12.getD i13.toNat default).V)).bind fun x15=>(bif (decide (x15<0)) then(some (.done (.inr (7:Int)))) else(some (.next (w64 (i13+1))))))) else(some (.done (.inl ()))))
def Do(x4:List Bz)(x12:List Cp):Int->Option (LR Int (Unit ⊕ Int)):=
 fun(i18:Int)=>(bif (decide (i18<(x12.length:Int))) then(A6 (A2 i18 x12.length) ((Eb x4 ((x12.getD i18.toNat default).V)).bind fun x20=>(A6 (A2 x20 x4.length) (A6 (A2 i18 x12.length) (bif (!((((x4.getD x20.toNat default).Shape.1:Int)==(x12.getD i18.toNat default).Shape.1)&&((((x4.getD x20.toNat default).Shape.2:Int)==(x12.getD i18.toNat default).Shape.2)&&true))) then(some (.done (.inr (6:Int)))) else(some (.next (w64 (i18+1))))))))) else(some (.done (.inl ()))))
def Cu(x4:List Bz)(x12:List Cp)(x26:List Int):Int->Option (LR Int (Unit ⊕ Int)):=
 fun(i27:Int)=>(bif (decide (i27<(x12.length:Int))) then(Option.bind (α:=(Unit ⊕ Int)) (A6 (A2 i27 x12.length) ((Eb x4 ((x12.getD i27.toNat default).V)).bind fun x29=>(A6 (A2 x29 x4.length) (bif (bif (decide (((x4.getD x29.toNat default).Block:Int)<0)) then true else(bif (((x4.getD x29.toNat default).Block:Int)==(x12.getD i27.toNat default).Block) then(decide (((x4.getD x29.toNat default).At:Int)<(x12.getD i27.toNat default).At)) else false)) then(some (.inl ())) else((bif ((((x4.getD x29.toNat default).Block:Int)==(x12.getD i27.toNat default).Block)==false) then Io x26 ((x4.getD x29.toNat default).Block) ((x12.getD i27.toNat default).Block) else some (0:Int)).bind fun x31=>(bif (bif (((x4.getD x29.toNat default).Block:Int)==(x12.getD i27.toNat default).Block) then true else(x31 !=(x4.getD x29.toNat default).Block)) then(some (.inr (7:Int))) else(some (.inl ())))))))) (fun x32=>(match x32 with|(.inl _)=>(some (.next (w64 (i27+1))))|(.inr r34)=>(some (.done (.inr r34)))))) else(some (.done (.inl ()))))
def Hk(Γ:Iw)(a0:TFunc)(a2:Int)(r:Int):Exit->St->Prop:=fK Tryz.prog Γ Tryz.f24.results.toList [] (.int .i64 r) []
def Q248(x4:List Bz)(x29:Int):=((decide (((x4.getD x29.toNat default).Block:Int)<0))==false)
def Aag(x4:List Bz)(x29:Int)(x12:List Cp)(i27:Int):=(((x4.getD x29.toNat default).Block:Int)==(x12.getD i27.toNat default).Block)
def Ds(a0:TFunc)(a2:Int):Option Int:=
 (bif (bif (decide (a2<0)) then true else(decide (((2:Int):Int)<a2))) then(some (1:Int)) else((Hc a0).bind fun x1=>(bif (!x1) then(some (4:Int)) else((Ht a0).bind fun x2=>(bif (!x2) then(some (5:Int)) else((Hu a0 a2).bind fun x3=>(bif (!x3) then(some (6:Int)) else((Iq a0).bind fun x4=>((Ah (Em x4) (0:Int)).bind (fun x10=>(match x10 with|(.inl _)=>((Ir a0).bind fun x12=>((Ah (Dn x4 x12) (0:Int)).bind (fun x16=>(match x16 with|(.inl _)=>((Ah (Do x4 x12) (0:Int)).bind (fun x23=>(match x23 with|(.inl _)=>((Gn a0).bind fun x25=>((Ip x25.1 (0:Int)).bind fun x26=>((Ah (Cu x4 x12 x26) (0:Int)).bind (fun x35=>(match x35 with|(.inl _)=>(some (0:Int))|(.inr r37)=>(some r37))))))|(.inr r38)=>(some r38))))|(.inr r39)=>(some r39)))))|(.inr r40)=>(some r40))))))))))))
theorem Pg(a0:TFunc)(a2:Int)(r:Int)(h:Ds a0 a2=some r):Spec Tryz.prog 24 [(Z35 a0),(Z7 a2)] [] (.int .i64 r) []:=by
 refine Ac mix Tryz.func24 (fun Γ hq=>?_);unfold Ds at h;refine Af hq M5 [2] ?_;refine gR hq [1,2,21] [2] [] [] (ci (gI ((decide (a2<0))==false)) (c1 (J1 (decide (a2<0))))) ?_;refine gC h ?_ ?_<;>intro h
 ·refine Af hq [4] [] ?_;cases h;exact Cf []
 ·obtain⟨x1,hx1,h⟩:=bind_some h;refine gR hq [1,2,24] [2] [] [(Z2 x1)] (c1 (Ye a0 x1 hx1)) ?_;refine gC h ?_ ?_<;>intro h
  ·refine Af hq [4] [] ?_;cases h;exact Cf []
  ·obtain⟨x2,hx2,h⟩:=bind_some h;refine gR hq [1,2,27] [2] [] [(Z2 x2)] (c1 (Vt a0 x2 hx2)) ?_;refine gC h ?_ ?_<;>intro h
   ·refine Af hq [4] [] ?_;cases h;exact Cf []
   ·obtain⟨x3,hx3,h⟩:=bind_some h;refine gR hq [2,31] [2] [] [(Z2 x3)] (c1 (Vu a0 a2 x3 hx3)) ?_;refine gC h ?_ ?_<;>intro h
    ·refine Af hq [4] [] ?_;cases h;exact Cf []
    ·obtain⟨x4,hx4,h⟩:=bind_some h;refine gR hq T4 Zc [] [⟨[],[(20000,33)],(AV.list 5 Oq default x4 (.own 20000)),[(Mj 20000 90 x4.length)],[],[]⟩] (c1 (Xc a0 x4 hx4)) ?_;refine Af hq Uu Zc ?_;obtain⟨x10,hx10,h⟩:=bind_some h;refine gL hq hx10 Uu Zc (fun u i5=>(Eu u [(6,(Z7 i5))] [])) (fun u x_=>match x_ with|(.inl _)=>aG Γ (.exit 0) (Oz T4 Zc u [] [])|(.inr r_)=>aR (Hk Γ a0 a2 r_)) ?_ ?_
     ·intro i5 y h;unfold Em at h;refine Af hq [2,5,6,37] Zc ?_;refine gC h ?_ ?_<;>intro h
      ·obtain⟨hc6,h⟩:=Aa h;obtain⟨x7,hx7,h⟩:=bind_some h;obtain⟨hc8,h⟩:=Aa h;obtain⟨x9,hx9,h⟩:=bind_some h;refine gR hq [2,5,6,57] Zc [] [(Z2 x7),(Z19 x9)] (ci hc6 (ci (Lu ((x4.getD i5.toNat default).V) x7 hx7) (ci (gI ((!x7)==false)) (ci (gI ((!x7)==false)) (ci hc8 (ci (gI ((!x7)==false)) (ci (gI ((!x7)==false)) (ci (gI ((!x7)==false)) (ci (gI ((!x7)==false)) (ci (fun(hg:((!x7)==false)=true)=>(J2 x4 ((x4.getD i5.toNat default).V) x9 (Bg hg hx9))) (ci (gI ((!x7)==false)) (ci (gI ((!x7)==false)) (c1 (J1 (!x7))))))))))))))) ?_;refine gC h ?_ ?_<;>intro h
       ·refine Af hq [4] [] ?_;cases h;exact gO (L0 (J7 [] (Le.refl _ _)))
       ·refine Af hq Uu Zc ?_;cases h;exact gN Cr
      ·cases h;exact gO (Bk (B2 T4 Zc hq))
     ·clear hx10;rcases x10 with _|r40
      ·refine gA ?_;obtain⟨x12,hx12,h⟩:=bind_some h;refine gR hq zzN182 Sw [] [⟨[],[(20000,59)],(AV.list 5 N1 default x12 (.own 20000)),[(Mj 20000 94 x12.length)],[],[]⟩] (c1 (Xd a0 x12 hx12)) ?_;refine Af hq [2,5,7,8] Sw ?_;obtain⟨x16,hx16,h⟩:=bind_some h;refine gL hq hx16 [2,5,7,8] Sw (fun u i13=>(Eu u [(8,(Z7 i13))] [])) (fun u x_=>match x_ with|(.inl _)=>aG Γ (.exit 2) (Oz zzN182 Sw u [] [])|(.inr r_)=>aR (Hk Γ a0 a2 r_)) ?_ ?_
       ·intro i13 y h;unfold Dn at h;refine Af hq [2,5,7,8,63] Sw ?_;refine gC h ?_ ?_<;>intro h
        ·obtain⟨hc14,h⟩:=Aa h;obtain⟨x15,hx15,h⟩:=bind_some h;refine gR hq [2,5,7,8,73] Sw [] [(Z19 x15)] (ci hc14 (c1 (J2 x4 ((x12.getD i13.toNat default).V) x15 hx15))) ?_;refine gC h ?_ ?_<;>intro h
         ·refine Af hq [4] [] ?_;cases h;exact gO (L0 (J7 [] (Le.refl _ _)))
         ·refine Af hq [2,5,7,8] Sw ?_;cases h;exact gN Cr
        ·cases h;exact gO (Bk (B2 zzN182 Sw hq))
       ·clear hx16;rcases x16 with _|r39
        ·refine gA ?_;refine Af hq [2,5,7,9] Sw ?_;obtain⟨x23,hx23,h⟩:=bind_some h;refine gL hq hx23 [2,5,7,9] Sw (fun u i18=>(Eu u [(9,(Z7 i18))] [])) (fun u x_=>match x_ with|(.inl _)=>aG Γ (.exit 4) (Oz zzN182 Sw u [] [])|(.inr r_)=>aR (Hk Γ a0 a2 r_)) ?_ ?_
         ·intro i18 y h;unfold Do at h;refine Af hq [2,5,7,9,77] Sw ?_;refine gC h ?_ ?_<;>intro h
          ·obtain⟨hc19,h⟩:=Aa h;obtain⟨x20,hx20,h⟩:=bind_some h;obtain⟨hc21,h⟩:=Aa h;obtain⟨hc22,h⟩:=Aa h;refine gR hq [2,5,7,9,96] Sw [] [(Z19 x20)] (ci hc19 (ci (J2 x4 ((x12.getD i18.toNat default).V) x20 hx20) (ci hc21 (c1 hc22)))) ?_;refine gC h ?_ ?_<;>intro h
           ·refine Af hq [4] [] ?_;cases h;exact gO (L0 (J7 [] (Le.refl _ _)))
           ·refine Af hq [2,5,7,9] Sw ?_;cases h;exact gN Cr
          ·cases h;exact gO (Bk (B2 zzN182 Sw hq))
         ·clear hx23;rcases x23 with _|r38
          ·refine gA ?_;obtain⟨x25,hx25,h⟩:=bind_some h;refine gR hq [5,7,10] [10,33,59] [] [(Z36 x25.1 x25.2)] (c1 (Nx a0 x25 hx25)) ?_;obtain⟨x26,hx26,h⟩:=bind_some h;refine gR hq [5,7,12] zzN74 [] [(Z47 103 x26 x26.length)] (c1 (Xb x25.1 (0:Int) x26 hx26)) ?_;refine Af hq zzN123 zzN74 ?_;obtain⟨x35,hx35,h⟩:=bind_some h;refine gL hq hx35 zzN123 zzN74 (fun u i27=>(Eu u [(13,(Z7 i27))] [])) (fun u x_=>match x_ with|(.inl _)=>aG Γ (.exit 6) (⟨[],[],[]⟩:St)|(.inr r_)=>aR (Hk Γ a0 a2 r_)) ?_ ?_
           ·intro i27 y h;unfold Cu at h;refine Af hq [5,7,12,13,107] zzN74 ?_;refine gC h ?_ ?_<;>intro h
            ·obtain⟨x32,hx32,h⟩:=bind_some h;refine gJ hx32 (fun x_=>match x_ with|(.inl _)=>aG Γ .normal (⟨[(5,(AV.list 5 Oq default x4 (.own 33))),(7,(AV.list 5 N1 default x12 (.own 59))),(12,(Z13 x26 103)),(13,(Z7 i27))],[(Mj 33 90 x4.length),(Mj 59 94 x12.length),(103,.tok 1 3 x26.length)],[]⟩:St)|(.inr r_)=>aR (Hk Γ a0 a2 r_)) ?_ ?_
             ·clear h hx32;intro y h;obtain⟨hc28,h⟩:=Aa h;refine gR hq [5,7,12,13,14] [14,33,59,103] [] [] (c1 hc28) ?_;obtain⟨x29,hx29,h⟩:=bind_some h;obtain⟨hc30,h⟩:=Aa h;refine gR hq [5,7,12,13,14,15] [14,15,33,59,103] [] [(Z19 x29)] (ci (J2 x4 ((x12.getD i27.toNat default).V) x29 hx29) (c1 hc30)) ?_;refine gR hq [5,7,12,13,14,15,137] [14,15,33,59,103] [] [] (ci (gI (Q248 x4 x29)) (ci (gI (Q248 x4 x29)) (ci (gI (Q248 x4 x29)) (ci (gI (Q248 x4 x29)) (ci (gI (Q248 x4 x29)) (ci (gI ((Q248 x4 x29)&&((Aag x4 x29 x12 i27)==true))) (ci (gI ((Q248 x4 x29)&&((Aag x4 x29 x12 i27)==true))) (ci (gI ((Q248 x4 x29)&&((Aag x4 x29 x12 i27)==true))) (ci (gI ((Q248 x4 x29)&&((Aag x4 x29 x12 i27)==true))) (ci (gI (Q248 x4 x29)) (ci (show((Q248 x4 x29)=true->((Aag x4 x29 x12 i27)=true->((Q248 x4 x29)&&((Aag x4 x29 x12 i27)==true))=true)) from(fun hg=>(aT hg))) (c1 (J1 (decide (((x4.getD x29.toNat default).Block:Int)<0))))))))))))))) ?_;refine gC h ?_ ?_<;>intro h
              ·cases h;exact gK (Bk (B2 zzN123 zzN74 hq))
              ·obtain⟨x31,hx31,h⟩:=bind_some h;refine gR hq [5,7,12,13,153] zzN74 [] [(Z19 x31)] (ci (gI ((Aag x4 x29 x12 i27)==false)) (ci (gI ((Aag x4 x29 x12 i27)==false)) (ci (gI ((Aag x4 x29 x12 i27)==false)) (ci (gI ((Aag x4 x29 x12 i27)==false)) (ci (gI ((Aag x4 x29 x12 i27)==false)) (ci (fun(hg:((Aag x4 x29 x12 i27)==false)=true)=>(Xa x26 ((x4.getD x29.toNat default).Block) ((x12.getD i27.toNat default).Block) x31 (Bg hg hx31))) (ci (gI ((Aag x4 x29 x12 i27)==false)) (ci (gI ((Aag x4 x29 x12 i27)==false)) (ci (gI ((Aag x4 x29 x12 i27)==false)) (c1 (J1 (Aag x4 x29 x12 i27)))))))))))) ?_;refine gC h ?_ ?_<;>intro h
               ·refine Af hq [4] [] ?_;cases h;exact gK (L0 (J7 [] (Le.refl _ _)))
               ·cases h;exact gK (Bk (B2 zzN123 zzN74 hq))
             ·clear hx32;rcases x32 with _|r34
              ·refine gA ?_;refine Af hq zzN123 zzN74 ?_;cases h;exact gN Cr
              ·refine N2 (fun st' hk=>?_);cases h;exact gO (L0 hk)
            ·cases h;exact gO (Bk (B2 [] [] hq))
           ·clear hx35;rcases x35 with _|r37
            ·refine gA ?_;refine Af hq [4] [] ?_;cases h;exact Cf []
            ·refine N2 (fun st' hk=>?_);obtain rfl:=OI h;exact gK hk
          ·refine N2 (fun st' hk=>?_);obtain rfl:=OI h;exact gK hk
        ·refine N2 (fun st' hk=>?_);obtain rfl:=OI h;exact gK hk
      ·refine N2 (fun st' hk=>?_);obtain rfl:=OI h;exact gK hk
def Q249(a2:TGraph)(aN:Int)(aO:Int)(a0:TFunc):=(bif (bif ((((a2.Pred.getD aN.toNat []).length:Int):Int)==1) then((((a2.Pred.getD aN.toNat []).getD (0:Int).toNat (0:Int)):Int)==aO) else false) then(((((a0.Blocks.getD aN.toNat default).Phis).length:Int):Int)==0) else false)
def Q251(a0:TFunc)(aN:Int):=(((a0.Blocks.getD aN.toNat default).End.Kind:Int)==1)
def Q253(a2:TGraph)(aN:Int)(aO:Int)(a0:TFunc):=(bif (Q249 a2 aN aO a0) then(Q251 a0 aN) else false)
def Q250(a2:TGraph)(aN:Int):=(((((a2.Pred.getD aN.toNat []).length:Int):Int)==1)==true)
def Q252(a2:TGraph)(aN:Int)(aO:Int):=((bif ((((a2.Pred.getD aN.toNat []).length:Int):Int)==1) then((((a2.Pred.getD aN.toNat []).getD (0:Int).toNat (0:Int)):Int)==aO) else false)==true)
def Fk(a0:TFunc)(a2:TGraph)(aO:Int)(aa7:Int)(aN:Int)(aaN:Int):Option Bool:=
 (bif (aN==-1) then(some (aa7==aaN)) else(bif (aN !=aa7) then(some false) else(A6 (A2 aN a0.Blocks.length) (A6 (A2 aN a2.Pred.length) (A6 ((((((a2.Pred.getD aN.toNat []).length:Int):Int)==1)==true)=true->(A2 aN a2.Pred.length)) (A6 ((((((a2.Pred.getD aN.toNat []).length:Int):Int)==1)==true)=true->(A2 (0:Int) (a2.Pred.getD aN.toNat []).length)) (A6 (((bif (bif (bif ((((a2.Pred.getD aN.toNat []).length:Int):Int)==1) then((((a2.Pred.getD aN.toNat []).getD (0:Int).toNat (0:Int)):Int)==aO) else false) then(((((a0.Blocks.getD aN.toNat default).Phis).length:Int):Int)==0) else false) then(((a0.Blocks.getD aN.toNat default).End.Kind:Int)==1) else false)==true)=true->(A2 (0:Int) ((a0.Blocks.getD aN.toNat default).End.To).length)) (some (bif (bif (bif (bif ((((a2.Pred.getD aN.toNat []).length:Int):Int)==1) then((((a2.Pred.getD aN.toNat []).getD (0:Int).toNat (0:Int)):Int)==aO) else false) then(((((a0.Blocks.getD aN.toNat default).Phis).length:Int):Int)==0) else false) then(((a0.Blocks.getD aN.toNat default).End.Kind:Int)==1) else false) then(((((a0.Blocks.getD aN.toNat default).End.To).getD (0:Int).toNat (0:Int)):Int)==aaN) else false)))))))))
theorem Pv(a0:TFunc)(a2:TGraph)(aO:Int)(aa7:Int)(aN:Int)(aaN:Int)(r:Bool)(h:Fk a0 a2 aO aa7 aN aaN=some r):Spec Tryz.prog 29 [(Z35 a0),(Z61 a2),(Z7 aO),(Z7 aa7),(Z7 aN),(Z7 aaN)] [] (.bool r) []:=by
 refine Ac mix Tryz.func29 (fun Γ hq=>?_);unfold Fk at h;refine Af hq [2,3,4,5,6,7] T5 ?_;refine Af hq [2,3,4,5,6,7,15] T5 ?_;refine gC h ?_ ?_<;>intro h
 ·refine Af hq [12] [] ?_;cases h;exact Cf []
 ·refine Af hq [2,4,5,6,7,21] T5 ?_;refine gC h ?_ ?_<;>intro h
  ·refine Af hq [12] [] ?_;obtain rfl:=OI h;exact Cf []
  ·obtain⟨hc1,h⟩:=Aa h;refine gR hq [2,4,5,7,13] [7,13] [] [] (c1 hc1) ?_;obtain⟨hc2,h⟩:=Aa h;obtain⟨hc3,h⟩:=Aa h;obtain⟨hc4,h⟩:=Aa h;obtain⟨hc5,h⟩:=Aa h;refine gR hq [12] [] [] [] (ci hc2 (ci (gI (Q250 a2 aN)) (ci (gI (Q250 a2 aN)) (ci (gI (Q250 a2 aN)) (ci hc3 (ci (gI (Q250 a2 aN)) (ci (gI (Q250 a2 aN)) (ci hc4 (ci (gI (Q250 a2 aN)) (ci (gI (Q250 a2 aN)) (ci (gI (Q250 a2 aN)) (ci (M7 ((((a2.Pred.getD aN.toNat []).length:Int):Int)==1)) (ci (gI (Q252 a2 aN aO)) (ci (gI (Q252 a2 aN aO)) (ci (gI (Q252 a2 aN aO)) (ci (M7 (bif ((((a2.Pred.getD aN.toNat []).length:Int):Int)==1) then((((a2.Pred.getD aN.toNat []).getD (0:Int).toNat (0:Int)):Int)==aO) else false)) (ci (gI ((Q249 a2 aN aO a0)==true)) (ci (gI ((Q249 a2 aN aO a0)==true)) (ci (gI ((Q249 a2 aN aO a0)==true)) (ci (M7 (Q249 a2 aN aO a0)) (ci (gI ((Q253 a2 aN aO a0)==true)) (ci (gI ((Q253 a2 aN aO a0)==true)) (ci (gI ((Q253 a2 aN aO a0)==true)) (ci hc5 (ci (gI ((Q253 a2 aN aO a0)==true)) (ci (gI ((Q253 a2 aN aO a0)==true)) (ci (gI ((Q253 a2 aN aO a0)==true)) (c1 (M7 (Q253 a2 aN aO a0)))))))))))))))))))))))))))))) ?_;cases h;exact Cf []
def Q257(a2:THammock):=(a2.At==a2.Join)
def Q259(a2:THammock)(a0:TFunc):=(bif (decide (a2.At<0)) then true else(decide (((a0.Blocks.length:Int):Int)<=a2.At)))
def Q254(a2:THammock)(a0:TFunc):=(bif (bif (Q259 a2 a0) then true else(decide (a2.Join<0))) then true else(decide (((a0.Blocks.length:Int):Int)<=a2.Join)))
def Q258(a2:THammock)(a0:TFunc):=((bif (Q254 a2 a0) then true else(Q257 a2))==false)
def Q255(a0:TFunc)(a2:THammock):=((((a0.Blocks.getD (a2.At).toNat (default:Ad)).End.Kind:Int)!=2)==false)
def Q256(a2:THammock)(a0:TFunc):=((bif (Q259 a2 a0) then true else(decide (a2.Join<0)))==false)
def Ef(a0:TFunc)(a2:THammock):Option Bool:=
 ((Ds a0 (2:Int)).bind fun x1=>(bif (x1 !=0) then(some false) else(bif (bif (bif (bif (bif (bif (decide (a2.At<0)) then true else(decide (((a0.Blocks.length:Int):Int)<=a2.At))) then true else(decide (a2.Join<0))) then true else(decide (((a0.Blocks.length:Int):Int)<=a2.Join))) then true else(a2.At==a2.Join)) then true else(bif (a2.Then==-1) then(a2.Else==-1) else false)) then(some false) else(A6 (A2 a2.At a0.Blocks.length) (A6 (((((a0.Blocks.getD (a2.At).toNat (default:Ad)).End.Kind:Int)!=2)==false)=true->(A2 (0:Int) ((a0.Blocks.getD (a2.At).toNat (default:Ad)).End.To).length)) (A6 (((((a0.Blocks.getD (a2.At).toNat (default:Ad)).End.Kind:Int)!=2)==false)=true->(A2 (1:Int) ((a0.Blocks.getD (a2.At).toNat (default:Ad)).End.To).length)) (bif (bif (((a0.Blocks.getD (a2.At).toNat (default:Ad)).End.Kind:Int)!=2) then true else(((((a0.Blocks.getD (a2.At).toNat (default:Ad)).End.To).getD (0:Int).toNat (0:Int)):Int)==(((a0.Blocks.getD (a2.At).toNat (default:Ad)).End.To).getD (1:Int).toNat (0:Int)))) then(some false) else((Gn a0).bind fun x5=>(A6 (A2 (0:Int) ((a0.Blocks.getD (a2.At).toNat (default:Ad)).End.To).length) ((Fk a0 x5.1 a2.At (((a0.Blocks.getD (a2.At).toNat (default:Ad)).End.To).getD (0:Int).toNat (0:Int)) a2.Then a2.Join).bind fun x7=>(A6 ((x7==true)=true->(A2 (1:Int) ((a0.Blocks.getD (a2.At).toNat (default:Ad)).End.To).length)) ((bif (x7==true) then Fk a0 x5.1 a2.At (((a0.Blocks.getD (a2.At).toNat (default:Ad)).End.To).getD (1:Int).toNat (0:Int)) a2.Else a2.Join else some false).bind fun x9=>(some (bif x7 then x9 else false))))))))))))))
theorem Kx(a0:TFunc)(a2:THammock)(r:Bool)(h:Ef a0 a2=some r):Spec Tryz.prog 13 [(Z35 a0),(Z49 a2)] [] (.bool r) []:=by
 refine Ac mix Tryz.func13 (fun Γ hq=>?_);unfold Ef at h;refine Af hq F5 F5 ?_;obtain⟨x1,hx1,h⟩:=bind_some h;refine gR hq [2,3,11] F5 [] [(Z19 x1)] (c1 (Pg a0 (2:Int) x1 hx1)) ?_;refine gC h ?_ ?_<;>intro h
 ·refine Af hq [4] [] ?_;obtain rfl:=OI h;exact Cf []
 ·refine Af hq zzN99 F5 ?_;refine gR hq [2,3,51] F5 [] [] (ci (gI ((decide (a2.At<0))==false)) (ci (gI ((decide (a2.At<0))==false)) (ci (gI ((decide (a2.At<0))==false)) (ci (J1 (decide (a2.At<0))) (ci (gI ((Q259 a2 a0)==false)) (ci (gI ((Q259 a2 a0)==false)) (ci (J1 (Q259 a2 a0)) (ci (gI (Q256 a2 a0)) (ci (gI (Q256 a2 a0)) (ci (gI (Q256 a2 a0)) (ci (J1 (bif (Q259 a2 a0) then true else(decide (a2.Join<0)))) (ci (gI ((Q254 a2 a0)==false)) (ci (gI ((Q254 a2 a0)==false)) (ci (gI ((Q254 a2 a0)==false)) (ci (gI ((Q254 a2 a0)==false)) (ci (J1 (Q254 a2 a0)) (ci (gI (Q258 a2 a0)) (ci (gI (Q258 a2 a0)) (ci (gI (Q258 a2 a0)) (ci (gI ((Q258 a2 a0)&&((a2.Then==-1)==true))) (ci (gI ((Q258 a2 a0)&&((a2.Then==-1)==true))) (ci (gI (Q258 a2 a0)) (ci (show((Q258 a2 a0)=true->((a2.Then==-1)=true->((Q258 a2 a0)&&((a2.Then==-1)==true))=true)) from(fun hg=>(aT hg))) (c1 (J1 (bif (Q254 a2 a0) then true else(Q257 a2))))))))))))))))))))))))))) ?_;refine gC h ?_ ?_<;>intro h
  ·refine Af hq [4] [] ?_;obtain rfl:=OI h;exact Cf []
  ·obtain⟨hc2,h⟩:=Aa h;refine gR hq zzN133 zzN133 [] [] (c1 hc2) ?_;obtain⟨hc3,h⟩:=Aa h;obtain⟨hc4,h⟩:=Aa h;refine gR hq [2,3,6,72] zzN133 [] [] (ci (gI (Q255 a0 a2)) (ci (gI (Q255 a0 a2)) (ci hc3 (ci (gI (Q255 a0 a2)) (ci (gI (Q255 a0 a2)) (ci (gI (Q255 a0 a2)) (ci hc4 (ci (gI (Q255 a0 a2)) (ci (gI (Q255 a0 a2)) (ci (gI (Q255 a0 a2)) (c1 (J1 (((a0.Blocks.getD (a2.At).toNat (default:Ad)).End.Kind:Int)!=2))))))))))))) ?_;refine gC h ?_ ?_<;>intro h
   ·refine Af hq [4] [] ?_;obtain rfl:=OI h;exact Cf []
   ·obtain⟨x5,hx5,h⟩:=bind_some h;refine gR hq [2,3,6,7] [2,3,6,7] [] [(Z36 x5.1 x5.2)] (c1 (Nx a0 x5 hx5)) ?_;obtain⟨hc6,h⟩:=Aa h;obtain⟨x7,hx7,h⟩:=bind_some h;obtain⟨hc8,h⟩:=Aa h;obtain⟨x9,hx9,h⟩:=bind_some h;refine gR hq [4] [] [] [(Z2 x7),(Z2 x9)] (ci hc6 (ci (Pv a0 x5.1 a2.At (((a0.Blocks.getD (a2.At).toNat (default:Ad)).End.To).getD (0:Int).toNat (0:Int)) a2.Then a2.Join x7 hx7) (ci (gI (x7==true)) (ci (gI (x7==true)) (ci (gI (x7==true)) (ci hc8 (ci (gI (x7==true)) (ci (gI (x7==true)) (ci (gI (x7==true)) (ci (gI (x7==true)) (ci (gI (x7==true)) (ci (gI (x7==true)) (ci (gI (x7==true)) (ci (gI (x7==true)) (ci (gI (x7==true)) (ci (fun(hg:(x7==true)=true)=>(Pv a0 x5.1 a2.At (((a0.Blocks.getD (a2.At).toNat (default:Ad)).End.To).getD (1:Int).toNat (0:Int)) a2.Else a2.Join x9 (Bg hg hx9))) (c1 (M7 x7)))))))))))))))))) ?_;cases h;exact Cf []
def m_lockstepref14_Find_L1(a0:TFunc)(a2:Int)(i4:Int):Int->Option (LR Int (Unit ⊕ (THammock×Bool))):=
 fun(i5:Int)=>(bif (decide (i5<(a0.Blocks.length:Int))) then(A6 (A2 (0:Int) ((a0.Blocks.getD a2.toNat default).End.To).length) (A6 (A2 (1:Int) ((a0.Blocks.getD a2.toNat default).End.To).length) (Option.bind (α:=Int) (bif (i4==1) then(some (-1:Int)) else(some (((a0.Blocks.getD a2.toNat default).End.To).getD (1:Int).toNat (0:Int)))) (fun x9=>(Option.bind (α:=Int) (bif (i4==2) then(some (-1:Int)) else(some (((a0.Blocks.getD a2.toNat default).End.To).getD (0:Int).toNat (0:Int)))) (fun x12=>((Ef a0 (⟨a2,x12,x9,i5⟩:THammock)).bind fun x14=>(bif x14 then(some (.done (.inr ((⟨a2,x12,x9,i5⟩:THammock),true)))) else(some (.next (w64 (i5+1)))))))))))) else(some (.done (.inl ()))))
def Bj(a0:TFunc)(a2:Int):Int->Option (LR Int (Unit ⊕ (THammock×Bool))):=
 fun(i4:Int)=>(bif (decide (i4<3)) then((Ah (m_lockstepref14_Find_L1 a0 a2 i4) (0:Int)).bind (fun x15=>(match x15 with|(.inl _)=>(some (.next (w64 (i4+1))))|(.inr r17)=>(some (.done (.inr r17)))))) else(some (.done (.inl ()))))
def Ql(Γ:Iw)(a0:TFunc)(a2:Int)(r:(THammock×Bool)):Exit->St->Prop:=fK Tryz.prog Γ Tryz.f11.results.toList [] (.tuple [(Z49 r.1),(.bool r.2)]) []
def Q262(a0:TFunc)(a2:Int):=(a0.Blocks.getD a2.toNat default)
def Q261(x1:Int)(a2:Int):=((bif (x1 !=0) then true else(decide (a2<0)))==false)
def Q263(a0:TFunc):List AV:=[(Z8 a0.Params),(Z7 a0.Ret),(Z16 a0.Blocks)]
def Q260(x1:Int)(a2:Int)(a0:TFunc):=(bif (bif (x1 !=0) then true else(decide (a2<0))) then true else(decide (((a0.Blocks.length:Int):Int)<=a2)))
def G2(a0:TFunc)(a2:Int):Option (THammock×Bool):=
 ((Ds a0 (2:Int)).bind fun x1=>(A6 (((bif (bif (x1 !=0) then true else(decide (a2<0))) then true else(decide (((a0.Blocks.length:Int):Int)<=a2)))==false)=true->(A2 a2 a0.Blocks.length)) (bif (bif (bif (bif (x1 !=0) then true else(decide (a2<0))) then true else(decide (((a0.Blocks.length:Int):Int)<=a2))) then true else(((a0.Blocks.getD a2.toNat default).End.Kind:Int)!=2)) then(some ((⟨(0:Int),(0:Int),(0:Int),(0:Int)⟩:THammock),false)) else(A6 (A2 a2 a0.Blocks.length) ((Ah (Bj a0 a2) (0:Int)).bind (fun x18=>(match x18 with|(.inl _)=>(some ((⟨(0:Int),(0:Int),(0:Int),(0:Int)⟩:THammock),false))|(.inr r20)=>(some r20))))))))
theorem Pu(a0:TFunc)(a2:Int)(r:(THammock×Bool))(h:G2 a0 a2=some r):Spec Tryz.prog 11 [(Z35 a0),(Z7 a2)] [] (.tuple [(Z49 r.1),(.bool r.2)]) []:=by
 refine Ac mix Tryz.func11 (fun Γ hq=>?_);unfold G2 at h;refine Af hq [1,2,4] [2,4] ?_;obtain⟨x1,hx1,h⟩:=bind_some h;obtain⟨hc2,h⟩:=Aa h;refine gR hq [1,2,4,33] [2,4] [] [(Z19 x1)] (ci (Pg a0 (2:Int) x1 hx1) (ci (gI ((x1 !=0)==false)) (ci (J1 (x1 !=0)) (ci (gI (Q261 x1 a2)) (ci (gI (Q261 x1 a2)) (ci (gI (Q261 x1 a2)) (ci (gI (Q261 x1 a2)) (ci (J1 (bif (x1 !=0) then true else(decide (a2<0)))) (ci (gI ((Q260 x1 a2 a0)==false)) (ci (gI ((Q260 x1 a2 a0)==false)) (ci (gI ((Q260 x1 a2 a0)==false)) (ci hc2 (ci (gI ((Q260 x1 a2 a0)==false)) (ci (gI ((Q260 x1 a2 a0)==false)) (ci (gI ((Q260 x1 a2 a0)==false)) (ci (gI ((Q260 x1 a2 a0)==false)) (c1 (J1 (Q260 x1 a2 a0))))))))))))))))))) ?_;refine gC h ?_ ?_<;>intro h
 ·refine Af hq Sv [4] ?_;cases h;exact Cf []
 ·obtain⟨hc3,h⟩:=Aa h;refine gR hq [1,2,4,6] Ze [] [] (c1 hc3) ?_;refine Af hq zzN111 Ze ?_;obtain⟨x18,hx18,h⟩:=bind_some h;refine gL hq hx18 zzN111 Ze (fun u i4=>(Eu u [(7,(Z7 i4))] [])) (fun u x_=>match x_ with|(.inl _)=>aG Γ (.exit 0) (Oz [4] [4] u [] [])|(.inr r_)=>aR (Ql Γ a0 a2 r_)) ?_ ?_
  ·intro i4 y h;unfold Bj at h;refine Af hq [1,2,4,6,7,42] Ze ?_;refine gC h ?_ ?_<;>intro h
   ·refine Af hq zzN158 Ze ?_;obtain⟨x15,hx15,h⟩:=bind_some h;refine gL hq hx15 zzN158 Ze (fun u i5=>(Eu u [(8,(Z7 i5))] [])) (fun u x_=>match x_ with|(.inl _)=>aG Γ (.exit 2) (Oz zzN111 Ze u [] [])|(.inr r_)=>aR (Ql Γ a0 a2 r_)) ?_ ?_
    ·intro i5 y h;unfold m_lockstepref14_Find_L1 at h;refine Af hq [1,2,4,6,7,8,49] Ze ?_;refine gC h ?_ ?_<;>intro h
     ·obtain⟨hc6,h⟩:=Aa h;obtain⟨hc7,h⟩:=Aa h;refine gR hq zzN73 zzN82 [] [] (ci hc6 (c1 hc7)) ?_;obtain⟨x9,hx9,h⟩:=bind_some h;refine gJ hx9 (fun i8=>aG Γ .normal (⟨[(1,(Z7 a2)),Ra,(4,(.ptr 4 0)),(6,(.ptr 6 0)),(7,(Z7 i4)),(8,(Z7 i5)),(9,(.ptr 9 0))],[(M6 25 (Q263 a0)),(4,.row 27 [Pq,Pq,Pq,Pq]),(6,.row 51 [(.int .i64 (Q262 a0 a2).End.Kind),(.int .i64 (Q262 a0 a2).End.Arg),(AV.list 1 Au 0 (Q262 a0 a2).End.To .none)]),(9,.row 27 [(Z7 a2),(.int .i64 (((Q262 a0 a2).End.To).getD (0:Int).toNat (0:Int))),(Z7 i8),(Z7 i5)])],[]⟩:St)) ?_ ?_
      ·clear h hx9;intro y h;refine Af hq [1,2,4,6,7,8,9,64] zzN82 ?_;refine gC h ?_ ?_<;>intro h
       ·refine Af hq zzN73 zzN82 ?_;cases h;exact gK (Bk Cr)
       ·cases h;exact gK (Bk (B2 zzN73 zzN82 hq))
      ·clear hx9;refine gA ?_;obtain⟨x12,hx12,h⟩:=bind_some h;refine gJ hx12 (fun i11=>aG Γ .normal (⟨[(1,(Z7 a2)),Ra,(4,(.ptr 4 0)),(6,(.ptr 6 0)),(7,(Z7 i4)),(8,(Z7 i5)),(9,(.ptr 9 0))],[(M6 25 (Q263 a0)),(4,.row 27 [Pq,Pq,Pq,Pq]),(6,.row 51 [(.int .i64 (Q262 a0 a2).End.Kind),(.int .i64 (Q262 a0 a2).End.Arg),(AV.list 1 Au 0 (Q262 a0 a2).End.To .none)]),(9,.row 27 [(Z7 a2),(Z7 i11),(Z7 x9),(Z7 i5)])],[]⟩:St)) ?_ ?_
       ·clear h hx12;intro y h;refine Af hq [1,2,4,6,7,8,9,67] zzN82 ?_;refine gC h ?_ ?_<;>intro h
        ·refine Af hq zzN73 zzN82 ?_;cases h;exact gK (Bk Cr)
        ·cases h;exact gK (Bk (B2 zzN73 zzN82 hq))
       ·clear hx12;refine gA ?_;obtain⟨x14,hx14,h⟩:=bind_some h;refine gR hq [1,2,4,6,7,8,9,71] zzN82 [] [(Z2 x14)] (c1 (Kx a0 (⟨a2,x12,x9,i5⟩:THammock) x14 hx14)) ?_;refine gC h ?_ ?_<;>intro h
        ·refine Af hq Sv [4] ?_;cases h;exact gO (L0 (J7 [] (Le.refl _ _)))
        ·refine Af hq zzN158 Ze ?_;cases h;exact gN Cr
     ·cases h;exact gO (Bk (B2 zzN111 Ze hq))
    ·clear hx15;rcases x15 with _|r17
     ·refine gA ?_;refine Af hq zzN111 Ze ?_;cases h;exact gN Cr
     ·refine N2 (fun st' hk=>?_);cases h;exact gO (L0 hk)
   ·cases h;exact gO (Bk (B2 [4] [4] hq))
  ·clear hx18;rcases x18 with _|r20
   ·refine gA ?_;refine Af hq Sv [4] ?_;cases h;exact Cf []
   ·refine N2 (fun st' hk=>?_);obtain rfl:=OI h;exact gK hk
def Q265(a0:TFunc):List AV:=[(Z8 a0.Params),(Z7 a0.Ret),(Z16 a0.Blocks)]
def Q264(a0:TFunc)(aD:THammock):=(⟨[Ra,(3,(.ptr 3 0)),(5,(AV.list 6 Nv default ([]:List C1) (.own 8005)))],[(M6 25 (Q265 a0)),(3,.row 27 [(Z7 aD.At),(Z7 aD.Then),(Z7 aD.Else),(Z7 aD.Join)]),(8005,.tok 6 57 (([]:List C1).length))],[]⟩:St)
def F4(a0:TFunc)(aD:THammock):Option (List C1):=
 (Option.bind (α:=List C1) (bif (decide (((0:Int):Int)<=aD.Then)) then(A6 (A2 aD.Then a0.Blocks.length) (A6 (([]:List C1).length+((a0.Blocks.getD (aD.Then).toNat (default:Ad)).Ops).length<=room) (some (([]:List C1)++(a0.Blocks.getD (aD.Then).toNat (default:Ad)).Ops)))) else(some ([]:List C1))) (fun x4=>(Option.bind (α:=List C1) (bif (decide (((0:Int):Int)<=aD.Else)) then(A6 (A2 aD.Else a0.Blocks.length) (A6 (x4.length+((a0.Blocks.getD (aD.Else).toNat (default:Ad)).Ops).length<=room) (some (x4++(a0.Blocks.getD (aD.Else).toNat (default:Ad)).Ops)))) else(some x4)) (fun x9=>(some x9)))))
theorem Qs(a0:TFunc)(aD:THammock)(r:List C1)(h:F4 a0 aD=some r):Spec Tryz.prog 16 [(Z35 a0),(Z49 aD)] [] (Z41 r 20000) [(20000,.tok 6 57 r.length)]:=by
 refine Ac mix Tryz.func16 (fun Γ hq=>?_);unfold F4 at h;refine gR hq F5 F5 [(4,Z55)] [] (c1 (Dh 6 Nv (default:C1))) ?_;refine gR hq zzN99 F5 [(5,Z55)] [] (c1 (Dh 6 Nv (default:C1))) ?_;refine Or (st':=(Q264 a0 aD)) (Le.trans (B2 (st':=⟨[Ra,(3,(.ptr 3 0)),(5,Z55)],[(M6 25 (Q265 a0)),(3,.row 27 [(Z7 aD.At),(Z7 aD.Then),(Z7 aD.Else),(Z7 aD.Join)])],[]⟩) zzN99 F5 hq) (Le.trans (Nw (t:=5) (nm:=8005) (sz':=6) (fun i=>Nv (([]:List C1).getD i default)) 57 rfl rfl (.inl ⟨rfl,rfl⟩) (fun h_=>absurd h_ (by decide))) (B2 (st':=(Q264 a0 aD)) zzN99 zzN147 hq))) ?_;obtain⟨x4,hx4,h⟩:=bind_some h;refine gJ hx4 (fun l1=>aG Γ .normal (⟨[Ra,(3,(.ptr 3 0)),(5,(Z41 l1 8005))],[(M6 25 (Q265 a0)),(3,.row 27 [(Z7 aD.At),(Z7 aD.Then),(Z7 aD.Else),(Z7 aD.Join)]),(8005,.tok 6 57 l1.length)],[]⟩:St)) ?_ ?_
 ·clear h hx4;intro y h;refine Af hq [2,3,5,8] zzN147 ?_;refine gC h ?_ ?_<;>intro h
  ·obtain⟨hc2,h⟩:=Aa h;obtain⟨hc3,h⟩:=Aa h;refine gR hq zzN99 zzN147 [(17,(AV.list 6 Nv default (([]:List C1)++(a0.Blocks.getD (aD.Then).toNat (default:Ad)).Ops) (.own 8005)))] [] (ci hc2 (ci (Eq.refl (([]:List C1).length)) (ci hc3 (ci (Ix 6 8005 Nv (default:C1) ([]:List C1) ((a0.Blocks.getD (aD.Then).toNat (default:Ad)).Ops)) (c1 (Fe ([]:List C1) ((a0.Blocks.getD (aD.Then).toNat (default:Ad)).Ops))))))) ?_;cases h;exact gK (Bk Cr)
  ·cases h;exact gK (Bk (B2 zzN99 zzN147 hq))
 ·clear hx4;refine gA ?_;obtain⟨x9,hx9,h⟩:=bind_some h;refine gJ hx9 (fun l6=>aG Γ .normal (⟨[(5,(Z41 l6 8005))],[(8005,.tok 6 57 l6.length)],[]⟩:St)) ?_ ?_
  ·clear h hx9;intro y h;refine Af hq [2,3,5,20] zzN147 ?_;refine gC h ?_ ?_<;>intro h
   ·obtain⟨hc7,h⟩:=Aa h;obtain⟨hc8,h⟩:=Aa h;refine gR hq [5] [8005] [(29,(AV.list 6 Nv default (x4++(a0.Blocks.getD (aD.Else).toNat (default:Ad)).Ops) (.own 8005)))] [] (ci hc7 (ci (Eq.refl x4.length) (ci hc8 (ci (Ix 6 8005 Nv (default:C1) x4 ((a0.Blocks.getD (aD.Else).toNat (default:Ad)).Ops)) (c1 (Fe x4 ((a0.Blocks.getD (aD.Else).toNat (default:Ad)).Ops))))))) ?_;cases h;exact gK (Bk Cr)
   ·obtain rfl:=OI h;exact gK (Bk (B2 [5] [8005] hq))
  ·clear hx9;refine gA ?_;refine Af hq [4] [8005] ?_;obtain rfl:=OI h;exact Cf [(8005,20000)]
def m_lockstepref14_Merges_L1(x2:List C1):Int->Option (LR Int (Unit ⊕ Bool)):=
 fun(i3:Int)=>(bif (decide (i3<(x2.length:Int))) then(A6 (A2 i3 x2.length) (A6 (((((x2.getD i3.toNat default).Lanes:Int)!=1)==false)=true->(A2 i3 x2.length)) (bif (bif (((x2.getD i3.toNat default).Lanes:Int)!=1) then true else(decide (((21:Int):Int)<=(x2.getD i3.toNat default).Kind))) then(some (.done (.inr false))) else(some (.next (w64 (i3+1))))))) else(some (.done (.inl ()))))
def Ux(Γ:Iw)(a0:TFunc)(aD:THammock)(r:Bool):Exit->St->Prop:=fK Tryz.prog Γ Tryz.f15.results.toList [] (.bool r) []
def Q266(x2:List C1)(i3:Int):=(((x2.getD i3.toNat default).Lanes:Int)!=1)
def Ha(a0:TFunc)(aD:THammock):Option Bool:=
 ((Ef a0 aD).bind fun x1=>(bif (!x1) then(some false) else((F4 a0 aD).bind fun x2=>((Ah (m_lockstepref14_Merges_L1 x2) (0:Int)).bind (fun x6=>(match x6 with|(.inl _)=>(some true)|(.inr r8)=>(some r8)))))))
theorem Uj(a0:TFunc)(aD:THammock)(r:Bool)(h:Ha a0 aD=some r):Spec Tryz.prog 15 [(Z35 a0),(Z49 aD)] [] (.bool r) []:=by
 refine Ac mix Tryz.func15 (fun Γ hq=>?_);unfold Ha at h;refine Af hq F5 F5 ?_;obtain⟨x1,hx1,h⟩:=bind_some h;refine gR hq [2,3,10] F5 [] [(Z2 x1)] (c1 (Kx a0 aD x1 hx1)) ?_;refine gC h ?_ ?_<;>intro h
 ·refine Af hq [4] [] ?_;obtain rfl:=OI h;exact Cf []
 ·obtain⟨x2,hx2,h⟩:=bind_some h;refine gR hq [5] [13] [] [⟨[],[(20000,13)],(Z41 x2 20000),[(20000,.tok 6 57 x2.length)],[],[]⟩] (c1 (Qs a0 aD x2 hx2)) ?_;refine Af hq T6 [13] ?_;obtain⟨x6,hx6,h⟩:=bind_some h;refine gL hq hx6 T6 [13] (fun u i3=>(Eu u [(6,(Z7 i3))] [])) (fun u x_=>match x_ with|(.inl _)=>aG Γ (.exit 0) (⟨[],[],[]⟩:St)|(.inr r_)=>aR (Ux Γ a0 aD r_)) ?_ ?_
  ·intro i3 y h;unfold m_lockstepref14_Merges_L1 at h;refine Af hq [5,6,17] [13] ?_;refine gC h ?_ ?_<;>intro h
   ·obtain⟨hc4,h⟩:=Aa h;obtain⟨hc5,h⟩:=Aa h;refine gR hq [5,6,33] [13] [] [] (ci hc4 (ci (gI ((Q266 x2 i3)==false)) (ci (gI ((Q266 x2 i3)==false)) (ci hc5 (ci (gI ((Q266 x2 i3)==false)) (ci (gI ((Q266 x2 i3)==false)) (ci (gI ((Q266 x2 i3)==false)) (c1 (J1 (Q266 x2 i3)))))))))) ?_;refine gC h ?_ ?_<;>intro h
    ·refine Af hq [4] [] ?_;cases h;exact gO (L0 (J7 [] (Le.refl _ _)))
    ·refine Af hq T6 [13] ?_;cases h;exact gN Cr
   ·cases h;exact gO (Bk (B2 [] [] hq))
  ·clear hx6;rcases x6 with _|r8
   ·refine gA ?_;refine Af hq [4] [] ?_;obtain rfl:=OI h;exact Cf []
   ·refine N2 (fun st' hk=>?_);obtain rfl:=OI h;exact gK hk
def Bc(a0:TFunc)(x15:List THammock):(Int×Int)->Option (LR (Int×Int) (Int ⊕ Bool)):=
 fun((i16,i17):(Int×Int))=>(bif (decide (i17<(a0.Blocks.length:Int))) then(Option.bind (α:=(Int ⊕ Bool)) ((G2 a0 i17).bind fun x20=>(A6 (((x20.2==true)&&((decide (((x15.length:Int):Int)<=i16))==false))=true->(A2 i16 x15.length)) (bif (bif x20.2 then(bif (decide (((x15.length:Int):Int)<=i16)) then true else(!((((x15.getD i16.toNat default).At:Int)==x20.1.At)&&((((x15.getD i16.toNat default).Then:Int)==x20.1.Then)&&((((x15.getD i16.toNat default).Else:Int)==x20.1.Else)&&((((x15.getD i16.toNat default).Join:Int)==x20.1.Join)&&true)))))) else false) then(some (.inr false)) else(bif x20.2 then(some (.inl (w64 (i16+1)))) else(some (.inl i16)))))) (fun x22=>(match x22 with|(.inl i19)=>(some (.next (i19,(w64 (i17+1)))))|(.inr r24)=>(some (.done (.inr r24)))))) else(some (.done (.inl i16))))
def Ly(Γ:Iw)(a0:TFunc)(a2:THammock)(aO:Int)(r:Bool):Exit->St->Prop:=fK Tryz.prog Γ Tryz.f3.results.toList [] (.bool r) []
def Q267(x3:(THammock×Bool))(x4:(THammock×Bool)):=(bif (!(((x3.1.At:Int)==x4.1.At)&&(((x3.1.Then:Int)==x4.1.Then)&&(((x3.1.Else:Int)==x4.1.Else)&&(((x3.1.Join:Int)==x4.1.Join)&&true))))) then true else(x3.2 !=x4.2))
def Q271(x3:(THammock×Bool))(x4:(THammock×Bool))(x5:Bool)(x6:Bool):=((bif (Q267 x3 x4) then true else(x5 !=x6))==false)
def Q268(x20:(THammock×Bool))(x15:List THammock)(i16:Int):=((x20.2==true)&&((decide (((x15.length:Int):Int)<=i16))==false))
def Q270(a0:TFunc):List AV:=[(Z8 a0.Params),(Z7 a0.Ret),(Z16 a0.Blocks)]
def Q269(x3:(THammock×Bool))(x4:(THammock×Bool)):=((!(((x3.1.At:Int)==x4.1.At)&&(((x3.1.Then:Int)==x4.1.Then)&&(((x3.1.Else:Int)==x4.1.Else)&&(((x3.1.Join:Int)==x4.1.Join)&&true)))))==false)
def Gh(a0:TFunc)(a2:THammock)(aO:Int):Option Bool:=
 (m_locksteplaw14_awake.bind fun x1=>(bif (!x1) then(some false) else((Hs a0).bind fun x2=>(bif (!x2) then(some true) else((Jt a0 aO).bind fun x3=>((G2 a0 aO).bind fun x4=>((bif ((bif (!(((x3.1.At:Int)==x4.1.At)&&(((x3.1.Then:Int)==x4.1.Then)&&(((x3.1.Else:Int)==x4.1.Else)&&(((x3.1.Join:Int)==x4.1.Join)&&true))))) then true else(x3.2 !=x4.2))==false) then Ki a0 a2 else some false).bind fun x5=>((bif ((bif (!(((x3.1.At:Int)==x4.1.At)&&(((x3.1.Then:Int)==x4.1.Then)&&(((x3.1.Else:Int)==x4.1.Else)&&(((x3.1.Join:Int)==x4.1.Join)&&true))))) then true else(x3.2 !=x4.2))==false) then Ef a0 a2 else some false).bind fun x6=>((bif ((bif (bif (!(((x3.1.At:Int)==x4.1.At)&&(((x3.1.Then:Int)==x4.1.Then)&&(((x3.1.Else:Int)==x4.1.Else)&&(((x3.1.Join:Int)==x4.1.Join)&&true))))) then true else(x3.2 !=x4.2)) then true else(x5 !=x6))==false) then Jl a0 a2 else some false).bind fun x7=>((bif ((bif (bif (!(((x3.1.At:Int)==x4.1.At)&&(((x3.1.Then:Int)==x4.1.Then)&&(((x3.1.Else:Int)==x4.1.Else)&&(((x3.1.Join:Int)==x4.1.Join)&&true))))) then true else(x3.2 !=x4.2)) then true else(x5 !=x6))==false) then Ha a0 a2 else some false).bind fun x8=>(bif (bif (bif (bif (!(((x3.1.At:Int)==x4.1.At)&&(((x3.1.Then:Int)==x4.1.Then)&&(((x3.1.Else:Int)==x4.1.Else)&&(((x3.1.Join:Int)==x4.1.Join)&&true))))) then true else(x3.2 !=x4.2)) then true else(x5 !=x6)) then true else(x7 !=x8)) then(some false) else(Option.bind (α:=Int) ((Ef a0 a2).bind fun x10=>(bif x10 then((F4 a0 a2).bind fun x11=>(some (x11.length:Int))) else(some (0:Int)))) (fun x12=>((K6 a0 a2).bind fun x14=>(bif (x14 !=x12) then(some false) else((Ic a0).bind fun x15=>((Ah (Bc a0 x15) ((0:Int),(0:Int))).bind (fun x25=>(match x25 with|(.inl i18)=>(some (i18==(x15.length:Int)))|(.inr r27)=>(some r27))))))))))))))))))))
theorem ok_locksteplaw14_HammockFinds(a0:TFunc)(a2:THammock)(aO:Int)(r:Bool)(h:Gh a0 a2 aO=some r):Spec Tryz.prog 3 [(Z35 a0),(Z49 a2),(Z7 aO)] [] (.bool r) []:=by
 refine Ac mix Tryz.func3 (fun Γ hq=>?_);unfold Gh at h;refine Af hq [2,3,4] Rg ?_;obtain⟨x1,hx1,h⟩:=bind_some h;refine gR hq [2,3,4,18] Rg [] [(Z2 x1)] (c1 (Vm  x1 hx1)) ?_;refine gC h ?_ ?_<;>intro h
 ·refine Af hq [6] [] ?_;obtain rfl:=OI h;exact Cf []
 ·obtain⟨x2,hx2,h⟩:=bind_some h;refine gR hq [2,3,4,21] Rg [] [(Z2 x2)] (c1 (Vs a0 x2 hx2)) ?_;refine gC h ?_ ?_<;>intro h
  ·refine Af hq [6] [] ?_;obtain rfl:=OI h;exact Cf []
  ·obtain⟨x3,hx3,h⟩:=bind_some h;refine gR hq [2,3,4,7,8] [3,4,7] [] [(Z23 x3.1 x3.2)] (c1 (Rd a0 aO x3 hx3)) ?_;obtain⟨x4,hx4,h⟩:=bind_some h;refine gR hq [3,4,7,8,9,10] [3,4,7,9] [] [(Z23 x4.1 x4.2)] (c1 (Pu a0 aO x4 hx4)) ?_;obtain⟨x5,hx5,h⟩:=bind_some h;obtain⟨x6,hx6,h⟩:=bind_some h;obtain⟨x7,hx7,h⟩:=bind_some h;obtain⟨x8,hx8,h⟩:=bind_some h;refine gR hq [3,4,59] Rg [] [(Z2 x5),(Z2 x6),(Z2 x7),(Z2 x8)] (ci (gI (Q269 x3 x4)) (ci (gI (Q269 x3 x4)) (ci (J1 (!(((x3.1.At:Int)==x4.1.At)&&(((x3.1.Then:Int)==x4.1.Then)&&(((x3.1.Else:Int)==x4.1.Else)&&(((x3.1.Join:Int)==x4.1.Join)&&true)))))) (ci (gI ((Q267 x3 x4)==false)) (ci (gI ((Q267 x3 x4)==false)) (ci (fun(hg:((Q267 x3 x4)==false)=true)=>(Qi a0 a2 x5 (Bg hg hx5))) (ci (gI ((Q267 x3 x4)==false)) (ci (gI ((Q267 x3 x4)==false)) (ci (fun(hg:((Q267 x3 x4)==false)=true)=>(Kx a0 a2 x6 (Bg hg hx6))) (ci (gI ((Q267 x3 x4)==false)) (ci (gI ((Q267 x3 x4)==false)) (ci (J1 (Q267 x3 x4)) (ci (gI (Q271 x3 x4 x5 x6)) (ci (gI (Q271 x3 x4 x5 x6)) (ci (fun(hg:(Q271 x3 x4 x5 x6)=true)=>(S7 a0 a2 x7 (Bg hg hx7))) (ci (gI (Q271 x3 x4 x5 x6)) (ci (gI (Q271 x3 x4 x5 x6)) (ci (fun(hg:(Q271 x3 x4 x5 x6)=true)=>(Uj a0 a2 x8 (Bg hg hx8))) (ci (gI (Q271 x3 x4 x5 x6)) (ci (gI (Q271 x3 x4 x5 x6)) (c1 (J1 (bif (Q267 x3 x4) then true else(x5 !=x6)))))))))))))))))))))))) ?_;refine gC h ?_ ?_<;>intro h
   ·refine Af hq [6] [] ?_;obtain rfl:=OI h;exact Cf []
   ·refine Af hq [3,4,11] Rg ?_;obtain⟨x12,hx12,h⟩:=bind_some h;refine gJ hx12 (fun i9=>aG Γ .normal (⟨[(3,(.ptr 3 0)),(4,(.ptr 4 0)),(11,(Z7 i9))],[(3,.row 25 (Q270 a0)),(4,.row 27 [(Z7 a2.At),(Z7 a2.Then),(Z7 a2.Else),(Z7 a2.Join)])],[]⟩:St)) ?_ ?_
    ·clear h hx12;intro y h;obtain⟨x10,hx10,h⟩:=bind_some h;refine gR hq [3,4,11,62] Rg [] [(Z2 x10)] (c1 (Kx a0 a2 x10 hx10)) ?_;refine gC h ?_ ?_<;>intro h
     ·obtain⟨x11,hx11,h⟩:=bind_some h;refine gR hq [3,4,11] Rg [] [⟨[],[(20000,65)],(Z41 x11 20000),[(20000,.tok 6 57 x11.length)],[],[]⟩] (c1 (Qs a0 a2 x11 hx11)) ?_;cases h;exact gK (Bk Cr)
     ·cases h;exact gK (Bk (B2 [3,4,11] Rg hq))
    ·clear hx12;refine gA ?_;obtain⟨x14,hx14,h⟩:=bind_some h;refine gR hq [3,71] [3] [] [(Z19 x14)] (c1 (Wg a0 a2 x14 hx14)) ?_;refine gC h ?_ ?_<;>intro h
     ·refine Af hq [6] [] ?_;obtain rfl:=OI h;exact Cf []
     ·obtain⟨x15,hx15,h⟩:=bind_some h;refine gR hq [3,12] T3 [] [⟨[],[(20000,73)],(Z45 x15 20000),[(20000,.tok 4 27 x15.length)],[],[]⟩] (c1 (Pf a0 x15 hx15)) ?_;refine Af hq [3,12,13] T3 ?_;refine Af hq zzN112 T3 ?_;obtain⟨x25,hx25,h⟩:=bind_some h;refine gL hq hx25 zzN112 T3 (fun u (i16,i17)=>(Eu u [(13,(Z7 i16)),(14,(Z7 i17))] [])) (fun u x_=>match x_ with|(.inl i18)=>aG Γ (.exit 0) (Oz [12,13] [73] u [(13,(Z7 i18))] [])|(.inr r_)=>aR (Ly Γ a0 a2 aO r_)) ?_ ?_
      ·rintro⟨i16,i17⟩ y h;unfold Bc at h;refine Af hq [3,12,13,14,78] T3 ?_;refine gC h ?_ ?_<;>intro h
       ·obtain⟨x22,hx22,h⟩:=bind_some h;refine gJ hx22 (fun x_=>match x_ with|(.inl i19)=>aG Γ .normal (⟨[(3,(.ptr 3 0)),(12,(Z45 x15 73)),(13,(Z7 i19)),(14,(Z7 i17))],[(3,.row 25 (Q270 a0)),(73,.tok 4 27 x15.length)],[]⟩:St)|(.inr r_)=>aR (Ly Γ a0 a2 aO r_)) ?_ ?_
        ·clear h hx22;intro y h;obtain⟨x20,hx20,h⟩:=bind_some h;refine gR hq [3,12,13,14,15,16] [3,15,73] [] [(Z23 x20.1 x20.2)] (c1 (Pu a0 i17 x20 hx20)) ?_;obtain⟨hc21,h⟩:=Aa h;refine gR hq [3,12,13,14,16,101] T3 [] [] (ci (gI (x20.2==true)) (ci (gI (x20.2==true)) (ci (gI (x20.2==true)) (ci (gI (x20.2==true)) (ci (gI (Q268 x20 x15 i16)) (ci (gI (Q268 x20 x15 i16)) (ci hc21 (ci (gI (Q268 x20 x15 i16)) (ci (gI (Q268 x20 x15 i16)) (ci (gI (Q268 x20 x15 i16)) (ci (gI (x20.2==true)) (ci (show((x20.2==true)=true->((decide (((x15.length:Int):Int)<=i16))=false->(Q268 x20 x15 i16)=true)) from(fun hg=>(aF hg))) (c1 (M7 x20.2)))))))))))))) ?_;refine gC h ?_ ?_<;>intro h
         ·refine Af hq [6] [] ?_;cases h;exact gK (L0 (J7 [] (Le.refl _ _)))
         ·refine Af hq [3,12,13,14,102] T3 ?_;refine gC h ?_ ?_<;>intro h
          ·refine Af hq zzN112 T3 ?_;cases h;exact gK (Bk Cr)
          ·cases h;exact gK (Bk (B2 zzN112 T3 hq))
        ·clear hx22;rcases x22 with i19|r24
         ·refine gA ?_;refine Af hq zzN112 T3 ?_;cases h;exact gN Cr
         ·refine N2 (fun st' hk=>?_);cases h;exact gO (L0 hk)
       ·cases h;exact gO (Bk (B2 [12,13] [73] hq))
      ·clear hx25;rcases x25 with i18|r27
       ·refine gA ?_;refine Af hq [6] [] ?_;cases h;exact Cf []
       ·refine N2 (fun st' hk=>?_);obtain rfl:=OI h;exact gK hk
def Pd(aM:List Int):Option (List Int):=
 (A6 (([]:List Int).length+aM.length<=room) (some (([]:List Int)++aM)))
def m_graph_copied_L1(aaI:List (List Int)):(Int×List (List Int))->Option (LR (Int×List (List Int)) (List (List Int))):=
 fun((i2,l3):(Int×List (List Int)))=>(bif (decide (i2<(aaI.length:Int))) then(A6 (A2 i2 aaI.length) ((Pd (aaI.getD i2.toNat [])).bind fun x6=>(A6 (A2 i2 l3.length) (some (.next ((w64 (i2+1)),(l3.set i2.toNat x6))))))) else(some (.done l3)))
def R9(aaI:List (List Int)):Option (List (List Int)):=
 (A6 (0<=(aaI.length:Int)/\(aaI.length:Int)<=(aaI.length:Int)/\(aaI.length:Int)<=(room:Int)) ((Ah (m_graph_copied_L1 aaI) ((0:Int),(List.replicate (aaI.length:Int).toNat ([]:List Int)))).bind (fun x8=>(some x8))))
def R8(a3:TGraph):Option TGraph:=
 ((Lm a3).bind fun x1=>(bif (!x1) then(some (⟨([]:List (List Int)),([]:List (List Int))⟩:TGraph)) else((R9 a3.Pred).bind fun x2=>((R9 a3.Succ).bind fun x3=>(some (⟨x2,x3⟩:TGraph))))))
def X4(x1:List Int):(Int×List Bool)->Option (LR (Int×List Bool) (List Bool)):=
 fun((i2,l3):(Int×List Bool))=>(bif (decide (i2<(x1.length:Int))) then(A6 (A2 i2 x1.length) (A6 (A2 (x1.getD i2.toNat 0) 64) (some (.next ((w64 (i2+1)),(Oa 64 false l3 (x1.getD i2.toNat 0).toNat true)))))) else(some (.done l3)))
def Pc(aaQ:List Bool)(aaR:TGraph)(aH:Int):Option (List Bool):=
 ((Ib aaR aH).bind fun x1=>((Ah (X4 x1) ((0:Int),aaQ)).bind (fun x7=>(some x7))))
def X3(a3:TGraph)(x1:TGraph):(Int×List Bool)->Option (LR (Int×List Bool) (List Bool)):=
 fun((i2,l3):(Int×List Bool))=>(bif (decide (i2<(a3.Succ.length:Int))) then(Option.bind (α:=List Bool) (A6 (A2 i2 a3.Succ.length) (bif ((((a3.Succ.getD i2.toNat []).length:Int):Int)==0) then((Pc l3 x1 i2).bind fun x7=>(some x7)) else(some l3))) (fun x8=>(some (.next ((w64 (i2+1)),x8))))) else(some (.done l3)))
def S5(a3:TGraph):Option (List Bool):=
 ((R8 a3).bind fun x1=>((Ah (X3 a3 x1) ((0:Int),(List.replicate 64 false))).bind (fun x10=>(some x10))))
def Rq(aM:List Bool)(aC:Bool):Int->Option (LR Int (Unit ⊕ Int)):=
 fun(i1:Int)=>(bif (decide (i1<(aM.length:Int))) then(A6 (A2 i1 aM.length) (bif (aC==(aM.getD i1.toNat false)) then(some (.done (.inr i1))) else(some (.next (w64 (i1+1)))))) else(some (.done (.inl ()))))
def N6(aM:List Bool)(aC:Bool):Option Int:=
 ((Ah (Rq aM aC) (0:Int)).bind (fun x3=>(match x3 with|(.inl _)=>(some (-1:Int))|(.inr r5)=>(some r5))))
def m_graph_Make(a5:List (List Int)):Option (TGraph×Int):=
 ((Kd a5).bind fun x1=>(bif (!x1) then(some ((⟨([]:List (List Int)),([]:List (List Int))⟩:TGraph),(5:Int))) else((R9 a5).bind fun x2=>((Js a5).bind fun x3=>(some ((⟨x2,x3⟩:TGraph),(0:Int)))))))
def m_pdom_Exit_L1(a3:TGraph):(Int×List (List Int))->Option (LR (Int×List (List Int)) (List (List Int))):=
 fun((i7,l8):(Int×List (List Int)))=>(bif (decide (i7<(a3.Succ.length:Int))) then(Option.bind (α:=List (List Int)) (A6 (A2 i7 a3.Succ.length) (A6 (A2 i7 l8.length) ((Pd (a3.Succ.getD i7.toNat [])).bind fun x13=>(A6 (A2 i7 l8.length) (bif ((((a3.Succ.getD i7.toNat []).length:Int):Int)==0) then(A6 (A2 i7 (l8.set i7.toNat x13).length) (A6 (A2 i7 (l8.set i7.toNat x13).length) (some ((l8.set i7.toNat x13).set i7.toNat ([(a3.Succ.length:Int)]:List Int))))) else(some (l8.set i7.toNat x13))))))) (fun x17=>(some (.next ((w64 (i7+1)),x17))))) else(some (.done l8)))
def m_pdom_Exit_F2(a3:TGraph):(List Bool×List (List Int)×List (List Int)×List (List Int))->Option (LR (List Bool×List (List Int)×List (List Int)×List (List Int)) (TGraph×Int)):=
 fun(s_:(List Bool×List (List Int)×List (List Int)×List (List Int)))=>match s_ with|(l1,l2,l3,l4)=>(A6 (0<=(a3.Succ.length:Int)/\0+(a3.Succ.length:Int).toNat<=64) ((N6 (subN false l1 0 ((0+(a3.Succ.length:Int).toNat)-0)) false).bind fun x32=>(bif (decide (((0:Int):Int)<=x32)) then(A6 (A2 x32 l4.length) (A6 (A2 x32 l4.length) (A6 ((l4.getD x32.toNat []).length+([(a3.Succ.length:Int)]:List Int).length<=room) (A6 (A2 x32 l4.length) ((Pc l1 (⟨l2,l3⟩:TGraph) x32).bind fun x37=>(some (.next (x37,l2,l3,(l4.set x32.toNat ((l4.getD x32.toNat [])++([(a3.Succ.length:Int)]:List Int))))))))))) else((m_graph_Make l4).bind fun x38=>(some (.done (x38.1,x38.2)))))))
def m_pdom_Exit(a3:TGraph):Option (TGraph×Int):=
 ((P9 (S:=(List Bool×List (List Int)×List (List Int)×List (List Int))) (X:=(TGraph×Int)) ((Lm a3).bind fun x5=>(bif (bif (!x5) then true else(((a3.Succ.length:Int):Int)==64)) then(some (.done ((⟨([]:List (List Int)),([]:List (List Int))⟩:TGraph),(5:Int)))) else(A6 (0<=(w64 ((a3.Succ.length:Int)+1))/\(w64 ((a3.Succ.length:Int)+1))<=(w64 ((a3.Succ.length:Int)+1))/\(w64 ((a3.Succ.length:Int)+1))<=(room:Int)) ((Ah (m_pdom_Exit_L1 a3) ((0:Int),(List.replicate (w64 ((a3.Succ.length:Int)+1)).toNat ([]:List Int)))).bind (fun x19=>((S5 a3).bind fun x21=>((R8 a3).bind fun x22=>(A6 (0<=(a3.Succ.length:Int)/\0+(a3.Succ.length:Int).toNat<=64) ((N6 (subN false x21 0 ((0+(a3.Succ.length:Int).toNat)-0)) false).bind fun x24=>(bif (decide (((0:Int):Int)<=x24)) then(A6 (A2 x24 x19.length) (A6 (A2 x24 x19.length) (A6 ((x19.getD x24.toNat []).length+([(a3.Succ.length:Int)]:List Int).length<=room) (A6 (A2 x24 x19.length) ((Pc x21 x22 x24).bind fun x29=>(some (.next (x29,x22.Succ,x22.Pred,(x19.set x24.toNat ((x19.getD x24.toNat [])++([(a3.Succ.length:Int)]:List Int))))))))))) else((m_graph_Make x19).bind fun x30=>(some (.done (x30.1,x30.2)))))))))))))) (m_pdom_Exit_F2 a3)).bind (fun x39=>(some x39)))
def m_pdom_Tree(a3:TGraph):Option (List Int):=
 ((m_pdom_Exit a3).bind fun x1=>(bif (x1.2 !=0) then(some ([]:List Int)) else((R8 x1.1).bind fun x2=>((Oj x2 (a3.Succ.length:Int)).bind fun x3=>(some x3)))))
def m_pdom_Shut_L1(a3:TGraph)(x2:List Bool):(List Int×Int)->Option (LR (List Int×Int) (List Int)):=
 fun((l3,i4):(List Int×Int))=>(bif (decide (i4<(a3.Succ.length:Int))) then(Option.bind (α:=List Int) (A6 (A2 i4 64) (bif (!(x2.getD i4.toNat false)) then(A6 (l3.length+([i4]:List Int).length<=room) (some (l3++([i4]:List Int)))) else(some l3))) (fun x9=>(some (.next (x9,(w64 (i4+1))))))) else(some (.done l3)))
def m_pdom_Shut(a3:TGraph):Option (List Int):=
 ((Lm a3).bind fun x1=>(bif (!x1) then(some ([]:List Int)) else((S5 a3).bind fun x2=>((Ah (m_pdom_Shut_L1 a3 x2) (([]:List Int),(0:Int))).bind (fun x11=>(some x11))))))
def m_pdom_Over(a6:List Int)(aI:Int)(aK:Int):Option Bool:=
 ((P3 a6 aI aK).bind fun x1=>(some x1))
theorem Kt{n:Int}(h:-9223372036854775808<=n)(h':n<9223372036854775808):w64 n=n:=by
 show IntKind.i64.wrap n=n
 simp only[IntKind.wrap,IntKind.bits,IntKind.signed]
 simp
 split<;>omega
theorem wu64_of{n:Int}(h:0<=n)(h':n<18446744073709551616):Iv n=n:=by
 show IntKind.u64.wrap n=n
 simp[IntKind.wrap,IntKind.bits,IntKind.signed];omega
theorem wu64_mod(n:Int):Iv n=n % 18446744073709551616:=by
 show IntKind.u64.wrap n=_
 simp[IntKind.wrap,IntKind.bits,IntKind.signed]
theorem Ab{R:Type}{p:Prop}[Decidable p]{k:Option R}(h:p):A6 p k=k:=if_pos h
theorem fdiv_pow{x:Int}(j:Nat):x.fdiv (2 ^ j)=x / 2 ^ j:=by rw[Int.fdiv_eq_ediv_of_nonneg _ (by exact Int.le_of_lt (Int.pow_pos (by decide)))]
theorem Ai{α:Type}(l:List α)(i:Nat)(d:α)(h:i<l.length):l.getD i d=l[i]:=by simp[List.getD,h]
theorem kinds(k:Int):k=0\/k=1\/k=2\/k=3\/k=4\/k=5\/k=6\/k=7\/k=8\/k=9\/k=10\/k=11\/k=12\/k=13\/k=14\/k=15\/k=16\/k=17\/k=18\/k=19\/k=20\/k=21\/k=22\/(k<0\/22<k):=by omega
theorem out_ne{k:Int}(h:k<0\/22<k):(k==0)=false/\(k==1)=false/\(k==2)=false/\(k==3)=false/\(k==4)=false/\(k==5)=false/\(k==6)=false/\(k==7)=false/\(k==8)=false/\(k==9)=false/\(k==10)=false/\(k==11)=false/\(k==12)=false /\
  (k==13)=false/\(k==14)=false/\(k==15)=false/\(k==16)=false/\(k==17)=false/\(k==18)=false/\(k==19)=false/\(k==20)=false/\(k==21)=false/\(k==22)=false:=by
 simp only[zzL32,ne_eq];omega
def widthB(b:Int):Bool:=b==1 || b==8 || b==16 || b==32 || b==64
def Vd(b n:Int):Bool:=widthB b&&(n==1 || ((n==2 || n==4 || n==8 || n==16)&&decide (8<=b)&&decide (b*n<=128)))
theorem width_cases{b:Int}(h:widthB b=true):b=1\/b=8\/b=16\/b=32\/b=64:=by simp[widthB]at h;omega
theorem Yt{b n:Int}(h:Vd b n=true):widthB b=true:=by simp[Vd]at h;exact h.1
theorem Qw{b n:Int}(h:Vd b n=true):n=1\/n=2\/n=4\/n=8\/n=16:=by simp[Vd]at h;omega
theorem Uq(b:Int):Jv b=some (widthB b):=by
 unfold Jv widthB
 by_cases h1:b=1
 ·subst h1;rfl
 by_cases h2:b=8
 ·subst h2;rfl
 by_cases h3:b=16
 ·subst h3;rfl
 by_cases h4:b=32
 ·subst h4;rfl
 by_cases h5:b=64
 ·subst h5;rfl
 have e1:(b==1)=false:=by simpa using h1
 have e2:(b==8)=false:=by simpa using h2
 have e3:(b==16)=false:=by simpa using h3
 have e4:(b==32)=false:=by simpa using h4
 have e5:(b==64)=false:=by simpa using h5
 simp[e1,e2,e3,e4,e5]
theorem Qt(b:Int):Cm b=some (widthB b):=by
 unfold Cm widthB
 cases(b==1)<;>cases(b==8)<;>cases(b==16)<;>cases(b==32)<;>rfl
theorem kind_Shape(b n:Int):Pb b n=some (Vd b n):=by
 unfold Pb;simp only[Uq,An]
 by_cases hn:n=1\/n=2\/n=4\/n=8\/n=16
 ·cases hw:widthB b with
  | false=>rcases hn with rfl|rfl|rfl|rfl|rfl<;>simp[Vd,hw]
  | true=>
   rcases width_cases hw with rfl|rfl|rfl|rfl|rfl<;>rcases hn with rfl|rfl|rfl|rfl|rfl<;>rfl
 ·have e1:(n==1)=false:=by simp;omega
  have e2:(n==2)=false:=by simp;omega
  have e3:(n==4)=false:=by simp;omega
  have e4:(n==8)=false:=by simp;omega
  have e5:(n==16)=false:=by simp;omega
  simp[Vd,e1,e2,e3,e4,e5]
theorem ref_Shape(b n:Int):Hq b n=some (Vd b n):=by
 unfold Hq;simp only[Qt,An]
 cases hw:widthB b with
 | false=>simp[Vd,hw]
 | true=>
  by_cases hn:n=1\/n=2\/n=4\/n=8\/n=16
  ·rcases width_cases hw with rfl|rfl|rfl|rfl|rfl<;>rcases hn with rfl|rfl|rfl|rfl|rfl<;>rfl
  ·have e1:(n==1)=false:=by simp;omega
   have e2:(n==2)=false:=by simp;omega
   have e3:(n==4)=false:=by simp;omega
   have e4:(n==8)=false:=by simp;omega
   have e5:(n==16)=false:=by simp;omega
   simp[Vd,e1,e2,e3,e4,e5]
theorem word_Cut{v b:Int}(hv:0<=v/\v<18446744073709551616)(hb:widthB b=true):Sa v b=some (v % 2 ^ b.toNat):=by
 unfold Sa;simp only[Uq,hb,An,Dd,Aq]
 have key:∀ j:Nat,j<64->shrV .u64 (shlV .u64 v (j:Int)) (j:Int)=(v*2 ^ j % 18446744073709551616) / 2 ^ j:=fun j hj=>by
  simp only[shrV,shlV,Ew,IntKind.bits];rw[Nat.min_eq_left (by omega),fdiv_pow,show IntKind.u64.wrap (v*2 ^ j)=v*2 ^ j % 18446744073709551616 from wu64_mod _]
 rcases width_cases hb with rfl|rfl|rfl|rfl|rfl
 ·have:=key 63 (by decide);simp only[show w64 (64-1)=((63:Nat):Int) from rfl,this];rw[Ab (by decide),Ab (by decide)];congr 1;simp only[show((1:Int).toNat)=1 from rfl];omega
 ·have:=key 56 (by decide);simp only[show w64 (64-8)=((56:Nat):Int) from rfl,this];rw[Ab (by decide),Ab (by decide)];congr 1;simp only[show((8:Int).toNat)=8 from rfl];omega
 ·have:=key 48 (by decide);simp only[show w64 (64-16)=((48:Nat):Int) from rfl,this];rw[Ab (by decide),Ab (by decide)];congr 1;simp only[show((16:Int).toNat)=16 from rfl];omega
 ·have:=key 32 (by decide);simp only[show w64 (64-32)=((32:Nat):Int) from rfl,this];rw[Ab (by decide),Ab (by decide)];congr 1;simp only[show((32:Int).toNat)=32 from rfl];omega
 ·have:=key 0 (by decide);simp only[show w64 (64-64)=((0:Nat):Int) from rfl,this];rw[Ab (by decide),Ab (by decide)];congr 1;simp only[show((64:Int).toNat)=64 from rfl];omega
theorem ref_Cut{v b:Int}(hv:0<=v/\v<18446744073709551616)(hb:widthB b=true):Jc v b=some (v % 2 ^ b.toNat):=by
 unfold Jc;simp only[Qt,hb,An,Dd,Aq];rcases width_cases hb with rfl|rfl|rfl|rfl|rfl
 ·rw[show((1:Int)==64)=false from rfl,Aq,Ab (by decide),Ab (by decide),show shlV .u64 (1:Int) (Iv 1)=2 ^ (1:Int).toNat from rfl,Int.tmod_eq_emod_of_nonneg hv.1]
 ·rw[show((8:Int)==64)=false from rfl,Aq,Ab (by decide),Ab (by decide),show shlV .u64 (1:Int) (Iv 8)=2 ^ (8:Int).toNat from rfl,Int.tmod_eq_emod_of_nonneg hv.1]
 ·rw[show((16:Int)==64)=false from rfl,Aq,Ab (by decide),Ab (by decide),show shlV .u64 (1:Int) (Iv 16)=2 ^ (16:Int).toNat from rfl,Int.tmod_eq_emod_of_nonneg hv.1]
 ·rw[show((32:Int)==64)=false from rfl,Aq,Ab (by decide),Ab (by decide),show shlV .u64 (1:Int) (Iv 32)=2 ^ (32:Int).toNat from rfl,Int.tmod_eq_emod_of_nonneg hv.1]
 ·rw[show((64:Int)==64)=true from rfl,Ag]
  congr 1
  simp only[show((64:Int).toNat)=64 from rfl];omega
theorem kind_isWidth{i:Int}(h:0<=i/\i<18446744073709551616):K8 i=some (widthB i):=by
 unfold K8
 by_cases hi:i<=64
 ·have:w64 i=i:=Kt (by omega) (by omega);simp[hi,this,Uq]
 ·have:widthB i=false:=by simp[widthB];omega
  simp[hi,this]
def isK(k:Int):Bool:=decide (0<=k)&&decide (k<=22)
def N7(k n:Int):Int:=
 bif k==0 then 0 else bif k==13 || k==18 || k==19 then 3 else bif k==14 || k==15 || k==16 || k==22 then 1 else bif k==20 then 4 else bif k==21 then n else 2
def sfitS(k b n:Int):Bool:=
 bif k==16 || k==17 then decide (8<=b) else bif k==18 || k==19 then decide (8<=b)&&n==1 else
 bif k==4 || k==10 || k==11 || k==12 || k==14 || k==15 || k==20 then n==1 else bif k==21 || k==22 then decide (1<n) else true
def ifitS(k b n i:Int):Bool:=
 bif k==0 then i % 2 ^ b.toNat==i else bif k==14 then widthB i&&decide (i<b) else bif k==15 then widthB i&&decide (b<i) else bif k==22 then decide (i<n) else i==0
def valS(v:Int):Bool:=decide (1<=v)&&decide (v<=1023)
def dstS(k d:Int):Bool:=bif k==17 || k==19 then d==0 else valS d
def J4(o:C1):Bool:=Vd o.Bits o.Lanes&&(isK o.Kind&&sfitS o.Kind o.Bits o.Lanes&&ifitS o.Kind o.Bits o.Lanes o.Imm&&((o.Args.length:Int)==N7 o.Kind o.Lanes))&&(o.Args.all valS&&dstS o.Kind o.Dst)
def elemS(o:C1)(i:Nat):Int×Int:=
 bif o.Kind==13 || o.Kind==20 then(bif Nat.beq i 0 then(1,1) else(o.Bits,o.Lanes)) else bif o.Kind==14 || o.Kind==15 then(w64 o.Imm,1) else
 bif o.Kind==16 || o.Kind==17 then(bif Nat.beq i 0 then(64,1) else(o.Bits,o.Lanes)) else
 bif o.Kind==18 || o.Kind==19 then(bif Nat.beq i 1 then(64,1) else bif Nat.beq i 0 then(1,1) else(o.Bits,o.Lanes)) else bif o.Kind==21 then(o.Bits,1) else(o.Bits,o.Lanes)
def V0(o:C1):List (Int×Int):=(List.range (N7 o.Kind o.Lanes).toNat).map (elemS o)
def givesS(k b n:Int):Int×Int:=bif k==17 || k==19 then(0,0) else bif k==10 || k==11 || k==12 then(1,1) else bif k==22 then(b,1) else(b,n)
theorem isK_ne{k:Int}(h:isK k=true):0<=k/\k<=22:=by simpa [isK] using h
theorem isK_out{k:Int}(h:k<0\/22<k):isK k=false:=by simp[isK];omega
theorem kind_isKind(k:Int):N5 k=some (isK k):=by unfold N5 isK;cases decide ((0:Int)<=k)<;>rfl
theorem Vc(v:Int):K7 v=some (valS v):=by unfold K7 valS;cases decide ((1:Int)<=v)<;>rfl
theorem Zv(v:Int):Ey v=some (valS v):=by
 unfold Ey valS
 have e1:decide ((0:Int)<v)=decide (1<=v):=by congr 1
 have e2:decide (v<(1024:Int))=decide (v<=1023):=by apply zzL61.2;omega
 rw[e1,e2]
 cases decide ((1:Int)<=v)<;>rfl
theorem kind_shapeFits(o:C1):K9 o=some (sfitS o.Kind o.Bits o.Lanes):=by
 obtain⟨k,b,n,d,args,i⟩:=o;rcases kinds k with rfl|rfl|rfl|rfl|rfl|rfl|rfl|rfl|rfl|rfl|rfl|rfl|rfl|rfl|rfl|rfl|rfl|rfl|rfl|rfl|rfl|rfl|rfl|h
 any_goals rfl
 ·show some (bif decide (8<=b) then n==1 else false)=some (decide (8<=b)&&n==1);cases decide (8<=b)<;>rfl
 ·show some (bif decide (8<=b) then n==1 else false)=some (decide (8<=b)&&n==1);cases decide (8<=b)<;>rfl
 ·unfold K9 sfitS;simp[out_ne h]
theorem kind_gives(o:C1):Nc o=some (givesS o.Kind o.Bits o.Lanes):=by
 obtain⟨k,b,n,d,args,i⟩:=o;rcases kinds k with rfl|rfl|rfl|rfl|rfl|rfl|rfl|rfl|rfl|rfl|rfl|rfl|rfl|rfl|rfl|rfl|rfl|rfl|rfl|rfl|rfl|rfl|rfl|h
 any_goals rfl
 unfold Nc givesS;simp[out_ne h]
theorem kind_immFits(o:C1)(hw:widthB o.Bits=true)(hn:0<=o.Lanes/\o.Lanes<=16)(hi:0<=o.Imm/\o.Imm<18446744073709551616):Mt o=some (ifitS o.Kind o.Bits o.Lanes o.Imm):=by
 unfold Mt ifitS
 have hb:Iv o.Bits=o.Bits:=by apply wu64_of<;>(rcases width_cases hw with h|h|h|h|h<;>omega)
 have hl:Iv o.Lanes=o.Lanes:=by apply wu64_of<;>omega
 rw[word_Cut hi hw,kind_isWidth hi,hb,hl]
 cases(o.Kind==0)<;>cases(o.Kind==14)<;>cases(o.Kind==15)<;>cases(o.Kind==22)<;>cases widthB o.Imm<;>rfl
set_option maxHeartbeats 2000000 in
theorem ref_Fits (o : C1) (hs : Vd o.Bits o.Lanes = true) (hk : isK o.Kind = true) (hi : 0 ≤ o.Imm ∧ o.Imm < 18446744073709551616) : Fi o = some (sfitS o.Kind o.Bits o.Lanes && ifitS o.Kind o.Bits o.Lanes o.Imm) := by
  have hw := Yt hs; have hl := Qw hs; obtain ⟨k, b, n, d, args, i⟩ := o; simp only at hs hk hi hw hl ⊢
  have hb : Iv b = b := by apply wu64_of <;> (rcases width_cases hw with h | h | h | h | h <;> omega)
  have hn : Iv n = n := by apply wu64_of <;> omega
  have hb8 : decide (b < 8) = !decide (8 ≤ b) := by rw [← decide_not]; apply zzL61.2; omega
  have hn2 : decide (n < 2) = !decide (1 < n) := by rw [← decide_not]; apply zzL61.2; omega
  have h14 : (bif decide (i < b) then widthB (w64 i) else false) = (widthB i && decide (i < b)) := by
    by_cases h : i < b
    · have : w64 i = i := Kt (by omega) (by rcases width_cases hw with h | h | h | h | h <;> omega); simp [h, this]
    · simp [h]
  have h15 : (bif (bif decide (b < i) then decide (i ≤ 64) else false) then widthB (w64 i) else false) = (widthB i && decide (b < i)) := by
    by_cases h : i ≤ 64
    · have : w64 i = i := Kt (by omega) (by omega)
      by_cases h2 : b < i <;> simp [h, this, h2]
    · have : widthB i = false := by simp [widthB]; omega
      simp [h, this]
  have hc := ref_Cut (v := i) hi hw; rcases kinds k with rfl | rfl | rfl | rfl | rfl | rfl | rfl | rfl | rfl | rfl | rfl | rfl | rfl | rfl | rfl | rfl | rfl | rfl | rfl | rfl | rfl | rfl | rfl | h
  case inl => unfold Fi; simp [hc, sfitS, ifitS]
  all_goals first
    | (rw [isK_out h] at hk; cases hk)
    | (unfold Fi sfitS ifitS
       simp only [hb8]
       generalize decide (8 ≤ b) = u at *
       clear hc h14 h15 hb8 hw hs; rcases hl with rfl | rfl | rfl | rfl | rfl <;> cases u <;> simp_all
       done)
    | (unfold Fi sfitS ifitS
       rw [hb]; simp only [Qt]; clear hc hs
       generalize decide (i < b) = p at *
       generalize decide (b < i) = q at *
       generalize decide (i ≤ 64) = r at *
       generalize widthB (w64 i) = s at *
       rcases hl with rfl | rfl | rfl | rfl | rfl <;> cases p <;> cases q <;> cases r <;> cases s <;> simp_all
       done)
theorem Hl{α X:Type}(l:List α)(d:α)(p:α->Bool)(f:Int->Option (LR Int X))(yes no:X)(hn:∀ i:Nat,i<l.length->p (l.getD i d)=true->f i=some (.next ((i:Int)+1)))
  (hf:∀ i:Nat,i<l.length->p (l.getD i d)=false->f i=some (.done no)) (he:f l.length=some (.done yes)):∀(k i:Nat),i+k=l.length->Ah f i=some (bif (l.drop i).all p then yes else no)
 | 0,i,h=>by
  obtain rfl:i=l.length:=by omega
  rw[Ao he]
  simp
 | k+1,i,h=>by
  have hi:i<l.length:=by omega
  have hd:l.drop i=l.getD i d::l.drop (i+1):=by rw[Y3 hi,Ai _ _ _ hi]
  cases hp:p (l.getD i d) with
  | true=>
   rw[Ax (hn i hi hp)];have:=Hl l d p f yes no hn hf he k (i+1) (by omega);rw[show((i:Int)+1)=((i+1:Nat):Int) by omega,this,hd,Wp,hp,Fc]
  | false=>
   rw[Ao (hf i hi hp),hd,Wp,hp,Y9,Aq]
theorem loop_build{α X:Type}(n:Nat)(g:Nat->α)(f:List α×Int->Option (LR (List α×Int) X))(out:List α->X)(hn:∀(l:List α) (i:Nat),i<n->l.length=i->f (l,(i:Int))=some (.next (l++[g i],(i:Int)+1)))
  (he:∀ l:List α,l.length=n->f (l,(n:Int))=some (.done (out l))):∀(k i:Nat) (l:List α),i+k=n->l=(List.range i).map g->Ah f (l,(i:Int))=some (out ((List.range n).map g))
 | 0,i,l,h,hl=>by
  obtain rfl:i=n:=by omega
  subst hl;exact Ao (he _ (by simp))
 | k+1,i,l,h,hl=>by
  subst hl;rw[Ax (hn _ i (by omega) (by simp)),show((i:Int)+1)=((i+1:Nat):Int) by omega];exact loop_build n g f out hn he k (i+1) _ (by omega) (by simp[Y8])
theorem loop_sum{α:Type}(l:List α)(d:α)(wt:α->Nat)(C:Nat)(f:Int×Int->Option (LR (Int×Int) Int))
  (hn:∀(n i:Nat),i<l.length->n<=C->∃ m:Nat,f ((n:Int),(i:Int))=some (.next ((m:Int),((i+1:Nat):Int)))/\(n+wt (l.getD i d)<=C->m=n+wt (l.getD i d))/\(m<=C->n+wt (l.getD i d)<=C))
  (hd:∀(n i:Nat),i<=l.length->(i=l.length\/C<n)->f ((n:Int),(i:Int))=some (.done (n:Int))) :
  ∀(k i n:Nat),i+k=l.length->∃ m:Nat,Ah f ((n:Int),(i:Int))=some (m:Int)/\(n+((l.drop i).map wt).sum<=C->m=n+((l.drop i).map wt).sum)/\(m<=C->n+((l.drop i).map wt).sum<=C)
 | 0,i,n,h=>by
  obtain rfl:i=l.length:=by omega
  refine⟨n,Ao (hd n _ (zzL9 _) (.inl rfl)),?_,?_⟩
  ·simp
  ·simp
 | k+1,i,n,h=>by
  have hi:i<l.length:=by omega
  have hdr:l.drop i=l.getD i d::l.drop (i+1):=by rw[Y3 hi,Ai _ _ _ hi]
  by_cases hC:n<=C
  ·obtain⟨m,h1,h2,h3⟩:=hn n i hi hC;obtain⟨m',h4,h5,h6⟩:=loop_sum l d wt C f hn hd k (i+1) m (by omega);refine⟨m',by rw[Ax h1];exact h4,fun hle=>?_,fun hle=>?_⟩
   ·rw[hdr,C7,V2]at hle ⊢;have:=h2 (by omega);subst this;rw[h5 (by omega)];omega
   ·rw[hdr,C7,V2];have h7:=h6 hle;have h8:=h3 (by omega);have:=h2 h8;omega
  ·refine⟨n,Ao (hd n i (by omega) (.inr (by omega))),fun hle=>by omega,fun hle=>by omega⟩
theorem R6{X:Type}(N:Nat)(f:Int×Int->Option (LR (Int×Int) X))(hn:∀(n:Int) (i:Nat),i<N->(∃ m:Int,f (n,(i:Int))=some (.next (m,((i+1:Nat):Int))))\/∃ x,f (n,(i:Int))=some (.done x))(hd:∀ n:Int,∃ x,f (n,(N:Int))=some (.done x)) :
  ∀(k i:Nat) (n:Int),i+k=N->∃ x,Ah f (n,(i:Int))=some x
 | 0,i,n,h=>by
  obtain rfl:i=N:=by omega
  obtain⟨x,hx⟩:=hd n;exact⟨x,Ao hx⟩
 | k+1,i,n,h=>by
  rcases hn n i (by omega) with⟨m,hm⟩|⟨x,hx⟩
  ·obtain⟨x,hx⟩:=R6 N f hn hd k (i+1) m (by omega);exact⟨x,by rw[Ax hm];exact hx⟩
  ·exact⟨x,Ao hx⟩
theorem loop_addw{α X:Type}(l:List α)(d:α)(wt:α->Nat)(out:Int->X)(f:Int×Int->Option (LR (Int×Int) X))
  (hn:∀(n i:Nat),i<l.length->f (w64 n,(i:Int))=some (.next (w64 ((n+wt (l.getD i d):Nat):Int),((i+1:Nat):Int)))) (hd:∀ n:Int,f (n,(l.length:Int))=some (.done (out n))) :
  ∀(k i n:Nat),i+k=l.length->Ah f (w64 n,(i:Int))=some (out (w64 ((n+((l.drop i).map wt).sum:Nat):Int)))
 | 0,i,n,h=>by
  obtain rfl:i=l.length:=by omega
  rw[Ao (hd _)]
  simp
 | k+1,i,n,h=>by
  have hi:i<l.length:=by omega
  have hdr:l.drop i=l.getD i d::l.drop (i+1):=by rw[Y3 hi,Ai _ _ _ hi]
  rw[Ax (hn n i hi),loop_addw l d wt out f hn hd k (i+1) _ (by omega),hdr,C7,V2,Po]
theorem w64_add(a b:Int):w64 (w64 a+b)=w64 (a+b):=by
 show IntKind.i64.wrap (IntKind.i64.wrap a+b)=IntKind.i64.wrap (a+b)
 simp only[IntKind.wrap,IntKind.bits,IntKind.signed]
 simp
 split<;>split<;>omega
theorem Aw{α:Type}{l:List α}{i:Nat}{d:α}(h:i<l.length):l.getD i d∈l:=by rw[Ai _ _ _ h];exact zzL84 h
theorem Ap{i n:Nat}(h:i<n):A2 (i:Int) n:=⟨by omega,by exact_mod_cast h⟩
theorem A9{i n:Nat}(h:i<n)(hn:n<9223372036854775808):w64 ((i:Int)+1)=(i:Int)+1:=Kt (by omega) (by omega)
def good31(l:List Int):Prop:=∀ x∈l,0<=x/\x<=2147483647
theorem Fy{S X:Type}(f:S->Option (LR S X))(T:Nat->S)(x:X):∀(n:Nat),(∀ i,i<n->f (T i)=some (.next (T (i+1))))->f (T n)=some (.done x)->Ah f (T 0)=some x:=by
 suffices h:∀(k i n:Nat),i+k=n->(∀ j,i<=j->j<n->f (T j)=some (.next (T (j+1))))->f (T n)=some (.done x)->Ah f (T i)=some x from
  fun n h1 h2=>h n 0 n (by omega) (fun j _ hj=>h1 j hj) h2
 intro k
 induction k with
 | zero=>
  intro i n hi _ h2
  have hin:n=i:=by omega
  subst hin;exact Ao h2
 | succ k ih=>intro i n hi h1 h2;rw[Ax (h1 i (zzL9 _) (by omega))];exact ih (i+1) n (by omega) (fun j hj hj'=>h1 j (by omega) hj') h2
theorem loop_seq_part{S X:Type}(f:S->Option (LR S X))(T:Nat->S):∀(n:Nat),(∀ i,i<n->f (T i)=some (.next (T (i+1))))->Ah f (T 0)=Ah f (T n):=by
 intro n
 induction n with
 | zero=>intro _;rfl
 | succ n ih=>intro h;rw[ih (fun i hi=>h i (by omega)),Ax (h n (by omega))]
theorem Iz{S X:Type}(f:S->Option (LR S X))(T:Nat->S)(p:Nat->Bool)(yes no:X)(n:Nat)(hn:∀ i,i<n->p i=true->f (T i)=some (.next (T (i+1))))(hf:∀ i,i<n->p i=false->f (T i)=some (.done no))
  (he:f (T n)=some (.done yes)):Ah f (T 0)=some (bif (List.range n).all p then yes else no):=by
 cases hall:(List.range n).all p with
 | true=>
  rw[Ag];exact Fy f T yes n (fun i hi=>hn i hi (zzL29.1 hall i (zzL54.2 hi))) he
 | false=>
  rw[Aq]
  have hex:∃ i,i<n/\p i=false:=by
   have:¬ ∀ i∈List.range n,p i=true:=fun h=>by rw[zzL29.2 h]at hall;cases hall
   simpa using this
  let P:Nat->Prop:=fun m=>m<n/\p m=false
  obtain⟨m,hm⟩:=hex
  have key:∀ m,m<n->p m=false->∃ k,k<n/\p k=false/\∀ j,j<k->p j=true:=by
   intro m
   induction m using Nat.strongRecOn with
   | ind m ih=>
    intro h1 h2
    by_cases h:∃ j,j<m/\p j=false
    ·obtain⟨j,hj,hpj⟩:=h;exact ih j hj (by omega) hpj
    ·refine⟨m,h1,h2,fun j hj=>?_⟩
     cases hpj:p j with
     | true=>rfl
     | false=>exact(h ⟨j,hj,hpj⟩).elim
  obtain⟨k,hk,hpk,hlt⟩:=key m hm.1 hm.2;rw[loop_seq_part f T k (fun i hi=>hn i (by omega) (hlt i hi))];exact Ao (hf k hk hpk)
theorem all_range{n:Nat}{p:Nat->Bool}:(List.range n).all p=true↔∀ i,i<n->p i=true:=by
 rw[zzL29];exact⟨fun h i hi=>h i (zzL54.2 hi),fun h i hi=>h i (zzL54.1 hi)⟩
theorem As(i:Nat):((i:Int)).toNat=i:=Ew i
theorem w1{i:Nat}(h:i<4611686018427387904):w64 ((i:Int)+1)=((i+1:Nat):Int):=by rw[Kt (by omega) (by omega)];omega
theorem Cy{i n:Nat}(h:i<n):decide (((i:Nat):Int)<((n:Nat):Int))=true:=by simpa using h
theorem Fo{n:Nat}:decide (((n:Nat):Int)<((n:Nat):Int))=false:=by simp
theorem Gj{i n:Nat}(h:i<n):A2 ((i:Nat):Int) n:=Ap h
theorem inbz{x:Int}{n:Nat}(h0:0<=x)(h1:x<n):A2 x n:=⟨h0,h1⟩
structure OpOk(o:C1):Prop where
 imm:0<=o.Imm/\o.Imm<18446744073709551616
 args:o.Args.length<=200
theorem repeat_one(x:Int×Int)(n:Int)(h:n=2\/n=4\/n=8\/n=16):B0 [x] n=some (List.replicate n.toNat x):=by
 let d:Int×Int:=(0,0)
 rcases h with rfl|rfl|rfl|rfl
 ·have e:B0 [x] 2=(Ah Cx (1,[x,d])).bind some:=by kernel_rfl
  rw[e,Ax (s':=(2,[x,x])) (by kernel_rfl),Ao (x:=[x,x]) (by kernel_rfl)]
  rfl
 ·have e:B0 [x] 4=(Ah Cx (1,[x,d,d,d])).bind some:=by kernel_rfl
  rw[e,Ax (s':=(2,[x,x,d,d])) (by kernel_rfl),Ax (s':=(4,[x,x,x,x])) (by kernel_rfl),Ao (x:=[x,x,x,x]) (by kernel_rfl)]
  rfl
 ·have e:B0 [x] 8=(Ah Cx (1,[x,d,d,d,d,d,d,d])).bind some:=by kernel_rfl
  rw[e,Ax (s':=(2,[x,x,d,d,d,d,d,d])) (by kernel_rfl),Ax (s':=(4,[x,x,x,x,d,d,d,d])) (by kernel_rfl),Ax (s':=(8,[x,x,x,x,x,x,x,x])) (by kernel_rfl),
   Ao (x:=[x,x,x,x,x,x,x,x]) (by kernel_rfl)]
  rfl
 ·have e:B0 [x] 16=(Ah Cx (1,[x,d,d,d,d,d,d,d,d,d,d,d,d,d,d,d])).bind some:=by kernel_rfl
  rw[e,Ax (s':=(2,[x,x,d,d,d,d,d,d,d,d,d,d,d,d,d,d])) (by kernel_rfl),Ax (s':=(4,[x,x,x,x,d,d,d,d,d,d,d,d,d,d,d,d])) (by kernel_rfl),
   Ax (s':=(8,[x,x,x,x,x,x,x,x,d,d,d,d,d,d,d,d])) (by kernel_rfl),Ax (s':=(16,List.replicate 16 x)) (by kernel_rfl),Ao (x:=List.replicate 16 x) (by kernel_rfl)]
  rfl
theorem kind_row(l:List (Int×Int)):H3 l=some l:=rfl
theorem kind_takes(o:C1)(hs:Vd o.Bits o.Lanes=true)(hk:isK o.Kind=true)(hf:sfitS o.Kind o.Bits o.Lanes=true):Nd o=some (V0 o):=by
 have hl:=Qw hs;obtain⟨k,b,n,d,args,i⟩:=o;simp only at hs hk hf hl ⊢;rcases kinds k with rfl|rfl|rfl|rfl|rfl|rfl|rfl|rfl|rfl|rfl|rfl|rfl|rfl|rfl|rfl|rfl|rfl|rfl|rfl|rfl|rfl|rfl|rfl|h
 case inr.inr.inr.inr.inr.inr.inr.inr.inr.inr.inr.inr.inr.inr.inr.inr.inr.inr.inr.inr.inr.inl=>
  have h1:n≠1:=by rintro rfl;simp[sfitS]at hf
  have h4:n=2\/n=4\/n=8\/n=16:=by omega
  unfold Nd;rw[show(((21:Int))==21)=true from rfl];simp only[repeat_one _ _ h4,kind_row,An];rcases h4 with rfl|rfl|rfl|rfl<;>rfl
 all_goals first
  | rfl
  | (rw[isK_out h]at hk;cases hk)
  | (rcases hl with rfl|rfl|rfl|rfl|rfl<;>first|rfl|(simp[sfitS]at hf))
theorem kind_argsFit(o:C1)(hs:Vd o.Bits o.Lanes=true)(hk:isK o.Kind=true)(hf:sfitS o.Kind o.Bits o.Lanes=true)(hl:o.Args.length<=200):Mr o=some (((o.Args.length:Int)==N7 o.Kind o.Lanes)&&o.Args.all valS):=by
 unfold Mr;rw[kind_takes o hs hk hf]
 have hn:0<=N7 o.Kind o.Lanes:=by
  have:=Qw hs;unfold N7
  cases(o.Kind==0)<;>cases(o.Kind==13 || o.Kind==18 || o.Kind==19)<;>cases(o.Kind==14 || o.Kind==15 || o.Kind==16 || o.Kind==22)<;>cases(o.Kind==20)<;>cases(o.Kind==21)<;>simp<;>omega
 have hlen:((V0 o).length:Int)=N7 o.Kind o.Lanes:=by simp[V0];omega
 simp only[An,hlen]
 by_cases he:(o.Args.length:Int)=N7 o.Kind o.Lanes
 ·have e1:((o.Args.length:Int)==N7 o.Kind o.Lanes)=true:=by simpa using he
  have e2:((o.Args.length:Int)!=N7 o.Kind o.Lanes)=false:=by simpa using he
  rw[e1,e2,Aq]
  have hloop:=Hl o.Args (0:Int) valS (I7 o) (.inl ()) (.inr false) (fun i hi hp=>by
    unfold I7
    have:decide ((i:Int)<(o.Args.length:Int))=true:=by simpa using hi
    simp only[this,Ag,Ab (Ap hi),Ew,Vc,An,hp,Dd,Aq,A9 hi (by omega)]) (fun i hi hp=>by
    unfold I7
    have:decide ((i:Int)<(o.Args.length:Int))=true:=by simpa using hi
    simp only[this,Ag,Ab (Ap hi),Ew,Vc,An,hp,Lh]) (by
    unfold I7
    simp) o.Args.length 0 (by omega)
  rw[show(0:Int)=((0:Nat):Int) from rfl,hloop,Kv]
  cases o.Args.all valS<;>rfl
 ·have e1:((o.Args.length:Int)==N7 o.Kind o.Lanes)=false:=by simpa using he
  have e2:((o.Args.length:Int)!=N7 o.Kind o.Lanes)=true:=by simpa using he
  rw[e1,e2];rfl
theorem gives_zero{k b n:Int}(hs:Vd b n=true):((givesS k b n).1==0)=(k==17 || k==19):=by
 have hb:(b==0)=false:=by
  have:=width_cases (Yt hs);simp;omega
 unfold givesS
 cases(k==17 || k==19)<;>cases(k==10 || k==11 || k==12)<;>cases(k==22)<;>simp_all
theorem kind_dstFits(o:C1)(hs:Vd o.Bits o.Lanes=true):Ms o=some (dstS o.Kind o.Dst):=by
 unfold Ms;simp only[kind_gives,An,gives_zero hs,Vc,dstS]
 cases(o.Kind==17 || o.Kind==19)<;>rfl
theorem kind_May(o:C1)(ho:OpOk o):Ol o=some (J4 o):=by
 unfold Ol J4;simp only[kind_isKind,kind_Shape,kind_shapeFits,An]
 cases hs:Vd o.Bits o.Lanes with
 | false=>cases isK o.Kind<;>rfl
 | true=>
  have hl:=Qw hs
  cases hk:isK o.Kind with
  | false=>rfl
  | true=>
   rw[kind_immFits o (Yt hs) (by omega) ho.imm];simp only[kind_dstFits o hs]
   cases hf:sfitS o.Kind o.Bits o.Lanes with
   | false=>rfl
   | true=>
    rw[kind_argsFit o hs hk hf ho.args]
    generalize ifitS o.Kind o.Bits o.Lanes o.Imm=p
    generalize ((o.Args.length:Int)==N7 o.Kind o.Lanes)=q
    generalize o.Args.all valS=r
    generalize dstS o.Kind o.Dst=s
    cases p<;>cases q<;>cases r<;>cases s<;>rfl
theorem ref_Args(o:C1):Il o=some (bif isK o.Kind then N7 o.Kind o.Lanes else -1):=by
 obtain⟨k,b,n,d,args,i⟩:=o;rcases kinds k with rfl|rfl|rfl|rfl|rfl|rfl|rfl|rfl|rfl|rfl|rfl|rfl|rfl|rfl|rfl|rfl|rfl|rfl|rfl|rfl|rfl|rfl|rfl|h
 any_goals rfl
 unfold Il;simp[out_ne h,isK_out h]
theorem ref_May(o:C1)(ho:OpOk o):F2 o=some (J4 o):=by
 unfold F2 J4;simp only[ref_Shape,An]
 cases hs:Vd o.Bits o.Lanes with
 | false=>rfl
 | true=>
  simp only[ref_Args,Dd,Rk,Ag,Aq,An]
  cases hk:isK o.Kind with
  | false=>
   have:((-1:Int)!=(o.Args.length:Int))=true:=by simp
   simp[this]
  | true=>
   simp only[Ag];rw[ref_Fits o hs hk ho.imm]
   by_cases he:(o.Args.length:Int)=N7 o.Kind o.Lanes
   ·have e1:((o.Args.length:Int)==N7 o.Kind o.Lanes)=true:=by simpa using he
    have e2:(N7 o.Kind o.Lanes !=(o.Args.length:Int))=false:=by simpa using he.symm
    rw[e1,e2]
    have hloop:=Hl o.Args (0:Int) valS (Ft o) (.inl ()) (.inr false) (fun i hi hp=>by
      unfold Ft
      have:decide ((i:Int)<(o.Args.length:Int))=true:=by simpa using hi
      simp only[this,Ag,Ab (Ap hi),Ew,Zv,An,hp,Dd,Aq,A9 hi (by have:=ho.args;omega)]) (fun i hi hp=>by
      unfold Ft
      have:decide ((i:Int)<(o.Args.length:Int))=true:=by simpa using hi
      simp only[this,Ag,Ab (Ap hi),Ew,Zv,An,hp,Lh]) (by
      unfold Ft
      simp) o.Args.length 0 (by omega)
    rw[show(0:Int)=((0:Nat):Int) from rfl,hloop,Kv];simp only[Zv,An,dstS]
    generalize sfitS o.Kind o.Bits o.Lanes=p
    generalize ifitS o.Kind o.Bits o.Lanes o.Imm=q
    generalize o.Args.all valS=r
    cases p<;>cases q<;>cases r<;>cases(o.Kind==17)<;>cases(o.Kind==19)<;>rfl
   ·have e1:((o.Args.length:Int)==N7 o.Kind o.Lanes)=false:=by simpa using he
    have e2:(N7 o.Kind o.Lanes !=(o.Args.length:Int))=true:=by simpa using Ne.symm he
    rw[e1,e2]
    cases sfitS o.Kind o.Bits o.Lanes<;>cases ifitS o.Kind o.Bits o.Lanes o.Imm<;>rfl
theorem may_all{o:C1}(h:J4 o=true):Vd o.Bits o.Lanes=true/\isK o.Kind=true/\sfitS o.Kind o.Bits o.Lanes=true/\ifitS o.Kind o.Bits o.Lanes o.Imm=true/\(o.Args.length:Int)=N7 o.Kind o.Lanes/\o.Args.all valS=true/\dstS o.Kind o.Dst=true:=by
 simp only[J4,A7,zzL53]at h;exact⟨h.1.1,h.1.2.1.1.1,h.1.2.1.1.2,h.1.2.1.2,h.1.2.2,h.2.1,h.2.2⟩
theorem kind_Takes(o:C1)(ho:OpOk o):Nb o=some (bif J4 o then V0 o else[]):=by
 unfold Nb;rw[kind_May o ho];simp only[An]
 cases hm:J4 o with
 | false=>rfl
 | true=>
  obtain⟨h1,h2,h3,_⟩:=may_all hm;simp only[kind_takes o h1 h2 h3,An]
  rfl
theorem kind_Gives(o:C1)(ho:OpOk o):Na o=some (bif J4 o then givesS o.Kind o.Bits o.Lanes else(0,0)):=by
 unfold Na;rw[kind_May o ho];simp only[An,kind_gives]
 cases J4 o<;>rfl
theorem ref_Gives(o:C1)(ho:OpOk o):Gc o=some (bif J4 o then givesS o.Kind o.Bits o.Lanes else(0,0)):=by
 unfold Gc;rw[ref_May o ho];simp only[An]
 cases hm:J4 o with
 | false=>rfl
 | true=>
  obtain⟨_,h2,_⟩:=may_all hm;obtain⟨k,b,n,d,args,i⟩:=o;simp only at h2 ⊢;rcases kinds k with rfl|rfl|rfl|rfl|rfl|rfl|rfl|rfl|rfl|rfl|rfl|rfl|rfl|rfl|rfl|rfl|rfl|rfl|rfl|rfl|rfl|rfl|rfl|h
  any_goals rfl
  rw[isK_out h]at h2;cases h2
theorem ref_Takes(o:C1)(ho:OpOk o):Gd o=some (bif J4 o then V0 o else[]):=by
 unfold Gd;rw[ref_May o ho];simp only[An]
 cases hm:J4 o with
 | false=>rfl
 | true=>
  obtain⟨h1,h2,h3,h4,h5,_⟩:=may_all hm
  have hloop:=loop_build (X:=List (Int×Int)) o.Args.length (elemS o) (Gf o) id (fun l i hi hl=>by
   unfold Gf
   have e0:decide ((i:Int)<(o.Args.length:Int))=true:=by simpa using hi
   have e1:((i:Int)==0)=Nat.beq i 0:=by cases i<;>rfl
   have e2:((i:Int)==1)=Nat.beq i 1:=by
    rcases i with _|_|i
    ·rfl
    ·rfl
    ·have:¬ (((i+1+1:Nat):Int)=1):=by omega
     simp only[Nat.beq]
     simpa using this
   have hr:l.length+([elemS o i]:List (Int×Int)).length<=room:=by have:=ho.args;simp[room];omega
   simp only[e0,e1,e2,Ag];have e3:w64 ((i:Int)+1)=(i:Int)+1:=A9 hi (by have:=ho.args;omega);simp only[e3]
   have key:∀(x:Option (Int×Int)),x=some (elemS o i)->(x.bind fun x23=>A6 (l.length+([(x23.1,x23.2)]:List (Int×Int)).length<=room) (some (LR.next (l++([(x23.1,x23.2)]:List (Int×Int)),(i:Int)+1))))=(some (LR.next (l++[elemS o i],(i:Int)+1)):Option (LR (List (Int×Int)×Int) (List (Int×Int)))):=by
    rintro x rfl;exact Ab hr
   refine key _ ?_;clear key hr;obtain⟨k,b,n,d,args,im⟩:=o;simp only at h2 ⊢;rcases kinds k with rfl|rfl|rfl|rfl|rfl|rfl|rfl|rfl|rfl|rfl|rfl|rfl|rfl|rfl|rfl|rfl|rfl|rfl|rfl|rfl|rfl|rfl|rfl|h
   all_goals first
    | rfl
    | (rw[isK_out h]at h2;cases h2)
    | (rcases i with _|_|i<;>rfl)) (fun l hl=>by
   unfold Gf
   simp) o.Args.length 0 [] (by omega) rfl
  rw[show(0:Int)=((0:Nat):Int) from rfl];simp only[Dd,Aq,hloop,An,id];rw[V0,<- h5]
  rfl
theorem wf_u64{n:Int}(h:(Lit.int .u64 n).wf=true):0<=n/\n<18446744073709551616:=by simp[Lit.wf,IntKind.min,IntKind.max,IntKind.bits,IntKind.signed]at h;omega
abbrev Iall(w:World):Nat->Nat->Prop:=fun b o=>∃ u,w.cell? ⟨b,o,none⟩=some u
structure CRep(w:World)(cs:List Value)(avs:List AV):Prop where
 len:cs.length=avs.length
 one:∀ j,j<avs.length->(cs.getD j undef).oneCell'=true
 rep:∀ j,j<avs.length->RepV (Iall w) w (cs.getD j undef) (avs.getD j .any)
structure Opens(P:Program)(t:TypeId){α:Type}(e:α->List AV)(ok:α->Prop):Prop where
 get:∀{H:Type} {enc:TypeId×Value->H} {w:World} {base:Nat} {spare:Nat->Bool} {held:Bool} {fuel:Nat} {cs:List Value} {x:DataW H×List MemPlace},
  DataW.trod enc P w base spare held fuel t cs=some x->∃ a,ok a/\CRep w cs (e a)
theorem crep_one{w:World}{v:Value}{x:AV}(h1:v.oneCell'=true)(h:RepV (Iall w) w v x):CRep w [v] [x]:=
 ⟨rfl,fun j hj=>(by
   have hj0:j=0:=by simpa using hj
   subst hj0
   exact h1),fun j hj=>(by
   have hj0:j=0:=by simpa using hj
   subst hj0
   exact h)⟩
theorem opens_int{P:Program}{t:TypeId}{k:IntKind}{e:Int->List AV}(ht:P.underlying t=some (.int k))(he:∀ n,e n=[.int k n]):Opens P t e (fun n=>(Lit.int k n).wf=true):=by
 refine⟨?_⟩;intro H enc w base spare held fuel cs x h;obtain⟨n,rfl,rfl,hw⟩:=DataW.trod_int ht h;exact⟨n,hw,by rw[he];exact crep_one rfl (.int _ _)⟩
theorem cells?_get{w:World}{base:Nat}{a:Addr}{n:Nat}{cs:List Value}(h:w.cells? base a n=some cs):cs.length=n/\∀ i,i<n->w.cell? (a.add i)=some (cs.getD i undef):=by
 unfold World.cells? at h
 split at h
 ·have hl:=mapM_some_length h;simp at hl;refine⟨hl,fun i hi=>?_⟩;have:=mapM_some_get h i i (by simp[hi]);rw[this];simp[List.getD,show i<cs.length by omega]
 ·cases h
theorem S8{P:Program}{t el:TypeId}{α:Type}{e:α->List AV}{ok:α->Prop}{sz:Nat}{d:α}{e':List α->List AV}(ht:P.underlying t=some (.slice el))(hs:P.cellsOf el=sz)(h1:1<=sz)(he:Opens P el e ok)(hlen:∀ a,(e a).length=sz)
  (he':∀ l,e' l=[AV.list sz e d l .none]):Opens P t e' (fun l=>(∀ a∈l,ok a)/\l.length<=maxLen):=by
 refine⟨?_⟩;intro H enc w base spare held fuel cs x h;rcases DataW.trod_slice ht h with⟨rfl,rfl⟩|⟨a,len,cap,elems,rest,n,_,rfl,rfl,hb,hl,hm,hlen2,hel,_⟩
 ·exact⟨[],⟨by simp,by simp⟩,by rw[he'];exact crep_one rfl (.slice none 0 0 sz _ (fun _=>undef) (zzL9 _) (by simp) (fun h=>by simp at h) (fun _=>rfl) (fun j hj=>by simp at hj) (fun i hi=>by simp at hi) (fun i c hi=>by simp at hi))⟩
 ·have each:∀ i:Fin len,∃ b,ok b/\∃ cs,w.cells? base (a.add (i.1*sz)) sz=some cs/\CRep w cs (e b):=fun⟨i,hi⟩=>by
   have:=hel i hi;rw[hs,Ut (by omega),zzL114]at this;obtain⟨cs,hcs,htr⟩:=this;obtain⟨b,hb,hr⟩:=he.get htr;exact⟨b,hb,cs,hcs,hr⟩
  let f:Fin len->α:=fun i=>(each i).choose
  have hf:∀ i,ok (f i)/\∃ cs,w.cells? base (a.add (i.1*sz)) sz=some cs/\CRep w cs (e (f i)):=fun i=>(each i).choose_spec
  have hlf:(List.ofFn f).length=len:=by simp
  refine⟨List.ofFn f,⟨fun b hb=>?_,by simp;omega⟩,?_⟩
  ·obtain⟨i,rfl⟩:=List.mem_ofFn.1 hb;exact(hf i).1
  rw[he'];refine crep_one rfl ?_
  have hcell0:∀ i (hi:i<len),∀ c,c<sz->∃ u,w.cell? ((a.add (i*sz)).add c)=some u/\u.oneCell'=true/\RepV (Iall w) w u ((e (f ⟨i,hi⟩)).getD c .any):=fun i hi c hc=>by
   obtain⟨_,cs,hcs,hr⟩:=hf ⟨i,hi⟩;obtain⟨hl,hg⟩:=cells?_get hcs;exact⟨_,hg c hc,hr.one c (by rw[hlen];exact hc),hr.rep c (by rw[hlen];exact hc)⟩
  have hspot:0<len->a.spot=none:=fun hp=>by
   obtain⟨u,hu,_⟩:=hcell0 0 hp 0 h1;have h2:=World.cell?_spot hu
   simpa [Addr.add] using h2
  have hcell:∀ i (hi:i<len),∀ c,c<sz->∃ u,w.cell? ⟨a.block,a.off+(i*sz+c),none⟩=some u/\u.oneCell'=true/\RepV (Iall w) w u ((e (f ⟨i,hi⟩)).getD c .any):=fun i hi c hc=>by
   obtain⟨u,hu,h1,h2⟩:=hcell0 i hi c hc;have hsp:=hspot (by omega);rw[L1 hsp,Ov]at hu;exact⟨u,by rw[<- Po];exact hu,h1,h2⟩
  have hdm:∀ j,j<len*sz->∃ i c,i<len/\c<sz/\j=i*sz+c:=fun j hj=>by
   refine⟨j / sz,j % sz,(zzL105 (by omega)).2 hj,V5 _ (by omega),?_⟩;rw[V3];exact(Y1 j sz).symm
  unfold AV.list;rw[hlf];refine .slice (some a) len cap sz _ (fun j=>(w.cell? ⟨a.block,a.off+j,none⟩).getD undef) hl hm (fun hp=>⟨a,rfl,hspot hp,fun j hj=>?_,fun j hj=>?_⟩) (fun h=>by cases h) (fun j hj=>?_) (fun i hi=>hlen _) (fun i c hi hc=>?_)
  ·obtain⟨i,c,hi,hc,rfl⟩:=hdm j hj;obtain⟨u,hu,_⟩:=hcell i hi c hc;exact⟨u,hu⟩
  ·obtain⟨i,c,hi,hc,rfl⟩:=hdm j hj;obtain⟨u,hu,_⟩:=hcell i hi c hc;rw[hu];rfl
  ·obtain⟨i,c,hi,hc,rfl⟩:=hdm j hj;obtain⟨u,hu,h1,_⟩:=hcell i hi c hc;simp only[hu];exact h1
  ·obtain⟨u,hu,_,h2⟩:=hcell i hi c hc
   have e1:(List.ofFn f).getD i d=f ⟨i,hi⟩:=by simp[List.getD,hi]
   rw[e1,hu];exact h2
structure OpensF(P:Program)(fs:List Field)(off N:Nat){α:Type}(e:α->List AV)(ok:α->Prop):Prop where
 get:∀{H:Type} {enc:TypeId×Value->H} {w:World} {base:Nat} {spare:Nat->Bool} {held:Bool} {n:Nat} {cs:List Value},cs.length=N->
  (∀ f∈fs,∃ x,DataW.trod enc P w base spare held n f.type ((cs.drop f.offset).take (P.cellsOf f.type))=some x)->∃ a,ok a/\CRep w (cs.drop off) (e a)
theorem P7{P:Program}{N:Nat}:OpensF P [] N N (fun _:Unit=>[]) (fun _=>True):=by
 refine⟨?_⟩;intro H enc w base spare held n cs hN _;rw[List.drop_eq_nil_of_le (by omega)];exact⟨(),trivial,rfl,(fun j hj=>by simp at hj),(fun j hj=>by simp at hj)⟩
theorem B6{P:Program}{f:Field}{fs:List Field}{off sz N:Nat}{α β:Type}{e:α->List AV}{ok:α->Prop}{e':β->List AV}{ok':β->Prop}(hoff:f.offset=off)(hsz:P.cellsOf f.type=sz)(hle:off+sz<=N)
  (h:Opens P f.type e ok) (h':OpensF P fs (off+sz) N e' ok'):OpensF P (f::fs) off N (fun p:α×β=>e p.1++e' p.2) (fun p=>ok p.1/\ok' p.2):=by
 refine⟨?_⟩;intro H enc w base spare held n cs hN hall;obtain⟨x,hx⟩:=hall f (by simp);rw[hoff,hsz]at hx;obtain⟨a,ha,hr⟩:=h.get hx;obtain⟨b,hb,hr'⟩:=h'.get hN (fun g hg=>hall g (by simp[hg]))
 have hl:(e a).length=sz:=by rw[<- hr.len];simp;omega
 have hl':(e' b).length=N-(off+sz):=by rw[<- hr'.len];simp;omega
 have hsplit:cs.drop off=(cs.drop off).take sz++cs.drop (off+sz):=by rw[<- List.drop_drop];exact(List.take_append_drop sz _).symm
 have hl2:((cs.drop off).take sz).length=sz:=by simp;omega
 refine⟨(a,b),⟨ha,hb⟩,?_,fun j hj=>?_,fun j hj=>?_⟩
 ·simp[hl,hl'];omega
 ·rw[hsplit];replace hj:j<(e a++e' b).length:=hj
  show _
  by_cases hlt:j<sz
  ·have:=hr.one j (by omega);rwa[List.getD,Qy (by omega)]
  ·have:=hr'.one (j-sz) (by simp at hj;omega);rwa[List.getD,Us (by omega),hl2]
 ·rw[hsplit];replace hj:j<(e a++e' b).length:=hj
  show RepV (Iall w) w _ ((e a++e' b).getD j .any)
  by_cases hlt:j<sz
  ·have:=hr.rep j (by omega);rwa[List.getD,Qy (by omega),List.getD,Qy (by omega)]
  ·have:=hr'.rep (j-sz) (by simp at hj;omega);rwa[List.getD,Us (by omega),hl2,List.getD,Us (by omega),hl]
theorem Ni{P:Program}{t:TypeId}{fs:Array Field}{N:Nat}{α:Type}{e:α->List AV}{ok:α->Prop}(ht:P.underlying t=some (.struct fs))(hN:P.cellsOf t=N)(h:OpensF P fs.toList 0 N e ok):Opens P t e ok:=by
 refine⟨?_⟩;intro H enc w base spare held fuel cs x hx;obtain⟨xs,n,_,_,hl,hxl,hall⟩:=DataW.trod_struct ht hx
 have:=h.get (n:=n) (hl.trans hN) (enc:=enc) (w:=w) (base:=base) (spare:=spare) (held:=held) (fun f hf=>by
  obtain⟨i,hi,rfl⟩:=List.mem_iff_getElem.1 hf
  have hi':i<fs.size:=by simpa using hi
  have:=hall i fs.toList[i] (by simp[hi']);rw[Ut (by omega)]at this
  exact⟨_,this⟩)
 simpa using this
theorem Opens.to{P:Program}{t:TypeId}{α β:Type}{e:α->List AV}{ok:α->Prop}(h:Opens P t e ok){e':β->List AV}{ok':β->Prop}(g:α->β)(he:∀ a,e' (g a)=e a)(hok:∀ a,ok a->ok' (g a)):Opens P t e' ok':=by
 refine⟨?_⟩;intro H enc w base spare held fuel cs x hx;obtain⟨a,ha,hr⟩:=h.get hx;exact⟨g a,hok a ha,by rw[he];exact hr⟩
theorem arg_one{P:Program}{t:TypeId}{α:Type}{e:α->List AV}{ok:α->Prop}(h:Opens P t e ok){x:α->AV}(he:∀ a,e a=[x a]){H:Type}{enc:TypeId×Value->H}{w:World}{base:Nat}{spare:Nat->Bool}{held:Bool}{v:Value}{d:DataW H}{ps:List MemPlace}
  (hv:v.cells = #[v]) (hd:DataW.Trod enc P w base spare held t v d ps):∃ a,ok a/\RepV (Iall w) w v (x a):=by
 obtain⟨fuel,hf⟩:=hd;obtain⟨a,ha,hr⟩:=h.get hf;refine⟨a,ha,?_⟩;have:=hr.rep 0 (by simp[he])
 simpa [hv,he] using this
theorem arg_agg{P:Program}{t:TypeId}{α:Type}{e:α->List AV}{ok:α->Prop}(h:Opens P t e ok){H:Type}{enc:TypeId×Value->H}{w:World}{base:Nat}{spare:Nat->Bool}{held:Bool}{cs:Array Value}{d:DataW H}{ps:List MemPlace}
  (hd:DataW.Trod enc P w base spare held t (.agg cs) d ps):∃ a,ok a/\RepV (Iall w) w (.agg cs) (.agg (e a)):=by
 obtain⟨fuel,hf⟩:=hd;obtain⟨a,ha,hr⟩:=h.get hf;have e1:(Value.agg cs).cells.toList=cs.toList:=rfl;rw[e1]at hr
 have e2:∀ j,cs.toList.getD j undef=cs.getD j undef:=fun j=>by simp[Pn,List.getD]
 refine⟨a,ha,.agg _ _ (by simpa using hr.len) (fun j hj=>?_) (fun j hj=>?_)⟩
 ·rw[<- e2];exact hr.one j hj
 ·rw[<- e2];exact hr.rep j hj
def okI64(n:Int):Prop:=(Lit.int .i64 n).wf=true
theorem op_3:Opens Tryz.prog 3 Au okI64:=opens_int Tryz.underlying3 (fun _=>rfl)
def okLI64(l:List (Int)):Prop:=(∀ a∈l,okI64 a)/\l.length<=maxLen
theorem op_22:Opens Tryz.prog 22 Kg okLI64:=S8 (d:=(0:Int)) Tryz.underlying22 (by kernel_rfl) (by decide) op_3 (fun _=>rfl) (fun _=>rfl)
def okTPhi(a:H7):Prop:=okI64 a.Bits/\okI64 a.Dst/\okLI64 a.From/\okLI64 a.Args/\True
theorem op_59:Opens Tryz.prog 59 Xt okTPhi:=Opens.to (Ni (N:=4) Tryz.underlying59 (by kernel_rfl) (B6 (off:=0) (sz:=1) (N:=4) rfl (by kernel_rfl) (by decide) op_3 (B6 (off:=1) (sz:=1) (N:=4) rfl (by kernel_rfl) (by decide) op_3 (B6 (off:=2) (sz:=1) (N:=4) rfl (by kernel_rfl) (by decide) op_22 (B6 (off:=3) (sz:=1) (N:=4) rfl (by kernel_rfl) (by decide) op_22 P7))))) (fun p=>⟨p.1,p.2.1,p.2.2.1,p.2.2.2.1⟩) (fun _=>rfl) (fun _ h=>h)
def okLTPhi(l:List (H7)):Prop:=(∀ a∈l,okTPhi a)/\l.length<=maxLen
theorem op_49:Opens Tryz.prog 49 eLTPhi okLTPhi:=S8 (d:=(default:H7)) Tryz.underlying49 (by kernel_rfl) (by decide) op_59 (fun _=>rfl) (fun _=>rfl)
def okU64(n:Int):Prop:=(Lit.int .u64 n).wf=true
theorem op_55:Opens Tryz.prog 55 eU64 okU64:=opens_int Tryz.underlying55 (fun _=>rfl)
def okTOp(a:C1):Prop:=okI64 a.Kind/\okI64 a.Bits/\okI64 a.Lanes/\okI64 a.Dst/\okLI64 a.Args/\okU64 a.Imm/\True
theorem op_57:Opens Tryz.prog 57 Nv okTOp:=Opens.to (Ni (N:=6) Tryz.underlying57 (by kernel_rfl) (B6 (off:=0) (sz:=1) (N:=6) rfl (by kernel_rfl) (by decide) op_3 (B6 (off:=1) (sz:=1) (N:=6) rfl (by kernel_rfl) (by decide) op_3 (B6 (off:=2) (sz:=1) (N:=6) rfl (by kernel_rfl) (by decide) op_3 (B6 (off:=3) (sz:=1) (N:=6) rfl (by kernel_rfl) (by decide) op_3 (B6 (off:=4) (sz:=1) (N:=6) rfl (by kernel_rfl) (by decide) op_22 (B6 (off:=5) (sz:=1) (N:=6) rfl (by kernel_rfl) (by decide) op_55 P7))))))) (fun p=>⟨p.1,p.2.1,p.2.2.1,p.2.2.2.1,p.2.2.2.2.1,p.2.2.2.2.2.1⟩) (fun _=>rfl) (fun _ h=>h)
def okLTOp(l:List (C1)):Prop:=(∀ a∈l,okTOp a)/\l.length<=maxLen
theorem op_33:Opens Tryz.prog 33 eLTOp okLTOp:=S8 (d:=(default:C1)) Tryz.underlying33 (by kernel_rfl) (by decide) op_57 (fun _=>rfl) (fun _=>rfl)
def okTEnd(a:Lz):Prop:=okI64 a.Kind/\okI64 a.Arg/\okLI64 a.To/\True
theorem op_51:Opens Tryz.prog 51 eTEnd okTEnd:=Opens.to (Ni (N:=3) Tryz.underlying51 (by kernel_rfl) (B6 (off:=0) (sz:=1) (N:=3) rfl (by kernel_rfl) (by decide) op_3 (B6 (off:=1) (sz:=1) (N:=3) rfl (by kernel_rfl) (by decide) op_3 (B6 (off:=2) (sz:=1) (N:=3) rfl (by kernel_rfl) (by decide) op_22 P7)))) (fun p=>⟨p.1,p.2.1,p.2.2.1⟩) (fun _=>rfl) (fun _ h=>h)
def okTBlock(a:Ad):Prop:=okLTPhi a.Phis/\okLTOp a.Ops/\okTEnd a.End/\True
theorem op_53:Opens Tryz.prog 53 Iy okTBlock:=Opens.to (Ni (N:=5) Tryz.underlying53 (by kernel_rfl) (B6 (off:=0) (sz:=1) (N:=5) rfl (by kernel_rfl) (by decide) op_49 (B6 (off:=1) (sz:=1) (N:=5) rfl (by kernel_rfl) (by decide) op_33 (B6 (off:=2) (sz:=3) (N:=5) rfl (by kernel_rfl) (by decide) op_51 P7)))) (fun p=>⟨p.1,p.2.1,p.2.2.1⟩) (fun _=>rfl) (fun _ h=>h)
def okLTBlock(l:List (Ad)):Prop:=(∀ a∈l,okTBlock a)/\l.length<=maxLen
theorem op_23:Opens Tryz.prog 23 eLTBlock okLTBlock:=S8 (d:=(default:Ad)) Tryz.underlying23 (by kernel_rfl) (by decide) op_53 (fun _=>rfl) (fun _=>rfl)
def okTFunc(a:TFunc):Prop:=okLI64 a.Params/\okI64 a.Ret/\okLTBlock a.Blocks/\True
theorem op_25:Opens Tryz.prog 25 eTFunc okTFunc:=Opens.to (Ni (N:=3) Tryz.underlying25 (by kernel_rfl) (B6 (off:=0) (sz:=1) (N:=3) rfl (by kernel_rfl) (by decide) op_22 (B6 (off:=1) (sz:=1) (N:=3) rfl (by kernel_rfl) (by decide) op_3 (B6 (off:=2) (sz:=1) (N:=3) rfl (by kernel_rfl) (by decide) op_23 P7)))) (fun p=>⟨p.1,p.2.1,p.2.2.1⟩) (fun _=>rfl) (fun _ h=>h)
def okTHammock(a:THammock):Prop:=okI64 a.At/\okI64 a.Then/\okI64 a.Else/\okI64 a.Join/\True
theorem op_27:Opens Tryz.prog 27 eTHammock okTHammock:=Opens.to (Ni (N:=4) Tryz.underlying27 (by kernel_rfl) (B6 (off:=0) (sz:=1) (N:=4) rfl (by kernel_rfl) (by decide) op_3 (B6 (off:=1) (sz:=1) (N:=4) rfl (by kernel_rfl) (by decide) op_3 (B6 (off:=2) (sz:=1) (N:=4) rfl (by kernel_rfl) (by decide) op_3 (B6 (off:=3) (sz:=1) (N:=4) rfl (by kernel_rfl) (by decide) op_3 P7))))) (fun p=>⟨p.1,p.2.1,p.2.2.1,p.2.2.2.1⟩) (fun _=>rfl) (fun _ h=>h)
def numB(n:Int):Bool:=decide (0<=n)&&decide (n<=2147483647)
def listB(l:List Int):Bool:=l.all numB&&decide (l.length<=64)
def phiB(p:H7):Bool:=numB p.Bits&&numB p.Dst&&listB p.From&&listB p.Args
def opB(o:C1):Bool:=numB o.Kind&&numB o.Bits&&numB o.Lanes&&numB o.Dst&&listB o.Args
def endB(e:Lz):Bool:=numB e.Kind&&numB e.Arg&&listB e.To
def blockB(b:Ad):Bool:=b.Phis.all phiB&&b.Ops.all opB&&endB b.End
def sizeB(b:Ad):Nat:=b.Phis.length+b.Ops.length+1
def Td(f:TFunc):Nat:=(f.Blocks.map sizeB).sum
def sizeW(f:TFunc):Int:=w64 (Td f)
def Uf(f:TFunc):Bool:=decide (1<=f.Blocks.length)&&decide (f.Blocks.length<=64)&&decide (f.Params.length<=16)&&listB f.Params&&numB f.Ret&&decide (sizeW f<=512)&&f.Blocks.all blockB
def entP(p:H7):Nat:=1+p.From.length+p.Args.length
def entO(o:C1):Nat:=1+o.Args.length
def entB(b:Ad):Nat:=1+b.End.To.length+(b.Phis.map entP).sum+(b.Ops.map entO).sum
def entF(f:TFunc):Nat:=f.Params.length+(f.Blocks.map entB).sum
theorem Ue:maxLen=9223372036854775807:=rfl
structure InF(f:TFunc):Prop where
 params:f.Params.length<=maxLen
 blocks:f.Blocks.length<=maxLen
 block:∀ b∈f.Blocks,b.Phis.length<=maxLen/\b.Ops.length<=maxLen/\b.End.To.length<=maxLen
 phi:∀ b∈f.Blocks,∀ p∈b.Phis,p.From.length<=maxLen/\p.Args.length<=maxLen
 op:∀ b∈f.Blocks,∀ o∈b.Ops,o.Args.length<=maxLen/\0<=o.Imm/\o.Imm<18446744073709551616
theorem inF{f:TFunc}(h:okTFunc f):InF f:=
 ⟨h.1.2,h.2.2.1.2,fun b hb=>⟨(h.2.2.1.1 b hb).1.2,(h.2.2.1.1 b hb).2.1.2,(h.2.2.1.1 b hb).2.2.1.2.2.1.2⟩,fun b hb p hp=>⟨((h.2.2.1.1 b hb).1.1 p hp).2.2.1.2,((h.2.2.1.1 b hb).1.1 p hp).2.2.2.1.2⟩,
  fun b hb o ho=>⟨((h.2.2.1.1 b hb).2.1.1 o ho).2.2.2.2.1.2,wf_u64 ((h.2.2.1.1 b hb).2.1.1 o ho).2.2.2.2.2.1⟩⟩
theorem w64_nat{n:Nat}(h:n<9223372036854775808):w64 (n:Int)=n:=Kt (by omega) (by omega)
theorem Jx{i n:Nat}(h:i<n)(hn:n<=maxLen):w64 ((i:Int)+1)=((i+1:Nat):Int):=by rw[Ue]at hn;rw[show((i:Int)+1)=((i+1:Nat):Int) by omega,w64_nat (by omega)]
theorem small_some(f:TFunc)(hf:InF f):∃ b,C5 f=some b:=by
 have h3:∃ x,Ah (B4 f) ((f.Params.length:Int),((0:Nat):Int))=some x:=by
  refine R6 f.Blocks.length (B4 f) (fun n i hi=>?_) (fun n=>?_) f.Blocks.length 0 _ (Hy _)
  ·have hmem:=Aw (d:=(default:Ad)) hi;obtain⟨b1,b2,_⟩:=hf.block _ hmem;have hI:A2 (i:Int) f.Blocks.length:=Ap hi;unfold B4
   cases hc:(bif decide ((i:Int)<(f.Blocks.length:Int)) then decide (n<=20000) else false) with
   | false=>right;simp only[hc,Aq];exact⟨_,rfl⟩
   | true=>
    left
    simp only[hc,Ag,Ab hI]
    obtain⟨x1,h1⟩:=R6 (f.Blocks.getD i default).Phis.length (Cs f i) (fun n j hj=>by
      unfold Cs;simp only[Ab hI,Ew]
      cases hc:(bif decide ((j:Int)<((f.Blocks.getD i default).Phis.length:Int)) then decide (n<=20000) else false) with
      | false=>right;exact⟨_,rfl⟩
      | true=>left;simp only[Ag,Ab (Ap hj),Jx hj b1];exact⟨_,rfl⟩) (fun n=>by
      unfold Cs;simp only[Ab hI,Ew]
      have:decide (((f.Blocks.getD i default).Phis.length:Int)<((f.Blocks.getD i default).Phis.length:Int))=false:=by simp
      simp only[this,Aq];exact⟨_,rfl⟩) _ 0 (w64 (w64 (n+1)+((f.Blocks.getD i default).End.To.length:Int))) (Hy _)
    obtain⟨x2,h2⟩:=R6 (f.Blocks.getD i default).Ops.length (Ct f i) (fun n j hj=>by
      unfold Ct;simp only[Ab hI,Ew]
      cases hc:(bif decide ((j:Int)<((f.Blocks.getD i default).Ops.length:Int)) then decide (n<=20000) else false) with
      | false=>right;exact⟨_,rfl⟩
      | true=>left;simp only[Ag,Ab (Ap hj),Jx hj b2];exact⟨_,rfl⟩) (fun n=>by
      unfold Ct;simp only[Ab hI,Ew]
      have:decide (((f.Blocks.getD i default).Ops.length:Int)<((f.Blocks.getD i default).Ops.length:Int))=false:=by simp
      simp only[this,Aq];exact⟨_,rfl⟩) _ 0 x1 (Hy _)
    rw[show((0:Nat):Int)=0 from rfl]at h1 h2;simp only[Ew,h1,h2,An,Jx hi hf.blocks];exact⟨_,rfl⟩
  ·unfold B4
   have:decide ((f.Blocks.length:Int)<(f.Blocks.length:Int))=false:=by simp
   simp only[this,Aq];exact⟨_,rfl⟩
 obtain⟨x,hx⟩:=h3;unfold C5;rw[show((0:Nat):Int)=0 from rfl]at hx;rw[hx];exact⟨_,rfl⟩
theorem small_eq(f:TFunc)(hf:InF f)(h0:f.Params.length<=64)(hb:∀ b∈f.Blocks,b.End.To.length<=64/\(∀ p∈b.Phis,p.From.length<=64/\p.Args.length<=64)/\∀ o∈b.Ops,o.Args.length<=64):C5 f=some (decide (entF f<=20000)):=by
 have h3:=loop_sum f.Blocks (default:Ad) entB 20000 (B4 f) (fun n i hi hn=>by
   have hmem:=Aw (d:=(default:Ad)) hi;obtain⟨b1,b2,b3⟩:=hf.block _ hmem;obtain⟨hTo,hPh,hOp⟩:=hb _ hmem;have hI1:A2 (i:Int) f.Blocks.length:=Ap hi
   have l1:=loop_sum (f.Blocks.getD i default).Phis (default:H7) entP 20000 (Cs f i) (fun n j hj hn=>by
     have hm:=Aw (d:=(default:H7)) hj;obtain⟨p1,p2⟩:=hPh _ hm
     have e1:decide ((j:Int)<((f.Blocks.getD i default).Phis.length:Int))=true:=by simpa using hj
     have e2:decide ((n:Int)<=20000)=true:=by simp;omega
     refine⟨n+entP ((f.Blocks.getD i default).Phis.getD j default),?_,fun _=>rfl,fun h=>h⟩;unfold Cs;simp only[Ab hI1,Ew,e1,e2,Ag,Ab (Ap hj),Jx hj b1]
     congr 3
     rw[Kt (n:=(n:Int)+1) (by omega) (by omega),Kt (n:=(n:Int)+1+_) (by omega) (by omega),Kt (by omega) (by omega)];simp only[entP]
     omega) (fun n j hj hd=>by
     unfold Cs;simp only[Ab hI1,Ew]
     have:(bif decide ((j:Int)<((f.Blocks.getD i default).Phis.length:Int)) then decide ((n:Int)<=20000) else false)=false:=by
      rcases hd with rfl|h
      ·simp
      ·simp;omega
     rw[this];rfl)
   have l2:=loop_sum (f.Blocks.getD i default).Ops (default:C1) entO 20000 (Ct f i) (fun n j hj hn=>by
     have hm:=Aw (d:=(default:C1)) hj;have p1:=hOp _ hm
     have e1:decide ((j:Int)<((f.Blocks.getD i default).Ops.length:Int))=true:=by simpa using hj
     have e2:decide ((n:Int)<=20000)=true:=by simp;omega
     refine⟨n+entO ((f.Blocks.getD i default).Ops.getD j default),?_,fun _=>rfl,fun h=>h⟩;unfold Ct;simp only[Ab hI1,Ew,e1,e2,Ag,Ab (Ap hj),Jx hj b2]
     congr 3
     rw[Kt (n:=(n:Int)+1) (by omega) (by omega),Kt (by omega) (by omega)];simp only[entO]
     omega) (fun n j hj hd=>by
     unfold Ct;simp only[Ab hI1,Ew]
     have:(bif decide ((j:Int)<((f.Blocks.getD i default).Ops.length:Int)) then decide ((n:Int)<=20000) else false)=false:=by
      rcases hd with rfl|h
      ·simp
      ·simp;omega
     rw[this];rfl)
   have e1:decide ((i:Int)<(f.Blocks.length:Int))=true:=by simpa using hi
   have e2:decide ((n:Int)<=20000)=true:=by simp;omega
   obtain⟨m1,q1,q2,q3⟩:=l1 _ 0 (n+1+(f.Blocks.getD i default).End.To.length) (Hy _);obtain⟨m2,q4,q5,q6⟩:=l2 _ 0 m1 (Hy _);rw[Kv]at q2 q3 q5 q6;refine⟨m2,?_,fun hle=>?_,fun hle=>?_⟩
   ·unfold B4;simp only[e1,e2,Ag,Ab hI1,Ew,Jx hi hf.blocks];rw[Kt (n:=(n:Int)+1) (by omega) (by omega),Kt (by omega) (by omega),show(n:Int)+1+((f.Blocks.getD i default).End.To.length:Int)=((n+1+(f.Blocks.getD i default).End.To.length:Nat):Int) by omega];rw[show((0:Nat):Int)=0 from rfl]at q1 q4;rw[q1,An,q4,An]
   ·simp only[entB]at hle ⊢;have:=q2 (by omega);rw[q5 (by omega)];omega
   ·simp only[entB];have h6:=q6 hle;have h3:=q3 (by omega);have:=q2 h3
    omega) (fun n i hi hd=>by
   unfold B4
   have:(bif decide ((i:Int)<(f.Blocks.length:Int)) then decide ((n:Int)<=20000) else false)=false:=by
    rcases hd with rfl|h
    ·simp
    ·simp;omega
   simp only[this,Aq]) f.Blocks.length 0 f.Params.length (Hy _)
 obtain⟨m,h1,h2,h4⟩:=h3;rw[Kv]at h2 h4;unfold C5;rw[show((0:Nat):Int)=0 from rfl]at h1;rw[h1,An]
 congr 1
 apply zzL61.2
 simp only[entF]
 constructor
 ·intro h;exact h4 (by omega)
 ·intro h;have:=h2 h;omega
theorem Ta(n:Int):Bh n=some (numB n):=by unfold Bh numB;cases decide ((0:Int)<=n)<;>rfl
theorem Qu(l:List Int)(h:l.length<=maxLen):Di l=some (listB l):=by
 unfold Di;rw[Ue]at h
 have hloop:=Hl l (0:Int) numB (E2 l) (.inl ()) (.inr false) (fun i hi hp=>by
   unfold E2
   have:decide ((i:Int)<(l.length:Int))=true:=by simpa using hi
   simp only[this,Ag,Ab (Ap hi),Ew,Ta,An,hp,Dd,Aq,A9 hi (by omega)]) (fun i hi hp=>by
   unfold E2
   have:decide ((i:Int)<(l.length:Int))=true:=by simpa using hi
   simp only[this,Ag,Ab (Ap hi),Ew,Ta,An,hp,Lh]) (by
   unfold E2
   simp) l.length 0 (by omega)
 rw[show(0:Int)=((0:Nat):Int) from rfl,hloop,Kv];unfold listB
 have e:decide ((l.length:Int)<=64)=decide (l.length<=64):=by apply zzL61.2;omega
 cases l.all numB
 ·rfl
 ·simp[e]
theorem rsize_eq(f:TFunc)(hf:InF f):Im f=some (sizeW f):=by
 unfold Im
 have hl:=loop_addw f.Blocks (default:Ad) sizeB id (Gv f) (fun n i hi=>by
   have e1:decide ((i:Int)<(f.Blocks.length:Int))=true:=by simpa using hi
   unfold Gv;simp only[e1,Ag,Ab (Ap hi),Ew,Jx hi hf.blocks]
   congr 3
   rw[w64_add,w64_add,Int.add_assoc (w64 _),w64_add];unfold sizeB
   congr 1
   omega) (fun n=>by
   unfold Gv
   simp) f.Blocks.length 0 0 (Hy _)
 rw[Kv]at hl;rw[show w64 ((0:Nat):Int)=0 from rfl,show((0:Nat):Int)=0 from rfl]at hl;rw[hl];simp[Td,sizeW]
theorem bif_chain{p q:Bool}:(bif p then true else q)=(p || q):=by cases p<;>rfl
theorem rmay_eq(f:TFunc)(hf:InF f):Hc f=some (Uf f):=by
 have hloop:Ah (Ee f) ((0:Nat):Int)=some (bif (f.Blocks.drop 0).all blockB then .inl () else .inr false):=by
  have step:∀ i:Nat,i<f.Blocks.length->Ee f (i:Int)=bif blockB (f.Blocks.getD i default) then some (.next ((i:Int)+1)) else some (.done (.inr false)):=fun i hi=>by
   have hmem:=Aw (d:=(default:Ad)) hi;obtain⟨b1,b2,b3⟩:=hf.block _ hmem;have hPh:=hf.phi _ hmem;have hOp:=hf.op _ hmem;have hM:=Ue
   have e0:decide ((i:Int)<(f.Blocks.length:Int))=true:=by simpa using hi
   have l1:=Hl (f.Blocks.getD i default).Phis (default:H7) phiB (Fu f i) (.inl ()) (.inr false) (fun j hj hp=>by
     obtain⟨p1,p2⟩:=hPh _ (Aw (d:=(default:H7)) hj)
     have e1:decide ((j:Int)<((f.Blocks.getD i default).Phis.length:Int))=true:=by simpa using hj
     unfold Fu;simp only[e1,Ag,Ew,Ab (Ap hj),Ta,An,Qu _ p1,Qu _ p2,A9 hj (by omega)]
     revert hp
     unfold phiB
     cases numB ((f.Blocks.getD i default).Phis.getD j default).Bits<;>cases numB ((f.Blocks.getD i default).Phis.getD j default).Dst<;>cases listB ((f.Blocks.getD i default).Phis.getD j default).From<;>cases listB ((f.Blocks.getD i default).Phis.getD j default).Args<;>simp) (fun j hj hp=>by
     obtain⟨p1,p2⟩:=hPh _ (Aw (d:=(default:H7)) hj)
     have e1:decide ((j:Int)<((f.Blocks.getD i default).Phis.length:Int))=true:=by simpa using hj
     unfold Fu;simp only[e1,Ag,Ew,Ab (Ap hj),Ta,An,Qu _ p1,Qu _ p2,A9 hj (by omega)]
     revert hp
     unfold phiB
     cases numB ((f.Blocks.getD i default).Phis.getD j default).Bits<;>cases numB ((f.Blocks.getD i default).Phis.getD j default).Dst<;>cases listB ((f.Blocks.getD i default).Phis.getD j default).From<;>cases listB ((f.Blocks.getD i default).Phis.getD j default).Args<;>simp) (by
     unfold Fu
     simp) _ 0 (Hy _)
   have l2:=Hl (f.Blocks.getD i default).Ops (default:C1) opB (Fv f i) (.inl ()) (.inr false) (fun j hj hp=>by
     obtain⟨p1,_⟩:=hOp _ (Aw (d:=(default:C1)) hj)
     have e1:decide ((j:Int)<((f.Blocks.getD i default).Ops.length:Int))=true:=by simpa using hj
     unfold Fv;simp only[e1,Ag,Ew,Ab (Ap hj),Ta,An,Qu _ p1,A9 hj (by omega)]
     revert hp
     unfold opB
     cases numB ((f.Blocks.getD i default).Ops.getD j default).Kind<;>cases numB ((f.Blocks.getD i default).Ops.getD j default).Bits<;>cases numB ((f.Blocks.getD i default).Ops.getD j default).Lanes<;>cases numB ((f.Blocks.getD i default).Ops.getD j default).Dst<;>cases listB ((f.Blocks.getD i default).Ops.getD j default).Args<;>simp) (fun j hj hp=>by
     obtain⟨p1,_⟩:=hOp _ (Aw (d:=(default:C1)) hj)
     have e1:decide ((j:Int)<((f.Blocks.getD i default).Ops.length:Int))=true:=by simpa using hj
     unfold Fv;simp only[e1,Ag,Ew,Ab (Ap hj),Ta,An,Qu _ p1,A9 hj (by omega)]
     revert hp
     unfold opB
     cases numB ((f.Blocks.getD i default).Ops.getD j default).Kind<;>cases numB ((f.Blocks.getD i default).Ops.getD j default).Bits<;>cases numB ((f.Blocks.getD i default).Ops.getD j default).Lanes<;>cases numB ((f.Blocks.getD i default).Ops.getD j default).Dst<;>cases listB ((f.Blocks.getD i default).Ops.getD j default).Args<;>simp) (by
     unfold Fv
     simp) _ 0 (Hy _)
   rw[show((0:Nat):Int)=0 from rfl,Kv]at l1 l2;unfold Ee;simp only[e0,Ag,Ab (Ap hi),l1,An];unfold blockB
   cases(f.Blocks.getD i default).Phis.all phiB with
   | false=>rfl
   | true=>
    simp only[Ag,l2,An,Ew,Ta,Qu _ b3,A9 hi (by have:=hf.blocks;omega)]
    cases(f.Blocks.getD i default).Ops.all opB with
    | false=>rfl
    | true=>
     unfold endB
     cases numB (f.Blocks.getD i default).End.Kind<;>cases numB (f.Blocks.getD i default).End.Arg<;>cases listB (f.Blocks.getD i default).End.To<;>rfl
  exact Hl f.Blocks (default:Ad) blockB (Ee f) (.inl ()) (.inr false) (fun i hi hp=>by rw[step i hi,hp];rfl) (fun i hi hp=>by rw[step i hi,hp];rfl) (by
   unfold Ee
   simp) _ 0 (Hy _)
 rw[show((0:Nat):Int)=0 from rfl,Kv]at hloop;unfold Hc Uf;simp only[Qu _ hf.params,Ta,rsize_eq f hf,hloop]
 have e1:((f.Blocks.length:Int)==0) = !decide (1<=f.Blocks.length):=by
  rw[<- decide_not]
  by_cases h:f.Blocks.length=0
  ·simp[h]
  ·have h1:((f.Blocks.length:Int)==0)=false:=by simpa using h
   rw[h1];symm;apply Cj;omega
 have e2:decide ((64:Int)<(f.Blocks.length:Int)) = !decide (f.Blocks.length<=64):=by rw[<- decide_not];apply zzL61.2;omega
 have e3:decide ((16:Int)<(f.Params.length:Int)) = !decide (f.Params.length<=16):=by rw[<- decide_not];apply zzL61.2;omega
 have e4:decide ((512:Int)<sizeW f) = !decide (sizeW f<=512):=by rw[<- decide_not];apply zzL61.2;omega
 rw[e1,e2,e3]
 generalize decide (1<=f.Blocks.length)=p1
 generalize decide (f.Blocks.length<=64)=p2
 generalize decide (f.Params.length<=16)=p3
 generalize listB f.Params=p4
 generalize numB f.Ret=p5
 cases p1 with
 | false=>simp
 | true=>cases p2 with
  | false=>simp
  | true=>cases p3 with
   | false=>simp
   | true=>cases p4 with
    | false=>simp
    | true=>cases p5 with
     | false=>simp
     | true=>
      simp only[Dd,Bool.or_self,Ag,Aq,Rk,An,e4]
      cases decide (sizeW f<=512) with
      | false=>simp
      | true=>cases f.Blocks.all blockB<;>simp
theorem numB_iff{n:Int}:numB n=true↔0<=n/\n<=2147483647:=by simp[numB]
theorem listB_iff{l:List Int}:listB l=true↔good31 l/\l.length<=64:=by
 simp[listB,good31,numB_iff]
def wideP(n:Int):Prop:=0<=n/\n<18446744073709551616
structure OkB(b:Ad):Prop where
 may:blockB b=true
 phis:b.Phis.length<=512
 ops:b.Ops.length<=512
 imm:∀ o∈b.Ops,wideP o.Imm
structure OkF(f:TFunc):Prop where
 params:listB f.Params=true
 few:f.Params.length<=16
 ret:numB f.Ret=true
 blocks:f.Blocks.length<=64
 block:∀ b∈f.Blocks,OkB b
theorem blockB_iff{b:Ad}:blockB b=true↔(∀ p∈b.Phis,phiB p=true)/\(∀ o∈b.Ops,opB o=true)/\endB b.End=true:=by
 simp[blockB,and_assoc]
theorem sum_le{α:Type}(l:List α)(g:α->Nat)(B:Nat)(h:∀ a∈l,g a<=B):(l.map g).sum<=l.length*B:=by
 induction l with
 | nil=>simp
 | cons a l ih=>
  have h1:=h a (by simp);have h2:=ih (fun b hb=>h b (by simp[hb]));rw[C7,V2,Wo,Gl];omega
theorem sum_mono{α:Type}(l:List α)(g k:α->Nat)(h:∀ a∈l,g a<=k a):(l.map g).sum<=(l.map k).sum:=by
 induction l with
 | nil=>simp
 | cons a l ih=>
  have h1:=h a (by simp);have h2:=ih (fun b hb=>h b (by simp[hb]));rw[C7,V2,C7,V2];omega
theorem len_le_sum{α:Type}(l:List α)(g:α->Nat)(h:∀ a∈l,1<=g a):l.length<=(l.map g).sum:=by
 induction l with
 | nil=>simp
 | cons a l ih=>
  have h1:=h a (by simp);have h2:=ih (fun b hb=>h b (by simp[hb]));rw[C7,V2,Wo];omega
theorem mem_le_sum{α:Type}{l:List α}{a:α}(g:α->Nat)(h:a∈l):g a<=(l.map g).sum:=by
 induction l with
 | nil=>cases h
 | cons b l ih=>
  rw[C7,V2];rcases zzL28.1 h with rfl|h
  ·omega
  ·have:=ih h;omega
theorem OkF.size{f:TFunc}(h:OkF f):Td f<=65600/\sizeW f=Td f:=by
 have:Td f<=f.Blocks.length*1025:=sum_le _ _ _ fun b hb=>by
  have h1:=(h.block b hb).phis;have h2:=(h.block b hb).ops;simp only[sizeB];omega
 have h2:=h.blocks
 have h3:Td f<=65600:=by omega
 exact⟨h3,w64_nat (by omega)⟩
theorem may_parts{f:TFunc}(h:Uf f=true):1<=f.Blocks.length/\f.Blocks.length<=64/\f.Params.length<=16/\listB f.Params=true/\numB f.Ret=true/\sizeW f<=512/\∀ b∈f.Blocks,blockB b=true:=by
 simp only[Uf,A7,F9,zzL29]at h;exact⟨h.1.1.1.1.1.1,h.1.1.1.1.1.2,h.1.1.1.1.2,h.1.1.1.2,h.1.1.2,h.1.2,h.2⟩
theorem may_lists{f:TFunc}(h:Uf f=true):f.Params.length<=64/\∀ b∈f.Blocks,b.End.To.length<=64/\(∀ p∈b.Phis,p.From.length<=64/\p.Args.length<=64)/\∀ o∈b.Ops,o.Args.length<=64:=by
 obtain⟨_,_,h3,_,_,_,h7⟩:=may_parts h;refine⟨by omega,fun b hb=>?_⟩;obtain⟨q1,q2,q3⟩:=blockB_iff.1 (h7 b hb);simp only[endB,A7]at q3;refine⟨(listB_iff.1 q3.2).2,fun p hp=>?_,fun o ho=>?_⟩
 ·have:=q1 p hp;simp only[phiB,A7]at this;exact⟨(listB_iff.1 this.1.2).2,(listB_iff.1 this.2).2⟩
 ·have:=q2 o ho;simp only[opB,A7]at this;exact(listB_iff.1 this.2).2
theorem may_ok{f:TFunc}(hf:InF f)(h:Uf f=true)(hs:entF f<=20000):OkF f/\Td f<=512:=by
 obtain⟨h1,h2,h3,h4,h5,h6,h7⟩:=may_parts h
 have hle:Td f<=entF f:=by
  have:Td f<=(f.Blocks.map entB).sum:=sum_mono _ _ _ fun b hb=>by
   have q1:b.Phis.length<=(b.Phis.map entP).sum:=len_le_sum _ _ fun p hp=>by simp only[entP];omega
   have q2:b.Ops.length<=(b.Ops.map entO).sum:=len_le_sum _ _ fun p hp=>by simp only[entO];omega
   simp only[sizeB,entB];omega
  simp only[entF];omega
 have hw:sizeW f=Td f:=w64_nat (by omega)
 have h512:Td f<=512:=by omega
 refine⟨⟨h4,h3,h5,h2,fun b hb=>?_⟩,h512⟩;have hb512:sizeB b<=Td f:=mem_le_sum sizeB hb;simp only[sizeB]at hb512;exact⟨h7 b hb,by omega,by omega,fun o ho=>(hf.op b hb o ho).2⟩
theorem small_parts(f:TFunc)(hf:InF f):∃ sm,C5 f=some sm/\(sm=true->Uf f=true->OkF f/\Td f<=512/\1<=f.Blocks.length):=by
 obtain⟨sm,h⟩:=small_some f hf;refine⟨sm,h,fun h1 h2=>?_⟩;obtain⟨q1,q2⟩:=may_lists h2;rw[small_eq f hf q1 q2]at h;subst h1;obtain⟨r1,r2⟩:=may_ok hf h2 (by simpa using OI h);exact⟨r1,r2,(may_parts h2).1⟩
def levMost(l:Int):Int:=bif l==0 then 17 else bif l==1 then 20 else 22
def Nh(l:Int)(o:C1):Bool:=J4 o&&!decide (levMost l<o.Kind)&&!(decide (l<2)&&decide (1<o.Lanes))
def Hz(l:Int)(b:Ad):Bool:=(b.Phis.all fun p=>widthB p.Bits)&&b.Ops.all (Nh l)
def Sp(f:TFunc)(l:Int):Bool:=f.Params.all widthB&&f.Blocks.all (Hz l)&&widthB f.Ret
theorem opT_aux{m a b c:Bool}{x:Int}:(bif (bif (bif (!m) then true else a) then true else(bif b then c else false)) then(some (LR.done (Sum.inr false))) else some (LR.next x):Option (LR Int (Unit ⊕ Bool)))=some (bif (m&&!a&&!(b&&c)) then .next x else .done (.inr false)):=by
 cases m<;>cases a<;>cases b<;>cases c<;>rfl
theorem opOk{f:TFunc}(hf:OkF f){b:Ad}(hb:b∈f.Blocks){o:C1}(ho:o∈b.Ops):OpOk o:=by
 have h1:=hf.block b hb;have h2:=(blockB_iff.1 h1.may).2.1 o ho;simp only[opB,A7]at h2;exact⟨⟨(h1.imm o ho).1,(h1.imm o ho).2⟩,by have:=(listB_iff.1 h2.2).2;omega⟩
theorem m_typed{f:TFunc}(hf:OkF f)(l:Int):Hu f l=some (Sp f l):=by
 have hp:=Hl f.Params (0:Int) widthB (Ep f) (.inl ()) (.inr false) (fun i hi hp=>by
   unfold Ep
   have:decide ((i:Int)<(f.Params.length:Int))=true:=by simpa using hi
   simp only[this,Ag,Ab (Ap hi),Ew,Qt,An,hp,Dd,Aq,A9 hi (by have:=hf.few;omega)]) (fun i hi hp=>by
   unfold Ep
   have:decide ((i:Int)<(f.Params.length:Int))=true:=by simpa using hi
   simp only[this,Ag,Ab (Ap hi),Ew,Qt,An,hp,Lh]) (by
   unfold Ep;simp) f.Params.length 0 (by omega)
 have hb:=Hl f.Blocks (default:Ad) (Hz l) (Er f l) (.inl ()) (.inr false)
 have hphi:∀ i:Nat,i<f.Blocks.length->Ah (Dq f (i:Int)) (0:Int)=some (bif ((f.Blocks.getD i default).Phis.all fun p=>widthB p.Bits) then .inl () else .inr false):=fun i hi=>by
  have hB:=hf.block _ (Aw (d:=(default:Ad)) hi)
  have:=Hl (f.Blocks.getD i default).Phis (default:H7) (fun p=>widthB p.Bits) (Dq f (i:Int)) (.inl ()) (.inr false) (fun j hj hp=>by
   unfold Dq
   have:decide ((j:Int)<((f.Blocks.getD i default).Phis.length:Int))=true:=by simpa using hj
   simp only[Ab (Ap hi),Ew,this,Ag,Ab (Ap hj),Qt,An,hp,Dd,Aq,A9 hj (by have:=hB.phis;omega)]) (fun j hj hp=>by
   unfold Dq
   have:decide ((j:Int)<((f.Blocks.getD i default).Phis.length:Int))=true:=by simpa using hj
   simp only[Ab (Ap hi),Ew,this,Ag,Ab (Ap hj),Qt,An,hp,Lh]) (by
   unfold Dq;simp[Ab (Ap hi)]) (f.Blocks.getD i default).Phis.length 0 (by omega)
  rw[show(0:Int)=((0:Nat):Int) from rfl,this,Kv]
 have hops:∀ i:Nat,i<f.Blocks.length->Ah (Dr f l (i:Int)) (0:Int)=some (bif (f.Blocks.getD i default).Ops.all (Nh l) then .inl () else .inr false):=fun i hi=>by
  have hmem:=Aw (d:=(default:Ad)) hi;have hB:=hf.block _ hmem
  have key:∀(j:Nat),j<(f.Blocks.getD i default).Ops.length->Dr f l (i:Int) (j:Int)=some (bif Nh l ((f.Blocks.getD i default).Ops.getD j default) then .next ((j:Int)+1) else .done (.inr false)):=fun j hj=>by
   unfold Dr
   have hd:decide ((j:Int)<((f.Blocks.getD i default).Ops.length:Int))=true:=by simpa using hj
   have hok:=opOk hf hmem (Aw (d:=(default:C1)) hj);simp only[Ab (Ap hi),Ew,hd,Ag,Ab (Ap hj),A9 hj (by have:=hB.ops;omega)];unfold Nh levMost;cases h1:(l==1)<;>cases h0:(l==0)<;>simp only[Ag,Aq,An,ref_May _ hok,opT_aux]
  have:=Hl (f.Blocks.getD i default).Ops (default:C1) (Nh l) (Dr f l (i:Int)) (.inl ()) (.inr false) (fun j hj hp=>by rw[key j hj,hp];rfl) (fun j hj hp=>by rw[key j hj,hp];rfl) (by
   unfold Dr;simp[Ab (Ap hi)]) (f.Blocks.getD i default).Ops.length 0 (by omega)
  rw[show(0:Int)=((0:Nat):Int) from rfl,this,Kv]
 have hb':=hb (fun i hi hp=>by
   unfold Er
   have:decide ((i:Int)<(f.Blocks.length:Int))=true:=by simpa using hi
   simp only[Hz,A7]at hp
   simp only[this,Ag,hphi i hi,hops i hi,hp.1,hp.2,An,A9 hi (by have:=hf.blocks;omega)]) (fun i hi hp=>by
   unfold Er
   have:decide ((i:Int)<(f.Blocks.length:Int))=true:=by simpa using hi
   simp only[Hz]at hp;simp only[this,Ag,hphi i hi,hops i hi,An]
   cases h1:((f.Blocks.getD i default).Phis.all fun p=>widthB p.Bits) with
   | false=>rfl
   | true=>rw[h1,Fc]at hp;simp only[Ag,hp,Aq,An]) (by
   unfold Er;simp) f.Blocks.length 0 (by omega)
 unfold Hu Sp;rw[show(0:Int)=((0:Nat):Int) from rfl,hp,hb',Kv,Kv]
 cases f.Params.all widthB<;>cases f.Blocks.all (Hz l)<;>simp[Qt]
theorem room_is:room=1099511627776:=rfl
theorem K1{β:Type}(n A C:Nat)(E:Nat->List β)(hE:∀ i,i<n->(E i).length<=C)(f:List β×Int->Option (LR (List β×Int) (List β)))
  (hn:∀(acc:List β) (i:Nat),i<n->acc.length<=A+i*C->f (acc,(i:Int))=some (.next (acc++E i,(i:Int)+1)))
  (hd:∀ acc:List β,f (acc,(n:Int))=some (.done acc)):∀(k i:Nat) (acc:List β),i+k=n->acc.length<=A+i*C->Ah f (acc,(i:Int))=some (acc++(List.range' i k).flatMap E)
 | 0,i,acc,h,_=>by
  obtain rfl:i=n:=by omega
  rw[Ao (hd acc)]
  simp
 | k+1,i,acc,h,hA=>by
  have hi:i<n:=by omega
  have h1:=hE i hi
  have h2:acc.length+C<=A+(i+1)*C:=by rw[Gl];omega
  rw[Ax (hn acc i hi hA),show((i:Int)+1)=((i+1:Nat):Int) by omega,K1 n A C E hE f hn hd k (i+1) _ (by omega) (by rw[Fp];omega),Y4,zzL96,zzL93]
theorem Jg{β:Type}(C:Nat)(E:Nat->List β):∀ l:List Nat,(∀ i∈l,(E i).length<=C)->(l.flatMap E).length<=l.length*C
 | [],_=>by simp
 | a::l,h=>by
  have h1:=h a (by simp);have h2:=Jg C E l (fun i hi=>h i (by simp[hi]));rw[zzL96,Fp,Wo,Gl];omega
def Kz(l:List Bz)(v:Int):Int:=match l.findIdx? (fun d=>d.V==v) with|some i=>(i:Int)|none=>-1
theorem m_find(l:List Bz)(v:Int)(hl:l.length<=1000000):Eb l v=some (Kz l v):=by
 have key:∀(k i:Nat),i+k=l.length->Ah (E5 l v) (i:Int)=some (match(l.drop i).findIdx? (fun d=>d.V==v) with|some j=>.inr ((i+j:Nat):Int)|none=>.inl ()):=by
  intro k
  induction k with
  | zero=>
   intro i h
   obtain rfl:i=l.length:=by omega
   rw[Ao (x:=.inl ()) (by unfold E5;simp)]
   simp
  | succ k ih=>
   intro i h
   have hi:i<l.length:=by omega
   have hdr:l.drop i=l.getD i default::l.drop (i+1):=by rw[Y3 hi,Ai _ _ _ hi]
   have hd:decide ((i:Int)<(l.length:Int))=true:=by simpa using hi
   rw[hdr,List.findIdx?_cons]
   cases hb:(l.getD i default).V==v with
   | true=>
    rw[Ao (x:=.inr (i:Int)) (by unfold E5;simp only[hd,Ag,Ab (Ap hi),Ew,hb])]
    simp
   | false=>
    rw[Ax (s':=((i+1:Nat):Int)) (by unfold E5;simp only[hd,Ag,Ab (Ap hi),Ew,hb,Aq,A9 hi (by omega)];rfl),ih (i+1) (by omega)]
    cases(l.drop (i+1)).findIdx? (fun d=>d.V==v) with
    | none=>simp
    | some j=>simp;omega
 unfold Eb Kz;rw[show(0:Int)=((0:Nat):Int) from rfl,key l.length 0 (by omega),Kv]
 cases l.findIdx? (fun d=>d.V==v) with
 | none=>rfl
 | some j=>simp
def K0(o:C1):Int×Int:=bif J4 o then givesS o.Kind o.Bits o.Lanes else(0,0)
def Is(o:C1):List (Int×Int):=bif J4 o then V0 o else[]
def Oo(f:TFunc):List Bz:=(List.range f.Params.length).flatMap fun(i:Nat)=>[⟨(i:Int)+1,-1,0,(f.Params.getD i 0,1)⟩]
def Qf(b:Ad)(i:Nat):List Bz:=(List.range b.Phis.length).flatMap fun(k:Nat)=>[⟨(b.Phis.getD k default).Dst,i,-1,((b.Phis.getD k default).Bits,1)⟩]
def Xs(b:Ad)(i:Nat):List Bz:=(List.range b.Ops.length).flatMap fun(k:Nat)=>bif decide (0<(K0 (b.Ops.getD k default)).1) then[⟨(b.Ops.getD k default).Dst,i,k,K0 (b.Ops.getD k default)⟩] else[]
def N0(b:Ad)(i:Nat):List Bz:=Qf b i++Xs b i
def A3(f:TFunc):List Bz:=Oo f++(List.range f.Blocks.length).flatMap fun i=>N0 (f.Blocks.getD i default) i
theorem defsPhi_len(b:Ad)(i:Nat):(Qf b i).length<=b.Phis.length:=by
 have:=Jg 1 (fun(k:Nat)=>[(⟨(b.Phis.getD k default).Dst,i,-1,((b.Phis.getD k default).Bits,1)⟩:Bz)]) (List.range b.Phis.length) (fun _ _=>zzL9 _)
 simpa [Qf] using this
theorem defsOp_len(b:Ad)(i:Nat):(Xs b i).length<=b.Ops.length:=by
 have:=Jg 1 (fun(k:Nat)=>bif decide (0<(K0 (b.Ops.getD k default)).1) then[(⟨(b.Ops.getD k default).Dst,i,k,K0 (b.Ops.getD k default)⟩:Bz)] else[]) (List.range b.Ops.length) (fun k _=>by cases decide (0<(K0 (b.Ops.getD k default)).1)<;>simp)
 simpa [Xs] using this
theorem defsB_len{f:TFunc}(hf:OkF f){i:Nat}(hi:i<f.Blocks.length):(N0 (f.Blocks.getD i default) i).length<=1024:=by
 have hB:=hf.block _ (Aw (d:=(default:Ad)) hi);have h1:=defsPhi_len (f.Blocks.getD i default) i;have h2:=defsOp_len (f.Blocks.getD i default) i;have h3:=hB.phis;have h4:=hB.ops;rw[N0,Fp];omega
theorem Zk(f:TFunc):(Oo f).length=f.Params.length:=by
 have h:∀ l:List Nat,(l.map fun _=>1).sum=l.length:=fun l=>by induction l with|nil=>rfl|cons a l ih=>simp[ih];omega
 simp[Oo,List.length_flatMap,h]
theorem defsF_len{f:TFunc}(hf:OkF f):(A3 f).length<=100000:=by
 have h1:=Jg 1024 (fun i=>N0 (f.Blocks.getD i default) i) (List.range f.Blocks.length) (fun i hi=>defsB_len hf (by simpa using hi));have h2:=Zk f;have h3:=hf.few;have h4:=hf.blocks;rw[zzL111]at h1;have:f.Blocks.length*1024<=64*1024:=Fb _ h4;rw[A3,Fp];omega
theorem m_defs{f:TFunc}(hf:OkF f):Iq f=some (A3 f):=by
 have hp:=K1 f.Params.length 0 1 (fun(i:Nat)=>[(⟨(i:Int)+1,-1,0,(f.Params.getD i 0,1)⟩:Bz)]) (fun _ _=>zzL9 _) (Gz f) (fun acc i hi hA=>by
   unfold Gz
   have hd:decide ((i:Int)<(f.Params.length:Int))=true:=by simpa using hi
   have hr:acc.length+([(⟨(i:Int)+1,(-1:Int),(0:Int),((f.Params.getD i 0),(1:Int))⟩:Bz)]:List (Bz)).length<=room:=by have:=hf.few;rw[room_is];simp;omega
   simp only[hd,Ag,Ab (Ap hi),Ew,A9 hi (by have:=hf.few;omega),Ab hr]) (fun acc=>by unfold Gz;simp) f.Params.length 0 [] (by omega) (by simp)
 have hphi:∀(i:Nat),i<f.Blocks.length->∀ acc:List Bz,acc.length<=100000->Ah (E3 f (i:Int)) (acc,(0:Int))=some (acc++Qf (f.Blocks.getD i default) i):=fun i hi acc hacc=>by
  have hB:=hf.block _ (Aw (d:=(default:Ad)) hi)
  have:=K1 (f.Blocks.getD i default).Phis.length 100000 1 (fun(k:Nat)=>[(⟨((f.Blocks.getD i default).Phis.getD k default).Dst,i,-1,(((f.Blocks.getD i default).Phis.getD k default).Bits,1)⟩:Bz)]) (fun _ _=>zzL9 _) (E3 f (i:Int)) (fun acc k hk hA=>by
   unfold E3
   have hd:decide ((k:Int)<((f.Blocks.getD i default).Phis.length:Int))=true:=by simpa using hk
   have hr:∀ x:Bz,acc.length+([x]:List Bz).length<=room:=fun x=>by have:=hB.phis;rw[room_is];simp;omega
   simp only[Ew,hd,Ag,Ab (Ap hk),A9 hk (by have:=hB.phis;omega),Ab (hr _)]) (fun acc=>by unfold E3;simp) (f.Blocks.getD i default).Phis.length 0 acc (by omega) (by omega)
  rw[show(0:Int)=((0:Nat):Int) from rfl,this,Qf,Px]
 have hop:∀(i:Nat),i<f.Blocks.length->∀ acc:List Bz,acc.length<=100000->Ah (E4 f (i:Int)) (acc,(0:Int))=some (acc++Xs (f.Blocks.getD i default) i):=fun i hi acc hacc=>by
  have hmem:=Aw (d:=(default:Ad)) hi;have hB:=hf.block _ hmem
  have:=K1 (f.Blocks.getD i default).Ops.length 100000 1 (fun(k:Nat)=>bif decide (0<(K0 ((f.Blocks.getD i default).Ops.getD k default)).1) then[(⟨((f.Blocks.getD i default).Ops.getD k default).Dst,i,k,K0 ((f.Blocks.getD i default).Ops.getD k default)⟩:Bz)] else[]) (fun k _=>by cases decide (0<(K0 ((f.Blocks.getD i default).Ops.getD k default)).1)<;>simp) (E4 f (i:Int)) (fun acc k hk hA=>by
   unfold E4;have hok:=opOk hf hmem (Aw (d:=(default:C1)) hk)
   have hd:decide ((k:Int)<((f.Blocks.getD i default).Ops.length:Int))=true:=by simpa using hk
   have hr:∀ x:Bz,acc.length+([x]:List Bz).length<=room:=fun x=>by have:=hB.ops;rw[room_is];simp;omega
   have hg:Gc ((f.Blocks.getD i default).Ops.getD k default)=some (K0 ((f.Blocks.getD i default).Ops.getD k default)):=ref_Gives _ hok;simp only[Ew,hd,Ag,Ab (Ap hk),hg,An,A9 hk (by have:=hB.ops;omega),Ab (hr _)]
   cases decide (0<(K0 ((f.Blocks.getD i default).Ops.getD k default)).1)<;>simp) (fun acc=>by unfold E4;simp) (f.Blocks.getD i default).Ops.length 0 acc (by omega) (by omega)
  rw[show(0:Int)=((0:Nat):Int) from rfl,this,Xs,Px]
 have hb:=K1 f.Blocks.length 16 1024 (fun i=>N0 (f.Blocks.getD i default) i) (fun i hi=>defsB_len hf hi) (G0 f) (fun acc i hi hA=>by
   unfold G0
   have hd:decide ((i:Int)<(f.Blocks.length:Int))=true:=by simpa using hi
   have hB:=hf.block _ (Aw (d:=(default:Ad)) hi);have h64:=hf.blocks;have h1:i*1024<=64*1024:=Fb _ (by omega);have h2:=defsPhi_len (f.Blocks.getD i default) i;have h3:=hB.phis
   simp only[hd,Ag,Ab (Ap hi),hphi i hi acc (by omega),An,hop i hi (acc++Qf (f.Blocks.getD i default) i) (by rw[Fp];omega),A9 hi (by omega),N0,zzL93]) (fun acc=>by unfold G0;simp) f.Blocks.length 0 (Oo f) (by omega) (by have:=Zk f;have:=hf.few;omega)
 unfold Iq;rw[show(0:Int)=((0:Nat):Int) from rfl,hp,An,Su]
 have e:(List.range' 0 f.Params.length).flatMap (fun(i:Nat)=>[(⟨(i:Int)+1,-1,0,(f.Params.getD i 0,1)⟩:Bz)])=Oo f:=by rw[Oo,Px]
 rw[e,hb,An,A3,Px]
def M4(p:H7):List Cp:=(List.range p.Args.length).flatMap fun(j:Nat)=>[⟨p.Args.getD j 0,p.From.getD j 0,1000,(p.Bits,1)⟩]
def Nk(b:Ad):List Cp:=(List.range b.Phis.length).flatMap fun(k:Nat)=>M4 (b.Phis.getD k default)
def Pm(o:C1)(i k:Nat):List Cp:=(List.range (Is o).length).flatMap fun(j:Nat)=>[⟨o.Args.getD j 0,i,k,(Is o).getD j (0,0)⟩]
def Sq(b:Ad)(i:Nat):List Cp:=(List.range b.Ops.length).flatMap fun(k:Nat)=>Pm (b.Ops.getD k default) i k
def Z0(f:TFunc)(b:Ad)(i:Nat):List Cp:=(bif b.End.Kind==0 then[⟨b.End.Arg,i,1000,(f.Ret,1)⟩] else[])++(bif b.End.Kind==2 then[⟨b.End.Arg,i,1000,(1,1)⟩] else[])
def usesB(f:TFunc)(b:Ad)(i:Nat):List Cp:=Nk b++Sq b i++Z0 f b i
def B7(f:TFunc):List Cp:=(List.range f.Blocks.length).flatMap fun(i:Nat)=>usesB f (f.Blocks.getD i default) i
theorem Vz{o:C1}(h:o.Args.length<=64):(Is o).length<=64/\(Is o).length<=o.Args.length:=by
 unfold Is
 cases hm:J4 o with
 | false=>simp
 | true=>
  simp only[Ag]
  have:((o.Args.length:Int)==N7 o.Kind o.Lanes)=true:=by
   simp only[J4,A7]at hm;exact hm.1.2.2
  have h2:(o.Args.length:Int)=N7 o.Kind o.Lanes:=by simpa using this
  have h3:(V0 o).length=o.Args.length:=by rw[V0,Y6,zzL111,<- h2,Ew]
  omega
theorem ok_phi{f:TFunc}(hf:OkF f){b:Ad}(hb:b∈f.Blocks){p:H7}(hp:p∈b.Phis):p.From.length<=64/\p.Args.length<=64:=by
 have:=(blockB_iff.1 (hf.block b hb).may).1 p hp;simp only[phiB,A7]at this;exact⟨(listB_iff.1 this.1.2).2,(listB_iff.1 this.2).2⟩
theorem ok_op{f:TFunc}(hf:OkF f){b:Ad}(hb:b∈f.Blocks){o:C1}(ho:o∈b.Ops):o.Args.length<=64:=by
 have:=(blockB_iff.1 (hf.block b hb).may).2.1 o ho;simp only[opB,A7]at this;exact(listB_iff.1 this.2).2
theorem usesPhi1_len(p:H7):(M4 p).length<=p.Args.length:=by
 have:=Jg 1 (fun(j:Nat)=>[(⟨p.Args.getD j 0,p.From.getD j 0,1000,(p.Bits,1)⟩:Cp)]) (List.range p.Args.length) (fun _ _=>zzL9 _)
 simpa [M4] using this
theorem usesOp1_len(o:C1)(i k:Nat):(Pm o i k).length<=(Is o).length:=by
 have:=Jg 1 (fun(j:Nat)=>[(⟨o.Args.getD j 0,i,k,(Is o).getD j (0,0)⟩:Cp)]) (List.range (Is o).length) (fun _ _=>zzL9 _)
 simpa [Pm] using this
theorem usesPhi_len{f:TFunc}(hf:OkF f){b:Ad}(hb:b∈f.Blocks):(Nk b).length<=32768:=by
 have:=Jg 64 (fun(k:Nat)=>M4 (b.Phis.getD k default)) (List.range b.Phis.length) (fun k hk=>by
  have h1:=usesPhi1_len (b.Phis.getD k default);have h2:=(ok_phi hf hb (Aw (d:=(default:H7)) (by simpa using hk))).2
  omega)
 have h3:=(hf.block b hb).phis;rw[zzL111]at this;have h4:b.Phis.length*64<=512*64:=Fb _ h3;rw[Nk];omega
theorem usesOp_len{f:TFunc}(hf:OkF f){b:Ad}(hb:b∈f.Blocks)(i:Nat):(Sq b i).length<=32768:=by
 have:=Jg 64 (fun(k:Nat)=>Pm (b.Ops.getD k default) i k) (List.range b.Ops.length) (fun k hk=>by
  have h1:=usesOp1_len (b.Ops.getD k default) i k;have h2:=(Vz (ok_op hf hb (Aw (d:=(default:C1)) (by simpa using hk)))).1
  omega)
 have h3:=(hf.block b hb).ops;rw[zzL111]at this;have h4:b.Ops.length*64<=512*64:=Fb _ h3;rw[Sq];omega
theorem usesEnd_len(f:TFunc)(b:Ad)(i:Nat):(Z0 f b i).length<=2:=by
 unfold Z0
 cases b.End.Kind==0<;>cases b.End.Kind==2<;>simp
theorem usesB_len{f:TFunc}(hf:OkF f){i:Nat}(hi:i<f.Blocks.length):(usesB f (f.Blocks.getD i default) i).length<=70000:=by
 have hmem:=Aw (d:=(default:Ad)) hi;have h1:=usesPhi_len hf hmem;have h2:=usesOp_len hf hmem i;have h3:=usesEnd_len f (f.Blocks.getD i default) i;rw[usesB,Fp,Fp];omega
theorem usesF_len{f:TFunc}(hf:OkF f):(B7 f).length<=4480000:=by
 have h1:=Jg 70000 (fun(i:Nat)=>usesB f (f.Blocks.getD i default) i) (List.range f.Blocks.length) (fun i hi=>usesB_len hf (by simpa using hi));have h4:=hf.blocks;rw[zzL111]at h1;have:f.Blocks.length*70000<=64*70000:=Fb _ h4;rw[B7];omega
def phisFit(f:TFunc):Prop:=∀ b∈f.Blocks,∀ p∈b.Phis,p.Args.length<=p.From.length
theorem m_uses{f:TFunc}(hf:OkF f)(hp:phisFit f):Ir f=some (B7 f):=by
 have hbig:∀{n:Nat},n<=100000000->∀ x:Cp,n+([x]:List Cp).length<=room:=fun{n} h x=>by rw[room_is];simp;omega
 have h1:∀(i:Nat),i<f.Blocks.length->∀(k:Nat),k<(f.Blocks.getD i default).Phis.length->∀ acc:List Cp,acc.length<=50000000->Ah (E6 f (i:Int) (k:Int)) (acc,(0:Int))=some (acc++M4 ((f.Blocks.getD i default).Phis.getD k default)):=fun i hi k hk acc hacc=>by
  have hmem:=Aw (d:=(default:Ad)) hi;have hpm:=Aw (d:=(default:H7)) hk;have hlen:=ok_phi hf hmem hpm;have hfit:=hp _ hmem _ hpm
  have:=K1 ((f.Blocks.getD i default).Phis.getD k default).Args.length 50000000 1 (fun(j:Nat)=>[(⟨((f.Blocks.getD i default).Phis.getD k default).Args.getD j 0,((f.Blocks.getD i default).Phis.getD k default).From.getD j 0,1000,(((f.Blocks.getD i default).Phis.getD k default).Bits,1)⟩:Cp)]) (fun _ _=>zzL9 _) (E6 f (i:Int) (k:Int)) (fun acc j hj hA=>by
   unfold E6
   have hd:decide ((j:Int)<(((f.Blocks.getD i default).Phis.getD k default).Args.length:Int))=true:=by simpa using hj
   simp only[Ew,hd,Ag,Ab (Ap hj),Ab (Ap (Nat.lt_of_lt_of_le hj hfit)),A9 hj (by omega),Ab (hbig (n:=acc.length) (by omega) _)]) (fun acc=>by unfold E6;simp) ((f.Blocks.getD i default).Phis.getD k default).Args.length 0 acc (by omega) (by omega)
  rw[show(0:Int)=((0:Nat):Int) from rfl,this,M4,Px]
 have h2:∀(i:Nat),i<f.Blocks.length->∀ acc:List Cp,acc.length<=40000000->Ah (E7 f (i:Int)) (acc,(0:Int))=some (acc++Nk (f.Blocks.getD i default)):=fun i hi acc hacc=>by
  have hmem:=Aw (d:=(default:Ad)) hi;have hB:=hf.block _ hmem
  have:=K1 (f.Blocks.getD i default).Phis.length 40000000 64 (fun(k:Nat)=>M4 ((f.Blocks.getD i default).Phis.getD k default)) (fun k hk=>by have:=usesPhi1_len ((f.Blocks.getD i default).Phis.getD k default);have:=(ok_phi hf hmem (Aw (d:=(default:H7)) hk)).2;omega) (E7 f (i:Int)) (fun acc k hk hA=>by
   unfold E7
   have hd:decide ((k:Int)<((f.Blocks.getD i default).Phis.length:Int))=true:=by simpa using hk
   have h5:=hB.phis;have h6:k*64<=512*64:=Fb _ (by omega)
   simp only[Ew,hd,Ag,Ab (Ap hk),h1 i hi k hk acc (by omega),An,A9 hk (by omega)]) (fun acc=>by unfold E7;simp) (f.Blocks.getD i default).Phis.length 0 acc (by omega) (by omega)
  rw[show(0:Int)=((0:Nat):Int) from rfl,this,Nk,Px]
 have h3:∀(i:Nat),i<f.Blocks.length->∀(k:Nat),k<(f.Blocks.getD i default).Ops.length->∀ acc:List Cp,acc.length<=50000000->Ah (E8 f (i:Int) (k:Int) (Is ((f.Blocks.getD i default).Ops.getD k default))) (acc,(0:Int))=some (acc++Pm ((f.Blocks.getD i default).Ops.getD k default) i k):=fun i hi k hk acc hacc=>by
  have hmem:=Aw (d:=(default:Ad)) hi;have hom:=Aw (d:=(default:C1)) hk;have hlen:=Vz (ok_op hf hmem hom)
  have:=K1 (Is ((f.Blocks.getD i default).Ops.getD k default)).length 50000000 1 (fun(j:Nat)=>[(⟨((f.Blocks.getD i default).Ops.getD k default).Args.getD j 0,i,k,(Is ((f.Blocks.getD i default).Ops.getD k default)).getD j (0,0)⟩:Cp)]) (fun _ _=>zzL9 _) (E8 f (i:Int) (k:Int) (Is ((f.Blocks.getD i default).Ops.getD k default))) (fun acc j hj hA=>by
   unfold E8
   have hd:decide ((j:Int)<((Is ((f.Blocks.getD i default).Ops.getD k default)).length:Int))=true:=by simpa using hj
   simp only[Ew,hd,Ag,Ab (Ap hk),Ab (Ap hj),Ab (Ap (Nat.lt_of_lt_of_le hj hlen.2)),A9 hj (by omega),Ab (hbig (n:=acc.length) (by omega) _)]) (fun acc=>by unfold E8;simp) (Is ((f.Blocks.getD i default).Ops.getD k default)).length 0 acc (by omega) (by omega)
  rw[show(0:Int)=((0:Nat):Int) from rfl,this,Pm,Px]
 have h4:∀(i:Nat),i<f.Blocks.length->∀ acc:List Cp,acc.length<=40000000->Ah (E9 f (i:Int)) (acc,(0:Int))=some (acc++Sq (f.Blocks.getD i default) i):=fun i hi acc hacc=>by
  have hmem:=Aw (d:=(default:Ad)) hi;have hB:=hf.block _ hmem
  have:=K1 (f.Blocks.getD i default).Ops.length 40000000 64 (fun(k:Nat)=>Pm ((f.Blocks.getD i default).Ops.getD k default) i k) (fun k hk=>by have:=usesOp1_len ((f.Blocks.getD i default).Ops.getD k default) i k;have:=(Vz (ok_op hf hmem (Aw (d:=(default:C1)) hk))).1;omega) (E9 f (i:Int)) (fun acc k hk hA=>by
   unfold E9
   have hd:decide ((k:Int)<((f.Blocks.getD i default).Ops.length:Int))=true:=by simpa using hk
   have h5:=hB.ops;have h6:k*64<=512*64:=Fb _ (by omega);have ht:Gd ((f.Blocks.getD i default).Ops.getD k default)=some (Is ((f.Blocks.getD i default).Ops.getD k default)):=ref_Takes _ (opOk hf hmem (Aw (d:=(default:C1)) hk))
   simp only[Ew,hd,Ag,Ab (Ap hk),ht,An,h3 i hi k hk acc (by omega),A9 hk (by omega)]) (fun acc=>by unfold E9;simp) (f.Blocks.getD i default).Ops.length 0 acc (by omega) (by omega)
  rw[show(0:Int)=((0:Nat):Int) from rfl,this,Sq,Px]
 have hb:=K1 f.Blocks.length 0 70000 (fun(i:Nat)=>usesB f (f.Blocks.getD i default) i) (fun i hi=>usesB_len hf hi) (G1 f) (fun acc i hi hA=>by
   unfold G1
   have hd:decide ((i:Int)<(f.Blocks.length:Int))=true:=by simpa using hi
   have hmem:=Aw (d:=(default:Ad)) hi;have h64:=hf.blocks;have q1:i*70000<=64*70000:=Fb _ (by omega);have q2:=usesPhi_len hf hmem;have q3:=usesOp_len hf hmem i;have e1:=h4 i hi (acc++Nk (f.Blocks.getD i default)) (by rw[Fp];omega)
   have l1:(acc++Nk (f.Blocks.getD i default)++Sq (f.Blocks.getD i default) i).length<=50000000:=by rw[Fp,Fp];omega
   simp only[hd,Ag,Ab (Ap hi),h2 i hi acc (by omega),An,e1,Ew,Ab (hbig (n:=(acc++Nk (f.Blocks.getD i default)++Sq (f.Blocks.getD i default) i).length) (by omega) _),usesB,Z0]
   cases(f.Blocks.getD i default).End.Kind==0 with
   | true=>
    simp only[Ag,An]
    cases(f.Blocks.getD i default).End.Kind==2 with
    | true=>rw[Ab (by rw[Fp];have:=hbig (n:=(acc++Nk (f.Blocks.getD i default)++Sq (f.Blocks.getD i default) i).length+1) (by omega) (default:Cp);simpa using this)];simp[A9 hi (by omega:f.Blocks.length<9223372036854775808)]
    | false=>simp[A9 hi (by omega:f.Blocks.length<9223372036854775808)]
   | false=>
    simp only[Aq,An]
    cases(f.Blocks.getD i default).End.Kind==2 with
    | true=>rw[Ag,Ab (hbig (n:=(acc++Nk (f.Blocks.getD i default)++Sq (f.Blocks.getD i default) i).length) (by omega) _)];simp[A9 hi (by omega:f.Blocks.length<9223372036854775808)]
    | false=>simp[A9 hi (by omega:f.Blocks.length<9223372036854775808)]) (fun acc=>by unfold G1;simp) f.Blocks.length 0 [] (by omega) (by simp)
 unfold Ir;rw[show(0:Int)=((0:Nat):Int) from rfl,hb,An,B7,Px,Su]
def okAt(n:Nat)(l:List Int)(i:Nat):Bool:=decide ((if i=0 then(-1:Int) else l.getD (i-1) 0)<l.getD i 0)&&(decide (0<=l.getD i 0)&&decide (l.getD i 0<n))
def okL(n:Nat)(l:List Int):Bool:=(List.range l.length).all (okAt n l)
def Lq(L:List (List Int)):Bool:=decide (1<=L.length)&&decide (L.length<=64)&&(List.range L.length).all fun i=>okL L.length (L.getD i [])
def Xy(L:List (List Int))(k i:Nat):Bool:=(L.getD k []).contains (i:Int)
def Kr(L:List (List Int))(m i:Nat):List Int:=((List.range m).filter fun k=>Xy L k i).map Int.ofNat
def Ch(L:List (List Int)):List (List Int):=(List.range L.length).map (Kr L L.length)
theorem Ud(a n:Int):I8 a n=some (decide (0<=a)&&decide (a<n)):=by
 unfold I8
 cases decide ((0:Int)<=a)<;>rfl
theorem m_isCount(n:Nat):Kc (n:Int)=some (decide (1<=n)&&decide (n<=64)):=by
 unfold Kc
 have h1:decide ((1:Int)<=(n:Int))=decide (1<=n):=by apply zzL61.2;omega
 have h2:decide ((n:Int)<=(64:Int))=decide (n<=64):=by apply zzL61.2;omega
 rw[h1,h2]
 cases decide (1<=n)<;>rfl
theorem succMay_L1(L:List (List Int))(i:Nat)(hl:(L.getD i []).length<4611686018427387904) :
  Ah (Dl L (i:Int)) ((-1:Int),(0:Int))=some (bif okL L.length (L.getD i []) then .inl () else .inr false):=by
 refine Iz (Dl L (i:Int)) (fun j=>((if j=0 then(-1:Int) else(L.getD i []).getD (j-1) 0),((j:Nat):Int))) (okAt L.length (L.getD i [])) (.inl ()) (.inr false) _ (fun j hj hp=>?_) (fun j hj hp=>?_) ?_
 ·unfold okAt at hp;simp only[A7,F9]at hp;obtain⟨h1,h2,h3⟩:=hp
  show Dl L (i:Int) (_,_)=_
  unfold Dl;simp only[As,Cy hj,Ag,Ud];rw[Ae (Gj hj)]
  have e1:decide ((L.getD i []).getD j 0<=(if j=0 then(-1:Int) else(L.getD i []).getD (j-1) 0))=false:=by simpa using h1
  simp only[e1,Br h2,Br h3,zzL131,Rk,Ag,Aq,An,Dd];rw[w1 (show j<4611686018427387904 by omega)]
  simp
 ·show Dl L (i:Int) (_,_)=_
  unfold Dl;simp only[As,Cy hj,Ag,Ud];rw[Ae (Gj hj)]
  cases h1:decide ((L.getD i []).getD j 0<=(if j=0 then(-1:Int) else(L.getD i []).getD (j-1) 0)) with
  | true=>simp only[Ag,show((true==false)=false) from rfl,Aq,An]
  | false=>
   have h1':decide ((if j=0 then(-1:Int) else(L.getD i []).getD (j-1) 0)<(L.getD i []).getD j 0)=true:=by simpa using h1
   unfold okAt at hp;rw[h1',Fc]at hp;simp only[Rk,Ag,Aq,An,hp,Lh]
 ·show Dl L (i:Int) (_,_)=_
  unfold Dl;simp only[As,Fo,Aq]
def Fits(L:List (List Int)):Prop:=L.length<4611686018427387904/\∀ l∈L,l.length<4611686018427387904
theorem Fits.at{L:List (List Int)}(h:Fits L)(i:Nat):(L.getD i []).length<4611686018427387904:=by
 by_cases hi:i<L.length
 ·exact h.2 _ (Aw hi)
 ·rw[Ur,zzL104 (by omega)];simp
theorem m_succMay(L:List (List Int))(h:Fits L):Kd L=some (Lq L):=by
 unfold Kd;rw[m_isCount,An];unfold Lq
 cases hc:(decide (1<=L.length)&&decide (L.length<=64)) with
 | false=>rfl
 | true=>
  simp only[Dd,Aq,Fc];have:=Iz (Dm L) (fun j=>((j:Nat):Int)) (fun i=>okL L.length (L.getD i [])) (.inl ()) (.inr false) L.length (fun j hj hp=>?_) (fun j hj hp=>?_) ?_
  ·rw[show Ah (Dm L) (0:Int)=_ from this]
   cases(List.range L.length).all fun i=>okL L.length (L.getD i [])<;>rfl
  ·show Dm L (j:Int)=_
   unfold Dm;simp only[Cy hj,Ag];rw[Ae (Gj hj),succMay_L1 L j (h.at j),hp];simp only[Ag,An,w1 (show j<4611686018427387904 by have:=h.1;omega)]
  ·show Dm L (j:Int)=_
   unfold Dm;simp only[Cy hj,Ag];rw[Ae (Gj hj),succMay_L1 L j (h.at j),hp]
   rfl
  ·show Dm L _=_
   unfold Dm;simp only[Fo,Aq]
theorem Qg{α:Type}{n i:Nat}{g:Nat->α}{d:α}(h:i<n):((List.range n).map g).getD i d=g i:=by simp[List.getD,h]
theorem Ys{α:Type}{n i:Nat}{g:Nat->α}{x:α}:((List.range n).map g).set i x=(List.range n).map fun j=>if j=i then x else g j:=by
 apply List.ext_getElem?
 intro j;rw[List.getElem?_set]
 by_cases hj:j<n
 ·by_cases hij:i=j
  ·subst hij;simp[hj]
  ·simp[hij,hj,Ne.symm hij]
 ·simp[hj];intro h;omega
theorem Hv{α:Type}{n:Nat}{g h:Nat->α}(H:∀ i,i<n->g i=h i):(List.range n).map g=(List.range n).map h:=zzL134 fun i hi=>H i (zzL54.1 hi)
theorem mayS_iff{L:List (List Int)}:Lq L=true↔1<=L.length/\L.length<=64/\∀ i,i<L.length->okL L.length (L.getD i [])=true:=by
 unfold Lq;rw[A7,A7,all_range];simp only[F9];exact⟨fun⟨⟨a,b⟩,c⟩=>⟨a,b,c⟩,fun⟨a,b,c⟩=>⟨⟨a,b⟩,c⟩⟩
theorem okL_iff{n:Nat}{l:List Int}:okL n l=true↔∀ i,i<l.length->(0<=l.getD i 0/\l.getD i 0<n)/\(0<i->l.getD (i-1) 0<l.getD i 0):=by
 unfold okL;rw[all_range];unfold okAt;simp only[A7,F9]
 constructor
 ·intro h i hi;obtain⟨h1,h2,h3⟩:=h i hi;refine⟨⟨h2,h3⟩,fun hp=>?_⟩;rwa[if_neg (by omega)]at h1
 ·intro h i hi;obtain⟨⟨h2,h3⟩,h1⟩:=h i hi;refine⟨?_,h2,h3⟩
  by_cases hz:i=0
  ·rw[if_pos hz];omega
  ·rw[if_neg hz];exact h1 (by omega)
section
variable {n:Nat} {l:List Int} (h:okL n l=true)
include h
theorem X6{i:Nat}(hi:i<l.length):0<=l.getD i 0/\l.getD i 0<n:=(okL_iff.1 h i hi).1
theorem okL_lt{i j:Nat}(hij:i<j)(hj:j<l.length):l.getD i 0<l.getD j 0:=by
 induction j with
 | zero=>omega
 | succ j ih=>
  have h1:=(okL_iff.1 h (j+1) hj).2 (by omega);rw[show j+1-1=j by omega]at h1
  by_cases he:i=j
  ·rw[he];exact h1
  ·exact Int.lt_trans (ih (by omega) (by omega)) h1
theorem okL_ge{i:Nat}(hi:i<l.length):(i:Int)<=l.getD i 0:=by
 induction i with
 | zero=>exact(X6 h hi).1
 | succ i ih=>
  have:=okL_lt h (show i<i+1 by omega) hi;have:=ih (by omega);omega
theorem Zt:l.length<=n:=by
 by_cases hz:l.length=0
 ·omega
 ·have h1:=okL_ge h (show l.length-1<l.length by omega);have h2:=(X6 h (show l.length-1<l.length by omega)).2;omega
theorem okL_mem{x:Int}(hx:x∈l):0<=x/\x<n:=by
 obtain⟨i,hi,rfl⟩:=Py hx;have:=X6 h hi;rwa[Ai _ _ _ hi]at this
end
theorem okL_of{n:Nat}{l:List Int}(h1:∀ x∈l,0<=x/\x<n)(h2:l.Pairwise (·<·)):okL n l=true:=by
 rw[okL_iff];intro i hi;rw[Ai _ _ _ hi];refine⟨h1 _ (zzL84 hi),fun hp=>?_⟩;rw[Ai _ _ _ (show i-1<l.length by omega)];exact(List.pairwise_iff_getElem.1 h2) _ _ _ _ (by omega)
theorem R0{L:List (List Int)}(h:Lq L=true):L.length<=64/\∀ l∈L,l.length<=64:=by
 obtain⟨h1,h2,h3⟩:=mayS_iff.1 h;refine⟨h2,fun l hl=>?_⟩;obtain⟨i,hi,rfl⟩:=Py hl;have:=Zt (h3 i hi);rw[Ai _ _ _ hi]at this;omega
theorem fits_of{L:List (List Int)}(h:L.length<=1000/\∀ l∈L,l.length<=1000):Fits L:=⟨by omega,fun l hl=>by have:=h.2 l hl;omega⟩
theorem Yj(L:List (List Int))(k i:Nat):Kr L (k+1) i=Kr L k i++(if Xy L k i=true then[(k:Int)] else[]):=by
 unfold Kr;rw[Y8,zzL119,Y0]
 congr 1
 cases hg:Xy L k i<;>simp[hg]
theorem Vv(L:List (List Int))(k i:Nat):(Kr L k i).length<=k:=by
 unfold Kr;rw[Y6];have:=List.length_filter_le (fun k=>Xy L k i) (List.range k)
 simpa using this
theorem getD_take{l:List Int}{j:Nat}(hj:j<l.length):l.take (j+1)=l.take j++[l.getD j 0]:=by
 rw[Ai _ _ _ hj,zzL85 hj]
def Tk(L:List (List Int))(k j i:Nat):Bool:=((L.getD k []).take j).contains (i:Int)
def M2(L:List (List Int))(k j:Nat):List (List Int):=(List.range L.length).map fun i=>Kr L k i++(if Tk L k j i=true then[(k:Int)] else[])
theorem comers_step(L:List (List Int))(h:Lq L=true)(k j:Nat)(hk:k<L.length)(hj:j<(L.getD k []).length) :
  (M2 L k j).set ((L.getD k []).getD j 0).toNat ((M2 L k j).getD ((L.getD k []).getD j 0).toNat []++[(k:Int)])=M2 L k (j+1):=by
 obtain⟨h1,h2,h3⟩:=mayS_iff.1 h;have hok:=h3 k hk;obtain⟨a0,a1⟩:=X6 hok hj;unfold M2;rw[Qg (by omega),Ys]
 apply Hv
 intro i hi
 have hnot:Tk L k j ((L.getD k []).getD j 0).toNat=false:=by
  unfold Tk;rw[Pz a0]
  cases hc:((L.getD k []).take j).contains ((L.getD k []).getD j 0) with
  | false=>rfl
  | true=>
   rw[zzL68]at hc;obtain⟨m,hm,he⟩:=Py hc
   have hm':m<j:=by simp at hm;omega
   rw[List.getElem_take]at he;have:=okL_lt hok hm' hj;rw[Ai _ _ _ (show m<(L.getD k []).length by omega),he]at this;omega
 by_cases hi2:i=((L.getD k []).getD j 0).toNat
 ·rw[if_pos hi2,hnot]
  have:Tk L k (j+1) i=true:=by
   unfold Tk;rw[getD_take hj,zzL68,hi2,Pz a0]
   simp
  rw[this,hi2]
  simp
 ·rw[if_neg hi2]
  have:Tk L k (j+1) i=Tk L k j i:=by
   unfold Tk;rw[getD_take hj,Me,zzL68,zzL68,zzL18]
   constructor
   ·rintro(hm|hm)
    ·exact hm
    ·simp only[zzL23]at hm;exact(hi2 (by omega)).elim
   ·exact .inl
  rw[this]
theorem m_comers(L:List (List Int))(h:Lq L=true):Js L=some (Ch L):=by
 obtain⟨h1,h2,h3⟩:=mayS_iff.1 h
 have hroom:(1000:Nat)<=room:=by decide
 unfold Js;rw[Ae ⟨by omega,Int.le_refl _,by omega⟩,As]
 have inner:∀ k,k<L.length->Ah (F6 L (k:Int)) ((0:Int),M2 L k 0)=some (M2 L k (L.getD k []).length):=fun k hk=>by
  have hok:=h3 k hk;refine Fy (F6 L (k:Int)) (fun j=>(((j:Nat):Int),M2 L k j)) (M2 L k (L.getD k []).length) (L.getD k []).length (fun j hj=>?_) ?_
  ·obtain⟨a0,a1⟩:=X6 hok hj
   have hlen:(M2 L k j).length=L.length:=by simp[M2]
   have hl64:=Zt hok
   show F6 L (k:Int) (_,_)=_
   unfold F6;simp only[As,Cy hj,Ag];have hb:A2 ((L.getD k []).getD j 0) (M2 L k j).length:=⟨a0,by rw[hlen];exact a1⟩
   have hrow:((M2 L k j).getD ((L.getD k []).getD j 0).toNat []).length<=k+1:=by
    unfold M2;rw[Qg (by omega),Fp];have:=Vv L k ((L.getD k []).getD j 0).toNat
    split
    ·rw[Tf];omega
    ·rw[List.length_nil];omega
   rw[Ae (Gj hj),Ae hb,Ae hb,Ae (by simp only[Tf];omega),Ae hb,comers_step L h k j hk hj,w1 (by omega)]
  ·show F6 L (k:Int) (_,_)=_
   unfold F6;simp only[As,Fo,Aq]
 have r0:∀ k,M2 L k 0=(List.range L.length).map (Kr L k):=fun k=>by
  unfold M2
  apply Hv
  intro i _;simp[Tk]
 have r1:∀ k,M2 L k (L.getD k []).length=(List.range L.length).map (Kr L (k+1)):=fun k=>by
  unfold M2
  apply Hv
  intro i _;rw[Yj];unfold Tk Xy;rw[zzL91]
 have:Ah (F7 L) ((0:Int),(List.range L.length).map (Kr L 0))=some (Ch L):=Fy (F7 L) (fun k=>(((k:Nat):Int),(List.range L.length).map (Kr L k))) (Ch L) L.length (fun k hk=>?_) ?_
 ·have e0:(List.replicate L.length ([]:List Int))=(List.range L.length).map (Kr L 0):=by
   apply List.ext_getElem?
   intro i
   by_cases hi:i<L.length<;>simp[hi,List.getElem?_replicate,Kr]
  rw[e0,this];rfl
 ·show F7 L (_,_)=_
  unfold F7;simp only[Cy hk,Ag];rw[Ae (Gj hk),<- r0,inner k hk,r1,w1 (by omega)]
  rfl
 ·show F7 L (_,_)=_
  unfold F7;simp only[Fo,Aq]
  rfl
theorem S3{α:Type}[DecidableEq α]{a b:List α}{d:α}(h:a.length=b.length):((List.range a.length).all fun i=>decide (a.getD i d=b.getD i d))=decide (a=b):=by
 rw[Me,all_range,F9]
 constructor
 ·intro hall
  apply Yz h
  intro i h1 h2;have:=zzL95 (hall i h1);rwa[Ai _ _ _ h1,Ai _ _ _ h2]at this
 ·rintro rfl i _
  simp
theorem lens_ne{a b:Nat}:(((a:Nat):Int)!=(b:Int))=decide (a≠b):=by
 rw[Me,zzL100,F9];omega
theorem int_ne{a b:Int}:(a !=b) = !decide (a=b):=by
 rw[Me]
 simp
theorem m_equal(a b:List Int)(hb:b.length<4611686018427387904):Eg a b=some (decide (a=b)):=by
 unfold Eg;rw[lens_ne]
 by_cases hl:a.length=b.length
 ·rw[Cj (by simpa using hl),Aq];have:Ah (Bi a b) (0:Int)=_:=Iz (Bi a b) (fun j=>((j:Nat):Int)) (fun i=>decide (a.getD i 0=b.getD i 0)) (.inl ()) (.inr false) a.length (fun j hj hp=>?_) (fun j hj hp=>?_) ?_
  ·rw[this,S3 hl]
   cases decide (a=b)<;>rfl
  ·show Bi a b (j:Int)=_
   unfold Bi;simp only[As,Cy hj,Ag];rw[Ae (Gj hj),Ae (Gj (by omega)),int_ne,hp,w1 (by omega)]
   rfl
  ·show Bi a b (j:Int)=_
   unfold Bi;simp only[As,Cy hj,Ag];rw[Ae (Gj hj),Ae (Gj (by omega)),int_ne,hp]
   rfl
  ·show Bi a b _=_
   unfold Bi;simp only[Fo,Aq]
 ·rw[Br (by simpa using hl),Ag,Cj (fun h=>hl (by rw[h]))]
theorem m_ints(a b:List Int)(ha:a.length<4611686018427387904):Ea a b=some (decide (a=b)):=by
 unfold Ea;rw[lens_ne]
 by_cases hl:a.length=b.length
 ·rw[Cj (by simpa using hl),Aq];have:Ah (Bt a b) (0:Int)=_:=Iz (Bt a b) (fun j=>((j:Nat):Int)) (fun i=>decide (a.getD i 0=b.getD i 0)) (.inl ()) (.inr false) a.length (fun j hj hp=>?_) (fun j hj hp=>?_) ?_
  ·rw[this,S3 hl]
   cases decide (a=b)<;>rfl
  ·show Bt a b (j:Int)=_
   unfold Bt;simp only[As,Cy hj,Ag];rw[Ae (Gj hj),Ae (Gj (by omega)),int_ne,hp,w1 (by omega)]
   rfl
  ·show Bt a b (j:Int)=_
   unfold Bt;simp only[As,Cy hj,Ag];rw[Ae (Gj hj),Ae (Gj (by omega)),int_ne,hp]
   rfl
  ·show Bt a b _=_
   unfold Bt;simp only[Fo,Aq]
 ·rw[Br (by simpa using hl),Ag,Cj (fun h=>hl (by rw[h]))]
theorem m_equalFunc(a b:List (List Int))(hb:Fits b):C3 a b=some (decide (a=b)):=by
 unfold C3;rw[lens_ne]
 by_cases hl:a.length=b.length
 ·rw[Cj (by simpa using hl),Aq];have hb1:=hb.1;have:Ah (Az a b) (0:Int)=_:=Iz (Az a b) (fun j=>((j:Nat):Int)) (fun i=>decide (a.getD i []=b.getD i [])) (.inl ()) (.inr false) a.length (fun j hj hp=>?_) (fun j hj hp=>?_) ?_
  ·rw[this,S3 hl]
   cases decide (a=b)<;>rfl
  ·show Az a b (j:Int)=_
   unfold Az;simp only[As,Cy hj,Ag];rw[Ae (Gj hj),Ae (Gj (by omega)),m_equal _ _ (hb.at j),hp,w1 (by omega)]
   rfl
  ·show Az a b (j:Int)=_
   unfold Az;simp only[As,Cy hj,Ag];rw[Ae (Gj hj),Ae (Gj (by omega)),m_equal _ _ (hb.at j),hp]
   rfl
  ·show Az a b _=_
   unfold Az;simp only[Fo,Aq]
 ·rw[Br (by simpa using hl),Ag,Cj (fun h=>hl (by rw[h]))]
theorem On(L:List (List Int)):(Ch L).length=L.length:=by simp[Ch]
theorem predOf_at{L:List (List Int)}{i:Nat}(hi:i<L.length):(Ch L).getD i []=Kr L L.length i:=by unfold Ch;rw[Qg hi]
theorem Vw{L:List (List Int)}(h:Lq L=true):(Ch L).length<=64/\∀ l∈Ch L,l.length<=64:=by
 obtain⟨h1,_⟩:=R0 h;refine⟨by rw[On];exact h1,fun l hl=>?_⟩;obtain⟨i,hi,rfl⟩:=zzL27.1 hl;have:=Vv L L.length i;omega
theorem Sn{L:List (List Int)}(h:L.length<=64/\∀ l∈L,l.length<=64):Fits L:=fits_of ⟨by omega,fun l hl=>by have:=h.2 l hl;omega⟩
def Vg(g:TGraph):Bool:=Lq g.Succ&&decide (g.Pred=Ch g.Succ)
theorem m_may(g:TGraph)(h:Fits g.Succ):Lm g=some (Vg g):=by
 unfold Lm Vg;rw[m_succMay _ h,An]
 cases hm:Lq g.Succ with
 | false=>rfl
 | true=>
  simp only[Rk,Ag,m_comers _ hm,An,m_equalFunc _ _ (Sn (Vw hm)),Fc]
def Ja(L:List (List Int)):TGraph:=⟨L,Ch L⟩
def g0:TGraph:=⟨[],[]⟩
theorem mayG_gOf{L:List (List Int)}(h:Lq L=true):Vg (Ja L)=true:=by simp[Vg,Ja,h]
theorem m_has(l:List Int)(x:Int)(h:l.length<4611686018427387904):F3 l x=some (l.contains x):=by
 unfold F3;have:Ah (B5 l x) (0:Int)=_:=Iz (B5 l x) (fun j=>((j:Nat):Int)) (fun i=>!decide (l.getD i 0=x)) (.inl ()) (.inr true) l.length (fun j hj hp=>?_) (fun j hj hp=>?_) ?_
 ·rw[this]
  have e:l.contains x = !((List.range l.length).all fun i=>!decide (l.getD i 0=x)):=by
   rw[Me,zzL68,Nr,<- Bool.not_eq_true,all_range]
   constructor
   ·intro hx hall;obtain⟨i,hi,rfl⟩:=Py hx;have:=hall i hi;rw[Ai _ _ _ hi]at this;simp at this
   ·intro hall
    by_cases hx:x∈l
    ·exact hx
    ·refine(hall fun i hi=>?_).elim;rw[Ai _ _ _ hi];simp only[Nr,zzL71];rintro rfl;exact hx (zzL84 hi)
  rw[e]
  cases(List.range l.length).all fun i=>!decide (l.getD i 0=x)<;>rfl
 ·show B5 l x (j:Int)=_
  unfold B5;simp only[As,Cy hj,Ag]
  have:(l.getD j 0==x)=false:=by simpa using hp
  rw[Ae (Gj hj),this,w1 (by omega)]
  rfl
 ·show B5 l x (j:Int)=_
  unfold B5;simp only[As,Cy hj,Ag]
  have:(l.getD j 0==x)=true:=by simpa using hp
  rw[Ae (Gj hj),this]
  rfl
 ·show B5 l x _=_
  unfold B5;simp only[Fo,Aq]
theorem same_loop{X:Type}(a b:List (List Int))(f:Int->Option (LR Int (Unit ⊕ Bool)))(ha:Fits a)(hl:a.length=b.length)
  (hn:∀ i:Nat,i<a.length->f (i:Int)=(Ea (a.getD i []) (b.getD i [])).bind fun x=>bif (!x) then some (.done (.inr false)) else some (.next (w64 ((i:Int)+1)))) (he:f (a.length:Int)=some (.done (.inl ()))) :
  Ah f (0:Int)=some (bif decide (a=b) then .inl () else .inr false):=by
 have ha1:=ha.1;have:Ah f (0:Int)=_:=Iz f (fun j=>((j:Nat):Int)) (fun i=>decide (a.getD i []=b.getD i [])) (.inl ()) (.inr false) a.length (fun j hj hp=>?_) (fun j hj hp=>?_) he
 ·rw[this,S3 hl]
 ·rw[hn j hj,m_ints _ _ (ha.at j),hp,w1 (by omega)];rfl
 ·rw[hn j hj,m_ints _ _ (ha.at j),hp];rfl
theorem m_same(a b:TGraph)(h1:Fits a.Succ)(h2:Fits a.Pred):In a b=some (decide (a=b)):=by
 have e:decide (a=b)=(decide (a.Succ=b.Succ)&&decide (a.Pred=b.Pred)):=by
  cases a;cases b
  rw[Me]
  simp
 rw[e];unfold In;rw[lens_ne,lens_ne]
 by_cases hs:a.Succ.length=b.Succ.length
 ·by_cases hp:a.Pred.length=b.Pred.length
  ·rw[Cj (by simpa using hs),Aq,Cj (by simpa using hp),Aq]
   have s1:=same_loop (X:=Unit) a.Succ b.Succ (Gx a b) h1 hs (fun i hi=>by
    unfold Gx;simp only[As,Cy hi,Ag]
    rw[Ae (Gj hi),Ae (Gj (by omega))]) (by
    unfold Gx
    simp only[Fo,Aq])
   have s2:=same_loop (X:=Unit) a.Pred b.Pred (Gy a b) h2 hp (fun i hi=>by
    unfold Gy;simp only[As,Cy hi,Ag]
    rw[Ae (Gj hi),Ae (Gj (by omega))]) (by
    unfold Gy
    simp only[Fo,Aq])
   rw[s1]
   cases decide (a.Succ=b.Succ) with
   | false=>rfl
   | true=>
    simp only[Ag,An,Fc];rw[s2]
    cases decide (a.Pred=b.Pred)<;>rfl
  ·rw[Br (show a.Pred.length≠b.Pred.length from hp),Cj (p:=a.Pred=b.Pred) (fun h=>hp (by rw[h]))]
   cases decide (a.Succ.length≠b.Succ.length)<;>simp
 ·rw[Br (show a.Succ.length≠b.Succ.length from hs),Cj (p:=a.Succ=b.Succ) (fun h=>hs (by rw[h]))]
  simp
theorem Mc{R:Type}{c:Bool}{q:Prop}[Decidable q]{k:Option R}(h:q):A6 (c=true->q) k=k:=Ae fun _=>h
theorem chk_off{R:Type}{q:Prop}[Decidable q]{k:Option R}:A6 (false=true->q) k=k:=Ae (by intro h;cases h)
def badAt(n:Nat)(l:List Int)(j:Nat):Bool:=
 bif (bif decide (l.getD j 0<0) then true else decide ((n:Int)<=l.getD j 0)) then true else(bif decide ((0:Int)<(j:Int)) then decide (l.getD j 0<=l.getD (j-1) 0) else false)
theorem bad_ok(n:Nat)(l:List Int)(j:Nat):badAt n l j = !okAt n l j:=by
 unfold badAt okAt
 by_cases h0:l.getD j 0<0
 ·have h1:decide (0<=l.getD j 0)=false:=by simpa using h0
  rw[Br h0,h1];simp
 ·have h1:decide (0<=l.getD j 0)=true:=by simpa using h0
  rw[Cj h0,h1]
  by_cases h2:(n:Int)<=l.getD j 0
  ·have h3:decide (l.getD j 0<(n:Int))=false:=by simpa using h2
   rw[Br h2,h3];simp
  ·have h3:decide (l.getD j 0<(n:Int))=true:=by simpa using h2
   rw[Cj h2,h3]
   by_cases hj:j=0
   ·subst hj;have h4:decide ((-1:Int)<l.getD 0 0)=true:=Br (by omega);rw[if_pos rfl,h4];simp
   ·rw[if_neg hj,Br (show(0:Int)<(j:Int) by omega)]
    by_cases h5:l.getD j 0<=l.getD (j-1) 0
    ·rw[Br h5,Cj (show ¬ l.getD (j-1) 0<l.getD j 0 by omega)];rfl
    ·rw[Cj h5,Br (show l.getD (j-1) 0<l.getD j 0 by omega)];rfl
theorem ref_make_L1(L:List (List Int))(i:Nat)(hi:i<L.length)(hl:(L.getD i []).length<4611686018427387904) :
  Ah (Bu L (i:Int)) (0:Int)=some (bif okL L.length (L.getD i []) then .inl () else .inr (g0,5)):=by
 have hw:∀ j:Nat,j<(L.getD i []).length->0<j->w64 ((j:Int)-1)=((j-1:Nat):Int):=fun j hj hp=>by rw[Kt (by omega) (by omega)];omega
 have step:∀ j,j<(L.getD i []).length->Bu L (i:Int) (j:Int)=bif badAt L.length (L.getD i []) j then some (.done (.inr (g0,5))) else some (.next (((j+1:Nat):Int))):=fun j hj=>by
  unfold Bu;simp only[As,Cy hj,Ag];rw[Ae (Gj hi),Ae (Gj hi),Ae (Gj hj),Mc (Gj hi),Mc (Gj hj),Mc (Gj hi),Mc (Gj hj),Mc (Gj hi),w1 (by omega)]
  by_cases hz:j=0
  ·subst hz
   have:decide ((0:Int)<((0:Nat):Int))=false:=by decide
   unfold badAt;rw[this];simp only[Aq];rw[show((false==true)=false) from rfl,Bool.and_false,chk_off]
   rfl
  ·rw[hw j hj (by omega),Mc (Gj (by omega)),As]
   rfl
 have:=Iz (Bu L (i:Int)) (fun j=>((j:Nat):Int)) (okAt L.length (L.getD i [])) (.inl ()) (.inr (g0,5)) (L.getD i []).length (fun j hj hp=>?_) (fun j hj hp=>?_) ?_
 ·exact this
 ·show Bu L (i:Int) (j:Int)=_
  rw[step j hj,bad_ok,hp];rfl
 ·show Bu L (i:Int) (j:Int)=_
  rw[step j hj,bad_ok,hp];rfl
 ·show Bu L (i:Int) _=_
  unfold Bu;simp only[As,Fo,Aq];rw[Ae (Gj hi)]
theorem ref_make_rows(L:List (List Int))(h:Lq L=true):Ah (B8 L) ((0:Int),List.replicate L.length ([]:List Int))=some (Ch L):=by
 obtain⟨h1,h2,h3⟩:=mayS_iff.1 h
 have hroom:(1000:Nat)<=room:=by decide
 have hfit:=Sn (R0 h)
 let R:Nat->Nat->List (List Int):=fun i k=>(List.range L.length).map fun j=>if j<i then Kr L L.length j else if j=i then Kr L k i else[]
 have inner:∀ i,i<L.length->Ah (C8 L (i:Int)) ((0:Int),R i 0)=some (R i L.length):=fun i hi=>by
  refine Fy (C8 L (i:Int)) (fun k=>(((k:Nat):Int),R i k)) (R i L.length) L.length (fun k hk=>?_) ?_
  ·show C8 L (i:Int) (_,_)=_
   have hlen:(R i k).length=L.length:=by simp[R]
   have hat:(R i k).getD i []=Kr L k i:=by simp only[R];rw[Qg hi];simp
   unfold C8;simp only[As,Cy hk,Ag];rw[Ae (Gj hk),m_has _ _ (hfit.at k),An,w1 (by omega)];have hg:Xy L k i=(L.getD k []).contains (i:Int):=rfl;rw[<- hg,hat]
   have hs:(if Xy L k i=true then(R i k).set i (Kr L k i++[(k:Int)]) else R i k)=R i (k+1):=by
    split
    ·rename_i hgo
     simp only[R];rw[Ys]
     apply Hv
     intro j hj
     by_cases hji:j=i
     ·subst hji;simp[Yj,hgo]
     ·simp[hji]
    ·rename_i hgo
     simp only[R]
     apply Hv
     intro j hj
     by_cases hji:j=i
     ·subst hji;simp[Yj,hgo]
     ·simp[hji]
   rw[<- hs]
   cases hgo:Xy L k i with
   | false=>rfl
   | true=>
    have:=Vv L k i;simp only[Ag];rw[Ae (by rw[hlen];exact Gj hi),Ae (by rw[hlen];exact Gj hi),Ae (by rw[Tf];omega),Ae (by rw[hlen];exact Gj hi)]
    rfl
  ·show C8 L (i:Int) (_,_)=_
   unfold C8;simp only[Fo,Aq]
 have:Ah (B8 L) ((0:Int),R 0 0)=some (Ch L):=Fy (B8 L) (fun i=>(((i:Nat):Int),R i 0)) (Ch L) L.length (fun i hi=>?_) ?_
 ·have e0:List.replicate L.length ([]:List Int)=R 0 0:=by
   simp only[R]
   apply List.ext_getElem?
   intro j
   by_cases hj:j<L.length<;>simp[hj,List.getElem?_replicate,Kr]
  rw[e0,this]
 ·show B8 L (_,_)=_
  unfold B8;simp only[Cy hi,Ag];rw[inner i hi,w1 (by omega)];simp only[An]
  congr 3
  simp only[R]
  apply Hv
  intro j hj
  by_cases h4:j<i
  ·simp[h4,show j<i+1 by omega]
  ·by_cases h5:j=i
   ·subst h5;simp
   ·simp[h4,h5,show ¬ j<i+1 by omega];intro h6;simp[Kr]
 ·show B8 L (_,_)=_
  unfold B8;simp only[Fo,Aq]
  congr 2
  simp only[R,Ch]
  apply Hv
  intro j hj;simp[hj]
theorem m_ref_make(L:List (List Int))(h:Fits L):Gw L=some (bif Lq L then(Ja L,0) else(g0,5)):=by
 have hroom:(1000:Nat)<=room:=by decide
 unfold Gw
 have hc:(bif ((L.length:Int)==(0:Int)) then true else decide ((64:Int)<(L.length:Int))) = !(decide (1<=L.length)&&decide (L.length<=64)):=by
  by_cases h0:L.length=0
  ·rw[h0];rfl
  ·rw[show((L.length:Int)==0)=false by simp only[zzL32];omega,Br (show 1<=L.length by omega)]
   by_cases h1:L.length<=64
   ·rw[Br h1,Cj (show ¬ (64:Int)<(L.length:Int) by omega)];rfl
   ·rw[Cj h1,Br (show(64:Int)<(L.length:Int) by omega)];rfl
 rw[hc];have hm:Lq L=((decide (1<=L.length)&&decide (L.length<=64))&&(List.range L.length).all fun i=>okL L.length (L.getD i [])):=rfl
 cases hb:(decide (1<=L.length)&&decide (L.length<=64)) with
 | false=>rw[hm,hb];rfl
 | true=>
  simp only[Dd,Aq];have hb':=hb;simp only[A7,F9]at hb';have:Ah (Bv L) (0:Int)=_:=Iz (Bv L) (fun j=>((j:Nat):Int)) (fun i=>okL L.length (L.getD i [])) (.inl ()) (.inr (g0,5)) L.length (fun j hj hp=>?_) (fun j hj hp=>?_) ?_
  ·rw[this]
   cases hall:(List.range L.length).all fun i=>okL L.length (L.getD i []) with
   | false=>rw[hm,hb,hall];rfl
   | true=>
    have hmay:Lq L=true:=by rw[hm,hb,hall];rfl
    rw[hmay];simp only[Ag,An];rw[Ae ⟨by omega,Int.le_refl _,by omega⟩,As,ref_make_rows L hmay]
    rfl
  ·show Bv L (j:Int)=_
   unfold Bv;simp only[Cy hj,Ag];rw[ref_make_L1 L j hj (h.at j),hp,w1 (by omega)]
   rfl
  ·show Bv L (j:Int)=_
   unfold Bv;simp only[Cy hj,Ag];rw[ref_make_L1 L j hj (h.at j),hp]
   rfl
  ·show Bv L _=_
   unfold Bv;simp only[Fo,Aq]
theorem gOf_fits{L:List (List Int)}(h:Lq L=true):Fits (Ja L).Succ/\Fits (Ja L).Pred:=⟨Sn (R0 h),Sn (Vw h)⟩
theorem m_ref_may(g:TGraph)(h:Fits g.Succ):Jd g=some (Vg g):=by
 unfold Jd Vg;rw[m_ref_make _ h,An]
 cases hm:Lq g.Succ with
 | false=>rfl
 | true=>
  simp only[Ag,Rk,Fc];rw[m_same _ _ (gOf_fits hm).1 (gOf_fits hm).2];simp only[An]
  congr 1
  apply zzL61.2
  cases g with
  | mk s p=>
   simp only[Ja,TGraph.mk.injEq,true_and];exact Qb
noncomputable section
def upd(s:Nat->Bool)(y:Nat):Nat->Bool:=fun z=>decide (z=y) || s z
theorem upd_true{s:Nat->Bool}{y z:Nat}:upd s y z=true↔z=y\/s z=true:=by simp[upd]
theorem upd_false{s:Nat->Bool}{y z:Nat}:upd s y z=false↔z≠y/\s z=false:=by simp[upd]
inductive VL (S:Nat->List Nat):(Nat->Bool)->List Nat->(Nat->Bool)->List Nat->Prop
 | nil (s:Nat->Bool):VL S s [] s []
 | skip {s s':Nat->Bool} {y:Nat} {l o:List Nat} (h:s y=true) (t:VL S s l s' o):VL S s (y::l) s' o
 | step {s s1 s2:Nat->Bool} {y:Nat} {l o1 o2:List Nat} (h:s y=false) (a:VL S (upd s y) (S y) s1 o1) (b:VL S s1 l s2 o2):VL S s (y::l) s2 (o1++y::o2)
inductive Rch (S:Nat->List Nat):Nat->Nat->Prop
 | refl (x:Nat):Rch S x x
 | head {x y z:Nat} (h:y∈S x) (t:Rch S y z):Rch S x z
theorem Rch.tail{S:Nat->List Nat}{x y z:Nat}(h:Rch S x y)(hz:z∈S y):Rch S x z:=by
 induction h with
 | refl x=>exact .head hz (.refl _)
 | head h _ ih=>exact .head h (ih hz)
theorem Rch.trans{S:Nat->List Nat}{x y z:Nat}(h:Rch S x y)(k:Rch S y z):Rch S x z:=by
 induction h with
 | refl x=>exact k
 | head h _ ih=>exact .head h (ih k)
variable {S:Nat->List Nat} {s s':Nat->Bool} {l o:List Nat}
theorem VL.seen(h:VL S s l s' o)(z:Nat):s' z=true↔s z=true\/z∈o:=by
 induction h with
 | nil s=>simp
 | skip h _ ih=>exact ih
 | @step s s1 s2 y l o1 o2 h a b iha ihb=>
  rw[ihb,iha,upd_true];simp only[zzL18,zzL28]
  constructor
  ·rintro((( rfl|h1)|h1)|h1)
   ·exact .inr (.inr (.inl rfl))
   ·exact .inl h1
   ·exact .inr (.inl h1)
   ·exact .inr (.inr (.inr h1))
  ·rintro(h1|h1|rfl|h1)
   ·exact .inl (.inl (.inr h1))
   ·exact .inl (.inr h1)
   ·exact .inl (.inl (.inl rfl))
   ·exact .inr h1
theorem VL.fresh(h:VL S s l s' o){z:Nat}(hz:z∈o):s z=false:=by
 induction h with
 | nil s=>cases hz
 | skip h _ ih=>exact ih hz
 | @step s s1 s2 y l o1 o2 h a b iha ihb=>
  rcases zzL18.1 hz with h1|h1
  ·exact(upd_false.1 (iha h1)).2
  ·rcases zzL28.1 h1 with rfl|h1
   ·exact h
   ·have:=ihb h1
    cases hs:s z with
    | false=>rfl
    | true=>rw[(a.seen z).2 (.inl (upd_true.2 (.inr hs)))]at this;cases this
theorem VL.nodup(h:VL S s l s' o):o.Nodup:=by
 induction h with
 | nil s=>exact List.nodup_nil
 | skip h _ ih=>exact ih
 | @step s s1 s2 y l o1 o2 h a b iha ihb=>
  rw[List.nodup_append];refine⟨iha,zzL110.2 ⟨fun hy=>?_,ihb⟩,fun u hu v hv=>?_⟩
  ·have:=b.fresh hy;rw[(a.seen y).2 (.inl (upd_true.2 (.inl rfl)))]at this
   cases this
  ·rintro rfl;rcases zzL28.1 hv with rfl|hv
   ·have:=a.fresh hu;rw[upd_true.2 (.inl rfl)]at this
    cases this
   ·have:=b.fresh hv;rw[(a.seen u).2 (.inr hu)]at this
    cases this
theorem VL.rch(h:VL S s l s' o){z:Nat}(hz:z∈o):∃ y∈l,Rch S y z:=by
 induction h with
 | nil s=>cases hz
 | skip h _ ih=>obtain⟨y,hy,hr⟩:=ih hz;exact⟨y,zzL19 _ hy,hr⟩
 | @step s s1 s2 y l o1 o2 h a b iha ihb=>
  rcases zzL18.1 hz with h1|h1
  ·obtain⟨u,hu,hr⟩:=iha h1;exact⟨y,zzL38 ..,.head hu hr⟩
  ·rcases zzL28.1 h1 with rfl|h1
   ·exact⟨z,zzL38 ..,.refl z⟩
   ·obtain⟨u,hu,hr⟩:=ihb h1;exact⟨u,zzL19 _ hu,hr⟩
theorem VL.closed(h:VL S s l s' o):(∀ y∈l,s' y=true)/\∀ z∈o,∀ y∈S z,s' y=true:=by
 induction h with
 | nil s=>exact⟨(fun _ h=>by cases h),(fun _ h=>by cases h)⟩
 | @skip s s' y l o h t ih=>
  refine⟨fun u hu=>?_,ih.2⟩;rcases zzL28.1 hu with rfl|hu
  ·exact(t.seen u).2 (.inl h)
  ·exact ih.1 u hu
 | @step s s1 s2 y l o1 o2 h a b iha ihb=>
  refine⟨fun u hu=>?_,fun z hz u hu=>?_⟩
  ·rcases zzL28.1 hu with rfl|hu
   ·exact(b.seen u).2 (.inl ((a.seen u).2 (.inl (upd_true.2 (.inl rfl)))))
   ·exact ihb.1 u hu
  ·rcases zzL18.1 hz with h1|h1
   ·exact(b.seen u).2 (.inl (iha.2 z h1 u hu))
   ·rcases zzL28.1 h1 with rfl|h1
    ·exact(b.seen u).2 (.inl (iha.1 u hu))
    ·exact ihb.2 z h1 u hu
theorem VL.above(h:VL S s l s' o)(hf:∀ z,∀ y∈S z,z<y){b:Nat}(hb:∀ y∈l,b<y):∀ z∈o,b<z:=by
 induction h generalizing b with
 | nil s=>intro z hz;cases hz
 | skip h _ ih=>exact ih (fun y hy=>hb y (zzL19 _ hy))
 | @step s s1 s2 y l o1 o2 h a c iha ihb=>
  intro z hz;have hy:=hb y (zzL38 ..);rcases zzL18.1 hz with h1|h1
  ·exact iha (fun u hu=>Nat.lt_trans hy (hf y u hu)) z h1
  ·rcases zzL28.1 h1 with rfl|h1
   ·exact hy
   ·exact ihb (fun u hu=>hb u (zzL19 _ hu)) z h1
theorem VL.ahead(h:VL S s l s' o)(hf:∀ z,∀ y∈S z,z<y):∀ z∈o,∀ y∈S z,s y=true\/∃ A B,o=A++z::B/\y∈A:=by
 induction h with
 | nil s=>intro z hz;cases hz
 | skip h _ ih=>exact ih
 | @step s s1 s2 y l o1 o2 h a c iha ihb=>
  intro z hz u hu;rcases zzL18.1 hz with h1|h1
  ·have hzy:y<z:=a.above hf (fun v hv=>hf y v hv) z h1;have hzu:=hf z u hu;rcases iha z h1 u hu with h2|⟨A,B,rfl,hA⟩
   ·rcases upd_true.1 h2 with rfl|h2
    ·omega
    ·exact .inl h2
   ·exact .inr ⟨A,B++y::o2,by simp,hA⟩
  ·rcases zzL28.1 h1 with rfl|h1z
   ·have hzu:=hf z u hu;rcases(a.seen u).1 (a.closed.1 u hu) with h2|h2
    ·rcases upd_true.1 h2 with rfl|h2
     ·omega
     ·exact .inl h2
    ·exact .inr ⟨o1,o2,rfl,h2⟩
   ·rcases ihb z h1z u hu with h2|⟨A,B,rfl,hA⟩
    ·rcases(a.seen u).1 h2 with h3|h3
     ·rcases upd_true.1 h3 with rfl|h3
      ·obtain⟨P,Q,rfl⟩:=List.append_of_mem h1z;exact .inr ⟨o1++u::P,Q,by simp,by simp⟩
      ·exact .inl h3
     ·obtain⟨P,Q,rfl⟩:=List.append_of_mem h1z;exact .inr ⟨o1++y::P,Q,by simp,by simp[h3]⟩
    ·exact .inr ⟨o1++y::A,B,by simp,by simp[hA]⟩
def cnt(n:Nat)(s:Nat->Bool):Nat:=((List.range n).filter fun z=>!s z).length
theorem Zj{n:Nat}{s:Nat->Bool}{y:Nat}(hy:y<n)(h:s y=false):cnt n (upd s y)+1=cnt n s:=by
 unfold cnt
 induction n with
 | zero=>omega
 | succ n ih=>
  rw[Y8,zzL119,zzL119,Fp,Fp]
  by_cases hyn:y=n
  ·subst hyn
   have e:(List.range y).filter (fun z=>!upd s y z)=(List.range y).filter (fun z=>!s z):=by
    apply List.filter_congr
    intro z hz;have:=zzL54.1 hz;simp[upd,show z≠y by omega]
   rw[e];simp[upd,h]
  ·have:=ih (by omega)
   have e:([n].filter fun z=>!upd s y z).length=([n].filter fun z=>!s z).length:=by
    simp only[List.filter_cons,List.filter_nil,upd];simp[Ne.symm hyn]
   omega
theorem cnt_mono{n:Nat}{s s':Nat->Bool}(h:∀ z,s z=true->s' z=true):cnt n s'<=cnt n s:=by
 unfold cnt
 apply List.Sublist.length_le
 have:(List.range n).filter (fun z=>!s' z)=((List.range n).filter fun z=>!s z).filter fun z=>!s' z:=by
  rw[List.filter_filter]
  apply List.filter_congr
  intro z _
  cases hs:s z with
  | false=>simp
  | true=>simp[h z hs]
 rw[this];exact List.filter_sublist
theorem VL.exist{n:Nat}(hS:∀ z,z<n->∀ y∈S z,y<n):∀(m:Nat) (s:Nat->Bool),cnt n s<=m->∀ l:List Nat,(∀ y∈l,y<n)->∃ s' o,VL S s l s' o:=by
 intro m
 induction m with
 | zero=>
  intro s hm l
  induction l with
  | nil=>intro _;exact⟨s,[],.nil s⟩
  | cons y l ih=>
   intro hl;obtain⟨s',o,h⟩:=ih (fun z hz=>hl z (zzL19 _ hz))
   cases hy:s y with
   | true=>exact⟨s',o,.skip hy h⟩
   | false=>have:=Zj (hl y (zzL38 ..)) hy;omega
 | succ m ih=>
  intro s hm l
  induction l generalizing s with
  | nil=>intro _;exact⟨s,[],.nil s⟩
  | cons y l ihl=>
   intro hl
   cases hy:s y with
   | true=>
    obtain⟨s',o,h⟩:=ihl s hm (fun z hz=>hl z (zzL19 _ hz));exact⟨s',o,.skip hy h⟩
   | false=>
    have hyn:=hl y (zzL38 ..);have:=Zj hyn hy;obtain⟨s1,o1,h1⟩:=ih (upd s y) (by omega) (S y) (hS y hyn);have h2:cnt n s1<=cnt n s:=cnt_mono fun z hz=>(h1.seen z).2 (.inl (upd_true.2 (.inr hz)));obtain⟨s2,o2,h3⟩:=ihl s1 (by omega) (fun z hz=>hl z (zzL19 _ hz));exact⟨s2,_,.step hy h1 h3⟩
def one(r:Nat):Nat->Bool:=fun z=>decide (z=r)
def Ord(S:Nat->List Nat)(r:Nat)(L:List Nat):Prop:=∃ s' o,VL S (one r) (S r) s' o/\L=r::o.reverse
theorem Ord.exist{n:Nat}(hS:∀ z,z<n->∀ y∈S z,y<n){r:Nat}(hr:r<n):∃ L,Ord S r L:=by
 obtain⟨s',o,h⟩:=VL.exist hS _ (one r) (zzL9 _) (S r) (hS r hr);exact⟨_,s',o,h,rfl⟩
theorem Ord.mem{r:Nat}{L:List Nat}(h:Ord S r L)(z:Nat):z∈L↔Rch S r z:=by
 obtain⟨s',o,h,rfl⟩:=h
 have hs:∀ z,s' z=true↔z=r\/z∈o:=fun z=>by rw[h.seen];simp[one]
 have hc:∀ x,s' x=true->∀ y∈S x,s' y=true:=fun x hx y hy=>by
  rcases(hs x).1 hx with rfl|hx
  ·exact h.closed.1 y hy
  ·exact h.closed.2 x hx y hy
 simp only[zzL28,zzL122];rw[<- hs z]
 constructor
 ·intro hz;rcases(hs z).1 hz with rfl|hz
  ·exact .refl _
  ·obtain⟨y,hy,hr⟩:=h.rch hz;exact .head hy hr
 ·intro hr
  have key:∀ x z,Rch S x z->s' x=true->s' z=true:=by
   intro x z hxz
   induction hxz with
   | refl x=>exact id
   | head hy _ ih=>exact fun hx=>ih (hc _ hx _ hy)
  exact key r z hr ((hs r).2 (.inl rfl))
theorem Ord.nodup{r:Nat}{L:List Nat}(h:Ord S r L):L.Nodup:=by
 obtain⟨s',o,h,rfl⟩:=h;refine zzL110.2 ⟨fun hr=>?_,(List.reverse_perm o).nodup_iff.2 h.nodup⟩;have:=h.fresh (zzL122.1 hr);simp[one]at this
theorem Ord.fwd{r:Nat}{L:List Nat}(h:Ord S r L)(hf:∀ z,∀ y∈S z,z<y):∀ z∈L,∀ y∈S z,∃ A B,L=A++z::B/\y∈B:=by
 obtain⟨s',o,h,rfl⟩:=h;intro z hz y hy;have hzy:=hf z y hy;rcases zzL28.1 hz with rfl|hz
 ·refine⟨[],o.reverse,rfl,?_⟩;rcases(h.seen y).1 (h.closed.1 y hy) with h1|h1
  ·simp[one]at h1;omega
  ·exact zzL122.2 h1
 ·have hz:=zzL122.1 hz;have hrz:r<z:=h.above hf (fun v hv=>hf r v hv) z hz;rcases h.ahead hf z hz y hy with h1|⟨A,B,rfl,hA⟩
  ·simp[one]at h1;omega
  ·exact⟨r::B.reverse,A.reverse,by simp,zzL122.2 hA⟩
end
theorem m_reverse(l:List Int)(hl:l.length<4611686018427387904):Es l=some l.reverse:=by
 unfold Es
 by_cases h0:l.length=0
 ·obtain rfl:l=[]:=zzL125.1 h0
  have:Ah Be ((0:Int),(w64 ((([]:List Int).length:Int)-1)),([]:List Int))=some []:=by
   apply Ao
   unfold Be;rw[Kt (by simp) (by simp)]
   rfl
  rw[this];rfl
 ·have hw:w64 ((l.length:Int)-1)=((l.length-1:Nat):Int):=by rw[Kt (by omega) (by omega)];omega
  rw[hw]
  let C:Nat->List Int:=fun k=>(List.range l.length).map fun i=>if i<k\/l.length-1-k<i then l.getD (l.length-1-i) 0 else l.getD i 0
  have hC:∀ k i,i<l.length->(C k).getD i 0=if i<k\/l.length-1-k<i then l.getD (l.length-1-i) 0 else l.getD i 0:=fun k i hi=>by simp only[C];rw[Qg hi]
  have hlen:∀ k,(C k).length=l.length:=fun k=>by simp[C]
  have:=Fy Be (fun k=>(((k:Nat):Int),((l.length-1-k:Nat):Int),C k)) l.reverse (l.length / 2) (fun k hk=>?_) ?_
  ·have e0:C 0=l:=by
    apply Yz (by simp[C])
    intro i h1 h2;have:=hC 0 i h2;rw[Ai _ _ _ h1,Ai _ _ _ h2]at this;rw[this,if_neg (by omega)]
   have this':Ah Be ((0:Int),((l.length-1:Nat):Int),l)=some l.reverse:=by
    have h2:=this;simp only[e0]at h2;exact h2
   rw[this'];rfl
  ·show Be (_,_,_)=_
   unfold Be
   have hlt:k<l.length-1-k:=by omega
   simp only[Cy hlt,Ag,As];rw[Ae (Gj (by rw[hlen];omega)),Ae (Gj (by rw[hlen];omega)),Ae (Gj (by rw[hlen];omega)),Ae (Gj (by rw[hlen];omega))];rw[w1 (by omega),show w64 (((l.length-1-k:Nat):Int)-1)=((l.length-1-(k+1):Nat):Int) by rw[Kt (by omega) (by omega)];omega]
   congr 4
   rw[hC k _ (by omega),hC k _ (by omega),if_neg (by omega),if_neg (by omega)];simp only[C];rw[Ys,Ys]
   apply Hv
   intro i hi
   by_cases h1:i=k
   ·subst h1;rw[if_neg (by omega),if_pos rfl,if_pos (by omega)]
   ·by_cases h2:i=l.length-1-k
    ·subst h2;rw[if_pos rfl,if_pos (by omega)]
     congr 1;omega
    ·rw[if_neg h2,if_neg h1]
     by_cases h3:i<k\/l.length-1-k<i
     ·rw[if_pos h3,if_pos (by omega)]
     ·rw[if_neg h3,if_neg (by omega)]
  ·show Be (_,_,_)=_
   unfold Be;have hd:decide (((l.length / 2:Nat):Int)<((l.length-1-l.length / 2:Nat):Int))=false:=Cj (by omega);simp only[hd,Aq]
   congr 2
   apply Yz (by simp[C])
   intro i h1 h2
   have h3:i<l.length:=by simpa [C] using h1
   have:=hC (l.length / 2) i h3;rw[Ai _ _ _ h1]at this;rw[this,List.getElem_reverse]
   split
   ·rw[Ai _ _ _ (by omega)]
   ·rw[Ai _ _ _ h3]
    congr 1;omega
theorem top{st:List Int}{a:Int}(h:st.length<4611686018427387904):(st++[a]).getD (w64 (((st++[a]).length:Int)-1)).toNat 0=a:=by
 have:w64 (((st++[a]).length:Int)-1)=((st.length:Nat):Int):=by rw[Fp,Tf,Kt (by omega) (by omega)];omega
 rw[this,As];simp[List.getD]
theorem topi{st:List Int}{a:Int}(h:st.length<4611686018427387904):w64 (((st++[a]).length:Int)-1)=((st.length:Nat):Int):=by
 rw[Fp,Tf,Kt (by omega) (by omega)];omega
theorem L2_done{g:TGraph}{R:List Bool}{st T:List Int}{a:Nat}(hst:st.length<64)(ha:a<g.Succ.length)(h64:g.Succ.length<=64)(ht:T.getD a 0=((g.Succ.getD a []).length:Int)) :
  H1 g R (st++[(a:Int)]) T=some (.done (.inl T)):=by
 unfold H1;simp only[top (st:=st) (a:=(a:Int)) (by omega),As];rw[Ae (Gj (by omega)),Ae (Gj ha),ht,Fo,Aq]
theorem L2_step{g:TGraph}{R:List Bool}{st T:List Int}{a t y:Nat}(hst:st.length<64)(ha:a<g.Succ.length)(h64:g.Succ.length<=64)(ht:T.getD a 0=(t:Int))(htl:t<(g.Succ.getD a []).length)(htm:t<64)
  (hy:(g.Succ.getD a []).getD t 0=(y:Int)) (hyn:y<g.Succ.length) :
  H1 g R (st++[(a:Int)]) T=bif R.getD y false then some (.next (Oa 64 (0:Int) T a ((t+1:Nat):Int))) else some (.done (.inr (Oa 64 false R y true,Oa 64 (0:Int) T a ((t+1:Nat):Int),(st++[(a:Int)])++[(y:Int)]))):=by
 have hroom:(1000:Nat)<=room:=by decide
 unfold H1;simp only[top (st:=st) (a:=(a:Int)) (by omega),As,ht,hy];rw[Ae (Gj (by omega)),Ae (Gj ha),Cy htl,Ag,Ae (Gj ha),Ae (Gj (by omega)),Ae (Gj htl),Ae (Gj (by omega)),Ae (Gj (by omega)),Ae (Gj (by omega)),w1 (by omega)]
 cases R.getD y false with
 | true=>rfl
 | false=>
  simp only[Lh,Ag,Aq];rw[Ae (Gj (by omega)),Ae (by rw[Fp,Tf,Tf];omega)]
theorem F3_eq{g:TGraph}{R:List Bool}{st T Lf:List Int}{a:Nat}(hst:st.length<64)(hLf:Lf.length<64) :
  D4 g (R,T,st++[(a:Int)],Lf)=(Ah (H1 g R (st++[(a:Int)])) T).bind fun x=>match x with
   | .inl T'=>if st=[] then some (.done (Lf++[(a:Int)]).reverse) else some (.next (R,T',st,Lf++[(a:Int)]))
   | .inr (R',T',st')=>some (.next (R',T',st',Lf)):=by
 have hroom:(1000:Nat)<=room:=by decide
 unfold D4;simp only
 have hb:A2 (w64 (((st++[(a:Int)]).length:Int)-1)) (st++[(a:Int)]).length:=by rw[topi (by omega)];exact Gj (by simp)
 rw[Ae hb]
 congr 1
 funext x
 cases x with
 | inr y=>obtain⟨R',T',st'⟩:=y;rfl
 | inl T'=>
  simp only[top (st:=st) (a:=(a:Int)) (by omega)];rw[topi (by omega),As,Ae (by rw[Tf];omega),Ae ⟨by omega,by simp⟩];have e:(st++[(a:Int)]).take st.length=st:=List.take_left' rfl;rw[e]
  cases st with
  | nil=>
   rw[if_pos rfl]
   have:decide ((0:Int)<(([]:List Int).length:Int))=false:=by decide
   rw[this,Aq,m_reverse _ (by simp;omega)];simp only[An];rw[Ae (by simp)]
  | cons b st'=>
   rw[if_neg (by simp)];have:decide ((0:Int)<((b::st').length:Int))=true:=Br (by simp<;>omega);rw[this,Ag]
theorem loopO_from{S X:Type}{f:S->Option (LR S X)}{a b:S}(h:f a=f b):Ah f a=Ah f b:=by
 cases hb:f b with
 | none=>rw[loopO_none (h.trans hb),loopO_none hb]
 | some r=>cases r with
  | done x=>rw[Ao (h.trans hb),Ao hb]
  | next s=>rw[Ax (h.trans hb),Ax hb]
theorem scopeO_from{S X:Type}{f:S->Option (LR S X)}{s:S}:P9 (f s) f=Ah f s:=by
 unfold P9
 cases hb:f s with
 | none=>rw[loopO_none hb];rfl
 | some r=>cases r with
  | done x=>rw[Ao hb];rfl
  | next s'=>rw[Ax hb];rfl
def sN(L:List (List Int))(k:Nat):List Nat:=(L.getD k []).map Int.toNat
def RelS(R:List Bool)(s:Nat->Bool):Prop:=∀ z,z<64->R.getD z false=s z
theorem Rx{α:Type}{d:α}{l:List α}{i:Nat}{x:α}{k:Nat}(hk:k<64):(Oa 64 d l i x).getD k d=if k=i then x else l.getD k d:=by
 rw[setN_getD hk]
 by_cases h:k=i
 ·subst h;simp
 ·have:Nat.beq k i=false:=by cases hb:Nat.beq k i with|false=>rfl|true=>exact absurd (Cb hb) h
  rw[this,if_neg h];rfl
theorem RelS.set{R:List Bool}{s:Nat->Bool}(h:RelS R s){y:Nat}:RelS (Oa 64 false R y true) (upd s y):=fun z hz=>by
 rw[Rx hz,h z hz]
 by_cases hzy:z=y
 ·simp[upd,hzy]
 ·simp[upd,hzy]
def Tm(o:List Nat):List Int:=o.map Int.ofNat
theorem order_main{g:TGraph}(hm:Lq g.Succ=true){s s':Nat->Bool}{l o:List Nat}(hv:VL (sN g.Succ) s l s' o) :
  ∀(R:List Bool) (T st Lf:List Int) (a t:Nat),RelS R s->a<g.Succ.length->l=(sN g.Succ a).drop t->T.getD a 0=(t:Int)->t<=(sN g.Succ a).length->s a=true->(∀ z,z<64->s z=false->T.getD z 0=0)->
   Lf.length+cnt 64 s+st.length+1<=64->
   ∃(R':List Bool) (T':List Int),RelS R' s'/\(∀ z,z<64->s' z=false->T'.getD z 0=0)/\(∀ z,z<64->s z=true->z≠a->T'.getD z 0=T.getD z 0)/\Lf.length+o.length+cnt 64 s'+st.length+1<=64 /\
    Ah (D4 g) (R,T,st++[(a:Int)],Lf)=if st=[] then some (Lf++Tm o++[(a:Int)]).reverse else Ah (D4 g) (R',T',st,Lf++Tm o++[(a:Int)]):=by
 obtain⟨hL1,hL64,hLok⟩:=mayS_iff.1 hm
 have hlenS:∀ a,(sN g.Succ a).length=(g.Succ.getD a []).length:=fun a=>by simp[sN]
 have hdrop:∀(a t y:Nat) (l':List Nat),a<g.Succ.length->y::l'=(sN g.Succ a).drop t->t<(g.Succ.getD a []).length/\(g.Succ.getD a []).getD t 0=(y:Int)/\y<g.Succ.length/\l'=(sN g.Succ a).drop (t+1):=fun a t y l' ha he=>by
  have ht:t<(sN g.Succ a).length:=by
   rcases zzL139 t (sN g.Succ a).length with h|h
   ·exact h
   ·rw[List.drop_eq_nil_of_le h]at he;cases he
  rw[Y3 ht]at he;simp only[D8]at he;obtain⟨h1,h2⟩:=he
  have ht':t<(g.Succ.getD a []).length:=by rw[<- hlenS];exact ht
  obtain⟨b0,b1⟩:=X6 (hLok a ha) ht'
  have h3:(sN g.Succ a)[t]=((g.Succ.getD a []).getD t 0).toNat:=by rw[Ai _ _ _ ht'];simp[sN]
  exact⟨ht',by omega,by omega,h2⟩
 induction hv with
 | nil s=>
  intro R T st Lf a t hR ha hl hT htl hsa hz hc
  have ht:t=(g.Succ.getD a []).length:=by
   have:=Cq List.length hl;simp at this;rw[hlenS]at htl this;omega
  refine⟨R,T,hR,hz,fun _ _ _ _=>rfl,by simpa using hc,?_⟩
  have hF:D4 g (R,T,st++[(a:Int)],Lf)=if st=[] then some (.done (Lf++[(a:Int)]).reverse) else some (.next (R,T,st,Lf++[(a:Int)])):=by
   rw[F3_eq (by omega) (by omega),Ao (L2_done (by omega) ha hL64 (by rw[hT,ht]))]
   rfl
  by_cases hst:st=[]
  ·rw[if_pos hst]at hF ⊢;rw[Ao hF];simp[Tm]
  ·rw[if_neg hst]at hF ⊢;rw[Ax hF];simp[Tm]
 | @skip s s' y l o h tl ih=>
  intro R T st Lf a t hR ha hl hT htl hsa hz hc;obtain⟨h1,h2,h3,h4⟩:=hdrop a t y l ha hl;have hb:=Zt (hLok a ha);have hs:=L2_step (g:=g) (R:=R) (st:=st) (T:=T) (a:=a) (t:=t) (y:=y) (by omega) ha hL64 hT h1 (by omega) h2 h3;rw[hR y (by omega),h,Ag]at hs;obtain⟨R',T',a1,a2,a3,a4,a5⟩:=ih R (Oa 64 (0:Int) T a ((t+1:Nat):Int)) st Lf a (t+1) hR ha h4 (by rw[Rx (by omega),if_pos rfl]) (by rw[hlenS];omega) hsa
   (fun z hz1 hz2=>by rw[Rx hz1,if_neg (by rintro rfl;rw[hsa]at hz2;cases hz2)];exact hz z hz1 hz2) hc
  refine⟨R',T',a1,a2,fun z hz1 hz2 hz3=>by rw[a3 z hz1 hz2 hz3,Rx hz1,if_neg hz3],a4,?_⟩;rw[<- a5]
  apply loopO_from
  rw[F3_eq (by omega) (by omega),F3_eq (by omega) (by omega),Ax hs]
 | @step s s1 s2 y l o1 o2 h tl tr ih1 ih2=>
  intro R T st Lf a t hR ha hl hT htl hsa hz hc;obtain⟨h1,h2,h3,h4⟩:=hdrop a t y l ha hl;have hb:=Zt (hLok a ha)
  have hay:y≠a:=by rintro rfl;rw[hsa]at h;cases h
  have hs:=L2_step (g:=g) (R:=R) (st:=st) (T:=T) (a:=a) (t:=t) (y:=y) (by omega) ha hL64 hT h1 (by omega) h2 h3;rw[hR y (by omega),h,Aq]at hs;have hcu:=Zj (n:=64) (show y<64 by omega) h
  have hF:D4 g (R,T,st++[(a:Int)],Lf)=some (.next (Oa 64 false R y true,Oa 64 (0:Int) T a ((t+1:Nat):Int),(st++[(a:Int)])++[(y:Int)],Lf)):=by
   rw[F3_eq (by omega) (by omega),Ao hs]
   rfl
  obtain⟨R1,T1,b1,b2,b3,b4,b5⟩:=ih1 (Oa 64 false R y true) (Oa 64 (0:Int) T a ((t+1:Nat):Int)) (st++[(a:Int)]) Lf y 0 hR.set h3 (by simp)
   (by rw[Rx (by omega),if_neg hay];exact hz y (by omega) h) (Rn _) (upd_true.2 (.inl rfl))
   (fun z hz1 hz2=>by
    obtain⟨c1,c2⟩:=upd_false.1 hz2;rw[Rx hz1,if_neg (by rintro rfl;rw[hsa]at c2;cases c2)]
    exact hz z hz1 c2) (by rw[Fp,Tf];omega)
  rw[if_neg (by simp)]at b5
  have hTa:T1.getD a 0=((t+1:Nat):Int):=by rw[b3 a (by omega) (upd_true.2 (.inr hsa)) (Ne.symm hay),Rx (by omega),if_pos rfl]
  rw[Fp,Tf]at b4;obtain⟨R2,T2,c1,c2,c3,c4,c5⟩:=ih2 R1 T1 st (Lf++Tm o1++[(y:Int)]) a (t+1) b1 ha h4 hTa (by rw[hlenS];omega) ((tl.seen a).2 (.inl (upd_true.2 (.inr hsa)))) b2
   (by simp only[Fp,Tf,Tm,Y6];omega)
  refine⟨R2,T2,c1,c2,fun z hz1 hz2 hz3=>?_,?_,?_⟩
  ·rw[c3 z hz1 ((tl.seen z).2 (.inl (upd_true.2 (.inr hz2)))) hz3,b3 z hz1 (upd_true.2 (.inr hz2)) (by rintro rfl;rw[h]at hz2;cases hz2),Rx hz1,if_neg hz3]
  ·simp only[Fp,Tf,Tm,Y6,Wo]at c4 ⊢;omega
  ·rw[Ax hF,b5,c5]
   have e:Lf++Tm o1++[(y:Int)]++Tm o2++[(a:Int)]=Lf++Tm (o1++y::o2)++[(a:Int)]:=by simp[Tm]
   rw[e]
theorem Wk{L:List (List Int)}(h:Lq L=true):∀ z,z<L.length->∀ y∈sN L z,y<L.length:=fun z hz y hy=>by
 obtain⟨_,_,h3⟩:=mayS_iff.1 h;obtain⟨x,hx,rfl⟩:=zzL27.1 hy;have:=okL_mem (h3 z hz) hx;omega
theorem cnt_one{r:Nat}(hr:r<64):cnt 64 (one r)=63:=by
 have h:=Zj (n:=64) (s:=fun _=>false) hr rfl
 have e:upd (fun _=>false) r=one r:=by funext z;simp[upd,one]
 rw[e]at h
 have:cnt 64 (fun _=>false)=64:=by decide
 omega
theorem Si{α:Type}{n z:Nat}{d:α}:(List.replicate n d).getD z d=d:=by rw[Ur,List.getElem?_replicate];split<;>rfl
theorem m_order(g:TGraph)(h:Fits g.Succ)(hP:True)(r:Int) :
  (Vg g=true->0<=r->r<(g.Succ.length:Int)->∀ L,Ord (sN g.Succ) r.toNat L->Ib g r=some (Tm L)) /\
  ((Vg g&&(decide (0<=r)&&decide (r<(g.Succ.length:Int))))=false->Ib g r=some []):=by
 refine⟨fun hm h0 h1 L hL=>?_,fun hf=>?_⟩
 ·have hms:Lq g.Succ=true:=by unfold Vg at hm;exact(A7 _ _▸hm).1
  obtain⟨hL1,hL64,hLok⟩:=mayS_iff.1 hms;obtain⟨s',o,hv,rfl⟩:=hL;have hrn:((r.toNat:Nat):Int)=r:=Pz h0
  have hr:r.toNat<g.Succ.length:=by omega
  obtain⟨R',T',_,_,_,_,hmain⟩:=order_main hms hv (Oa 64 false (List.replicate 64 false) r.toNat true) (List.replicate 64 (0:Int)) [] [] r.toNat 0
   (fun z hz=>by rw[Rx hz,Si];by_cases hzr:z=r.toNat<;>simp[one,hzr]) hr (by simp) Si (Rn _) (by simp[one])
   (fun z hz _=>Si) (by rw[cnt_one (by omega)];simp)
  rw[if_pos rfl,hrn]at hmain;unfold Ib;rw[m_may _ h,hm,An];simp only[Dd,Rk,Ag,Aq,Ud,Br h0,Br h1,zzL131,An];rw[Ae ⟨h0,by omega⟩];have hF:∀ X,Ah (D4 g) (Oa 64 false (List.replicate 64 false) r.toNat true,List.replicate 64 (0:Int),[]++[r],[])=some X->
    (P9 (D4 g (Oa 64 false (List.replicate 64 false) r.toNat true,List.replicate 64 (0:Int),[r],[])) (D4 g)).bind (fun x=>some x)=some X:=fun X hX=>by
   rw[scopeO_from];rw[Su]at hX;rw[hX];rfl
  refine(hF _ hmain).trans ?_;simp only[Su,List.reverse_append,Tm,C7,List.map_reverse,List.reverse_cons,List.reverse_nil]
  simp
  omega
 ·unfold Ib;rw[m_may _ h,An]
  cases hm:Vg g with
  | false=>rfl
  | true=>
   rw[hm,Fc]at hf;simp only[Dd,Rk,Ag,Aq,Ud,hf,An,Lh]
   rfl
def RelN(n:Nat)(R:List Bool)(s:Nat->Bool):Prop:=R.length=n/\∀ z,z<n->R.getD z false=s z
theorem RelN.set{n:Nat}{R:List Bool}{s:Nat->Bool}(h:RelN n R s){y:Nat}(hy:y<n):RelN n (R.set y true) (upd s y):=by
 refine⟨by rw[Hb];exact h.1,fun z hz=>?_⟩;rw[Ur,List.getElem?_set]
 by_cases hzy:y=z
 ·subst hzy;simp[upd,h.1,hy]
 ·rw[if_neg hzy,<- Ur,h.2 z hz];simp[upd,Ne.symm hzy]
theorem P5:∀(n:Nat) (l:List Nat),l.Nodup->(∀ x∈l,x<n)->l.length<=n
 | 0,l,_,h=>by
  cases l with
  | nil=>simp
  | cons x l=>have:=h x (zzL38 ..);omega
 | n+1,l,hd,h=>by
  by_cases hn:n∈l
  ·have h1:=P5 n (l.erase n) (hd.erase n) fun x hx=>by
    have h2:=(hd.mem_erase_iff).1 hx;have:=h x h2.2;have:=h2.1;omega
   rw[List.length_erase_of_mem hn]at h1;omega
  ·have h1:=P5 n l hd fun x hx=>by
    have:=h x hx
    have:x≠n:=by rintro rfl;exact hn hx
    omega
   omega
theorem sorted_ext:∀{a b:List Int},a.Pairwise (·<·)->b.Pairwise (·<·)->(∀ x,x∈a↔x∈b)->a=b
 | [],[],_,_,_=>rfl
 | [],y::b,_,_,h=>by have:=(h y).2 (zzL38 ..);cases this
 | x::a,[],_,_,h=>by have:=(h x).1 (zzL38 ..);cases this
 | x::a,y::b,ha,hb,h=>by
  have ha':=zzL106.1 ha;have hb':=zzL106.1 hb
  have hxy:x=y:=by
   rcases zzL28.1 ((h x).1 (zzL38 ..)) with h1|h1
   ·exact h1
   ·rcases zzL28.1 ((h y).2 (zzL38 ..)) with h2|h2
    ·exact h2.symm
    ·have:=ha'.1 y h2;have:=hb'.1 x h1;omega
  subst hxy
  congr 1
  refine sorted_ext ha'.2 hb'.2 fun z=>⟨fun hz=>?_,fun hz=>?_⟩
  ·rcases zzL28.1 ((h z).1 (zzL19 _ hz)) with rfl|h1
   ·have:=ha'.1 z hz;omega
   ·exact h1
  ·rcases zzL28.1 ((h z).2 (zzL19 _ hz)) with rfl|h1
   ·have:=hb'.1 z hz;omega
   ·exact h1
theorem filt_sorted(p:Nat->Bool)(n:Nat):(((List.range n).filter p).map Int.ofNat).Pairwise (·<·):=by
 rw[List.pairwise_map];have:=(List.pairwise_lt_range (n:=n)).filter p
 exact this.imp fun h=>by simpa using h
theorem mem_filt{p:Nat->Bool}{n:Nat}{x:Int}:x∈((List.range n).filter p).map Int.ofNat↔∃ k:Nat,x=(k:Int)/\k<n/\p k=true:=by
 simp only[zzL27,zzL72,zzL54]
 constructor
 ·rintro⟨k,⟨h1,h2⟩,rfl⟩;exact⟨k,rfl,h1,h2⟩
 ·rintro⟨k,rfl,h1,h2⟩;exact⟨k,⟨h1,h2⟩,rfl⟩
theorem goes_iff{L:List (List Int)}{k i:Nat}:Xy L k i=true↔(i:Int)∈L.getD k []:=by unfold Xy;rw[zzL68]
theorem bif_same{b:Bool}{α:Type}{x:α}:(bif b then x else x)=x:=by cases b<;>rfl
theorem mem_sN{L:List (List Int)}(h:Lq L=true){x y:Nat}(hx:x<L.length):y∈sN L x↔(y:Int)∈L.getD x []:=by
 obtain⟨_,_,h3⟩:=mayS_iff.1 h;unfold sN;rw[zzL27]
 constructor
 ·rintro⟨z,hz,rfl⟩;have:=okL_mem (h3 x hx) hz;rw[Pz this.1];exact hz
 ·intro hy;exact⟨_,hy,As y⟩
def mk(o:List Bool)(l:List Nat):List Bool:=l.foldl (fun o y=>o.set y true) o
theorem mk_len(l:List Nat):∀ o:List Bool,(mk o l).length=o.length:=by
 induction l with
 | nil=>intro o;rfl
 | cons y l ih=>intro o;show(mk (o.set y true) l).length=_;rw[ih,Hb]
theorem mk_at{n:Nat}(l:List Nat):∀(o:List Bool),o.length=n->(∀ y∈l,y<n)->∀ z,(mk o l).getD z false=true↔o.getD z false=true\/z∈l:=by
 induction l with
 | nil=>intro o _ _ z;simp[mk]
 | cons y l ih=>
  intro o ho hl z
  show(mk (o.set y true) l).getD z false=true↔_
  rw[ih (o.set y true) (by rw[Hb];exact ho) (fun u hu=>hl u (zzL19 _ hu)) z];have hy:=hl y (zzL38 ..)
  have e:(o.set y true).getD z false=true↔o.getD z false=true\/z=y:=by
   rw[Ur,List.getElem?_set,Ur]
   by_cases h:y=z
   ·subst h;simp[ho,hy]
   ·simp[h,Ne.symm h]
  rw[e,zzL28]
  constructor
  ·rintro((h|h)|h)
   ·exact .inl h
   ·exact .inr (.inl h)
   ·exact .inr (.inr h)
  ·rintro(h|h|h)
   ·exact .inl (.inl h)
   ·exact .inl (.inr h)
   ·exact .inr h
def sw(S:Nat->List Nat)(o:List Bool):Nat->List Bool
 | 0=>o
 | i+1=>if(sw S o i).getD i false=true then mk (sw S o i) (S i) else sw S o i
def rds(S:Nat->List Nat)(n:Nat)(o:List Bool):Nat->List Bool
 | 0=>o
 | j+1=>sw S (rds S n o j) n
section
variable {S:Nat->List Nat} {n:Nat} (hS:∀ z,z<n->∀ y∈S z,y<n)
theorem Ty(o:List Bool):∀ i,(sw S o i).length=o.length:=by
 intro i
 induction i with
 | zero=>rfl
 | succ i ih=>unfold sw;split;rw[mk_len,ih];exact ih
theorem Vx(o:List Bool):∀ j,(rds S n o j).length=o.length:=by
 intro j
 induction j with
 | zero=>rfl
 | succ j ih=>unfold rds;rw[Ty,ih]
include hS
theorem sw_mono{o:List Bool}(ho:o.length=n):∀ i,i<=n->∀ z,o.getD z false=true->(sw S o i).getD z false=true:=by
 intro i
 induction i with
 | zero=>intro _ z h;exact h
 | succ i ih=>
  intro hi z h;unfold sw
  split
  ·exact(mk_at (n:=n) _ _ (by rw[Ty];exact ho) (hS i (by omega)) z).2 (.inl (ih (by omega) z h))
  ·exact ih (by omega) z h
theorem sw_sound{o:List Bool}{r:Nat}(ho:o.length=n)(h:∀ z,o.getD z false=true->Rch S r z):∀ i,i<=n->∀ z,(sw S o i).getD z false=true->Rch S r z:=by
 intro i
 induction i with
 | zero=>intro _ z hz;exact h z hz
 | succ i ih=>
  intro hi z hz;unfold sw at hz
  split at hz
  ·rename_i hsi
   rcases(mk_at (n:=n) _ _ (by rw[Ty];exact ho) (hS i (by omega)) z).1 hz with h1|h1
   ·exact ih (by omega) z h1
   ·exact(ih (by omega) i hsi).tail h1
  ·exact ih (by omega) z hz
theorem sw_step{o:List Bool}(ho:o.length=n):∀ i,i<=n->∀ j,j<i->o.getD j false=true->∀ y∈S j,(sw S o i).getD y false=true:=by
 intro i
 induction i with
 | zero=>intro _ j hj;omega
 | succ i ih=>
  intro hi j hj hoj y hy;unfold sw
  by_cases hji:j=i
  ·subst hji;have h1:=sw_mono hS ho j (by omega) j hoj;rw[if_pos h1];exact(mk_at (n:=n) _ _ (by rw[Ty];exact ho) (hS j (by omega)) y).2 (.inr hy)
  ·have h1:=ih (by omega) j (by omega) hoj y hy
   split
   ·exact(mk_at (n:=n) _ _ (by rw[Ty];exact ho) (hS i (by omega)) y).2 (.inl h1)
   ·exact h1
theorem sw_closed{o:List Bool}(ho:o.length=n)(hc:∀ j,j<n->o.getD j false=true->∀ y∈S j,o.getD y false=true):∀ i,i<=n->∀ z,(sw S o i).getD z false=true->o.getD z false=true:=by
 intro i
 induction i with
 | zero=>intro _ z h;exact h
 | succ i ih=>
  intro hi z hz;unfold sw at hz
  split at hz
  ·rename_i hsi
   rcases(mk_at (n:=n) _ _ (by rw[Ty];exact ho) (hS i (by omega)) z).1 hz with h1|h1
   ·exact ih (by omega) z h1
   ·exact hc i (by omega) (ih (by omega) i hsi) z h1
  ·exact ih (by omega) z hz
theorem rds_spec{r:Nat}(hr:r<n)(z:Nat):(rds S n ((List.replicate n false).set r true) n).getD z false=true↔Rch S r z:=by
 let o0:=(List.replicate n false).set r true
 have ho0:o0.length=n:=by simp[o0]
 have hat0:∀ z,o0.getD z false=true↔z=r:=fun z=>by
  show((List.replicate n false).set r true).getD z false=true↔z=r
  rw[Ur,List.getElem?_set]
  by_cases h:r=z
  ·subst h;simp[hr]
  ·rw[if_neg h,<- Ur,Si];simp[Ne.symm h]
 have hlen:∀ j,(rds S n o0 j).length=n:=fun j=>by rw[Vx,ho0]
 have hsound:∀ j z,(rds S n o0 j).getD z false=true->Rch S r z:=by
  intro j
  induction j with
  | zero=>intro z hz;rw[(hat0 z).1 hz];exact .refl _
  | succ j ih=>intro z hz;exact sw_sound hS (hlen j) ih n (zzL9 _) z hz
 have hmono:∀ j,∀ z,o0.getD z false=true->(rds S n o0 j).getD z false=true:=by
  intro j
  induction j with
  | zero=>intro z h;exact h
  | succ j ih=>intro z h;exact sw_mono hS (hlen j) n (zzL9 _) z (ih z h)
 let C:Nat->Prop:=fun j=>∀ i,i<n->(rds S n o0 j).getD i false=true->∀ y∈S i,(rds S n o0 j).getD y false=true
 have key:∀ j,C j\/cnt n (fun z=>(rds S n o0 j).getD z false)+j+1<=n:=by
  intro j
  induction j with
  | zero=>
   refine .inr ?_;have h1:=Zj (n:=n) (s:=fun _=>false) hr rfl
   have e:upd (fun _=>false) r=fun z=>(rds S n o0 0).getD z false:=by
    funext z
    rw[Me,upd_true]
    show _↔o0.getD z false=true
    rw[hat0]
    simp
   rw[e]at h1
   have hcl:cnt n (fun _=>false)=n:=by
    unfold cnt;rw[List.filter_eq_self.2 (by simp)]
    simp
   omega
  | succ j ih=>
   by_cases hc:C j
   ·refine .inl fun i hi h y hy=>?_;have h1:=sw_closed hS (hlen j) hc n (zzL9 _) i h;exact sw_mono hS (hlen j) n (zzL9 _) y (hc i hi h1 y hy)
   ·rcases ih with ih|ih
    ·exact(hc ih).elim
    ·refine .inr ?_
     have hex:∃ i,i<n/\(rds S n o0 j).getD i false=true/\∃ y,y∈S i/\(rds S n o0 j).getD y false=false:=by
      simp only[C]at hc;simp only[Classical.not_forall]at hc;obtain⟨i,hi,h1,y,hy,h2⟩:=hc;exact⟨i,hi,h1,y,hy,by simpa using h2⟩
     obtain⟨i,hi,h1,y,hy,h2⟩:=hex;have h3:=sw_step hS (hlen j) n (zzL9 _) i hi h1 y hy;have hyn:=hS i hi y hy;have h4:=Zj (n:=n) (s:=fun z=>(rds S n o0 j).getD z false) hyn h2
     have h5:cnt n (fun z=>(rds S n o0 (j+1)).getD z false)<=cnt n (upd (fun z=>(rds S n o0 j).getD z false) y):=cnt_mono fun z hz=>by
      rcases upd_true.1 hz with rfl|hz
      ·exact h3
      ·exact sw_mono hS (hlen j) n (zzL9 _) z hz
     omega
 have hC:C n:=by
  rcases key n with h|h
  ·exact h
  ·omega
 constructor
 ·exact hsound n z
 ·intro hrch
  have hlt:∀ x z,Rch S x z->x<n->z<n/\((rds S n o0 n).getD x false=true->(rds S n o0 n).getD z false=true):=by
   intro x z hxz
   induction hxz with
   | refl x=>exact fun hx=>⟨hx,id⟩
   | @head x y z hy _ ih=>
    intro hx;have:=ih (hS x hx y hy);exact⟨this.1,fun h=>this.2 (hC x hx h y hy)⟩
  exact(hlt r z hrch hr).2 (hmono n r ((hat0 r).2 rfl))
end
theorem m_reach{L:List (List Int)}(hm:Lq L=true){r:Nat}(hr:r<L.length) :
  C6 (Ja L) (r:Int) (-1:Int)=some (rds (sN L) L.length ((List.replicate L.length false).set r true) L.length):=by
 obtain⟨h1,h2,h3⟩:=mayS_iff.1 hm
 have hroom:(1000:Nat)<=room:=by decide
 have hS:=Wk hm;have hgs:(Ja L).Succ=L:=rfl
 have hlenS:∀ a,(sN L a).length=(L.getD a []).length:=fun a=>by simp[sN]
 have hin:∀(o:List Bool) (i:Nat),o.length=L.length->i<L.length->Ah (A1 (Ja L) (-1) (i:Int)) ((0:Int),o)=some (if o.getD i false=true then mk o (sN L i) else o):=fun o i ho hi=>by
  have hb:=Zt (h3 i hi)
  by_cases hoi:o.getD i false=true
  ·rw[if_pos hoi];have hmi:∀ k,(mk o ((sN L i).take k)).getD i false=true:=fun k=>(mk_at (n:=L.length) _ _ ho (fun y hy=>hS i hi y (List.mem_of_mem_take hy)) i).2 (.inl hoi)
   have hml:∀ k,(mk o ((sN L i).take k)).length=L.length:=fun k=>by rw[mk_len,ho]
   refine Fy (A1 (Ja L) (-1) (i:Int)) (fun k=>(((k:Nat):Int),mk o ((sN L i).take k))) _ (L.getD i []).length (fun k hk=>?_) ?_
   ·show A1 (Ja L) (-1) (i:Int) (_,_)=_
    unfold A1;obtain⟨a0,a1⟩:=X6 (h3 i hi) hk;simp only[hgs,As,hmi];rw[Ae (Gj (by rw[hml];exact hi)),Mc (Gj hi),Ag,Cy hk,Ag,Ae (Gj hi),Ae (Gj hk)]
    have hne:((L.getD i []).getD k 0 !=(-1:Int))=true:=by rw[zzL100];omega
    rw[hne,Ag,Ae (Gj hi),Ae (Gj hk),Ae ⟨a0,by rw[hml];exact a1⟩,w1 (by omega)]
    have e:mk o ((sN L i).take (k+1))=(mk o ((sN L i).take k)).set ((L.getD i []).getD k 0).toNat true:=by
     have hk':k<(sN L i).length:=by rw[hlenS];exact hk
     rw[zzL85 hk'];unfold mk;rw[List.foldl_append]
     have:(sN L i)[k]=((L.getD i []).getD k 0).toNat:=by rw[Ai _ _ _ hk];simp[sN]
     rw[this]
     rfl
    rw[e]
    rfl
   ·show A1 (Ja L) (-1) (i:Int) (_,_)=_
    unfold A1;simp only[hgs,As,hmi];rw[Ae (Gj (by rw[hml];exact hi)),Mc (Gj hi),Ag,Fo,Aq]
    have:(sN L i).take (L.getD i []).length=sN L i:=by rw[<- hlenS];exact zzL91 ..
    rw[this]
  ·have hof:o.getD i false=false:=by simpa using hoi
   rw[if_neg hoi]
   apply Ao
   unfold A1;simp only[hgs,As,hof];rw[Ae (Gj (by rw[ho];exact hi)),Mc (Gj hi),Aq,Aq]
 have hsw:∀ o:List Bool,o.length=L.length->Ah (A4 (Ja L) (-1)) ((0:Int),o)=some (sw (sN L) o L.length):=fun o ho=>by
  refine Fy (A4 (Ja L) (-1)) (fun i=>(((i:Nat):Int),sw (sN L) o i)) _ L.length (fun i hi=>?_) ?_
  ·show A4 (Ja L) (-1) (_,_)=_
   unfold A4
   have hl:(sw (sN L) o i).length=L.length:=by rw[Ty,ho]
   simp only[hl,Cy hi,Ag];rw[hin _ i hl hi,w1 (by omega)]
   rfl
  ·show A4 (Ja L) (-1) (_,_)=_
   unfold A4
   have hl:(sw (sN L) o L.length).length=L.length:=by rw[Ty,ho]
   simp only[hl,Fo,Aq]
 unfold C6;simp only[hgs,As];rw[Ae ⟨by omega,Int.le_refl _,by omega⟩]
 have hne:((r:Int)==(-1:Int))=false:=by rw[zzL32];omega
 rw[hne,Aq,Ae (Gj (by simpa using hr))]
 have hl0:((List.replicate L.length false).set r true).length=L.length:=by simp
 have:Ah (A5 (Ja L) (-1)) ((0:Int),(List.replicate L.length false).set r true)=some (rds (sN L) L.length ((List.replicate L.length false).set r true) L.length):=by
  refine Fy (A5 (Ja L) (-1)) (fun j=>(((j:Nat):Int),rds (sN L) L.length ((List.replicate L.length false).set r true) j)) _ L.length (fun j hj=>?_) ?_
  ·show A5 (Ja L) (-1) (_,_)=_
   unfold A5
   have hl:(rds (sN L) L.length ((List.replicate L.length false).set r true) j).length=L.length:=by rw[Vx,hl0]
   simp only[hl,Cy hj,Ag];rw[hsw _ hl,w1 (by omega)]
   rfl
  ·show A5 (Ja L) (-1) (_,_)=_
   unfold A5
   have hl:(rds (sN L) L.length ((List.replicate L.length false).set r true) L.length).length=L.length:=by rw[Vx,hl0]
   simp only[hl,Fo,Aq]
 rw[this]
 rfl
def pos:List Nat->Nat->Nat
 | [],_=>0
 | x::l,z=>if x=z then 0 else pos l z+1
theorem pos_cons(x:Nat)(l:List Nat)(z:Nat):pos (x::l) z=if x=z then 0 else pos l z+1:=rfl
theorem pos_app{A l:List Nat}{z:Nat}(h:z∉A):pos (A++l) z=A.length+pos l z:=by
 induction A with
 | nil=>simp
 | cons x A ih=>
  have h1:x≠z:=fun e=>h (by rw[e];exact zzL38 ..);have h2:z∉A:=fun e=>h (zzL19 _ e);rw[zzL92,pos_cons,if_neg h1,ih h2,Wo];omega
theorem pos_get{P:List Nat}(hd:P.Nodup){i:Nat}(hi:i<P.length):P[i]∉P.take i/\pos P P[i]=i:=by
 have e:P=P.take i++P[i]::P.drop (i+1):=by rw[<- Y3 hi,List.take_append_drop]
 have hn:P[i]∉P.take i:=by
  rw[e]at hd;have:=(List.nodup_append.1 hd).2.2;exact fun hm=>this _ hm _ (zzL38 ..) rfl
 refine⟨hn,?_⟩
 have h2:pos (P.take i++P[i]::P.drop (i+1)) P[i]=i:=by
  rw[pos_app hn]
  have:pos (P[i]::P.drop (i+1)) P[i]=0:=by rw[pos_cons,if_pos rfl]
  rw[this,zzL83];omega
 rw[<- e]at h2;exact h2
theorem all_succ{n:Nat}{p:Nat->Bool}:(List.range (n+1)).all p=((List.range n).all p&&p n):=by
 rw[Y8,List.all_append];simp
theorem compact_inv(d:Array Int)(hs:∀ i j,i<=j->j<d.size->d[i]!<=d[j]!):∀ m,m<=d.size->(∀ x∈Lib.compactUpTo d m,∃ j,j<m/\x=d[j]!)/\(∀ j,j<m->d[j]!∈Lib.compactUpTo d m)/\(Lib.compactUpTo d m).Pairwise (·<·):=by
 intro m
 induction m with
 | zero=>intro _;exact⟨(fun x hx=>by simp[Lib.compactUpTo]at hx),(fun j hj=>by omega),by simp[Lib.compactUpTo]⟩
 | succ m ih=>
  intro hm;obtain⟨h1,h2,h3⟩:=ih (by omega);rw[Lib.compactUpTo_succ]
  cases hk:Lib.keeps d m with
  | true=>
   rw[if_pos rfl];refine⟨fun x hx=>?_,fun j hj=>?_,?_⟩
   ·rcases zzL18.1 hx with h|h
    ·obtain⟨j,hj,he⟩:=h1 x h;exact⟨j,by omega,he⟩
    ·exact⟨m,by omega,by simpa using h⟩
   ·by_cases hjm:j=m
    ·subst hjm;simp
    ·exact zzL18.2 (.inl (h2 j (by omega)))
   ·rw[zzL130];refine⟨h3,List.pairwise_singleton _ _,fun x hx y hy=>?_⟩;obtain⟨j,hj,rfl⟩:=h1 x hx
    have hy':y=d[m]!:=by simpa using hy
    subst hy'
    have hk':m=0\/d[m]!≠d[m-1]!:=by simpa [Lib.keeps] using hk
    rcases hk' with h0|h0
    ·omega
    ·have a1:=hs j (m-1) (by omega) (by omega);have a2:=hs (m-1) m (by omega) (by omega);omega
  | false=>
   have hk':m≠0/\d[m]! = d[m-1]!:=by
    have:¬ (m=0\/d[m]!≠d[m-1]!):=by
     intro h
     have:Lib.keeps d m=true:=by simpa [Lib.keeps] using h
     rw[hk]at this;cases this
    exact⟨fun h=>this (.inl h),Classical.not_not.1 fun h=>this (.inr h)⟩
   simp only[zzL103,G4,List.append_nil];refine⟨fun x hx=>by obtain⟨j,hj,he⟩:=h1 x hx;exact⟨j,by omega,he⟩,fun j hj=>?_,h3⟩
   by_cases hjm:j=m
   ·subst hjm;rw[hk'.2];exact h2 _ (by omega)
   ·exact h2 j (by omega)
def riseL(l:List Int):List Int:=Lib.compact (l.mergeSort fun x y=>decide (x<=y))
theorem Zw(l:List Int):(riseL l).Pairwise (·<·)/\∀ x,x∈riseL l↔x∈l:=by
 unfold riseL Lib.compact;have hp:(l.mergeSort fun x y=>decide (x<=y)).Pairwise (fun a b=>decide (a<=b)=true):=List.pairwise_mergeSort (fun a b c h1 h2=>by simp at *;omega) (fun a b=>by simp;omega) l;have hm:∀ x,x∈(l.mergeSort fun x y=>decide (x<=y))↔x∈l:=fun x=>List.mem_mergeSort
 generalize l.mergeSort (fun x y=>decide (x<=y))=z at hp hm ⊢
 have hz:∀ j,j<z.length->z.toArray[j]! = z.getD j 0:=fun j hj=>by simp[List.getD,hj]
 obtain⟨h1,h2,h3⟩:=compact_inv z.toArray (fun i j hij hj=>by
  have hj':j<z.length:=by simpa using hj
  rw[hz i (by omega),hz j hj']
  by_cases he:i=j
  ·rw[he];exact Int.le_refl _
  ·have:=(List.pairwise_iff_getElem.1 hp) i j (by omega) hj' (by omega);rw[Ai _ _ _ (by omega),Ai _ _ _ hj']
   simpa using this) z.length (by simp)
 refine⟨h3,fun x=>?_⟩;rw[<- hm x]
 constructor
 ·intro hx;obtain⟨j,hj,rfl⟩:=h1 x hx;rw[hz j hj];exact Aw hj
 ·intro hx;obtain⟨j,hj,rfl⟩:=Py hx;have:=h2 j hj;rwa[hz j hj,Ai _ _ _ hj]at this
def toB(n:Nat)(l:List Int):Bool:=(List.range l.length).all fun i=>decide (0<l.getD i 0)&&decide (l.getD i 0<(n:Int))
def Yx(k:Int):Int:=([0,1,2,0]:List Int).getD k.toNat 0
def kindB(e:Lz):Bool:=(decide (0<=e.Kind)&&decide (e.Kind<=3))&&decide ((e.To.length:Int)=Yx e.Kind)
def Np(e:Lz)(n:Nat):Bool:=kindB e&&toB n e.To
theorem toB_iff{n:Nat}{l:List Int}:toB n l=true↔∀ x∈l,0<x/\x<n:=by
 unfold toB;rw[all_range];simp only[A7,F9]
 constructor
 ·intro h x hx;obtain⟨i,hi,rfl⟩:=Py hx;have:=h i hi;rwa[Ai _ _ _ hi]at this
 ·intro h i hi;exact h _ (Aw hi)
theorem end_loop(e:Lz)(n:Nat)(hl:e.To.length<4611686018427387904):Ah (C2 e (n:Int)) (0:Int)=some (bif toB n e.To then .inl () else .inr false):=by
 have step:∀ j:Nat,j<e.To.length->C2 e (n:Int) (j:Int)=bif (decide (0<e.To.getD j 0)&&decide (e.To.getD j 0<(n:Int))) then some (.next (((j+1:Nat):Int))) else some (.done (.inr false)):=fun j hj=>by
  unfold C2;simp only[As,Cy hj,Ag,Ud,w1 (show j<4611686018427387904 by omega)];rw[Ae (Gj hj)]
  by_cases h0:e.To.getD j 0=0
  ·rw[h0];rfl
  ·have:(e.To.getD j 0==0)=false:=by rw[zzL32];exact h0
   rw[this];simp only[Rk,Ag,Aq,An]
   have e1:decide (0<e.To.getD j 0)=decide (0<=e.To.getD j 0):=by apply zzL61.2;omega
   rw[e1]
   cases(decide (0<=e.To.getD j 0)&&decide (e.To.getD j 0<(n:Int)))<;>rfl
 have:=Iz (C2 e (n:Int)) (fun j=>((j:Nat):Int)) (fun i=>decide (0<e.To.getD i 0)&&decide (e.To.getD i 0<(n:Int))) (.inl ()) (.inr false) e.To.length (fun j hj hp=>?_) (fun j hj hp=>?_) ?_
 ·exact this
 ·show C2 e (n:Int) (j:Int)=_
  rw[step j hj,hp];rfl
 ·show C2 e (n:Int) (j:Int)=_
  rw[step j hj,hp];rfl
 ·show C2 e (n:Int) _=_
  unfold C2;simp only[Fo,Aq]
theorem end_tail(e:Lz)(n:Nat)(w:Int)(hw:0<=w/\w<=2) :
  (bif ((e.To.length:Int)!=w) then(some false) else((Ah (C2 e (n:Int)) (0:Int)).bind (fun x10=>(match x10 with|(.inl _)=>(some true)|(.inr r12)=>(some r12)))))=some (decide ((e.To.length:Int)=w)&&toB n e.To):=by
 by_cases h:(e.To.length:Int)=w
 ·rw[show((e.To.length:Int)!=w)=false by simpa using h,Aq,end_loop e n (by omega),Br h]
  cases toB n e.To<;>rfl
 ·rw[show((e.To.length:Int)!=w)=true by simpa using h,Ag,Cj h];rfl
theorem m_endFits(e:Lz)(n:Nat):L4 e (n:Int)=some (Np e n):=by
 unfold L4 Np kindB
 by_cases h0:e.Kind=0
 ·rw[h0];exact end_tail e n 0 (by omega)
 by_cases h1:e.Kind=1
 ·rw[h1];exact end_tail e n 1 (by omega)
 by_cases h2:e.Kind=2
 ·rw[h2];exact end_tail e n 2 (by omega)
 by_cases h3:e.Kind=3
 ·rw[h3];exact end_tail e n 0 (by omega)
 have e0:(e.Kind==0)=false:=by rw[zzL32];exact h0
 have e1:(e.Kind==1)=false:=by rw[zzL32];exact h1
 have e2:(e.Kind==2)=false:=by rw[zzL32];exact h2
 have e3:(e.Kind==3)=false:=by rw[zzL32];exact h3
 rw[e0,e1,e2,e3]
 have:(decide (0<=e.Kind)&&decide (e.Kind<=3))=false:=by
  by_cases h:0<=e.Kind
  ·rw[Cj (show ¬ e.Kind<=3 by omega)];simp
  ·rw[Cj h];rfl
 rw[this]
 rfl
theorem fits_len{e:Lz}{n:Nat}(h:Np e n=true):e.To.length<=2:=by
 unfold Np kindB at h;simp only[A7,F9]at h;obtain⟨⟨⟨h0,h1⟩,h2⟩,_⟩:=h
 have:Yx e.Kind<=2:=by
  have:e.Kind=0\/e.Kind=1\/e.Kind=2\/e.Kind=3:=by omega
  rcases this with h|h|h|h<;>rw[h]<;>decide
 omega
theorem fits_to{e:Lz}{n:Nat}(h:Np e n=true):toB n e.To=true:=by unfold Np at h;exact(A7 _ _▸h).2
def Bm(f:TFunc)(i:Nat):Lz:=(f.Blocks.getD i (default:Ad)).End
def Bf(f:TFunc):List (List Int):=(List.range f.Blocks.length).map fun i=>riseL (Bm f i).To
def Lx(f:TFunc):Bool:=(decide (1<=f.Blocks.length)&&decide (f.Blocks.length<=64))&&(List.range f.Blocks.length).all fun i=>Np (Bm f i) f.Blocks.length
theorem shape_iff{f:TFunc}:Lx f=true↔(1<=f.Blocks.length/\f.Blocks.length<=64)/\∀ i,i<f.Blocks.length->Np (Bm f i) f.Blocks.length=true:=by
 unfold Lx;rw[A7,A7,all_range];simp only[F9]
theorem rise_ok{f:TFunc}{i:Nat}(h:Np (Bm f i) f.Blocks.length=true):okL f.Blocks.length (riseL (Bm f i).To)=true:=by
 obtain⟨h1,h2⟩:=Zw (Bm f i).To;exact okL_of (fun x hx=>by have:=(toB_iff.1 (fits_to h)) x ((h2 x).1 hx);omega) h1
theorem Pi{f:TFunc}(h:Lx f=true):Lq (Bf f)=true:=by
 obtain⟨⟨h1,h2⟩,h3⟩:=shape_iff.1 h
 have hl:(Bf f).length=f.Blocks.length:=by simp[Bf]
 refine mayS_iff.2 ⟨by omega,by omega,fun i hi=>?_⟩;rw[hl]at hi ⊢;unfold Bf;rw[Qg hi];exact rise_ok (h3 i hi)
theorem m_of(f:TFunc)(hf:f.Blocks.length<=maxLen):P4 f=some (bif Lx f then(Ja (Bf f),0) else(g0,5)):=by
 have hroom:(1000:Nat)<=room:=by decide
 unfold P4;rw[m_isCount,An];have hsh:Lx f=((decide (1<=f.Blocks.length)&&decide (f.Blocks.length<=64))&&(List.range f.Blocks.length).all fun i=>Np (Bm f i) f.Blocks.length):=rfl
 cases hc:(decide (1<=f.Blocks.length)&&decide (f.Blocks.length<=64)) with
 | false=>rw[hsh,hc];rfl
 | true=>
  have hc':=hc;simp only[A7,F9]at hc';simp only[Dd,Aq];rw[Ae ⟨by omega,Int.le_refl _,by omega⟩,As]
  let U:Nat->List (List Int):=fun i=>(List.range f.Blocks.length).map fun j=>if j<i then riseL (Bm f j).To else[]
  have e0:List.replicate f.Blocks.length ([]:List Int)=U 0:=by
   simp only[U]
   apply List.ext_getElem?
   intro j
   by_cases hj:j<f.Blocks.length<;>simp[hj,List.getElem?_replicate]
  have eN:U f.Blocks.length=Bf f:=by
   simp only[U,Bf]
   apply Hv
   intro j hj;rw[if_pos hj]
  rw[e0]
  have hstep:∀ i:Nat,i<f.Blocks.length->G7 f ((i:Int),U i)=bif Np (Bm f i) f.Blocks.length then some (.next (((i+1:Nat):Int),U (i+1))) else some (.done (.inr (g0,5))):=fun i hi=>by
   unfold G7;simp only[Cy hi,Ag,As];rw[Ae (Gj hi)];have he:(⟨(f.Blocks.getD i (default:Ad)).End.Kind,(f.Blocks.getD i (default:Ad)).End.Arg,(f.Blocks.getD i (default:Ad)).End.To⟩:Lz)=Bm f i:=rfl;rw[he,m_endFits,An]
   cases hfit:Np (Bm f i) f.Blocks.length with
   | false=>rfl
   | true=>
    have hl2:=fits_len hfit;simp only[Dd,Aq,Ag]
    have hx:x_rising (f.Blocks.getD i (default:Ad)).End.To=some (riseL (Bm f i).To):=by
     unfold x_rising;rw[isoI_eq,Ae (by show(Bm f i).To.length<=_;omega)]
     rfl
    rw[hx,An,Ae (Gj (by simp[U];omega)),w1 (by omega)]
    congr 3
    simp only[U];rw[Ys]
    apply Hv
    intro j hj
    by_cases h1:j=i
    ·subst h1;rw[if_pos rfl,if_pos (by omega)]
    ·rw[if_neg h1]
     by_cases h2:j<i
     ·rw[if_pos h2,if_pos (by omega)]
     ·rw[if_neg h2,if_neg (by omega)]
  have:=Iz (G7 f) (fun i=>(((i:Nat):Int),U i)) (fun i=>Np (Bm f i) f.Blocks.length) (.inl (U f.Blocks.length)) (.inr (g0,5)) f.Blocks.length (fun i hi hp=>?_) (fun i hi hp=>?_) ?_
  ·rw[show Ah (G7 f) ((0:Int),U 0)=_ from this,hsh,hc,eN,Fc]
   cases hall:(List.range f.Blocks.length).all fun i=>Np (Bm f i) f.Blocks.length with
   | false=>rfl
   | true=>
    simp only[Ag,An];rw[m_comers _ (Pi (by rw[hsh,hc,hall];rfl))]
    rfl
  ·show G7 f (_,_)=_
   rw[hstep i hi,hp];rfl
  ·show G7 f (_,_)=_
   rw[hstep i hi,hp];rfl
  ·show G7 f (_,_)=_
   unfold G7;simp only[Fo,Aq]
def refL(l:List Int)(k:Nat):List Int:=((List.range k).filter fun z:Nat=>decide (1<=z)&&l.contains (z:Int)).map Int.ofNat
theorem ref_rise{n:Nat}{l:List Int}(h:toB n l=true):refL l n=riseL l:=by
 obtain⟨h1,h2⟩:=Zw l;refine sorted_ext (filt_sorted _ _) h1 fun x=>?_;rw[h2 x];unfold refL;rw[mem_filt]
 constructor
 ·rintro⟨k,rfl,_,hk⟩;simp only[A7]at hk;exact zzL68.1 hk.2
 ·intro hx;have:=(toB_iff.1 h) x hx;refine⟨x.toNat,by omega,by omega,?_⟩;rw[Pz (by omega),zzL68.2 hx,Br (by omega)]
  rfl
theorem ref_of_L1(f:TFunc)(i:Nat)(hl:(Bm f i).To.length<4611686018427387904):Ah (Cc f (i:Int)) (0:Int)=some (bif toB f.Blocks.length (Bm f i).To then .inl () else .inr (g0,5)):=by
 have hE:(f.Blocks.getD i (default:Ad)).End=Bm f i:=rfl
 have step:∀ j:Nat,j<(Bm f i).To.length->Cc f (i:Int) (j:Int)=bif (decide (0<(Bm f i).To.getD j 0)&&decide ((Bm f i).To.getD j 0<(f.Blocks.length:Int))) then some (.next (((j+1:Nat):Int))) else some (.done (.inr (g0,5))):=fun j hj=>by
  unfold Cc;simp only[As,hE,Cy hj,Ag,w1 (show j<4611686018427387904 by omega)];rw[Ae (Gj hj),Mc (Gj hj)]
  by_cases h0:(Bm f i).To.getD j 0<=0
  ·rw[Br h0,Cj (show ¬ 0<(Bm f i).To.getD j 0 by omega)];rfl
  ·rw[Cj h0,Br (show 0<(Bm f i).To.getD j 0 by omega)]
   by_cases h1:(f.Blocks.length:Int)<=(Bm f i).To.getD j 0
   ·rw[Br h1,Cj (show ¬ (Bm f i).To.getD j 0<(f.Blocks.length:Int) by omega)];rfl
   ·rw[Cj h1,Br (show(Bm f i).To.getD j 0<(f.Blocks.length:Int) by omega)];rfl
 have:=Iz (Cc f (i:Int)) (fun j=>((j:Nat):Int)) (fun k=>decide (0<(Bm f i).To.getD k 0)&&decide ((Bm f i).To.getD k 0<(f.Blocks.length:Int))) (.inl ()) (.inr (g0,5)) (Bm f i).To.length (fun j hj hp=>?_) (fun j hj hp=>?_) ?_
 ·exact this
 ·show Cc f (i:Int) (j:Int)=_
  rw[step j hj,hp];rfl
 ·show Cc f (i:Int) (j:Int)=_
  rw[step j hj,hp];rfl
 ·show Cc f (i:Int) _=_
  unfold Cc;simp only[As,hE,Fo,Aq]
theorem ref_of_L2(f:TFunc)(i:Nat)(hn:1<=f.Blocks.length/\f.Blocks.length<=64)(hl:(Bm f i).To.length<4611686018427387904):Ah (Cd f (i:Int)) (([]:List Int),(1:Int))=some (refL (Bm f i).To f.Blocks.length):=by
 have hroom:(1000:Nat)<=room:=by decide
 have hE:(f.Blocks.getD i (default:Ad)).End=Bm f i:=rfl
 have e0:refL (Bm f i).To 1=[]:=by unfold refL;simp
 have key:=Fy (Cd f (i:Int)) (fun k=>(refL (Bm f i).To (k+1),((k+1:Nat):Int))) (refL (Bm f i).To f.Blocks.length) (f.Blocks.length-1) (fun k hk=>?_) ?_
 ·rw[show Ah (Cd f (i:Int)) (([]:List Int),(1:Int))=Ah (Cd f (i:Int)) (refL (Bm f i).To 1,(1:Int)) by rw[e0]];exact key
 ·show Cd f (i:Int) (_,_)=_
  unfold Cd
  have hlen:(refL (Bm f i).To (k+1)).length<=k+1:=by
   unfold refL;rw[Y6];have:=List.length_filter_le (fun z:Nat=>decide (1<=z)&&(Bm f i).To.contains ((z:Nat):Int)) (List.range (k+1))
   simpa using this
  simp only[As,hE,Cy (show k+1<f.Blocks.length by omega),Ag];rw[m_has _ _ hl,An,w1 (by omega)]
  have hs:refL (Bm f i).To (k+1+1)=refL (Bm f i).To (k+1)++(if(Bm f i).To.contains (((k+1:Nat)):Int)=true then[((k+1:Nat):Int)] else[]):=by
   unfold refL;rw[Y8,zzL119,Y0]
   congr 1
   cases hg:(Bm f i).To.contains (((k+1:Nat)):Int) with
   | true=>rw[List.filter_cons,hg];simp
   | false=>rw[List.filter_cons,hg];simp
  rw[hs]
  cases hg:(Bm f i).To.contains (((k+1:Nat)):Int) with
  | true=>
   rw[Ag,Ae (by rw[Tf];omega)]
   rfl
  | false=>rw[Aq];simp
 ·show Cd f (i:Int) (_,_)=_
  unfold Cd;simp only[show f.Blocks.length-1+1=f.Blocks.length by omega,Fo,Aq]
theorem m_ref_of(f:TFunc)(hf:f.Blocks.length<=maxLen):Gn f=some (bif Lx f then(Ja (Bf f),0) else(g0,5)):=by
 have hroom:(1000:Nat)<=room:=by decide
 unfold Gn
 have hc:(bif ((f.Blocks.length:Int)==(0:Int)) then true else decide ((64:Int)<(f.Blocks.length:Int))) = !(decide (1<=f.Blocks.length)&&decide (f.Blocks.length<=64)):=by
  by_cases h0:f.Blocks.length=0
  ·rw[h0];rfl
  ·rw[show((f.Blocks.length:Int)==0)=false by simp only[zzL32];omega,Br (show 1<=f.Blocks.length by omega)]
   by_cases h1:f.Blocks.length<=64
   ·rw[Br h1,Cj (show ¬ (64:Int)<(f.Blocks.length:Int) by omega)];rfl
   ·rw[Cj h1,Br (show(64:Int)<(f.Blocks.length:Int) by omega)];rfl
 rw[hc];have hsh:Lx f=((decide (1<=f.Blocks.length)&&decide (f.Blocks.length<=64))&&(List.range f.Blocks.length).all fun i=>Np (Bm f i) f.Blocks.length):=rfl
 cases hb:(decide (1<=f.Blocks.length)&&decide (f.Blocks.length<=64)) with
 | false=>rw[hsh,hb];rfl
 | true=>
  have hb':=hb;simp only[A7,F9]at hb';simp only[Dd,Aq]
  let U:Nat->List (List Int):=fun i=>(List.range i).map fun j=>refL (Bm f j).To f.Blocks.length
  have hstep:∀ i:Nat,i<f.Blocks.length->Ce f (U i,(i:Int))=bif Np (Bm f i) f.Blocks.length then some (.next (U (i+1),((i+1:Nat):Int))) else some (.done (.inr (g0,5))):=fun i hi=>by
   unfold Ce;have hE:(f.Blocks.getD i (default:Ad)).End=Bm f i:=rfl;simp only[Cy hi,Ag,As,hE];rw[Ae (Gj hi),w1 (by omega)]
   by_cases hk:0<=(Bm f i).Kind/\(Bm f i).Kind<=3
   ·rw[Cj (show ¬ (Bm f i).Kind<0 by omega),Cj (show ¬ (3:Int)<(Bm f i).Kind by omega)];simp only[Aq];rw[Mc (show A2 (Bm f i).Kind ([(0:Int),1,2,0]:List Int).length from⟨hk.1,by show(Bm f i).Kind<4;omega⟩)];have hw:([(0:Int),1,2,0]:List Int).getD (Bm f i).Kind.toNat 0=Yx (Bm f i).Kind:=rfl;rw[hw]
    have hkb:kindB (Bm f i)=decide (((Bm f i).To.length:Int)=Yx (Bm f i).Kind):=by
     unfold kindB;rw[Br hk.1,Br hk.2];rfl
    unfold Np;rw[hkb]
    by_cases hl:((Bm f i).To.length:Int)=Yx (Bm f i).Kind
    ·have hw2:Yx (Bm f i).Kind<=2:=by
      have:(Bm f i).Kind=0\/(Bm f i).Kind=1\/(Bm f i).Kind=2\/(Bm f i).Kind=3:=by omega
      rcases this with h|h|h|h<;>rw[h]<;>decide
     rw[show(((Bm f i).To.length:Int)!=Yx (Bm f i).Kind)=false by simpa using hl,Br hl,Aq,ref_of_L1 f i (by omega),Fc]
     cases htb:toB f.Blocks.length (Bm f i).To with
     | false=>rfl
     | true=>
      simp only[Ag,An];rw[ref_of_L2 f i hb' (by omega)];simp only[An];rw[Ae (by simp only[U,Y6,zzL111,Tf];omega)]
      congr 3
      simp only[U];rw[Y8,Y0]
      rfl
    ·rw[show(((Bm f i).To.length:Int)!=Yx (Bm f i).Kind)=true by simpa using hl,Cj hl];rfl
   ·have hbad:(bif decide ((Bm f i).Kind<0) then true else decide ((3:Int)<(Bm f i).Kind))=true:=by
     by_cases h0:(Bm f i).Kind<0
     ·rw[Br h0];rfl
     ·rw[Cj h0,Br (show(3:Int)<(Bm f i).Kind by omega)];rfl
    have hkb:kindB (Bm f i)=false:=by
     unfold kindB
     by_cases h0:0<=(Bm f i).Kind
     ·rw[Cj (show ¬ (Bm f i).Kind<=3 by omega)];simp
     ·rw[Cj h0];simp
    simp only[hbad];rw[Ae (by intro h;cases h)];unfold Np;rw[hkb]
    rfl
  have:=Iz (Ce f) (fun i=>(U i,((i:Nat):Int))) (fun i=>Np (Bm f i) f.Blocks.length) (.inl (U f.Blocks.length)) (.inr (g0,5)) f.Blocks.length (fun i hi hp=>?_) (fun i hi hp=>?_) ?_
  ·rw[show Ah (Ce f) (([]:List (List Int)),(0:Int))=_ from this,hsh,hb,Fc]
   cases hall:(List.range f.Blocks.length).all fun i=>Np (Bm f i) f.Blocks.length with
   | false=>rfl
   | true=>
    have hshape:Lx f=true:=by rw[hsh,hb,hall];rfl
    have hm:=Pi hshape
    have hU:U f.Blocks.length=Bf f:=by
     simp only[U,Bf]
     apply Hv
     intro j hj;exact ref_rise (fits_to ((shape_iff.1 hshape).2 j hj))
    simp only[Ag,An];rw[hU,m_ref_make _ (Sn (R0 hm)),hm]
    rfl
  ·show Ce f (_,_)=_
   rw[hstep i hi,hp];rfl
  ·show Ce f (_,_)=_
   rw[hstep i hi,hp];rfl
  ·show Ce f (_,_)=_
   unfold Ce;simp only[Fo,Aq]
inductive Rc (S:Nat->List Nat) (r:Nat):Nat->Prop
 | root:Rc S r r
 | step {x y:Nat} (h:Rc S r x) (hy:y∈S x):Rc S r y
inductive Av (S:Nat->List Nat) (r z:Nat):Nat->Prop
 | root (h:r≠z):Av S r z r
 | step {x y:Nat} (h:Av S r z x) (hy:y∈S x) (hz:y≠z):Av S r z y
inductive AvN (S:Nat->List Nat) (r z:Nat):Nat->Nat->Prop
 | root (h:r≠z) (k:Nat):AvN S r z k r
 | step {k x y:Nat} (h:AvN S r z k x) (hy:y∈S x) (hz:y≠z):AvN S r z (k+1) y
section
variable {S:Nat->List Nat} {r:Nat}
theorem rc_iff{x:Nat}:Rc S r x↔Rch S r x:=by
 constructor
 ·intro h
  induction h with
  | root=>exact .refl _
  | step _ hy ih=>exact ih.tail hy
 ·intro h
  have key:∀ a b,Rch S a b->Rc S r a->Rc S r b:=by
   intro a b hab
   induction hab with
   | refl x=>exact id
   | head hy _ ih=>exact fun ha=>ih (.step ha hy)
  exact key _ _ h .root
def wo(S:Nat->List Nat)(z:Nat):Nat->List Nat:=fun x=>(S x).filter fun y=>decide (y≠z)
theorem av_iff{z x:Nat}:Av S r z x↔r≠z/\Rch (wo S z) r x:=by
 constructor
 ·intro h
  induction h with
  | root h=>exact⟨h,.refl _⟩
  | step _ hy hz ih=>exact⟨ih.1,ih.2.tail (zzL72.2 ⟨hy,by simpa using hz⟩)⟩
 ·rintro⟨hr,h⟩
  have key:∀ a b,Rch (wo S z) a b->Av S r z a->Av S r z b:=by
   intro a b hab
   induction hab with
   | refl x=>exact id
   | head hy _ ih=>
    obtain⟨h1,h2⟩:=zzL72.1 hy;exact fun ha=>ih (.step ha h1 (by simpa using h2))
  exact key _ _ h (.root hr)
theorem Av.rc{z x:Nat}(h:Av S r z x):Rc S r x:=by
 induction h with
 | root _=>exact .root
 | step _ hy _ ih=>exact .step ih hy
theorem Av.ne{z x:Nat}(h:Av S r z x):x≠z:=by
 cases h with
 | root h=>exact h
 | step _ _ hz=>exact hz
theorem AvN.av{z k x:Nat}(h:AvN S r z k x):Av S r z x:=by
 induction h with
 | root h=>exact .root h
 | step _ hy hz ih=>exact .step ih hy hz
theorem AvN.up{z k x:Nat}(h:AvN S r z k x):AvN S r z (k+1) x:=by
 induction h with
 | root h k=>exact .root h _
 | step _ hy hz ih=>exact .step ih hy hz
theorem AvN.mono{z k m x:Nat}(h:AvN S r z k x)(hm:k<=m):AvN S r z m x:=by
 obtain⟨d,rfl⟩:=Nat.exists_eq_add_of_le hm;clear hm
 induction d with
 | zero=>exact h
 | succ d ih=>exact ih.up
theorem Av.avn{z x:Nat}(h:Av S r z x):∃ k,AvN S r z k x:=by
 induction h with
 | root h=>exact⟨0,.root h 0⟩
 | step _ hy hz ih=>obtain⟨k,hk⟩:=ih;exact⟨k+1,.step hk hy hz⟩
theorem AvN.via {z k x : Nat} (h : AvN S r z k x) (y : Nat) : AvN S r y k x ∨ AvN S r z k y := by
  induction h with
  | root h k => by_cases hy : r = y
                · subst hy; exact .inr (.root h _)
                · exact .inl (.root hy _)
  | @step k x w h hy hz ih =>
    rcases ih with h1 | h1
    · by_cases hw : w = y
      · subst hw; exact .inr (.step h hy hz)
      · exact .inl (.step h1 hy hw)
    · exact .inr h1.up
theorem avn_bound(n:Nat):∃ K,∀ z,z<n->∀ x,x<n->Av S r z x->AvN S r z K x:=by
 have one:∀ z m,∃ K,∀ x,x<m->Av S r z x->AvN S r z K x:=by
  intro z m
  induction m with
  | zero=>exact⟨0,fun x hx=>absurd hx (Rl x)⟩
  | succ m ih=>
   obtain⟨K,hK⟩:=ih
   by_cases h:Av S r z m
   ·obtain⟨k,hk⟩:=h.avn;refine⟨max K k,fun x hx ha=>?_⟩;rcases zzL123.1 hx with h1|rfl
    ·exact(hK x h1 ha).mono (Nat.le_max_left ..)
    ·exact hk.mono (Nat.le_max_right ..)
   ·refine⟨K,fun x hx ha=>?_⟩;rcases zzL123.1 hx with h1|rfl
    ·exact hK x h1 ha
    ·exact absurd ha h
 have two:∀ m,∃ K,∀ z,z<m->∀ x,x<n->Av S r z x->AvN S r z K x:=by
  intro m
  induction m with
  | zero=>exact⟨0,fun x hx=>absurd hx (Rl x)⟩
  | succ m ih=>
   obtain⟨K,hK⟩:=ih;obtain⟨k,hk⟩:=one m n;refine⟨max K k,fun z hz x hx ha=>?_⟩;rcases zzL123.1 hz with h1|rfl
   ·exact(hK z h1 x hx ha).mono (Nat.le_max_left ..)
   ·exact(hk x hx ha).mono (Nat.le_max_right ..)
 exact two n
end
inductive UpTo (par:Nat->Int):Nat->Nat->Prop
 | refl (x:Nat):UpTo par x x
 | up {x y z:Nat} (h:par x=(y:Int)) (t:UpTo par y z):UpTo par x z
inductive Fw (S:Nat->List Nat) (at_:Nat->Nat) (u:Nat):Nat->Prop
 | refl:Fw S at_ u u
 | step {v w:Nat} (h:Fw S at_ u v) (hw:w∈S v) (hl:at_ v<at_ w):Fw S at_ u w
section
variable {S:Nat->List Nat} {at_:Nat->Nat} {par:Nat->Int}
theorem Fw.le{u w:Nat}(h:Fw S at_ u w):at_ u<=at_ w:=by
 induction h with
 | refl=>exact zzL9 _
 | step _ _ hl ih=>omega
theorem Fw.trans{u v w:Nat}(h:Fw S at_ u v)(k:Fw S at_ v w):Fw S at_ u w:=by
 induction k with
 | refl=>exact h
 | step _ hw hl ih=>exact .step ih hw hl
theorem Fw.av{r d u w:Nat}(h:Fw S at_ u w)(ha:Av S r d u)(hd:at_ d<at_ u):Av S r d w:=by
 induction h with
 | refl=>exact ha
 | @step v w h hw hl ih=>exact .step ih hw (by rintro rfl;have:=h.le;omega)
theorem UpTo.trans{x y z:Nat}(h:UpTo par x y)(k:UpTo par y z):UpTo par x z:=by
 induction h with
 | refl x=>exact k
 | up h _ ih=>exact .up h (ih k)
theorem anc_up{x p z:Nat}(h:par x=(p:Int)):UpTo par x z↔z=x\/UpTo par p z:=by
 constructor
 ·intro k
  cases k with
  | refl=>exact .inl rfl
  | up h' t=>rw[h]at h';cases Tz h';exact .inr t
 ·rintro(rfl|k)
  ·exact .refl _
  ·exact .up h k
theorem anc_top{x z:Nat}(h:∀ p:Nat,par x≠(p:Int)):UpTo par x z↔z=x:=by
 constructor
 ·intro k
  cases k with
  | refl=>rfl
  | up h' t=>exact absurd h' (h _)
 ·rintro rfl;exact .refl _
structure Inv(S:Nat->List Nat)(r n:Nat)(at_:Nat->Nat)(par:Nat->Int):Prop where
 top:par r = -1
 kind:∀ x,x<n->par x = -2\/x=r\/∃ z:Nat,par x=(z:Int)
 up:∀ x,x<n->∀ z:Nat,par x=(z:Int)->z<n/\par z≠-2/\at_ z<at_ x/\Fw S at_ z x
 rc:∀ x,x<n->par x≠-2->Rc S r x
 all:∀ x,x<n->par x≠-2->∀ d,¬ UpTo par x d->Av S r d x
end
section
variable {S:Nat->List Nat} {at_:Nat->Nat} {par:Nat->Int} {r n:Nat}
theorem Inv.anc(h:Inv S r n at_ par){x z:Nat}(k:UpTo par x z)(hx:x<n)(hp:par x≠-2):z<n/\par z≠-2/\at_ z<=at_ x/\Fw S at_ z x:=by
 induction k with
 | refl x=>exact⟨hx,hp,zzL9 _,.refl⟩
 | @up x y z hxy t ih=>
  obtain⟨h1,h2,h3,h4⟩:=h.up x hx y hxy;obtain⟨i1,i2,i3,i4⟩:=ih h1 h2;exact⟨i1,i2,by omega,i4.trans h4⟩
theorem Inv.root_anc(h:Inv S r n at_ par){z:Nat}:UpTo par r z↔z=r:=anc_top fun p hp=>by rw[h.top]at hp;omega
theorem Inv.strict(h:Inv S r n at_ par){x z:Nat}(k:UpTo par x z)(hx:x<n)(hp:par x≠-2):z=x\/at_ z<at_ x:=by
 cases k with
 | refl=>exact .inl rfl
 | up hxy t=>
  obtain⟨h1,h2,h3,h4⟩:=h.up x hx _ hxy;obtain⟨i1,i2,i3,i4⟩:=h.anc t h1 h2;exact .inr (by omega)
theorem Inv.antisymm(h:Inv S r n at_ par){x z:Nat}(k:UpTo par x z)(m:UpTo par z x)(hx:x<n)(hp:par x≠-2):z=x:=by
 rcases h.strict k hx hp with rfl|h1
 ·rfl
 ·obtain⟨i1,i2,i3,i4⟩:=h.anc k hx hp;have:=(h.anc m i1 i2).2.2.1;omega
def MeetAt(par:Nat->Int)(a b m:Nat):Prop:=∀ w,UpTo par m w↔UpTo par a w/\UpTo par b w
theorem meet_self{a:Nat}:MeetAt par a a a:=fun w=>by simp
theorem meet_swap{a b m:Nat}(h:MeetAt par a b m):MeetAt par b a m:=fun w=>by rw[h w];exact And.comm
theorem Inv.meet_left(h:Inv S r n at_ par)(hinj:∀ x y,x<n->y<n->par x≠-2->par y≠-2->at_ x=at_ y->x=y){a b p m:Nat}(ha:a<n)(hpa:par a≠-2)(hb:b<n)(hpb:par b≠-2)(hab:a≠b)(hl:at_ b<=at_ a)(hp:par a=(p:Int))(k:MeetAt par p b m):MeetAt par a b m:=fun w=>by
 rw[k w]
 constructor
 ·rintro⟨h1,h2⟩;exact⟨.up hp h1,h2⟩
 ·rintro⟨h1,h2⟩;rcases(anc_up hp).1 h1 with rfl|h1
  ·exfalso
   rcases h.strict h2 hb hpb with h3|h3
   ·exact hab h3
   ·omega
  ·exact⟨h1,h2⟩
end
section
variable {S:Nat->List Nat} {at_:Nat->Nat} {par:Nat->Int} {r n:Nat}
def Pl(par:Nat->Int)(y:Nat)(v:Int):Nat->Int:=fun x=>if x=y then v else par x
def Best(S:Nat->List Nat)(n:Nat)(par:Nat->Int)(y z:Nat):Prop:=∀ w,UpTo par z w↔∀ p,p<n->y∈S p->par p≠-2->UpTo par p w
theorem anc_upd_far{y:Nat}{v:Int}{x z:Nat}(k:UpTo par x z)(hy:¬ UpTo par x y):UpTo (Pl par y v) x z:=by
 induction k with
 | refl x=>exact .refl _
 | @up x q z h t ih=>
  have hxy:x≠y:=by rintro rfl;exact hy (.refl _)
  refine .up (y:=q) ?_ (ih fun k=>hy (.up h k));unfold Pl;rw[if_neg hxy];exact h
theorem anc_upd_low{y:Nat}{v:Int}{x:Nat}(k:UpTo par x y):UpTo (Pl par y v) x y:=by
 induction k with
 | refl x=>exact .refl _
 | @up x q z h t ih=>
  by_cases hxy:x=z
  ·subst hxy;exact .refl _
  ·refine .up (y:=q) ?_ ih;unfold Pl;rw[if_neg hxy];exact h
theorem anc_upd_inv{y:Nat}{v:Int}{x w:Nat}(k:UpTo (Pl par y v) x w):UpTo par x w\/(UpTo par x y/\UpTo (Pl par y v) y w):=by
 induction k with
 | refl x=>exact .inl (.refl _)
 | @up x q w h t ih=>
  by_cases hxy:x=y
  ·subst hxy;exact .inr ⟨.refl _,.up h t⟩
  ·unfold Pl at h;rw[if_neg hxy]at h;rcases ih with h1|⟨h1,h2⟩
   ·exact .inl (.up h h1)
   ·exact .inr ⟨.up h h1,h2⟩
theorem low_or{y:Nat}{v:Int}{x d:Nat}(k:UpTo par x y)(hd:UpTo par x d):UpTo par y d\/UpTo (Pl par y v) x d:=by
 induction k with
 | refl x=>exact .inl hd
 | @up x q y hq t ih=>
  by_cases e:x=y
  ·subst e;exact .inl hd
  ·rcases(anc_up hq).1 hd with rfl|k
   ·exact .inr (.refl _)
   ·rcases ih k with h1|h1
    ·exact .inl h1
    ·exact .inr (.up (y:=q) (by unfold Pl;rw[if_neg e];exact hq) h1)
structure Better(S:Nat->List Nat)(r n:Nat)(at_:Nat->Nat)(par:Nat->Int)(y z:Nat):Prop where
 inv:Inv S r n at_ par
 hy:y<n
 hr:y≠r
 hz:z<n
 best:Best S n par y z
 fwd:∃ p,p<n/\y∈S p/\par p≠-2/\at_ p<at_ y
variable {y z:Nat}
theorem Better.zlt(h:Better S r n at_ par y z):UpTo par z z/\par z≠-2/\at_ z<at_ y/\Fw S at_ z y:=by
 obtain⟨p,hp,hyp,hpp,hl⟩:=h.fwd;obtain⟨h1,h2,h3,h4⟩:=h.inv.anc ((h.best z).1 (.refl _) p hp hyp hpp) hp hpp;exact⟨.refl _,h2,by omega,.step h4 hyp hl⟩
theorem Better.above(h:Better S r n at_ par y z){w:Nat}:UpTo (Pl par y z) z w↔UpTo par z w:=by
 obtain⟨_,h2,h3,_⟩:=h.zlt
 have hn:¬ UpTo par z y:=fun k=>by have:=(h.inv.anc k h.hz h2).2.2.1;omega
 constructor
 ·intro k;rcases anc_upd_inv k with h1|⟨h1,_⟩
  ·exact h1
  ·exact absurd h1 hn
 ·intro k;exact anc_upd_far k hn
theorem Better.here(h:Better S r n at_ par y z){w:Nat}:UpTo (Pl par y z) y w↔w=y\/UpTo par z w:=by
 rw[anc_up (p:=z) (by simp[Pl]),h.above]
theorem Better.av_here(h:Better S r n at_ par y z){d:Nat}(hd:¬ UpTo (Pl par y z) y d):Av S r d y:=by
 rw[h.here]at hd;have h1:¬ ∀ p,p<n->y∈S p->par p≠-2->UpTo par p d:=fun hh=>hd (.inr ((h.best d).2 hh));simp only[Classical.not_forall]at h1;obtain⟨p,hp,hyp,hpp,hnp⟩:=h1;exact .step (h.inv.all p hp hpp d hnp) hyp fun e=>hd (.inl e.symm)
theorem Better.inv'(h:Better S r n at_ par y z):Inv S r n at_ (Pl par y z):=by
 obtain⟨hzz,hz2,hzl,hzf⟩:=h.zlt;obtain⟨p,hp,hyp,hpp,hl⟩:=h.fwd
 have hne:∀ x,Pl par y z x≠-2->x=y\/par x≠-2:=fun x hx=>by
  by_cases e:x=y
  ·exact .inl e
  ·unfold Pl at hx;rw[if_neg e]at hx;exact .inr hx
 have hyv:Pl par y z y=(z:Int):=by simp[Pl]
 have hyo:∀ x,x≠y->Pl par y z x=par x:=fun x e=>by unfold Pl;rw[if_neg e]
 refine⟨by rw[hyo _ (Ne.symm h.hr)];exact h.inv.top,fun x hx=>?_,fun x hx w hw=>?_,fun x hx hxp=>?_,fun x hx hxp d hd=>?_⟩
 ·by_cases e:x=y
  ·subst e;exact .inr (.inr ⟨z,hyv⟩)
  ·rw[hyo x e];exact h.inv.kind x hx
 ·have hzn:∀ w,par w≠-2->Pl par y z w≠-2:=fun w hw=>by
   by_cases e:w=y
   ·subst e;rw[hyv];omega
   ·rw[hyo w e];exact hw
  by_cases e:x=y
  ·subst e;rw[hyv]at hw
   cases Tz hw
   exact⟨h.hz,hzn _ hz2,hzl,hzf⟩
  ·rw[hyo x e]at hw;obtain⟨h1,h2,h3,h4⟩:=h.inv.up x hx w hw;exact⟨h1,hzn _ h2,h3,h4⟩
 ·rcases hne x hxp with rfl|h1
  ·exact .step (h.inv.rc p hp hpp) hyp
  ·exact h.inv.rc x hx h1
 ·by_cases e:x=y
  ·subst e;exact h.av_here hd
  ·rw[hyo x e]at hxp
   by_cases hxd:UpTo par x d
   ·
    by_cases hxy:UpTo par x y
    ·have hyd:¬ UpTo (Pl par y z) y d:=fun k=>hd ((anc_upd_low hxy).trans k);have hav:=h.av_here hyd;have hf:=(h.inv.anc hxy hx hxp).2.2.2
     have hdy:UpTo par y d:=by
      rcases low_or (v:=(z:Int)) hxy hxd with h1|h1
      ·exact h1
      ·exact absurd h1 hd
     by_cases hpy:par y = -2
     ·
      have:d=y:=by
       refine(anc_top (par:=par) fun p hp=>?_).1 hdy;rw[hpy]at hp;omega
      subst this;exact absurd (.refl _) hyd
     ·rcases h.inv.strict hdy h.hy hpy with rfl|hlt
      ·exact absurd (.refl _) hyd
      ·exact hf.av hav hlt
    ·exact absurd (anc_upd_far hxd hxy) hd
   ·exact h.inv.all x hx hxp d hxd
end
end
end Go.Proofs.YtmkiepobhjiabaaGreat
