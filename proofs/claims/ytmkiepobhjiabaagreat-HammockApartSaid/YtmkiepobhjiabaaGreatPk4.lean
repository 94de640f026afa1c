/-
  The machine, the program's functions and the laws' arithmetic: part 4 of 5.
-/
import Derived.Test.YtmkiepobhjiabaaGreatPk3
import Derived.Lib.RowBridge
import Derived.OpenShut
import Derived.ShutString
set_option linter.unusedVariables false
set_option linter.unusedSimpArgs false
namespace Go.Proofs.YtmkiepobhjiabaaGreat
noncomputable section
open Go Go.RowKit
set_option maxRecDepth 100000
set_option maxHeartbeats 2000000
def B3(aY:Int)(aK:Ac):(Int×List Int×Int×List Ac×Int×List Int×List Ak×List (Int×Ad))->Option (LR (Int×List Int×Int×List Ac×Int×List Int×List Ak×List (Int×Ad)) ((List Int×Int×List Ac×Int×List Int×List Ak×List (Int×Ad)) ⊕ (Bool×TFunc×Int×List Int×List Ak×List (Int×Ad)))):=
 fun((i1,l2,i3,l4,i5,l6,l7,l8):(Int×List Int×Int×List Ac×Int×List Int×List Ak×List (Int×Ad)))=>(bif (decide (i1<(aK.Phis.length:Int))) then(B1 (Bd i1 aK.Phis.length) ((C0 ((aK.Phis.getD i1.toNat default).Bits)).bind fun x17=>((Dm ((aK.Phis.getD i1.toNat default).Dst) x17 (⟨aY,(-1:Int)⟩:F2) (⟨l2,i3,l4⟩:TFunc) i5 l6 l8 l7).bind fun x18=>(bif (!x18.1) then(some (.done (.inr (false,x18.2.1,x18.2.2.1,x18.2.2.2.1,x18.2.2.2.2.1,x18.2.2.2.2.2)))) else(some (.next ((A9 (i1+1)),x18.2.1.Params,x18.2.1.Ret,x18.2.1.Blocks,x18.2.2.1,x18.2.2.2.1,x18.2.2.2.2.1,x18.2.2.2.2.2))))))) else(some (.done (.inl (l2,i3,l4,i5,l6,l7,l8)))))
def Bl(aY:Int)(aK:Ac):(Int×List Int×Int×List Ac×Int×List Int×List Ak×List (Int×Ad))->Option (LR (Int×List Int×Int×List Ac×Int×List Int×List Ak×List (Int×Ad)) ((List Int×Int×List Ac×Int×List Int×List Ak×List (Int×Ad)) ⊕ (Bool×TFunc×Int×List Int×List Ak×List (Int×Ad)))):=
 fun((i21,l22,i23,l24,i25,l26,l27,l28):(Int×List Int×Int×List Ac×Int×List Int×List Ak×List (Int×Ad)))=>(bif (decide (i21<(aK.Ops.length:Int))) then(B1 (Bd i21 aK.Ops.length) ((I8 (aK.Ops.getD i21.toNat default)).bind fun x37=>((bif ((decide (((0:Int):Int)<x37.1))==true) then Dm ((aK.Ops.getD i21.toNat default).Dst) (x37.1,x37.2) (⟨aY,i21⟩:F2) (⟨l22,i23,l24⟩:TFunc) i25 l26 l28 l27 else some (false,(default:TFunc),(0:Int),[],[],[])).bind fun x38=>(bif (bif (decide (((0:Int):Int)<x37.1)) then(!x38.1) else false) then(some (.done (.inr (false,(⟨(bif ((decide (((0:Int):Int)<x37.1))==true) then x38.2.1.Params else l22),(bif ((decide (((0:Int):Int)<x37.1))==true) then x38.2.1.Ret else i23),(bif ((decide (((0:Int):Int)<x37.1))==true) then x38.2.1.Blocks else l24)⟩:TFunc),(bif ((decide (((0:Int):Int)<x37.1))==true) then x38.2.2.1 else i25),(bif ((decide (((0:Int):Int)<x37.1))==true) then x38.2.2.2.1 else l26),(bif ((decide (((0:Int):Int)<x37.1))==true) then x38.2.2.2.2.1 else l27),(bif ((decide (((0:Int):Int)<x37.1))==true) then x38.2.2.2.2.2 else l28))))) else(some (.next ((A9 (i21+1)),(bif ((decide (((0:Int):Int)<x37.1))==true) then x38.2.1.Params else l22),(bif ((decide (((0:Int):Int)<x37.1))==true) then x38.2.1.Ret else i23),(bif ((decide (((0:Int):Int)<x37.1))==true) then x38.2.1.Blocks else l24),(bif ((decide (((0:Int):Int)<x37.1))==true) then x38.2.2.1 else i25),(bif ((decide (((0:Int):Int)<x37.1))==true) then x38.2.2.2.1 else l26),(bif ((decide (((0:Int):Int)<x37.1))==true) then x38.2.2.2.2.1 else l27),(bif ((decide (((0:Int):Int)<x37.1))==true) then x38.2.2.2.2.2 else l28)))))))) else(some (.done (.inl (l22,i23,l24,i25,l26,l27,l28)))))
def Jf(Γ:G7)(aY:Int)(aK:Ac)(a2:TFunc)(a7:Int)(a8:List Int)(a6:List (Int×Ad))(a4:List Ak)(r:(Bool×TFunc×Int×List Int×List Ak×List (Int×Ad))):Exit->St->Prop:=fK Tryz.prog Γ Tryz.f113.results.toList [(Z1 a2.Params a2.Ret a2.Blocks a7 a8 9100005 a4),(Z8 a4.length),(9100005,.obj (.map true .i64 (C6 (fun(v_:Ad)=>((Pb v_):AV)) a6)))] (.bool r.1) [(Z1 r.2.1.Params r.2.1.Ret r.2.1.Blocks r.2.2.1 r.2.2.2.1 9100005 r.2.2.2.2.1),(Z8 r.2.2.2.2.1.length),(9100005,.obj (.map true .i64 (C6 (fun(v_:Ad)=>((Pb v_):AV)) r.2.2.2.2.2)))]
def Zb(x37:(Int×Int)):=((decide (((0:Int):Int)<x37.1))==true)
def Q85:=(fun(v_:Ad)=>((Pb v_):AV))
def Q88(x37:(Int×Int))(x38:(Bool×TFunc×Int×List Int×List Ak×List (Int×Ad)))(l26:List Int):AV:=(Z10 (Zb x37) x38.2.2.2.1 l26)
def Q89(x37:(Int×Int))(x38:(Bool×TFunc×Int×List Int×List Ak×List (Int×Ad)))(l24:List Ac):AV:=(Z33 (Zb x37) x38.2.1.Blocks l24)
def Q87(x37:(Int×Int))(x38:(Bool×TFunc×Int×List Int×List Ak×List (Int×Ad)))(l22:List Int):AV:=(Z10 (Zb x37) x38.2.1.Params l22)
def Dq(aY:Int)(aK:Ac)(a2:TFunc)(a7:Int)(a8:List Int)(a6:List (Int×Ad))(a4:List Ak):Option (Bool×TFunc×Int×List Int×List Ak×List (Int×Ad)):=
 ((Am (B3 aY aK) ((0:Int),a2.Params,a2.Ret,a2.Blocks,a7,a8,a4,a6)).bind (fun x19=>(match x19 with|(.inl (l9,i10,l11,i12,l13,l14,l15))=>((Am (Bl aY aK) ((0:Int),l9,i10,l11,i12,l13,l14,l15)).bind (fun x39=>(match x39 with|(.inl (l29,i30,l31,i32,l33,l34,l35))=>(some (true,(⟨l29,i30,l31⟩:TFunc),i32,l33,l34,l35))|(.inr r41)=>(some r41))))|(.inr r42)=>(some r42))))
theorem M4(aY:Int)(aK:Ac)(a2:TFunc)(a7:Int)(a8:List Int)(a6:List (Int×Ad))(a4:List Ak)(r:(Bool×TFunc×Int×List Int×List Ak×List (Int×Ad)))(h:Dq aY aK a2 a7 a8 a6 a4=some r):Spec Tryz.prog 113 [Z35,(Z7 aY),(.agg (Fp aK))] [(Z1 a2.Params a2.Ret a2.Blocks a7 a8 9100005 a4),(Z8 a4.length),(9100005,.obj (.map true .i64 (C6 (fun(v_:Ad)=>((Pb v_):AV)) a6)))] (.bool r.1) [(Z1 r.2.1.Params r.2.1.Ret r.2.1.Blocks r.2.2.1 r.2.2.2.1 9100005 r.2.2.2.2.1),(Z8 r.2.2.2.2.1.length),(9100005,.obj (.map true .i64 (C6 (fun(v_:Ad)=>((Pb v_):AV)) r.2.2.2.2.2)))]:=by
 refine Ab mix Tryz.func113 (fun Γ hq=>?_);unfold Dq at h;refine Aj hq zzN109 Yx ?_;refine Aj hq zzN79 Yx ?_;obtain⟨x19,hx19,h⟩:=bind_some h;refine gL hq hx19 zzN79 Yx (fun u (i1,l2,i3,l4,i5,l6,l7,l8)=>(Gn u [(16,(Z7 i1))] [(Z1 l2 i3 l4 i5 l6 9100005 l7),(Z8 l7.length),(9100005,.obj (.map true .i64 (C6 Q85 l8)))])) (fun u x_=>match x_ with|(.inl (l9,i10,l11,i12,l13,l14,l15))=>aG Γ (.exit 0) (Xk zzN109 Yx u [] [(Z1 l9 i10 l11 i12 l13 9100005 l14),(Z8 l14.length),(9100005,.obj (.map true .i64 (C6 Q85 l15)))])|(.inr r_)=>aR (Jf Γ aY aK a2 a7 a8 a6 a4 r_)) ?_ ?_
 ·rintro⟨i1,l2,i3,l4,i5,l6,l7,l8⟩ y h;unfold B3 at h;refine Aj hq [0,1,5,14,15,16,17] Yx ?_;refine gC h ?_ ?_<;>intro h
  ·obtain⟨hc16,h⟩:=Aa h;refine gR hq [0,1,5,8,14,15,16] [5,8,30000,37006,9100005] [] [] (c1 hc16) ?_;obtain⟨x17,hx17,h⟩:=bind_some h;obtain⟨x18,hx18,h⟩:=bind_some h;refine gR hq [0,1,5,14,15,16,29] Yx [] [(Z43 x17),⟨Tn,[],(.bool x18.1),[(Z1 x18.2.1.Params x18.2.1.Ret x18.2.1.Blocks x18.2.2.1 x18.2.2.2.1 9100005 x18.2.2.2.2.1),(Z8 x18.2.2.2.2.1.length),(9100005,.obj (.map true .i64 (C6 Q85 x18.2.2.2.2.2)))],[],[]⟩] (ci (H8 ((aK.Phis.getD i1.toNat default).Bits) x17 hx17) (c1 (J9 ((aK.Phis.getD i1.toNat default).Dst) x17 (⟨aY,(-1:Int)⟩:F2) (⟨l2,i3,l4⟩:TFunc) i5 l6 l8 l7 x18 hx18))) ?_;refine gC h ?_ ?_<;>intro h
   ·refine Aj hq [6] Fy ?_;cases h;exact gO (Ol (K1 Tn (Le.refl _ _)))
   ·refine Aj hq zzN79 Yx ?_;cases h;exact gN F6
  ·cases h;exact gO (Em (Er zzN109 Yx hq))
 ·clear hx19;rcases x19 with⟨l9,i10,l11,i12,l13,l14,l15⟩|r42
  ·refine gA ?_;refine Aj hq zzN91 Fy ?_;obtain⟨x39,hx39,h⟩:=bind_some h;refine gL hq hx39 zzN91 Fy (fun u (i21,l22,i23,l24,i25,l26,l27,l28)=>(Gn u [(34,(Z7 i21))] [(Z1 l22 i23 l24 i25 l26 9100005 l27),(Z8 l27.length),(9100005,.obj (.map true .i64 (C6 Q85 l28)))])) (fun u x_=>match x_ with|(.inl (l29,i30,l31,i32,l33,l34,l35))=>aG Γ (.exit 2) (⟨[],[(Z1 l29 i30 l31 i32 l33 9100005 l34),(Z8 l34.length),(9100005,.obj (.map true .i64 (C6 Q85 l35)))],[]⟩:St)|(.inr r_)=>aR (Jf Γ aY aK a2 a7 a8 a6 a4 r_)) ?_ ?_
   ·rintro⟨i21,l22,i23,l24,i25,l26,l27,l28⟩ y h;unfold Bl at h;refine Aj hq [0,1,32,33,34,35] Fy ?_;refine gC h ?_ ?_<;>intro h
    ·obtain⟨hc36,h⟩:=Aa h;refine gR hq [0,1,9,10,32,33,34] zzN92 [] [] (c1 hc36) ?_;obtain⟨x37,hx37,h⟩:=bind_some h;refine gR hq [0,1,9,10,11,12,32,33,34] zzN92 [] [⟨[],[],(.tuple [(Z7 x37.1),(Z7 x37.2)]),[],[],[]⟩] (c1 (ok_kind_Gives (aK.Ops.getD i21.toNat default) x37 hx37)) ?_;obtain⟨x38,hx38,h⟩:=bind_some h;refine gR hq [0,1,32,33,34,58] Fy [] [⟨Tn,[],(.bool x38.1),[(Z1 x38.2.1.Params x38.2.1.Ret x38.2.1.Blocks x38.2.2.1 x38.2.2.2.1 9100005 x38.2.2.2.2.1),(Z8 x38.2.2.2.2.1.length),(9100005,.obj (.map true .i64 (C6 Q85 x38.2.2.2.2.2)))],[],[]⟩] (ci (gI (Zb x37)) (ci (gI (Zb x37)) (ci (gI (Zb x37)) (ci (gI (Zb x37)) (ci (gI (Zb x37)) (ci (gI (Zb x37)) (ci (gI (Zb x37)) (ci (gI (Zb x37)) (ci (gI (Zb x37)) (ci (fun(hg:(Zb x37)=true)=>(J9 ((aK.Ops.getD i21.toNat default).Dst) (x37.1,x37.2) (⟨aY,i21⟩:F2) (⟨l22,i23,l24⟩:TFunc) i25 l26 l28 l27 x38 (Cw hg hx38))) (ci (gI (Zb x37)) (c1 (Mt (decide (((0:Int):Int)<x37.1))))))))))))))) ?_;refine Om (Le.trans (Vr (fun(k_:List (Int×AV)) u=>Gn u [] [(9100005,.obj (.map true .i64 k_))]) (show(bif (Zb x37) then(C6 Q85 x38.2.2.2.2.2) else(C6 Q85 l28))=(C6 Q85 (bif (Zb x37) then x38.2.2.2.2.2 else l28)) from(bif_mapE rfl rfl))) (Le.trans (leB (fun g_ u=>(Gn u [] [(30000,.row 103 [(Q87 x37 x38 l22),(Z40 (Zb x37) x38.2.1.Ret i23),(Q89 x37 x38 l24),(Z40 (Zb x37) x38.2.2.1 i25),(Q88 x37 x38 l26),(.omap 9100005),(Z17 g_ x38.2.2.2.2.1 l27)]),(37006,.tok 5 149 (bif g_ then x38.2.2.2.2.1.length else l27.length))])) (fun g_ u=>(Gn u [] [(30000,.row 103 [(Q87 x37 x38 l22),(Z40 (Zb x37) x38.2.1.Ret i23),(Q89 x37 x38 l24),(Z40 (Zb x37) x38.2.2.1 i25),(Q88 x37 x38 l26),(.omap 9100005),(AV.list 5 Jg default (bif g_ then x38.2.2.2.2.1 else l27) (.own 37006))]),(37006,.tok 5 149 ((bif g_ then x38.2.2.2.2.1 else l27).length))])) (Zb x37)) (Le.trans (leC 30000 0 (show AVle (Q87 x37 x38 l22) (AV.list 1 Aw 0 (bif (Zb x37) then x38.2.1.Params else l22) .none) from Gx)) (Le.trans (leC 30000 2 (show AVle (Q89 x37 x38 l24) (AV.list 5 Fp default (bif (Zb x37) then x38.2.1.Blocks else l24) .none) from Gx)) (leC 30000 4 (show AVle (Q88 x37 x38 l26) (AV.list 1 Aw 0 (bif (Zb x37) then x38.2.2.2.1 else l26) .none) from Gx)))))) ?_;refine gC h ?_ ?_<;>intro h
     ·refine Aj hq [6] Fy ?_;cases h;exact gO (Ol (K1 Tn (Le.refl _ _)))
     ·refine Aj hq zzN91 Fy ?_;cases h;exact gN F6
    ·cases h;exact gO (Em (Er [] Fy hq))
   ·clear hx39;rcases x39 with⟨l29,i30,l31,i32,l33,l34,l35⟩|r41
    ·refine gA ?_;refine Aj hq [6] Fy ?_;cases h;exact Dp Tn
    ·refine Th (fun st' hk=>?_);obtain rfl:=OI h;exact gK hk
  ·refine Th (fun st' hk=>?_);obtain rfl:=OI h;exact gK hk
def Dh(a2:TFunc):(Int×List (Int×Ad))->Option (LR (Int×List (Int×Ad)) (List (Int×Ad))):=
 fun((i1,l2):(Int×List (Int×Ad)))=>(bif (decide (i1<(a2.Params.length:Int))) then(B1 (Bd i1 a2.Params.length) ((C0 (a2.Params.getD i1.toNat 0)).bind fun x5=>(some (.next ((A9 (i1+1)),(It l2 (A9 (i1+1)) (⟨x5,(⟨(0:Int),(-1:Int)⟩:F2)⟩:Ad))))))) else(some (.done l2)))
def Ci(a2:TFunc):(Int×List (Int×Ad)×List Int×Int×List Ac×Int×List Int×List Ak)->Option (LR (Int×List (Int×Ad)×List Int×Int×List Ac×Int×List Int×List Ak) ((List (Int×Ad)×List Int×Int×List Ac×Int×List Int×List Ak) ⊕ (Int×TFunc×Int×List Int×List Ak×List (Int×Ad)))):=
 fun((i8,l9,l10,i11,l12,i13,l14,l15):(Int×List (Int×Ad)×List Int×Int×List Ac×Int×List Int×List Ak))=>(bif (decide (i8<(a2.Blocks.length:Int))) then(B1 (Bd i8 a2.Blocks.length) ((Dq i8 (a2.Blocks.getD i8.toNat default) (⟨l10,i11,l12⟩:TFunc) i13 l14 l9 l15).bind fun x24=>(bif (!x24.1) then(some (.done (.inr ((7:Int),x24.2.1,x24.2.2.1,x24.2.2.2.1,x24.2.2.2.2.1,x24.2.2.2.2.2)))) else(some (.next ((A9 (i8+1)),x24.2.2.2.2.2,x24.2.1.Params,x24.2.1.Ret,x24.2.1.Blocks,x24.2.2.1,x24.2.2.2.1,x24.2.2.2.2.1)))))) else(some (.done (.inl (l9,l10,i11,l12,i13,l14,l15)))))
def On(Γ:G7)(a2:TFunc)(a7:Int)(a8:List Int)(a4:List Ak)(r:(Int×TFunc×Int×List Int×List Ak×List (Int×Ad))):Exit->St->Prop:=fK Tryz.prog Γ Tryz.f92.results.toList (Z3 a2.Params a2.Ret a2.Blocks a7 a8 a4 a4.length) (Z7 r.1) [(Z1 r.2.1.Params r.2.1.Ret r.2.1.Blocks r.2.2.1 r.2.2.2.1 9200005 r.2.2.2.2.1),(Z8 r.2.2.2.2.1.length),(9200005,.obj (.map false .i64 (C6 (fun(v_:Ad)=>((Pb v_):AV)) r.2.2.2.2.2)))]
def Q90:=(fun(v_:Ad)=>((Pb v_):AV))
def Q91(l16:List (Int×Ad))(l17:List Int)(i18:Int)(l19:List Ac)(i20:Int)(l21:List Int)(l22:List Ak):List (Nat×Own):=[(8,.obj (.map true .i64 (C6 Q90 l16))),(Z23 l17 i18 l19 i20 l21 l22),(Z8 l22.length)]
def D8(a2:TFunc)(a7:Int)(a8:List Int)(a4:List Ak):Option (Int×TFunc×Int×List Int×List Ak×List (Int×Ad)):=
 ((Am (Dh a2) ((0:Int),([]:List (Int×Ad)))).bind (fun x6=>((Am (Ci a2) ((0:Int),x6,a2.Params,a2.Ret,a2.Blocks,a7,a8,a4)).bind (fun x25=>(match x25 with|(.inl (l16,l17,i18,l19,i20,l21,l22))=>(some ((0:Int),(⟨l17,i18,l19⟩:TFunc),i20,l21,l22,l16))|(.inr r27)=>(some r27))))))
theorem Oc(a2:TFunc)(a7:Int)(a8:List Int)(a4:List Ak)(r:(Int×TFunc×Int×List Int×List Ak×List (Int×Ad)))(h:D8 a2 a7 a8 a4=some r):Spec Tryz.prog 92 [Z35] (Z3 a2.Params a2.Ret a2.Blocks a7 a8 a4 a4.length) (Z7 r.1) [(Z1 r.2.1.Params r.2.1.Ret r.2.1.Blocks r.2.2.1 r.2.2.2.1 9200005 r.2.2.2.2.1),(Z8 r.2.2.2.2.1.length),(9200005,.obj (.map false .i64 (C6 (fun(v_:Ad)=>((Pb v_):AV)) r.2.2.2.2.2)))]:=by
 refine Ab mix Tryz.func92 (fun Γ hq=>?_);unfold D8 at h;refine Aj hq [0] F1 ?_;refine Aj hq [0] P6 ?_;refine Om (Vr (fun(k_:List (Int×AV)) u=>Gn u [] [(8,.obj (.map true .i64 k_))]) (show[]=(C6 Q90 ([]:List (Int×Ad))) from rfl)) ?_;refine Aj hq zzN82 P6 ?_;obtain⟨x6,hx6,h⟩:=bind_some h;refine gL hq hx6 zzN82 P6 (fun u (i1,l2)=>(Gn u [(17,(Z7 i1))] [(8,.obj (.map true .i64 (C6 Q90 l2)))])) (fun u l3=>aG Γ (.exit 0) (Xk [0] P6 u [] [(8,.obj (.map true .i64 (C6 Q90 l3)))])) ?_ ?_
 ·rintro⟨i1,l2⟩ y h;unfold Dh at h;refine Aj hq [0,15,16,17,18] P6 ?_;refine gC h ?_ ?_<;>intro h
  ·obtain⟨hc4,h⟩:=Aa h;refine gR hq [0,3,4,15,16,17] P6 [] [] (c1 hc4) ?_;obtain⟨x5,hx5,h⟩:=bind_some h;refine gR hq zzN82 P6 [] [(Z43 x5)] (c1 (H8 (a2.Params.getD i1.toNat 0) x5 hx5)) ?_;refine Om (Vr (fun(k_:List (Int×AV)) u=>Gn u [] [(8,.obj (.map true .i64 k_))]) (show(It (C6 Q90 l2) (A9 (i1+1)) (.agg [(Z7 x5.1),(Z7 x5.2),Z32,(.int .i64 (-1:Int))]))=(C6 Q90 (It l2 (A9 (i1+1)) (⟨x5,(⟨(0:Int),(-1:Int)⟩:F2)⟩:Ad))) from(mset_eq (f:=Q90) (l:=l2) (v:=(⟨x5,(⟨(0:Int),(-1:Int)⟩:F2)⟩:Ad)) rfl rfl))) ?_;refine Aj hq zzN82 P6 ?_;cases h;exact gN F6
  ·cases h;exact gO (Em (Er [0] P6 hq))
 ·clear hx6;refine gA ?_;refine Aj hq zzN111 P6 ?_;obtain⟨x25,hx25,h⟩:=bind_some h;refine gL hq hx25 zzN111 P6 (fun u (i8,l9,l10,i11,l12,i13,l14,l15)=>(Gn u [(39,(Z7 i8))] [(8,.obj (.map true .i64 (C6 Q90 l9))),(Z23 l10 i11 l12 i13 l14 l15),(Z8 l15.length)])) (fun u x_=>match x_ with|(.inl (l16,l17,i18,l19,i20,l21,l22))=>aG Γ (.exit 2) (⟨[],(Q91 l16 l17 i18 l19 i20 l21 l22),[]⟩:St)|(.inr r_)=>aR (On Γ a2 a7 a8 a4 r_)) ?_ ?_
  ·rintro⟨i8,l9,l10,i11,l12,i13,l14,l15⟩ y h;unfold Ci at h;refine Aj hq [0,37,38,39,40] P6 ?_;refine gC h ?_ ?_<;>intro h
   ·obtain⟨hc23,h⟩:=Aa h;refine gR hq [0,5,6,37,38,39] [6,8,30000,37006] [] [] (c1 hc23) ?_;obtain⟨x24,hx24,h⟩:=bind_some h;refine gR hq [0,37,38,39,48] P6 [] [⟨[(30000,30000),(37006,37006),(8,9100005)],[],(.bool x24.1),[(Z1 x24.2.1.Params x24.2.1.Ret x24.2.1.Blocks x24.2.2.1 x24.2.2.2.1 9100005 x24.2.2.2.2.1),(Z8 x24.2.2.2.2.1.length),(9100005,.obj (.map true .i64 (C6 Q90 x24.2.2.2.2.2)))],[],[]⟩] (c1 (M4 i8 (a2.Blocks.getD i8.toNat default) (⟨l10,i11,l12⟩:TFunc) i13 l14 l9 l15 x24 hx24)) ?_;refine gC h ?_ ?_<;>intro h
    ·refine Aj hq [2] P6 ?_;refine Wo (⟨[(2,(.int .i64 (7:Int)))],[(8,.obj (.map true .i64 (C6 Q90 x24.2.2.2.2.2))),(Z23 x24.2.1.Params x24.2.1.Ret x24.2.1.Blocks x24.2.2.1 x24.2.2.2.1 x24.2.2.2.2.1),(Z8 x24.2.2.2.2.1.length)],[]⟩:St) ?_;cases h;exact gO (Ol (K1 zzN54 (Le.trans (le_obj (nm:=8) (.map false .i64 (C6 Q90 x24.2.2.2.2.2)) rfl (fun _ _ _ _ h_=>objAt_nn h_)) (Er (st':=⟨[(2,(.int .i64 (7:Int)))],[(8,.obj (.map false .i64 (C6 Q90 x24.2.2.2.2.2))),(Z23 x24.2.1.Params x24.2.1.Ret x24.2.1.Blocks x24.2.2.1 x24.2.2.2.1 x24.2.2.2.2.1),(Z8 x24.2.2.2.2.1.length)],[]⟩) [2] P6 hq))))
    ·refine Aj hq zzN111 P6 ?_;cases h;exact gN F6
   ·cases h;exact gO (Em (Er [] P6 hq))
  ·clear hx25;rcases x25 with⟨l16,l17,i18,l19,i20,l21,l22⟩|r27
   ·refine gA ?_;refine Aj hq [2] P6 ?_;refine Wo (⟨[(2,Z32)],(Q91 l16 l17 i18 l19 i20 l21 l22),[]⟩:St) ?_;cases h;exact gK (e:=.ret) (K1 zzN54 (Le.trans (le_obj (nm:=8) (.map false .i64 (C6 Q90 l16)) rfl (fun _ _ _ _ h_=>objAt_nn h_)) (Er (st':=⟨[(2,Z32)],[(8,.obj (.map false .i64 (C6 Q90 l16))),(Z23 l17 i18 l19 i20 l21 l22),(Z8 l22.length)],[]⟩) [2] P6 hq)))
   ·refine Th (fun st' hk=>?_);obtain rfl:=OI h;exact gK hk
def Dt(aY:Int)(a2:TFunc)(a7:Int)(a8:List Int)(a6:List (Int×Ad))(a4:List Ak):Option (F2×TFunc×Int×List Int×List Ak):=
 (B1 (Bd aY a2.Blocks.length) (some ((⟨aY,(((a2.Blocks.getD aY.toNat default).Ops).length:Int)⟩:F2),a2,a7,a8,a4)))
theorem Iu(aY:Int)(a2:TFunc)(a7:Int)(a8:List Int)(a6:List (Int×Ad))(a4:List Ak)(r:(F2×TFunc×Int×List Int×List Ak))(h:Dt aY a2 a7 a8 a6 a4=some r):Spec Tryz.prog 146 [Z35,(Z7 aY)] [(Z1 a2.Params a2.Ret a2.Blocks a7 a8 9100005 a4),(Z8 a4.length),(9100005,.obj (.map false .i64 (C6 (fun(v_:Ad)=>((Pb v_):AV)) a6)))] (.agg (Zi r.1)) [(Z1 r.2.1.Params r.2.1.Ret r.2.1.Blocks r.2.2.1 r.2.2.2.1 9100005 r.2.2.2.2),(Z8 r.2.2.2.2.length),(9100005,.obj (.map false .i64 (C6 (fun(v_:Ad)=>((Pb v_):AV)) a6)))]:=by
 refine Ab mix Tryz.func146 (fun Γ hq=>?_);unfold Dt at h;refine Aj hq [0,1,4] zzN96 ?_;obtain⟨hc1,h⟩:=Aa h;refine gR hq [4] zzN96 [] [] (c1 hc1) ?_;cases h;exact Dp Tn
def C7(aD:Int)(aa0:(Int×Int))(aC:F2)(a2:TFunc)(a7:Int)(a8:List Int)(a6:List (Int×Ad))(a4:List Ak):Option (TFunc×Int×List Int×List Ak):=
 (B1 (a4.length+([(⟨aD,aa0,aC⟩:Ak)]:List Ak).length<=room) (some (a2,a7,a8,(a4++([(⟨aD,aa0,aC⟩:Ak)]:List Ak)))))
theorem G2(aD:Int)(aa0:(Int×Int))(aC:F2)(a2:TFunc)(a7:Int)(a8:List Int)(a6:List (Int×Ad))(a4:List Ak)(r:(TFunc×Int×List Int×List Ak))(h:C7 aD aa0 aC a2 a7 a8 a6 a4=some r):Spec Tryz.prog 145 [Z35,(Z7 aD),(.agg (Bp aa0)),(.agg (Zi aC))] [(Z1 a2.Params a2.Ret a2.Blocks a7 a8 9100005 a4),(Z8 a4.length),(9100005,.obj (.map false .i64 (C6 (fun(v_:Ad)=>((Pb v_):AV)) a6)))] (.tuple []) [(Z1 r.1.Params r.1.Ret r.1.Blocks r.2.1 r.2.2.1 9100005 r.2.2.2),(Z8 r.2.2.2.length),(9100005,.obj (.map false .i64 (C6 (fun(v_:Ad)=>((Pb v_):AV)) a6)))]:=by
 refine Ab mix Tryz.func145 (fun Γ hq=>?_);unfold C7 at h;refine Aj hq [0,1,6,7] zzN41 ?_;obtain⟨hc1,h⟩:=Aa h;refine gR hq [] Fy [(17,(AV.list 5 Jg default ([(⟨aD,aa0,aC⟩:Ak)]:List Ak) .exact)),(18,(AV.list 5 Jg default (a4++([(⟨aD,aa0,aC⟩:Ak)]:List Ak)) (.own 37006)))] [] (ci (Cp 5 Jg (default:Ak) ([(⟨aD,aa0,aC⟩:Ak)]:List Ak)) (ci (Eq.refl a4.length) (ci hc1 (ci (Sx 5 37006 Jg (default:Ak) a4 ([(⟨aD,aa0,aC⟩:Ak)]:List Ak)) (c1 (Ie a4 ([(⟨aD,aa0,aC⟩:Ak)]:List Ak))))))) ?_;cases h;exact gK (e:=.normal) (K1 Tn (Le.refl _ _))
def Q92:List (Nat×AV):=[(2,Z30)]
def I9(a1:Ef):Option (List (Int×Int)):=
 ((J6 a1).bind fun x1=>(bif (!x1) then(some ([]:List (Int×Int))) else((Jb a1).bind fun x2=>(some x2))))
theorem ok_kind_Takes(a1:Ef)(r:List ((Int×Int)))(h:I9 a1=some r):Spec Tryz.prog 147 [(.agg (I6 a1))] [] (Z5 r) []:=by
 refine Ab mix Tryz.func147 (fun Γ hq=>?_);unfold I9 at h;refine gR hq [1] [1] Q92 [] (c1 (Gm 2 Bp ((0:Int),(0:Int)))) ?_;obtain⟨x1,hx1,h⟩:=bind_some h;refine gR hq [1,5] [1] [] [(Z2 x1)] (c1 (R4 a1 x1 hx1)) ?_;refine gC h ?_ ?_<;>intro h
 ·refine gR hq [2] [] Q92 [] (c1 (Gm 2 Bp ((0:Int),(0:Int)))) ?_;refine Wo (⟨Q92,[],[]⟩:St) ?_;cases h;exact gK (e:=.ret) (K1 [] (show Le Γ _ (⟨[(2,(AV.list 2 Bp ((0:Int),(0:Int)) ([]:List (Int×Int)) .none))],[],[]⟩:St) from Le.trans (Er (st':=⟨Q92,[],[]⟩) [2] [] hq) (Qc (.cons AVle.untag .nil) .nil)))
 ·obtain⟨x2,hx2,h⟩:=bind_some h;refine gR hq [2] [] [] [(Z21 x2)] (c1 (T0 a1 x2 hx2)) ?_;obtain rfl:=OI h;exact Dp []
def Cd(a2:TFunc)(a6:List (Int×Ad))(i1:Int)(i21:Int):(Int×List Int×Int×List Ac×Int×List Int×List Ak)->Option (LR (Int×List Int×Int×List Ac×Int×List Int×List Ak) (List Int×Int×List Ac×Int×List Int×List Ak)):=
 fun((i35,l36,i37,l38,i39,l40,l41):(Int×List Int×Int×List Ac×Int×List Int×List Ak))=>(bif (decide (i35<(((((a2.Blocks.getD i1.toNat default).Phis).getD i21.toNat default).Args).length:Int))) then(B1 (Bd i35 ((((a2.Blocks.getD i1.toNat default).Phis).getD i21.toNat default).Args).length) ((C0 ((((a2.Blocks.getD i1.toNat default).Phis).getD i21.toNat default).Bits)).bind fun x49=>(B1 (Bd i35 ((((a2.Blocks.getD i1.toNat default).Phis).getD i21.toNat default).From).length) ((Dt (((((a2.Blocks.getD i1.toNat default).Phis).getD i21.toNat default).From).getD i35.toNat 0) (⟨l36,i37,l38⟩:TFunc) i39 l40 a6 l41).bind fun x51=>((C7 (((((a2.Blocks.getD i1.toNat default).Phis).getD i21.toNat default).Args).getD i35.toNat 0) x49 x51.1 x51.2.1 x51.2.2.1 x51.2.2.2.1 a6 x51.2.2.2.2).bind fun x52=>(some (.next ((A9 (i35+1)),x52.1.Params,x52.1.Ret,x52.1.Blocks,x52.2.1,x52.2.2.1,x52.2.2.2)))))))) else(some (.done (l36,i37,l38,i39,l40,l41))))
def Ce(a2:TFunc)(a6:List (Int×Ad))(i1:Int):(Int×List Int×Int×List Ac×Int×List Int×List Ak)->Option (LR (Int×List Int×Int×List Ac×Int×List Int×List Ak) (List Int×Int×List Ac×Int×List Int×List Ak)):=
 fun((i21,l22,i23,l24,i25,l26,l27):(Int×List Int×Int×List Ac×Int×List Int×List Ak))=>(bif (decide (i21<(((a2.Blocks.getD i1.toNat default).Phis).length:Int))) then(B1 (Bd i21 ((a2.Blocks.getD i1.toNat default).Phis).length) ((Am (Cd a2 a6 i1 i21) ((0:Int),l22,i23,l24,i25,l26,l27)).bind (fun(l42,i43,l44,i45,l46,l47)=>(some (.next ((A9 (i21+1)),l42,i43,l44,i45,l46,l47)))))) else(some (.done (l22,i23,l24,i25,l26,l27))))
def Cf(a2:TFunc)(a6:List (Int×Ad))(i1:Int)(i57:Int)(x71:List ((Int×Int))):(Int×List Int×Int×List Ac×Int×List Int×List Ak)->Option (LR (Int×List Int×Int×List Ac×Int×List Int×List Ak) (List Int×Int×List Ac×Int×List Int×List Ak)):=
 fun((i72,l73,i74,l75,i76,l77,l78):(Int×List Int×Int×List Ac×Int×List Int×List Ak))=>(bif (decide (i72<(x71.length:Int))) then(B1 (Bd i72 x71.length) (B1 (Bd i72 ((((a2.Blocks.getD i1.toNat default).Ops).getD i57.toNat default).Args).length) ((C7 (((((a2.Blocks.getD i1.toNat default).Ops).getD i57.toNat default).Args).getD i72.toNat 0) (x71.getD i72.toNat ((0:Int),(0:Int))) (⟨i1,i57⟩:F2) (⟨l73,i74,l75⟩:TFunc) i76 l77 a6 l78).bind fun x87=>(some (.next ((A9 (i72+1)),x87.1.Params,x87.1.Ret,x87.1.Blocks,x87.2.1,x87.2.2.1,x87.2.2.2)))))) else(some (.done (l73,i74,l75,i76,l77,l78))))
def Cg(a2:TFunc)(a6:List (Int×Ad))(i1:Int):(Int×List Int×Int×List Ac×Int×List Int×List Ak)->Option (LR (Int×List Int×Int×List Ac×Int×List Int×List Ak) (List Int×Int×List Ac×Int×List Int×List Ak)):=
 fun((i57,l58,i59,l60,i61,l62,l63):(Int×List Int×Int×List Ac×Int×List Int×List Ak))=>(bif (decide (i57<(((a2.Blocks.getD i1.toNat default).Ops).length:Int))) then(B1 (Bd i57 ((a2.Blocks.getD i1.toNat default).Ops).length) ((I9 (((a2.Blocks.getD i1.toNat default).Ops).getD i57.toNat default)).bind fun x71=>((Am (Cf a2 a6 i1 i57 x71) ((0:Int),l58,i59,l60,i61,l62,l63)).bind (fun(l79,i80,l81,i82,l83,l84)=>(some (.next ((A9 (i57+1)),l79,i80,l81,i82,l83,l84))))))) else(some (.done (l58,i59,l60,i61,l62,l63))))
def Ch(a2:TFunc)(a6:List (Int×Ad)):(Int×List Int×Int×List Ac×Int×List Int×List Ak)->Option (LR (Int×List Int×Int×List Ac×Int×List Int×List Ak) (List Int×Int×List Ac×Int×List Int×List Ak)):=
 fun((i1,l2,i3,l4,i5,l6,l7):(Int×List Int×Int×List Ac×Int×List Int×List Ak))=>(bif (decide (i1<(a2.Blocks.length:Int))) then(Option.bind (α:=(List Int×Int×List Ac×Int×List Int×List Ak)) (B1 (Bd i1 a2.Blocks.length) ((Am (Ce a2 a6 i1) ((0:Int),l2,i3,l4,i5,l6,l7)).bind (fun x55=>(match x55 with|(l28,i29,l30,i31,l32,l33)=>((Am (Cg a2 a6 i1) ((0:Int),l28,i29,l30,i31,l32,l33)).bind (fun x90=>(match x90 with|(l64,i65,l66,i67,l68,l69)=>(bif (((a2.Blocks.getD i1.toNat default).End.Kind:Int)==0) then((C0 i65).bind fun x92=>((Dt i1 (⟨l64,i65,l66⟩:TFunc) i67 l68 a6 l69).bind fun x93=>((C7 ((a2.Blocks.getD i1.toNat default).End.Arg) x92 x93.1 x93.2.1 x93.2.2.1 x93.2.2.2.1 a6 x93.2.2.2.2).bind fun x94=>(some (x94.1.Params,x94.1.Ret,x94.1.Blocks,x94.2.1,x94.2.2.1,x94.2.2.2))))) else(bif (((a2.Blocks.getD i1.toNat default).End.Kind:Int)==2) then((C0 (1:Int)).bind fun x95=>((Dt i1 (⟨l64,i65,l66⟩:TFunc) i67 l68 a6 l69).bind fun x96=>((C7 ((a2.Blocks.getD i1.toNat default).End.Arg) x95 x96.1 x96.2.1 x96.2.2.1 x96.2.2.2.1 a6 x96.2.2.2.2).bind fun x97=>(some (x97.1.Params,x97.1.Ret,x97.1.Blocks,x97.2.1,x97.2.2.1,x97.2.2.2))))) else(some (l64,i65,l66,i67,l68,l69))))))))))) (fun x98=>(match x98 with|(l14,i15,l16,i17,l18,l19)=>(some (.next ((A9 (i1+1)),l14,i15,l16,i17,l18,l19)))))) else(some (.done (l2,i3,l4,i5,l6,l7))))
def Q94(a2:TFunc)(i1:Int):=(a2.Blocks.getD i1.toNat default)
def Q93(a6:List (Int×Ad)):=(C6 (fun(v_:Ad)=>((Pb v_):AV)) a6)
def D7(a2:TFunc)(a7:Int)(a8:List Int)(a6:List (Int×Ad))(a4:List Ak):Option (TFunc×Int×List Int×List Ak):=
 ((Am (Ch a2 a6) ((0:Int),a2.Params,a2.Ret,a2.Blocks,a7,a8,a4)).bind (fun(l8,i9,l10,i11,l12,l13)=>(some ((⟨l8,i9,l10⟩:TFunc),i11,l12,l13))))
theorem Ob(a2:TFunc)(a7:Int)(a8:List Int)(a6:List (Int×Ad))(a4:List Ak)(r:(TFunc×Int×List Int×List Ak))(h:D7 a2 a7 a8 a6 a4=some r):Spec Tryz.prog 114 [Z35] [(Z1 a2.Params a2.Ret a2.Blocks a7 a8 9100005 a4),(Z8 a4.length),(9100005,.obj (.map false .i64 (C6 (fun(v_:Ad)=>((Pb v_):AV)) a6)))] (.tuple []) [(Z1 r.1.Params r.1.Ret r.1.Blocks r.2.1 r.2.2.1 9100005 r.2.2.2),(Z8 r.2.2.2.length),(9100005,.obj (.map false .i64 (C6 (fun(v_:Ad)=>((Pb v_):AV)) a6)))]:=by
 refine Ab mix Tryz.func114 (fun Γ hq=>?_);unfold D7 at h;refine Aj hq zzN56 Fy ?_;obtain⟨x100,hx100,h⟩:=bind_some h;refine gL hq hx100 zzN56 Fy (fun u (i1,l2,i3,l4,i5,l6,l7)=>(Gn u [(18,(Z7 i1))] (Z26 l2 i3 l4 i5 l6 l7 l7.length))) (fun u (l8,i9,l10,i11,l12,l13)=>aG Γ (.exit 0) (Xk [] Fy u [] (Z26 l8 i9 l10 i11 l12 l13 l13.length))) ?_ ?_
 ·rintro⟨i1,l2,i3,l4,i5,l6,l7⟩ y h;unfold Ch at h;refine Aj hq [0,16,17,18,19] Fy ?_;refine gC h ?_ ?_<;>intro h
  ·obtain⟨x98,hx98,h⟩:=bind_some h;refine gJ hx98 (fun(l14,i15,l16,i17,l18,l19)=>aG Γ .normal (⟨[(0,Z35),(16,(Z15 a2.Blocks)),(17,(Z49 a2.Blocks.length)),(18,(Z7 i1))],(Z12 l14 i15 l16 i17 l18 l19 l19.length (Q93 a6)),[]⟩:St)) ?_ ?_
   ·clear h hx98;intro y h;obtain⟨hc20,h⟩:=Aa h;refine gR hq zzN48 Ma [] [] (c1 hc20) ?_;refine Aj hq zzN23 Ma ?_;obtain⟨x55,hx55,h⟩:=bind_some h;refine gL hq hx55 zzN23 Ma (fun u (i21,l22,i23,l24,i25,l26,l27)=>(Gn u [(26,(Z7 i21))] (Z26 l22 i23 l24 i25 l26 l27 l27.length))) (fun u (l28,i29,l30,i31,l32,l33)=>aG Γ (.exit 2) (Xk zzN48 Ma u [] (Z26 l28 i29 l30 i31 l32 l33 l33.length))) ?_ ?_
    ·rintro⟨i21,l22,i23,l24,i25,l26,l27⟩ y h;unfold Ce at h;refine Aj hq [0,2,3,16,17,18,24,25,26,27] Ma ?_;refine gC h ?_ ?_<;>intro h
     ·obtain⟨hc34,h⟩:=Aa h;refine gR hq [0,2,3,5,16,17,18,24,25,26] Wl [] [] (c1 hc34) ?_;refine Aj hq zzN17 Wl ?_;obtain⟨x53,hx53,h⟩:=bind_some h;refine gL hq hx53 zzN17 Wl (fun u (i35,l36,i37,l38,i39,l40,l41)=>(Gn u [(33,(Z7 i35))] (Z26 l36 i37 l38 i39 l40 l41 l41.length))) (fun u (l42,i43,l44,i45,l46,l47)=>aG Γ (.exit 4) (Xk zzN23 Ma u [] (Z26 l42 i43 l44 i45 l46 l47 l47.length))) ?_ ?_
      ·rintro⟨i35,l36,i37,l38,i39,l40,l41⟩ y h;unfold Cd at h;refine Aj hq [0,2,3,5,16,17,18,24,25,26,31,32,33,34] Wl ?_;refine gC h ?_ ?_<;>intro h
       ·obtain⟨hc48,h⟩:=Aa h;refine gR hq [0,2,3,5,6,7,16,17,18,24,25,26,31,32,33] Wl [] [] (c1 hc48) ?_;obtain⟨x49,hx49,h⟩:=bind_some h;obtain⟨hc50,h⟩:=Aa h;obtain⟨x51,hx51,h⟩:=bind_some h;obtain⟨x52,hx52,h⟩:=bind_some h;refine gR hq zzN17 Wl [] [(Z43 x49),(Z34 x51.1 x51.2.1.Params x51.2.1.Ret x51.2.1.Blocks x51.2.2.1 x51.2.2.2.1 x51.2.2.2.2 x51.2.2.2.2.length (Q93 a6)),(Z16 x52.1.Params x52.1.Ret x52.1.Blocks x52.2.1 x52.2.2.1 x52.2.2.2 x52.2.2.2.length (Q93 a6))] (ci (H8 ((((Q94 a2 i1).Phis).getD i21.toNat default).Bits) x49 hx49) (ci hc50 (ci (Iu (((((Q94 a2 i1).Phis).getD i21.toNat default).From).getD i35.toNat 0) (⟨l36,i37,l38⟩:TFunc) i39 l40 a6 l41 x51 hx51) (c1 (G2 (((((Q94 a2 i1).Phis).getD i21.toNat default).Args).getD i35.toNat 0) x49 x51.1 x51.2.1 x51.2.2.1 x51.2.2.2.1 a6 x51.2.2.2.2 x52 hx52))))) ?_;refine Aj hq zzN17 Wl ?_;cases h;exact gN F6
       ·cases h;exact gO (Em (Er zzN23 Ma hq))
      ·clear hx53;rcases x53 with⟨l42,i43,l44,i45,l46,l47⟩;refine gA ?_;refine Aj hq zzN23 Ma ?_;cases h;exact gN F6
     ·cases h;exact gO (Em (Er zzN48 Ma hq))
    ·clear hx55;rcases x55 with⟨l28,i29,l30,i31,l32,l33⟩;refine gA ?_;refine Aj hq zzN24 Ma ?_;obtain⟨x90,hx90,h⟩:=bind_some h;refine gL hq hx90 zzN24 Ma (fun u (i57,l58,i59,l60,i61,l62,l63)=>(Gn u [(56,(Z7 i57))] (Z26 l58 i59 l60 i61 l62 l63 l63.length))) (fun u (l64,i65,l66,i67,l68,l69)=>aG Γ (.exit 6) (Xk zzN48 Ma u [] (Z26 l64 i65 l66 i67 l68 l69 l69.length))) ?_ ?_
     ·rintro⟨i57,l58,i59,l60,i61,l62,l63⟩ y h;unfold Cg at h;refine Aj hq [0,2,3,16,17,18,54,55,56,57] Ma ?_;refine gC h ?_ ?_<;>intro h
      ·obtain⟨hc70,h⟩:=Aa h;refine gR hq [0,2,3,8,9,16,17,18,54,55,56] zzN20 [] [] (c1 hc70) ?_;obtain⟨x71,hx71,h⟩:=bind_some h;refine gR hq zzN16 zzN20 [] [(Z21 x71)] (c1 (ok_kind_Takes (((Q94 a2 i1).Ops).getD i57.toNat default) x71 hx71)) ?_;obtain⟨x88,hx88,h⟩:=bind_some h;refine gL hq hx88 zzN16 zzN20 (fun u (i72,l73,i74,l75,i76,l77,l78)=>(Gn u [(64,(Z7 i72))] (Z26 l73 i74 l75 i76 l77 l78 l78.length))) (fun u (l79,i80,l81,i82,l83,l84)=>aG Γ (.exit 8) (Xk zzN24 Ma u [] (Z26 l79 i80 l81 i82 l83 l84 l84.length))) ?_ ?_
       ·rintro⟨i72,l73,i74,l75,i76,l77,l78⟩ y h;unfold Cf at h;refine Aj hq [0,2,3,8,9,16,17,18,54,55,56,62,63,64,65] zzN20 ?_;refine gC h ?_ ?_<;>intro h
        ·obtain⟨hc85,h⟩:=Aa h;refine gR hq [0,2,3,8,9,10,11,16,17,18,54,55,56,62,63,64] [3,9,11,30000,37006,9100005] [] [] (c1 hc85) ?_;obtain⟨hc86,h⟩:=Aa h;obtain⟨x87,hx87,h⟩:=bind_some h;refine gR hq zzN16 zzN20 [] [(Z16 x87.1.Params x87.1.Ret x87.1.Blocks x87.2.1 x87.2.2.1 x87.2.2.2 x87.2.2.2.length (Q93 a6))] (ci hc86 (c1 (G2 (((((Q94 a2 i1).Ops).getD i57.toNat default).Args).getD i72.toNat 0) (x71.getD i72.toNat ((0:Int),(0:Int))) (⟨i1,i57⟩:F2) (⟨l73,i74,l75⟩:TFunc) i76 l77 a6 l78 x87 hx87))) ?_;refine Aj hq zzN16 zzN20 ?_;cases h;exact gN F6
        ·cases h;exact gO (Em (Er zzN24 Ma hq))
       ·clear hx88;rcases x88 with⟨l79,i80,l81,i82,l83,l84⟩;refine gA ?_;refine Aj hq zzN24 Ma ?_;cases h;exact gN F6
      ·cases h;exact gO (Em (Er zzN48 Ma hq))
     ·clear hx90;rcases x90 with⟨l64,i65,l66,i67,l68,l69⟩;refine gA ?_;refine Aj hq [0,2,3,16,17,18,84] Ma ?_;refine Aj hq [0,2,3,16,17,18,84,85] Ma ?_;refine gC h ?_ ?_<;>intro h
      ·obtain⟨x92,hx92,h⟩:=bind_some h;obtain⟨x93,hx93,h⟩:=bind_some h;obtain⟨x94,hx94,h⟩:=bind_some h;refine gR hq zzN56 Fy [] [(Z43 x92),(Z34 x93.1 x93.2.1.Params x93.2.1.Ret x93.2.1.Blocks x93.2.2.1 x93.2.2.2.1 x93.2.2.2.2 x93.2.2.2.2.length (Q93 a6)),(Z16 x94.1.Params x94.1.Ret x94.1.Blocks x94.2.1 x94.2.2.1 x94.2.2.2 x94.2.2.2.length (Q93 a6))] (ci (H8 i65 x92 hx92) (ci (Iu i1 (⟨l64,i65,l66⟩:TFunc) i67 l68 a6 l69 x93 hx93) (c1 (G2 ((Q94 a2 i1).End.Arg) x92 x93.1 x93.2.1 x93.2.2.1 x93.2.2.2.1 a6 x93.2.2.2.2 x94 hx94)))) ?_;cases h;exact gK (Em F6)
      ·refine Aj hq [0,2,3,16,17,18,101] Ma ?_;refine gC h ?_ ?_<;>intro h
       ·obtain⟨x95,hx95,h⟩:=bind_some h;obtain⟨x96,hx96,h⟩:=bind_some h;obtain⟨x97,hx97,h⟩:=bind_some h;refine gR hq zzN56 Fy [] [(Z43 x95),(Z34 x96.1 x96.2.1.Params x96.2.1.Ret x96.2.1.Blocks x96.2.2.1 x96.2.2.2.1 x96.2.2.2.2 x96.2.2.2.2.length (Q93 a6)),(Z16 x97.1.Params x97.1.Ret x97.1.Blocks x97.2.1 x97.2.2.1 x97.2.2.2 x97.2.2.2.length (Q93 a6))] (ci (H8 (1:Int) x95 hx95) (ci (Iu i1 (⟨l64,i65,l66⟩:TFunc) i67 l68 a6 l69 x96 hx96) (c1 (G2 ((Q94 a2 i1).End.Arg) x95 x96.1 x96.2.1 x96.2.2.1 x96.2.2.2.1 a6 x96.2.2.2.2 x97 hx97)))) ?_;cases h;exact gK (Em F6)
       ·cases h;exact gK (Em (Er zzN56 Fy hq))
   ·clear hx98;rcases x98 with⟨l14,i15,l16,i17,l18,l19⟩;refine gA ?_;refine Aj hq zzN56 Fy ?_;cases h;exact gN F6
  ·cases h;exact gO (Em (Er [] Fy hq))
 ·clear hx100;rcases x100 with⟨l8,i9,l10,i11,l12,l13⟩;refine gA' (fun st' hl101=>?_);cases h;exact gK (e:=.normal) (K1 Tn hl101)
def Fq(aN:Ak)(a2:TFunc)(a7:Int)(a8:List Int)(a6:List (Int×Ad))(a4:List Ak):Option (Bool×TFunc×Int×List Int×List Ak):=
 (some ((D3 a6 aN.v),a2,a7,a8,a4))
theorem Oe(aN:Ak)(a2:TFunc)(a7:Int)(a8:List Int)(a6:List (Int×Ad))(a4:List Ak)(r:(Bool×TFunc×Int×List Int×List Ak))(h:Fq aN a2 a7 a8 a6 a4=some r):Spec Tryz.prog 115 [Z35,(.agg (Jg aN))] [(Z1 a2.Params a2.Ret a2.Blocks a7 a8 9100005 a4),(Z8 a4.length),(9100005,.obj (.map false .i64 (C6 (fun(v_:Ad)=>((Pb v_):AV)) a6)))] (.bool r.1) [(Z1 r.2.1.Params r.2.1.Ret r.2.1.Blocks r.2.2.1 r.2.2.2.1 9100005 r.2.2.2.2),(Z8 r.2.2.2.2.length),(9100005,.obj (.map false .i64 (C6 (fun(v_:Ad)=>((Pb v_):AV)) a6)))]:=by
 refine Ab mix Tryz.func115 (fun Γ hq=>?_);unfold Fq at h;refine Aj hq Qr Ma ?_;refine gR hq [6] Fy [(14,(.tuple [(Z20 a6 aN.v),(.bool (D3 a6 aN.v))]))] [] (c1 (show(AVle (.tuple [E5 Z14 (C6 (fun(v_:Ad)=>((Pb v_):AV)) a6) aN.v,.bool (D3 (C6 (fun(v_:Ad)=>((Pb v_):AV)) a6) aN.v)]) (.tuple [(Z20 a6 aN.v),(.bool (D3 a6 aN.v))])) from(mlook_le (f:=(fun(v_:Ad)=>((Pb v_):AV))) (l:=a6) (AVle.refl _) rfl))) ?_;refine Aj hq [4] Fy ?_;cases h;exact Dp Tn
def Gz(aN:Ak)(a2:TFunc)(a7:Int)(a8:List Int)(a6:List (Int×Ad))(a4:List Ak):Option (Bool×TFunc×Int×List Int×List Ak):=
 (some (((((E5 (default:Ad) a6 aN.v).shape.1:Int)==aN.shape.1)&&((((E5 (default:Ad) a6 aN.v).shape.2:Int)==aN.shape.2)&&true)),a2,a7,a8,a4))
theorem Qu(aN:Ak)(a2:TFunc)(a7:Int)(a8:List Int)(a6:List (Int×Ad))(a4:List Ak)(r:(Bool×TFunc×Int×List Int×List Ak))(h:Gz aN a2 a7 a8 a6 a4=some r):Spec Tryz.prog 116 [Z35,(.agg (Jg aN))] [(Z1 a2.Params a2.Ret a2.Blocks a7 a8 9100005 a4),(Z8 a4.length),(9100005,.obj (.map false .i64 (C6 (fun(v_:Ad)=>((Pb v_):AV)) a6)))] (.bool r.1) [(Z1 r.2.1.Params r.2.1.Ret r.2.1.Blocks r.2.2.1 r.2.2.2.1 9100005 r.2.2.2.2),(Z8 r.2.2.2.2.length),(9100005,.obj (.map false .i64 (C6 (fun(v_:Ad)=>((Pb v_):AV)) a6)))]:=by
 refine Ab mix Tryz.func116 (fun Γ hq=>?_);unfold Gz at h;refine Aj hq Qr Ma ?_;refine gR hq [4] Fy [(11,(Z20 a6 aN.v))] [] (c1 (show(AVle (E5 Z14 (C6 (fun(v_:Ad)=>((Pb v_):AV)) a6) aN.v) (Z20 a6 aN.v)) from(mget_le (f:=(fun(v_:Ad)=>((Pb v_):AV))) (l:=a6) (AVle.refl _) rfl))) ?_;cases h;exact Dp Tn
def Bm(aH:List Int)(aD:Int):Int->Option (LR Int (Unit ⊕ Int)):=
 fun(i1:Int)=>(bif (decide (i1<(aH.length:Int))) then(B1 (Bd i1 aH.length) (bif (aD==(aH.getD i1.toNat 0)) then(some (.done (.inr i1))) else(some (.next (A9 (i1+1)))))) else(some (.done (.inl ()))))
def Pa(Γ:G7)(aH:List Int)(aD:Int)(r:Int):Exit->St->Prop:=fK Tryz.prog Γ Tryz.f131.results.toList [] (.int .i64 r) []
def Do(aH:List Int)(aD:Int):Option Int:=
 ((Am (Bm aH aD) (0:Int)).bind (fun x3=>(match x3 with|(.inl _)=>(some (-1:Int))|(.inr r5)=>(some r5))))
theorem Oy(aH:List Int)(aD:Int)(r:Int)(h:Do aH aD=some r):Spec Tryz.prog 131 [(Mp aH),(Z7 aD)] [] (.int .i64 r) []:=by
 refine Ab mix Tryz.func131 (fun Γ hq=>?_);unfold Do at h;refine Aj hq Id [] ?_;refine Aj hq zzN68 [] ?_;obtain⟨x3,hx3,h⟩:=bind_some h;refine gL hq hx3 zzN68 [] (fun u i1=>(Gn u [(8,(Z7 i1))] [])) (fun u x_=>match x_ with|(.inl _)=>aG Γ (.exit 0) (⟨[],[],[]⟩:St)|(.inr r_)=>aR (Pa Γ aH aD r_)) ?_ ?_
 ·intro i1 y h;unfold Bm at h;refine Aj hq [0,1,7,8,9] [] ?_;refine gC h ?_ ?_<;>intro h
  ·refine Aj hq [0,1,5,7,8] [] ?_;obtain⟨hc2,h⟩:=Aa h;refine gR hq [0,1,5,7,8,16] [] [] [] (c1 hc2) ?_;refine gC h ?_ ?_<;>intro h
   ·refine Aj hq [4] [] ?_;cases h;exact gO (Ol (K1 [] (Le.refl _ _)))
   ·refine Aj hq zzN68 [] ?_;cases h;exact gN F6
  ·cases h;exact gO (Em (Er [] [] hq))
 ·clear hx3;rcases x3 with _|r5
  ·refine gA ?_;refine Aj hq [4] [] ?_;cases h;exact Dp []
  ·refine Th (fun st' hk=>?_);obtain rfl:=OI h;exact gK hk
def G4(aA:List Int)(aC:Int):Option Bool:=
 (some (bif (decide (((0:Int):Int)<=aC)) then(decide (aC<(aA.length:Int))) else false))
theorem Ry(aA:List Int)(aC:Int)(r:Bool)(h:G4 aA aC=some r):Spec Tryz.prog 133 [(Mp aA),(Z7 aC)] [] (.bool r) []:=by
 refine Ab mix Tryz.func133 (fun Γ hq=>?_);unfold G4 at h;refine Aj hq Id [] ?_;refine gR hq [4] [] [] [] (ci (gI ((decide (((0:Int):Int)<=aC))==true)) (ci (gI ((decide (((0:Int):Int)<=aC))==true)) (ci (gI ((decide (((0:Int):Int)<=aC))==true)) (c1 (Mt (decide (((0:Int):Int)<=aC))))))) ?_;cases h;exact Dp []
def Cm(aA:List Int)(aa3:Int)(aV:Int):(Int×List Int)->Option (LR (Int×List Int) (List Int ⊕ (Bool×List Int))):=
 fun((i1,l2):(Int×List Int))=>(bif (i1 !=aV) then(B1 (Bd i1 l2.length) (bif (((l2.getD i1.toNat 0):Int)!=0) then(B1 (Bd i1 l2.length) (some (.done (.inr ((((l2.getD i1.toNat 0):Int)!=(A9 (aa3+1))),l2))))) else(B1 (Bd i1 aA.length) ((G4 aA (aA.getD i1.toNat 0)).bind fun x7=>(bif (!x7) then(some (.done (.inr (false,l2)))) else(B1 (Bd i1 l2.length) (B1 (Bd i1 aA.length) (some (.next ((aA.getD i1.toNat 0),(l2.set i1.toNat (A9 (aa3+1))))))))))))) else(some (.done (.inl l2))))
def K_dom_leads(Γ:G7)(aA:List Int)(aaG:List Int)(aa3:Int)(aV:Int)(r:(Bool×List Int)):Exit->St->Prop:=fK Tryz.prog Γ Tryz.f132.results.toList [(Z4 34001 aaG)] (.bool r.1) [(Z4 34001 r.2)]
def Lv(aA:List Int)(aaG:List Int)(aa3:Int)(aV:Int):Option (Bool×List Int):=
 ((Am (Cm aA aa3 aV) (aa3,aaG)).bind (fun x10=>(match x10 with|(.inl l3)=>(some (true,l3))|(.inr r12)=>(some r12))))
theorem ok_dom_leads(aA:List Int)(aaG:List Int)(aa3:Int)(aV:Int)(r:(Bool×List Int))(h:Lv aA aaG aa3 aV=some r):Spec Tryz.prog 132 [(Mp aA),(.vsl 34001 aaG.length),(Z7 aa3),(Z7 aV)] [(Z4 34001 aaG)] (.bool r.1) [(Z4 34001 r.2)]:=by
 refine Ab mix Tryz.func132 (fun Γ hq=>?_);unfold Lv at h;refine Aj hq [0,1,2,3] [34001] ?_;refine Aj hq [0,1,2,3,9] [34001] ?_;refine Aj hq zzN78 [34001] ?_;obtain⟨x10,hx10,h⟩:=bind_some h;refine gL hq hx10 zzN78 [34001] (fun u (i1,l2)=>(Gn u [(1,(.vsl 34001 l2.length)),(10,(Z7 i1))] [(Z4 34001 l2)])) (fun u x_=>match x_ with|(.inl l3)=>aG Γ (.exit 0) (⟨[],[(Z4 34001 l3)],[]⟩:St)|(.inr r_)=>aR (K_dom_leads Γ aA aaG aa3 aV r_)) ?_ ?_
 ·rintro⟨i1,l2⟩ y h;unfold Cm at h;refine Aj hq [0,1,3,9,10,16] [34001] ?_;refine gC h ?_ ?_<;>intro h
  ·obtain⟨hc4,h⟩:=Aa h;refine gR hq [0,1,3,9,10,25] [34001] [] [] (ci hc4 (c1 (Eq.refl l2.length))) ?_;refine gC h ?_ ?_<;>intro h
   ·obtain⟨hc5,h⟩:=Aa h;refine gR hq [8] [34001] [] [] (ci hc5 (c1 (Eq.refl l2.length))) ?_;cases h;exact gO (Ol (K1 zzN102 (Le.refl _ _)))
   ·obtain⟨hc6,h⟩:=Aa h;obtain⟨x7,hx7,h⟩:=bind_some h;refine gR hq [0,1,3,9,10,38] [34001] [] [(Z2 x7)] (ci hc6 (c1 (Ry aA (aA.getD i1.toNat 0) x7 hx7))) ?_;refine gC h ?_ ?_<;>intro h
    ·refine Aj hq [8] [34001] ?_;cases h;exact gO (Ol (K1 zzN102 (Le.refl _ _)))
    ·obtain⟨hc8,h⟩:=Aa h;refine gR hq zzN78 [34001] [] [] (ci hc8 (c1 (Eq.refl l2.length))) ?_;refine Om (Le.trans (Vq 34001 (show ∀ k_,k_<l2.length->AVleL ((fun i_=>AV.eraseAll (fun n_=>Df n_ [34001]) ((Ld (fun i=>Aw (l2.getD i 0)) i1.toNat 0 [(.int .i64 (A9 (aa3+1)))]) i_)) k_) ((fun i=>Aw ((l2.set i1.toNat (A9 (aa3+1))).getD i 0)) k_) from(Cv (Ic ..).symm (fun k_ hk_=>(Co (AV.eraseAll (fun n_=>Df n_ [34001])) ((Lx (fun _ _=>rfl) (Ns hc8) rfl) k_ hk_)).trans rfl)))) (Vr (fun(k_:Nat) u=>(Gn u [(1,(.vsl 34001 k_))] [(34001,.arr 1 3 k_ (fun i=>Aw ((l2.set i1.toNat (A9 (aa3+1))).getD i 0)))])) (show l2.length=(l2.set i1.toNat (A9 (aa3+1))).length from(Ic ..).symm))) ?_;obtain⟨hc9,h⟩:=Aa h;refine gR hq zzN78 [34001] [] [] (c1 hc9) ?_;cases h;exact gN F6
  ·cases h;exact gO (Em (Er [] [34001] hq))
 ·clear hx10;rcases x10 with l3|r12
  ·refine gA ?_;refine Aj hq [8] [34001] ?_;cases h;exact Dp zzN102
  ·refine Th (fun st' hk=>?_);obtain rfl:=OI h;exact gK hk
def D1(aA:List Int)(x1:Int):(Int×List Int)->Option (LR (Int×List Int) (Unit ⊕ Bool)):=
 fun((i3,l4):(Int×List Int))=>(bif (decide (i3<(aA.length:Int))) then(B1 (Bd i3 aA.length) ((bif ((((aA.getD i3.toNat 0):Int)!=-2)==true) then Lv aA l4 i3 x1 else some (false,[])).bind fun x6=>(B1 (((((aA.getD i3.toNat 0):Int)!=-2)==true)=true->(l4.length=x6.2.length)) (bif (bif (((aA.getD i3.toNat 0):Int)!=-2) then(!x6.1) else false) then(some (.done (.inr false))) else(some (.next ((A9 (i3+1)),(bif ((((aA.getD i3.toNat 0):Int)!=-2)==true) then x6.2 else l4)))))))) else(some (.done (.inl ()))))
def K_dom_isTree(Γ:G7)(aA:List Int)(r:Bool):Exit->St->Prop:=fK Tryz.prog Γ Tryz.f98.results.toList [] (.bool r) []
def Q97(aA:List Int)(i3:Int):=((((aA.getD i3.toNat 0):Int)!=-2)==true)
def Kn(aA:List Int):Option Bool:=
 ((Do aA (-1:Int)).bind fun x1=>(bif (decide (x1<0)) then(some false) else(B1 (0<=(aA.length:Int)/\(aA.length:Int)<=(aA.length:Int)/\(aA.length:Int)<=(room:Int)) ((Am (D1 aA x1) ((0:Int),(List.replicate (aA.length:Int).toNat (0:Int)))).bind (fun x8=>(match x8 with|(.inl _)=>(some true)|(.inr r10)=>(some r10)))))))
theorem ok_dom_isTree(aA:List Int)(r:Bool)(h:Kn aA=some r):Spec Tryz.prog 98 [(Mp aA)] [] (.bool r) []:=by
 refine Ab mix Tryz.func98 (fun Γ hq=>?_);unfold Kn at h;refine Aj hq [0] [] ?_;obtain⟨x1,hx1,h⟩:=bind_some h;refine gR hq Qr [] [] [(Z31 x1)] (c1 (Oy aA (-1:Int) x1 hx1)) ?_;refine Aj hq [0,3,9] [] ?_;refine gC h ?_ ?_<;>intro h
 ·refine Aj hq [2] [] ?_;obtain rfl:=OI h;exact Dp []
 ·obtain⟨hc2,h⟩:=Aa h;refine gR hq [0,3,4] [12] [] [] (c1 hc2) ?_;refine Om (Le.trans (Vq 12 (show ∀ k_,k_<((aA.length:Int).toNat)->AVleL ((fun i_=>AV.eraseAll (fun n_=>Df n_ [12]) ((fun _=>[Z32]) i_)) k_) ((fun i=>Aw ((List.replicate (aA.length:Int).toNat (0:Int)).getD i 0)) k_) from(fun k hk=>Vv (e:=Aw) (d:=(0:Int)) (.cons (AVle.refl _) .nil) _ k (Wa hk)))) (Vr (fun(k_:Nat) u=>(Gn u [(4,(.vsl 12 k_))] [(12,.arr 1 3 k_ (fun i=>Aw ((List.replicate (aA.length:Int).toNat (0:Int)).getD i 0)))])) (show(aA.length:Int).toNat=(List.replicate (aA.length:Int).toNat (0:Int)).length from(Ua ..).symm))) ?_;refine Aj hq zzN97 [12] ?_;obtain⟨x8,hx8,h⟩:=bind_some h;refine gL hq hx8 zzN97 [12] (fun u (i3,l4)=>(Gn u [(4,(.vsl 12 l4.length)),(15,(Z7 i3))] [(Z4 12 l4)])) (fun u x_=>match x_ with|(.inl _)=>aG Γ (.exit 0) (⟨[],[],[]⟩:St)|(.inr r_)=>aR (K_dom_isTree Γ aA r_)) ?_ ?_
  ·rintro⟨i3,l4⟩ y h;unfold D1 at h;refine Aj hq [0,3,4,14,15,16] [12] ?_;refine gC h ?_ ?_<;>intro h
   ·refine Aj hq [0,3,4,5,14,15] [12] ?_;obtain⟨hc5,h⟩:=Aa h;obtain⟨x6,hx6,h⟩:=bind_some h;obtain⟨hc7,h⟩:=Aa h;refine gR hq [0,3,4,14,15,30] [12] [] [⟨[(12,34001)],[],(.bool x6.1),[(Z4 34001 x6.2)],[],[]⟩] (ci hc5 (ci (gI (Q97 aA i3)) (ci (gI (Q97 aA i3)) (ci (gI (Q97 aA i3)) (ci (gI (Q97 aA i3)) (ci (fun(hg:(Q97 aA i3)=true)=>(ok_dom_leads aA l4 i3 x1 x6 (Cw hg hx6))) (ci (gI (Q97 aA i3)) (c1 (Mt (((aA.getD i3.toNat 0):Int)!=-2)))))))))) ?_;refine Om (Le.trans (Vq 12 (show ∀ k_,k_<(bif (Q97 aA i3) then x6.2.length else l4.length)->AVleL ((fun i_=>AV.eraseAll (fun n_=>Df n_ [12]) ((fun i=>bif (Q97 aA i3) then(fun i=>Aw (x6.2.getD i 0)) i else(fun i=>Aw (l4.getD i 0)) i) i_)) k_) ((fun i=>Aw ((bif (Q97 aA i3) then x6.2 else l4).getD i 0)) k_) from(Cv bif_len (fun k_ hk_=>(Co (AV.eraseAll (fun n_=>Df n_ [12])) ((fun _ _=>bif_row) k_ hk_)).trans rfl)))) (Le.trans (Vr (fun(k_:Nat) u=>(Gn u [] [(12,.arr 1 3 k_ (fun i=>Aw ((bif (Q97 aA i3) then x6.2 else l4).getD i 0)))])) (show(bif (Q97 aA i3) then x6.2.length else l4.length)=(bif (Q97 aA i3) then x6.2 else l4).length from bif_len)) (Vr (fun(k_:Nat) u=>(Gn u [(4,(.vsl 12 k_))] [])) (show l4.length=(bif (Q97 aA i3) then x6.2 else l4).length from(bif_was hc7))))) ?_;refine gC h ?_ ?_<;>intro h
    ·refine Aj hq [2] [] ?_;cases h;exact gO (Ol (K1 [] (Le.refl _ _)))
    ·refine Aj hq zzN97 [12] ?_;cases h;exact gN F6
   ·cases h;exact gO (Em (Er [] [] hq))
  ·clear hx8;rcases x8 with _|r10
   ·refine gA ?_;refine Aj hq [2] [] ?_;obtain rfl:=OI h;exact Dp []
   ·refine Th (fun st' hk=>?_);obtain rfl:=OI h;exact gK hk
def Hd(aA:List Int)(aC:Int):Option Bool:=
 ((G4 aA aC).bind fun x1=>(B1 ((x1==true)=true->(Bd aC aA.length)) (some (bif x1 then(((aA.getD aC.toNat 0):Int)!=-2) else false))))
theorem Qe(aA:List Int)(aC:Int)(r:Bool)(h:Hd aA aC=some r):Spec Tryz.prog 99 [(Mp aA),(Z7 aC)] [] (.bool r) []:=by
 refine Ab mix Tryz.func99 (fun Γ hq=>?_);unfold Hd at h;refine Aj hq Id [] ?_;obtain⟨x1,hx1,h⟩:=bind_some h;obtain⟨hc2,h⟩:=Aa h;refine gR hq [4] [] [] [(Z2 x1)] (ci (Ry aA aC x1 hx1) (ci (gI (x1==true)) (ci (gI (x1==true)) (ci hc2 (ci (gI (x1==true)) (ci (gI (x1==true)) (c1 (Mt x1)))))))) ?_;cases h;exact Dp []
def Lu(aA:List Int)(aX:Int)(aZ:Int):Option Bool:=
 ((Kn aA).bind fun x1=>((bif (x1==true) then Hd aA aX else some false).bind fun x2=>((bif ((bif x1 then x2 else false)==true) then Hd aA aZ else some false).bind fun x3=>(some (bif (bif x1 then x2 else false) then x3 else false)))))
theorem ok_dom_areIn(aA:List Int)(aX:Int)(aZ:Int)(r:Bool)(h:Lu aA aX aZ=some r):Spec Tryz.prog 76 [(Mp aA),(Z7 aX),(Z7 aZ)] [] (.bool r) []:=by
 refine Ab mix Tryz.func76 (fun Γ hq=>?_);unfold Lu at h;refine Aj hq [0,1,2] [] ?_;obtain⟨x1,hx1,h⟩:=bind_some h;obtain⟨x2,hx2,h⟩:=bind_some h;obtain⟨x3,hx3,h⟩:=bind_some h;refine gR hq [6] [] [] [(Z2 x1),(Z2 x2),(Z2 x3)] (ci (ok_dom_isTree aA x1 hx1) (ci (gI (x1==true)) (ci (gI (x1==true)) (ci (fun(hg:(x1==true)=true)=>(Qe aA aX x2 (Cw hg hx2))) (ci (Mt x1) (ci (gI ((bif x1 then x2 else false)==true)) (ci (gI ((bif x1 then x2 else false)==true)) (ci (fun(hg:((bif x1 then x2 else false)==true)=true)=>(Qe aA aZ x3 (Cw hg hx3))) (c1 (Mt (bif x1 then x2 else false))))))))))) ?_;cases h;exact Dp []
def K7(aA:List Int)(aX:Int)(aZ:Int):Option Bool:=
 ((Lu aA aX aZ).bind fun x1=>((bif (x1==true) then J4 aA aX aZ else some (0:Int)).bind fun x2=>(some (bif x1 then(x2==aX) else false))))
theorem ok_dom_Over(aA:List Int)(aX:Int)(aZ:Int)(r:Bool)(h:K7 aA aX aZ=some r):Spec Tryz.prog 45 [(Mp aA),(Z7 aX),(Z7 aZ)] [] (.bool r) []:=by
 refine Ab mix Tryz.func45 (fun Γ hq=>?_);unfold K7 at h;refine Aj hq [0,1,2] [] ?_;obtain⟨x1,hx1,h⟩:=bind_some h;obtain⟨x2,hx2,h⟩:=bind_some h;refine gR hq [6] [] [] [(Z2 x1),(Z31 x2)] (ci (ok_dom_areIn aA aX aZ x1 hx1) (ci (gI (x1==true)) (ci (gI (x1==true)) (ci (gI (x1==true)) (ci (fun(hg:(x1==true)=true)=>(Yf aA aX aZ x2 (Cw hg hx2))) (ci (gI (x1==true)) (ci (gI (x1==true)) (c1 (Mt x1))))))))) ?_;cases h;exact Dp []
def D9(aN:Ak)(a2:TFunc)(a7:Int)(a8:List Int)(a6:List (Int×Ad))(a4:List Ak):Option (Bool×TFunc×Int×List Int×List Ak):=
 (bif (((E5 (default:Ad) a6 aN.v).place.block:Int)==aN.place.block) then(some ((decide (((E5 (default:Ad) a6 aN.v).place.at_:Int)<aN.place.at_)),a2,a7,a8,a4)) else((K7 a8 ((E5 (default:Ad) a6 aN.v).place.block) aN.place.block).bind fun x1=>(some (x1,a2,a7,a8,a4))))
theorem Od(aN:Ak)(a2:TFunc)(a7:Int)(a8:List Int)(a6:List (Int×Ad))(a4:List Ak)(r:(Bool×TFunc×Int×List Int×List Ak))(h:D9 aN a2 a7 a8 a6 a4=some r):Spec Tryz.prog 117 [Z35,(.agg (Jg aN))] [(Z1 a2.Params a2.Ret a2.Blocks a7 a8 9100005 a4),(Z8 a4.length),(9100005,.obj (.map false .i64 (C6 (fun(v_:Ad)=>((Pb v_):AV)) a6)))] (.bool r.1) [(Z1 r.2.1.Params r.2.1.Ret r.2.1.Blocks r.2.2.1 r.2.2.2.1 9100005 r.2.2.2.2),(Z8 r.2.2.2.2.length),(9100005,.obj (.map false .i64 (C6 (fun(v_:Ad)=>((Pb v_):AV)) a6)))]:=by
 refine Ab mix Tryz.func117 (fun Γ hq=>?_);unfold D9 at h;refine Aj hq Qr Ma ?_;refine gR hq [0,3,5] Wl [(12,(Z20 a6 aN.v))] [] (c1 (show(AVle (E5 Z14 (C6 (fun(v_:Ad)=>((Pb v_):AV)) a6) aN.v) (Z20 a6 aN.v)) from(mget_le (f:=(fun(v_:Ad)=>((Pb v_):AV))) (l:=a6) (AVle.refl _) rfl))) ?_;refine Aj hq [0,3,5,19] Wl ?_;refine gC h ?_ ?_<;>intro h
 ·refine Aj hq [4] Fy ?_;cases h;exact Dp Tn
 ·obtain⟨x1,hx1,h⟩:=bind_some h;refine gR hq [4] Fy [] [(Z2 x1)] (c1 (ok_dom_Over a8 ((E5 (default:Ad) a6 aN.v).place.block) aN.place.block x1 hx1)) ?_;cases h;exact Dp Tn
def Cj(a6:List (Int×Ad))(x8:(TFunc×Int×List Int×List Ak)):(Int×List Int×Int×List Ac×Int×List Int×List Ak)->Option (LR (Int×List Int×Int×List Ac×Int×List Int×List Ak) ((List Int×Int×List Ac×Int×List Int×List Ak) ⊕ (List Int×Int×List Ac×Int×List Int×List Ak))):=
 fun((i9,l10,i11,l12,i13,l14,l15):(Int×List Int×Int×List Ac×Int×List Int×List Ak))=>(bif (decide (i9<(x8.2.2.2.length:Int))) then(B1 (Bd i9 x8.2.2.2.length) ((Fq (x8.2.2.2.getD i9.toNat default) (⟨l10,i11,l12⟩:TFunc) i13 l14 a6 l15).bind fun x29=>(bif (!x29.1) then(some (.done (.inr (x29.2.1.Params,x29.2.1.Ret,x29.2.1.Blocks,x29.2.2.1,x29.2.2.2.1,x29.2.2.2.2)))) else(some (.next ((A9 (i9+1)),x29.2.1.Params,x29.2.1.Ret,x29.2.1.Blocks,x29.2.2.1,x29.2.2.2.1,x29.2.2.2.2)))))) else(some (.done (.inl (l10,i11,l12,i13,l14,l15)))))
def Ck(a6:List (Int×Ad))(l21:List Ak):(Int×List Int×Int×List Ac×Int×List Int×List Ak)->Option (LR (Int×List Int×Int×List Ac×Int×List Int×List Ak) ((List Int×Int×List Ac×Int×List Int×List Ak) ⊕ (List Int×Int×List Ac×Int×List Int×List Ak))):=
 fun((i32,l33,i34,l35,i36,l37,l38):(Int×List Int×Int×List Ac×Int×List Int×List Ak))=>(bif (decide (i32<(l21.length:Int))) then(B1 (Bd i32 l21.length) ((Gz (l21.getD i32.toNat default) (⟨l33,i34,l35⟩:TFunc) i36 l37 a6 l38).bind fun x52=>(bif (!x52.1) then(some (.done (.inr (x52.2.1.Params,x52.2.1.Ret,x52.2.1.Blocks,x52.2.2.1,x52.2.2.2.1,x52.2.2.2.2)))) else(some (.next ((A9 (i32+1)),x52.2.1.Params,x52.2.1.Ret,x52.2.1.Blocks,x52.2.2.1,x52.2.2.2.1,x52.2.2.2.2)))))) else(some (.done (.inl (l33,i34,l35,i36,l37,l38)))))
def Cl(a6:List (Int×Ad))(l44:List Ak):(Int×List Int×Int×List Ac×Int×List Int×List Ak)->Option (LR (Int×List Int×Int×List Ac×Int×List Int×List Ak) ((List Int×Int×List Ac×Int×List Int×List Ak) ⊕ (List Int×Int×List Ac×Int×List Int×List Ak))):=
 fun((i55,l56,i57,l58,i59,l60,l61):(Int×List Int×Int×List Ac×Int×List Int×List Ak))=>(bif (decide (i55<(l44.length:Int))) then(B1 (Bd i55 l44.length) ((D9 (l44.getD i55.toNat default) (⟨l56,i57,l58⟩:TFunc) i59 l60 a6 l61).bind fun x75=>(bif (!x75.1) then(some (.done (.inr (x75.2.1.Params,x75.2.1.Ret,x75.2.1.Blocks,x75.2.2.1,x75.2.2.2.1,x75.2.2.2.2)))) else(some (.next ((A9 (i55+1)),x75.2.1.Params,x75.2.1.Ret,x75.2.1.Blocks,x75.2.2.1,x75.2.2.2.1,x75.2.2.2.2)))))) else(some (.done (.inl (l56,i57,l58,i59,l60,l61)))))
def Ha :(Int×List Int×Int×List Ac×Int×List Int×List Ak)->Option (LR (Int×List Int×Int×List Ac×Int×List Int×List Ak) (Int×TFunc×Int×List Int×List Ak)):=
 fun(s_:(Int×List Int×Int×List Ac×Int×List Int×List Ak))=>match s_ with|(i1,l2,i3,l4,i5,l6,l7)=>(some (.done (i1,(⟨l2,i3,l4⟩:TFunc),i5,l6,l7)))
def Rd(Γ:G7)(a2:TFunc)(a7:Int)(a8:List Int)(a6:List (Int×Ad))(a4:List Ak)(r:(Int×TFunc×Int×List Int×List Ak)):Exit->St->Prop:=fK Tryz.prog Γ Tryz.f93.results.toList [(Z1 a2.Params a2.Ret a2.Blocks a7 a8 9100005 a4),(Z8 a4.length),(9100005,.obj (.map false .i64 (C6 (fun(v_:Ad)=>((Pb v_):AV)) a6)))] (Z7 r.1) [(Z1 r.2.1.Params r.2.1.Ret r.2.1.Blocks r.2.2.1 r.2.2.2.1 9100005 r.2.2.2.2),(Z8 r.2.2.2.2.length),(9100005,.obj (.map false .i64 (C6 (fun(v_:Ad)=>((Pb v_):AV)) a6)))]
def Q98(a6:List (Int×Ad)):=(C6 (fun(v_:Ad)=>((Pb v_):AV)) a6)
def Fi(a2:TFunc)(a7:Int)(a8:List Int)(a6:List (Int×Ad))(a4:List Ak):Option (Int×TFunc×Int×List Int×List Ak):=
 ((Li (S:=(Int×List Int×Int×List Ac×Int×List Int×List Ak)) (X:=(Int×TFunc×Int×List Int×List Ak)) ((D7 a2 a7 a8 a6 a4).bind fun x8=>((Am (Cj a6 x8) ((0:Int),x8.1.Params,x8.1.Ret,x8.1.Blocks,x8.2.1,x8.2.2.1,x8.2.2.2)).bind (fun x30=>(match x30 with|(.inl (l16,i17,l18,i19,l20,l21))=>((Am (Ck a6 l21) ((0:Int),l16,i17,l18,i19,l20,l21)).bind (fun x53=>(match x53 with|(.inl (l39,i40,l41,i42,l43,l44))=>((Am (Cl a6 l44) ((0:Int),l39,i40,l41,i42,l43,l44)).bind (fun x76=>(match x76 with|(.inl (l62,i63,l64,i65,l66,l67))=>(some (.done ((0:Int),(⟨l62,i63,l64⟩:TFunc),i65,l66,l67)))|(.inr (l68,i69,l70,i71,l72,l73))=>(some (.next ((7:Int),l68,i69,l70,i71,l72,l73))))))|(.inr (l45,i46,l47,i48,l49,l50))=>(some (.next ((6:Int),l45,i46,l47,i48,l49,l50))))))|(.inr (l22,i23,l24,i25,l26,l27))=>(some (.next ((7:Int),l22,i23,l24,i25,l26,l27))))))) Ha).bind (fun x81=>(some x81)))
theorem Qw(a2:TFunc)(a7:Int)(a8:List Int)(a6:List (Int×Ad))(a4:List Ak)(r:(Int×TFunc×Int×List Int×List Ak))(h:Fi a2 a7 a8 a6 a4=some r):Spec Tryz.prog 93 [Z35] [(Z1 a2.Params a2.Ret a2.Blocks a7 a8 9100005 a4),(Z8 a4.length),(9100005,.obj (.map false .i64 (C6 (fun(v_:Ad)=>((Pb v_):AV)) a6)))] (Z7 r.1) [(Z1 r.2.1.Params r.2.1.Ret r.2.1.Blocks r.2.2.1 r.2.2.2.1 9100005 r.2.2.2.2),(Z8 r.2.2.2.2.length),(9100005,.obj (.map false .i64 (C6 (fun(v_:Ad)=>((Pb v_):AV)) a6)))]:=by
 refine Ab mix Tryz.func93 (fun Γ hq=>?_);unfold Fi at h;refine Aj hq [0] Fy ?_;obtain⟨x81,hx81,h⟩:=bind_some h;refine gS hx81 (fun(s_:(Int×List Int×Int×List Ac×Int×List Int×List Ak))=>match s_ with|(i1,l2,i3,l4,i5,l6,l7)=>0) (fun(s_:(Int×List Int×Int×List Ac×Int×List Int×List Ak))=>match s_ with|(i1,l2,i3,l4,i5,l6,l7)=>(⟨[(4,(Z7 i1))],(Z12 l2 i3 l4 i5 l6 l7 l7.length (Q98 a6)),[]⟩:St)) (fun r_=>aR (Rd Γ a2 a7 a8 a6 a4 r_)) ?_ ?_ ?_
 ·clear h hx81;intro y h;obtain⟨x8,hx8,h⟩:=bind_some h;refine gR hq [0] Fy [] [(Z16 x8.1.Params x8.1.Ret x8.1.Blocks x8.2.1 x8.2.2.1 x8.2.2.2 x8.2.2.2.length (Q98 a6))] (c1 (Ob a2 a7 a8 a6 a4 x8 hx8)) ?_;refine Aj hq Qr Ma ?_;refine Aj hq Qr Ma ?_;refine Aj hq Ui Fy ?_;refine gU 3 ?_;refine Aj hq zzN83 Fy ?_;refine gCt true ?_;refine gR hq zzN113 Ok [] [] (c1 (show(Bd (0:Int) 3) from(by decide))) ?_;refine Aj hq zzN98 Ok ?_;refine Aj hq Wm Ok ?_;obtain⟨x30,hx30,h⟩:=bind_some h;refine gL hq hx30 Wm Ok (fun u (i9,l10,i11,l12,i13,l14,l15)=>(Gn u [(32,(Z7 i9))] (Z26 l10 i11 l12 i13 l14 l15 l15.length))) (fun u x_=>match x_ with|(.inl (l16,i17,l18,i19,l20,l21))=>aG Γ (.exit 2) (Xk Ui Fy u [] (Z26 l16 i17 l18 i19 l20 l21 l21.length))|(.inr (l22,i23,l24,i25,l26,l27))=>aG Γ (.goto 0) (Xk [4] Fy u [] (Z26 l22 i23 l24 i25 l26 l27 l27.length))) ?_ ?_
  ·rintro⟨i9,l10,i11,l12,i13,l14,l15⟩ y h;unfold Cj at h;refine Aj hq zzN49 Ok ?_;refine gC h ?_ ?_<;>intro h
   ·obtain⟨hc28,h⟩:=Aa h;refine gR hq zzN53 zzN58 [] [] (c1 hc28) ?_;obtain⟨x29,hx29,h⟩:=bind_some h;refine gR hq zzN50 Ok [] [(Z42 x29.1 x29.2.1.Params x29.2.1.Ret x29.2.1.Blocks x29.2.2.1 x29.2.2.2.1 x29.2.2.2.2 x29.2.2.2.2.length (Q98 a6))] (c1 (Oe (x8.2.2.2.getD i9.toNat default) (⟨l10,i11,l12⟩:TFunc) i13 l14 a6 l15 x29 hx29)) ?_;refine gC h ?_ ?_<;>intro h
    ·cases h;exact gO (Em (Er [4] Fy hq))
    ·refine Aj hq Wm Ok ?_;cases h;exact gN F6
   ·cases h;exact gO (Em (Er Ui Fy hq))
  ·clear hx30;rcases x30 with⟨l16,i17,l18,i19,l20,l21⟩|⟨l22,i23,l24,i25,l26,l27⟩
   ·refine gA ?_;refine Aj hq Ui Fy ?_;refine Aj hq zzN83 Fy ?_;refine gCt true ?_;refine gR hq zzN113 Ok [] [] (c1 (show(Bd (1:Int) 3) from(by decide))) ?_;refine Aj hq zzN98 Ok ?_;refine Aj hq Wm Ok ?_;obtain⟨x53,hx53,h⟩:=bind_some h;refine gL hq hx53 Wm Ok (fun u (i32,l33,i34,l35,i36,l37,l38)=>(Gn u [(32,(Z7 i32))] (Z26 l33 i34 l35 i36 l37 l38 l38.length))) (fun u x_=>match x_ with|(.inl (l39,i40,l41,i42,l43,l44))=>aG Γ (.exit 2) (Xk Ui Fy u [] (Z26 l39 i40 l41 i42 l43 l44 l44.length))|(.inr (l45,i46,l47,i48,l49,l50))=>aG Γ (.goto 0) (Xk [4] Fy u [] (Z26 l45 i46 l47 i48 l49 l50 l50.length))) ?_ ?_
    ·rintro⟨i32,l33,i34,l35,i36,l37,l38⟩ y h;unfold Ck at h;refine Aj hq zzN49 Ok ?_;refine gC h ?_ ?_<;>intro h
     ·obtain⟨hc51,h⟩:=Aa h;refine gR hq zzN53 zzN58 [] [] (c1 hc51) ?_;obtain⟨x52,hx52,h⟩:=bind_some h;refine gR hq zzN50 Ok [] [(Z42 x52.1 x52.2.1.Params x52.2.1.Ret x52.2.1.Blocks x52.2.2.1 x52.2.2.2.1 x52.2.2.2.2 x52.2.2.2.2.length (Q98 a6))] (c1 (Qu (l21.getD i32.toNat default) (⟨l33,i34,l35⟩:TFunc) i36 l37 a6 l38 x52 hx52)) ?_;refine gC h ?_ ?_<;>intro h
      ·cases h;exact gO (Em (Er [4] Fy hq))
      ·refine Aj hq Wm Ok ?_;cases h;exact gN F6
     ·cases h;exact gO (Em (Er Ui Fy hq))
    ·clear hx53;rcases x53 with⟨l39,i40,l41,i42,l43,l44⟩|⟨l45,i46,l47,i48,l49,l50⟩
     ·refine gA ?_;refine Aj hq Ui Fy ?_;refine Aj hq zzN83 Fy ?_;refine gCt true ?_;refine gR hq zzN113 Ok [] [] (c1 (show(Bd (2:Int) 3) from(by decide))) ?_;refine Aj hq zzN98 Ok ?_;refine Aj hq Wm Ok ?_;obtain⟨x76,hx76,h⟩:=bind_some h;refine gL hq hx76 Wm Ok (fun u (i55,l56,i57,l58,i59,l60,l61)=>(Gn u [(32,(Z7 i55))] (Z26 l56 i57 l58 i59 l60 l61 l61.length))) (fun u x_=>match x_ with|(.inl (l62,i63,l64,i65,l66,l67))=>aG Γ (.exit 2) (Xk Ui Fy u [] (Z26 l62 i63 l64 i65 l66 l67 l67.length))|(.inr (l68,i69,l70,i71,l72,l73))=>aG Γ (.goto 0) (Xk [4] Fy u [] (Z26 l68 i69 l70 i71 l72 l73 l73.length))) ?_ ?_
      ·rintro⟨i55,l56,i57,l58,i59,l60,l61⟩ y h;unfold Cl at h;refine Aj hq zzN49 Ok ?_;refine gC h ?_ ?_<;>intro h
       ·obtain⟨hc74,h⟩:=Aa h;refine gR hq zzN53 zzN58 [] [] (c1 hc74) ?_;obtain⟨x75,hx75,h⟩:=bind_some h;refine gR hq zzN50 Ok [] [(Z42 x75.1 x75.2.1.Params x75.2.1.Ret x75.2.1.Blocks x75.2.2.1 x75.2.2.2.1 x75.2.2.2.2 x75.2.2.2.2.length (Q98 a6))] (c1 (Od (l44.getD i55.toNat default) (⟨l56,i57,l58⟩:TFunc) i59 l60 a6 l61 x75 hx75)) ?_;refine gC h ?_ ?_<;>intro h
        ·cases h;exact gO (Em (Er [4] Fy hq))
        ·refine Aj hq Wm Ok ?_;cases h;exact gN F6
       ·cases h;exact gO (Em (Er Ui Fy hq))
      ·clear hx76;rcases x76 with⟨l62,i63,l64,i65,l66,l67⟩|⟨l68,i69,l70,i71,l72,l73⟩
       ·refine gA ?_;refine Aj hq Ui Fy ?_;refine Aj hq zzN83 Fy ?_;refine gCt false ?_;refine Aj hq [2] Fy ?_;cases h;exact gJo (Ol (K1 Tn (Le.refl _ _)))
       ·refine gA' (fun st' hl78=>?_);cases h;exact gJn (Le.trans hl78 F6)
     ·refine gA' (fun st' hl79=>?_);cases h;exact gJn (Le.trans hl79 F6)
   ·refine gA' (fun st' hl80=>?_);cases h;exact gJn (Le.trans hl80 F6)
 ·clear h hx81;rintro⟨i1,l2,i3,l4,i5,l6,l7⟩ y h;unfold Ha at h;refine Aj hq [2] Fy ?_;cases h;exact gJo (Ol (K1 Tn (Le.refl _ _)))
 ·clear hx81;refine Th (fun st' hk=>?_);obtain rfl:=OI h;exact gK hk
def Q104:=(fun(v_:Ad)=>((Pb v_):AV))
def Q101(x1:(Int×TFunc×Int×List Int×List Ak)):List (Nat×Own):=(Z3 x1.2.1.Params x1.2.1.Ret x1.2.1.Blocks x1.2.2.1 x1.2.2.2.1 x1.2.2.2.2 x1.2.2.2.2.length)
def Q102(x2:(Int×TFunc×Int×List Int×List Ak)):List (Nat×Own):=(Z3 x2.2.1.Params x2.2.1.Ret x2.2.1.Blocks x2.2.2.1 x2.2.2.2.1 x2.2.2.2.2 x2.2.2.2.2.length)
def Q103(x3:(Int×TFunc×Int×List Int×List Ak)):List (Nat×Own):=(Z3 x3.2.1.Params x3.2.1.Ret x3.2.1.Blocks x3.2.2.1 x3.2.2.2.1 x3.2.2.2.2 x3.2.2.2.2.length)
def Ex(a2:TFunc)(a7:Int)(a8:List Int)(a4:List Ak):Option (Int×TFunc×Int×List Int×List Ak×List (Int×Ad)):=
 ((Fh a2 a7 a8 a4).bind fun x1=>(bif (x1.1 !=0) then(some (x1.1,x1.2.1,x1.2.2.1,x1.2.2.2.1,x1.2.2.2.2,([]:List (Int×Ad)))) else((Ej x1.2.1 x1.2.2.1 x1.2.2.2.1 x1.2.2.2.2).bind fun x2=>(bif (x2.1 !=0) then(some (x2.1,x2.2.1,x2.2.2.1,x2.2.2.2.1,x2.2.2.2.2,([]:List (Int×Ad)))) else((Ew x2.2.1 x2.2.2.1 x2.2.2.2.1 x2.2.2.2.2).bind fun x3=>(bif (x3.1 !=0) then(some (x3.1,x3.2.1,x3.2.2.1,x3.2.2.2.1,x3.2.2.2.2,([]:List (Int×Ad)))) else((D8 x3.2.1 x3.2.2.1 x3.2.2.2.1 x3.2.2.2.2).bind fun x4=>(bif (x4.1 !=0) then(some (x4.1,x4.2.1,x4.2.2.1,x4.2.2.2.1,x4.2.2.2.2.1,x4.2.2.2.2.2)) else((Fi x4.2.1 x4.2.2.1 x4.2.2.2.1 x4.2.2.2.2.2 x4.2.2.2.2.1).bind fun x5=>(bif (x5.1 !=0) then(some (x5.1,x5.2.1,x5.2.2.1,x5.2.2.2.1,x5.2.2.2.2,x4.2.2.2.2.2)) else(some ((0:Int),x5.2.1,x5.2.2.1,x5.2.2.2.1,x5.2.2.2.2,x4.2.2.2.2.2))))))))))))
theorem Pt(a2:TFunc)(a7:Int)(a8:List Int)(a4:List Ak)(r:(Int×TFunc×Int×List Int×List Ak×List (Int×Ad)))(h:Ex a2 a7 a8 a4=some r):Spec Tryz.prog 59 [Z35] (Z3 a2.Params a2.Ret a2.Blocks a7 a8 a4 a4.length) (Z7 r.1) [(Z1 r.2.1.Params r.2.1.Ret r.2.1.Blocks r.2.2.1 r.2.2.2.1 9200005 r.2.2.2.2.1),(Z8 r.2.2.2.2.1.length),(9200005,.obj (.map false .i64 (C6 (fun(v_:Ad)=>((Pb v_):AV)) r.2.2.2.2.2)))]:=by
 refine Ab mix Tryz.func59 (fun Γ hq=>?_);unfold Ex at h;refine Aj hq [0] F1 ?_;refine Aj hq [3] zzN59 ?_;refine Aj hq Xx F1 ?_;refine gU 5 ?_;refine Aj hq zzN69 F1 ?_;refine gCt true ?_;refine gR hq zzN86 F1 [] [] (c1 (show(Bd (0:Int) 5) from(by decide))) ?_;obtain⟨x1,hx1,h⟩:=bind_some h;refine gR hq zzN87 F1 [] [(Z52 x1.1 (Q101 x1))] (c1 (Qv a2 a7 a8 a4 x1 hx1)) ?_;refine Aj hq zzN64 F1 ?_;refine gC h ?_ ?_<;>intro h
 ·refine Aj hq [2] F1 ?_;refine Wo (⟨[(2,(Z7 x1.1))],(Q101 x1),[]⟩:St) ?_;cases h;exact gK (e:=.ret) (K1 zzN26 (Le.trans (Po (r:=30000) (j:=5) (nm:=9300005) .i64 rfl rfl (nl rfl) rfl) (Er (st':=⟨[(2,(Z7 x1.1))],[(Z1 x1.2.1.Params x1.2.1.Ret x1.2.1.Blocks x1.2.2.1 x1.2.2.2.1 9300005 x1.2.2.2.2),(Z8 x1.2.2.2.2.length),(9300005,.obj (.map false .i64 (C6 Q104 ([]:List (Int×Ad)))))],[]⟩) [2] zzN75 hq)))
 ·refine Aj hq Xx F1 ?_;refine Aj hq zzN69 F1 ?_;refine gCt true ?_;refine gR hq zzN86 F1 [] [] (c1 (show(Bd (1:Int) 5) from(by decide))) ?_;obtain⟨x2,hx2,h⟩:=bind_some h;refine gR hq zzN87 F1 [] [(Z52 x2.1 (Q102 x2))] (c1 (Ow x1.2.1 x1.2.2.1 x1.2.2.2.1 x1.2.2.2.2 x2 hx2)) ?_;refine Aj hq zzN64 F1 ?_;refine gC h ?_ ?_<;>intro h
  ·refine Aj hq [2] F1 ?_;refine Wo (⟨[(2,(Z7 x2.1))],(Q102 x2),[]⟩:St) ?_;cases h;exact gK (e:=.ret) (K1 zzN26 (Le.trans (Po (r:=30000) (j:=5) (nm:=9300005) .i64 rfl rfl (nl rfl) rfl) (Er (st':=⟨[(2,(Z7 x2.1))],[(Z1 x2.2.1.Params x2.2.1.Ret x2.2.1.Blocks x2.2.2.1 x2.2.2.2.1 9300005 x2.2.2.2.2),(Z8 x2.2.2.2.2.length),(9300005,.obj (.map false .i64 (C6 Q104 ([]:List (Int×Ad)))))],[]⟩) [2] zzN75 hq)))
  ·refine Aj hq Xx F1 ?_;refine Aj hq zzN69 F1 ?_;refine gCt true ?_;refine gR hq zzN86 F1 [] [] (c1 (show(Bd (2:Int) 5) from(by decide))) ?_;obtain⟨x3,hx3,h⟩:=bind_some h;refine gR hq zzN87 F1 [] [(Z52 x3.1 (Q103 x3))] (c1 (Ps x2.2.1 x2.2.2.1 x2.2.2.2.1 x2.2.2.2.2 x3 hx3)) ?_;refine Aj hq zzN64 F1 ?_;refine gC h ?_ ?_<;>intro h
   ·refine Aj hq [2] F1 ?_;refine Wo (⟨[(2,(Z7 x3.1))],(Q103 x3),[]⟩:St) ?_;cases h;exact gK (e:=.ret) (K1 zzN26 (Le.trans (Po (r:=30000) (j:=5) (nm:=9300005) .i64 rfl rfl (nl rfl) rfl) (Er (st':=⟨[(2,(Z7 x3.1))],[(Z1 x3.2.1.Params x3.2.1.Ret x3.2.1.Blocks x3.2.2.1 x3.2.2.2.1 9300005 x3.2.2.2.2),(Z8 x3.2.2.2.2.length),(9300005,.obj (.map false .i64 (C6 Q104 ([]:List (Int×Ad)))))],[]⟩) [2] zzN75 hq)))
   ·refine Aj hq Xx F1 ?_;refine Aj hq zzN69 F1 ?_;refine gCt true ?_;refine gR hq zzN86 F1 [] [] (c1 (show(Bd (3:Int) 5) from(by decide))) ?_;obtain⟨x4,hx4,h⟩:=bind_some h;refine gR hq zzN87 Qo [] [⟨Za,[(9200005,13000005)],(Z7 x4.1),[(Z1 x4.2.1.Params x4.2.1.Ret x4.2.1.Blocks x4.2.2.1 x4.2.2.2.1 9200005 x4.2.2.2.2.1),(Z8 x4.2.2.2.2.1.length),(9200005,.obj (.map false .i64 (C6 Q104 x4.2.2.2.2.2)))],[],[]⟩] (c1 (Oc x3.2.1 x3.2.2.1 x3.2.2.2.1 x3.2.2.2.2 x4 hx4)) ?_;refine Aj hq zzN64 Qo ?_;refine gC h ?_ ?_<;>intro h
    ·refine Aj hq [2] Qo ?_;cases h;exact Dp zzN25
    ·refine Aj hq Xx Qo ?_;refine Aj hq zzN69 Qo ?_;refine gCt true ?_;refine gR hq zzN86 Qo [] [] (c1 (show(Bd (4:Int) 5) from(by decide))) ?_;obtain⟨x5,hx5,h⟩:=bind_some h;refine gR hq zzN87 Qo [] [⟨[(30000,30000),(37006,37006),(13000005,9100005)],[],(Z7 x5.1),[(Z1 x5.2.1.Params x5.2.1.Ret x5.2.1.Blocks x5.2.2.1 x5.2.2.2.1 9100005 x5.2.2.2.2),(Z8 x5.2.2.2.2.length),(9100005,.obj (.map false .i64 (C6 Q104 x4.2.2.2.2.2)))],[],[]⟩] (c1 (Qw x4.2.1 x4.2.2.1 x4.2.2.2.1 x4.2.2.2.2.2 x4.2.2.2.2.1 x5 hx5)) ?_;refine Aj hq zzN64 Qo ?_;refine gC h ?_ ?_<;>intro h
     ·refine Aj hq [2] Qo ?_;cases h;exact Dp zzN25
     ·refine Aj hq Xx Qo ?_;refine Aj hq zzN69 Qo ?_;refine gCt false ?_;refine Aj hq [2] Qo ?_;cases h;exact Dp zzN25
def Q107(a0:TFunc)(aO:Int):AV:=(.agg [(Mp a0.Params),(Z7 a0.Ret),(Z15 a0.Blocks),(Z7 aO),Z28,.nilm,(AV.list 5 Jg default ([]:List Ak) .exact)])
def Q106(a0:TFunc)(aO:Int):=(⟨[(5,(.ptr 5 0))],[(5,.row 103 [(Mp a0.Params),(Z7 a0.Ret),(Z15 a0.Blocks),(Z7 aO),Z28,.nilm,(AV.list 5 Jg default ([]:List Ak) .exact)])],[]⟩:St)
def Q105(a0:TFunc)(aO:Int):=(⟨[(5,(.ptr 5 0))],[(5,.row 103 [(Mp a0.Params),(Z7 a0.Ret),(Z15 a0.Blocks),(Z7 aO),Z28,.nilm,(AV.list 5 Jg default ([]:List Ak) (.own 50506))]),(50506,.tok 5 149 (([]:List Ak).length))],[]⟩:St)
def Jo(a0:TFunc)(aO:Int):Option Int:=
 (bif (bif (decide (aO<0)) then true else(decide (((2:Int):Int)<aO))) then(some (1:Int)) else((Ex a0 aO ([]:List Int) ([]:List Ak)).bind fun x1=>(some x1.1)))
theorem ok_check_Check(a0:TFunc)(aO:Int)(r:Int)(h:Jo a0 aO=some r):Spec Tryz.prog 33 [(Z41 a0),(Z7 aO)] [] (.int .i64 r) []:=by
 refine Ab mix Tryz.func33 (fun Γ hq=>?_);unfold Jo at h;refine Aj hq Su [2] ?_;refine gR hq [1,2,11] [2] [] [] (ci (gI ((decide (aO<0))==false)) (c1 (Rl (decide (aO<0))))) ?_;refine gC h ?_ ?_<;>intro h
 ·refine Aj hq [4] [] ?_;cases h;exact Dp []
 ·refine gR hq [5] [5] [(14,(Q107 a0 aO))] [] (c1 (show(AVle (.agg [(Mp a0.Params),(Z7 a0.Ret),(Z15 a0.Blocks),(Z7 aO),Z47,.nilm,Z47]) (Q107 a0 aO)) from(AVle.agg (.cons (AVle.refl _) (.cons (AVle.refl _) (.cons (AVle.refl _) (.cons (AVle.refl _) (.cons Ij (.cons (AVle.refl _) (.cons Ij .nil)))))))))) ?_;refine Wo (Q106 a0 aO) ?_;refine Om (show Le Γ _ (Q105 a0 aO) from Le.trans (Er (st':=(Q106 a0 aO)) [5] [5] hq) (Le.trans (le_tag_cell (r:=5) (j:=6) (nm:=50506) (sz':=5) (fun i=>Jg (([]:List Ak).getD i default)) 149 rfl rfl (nl rfl) rfl (.inl ⟨rfl,rfl⟩) (fun h_=>absurd h_ (by decide))) (Er (st':=(Q105 a0 aO)) [5] [5,50506] hq))) ?_;refine Om (show Le Γ _ (⟨[(5,(.ptr 5 0))],[(5,.row 103 [(Mp a0.Params),(Z7 a0.Ret),(Z15 a0.Blocks),(Z7 aO),(AV.list 1 Aw 0 ([]:List Int) .none),.nilm,(AV.list 5 Jg default ([]:List Ak) (.own 50506))]),(50506,.tok 5 149 (([]:List Ak).length))],[]⟩:St) from Le.trans (Er (st':=(Q105 a0 aO)) [5] [5,50506] hq) (Qc (.cons (AVle.refl _) .nil) (.row (.cons (AVle.refl _) (.cons (AVle.refl _) (.cons (AVle.refl _) (.cons (AVle.refl _) (.cons AVle.untag (.cons (AVle.refl _) (.cons (AVle.refl _) .nil))))))) (.same .nil)))) ?_;obtain⟨x1,hx1,h⟩:=bind_some h;refine gR hq [4] [] [] [⟨[(5,30000),(50506,37006)],[(9200005,10000505)],(Z7 x1.1),[(Z1 x1.2.1.Params x1.2.1.Ret x1.2.1.Blocks x1.2.2.1 x1.2.2.2.1 9200005 x1.2.2.2.2.1),(Z8 x1.2.2.2.2.1.length),(9200005,.obj (.map false .i64 (C6 (fun(v_:Ad)=>((Pb v_):AV)) x1.2.2.2.2.2)))],[],[]⟩] (c1 (Pt a0 aO ([]:List Int) ([]:List Ak) x1 hx1)) ?_;cases h;exact Dp []
def Jy(aaI:List Ac)(aaJ:List (List Int))(aC:Int):Option Unit:=
 (some ())
theorem Xh(aaI:List Ac)(aaJ:List (List Int))(aC:Int)(r:Unit)(h:Jy aaI aaJ aC=some r):Spec Tryz.prog 34 [(Z15 aaI),(Z9 aaJ),(Z7 aC)] [] (.agg [(Z6 aaI aaJ aC),(Z6 aaI aaJ aC),(Z6 aaI aaJ aC),(.clo 62 [] []),(.clo 62 [] []),(Z6 aaI aaJ aC)]) []:=by
 refine Ab mix Tryz.func34 (fun Γ hq=>?_);unfold Jy at h;refine gR hq [3,4,5,6] [6] [(3,(.rpo [])),(4,(.rpo [])),(5,(.rpo []))] [] trivial ?_;refine Aj hq [6,7] [6] ?_;refine Aj hq [6,7,8] [6] ?_;refine Aj hq [6] [6] ?_;cases h;exact Dp []
def Q109(a3:List Ac)(aM:Int):=((((a3.getD aM.toNat default).End.Kind:Int)!=1)==false)
def Q108(a3:List Ac)(aM:Int):=(bif (((a3.getD aM.toNat default).End.Kind:Int)!=1) then true else(decide (((0:Int):Int)<(((a3.getD aM.toNat default).Phis).length:Int))))
def Dw(aM:Int)(a3:List Ac)(aaK:List (List Int))(aaF:Int):Option (Int×Int×Bool):=
 (B1 (Bd aM a3.length) (B1 (((bif (((a3.getD aM.toNat default).End.Kind:Int)!=1) then true else(decide (((0:Int):Int)<(((a3.getD aM.toNat default).Phis).length:Int))))==false)=true->(Bd aM aaK.length)) ((bif ((bif (((a3.getD aM.toNat default).End.Kind:Int)!=1) then true else(decide (((0:Int):Int)<(((a3.getD aM.toNat default).Phis).length:Int))))==false) then Cy (aaK.getD aM.toNat []) ([aaF]:List Int) else some false).bind fun x3=>(bif (bif (bif (((a3.getD aM.toNat default).End.Kind:Int)!=1) then true else(decide (((0:Int):Int)<(((a3.getD aM.toNat default).Phis).length:Int)))) then true else(!x3)) then(some ((-1:Int),(-1:Int),false)) else(B1 (Bd (0:Int) ((a3.getD aM.toNat default).End.To).length) (some (aM,(((a3.getD aM.toNat default).End.To).getD (0:Int).toNat (0:Int)),true)))))))
theorem Hz(aM:Int)(a3:List Ac)(aaK:List (List Int))(aaF:Int)(r:(Int×Int×Bool))(h:Dw aM a3 aaK aaF=some r):Spec Tryz.prog 60 [(Z7 aM),(.rpo [(Z15 a3)]),(.rpo [(Z9 aaK)]),(.rpo [(Z7 aaF)])] [] (.tuple [(Z7 r.1),(Z7 r.2.1),(.bool r.2.2)]) []:=by
 refine Ab mix Tryz.func60 (fun Γ hq=>?_);unfold Dw at h;refine Aj hq [0,1,2,3] [] ?_;obtain⟨hc1,h⟩:=Aa h;refine gR hq [0,2,3,8] [8] [] [] (c1 hc1) ?_;obtain⟨hc2,h⟩:=Aa h;obtain⟨x3,hx3,h⟩:=bind_some h;refine gR hq [0,8,32] [8] [(29,(Z25 aaF))] [(Z2 x3)] (ci (gI (Q109 a3 aM)) (ci (gI (Q109 a3 aM)) (ci (gI (Q109 a3 aM)) (ci (Rl (((a3.getD aM.toNat default).End.Kind:Int)!=1)) (ci (gI ((Q108 a3 aM)==false)) (ci (gI ((Q108 a3 aM)==false)) (ci hc2 (ci (gI ((Q108 a3 aM)==false)) (ci (gI ((Q108 a3 aM)==false)) (ci (show(((Q108 a3 aM)==false)=true->(AVle (.slice 1 1 (fun i=>([[(Z7 aaF)]]:List (List AV)).getD i []) .exact) (Z25 aaF))) from(fun hg=>@(Cp 1 Aw (0:Int) ([aaF]:List Int)))) (ci (gI ((Q108 a3 aM)==false)) (ci (gI ((Q108 a3 aM)==false)) (ci (fun(hg:((Q108 a3 aM)==false)=true)=>(Hj (aaK.getD aM.toNat []) ([aaF]:List Int) x3 (Cw hg hx3))) (ci (gI ((Q108 a3 aM)==false)) (c1 (Rl (Q108 a3 aM))))))))))))))))) ?_;refine gC h ?_ ?_<;>intro h
 ·refine Aj hq zzN106 [] ?_;cases h;exact Dp []
 ·obtain⟨hc4,h⟩:=Aa h;refine gR hq zzN106 [] [] [] (c1 hc4) ?_;cases h;exact Dp []
def Q110(x2:(Int×Int×Bool))(x4:(Int×Int×Bool)):=(bif (!x2.2.2) then true else(!x4.2.2))
def G1(aC:Int)(aP:List Int)(aa7:List Ac)(aa8:List (List Int))(aa9:Int)(aaA:List Ac)(aaB:List (List Int))(aaC:Int):Option (THammock×Bool):=
 (B1 (Bd (0:Int) aP.length) ((Dw (aP.getD (0:Int).toNat (0:Int)) aa7 aa8 aa9).bind fun x2=>(B1 (Bd (1:Int) aP.length) ((Dw (aP.getD (1:Int).toNat (0:Int)) aaA aaB aaC).bind fun x4=>(bif (bif (bif (bif (!x2.2.2) then true else(!x4.2.2)) then true else(x2.2.1 !=x4.2.1)) then true else(x2.2.1==aC)) then(some ((⟨(0:Int),(0:Int),(0:Int),(0:Int)⟩:THammock),false)) else(some ((⟨aC,x2.1,x4.1,x2.2.1⟩:THammock),true)))))))
theorem Uw(aC:Int)(aP:List Int)(aa7:List Ac)(aa8:List (List Int))(aa9:Int)(aaA:List Ac)(aaB:List (List Int))(aaC:Int)(r:(THammock×Bool))(h:G1 aC aP aa7 aa8 aa9 aaA aaB aaC=some r):Spec Tryz.prog 35 [(Z7 aC),(Mp aP),(.agg [(Z6 aa7 aa8 aa9),(Z6 aaA aaB aaC)])] [] (.tuple [(Z51 r.1),(.bool r.2)]) []:=by
 refine Ab mix Tryz.func35 (fun Γ hq=>?_);unfold G1 at h;refine Aj hq zzN101 [5,6] ?_;obtain⟨hc1,h⟩:=Aa h;obtain⟨x2,hx2,h⟩:=bind_some h;refine gR hq zzN77 [5,6] [] [(Z27 x2.1 x2.2.1 x2.2.2)] (ci (show(Bd (0:Int) 2) from(by decide)) (ci hc1 (c1 (Hz (aP.getD (0:Int).toNat (0:Int)) aa7 aa8 aa9 x2 hx2)))) ?_;obtain⟨hc3,h⟩:=Aa h;obtain⟨x4,hx4,h⟩:=bind_some h;refine gR hq zzN61 [6] [] [(Z27 x4.1 x4.2.1 x4.2.2)] (ci (show(Bd (1:Int) 2) from(by decide)) (ci hc3 (c1 (Hz (aP.getD (1:Int).toNat (0:Int)) aaA aaB aaC x4 hx4)))) ?_;refine gR hq zzN84 [6] [] [] (ci (gI ((!x2.2.2)==false)) (ci (Rl (!x2.2.2)) (ci (gI ((Q110 x2 x4)==false)) (ci (gI ((Q110 x2 x4)==false)) (ci (Rl (Q110 x2 x4)) (ci (gI ((bif (Q110 x2 x4) then true else(x2.2.1 !=x4.2.1))==false)) (ci (gI ((bif (Q110 x2 x4) then true else(x2.2.1 !=x4.2.1))==false)) (c1 (Rl (bif (Q110 x2 x4) then true else(x2.2.1 !=x4.2.1))))))))))) ?_;refine gC h ?_ ?_<;>intro h
 ·refine Aj hq [6,7] [6] ?_;cases h;exact Dp []
 ·refine Aj hq [6,7] [6] ?_;cases h;exact Dp []
def Ft(aM:Int):Option (Int×Int×Bool):=
 (some ((-1:Int),aM,true))
theorem M6(aM:Int)(r:(Int×Int×Bool))(h:Ft aM=some r):Spec Tryz.prog 62 [(Z7 aM)] [] (.tuple [(Z7 r.1),(Z7 r.2.1),(.bool r.2.2)]) []:=by
 refine Ab mix Tryz.func62 (fun Γ hq=>?_);unfold Ft at h;refine Aj hq [0] [] ?_;refine Aj hq [2,3,4] [] ?_;cases h;exact Dp []
def Q111(x2:(Int×Int×Bool))(x4:(Int×Int×Bool)):=(bif (!x2.2.2) then true else(!x4.2.2))
def Fl(aC:Int)(aP:List Int)(aa7:List Ac)(aa8:List (List Int))(aa9:Int):Option (THammock×Bool):=
 (B1 (Bd (0:Int) aP.length) ((Dw (aP.getD (0:Int).toNat (0:Int)) aa7 aa8 aa9).bind fun x2=>(B1 (Bd (1:Int) aP.length) ((Ft (aP.getD (1:Int).toNat (0:Int))).bind fun x4=>(bif (bif (bif (bif (!x2.2.2) then true else(!x4.2.2)) then true else(x2.2.1 !=x4.2.1)) then true else(x2.2.1==aC)) then(some ((⟨(0:Int),(0:Int),(0:Int),(0:Int)⟩:THammock),false)) else(some ((⟨aC,x2.1,x4.1,x2.2.1⟩:THammock),true)))))))
theorem Qy(aC:Int)(aP:List Int)(aa7:List Ac)(aa8:List (List Int))(aa9:Int)(r:(THammock×Bool))(h:Fl aC aP aa7 aa8 aa9=some r):Spec Tryz.prog 35 [(Z7 aC),(Mp aP),(.agg [(Z6 aa7 aa8 aa9),(.clo 62 [] [])])] [] (.tuple [(Z51 r.1),(.bool r.2)]) []:=by
 refine Ab mix Tryz.func35 (fun Γ hq=>?_);unfold Fl at h;refine Aj hq zzN101 [5,6] ?_;obtain⟨hc1,h⟩:=Aa h;obtain⟨x2,hx2,h⟩:=bind_some h;refine gR hq zzN77 [5,6] [] [(Z27 x2.1 x2.2.1 x2.2.2)] (ci (show(Bd (0:Int) 2) from(by decide)) (ci hc1 (c1 (Hz (aP.getD (0:Int).toNat (0:Int)) aa7 aa8 aa9 x2 hx2)))) ?_;obtain⟨hc3,h⟩:=Aa h;obtain⟨x4,hx4,h⟩:=bind_some h;refine gR hq zzN61 [6] [] [(Z27 x4.1 x4.2.1 x4.2.2)] (ci (show(Bd (1:Int) 2) from(by decide)) (ci hc3 (c1 (M6 (aP.getD (1:Int).toNat (0:Int)) x4 hx4)))) ?_;refine gR hq zzN84 [6] [] [] (ci (gI ((!x2.2.2)==false)) (ci (Rl (!x2.2.2)) (ci (gI ((Q111 x2 x4)==false)) (ci (gI ((Q111 x2 x4)==false)) (ci (Rl (Q111 x2 x4)) (ci (gI ((bif (Q111 x2 x4) then true else(x2.2.1 !=x4.2.1))==false)) (ci (gI ((bif (Q111 x2 x4) then true else(x2.2.1 !=x4.2.1))==false)) (c1 (Rl (bif (Q111 x2 x4) then true else(x2.2.1 !=x4.2.1))))))))))) ?_;refine gC h ?_ ?_<;>intro h
 ·refine Aj hq [6,7] [6] ?_;cases h;exact Dp []
 ·refine Aj hq [6,7] [6] ?_;cases h;exact Dp []
def Q112(x2:(Int×Int×Bool))(x4:(Int×Int×Bool)):=(bif (!x2.2.2) then true else(!x4.2.2))
def Fm(aC:Int)(aP:List Int)(aaA:List Ac)(aaB:List (List Int))(aaC:Int):Option (THammock×Bool):=
 (B1 (Bd (0:Int) aP.length) ((Ft (aP.getD (0:Int).toNat (0:Int))).bind fun x2=>(B1 (Bd (1:Int) aP.length) ((Dw (aP.getD (1:Int).toNat (0:Int)) aaA aaB aaC).bind fun x4=>(bif (bif (bif (bif (!x2.2.2) then true else(!x4.2.2)) then true else(x2.2.1 !=x4.2.1)) then true else(x2.2.1==aC)) then(some ((⟨(0:Int),(0:Int),(0:Int),(0:Int)⟩:THammock),false)) else(some ((⟨aC,x2.1,x4.1,x2.2.1⟩:THammock),true)))))))
theorem Qz(aC:Int)(aP:List Int)(aaA:List Ac)(aaB:List (List Int))(aaC:Int)(r:(THammock×Bool))(h:Fm aC aP aaA aaB aaC=some r):Spec Tryz.prog 35 [(Z7 aC),(Mp aP),(.agg [(.clo 62 [] []),(Z6 aaA aaB aaC)])] [] (.tuple [(Z51 r.1),(.bool r.2)]) []:=by
 refine Ab mix Tryz.func35 (fun Γ hq=>?_);unfold Fm at h;refine Aj hq zzN101 [5,6] ?_;obtain⟨hc1,h⟩:=Aa h;obtain⟨x2,hx2,h⟩:=bind_some h;refine gR hq zzN77 [5,6] [] [(Z27 x2.1 x2.2.1 x2.2.2)] (ci (show(Bd (0:Int) 2) from(by decide)) (ci hc1 (c1 (M6 (aP.getD (0:Int).toNat (0:Int)) x2 hx2)))) ?_;obtain⟨hc3,h⟩:=Aa h;obtain⟨x4,hx4,h⟩:=bind_some h;refine gR hq zzN61 [6] [] [(Z27 x4.1 x4.2.1 x4.2.2)] (ci (show(Bd (1:Int) 2) from(by decide)) (ci hc3 (c1 (Hz (aP.getD (1:Int).toNat (0:Int)) aaA aaB aaC x4 hx4)))) ?_;refine gR hq zzN84 [6] [] [] (ci (gI ((!x2.2.2)==false)) (ci (Rl (!x2.2.2)) (ci (gI ((Q112 x2 x4)==false)) (ci (gI ((Q112 x2 x4)==false)) (ci (Rl (Q112 x2 x4)) (ci (gI ((bif (Q112 x2 x4) then true else(x2.2.1 !=x4.2.1))==false)) (ci (gI ((bif (Q112 x2 x4) then true else(x2.2.1 !=x4.2.1))==false)) (c1 (Rl (bif (Q112 x2 x4) then true else(x2.2.1 !=x4.2.1))))))))))) ?_;refine gC h ?_ ?_<;>intro h
 ·refine Aj hq [6,7] [6] ?_;cases h;exact Dp []
 ·refine Aj hq [6,7] [6] ?_;cases h;exact Dp []
def E3(a0:TFunc)(x2:(A3×Int)):(List THammock×Int)->Option (LR (List THammock×Int) (List THammock)):=
 fun((l3,i4):(List THammock×Int))=>(bif (decide (i4<(a0.Blocks.length:Int))) then(Option.bind (α:=List THammock) (B1 (Bd i4 a0.Blocks.length) (B1 (((((a0.Blocks.getD i4.toNat default).End.Kind:Int)!=2)==false)=true->(Bd (0:Int) ((a0.Blocks.getD i4.toNat default).End.To).length)) (B1 (((((a0.Blocks.getD i4.toNat default).End.Kind:Int)!=2)==false)=true->(Bd (1:Int) ((a0.Blocks.getD i4.toNat default).End.To).length)) (bif (bif (((a0.Blocks.getD i4.toNat default).End.Kind:Int)!=2) then true else(((((a0.Blocks.getD i4.toNat default).End.To).getD (0:Int).toNat (0:Int)):Int)==(((a0.Blocks.getD i4.toNat default).End.To).getD (1:Int).toNat (0:Int)))) then(some l3) else((Jy a0.Blocks x2.1.Pred i4).bind fun x10=>((G1 i4 ((a0.Blocks.getD i4.toNat default).End.To) a0.Blocks x2.1.Pred i4 a0.Blocks x2.1.Pred i4).bind fun x11=>(bif x11.2 then(B1 (l3.length+([x11.1]:List THammock).length<=room) (some (l3++([x11.1]:List THammock)))) else((Fl i4 ((a0.Blocks.getD i4.toNat default).End.To) a0.Blocks x2.1.Pred i4).bind fun x13=>(bif x13.2 then(B1 (l3.length+([x13.1]:List THammock).length<=room) (some (l3++([x13.1]:List THammock)))) else((Fm i4 ((a0.Blocks.getD i4.toNat default).End.To) a0.Blocks x2.1.Pred i4).bind fun x15=>(bif x15.2 then(B1 (l3.length+([x15.1]:List THammock).length<=room) (some (l3++([x15.1]:List THammock)))) else(some l3)))))))))))) (fun x17=>(some (.next (x17,(A9 (i4+1))))))) else(some (.done l3)))
def Wz :Empty->Option (LR Empty (List THammock)):=
 fun(s_:Empty)=>nomatch s_
def K_hammock_All(Γ:G7)(a0:TFunc)(r:List THammock):Exit->St->Prop:=fK Tryz.prog Γ Tryz.f18.results.toList [] (Z29 r 20000) [(20000,.tok 4 27 r.length)]
def Q119(a0:TFunc):AV:=(Z15 a0.Blocks)
def Q116:AV:=(AV.list 4 Cb default ([]:List THammock) .exact)
def Q113(a0:TFunc)(i4:Int):=((((a0.Blocks.getD i4.toNat default).End.Kind:Int)!=2)==false)
def Q117:=(⟨[(2,(AV.list 4 Cb default ([]:List THammock) (.own 6002)))],[(6002,.tok 4 27 (([]:List THammock).length))],[]⟩:St)
def Q115(a0:TFunc)(x2:(A3×Int))(i4:Int):AV:=(.clo 60 [] [(.rpo [(Q119 a0)]),(.rpo [(Z9 x2.1.Pred)]),(.rpo [(Z7 i4)])])
def Q114(a0:TFunc)(x2:(A3×Int)):=(⟨[(1,(.ptr 1 0)),(3,(.ptr 3 0)),(5,(AV.list 4 Cb default ([]:List THammock) (.own 5005))),(21,(Q119 a0)),(22,(Z49 a0.Blocks.length)),(23,Z32)],[(1,.row 25 [(Mp a0.Params),(Z7 a0.Ret),(Q119 a0)]),(3,.row 41 [(Z9 x2.1.Succ),(Z9 x2.1.Pred)]),(5005,.tok 4 27 (([]:List THammock).length))],[]⟩:St)
def Fe(a0:TFunc):Option (List THammock):=
 ((Li (S:=Empty) (X:=List THammock) ((Jo a0 (2:Int)).bind fun x1=>(bif (x1 !=0) then(some (.done ([]:List THammock))) else((K8 a0).bind fun x2=>((Am (E3 a0 x2) (([]:List THammock),(0:Int))).bind (fun x19=>(some (.done x19))))))) Wz).bind (fun x21=>(some x21)))
theorem Kr(a0:TFunc)(r:List THammock)(h:Fe a0=some r):Spec Tryz.prog 18 [(Z41 a0)] [] (Z29 r 20000) [(20000,.tok 4 27 r.length)]:=by
 refine Ab mix Tryz.func18 (fun Γ hq=>?_);unfold Fe at h;refine gR hq [1] [1] [(2,Q116)] [] (c1 (Gm 4 Cb (default:THammock))) ?_;obtain⟨x21,hx21,h⟩:=bind_some h;refine gS hx21 (fun(s_:Empty)=>nomatch s_) (fun(s_:Empty)=>nomatch s_) (fun r_=>aR (K_hammock_All Γ a0 r_)) ?_ ?_ ?_
 ·clear h hx21;intro y h;obtain⟨x1,hx1,h⟩:=bind_some h;refine gR hq [1,14] [1] [] [(Z31 x1)] (c1 (ok_check_Check a0 (2:Int) x1 hx1)) ?_;refine gC h ?_ ?_<;>intro h
  ·refine gR hq [2] [] [(2,Q116)] [] (c1 (Gm 4 Cb (default:THammock))) ?_;refine Wo (⟨[(2,Q116)],[],[]⟩:St) ?_;cases h;exact gJo (Ol (K1 [(6002,20000)] (show Le Γ _ Q117 from Le.trans (Er (st':=⟨[(2,Q116)],[],[]⟩) [2] [] hq) (Le.trans (Ww (t:=2) (nm:=6002) (sz':=4) (fun i=>Cb (([]:List THammock).getD i default)) 27 rfl rfl (.inl ⟨rfl,rfl⟩) (fun h_=>absurd h_ (by decide))) (Er (st':=Q117) [2] [6002] hq)))))
  ·obtain⟨x2,hx2,h⟩:=bind_some h;refine gR hq Qq Qq [] [⟨[],[],(.tuple [(.agg (Nq x2.1)),(Z7 x2.2)]),[],[],[]⟩] (c1 (Yg a0 x2 hx2)) ?_;refine gR hq [1,3,5] Qq [(5,Q116)] [] (c1 (Gm 4 Cb (default:THammock))) ?_;refine Aj hq Uf Qq ?_;refine Om (st':=(Q114 a0 x2)) (Le.trans (Er (st':=⟨[(1,(.ptr 1 0)),(3,(.ptr 3 0)),(5,Q116),(21,(Q119 a0)),(22,(Z49 a0.Blocks.length)),(23,Z32)],[(1,.row 25 [(Mp a0.Params),(Z7 a0.Ret),(Q119 a0)]),(3,.row 41 [(Z9 x2.1.Succ),(Z9 x2.1.Pred)])],[]⟩) Uf Qq hq) (Le.trans (Ww (t:=5) (nm:=5005) (sz':=4) (fun i=>Cb (([]:List THammock).getD i default)) 27 rfl rfl (.inl ⟨rfl,rfl⟩) (fun h_=>absurd h_ (by decide))) (Er (st':=(Q114 a0 x2)) Uf Wn hq))) ?_;obtain⟨x19,hx19,h⟩:=bind_some h;refine gL hq hx19 Uf Wn (fun u (l3,i4)=>(Gn u [(5,(Z29 l3 5005)),(23,(Z7 i4))] [(5005,.tok 4 27 l3.length)])) (fun u l5=>aG Γ (.exit 0) (⟨[(5,(Z29 l5 5005))],[(5005,.tok 4 27 l5.length)],[]⟩:St)) ?_ ?_
   ·rintro⟨l3,i4⟩ y h;unfold E3 at h;refine Aj hq [1,3,5,21,22,23,24] Wn ?_;refine gC h ?_ ?_<;>intro h
    ·obtain⟨x17,hx17,h⟩:=bind_some h;refine gJ hx17 (fun l6=>aG Γ .normal (⟨[(1,(.ptr 1 0)),(3,(.ptr 3 0)),(5,(Z29 l6 5005)),(21,(Q119 a0)),(22,(Z49 a0.Blocks.length)),(23,(Z7 i4))],[(1,.row 25 [(Mp a0.Params),(Z7 a0.Ret),(Q119 a0)]),(3,.row 41 [(Z9 x2.1.Succ),(Z9 x2.1.Pred)]),(5005,.tok 4 27 l6.length)],[]⟩:St)) ?_ ?_
     ·clear h hx17;intro y h;obtain⟨hc7,h⟩:=Aa h;refine gR hq [1,3,5,6,7,21,22,23] Uh [] [] (c1 hc7) ?_;obtain⟨hc8,h⟩:=Aa h;obtain⟨hc9,h⟩:=Aa h;refine gR hq [1,3,5,6,7,21,22,23,44] Uh [] [] (ci (gI (Q113 a0 i4)) (ci (gI (Q113 a0 i4)) (ci (gI (Q113 a0 i4)) (ci hc8 (ci (gI (Q113 a0 i4)) (ci (gI (Q113 a0 i4)) (ci (gI (Q113 a0 i4)) (ci (gI (Q113 a0 i4)) (ci hc9 (ci (gI (Q113 a0 i4)) (ci (gI (Q113 a0 i4)) (ci (gI (Q113 a0 i4)) (c1 (Rl (((a0.Blocks.getD i4.toNat default).End.Kind:Int)!=2))))))))))))))) ?_;refine gC h ?_ ?_<;>intro h
      ·obtain rfl:=OI h;exact gK (Em (Er Uf Wn hq))
      ·obtain⟨x10,hx10,h⟩:=bind_some h;refine gR hq zzN31 Uh [] [⟨[],[],(.agg [(Q115 a0 x2 i4),(Q115 a0 x2 i4),(Q115 a0 x2 i4),(.clo 62 [] []),(.clo 62 [] []),(Q115 a0 x2 i4)]),[],[],[]⟩] (c1 (Xh a0.Blocks x2.1.Pred i4 x10 hx10)) ?_;refine gU 3 ?_;refine Aj hq zzN27 Uh ?_;refine gCt true ?_;refine gR hq zzN42 zzN93 [] [] (c1 (show(Bd (0:Int) 3) from(by decide))) ?_;obtain⟨x11,hx11,h⟩:=bind_some h;refine gR hq zzN32 zzN43 [] [(Z19 x11.1 x11.2)] (c1 (Uw i4 ((a0.Blocks.getD i4.toNat default).End.To) a0.Blocks x2.1.Pred i4 a0.Blocks x2.1.Pred i4 x11 hx11)) ?_;refine Aj hq zzN33 zzN43 ?_;refine gC h ?_ ?_<;>intro h
       ·obtain⟨hc12,h⟩:=Aa h;refine gR hq Uf Wn (Z18 x11.1 l3) [] (ci (Cp 4 Cb (default:THammock) ([x11.1]:List THammock)) (ci (Eq.refl l3.length) (ci hc12 (ci (Sx 4 5005 Cb (default:THammock) l3 ([x11.1]:List THammock)) (c1 (Ie l3 ([x11.1]:List THammock))))))) ?_;cases h;exact gK (Em F6)
       ·refine Aj hq zzN31 Uh ?_;refine Aj hq zzN27 Uh ?_;refine gCt true ?_;refine gR hq zzN42 zzN93 [] [] (c1 (show(Bd (1:Int) 3) from(by decide))) ?_;obtain⟨x13,hx13,h⟩:=bind_some h;refine gR hq zzN32 zzN43 [] [(Z19 x13.1 x13.2)] (c1 (Qy i4 ((a0.Blocks.getD i4.toNat default).End.To) a0.Blocks x2.1.Pred i4 x13 hx13)) ?_;refine Aj hq zzN33 zzN43 ?_;refine gC h ?_ ?_<;>intro h
        ·obtain⟨hc14,h⟩:=Aa h;refine gR hq Uf Wn (Z18 x13.1 l3) [] (ci (Cp 4 Cb (default:THammock) ([x13.1]:List THammock)) (ci (Eq.refl l3.length) (ci hc14 (ci (Sx 4 5005 Cb (default:THammock) l3 ([x13.1]:List THammock)) (c1 (Ie l3 ([x13.1]:List THammock))))))) ?_;cases h;exact gK (Em F6)
        ·refine Aj hq zzN31 Uh ?_;refine Aj hq zzN27 Uh ?_;refine gCt true ?_;refine gR hq zzN42 zzN93 [] [] (c1 (show(Bd (2:Int) 3) from(by decide))) ?_;obtain⟨x15,hx15,h⟩:=bind_some h;refine gR hq zzN32 zzN43 [] [(Z19 x15.1 x15.2)] (c1 (Qz i4 ((a0.Blocks.getD i4.toNat default).End.To) a0.Blocks x2.1.Pred i4 x15 hx15)) ?_;refine Aj hq zzN33 zzN43 ?_;refine gC h ?_ ?_<;>intro h
         ·obtain⟨hc16,h⟩:=Aa h;refine gR hq Uf Wn (Z18 x15.1 l3) [] (ci (Cp 4 Cb (default:THammock) ([x15.1]:List THammock)) (ci (Eq.refl l3.length) (ci hc16 (ci (Sx 4 5005 Cb (default:THammock) l3 ([x15.1]:List THammock)) (c1 (Ie l3 ([x15.1]:List THammock))))))) ?_;cases h;exact gK (Em F6)
         ·refine Aj hq zzN31 Uh ?_;refine Aj hq zzN27 Uh ?_;refine gCt false ?_;obtain rfl:=OI h;exact gK (Em (Er Uf Wn hq))
     ·clear hx17;refine gA ?_;refine Aj hq Uf Wn ?_;cases h;exact gN F6
    ·cases h;exact gO (Em (Er [5] [5005] hq))
   ·clear hx19;refine gA ?_;refine Aj hq [2] [5005] ?_;cases h;exact gJo (Ol (K1 [(5005,20000)] (Le.refl _ _)))
 ·exact nofun
 ·clear hx21;refine Th (fun st' hk=>?_);obtain rfl:=OI h;exact gK hk
def m_hammock_Find_L1(aC:Int)(x1:List THammock):Int->Option (LR Int (Unit ⊕ (THammock×Bool))):=
 fun(i2:Int)=>(bif (decide (i2<(x1.length:Int))) then(B1 (Bd i2 x1.length) (bif (((x1.getD i2.toNat default).At:Int)==aC) then(some (.done (.inr ((x1.getD i2.toNat default),true)))) else(some (.next (A9 (i2+1)))))) else(some (.done (.inl ()))))
def Zs(Γ:G7)(a0:TFunc)(aC:Int)(r:(THammock×Bool)):Exit->St->Prop:=fK Tryz.prog Γ Tryz.f10.results.toList [] (.tuple [(Z51 r.1),(.bool r.2)]) []
def Gh(a0:TFunc)(aC:Int):Option (THammock×Bool):=
 ((Fe a0).bind fun x1=>((Am (m_hammock_Find_L1 aC x1) (0:Int)).bind (fun x4=>(match x4 with|(.inl _)=>(some ((⟨(0:Int),(0:Int),(0:Int),(0:Int)⟩:THammock),false))|(.inr r6)=>(some r6)))))
theorem L6(a0:TFunc)(aC:Int)(r:(THammock×Bool))(h:Gh a0 aC=some r):Spec Tryz.prog 10 [(Z41 a0),(Z7 aC)] [] (.tuple [(Z51 r.1),(.bool r.2)]) []:=by
 refine Ab mix Tryz.func10 (fun Γ hq=>?_);unfold Gh at h;refine Aj hq [1,2,4] [2,4] ?_;obtain⟨x1,hx1,h⟩:=bind_some h;refine gR hq zzN99 [4,9] [] [⟨[],[(20000,9)],(Z29 x1 20000),[(20000,.tok 4 27 x1.length)],[],[]⟩] (c1 (Kr a0 x1 hx1)) ?_;obtain⟨x4,hx4,h⟩:=bind_some h;refine gL hq hx4 zzN99 [4,9] (fun u i2=>(Gn u [(11,(Z7 i2))] [])) (fun u x_=>match x_ with|(.inl _)=>aG Γ (.exit 0) (Xk [4] [4] u [] [])|(.inr r_)=>aR (Zs Γ a0 aC r_)) ?_ ?_
 ·intro i2 y h;unfold m_hammock_Find_L1 at h;refine Aj hq [1,4,9,10,11,12] [4,9] ?_;refine gC h ?_ ?_<;>intro h
  ·obtain⟨hc3,h⟩:=Aa h;refine gR hq [1,4,7,9,10,11] [4,7,9] [] [] (c1 hc3) ?_;refine Aj hq [1,4,7,9,10,11,18] [4,7,9] ?_;refine gC h ?_ ?_<;>intro h
   ·refine Aj hq [4,5] [4] ?_;cases h;exact gO (Ol (K1 [] (Le.refl _ _)))
   ·refine Aj hq zzN99 [4,9] ?_;cases h;exact gN F6
  ·cases h;exact gO (Em (Er [4] [4] hq))
 ·clear hx4;rcases x4 with _|r6
  ·refine gA ?_;refine Aj hq [4,5] [4] ?_;cases h;exact Dp []
  ·refine Th (fun st' hk=>?_);obtain rfl:=OI h;exact gK hk
def m_slices_Index_api_Hammock_api_Hammock_L1(aH:List THammock)(aD:THammock):Int->Option (LR Int (Unit ⊕ Int)):=
 fun(i1:Int)=>(bif (decide (i1<(aH.length:Int))) then(B1 (Bd i1 aH.length) (bif ((aD.At==(aH.getD i1.toNat default).At)&&((aD.Then==(aH.getD i1.toNat default).Then)&&((aD.Else==(aH.getD i1.toNat default).Else)&&((aD.Join==(aH.getD i1.toNat default).Join)&&true)))) then(some (.done (.inr i1))) else(some (.next (A9 (i1+1)))))) else(some (.done (.inl ()))))
def Ih(Γ:G7)(aH:List THammock)(aD:THammock)(r:Int):Exit->St->Prop:=fK Tryz.prog Γ Tryz.f55.results.toList [] (.int .i64 r) []
def B4(aH:List THammock)(aD:THammock):Option Int:=
 ((Am (m_slices_Index_api_Hammock_api_Hammock_L1 aH aD) (0:Int)).bind (fun x3=>(match x3 with|(.inl _)=>(some (-1:Int))|(.inr r5)=>(some r5))))
theorem Ig(aH:List THammock)(aD:THammock)(r:Int)(h:B4 aH aD=some r):Spec Tryz.prog 55 [(AV.list 4 Cb default aH .none),(Z51 aD)] [] (.int .i64 r) []:=by
 refine Ab mix Tryz.func55 (fun Γ hq=>?_);unfold B4 at h;refine Aj hq Qr [3] ?_;refine Aj hq [0,3,7,8] [3] ?_;obtain⟨x3,hx3,h⟩:=bind_some h;refine gL hq hx3 [0,3,7,8] [3] (fun u i1=>(Gn u [(8,(Z7 i1))] [])) (fun u x_=>match x_ with|(.inl _)=>aG Γ (.exit 0) (⟨[],[],[]⟩:St)|(.inr r_)=>aR (Ih Γ aH aD r_)) ?_ ?_
 ·intro i1 y h;unfold m_slices_Index_api_Hammock_api_Hammock_L1 at h;refine Aj hq [0,3,7,8,9] [3] ?_;refine gC h ?_ ?_<;>intro h
  ·refine Aj hq [0,3,5,7,8] [3] ?_;obtain⟨hc2,h⟩:=Aa h;refine gR hq [0,3,5,7,8,16] [3] [] [] (c1 hc2) ?_;refine gC h ?_ ?_<;>intro h
   ·refine Aj hq [4] [] ?_;cases h;exact gO (Ol (K1 [] (Le.refl _ _)))
   ·refine Aj hq [0,3,7,8] [3] ?_;cases h;exact gN F6
  ·cases h;exact gO (Em (Er [] [] hq))
 ·clear hx3;rcases x3 with _|r5
  ·refine gA ?_;refine Aj hq [4] [] ?_;cases h;exact Dp []
  ·refine Th (fun st' hk=>?_);obtain rfl:=OI h;exact gK hk
def Bu(aH:List THammock)(aD:THammock):Option Bool:=
 ((B4 aH aD).bind fun x1=>(some (decide (((0:Int):Int)<=x1))))
theorem H0(aH:List THammock)(aD:THammock)(r:Bool)(h:Bu aH aD=some r):Spec Tryz.prog 27 [(AV.list 4 Cb default aH .none),(Z51 aD)] [] (.bool r) []:=by
 refine Ab mix Tryz.func27 (fun Γ hq=>?_);unfold Bu at h;refine Aj hq Qr [3] ?_;obtain⟨x1,hx1,h⟩:=bind_some h;refine gR hq [4] [] [] [(Z31 x1)] (c1 (Ig aH aD x1 hx1)) ?_;cases h;exact Dp []
def G0(a0:TFunc)(aJ:THammock):Option Bool:=
 ((Fe a0).bind fun x1=>((Bu x1 aJ).bind fun x2=>(some x2)))
theorem Lo(a0:TFunc)(aJ:THammock)(r:Bool)(h:G0 a0 aJ=some r):Spec Tryz.prog 12 [(Z41 a0),(Z51 aJ)] [] (.bool r) []:=by
 refine Ab mix Tryz.func12 (fun Γ hq=>?_);unfold G0 at h;refine Aj hq Jx Jx ?_;obtain⟨x1,hx1,h⟩:=bind_some h;obtain⟨x2,hx2,h⟩:=bind_some h;refine gR hq [4] [] [] [⟨[],[(20000,6)],(Z29 x1 20000),[(20000,.tok 4 27 x1.length)],[],[]⟩,(Z2 x2)] (ci (Kr a0 x1 hx1) (c1 (H0 x1 aJ x2 hx2))) ?_;obtain rfl:=OI h;exact Dp []
def Ct(a0:TFunc)(aJ:THammock):(List Ef×Int)->Option (LR (List Ef×Int) (List Ef)):=
 fun((l2,i3):(List Ef×Int))=>(bif (decide (i3<(([aJ.Then,aJ.Else]:List Int).length:Int))) then(Option.bind (α:=List Ef) (B1 (Bd i3 ([aJ.Then,aJ.Else]:List Int).length) (bif (((([aJ.Then,aJ.Else]:List Int).getD i3.toNat 0):Int)!=-1) then(B1 (Bd (([aJ.Then,aJ.Else]:List Int).getD i3.toNat 0) a0.Blocks.length) (B1 (l2.length+((a0.Blocks.getD (([aJ.Then,aJ.Else]:List Int).getD i3.toNat 0).toNat (default:Ac)).Ops).length<=room) (some (l2++(a0.Blocks.getD (([aJ.Then,aJ.Else]:List Int).getD i3.toNat 0).toNat (default:Ac)).Ops)))) else(some l2))) (fun x9=>(some (.next (x9,(A9 (i3+1))))))) else(some (.done l2)))
def Q124(aJ:THammock):=([aJ.Then,aJ.Else]:List Int)
def Q121:AV:=(AV.list 6 I6 default ([]:List Ef) .exact)
def Q122(a0:TFunc)(aJ:THammock)(i3:Int):=(a0.Blocks.getD ((Q124 aJ).getD i3.toNat 0).toNat (default:Ac))
def Q125(a0:TFunc):List AV:=[(Mp a0.Params),(Z7 a0.Ret),(Z15 a0.Blocks)]
def Q123:=(⟨[(4,(AV.list 6 I6 default ([]:List Ef) (.own 6004))),(5,(.bool false))],[(6004,.tok 6 57 (([]:List Ef).length))],[]⟩:St)
def Q120(aJ:THammock)(a0:TFunc):=(⟨[Z38,(6,(AV.list 6 I6 default ([]:List Ef) (.own 5006))),(17,(AV.list 1 Aw 0 (Q124 aJ) .exact)),(18,(.int .i64 ((Q124 aJ).length:Int))),(19,Z32)],[(2,.row 25 (Q125 a0)),(5006,.tok 6 57 (([]:List Ef).length))],[]⟩:St)
def Fs(a0:TFunc)(aJ:THammock):Option (List Ef×Bool):=
 ((G0 a0 aJ).bind fun x1=>(bif (!x1) then(some (([]:List Ef),false)) else((Am (Ct a0 aJ) (([]:List Ef),(0:Int))).bind (fun x11=>(some (x11,true))))))
theorem M5(a0:TFunc)(aJ:THammock)(r:(List Ef×Bool))(h:Fs a0 aJ=some r):Spec Tryz.prog 30 [(Z41 a0),(Z51 aJ)] [] (.tuple [(Z45 r.1 20000),(.bool r.2)]) [(20000,.tok 6 57 r.1.length)]:=by
 refine Ab mix Tryz.func30 (fun Γ hq=>?_);unfold Fs at h;refine gR hq Jx Jx [(4,Q121)] [] (c1 (Gm 6 I6 (default:Ef))) ?_;obtain⟨x1,hx1,h⟩:=bind_some h;refine gR hq [2,3,12] Jx [] [(Z2 x1)] (c1 (Lo a0 aJ x1 hx1)) ?_;refine gC h ?_ ?_<;>intro h
 ·refine gR hq [4,5] [] [(4,Q121)] [] (c1 (Gm 6 I6 (default:Ef))) ?_;refine Wo (⟨[(4,Q121),(5,(.bool false))],[],[]⟩:St) ?_;cases h;exact gK (e:=.ret) (K1 zzN108 (show Le Γ _ Q123 from Le.trans (Er (st':=⟨[(4,Q121),(5,(.bool false))],[],[]⟩) [4,5] [] hq) (Le.trans (Ww (t:=4) (nm:=6004) (sz':=6) (fun i=>I6 (([]:List Ef).getD i default)) 57 rfl rfl (.inl ⟨rfl,rfl⟩) (fun h_=>absurd h_ (by decide))) (Er (st':=Q123) [4,5] [6004] hq))))
 ·refine gR hq [2,3,6] Jx [(6,Q121)] [] (c1 (Gm 6 I6 (default:Ef))) ?_;refine gR hq zzN37 [2] [(17,(AV.list 1 Aw 0 (Q124 aJ) .exact))] [] (c1 (Cp 1 Aw (0:Int) (Q124 aJ))) ?_;refine Om (st':=(Q120 aJ a0)) (Le.trans (Er (st':=⟨[Z38,(6,Q121),(17,(AV.list 1 Aw 0 (Q124 aJ) .exact)),(18,(.int .i64 ((Q124 aJ).length:Int))),(19,Z32)],[(2,.row 25 (Q125 a0))],[]⟩) zzN37 [2] hq) (Le.trans (Ww (t:=6) (nm:=5006) (sz':=6) (fun i=>I6 (([]:List Ef).getD i default)) 57 rfl rfl (.inl ⟨rfl,rfl⟩) (fun h_=>absurd h_ (by decide))) (Er (st':=(Q120 aJ a0)) zzN37 Y0 hq))) ?_;obtain⟨x11,hx11,h⟩:=bind_some h;refine gL hq hx11 zzN37 Y0 (fun u (l2,i3)=>(Gn u [(6,(Z45 l2 5006)),(19,(Z7 i3))] [(5006,.tok 6 57 l2.length)])) (fun u l4=>aG Γ (.exit 0) (⟨[(6,(Z45 l4 5006))],[(5006,.tok 6 57 l4.length)],[]⟩:St)) ?_ ?_
  ·rintro⟨l2,i3⟩ y h;unfold Ct at h;refine Aj hq [2,6,17,18,19,20] Y0 ?_;refine gC h ?_ ?_<;>intro h
   ·obtain⟨x9,hx9,h⟩:=bind_some h;refine gJ hx9 (fun l5=>aG Γ .normal (⟨[Z38,(6,(Z45 l5 5006)),(17,(AV.list 1 Aw 0 (Q124 aJ) .exact)),(18,(.int .i64 ((Q124 aJ).length:Int))),(19,(Z7 i3))],[(2,.row 25 (Q125 a0)),(5006,.tok 6 57 l5.length)],[]⟩:St)) ?_ ?_
    ·clear h hx9;intro y h;obtain⟨hc6,h⟩:=Aa h;refine gR hq [2,6,8,17,18,19] Y0 [] [] (c1 hc6) ?_;refine Aj hq [2,6,8,17,18,19,24] Y0 ?_;refine gC h ?_ ?_<;>intro h
     ·obtain⟨hc7,h⟩:=Aa h;obtain⟨hc8,h⟩:=Aa h;refine gR hq zzN37 Y0 [(32,(AV.list 6 I6 default (l2++(Q122 a0 aJ i3).Ops) (.own 5006)))] [] (ci hc7 (ci (Eq.refl l2.length) (ci hc8 (ci (Sx 6 5006 I6 (default:Ef) l2 ((Q122 a0 aJ i3).Ops)) (c1 (Ie l2 ((Q122 a0 aJ i3).Ops))))))) ?_;cases h;exact gK (Em F6)
     ·obtain rfl:=OI h;exact gK (Em (Er zzN37 Y0 hq))
    ·clear hx9;refine gA ?_;refine Aj hq zzN37 Y0 ?_;cases h;exact gN F6
   ·cases h;exact gO (Em (Er [6] [5006] hq))
  ·clear hx11;refine gA ?_;refine Aj hq [4,5] [5006] ?_;cases h;exact Dp [(5006,20000)]
def He(a0:TFunc)(aJ:THammock):Option Int:=
 ((Fs a0 aJ).bind fun x1=>(some (x1.1.length:Int)))
theorem Qg(a0:TFunc)(aJ:THammock)(r:Int)(h:He a0 aJ=some r):Spec Tryz.prog 17 [(Z41 a0),(Z51 aJ)] [] (.int .i64 r) []:=by
 refine Ab mix Tryz.func17 (fun Γ hq=>?_);unfold He at h;refine Aj hq Jx Jx ?_;obtain⟨x1,hx1,h⟩:=bind_some h;refine gR hq [5] [10] [] [⟨[],[(20000,10)],(.tuple [(Z45 x1.1 20000),(.bool x1.2)]),[(20000,.tok 6 57 x1.1.length)],[],[]⟩] (c1 (M5 a0 aJ x1 hx1)) ?_;refine Aj hq [4] [] ?_;cases h;exact Dp []
def J5(a1:Ef):Option Bool:=
 (some (a1.Lanes !=1))
theorem Tm(a1:Ef)(r:Bool)(h:J5 a1=some r):Spec Tryz.prog 32 [(.agg (I6 a1))] [] (.bool r) []:=by
 refine Ab mix Tryz.func32 (fun Γ hq=>?_);unfold J5 at h;refine Aj hq [1] [1] ?_;refine Aj hq [2] [] ?_;cases h;exact Dp []
def F7(aH:List Ef):Int->Option (LR Int (Unit ⊕ Int)):=
 fun(i1:Int)=>(bif (decide (i1<(aH.length:Int))) then(B1 (Bd i1 aH.length) ((J5 (aH.getD i1.toNat default)).bind fun x3=>(bif x3 then(some (.done (.inr i1))) else(some (.next (A9 (i1+1))))))) else(some (.done (.inl ()))))
def Kg(Γ:G7)(aH:List Ef)(r:Int):Exit->St->Prop:=fK Tryz.prog Γ Tryz.f58.results.toList [] (.int .i64 r) []
def Ek(aH:List Ef):Option Int:=
 ((Am (F7 aH) (0:Int)).bind (fun x4=>(match x4 with|(.inl _)=>(some (-1:Int))|(.inr r6)=>(some r6))))
theorem Kc(aH:List Ef)(r:Int)(h:Ek aH=some r):Spec Tryz.prog 58 [(AV.list 6 I6 default aH .none),(.clo 32 [] [])] [] (.int .i64 r) []:=by
 refine Ab mix Tryz.func58 (fun Γ hq=>?_);unfold Ek at h;refine Aj hq Id [] ?_;refine Aj hq zzN68 [] ?_;obtain⟨x4,hx4,h⟩:=bind_some h;refine gL hq hx4 zzN68 [] (fun u i1=>(Gn u [(8,(Z7 i1))] [])) (fun u x_=>match x_ with|(.inl _)=>aG Γ (.exit 0) (⟨[],[],[]⟩:St)|(.inr r_)=>aR (Kg Γ aH r_)) ?_ ?_
 ·intro i1 y h;unfold F7 at h;refine Aj hq [0,1,7,8,9] [] ?_;refine gC h ?_ ?_<;>intro h
  ·refine Aj hq [0,1,5,7,8] [] ?_;obtain⟨hc2,h⟩:=Aa h;obtain⟨x3,hx3,h⟩:=bind_some h;refine gR hq [0,1,5,7,8,16] [] [] [(Z2 x3)] (ci hc2 (c1 (Tm (aH.getD i1.toNat default) x3 hx3))) ?_;refine gC h ?_ ?_<;>intro h
   ·refine Aj hq [4] [] ?_;cases h;exact gO (Ol (K1 [] (Le.refl _ _)))
   ·refine Aj hq zzN68 [] ?_;cases h;exact gN F6
  ·cases h;exact gO (Em (Er [] [] hq))
 ·clear hx4;rcases x4 with _|r6
  ·refine gA ?_;refine Aj hq [4] [] ?_;cases h;exact Dp []
  ·refine Th (fun st' hk=>?_);obtain rfl:=OI h;exact gK hk
def Dz(aH:List Ef):Option Bool:=
 ((Ek aH).bind fun x1=>(some (decide (((0:Int):Int)<=x1))))
theorem Jl(aH:List Ef)(r:Bool)(h:Dz aH=some r):Spec Tryz.prog 31 [(AV.list 6 I6 default aH .none),(.clo 32 [] [])] [] (.bool r) []:=by
 refine Ab mix Tryz.func31 (fun Γ hq=>?_);unfold Dz at h;refine Aj hq Id [] ?_;obtain⟨x1,hx1,h⟩:=bind_some h;refine gR hq [4] [] [] [(Z31 x1)] (c1 (Kc aH x1 hx1)) ?_;cases h;exact Dp []
def K9(a0:TFunc)(aJ:THammock):Option Bool:=
 ((Fs a0 aJ).bind fun x1=>((bif (x1.2==true) then Dz x1.1 else some false).bind fun x2=>(some (bif x1.2 then(!x2) else false))))
theorem V3(a0:TFunc)(aJ:THammock)(r:Bool)(h:K9 a0 aJ=some r):Spec Tryz.prog 14 [(Z41 a0),(Z51 aJ)] [] (.bool r) []:=by
 refine Ab mix Tryz.func14 (fun Γ hq=>?_);unfold K9 at h;refine Aj hq Jx Jx ?_;obtain⟨x1,hx1,h⟩:=bind_some h;refine gR hq [5,6] [10] [] [⟨[],[(20000,10)],(.tuple [(Z45 x1.1 20000),(.bool x1.2)]),[(20000,.tok 6 57 x1.1.length)],[],[]⟩] (c1 (M5 a0 aJ x1 hx1)) ?_;obtain⟨x2,hx2,h⟩:=bind_some h;refine gR hq [4] [] [] [(Z2 x2)] (ci (gI (x1.2==true)) (ci (fun(hg:(x1.2==true)=true)=>(Jl x1.1 x2 (Cw hg hx2))) (ci (gI (x1.2==true)) (c1 (Mt x1.2))))) ?_;cases h;exact Dp []
def Q127(x4:Int):=(x4==1)
def Q128(x6:List THammock):=(((x6.length:Int):Int)==1)
def Q130(x2:(THammock×Bool)):=(bif x2.2 then(((x2.1.At:Int)==0)&&(((x2.1.Then:Int)==1)&&(((x2.1.Else:Int)==2)&&(((x2.1.Join:Int)==3)&&true)))) else false)
def Q126(x2:(THammock×Bool))(x3:(THammock×Bool)):=(bif (Q130 x2) then(!x3.2) else false)
def Q129(x2:(THammock×Bool))(x3:(THammock×Bool))(x4:Int)(x5:Bool):=(bif (bif (Q126 x2 x3) then(Q127 x4) else false) then x5 else false)
def Q131(x2:(THammock×Bool))(x3:(THammock×Bool))(x4:Int)(x5:Bool)(x6:List THammock):=(bif (Q129 x2 x3 x4 x5) then(Q128 x6) else false)
def m_locksteplaw14_awake :Option Bool:=
 (m_locksteplaw14_diamond.bind fun x1=>((Gh x1 (0:Int)).bind fun x2=>((Gh x1 (1:Int)).bind fun x3=>((bif ((bif (bif x2.2 then(((x2.1.At:Int)==0)&&(((x2.1.Then:Int)==1)&&(((x2.1.Else:Int)==2)&&(((x2.1.Join:Int)==3)&&true)))) else false) then(!x3.2) else false)==true) then He x1 x2.1 else some (0:Int)).bind fun x4=>((bif ((bif (bif (bif x2.2 then(((x2.1.At:Int)==0)&&(((x2.1.Then:Int)==1)&&(((x2.1.Else:Int)==2)&&(((x2.1.Join:Int)==3)&&true)))) else false) then(!x3.2) else false) then(x4==1) else false)==true) then K9 x1 x2.1 else some false).bind fun x5=>((bif ((bif (bif (bif (bif x2.2 then(((x2.1.At:Int)==0)&&(((x2.1.Then:Int)==1)&&(((x2.1.Else:Int)==2)&&(((x2.1.Join:Int)==3)&&true)))) else false) then(!x3.2) else false) then(x4==1) else false) then x5 else false)==true) then Fe x1 else some []).bind fun x6=>((bif ((bif (bif (bif (bif (bif x2.2 then(((x2.1.At:Int)==0)&&(((x2.1.Then:Int)==1)&&(((x2.1.Else:Int)==2)&&(((x2.1.Join:Int)==3)&&true)))) else false) then(!x3.2) else false) then(x4==1) else false) then x5 else false) then(((x6.length:Int):Int)==1) else false)==true) then G0 x1 x2.1 else some false).bind fun x7=>((bif ((bif (bif (bif (bif (bif (bif x2.2 then(((x2.1.At:Int)==0)&&(((x2.1.Then:Int)==1)&&(((x2.1.Else:Int)==2)&&(((x2.1.Join:Int)==3)&&true)))) else false) then(!x3.2) else false) then(x4==1) else false) then x5 else false) then(((x6.length:Int):Int)==1) else false) then x7 else false)==true) then G0 x1 (⟨(0:Int),(0:Int),(0:Int),(0:Int)⟩:THammock) else some false).bind fun x8=>(some (bif (bif (bif (bif (bif (bif (bif x2.2 then(((x2.1.At:Int)==0)&&(((x2.1.Then:Int)==1)&&(((x2.1.Else:Int)==2)&&(((x2.1.Join:Int)==3)&&true)))) else false) then(!x3.2) else false) then(x4==1) else false) then x5 else false) then(((x6.length:Int):Int)==1) else false) then x7 else false) then(!x8) else false))))))))))
theorem Pv  (r:Bool) (h:m_locksteplaw14_awake=some r):Spec Tryz.prog 8 [] [] (.bool r) []:=by
 refine Ab mix Tryz.func8 (fun Γ hq=>?_);unfold m_locksteplaw14_awake at h;refine Aj hq [] [] ?_;obtain⟨x1,hx1,h⟩:=bind_some h;refine gR hq [1] [1] [] [⟨[],[],(Z41 x1),[],[],[]⟩] (c1 (Oh  x1 hx1)) ?_;obtain⟨x2,hx2,h⟩:=bind_some h;refine gR hq [1,2,3] Su [] [(Z19 x2.1 x2.2)] (c1 (L6 x1 (0:Int) x2 hx2)) ?_;obtain⟨x3,hx3,h⟩:=bind_some h;refine gR hq [1,2,3,5] Su [] [(Z19 x3.1 x3.2)] (c1 (L6 x1 (1:Int) x3 hx3)) ?_;obtain⟨x4,hx4,h⟩:=bind_some h;obtain⟨x5,hx5,h⟩:=bind_some h;obtain⟨x6,hx6,h⟩:=bind_some h;obtain⟨x7,hx7,h⟩:=bind_some h;obtain⟨x8,hx8,h⟩:=bind_some h;refine gR hq [0] [] [] [(Z31 x4),(Z2 x5),⟨[],[],(AV.list 4 Cb default x6 .none),[],[],[]⟩,(Z2 x7),(Z2 x8)] (ci (gI (x2.2==true)) (ci (gI (x2.2==true)) (ci (Mt x2.2) (ci (gI ((Q130 x2)==true)) (ci (Mt (Q130 x2)) (ci (gI ((Q126 x2 x3)==true)) (ci (gI ((Q126 x2 x3)==true)) (ci (fun(hg:((Q126 x2 x3)==true)=true)=>(Qg x1 x2.1 x4 (Cw hg hx4))) (ci (gI ((Q126 x2 x3)==true)) (ci (Mt (Q126 x2 x3)) (ci (gI ((bif (Q126 x2 x3) then(Q127 x4) else false)==true)) (ci (gI ((bif (Q126 x2 x3) then(Q127 x4) else false)==true)) (ci (fun(hg:((bif (Q126 x2 x3) then(Q127 x4) else false)==true)=true)=>(V3 x1 x2.1 x5 (Cw hg hx5))) (ci (Mt (bif (Q126 x2 x3) then(Q127 x4) else false)) (ci (gI ((Q129 x2 x3 x4 x5)==true)) (ci (show(((Q129 x2 x3 x4 x5)==true)=true->(Spec Tryz.prog 18 [(Z41 x1)] [] (AV.list 4 Cb default x6 .none) [])) from(fun hg=>(Spec.drop (Kr x1 x6 (Cw hg hx6))))) (ci (gI ((Q129 x2 x3 x4 x5)==true)) (ci (gI ((Q129 x2 x3 x4 x5)==true)) (ci (Mt (Q129 x2 x3 x4 x5)) (ci (gI ((Q131 x2 x3 x4 x5 x6)==true)) (ci (gI ((Q131 x2 x3 x4 x5 x6)==true)) (ci (fun(hg:((Q131 x2 x3 x4 x5 x6)==true)=true)=>(Lo x1 x2.1 x7 (Cw hg hx7))) (ci (Mt (Q131 x2 x3 x4 x5 x6)) (ci (gI ((bif (Q131 x2 x3 x4 x5 x6) then x7 else false)==true)) (ci (gI ((bif (Q131 x2 x3 x4 x5 x6) then x7 else false)==true)) (ci (fun(hg:((bif (Q131 x2 x3 x4 x5 x6) then x7 else false)==true)=true)=>(Lo x1 (⟨(0:Int),(0:Int),(0:Int),(0:Int)⟩:THammock) x8 (Cw hg hx8))) (ci (gI ((bif (Q131 x2 x3 x4 x5 x6) then x7 else false)==true)) (c1 (Mt (bif (Q131 x2 x3 x4 x5 x6) then x7 else false)))))))))))))))))))))))))))))) ?_;cases h;exact Dp []
def Br(a0:TFunc)(i2:Int):(Int×Int)->Option (LR (Int×Int) Int):=
 fun((i5,i6):(Int×Int))=>(B1 (Bd i2 a0.Blocks.length) (bif (bif (decide (i6<(((a0.Blocks.getD i2.toNat default).Phis).length:Int))) then(decide (i5<=20000)) else false) then(B1 (Bd i2 a0.Blocks.length) (B1 (Bd i6 ((a0.Blocks.getD i2.toNat default).Phis).length) (B1 (Bd i2 a0.Blocks.length) (B1 (Bd i6 ((a0.Blocks.getD i2.toNat default).Phis).length) (some (.next ((A9 ((A9 ((A9 (i5+1))+(((((a0.Blocks.getD i2.toNat default).Phis).getD i6.toNat default).From).length:Int)))+(((((a0.Blocks.getD i2.toNat default).Phis).getD i6.toNat default).Args).length:Int))),(A9 (i6+1))))))))) else(some (.done i5))))
def Bs(a0:TFunc)(i2:Int):(Int×Int)->Option (LR (Int×Int) Int):=
 fun((i15,i16):(Int×Int))=>(B1 (Bd i2 a0.Blocks.length) (bif (bif (decide (i16<(((a0.Blocks.getD i2.toNat default).Ops).length:Int))) then(decide (i15<=20000)) else false) then(B1 (Bd i2 a0.Blocks.length) (B1 (Bd i16 ((a0.Blocks.getD i2.toNat default).Ops).length) (some (.next ((A9 ((A9 (i15+1))+(((((a0.Blocks.getD i2.toNat default).Ops).getD i16.toNat default).Args).length:Int))),(A9 (i16+1))))))) else(some (.done i15))))
def Bh(a0:TFunc):(Int×Int)->Option (LR (Int×Int) Int):=
 fun((i1,i2):(Int×Int))=>(bif (bif (decide (i2<(a0.Blocks.length:Int))) then(decide (i1<=20000)) else false) then(B1 (Bd i2 a0.Blocks.length) ((Am (Br a0 i2) ((A9 ((A9 (i1+1))+(((a0.Blocks.getD i2.toNat default).End.To).length:Int))),(0:Int))).bind (fun x13=>((Am (Bs a0 i2) (x13,(0:Int))).bind (fun x21=>(some (.next (x21,(A9 (i2+1)))))))))) else(some (.done i1)))
def B0(a0:TFunc):Option Bool:=
 ((Am (Bh a0) ((a0.Params.length:Int),(0:Int))).bind (fun x23=>(some (decide (x23<=20000)))))
theorem Pw(a0:TFunc)(r:Bool)(h:B0 a0=some r):Spec Tryz.prog 26 [(Z41 a0)] [] (.bool r) []:=by
 refine Ab mix Tryz.func26 (fun Γ hq=>?_);unfold B0 at h;refine Aj hq [1] [1] ?_;refine Aj hq Qq [1] ?_;refine Aj hq Kz [1] ?_;obtain⟨x23,hx23,h⟩:=bind_some h;refine gL hq hx23 Kz [1] (fun u (i1,i2)=>(Gn u [(3,(Z7 i1)),(4,(Z7 i2))] [])) (fun u i3=>aG Γ (.exit 0) (⟨[(3,(Z7 i3))],[],[]⟩:St)) ?_ ?_
 ·rintro⟨i1,i2⟩ y h;unfold Bh at h;refine gR hq [1,3,4,18] [1] [] [] (ci (gI ((decide (i2<(a0.Blocks.length:Int)))==true)) (c1 (Mt (decide (i2<(a0.Blocks.length:Int)))))) ?_;refine gC h ?_ ?_<;>intro h
  ·obtain⟨hc4,h⟩:=Aa h;refine gR hq Kz [1] [] [] (c1 hc4) ?_;refine Aj hq zzN104 [1] ?_;obtain⟨x13,hx13,h⟩:=bind_some h;refine gL hq hx13 zzN104 [1] (fun u (i5,i6)=>(Gn u [(3,(Z7 i5)),(5,(Z7 i6))] [])) (fun u i7=>aG Γ (.exit 2) (Xk Kz [1] u [(3,(Z7 i7))] [])) ?_ ?_
   ·rintro⟨i5,i6⟩ y h;unfold Br at h;obtain⟨hc8,h⟩:=Aa h;refine gR hq [1,3,4,5,44] [1] [] [] (ci hc8 (ci (gI ((decide (i6<(((a0.Blocks.getD i2.toNat default).Phis).length:Int)))==true)) (c1 (Mt (decide (i6<(((a0.Blocks.getD i2.toNat default).Phis).length:Int))))))) ?_;refine gC h ?_ ?_<;>intro h
    ·obtain⟨hc9,h⟩:=Aa h;obtain⟨hc10,h⟩:=Aa h;obtain⟨hc11,h⟩:=Aa h;obtain⟨hc12,h⟩:=Aa h;refine gR hq zzN104 [1] [] [] (ci hc9 (ci hc10 (ci hc11 (c1 hc12)))) ?_;refine Aj hq zzN104 [1] ?_;cases h;exact gN F6
    ·cases h;exact gO (Em (Er Kz [1] hq))
   ·clear hx13;refine gA ?_;refine Aj hq zzN105 [1] ?_;obtain⟨x21,hx21,h⟩:=bind_some h;refine gL hq hx21 zzN105 [1] (fun u (i15,i16)=>(Gn u [(3,(Z7 i15)),(6,(Z7 i16))] [])) (fun u i17=>aG Γ (.exit 4) (Xk Kz [1] u [(3,(Z7 i17))] [])) ?_ ?_
    ·rintro⟨i15,i16⟩ y h;unfold Bs at h;obtain⟨hc18,h⟩:=Aa h;refine gR hq [1,3,4,6,85] [1] [] [] (ci hc18 (ci (gI ((decide (i16<(((a0.Blocks.getD i2.toNat default).Ops).length:Int)))==true)) (c1 (Mt (decide (i16<(((a0.Blocks.getD i2.toNat default).Ops).length:Int))))))) ?_;refine gC h ?_ ?_<;>intro h
     ·obtain⟨hc19,h⟩:=Aa h;obtain⟨hc20,h⟩:=Aa h;refine gR hq zzN105 [1] [] [] (ci hc19 (c1 hc20)) ?_;refine Aj hq zzN105 [1] ?_;cases h;exact gN F6
     ·cases h;exact gO (Em (Er Kz [1] hq))
    ·clear hx21;refine gA ?_;refine Aj hq Kz [1] ?_;cases h;exact gN F6
  ·cases h;exact gO (Em (Er [3] [] hq))
 ·clear hx23;refine gA ?_;refine Aj hq [2] [] ?_;cases h;exact Dp []
def C4(a0:TFunc):(Int×Int)->Option (LR (Int×Int) Int):=
 fun((i1,i2):(Int×Int))=>(bif (decide (i2<(a0.Blocks.length:Int))) then(B1 (Bd i2 a0.Blocks.length) (B1 (Bd i2 a0.Blocks.length) (some (.next ((A9 ((A9 ((A9 (i1+1))+(((a0.Blocks.getD i2.toNat default).Ops).length:Int)))+(((a0.Blocks.getD i2.toNat default).Phis).length:Int))),(A9 (i2+1))))))) else(some (.done i1)))
def Q132(a0:TFunc)(x6:Int):=(bif (decide (((a0.Blocks.length:Int):Int)<=16)) then(decide (x6<=100)) else false)
def Q133(a0:TFunc)(x6:Int):=(bif (Q132 a0 x6) then true else(decide (((64:Int):Int)<(a0.Blocks.length:Int))))
def Ez(a0:TFunc):Option Bool:=
 ((Am (C4 a0) ((0:Int),(0:Int))).bind (fun x6=>((B0 a0).bind fun x8=>(some (bif x8 then(bif (bif (bif (decide (((a0.Blocks.length:Int):Int)<=16)) then(decide (x6<=100)) else false) then true else(decide (((64:Int):Int)<(a0.Blocks.length:Int)))) then true else(decide (((512:Int):Int)<x6))) else false)))))
theorem Px(a0:TFunc)(r:Bool)(h:Ez a0=some r):Spec Tryz.prog 9 [(Z41 a0)] [] (.bool r) []:=by
 refine Ab mix Tryz.func9 (fun Γ hq=>?_);unfold Ez at h;refine Aj hq [1] [1] ?_;refine Aj hq Qq [1] ?_;refine Aj hq Kz [1] ?_;obtain⟨x6,hx6,h⟩:=bind_some h;refine gL hq hx6 Kz [1] (fun u (i1,i2)=>(Gn u [(3,(Z7 i1)),(4,(Z7 i2))] [])) (fun u i3=>aG Γ (.exit 0) (Xk Qq [1] u [(3,(Z7 i3))] [])) ?_ ?_
 ·rintro⟨i1,i2⟩ y h;unfold C4 at h;refine Aj hq [1,3,4,9] [1] ?_;refine gC h ?_ ?_<;>intro h
  ·obtain⟨hc4,h⟩:=Aa h;obtain⟨hc5,h⟩:=Aa h;refine gR hq Kz [1] [] [] (ci hc4 (c1 hc5)) ?_;refine Aj hq Kz [1] ?_;cases h;exact gN F6
  ·cases h;exact gO (Em (Er Qq [1] hq))
 ·clear hx6;refine gA ?_;obtain⟨x8,hx8,h⟩:=bind_some h;refine gR hq [2] [] [] [(Z2 x8)] (ci (Pw a0 x8 hx8) (ci (gI (x8==true)) (ci (gI (x8==true)) (ci (gI (x8==true)) (ci (gI (x8==true)) (ci (gI ((x8==true)&&((decide (((a0.Blocks.length:Int):Int)<=16))==true))) (ci (gI (x8==true)) (ci (show((x8==true)=true->((decide (((a0.Blocks.length:Int):Int)<=16))=true->((x8==true)&&((decide (((a0.Blocks.length:Int):Int)<=16))==true))=true)) from(fun hg=>(aT hg))) (ci (gI (x8==true)) (ci (gI ((x8==true)&&((Q132 a0 x6)==false))) (ci (gI ((x8==true)&&((Q132 a0 x6)==false))) (ci (gI ((x8==true)&&((Q132 a0 x6)==false))) (ci (gI (x8==true)) (ci (show((x8==true)=true->((Q132 a0 x6)=false->((x8==true)&&((Q132 a0 x6)==false))=true)) from(fun hg=>(aF hg))) (ci (gI (x8==true)) (ci (gI ((x8==true)&&((Q133 a0 x6)==false))) (ci (gI (x8==true)) (ci (show((x8==true)=true->((Q133 a0 x6)=false->((x8==true)&&((Q133 a0 x6)==false))=true)) from(fun hg=>(aF hg))) (c1 (Mt x8)))))))))))))))))))) ?_;cases h;exact Dp []
def Kq(aH:List Int):Option (List Int):=
 (B1 (([]:List Int).length+aH.length<=room) (some (([]:List Int)++aH)))
def Vu(aaE:List (List Int)):(Int×List (List Int))->Option (LR (Int×List (List Int)) (List (List Int))):=
 fun((i2,l3):(Int×List (List Int)))=>(bif (decide (i2<(aaE.length:Int))) then(B1 (Bd i2 aaE.length) ((Kq (aaE.getD i2.toNat [])).bind fun x6=>(B1 (Bd i2 l3.length) (some (.next ((A9 (i2+1)),(l3.set i2.toNat x6))))))) else(some (.done l3)))
def My(aaE:List (List Int)):Option (List (List Int)):=
 (B1 (0<=(aaE.length:Int)/\(aaE.length:Int)<=(aaE.length:Int)/\(aaE.length:Int)<=(room:Int)) ((Am (Vu aaE) ((0:Int),(List.replicate (aaE.length:Int).toNat ([]:List Int)))).bind (fun x8=>(some x8))))
def Mx(a5:A3):Option A3:=
 ((Ht a5).bind fun x1=>(bif (!x1) then(some (⟨([]:List (List Int)),([]:List (List Int))⟩:A3)) else((My a5.Pred).bind fun x2=>((My a5.Succ).bind fun x3=>(some (⟨x2,x3⟩:A3))))))
def Ru(x1:List Int):(Int×List Bool)->Option (LR (Int×List Bool) (List Bool)):=
 fun((i2,l3):(Int×List Bool))=>(bif (decide (i2<(x1.length:Int))) then(B1 (Bd i2 x1.length) (B1 (Bd (x1.getD i2.toNat 0) 64) (some (.next ((A9 (i2+1)),(Ju 64 false l3 (x1.getD i2.toNat 0).toNat true)))))) else(some (.done l3)))
def Kp(aaN:List Bool)(aaO:A3)(aC:Int):Option (List Bool):=
 ((Fd aaO aC).bind fun x1=>((Am (Ru x1) ((0:Int),aaN)).bind (fun x7=>(some x7))))
def Rs(a5:A3)(x1:A3):(Int×List Bool)->Option (LR (Int×List Bool) (List Bool)):=
 fun((i2,l3):(Int×List Bool))=>(bif (decide (i2<(a5.Succ.length:Int))) then(Option.bind (α:=List Bool) (B1 (Bd i2 a5.Succ.length) (bif ((((a5.Succ.getD i2.toNat []).length:Int):Int)==0) then((Kp l3 x1 i2).bind fun x7=>(some x7)) else(some l3))) (fun x8=>(some (.next ((A9 (i2+1)),x8))))) else(some (.done l3)))
def Nu(a5:A3):Option (List Bool):=
 ((Mx a5).bind fun x1=>((Am (Rs a5 x1) ((0:Int),(List.replicate 64 false))).bind (fun x10=>(some x10))))
def Mf(aH:List Bool)(aD:Bool):Int->Option (LR Int (Unit ⊕ Int)):=
 fun(i1:Int)=>(bif (decide (i1<(aH.length:Int))) then(B1 (Bd i1 aH.length) (bif (aD==(aH.getD i1.toNat false)) then(some (.done (.inr i1))) else(some (.next (A9 (i1+1)))))) else(some (.done (.inl ()))))
def Jr(aH:List Bool)(aD:Bool):Option Int:=
 ((Am (Mf aH aD) (0:Int)).bind (fun x3=>(match x3 with|(.inl _)=>(some (-1:Int))|(.inr r5)=>(some r5))))
def Vt(a9:List (List Int)):Option (A3×Int):=
 ((Gw a9).bind fun x1=>(bif (!x1) then(some ((⟨([]:List (List Int)),([]:List (List Int))⟩:A3),(5:Int))) else((My a9).bind fun x2=>((Gg a9).bind fun x3=>(some ((⟨x2,x3⟩:A3),(0:Int)))))))
def Aay(a5:A3):(Int×List (List Int))->Option (LR (Int×List (List Int)) (List (List Int))):=
 fun((i7,l8):(Int×List (List Int)))=>(bif (decide (i7<(a5.Succ.length:Int))) then(Option.bind (α:=List (List Int)) (B1 (Bd i7 a5.Succ.length) (B1 (Bd i7 l8.length) ((Kq (a5.Succ.getD i7.toNat [])).bind fun x13=>(B1 (Bd i7 l8.length) (bif ((((a5.Succ.getD i7.toNat []).length:Int):Int)==0) then(B1 (Bd i7 (l8.set i7.toNat x13).length) (B1 (Bd i7 (l8.set i7.toNat x13).length) (some ((l8.set i7.toNat x13).set i7.toNat ([(a5.Succ.length:Int)]:List Int))))) else(some (l8.set i7.toNat x13))))))) (fun x17=>(some (.next ((A9 (i7+1)),x17))))) else(some (.done l8)))
def Aax(a5:A3):(List Bool×List (List Int)×List (List Int)×List (List Int))->Option (LR (List Bool×List (List Int)×List (List Int)×List (List Int)) (A3×Int)):=
 fun(s_:(List Bool×List (List Int)×List (List Int)×List (List Int)))=>match s_ with|(l1,l2,l3,l4)=>(B1 (0<=(a5.Succ.length:Int)/\0+(a5.Succ.length:Int).toNat<=64) ((Jr (subN false l1 0 ((0+(a5.Succ.length:Int).toNat)-0)) false).bind fun x32=>(bif (decide (((0:Int):Int)<=x32)) then(B1 (Bd x32 l4.length) (B1 (Bd x32 l4.length) (B1 ((l4.getD x32.toNat []).length+([(a5.Succ.length:Int)]:List Int).length<=room) (B1 (Bd x32 l4.length) ((Kp l1 (⟨l2,l3⟩:A3) x32).bind fun x37=>(some (.next (x37,l2,l3,(l4.set x32.toNat ((l4.getD x32.toNat [])++([(a5.Succ.length:Int)]:List Int))))))))))) else((Vt l4).bind fun x38=>(some (.done (x38.1,x38.2)))))))
def Yb(a5:A3):Option (A3×Int):=
 ((Li (S:=(List Bool×List (List Int)×List (List Int)×List (List Int))) (X:=(A3×Int)) ((Ht a5).bind fun x5=>(bif (bif (!x5) then true else(((a5.Succ.length:Int):Int)==64)) then(some (.done ((⟨([]:List (List Int)),([]:List (List Int))⟩:A3),(5:Int)))) else(B1 (0<=(A9 ((a5.Succ.length:Int)+1))/\(A9 ((a5.Succ.length:Int)+1))<=(A9 ((a5.Succ.length:Int)+1))/\(A9 ((a5.Succ.length:Int)+1))<=(room:Int)) ((Am (Aay a5) ((0:Int),(List.replicate (A9 ((a5.Succ.length:Int)+1)).toNat ([]:List Int)))).bind (fun x19=>((Nu a5).bind fun x21=>((Mx a5).bind fun x22=>(B1 (0<=(a5.Succ.length:Int)/\0+(a5.Succ.length:Int).toNat<=64) ((Jr (subN false x21 0 ((0+(a5.Succ.length:Int).toNat)-0)) false).bind fun x24=>(bif (decide (((0:Int):Int)<=x24)) then(B1 (Bd x24 x19.length) (B1 (Bd x24 x19.length) (B1 ((x19.getD x24.toNat []).length+([(a5.Succ.length:Int)]:List Int).length<=room) (B1 (Bd x24 x19.length) ((Kp x21 x22 x24).bind fun x29=>(some (.next (x29,x22.Succ,x22.Pred,(x19.set x24.toNat ((x19.getD x24.toNat [])++([(a5.Succ.length:Int)]:List Int))))))))))) else((Vt x19).bind fun x30=>(some (.done (x30.1,x30.2)))))))))))))) (Aax a5)).bind (fun x39=>(some x39)))
def m_pdom_Tree(a5:A3):Option (List Int):=
 ((Yb a5).bind fun x1=>(bif (x1.2 !=0) then(some ([]:List Int)) else((Mx x1.1).bind fun x2=>((J3 x2 (a5.Succ.length:Int)).bind fun x3=>(some x3)))))
def Aaz(a5:A3)(x2:List Bool):(List Int×Int)->Option (LR (List Int×Int) (List Int)):=
 fun((l3,i4):(List Int×Int))=>(bif (decide (i4<(a5.Succ.length:Int))) then(Option.bind (α:=List Int) (B1 (Bd i4 64) (bif (!(x2.getD i4.toNat false)) then(B1 (l3.length+([i4]:List Int).length<=room) (some (l3++([i4]:List Int)))) else(some l3))) (fun x9=>(some (.next (x9,(A9 (i4+1))))))) else(some (.done l3)))
def m_pdom_Shut(a5:A3):Option (List Int):=
 ((Ht a5).bind fun x1=>(bif (!x1) then(some ([]:List Int)) else((Nu a5).bind fun x2=>((Am (Aaz a5 x2) (([]:List Int),(0:Int))).bind (fun x11=>(some x11))))))
def m_pdom_Over(aA:List Int)(aX:Int)(aZ:Int):Option Bool:=
 ((K7 aA aX aZ).bind fun x1=>(some x1))
def B9(x3:List THammock)(i4:Int):Int->Option (LR Int (Unit ⊕ Bool)):=
 fun(i13:Int)=>(bif (decide (i13<i4)) then(B1 (Bd i4 x3.length) (B1 (Bd i13 x3.length) (bif (bif (bif (decide (((0:Int):Int)<=(x3.getD i4.toNat default).Then)) then(bif (((x3.getD i4.toNat default).Then:Int)==(x3.getD i13.toNat default).Then) then true else(((x3.getD i4.toNat default).Then:Int)==(x3.getD i13.toNat default).Else)) else false) then true else(bif (decide (((0:Int):Int)<=(x3.getD i4.toNat default).Else)) then(bif (((x3.getD i4.toNat default).Else:Int)==(x3.getD i13.toNat default).Then) then true else(((x3.getD i4.toNat default).Else:Int)==(x3.getD i13.toNat default).Else)) else false)) then(some (.done (.inr false))) else(some (.next (A9 (i13+1))))))) else(some (.done (.inl ()))))
def Ca(a0:TFunc)(x3:List THammock):Int->Option (LR Int (Unit ⊕ Bool)):=
 fun(i4:Int)=>(bif (decide (i4<(x3.length:Int))) then(B1 (Bd i4 x3.length) ((G0 a0 (x3.getD i4.toNat default)).bind fun x6=>(B1 ((((!x6)==false)&&((decide (((0:Int):Int)<i4))==true))=true->(Bd i4 x3.length)) (B1 ((((!x6)==false)&&((decide (((0:Int):Int)<i4))==true))=true->(Bd (A9 (i4-1)) x3.length)) (bif (bif (!x6) then true else(bif (decide (((0:Int):Int)<i4)) then(decide (((x3.getD i4.toNat default).At:Int)<=(x3.getD (A9 (i4-1)).toNat (default:THammock)).At)) else false)) then(some (.done (.inr false))) else(B1 (Bd i4 x3.length) ((Gh a0 ((x3.getD i4.toNat default).At)).bind fun x10=>(B1 (((!x10.2)==false)=true->(Bd i4 x3.length)) ((bif ((bif (!x10.2) then true else(!(((x10.1.At:Int)==(x3.getD i4.toNat default).At)&&(((x10.1.Then:Int)==(x3.getD i4.toNat default).Then)&&(((x10.1.Else:Int)==(x3.getD i4.toNat default).Else)&&(((x10.1.Join:Int)==(x3.getD i4.toNat default).Join)&&true))))))==false) then He a0 x10.1 else some (0:Int)).bind fun x12=>(bif (bif (bif (!x10.2) then true else(!(((x10.1.At:Int)==(x3.getD i4.toNat default).At)&&(((x10.1.Then:Int)==(x3.getD i4.toNat default).Then)&&(((x10.1.Else:Int)==(x3.getD i4.toNat default).Else)&&(((x10.1.Join:Int)==(x3.getD i4.toNat default).Join)&&true)))))) then true else(decide (x12<0))) then(some (.done (.inr false))) else((Am (B9 x3 i4) (0:Int)).bind (fun x16=>(match x16 with|(.inl _)=>(some (.next (A9 (i4+1))))|(.inr r18)=>(some (.done (.inr r18)))))))))))))))) else(some (.done (.inl ()))))
def H2(Γ:G7)(a0:TFunc)(r:Bool):Exit->St->Prop:=fK Tryz.prog Γ Tryz.f5.results.toList [] (.bool r) []
def Tg(x3:List THammock)(i4:Int):=(x3.getD i4.toNat default)
def Q314(x3:List THammock)(i4:Int)(i13:Int):=(bif (decide (((0:Int):Int)<=(Tg x3 i4).Then)) then(bif (((Tg x3 i4).Then:Int)==(x3.getD i13.toNat default).Then) then true else(((Tg x3 i4).Then:Int)==(x3.getD i13.toNat default).Else)) else false)
def Q316(x3:List THammock)(i4:Int):=((decide (((0:Int):Int)<=(Tg x3 i4).Else))==true)
def Q321(x3:List THammock)(i4:Int)(i13:Int):=(((Q314 x3 i4 i13)==false)&&(Q316 x3 i4))
def Q319(x3:List THammock)(i4:Int)(i13:Int):=(((Tg x3 i4).Else:Int)==(x3.getD i13.toNat default).Then)
def Q323(x3:List THammock)(i4:Int)(i13:Int):=((Q321 x3 i4 i13)&&((Q319 x3 i4 i13)==false))
def Y4(x6:Bool)(i4:Int):=(((!x6)==false)&&((decide (((0:Int):Int)<i4))==true))
def Y3(x3:List THammock)(i4:Int):=((decide (((0:Int):Int)<=(Tg x3 i4).Then))==true)
def Q320(x3:List THammock)(i4:Int)(i13:Int):=((((Tg x3 i4).Then:Int)==(x3.getD i13.toNat default).Then)==false)
def Q315(x10:(THammock×Bool))(x3:List THammock)(i4:Int):=(bif (!x10.2) then true else(!(((x10.1.At:Int)==(Tg x3 i4).At)&&(((x10.1.Then:Int)==(Tg x3 i4).Then)&&(((x10.1.Else:Int)==(Tg x3 i4).Else)&&(((x10.1.Join:Int)==(Tg x3 i4).Join)&&true))))))
def D2(a0:TFunc):Option Bool:=
 (m_locksteplaw14_awake.bind fun x1=>(bif (!x1) then(some false) else((Ez a0).bind fun x2=>(bif (!x2) then(some true) else((Fe a0).bind fun x3=>((Am (Ca a0 x3) (0:Int)).bind (fun x19=>(match x19 with|(.inl _)=>(some true)|(.inr r21)=>(some r21)))))))))
theorem ok_locksteplaw14_HammockApart(a0:TFunc)(r:Bool)(h:D2 a0=some r):Spec Tryz.prog 5 [(Z41 a0)] [] (.bool r) []:=by
 refine Ab mix Tryz.func5 (fun Γ hq=>?_);unfold D2 at h;refine Aj hq [1] [1] ?_;obtain⟨x1,hx1,h⟩:=bind_some h;refine gR hq [1,11] [1] [] [(Z2 x1)] (c1 (Pv  x1 hx1)) ?_;refine gC h ?_ ?_<;>intro h
 ·refine Aj hq [2] [] ?_;obtain rfl:=OI h;exact Dp []
 ·obtain⟨x2,hx2,h⟩:=bind_some h;refine gR hq [1,14] [1] [] [(Z2 x2)] (c1 (Px a0 x2 hx2)) ?_;refine gC h ?_ ?_<;>intro h
  ·refine Aj hq [2] [] ?_;obtain rfl:=OI h;exact Dp []
  ·obtain⟨x3,hx3,h⟩:=bind_some h;refine gR hq Qq N6 [] [⟨[],[(20000,16)],(Z29 x3 20000),[(20000,.tok 4 27 x3.length)],[],[]⟩] (c1 (Kr a0 x3 hx3)) ?_;refine Aj hq Kz N6 ?_;obtain⟨x19,hx19,h⟩:=bind_some h;refine gL hq hx19 Kz N6 (fun u i4=>(Gn u [(4,(Z7 i4))] [])) (fun u x_=>match x_ with|(.inl _)=>aG Γ (.exit 0) (⟨[],[],[]⟩:St)|(.inr r_)=>aR (H2 Γ a0 r_)) ?_ ?_
   ·intro i4 y h;unfold Ca at h;refine Aj hq [1,3,4,20] N6 ?_;refine gC h ?_ ?_<;>intro h
    ·obtain⟨hc5,h⟩:=Aa h;obtain⟨x6,hx6,h⟩:=bind_some h;obtain⟨hc7,h⟩:=Aa h;obtain⟨hc8,h⟩:=Aa h;refine gR hq [1,3,4,47] N6 [] [(Z2 x6)] (ci hc5 (ci (Lo a0 (Tg x3 i4) x6 hx6) (ci (gI ((!x6)==false)) (ci (gI ((!x6)==false)) (ci (gI (Y4 x6 i4)) (ci (gI (Y4 x6 i4)) (ci hc7 (ci (gI (Y4 x6 i4)) (ci (gI (Y4 x6 i4)) (ci (gI (Y4 x6 i4)) (ci (gI (Y4 x6 i4)) (ci (gI (Y4 x6 i4)) (ci hc8 (ci (gI (Y4 x6 i4)) (ci (gI (Y4 x6 i4)) (ci (gI (Y4 x6 i4)) (ci (gI (Y4 x6 i4)) (ci (gI ((!x6)==false)) (ci (show(((!x6)==false)=true->((decide (((0:Int):Int)<i4))=true->(Y4 x6 i4)=true)) from(fun hg=>(aT hg))) (c1 (Rl (!x6)))))))))))))))))))))) ?_;refine gC h ?_ ?_<;>intro h
     ·refine Aj hq [2] [] ?_;cases h;exact gO (Ol (K1 [] (Le.refl _ _)))
     ·obtain⟨hc9,h⟩:=Aa h;obtain⟨x10,hx10,h⟩:=bind_some h;refine gR hq Qp [1,5,16] [] [(Z19 x10.1 x10.2)] (ci hc9 (c1 (L6 a0 ((Tg x3 i4).At) x10 hx10))) ?_;obtain⟨hc11,h⟩:=Aa h;obtain⟨x12,hx12,h⟩:=bind_some h;refine gR hq [1,3,4,73] N6 [] [(Z31 x12)] (ci (gI ((!x10.2)==false)) (ci (gI ((!x10.2)==false)) (ci hc11 (ci (gI ((!x10.2)==false)) (ci (gI ((!x10.2)==false)) (ci (gI ((!x10.2)==false)) (ci (Rl (!x10.2)) (ci (gI ((Q315 x10 x3 i4)==false)) (ci (gI ((Q315 x10 x3 i4)==false)) (ci (fun(hg:((Q315 x10 x3 i4)==false)=true)=>(Qg a0 x10.1 x12 (Cw hg hx12))) (ci (gI ((Q315 x10 x3 i4)==false)) (c1 (Rl (Q315 x10 x3 i4)))))))))))))) ?_;refine gC h ?_ ?_<;>intro h
      ·refine Aj hq [2] [] ?_;cases h;exact gO (Ol (K1 [] (Le.refl _ _)))
      ·refine Aj hq [1,3,4,7] N6 ?_;obtain⟨x16,hx16,h⟩:=bind_some h;refine gL hq hx16 [1,3,4,7] N6 (fun u i13=>(Gn u [(7,(Z7 i13))] [])) (fun u x_=>match x_ with|(.inl _)=>aG Γ (.exit 2) (Xk Kz N6 u [] [])|(.inr r_)=>aR (H2 Γ a0 r_)) ?_ ?_
       ·intro i13 y h;unfold B9 at h;refine Aj hq [1,3,4,7,76] N6 ?_;refine gC h ?_ ?_<;>intro h
        ·obtain⟨hc14,h⟩:=Aa h;refine gR hq [1,3,4,7,8] [1,8,16] [] [] (c1 hc14) ?_;obtain⟨hc15,h⟩:=Aa h;refine gR hq [1,3,4,7,8,9] [1,8,9,16] [] [] (c1 hc15) ?_;refine gR hq [1,3,4,7,122] N6 [] [] (ci (gI (Y3 x3 i4)) (ci (gI (Y3 x3 i4)) (ci (gI (Y3 x3 i4)) (ci (gI (Y3 x3 i4)) (ci (gI (Y3 x3 i4)) (ci (gI ((Y3 x3 i4)&&(Q320 x3 i4 i13))) (ci (gI ((Y3 x3 i4)&&(Q320 x3 i4 i13))) (ci (gI ((Y3 x3 i4)&&(Q320 x3 i4 i13))) (ci (gI ((Y3 x3 i4)&&(Q320 x3 i4 i13))) (ci (gI (Y3 x3 i4)) (ci (show((Y3 x3 i4)=true->((((Tg x3 i4).Then:Int)==(x3.getD i13.toNat default).Then)=false->((Y3 x3 i4)&&(Q320 x3 i4 i13))=true)) from(fun hg=>(aF hg))) (ci (Mt (decide (((0:Int):Int)<=(Tg x3 i4).Then))) (ci (gI ((Q314 x3 i4 i13)==false)) (ci (gI ((Q314 x3 i4 i13)==false)) (ci (gI ((Q314 x3 i4 i13)==false)) (ci (gI (Q321 x3 i4 i13)) (ci (gI (Q321 x3 i4 i13)) (ci (gI (Q321 x3 i4 i13)) (ci (gI (Q321 x3 i4 i13)) (ci (gI (Q321 x3 i4 i13)) (ci (gI (Q323 x3 i4 i13)) (ci (gI (Q323 x3 i4 i13)) (ci (gI (Q323 x3 i4 i13)) (ci (gI (Q323 x3 i4 i13)) (ci (gI (Q321 x3 i4 i13)) (ci (show((Q321 x3 i4 i13)=true->((Q319 x3 i4 i13)=false->(Q323 x3 i4 i13)=true)) from(fun hg=>(aF hg))) (ci (gI ((Q314 x3 i4 i13)==false)) (ci (show(((Q314 x3 i4 i13)==false)=true->((decide (((0:Int):Int)<=(Tg x3 i4).Else))=true->(Q321 x3 i4 i13)=true)) from(fun hg=>(aT hg))) (c1 (Rl (Q314 x3 i4 i13))))))))))))))))))))))))))))))) ?_;refine gC h ?_ ?_<;>intro h
         ·refine Aj hq [2] [] ?_;cases h;exact gO (Ol (K1 [] (Le.refl _ _)))
         ·refine Aj hq [1,3,4,7] N6 ?_;cases h;exact gN F6
        ·cases h;exact gO (Em (Er Kz N6 hq))
       ·clear hx16;rcases x16 with _|r18
        ·refine gA ?_;refine Aj hq Kz N6 ?_;cases h;exact gN F6
        ·refine Th (fun st' hk=>?_);cases h;exact gO (Ol hk)
    ·cases h;exact gO (Em (Er [] [] hq))
   ·clear hx19;rcases x19 with _|r21
    ·refine gA ?_;refine Aj hq [2] [] ?_;obtain rfl:=OI h;exact Dp []
    ·refine Th (fun st' hk=>?_);obtain rfl:=OI h;exact gK hk
theorem Hn{n:Int}(h:-9223372036854775808<=n)(h':n<9223372036854775808):A9 n=n:=by
 show IntKind.i64.wrap n=n
 simp only[IntKind.wrap,IntKind.bits,IntKind.signed]
 simp
 split<;>omega
theorem wu64_of{n:Int}(h:0<=n)(h':n<18446744073709551616):Jm n=n:=by
 show IntKind.u64.wrap n=n
 simp[IntKind.wrap,IntKind.bits,IntKind.signed];omega
theorem wu64_mod(n:Int):Jm n=n % 18446744073709551616:=by
 show IntKind.u64.wrap n=_
 simp[IntKind.wrap,IntKind.bits,IntKind.signed]
theorem Ai{R:Type}{p:Prop}[Decidable p]{k:Option R}(h:p):B1 p k=k:=if_pos h
theorem fdiv_pow{x:Int}(j:Nat):x.fdiv (2 ^ j)=x / 2 ^ j:=by rw[Int.fdiv_eq_ediv_of_nonneg _ (by exact Int.le_of_lt (Int.pow_pos (by decide)))]
theorem Af{α:Type}(l:List α)(i:Nat)(d:α)(h:i<l.length):l.getD i d=l[i]:=by simp[List.getD,h]
theorem kinds(k:Int):k=0\/k=1\/k=2\/k=3\/k=4\/k=5\/k=6\/k=7\/k=8\/k=9\/k=10\/k=11\/k=12\/k=13\/k=14\/k=15\/k=16\/k=17\/k=18\/k=19\/k=20\/k=21\/k=22\/(k<0\/22<k):=by omega
theorem out_ne{k:Int}(h:k<0\/22<k):(k==0)=false/\(k==1)=false/\(k==2)=false/\(k==3)=false/\(k==4)=false/\(k==5)=false/\(k==6)=false/\(k==7)=false/\(k==8)=false/\(k==9)=false/\(k==10)=false/\(k==11)=false/\(k==12)=false /\
  (k==13)=false/\(k==14)=false/\(k==15)=false/\(k==16)=false/\(k==17)=false/\(k==18)=false/\(k==19)=false/\(k==20)=false/\(k==21)=false/\(k==22)=false:=by
 simp only[zzL35,ne_eq];omega
def El(b:Int):Bool:=b==1 || b==8 || b==16 || b==32 || b==64
def Vp(b n:Int):Bool:=El b&&(n==1 || ((n==2 || n==4 || n==8 || n==16)&&decide (8<=b)&&decide (b*n<=128)))
theorem width_cases{b:Int}(h:El b=true):b=1\/b=8\/b=16\/b=32\/b=64:=by simp[El]at h;omega
theorem Yo{b n:Int}(h:Vp b n=true):El b=true:=by simp[Vp]at h;exact h.1
theorem N0{b n:Int}(h:Vp b n=true):n=1\/n=2\/n=4\/n=8\/n=16:=by simp[Vp]at h;omega
theorem O5(b:Int):Gi b=some (El b):=by
 unfold Gi El
 by_cases h1:b=1
 ·subst h1;rfl
 by_cases h2:b=8
 ·subst h2;rfl
 by_cases h3:b=16
 ·subst h3;rfl
 by_cases h4:b=32
 ·subst h4;rfl
 by_cases h5:b=64
 ·subst h5;rfl
 have e1:(b==1)=false:=by simpa using h1
 have e2:(b==8)=false:=by simpa using h2
 have e3:(b==16)=false:=by simpa using h3
 have e4:(b==32)=false:=by simpa using h4
 have e5:(b==64)=false:=by simpa using h5
 simp[e1,e2,e3,e4,e5]
theorem kind_Shape(b n:Int):Ko b n=some (Vp b n):=by
 unfold Ko;simp only[O5,Au]
 by_cases hn:n=1\/n=2\/n=4\/n=8\/n=16
 ·cases hw:El b with
  | false=>rcases hn with rfl|rfl|rfl|rfl|rfl<;>simp[Vp,hw]
  | true=>
   rcases width_cases hw with rfl|rfl|rfl|rfl|rfl<;>rcases hn with rfl|rfl|rfl|rfl|rfl<;>rfl
 ·have e1:(n==1)=false:=by simp;omega
  have e2:(n==2)=false:=by simp;omega
  have e3:(n==4)=false:=by simp;omega
  have e4:(n==8)=false:=by simp;omega
  have e5:(n==16)=false:=by simp;omega
  simp[Vp,e1,e2,e3,e4,e5]
theorem word_Cut{v b:Int}(hv:0<=v/\v<18446744073709551616)(hb:El b=true):Mz v b=some (v % 2 ^ b.toNat):=by
 unfold Mz;simp only[O5,hb,Au,E9,A0]
 have key:∀ j:Nat,j<64->Wc .u64 (shlV .u64 v (j:Int)) (j:Int)=(v*2 ^ j % 18446744073709551616) / 2 ^ j:=fun j hj=>by
  simp only[Wc,shlV,Dr,IntKind.bits];rw[Nat.min_eq_left (by omega),fdiv_pow,show IntKind.u64.wrap (v*2 ^ j)=v*2 ^ j % 18446744073709551616 from wu64_mod _]
 rcases width_cases hb with rfl|rfl|rfl|rfl|rfl
 ·have:=key 63 (by decide);simp only[show A9 (64-1)=((63:Nat):Int) from rfl,this];rw[Ai (by decide),Ai (by decide)];congr 1;simp only[show((1:Int).toNat)=1 from rfl];omega
 ·have:=key 56 (by decide);simp only[show A9 (64-8)=((56:Nat):Int) from rfl,this];rw[Ai (by decide),Ai (by decide)];congr 1;simp only[show((8:Int).toNat)=8 from rfl];omega
 ·have:=key 48 (by decide);simp only[show A9 (64-16)=((48:Nat):Int) from rfl,this];rw[Ai (by decide),Ai (by decide)];congr 1;simp only[show((16:Int).toNat)=16 from rfl];omega
 ·have:=key 32 (by decide);simp only[show A9 (64-32)=((32:Nat):Int) from rfl,this];rw[Ai (by decide),Ai (by decide)];congr 1;simp only[show((32:Int).toNat)=32 from rfl];omega
 ·have:=key 0 (by decide);simp only[show A9 (64-64)=((0:Nat):Int) from rfl,this];rw[Ai (by decide),Ai (by decide)];congr 1;simp only[show((64:Int).toNat)=64 from rfl];omega
theorem kind_isWidth{i:Int}(h:0<=i/\i<18446744073709551616):Hh i=some (El i):=by
 unfold Hh
 by_cases hi:i<=64
 ·have:A9 i=i:=Hn (by omega) (by omega);simp[hi,this,O5]
 ·have:El i=false:=by simp[El];omega
  simp[hi,this]
def isK(k:Int):Bool:=decide (0<=k)&&decide (k<=22)
def M1(k n:Int):Int:=
 bif k==0 then 0 else bif k==13 || k==18 || k==19 then 3 else bif k==14 || k==15 || k==16 || k==22 then 1 else bif k==20 then 4 else bif k==21 then n else 2
def Wb(k b n:Int):Bool:=
 bif k==16 || k==17 then decide (8<=b) else bif k==18 || k==19 then decide (8<=b)&&n==1 else
 bif k==4 || k==10 || k==11 || k==12 || k==14 || k==15 || k==20 then n==1 else bif k==21 || k==22 then decide (1<n) else true
def ifitS(k b n i:Int):Bool:=
 bif k==0 then i % 2 ^ b.toNat==i else bif k==14 then El i&&decide (i<b) else bif k==15 then El i&&decide (b<i) else bif k==22 then decide (i<n) else i==0
def valS(v:Int):Bool:=decide (1<=v)&&decide (v<=1023)
def dstS(k d:Int):Bool:=bif k==17 || k==19 then d==0 else valS d
def K2(o:Ef):Bool:=Vp o.Bits o.Lanes&&(isK o.Kind&&Wb o.Kind o.Bits o.Lanes&&ifitS o.Kind o.Bits o.Lanes o.Imm&&((o.Args.length:Int)==M1 o.Kind o.Lanes))&&(o.Args.all valS&&dstS o.Kind o.Dst)
def elemS(o:Ef)(i:Nat):Int×Int:=
 bif o.Kind==13 || o.Kind==20 then(bif Nat.beq i 0 then(1,1) else(o.Bits,o.Lanes)) else bif o.Kind==14 || o.Kind==15 then(A9 o.Imm,1) else
 bif o.Kind==16 || o.Kind==17 then(bif Nat.beq i 0 then(64,1) else(o.Bits,o.Lanes)) else
 bif o.Kind==18 || o.Kind==19 then(bif Nat.beq i 1 then(64,1) else bif Nat.beq i 0 then(1,1) else(o.Bits,o.Lanes)) else bif o.Kind==21 then(o.Bits,1) else(o.Bits,o.Lanes)
def U2(o:Ef):List (Int×Int):=(List.range (M1 o.Kind o.Lanes).toNat).map (elemS o)
def Wu(k b n:Int):Int×Int:=bif k==17 || k==19 then(0,0) else bif k==10 || k==11 || k==12 then(1,1) else bif k==22 then(b,1) else(b,n)
theorem isK_out{k:Int}(h:k<0\/22<k):isK k=false:=by simp[isK];omega
theorem kind_isKind(k:Int):Jq k=some (isK k):=by unfold Jq isK;cases decide ((0:Int)<=k)<;>rfl
theorem Pn(v:Int):Hg v=some (valS v):=by unfold Hg valS;cases decide ((1:Int)<=v)<;>rfl
theorem Aas(o:Ef):Hi o=some (Wb o.Kind o.Bits o.Lanes):=by
 obtain⟨k,b,n,d,args,i⟩:=o;rcases kinds k with rfl|rfl|rfl|rfl|rfl|rfl|rfl|rfl|rfl|rfl|rfl|rfl|rfl|rfl|rfl|rfl|rfl|rfl|rfl|rfl|rfl|rfl|rfl|h
 any_goals rfl
 ·show some (bif decide (8<=b) then n==1 else false)=some (decide (8<=b)&&n==1);cases decide (8<=b)<;>rfl
 ·show some (bif decide (8<=b) then n==1 else false)=some (decide (8<=b)&&n==1);cases decide (8<=b)<;>rfl
 ·unfold Hi Wb;simp[out_ne h]
theorem Aar(o:Ef):Ja o=some (Wu o.Kind o.Bits o.Lanes):=by
 obtain⟨k,b,n,d,args,i⟩:=o;rcases kinds k with rfl|rfl|rfl|rfl|rfl|rfl|rfl|rfl|rfl|rfl|rfl|rfl|rfl|rfl|rfl|rfl|rfl|rfl|rfl|rfl|rfl|rfl|rfl|h
 any_goals rfl
 unfold Ja Wu;simp[out_ne h]
theorem kind_immFits(o:Ef)(hw:El o.Bits=true)(hn:0<=o.Lanes/\o.Lanes<=16)(hi:0<=o.Imm/\o.Imm<18446744073709551616):Is o=some (ifitS o.Kind o.Bits o.Lanes o.Imm):=by
 unfold Is ifitS
 have hb:Jm o.Bits=o.Bits:=by apply wu64_of<;>(rcases width_cases hw with h|h|h|h|h<;>omega)
 have hl:Jm o.Lanes=o.Lanes:=by apply wu64_of<;>omega
 rw[word_Cut hi hw,kind_isWidth hi,hb,hl]
 cases(o.Kind==0)<;>cases(o.Kind==14)<;>cases(o.Kind==15)<;>cases(o.Kind==22)<;>cases El o.Imm<;>rfl
set_option maxHeartbeats 2000000 in
theorem Rq{α X:Type}(l:List α)(d:α)(p:α->Bool)(f:Int->Option (LR Int X))(yes no:X)(hn:∀ i:Nat,i<l.length->p (l.getD i d)=true->f i=some (.next ((i:Int)+1)))
  (hf:∀ i:Nat,i<l.length->p (l.getD i d)=false->f i=some (.done no)) (he:f l.length=some (.done yes)):∀(k i:Nat),i+k=l.length->Am f i=some (bif (l.drop i).all p then yes else no)
 | 0,i,h=>by
  obtain rfl:i=l.length:=by omega
  rw[Ao he]
  simp
 | k+1,i,h=>by
  have hi:i<l.length:=by omega
  have hd:l.drop i=l.getD i d::l.drop (i+1):=by rw[T9 hi,Af _ _ _ hi]
  cases hp:p (l.getD i d) with
  | true=>
   rw[Ar (hn i hi hp)];have:=Rq l d p f yes no hn hf he k (i+1) (by omega);rw[show((i:Int)+1)=((i+1:Nat):Int) by omega,this,hd,Qn,hp,Ga]
  | false=>
   rw[Ao (hf i hi hp),hd,Qn,hp,Wk,A0]
theorem Vs{α:Type}(l:List α)(d:α)(wt:α->Nat)(C:Nat)(f:Int×Int->Option (LR (Int×Int) Int))
  (hn:∀(n i:Nat),i<l.length->n<=C->∃ m:Nat,f ((n:Int),(i:Int))=some (.next ((m:Int),((i+1:Nat):Int)))/\(n+wt (l.getD i d)<=C->m=n+wt (l.getD i d))/\(m<=C->n+wt (l.getD i d)<=C))
  (hd:∀(n i:Nat),i<=l.length->(i=l.length\/C<n)->f ((n:Int),(i:Int))=some (.done (n:Int))) :
  ∀(k i n:Nat),i+k=l.length->∃ m:Nat,Am f ((n:Int),(i:Int))=some (m:Int)/\(n+((l.drop i).map wt).sum<=C->m=n+((l.drop i).map wt).sum)/\(m<=C->n+((l.drop i).map wt).sum<=C)
 | 0,i,n,h=>by
  obtain rfl:i=l.length:=by omega
  refine⟨n,Ao (hd n _ (zzL8 _) (.inl rfl)),?_,?_⟩
  ·simp
  ·simp
 | k+1,i,n,h=>by
  have hi:i<l.length:=by omega
  have hdr:l.drop i=l.getD i d::l.drop (i+1):=by rw[T9 hi,Af _ _ _ hi]
  by_cases hC:n<=C
  ·obtain⟨m,h1,h2,h3⟩:=hn n i hi hC;obtain⟨m',h4,h5,h6⟩:=Vs l d wt C f hn hd k (i+1) m (by omega);refine⟨m',by rw[Ar h1];exact h4,fun hle=>?_,fun hle=>?_⟩
   ·rw[hdr,Bq,P2]at hle ⊢;have:=h2 (by omega);subst this;rw[h5 (by omega)];omega
   ·rw[hdr,Bq,P2];have h7:=h6 hle;have h8:=h3 (by omega);have:=h2 h8;omega
  ·refine⟨n,Ao (hd n i (by omega) (.inr (by omega))),fun hle=>by omega,fun hle=>by omega⟩
theorem Mv{X:Type}(N:Nat)(f:Int×Int->Option (LR (Int×Int) X))(hn:∀(n:Int) (i:Nat),i<N->(∃ m:Int,f (n,(i:Int))=some (.next (m,((i+1:Nat):Int))))\/∃ x,f (n,(i:Int))=some (.done x))(hd:∀ n:Int,∃ x,f (n,(N:Int))=some (.done x)) :
  ∀(k i:Nat) (n:Int),i+k=N->∃ x,Am f (n,(i:Int))=some x
 | 0,i,n,h=>by
  obtain rfl:i=N:=by omega
  obtain⟨x,hx⟩:=hd n;exact⟨x,Ao hx⟩
 | k+1,i,n,h=>by
  rcases hn n i (by omega) with⟨m,hm⟩|⟨x,hx⟩
  ·obtain⟨x,hx⟩:=Mv N f hn hd k (i+1) m (by omega);exact⟨x,by rw[Ar hm];exact hx⟩
  ·exact⟨x,Ao hx⟩
theorem loop_addw{α X:Type}(l:List α)(d:α)(wt:α->Nat)(out:Int->X)(f:Int×Int->Option (LR (Int×Int) X))
  (hn:∀(n i:Nat),i<l.length->f (A9 n,(i:Int))=some (.next (A9 ((n+wt (l.getD i d):Nat):Int),((i+1:Nat):Int)))) (hd:∀ n:Int,f (n,(l.length:Int))=some (.done (out n))) :
  ∀(k i n:Nat),i+k=l.length->Am f (A9 n,(i:Int))=some (out (A9 ((n+((l.drop i).map wt).sum:Nat):Int)))
 | 0,i,n,h=>by
  obtain rfl:i=l.length:=by omega
  rw[Ao (hd _)]
  simp
 | k+1,i,n,h=>by
  have hi:i<l.length:=by omega
  have hdr:l.drop i=l.getD i d::l.drop (i+1):=by rw[T9 hi,Af _ _ _ hi]
  rw[Ar (hn n i hi),loop_addw l d wt out f hn hd k (i+1) _ (by omega),hdr,Bq,P2,Jv]
theorem w64_add(a b:Int):A9 (A9 a+b)=A9 (a+b):=by
 show IntKind.i64.wrap (IntKind.i64.wrap a+b)=IntKind.i64.wrap (a+b)
 simp only[IntKind.wrap,IntKind.bits,IntKind.signed]
 simp
 split<;>split<;>omega
theorem A5{α:Type}{l:List α}{i:Nat}{d:α}(h:i<l.length):l.getD i d∈l:=by rw[Af _ _ _ h];exact Sp h
theorem Ax{i n:Nat}(h:i<n):Bd (i:Int) n:=⟨by omega,by exact_mod_cast h⟩
theorem E0{i n:Nat}(h:i<n)(hn:n<9223372036854775808):A9 ((i:Int)+1)=(i:Int)+1:=Hn (by omega) (by omega)
def good31(l:List Int):Prop:=∀ x∈l,0<=x/\x<=2147483647
theorem Rr{S X:Type}(f:S->Option (LR S X))(T:Nat->S)(x:X):∀(n:Nat),(∀ i,i<n->f (T i)=some (.next (T (i+1))))->f (T n)=some (.done x)->Am f (T 0)=some x:=by
 suffices h:∀(k i n:Nat),i+k=n->(∀ j,i<=j->j<n->f (T j)=some (.next (T (j+1))))->f (T n)=some (.done x)->Am f (T i)=some x from
  fun n h1 h2=>h n 0 n (by omega) (fun j _ hj=>h1 j hj) h2
 intro k
 induction k with
 | zero=>
  intro i n hi _ h2
  have hin:n=i:=by omega
  subst hin;exact Ao h2
 | succ k ih=>intro i n hi h1 h2;rw[Ar (h1 i (zzL8 _) (by omega))];exact ih (i+1) n (by omega) (fun j hj hj'=>h1 j (by omega) hj') h2
theorem loop_seq_part{S X:Type}(f:S->Option (LR S X))(T:Nat->S):∀(n:Nat),(∀ i,i<n->f (T i)=some (.next (T (i+1))))->Am f (T 0)=Am f (T n):=by
 intro n
 induction n with
 | zero=>intro _;rfl
 | succ n ih=>intro h;rw[ih (fun i hi=>h i (by omega)),Ar (h n (by omega))]
theorem Mo{S X:Type}(f:S->Option (LR S X))(T:Nat->S)(p:Nat->Bool)(yes no:X)(n:Nat)(hn:∀ i,i<n->p i=true->f (T i)=some (.next (T (i+1))))(hf:∀ i,i<n->p i=false->f (T i)=some (.done no))
  (he:f (T n)=some (.done yes)):Am f (T 0)=some (bif (List.range n).all p then yes else no):=by
 cases hall:(List.range n).all p with
 | true=>
  rw[Ah];exact Rr f T yes n (fun i hi=>hn i hi (zzL29.1 hall i (zzL45.2 hi))) he
 | false=>
  rw[A0]
  have hex:∃ i,i<n/\p i=false:=by
   have:¬ ∀ i∈List.range n,p i=true:=fun h=>by rw[zzL29.2 h]at hall;cases hall
   simpa using this
  let P:Nat->Prop:=fun m=>m<n/\p m=false
  obtain⟨m,hm⟩:=hex
  have key:∀ m,m<n->p m=false->∃ k,k<n/\p k=false/\∀ j,j<k->p j=true:=by
   intro m
   induction m using Nat.strongRecOn with
   | ind m ih=>
    intro h1 h2
    by_cases h:∃ j,j<m/\p j=false
    ·obtain⟨j,hj,hpj⟩:=h;exact ih j hj (by omega) hpj
    ·refine⟨m,h1,h2,fun j hj=>?_⟩
     cases hpj:p j with
     | true=>rfl
     | false=>exact(h ⟨j,hj,hpj⟩).elim
  obtain⟨k,hk,hpk,hlt⟩:=key m hm.1 hm.2;rw[loop_seq_part f T k (fun i hi=>hn i (by omega) (hlt i hi))];exact Ao (hf k hk hpk)
theorem all_range{n:Nat}{p:Nat->Bool}:(List.range n).all p=true↔∀ i,i<n->p i=true:=by
 rw[zzL29];exact⟨fun h i hi=>h i (zzL45.2 hi),fun h i hi=>h i (zzL45.1 hi)⟩
theorem A1(i:Nat):((i:Int)).toNat=i:=Dr i
theorem w1{i:Nat}(h:i<4611686018427387904):A9 ((i:Int)+1)=((i+1:Nat):Int):=by rw[Hn (by omega) (by omega)];omega
theorem F4{i n:Nat}(h:i<n):decide (((i:Nat):Int)<((n:Nat):Int))=true:=by simpa using h
theorem K0{n:Nat}:decide (((n:Nat):Int)<((n:Nat):Int))=false:=by simp
theorem Kf{i n:Nat}(h:i<n):Bd ((i:Nat):Int) n:=Ax h
theorem inbz{x:Int}{n:Nat}(h0:0<=x)(h1:x<n):Bd x n:=⟨h0,h1⟩
structure OpOk(o:Ef):Prop where
 imm:0<=o.Imm/\o.Imm<18446744073709551616
 args:o.Args.length<=200
theorem repeat_one(x:Int×Int)(n:Int)(h:n=2\/n=4\/n=8\/n=16):Be [x] n=some (List.replicate n.toNat x):=by
 let d:Int×Int:=(0,0)
 rcases h with rfl|rfl|rfl|rfl
 ·have e:Be [x] 2=(Am Bt (1,[x,d])).bind some:=by kernel_rfl
  rw[e,Ar (s':=(2,[x,x])) (by kernel_rfl),Ao (x:=[x,x]) (by kernel_rfl)]
  rfl
 ·have e:Be [x] 4=(Am Bt (1,[x,d,d,d])).bind some:=by kernel_rfl
  rw[e,Ar (s':=(2,[x,x,d,d])) (by kernel_rfl),Ar (s':=(4,[x,x,x,x])) (by kernel_rfl),Ao (x:=[x,x,x,x]) (by kernel_rfl)]
  rfl
 ·have e:Be [x] 8=(Am Bt (1,[x,d,d,d,d,d,d,d])).bind some:=by kernel_rfl
  rw[e,Ar (s':=(2,[x,x,d,d,d,d,d,d])) (by kernel_rfl),Ar (s':=(4,[x,x,x,x,d,d,d,d])) (by kernel_rfl),Ar (s':=(8,[x,x,x,x,x,x,x,x])) (by kernel_rfl),
   Ao (x:=[x,x,x,x,x,x,x,x]) (by kernel_rfl)]
  rfl
 ·have e:Be [x] 16=(Am Bt (1,[x,d,d,d,d,d,d,d,d,d,d,d,d,d,d,d])).bind some:=by kernel_rfl
  rw[e,Ar (s':=(2,[x,x,d,d,d,d,d,d,d,d,d,d,d,d,d,d])) (by kernel_rfl),Ar (s':=(4,[x,x,x,x,d,d,d,d,d,d,d,d,d,d,d,d])) (by kernel_rfl),
   Ar (s':=(8,[x,x,x,x,x,x,x,x,d,d,d,d,d,d,d,d])) (by kernel_rfl),Ar (s':=(16,List.replicate 16 x)) (by kernel_rfl),Ao (x:=List.replicate 16 x) (by kernel_rfl)]
  rfl
theorem kind_row(l:List (Int×Int)):E4 l=some l:=rfl
theorem Aat(o:Ef)(hs:Vp o.Bits o.Lanes=true)(hk:isK o.Kind=true)(hf:Wb o.Kind o.Bits o.Lanes=true):Jb o=some (U2 o):=by
 have hl:=N0 hs;obtain⟨k,b,n,d,args,i⟩:=o;simp only at hs hk hf hl ⊢;rcases kinds k with rfl|rfl|rfl|rfl|rfl|rfl|rfl|rfl|rfl|rfl|rfl|rfl|rfl|rfl|rfl|rfl|rfl|rfl|rfl|rfl|rfl|rfl|rfl|h
 case inr.inr.inr.inr.inr.inr.inr.inr.inr.inr.inr.inr.inr.inr.inr.inr.inr.inr.inr.inr.inr.inl=>
  have h1:n≠1:=by rintro rfl;simp[Wb]at hf
  have h4:n=2\/n=4\/n=8\/n=16:=by omega
  unfold Jb;rw[show(((21:Int))==21)=true from rfl];simp only[repeat_one _ _ h4,kind_row,Au];rcases h4 with rfl|rfl|rfl|rfl<;>rfl
 all_goals first
  | rfl
  | (rw[isK_out h]at hk;cases hk)
  | (rcases hl with rfl|rfl|rfl|rfl|rfl<;>first|rfl|(simp[Wb]at hf))
theorem kind_argsFit(o:Ef)(hs:Vp o.Bits o.Lanes=true)(hk:isK o.Kind=true)(hf:Wb o.Kind o.Bits o.Lanes=true)(hl:o.Args.length<=200):Iq o=some (((o.Args.length:Int)==M1 o.Kind o.Lanes)&&o.Args.all valS):=by
 unfold Iq;rw[Aat o hs hk hf]
 have hn:0<=M1 o.Kind o.Lanes:=by
  have:=N0 hs;unfold M1
  cases(o.Kind==0)<;>cases(o.Kind==13 || o.Kind==18 || o.Kind==19)<;>cases(o.Kind==14 || o.Kind==15 || o.Kind==16 || o.Kind==22)<;>cases(o.Kind==20)<;>cases(o.Kind==21)<;>simp<;>omega
 have hlen:((U2 o).length:Int)=M1 o.Kind o.Lanes:=by simp[U2];omega
 simp only[Au,hlen]
 by_cases he:(o.Args.length:Int)=M1 o.Kind o.Lanes
 ·have e1:((o.Args.length:Int)==M1 o.Kind o.Lanes)=true:=by simpa using he
  have e2:((o.Args.length:Int)!=M1 o.Kind o.Lanes)=false:=by simpa using he
  rw[e1,e2,A0]
  have hloop:=Rq o.Args (0:Int) valS (Fu o) (.inl ()) (.inr false) (fun i hi hp=>by
    unfold Fu
    have:decide ((i:Int)<(o.Args.length:Int))=true:=by simpa using hi
    simp only[this,Ah,Ai (Ax hi),Dr,Pn,Au,hp,E9,A0,E0 hi (by omega)]) (fun i hi hp=>by
    unfold Fu
    have:decide ((i:Int)<(o.Args.length:Int))=true:=by simpa using hi
    simp only[this,Ah,Ai (Ax hi),Dr,Pn,Au,hp,L1]) (by
    unfold Fu
    simp) o.Args.length 0 (by omega)
  rw[show(0:Int)=((0:Nat):Int) from rfl,hloop,N4]
  cases o.Args.all valS<;>rfl
 ·have e1:((o.Args.length:Int)==M1 o.Kind o.Lanes)=false:=by simpa using he
  have e2:((o.Args.length:Int)!=M1 o.Kind o.Lanes)=true:=by simpa using he
  rw[e1,e2];rfl
theorem gives_zero{k b n:Int}(hs:Vp b n=true):((Wu k b n).1==0)=(k==17 || k==19):=by
 have hb:(b==0)=false:=by
  have:=width_cases (Yo hs);simp;omega
 unfold Wu
 cases(k==17 || k==19)<;>cases(k==10 || k==11 || k==12)<;>cases(k==22)<;>simp_all
theorem kind_dstFits(o:Ef)(hs:Vp o.Bits o.Lanes=true):Ir o=some (dstS o.Kind o.Dst):=by
 unfold Ir;simp only[Aar,Au,gives_zero hs,Pn,dstS]
 cases(o.Kind==17 || o.Kind==19)<;>rfl
theorem Aaq(o:Ef)(ho:OpOk o):J6 o=some (K2 o):=by
 unfold J6 K2;simp only[kind_isKind,kind_Shape,Aas,Au]
 cases hs:Vp o.Bits o.Lanes with
 | false=>cases isK o.Kind<;>rfl
 | true=>
  have hl:=N0 hs
  cases hk:isK o.Kind with
  | false=>rfl
  | true=>
   rw[kind_immFits o (Yo hs) (by omega) ho.imm];simp only[kind_dstFits o hs]
   cases hf:Wb o.Kind o.Bits o.Lanes with
   | false=>rfl
   | true=>
    rw[kind_argsFit o hs hk hf ho.args]
    generalize ifitS o.Kind o.Bits o.Lanes o.Imm=p
    generalize ((o.Args.length:Int)==M1 o.Kind o.Lanes)=q
    generalize o.Args.all valS=r
    generalize dstS o.Kind o.Dst=s
    cases p<;>cases q<;>cases r<;>cases s<;>rfl
theorem may_all{o:Ef}(h:K2 o=true):Vp o.Bits o.Lanes=true/\isK o.Kind=true/\Wb o.Kind o.Bits o.Lanes=true/\ifitS o.Kind o.Bits o.Lanes o.Imm=true/\(o.Args.length:Int)=M1 o.Kind o.Lanes/\o.Args.all valS=true/\dstS o.Kind o.Dst=true:=by
 simp only[K2,A6,zzL68]at h;exact⟨h.1.1,h.1.2.1.1.1,h.1.2.1.1.2,h.1.2.1.2,h.1.2.2,h.2.1,h.2.2⟩
theorem kind_Takes(o:Ef)(ho:OpOk o):I9 o=some (bif K2 o then U2 o else[]):=by
 unfold I9;rw[Aaq o ho];simp only[Au]
 cases hm:K2 o with
 | false=>rfl
 | true=>
  obtain⟨h1,h2,h3,_⟩:=may_all hm;simp only[Aat o h1 h2 h3,Au]
  rfl
theorem kind_Gives(o:Ef)(ho:OpOk o):I8 o=some (bif K2 o then Wu o.Kind o.Bits o.Lanes else(0,0)):=by
 unfold I8;rw[Aaq o ho];simp only[Au,Aar]
 cases K2 o<;>rfl
theorem wf_u64{n:Int}(h:(Lit.int .u64 n).wf=true):0<=n/\n<18446744073709551616:=by simp[Lit.wf,IntKind.min,IntKind.max,IntKind.bits,IntKind.signed]at h;omega
abbrev Iall(w:World):Nat->Nat->Prop:=fun b o=>∃ u,w.cell? ⟨b,o,none⟩=some u
structure CRep(w:World)(cs:List Value)(avs:List AV):Prop where
 len:cs.length=avs.length
 one:∀ j,j<avs.length->(cs.getD j undef).oneCell'=true
 rep:∀ j,j<avs.length->RepV (Iall w) w (cs.getD j undef) (avs.getD j .any)
structure Opens(P:Program)(t:TypeId){α:Type}(e:α->List AV)(ok:α->Prop):Prop where
 get:∀{H:Type} {enc:TypeId×Value->H} {w:World} {base:Nat} {spare:Nat->Bool} {held:Bool} {fuel:Nat} {cs:List Value} {x:DataW H×List MemPlace},
  DataW.trod enc P w base spare held fuel t cs=some x->∃ a,ok a/\CRep w cs (e a)
theorem Aac{w:World}{v:Value}{x:AV}(h1:v.oneCell'=true)(h:RepV (Iall w) w v x):CRep w [v] [x]:=
 ⟨rfl,fun j hj=>(by
   have hj0:j=0:=by simpa using hj
   subst hj0
   exact h1),fun j hj=>(by
   have hj0:j=0:=by simpa using hj
   subst hj0
   exact h)⟩
theorem opens_int{P:Program}{t:TypeId}{k:IntKind}{e:Int->List AV}(ht:P.underlying t=some (.int k))(he:∀ n,e n=[.int k n]):Opens P t e (fun n=>(Lit.int k n).wf=true):=by
 refine⟨?_⟩;intro H enc w base spare held fuel cs x h;obtain⟨n,rfl,rfl,hw⟩:=DataW.trod_int ht h;exact⟨n,hw,by rw[he];exact Aac rfl (.int _ _)⟩
theorem cells?_get{w:World}{base:Nat}{a:Addr}{n:Nat}{cs:List Value}(h:w.cells? base a n=some cs):cs.length=n/\∀ i,i<n->w.cell? (a.add i)=some (cs.getD i undef):=by
 unfold World.cells? at h
 split at h
 ·have hl:=mapM_some_length h;simp at hl;refine⟨hl,fun i hi=>?_⟩;have:=mapM_some_get h i i (by simp[hi]);rw[this];simp[List.getD,show i<cs.length by omega]
 ·cases h
theorem Nw{P:Program}{t el:TypeId}{α:Type}{e:α->List AV}{ok:α->Prop}{sz:Nat}{d:α}{e':List α->List AV}(ht:P.underlying t=some (.slice el))(hs:P.cellsOf el=sz)(h1:1<=sz)(he:Opens P el e ok)(hlen:∀ a,(e a).length=sz)
  (he':∀ l,e' l=[AV.list sz e d l .none]):Opens P t e' (fun l=>(∀ a∈l,ok a)/\l.length<=maxLen):=by
 refine⟨?_⟩;intro H enc w base spare held fuel cs x h;rcases DataW.trod_slice ht h with⟨rfl,rfl⟩|⟨a,len,cap,elems,rest,n,_,rfl,rfl,hb,hl,hm,hlen2,hel,_⟩
 ·exact⟨[],⟨by simp,by simp⟩,by rw[he'];exact Aac rfl (.slice none 0 0 sz _ (fun _=>undef) (zzL8 _) (by simp) (fun h=>by simp at h) (fun _=>rfl) (fun j hj=>by simp at hj) (fun i hi=>by simp at hi) (fun i c hi=>by simp at hi))⟩
 ·have each:∀ i:Fin len,∃ b,ok b/\∃ cs,w.cells? base (a.add (i.1*sz)) sz=some cs/\CRep w cs (e b):=fun⟨i,hi⟩=>by
   have:=hel i hi;rw[hs,Ng (by omega),zzL106]at this;obtain⟨cs,hcs,htr⟩:=this;obtain⟨b,hb,hr⟩:=he.get htr;exact⟨b,hb,cs,hcs,hr⟩
  let f:Fin len->α:=fun i=>(each i).choose
  have hf:∀ i,ok (f i)/\∃ cs,w.cells? base (a.add (i.1*sz)) sz=some cs/\CRep w cs (e (f i)):=fun i=>(each i).choose_spec
  have hlf:(List.ofFn f).length=len:=by simp
  refine⟨List.ofFn f,⟨fun b hb=>?_,by simp;omega⟩,?_⟩
  ·obtain⟨i,rfl⟩:=List.mem_ofFn.1 hb;exact(hf i).1
  rw[he'];refine Aac rfl ?_
  have hcell0:∀ i (hi:i<len),∀ c,c<sz->∃ u,w.cell? ((a.add (i*sz)).add c)=some u/\u.oneCell'=true/\RepV (Iall w) w u ((e (f ⟨i,hi⟩)).getD c .any):=fun i hi c hc=>by
   obtain⟨_,cs,hcs,hr⟩:=hf ⟨i,hi⟩;obtain⟨hl,hg⟩:=cells?_get hcs;exact⟨_,hg c hc,hr.one c (by rw[hlen];exact hc),hr.rep c (by rw[hlen];exact hc)⟩
  have hspot:0<len->a.spot=none:=fun hp=>by
   obtain⟨u,hu,_⟩:=hcell0 0 hp 0 h1;have h2:=World.cell?_spot hu
   simpa [Addr.add] using h2
  have hcell:∀ i (hi:i<len),∀ c,c<sz->∃ u,w.cell? ⟨a.block,a.off+(i*sz+c),none⟩=some u/\u.oneCell'=true/\RepV (Iall w) w u ((e (f ⟨i,hi⟩)).getD c .any):=fun i hi c hc=>by
   obtain⟨u,hu,h1,h2⟩:=hcell0 i hi c hc;have hsp:=hspot (by omega);rw[H4 hsp,Kb]at hu;exact⟨u,by rw[<- Jv];exact hu,h1,h2⟩
  have hdm:∀ j,j<len*sz->∃ i c,i<len/\c<sz/\j=i*sz+c:=fun j hj=>by
   refine⟨j / sz,j % sz,(Xq (by omega)).2 hj,P5 _ (by omega),?_⟩;rw[P3];exact(Sj j sz).symm
  unfold AV.list;rw[hlf];refine .slice (some a) len cap sz _ (fun j=>(w.cell? ⟨a.block,a.off+j,none⟩).getD undef) hl hm (fun hp=>⟨a,rfl,hspot hp,fun j hj=>?_,fun j hj=>?_⟩) (fun h=>by cases h) (fun j hj=>?_) (fun i hi=>hlen _) (fun i c hi hc=>?_)
  ·obtain⟨i,c,hi,hc,rfl⟩:=hdm j hj;obtain⟨u,hu,_⟩:=hcell i hi c hc;exact⟨u,hu⟩
  ·obtain⟨i,c,hi,hc,rfl⟩:=hdm j hj;obtain⟨u,hu,_⟩:=hcell i hi c hc;rw[hu];rfl
  ·obtain⟨i,c,hi,hc,rfl⟩:=hdm j hj;obtain⟨u,hu,h1,_⟩:=hcell i hi c hc;simp only[hu];exact h1
  ·obtain⟨u,hu,_,h2⟩:=hcell i hi c hc
   have e1:(List.ofFn f).getD i d=f ⟨i,hi⟩:=by simp[List.getD,hi]
   rw[e1,hu];exact h2
structure OpensF(P:Program)(fs:List Field)(off N:Nat){α:Type}(e:α->List AV)(ok:α->Prop):Prop where
 get:∀{H:Type} {enc:TypeId×Value->H} {w:World} {base:Nat} {spare:Nat->Bool} {held:Bool} {n:Nat} {cs:List Value},cs.length=N->
  (∀ f∈fs,∃ x,DataW.trod enc P w base spare held n f.type ((cs.drop f.offset).take (P.cellsOf f.type))=some x)->∃ a,ok a/\CRep w (cs.drop off) (e a)
theorem M7{P:Program}{N:Nat}:OpensF P [] N N (fun _:Unit=>[]) (fun _=>True):=by
 refine⟨?_⟩;intro H enc w base spare held n cs hN _;rw[List.drop_eq_nil_of_le (by omega)];exact⟨(),trivial,rfl,(fun j hj=>by simp at hj),(fun j hj=>by simp at hj)⟩
theorem B5{P:Program}{f:Field}{fs:List Field}{off sz N:Nat}{α β:Type}{e:α->List AV}{ok:α->Prop}{e':β->List AV}{ok':β->Prop}(hoff:f.offset=off)(hsz:P.cellsOf f.type=sz)(hle:off+sz<=N)
  (h:Opens P f.type e ok) (h':OpensF P fs (off+sz) N e' ok'):OpensF P (f::fs) off N (fun p:α×β=>e p.1++e' p.2) (fun p=>ok p.1/\ok' p.2):=by
 refine⟨?_⟩;intro H enc w base spare held n cs hN hall;obtain⟨x,hx⟩:=hall f (by simp);rw[hoff,hsz]at hx;obtain⟨a,ha,hr⟩:=h.get hx;obtain⟨b,hb,hr'⟩:=h'.get hN (fun g hg=>hall g (by simp[hg]))
 have hl:(e a).length=sz:=by rw[<- hr.len];simp;omega
 have hl':(e' b).length=N-(off+sz):=by rw[<- hr'.len];simp;omega
 have hsplit:cs.drop off=(cs.drop off).take sz++cs.drop (off+sz):=by rw[<- List.drop_drop];exact(List.take_append_drop sz _).symm
 have hl2:((cs.drop off).take sz).length=sz:=by simp;omega
 refine⟨(a,b),⟨ha,hb⟩,?_,fun j hj=>?_,fun j hj=>?_⟩
 ·simp[hl,hl'];omega
 ·rw[hsplit];replace hj:j<(e a++e' b).length:=hj
  show _
  by_cases hlt:j<sz
  ·have:=hr.one j (by omega);rwa[List.getD,K3 (by omega)]
  ·have:=hr'.one (j-sz) (by simp at hj;omega);rwa[List.getD,O6 (by omega),hl2]
 ·rw[hsplit];replace hj:j<(e a++e' b).length:=hj
  show RepV (Iall w) w _ ((e a++e' b).getD j .any)
  by_cases hlt:j<sz
  ·have:=hr.rep j (by omega);rwa[List.getD,K3 (by omega),List.getD,K3 (by omega)]
  ·have:=hr'.rep (j-sz) (by simp at hj;omega);rwa[List.getD,O6 (by omega),hl2,List.getD,O6 (by omega),hl]
theorem Ks{P:Program}{t:TypeId}{fs:Array Field}{N:Nat}{α:Type}{e:α->List AV}{ok:α->Prop}(ht:P.underlying t=some (.struct fs))(hN:P.cellsOf t=N)(h:OpensF P fs.toList 0 N e ok):Opens P t e ok:=by
 refine⟨?_⟩;intro H enc w base spare held fuel cs x hx;obtain⟨xs,n,_,_,hl,hxl,hall⟩:=DataW.trod_struct ht hx
 have:=h.get (n:=n) (hl.trans hN) (enc:=enc) (w:=w) (base:=base) (spare:=spare) (held:=held) (fun f hf=>by
  obtain⟨i,hi,rfl⟩:=List.mem_iff_getElem.1 hf
  have hi':i<fs.size:=by simpa using hi
  have:=hall i fs.toList[i] (by simp[hi']);rw[Ng (by omega)]at this
  exact⟨_,this⟩)
 simpa using this
theorem Opens.to{P:Program}{t:TypeId}{α β:Type}{e:α->List AV}{ok:α->Prop}(h:Opens P t e ok){e':β->List AV}{ok':β->Prop}(g:α->β)(he:∀ a,e' (g a)=e a)(hok:∀ a,ok a->ok' (g a)):Opens P t e' ok':=by
 refine⟨?_⟩;intro H enc w base spare held fuel cs x hx;obtain⟨a,ha,hr⟩:=h.get hx;exact⟨g a,hok a ha,by rw[he];exact hr⟩
theorem arg_agg{P:Program}{t:TypeId}{α:Type}{e:α->List AV}{ok:α->Prop}(h:Opens P t e ok){H:Type}{enc:TypeId×Value->H}{w:World}{base:Nat}{spare:Nat->Bool}{held:Bool}{cs:Array Value}{d:DataW H}{ps:List MemPlace}
  (hd:DataW.Trod enc P w base spare held t (.agg cs) d ps):∃ a,ok a/\RepV (Iall w) w (.agg cs) (.agg (e a)):=by
 obtain⟨fuel,hf⟩:=hd;obtain⟨a,ha,hr⟩:=h.get hf;have e1:(Value.agg cs).cells.toList=cs.toList:=rfl;rw[e1]at hr
 have e2:∀ j,cs.toList.getD j undef=cs.getD j undef:=fun j=>by simp[Ji,List.getD]
 refine⟨a,ha,.agg _ _ (by simpa using hr.len) (fun j hj=>?_) (fun j hj=>?_)⟩
 ·rw[<- e2];exact hr.one j hj
 ·rw[<- e2];exact hr.rep j hj
def Rw(n:Int):Prop:=(Lit.int .i64 n).wf=true
theorem op_3:Opens Tryz.prog 3 Aw Rw:=opens_int Tryz.underlying3 (fun _=>rfl)
def W8(l:List (Int)):Prop:=(∀ a∈l,Rw a)/\l.length<=maxLen
theorem op_22:Opens Tryz.prog 22 Hr W8:=Nw (d:=(0:Int)) Tryz.underlying22 (by kernel_rfl) (by decide) op_3 (fun _=>rfl) (fun _=>rfl)
def okTPhi(a:Gp):Prop:=Rw a.Bits/\Rw a.Dst/\W8 a.From/\W8 a.Args/\True
theorem op_59:Opens Tryz.prog 59 Vj okTPhi:=Opens.to (Ks (N:=4) Tryz.underlying59 (by kernel_rfl) (B5 (off:=0) (sz:=1) (N:=4) rfl (by kernel_rfl) (by decide) op_3 (B5 (off:=1) (sz:=1) (N:=4) rfl (by kernel_rfl) (by decide) op_3 (B5 (off:=2) (sz:=1) (N:=4) rfl (by kernel_rfl) (by decide) op_22 (B5 (off:=3) (sz:=1) (N:=4) rfl (by kernel_rfl) (by decide) op_22 M7))))) (fun p=>⟨p.1,p.2.1,p.2.2.1,p.2.2.2.1⟩) (fun _=>rfl) (fun _ h=>h)
def okLTPhi(l:List (Gp)):Prop:=(∀ a∈l,okTPhi a)/\l.length<=maxLen
theorem op_49:Opens Tryz.prog 49 eLTPhi okLTPhi:=Nw (d:=(default:Gp)) Tryz.underlying49 (by kernel_rfl) (by decide) op_59 (fun _=>rfl) (fun _=>rfl)
def okU64(n:Int):Prop:=(Lit.int .u64 n).wf=true
theorem op_55:Opens Tryz.prog 55 eU64 okU64:=opens_int Tryz.underlying55 (fun _=>rfl)
def okTOp(a:Ef):Prop:=Rw a.Kind/\Rw a.Bits/\Rw a.Lanes/\Rw a.Dst/\W8 a.Args/\okU64 a.Imm/\True
theorem op_57:Opens Tryz.prog 57 I6 okTOp:=Opens.to (Ks (N:=6) Tryz.underlying57 (by kernel_rfl) (B5 (off:=0) (sz:=1) (N:=6) rfl (by kernel_rfl) (by decide) op_3 (B5 (off:=1) (sz:=1) (N:=6) rfl (by kernel_rfl) (by decide) op_3 (B5 (off:=2) (sz:=1) (N:=6) rfl (by kernel_rfl) (by decide) op_3 (B5 (off:=3) (sz:=1) (N:=6) rfl (by kernel_rfl) (by decide) op_3 (B5 (off:=4) (sz:=1) (N:=6) rfl (by kernel_rfl) (by decide) op_22 (B5 (off:=5) (sz:=1) (N:=6) rfl (by kernel_rfl) (by decide) op_55 M7))))))) (fun p=>⟨p.1,p.2.1,p.2.2.1,p.2.2.2.1,p.2.2.2.2.1,p.2.2.2.2.2.1⟩) (fun _=>rfl) (fun _ h=>h)
def okLTOp(l:List (Ef)):Prop:=(∀ a∈l,okTOp a)/\l.length<=maxLen
theorem op_33:Opens Tryz.prog 33 eLTOp okLTOp:=Nw (d:=(default:Ef)) Tryz.underlying33 (by kernel_rfl) (by decide) op_57 (fun _=>rfl) (fun _=>rfl)
def okTEnd(a:H3):Prop:=Rw a.Kind/\Rw a.Arg/\W8 a.To/\True
theorem op_51:Opens Tryz.prog 51 eTEnd okTEnd:=Opens.to (Ks (N:=3) Tryz.underlying51 (by kernel_rfl) (B5 (off:=0) (sz:=1) (N:=3) rfl (by kernel_rfl) (by decide) op_3 (B5 (off:=1) (sz:=1) (N:=3) rfl (by kernel_rfl) (by decide) op_3 (B5 (off:=2) (sz:=1) (N:=3) rfl (by kernel_rfl) (by decide) op_22 M7)))) (fun p=>⟨p.1,p.2.1,p.2.2.1⟩) (fun _=>rfl) (fun _ h=>h)
def okTBlock(a:Ac):Prop:=okLTPhi a.Phis/\okLTOp a.Ops/\okTEnd a.End/\True
theorem op_53:Opens Tryz.prog 53 Fp okTBlock:=Opens.to (Ks (N:=5) Tryz.underlying53 (by kernel_rfl) (B5 (off:=0) (sz:=1) (N:=5) rfl (by kernel_rfl) (by decide) op_49 (B5 (off:=1) (sz:=1) (N:=5) rfl (by kernel_rfl) (by decide) op_33 (B5 (off:=2) (sz:=3) (N:=5) rfl (by kernel_rfl) (by decide) op_51 M7)))) (fun p=>⟨p.1,p.2.1,p.2.2.1⟩) (fun _=>rfl) (fun _ h=>h)
def okLTBlock(l:List (Ac)):Prop:=(∀ a∈l,okTBlock a)/\l.length<=maxLen
theorem op_23:Opens Tryz.prog 23 eLTBlock okLTBlock:=Nw (d:=(default:Ac)) Tryz.underlying23 (by kernel_rfl) (by decide) op_53 (fun _=>rfl) (fun _=>rfl)
def okTFunc(a:TFunc):Prop:=W8 a.Params/\Rw a.Ret/\okLTBlock a.Blocks/\True
theorem op_25:Opens Tryz.prog 25 eTFunc okTFunc:=Opens.to (Ks (N:=3) Tryz.underlying25 (by kernel_rfl) (B5 (off:=0) (sz:=1) (N:=3) rfl (by kernel_rfl) (by decide) op_22 (B5 (off:=1) (sz:=1) (N:=3) rfl (by kernel_rfl) (by decide) op_3 (B5 (off:=2) (sz:=1) (N:=3) rfl (by kernel_rfl) (by decide) op_23 M7)))) (fun p=>⟨p.1,p.2.1,p.2.2.1⟩) (fun _=>rfl) (fun _ h=>h)
def numB(n:Int):Bool:=decide (0<=n)&&decide (n<=2147483647)
def Ls(l:List Int):Bool:=l.all numB&&decide (l.length<=64)
def phiB(p:Gp):Bool:=numB p.Bits&&numB p.Dst&&Ls p.From&&Ls p.Args
def opB(o:Ef):Bool:=numB o.Kind&&numB o.Bits&&numB o.Lanes&&numB o.Dst&&Ls o.Args
def endB(e:H3):Bool:=numB e.Kind&&numB e.Arg&&Ls e.To
def blockB(b:Ac):Bool:=b.Phis.all phiB&&b.Ops.all opB&&endB b.End
def sizeB(b:Ac):Nat:=b.Phis.length+b.Ops.length+1
def O4(f:TFunc):Nat:=(f.Blocks.map sizeB).sum
def sizeW(f:TFunc):Int:=A9 (O4 f)
def Uu(f:TFunc):Bool:=decide (1<=f.Blocks.length)&&decide (f.Blocks.length<=64)&&decide (f.Params.length<=16)&&Ls f.Params&&numB f.Ret&&decide (sizeW f<=512)&&f.Blocks.all blockB
def entP(p:Gp):Nat:=1+p.From.length+p.Args.length
def entO(o:Ef):Nat:=1+o.Args.length
def entB(b:Ac):Nat:=1+b.End.To.length+(b.Phis.map entP).sum+(b.Ops.map entO).sum
def entF(f:TFunc):Nat:=f.Params.length+(f.Blocks.map entB).sum
theorem W0:maxLen=9223372036854775807:=rfl
structure InF(f:TFunc):Prop where
 params:f.Params.length<=maxLen
 blocks:f.Blocks.length<=maxLen
 block:∀ b∈f.Blocks,b.Phis.length<=maxLen/\b.Ops.length<=maxLen/\b.End.To.length<=maxLen
 phi:∀ b∈f.Blocks,∀ p∈b.Phis,p.From.length<=maxLen/\p.Args.length<=maxLen
 op:∀ b∈f.Blocks,∀ o∈b.Ops,o.Args.length<=maxLen/\0<=o.Imm/\o.Imm<18446744073709551616
theorem inF{f:TFunc}(h:okTFunc f):InF f:=
 ⟨h.1.2,h.2.2.1.2,fun b hb=>⟨(h.2.2.1.1 b hb).1.2,(h.2.2.1.1 b hb).2.1.2,(h.2.2.1.1 b hb).2.2.1.2.2.1.2⟩,fun b hb p hp=>⟨((h.2.2.1.1 b hb).1.1 p hp).2.2.1.2,((h.2.2.1.1 b hb).1.1 p hp).2.2.2.1.2⟩,
  fun b hb o ho=>⟨((h.2.2.1.1 b hb).2.1.1 o ho).2.2.2.2.1.2,wf_u64 ((h.2.2.1.1 b hb).2.1.1 o ho).2.2.2.2.2.1⟩⟩
theorem Zr{n:Nat}(h:n<9223372036854775808):A9 (n:Int)=n:=Hn (by omega) (by omega)
theorem Ib{i n:Nat}(h:i<n)(hn:n<=maxLen):A9 ((i:Int)+1)=((i+1:Nat):Int):=by rw[W0]at hn;rw[show((i:Int)+1)=((i+1:Nat):Int) by omega,Zr (by omega)]
theorem small_some(f:TFunc)(hf:InF f):∃ b,B0 f=some b:=by
 have h3:∃ x,Am (Bh f) ((f.Params.length:Int),((0:Nat):Int))=some x:=by
  refine Mv f.Blocks.length (Bh f) (fun n i hi=>?_) (fun n=>?_) f.Blocks.length 0 _ (Fn _)
  ·have hmem:=A5 (d:=(default:Ac)) hi;obtain⟨b1,b2,_⟩:=hf.block _ hmem;have hI:Bd (i:Int) f.Blocks.length:=Ax hi;unfold Bh
   cases hc:(bif decide ((i:Int)<(f.Blocks.length:Int)) then decide (n<=20000) else false) with
   | false=>right;simp only[hc,A0];exact⟨_,rfl⟩
   | true=>
    left
    simp only[hc,Ah,Ai hI]
    obtain⟨x1,h1⟩:=Mv (f.Blocks.getD i default).Phis.length (Br f i) (fun n j hj=>by
      unfold Br;simp only[Ai hI,Dr]
      cases hc:(bif decide ((j:Int)<((f.Blocks.getD i default).Phis.length:Int)) then decide (n<=20000) else false) with
      | false=>right;exact⟨_,rfl⟩
      | true=>left;simp only[Ah,Ai (Ax hj),Ib hj b1];exact⟨_,rfl⟩) (fun n=>by
      unfold Br;simp only[Ai hI,Dr]
      have:decide (((f.Blocks.getD i default).Phis.length:Int)<((f.Blocks.getD i default).Phis.length:Int))=false:=by simp
      simp only[this,A0];exact⟨_,rfl⟩) _ 0 (A9 (A9 (n+1)+((f.Blocks.getD i default).End.To.length:Int))) (Fn _)
    obtain⟨x2,h2⟩:=Mv (f.Blocks.getD i default).Ops.length (Bs f i) (fun n j hj=>by
      unfold Bs;simp only[Ai hI,Dr]
      cases hc:(bif decide ((j:Int)<((f.Blocks.getD i default).Ops.length:Int)) then decide (n<=20000) else false) with
      | false=>right;exact⟨_,rfl⟩
      | true=>left;simp only[Ah,Ai (Ax hj),Ib hj b2];exact⟨_,rfl⟩) (fun n=>by
      unfold Bs;simp only[Ai hI,Dr]
      have:decide (((f.Blocks.getD i default).Ops.length:Int)<((f.Blocks.getD i default).Ops.length:Int))=false:=by simp
      simp only[this,A0];exact⟨_,rfl⟩) _ 0 x1 (Fn _)
    rw[show((0:Nat):Int)=0 from rfl]at h1 h2;simp only[Dr,h1,h2,Au,Ib hi hf.blocks];exact⟨_,rfl⟩
  ·unfold Bh
   have:decide ((f.Blocks.length:Int)<(f.Blocks.length:Int))=false:=by simp
   simp only[this,A0];exact⟨_,rfl⟩
 obtain⟨x,hx⟩:=h3;unfold B0;rw[show((0:Nat):Int)=0 from rfl]at hx;rw[hx];exact⟨_,rfl⟩
theorem small_eq(f:TFunc)(hf:InF f)(h0:f.Params.length<=64)(hb:∀ b∈f.Blocks,b.End.To.length<=64/\(∀ p∈b.Phis,p.From.length<=64/\p.Args.length<=64)/\∀ o∈b.Ops,o.Args.length<=64):B0 f=some (decide (entF f<=20000)):=by
 have h3:=Vs f.Blocks (default:Ac) entB 20000 (Bh f) (fun n i hi hn=>by
   have hmem:=A5 (d:=(default:Ac)) hi;obtain⟨b1,b2,b3⟩:=hf.block _ hmem;obtain⟨hTo,hPh,hOp⟩:=hb _ hmem;have hI1:Bd (i:Int) f.Blocks.length:=Ax hi
   have l1:=Vs (f.Blocks.getD i default).Phis (default:Gp) entP 20000 (Br f i) (fun n j hj hn=>by
     have hm:=A5 (d:=(default:Gp)) hj;obtain⟨p1,p2⟩:=hPh _ hm
     have e1:decide ((j:Int)<((f.Blocks.getD i default).Phis.length:Int))=true:=by simpa using hj
     have e2:decide ((n:Int)<=20000)=true:=by simp;omega
     refine⟨n+entP ((f.Blocks.getD i default).Phis.getD j default),?_,fun _=>rfl,fun h=>h⟩;unfold Br;simp only[Ai hI1,Dr,e1,e2,Ah,Ai (Ax hj),Ib hj b1]
     congr 3
     rw[Hn (n:=(n:Int)+1) (by omega) (by omega),Hn (n:=(n:Int)+1+_) (by omega) (by omega),Hn (by omega) (by omega)];simp only[entP]
     omega) (fun n j hj hd=>by
     unfold Br;simp only[Ai hI1,Dr]
     have:(bif decide ((j:Int)<((f.Blocks.getD i default).Phis.length:Int)) then decide ((n:Int)<=20000) else false)=false:=by
      rcases hd with rfl|h
      ·simp
      ·simp;omega
     rw[this];rfl)
   have l2:=Vs (f.Blocks.getD i default).Ops (default:Ef) entO 20000 (Bs f i) (fun n j hj hn=>by
     have hm:=A5 (d:=(default:Ef)) hj;have p1:=hOp _ hm
     have e1:decide ((j:Int)<((f.Blocks.getD i default).Ops.length:Int))=true:=by simpa using hj
     have e2:decide ((n:Int)<=20000)=true:=by simp;omega
     refine⟨n+entO ((f.Blocks.getD i default).Ops.getD j default),?_,fun _=>rfl,fun h=>h⟩;unfold Bs;simp only[Ai hI1,Dr,e1,e2,Ah,Ai (Ax hj),Ib hj b2]
     congr 3
     rw[Hn (n:=(n:Int)+1) (by omega) (by omega),Hn (by omega) (by omega)];simp only[entO]
     omega) (fun n j hj hd=>by
     unfold Bs;simp only[Ai hI1,Dr]
     have:(bif decide ((j:Int)<((f.Blocks.getD i default).Ops.length:Int)) then decide ((n:Int)<=20000) else false)=false:=by
      rcases hd with rfl|h
      ·simp
      ·simp;omega
     rw[this];rfl)
   have e1:decide ((i:Int)<(f.Blocks.length:Int))=true:=by simpa using hi
   have e2:decide ((n:Int)<=20000)=true:=by simp;omega
   obtain⟨m1,q1,q2,q3⟩:=l1 _ 0 (n+1+(f.Blocks.getD i default).End.To.length) (Fn _);obtain⟨m2,q4,q5,q6⟩:=l2 _ 0 m1 (Fn _);rw[N4]at q2 q3 q5 q6;refine⟨m2,?_,fun hle=>?_,fun hle=>?_⟩
   ·unfold Bh;simp only[e1,e2,Ah,Ai hI1,Dr,Ib hi hf.blocks];rw[Hn (n:=(n:Int)+1) (by omega) (by omega),Hn (by omega) (by omega),show(n:Int)+1+((f.Blocks.getD i default).End.To.length:Int)=((n+1+(f.Blocks.getD i default).End.To.length:Nat):Int) by omega];rw[show((0:Nat):Int)=0 from rfl]at q1 q4;rw[q1,Au,q4,Au]
   ·simp only[entB]at hle ⊢;have:=q2 (by omega);rw[q5 (by omega)];omega
   ·simp only[entB];have h6:=q6 hle;have h3:=q3 (by omega);have:=q2 h3
    omega) (fun n i hi hd=>by
   unfold Bh
   have:(bif decide ((i:Int)<(f.Blocks.length:Int)) then decide ((n:Int)<=20000) else false)=false:=by
    rcases hd with rfl|h
    ·simp
    ·simp;omega
   simp only[this,A0]) f.Blocks.length 0 f.Params.length (Fn _)
 obtain⟨m,h1,h2,h4⟩:=h3;rw[N4]at h2 h4;unfold B0;rw[show((0:Nat):Int)=0 from rfl]at h1;rw[h1,Au]
 congr 1
 apply zzL107.2
 simp only[entF]
 constructor
 ·intro h;exact h4 (by omega)
 ·intro h;have:=h2 h;omega
theorem numB_iff{n:Int}:numB n=true↔0<=n/\n<=2147483647:=by simp[numB]
theorem listB_iff{l:List Int}:Ls l=true↔good31 l/\l.length<=64:=by
 simp[Ls,good31,numB_iff]
def wideP(n:Int):Prop:=0<=n/\n<18446744073709551616
structure OkB(b:Ac):Prop where
 may:blockB b=true
 phis:b.Phis.length<=512
 ops:b.Ops.length<=512
 imm:∀ o∈b.Ops,wideP o.Imm
structure OkF(f:TFunc):Prop where
 params:Ls f.Params=true
 few:f.Params.length<=16
 ret:numB f.Ret=true
 blocks:f.Blocks.length<=64
 block:∀ b∈f.Blocks,OkB b
theorem blockB_iff{b:Ac}:blockB b=true↔(∀ p∈b.Phis,phiB p=true)/\(∀ o∈b.Ops,opB o=true)/\endB b.End=true:=by
 simp[blockB,and_assoc]
theorem sum_le{α:Type}(l:List α)(g:α->Nat)(B:Nat)(h:∀ a∈l,g a<=B):(l.map g).sum<=l.length*B:=by
 induction l with
 | nil=>simp
 | cons a l ih=>
  have h1:=h a (by simp);have h2:=ih (fun b hb=>h b (by simp[hb]));rw[Bq,P2,Sq,Da];omega
theorem sum_mono{α:Type}(l:List α)(g k:α->Nat)(h:∀ a∈l,g a<=k a):(l.map g).sum<=(l.map k).sum:=by
 induction l with
 | nil=>simp
 | cons a l ih=>
  have h1:=h a (by simp);have h2:=ih (fun b hb=>h b (by simp[hb]));rw[Bq,P2,Bq,P2];omega
theorem Aav{α:Type}(l:List α)(g:α->Nat)(h:∀ a∈l,1<=g a):l.length<=(l.map g).sum:=by
 induction l with
 | nil=>simp
 | cons a l ih=>
  have h1:=h a (by simp);have h2:=ih (fun b hb=>h b (by simp[hb]));rw[Bq,P2,Sq];omega
theorem mem_le_sum{α:Type}{l:List α}{a:α}(g:α->Nat)(h:a∈l):g a<=(l.map g).sum:=by
 induction l with
 | nil=>cases h
 | cons b l ih=>
  rw[Bq,P2];rcases zzL28.1 h with rfl|h
  ·omega
  ·have:=ih h;omega
theorem OkF.size{f:TFunc}(h:OkF f):O4 f<=65600/\sizeW f=O4 f:=by
 have:O4 f<=f.Blocks.length*1025:=sum_le _ _ _ fun b hb=>by
  have h1:=(h.block b hb).phis;have h2:=(h.block b hb).ops;simp only[sizeB];omega
 have h2:=h.blocks
 have h3:O4 f<=65600:=by omega
 exact⟨h3,Zr (by omega)⟩
theorem W4{f:TFunc}(h:Uu f=true):1<=f.Blocks.length/\f.Blocks.length<=64/\f.Params.length<=16/\Ls f.Params=true/\numB f.Ret=true/\sizeW f<=512/\∀ b∈f.Blocks,blockB b=true:=by
 simp only[Uu,A6,F0,zzL29]at h;exact⟨h.1.1.1.1.1.1,h.1.1.1.1.1.2,h.1.1.1.1.2,h.1.1.1.2,h.1.1.2,h.1.2,h.2⟩
theorem may_lists{f:TFunc}(h:Uu f=true):f.Params.length<=64/\∀ b∈f.Blocks,b.End.To.length<=64/\(∀ p∈b.Phis,p.From.length<=64/\p.Args.length<=64)/\∀ o∈b.Ops,o.Args.length<=64:=by
 obtain⟨_,_,h3,_,_,_,h7⟩:=W4 h;refine⟨by omega,fun b hb=>?_⟩;obtain⟨q1,q2,q3⟩:=blockB_iff.1 (h7 b hb);simp only[endB,A6]at q3;refine⟨(listB_iff.1 q3.2).2,fun p hp=>?_,fun o ho=>?_⟩
 ·have:=q1 p hp;simp only[phiB,A6]at this;exact⟨(listB_iff.1 this.1.2).2,(listB_iff.1 this.2).2⟩
 ·have:=q2 o ho;simp only[opB,A6]at this;exact(listB_iff.1 this.2).2
theorem may_ok{f:TFunc}(hf:InF f)(h:Uu f=true)(hs:entF f<=20000):OkF f/\O4 f<=512:=by
 obtain⟨h1,h2,h3,h4,h5,h6,h7⟩:=W4 h
 have hle:O4 f<=entF f:=by
  have:O4 f<=(f.Blocks.map entB).sum:=sum_mono _ _ _ fun b hb=>by
   have q1:b.Phis.length<=(b.Phis.map entP).sum:=Aav _ _ fun p hp=>by simp only[entP];omega
   have q2:b.Ops.length<=(b.Ops.map entO).sum:=Aav _ _ fun p hp=>by simp only[entO];omega
   simp only[sizeB,entB];omega
  simp only[entF];omega
 have hw:sizeW f=O4 f:=Zr (by omega)
 have h512:O4 f<=512:=by omega
 refine⟨⟨h4,h3,h5,h2,fun b hb=>?_⟩,h512⟩;have hb512:sizeB b<=O4 f:=mem_le_sum sizeB hb;simp only[sizeB]at hb512;exact⟨h7 b hb,by omega,by omega,fun o ho=>(hf.op b hb o ho).2⟩
theorem small_parts(f:TFunc)(hf:InF f):∃ sm,B0 f=some sm/\(sm=true->Uu f=true->OkF f/\O4 f<=512/\1<=f.Blocks.length):=by
 obtain⟨sm,h⟩:=small_some f hf;refine⟨sm,h,fun h1 h2=>?_⟩;obtain⟨q1,q2⟩:=may_lists h2;rw[small_eq f hf q1 q2]at h;subst h1;obtain⟨r1,r2⟩:=may_ok hf h2 (by simpa using OI h);exact⟨r1,r2,(W4 h2).1⟩
def levMost(l:Int):Int:=bif l==0 then 17 else bif l==1 then 20 else 22
def Py(l:Int)(o:Ef):Bool:=K2 o&&!decide (levMost l<o.Kind)&&!(decide (l<2)&&decide (1<o.Lanes))
def Ik(l:Int)(b:Ac):Bool:=(b.Phis.all fun p=>El p.Bits)&&b.Ops.all (Py l)
def Xn(f:TFunc)(l:Int):Bool:=f.Params.all El&&f.Blocks.all (Ik l)&&El f.Ret
theorem opOk{f:TFunc}(hf:OkF f){b:Ac}(hb:b∈f.Blocks){o:Ef}(ho:o∈b.Ops):OpOk o:=by
 have h1:=hf.block b hb;have h2:=(blockB_iff.1 h1.may).2.1 o ho;simp only[opB,A6]at h2;exact⟨⟨(h1.imm o ho).1,(h1.imm o ho).2⟩,by have:=(listB_iff.1 h2.2).2;omega⟩
theorem room_is:room=1099511627776:=rfl
theorem loop_flat{β:Type}(n A C:Nat)(E:Nat->List β)(hE:∀ i,i<n->(E i).length<=C)(f:List β×Int->Option (LR (List β×Int) (List β)))
  (hn:∀(acc:List β) (i:Nat),i<n->acc.length<=A+i*C->f (acc,(i:Int))=some (.next (acc++E i,(i:Int)+1)))
  (hd:∀ acc:List β,f (acc,(n:Int))=some (.done acc)):∀(k i:Nat) (acc:List β),i+k=n->acc.length<=A+i*C->Am f (acc,(i:Int))=some (acc++(List.range' i k).flatMap E)
 | 0,i,acc,h,_=>by
  obtain rfl:i=n:=by omega
  rw[Ao (hd acc)]
  simp
 | k+1,i,acc,h,hA=>by
  have hi:i<n:=by omega
  have h1:=hE i hi
  have h2:acc.length+C<=A+(i+1)*C:=by rw[Da];omega
  rw[Ar (hn acc i hi hA),show((i:Int)+1)=((i+1:Nat):Int) by omega,loop_flat n A C E hE f hn hd k (i+1) _ (by omega) (by rw[Eo];omega),So,Yv,Xs]
theorem Il{β:Type}(C:Nat)(E:Nat->List β):∀ l:List Nat,(∀ i∈l,(E i).length<=C)->(l.flatMap E).length<=l.length*C
 | [],_=>by simp
 | a::l,h=>by
  have h1:=h a (by simp);have h2:=Il C E l (fun i hi=>h i (by simp[hi]));rw[Yv,Eo,Sq,Da];omega
def Kk(l:List I4)(v:Int):Int:=match l.findIdx? (fun d=>d.V==v) with|some i=>(i:Int)|none=>-1
def L5(o:Ef):Int×Int:=bif K2 o then Wu o.Kind o.Bits o.Lanes else(0,0)
def H1(o:Ef):List (Int×Int):=bif K2 o then U2 o else[]
def Lp(f:TFunc):List I4:=(List.range f.Params.length).flatMap fun(i:Nat)=>[⟨(i:Int)+1,-1,0,(f.Params.getD i 0,1)⟩]
def Vi(b:Ac)(i:Nat):List I4:=(List.range b.Phis.length).flatMap fun(k:Nat)=>[⟨(b.Phis.getD k default).Dst,i,-1,((b.Phis.getD k default).Bits,1)⟩]
def defsOp(b:Ac)(i:Nat):List I4:=(List.range b.Ops.length).flatMap fun(k:Nat)=>bif decide (0<(L5 (b.Ops.getD k default)).1) then[⟨(b.Ops.getD k default).Dst,i,k,L5 (b.Ops.getD k default)⟩] else[]
def Mb(b:Ac)(i:Nat):List I4:=Vi b i++defsOp b i
def Bv(f:TFunc):List I4:=Lp f++(List.range f.Blocks.length).flatMap fun i=>Mb (f.Blocks.getD i default) i
theorem defsP_len(f:TFunc):(Lp f).length=f.Params.length:=by
 have h:∀ l:List Nat,(l.map fun _=>1).sum=l.length:=fun l=>by induction l with|nil=>rfl|cons a l ih=>simp[ih];omega
 simp[Lp,List.length_flatMap,h]
def L0(p:Gp):List Oq:=(List.range p.Args.length).flatMap fun(j:Nat)=>[⟨p.Args.getD j 0,p.From.getD j 0,1000,(p.Bits,1)⟩]
def Td(b:Ac):List Oq:=(List.range b.Phis.length).flatMap fun(k:Nat)=>L0 (b.Phis.getD k default)
def N1(o:Ef)(i k:Nat):List Oq:=(List.range (H1 o).length).flatMap fun(j:Nat)=>[⟨o.Args.getD j 0,i,k,(H1 o).getD j (0,0)⟩]
def usesOp(b:Ac)(i:Nat):List Oq:=(List.range b.Ops.length).flatMap fun(k:Nat)=>N1 (b.Ops.getD k default) i k
def We(f:TFunc)(b:Ac)(i:Nat):List Oq:=(bif b.End.Kind==0 then[⟨b.End.Arg,i,1000,(f.Ret,1)⟩] else[])++(bif b.End.Kind==2 then[⟨b.End.Arg,i,1000,(1,1)⟩] else[])
def usesB(f:TFunc)(b:Ac)(i:Nat):List Oq:=Td b++usesOp b i++We f b i
def Gl(f:TFunc):List Oq:=(List.range f.Blocks.length).flatMap fun(i:Nat)=>usesB f (f.Blocks.getD i default) i
theorem takesO_len{o:Ef}(h:o.Args.length<=64):(H1 o).length<=64/\(H1 o).length<=o.Args.length:=by
 unfold H1
 cases hm:K2 o with
 | false=>simp
 | true=>
  simp only[Ah]
  have:((o.Args.length:Int)==M1 o.Kind o.Lanes)=true:=by
   simp only[K2,A6]at hm;exact hm.1.2.2
  have h2:(o.Args.length:Int)=M1 o.Kind o.Lanes:=by simpa using this
  have h3:(U2 o).length=o.Args.length:=by rw[U2,Sr,zzL131,<- h2,Dr]
  omega
theorem ok_phi{f:TFunc}(hf:OkF f){b:Ac}(hb:b∈f.Blocks){p:Gp}(hp:p∈b.Phis):p.From.length<=64/\p.Args.length<=64:=by
 have:=(blockB_iff.1 (hf.block b hb).may).1 p hp;simp only[phiB,A6]at this;exact⟨(listB_iff.1 this.1.2).2,(listB_iff.1 this.2).2⟩
theorem ok_op{f:TFunc}(hf:OkF f){b:Ac}(hb:b∈f.Blocks){o:Ef}(ho:o∈b.Ops):o.Args.length<=64:=by
 have:=(blockB_iff.1 (hf.block b hb).may).2.1 o ho;simp only[opB,A6]at this;exact(listB_iff.1 this.2).2
theorem usesPhi1_len(p:Gp):(L0 p).length<=p.Args.length:=by
 have:=Il 1 (fun(j:Nat)=>[(⟨p.Args.getD j 0,p.From.getD j 0,1000,(p.Bits,1)⟩:Oq)]) (List.range p.Args.length) (fun _ _=>zzL8 _)
 simpa [L0] using this
theorem usesOp1_len(o:Ef)(i k:Nat):(N1 o i k).length<=(H1 o).length:=by
 have:=Il 1 (fun(j:Nat)=>[(⟨o.Args.getD j 0,i,k,(H1 o).getD j (0,0)⟩:Oq)]) (List.range (H1 o).length) (fun _ _=>zzL8 _)
 simpa [N1] using this
theorem usesPhi_len{f:TFunc}(hf:OkF f){b:Ac}(hb:b∈f.Blocks):(Td b).length<=32768:=by
 have:=Il 64 (fun(k:Nat)=>L0 (b.Phis.getD k default)) (List.range b.Phis.length) (fun k hk=>by
  have h1:=usesPhi1_len (b.Phis.getD k default);have h2:=(ok_phi hf hb (A5 (d:=(default:Gp)) (by simpa using hk))).2
  omega)
 have h3:=(hf.block b hb).phis;rw[zzL131]at this;have h4:b.Phis.length*64<=512*64:=D0 _ h3;rw[Td];omega
theorem usesOp_len{f:TFunc}(hf:OkF f){b:Ac}(hb:b∈f.Blocks)(i:Nat):(usesOp b i).length<=32768:=by
 have:=Il 64 (fun(k:Nat)=>N1 (b.Ops.getD k default) i k) (List.range b.Ops.length) (fun k hk=>by
  have h1:=usesOp1_len (b.Ops.getD k default) i k;have h2:=(takesO_len (ok_op hf hb (A5 (d:=(default:Ef)) (by simpa using hk)))).1
  omega)
 have h3:=(hf.block b hb).ops;rw[zzL131]at this;have h4:b.Ops.length*64<=512*64:=D0 _ h3;rw[usesOp];omega
theorem usesEnd_len(f:TFunc)(b:Ac)(i:Nat):(We f b i).length<=2:=by
 unfold We
 cases b.End.Kind==0<;>cases b.End.Kind==2<;>simp
theorem usesB_len{f:TFunc}(hf:OkF f){i:Nat}(hi:i<f.Blocks.length):(usesB f (f.Blocks.getD i default) i).length<=70000:=by
 have hmem:=A5 (d:=(default:Ac)) hi;have h1:=usesPhi_len hf hmem;have h2:=usesOp_len hf hmem i;have h3:=usesEnd_len f (f.Blocks.getD i default) i;rw[usesB,Eo,Eo];omega
theorem usesF_len{f:TFunc}(hf:OkF f):(Gl f).length<=4480000:=by
 have h1:=Il 70000 (fun(i:Nat)=>usesB f (f.Blocks.getD i default) i) (List.range f.Blocks.length) (fun i hi=>usesB_len hf (by simpa using hi));have h4:=hf.blocks;rw[zzL131]at h1;have:f.Blocks.length*70000<=64*70000:=D0 _ h4;rw[Gl];omega
def phisFit(f:TFunc):Prop:=∀ b∈f.Blocks,∀ p∈b.Phis,p.Args.length<=p.From.length
def okAt(n:Nat)(l:List Int)(i:Nat):Bool:=decide ((if i=0 then(-1:Int) else l.getD (i-1) 0)<l.getD i 0)&&(decide (0<=l.getD i 0)&&decide (l.getD i 0<n))
def okL(n:Nat)(l:List Int):Bool:=(List.range l.length).all (okAt n l)
def J7(L:List (List Int)):Bool:=decide (1<=L.length)&&decide (L.length<=64)&&(List.range L.length).all fun i=>okL L.length (L.getD i [])
def X5(L:List (List Int))(k i:Nat):Bool:=(L.getD k []).contains (i:Int)
def J8(L:List (List Int))(m i:Nat):List Int:=((List.range m).filter fun k=>X5 L k i).map Int.ofNat
def Db(L:List (List Int)):List (List Int):=(List.range L.length).map (J8 L L.length)
theorem Ou(a n:Int):Fx a n=some (decide (0<=a)&&decide (a<n)):=by
 unfold Fx
 cases decide ((0:Int)<=a)<;>rfl
theorem m_isCount(n:Nat):Gv (n:Int)=some (decide (1<=n)&&decide (n<=64)):=by
 unfold Gv
 have h1:decide ((1:Int)<=(n:Int))=decide (1<=n):=by apply zzL107.2;omega
 have h2:decide ((n:Int)<=(64:Int))=decide (n<=64):=by apply zzL107.2;omega
 rw[h1,h2]
 cases decide (1<=n)<;>rfl
theorem succMay_L1(L:List (List Int))(i:Nat)(hl:(L.getD i []).length<4611686018427387904) :
  Am (B7 L (i:Int)) ((-1:Int),(0:Int))=some (bif okL L.length (L.getD i []) then .inl () else .inr false):=by
 refine Mo (B7 L (i:Int)) (fun j=>((if j=0 then(-1:Int) else(L.getD i []).getD (j-1) 0),((j:Nat):Int))) (okAt L.length (L.getD i [])) (.inl ()) (.inr false) _ (fun j hj hp=>?_) (fun j hj hp=>?_) ?_
 ·unfold okAt at hp;simp only[A6,F0]at hp;obtain⟨h1,h2,h3⟩:=hp
  show B7 L (i:Int) (_,_)=_
  unfold B7;simp only[A1,F4 hj,Ah,Ou];rw[An (Kf hj)]
  have e1:decide ((L.getD i []).getD j 0<=(if j=0 then(-1:Int) else(L.getD i []).getD (j-1) 0))=false:=by simpa using h1
  simp only[e1,E1 h2,E1 h3,Xu,O7,Ah,A0,Au,E9];rw[w1 (show j<4611686018427387904 by omega)]
  simp
 ·show B7 L (i:Int) (_,_)=_
  unfold B7;simp only[A1,F4 hj,Ah,Ou];rw[An (Kf hj)]
  cases h1:decide ((L.getD i []).getD j 0<=(if j=0 then(-1:Int) else(L.getD i []).getD (j-1) 0)) with
  | true=>simp only[Ah,show((true==false)=false) from rfl,A0,Au]
  | false=>
   have h1':decide ((if j=0 then(-1:Int) else(L.getD i []).getD (j-1) 0)<(L.getD i []).getD j 0)=true:=by simpa using h1
   unfold okAt at hp;rw[h1',Ga]at hp;simp only[O7,Ah,A0,Au,hp,L1]
 ·show B7 L (i:Int) (_,_)=_
  unfold B7;simp only[A1,K0,A0]
def Fits(L:List (List Int)):Prop:=L.length<4611686018427387904/\∀ l∈L,l.length<4611686018427387904
theorem Fits.at{L:List (List Int)}(h:Fits L)(i:Nat):(L.getD i []).length<4611686018427387904:=by
 by_cases hi:i<L.length
 ·exact h.2 _ (A5 hi)
 ·rw[Nf,Xp (by omega)];simp
theorem m_succMay(L:List (List Int))(h:Fits L):Gw L=some (J7 L):=by
 unfold Gw;rw[m_isCount,Au];unfold J7
 cases hc:(decide (1<=L.length)&&decide (L.length<=64)) with
 | false=>rfl
 | true=>
  simp only[E9,A0,Ga];have:=Mo (B8 L) (fun j=>((j:Nat):Int)) (fun i=>okL L.length (L.getD i [])) (.inl ()) (.inr false) L.length (fun j hj hp=>?_) (fun j hj hp=>?_) ?_
  ·rw[show Am (B8 L) (0:Int)=_ from this]
   cases(List.range L.length).all fun i=>okL L.length (L.getD i [])<;>rfl
  ·show B8 L (j:Int)=_
   unfold B8;simp only[F4 hj,Ah];rw[An (Kf hj),succMay_L1 L j (h.at j),hp];simp only[Ah,Au,w1 (show j<4611686018427387904 by have:=h.1;omega)]
  ·show B8 L (j:Int)=_
   unfold B8;simp only[F4 hj,Ah];rw[An (Kf hj),succMay_L1 L j (h.at j),hp]
   rfl
  ·show B8 L _=_
   unfold B8;simp only[K0,A0]
theorem S1{α:Type}{n i:Nat}{g:Nat->α}{d:α}(h:i<n):((List.range n).map g).getD i d=g i:=by simp[List.getD,h]
theorem set_mr{α:Type}{n i:Nat}{g:Nat->α}{x:α}:((List.range n).map g).set i x=(List.range n).map fun j=>if j=i then x else g j:=by
 apply List.ext_getElem?
 intro j;rw[List.getElem?_set]
 by_cases hj:j<n
 ·by_cases hij:i=j
  ·subst hij;simp[hj]
  ·simp[hij,hj,G8 hij]
 ·simp[hj];intro h;omega
theorem Ov{α:Type}{n:Nat}{g h:Nat->α}(H:∀ i,i<n->g i=h i):(List.range n).map g=(List.range n).map h:=zzL136 fun i hi=>H i (zzL45.1 hi)
theorem mayS_iff{L:List (List Int)}:J7 L=true↔1<=L.length/\L.length<=64/\∀ i,i<L.length->okL L.length (L.getD i [])=true:=by
 unfold J7;rw[A6,A6,all_range];simp only[F0];exact⟨fun⟨⟨a,b⟩,c⟩=>⟨a,b,c⟩,fun⟨a,b,c⟩=>⟨⟨a,b⟩,c⟩⟩
theorem okL_iff{n:Nat}{l:List Int}:okL n l=true↔∀ i,i<l.length->(0<=l.getD i 0/\l.getD i 0<n)/\(0<i->l.getD (i-1) 0<l.getD i 0):=by
 unfold okL;rw[all_range];unfold okAt;simp only[A6,F0]
 constructor
 ·intro h i hi;obtain⟨h1,h2,h3⟩:=h i hi;refine⟨⟨h2,h3⟩,fun hp=>?_⟩;rwa[if_neg (by omega)]at h1
 ·intro h i hi;obtain⟨⟨h2,h3⟩,h1⟩:=h i hi;refine⟨?_,h2,h3⟩
  by_cases hz:i=0
  ·rw[if_pos hz];omega
  ·rw[if_neg hz];exact h1 (by omega)
section
variable {n:Nat} {l:List Int} (h:okL n l=true)
include h
theorem W9{i:Nat}(hi:i<l.length):0<=l.getD i 0/\l.getD i 0<n:=(okL_iff.1 h i hi).1
theorem okL_lt{i j:Nat}(hij:i<j)(hj:j<l.length):l.getD i 0<l.getD j 0:=by
 induction j with
 | zero=>omega
 | succ j ih=>
  have h1:=(okL_iff.1 h (j+1) hj).2 (by omega);rw[show j+1-1=j by omega]at h1
  by_cases he:i=j
  ·rw[he];exact h1
  ·exact Int.lt_trans (ih (by omega) (by omega)) h1
theorem okL_ge{i:Nat}(hi:i<l.length):(i:Int)<=l.getD i 0:=by
 induction i with
 | zero=>exact(W9 h hi).1
 | succ i ih=>
  have:=okL_lt h (show i<i+1 by omega) hi;have:=ih (by omega);omega
theorem Zm:l.length<=n:=by
 by_cases hz:l.length=0
 ·omega
 ·have h1:=okL_ge h (show l.length-1<l.length by omega);have h2:=(W9 h (show l.length-1<l.length by omega)).2;omega
theorem okL_mem{x:Int}(hx:x∈l):0<=x/\x<n:=by
 obtain⟨i,hi,rfl⟩:=Nh hx;have:=W9 h hi;rwa[Af _ _ _ hi]at this
end
theorem okL_of{n:Nat}{l:List Int}(h1:∀ x∈l,0<=x/\x<n)(h2:l.Pairwise (·<·)):okL n l=true:=by
 rw[okL_iff];intro i hi;rw[Af _ _ _ hi];refine⟨h1 _ (Sp hi),fun hp=>?_⟩;rw[Af _ _ _ (show i-1<l.length by omega)];exact(zzL118.1 h2) _ _ _ _ (by omega)
theorem W1{L:List (List Int)}(h:J7 L=true):L.length<=64/\∀ l∈L,l.length<=64:=by
 obtain⟨h1,h2,h3⟩:=mayS_iff.1 h;refine⟨h2,fun l hl=>?_⟩;obtain⟨i,hi,rfl⟩:=Nh hl;have:=Zm (h3 i hi);rw[Af _ _ _ hi]at this;omega
theorem fits_of{L:List (List Int)}(h:L.length<=1000/\∀ l∈L,l.length<=1000):Fits L:=⟨by omega,fun l hl=>by have:=h.2 l hl;omega⟩
theorem predAt_succ(L:List (List Int))(k i:Nat):J8 L (k+1) i=J8 L k i++(if X5 L k i=true then[(k:Int)] else[]):=by
 unfold J8;rw[U6,zzL139,U5]
 congr 1
 cases hg:X5 L k i<;>simp[hg]
theorem Ux(L:List (List Int))(k i:Nat):(J8 L k i).length<=k:=by
 unfold J8;rw[Sr];have:=List.length_filter_le (fun k=>X5 L k i) (List.range k)
 simpa using this
theorem getD_take{l:List Int}{j:Nat}(hj:j<l.length):l.take (j+1)=l.take j++[l.getD j 0]:=by
 rw[Af _ _ _ hj,zzL122 hj]
def N8(L:List (List Int))(k j i:Nat):Bool:=((L.getD k []).take j).contains (i:Int)
def Iy(L:List (List Int))(k j:Nat):List (List Int):=(List.range L.length).map fun i=>J8 L k i++(if N8 L k j i=true then[(k:Int)] else[])
theorem comers_step(L:List (List Int))(h:J7 L=true)(k j:Nat)(hk:k<L.length)(hj:j<(L.getD k []).length) :
  (Iy L k j).set ((L.getD k []).getD j 0).toNat ((Iy L k j).getD ((L.getD k []).getD j 0).toNat []++[(k:Int)])=Iy L k (j+1):=by
 obtain⟨h1,h2,h3⟩:=mayS_iff.1 h;have hok:=h3 k hk;obtain⟨a0,a1⟩:=W9 hok hj;unfold Iy;rw[S1 (by omega),set_mr]
 apply Ov
 intro i hi
 have hnot:N8 L k j ((L.getD k []).getD j 0).toNat=false:=by
  unfold N8;rw[Sn a0]
  cases hc:((L.getD k []).take j).contains ((L.getD k []).getD j 0) with
  | false=>rfl
  | true=>
   rw[zzL86]at hc;obtain⟨m,hm,he⟩:=Nh hc
   have hm':m<j:=by simp at hm;omega
   rw[List.getElem_take]at he;have:=okL_lt hok hm' hj;rw[Af _ _ _ (show m<(L.getD k []).length by omega),he]at this;omega
 by_cases hi2:i=((L.getD k []).getD j 0).toNat
 ·rw[if_pos hi2,hnot]
  have:N8 L k (j+1) i=true:=by
   unfold N8;rw[getD_take hj,zzL86,hi2,Sn a0]
   simp
  rw[this,hi2]
  simp
 ·rw[if_neg hi2]
  have:N8 L k (j+1) i=N8 L k j i:=by
   unfold N8;rw[getD_take hj,Ky,zzL86,zzL86,zzL13]
   constructor
   ·rintro(hm|hm)
    ·exact hm
    ·simp only[zzL16]at hm;exact(hi2 (by omega)).elim
   ·exact .inl
  rw[this]
theorem m_comers(L:List (List Int))(h:J7 L=true):Gg L=some (Db L):=by
 obtain⟨h1,h2,h3⟩:=mayS_iff.1 h
 have hroom:(1000:Nat)<=room:=by decide
 unfold Gg;rw[An ⟨by omega,Int.le_refl _,by omega⟩,A1]
 have inner:∀ k,k<L.length->Am (Du L (k:Int)) ((0:Int),Iy L k 0)=some (Iy L k (L.getD k []).length):=fun k hk=>by
  have hok:=h3 k hk;refine Rr (Du L (k:Int)) (fun j=>(((j:Nat):Int),Iy L k j)) (Iy L k (L.getD k []).length) (L.getD k []).length (fun j hj=>?_) ?_
  ·obtain⟨a0,a1⟩:=W9 hok hj
   have hlen:(Iy L k j).length=L.length:=by simp[Iy]
   have hl64:=Zm hok
   show Du L (k:Int) (_,_)=_
   unfold Du;simp only[A1,F4 hj,Ah];have hb:Bd ((L.getD k []).getD j 0) (Iy L k j).length:=⟨a0,by rw[hlen];exact a1⟩
   have hrow:((Iy L k j).getD ((L.getD k []).getD j 0).toNat []).length<=k+1:=by
    unfold Iy;rw[S1 (by omega),Eo];have:=Ux L k ((L.getD k []).getD j 0).toNat
    split
    ·rw[Sl];omega
    ·rw[List.length_nil];omega
   rw[An (Kf hj),An hb,An hb,An (by simp only[Sl];omega),An hb,comers_step L h k j hk hj,w1 (by omega)]
  ·show Du L (k:Int) (_,_)=_
   unfold Du;simp only[A1,K0,A0]
 have r0:∀ k,Iy L k 0=(List.range L.length).map (J8 L k):=fun k=>by
  unfold Iy
  apply Ov
  intro i _;simp[N8]
 have r1:∀ k,Iy L k (L.getD k []).length=(List.range L.length).map (J8 L (k+1)):=fun k=>by
  unfold Iy
  apply Ov
  intro i _;rw[predAt_succ];unfold N8 X5;rw[U4]
 have:Am (Dv L) ((0:Int),(List.range L.length).map (J8 L 0))=some (Db L):=Rr (Dv L) (fun k=>(((k:Nat):Int),(List.range L.length).map (J8 L k))) (Db L) L.length (fun k hk=>?_) ?_
 ·have e0:(List.replicate L.length ([]:List Int))=(List.range L.length).map (J8 L 0):=by
   apply List.ext_getElem?
   intro i
   by_cases hi:i<L.length<;>simp[hi,List.getElem?_replicate,J8]
  rw[e0,this];rfl
 ·show Dv L (_,_)=_
  unfold Dv;simp only[F4 hk,Ah];rw[An (Kf hk),<- r0,inner k hk,r1,w1 (by omega)]
  rfl
 ·show Dv L (_,_)=_
  unfold Dv;simp only[K0,A0]
  rfl
theorem X9{α:Type}[DecidableEq α]{a b:List α}{d:α}(h:a.length=b.length):((List.range a.length).all fun i=>decide (a.getD i d=b.getD i d))=decide (a=b):=by
 rw[Ky,all_range,F0]
 constructor
 ·intro hall
  apply zzL133 h
  intro i h1 h2;have:=Wh (hall i h1);rwa[Af _ _ _ h1,Af _ _ _ h2]at this
 ·rintro rfl i _
  simp
theorem lens_ne{a b:Nat}:(((a:Nat):Int)!=(b:Int))=decide (a≠b):=by
 rw[Ky,Oj,F0];omega
theorem int_ne{a b:Int}:(a !=b) = !decide (a=b):=by
 rw[Ky]
 simp
theorem Zl(a b:List Int)(hb:b.length<4611686018427387904):Cy a b=some (decide (a=b)):=by
 unfold Cy;rw[lens_ne]
 by_cases hl:a.length=b.length
 ·rw[E8 (by simpa using hl),A0];have:Am (A7 a b) (0:Int)=_:=Mo (A7 a b) (fun j=>((j:Nat):Int)) (fun i=>decide (a.getD i 0=b.getD i 0)) (.inl ()) (.inr false) a.length (fun j hj hp=>?_) (fun j hj hp=>?_) ?_
  ·rw[this,X9 hl]
   cases decide (a=b)<;>rfl
  ·show A7 a b (j:Int)=_
   unfold A7;simp only[A1,F4 hj,Ah];rw[An (Kf hj),An (Kf (by omega)),int_ne,hp,w1 (by omega)]
   rfl
  ·show A7 a b (j:Int)=_
   unfold A7;simp only[A1,F4 hj,Ah];rw[An (Kf hj),An (Kf (by omega)),int_ne,hp]
   rfl
  ·show A7 a b _=_
   unfold A7;simp only[K0,A0]
 ·rw[E1 (by simpa using hl),Ah,E8 (fun h=>hl (by rw[h]))]
theorem m_equalFunc(a b:List (List Int))(hb:Fits b):Bx a b=some (decide (a=b)):=by
 unfold Bx;rw[lens_ne]
 by_cases hl:a.length=b.length
 ·rw[E8 (by simpa using hl),A0];have hb1:=hb.1;have:Am (Aq a b) (0:Int)=_:=Mo (Aq a b) (fun j=>((j:Nat):Int)) (fun i=>decide (a.getD i []=b.getD i [])) (.inl ()) (.inr false) a.length (fun j hj hp=>?_) (fun j hj hp=>?_) ?_
  ·rw[this,X9 hl]
   cases decide (a=b)<;>rfl
  ·show Aq a b (j:Int)=_
   unfold Aq;simp only[A1,F4 hj,Ah];rw[An (Kf hj),An (Kf (by omega)),Zl _ _ (hb.at j),hp,w1 (by omega)]
   rfl
  ·show Aq a b (j:Int)=_
   unfold Aq;simp only[A1,F4 hj,Ah];rw[An (Kf hj),An (Kf (by omega)),Zl _ _ (hb.at j),hp]
   rfl
  ·show Aq a b _=_
   unfold Aq;simp only[K0,A0]
 ·rw[E1 (by simpa using hl),Ah,E8 (fun h=>hl (by rw[h]))]
theorem Lc(L:List (List Int)):(Db L).length=L.length:=by simp[Db]
theorem predOf_at{L:List (List Int)}{i:Nat}(hi:i<L.length):(Db L).getD i []=J8 L L.length i:=by unfold Db;rw[S1 hi]
theorem Pz{L:List (List Int)}(h:J7 L=true):(Db L).length<=64/\∀ l∈Db L,l.length<=64:=by
 obtain⟨h1,_⟩:=W1 h;refine⟨by rw[Lc];exact h1,fun l hl=>?_⟩;obtain⟨i,hi,rfl⟩:=zzL23.1 hl;have:=Ux L L.length i;omega
theorem U1{L:List (List Int)}(h:L.length<=64/\∀ l∈L,l.length<=64):Fits L:=fits_of ⟨by omega,fun l hl=>by have:=h.2 l hl;omega⟩
def Tj(g:A3):Bool:=J7 g.Succ&&decide (g.Pred=Db g.Succ)
theorem m_may(g:A3)(h:Fits g.Succ):Ht g=some (Tj g):=by
 unfold Ht Tj;rw[m_succMay _ h,Au]
 cases hm:J7 g.Succ with
 | false=>rfl
 | true=>
  simp only[O7,Ah,m_comers _ hm,Au,m_equalFunc _ _ (U1 (Pz hm)),Ga]
def Ti(L:List (List Int)):A3:=⟨L,Db L⟩
def g0:A3:=⟨[],[]⟩
theorem mayG_gOf{L:List (List Int)}(h:J7 L=true):Tj (Ti L)=true:=by simp[Tj,Ti,h]
theorem gOf_fits{L:List (List Int)}(h:J7 L=true):Fits (Ti L).Succ/\Fits (Ti L).Pred:=⟨U1 (W1 h),U1 (Pz h)⟩
noncomputable section
def upd(s:Nat->Bool)(y:Nat):Nat->Bool:=fun z=>decide (z=y) || s z
theorem upd_true{s:Nat->Bool}{y z:Nat}:upd s y z=true↔z=y\/s z=true:=by simp[upd]
theorem upd_false{s:Nat->Bool}{y z:Nat}:upd s y z=false↔z≠y/\s z=false:=by simp[upd]
inductive VL (S:Nat->List Nat):(Nat->Bool)->List Nat->(Nat->Bool)->List Nat->Prop
 | nil (s:Nat->Bool):VL S s [] s []
 | skip {s s':Nat->Bool} {y:Nat} {l o:List Nat} (h:s y=true) (t:VL S s l s' o):VL S s (y::l) s' o
 | step {s s1 s2:Nat->Bool} {y:Nat} {l o1 o2:List Nat} (h:s y=false) (a:VL S (upd s y) (S y) s1 o1) (b:VL S s1 l s2 o2):VL S s (y::l) s2 (o1++y::o2)
inductive Rch (S:Nat->List Nat):Nat->Nat->Prop
 | refl (x:Nat):Rch S x x
 | head {x y z:Nat} (h:y∈S x) (t:Rch S y z):Rch S x z
theorem Rch.tail{S:Nat->List Nat}{x y z:Nat}(h:Rch S x y)(hz:z∈S y):Rch S x z:=by
 induction h with
 | refl x=>exact .head hz (.refl _)
 | head h _ ih=>exact .head h (ih hz)
theorem Rch.trans{S:Nat->List Nat}{x y z:Nat}(h:Rch S x y)(k:Rch S y z):Rch S x z:=by
 induction h with
 | refl x=>exact k
 | head h _ ih=>exact .head h (ih k)
variable {S:Nat->List Nat} {s s':Nat->Bool} {l o:List Nat}
theorem VL.seen(h:VL S s l s' o)(z:Nat):s' z=true↔s z=true\/z∈o:=by
 induction h with
 | nil s=>simp
 | skip h _ ih=>exact ih
 | @step s s1 s2 y l o1 o2 h a b iha ihb=>
  rw[ihb,iha,upd_true];simp only[zzL13,zzL28]
  constructor
  ·rintro((( rfl|h1)|h1)|h1)
   ·exact .inr (.inr (.inl rfl))
   ·exact .inl h1
   ·exact .inr (.inl h1)
   ·exact .inr (.inr (.inr h1))
  ·rintro(h1|h1|rfl|h1)
   ·exact .inl (.inl (.inr h1))
   ·exact .inl (.inr h1)
   ·exact .inl (.inl (.inl rfl))
   ·exact .inr h1
theorem VL.fresh(h:VL S s l s' o){z:Nat}(hz:z∈o):s z=false:=by
 induction h with
 | nil s=>cases hz
 | skip h _ ih=>exact ih hz
 | @step s s1 s2 y l o1 o2 h a b iha ihb=>
  rcases zzL13.1 hz with h1|h1
  ·exact(upd_false.1 (iha h1)).2
  ·rcases zzL28.1 h1 with rfl|h1
   ·exact h
   ·have:=ihb h1
    cases hs:s z with
    | false=>rfl
    | true=>rw[(a.seen z).2 (.inl (upd_true.2 (.inr hs)))]at this;cases this
theorem VL.nodup(h:VL S s l s' o):o.Nodup:=by
 induction h with
 | nil s=>exact List.nodup_nil
 | skip h _ ih=>exact ih
 | @step s s1 s2 y l o1 o2 h a b iha ihb=>
  rw[List.nodup_append];refine⟨iha,zzL93.2 ⟨fun hy=>?_,ihb⟩,fun u hu v hv=>?_⟩
  ·have:=b.fresh hy;rw[(a.seen y).2 (.inl (upd_true.2 (.inl rfl)))]at this
   cases this
  ·rintro rfl;rcases zzL28.1 hv with rfl|hv
   ·have:=a.fresh hu;rw[upd_true.2 (.inl rfl)]at this
    cases this
   ·have:=b.fresh hv;rw[(a.seen u).2 (.inr hu)]at this
    cases this
theorem VL.rch(h:VL S s l s' o){z:Nat}(hz:z∈o):∃ y∈l,Rch S y z:=by
 induction h with
 | nil s=>cases hz
 | skip h _ ih=>obtain⟨y,hy,hr⟩:=ih hz;exact⟨y,Fv _ hy,hr⟩
 | @step s s1 s2 y l o1 o2 h a b iha ihb=>
  rcases zzL13.1 hz with h1|h1
  ·obtain⟨u,hu,hr⟩:=iha h1;exact⟨y,Kx ..,.head hu hr⟩
  ·rcases zzL28.1 h1 with rfl|h1
   ·exact⟨z,Kx ..,.refl z⟩
   ·obtain⟨u,hu,hr⟩:=ihb h1;exact⟨u,Fv _ hu,hr⟩
theorem VL.closed(h:VL S s l s' o):(∀ y∈l,s' y=true)/\∀ z∈o,∀ y∈S z,s' y=true:=by
 induction h with
 | nil s=>exact⟨(fun _ h=>by cases h),(fun _ h=>by cases h)⟩
 | @skip s s' y l o h t ih=>
  refine⟨fun u hu=>?_,ih.2⟩;rcases zzL28.1 hu with rfl|hu
  ·exact(t.seen u).2 (.inl h)
  ·exact ih.1 u hu
 | @step s s1 s2 y l o1 o2 h a b iha ihb=>
  refine⟨fun u hu=>?_,fun z hz u hu=>?_⟩
  ·rcases zzL28.1 hu with rfl|hu
   ·exact(b.seen u).2 (.inl ((a.seen u).2 (.inl (upd_true.2 (.inl rfl)))))
   ·exact ihb.1 u hu
  ·rcases zzL13.1 hz with h1|h1
   ·exact(b.seen u).2 (.inl (iha.2 z h1 u hu))
   ·rcases zzL28.1 h1 with rfl|h1
    ·exact(b.seen u).2 (.inl (iha.1 u hu))
    ·exact ihb.2 z h1 u hu
theorem VL.above(h:VL S s l s' o)(hf:∀ z,∀ y∈S z,z<y){b:Nat}(hb:∀ y∈l,b<y):∀ z∈o,b<z:=by
 induction h generalizing b with
 | nil s=>intro z hz;cases hz
 | skip h _ ih=>exact ih (fun y hy=>hb y (Fv _ hy))
 | @step s s1 s2 y l o1 o2 h a c iha ihb=>
  intro z hz;have hy:=hb y (Kx ..);rcases zzL13.1 hz with h1|h1
  ·exact iha (fun u hu=>Nat.lt_trans hy (hf y u hu)) z h1
  ·rcases zzL28.1 h1 with rfl|h1
   ·exact hy
   ·exact ihb (fun u hu=>hb u (Fv _ hu)) z h1
theorem VL.ahead(h:VL S s l s' o)(hf:∀ z,∀ y∈S z,z<y):∀ z∈o,∀ y∈S z,s y=true\/∃ A B,o=A++z::B/\y∈A:=by
 induction h with
 | nil s=>intro z hz;cases hz
 | skip h _ ih=>exact ih
 | @step s s1 s2 y l o1 o2 h a c iha ihb=>
  intro z hz u hu;rcases zzL13.1 hz with h1|h1
  ·have hzy:y<z:=a.above hf (fun v hv=>hf y v hv) z h1;have hzu:=hf z u hu;rcases iha z h1 u hu with h2|⟨A,B,rfl,hA⟩
   ·rcases upd_true.1 h2 with rfl|h2
    ·omega
    ·exact .inl h2
   ·exact .inr ⟨A,B++y::o2,by simp,hA⟩
  ·rcases zzL28.1 h1 with rfl|h1z
   ·have hzu:=hf z u hu;rcases(a.seen u).1 (a.closed.1 u hu) with h2|h2
    ·rcases upd_true.1 h2 with rfl|h2
     ·omega
     ·exact .inl h2
    ·exact .inr ⟨o1,o2,rfl,h2⟩
   ·rcases ihb z h1z u hu with h2|⟨A,B,rfl,hA⟩
    ·rcases(a.seen u).1 h2 with h3|h3
     ·rcases upd_true.1 h3 with rfl|h3
      ·obtain⟨P,Q,rfl⟩:=List.append_of_mem h1z;exact .inr ⟨o1++u::P,Q,by simp,by simp⟩
      ·exact .inl h3
     ·obtain⟨P,Q,rfl⟩:=List.append_of_mem h1z;exact .inr ⟨o1++y::P,Q,by simp,by simp[h3]⟩
    ·exact .inr ⟨o1++y::A,B,by simp,by simp[hA]⟩
def cnt(n:Nat)(s:Nat->Bool):Nat:=((List.range n).filter fun z=>!s z).length
theorem S0{n:Nat}{s:Nat->Bool}{y:Nat}(hy:y<n)(h:s y=false):cnt n (upd s y)+1=cnt n s:=by
 unfold cnt
 induction n with
 | zero=>omega
 | succ n ih=>
  rw[U6,zzL139,zzL139,Eo,Eo]
  by_cases hyn:y=n
  ·subst hyn
   have e:(List.range y).filter (fun z=>!upd s y z)=(List.range y).filter (fun z=>!s z):=by
    apply List.filter_congr
    intro z hz;have:=zzL45.1 hz;simp[upd,show z≠y by omega]
   rw[e];simp[upd,h]
  ·have:=ih (by omega)
   have e:([n].filter fun z=>!upd s y z).length=([n].filter fun z=>!s z).length:=by
    simp only[List.filter_cons,List.filter_nil,upd];simp[G8 hyn]
   omega
theorem cnt_mono{n:Nat}{s s':Nat->Bool}(h:∀ z,s z=true->s' z=true):cnt n s'<=cnt n s:=by
 unfold cnt
 apply List.Sublist.length_le
 have:(List.range n).filter (fun z=>!s' z)=((List.range n).filter fun z=>!s z).filter fun z=>!s' z:=by
  rw[List.filter_filter]
  apply List.filter_congr
  intro z _
  cases hs:s z with
  | false=>simp
  | true=>simp[h z hs]
 rw[this];exact List.filter_sublist
theorem VL.exist{n:Nat}(hS:∀ z,z<n->∀ y∈S z,y<n):∀(m:Nat) (s:Nat->Bool),cnt n s<=m->∀ l:List Nat,(∀ y∈l,y<n)->∃ s' o,VL S s l s' o:=by
 intro m
 induction m with
 | zero=>
  intro s hm l
  induction l with
  | nil=>intro _;exact⟨s,[],.nil s⟩
  | cons y l ih=>
   intro hl;obtain⟨s',o,h⟩:=ih (fun z hz=>hl z (Fv _ hz))
   cases hy:s y with
   | true=>exact⟨s',o,.skip hy h⟩
   | false=>have:=S0 (hl y (Kx ..)) hy;omega
 | succ m ih=>
  intro s hm l
  induction l generalizing s with
  | nil=>intro _;exact⟨s,[],.nil s⟩
  | cons y l ihl=>
   intro hl
   cases hy:s y with
   | true=>
    obtain⟨s',o,h⟩:=ihl s hm (fun z hz=>hl z (Fv _ hz));exact⟨s',o,.skip hy h⟩
   | false=>
    have hyn:=hl y (Kx ..);have:=S0 hyn hy;obtain⟨s1,o1,h1⟩:=ih (upd s y) (by omega) (S y) (hS y hyn);have h2:cnt n s1<=cnt n s:=cnt_mono fun z hz=>(h1.seen z).2 (.inl (upd_true.2 (.inr hz)));obtain⟨s2,o2,h3⟩:=ihl s1 (by omega) (fun z hz=>hl z (Fv _ hz));exact⟨s2,_,.step hy h1 h3⟩
def one(r:Nat):Nat->Bool:=fun z=>decide (z=r)
def Ord(S:Nat->List Nat)(r:Nat)(L:List Nat):Prop:=∃ s' o,VL S (one r) (S r) s' o/\L=r::o.reverse
theorem Ord.exist{n:Nat}(hS:∀ z,z<n->∀ y∈S z,y<n){r:Nat}(hr:r<n):∃ L,Ord S r L:=by
 obtain⟨s',o,h⟩:=VL.exist hS _ (one r) (zzL8 _) (S r) (hS r hr);exact⟨_,s',o,h,rfl⟩
theorem Ord.mem{r:Nat}{L:List Nat}(h:Ord S r L)(z:Nat):z∈L↔Rch S r z:=by
 obtain⟨s',o,h,rfl⟩:=h
 have hs:∀ z,s' z=true↔z=r\/z∈o:=fun z=>by rw[h.seen];simp[one]
 have hc:∀ x,s' x=true->∀ y∈S x,s' y=true:=fun x hx y hy=>by
  rcases(hs x).1 hx with rfl|hx
  ·exact h.closed.1 y hy
  ·exact h.closed.2 x hx y hy
 simp only[zzL28,zzL123];rw[<- hs z]
 constructor
 ·intro hz;rcases(hs z).1 hz with rfl|hz
  ·exact .refl _
  ·obtain⟨y,hy,hr⟩:=h.rch hz;exact .head hy hr
 ·intro hr
  have key:∀ x z,Rch S x z->s' x=true->s' z=true:=by
   intro x z hxz
   induction hxz with
   | refl x=>exact id
   | head hy _ ih=>exact fun hx=>ih (hc _ hx _ hy)
  exact key r z hr ((hs r).2 (.inl rfl))
theorem Ord.nodup{r:Nat}{L:List Nat}(h:Ord S r L):L.Nodup:=by
 obtain⟨s',o,h,rfl⟩:=h;refine zzL93.2 ⟨fun hr=>?_,(List.reverse_perm o).nodup_iff.2 h.nodup⟩;have:=h.fresh (zzL123.1 hr);simp[one]at this
theorem Ord.fwd{r:Nat}{L:List Nat}(h:Ord S r L)(hf:∀ z,∀ y∈S z,z<y):∀ z∈L,∀ y∈S z,∃ A B,L=A++z::B/\y∈B:=by
 obtain⟨s',o,h,rfl⟩:=h;intro z hz y hy;have hzy:=hf z y hy;rcases zzL28.1 hz with rfl|hz
 ·refine⟨[],o.reverse,rfl,?_⟩;rcases(h.seen y).1 (h.closed.1 y hy) with h1|h1
  ·simp[one]at h1;omega
  ·exact zzL123.2 h1
 ·have hz:=zzL123.1 hz;have hrz:r<z:=h.above hf (fun v hv=>hf r v hv) z hz;rcases h.ahead hf z hz y hy with h1|⟨A,B,rfl,hA⟩
  ·simp[one]at h1;omega
  ·exact⟨r::B.reverse,A.reverse,by simp,zzL123.2 hA⟩
end
theorem m_reverse(l:List Int)(hl:l.length<4611686018427387904):C5 l=some l.reverse:=by
 unfold C5
 by_cases h0:l.length=0
 ·obtain rfl:l=[]:=zzL126.1 h0
  have:Am A4 ((0:Int),(A9 ((([]:List Int).length:Int)-1)),([]:List Int))=some []:=by
   apply Ao
   unfold A4;rw[Hn (by simp) (by simp)]
   rfl
  rw[this];rfl
 ·have hw:A9 ((l.length:Int)-1)=((l.length-1:Nat):Int):=by rw[Hn (by omega) (by omega)];omega
  rw[hw]
  let C:Nat->List Int:=fun k=>(List.range l.length).map fun i=>if i<k\/l.length-1-k<i then l.getD (l.length-1-i) 0 else l.getD i 0
  have hC:∀ k i,i<l.length->(C k).getD i 0=if i<k\/l.length-1-k<i then l.getD (l.length-1-i) 0 else l.getD i 0:=fun k i hi=>by simp only[C];rw[S1 hi]
  have hlen:∀ k,(C k).length=l.length:=fun k=>by simp[C]
  have:=Rr A4 (fun k=>(((k:Nat):Int),((l.length-1-k:Nat):Int),C k)) l.reverse (l.length / 2) (fun k hk=>?_) ?_
  ·have e0:C 0=l:=by
    apply zzL133 (by simp[C])
    intro i h1 h2;have:=hC 0 i h2;rw[Af _ _ _ h1,Af _ _ _ h2]at this;rw[this,if_neg (by omega)]
   have this':Am A4 ((0:Int),((l.length-1:Nat):Int),l)=some l.reverse:=by
    have h2:=this;simp only[e0]at h2;exact h2
   rw[this'];rfl
  ·show A4 (_,_,_)=_
   unfold A4
   have hlt:k<l.length-1-k:=by omega
   simp only[F4 hlt,Ah,A1];rw[An (Kf (by rw[hlen];omega)),An (Kf (by rw[hlen];omega)),An (Kf (by rw[hlen];omega)),An (Kf (by rw[hlen];omega))];rw[w1 (by omega),show A9 (((l.length-1-k:Nat):Int)-1)=((l.length-1-(k+1):Nat):Int) by rw[Hn (by omega) (by omega)];omega]
   congr 4
   rw[hC k _ (by omega),hC k _ (by omega),if_neg (by omega),if_neg (by omega)];simp only[C];rw[set_mr,set_mr]
   apply Ov
   intro i hi
   by_cases h1:i=k
   ·subst h1;rw[if_neg (by omega),if_pos rfl,if_pos (by omega)]
   ·by_cases h2:i=l.length-1-k
    ·subst h2;rw[if_pos rfl,if_pos (by omega)]
     congr 1;omega
    ·rw[if_neg h2,if_neg h1]
     by_cases h3:i<k\/l.length-1-k<i
     ·rw[if_pos h3,if_pos (by omega)]
     ·rw[if_neg h3,if_neg (by omega)]
  ·show A4 (_,_,_)=_
   unfold A4;have hd:decide (((l.length / 2:Nat):Int)<((l.length-1-l.length / 2:Nat):Int))=false:=E8 (by omega);simp only[hd,A0]
   congr 2
   apply zzL133 (by simp[C])
   intro i h1 h2
   have h3:i<l.length:=by simpa [C] using h1
   have:=hC (l.length / 2) i h3;rw[Af _ _ _ h1]at this;rw[this,List.getElem_reverse]
   split
   ·rw[Af _ _ _ (by omega)]
   ·rw[Af _ _ _ h3]
    congr 1;omega
theorem top{st:List Int}{a:Int}(h:st.length<4611686018427387904):(st++[a]).getD (A9 (((st++[a]).length:Int)-1)).toNat 0=a:=by
 have:A9 (((st++[a]).length:Int)-1)=((st.length:Nat):Int):=by rw[Eo,Sl,Hn (by omega) (by omega)];omega
 rw[this,A1];simp[List.getD]
theorem topi{st:List Int}{a:Int}(h:st.length<4611686018427387904):A9 (((st++[a]).length:Int)-1)=((st.length:Nat):Int):=by
 rw[Eo,Sl,Hn (by omega) (by omega)];omega
theorem L2_done{g:A3}{R:List Bool}{st T:List Int}{a:Nat}(hst:st.length<64)(ha:a<g.Succ.length)(h64:g.Succ.length<=64)(ht:T.getD a 0=((g.Succ.getD a []).length:Int)) :
  E2 g R (st++[(a:Int)]) T=some (.done (.inl T)):=by
 unfold E2;simp only[top (st:=st) (a:=(a:Int)) (by omega),A1];rw[An (Kf (by omega)),An (Kf ha),ht,K0,A0]
theorem L2_step{g:A3}{R:List Bool}{st T:List Int}{a t y:Nat}(hst:st.length<64)(ha:a<g.Succ.length)(h64:g.Succ.length<=64)(ht:T.getD a 0=(t:Int))(htl:t<(g.Succ.getD a []).length)(htm:t<64)
  (hy:(g.Succ.getD a []).getD t 0=(y:Int)) (hyn:y<g.Succ.length) :
  E2 g R (st++[(a:Int)]) T=bif R.getD y false then some (.next (Ju 64 (0:Int) T a ((t+1:Nat):Int))) else some (.done (.inr (Ju 64 false R y true,Ju 64 (0:Int) T a ((t+1:Nat):Int),(st++[(a:Int)])++[(y:Int)]))):=by
 have hroom:(1000:Nat)<=room:=by decide
 unfold E2;simp only[top (st:=st) (a:=(a:Int)) (by omega),A1,ht,hy];rw[An (Kf (by omega)),An (Kf ha),F4 htl,Ah,An (Kf ha),An (Kf (by omega)),An (Kf htl),An (Kf (by omega)),An (Kf (by omega)),An (Kf (by omega)),w1 (by omega)]
 cases R.getD y false with
 | true=>rfl
 | false=>
  simp only[L1,Ah,A0];rw[An (Kf (by omega)),An (by rw[Eo,Sl,Sl];omega)]
theorem F3_eq{g:A3}{R:List Bool}{st T Lf:List Int}{a:Nat}(hst:st.length<64)(hLf:Lf.length<64) :
  Cn g (R,T,st++[(a:Int)],Lf)=(Am (E2 g R (st++[(a:Int)])) T).bind fun x=>match x with
   | .inl T'=>if st=[] then some (.done (Lf++[(a:Int)]).reverse) else some (.next (R,T',st,Lf++[(a:Int)]))
   | .inr (R',T',st')=>some (.next (R',T',st',Lf)):=by
 have hroom:(1000:Nat)<=room:=by decide
 unfold Cn;simp only
 have hb:Bd (A9 (((st++[(a:Int)]).length:Int)-1)) (st++[(a:Int)]).length:=by rw[topi (by omega)];exact Kf (by simp)
 rw[An hb]
 congr 1
 funext x
 cases x with
 | inr y=>obtain⟨R',T',st'⟩:=y;rfl
 | inl T'=>
  simp only[top (st:=st) (a:=(a:Int)) (by omega)];rw[topi (by omega),A1,An (by rw[Sl];omega),An ⟨by omega,by simp⟩];have e:(st++[(a:Int)]).take st.length=st:=List.take_left' rfl;rw[e]
  cases st with
  | nil=>
   rw[if_pos rfl]
   have:decide ((0:Int)<(([]:List Int).length:Int))=false:=by decide
   rw[this,A0,m_reverse _ (by simp;omega)];simp only[Au];rw[An (by simp)]
  | cons b st'=>
   rw[if_neg (by simp)];have:decide ((0:Int)<((b::st').length:Int))=true:=E1 (by simp<;>omega);rw[this,Ah]
theorem loopO_from{S X:Type}{f:S->Option (LR S X)}{a b:S}(h:f a=f b):Am f a=Am f b:=by
 cases hb:f b with
 | none=>rw[Ut (h.trans hb),Ut hb]
 | some r=>cases r with
  | done x=>rw[Ao (h.trans hb),Ao hb]
  | next s=>rw[Ar (h.trans hb),Ar hb]
theorem Yn{S X:Type}{f:S->Option (LR S X)}{s:S}:Li (f s) f=Am f s:=by
 unfold Li
 cases hb:f s with
 | none=>rw[Ut hb];rfl
 | some r=>cases r with
  | done x=>rw[Ao hb];rfl
  | next s'=>rw[Ar hb];rfl
def sN(L:List (List Int))(k:Nat):List Nat:=(L.getD k []).map Int.toNat
def RelS(R:List Bool)(s:Nat->Bool):Prop:=∀ z,z<64->R.getD z false=s z
theorem Mk{α:Type}{d:α}{l:List α}{i:Nat}{x:α}{k:Nat}(hk:k<64):(Ju 64 d l i x).getD k d=if k=i then x else l.getD k d:=by
 rw[setN_getD hk]
 by_cases h:k=i
 ·subst h;simp
 ·have:Nat.beq k i=false:=by cases hb:Nat.beq k i with|false=>rfl|true=>exact absurd (Bj hb) h
  rw[this,if_neg h];rfl
theorem RelS.set{R:List Bool}{s:Nat->Bool}(h:RelS R s){y:Nat}:RelS (Ju 64 false R y true) (upd s y):=fun z hz=>by
 rw[Mk hz,h z hz]
 by_cases hzy:z=y
 ·simp[upd,hzy]
 ·simp[upd,hzy]
def Oa(o:List Nat):List Int:=o.map Int.ofNat
theorem order_main{g:A3}(hm:J7 g.Succ=true){s s':Nat->Bool}{l o:List Nat}(hv:VL (sN g.Succ) s l s' o) :
  ∀(R:List Bool) (T st Lf:List Int) (a t:Nat),RelS R s->a<g.Succ.length->l=(sN g.Succ a).drop t->T.getD a 0=(t:Int)->t<=(sN g.Succ a).length->s a=true->(∀ z,z<64->s z=false->T.getD z 0=0)->
   Lf.length+cnt 64 s+st.length+1<=64->
   ∃(R':List Bool) (T':List Int),RelS R' s'/\(∀ z,z<64->s' z=false->T'.getD z 0=0)/\(∀ z,z<64->s z=true->z≠a->T'.getD z 0=T.getD z 0)/\Lf.length+o.length+cnt 64 s'+st.length+1<=64 /\
    Am (Cn g) (R,T,st++[(a:Int)],Lf)=if st=[] then some (Lf++Oa o++[(a:Int)]).reverse else Am (Cn g) (R',T',st,Lf++Oa o++[(a:Int)]):=by
 obtain⟨hL1,hL64,hLok⟩:=mayS_iff.1 hm
 have hlenS:∀ a,(sN g.Succ a).length=(g.Succ.getD a []).length:=fun a=>by simp[sN]
 have hdrop:∀(a t y:Nat) (l':List Nat),a<g.Succ.length->y::l'=(sN g.Succ a).drop t->t<(g.Succ.getD a []).length/\(g.Succ.getD a []).getD t 0=(y:Int)/\y<g.Succ.length/\l'=(sN g.Succ a).drop (t+1):=fun a t y l' ha he=>by
  have ht:t<(sN g.Succ a).length:=by
   rcases zzL137 t (sN g.Succ a).length with h|h
   ·exact h
   ·rw[List.drop_eq_nil_of_le h]at he;cases he
  rw[T9 ht]at he;simp only[Cs]at he;obtain⟨h1,h2⟩:=he
  have ht':t<(g.Succ.getD a []).length:=by rw[<- hlenS];exact ht
  obtain⟨b0,b1⟩:=W9 (hLok a ha) ht'
  have h3:(sN g.Succ a)[t]=((g.Succ.getD a []).getD t 0).toNat:=by rw[Af _ _ _ ht'];simp[sN]
  exact⟨ht',by omega,by omega,h2⟩
 induction hv with
 | nil s=>
  intro R T st Lf a t hR ha hl hT htl hsa hz hc
  have ht:t=(g.Succ.getD a []).length:=by
   have:=Co List.length hl;simp at this;rw[hlenS]at htl this;omega
  refine⟨R,T,hR,hz,fun _ _ _ _=>rfl,by simpa using hc,?_⟩
  have hF:Cn g (R,T,st++[(a:Int)],Lf)=if st=[] then some (.done (Lf++[(a:Int)]).reverse) else some (.next (R,T,st,Lf++[(a:Int)])):=by
   rw[F3_eq (by omega) (by omega),Ao (L2_done (by omega) ha hL64 (by rw[hT,ht]))]
   rfl
  by_cases hst:st=[]
  ·rw[if_pos hst]at hF ⊢;rw[Ao hF];simp[Oa]
  ·rw[if_neg hst]at hF ⊢;rw[Ar hF];simp[Oa]
 | @skip s s' y l o h tl ih=>
  intro R T st Lf a t hR ha hl hT htl hsa hz hc;obtain⟨h1,h2,h3,h4⟩:=hdrop a t y l ha hl;have hb:=Zm (hLok a ha);have hs:=L2_step (g:=g) (R:=R) (st:=st) (T:=T) (a:=a) (t:=t) (y:=y) (by omega) ha hL64 hT h1 (by omega) h2 h3;rw[hR y (by omega),h,Ah]at hs;obtain⟨R',T',a1,a2,a3,a4,a5⟩:=ih R (Ju 64 (0:Int) T a ((t+1:Nat):Int)) st Lf a (t+1) hR ha h4 (by rw[Mk (by omega),if_pos rfl]) (by rw[hlenS];omega) hsa
   (fun z hz1 hz2=>by rw[Mk hz1,if_neg (by rintro rfl;rw[hsa]at hz2;cases hz2)];exact hz z hz1 hz2) hc
  refine⟨R',T',a1,a2,fun z hz1 hz2 hz3=>by rw[a3 z hz1 hz2 hz3,Mk hz1,if_neg hz3],a4,?_⟩;rw[<- a5]
  apply loopO_from
  rw[F3_eq (by omega) (by omega),F3_eq (by omega) (by omega),Ar hs]
 | @step s s1 s2 y l o1 o2 h tl tr ih1 ih2=>
  intro R T st Lf a t hR ha hl hT htl hsa hz hc;obtain⟨h1,h2,h3,h4⟩:=hdrop a t y l ha hl;have hb:=Zm (hLok a ha)
  have hay:y≠a:=by rintro rfl;rw[hsa]at h;cases h
  have hs:=L2_step (g:=g) (R:=R) (st:=st) (T:=T) (a:=a) (t:=t) (y:=y) (by omega) ha hL64 hT h1 (by omega) h2 h3;rw[hR y (by omega),h,A0]at hs;have hcu:=S0 (n:=64) (show y<64 by omega) h
  have hF:Cn g (R,T,st++[(a:Int)],Lf)=some (.next (Ju 64 false R y true,Ju 64 (0:Int) T a ((t+1:Nat):Int),(st++[(a:Int)])++[(y:Int)],Lf)):=by
   rw[F3_eq (by omega) (by omega),Ao hs]
   rfl
  obtain⟨R1,T1,b1,b2,b3,b4,b5⟩:=ih1 (Ju 64 false R y true) (Ju 64 (0:Int) T a ((t+1:Nat):Int)) (st++[(a:Int)]) Lf y 0 hR.set h3 (by simp)
   (by rw[Mk (by omega),if_neg hay];exact hz y (by omega) h) (L2 _) (upd_true.2 (.inl rfl))
   (fun z hz1 hz2=>by
    obtain⟨c1,c2⟩:=upd_false.1 hz2;rw[Mk hz1,if_neg (by rintro rfl;rw[hsa]at c2;cases c2)]
    exact hz z hz1 c2) (by rw[Eo,Sl];omega)
  rw[if_neg (by simp)]at b5
  have hTa:T1.getD a 0=((t+1:Nat):Int):=by rw[b3 a (by omega) (upd_true.2 (.inr hsa)) (G8 hay),Mk (by omega),if_pos rfl]
  rw[Eo,Sl]at b4;obtain⟨R2,T2,c1,c2,c3,c4,c5⟩:=ih2 R1 T1 st (Lf++Oa o1++[(y:Int)]) a (t+1) b1 ha h4 hTa (by rw[hlenS];omega) ((tl.seen a).2 (.inl (upd_true.2 (.inr hsa)))) b2
   (by simp only[Eo,Sl,Oa,Sr];omega)
  refine⟨R2,T2,c1,c2,fun z hz1 hz2 hz3=>?_,?_,?_⟩
  ·rw[c3 z hz1 ((tl.seen z).2 (.inl (upd_true.2 (.inr hz2)))) hz3,b3 z hz1 (upd_true.2 (.inr hz2)) (by rintro rfl;rw[h]at hz2;cases hz2),Mk hz1,if_neg hz3]
  ·simp only[Eo,Sl,Oa,Sr,Sq]at c4 ⊢;omega
  ·rw[Ar hF,b5,c5]
   have e:Lf++Oa o1++[(y:Int)]++Oa o2++[(a:Int)]=Lf++Oa (o1++y::o2)++[(a:Int)]:=by simp[Oa]
   rw[e]
theorem T5{L:List (List Int)}(h:J7 L=true):∀ z,z<L.length->∀ y∈sN L z,y<L.length:=fun z hz y hy=>by
 obtain⟨_,_,h3⟩:=mayS_iff.1 h;obtain⟨x,hx,rfl⟩:=zzL23.1 hy;have:=okL_mem (h3 z hz) hx;omega
theorem cnt_one{r:Nat}(hr:r<64):cnt 64 (one r)=63:=by
 have h:=S0 (n:=64) (s:=fun _=>false) hr rfl
 have e:upd (fun _=>false) r=one r:=by funext z;simp[upd,one]
 rw[e]at h
 have:cnt 64 (fun _=>false)=64:=by decide
 omega
theorem M8{α:Type}{n z:Nat}{d:α}:(List.replicate n d).getD z d=d:=by rw[Nf,List.getElem?_replicate];split<;>rfl
theorem m_order(g:A3)(h:Fits g.Succ)(hP:True)(r:Int) :
  (Tj g=true->0<=r->r<(g.Succ.length:Int)->∀ L,Ord (sN g.Succ) r.toNat L->Fd g r=some (Oa L)) /\
  ((Tj g&&(decide (0<=r)&&decide (r<(g.Succ.length:Int))))=false->Fd g r=some []):=by
 refine⟨fun hm h0 h1 L hL=>?_,fun hf=>?_⟩
 ·have hms:J7 g.Succ=true:=by unfold Tj at hm;exact(A6 _ _▸hm).1
  obtain⟨hL1,hL64,hLok⟩:=mayS_iff.1 hms;obtain⟨s',o,hv,rfl⟩:=hL;have hrn:((r.toNat:Nat):Int)=r:=Sn h0
  have hr:r.toNat<g.Succ.length:=by omega
  obtain⟨R',T',_,_,_,_,hmain⟩:=order_main hms hv (Ju 64 false (List.replicate 64 false) r.toNat true) (List.replicate 64 (0:Int)) [] [] r.toNat 0
   (fun z hz=>by rw[Mk hz,M8];by_cases hzr:z=r.toNat<;>simp[one,hzr]) hr (by simp) M8 (L2 _) (by simp[one])
   (fun z hz _=>M8) (by rw[cnt_one (by omega)];simp)
  rw[if_pos rfl,hrn]at hmain;unfold Fd;rw[m_may _ h,hm,Au];simp only[E9,O7,Ah,A0,Ou,E1 h0,E1 h1,Xu,Au];rw[An ⟨h0,by omega⟩];have hF:∀ X,Am (Cn g) (Ju 64 false (List.replicate 64 false) r.toNat true,List.replicate 64 (0:Int),[]++[r],[])=some X->
    (Li (Cn g (Ju 64 false (List.replicate 64 false) r.toNat true,List.replicate 64 (0:Int),[r],[])) (Cn g)).bind (fun x=>some x)=some X:=fun X hX=>by
   rw[Yn];rw[Qm]at hX;rw[hX];rfl
  refine(hF _ hmain).trans ?_;simp only[Qm,List.reverse_append,Oa,Bq,List.map_reverse,List.reverse_cons,List.reverse_nil]
  simp
  omega
 ·unfold Fd;rw[m_may _ h,Au]
  cases hm:Tj g with
  | false=>rfl
  | true=>
   rw[hm,Ga]at hf;simp only[E9,O7,Ah,A0,Ou,hf,Au,L1]
   rfl
def RelN(n:Nat)(R:List Bool)(s:Nat->Bool):Prop:=R.length=n/\∀ z,z<n->R.getD z false=s z
theorem RelN.set{n:Nat}{R:List Bool}{s:Nat->Bool}(h:RelN n R s){y:Nat}(hy:y<n):RelN n (R.set y true) (upd s y):=by
 refine⟨by rw[Ic];exact h.1,fun z hz=>?_⟩;rw[Nf,List.getElem?_set]
 by_cases hzy:y=z
 ·subst hzy;simp[upd,h.1,hy]
 ·rw[if_neg hzy,<- Nf,h.2 z hz];simp[upd,G8 hzy]
theorem La:∀(n:Nat) (l:List Nat),l.Nodup->(∀ x∈l,x<n)->l.length<=n
 | 0,l,_,h=>by
  cases l with
  | nil=>simp
  | cons x l=>have:=h x (Kx ..);omega
 | n+1,l,hd,h=>by
  by_cases hn:n∈l
  ·have h1:=La n (l.erase n) (hd.erase n) fun x hx=>by
    have h2:=(hd.mem_erase_iff).1 hx;have:=h x h2.2;have:=h2.1;omega
   rw[List.length_erase_of_mem hn]at h1;omega
  ·have h1:=La n l hd fun x hx=>by
    have:=h x hx
    have:x≠n:=by rintro rfl;exact hn hx
    omega
   omega
theorem mem_filt{p:Nat->Bool}{n:Nat}{x:Int}:x∈((List.range n).filter p).map Int.ofNat↔∃ k:Nat,x=(k:Int)/\k<n/\p k=true:=by
 simp only[zzL23,zzL84,zzL45]
 constructor
 ·rintro⟨k,⟨h1,h2⟩,rfl⟩;exact⟨k,rfl,h1,h2⟩
 ·rintro⟨k,rfl,h1,h2⟩;exact⟨k,⟨h1,h2⟩,rfl⟩
theorem goes_iff{L:List (List Int)}{k i:Nat}:X5 L k i=true↔(i:Int)∈L.getD k []:=by unfold X5;rw[zzL86]
def mk(o:List Bool)(l:List Nat):List Bool:=l.foldl (fun o y=>o.set y true) o
theorem mk_len(l:List Nat):∀ o:List Bool,(mk o l).length=o.length:=by
 induction l with
 | nil=>intro o;rfl
 | cons y l ih=>intro o;show(mk (o.set y true) l).length=_;rw[ih,Ic]
theorem mk_at{n:Nat}(l:List Nat):∀(o:List Bool),o.length=n->(∀ y∈l,y<n)->∀ z,(mk o l).getD z false=true↔o.getD z false=true\/z∈l:=by
 induction l with
 | nil=>intro o _ _ z;simp[mk]
 | cons y l ih=>
  intro o ho hl z
  show(mk (o.set y true) l).getD z false=true↔_
  rw[ih (o.set y true) (by rw[Ic];exact ho) (fun u hu=>hl u (Fv _ hu)) z];have hy:=hl y (Kx ..)
  have e:(o.set y true).getD z false=true↔o.getD z false=true\/z=y:=by
   rw[Nf,List.getElem?_set,Nf]
   by_cases h:y=z
   ·subst h;simp[ho,hy]
   ·simp[h,G8 h]
  rw[e,zzL28]
  constructor
  ·rintro((h|h)|h)
   ·exact .inl h
   ·exact .inr (.inl h)
   ·exact .inr (.inr h)
  ·rintro(h|h|h)
   ·exact .inl (.inl h)
   ·exact .inl (.inr h)
   ·exact .inr h
def sw(S:Nat->List Nat)(o:List Bool):Nat->List Bool
 | 0=>o
 | i+1=>if(sw S o i).getD i false=true then mk (sw S o i) (S i) else sw S o i
def rds(S:Nat->List Nat)(n:Nat)(o:List Bool):Nat->List Bool
 | 0=>o
 | j+1=>sw S (rds S n o j) n
section
variable {S:Nat->List Nat} {n:Nat} (hS:∀ z,z<n->∀ y∈S z,y<n)
theorem Xl(o:List Bool):∀ i,(sw S o i).length=o.length:=by
 intro i
 induction i with
 | zero=>rfl
 | succ i ih=>unfold sw;split;rw[mk_len,ih];exact ih
theorem rds_len(o:List Bool):∀ j,(rds S n o j).length=o.length:=by
 intro j
 induction j with
 | zero=>rfl
 | succ j ih=>unfold rds;rw[Xl,ih]
include hS
theorem Zq{o:List Bool}(ho:o.length=n):∀ i,i<=n->∀ z,o.getD z false=true->(sw S o i).getD z false=true:=by
 intro i
 induction i with
 | zero=>intro _ z h;exact h
 | succ i ih=>
  intro hi z h;unfold sw
  split
  ·exact(mk_at (n:=n) _ _ (by rw[Xl];exact ho) (hS i (by omega)) z).2 (.inl (ih (by omega) z h))
  ·exact ih (by omega) z h
theorem sw_sound{o:List Bool}{r:Nat}(ho:o.length=n)(h:∀ z,o.getD z false=true->Rch S r z):∀ i,i<=n->∀ z,(sw S o i).getD z false=true->Rch S r z:=by
 intro i
 induction i with
 | zero=>intro _ z hz;exact h z hz
 | succ i ih=>
  intro hi z hz;unfold sw at hz
  split at hz
  ·rename_i hsi
   rcases(mk_at (n:=n) _ _ (by rw[Xl];exact ho) (hS i (by omega)) z).1 hz with h1|h1
   ·exact ih (by omega) z h1
   ·exact(ih (by omega) i hsi).tail h1
  ·exact ih (by omega) z hz
theorem sw_step{o:List Bool}(ho:o.length=n):∀ i,i<=n->∀ j,j<i->o.getD j false=true->∀ y∈S j,(sw S o i).getD y false=true:=by
 intro i
 induction i with
 | zero=>intro _ j hj;omega
 | succ i ih=>
  intro hi j hj hoj y hy;unfold sw
  by_cases hji:j=i
  ·subst hji;have h1:=Zq hS ho j (by omega) j hoj;rw[if_pos h1];exact(mk_at (n:=n) _ _ (by rw[Xl];exact ho) (hS j (by omega)) y).2 (.inr hy)
  ·have h1:=ih (by omega) j (by omega) hoj y hy
   split
   ·exact(mk_at (n:=n) _ _ (by rw[Xl];exact ho) (hS i (by omega)) y).2 (.inl h1)
   ·exact h1
theorem sw_closed{o:List Bool}(ho:o.length=n)(hc:∀ j,j<n->o.getD j false=true->∀ y∈S j,o.getD y false=true):∀ i,i<=n->∀ z,(sw S o i).getD z false=true->o.getD z false=true:=by
 intro i
 induction i with
 | zero=>intro _ z h;exact h
 | succ i ih=>
  intro hi z hz;unfold sw at hz
  split at hz
  ·rename_i hsi
   rcases(mk_at (n:=n) _ _ (by rw[Xl];exact ho) (hS i (by omega)) z).1 hz with h1|h1
   ·exact ih (by omega) z h1
   ·exact hc i (by omega) (ih (by omega) i hsi) z h1
  ·exact ih (by omega) z hz
theorem V6{r:Nat}(hr:r<n)(z:Nat):(rds S n ((List.replicate n false).set r true) n).getD z false=true↔Rch S r z:=by
 let o0:=(List.replicate n false).set r true
 have ho0:o0.length=n:=by simp[o0]
 have hat0:∀ z,o0.getD z false=true↔z=r:=fun z=>by
  show((List.replicate n false).set r true).getD z false=true↔z=r
  rw[Nf,List.getElem?_set]
  by_cases h:r=z
  ·subst h;simp[hr]
  ·rw[if_neg h,<- Nf,M8];simp[G8 h]
 have hlen:∀ j,(rds S n o0 j).length=n:=fun j=>by rw[rds_len,ho0]
 have hsound:∀ j z,(rds S n o0 j).getD z false=true->Rch S r z:=by
  intro j
  induction j with
  | zero=>intro z hz;rw[(hat0 z).1 hz];exact .refl _
  | succ j ih=>intro z hz;exact sw_sound hS (hlen j) ih n (zzL8 _) z hz
 have hmono:∀ j,∀ z,o0.getD z false=true->(rds S n o0 j).getD z false=true:=by
  intro j
  induction j with
  | zero=>intro z h;exact h
  | succ j ih=>intro z h;exact Zq hS (hlen j) n (zzL8 _) z (ih z h)
 let C:Nat->Prop:=fun j=>∀ i,i<n->(rds S n o0 j).getD i false=true->∀ y∈S i,(rds S n o0 j).getD y false=true
 have key:∀ j,C j\/cnt n (fun z=>(rds S n o0 j).getD z false)+j+1<=n:=by
  intro j
  induction j with
  | zero=>
   refine .inr ?_;have h1:=S0 (n:=n) (s:=fun _=>false) hr rfl
   have e:upd (fun _=>false) r=fun z=>(rds S n o0 0).getD z false:=by
    funext z
    rw[Ky,upd_true]
    show _↔o0.getD z false=true
    rw[hat0]
    simp
   rw[e]at h1
   have hcl:cnt n (fun _=>false)=n:=by
    unfold cnt;rw[List.filter_eq_self.2 (by simp)]
    simp
   omega
  | succ j ih=>
   by_cases hc:C j
   ·refine .inl fun i hi h y hy=>?_;have h1:=sw_closed hS (hlen j) hc n (zzL8 _) i h;exact Zq hS (hlen j) n (zzL8 _) y (hc i hi h1 y hy)
   ·rcases ih with ih|ih
    ·exact(hc ih).elim
    ·refine .inr ?_
     have hex:∃ i,i<n/\(rds S n o0 j).getD i false=true/\∃ y,y∈S i/\(rds S n o0 j).getD y false=false:=by
      simp only[C]at hc;simp only[Classical.not_forall]at hc;obtain⟨i,hi,h1,y,hy,h2⟩:=hc;exact⟨i,hi,h1,y,hy,by simpa using h2⟩
     obtain⟨i,hi,h1,y,hy,h2⟩:=hex;have h3:=sw_step hS (hlen j) n (zzL8 _) i hi h1 y hy;have hyn:=hS i hi y hy;have h4:=S0 (n:=n) (s:=fun z=>(rds S n o0 j).getD z false) hyn h2
     have h5:cnt n (fun z=>(rds S n o0 (j+1)).getD z false)<=cnt n (upd (fun z=>(rds S n o0 j).getD z false) y):=cnt_mono fun z hz=>by
      rcases upd_true.1 hz with rfl|hz
      ·exact h3
      ·exact Zq hS (hlen j) n (zzL8 _) z hz
     omega
 have hC:C n:=by
  rcases key n with h|h
  ·exact h
  ·omega
 constructor
 ·exact hsound n z
 ·intro hrch
  have hlt:∀ x z,Rch S x z->x<n->z<n/\((rds S n o0 n).getD x false=true->(rds S n o0 n).getD z false=true):=by
   intro x z hxz
   induction hxz with
   | refl x=>exact fun hx=>⟨hx,id⟩
   | @head x y z hy _ ih=>
    intro hx;have:=ih (hS x hx y hy);exact⟨this.1,fun h=>this.2 (hC x hx h y hy)⟩
  exact(hlt r z hrch hr).2 (hmono n r ((hat0 r).2 rfl))
end
def pos:List Nat->Nat->Nat
 | [],_=>0
 | x::l,z=>if x=z then 0 else pos l z+1
theorem pos_cons(x:Nat)(l:List Nat)(z:Nat):pos (x::l) z=if x=z then 0 else pos l z+1:=rfl
theorem pos_app{A l:List Nat}{z:Nat}(h:z∉A):pos (A++l) z=A.length+pos l z:=by
 induction A with
 | nil=>simp
 | cons x A ih=>
  have h1:x≠z:=fun e=>h (by rw[e];exact Kx ..);have h2:z∉A:=fun e=>h (Fv _ e);rw[Wi,pos_cons,if_neg h1,ih h2,Sq];omega
theorem Zo{P:List Nat}(hd:P.Nodup){i:Nat}(hi:i<P.length):P[i]∉P.take i/\pos P P[i]=i:=by
 have e:P=P.take i++P[i]::P.drop (i+1):=by rw[<- T9 hi,List.take_append_drop]
 have hn:P[i]∉P.take i:=by
  rw[e]at hd;have:=(List.nodup_append.1 hd).2.2;exact fun hm=>this _ hm _ (Kx ..) rfl
 refine⟨hn,?_⟩
 have h2:pos (P.take i++P[i]::P.drop (i+1)) P[i]=i:=by
  rw[pos_app hn]
  have:pos (P[i]::P.drop (i+1)) P[i]=0:=by rw[pos_cons,if_pos rfl]
  rw[this,N2];omega
 rw[<- e]at h2;exact h2
theorem compact_inv(d:Array Int)(hs:∀ i j,i<=j->j<d.size->d[i]!<=d[j]!):∀ m,m<=d.size->(∀ x∈Lib.compactUpTo d m,∃ j,j<m/\x=d[j]!)/\(∀ j,j<m->d[j]!∈Lib.compactUpTo d m)/\(Lib.compactUpTo d m).Pairwise (·<·):=by
 intro m
 induction m with
 | zero=>intro _;exact⟨(fun x hx=>by simp[Lib.compactUpTo]at hx),(fun j hj=>by omega),by simp[Lib.compactUpTo]⟩
 | succ m ih=>
  intro hm;obtain⟨h1,h2,h3⟩:=ih (by omega);rw[Lib.compactUpTo_succ]
  cases hk:Lib.keeps d m with
  | true=>
   rw[if_pos rfl];refine⟨fun x hx=>?_,fun j hj=>?_,?_⟩
   ·rcases zzL13.1 hx with h|h
    ·obtain⟨j,hj,he⟩:=h1 x h;exact⟨j,by omega,he⟩
    ·exact⟨m,by omega,by simpa using h⟩
   ·by_cases hjm:j=m
    ·subst hjm;simp
    ·exact zzL13.2 (.inl (h2 j (by omega)))
   ·rw[zzL119];refine⟨h3,List.pairwise_singleton _ _,fun x hx y hy=>?_⟩;obtain⟨j,hj,rfl⟩:=h1 x hx
    have hy':y=d[m]!:=by simpa using hy
    subst hy'
    have hk':m=0\/d[m]!≠d[m-1]!:=by simpa [Lib.keeps] using hk
    rcases hk' with h0|h0
    ·omega
    ·have a1:=hs j (m-1) (by omega) (by omega);have a2:=hs (m-1) m (by omega) (by omega);omega
  | false=>
   have hk':m≠0/\d[m]! = d[m-1]!:=by
    have:¬ (m=0\/d[m]!≠d[m-1]!):=by
     intro h
     have:Lib.keeps d m=true:=by simpa [Lib.keeps] using h
     rw[hk]at this;cases this
    exact⟨fun h=>this (.inl h),Classical.not_not.1 fun h=>this (.inr h)⟩
   simp only[zzL98,Ee,List.append_nil];refine⟨fun x hx=>by obtain⟨j,hj,he⟩:=h1 x hx;exact⟨j,by omega,he⟩,fun j hj=>?_,h3⟩
   by_cases hjm:j=m
   ·subst hjm;rw[hk'.2];exact h2 _ (by omega)
   ·exact h2 j (by omega)
def riseL(l:List Int):List Int:=Lib.compact (l.mergeSort fun x y=>decide (x<=y))
theorem rise_spec(l:List Int):(riseL l).Pairwise (·<·)/\∀ x,x∈riseL l↔x∈l:=by
 unfold riseL Lib.compact;have hp:(l.mergeSort fun x y=>decide (x<=y)).Pairwise (fun a b=>decide (a<=b)=true):=List.pairwise_mergeSort (fun a b c h1 h2=>by simp at *;omega) (fun a b=>by simp;omega) l;have hm:∀ x,x∈(l.mergeSort fun x y=>decide (x<=y))↔x∈l:=fun x=>List.mem_mergeSort
 generalize l.mergeSort (fun x y=>decide (x<=y))=z at hp hm ⊢
 have hz:∀ j,j<z.length->z.toArray[j]! = z.getD j 0:=fun j hj=>by simp[List.getD,hj]
 obtain⟨h1,h2,h3⟩:=compact_inv z.toArray (fun i j hij hj=>by
  have hj':j<z.length:=by simpa using hj
  rw[hz i (by omega),hz j hj']
  by_cases he:i=j
  ·rw[he];exact Int.le_refl _
  ·have:=(zzL118.1 hp) i j (by omega) hj' (by omega);rw[Af _ _ _ (by omega),Af _ _ _ hj']
   simpa using this) z.length (by simp)
 refine⟨h3,fun x=>?_⟩;rw[<- hm x]
 constructor
 ·intro hx;obtain⟨j,hj,rfl⟩:=h1 x hx;rw[hz j hj];exact A5 hj
 ·intro hx;obtain⟨j,hj,rfl⟩:=Nh hx;have:=h2 j hj;rwa[hz j hj,Af _ _ _ hj]at this
def toB(n:Nat)(l:List Int):Bool:=(List.range l.length).all fun i=>decide (0<l.getD i 0)&&decide (l.getD i 0<(n:Int))
def wantK(k:Int):Int:=([0,1,2,0]:List Int).getD k.toNat 0
def kindB(e:H3):Bool:=(decide (0<=e.Kind)&&decide (e.Kind<=3))&&decide ((e.To.length:Int)=wantK e.Kind)
def Mc(e:H3)(n:Nat):Bool:=kindB e&&toB n e.To
theorem toB_iff{n:Nat}{l:List Int}:toB n l=true↔∀ x∈l,0<x/\x<n:=by
 unfold toB;rw[all_range];simp only[A6,F0]
 constructor
 ·intro h x hx;obtain⟨i,hi,rfl⟩:=Nh hx;have:=h i hi;rwa[Af _ _ _ hi]at this
 ·intro h i hi;exact h _ (A5 hi)
theorem end_loop(e:H3)(n:Nat)(hl:e.To.length<4611686018427387904):Am (Bw e (n:Int)) (0:Int)=some (bif toB n e.To then .inl () else .inr false):=by
 have step:∀ j:Nat,j<e.To.length->Bw e (n:Int) (j:Int)=bif (decide (0<e.To.getD j 0)&&decide (e.To.getD j 0<(n:Int))) then some (.next (((j+1:Nat):Int))) else some (.done (.inr false)):=fun j hj=>by
  unfold Bw;simp only[A1,F4 hj,Ah,Ou,w1 (show j<4611686018427387904 by omega)];rw[An (Kf hj)]
  by_cases h0:e.To.getD j 0=0
  ·rw[h0];rfl
  ·have:(e.To.getD j 0==0)=false:=by rw[zzL35];exact h0
   rw[this];simp only[O7,Ah,A0,Au]
   have e1:decide (0<e.To.getD j 0)=decide (0<=e.To.getD j 0):=by apply zzL107.2;omega
   rw[e1]
   cases(decide (0<=e.To.getD j 0)&&decide (e.To.getD j 0<(n:Int)))<;>rfl
 have:=Mo (Bw e (n:Int)) (fun j=>((j:Nat):Int)) (fun i=>decide (0<e.To.getD i 0)&&decide (e.To.getD i 0<(n:Int))) (.inl ()) (.inr false) e.To.length (fun j hj hp=>?_) (fun j hj hp=>?_) ?_
 ·exact this
 ·show Bw e (n:Int) (j:Int)=_
  rw[step j hj,hp];rfl
 ·show Bw e (n:Int) (j:Int)=_
  rw[step j hj,hp];rfl
 ·show Bw e (n:Int) _=_
  unfold Bw;simp only[K0,A0]
theorem Vl(e:H3)(n:Nat)(w:Int)(hw:0<=w/\w<=2) :
  (bif ((e.To.length:Int)!=w) then(some false) else((Am (Bw e (n:Int)) (0:Int)).bind (fun x10=>(match x10 with|(.inl _)=>(some true)|(.inr r12)=>(some r12)))))=some (decide ((e.To.length:Int)=w)&&toB n e.To):=by
 by_cases h:(e.To.length:Int)=w
 ·rw[show((e.To.length:Int)!=w)=false by simpa using h,A0,end_loop e n (by omega),E1 h]
  cases toB n e.To<;>rfl
 ·rw[show((e.To.length:Int)!=w)=true by simpa using h,Ah,E8 h];rfl
theorem m_endFits(e:H3)(n:Nat):H7 e (n:Int)=some (Mc e n):=by
 unfold H7 Mc kindB
 by_cases h0:e.Kind=0
 ·rw[h0];exact Vl e n 0 (by omega)
 by_cases h1:e.Kind=1
 ·rw[h1];exact Vl e n 1 (by omega)
 by_cases h2:e.Kind=2
 ·rw[h2];exact Vl e n 2 (by omega)
 by_cases h3:e.Kind=3
 ·rw[h3];exact Vl e n 0 (by omega)
 have e0:(e.Kind==0)=false:=by rw[zzL35];exact h0
 have e1:(e.Kind==1)=false:=by rw[zzL35];exact h1
 have e2:(e.Kind==2)=false:=by rw[zzL35];exact h2
 have e3:(e.Kind==3)=false:=by rw[zzL35];exact h3
 rw[e0,e1,e2,e3]
 have:(decide (0<=e.Kind)&&decide (e.Kind<=3))=false:=by
  by_cases h:0<=e.Kind
  ·rw[E8 (show ¬ e.Kind<=3 by omega)];simp
  ·rw[E8 h];rfl
 rw[this]
 rfl
theorem fits_len{e:H3}{n:Nat}(h:Mc e n=true):e.To.length<=2:=by
 unfold Mc kindB at h;simp only[A6,F0]at h;obtain⟨⟨⟨h0,h1⟩,h2⟩,_⟩:=h
 have:wantK e.Kind<=2:=by
  have:e.Kind=0\/e.Kind=1\/e.Kind=2\/e.Kind=3:=by omega
  rcases this with h|h|h|h<;>rw[h]<;>decide
 omega
theorem fits_to{e:H3}{n:Nat}(h:Mc e n=true):toB n e.To=true:=by unfold Mc at h;exact(A6 _ _▸h).2
def Ms(f:TFunc)(i:Nat):H3:=(f.Blocks.getD i (default:Ac)).End
def C1(f:TFunc):List (List Int):=(List.range f.Blocks.length).map fun i=>riseL (Ms f i).To
def Lj(f:TFunc):Bool:=(decide (1<=f.Blocks.length)&&decide (f.Blocks.length<=64))&&(List.range f.Blocks.length).all fun i=>Mc (Ms f i) f.Blocks.length
theorem shape_iff{f:TFunc}:Lj f=true↔(1<=f.Blocks.length/\f.Blocks.length<=64)/\∀ i,i<f.Blocks.length->Mc (Ms f i) f.Blocks.length=true:=by
 unfold Lj;rw[A6,A6,all_range];simp only[F0]
theorem rise_ok{f:TFunc}{i:Nat}(h:Mc (Ms f i) f.Blocks.length=true):okL f.Blocks.length (riseL (Ms f i).To)=true:=by
 obtain⟨h1,h2⟩:=rise_spec (Ms f i).To;exact okL_of (fun x hx=>by have:=(toB_iff.1 (fits_to h)) x ((h2 x).1 hx);omega) h1
theorem O1{f:TFunc}(h:Lj f=true):J7 (C1 f)=true:=by
 obtain⟨⟨h1,h2⟩,h3⟩:=shape_iff.1 h
 have hl:(C1 f).length=f.Blocks.length:=by simp[C1]
 refine mayS_iff.2 ⟨by omega,by omega,fun i hi=>?_⟩;rw[hl]at hi ⊢;unfold C1;rw[S1 hi];exact rise_ok (h3 i hi)
theorem m_of(f:TFunc)(hf:f.Blocks.length<=maxLen):K8 f=some (bif Lj f then(Ti (C1 f),0) else(g0,5)):=by
 have hroom:(1000:Nat)<=room:=by decide
 unfold K8;rw[m_isCount,Au];have hsh:Lj f=((decide (1<=f.Blocks.length)&&decide (f.Blocks.length<=64))&&(List.range f.Blocks.length).all fun i=>Mc (Ms f i) f.Blocks.length):=rfl
 cases hc:(decide (1<=f.Blocks.length)&&decide (f.Blocks.length<=64)) with
 | false=>rw[hsh,hc];rfl
 | true=>
  have hc':=hc;simp only[A6,F0]at hc';simp only[E9,A0];rw[An ⟨by omega,Int.le_refl _,by omega⟩,A1]
  let U:Nat->List (List Int):=fun i=>(List.range f.Blocks.length).map fun j=>if j<i then riseL (Ms f j).To else[]
  have e0:List.replicate f.Blocks.length ([]:List Int)=U 0:=by
   simp only[U]
   apply List.ext_getElem?
   intro j
   by_cases hj:j<f.Blocks.length<;>simp[hj,List.getElem?_replicate]
  have eN:U f.Blocks.length=C1 f:=by
   simp only[U,C1]
   apply Ov
   intro j hj;rw[if_pos hj]
  rw[e0]
  have hstep:∀ i:Nat,i<f.Blocks.length->Eh f ((i:Int),U i)=bif Mc (Ms f i) f.Blocks.length then some (.next (((i+1:Nat):Int),U (i+1))) else some (.done (.inr (g0,5))):=fun i hi=>by
   unfold Eh;simp only[F4 hi,Ah,A1];rw[An (Kf hi)];have he:(⟨(f.Blocks.getD i (default:Ac)).End.Kind,(f.Blocks.getD i (default:Ac)).End.Arg,(f.Blocks.getD i (default:Ac)).End.To⟩:H3)=Ms f i:=rfl;rw[he,m_endFits,Au]
   cases hfit:Mc (Ms f i) f.Blocks.length with
   | false=>rfl
   | true=>
    have hl2:=fits_len hfit;simp only[E9,A0,Ah]
    have hx:Wf (f.Blocks.getD i (default:Ac)).End.To=some (riseL (Ms f i).To):=by
     unfold Wf;rw[isoI_eq,An (by show(Ms f i).To.length<=_;omega)]
     rfl
    rw[hx,Au,An (Kf (by simp[U];omega)),w1 (by omega)]
    congr 3
    simp only[U];rw[set_mr]
    apply Ov
    intro j hj
    by_cases h1:j=i
    ·subst h1;rw[if_pos rfl,if_pos (by omega)]
    ·rw[if_neg h1]
     by_cases h2:j<i
     ·rw[if_pos h2,if_pos (by omega)]
     ·rw[if_neg h2,if_neg (by omega)]
  have:=Mo (Eh f) (fun i=>(((i:Nat):Int),U i)) (fun i=>Mc (Ms f i) f.Blocks.length) (.inl (U f.Blocks.length)) (.inr (g0,5)) f.Blocks.length (fun i hi hp=>?_) (fun i hi hp=>?_) ?_
  ·rw[show Am (Eh f) ((0:Int),U 0)=_ from this,hsh,hc,eN,Ga]
   cases hall:(List.range f.Blocks.length).all fun i=>Mc (Ms f i) f.Blocks.length with
   | false=>rfl
   | true=>
    simp only[Ah,Au];rw[m_comers _ (O1 (by rw[hsh,hc,hall];rfl))]
    rfl
  ·show Eh f (_,_)=_
   rw[hstep i hi,hp];rfl
  ·show Eh f (_,_)=_
   rw[hstep i hi,hp];rfl
  ·show Eh f (_,_)=_
   unfold Eh;simp only[K0,A0]
inductive Rc (S:Nat->List Nat) (r:Nat):Nat->Prop
 | root:Rc S r r
 | step {x y:Nat} (h:Rc S r x) (hy:y∈S x):Rc S r y
inductive Av (S:Nat->List Nat) (r z:Nat):Nat->Prop
 | root (h:r≠z):Av S r z r
 | step {x y:Nat} (h:Av S r z x) (hy:y∈S x) (hz:y≠z):Av S r z y
inductive AvN (S:Nat->List Nat) (r z:Nat):Nat->Nat->Prop
 | root (h:r≠z) (k:Nat):AvN S r z k r
 | step {k x y:Nat} (h:AvN S r z k x) (hy:y∈S x) (hz:y≠z):AvN S r z (k+1) y
section
variable {S:Nat->List Nat} {r:Nat}
theorem rc_iff{x:Nat}:Rc S r x↔Rch S r x:=by
 constructor
 ·intro h
  induction h with
  | root=>exact .refl _
  | step _ hy ih=>exact ih.tail hy
 ·intro h
  have key:∀ a b,Rch S a b->Rc S r a->Rc S r b:=by
   intro a b hab
   induction hab with
   | refl x=>exact id
   | head hy _ ih=>exact fun ha=>ih (.step ha hy)
  exact key _ _ h .root
def wo(S:Nat->List Nat)(z:Nat):Nat->List Nat:=fun x=>(S x).filter fun y=>decide (y≠z)
theorem av_iff{z x:Nat}:Av S r z x↔r≠z/\Rch (wo S z) r x:=by
 constructor
 ·intro h
  induction h with
  | root h=>exact⟨h,.refl _⟩
  | step _ hy hz ih=>exact⟨ih.1,ih.2.tail (zzL84.2 ⟨hy,by simpa using hz⟩)⟩
 ·rintro⟨hr,h⟩
  have key:∀ a b,Rch (wo S z) a b->Av S r z a->Av S r z b:=by
   intro a b hab
   induction hab with
   | refl x=>exact id
   | head hy _ ih=>
    obtain⟨h1,h2⟩:=zzL84.1 hy;exact fun ha=>ih (.step ha h1 (by simpa using h2))
  exact key _ _ h (.root hr)
theorem Av.rc{z x:Nat}(h:Av S r z x):Rc S r x:=by
 induction h with
 | root _=>exact .root
 | step _ hy _ ih=>exact .step ih hy
theorem Av.ne{z x:Nat}(h:Av S r z x):x≠z:=by
 cases h with
 | root h=>exact h
 | step _ _ hz=>exact hz
theorem AvN.av{z k x:Nat}(h:AvN S r z k x):Av S r z x:=by
 induction h with
 | root h=>exact .root h
 | step _ hy hz ih=>exact .step ih hy hz
theorem AvN.up{z k x:Nat}(h:AvN S r z k x):AvN S r z (k+1) x:=by
 induction h with
 | root h k=>exact .root h _
 | step _ hy hz ih=>exact .step ih hy hz
theorem AvN.mono{z k m x:Nat}(h:AvN S r z k x)(hm:k<=m):AvN S r z m x:=by
 obtain⟨d,rfl⟩:=Nat.exists_eq_add_of_le hm;clear hm
 induction d with
 | zero=>exact h
 | succ d ih=>exact ih.up
theorem Av.avn{z x:Nat}(h:Av S r z x):∃ k,AvN S r z k x:=by
 induction h with
 | root h=>exact⟨0,.root h 0⟩
 | step _ hy hz ih=>obtain⟨k,hk⟩:=ih;exact⟨k+1,.step hk hy hz⟩
theorem AvN.via {z k x : Nat} (h : AvN S r z k x) (y : Nat) : AvN S r y k x ∨ AvN S r z k y := by
  induction h with
  | root h k => by_cases hy : r = y
                · subst hy; exact .inr (.root h _)
                · exact .inl (.root hy _)
  | @step k x w h hy hz ih =>
    rcases ih with h1 | h1
    · by_cases hw : w = y
      · subst hw; exact .inr (.step h hy hz)
      · exact .inl (.step h1 hy hw)
    · exact .inr h1.up
theorem avn_bound(n:Nat):∃ K,∀ z,z<n->∀ x,x<n->Av S r z x->AvN S r z K x:=by
 have one:∀ z m,∃ K,∀ x,x<m->Av S r z x->AvN S r z K x:=by
  intro z m
  induction m with
  | zero=>exact⟨0,fun x hx=>absurd hx (N3 x)⟩
  | succ m ih=>
   obtain⟨K,hK⟩:=ih
   by_cases h:Av S r z m
   ·obtain⟨k,hk⟩:=h.avn;refine⟨max K k,fun x hx ha=>?_⟩;rcases zzL124.1 hx with h1|rfl
    ·exact(hK x h1 ha).mono (Nat.le_max_left ..)
    ·exact hk.mono (Nat.le_max_right ..)
   ·refine⟨K,fun x hx ha=>?_⟩;rcases zzL124.1 hx with h1|rfl
    ·exact hK x h1 ha
    ·exact absurd ha h
 have two:∀ m,∃ K,∀ z,z<m->∀ x,x<n->Av S r z x->AvN S r z K x:=by
  intro m
  induction m with
  | zero=>exact⟨0,fun x hx=>absurd hx (N3 x)⟩
  | succ m ih=>
   obtain⟨K,hK⟩:=ih;obtain⟨k,hk⟩:=one m n;refine⟨max K k,fun z hz x hx ha=>?_⟩;rcases zzL124.1 hz with h1|rfl
   ·exact(hK z h1 x hx ha).mono (Nat.le_max_left ..)
   ·exact(hk x hx ha).mono (Nat.le_max_right ..)
 exact two n
end
inductive UpTo (par:Nat->Int):Nat->Nat->Prop
 | refl (x:Nat):UpTo par x x
 | up {x y z:Nat} (h:par x=(y:Int)) (t:UpTo par y z):UpTo par x z
inductive Fw (S:Nat->List Nat) (at_:Nat->Nat) (u:Nat):Nat->Prop
 | refl:Fw S at_ u u
 | step {v w:Nat} (h:Fw S at_ u v) (hw:w∈S v) (hl:at_ v<at_ w):Fw S at_ u w
section
variable {S:Nat->List Nat} {at_:Nat->Nat} {par:Nat->Int}
theorem Fw.le{u w:Nat}(h:Fw S at_ u w):at_ u<=at_ w:=by
 induction h with
 | refl=>exact zzL8 _
 | step _ _ hl ih=>omega
theorem Fw.trans{u v w:Nat}(h:Fw S at_ u v)(k:Fw S at_ v w):Fw S at_ u w:=by
 induction k with
 | refl=>exact h
 | step _ hw hl ih=>exact .step ih hw hl
theorem Fw.av{r d u w:Nat}(h:Fw S at_ u w)(ha:Av S r d u)(hd:at_ d<at_ u):Av S r d w:=by
 induction h with
 | refl=>exact ha
 | @step v w h hw hl ih=>exact .step ih hw (by rintro rfl;have:=h.le;omega)
theorem UpTo.trans{x y z:Nat}(h:UpTo par x y)(k:UpTo par y z):UpTo par x z:=by
 induction h with
 | refl x=>exact k
 | up h _ ih=>exact .up h (ih k)
theorem anc_up{x p z:Nat}(h:par x=(p:Int)):UpTo par x z↔z=x\/UpTo par p z:=by
 constructor
 ·intro k
  cases k with
  | refl=>exact .inl rfl
  | up h' t=>rw[h]at h';cases Ud h';exact .inr t
 ·rintro(rfl|k)
  ·exact .refl _
  ·exact .up h k
theorem Zd{x z:Nat}(h:∀ p:Nat,par x≠(p:Int)):UpTo par x z↔z=x:=by
 constructor
 ·intro k
  cases k with
  | refl=>rfl
  | up h' t=>exact absurd h' (h _)
 ·rintro rfl;exact .refl _
structure Inv(S:Nat->List Nat)(r n:Nat)(at_:Nat->Nat)(par:Nat->Int):Prop where
 top:par r = -1
 kind:∀ x,x<n->par x = -2\/x=r\/∃ z:Nat,par x=(z:Int)
 up:∀ x,x<n->∀ z:Nat,par x=(z:Int)->z<n/\par z≠-2/\at_ z<at_ x/\Fw S at_ z x
 rc:∀ x,x<n->par x≠-2->Rc S r x
 all:∀ x,x<n->par x≠-2->∀ d,¬ UpTo par x d->Av S r d x
end
section
variable {S:Nat->List Nat} {at_:Nat->Nat} {par:Nat->Int} {r n:Nat}
theorem Inv.anc(h:Inv S r n at_ par){x z:Nat}(k:UpTo par x z)(hx:x<n)(hp:par x≠-2):z<n/\par z≠-2/\at_ z<=at_ x/\Fw S at_ z x:=by
 induction k with
 | refl x=>exact⟨hx,hp,zzL8 _,.refl⟩
 | @up x y z hxy t ih=>
  obtain⟨h1,h2,h3,h4⟩:=h.up x hx y hxy;obtain⟨i1,i2,i3,i4⟩:=ih h1 h2;exact⟨i1,i2,by omega,i4.trans h4⟩
theorem Inv.root_anc(h:Inv S r n at_ par){z:Nat}:UpTo par r z↔z=r:=Zd fun p hp=>by rw[h.top]at hp;omega
theorem Inv.strict(h:Inv S r n at_ par){x z:Nat}(k:UpTo par x z)(hx:x<n)(hp:par x≠-2):z=x\/at_ z<at_ x:=by
 cases k with
 | refl=>exact .inl rfl
 | up hxy t=>
  obtain⟨h1,h2,h3,h4⟩:=h.up x hx _ hxy;obtain⟨i1,i2,i3,i4⟩:=h.anc t h1 h2;exact .inr (by omega)
theorem Inv.antisymm(h:Inv S r n at_ par){x z:Nat}(k:UpTo par x z)(m:UpTo par z x)(hx:x<n)(hp:par x≠-2):z=x:=by
 rcases h.strict k hx hp with rfl|h1
 ·rfl
 ·obtain⟨i1,i2,i3,i4⟩:=h.anc k hx hp;have:=(h.anc m i1 i2).2.2.1;omega
def MeetAt(par:Nat->Int)(a b m:Nat):Prop:=∀ w,UpTo par m w↔UpTo par a w/\UpTo par b w
theorem meet_self{a:Nat}:MeetAt par a a a:=fun w=>by simp
theorem meet_swap{a b m:Nat}(h:MeetAt par a b m):MeetAt par b a m:=fun w=>by rw[h w];exact And.comm
theorem Inv.meet_left(h:Inv S r n at_ par)(hinj:∀ x y,x<n->y<n->par x≠-2->par y≠-2->at_ x=at_ y->x=y){a b p m:Nat}(ha:a<n)(hpa:par a≠-2)(hb:b<n)(hpb:par b≠-2)(hab:a≠b)(hl:at_ b<=at_ a)(hp:par a=(p:Int))(k:MeetAt par p b m):MeetAt par a b m:=fun w=>by
 rw[k w]
 constructor
 ·rintro⟨h1,h2⟩;exact⟨.up hp h1,h2⟩
 ·rintro⟨h1,h2⟩;rcases(anc_up hp).1 h1 with rfl|h1
  ·exfalso
   rcases h.strict h2 hb hpb with h3|h3
   ·exact hab h3
   ·omega
  ·exact⟨h1,h2⟩
end
section
variable {S:Nat->List Nat} {at_:Nat->Nat} {par:Nat->Int} {r n:Nat}
def Kw(par:Nat->Int)(y:Nat)(v:Int):Nat->Int:=fun x=>if x=y then v else par x
def Best(S:Nat->List Nat)(n:Nat)(par:Nat->Int)(y z:Nat):Prop:=∀ w,UpTo par z w↔∀ p,p<n->y∈S p->par p≠-2->UpTo par p w
theorem Xz{y:Nat}{v:Int}{x z:Nat}(k:UpTo par x z)(hy:¬ UpTo par x y):UpTo (Kw par y v) x z:=by
 induction k with
 | refl x=>exact .refl _
 | @up x q z h t ih=>
  have hxy:x≠y:=by rintro rfl;exact hy (.refl _)
  refine .up (y:=q) ?_ (ih fun k=>hy (.up h k));unfold Kw;rw[if_neg hxy];exact h
theorem anc_upd_low{y:Nat}{v:Int}{x:Nat}(k:UpTo par x y):UpTo (Kw par y v) x y:=by
 induction k with
 | refl x=>exact .refl _
 | @up x q z h t ih=>
  by_cases hxy:x=z
  ·subst hxy;exact .refl _
  ·refine .up (y:=q) ?_ ih;unfold Kw;rw[if_neg hxy];exact h
theorem anc_upd_inv{y:Nat}{v:Int}{x w:Nat}(k:UpTo (Kw par y v) x w):UpTo par x w\/(UpTo par x y/\UpTo (Kw par y v) y w):=by
 induction k with
 | refl x=>exact .inl (.refl _)
 | @up x q w h t ih=>
  by_cases hxy:x=y
  ·subst hxy;exact .inr ⟨.refl _,.up h t⟩
  ·unfold Kw at h;rw[if_neg hxy]at h;rcases ih with h1|⟨h1,h2⟩
   ·exact .inl (.up h h1)
   ·exact .inr ⟨.up h h1,h2⟩
theorem low_or{y:Nat}{v:Int}{x d:Nat}(k:UpTo par x y)(hd:UpTo par x d):UpTo par y d\/UpTo (Kw par y v) x d:=by
 induction k with
 | refl x=>exact .inl hd
 | @up x q y hq t ih=>
  by_cases e:x=y
  ·subst e;exact .inl hd
  ·rcases(anc_up hq).1 hd with rfl|k
   ·exact .inr (.refl _)
   ·rcases ih k with h1|h1
    ·exact .inl h1
    ·exact .inr (.up (y:=q) (by unfold Kw;rw[if_neg e];exact hq) h1)
structure Better(S:Nat->List Nat)(r n:Nat)(at_:Nat->Nat)(par:Nat->Int)(y z:Nat):Prop where
 inv:Inv S r n at_ par
 hy:y<n
 hr:y≠r
 hz:z<n
 best:Best S n par y z
 fwd:∃ p,p<n/\y∈S p/\par p≠-2/\at_ p<at_ y
variable {y z:Nat}
theorem Better.zlt(h:Better S r n at_ par y z):UpTo par z z/\par z≠-2/\at_ z<at_ y/\Fw S at_ z y:=by
 obtain⟨p,hp,hyp,hpp,hl⟩:=h.fwd;obtain⟨h1,h2,h3,h4⟩:=h.inv.anc ((h.best z).1 (.refl _) p hp hyp hpp) hp hpp;exact⟨.refl _,h2,by omega,.step h4 hyp hl⟩
theorem Better.above(h:Better S r n at_ par y z){w:Nat}:UpTo (Kw par y z) z w↔UpTo par z w:=by
 obtain⟨_,h2,h3,_⟩:=h.zlt
 have hn:¬ UpTo par z y:=fun k=>by have:=(h.inv.anc k h.hz h2).2.2.1;omega
 constructor
 ·intro k;rcases anc_upd_inv k with h1|⟨h1,_⟩
  ·exact h1
  ·exact absurd h1 hn
 ·intro k;exact Xz k hn
theorem Better.here(h:Better S r n at_ par y z){w:Nat}:UpTo (Kw par y z) y w↔w=y\/UpTo par z w:=by
 rw[anc_up (p:=z) (by simp[Kw]),h.above]
theorem Better.av_here(h:Better S r n at_ par y z){d:Nat}(hd:¬ UpTo (Kw par y z) y d):Av S r d y:=by
 rw[h.here]at hd;have h1:¬ ∀ p,p<n->y∈S p->par p≠-2->UpTo par p d:=fun hh=>hd (.inr ((h.best d).2 hh));simp only[Classical.not_forall]at h1;obtain⟨p,hp,hyp,hpp,hnp⟩:=h1;exact .step (h.inv.all p hp hpp d hnp) hyp fun e=>hd (.inl e.symm)
theorem Better.inv'(h:Better S r n at_ par y z):Inv S r n at_ (Kw par y z):=by
 obtain⟨hzz,hz2,hzl,hzf⟩:=h.zlt;obtain⟨p,hp,hyp,hpp,hl⟩:=h.fwd
 have hne:∀ x,Kw par y z x≠-2->x=y\/par x≠-2:=fun x hx=>by
  by_cases e:x=y
  ·exact .inl e
  ·unfold Kw at hx;rw[if_neg e]at hx;exact .inr hx
 have hyv:Kw par y z y=(z:Int):=by simp[Kw]
 have hyo:∀ x,x≠y->Kw par y z x=par x:=fun x e=>by unfold Kw;rw[if_neg e]
 refine⟨by rw[hyo _ (G8 h.hr)];exact h.inv.top,fun x hx=>?_,fun x hx w hw=>?_,fun x hx hxp=>?_,fun x hx hxp d hd=>?_⟩
 ·by_cases e:x=y
  ·subst e;exact .inr (.inr ⟨z,hyv⟩)
  ·rw[hyo x e];exact h.inv.kind x hx
 ·have hzn:∀ w,par w≠-2->Kw par y z w≠-2:=fun w hw=>by
   by_cases e:w=y
   ·subst e;rw[hyv];omega
   ·rw[hyo w e];exact hw
  by_cases e:x=y
  ·subst e;rw[hyv]at hw
   cases Ud hw
   exact⟨h.hz,hzn _ hz2,hzl,hzf⟩
  ·rw[hyo x e]at hw;obtain⟨h1,h2,h3,h4⟩:=h.inv.up x hx w hw;exact⟨h1,hzn _ h2,h3,h4⟩
 ·rcases hne x hxp with rfl|h1
  ·exact .step (h.inv.rc p hp hpp) hyp
  ·exact h.inv.rc x hx h1
 ·by_cases e:x=y
  ·subst e;exact h.av_here hd
  ·rw[hyo x e]at hxp
   by_cases hxd:UpTo par x d
   ·
    by_cases hxy:UpTo par x y
    ·have hyd:¬ UpTo (Kw par y z) y d:=fun k=>hd ((anc_upd_low hxy).trans k);have hav:=h.av_here hyd;have hf:=(h.inv.anc hxy hx hxp).2.2.2
     have hdy:UpTo par y d:=by
      rcases low_or (v:=(z:Int)) hxy hxd with h1|h1
      ·exact h1
      ·exact absurd h1 hd
     by_cases hpy:par y = -2
     ·
      have:d=y:=by
       refine(Zd (par:=par) fun p hp=>?_).1 hdy;rw[hpy]at hp;omega
      subst this;exact absurd (.refl _) hyd
     ·rcases h.inv.strict hdy h.hy hpy with rfl|hlt
      ·exact absurd (.refl _) hyd
      ·exact hf.av hav hlt
    ·exact absurd (Xz hxd hxy) hd
   ·exact h.inv.all x hx hxp d hxd
end
section
variable {S:Nat->List Nat} {at_:Nat->Nat} {par:Nat->Int} {r n:Nat}
def QB(S:Nat->List Nat)(r n:Nat)(par:Nat->Int)(b:Nat->Nat):Prop:=∀ x,x<n->par x≠-2->∀ z,AvN S r z (b x) x->¬ UpTo par x z
def Full(S:Nat->List Nat)(r n:Nat)(par:Nat->Int):Prop:=∀ x,x<n->Rc S r x->par x≠-2
def Exact(S:Nat->List Nat)(r n:Nat)(par:Nat->Int):Prop:=∀ x,x<n->par x≠-2->∀ d,UpTo par x d↔¬ Av S r d x
theorem qb_zero(h:Inv S r n at_ par):QB S r n par fun _=>0:=fun x hx hp z hz k=>by
 cases hz with
 | root hr _=>exact hr (h.root_anc.1 k).symm
theorem rc_lt(hS:∀ x,x<n->∀ w∈S x,w<n)(hr:r<n){x:Nat}(h:Rc S r x):x<n:=by
 induction h with
 | root=>exact hr
 | step _ hy ih=>exact hS _ ih _ hy
theorem Better.qb{y z k:Nat}{b:Nat->Nat}(h:Better S r n at_ par y z)(hS:∀ x,x<n->∀ w∈S x,w<n)(hrn:r<n)(full:Full S r n par)(hb:∀ x,x<n->k<=b x/\b x<=k+1)(q:QB S r n par b) :
  QB S r n (Kw par y z) fun x=>if x=y then k+1 else b x:=by
 have here:∀ w,AvN S r w (k+1) y->¬ UpTo (Kw par y z) y w:=fun w hw hu=>by
  rcases h.here.1 hu with rfl|hu
  ·exact hw.av.ne rfl
  ·cases hw with
   | root hr _=>exact h.hr rfl
   | @step _ p _ hp hyp hne=>
    have hpn:=rc_lt hS hrn hp.av.rc;have hpp:=full p hpn hp.av.rc;exact q p hpn hpp w (hp.mono (hb p hpn).1) ((h.best w).1 hu p hpn hyp hpp)
 intro x hx hxp w hw hu
 dsimp only at hw
 by_cases e:x=y
 ·subst e;rw[if_pos rfl]at hw;exact here w hw hu
 ·rw[if_neg e]at hw;unfold Kw at hxp;rw[if_neg e]at hxp;rcases anc_upd_inv hu with h1|⟨h1,h2⟩
  ·exact q x hx hxp w hw h1
  ·rcases hw.via y with h3|h3
   ·exact q x hx hxp y h3 h1
   ·exact here w (h3.mono (hb x hx).2) h2
theorem exact_of(h:Inv S r n at_ par){K:Nat}(hK:∀ z,z<n->∀ x,x<n->Av S r z x->AvN S r z K x)(q:QB S r n par fun _=>K):Exact S r n par:=fun x hx hp d=>by
 constructor
 ·intro hu ha;exact q x hx hp d (hK d (h.anc hu hx hp).1 x hx ha) hu
 ·intro ha;exact zzL102 fun hn=>ha (h.all x hx hp d hn)
theorem Better.same{y z:Nat}(h:Better S r n at_ par y z)(hS:∀ x,x<n->∀ w∈S x,w<n)(hrn:r<n)(full:Full S r n par)(hy2:par y≠-2)(ex:Exact S r n par):par y=(z:Int):=by
 obtain⟨hzz,hz2,hzl,hzf⟩:=h.zlt;rcases h.inv.kind y h.hy with h1|h1|⟨q,hq⟩
 ·exact absurd h1 hy2
 ·exact absurd h1 h.hr
 ·obtain⟨q1,q2,q3,q4⟩:=h.inv.up y h.hy q hq
  have key:∀ w,UpTo par z w↔UpTo par q w:=fun w=>by
   rw[h.best w]
   constructor
   ·intro hall
    have hwy:¬ Av S r w y:=fun ha=>by
     cases ha with
     | root _=>exact h.hr rfl
     | @step p _ hp hyp hne=>
      have hpn:=rc_lt hS hrn hp.rc;have hpp:=full p hpn hp.rc;exact(ex p hpn hpp w).1 (hall p hpn hyp hpp) hp
    rcases(anc_up hq).1 ((ex y h.hy hy2 w).2 hwy) with rfl|hu
    ·have:=(h.inv.anc ((h.best _).2 hall) h.hz hz2).2.2.1;omega
    ·exact hu
   ·intro hu p hp hyp hpp;have hwy:UpTo par y w:=.up hq hu;refine(ex p hp hpp w).2 fun ha=>?_
    have hne:y≠w:=by rintro rfl;have:=(h.inv.anc hu q1 q2).2.2.1;omega
    exact(ex y h.hy hy2 w).1 hwy (.step ha hyp hne)
  have:=h.inv.antisymm ((key q).2 (.refl _)) ((key z).1 (.refl _)) h.hz hz2;rw[hq,this]
theorem exact_fix(h:Inv S r n at_ par)(hS:∀ x,x<n->∀ w∈S x,w<n)(hrn:r<n)(full:Full S r n par)(fix:∀ y,y<n->y≠r->Rc S r y->∃ z:Nat,par y=(z:Int)/\Best S n par y z):Exact S r n par:=fun x hx hp d=>by
 constructor
 ·intro hu ha
  induction ha with
  | root hne=>exact hne (h.root_anc.1 hu).symm
  | @step p y hp' hyp hne ih=>
   have hpn:=rc_lt hS hrn hp'.rc;have hpp:=full p hpn hp'.rc
   by_cases e:y=r
   ·subst e;exact hne (h.root_anc.1 hu).symm
   ·obtain⟨z,hz,hb⟩:=fix y hx e (.step hp'.rc hyp);rcases(anc_up hz).1 hu with rfl|hu
    ·exact hne rfl
    ·exact ih hpn hpp ((hb d).1 hu p hpn hyp hpp)
 ·intro ha;exact zzL102 fun hn=>ha (h.all x hx hp d hn)
end
def Ba(t:List Int):Nat->Int:=fun x=>t.getD x 0
theorem parL_set{t:List Int}{y:Nat}{v:Int}(hy:y<t.length):Ba (t.set y v)=Kw (Ba t) y v:=by
 funext x
 unfold Ba Kw
 by_cases e:x=y
 ·subst e;simp[List.getD,hy]
 ·simp[List.getD,e,G8 e]
open Classical in
def J0(S:Nat->List Nat)(n:Nat)(t:List Int)(y:Nat):Nat:=if h:∃ z,z<n/\Best S n (Ba t) y z then Classical.choose h else 0
def Q0(S:Nat->List Nat)(n:Nat)(P:List Nat)(t:List Int):Nat->List Int
 | 0=>t
 | i+1=>(Q0 S n P t i).set (P.getD i 0) (J0 S n (Q0 S n P t i) (P.getD i 0):Int)
def Zp(S:Nat->List Nat)(n:Nat)(P:List Nat)(t:List Int):Nat->List Int
 | 0=>t
 | j+1=>Q0 S n P (Zp S n P t j) P.length
def E7(n r:Nat):List Int:=(List.replicate n (-2:Int)).set r (-1)
structure Ordered(S:Nat->List Nat)(r n:Nat)(P:List Nat):Prop where
 hr:r<n
 hS:∀ x,x<n->∀ w∈S x,w<n
 nodup:(r::P).Nodup
 mem:∀ x,x∈r::P↔Rc S r x
 fwd:∀ i,i<P.length->∃ p,p∈r::P.take i/\P.getD i 0∈S p
section
variable {S:Nat->List Nat} {r n:Nat} {P:List Nat}
theorem Ordered.lt(o:Ordered S r n P){x:Nat}(h:x∈r::P):x<n:=rc_lt o.hS o.hr ((o.mem x).1 h)
theorem Mn{i:Nat}(hi:i<P.length):P.getD i 0∈P:=by rw[Af _ _ _ hi];exact Sp hi
theorem Ordered.at_lt(o:Ordered S r n P){i:Nat}(hi:i<P.length){p:Nat}(hp:p∈r::P.take i):pos (r::P) p<pos (r::P) (P.getD i 0):=by
 have hd:=o.nodup
 have h1:pos (r::P) (P.getD i 0)=i+1:=by
  have:=(Zo hd (i:=i+1) (by simpa using hi)).2;rw[Af _ _ _ hi]
  simpa using this
 rw[h1];obtain⟨j,hj,rfl⟩:=Nh hp
 have hj':j<i+1:=by simp at hj;omega
 have hjl:j<(r::P).length:=by simp;omega
 have e:(r::P.take i)[j]=(r::P)[j]:=by
  cases j with
  | zero=>rfl
  | succ j=>simp
 rw[e,(Zo hd hjl).2];exact hj'
theorem inv0(o:Ordered S r n P):Inv S r n (pos (r::P)) (Ba (E7 n r))/\(E7 n r).length=n/\Ba (E7 n r) r≠-2:=by
 have hlen:(E7 n r).length=n:=by simp[E7]
 have hr:=o.hr
 have at_:∀ x,x<n->Ba (E7 n r) x=if x=r then -1 else -2:=fun x hx=>by
  unfold Ba E7
  by_cases e:x=r
  ·subst e;simp[List.getD,hx]
  ·simp[List.getD,hx,e,G8 e]
 have hno:∀ x,x<n->∀ p:Nat,Ba (E7 n r) x≠(p:Int):=fun x hx p hp=>by rw[at_ x hx]at hp;split at hp<;>omega
 refine⟨⟨by rw[at_ r hr,if_pos rfl],fun x hx=>?_,fun x hx z hz=>absurd hz (hno x hx z),fun x hx hp=>?_,fun x hx hp d hd=>?_⟩,hlen,by rw[at_ r hr,if_pos rfl];omega⟩
 ·by_cases e:x=r
  ·exact .inr (.inl e)
  ·exact .inl (by rw[at_ x hx,if_neg e])
 ·by_cases e:x=r
  ·subst e;exact .root
  ·exact absurd (by rw[at_ x hx,if_neg e]) hp
 ·by_cases e:x=r
  ·subst e;exact .root (fun e=>hd (by rw[e];exact .refl _))
  ·exact absurd (by rw[at_ x hx,if_neg e]) hp
structure Ready(S:Nat->List Nat)(r n:Nat)(P:List Nat)(t:List Int)(i:Nat):Prop where
 inv:Inv S r n (pos (r::P)) (Ba t)
 len:t.length=n
 done:∀ x∈r::P.take i,Ba t x≠-2
theorem Inv.meets{at_:Nat->Nat}{par:Nat->Int}(h:Inv S r n at_ par)(hinj:∀ x y,x<n->y<n->par x≠-2->par y≠-2->at_ x=at_ y->x=y)(hr:at_ r=0):∀ m a b,at_ a+at_ b<=m->a<n->b<n->par a≠-2->par b≠-2->∃ c,MeetAt par a b c/\c<n/\par c≠-2:=by
 intro m
 induction m with
 | zero=>
  intro a b hm ha hb hpa hpb;have:a=b:=hinj a b ha hb hpa hpb (by omega);subst this;exact⟨a,meet_self,ha,hpa⟩
 | succ m ih=>
  have go:∀ a b,at_ a+at_ b<=m+1->a<n->b<n->par a≠-2->par b≠-2->at_ b<=at_ a->∃ c,MeetAt par a b c/\c<n/\par c≠-2:=fun a b hm ha hb hpa hpb hl=>by
   by_cases e:a=b
   ·subst e;exact⟨a,meet_self,ha,hpa⟩
   ·rcases h.kind a ha with h1|h1|⟨p,hp⟩
    ·exact absurd h1 hpa
    ·subst h1;exact absurd (hinj a b ha hb hpa hpb (by omega)) e
    ·obtain⟨p1,p2,p3,p4⟩:=h.up a ha p hp;obtain⟨c,hc,hc2⟩:=ih p b (by omega) p1 hb p2 hpb;exact⟨c,h.meet_left hinj ha hpa hb hpb e hl hp hc,hc2⟩
  intro a b hm ha hb hpa hpb;rcases Nat.le_total (at_ b) (at_ a) with hl|hl
  ·exact go a b hm ha hb hpa hpb hl
  ·obtain⟨c,hc,hc2⟩:=go b a (by omega) hb ha hpb hpa hl;exact⟨c,meet_swap hc,hc2⟩
theorem Ready.inj(o:Ordered S r n P){t:List Int}{i:Nat}(h:Ready S r n P t i):∀ x y,x<n->y<n->Ba t x≠-2->Ba t y≠-2->pos (r::P) x=pos (r::P) y->x=y:=fun x y hx hy hpx hpy he=>by
 have hm:∀ x,x<n->Ba t x≠-2->x∈r::P:=fun x hx hp=>(o.mem x).2 (h.inv.rc x hx hp)
 have back:∀ x∈r::P,(r::P).getD (pos (r::P) x) 0=x:=fun x hx=>by
  obtain⟨j,hj,rfl⟩:=Nh hx;rw[(Zo o.nodup hj).2,Af _ _ _ hj]
 rw[<- back x (hm x hx hpx),<- back y (hm y hy hpy),he]
theorem pos_root:pos (r::P) r=0:=by rw[pos_cons,if_pos rfl]
theorem Ready.meetAll(o:Ordered S r n P){t:List Int}{i:Nat}(h:Ready S r n P t i):∀ l:List Nat,(∀ p∈l,p<n/\Ba t p≠-2)->l≠[]->∃ z,z<n/\Ba t z≠-2/\∀ w,UpTo (Ba t) z w↔∀ p∈l,UpTo (Ba t) p w:=by
 intro l
 induction l with
 | nil=>intro _ hn;exact absurd rfl hn
 | cons p l ih=>
  intro hl _;obtain⟨hp1,hp2⟩:=hl p (Kx ..)
  by_cases hl0:l=[]
  ·subst hl0;exact⟨p,hp1,hp2,fun w=>by simp⟩
  ·obtain⟨z,hz1,hz2,hz3⟩:=ih (fun q hq=>hl q (Fv _ hq)) hl0;obtain⟨c,hc1,hc2,hc3⟩:=h.inv.meets (h.inj o) pos_root _ p z (zzL8 _) hp1 hz1 hp2 hz2;exact⟨c,hc2,hc3,fun w=>by rw[hc1 w,hz3 w];simp⟩
theorem Ready.best(o:Ordered S r n P){t:List Int}{i:Nat}(h:Ready S r n P t i)(hi:i<P.length):Better S r n (pos (r::P)) (Ba t) (P.getD i 0) (J0 S n t (P.getD i 0)):=by
 have hy:=Mn hi;have hyr:P.getD i 0≠r:=fun e=>(zzL93.1 o.nodup).1 (e▸hy);have hyn:=o.lt (Fv _ hy);obtain⟨p,hp,hyp⟩:=o.fwd i hi;have hp2:=h.done p hp
 have hpP:p∈r::P:=by
  rcases zzL28.1 hp with rfl|hp
  ·exact Kx ..
  ·exact Fv _ (List.mem_of_mem_take hp)
 have hpn:=o.lt hpP
 have hex:∃ z,z<n/\Best S n (Ba t) (P.getD i 0) z:=by
  classical
  obtain⟨z,hz1,hz2,hz3⟩:=h.meetAll o ((List.range n).filter fun p=>decide (P.getD i 0∈S p/\Ba t p≠-2)) (fun p hp=>by
   obtain⟨h1,h2⟩:=zzL84.1 hp
   exact⟨zzL45.1 h1,(Wh h2).2⟩) (fun e=>by
   have:p∈(List.range n).filter fun p=>decide (P.getD i 0∈S p/\Ba t p≠-2):=zzL84.2 ⟨zzL45.2 hpn,E1 ⟨hyp,hp2⟩⟩
   rw[e]at this;cases this)
  refine⟨z,hz1,fun w=>?_⟩;rw[hz3 w]
  constructor
  ·intro k p hp hyp hpp;exact k p (zzL84.2 ⟨zzL45.2 hp,E1 ⟨hyp,hpp⟩⟩)
  ·intro k p hp;obtain⟨h1,h2⟩:=zzL84.1 hp;exact k p (zzL45.1 h1) (Wh h2).1 (Wh h2).2
 have hb:J0 S n t (P.getD i 0)<n/\Best S n (Ba t) (P.getD i 0) (J0 S n t (P.getD i 0)):=by
  unfold J0;rw[dif_pos hex];exact Classical.choose_spec hex
 exact⟨h.inv,hyn,hyr,hb.1,hb.2,p,hpn,hyp,hp2,o.at_lt hi hp⟩
theorem Ready.best_eq(o:Ordered S r n P){t:List Int}{i:Nat}(h:Ready S r n P t i)(hi:i<P.length){z:Nat}(hz:z<n)(hz2:Ba t z≠-2)(hb:Best S n (Ba t) (P.getD i 0) z):z=J0 S n t (P.getD i 0):=by
 have b:=h.best o hi;exact(h.inv.antisymm ((hb _).2 ((b.best _).1 (.refl _))) ((b.best _).2 ((hb _).1 (.refl _))) hz hz2).symm
theorem Ready.next(o:Ordered S r n P){t:List Int}{i:Nat}(h:Ready S r n P t i)(hi:i<P.length):Ready S r n P (t.set (P.getD i 0) (J0 S n t (P.getD i 0):Int)) (i+1):=by
 have b:=h.best o hi;have e:=parL_set (t:=t) (y:=P.getD i 0) (v:=(J0 S n t (P.getD i 0):Int)) (by rw[h.len];exact b.hy);refine⟨by rw[e];exact b.inv',by rw[Ic];exact h.len,fun x hx=>?_⟩;rw[e];unfold Kw
 split
 ·omega
 ·rename_i hne
  refine h.done x ?_;rcases zzL28.1 hx with rfl|hx
  ·exact Kx ..
  ·rw[zzL122 hi]at hx;rcases zzL13.1 hx with hx|hx
   ·exact Fv _ hx
   ·rw[zzL16,<- Af _ _ 0 hi]at hx;exact absurd hx hne
theorem Ready.more(o:Ordered S r n P){t:List Int}(h:Ready S r n P t P.length)(i:Nat):Ready S r n P t i:=
 ⟨h.inv,h.len,fun x hx=>h.done x (by
  rw[U4];rcases zzL28.1 hx with rfl|hx
  ·exact Kx ..
  ·exact Fv _ (List.mem_of_mem_take hx))⟩
theorem Ready.full(o:Ordered S r n P){t:List Int}(h:Ready S r n P t P.length):Full S r n (Ba t):=fun x hx hr=>h.done x (by rw[U4];exact(o.mem x).2 hr)
theorem Ready.round(o:Ordered S r n P){t:List Int}(h:Ready S r n P t 0):∀ i,i<=P.length->Ready S r n P (Q0 S n P t i) i:=by
 intro i
 induction i with
 | zero=>intro _;exact h
 | succ i ih=>intro hi;exact(ih (by omega)).next o (by omega)
theorem ready0(o:Ordered S r n P):Ready S r n P (E7 n r) 0:=by
 obtain⟨h1,h2,h3⟩:=inv0 o;exact⟨h1,h2,fun x hx=>by simp at hx;subst hx;exact h3⟩
theorem Ready.rounds(o:Ordered S r n P):∀ j,Ready S r n P (Zp S n P (E7 n r) j) 0:=by
 intro j
 induction j with
 | zero=>exact ready0 o
 | succ j ih=>exact((ih.round o) P.length (zzL8 _)).more o 0
theorem Ready.rounds'(o:Ordered S r n P)(j:Nat):Ready S r n P (Zp S n P (E7 n r) (j+1)) P.length:=(Ready.rounds o j).round o P.length (zzL8 _)
theorem qb_round(o:Ordered S r n P){t:List Int}{k:Nat}(h:Ready S r n P t P.length)(q:QB S r n (Ba t) fun _=>k):QB S r n (Ba (Q0 S n P t P.length)) fun _=>k+1:=by
 have key:∀ i,i<=P.length->QB S r n (Ba (Q0 S n P t i)) (fun x=>if x∈P.take i then k+1 else k)/\Full S r n (Ba (Q0 S n P t i)):=by
  intro i
  induction i with
  | zero=>intro _;exact⟨by simpa [Q0] using q,h.full o⟩
  | succ i ih=>
   intro hi;obtain⟨q1,f1⟩:=ih (by omega);have rd:=(h.more o 0).round o i (by omega);have b:=rd.best o (by omega);have e:=parL_set (t:=Q0 S n P t i) (y:=P.getD i 0) (v:=(J0 S n (Q0 S n P t i) (P.getD i 0):Int)) (by rw[rd.len];exact b.hy)
   constructor
   ·show QB S r n (Ba ((Q0 S n P t i).set _ _)) _
    rw[e];have:=b.qb (k:=k) o.hS o.hr f1 (fun x _=>by split<;>omega) q1;intro x hx hp z hz;refine this x hx hp z ?_
    dsimp only at hz ⊢
    rw[zzL122 (by omega:i<P.length)]at hz
    by_cases e1:x=P.getD i 0
    ·rw[if_pos e1];rwa[if_pos (zzL13.2 (.inr (zzL16.2 (by rw[e1,Af _ _ _ (by omega:i<P.length)]))))]at hz
    ·rw[if_neg e1]
     by_cases e2:x∈P.take i
     ·rw[if_pos e2];rwa[if_pos (zzL13.2 (.inl e2))]at hz
     ·rw[if_neg e2]
      rwa[if_neg (fun hm=>by
       rcases zzL13.1 hm with hm|hm
       ·exact e2 hm
       ·rw[zzL16,<- Af _ _ 0 (by omega:i<P.length)]at hm;exact e1 hm)]at hz
   ·show Full S r n (Ba ((Q0 S n P t i).set _ _))
    rw[e];intro x hx hr;unfold Kw
    split
    ·omega
    ·exact f1 x hx hr
 have q1:=(key P.length (zzL8 _)).1;rw[U4]at q1;have rd:=(h.more o 0).round o P.length (zzL8 _);intro x hx hp z hz;refine q1 x hx hp z ?_
 dsimp only at hz ⊢
 by_cases e:x∈P
 ·rw[if_pos e];exact hz
 ·rw[if_neg e]
  have hxr:x=r:=by
   rcases zzL28.1 ((o.mem x).2 (rd.inv.rc x hx hp)) with h1|h1
   ·exact h1
   ·exact absurd h1 e
  subst hxr;exact .root hz.av.ne k
def P9(S:Nat->List Nat)(n:Nat)(P:List Nat)(t:List Int):Prop:=∀ i,i<P.length->Ba t (P.getD i 0)=(J0 S n t (P.getD i 0):Int)
theorem Sf{t:List Int}(o:Ordered S r n P)(hl:t.length=n)(h:P9 S n P t):∀ i,i<=P.length->Q0 S n P t i=t:=by
 intro i
 induction i with
 | zero=>intro _;rfl
 | succ i ih=>
  intro hi;unfold Q0;rw[ih (by omega),<- h i (by omega)]
  have hlt:P.getD i 0<t.length:=by rw[hl];exact o.lt (Fv _ (Mn (by omega)))
  unfold Ba;rw[Af _ _ _ hlt];exact List.set_getElem_self hlt
theorem stops(o:Ordered S r n P):∃ J,(∀ j,j<J->¬ P9 S n P (Zp S n P (E7 n r) j))/\P9 S n P (Zp S n P (E7 n r) J):=by
 obtain⟨K,hK⟩:=avn_bound (S:=S) (r:=r) n
 have hq:∀ k,QB S r n (Ba (Zp S n P (E7 n r) (k+1))) fun _=>k:=by
  intro k
  induction k with
  | zero=>exact qb_zero (Ready.rounds' o 0).inv
  | succ k ih=>exact qb_round o (Ready.rounds' o k) ih
 have hst:P9 S n P (Zp S n P (E7 n r) (K+1)):=fun i hi=>by
  have rd:=Ready.rounds' o K;exact((rd.more o i).best o hi).same o.hS o.hr (rd.full o) (rd.done _ (Fv _ (by rw[U4];exact Mn hi))) (exact_of rd.inv hK (hq K))
 have key:∀ m,(∃ J,J<=m/\P9 S n P (Zp S n P (E7 n r) J))->∃ J,(∀ j,j<J->¬ P9 S n P (Zp S n P (E7 n r) j))/\P9 S n P (Zp S n P (E7 n r) J):=by
  intro m
  induction m with
  | zero=>rintro⟨J,hJ,h⟩;exact⟨J,fun j hj=>by omega,h⟩
  | succ m ih=>
   rintro⟨J,hJ,h⟩
   by_cases hm:∃ J,J<=m/\P9 S n P (Zp S n P (E7 n r) J)
   ·exact ih hm
   ·exact⟨J,fun j hj hs=>hm ⟨j,by omega,hs⟩,h⟩
 exact key (K+1) ⟨K+1,zzL8 _,hst⟩
structure DomTree(S:Nat->List Nat)(r n:Nat)(P:List Nat)(t:List Int):Prop where
 inv:Inv S r n (pos (r::P)) (Ba t)
 len:t.length=n
 full:Full S r n (Ba t)
 exact_:Exact S r n (Ba t)
theorem Yp(o:Ordered S r n P){j:Nat}(h:P9 S n P (Zp S n P (E7 n r) j)):DomTree S r n P (Zp S n P (E7 n r) j):=by
 have rd:=Ready.rounds o j
 have hall:Ready S r n P (Zp S n P (E7 n r) j) P.length:=by
  have:=rd.round o P.length (zzL8 _);rwa[Sf o rd.len h P.length (zzL8 _)]at this
 refine⟨rd.inv,rd.len,hall.full o,exact_fix rd.inv o.hS o.hr (hall.full o) fun y hy hne hr=>?_⟩
 have hm:y∈P:=by
  rcases zzL28.1 ((o.mem y).2 hr) with h1|h1
  ·exact absurd h1 hne
  ·exact h1
 obtain⟨i,hi,rfl⟩:=Nh hm;have b:=(hall.more o i).best o hi;rw[Af _ _ _ hi]at b;have hs:=h i hi;rw[Af _ _ _ hi]at hs;exact⟨_,hs,b.best⟩
end
section
variable {S:Nat->List Nat} {s s':Nat->Bool} {l o:List Nat}
theorem VL.before(h:VL S s l s' o):∀ A z B,o=A++z::B->z∈l\/∃ p∈B,z∈S p:=by
 induction h with
 | nil s=>intro A z B e;simp at e
 | skip h _ ih=>
  intro A z B e;rcases ih A z B e with h1|h1
  ·exact .inl (Fv _ h1)
  ·exact .inr h1
 | @step s s1 s2 y l o1 o2 h a b iha ihb=>
  intro A z B e;rcases List.append_eq_append_iff.1 e with⟨C,hC1,hC2⟩|⟨C,hC1,hC2⟩
  ·
   cases C with
   | nil=>
    simp at hC2;obtain⟨rfl,rfl⟩:=hC2;exact .inl (Kx ..)
   | cons c C=>
    simp at hC2;obtain⟨rfl,hC2⟩:=hC2;rcases ihb C z B hC2 with h1|h1
    ·exact .inl (Fv _ h1)
    ·exact .inr h1
  ·cases C with
   | nil=>
    simp at hC2;obtain⟨rfl,rfl⟩:=hC2;exact .inl (Kx ..)
   | cons c C=>
    simp at hC2;obtain⟨rfl,rfl⟩:=hC2;rcases iha A z C hC1 with h1|⟨p,hp,hz⟩
    ·exact .inr ⟨y,by simp,h1⟩
    ·exact .inr ⟨p,by simp[hp],hz⟩
theorem Ord.ordered{n r:Nat}{L:List Nat}(hr:r<n)(hS:∀ x,x<n->∀ w∈S x,w<n)(h:Ord S r L):∃ P,L=r::P/\Ordered S r n P:=by
 have h1:=h.nodup;have h2:=h.mem;obtain⟨s',o,hv,rfl⟩:=h;refine⟨o.reverse,rfl,hr,hS,h1,fun x=>by rw[h2 x,rc_iff],fun i hi=>?_⟩
 have hi':i<o.length:=by simpa using hi
 have e:o.reverse=o.reverse.take i++o.reverse[i]::o.reverse.drop (i+1):=by rw[<- T9 hi,List.take_append_drop]
 have e2:o=(o.reverse.drop (i+1)).reverse++o.reverse[i]::(o.reverse.take i).reverse:=by
  have:=Co List.reverse e;rw[List.reverse_reverse]at this;rw[List.reverse_append,List.reverse_cons]at this
  simpa using this
 rw[Af _ _ _ hi];rcases hv.before _ _ _ e2 with h3|⟨p,hp,hz⟩
 ·exact⟨r,Kx ..,h3⟩
 ·exact⟨p,Fv _ (zzL123.1 hp),hz⟩
end
def woI(S:Nat->List Nat)(w:Int):Nat->List Nat:=fun x=>(S x).filter fun y=>decide ((y:Int)≠w)
theorem woI_none(S:Nat->List Nat):woI S (-1)=S:=by
 funext x
 unfold woI;exact List.filter_eq_self.2 fun y _=>E1 (by omega)
theorem woI_nat(S:Nat->List Nat)(z:Nat):woI S (z:Int)=wo S z:=by
 funext x
 unfold woI wo
 congr 1
 funext y
 exact zzL107.2 ⟨fun h e=>h (by rw[e]),fun h e=>h (Ud e)⟩
def Uy(L:List (List Int))(r:Nat)(w:Int):List Bool:=if(r:Int)=w then List.replicate L.length false else rds (woI (sN L) w) L.length ((List.replicate L.length false).set r true) L.length
theorem reach_at{L:List (List Int)}(hm:J7 L=true){r:Nat}(hr:r<L.length){b:Nat}:(Uy L r (-1)).getD b false=true↔Rc (sN L) r b:=by
 unfold Uy;rw[if_neg (by omega),woI_none,V6 (T5 hm) hr b,rc_iff]
theorem reachWo_at{L:List (List Int)}(hm:J7 L=true){r:Nat}(hr:r<L.length){a b:Nat}(hb:b<L.length):(Uy L r (a:Int)).getD b false=true↔Av (sN L) r a b:=by
 unfold Uy;rw[av_iff]
 by_cases h:r=a
 ·subst h;rw[if_pos rfl,M8]
  simp
 ·rw[if_neg (by omega),woI_nat,V6 (S:=wo (sN L) a) (fun z hz y hy=>T5 hm z hz y (zzL84.1 hy).1) hr b];simp[h]
def R5(L:List (List Int))(r a b:Nat):Bool:=(Uy L r (-1)).getD b false&&!(Uy L r (a:Int)).getD b false
theorem over_iff{L:List (List Int)}(hm:J7 L=true){r a b:Nat}(hr:r<L.length)(hb:b<L.length):R5 L r a b=true↔Rc (sN L) r b/\¬ Av (sN L) r a b:=by
 unfold R5;rw[A6,Ni,<- Bool.not_eq_true,reach_at hm hr,reachWo_at hm hr hb]
def nearB(L:List (List Int))(r a b:Nat):Bool:=(List.range L.length).all fun c=>decide (c=b) || !R5 L r c b || R5 L r c a
def pickD(L:List (List Int))(r b:Nat):Nat->Int
 | 0=>-2
 | a+1=>if a≠b/\R5 L r a b=true/\nearB L r a b=true then(a:Int) else pickD L r b a
def treeAt(L:List (List Int))(r b:Nat):Int:=if b=r then -1 else pickD L r b L.length
def T8(L:List (List Int))(r:Nat):List Int:=(List.range L.length).map (treeAt L r)
theorem treeD_len(L:List (List Int))(r:Nat):(T8 L r).length=L.length:=by simp[T8]
theorem treeD_at{L:List (List Int)}{r b:Nat}(hb:b<L.length):(T8 L r).getD b 0=treeAt L r b:=by unfold T8;rw[S1 hb]
theorem pick_cases(L:List (List Int))(r b:Nat):∀ m,(pickD L r b m = -2/\∀ a,a<m->¬ (a≠b/\R5 L r a b=true/\nearB L r a b=true))\/∃ a,a<m/\pickD L r b m=(a:Int)/\a≠b/\R5 L r a b=true/\nearB L r a b=true:=by
 intro m
 induction m with
 | zero=>exact .inl ⟨rfl,fun a ha=>absurd ha (N3 a)⟩
 | succ m ih=>
  unfold pickD
  by_cases h:m≠b/\R5 L r m b=true/\nearB L r m b=true
  ·rw[if_pos h];exact .inr ⟨m,by omega,rfl,h⟩
  ·rw[if_neg h];rcases ih with⟨h1,h2⟩|⟨a,h1,h2⟩
   ·refine .inl ⟨h1,fun a ha=>?_⟩;rcases zzL124.1 ha with h3|rfl
    ·exact h2 a h3
    ·exact h
   ·exact .inr ⟨a,by omega,h2⟩
theorem DomTree.eq{L:List (List Int)}(hm:J7 L=true){r:Nat}(hr:r<L.length){P t:List _}(o:Ordered (sN L) r L.length P)(h:DomTree (sN L) r L.length P t):t=T8 L r:=by
 refine zzL133 (by rw[h.len,treeD_len]) fun b h1 h2=>?_
 have hb:b<L.length:=by rw[<- h.len];exact h1
 rw[<- Af _ _ 0 h1,<- Af _ _ 0 h2,treeD_at hb]
 show Ba t b=_
 have hov:∀ a b,b<L.length->Ba t b≠-2->(R5 L r a b=true↔UpTo (Ba t) b a):=fun a b hb hp=>by
  rw[over_iff hm hr hb,h.exact_ b hb hp];exact⟨fun k=>k.2,fun k=>⟨h.inv.rc b hb hp,k⟩⟩
 unfold treeAt
 by_cases hbr:b=r
 ·subst hbr;rw[if_pos rfl];exact h.inv.top
 ·rw[if_neg hbr];rcases h.inv.kind b hb with hk|hk|⟨z,hz⟩
  ·
   have hn:¬ Rc (sN L) r b:=fun k=>h.full b hb k hk;rcases pick_cases L r b L.length with⟨h3,_⟩|⟨a,_,_,_,h6,_⟩
   ·rw[hk,h3]
   ·exact absurd ((over_iff hm hr hb).1 h6).1 hn
  ·exact absurd hk hbr
  ·obtain⟨z1,z2,z3,z4⟩:=h.inv.up b hb z hz
   have hp:Ba t b≠-2:=by omega
   have hzo:R5 L r z b=true:=(hov z b hb hp).2 (.up hz (.refl _))
   have hzb:z≠b:=by rintro rfl;omega
   have hnear:nearB L r z b=true:=all_range.2 fun c hc=>by
    by_cases e:c=b
    ·simp[e]
    ·cases ho:R5 L r c b with
     | false=>simp
     | true=>
      have:=(hov c b hb hp).1 ho;rcases(anc_up hz).1 this with h3|h3
      ·exact absurd h3 e
      ·rw[(hov c z z1 z2).2 h3];simp
   rcases pick_cases L r b L.length with⟨_,h3⟩|⟨a,h3,h4,h5,h6,h7⟩
   ·exact absurd ⟨hzb,hzo,hnear⟩ (h3 z z1)
   ·rw[h4,hz];have haU:=(hov a b hb hp).1 h6
    have ha1:UpTo (Ba t) z a:=by
     rcases(anc_up hz).1 haU with h8|h8
     ·exact absurd h8 h5
     ·exact h8
    have hap:=(h.inv.anc ha1 z1 z2).2.1
    have hza:UpTo (Ba t) a z:=by
     have:=all_range.1 h7 z z1;simp only[hzo,hzb,decide_false,E9,zzL142]at this;exact(hov z a h3 hap).1 this
    rw[h.inv.antisymm ha1 hza z1 z2]
theorem mayG_eq{g:A3}(h:Tj g=true):J7 g.Succ=true/\g=Ti g.Succ:=by
 unfold Tj at h;rw[A6]at h;refine⟨h.1,?_⟩;obtain⟨s,p⟩:=g;have:=Wh h.2;simp only at this;unfold Ti;rw[this]
section
variable {L:List (List Int)} (hm:J7 L=true) {r:Nat} (hr:r<L.length)
include hm hr
omit hr in
omit hr in
omit hm hr in
omit hm hr in
omit hm hr in
omit hr in
omit hr in
end
def treeG(g:A3)(r:Int):List Int:=if Tj g=true/\0<=r/\r<(g.Succ.length:Int) then T8 g.Succ r.toNat else[]
def upD(t:List Int):Nat->Int->Option (List Int)
 | 0,_=>none
 | k+1,a=>if 0<=a/\a<(t.length:Int) then(if t.getD a.toNat 0 = -1 then some [a] else(upD t k (t.getD a.toNat 0)).map fun l=>a::l) else none
def Hu(t:List Int)(a:Int):List Int:=(upD t t.length a).getD []
theorem upD_len(t:List Int):∀ k a q,upD t k a=some q->q.length<=k/\1<=q.length:=by
 intro k
 induction k with
 | zero=>intro a q h;cases h
 | succ k ih=>
  intro a q h;unfold upD at h
  split at h
  ·split at h
   ·cases h;simp
   ·cases hu:upD t k (t.getD a.toNat 0) with
    | none=>rw[hu]at h;cases h
    | some q'=>rw[hu]at h;cases h;have:=ih _ _ hu;simp;omega
  ·cases h
theorem pathD_nil{t:List Int}{a:Int}:Hu t a=[]↔upD t t.length a=none:=by
 unfold Hu
 cases h:upD t t.length a with
 | none=>simp
 | some q=>have:=(upD_len t _ _ _ h).2;simp;intro e;subst e;simp at this
def Wd(t:List Int)(k:Nat):Nat:=((List.range k).filter fun a=>decide (t.getD a 0 = -1)).length
def okR(t:List Int)(a:Nat):Bool:=decide (t.getD a 0 = -2) || !decide (Hu t (a:Int)=[])
def Ix(t:List Int):Bool:=(List.range t.length).all (okR t)&&decide (Wd t t.length=1)
theorem topsK_succ(t:List Int)(k:Nat):Wd t (k+1)=Wd t k+if t.getD k 0 = -1 then 1 else 0:=by
 unfold Wd;rw[U6,zzL139,Eo]
 by_cases h:t.getD k 0 = -1
 ·rw[if_pos h]
  have:List.filter (fun a=>decide (t.getD a 0 = -1)) [k]=[k]:=by rw[List.filter_cons,if_pos (E1 h)];rfl
  rw[this];rfl
 ·rw[if_neg h]
  have:List.filter (fun a=>decide (t.getD a 0 = -1)) [k]=[]:=by rw[List.filter_cons,if_neg (by simpa using h)];rfl
  rw[this];rfl
def Md(t:List Int)(a b:Int):Int:=if Ix t=true then((Hu t a).find? fun x=>(Hu t b).contains x).getD (-2) else -2
def R6(t:List Int)(a b:Int):Bool:=Md t a b==a&&Md t a b !=-2
section
variable {S:Nat->List Nat} {r n:Nat} {P:List Nat} {t:List Int}
theorem DomTree.up(h:DomTree S r n P t):∀ k x,x<n->Ba t x≠-2->pos (r::P) x<k->∃ q,upD t k (x:Int)=some q/\(∀ w:Int,w∈q↔∃ z:Nat,w=(z:Int)/\UpTo (Ba t) x z) /\
  ∀ p:Int->Bool,(q.find? p=none/\∀ z:Nat,UpTo (Ba t) x z->p (z:Int)=false)\/∃ f:Nat,q.find? p=some (f:Int)/\UpTo (Ba t) x f/\p (f:Int)=true/\∀ z:Nat,UpTo (Ba t) x z->p (z:Int)=true->UpTo (Ba t) f z:=by
 intro k
 induction k with
 | zero=>intro x _ _ hk;exact absurd hk (N3 _)
 | succ k ih=>
  intro x hx hp hk
  have hxt:(0:Int)<=(x:Int)/\(x:Int)<(t.length:Int):=by rw[h.len];omega
  unfold upD;rw[if_pos hxt,A1];have hpx:t.getD x 0=Ba t x:=rfl;rw[hpx];rcases h.inv.kind x hx with h1|rfl|⟨z,hz⟩
  ·exact absurd h1 hp
  ·rw[if_pos h.inv.top];refine⟨_,rfl,fun w=>?_,fun p=>?_⟩
   ·rw[zzL16]
    constructor
    ·rintro rfl;exact⟨x,rfl,.refl _⟩
    ·rintro⟨z,rfl,hz⟩;rw[h.inv.root_anc.1 hz]
   ·cases hpp:p (x:Int) with
    | false=>exact .inl ⟨by simp[List.find?,hpp],fun z hz=>by rw[h.inv.root_anc.1 hz];exact hpp⟩
    | true=>exact .inr ⟨x,by simp[List.find?,hpp],.refl _,hpp,fun z hz _=>hz⟩
  ·obtain⟨z1,z2,z3,z4⟩:=h.inv.up x hx z hz;rw[hz,if_neg (by omega)];obtain⟨q,hq1,hq2,hq3⟩:=ih z z1 z2 (by omega);rw[hq1];refine⟨(x:Int)::q,rfl,fun w=>?_,fun p=>?_⟩
   ·rw[zzL28,hq2 w]
    constructor
    ·rintro(rfl|⟨y,rfl,hy⟩)
     ·exact⟨x,rfl,.refl _⟩
     ·exact⟨y,rfl,.up hz hy⟩
    ·rintro⟨y,rfl,hy⟩;rcases(anc_up hz).1 hy with rfl|hy
     ·exact .inl rfl
     ·exact .inr ⟨y,rfl,hy⟩
   ·cases hpp:p (x:Int) with
    | true=>exact .inr ⟨x,by simp[List.find?,hpp],.refl _,hpp,fun y hy _=>hy⟩
    | false=>
     have hf:((x:Int)::q).find? p=q.find? p:=by simp[List.find?,hpp]
     rw[hf];rcases hq3 p with⟨e1,e2⟩|⟨f,e1,e2,e3,e4⟩
     ·refine .inl ⟨e1,fun y hy=>?_⟩;rcases(anc_up hz).1 hy with rfl|hy
      ·exact hpp
      ·exact e2 y hy
     ·refine .inr ⟨f,e1,.up hz e2,e3,fun y hy hpy=>?_⟩;rcases(anc_up hz).1 hy with rfl|hy
      ·rw[hpp]at hpy;cases hpy
      ·exact e4 y hy hpy
theorem Ordered.pos_lt(o:Ordered S r n P){x:Nat}(hx:x∈r::P):pos (r::P) x<n:=by
 obtain⟨j,hj,rfl⟩:=Nh hx;rw[(Zo o.nodup hj).2];have:=La n (r::P) o.nodup fun y hy=>o.lt hy;omega
theorem DomTree.path(h:DomTree S r n P t)(o:Ordered S r n P){x:Nat}(hx:x<n)(hp:Ba t x≠-2):Hu t (x:Int)≠[]/\(∀ w:Int,w∈Hu t (x:Int)↔∃ z:Nat,w=(z:Int)/\UpTo (Ba t) x z) /\
  ∀ p:Int->Bool,((Hu t (x:Int)).find? p=none/\∀ z:Nat,UpTo (Ba t) x z->p (z:Int)=false)\/∃ f:Nat,(Hu t (x:Int)).find? p=some (f:Int)/\UpTo (Ba t) x f/\p (f:Int)=true/\∀ z:Nat,UpTo (Ba t) x z->p (z:Int)=true->UpTo (Ba t) f z:=by
 have hm:=(o.mem x).2 (h.inv.rc x hx hp);obtain⟨q,h1,h2,h3⟩:=h.up n x hx hp (o.pos_lt hm)
 have e:Hu t (x:Int)=q:=by unfold Hu;rw[h.len,h1];rfl
 rw[e];refine⟨fun e=>?_,h2,h3⟩;have:=(h2 (x:Int)).2 ⟨x,rfl,.refl _⟩;rw[e]at this
 cases this
theorem DomTree.nopath(h:DomTree S r n P t){x:Nat}(hx:x<n)(hp:Ba t x = -2):Hu t (x:Int)=[]:=by
 rw[pathD_nil]
 cases hl:t.length with
 | zero=>rfl
 | succ k=>
  unfold upD;rw[if_pos ⟨by omega,by rw[h.len];omega⟩,A1,show t.getD x 0=Ba t x from rfl,hp,if_neg (by omega)]
  cases k with
  | zero=>rfl
  | succ k=>unfold upD;rw[if_neg (by omega)];rfl
theorem DomTree.right(h:DomTree S r n P t)(o:Ordered S r n P):Ix t=true:=by
 unfold Ix;rw[A6]
 constructor
 ·refine all_range.2 fun x hx=>?_;rw[h.len]at hx;unfold okR
  by_cases hp:Ba t x = -2
  ·rw[show t.getD x 0=Ba t x from rfl,hp];rfl
  ·rw[E8 (h.path o hx hp).1];simp
 ·apply E1
  have key:∀ k,k<=n->Wd t k=if r<k then 1 else 0:=by
   intro k
   induction k with
   | zero=>intro _;rfl
   | succ k ih=>
    intro hk;rw[topsK_succ,ih (by omega)]
    have hr:t.getD k 0 = -1↔k=r:=by
     constructor
     ·intro he;rcases h.inv.kind k (by omega) with h1|h1|⟨z,hz⟩
      ·rw[show t.getD k 0=Ba t k from rfl,h1]at he;omega
      ·exact h1
      ·rw[show t.getD k 0=Ba t k from rfl,hz]at he;omega
     ·rintro rfl;exact h.inv.top
    by_cases hkr:k=r
    ·subst hkr;rw[if_neg (by omega),if_pos (hr.2 rfl),if_pos (by omega)]
    ·rw[if_neg (fun e=>hkr (hr.1 e))]
     by_cases h2:r<k
     ·rw[if_pos h2,if_pos (by omega)]
     ·rw[if_neg h2,if_neg (by omega)]
  rw[h.len,key n (zzL8 _),if_pos o.hr]
theorem DomTree.meet(h:DomTree S r n P t)(o:Ordered S r n P){a b:Nat}(ha:a<n)(hb:b<n)(hpa:Ba t a≠-2)(hpb:Ba t b≠-2):∃ m:Nat,Md t (a:Int) (b:Int)=(m:Int)/\MeetAt (Ba t) a b m/\m<n/\Ba t m≠-2:=by
 have rd:Ready S r n P t P.length:=⟨h.inv,h.len,fun x hx=>by rw[U4]at hx;exact h.full x (o.lt hx) ((o.mem x).1 hx)⟩;obtain⟨c,hc1,hc2,hc3⟩:=h.inv.meets (rd.inj o) pos_root _ a b (zzL8 _) ha hb hpa hpb;refine⟨c,?_,hc1,hc2,hc3⟩;unfold Md;rw[if_pos (h.right o)];obtain⟨hca,hcb⟩:=(hc1 c).1 (.refl _)
 have hin:∀ z:Nat,(Hu t (b:Int)).contains (z:Int)=true↔UpTo (Ba t) b z:=fun z=>by
  rw[zzL86,(h.path o hb hpb).2.1]
  constructor
  ·rintro⟨y,hy,hu⟩;cases Ud hy;exact hu
  ·intro hu;exact⟨z,rfl,hu⟩
 rcases(h.path o ha hpa).2.2 fun x=>(Hu t (b:Int)).contains x with⟨_,h2⟩|⟨f,h1,h2,h3,h4⟩
 ·have:=h2 c hca;rw[(hin c).2 hcb]at this
  cases this
 ·rw[h1];have hfc:=h4 c hca ((hin c).2 hcb);have hcf:=(hc1 f).2 ⟨h2,(hin f).1 h3⟩;rw[h.inv.antisymm hcf hfc hc2 hc3]
  rfl
theorem DomTree.meet_none(h:DomTree S r n P t)(o:Ordered S r n P){a b:Nat}(ha:a<n)(hb:b<n)(hp:Ba t a = -2\/Ba t b = -2):Md t (a:Int) (b:Int) = -2:=by
 unfold Md;rw[if_pos (h.right o)];rcases hp with hp|hp
 ·rw[h.nopath ha hp];rfl
 ·rw[h.nopath hb hp]
  have:(Hu t (a:Int)).find? (fun x=>([]:List Int).contains x)=none:=List.find?_eq_none.2 fun x _=>by simp
  rw[this];rfl
theorem DomTree.over(h:DomTree S r n P t)(o:Ordered S r n P){a b:Nat}(ha:a<n)(hb:b<n):R6 t (a:Int) (b:Int)=true↔Ba t b≠-2/\UpTo (Ba t) b a:=by
 unfold R6;rw[A6,zzL68,Oj]
 by_cases hpa:Ba t a = -2
 ·rw[h.meet_none o ha hb (.inl hpa)]
  constructor
  ·rintro⟨h1,_⟩;omega
  ·rintro⟨h1,h2⟩;exact absurd hpa (h.inv.anc h2 hb h1).2.1
 ·by_cases hpb:Ba t b = -2
  ·rw[h.meet_none o ha hb (.inr hpb)]
   constructor
   ·rintro⟨h1,_⟩;omega
   ·rintro⟨h1,_⟩;exact absurd hpb h1
  ·obtain⟨m,hm1,hm2,hm3,hm4⟩:=h.meet o ha hb hpa hpb;rw[hm1]
   constructor
   ·rintro⟨h1,_⟩;have h1:=Ud h1;subst h1;exact⟨hpb,((hm2 _).1 (.refl _)).2⟩
   ·rintro⟨_,h2⟩;have:=(hm2 a).2 ⟨.refl _,h2⟩;have h3:=((hm2 m).1 (.refl _)).1;rw[h.inv.antisymm h3 this ha hpa];exact⟨rfl,by omega⟩
theorem DomTree.over_dom(h:DomTree S r n P t)(o:Ordered S r n P){a b:Nat}(ha:a<n)(hb:b<n):R6 t (a:Int) (b:Int)=true↔Rc S r b/\¬ Av S r a b:=by
 rw[h.over o ha hb]
 constructor
 ·rintro⟨h1,h2⟩;exact⟨h.inv.rc b hb h1,(h.exact_ b hb h1 a).1 h2⟩
 ·rintro⟨h1,h2⟩;have:=h.full b hb h1;exact⟨this,(h.exact_ b hb this a).2 h2⟩
end
section
variable {L:List (List Int)} (hm:J7 L=true) {r:Nat} (hr:r<L.length)
include hm hr
theorem treeD_dom:∃ P,Ord (sN L) r (r::P)/\Ordered (sN L) r L.length P/\DomTree (sN L) r L.length P (T8 L r):=by
 obtain⟨O,hO⟩:=Ord.exist (T5 hm) hr;obtain⟨P,rfl,o⟩:=hO.ordered hr (T5 hm);obtain⟨J,_,hJ⟩:=stops o;have hd:=Yp o hJ;refine⟨P,hO,o,?_⟩;rw[<- hd.eq hm hr o];exact hd
end
theorem loop_allN{X:Type}(n:Nat)(p:Nat->Bool)(f:Int->Option (LR Int X))(yes no:X)(hn:∀ i:Nat,i<n->p i=true->f (i:Int)=some (.next ((i:Int)+1)))
  (hf:∀ i:Nat,i<n->p i=false->f (i:Int)=some (.done no)) (he:f (n:Int)=some (.done yes)):Am f (0:Int)=some (bif (List.range n).all p then yes else no):=by
 have hg:∀ i,i<(List.range n).length->(List.range n).getD i 0=i:=fun i hi=>by rw[Af _ _ _ hi];simp
 have:=Rq (List.range n) 0 p f yes no (fun i hi hp=>by rw[hg i hi]at hp;exact hn i (by simpa using hi) hp) (fun i hi hp=>by rw[hg i hi]at hp;exact hf i (by simpa using hi) hp) (by simpa using he) n 0 (by simp);rw[show(0:Int)=((0:Nat):Int) from rfl,this,N4]
theorem allN{n:Nat}{p:Nat->Bool}(h:(List.range n).all p=true):∀ i,i<n->p i=true:=fun i hi=>zzL29.1 h i (by simpa using hi)
def P0(L:List (List Int)):List Bool:=rds (sN L) L.length ((List.replicate L.length false).set 0 true) L.length
def Hl(l:List Int)(p:Gp):Bool:=decide (p.From=l)&&((p.Args.length:Int)==(l.length:Int))
def Pd(L:List (List Int))(b:Ac)(i:Nat):Bool:=(P0 L).getD i false&&!((b.End.Kind==1 || b.End.Kind==3)&&(b.End.Arg !=0))&&b.Phis.all (Hl ((Db L).getD i []))
def Gk(f:TFunc):Bool:=Lj f&&(List.range f.Blocks.length).all fun i=>Pd (C1 f) (f.Blocks.getD i default) i
theorem R8(f:TFunc):(C1 f).length=f.Blocks.length:=by simp[C1]
theorem shape_fit{f:TFunc}(h:Gk f=true):phisFit f:=fun b hb p hp=>by
 simp only[Gk,A6]at h;obtain⟨i,hi,rfl⟩:=Nh hb;have h1:=allN h.2 i hi;rw[Af _ _ _ hi]at h1;simp only[Pd,A6]at h1;have h2:=zzL29.1 h1.2 p hp;simp only[Hl,A6,F0,zzL68]at h2;rw[h2.1];omega
def M3(l:List I4)(i:Nat):Bool:=valS (l.getD i default).V&&(Kk l (l.getD i default).V==(i:Int))
def Mg(l:List I4)(u:Oq):Bool:=!decide (Kk l u.V<0)
def defOf(l:List I4)(v:Int):I4:=l.getD (Kk l v).toNat default
def okFit(l:List I4)(u:Oq):Bool:=((defOf l u.V).Shape.1==u.Shape.1)&&(((defOf l u.V).Shape.2==u.Shape.2)&&true)
def Yd(l:List I4)(t:List Int)(u:Oq):Bool:=
 (decide ((defOf l u.V).Block<0) || ((defOf l u.V).Block==u.Block&&decide ((defOf l u.V).At<u.At))) || (!((defOf l u.V).Block==u.Block)&&!(Md t (defOf l u.V).Block u.Block !=(defOf l u.V).Block))
def C2(f:TFunc):List Int:=treeG (Ti (C1 f)) 0
def wrongD(f:TFunc)(l:Int):Int:=
 bif !Gk f then 5 else bif !Xn f l then 6 else bif !(List.range (Bv f).length).all (M3 (Bv f)) then 7 else bif !(Gl f).all (Mg (Bv f)) then 7 else
 bif !(Gl f).all (okFit (Bv f)) then 6 else bif !(Gl f).all (Yd (Bv f) (C2 f)) then 7 else 0
def Hw(f:TFunc)(l:Int):Int:=bif decide (l<0) || decide (2<l) then 1 else bif !Uu f then 4 else wrongD f l
theorem findD_in{l:List I4}{v:Int}(h:¬ Kk l v<0):Bd (Kk l v) l.length:=by
 unfold Kk at h ⊢
 cases hx:l.findIdx? (fun d=>d.V==v) with
 | none=>rw[hx]at h;exact absurd (by decide) h
 | some i=>
  obtain⟨hi,_⟩:=List.findIdx?_eq_some_iff_getElem.1 hx;exact Ax hi
theorem tree_len{f:TFunc}(h:Lj f=true):(C2 f).length<=1000:=by
 have h1:=(W1 (O1 h)).1;unfold C2 treeG
 split
 ·rw[treeD_len];show(C1 f).length<=1000;omega
 ·simp
def grow(n d:Int):Int:=bif decide (n<d) then d else n
def Sm(f:TFunc):Prop:=InF f/\B0 f=some true
theorem sm_ok{f:TFunc}(h:Sm f)(hm:Uu f=true):OkF f:=by
 obtain⟨sm,h1,h2⟩:=small_parts f h.1;rw[h.2]at h1;exact(h2 (OI h1).symm hm).1
theorem m_small11{f:TFunc}(hf:InF f):∃ b,Ez f=some b/\(b=true->Sm f):=by
 obtain⟨x,hx⟩:∃ x,Am (C4 f) ((0:Int),(0:Int))=some x:=by
  refine Mv f.Blocks.length (C4 f) (fun n i hi=>.inl ?_) (fun n=>?_) f.Blocks.length 0 0 (by omega)
  ·unfold C4
   have hd:decide ((i:Int)<(f.Blocks.length:Int))=true:=by simpa using hi
   simp only[hd,Ah,Ai (Ax hi),Ib hi hf.blocks];exact⟨_,rfl⟩
  ·unfold C4;exact⟨n,by simp⟩
 obtain⟨sm,h1⟩:=small_some f hf;unfold Ez;rw[hx,Au,h1,Au];refine⟨_,rfl,fun hb=>⟨hf,?_⟩⟩
 cases sm with
 | true=>exact h1
 | false=>cases hb
structure ShapesOf(f:TFunc)(s:List (Int×(Int×Int))):Prop where
 none:Hw f 2≠0->s.length=0
 len:Hw f 2=0->s.length=(Bv f).length
 get:Hw f 2=0->∀ d∈Bv f,E5 ((0:Int),(0:Int)) s d.V=d.Shape
 has:Hw f 2=0->∀ v,D3 s v=true->∃ d∈Bv f,d.V=v
def restD(f:TFunc):Int:=
 bif !(List.range (Bv f).length).all (M3 (Bv f)) then 7 else bif !(Gl f).all (Mg (Bv f)) then 7 else
 bif !(Gl f).all (okFit (Bv f)) then 6 else bif !(Gl f).all (Yd (Bv f) (C2 f)) then 7 else 0
theorem Aaa{f:TFunc}{l:Int}(h0:0<=l)(h2:l<=2):Hw f l=0↔Uu f=true/\Gk f=true/\Xn f l=true/\restD f=0:=by
 unfold Hw wrongD;rw[E8 (show ¬ l<0 by omega),E8 (show ¬ 2<l by omega)]
 show _↔_/\_/\_/\restD f=0
 have e:(bif !(List.range (Bv f).length).all (M3 (Bv f)) then(7:Int) else bif !(Gl f).all (Mg (Bv f)) then 7 else
  bif !(Gl f).all (okFit (Bv f)) then 6 else bif !(Gl f).all (Yd (Bv f) (C2 f)) then 7 else 0)=restD f:=rfl
 rw[e]
 cases Uu f<;>cases Gk f<;>cases Xn f l<;>simp
theorem lanes_of{o:Ef}(h:K2 o=true):1<=o.Lanes:=by
 simp only[K2,A6]at h;have:=N0 h.1.1;omega
end
end Go.Proofs.YtmkiepobhjiabaaGreat
