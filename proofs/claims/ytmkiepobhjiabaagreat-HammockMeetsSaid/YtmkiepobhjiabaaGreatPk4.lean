/-
  The machine, the program's functions and the laws' arithmetic: part 4 of 5.
-/
import Derived.Test.YtmkiepobhjiabaaGreatPk3
import Derived.OpenShut
import Derived.ShutString
set_option linter.unusedVariables false
set_option linter.unusedSimpArgs false
namespace Go.Proofs.YtmkiepobhjiabaaGreat
noncomputable section
open Go Go.RowKit
set_option maxRecDepth 100000
set_option maxHeartbeats 2000000
def Ce(aZ:Int)(aK:Ad):(Int×List Int×Int×List Ad×Int×List Int×List Ao×List (Int×Af))->Option (LR (Int×List Int×Int×List Ad×Int×List Int×List Ao×List (Int×Af)) ((List Int×Int×List Ad×Int×List Int×List Ao×List (Int×Af)) ⊕ (Bool×TFunc×Int×List Int×List Ao×List (Int×Af)))):=
 fun((i1,l2,i3,l4,i5,l6,l7,l8):(Int×List Int×Int×List Ad×Int×List Int×List Ao×List (Int×Af)))=>(bif (decide (i1<(aK.Phis.length:Int))) then(Bw (Bd i1 aK.Phis.length) ((C9 ((aK.Phis.getD i1.toNat default).Bits)).bind fun x17=>((Dy ((aK.Phis.getD i1.toNat default).Dst) x17 (⟨aZ,(-1:Int)⟩:Gu) (⟨l2,i3,l4⟩:TFunc) i5 l6 l8 l7).bind fun x18=>(bif (!x18.1) then(some (.done (.inr (false,x18.2.1,x18.2.2.1,x18.2.2.2.1,x18.2.2.2.2.1,x18.2.2.2.2.2)))) else(some (.next ((Bb (i1+1)),x18.2.1.Params,x18.2.1.Ret,x18.2.1.Blocks,x18.2.2.1,x18.2.2.2.1,x18.2.2.2.2.1,x18.2.2.2.2.2))))))) else(some (.done (.inl (l2,i3,l4,i5,l6,l7,l8)))))
def Bt(aZ:Int)(aK:Ad):(Int×List Int×Int×List Ad×Int×List Int×List Ao×List (Int×Af))->Option (LR (Int×List Int×Int×List Ad×Int×List Int×List Ao×List (Int×Af)) ((List Int×Int×List Ad×Int×List Int×List Ao×List (Int×Af)) ⊕ (Bool×TFunc×Int×List Int×List Ao×List (Int×Af)))):=
 fun((i21,l22,i23,l24,i25,l26,l27,l28):(Int×List Int×Int×List Ad×Int×List Int×List Ao×List (Int×Af)))=>(bif (decide (i21<(aK.Ops.length:Int))) then(Bw (Bd i21 aK.Ops.length) ((Kc (aK.Ops.getD i21.toNat default)).bind fun x37=>((bif ((decide (((0:Int):Int)<x37.1))==true) then Dy ((aK.Ops.getD i21.toNat default).Dst) (x37.1,x37.2) (⟨aZ,i21⟩:Gu) (⟨l22,i23,l24⟩:TFunc) i25 l26 l28 l27 else some (false,(default:TFunc),(0:Int),[],[],[])).bind fun x38=>(bif (bif (decide (((0:Int):Int)<x37.1)) then(!x38.1) else false) then(some (.done (.inr (false,(⟨(bif ((decide (((0:Int):Int)<x37.1))==true) then x38.2.1.Params else l22),(bif ((decide (((0:Int):Int)<x37.1))==true) then x38.2.1.Ret else i23),(bif ((decide (((0:Int):Int)<x37.1))==true) then x38.2.1.Blocks else l24)⟩:TFunc),(bif ((decide (((0:Int):Int)<x37.1))==true) then x38.2.2.1 else i25),(bif ((decide (((0:Int):Int)<x37.1))==true) then x38.2.2.2.1 else l26),(bif ((decide (((0:Int):Int)<x37.1))==true) then x38.2.2.2.2.1 else l27),(bif ((decide (((0:Int):Int)<x37.1))==true) then x38.2.2.2.2.2 else l28))))) else(some (.next ((Bb (i21+1)),(bif ((decide (((0:Int):Int)<x37.1))==true) then x38.2.1.Params else l22),(bif ((decide (((0:Int):Int)<x37.1))==true) then x38.2.1.Ret else i23),(bif ((decide (((0:Int):Int)<x37.1))==true) then x38.2.1.Blocks else l24),(bif ((decide (((0:Int):Int)<x37.1))==true) then x38.2.2.1 else i25),(bif ((decide (((0:Int):Int)<x37.1))==true) then x38.2.2.2.1 else l26),(bif ((decide (((0:Int):Int)<x37.1))==true) then x38.2.2.2.2.1 else l27),(bif ((decide (((0:Int):Int)<x37.1))==true) then x38.2.2.2.2.2 else l28)))))))) else(some (.done (.inl (l22,i23,l24,i25,l26,l27,l28)))))
def Kj(Γ:Hy)(aZ:Int)(aK:Ad)(a3:TFunc)(a7:Int)(a9:List Int)(a6:List (Int×Af))(a5:List Ao)(r:(Bool×TFunc×Int×List Int×List Ao×List (Int×Af))):Exit->St->Prop:=fK Tryz.prog Γ Tryz.f113.results.toList [(Z1 a3.Params a3.Ret a3.Blocks a7 a9 9100005 a5),(Pi a5.length),(9100005,.obj (.map true .i64 (Df (fun(v_:Af)=>((Rk v_):AV)) a6)))] (.bool r.1) [(Z1 r.2.1.Params r.2.1.Ret r.2.1.Blocks r.2.2.1 r.2.2.2.1 9100005 r.2.2.2.2.1),(Pi r.2.2.2.2.1.length),(9100005,.obj (.map true .i64 (Df (fun(v_:Af)=>((Rk v_):AV)) r.2.2.2.2.2)))]
def Q84(x37:(Int×Int)):=((decide (((0:Int):Int)<x37.1))==true)
def Q85:=(fun(v_:Af)=>((Rk v_):AV))
def Q88(x37:(Int×Int))(x38:(Bool×TFunc×Int×List Int×List Ao×List (Int×Af)))(l26:List Int):AV:=(Z15 (Q84 x37) x38.2.2.2.1 l26)
def Q89(x37:(Int×Int))(x38:(Bool×TFunc×Int×List Int×List Ao×List (Int×Af)))(l24:List Ad):AV:=(Z49 (Q84 x37) x38.2.1.Blocks l24)
def Q87(x37:(Int×Int))(x38:(Bool×TFunc×Int×List Int×List Ao×List (Int×Af)))(l22:List Int):AV:=(Z15 (Q84 x37) x38.2.1.Params l22)
def D2(aZ:Int)(aK:Ad)(a3:TFunc)(a7:Int)(a9:List Int)(a6:List (Int×Af))(a5:List Ao):Option (Bool×TFunc×Int×List Int×List Ao×List (Int×Af)):=
 ((An (Ce aZ aK) ((0:Int),a3.Params,a3.Ret,a3.Blocks,a7,a9,a5,a6)).bind (fun x19=>(match x19 with|(.inl (l9,i10,l11,i12,l13,l14,l15))=>((An (Bt aZ aK) ((0:Int),l9,i10,l11,i12,l13,l14,l15)).bind (fun x39=>(match x39 with|(.inl (l29,i30,l31,i32,l33,l34,l35))=>(some (true,(⟨l29,i30,l31⟩:TFunc),i32,l33,l34,l35))|(.inr r41)=>(some r41))))|(.inr r42)=>(some r42))))
theorem O1(aZ:Int)(aK:Ad)(a3:TFunc)(a7:Int)(a9:List Int)(a6:List (Int×Af))(a5:List Ao)(r:(Bool×TFunc×Int×List Int×List Ao×List (Int×Af)))(h:D2 aZ aK a3 a7 a9 a6 a5=some r):Spec Tryz.prog 113 [Z52,(Z7 aZ),(.agg (Gg aK))] [(Z1 a3.Params a3.Ret a3.Blocks a7 a9 9100005 a5),(Pi a5.length),(9100005,.obj (.map true .i64 (Df (fun(v_:Af)=>((Rk v_):AV)) a6)))] (.bool r.1) [(Z1 r.2.1.Params r.2.1.Ret r.2.1.Blocks r.2.2.1 r.2.2.2.1 9100005 r.2.2.2.2.1),(Pi r.2.2.2.2.1.length),(9100005,.obj (.map true .i64 (Df (fun(v_:Af)=>((Rk v_):AV)) r.2.2.2.2.2)))]:=by
 refine Ab mix Tryz.func113 (fun Γ hq=>?_);unfold D2 at h;refine Ak hq zzN133 Abj ?_;refine Ak hq zzN95 Abj ?_;obtain⟨x19,hx19,h⟩:=bind_some h;refine gL hq hx19 zzN95 Abj (fun u (i1,l2,i3,l4,i5,l6,l7,l8)=>(F4 u [(16,(Z7 i1))] [(Z1 l2 i3 l4 i5 l6 9100005 l7),(Pi l7.length),(9100005,.obj (.map true .i64 (Df Q85 l8)))])) (fun u x_=>match x_ with|(.inl (l9,i10,l11,i12,l13,l14,l15))=>aG Γ (.exit 0) (W8 zzN133 Abj u [] [(Z1 l9 i10 l11 i12 l13 9100005 l14),(Pi l14.length),(9100005,.obj (.map true .i64 (Df Q85 l15)))])|(.inr r_)=>aR (Kj Γ aZ aK a3 a7 a9 a6 a5 r_)) ?_ ?_
 ·rintro⟨i1,l2,i3,l4,i5,l6,l7,l8⟩ y h;unfold Ce at h;refine Ak hq [0,1,5,14,15,16,17] Abj ?_;refine gC h ?_ ?_<;>intro h
  ·obtain⟨hc16,h⟩:=Aa h;refine gR hq [0,1,5,8,14,15,16] [5,8,30000,37006,9100005] [] [] (c1 hc16) ?_;obtain⟨x17,hx17,h⟩:=bind_some h;obtain⟨x18,hx18,h⟩:=bind_some h;refine gR hq [0,1,5,14,15,16,29] Abj [] [(Z64 x17),⟨V0,[],(.bool x18.1),[(Z1 x18.2.1.Params x18.2.1.Ret x18.2.1.Blocks x18.2.2.1 x18.2.2.2.1 9100005 x18.2.2.2.2.1),(Pi x18.2.2.2.2.1.length),(9100005,.obj (.map true .i64 (Df Q85 x18.2.2.2.2.2)))],[],[]⟩] (ci (Jb ((aK.Phis.getD i1.toNat default).Bits) x17 hx17) (c1 (Lo ((aK.Phis.getD i1.toNat default).Dst) x17 (⟨aZ,(-1:Int)⟩:Gu) (⟨l2,i3,l4⟩:TFunc) i5 l6 l8 l7 x18 hx18))) ?_;refine gC h ?_ ?_<;>intro h
   ·refine Ak hq [6] Gn ?_;cases h;exact gO (Pj (J9 V0 (Le.refl _ _)))
   ·refine Ak hq zzN95 Abj ?_;cases h;exact gN Fe
  ·cases h;exact gO (D3 (Du zzN133 Abj hq))
 ·clear hx19;rcases x19 with⟨l9,i10,l11,i12,l13,l14,l15⟩|r42
  ·refine gA ?_;refine Ak hq zzN112 Gn ?_;obtain⟨x39,hx39,h⟩:=bind_some h;refine gL hq hx39 zzN112 Gn (fun u (i21,l22,i23,l24,i25,l26,l27,l28)=>(F4 u [(34,(Z7 i21))] [(Z1 l22 i23 l24 i25 l26 9100005 l27),(Pi l27.length),(9100005,.obj (.map true .i64 (Df Q85 l28)))])) (fun u x_=>match x_ with|(.inl (l29,i30,l31,i32,l33,l34,l35))=>aG Γ (.exit 2) (⟨[],[(Z1 l29 i30 l31 i32 l33 9100005 l34),(Pi l34.length),(9100005,.obj (.map true .i64 (Df Q85 l35)))],[]⟩:St)|(.inr r_)=>aR (Kj Γ aZ aK a3 a7 a9 a6 a5 r_)) ?_ ?_
   ·rintro⟨i21,l22,i23,l24,i25,l26,l27,l28⟩ y h;unfold Bt at h;refine Ak hq [0,1,32,33,34,35] Gn ?_;refine gC h ?_ ?_<;>intro h
    ·obtain⟨hc36,h⟩:=Aa h;refine gR hq [0,1,9,10,32,33,34] zzN113 [] [] (c1 hc36) ?_;obtain⟨x37,hx37,h⟩:=bind_some h;refine gR hq [0,1,9,10,11,12,32,33,34] zzN113 [] [⟨[],[],(.tuple [(Z7 x37.1),(Z7 x37.2)]),[],[],[]⟩] (c1 (ok_kind_Gives (aK.Ops.getD i21.toNat default) x37 hx37)) ?_;obtain⟨x38,hx38,h⟩:=bind_some h;refine gR hq [0,1,32,33,34,58] Gn [] [⟨V0,[],(.bool x38.1),[(Z1 x38.2.1.Params x38.2.1.Ret x38.2.1.Blocks x38.2.2.1 x38.2.2.2.1 9100005 x38.2.2.2.2.1),(Pi x38.2.2.2.2.1.length),(9100005,.obj (.map true .i64 (Df Q85 x38.2.2.2.2.2)))],[],[]⟩] (ci (gI (Q84 x37)) (ci (gI (Q84 x37)) (ci (gI (Q84 x37)) (ci (gI (Q84 x37)) (ci (gI (Q84 x37)) (ci (gI (Q84 x37)) (ci (gI (Q84 x37)) (ci (gI (Q84 x37)) (ci (gI (Q84 x37)) (ci (fun(hg:(Q84 x37)=true)=>(Lo ((aK.Ops.getD i21.toNat default).Dst) (x37.1,x37.2) (⟨aZ,i21⟩:Gu) (⟨l22,i23,l24⟩:TFunc) i25 l26 l28 l27 x38 (C2 hg hx38))) (ci (gI (Q84 x37)) (c1 (Oa (decide (((0:Int):Int)<x37.1))))))))))))))) ?_;refine Ll (Le.trans (Vh (fun(k_:List (Int×AV)) u=>F4 u [] [(9100005,.obj (.map true .i64 k_))]) (show(bif (Q84 x37) then(Df Q85 x38.2.2.2.2.2) else(Df Q85 l28))=(Df Q85 (bif (Q84 x37) then x38.2.2.2.2.2 else l28)) from(bif_mapE rfl rfl))) (Le.trans (leB (fun g_ u=>(F4 u [] [(30000,.row 103 [(Q87 x37 x38 l22),(Z60 (Q84 x37) x38.2.1.Ret i23),(Q89 x37 x38 l24),(Z60 (Q84 x37) x38.2.2.1 i25),(Q88 x37 x38 l26),(.omap 9100005),(Z23 g_ x38.2.2.2.2.1 l27)]),(37006,.tok 5 149 (bif g_ then x38.2.2.2.2.1.length else l27.length))])) (fun g_ u=>(F4 u [] [(30000,.row 103 [(Q87 x37 x38 l22),(Z60 (Q84 x37) x38.2.1.Ret i23),(Q89 x37 x38 l24),(Z60 (Q84 x37) x38.2.2.1 i25),(Q88 x37 x38 l26),(.omap 9100005),(AV.list 5 Kk default (bif g_ then x38.2.2.2.2.1 else l27) (.own 37006))]),(37006,.tok 5 149 ((bif g_ then x38.2.2.2.2.1 else l27).length))])) (Q84 x37)) (Le.trans (leC 30000 0 (show AVle (Q87 x37 x38 l22) (AV.list 1 Ar 0 (bif (Q84 x37) then x38.2.1.Params else l22) .none) from Hq)) (Le.trans (leC 30000 2 (show AVle (Q89 x37 x38 l24) (AV.list 5 Gg default (bif (Q84 x37) then x38.2.1.Blocks else l24) .none) from Hq)) (leC 30000 4 (show AVle (Q88 x37 x38 l26) (AV.list 1 Ar 0 (bif (Q84 x37) then x38.2.2.2.1 else l26) .none) from Hq)))))) ?_;refine gC h ?_ ?_<;>intro h
     ·refine Ak hq [6] Gn ?_;cases h;exact gO (Pj (J9 V0 (Le.refl _ _)))
     ·refine Ak hq zzN112 Gn ?_;cases h;exact gN Fe
    ·cases h;exact gO (D3 (Du [] Gn hq))
   ·clear hx39;rcases x39 with⟨l29,i30,l31,i32,l33,l34,l35⟩|r41
    ·refine gA ?_;refine Ak hq [6] Gn ?_;cases h;exact Dl V0
    ·refine T0 (fun st' hk=>?_);obtain rfl:=OI h;exact gK hk
  ·refine T0 (fun st' hk=>?_);obtain rfl:=OI h;exact gK hk
def Dp(a3:TFunc):(Int×List (Int×Af))->Option (LR (Int×List (Int×Af)) (List (Int×Af))):=
 fun((i1,l2):(Int×List (Int×Af)))=>(bif (decide (i1<(a3.Params.length:Int))) then(Bw (Bd i1 a3.Params.length) ((C9 (a3.Params.getD i1.toNat 0)).bind fun x5=>(some (.next ((Bb (i1+1)),(Jy l2 (Bb (i1+1)) (⟨x5,(⟨(0:Int),(-1:Int)⟩:Gu)⟩:Af))))))) else(some (.done l2)))
def Cu(a3:TFunc):(Int×List (Int×Af)×List Int×Int×List Ad×Int×List Int×List Ao)->Option (LR (Int×List (Int×Af)×List Int×Int×List Ad×Int×List Int×List Ao) ((List (Int×Af)×List Int×Int×List Ad×Int×List Int×List Ao) ⊕ (Int×TFunc×Int×List Int×List Ao×List (Int×Af)))):=
 fun((i8,l9,l10,i11,l12,i13,l14,l15):(Int×List (Int×Af)×List Int×Int×List Ad×Int×List Int×List Ao))=>(bif (decide (i8<(a3.Blocks.length:Int))) then(Bw (Bd i8 a3.Blocks.length) ((D2 i8 (a3.Blocks.getD i8.toNat default) (⟨l10,i11,l12⟩:TFunc) i13 l14 l9 l15).bind fun x24=>(bif (!x24.1) then(some (.done (.inr ((7:Int),x24.2.1,x24.2.2.1,x24.2.2.2.1,x24.2.2.2.2.1,x24.2.2.2.2.2)))) else(some (.next ((Bb (i8+1)),x24.2.2.2.2.2,x24.2.1.Params,x24.2.1.Ret,x24.2.1.Blocks,x24.2.2.1,x24.2.2.2.1,x24.2.2.2.2.1)))))) else(some (.done (.inl (l9,l10,i11,l12,i13,l14,l15)))))
def Qn(Γ:Hy)(a3:TFunc)(a7:Int)(a9:List Int)(a5:List Ao)(r:(Int×TFunc×Int×List Int×List Ao×List (Int×Af))):Exit->St->Prop:=fK Tryz.prog Γ Tryz.f92.results.toList (Z3 a3.Params a3.Ret a3.Blocks a7 a9 a5 a5.length) (Z7 r.1) [(Z1 r.2.1.Params r.2.1.Ret r.2.1.Blocks r.2.2.1 r.2.2.2.1 9200005 r.2.2.2.2.1),(Pi r.2.2.2.2.1.length),(9200005,.obj (.map false .i64 (Df (fun(v_:Af)=>((Rk v_):AV)) r.2.2.2.2.2)))]
def Q90:=(fun(v_:Af)=>((Rk v_):AV))
def Q91(l16:List (Int×Af))(l17:List Int)(i18:Int)(l19:List Ad)(i20:Int)(l21:List Int)(l22:List Ao):List (Nat×Own):=[(8,.obj (.map true .i64 (Df Q90 l16))),(Z28 l17 i18 l19 i20 l21 l22),(Pi l22.length)]
def Ep(a3:TFunc)(a7:Int)(a9:List Int)(a5:List Ao):Option (Int×TFunc×Int×List Int×List Ao×List (Int×Af)):=
 ((An (Dp a3) ((0:Int),([]:List (Int×Af)))).bind (fun x6=>((An (Cu a3) ((0:Int),x6,a3.Params,a3.Ret,a3.Blocks,a7,a9,a5)).bind (fun x25=>(match x25 with|(.inl (l16,l17,i18,l19,i20,l21,l22))=>(some ((0:Int),(⟨l17,i18,l19⟩:TFunc),i20,l21,l22,l16))|(.inr r27)=>(some r27))))))
theorem Qc(a3:TFunc)(a7:Int)(a9:List Int)(a5:List Ao)(r:(Int×TFunc×Int×List Int×List Ao×List (Int×Af)))(h:Ep a3 a7 a9 a5=some r):Spec Tryz.prog 92 [Z52] (Z3 a3.Params a3.Ret a3.Blocks a7 a9 a5 a5.length) (Z7 r.1) [(Z1 r.2.1.Params r.2.1.Ret r.2.1.Blocks r.2.2.1 r.2.2.2.1 9200005 r.2.2.2.2.1),(Pi r.2.2.2.2.1.length),(9200005,.obj (.map false .i64 (Df (fun(v_:Af)=>((Rk v_):AV)) r.2.2.2.2.2)))]:=by
 refine Ab mix Tryz.func92 (fun Γ hq=>?_);unfold Ep at h;refine Ak hq [0] Gt ?_;refine Ak hq [0] Sq ?_;refine Ll (Vh (fun(k_:List (Int×AV)) u=>F4 u [] [(8,.obj (.map true .i64 k_))]) (show[]=(Df Q90 ([]:List (Int×Af))) from rfl)) ?_;refine Ak hq zzN98 Sq ?_;obtain⟨x6,hx6,h⟩:=bind_some h;refine gL hq hx6 zzN98 Sq (fun u (i1,l2)=>(F4 u [(17,(Z7 i1))] [(8,.obj (.map true .i64 (Df Q90 l2)))])) (fun u l3=>aG Γ (.exit 0) (W8 [0] Sq u [] [(8,.obj (.map true .i64 (Df Q90 l3)))])) ?_ ?_
 ·rintro⟨i1,l2⟩ y h;unfold Dp at h;refine Ak hq [0,15,16,17,18] Sq ?_;refine gC h ?_ ?_<;>intro h
  ·obtain⟨hc4,h⟩:=Aa h;refine gR hq [0,3,4,15,16,17] Sq [] [] (c1 hc4) ?_;obtain⟨x5,hx5,h⟩:=bind_some h;refine gR hq zzN98 Sq [] [(Z64 x5)] (c1 (Jb (a3.Params.getD i1.toNat 0) x5 hx5)) ?_;refine Ll (Vh (fun(k_:List (Int×AV)) u=>F4 u [] [(8,.obj (.map true .i64 k_))]) (show(Jy (Df Q90 l2) (Bb (i1+1)) (.agg [(Z7 x5.1),(Z7 x5.2),Td,(.int .i64 (-1:Int))]))=(Df Q90 (Jy l2 (Bb (i1+1)) (⟨x5,(⟨(0:Int),(-1:Int)⟩:Gu)⟩:Af))) from(mset_eq (f:=Q90) (l:=l2) (v:=(⟨x5,(⟨(0:Int),(-1:Int)⟩:Gu)⟩:Af)) rfl rfl))) ?_;refine Ak hq zzN98 Sq ?_;cases h;exact gN Fe
  ·cases h;exact gO (D3 (Du [0] Sq hq))
 ·clear hx6;refine gA ?_;refine Ak hq zzN135 Sq ?_;obtain⟨x25,hx25,h⟩:=bind_some h;refine gL hq hx25 zzN135 Sq (fun u (i8,l9,l10,i11,l12,i13,l14,l15)=>(F4 u [(39,(Z7 i8))] [(8,.obj (.map true .i64 (Df Q90 l9))),(Z28 l10 i11 l12 i13 l14 l15),(Pi l15.length)])) (fun u x_=>match x_ with|(.inl (l16,l17,i18,l19,i20,l21,l22))=>aG Γ (.exit 2) (⟨[],(Q91 l16 l17 i18 l19 i20 l21 l22),[]⟩:St)|(.inr r_)=>aR (Qn Γ a3 a7 a9 a5 r_)) ?_ ?_
  ·rintro⟨i8,l9,l10,i11,l12,i13,l14,l15⟩ y h;unfold Cu at h;refine Ak hq [0,37,38,39,40] Sq ?_;refine gC h ?_ ?_<;>intro h
   ·obtain⟨hc23,h⟩:=Aa h;refine gR hq [0,5,6,37,38,39] [6,8,30000,37006] [] [] (c1 hc23) ?_;obtain⟨x24,hx24,h⟩:=bind_some h;refine gR hq [0,37,38,39,48] Sq [] [⟨[(30000,30000),(37006,37006),(8,9100005)],[],(.bool x24.1),[(Z1 x24.2.1.Params x24.2.1.Ret x24.2.1.Blocks x24.2.2.1 x24.2.2.2.1 9100005 x24.2.2.2.2.1),(Pi x24.2.2.2.2.1.length),(9100005,.obj (.map true .i64 (Df Q90 x24.2.2.2.2.2)))],[],[]⟩] (c1 (O1 i8 (a3.Blocks.getD i8.toNat default) (⟨l10,i11,l12⟩:TFunc) i13 l14 l9 l15 x24 hx24)) ?_;refine gC h ?_ ?_<;>intro h
    ·refine Ak hq [2] Sq ?_;refine N9 (⟨[(2,(.int .i64 (7:Int)))],[(8,.obj (.map true .i64 (Df Q90 x24.2.2.2.2.2))),(Z28 x24.2.1.Params x24.2.1.Ret x24.2.1.Blocks x24.2.2.1 x24.2.2.2.1 x24.2.2.2.2.1),(Pi x24.2.2.2.2.1.length)],[]⟩:St) ?_;cases h;exact gO (Pj (J9 zzN64 (Le.trans (le_obj (nm:=8) (.map false .i64 (Df Q90 x24.2.2.2.2.2)) rfl (fun _ _ _ _ h_=>objAt_nn h_)) (Du (st':=⟨[(2,(.int .i64 (7:Int)))],[(8,.obj (.map false .i64 (Df Q90 x24.2.2.2.2.2))),(Z28 x24.2.1.Params x24.2.1.Ret x24.2.1.Blocks x24.2.2.1 x24.2.2.2.1 x24.2.2.2.2.1),(Pi x24.2.2.2.2.1.length)],[]⟩) [2] Sq hq))))
    ·refine Ak hq zzN135 Sq ?_;cases h;exact gN Fe
   ·cases h;exact gO (D3 (Du [] Sq hq))
  ·clear hx25;rcases x25 with⟨l16,l17,i18,l19,i20,l21,l22⟩|r27
   ·refine gA ?_;refine Ak hq [2] Sq ?_;refine N9 (⟨[(2,Td)],(Q91 l16 l17 i18 l19 i20 l21 l22),[]⟩:St) ?_;cases h;exact gK (e:=.ret) (J9 zzN64 (Le.trans (le_obj (nm:=8) (.map false .i64 (Df Q90 l16)) rfl (fun _ _ _ _ h_=>objAt_nn h_)) (Du (st':=⟨[(2,Td)],[(8,.obj (.map false .i64 (Df Q90 l16))),(Z28 l17 i18 l19 i20 l21 l22),(Pi l22.length)],[]⟩) [2] Sq hq)))
   ·refine T0 (fun st' hk=>?_);obtain rfl:=OI h;exact gK hk
def D6(aZ:Int)(a3:TFunc)(a7:Int)(a9:List Int)(a6:List (Int×Af))(a5:List Ao):Option (Gu×TFunc×Int×List Int×List Ao):=
 (Bw (Bd aZ a3.Blocks.length) (some ((⟨aZ,(((a3.Blocks.getD aZ.toNat default).Ops).length:Int)⟩:Gu),a3,a7,a9,a5)))
theorem Jz(aZ:Int)(a3:TFunc)(a7:Int)(a9:List Int)(a6:List (Int×Af))(a5:List Ao)(r:(Gu×TFunc×Int×List Int×List Ao))(h:D6 aZ a3 a7 a9 a6 a5=some r):Spec Tryz.prog 146 [Z52,(Z7 aZ)] [(Z1 a3.Params a3.Ret a3.Blocks a7 a9 9100005 a5),(Pi a5.length),(9100005,.obj (.map false .i64 (Df (fun(v_:Af)=>((Rk v_):AV)) a6)))] (.agg (eTplace r.1)) [(Z1 r.2.1.Params r.2.1.Ret r.2.1.Blocks r.2.2.1 r.2.2.2.1 9100005 r.2.2.2.2),(Pi r.2.2.2.2.length),(9100005,.obj (.map false .i64 (Df (fun(v_:Af)=>((Rk v_):AV)) a6)))]:=by
 refine Ab mix Tryz.func146 (fun Γ hq=>?_);unfold D6 at h;refine Ak hq [0,1,4] zzN118 ?_;obtain⟨hc1,h⟩:=Aa h;refine gR hq [4] zzN118 [] [] (c1 hc1) ?_;cases h;exact Dl V0
def Dg(aD:Int)(aa0:(Int×Int))(aC:Gu)(a3:TFunc)(a7:Int)(a9:List Int)(a6:List (Int×Af))(a5:List Ao):Option (TFunc×Int×List Int×List Ao):=
 (Bw (a5.length+([(⟨aD,aa0,aC⟩:Ao)]:List Ao).length<=room) (some (a3,a7,a9,(a5++([(⟨aD,aa0,aC⟩:Ao)]:List Ao)))))
theorem Hv(aD:Int)(aa0:(Int×Int))(aC:Gu)(a3:TFunc)(a7:Int)(a9:List Int)(a6:List (Int×Af))(a5:List Ao)(r:(TFunc×Int×List Int×List Ao))(h:Dg aD aa0 aC a3 a7 a9 a6 a5=some r):Spec Tryz.prog 145 [Z52,(Z7 aD),(.agg (Bz aa0)),(.agg (eTplace aC))] [(Z1 a3.Params a3.Ret a3.Blocks a7 a9 9100005 a5),(Pi a5.length),(9100005,.obj (.map false .i64 (Df (fun(v_:Af)=>((Rk v_):AV)) a6)))] (.tuple []) [(Z1 r.1.Params r.1.Ret r.1.Blocks r.2.1 r.2.2.1 9100005 r.2.2.2),(Pi r.2.2.2.length),(9100005,.obj (.map false .i64 (Df (fun(v_:Af)=>((Rk v_):AV)) a6)))]:=by
 refine Ab mix Tryz.func145 (fun Γ hq=>?_);unfold Dg at h;refine Ak hq [0,1,6,7] zzN47 ?_;obtain⟨hc1,h⟩:=Aa h;refine gR hq [] Gn [(17,(AV.list 5 Kk default ([(⟨aD,aa0,aC⟩:Ao)]:List Ao) .exact)),(18,(AV.list 5 Kk default (a5++([(⟨aD,aa0,aC⟩:Ao)]:List Ao)) (.own 37006)))] [] (ci (Ca 5 Kk (default:Ao) ([(⟨aD,aa0,aC⟩:Ao)]:List Ao)) (ci (Eq.refl a5.length) (ci hc1 (ci (M2 5 37006 Kk (default:Ao) a5 ([(⟨aD,aa0,aC⟩:Ao)]:List Ao)) (c1 (He a5 ([(⟨aD,aa0,aC⟩:Ao)]:List Ao))))))) ?_;cases h;exact gK (e:=.normal) (J9 V0 (Le.refl _ _))
def Q92:List (Nat×AV):=[(2,Z42)]
def Kd(a2:E7):Option (List (Int×Int)):=
 ((Lj a2).bind fun x1=>(bif (!x1) then(some ([]:List (Int×Int))) else((Kf a2).bind fun x2=>(some x2))))
theorem ok_kind_Takes(a2:E7)(r:List ((Int×Int)))(h:Kd a2=some r):Spec Tryz.prog 147 [(.agg (J8 a2))] [] (Z6 r) []:=by
 refine Ab mix Tryz.func147 (fun Γ hq=>?_);unfold Kd at h;refine gR hq [1] [1] Q92 [] (c1 (Dx 2 Bz ((0:Int),(0:Int)))) ?_;obtain⟨x1,hx1,h⟩:=bind_some h;refine gR hq [1,5] [1] [] [(Z2 x1)] (c1 (Ue a2 x1 hx1)) ?_;refine gC h ?_ ?_<;>intro h
 ·refine gR hq [2] [] Q92 [] (c1 (Dx 2 Bz ((0:Int),(0:Int)))) ?_;refine N9 (⟨Q92,[],[]⟩:St) ?_;cases h;exact gK (e:=.ret) (J9 [] (show Le Γ _ (⟨[(2,(AV.list 2 Bz ((0:Int),(0:Int)) ([]:List (Int×Int)) .none))],[],[]⟩:St) from Le.trans (Du (st':=⟨Q92,[],[]⟩) [2] [] hq) (Na (.cons AVle.untag .nil) .nil)))
 ·obtain⟨x2,hx2,h⟩:=bind_some h;refine gR hq [2] [] [] [(Z35 x2)] (c1 (Wb a2 x2 hx2)) ?_;obtain rfl:=OI h;exact Dl []
def Cp(a3:TFunc)(a6:List (Int×Af))(i1:Int)(i21:Int):(Int×List Int×Int×List Ad×Int×List Int×List Ao)->Option (LR (Int×List Int×Int×List Ad×Int×List Int×List Ao) (List Int×Int×List Ad×Int×List Int×List Ao)):=
 fun((i35,l36,i37,l38,i39,l40,l41):(Int×List Int×Int×List Ad×Int×List Int×List Ao))=>(bif (decide (i35<(((((a3.Blocks.getD i1.toNat default).Phis).getD i21.toNat default).Args).length:Int))) then(Bw (Bd i35 ((((a3.Blocks.getD i1.toNat default).Phis).getD i21.toNat default).Args).length) ((C9 ((((a3.Blocks.getD i1.toNat default).Phis).getD i21.toNat default).Bits)).bind fun x49=>(Bw (Bd i35 ((((a3.Blocks.getD i1.toNat default).Phis).getD i21.toNat default).From).length) ((D6 (((((a3.Blocks.getD i1.toNat default).Phis).getD i21.toNat default).From).getD i35.toNat 0) (⟨l36,i37,l38⟩:TFunc) i39 l40 a6 l41).bind fun x51=>((Dg (((((a3.Blocks.getD i1.toNat default).Phis).getD i21.toNat default).Args).getD i35.toNat 0) x49 x51.1 x51.2.1 x51.2.2.1 x51.2.2.2.1 a6 x51.2.2.2.2).bind fun x52=>(some (.next ((Bb (i35+1)),x52.1.Params,x52.1.Ret,x52.1.Blocks,x52.2.1,x52.2.2.1,x52.2.2.2)))))))) else(some (.done (l36,i37,l38,i39,l40,l41))))
def Cq(a3:TFunc)(a6:List (Int×Af))(i1:Int):(Int×List Int×Int×List Ad×Int×List Int×List Ao)->Option (LR (Int×List Int×Int×List Ad×Int×List Int×List Ao) (List Int×Int×List Ad×Int×List Int×List Ao)):=
 fun((i21,l22,i23,l24,i25,l26,l27):(Int×List Int×Int×List Ad×Int×List Int×List Ao))=>(bif (decide (i21<(((a3.Blocks.getD i1.toNat default).Phis).length:Int))) then(Bw (Bd i21 ((a3.Blocks.getD i1.toNat default).Phis).length) ((An (Cp a3 a6 i1 i21) ((0:Int),l22,i23,l24,i25,l26,l27)).bind (fun(l42,i43,l44,i45,l46,l47)=>(some (.next ((Bb (i21+1)),l42,i43,l44,i45,l46,l47)))))) else(some (.done (l22,i23,l24,i25,l26,l27))))
def Cr(a3:TFunc)(a6:List (Int×Af))(i1:Int)(i57:Int)(x71:List ((Int×Int))):(Int×List Int×Int×List Ad×Int×List Int×List Ao)->Option (LR (Int×List Int×Int×List Ad×Int×List Int×List Ao) (List Int×Int×List Ad×Int×List Int×List Ao)):=
 fun((i72,l73,i74,l75,i76,l77,l78):(Int×List Int×Int×List Ad×Int×List Int×List Ao))=>(bif (decide (i72<(x71.length:Int))) then(Bw (Bd i72 x71.length) (Bw (Bd i72 ((((a3.Blocks.getD i1.toNat default).Ops).getD i57.toNat default).Args).length) ((Dg (((((a3.Blocks.getD i1.toNat default).Ops).getD i57.toNat default).Args).getD i72.toNat 0) (x71.getD i72.toNat ((0:Int),(0:Int))) (⟨i1,i57⟩:Gu) (⟨l73,i74,l75⟩:TFunc) i76 l77 a6 l78).bind fun x87=>(some (.next ((Bb (i72+1)),x87.1.Params,x87.1.Ret,x87.1.Blocks,x87.2.1,x87.2.2.1,x87.2.2.2)))))) else(some (.done (l73,i74,l75,i76,l77,l78))))
def Cs(a3:TFunc)(a6:List (Int×Af))(i1:Int):(Int×List Int×Int×List Ad×Int×List Int×List Ao)->Option (LR (Int×List Int×Int×List Ad×Int×List Int×List Ao) (List Int×Int×List Ad×Int×List Int×List Ao)):=
 fun((i57,l58,i59,l60,i61,l62,l63):(Int×List Int×Int×List Ad×Int×List Int×List Ao))=>(bif (decide (i57<(((a3.Blocks.getD i1.toNat default).Ops).length:Int))) then(Bw (Bd i57 ((a3.Blocks.getD i1.toNat default).Ops).length) ((Kd (((a3.Blocks.getD i1.toNat default).Ops).getD i57.toNat default)).bind fun x71=>((An (Cr a3 a6 i1 i57 x71) ((0:Int),l58,i59,l60,i61,l62,l63)).bind (fun(l79,i80,l81,i82,l83,l84)=>(some (.next ((Bb (i57+1)),l79,i80,l81,i82,l83,l84))))))) else(some (.done (l58,i59,l60,i61,l62,l63))))
def Ct(a3:TFunc)(a6:List (Int×Af)):(Int×List Int×Int×List Ad×Int×List Int×List Ao)->Option (LR (Int×List Int×Int×List Ad×Int×List Int×List Ao) (List Int×Int×List Ad×Int×List Int×List Ao)):=
 fun((i1,l2,i3,l4,i5,l6,l7):(Int×List Int×Int×List Ad×Int×List Int×List Ao))=>(bif (decide (i1<(a3.Blocks.length:Int))) then(Option.bind (α:=(List Int×Int×List Ad×Int×List Int×List Ao)) (Bw (Bd i1 a3.Blocks.length) ((An (Cq a3 a6 i1) ((0:Int),l2,i3,l4,i5,l6,l7)).bind (fun x55=>(match x55 with|(l28,i29,l30,i31,l32,l33)=>((An (Cs a3 a6 i1) ((0:Int),l28,i29,l30,i31,l32,l33)).bind (fun x90=>(match x90 with|(l64,i65,l66,i67,l68,l69)=>(bif (((a3.Blocks.getD i1.toNat default).End.Kind:Int)==0) then((C9 i65).bind fun x92=>((D6 i1 (⟨l64,i65,l66⟩:TFunc) i67 l68 a6 l69).bind fun x93=>((Dg ((a3.Blocks.getD i1.toNat default).End.Arg) x92 x93.1 x93.2.1 x93.2.2.1 x93.2.2.2.1 a6 x93.2.2.2.2).bind fun x94=>(some (x94.1.Params,x94.1.Ret,x94.1.Blocks,x94.2.1,x94.2.2.1,x94.2.2.2))))) else(bif (((a3.Blocks.getD i1.toNat default).End.Kind:Int)==2) then((C9 (1:Int)).bind fun x95=>((D6 i1 (⟨l64,i65,l66⟩:TFunc) i67 l68 a6 l69).bind fun x96=>((Dg ((a3.Blocks.getD i1.toNat default).End.Arg) x95 x96.1 x96.2.1 x96.2.2.1 x96.2.2.2.1 a6 x96.2.2.2.2).bind fun x97=>(some (x97.1.Params,x97.1.Ret,x97.1.Blocks,x97.2.1,x97.2.2.1,x97.2.2.2))))) else(some (l64,i65,l66,i67,l68,l69))))))))))) (fun x98=>(match x98 with|(l14,i15,l16,i17,l18,l19)=>(some (.next ((Bb (i1+1)),l14,i15,l16,i17,l18,l19)))))) else(some (.done (l2,i3,l4,i5,l6,l7))))
def Q94(a3:TFunc)(i1:Int):=(a3.Blocks.getD i1.toNat default)
def Q93(a6:List (Int×Af)):=(Df (fun(v_:Af)=>((Rk v_):AV)) a6)
def Eo(a3:TFunc)(a7:Int)(a9:List Int)(a6:List (Int×Af))(a5:List Ao):Option (TFunc×Int×List Int×List Ao):=
 ((An (Ct a3 a6) ((0:Int),a3.Params,a3.Ret,a3.Blocks,a7,a9,a5)).bind (fun(l8,i9,l10,i11,l12,l13)=>(some ((⟨l8,i9,l10⟩:TFunc),i11,l12,l13))))
theorem Qb(a3:TFunc)(a7:Int)(a9:List Int)(a6:List (Int×Af))(a5:List Ao)(r:(TFunc×Int×List Int×List Ao))(h:Eo a3 a7 a9 a6 a5=some r):Spec Tryz.prog 114 [Z52] [(Z1 a3.Params a3.Ret a3.Blocks a7 a9 9100005 a5),(Pi a5.length),(9100005,.obj (.map false .i64 (Df (fun(v_:Af)=>((Rk v_):AV)) a6)))] (.tuple []) [(Z1 r.1.Params r.1.Ret r.1.Blocks r.2.1 r.2.2.1 9100005 r.2.2.2),(Pi r.2.2.2.length),(9100005,.obj (.map false .i64 (Df (fun(v_:Af)=>((Rk v_):AV)) a6)))]:=by
 refine Ab mix Tryz.func114 (fun Γ hq=>?_);unfold Eo at h;refine Ak hq zzN67 Gn ?_;obtain⟨x100,hx100,h⟩:=bind_some h;refine gL hq hx100 zzN67 Gn (fun u (i1,l2,i3,l4,i5,l6,l7)=>(F4 u [(18,(Z7 i1))] (Z31 l2 i3 l4 i5 l6 l7 l7.length))) (fun u (l8,i9,l10,i11,l12,l13)=>aG Γ (.exit 0) (W8 [] Gn u [] (Z31 l8 i9 l10 i11 l12 l13 l13.length))) ?_ ?_
 ·rintro⟨i1,l2,i3,l4,i5,l6,l7⟩ y h;unfold Ct at h;refine Ak hq [0,16,17,18,19] Gn ?_;refine gC h ?_ ?_<;>intro h
  ·obtain⟨x98,hx98,h⟩:=bind_some h;refine gJ hx98 (fun(l14,i15,l16,i17,l18,l19)=>aG Γ .normal (⟨[(0,Z52),(16,(Z21 a3.Blocks)),(17,(Z54 a3.Blocks.length)),(18,(Z7 i1))],(Z10 l14 i15 l16 i17 l18 l19 l19.length (Q93 a6)),[]⟩:St)) ?_ ?_
   ·clear h hx98;intro y h;obtain⟨hc20,h⟩:=Aa h;refine gR hq zzN56 Ny [] [] (c1 hc20) ?_;refine Ak hq zzN26 Ny ?_;obtain⟨x55,hx55,h⟩:=bind_some h;refine gL hq hx55 zzN26 Ny (fun u (i21,l22,i23,l24,i25,l26,l27)=>(F4 u [(26,(Z7 i21))] (Z31 l22 i23 l24 i25 l26 l27 l27.length))) (fun u (l28,i29,l30,i31,l32,l33)=>aG Γ (.exit 2) (W8 zzN56 Ny u [] (Z31 l28 i29 l30 i31 l32 l33 l33.length))) ?_ ?_
    ·rintro⟨i21,l22,i23,l24,i25,l26,l27⟩ y h;unfold Cq at h;refine Ak hq [0,2,3,16,17,18,24,25,26,27] Ny ?_;refine gC h ?_ ?_<;>intro h
     ·obtain⟨hc34,h⟩:=Aa h;refine gR hq [0,2,3,5,16,17,18,24,25,26] Yt [] [] (c1 hc34) ?_;refine Ak hq zzN18 Yt ?_;obtain⟨x53,hx53,h⟩:=bind_some h;refine gL hq hx53 zzN18 Yt (fun u (i35,l36,i37,l38,i39,l40,l41)=>(F4 u [(33,(Z7 i35))] (Z31 l36 i37 l38 i39 l40 l41 l41.length))) (fun u (l42,i43,l44,i45,l46,l47)=>aG Γ (.exit 4) (W8 zzN26 Ny u [] (Z31 l42 i43 l44 i45 l46 l47 l47.length))) ?_ ?_
      ·rintro⟨i35,l36,i37,l38,i39,l40,l41⟩ y h;unfold Cp at h;refine Ak hq [0,2,3,5,16,17,18,24,25,26,31,32,33,34] Yt ?_;refine gC h ?_ ?_<;>intro h
       ·obtain⟨hc48,h⟩:=Aa h;refine gR hq [0,2,3,5,6,7,16,17,18,24,25,26,31,32,33] Yt [] [] (c1 hc48) ?_;obtain⟨x49,hx49,h⟩:=bind_some h;obtain⟨hc50,h⟩:=Aa h;obtain⟨x51,hx51,h⟩:=bind_some h;obtain⟨x52,hx52,h⟩:=bind_some h;refine gR hq zzN18 Yt [] [(Z64 x49),(Z51 x51.1 x51.2.1.Params x51.2.1.Ret x51.2.1.Blocks x51.2.2.1 x51.2.2.2.1 x51.2.2.2.2 x51.2.2.2.2.length (Q93 a6)),(Z20 x52.1.Params x52.1.Ret x52.1.Blocks x52.2.1 x52.2.2.1 x52.2.2.2 x52.2.2.2.length (Q93 a6))] (ci (Jb ((((Q94 a3 i1).Phis).getD i21.toNat default).Bits) x49 hx49) (ci hc50 (ci (Jz (((((Q94 a3 i1).Phis).getD i21.toNat default).From).getD i35.toNat 0) (⟨l36,i37,l38⟩:TFunc) i39 l40 a6 l41 x51 hx51) (c1 (Hv (((((Q94 a3 i1).Phis).getD i21.toNat default).Args).getD i35.toNat 0) x49 x51.1 x51.2.1 x51.2.2.1 x51.2.2.2.1 a6 x51.2.2.2.2 x52 hx52))))) ?_;refine Ak hq zzN18 Yt ?_;cases h;exact gN Fe
       ·cases h;exact gO (D3 (Du zzN26 Ny hq))
      ·clear hx53;rcases x53 with⟨l42,i43,l44,i45,l46,l47⟩;refine gA ?_;refine Ak hq zzN26 Ny ?_;cases h;exact gN Fe
     ·cases h;exact gO (D3 (Du zzN56 Ny hq))
    ·clear hx55;rcases x55 with⟨l28,i29,l30,i31,l32,l33⟩;refine gA ?_;refine Ak hq zzN27 Ny ?_;obtain⟨x90,hx90,h⟩:=bind_some h;refine gL hq hx90 zzN27 Ny (fun u (i57,l58,i59,l60,i61,l62,l63)=>(F4 u [(56,(Z7 i57))] (Z31 l58 i59 l60 i61 l62 l63 l63.length))) (fun u (l64,i65,l66,i67,l68,l69)=>aG Γ (.exit 6) (W8 zzN56 Ny u [] (Z31 l64 i65 l66 i67 l68 l69 l69.length))) ?_ ?_
     ·rintro⟨i57,l58,i59,l60,i61,l62,l63⟩ y h;unfold Cs at h;refine Ak hq [0,2,3,16,17,18,54,55,56,57] Ny ?_;refine gC h ?_ ?_<;>intro h
      ·obtain⟨hc70,h⟩:=Aa h;refine gR hq [0,2,3,8,9,16,17,18,54,55,56] zzN23 [] [] (c1 hc70) ?_;obtain⟨x71,hx71,h⟩:=bind_some h;refine gR hq zzN16 zzN23 [] [(Z35 x71)] (c1 (ok_kind_Takes (((Q94 a3 i1).Ops).getD i57.toNat default) x71 hx71)) ?_;obtain⟨x88,hx88,h⟩:=bind_some h;refine gL hq hx88 zzN16 zzN23 (fun u (i72,l73,i74,l75,i76,l77,l78)=>(F4 u [(64,(Z7 i72))] (Z31 l73 i74 l75 i76 l77 l78 l78.length))) (fun u (l79,i80,l81,i82,l83,l84)=>aG Γ (.exit 8) (W8 zzN27 Ny u [] (Z31 l79 i80 l81 i82 l83 l84 l84.length))) ?_ ?_
       ·rintro⟨i72,l73,i74,l75,i76,l77,l78⟩ y h;unfold Cr at h;refine Ak hq [0,2,3,8,9,16,17,18,54,55,56,62,63,64,65] zzN23 ?_;refine gC h ?_ ?_<;>intro h
        ·obtain⟨hc85,h⟩:=Aa h;refine gR hq [0,2,3,8,9,10,11,16,17,18,54,55,56,62,63,64] [3,9,11,30000,37006,9100005] [] [] (c1 hc85) ?_;obtain⟨hc86,h⟩:=Aa h;obtain⟨x87,hx87,h⟩:=bind_some h;refine gR hq zzN16 zzN23 [] [(Z20 x87.1.Params x87.1.Ret x87.1.Blocks x87.2.1 x87.2.2.1 x87.2.2.2 x87.2.2.2.length (Q93 a6))] (ci hc86 (c1 (Hv (((((Q94 a3 i1).Ops).getD i57.toNat default).Args).getD i72.toNat 0) (x71.getD i72.toNat ((0:Int),(0:Int))) (⟨i1,i57⟩:Gu) (⟨l73,i74,l75⟩:TFunc) i76 l77 a6 l78 x87 hx87))) ?_;refine Ak hq zzN16 zzN23 ?_;cases h;exact gN Fe
        ·cases h;exact gO (D3 (Du zzN27 Ny hq))
       ·clear hx88;rcases x88 with⟨l79,i80,l81,i82,l83,l84⟩;refine gA ?_;refine Ak hq zzN27 Ny ?_;cases h;exact gN Fe
      ·cases h;exact gO (D3 (Du zzN56 Ny hq))
     ·clear hx90;rcases x90 with⟨l64,i65,l66,i67,l68,l69⟩;refine gA ?_;refine Ak hq [0,2,3,16,17,18,84] Ny ?_;refine Ak hq [0,2,3,16,17,18,84,85] Ny ?_;refine gC h ?_ ?_<;>intro h
      ·obtain⟨x92,hx92,h⟩:=bind_some h;obtain⟨x93,hx93,h⟩:=bind_some h;obtain⟨x94,hx94,h⟩:=bind_some h;refine gR hq zzN67 Gn [] [(Z64 x92),(Z51 x93.1 x93.2.1.Params x93.2.1.Ret x93.2.1.Blocks x93.2.2.1 x93.2.2.2.1 x93.2.2.2.2 x93.2.2.2.2.length (Q93 a6)),(Z20 x94.1.Params x94.1.Ret x94.1.Blocks x94.2.1 x94.2.2.1 x94.2.2.2 x94.2.2.2.length (Q93 a6))] (ci (Jb i65 x92 hx92) (ci (Jz i1 (⟨l64,i65,l66⟩:TFunc) i67 l68 a6 l69 x93 hx93) (c1 (Hv ((Q94 a3 i1).End.Arg) x92 x93.1 x93.2.1 x93.2.2.1 x93.2.2.2.1 a6 x93.2.2.2.2 x94 hx94)))) ?_;cases h;exact gK (D3 Fe)
      ·refine Ak hq [0,2,3,16,17,18,101] Ny ?_;refine gC h ?_ ?_<;>intro h
       ·obtain⟨x95,hx95,h⟩:=bind_some h;obtain⟨x96,hx96,h⟩:=bind_some h;obtain⟨x97,hx97,h⟩:=bind_some h;refine gR hq zzN67 Gn [] [(Z64 x95),(Z51 x96.1 x96.2.1.Params x96.2.1.Ret x96.2.1.Blocks x96.2.2.1 x96.2.2.2.1 x96.2.2.2.2 x96.2.2.2.2.length (Q93 a6)),(Z20 x97.1.Params x97.1.Ret x97.1.Blocks x97.2.1 x97.2.2.1 x97.2.2.2 x97.2.2.2.length (Q93 a6))] (ci (Jb (1:Int) x95 hx95) (ci (Jz i1 (⟨l64,i65,l66⟩:TFunc) i67 l68 a6 l69 x96 hx96) (c1 (Hv ((Q94 a3 i1).End.Arg) x95 x96.1 x96.2.1 x96.2.2.1 x96.2.2.2.1 a6 x96.2.2.2.2 x97 hx97)))) ?_;cases h;exact gK (D3 Fe)
       ·cases h;exact gK (D3 (Du zzN67 Gn hq))
   ·clear hx98;rcases x98 with⟨l14,i15,l16,i17,l18,l19⟩;refine gA ?_;refine Ak hq zzN67 Gn ?_;cases h;exact gN Fe
  ·cases h;exact gO (D3 (Du [] Gn hq))
 ·clear hx100;rcases x100 with⟨l8,i9,l10,i11,l12,l13⟩;refine gA' (fun st' hl101=>?_);cases h;exact gK (e:=.normal) (J9 V0 hl101)
def Gh(aN:Ao)(a3:TFunc)(a7:Int)(a9:List Int)(a6:List (Int×Af))(a5:List Ao):Option (Bool×TFunc×Int×List Int×List Ao):=
 (some ((Ei a6 aN.v),a3,a7,a9,a5))
theorem Qe(aN:Ao)(a3:TFunc)(a7:Int)(a9:List Int)(a6:List (Int×Af))(a5:List Ao)(r:(Bool×TFunc×Int×List Int×List Ao))(h:Gh aN a3 a7 a9 a6 a5=some r):Spec Tryz.prog 115 [Z52,(.agg (Kk aN))] [(Z1 a3.Params a3.Ret a3.Blocks a7 a9 9100005 a5),(Pi a5.length),(9100005,.obj (.map false .i64 (Df (fun(v_:Af)=>((Rk v_):AV)) a6)))] (.bool r.1) [(Z1 r.2.1.Params r.2.1.Ret r.2.1.Blocks r.2.2.1 r.2.2.2.1 9100005 r.2.2.2.2),(Pi r.2.2.2.2.length),(9100005,.obj (.map false .i64 (Df (fun(v_:Af)=>((Rk v_):AV)) a6)))]:=by
 refine Ab mix Tryz.func115 (fun Γ hq=>?_);unfold Gh at h;refine Ak hq Re Ny ?_;refine gR hq [6] Gn [(14,(.tuple [(Z33 a6 aN.v),(.bool (Ei a6 aN.v))]))] [] (c1 (show(AVle (.tuple [Fq (.agg [Td,Td,Td,Td]) (Df (fun(v_:Af)=>((Rk v_):AV)) a6) aN.v,.bool (Ei (Df (fun(v_:Af)=>((Rk v_):AV)) a6) aN.v)]) (.tuple [(Z33 a6 aN.v),(.bool (Ei a6 aN.v))])) from(mlook_le (f:=(fun(v_:Af)=>((Rk v_):AV))) (l:=a6) (AVle.refl _) rfl))) ?_;refine Ak hq [4] Gn ?_;cases h;exact Dl V0
def Hs(aN:Ao)(a3:TFunc)(a7:Int)(a9:List Int)(a6:List (Int×Af))(a5:List Ao):Option (Bool×TFunc×Int×List Int×List Ao):=
 (some (((((Fq (default:Af) a6 aN.v).shape.1:Int)==aN.shape.1)&&((((Fq (default:Af) a6 aN.v).shape.2:Int)==aN.shape.2)&&true)),a3,a7,a9,a5))
theorem Tg(aN:Ao)(a3:TFunc)(a7:Int)(a9:List Int)(a6:List (Int×Af))(a5:List Ao)(r:(Bool×TFunc×Int×List Int×List Ao))(h:Hs aN a3 a7 a9 a6 a5=some r):Spec Tryz.prog 116 [Z52,(.agg (Kk aN))] [(Z1 a3.Params a3.Ret a3.Blocks a7 a9 9100005 a5),(Pi a5.length),(9100005,.obj (.map false .i64 (Df (fun(v_:Af)=>((Rk v_):AV)) a6)))] (.bool r.1) [(Z1 r.2.1.Params r.2.1.Ret r.2.1.Blocks r.2.2.1 r.2.2.2.1 9100005 r.2.2.2.2),(Pi r.2.2.2.2.length),(9100005,.obj (.map false .i64 (Df (fun(v_:Af)=>((Rk v_):AV)) a6)))]:=by
 refine Ab mix Tryz.func116 (fun Γ hq=>?_);unfold Hs at h;refine Ak hq Re Ny ?_;refine gR hq [4] Gn [(11,(Z33 a6 aN.v))] [] (c1 (show(AVle (Fq (.agg [Td,Td,Td,Td]) (Df (fun(v_:Af)=>((Rk v_):AV)) a6) aN.v) (Z33 a6 aN.v)) from(mget_le (f:=(fun(v_:Af)=>((Rk v_):AV))) (l:=a6) (AVle.refl _) rfl))) ?_;cases h;exact Dl V0
def Bu(aE:List Int)(aD:Int):Int->Option (LR Int (Unit ⊕ Int)):=
 fun(i1:Int)=>(bif (decide (i1<(aE.length:Int))) then(Bw (Bd i1 aE.length) (bif (aD==(aE.getD i1.toNat 0)) then(some (.done (.inr i1))) else(some (.next (Bb (i1+1)))))) else(some (.done (.inl ()))))
def Ri(Γ:Hy)(aE:List Int)(aD:Int)(r:Int):Exit->St->Prop:=fK Tryz.prog Γ Tryz.f131.results.toList [] (.int .i64 r) []
def D1(aE:List Int)(aD:Int):Option Int:=
 ((An (Bu aE aD) (0:Int)).bind (fun x3=>(match x3 with|(.inl _)=>(some (-1:Int))|(.inr r5)=>(some r5))))
theorem Qw(aE:List Int)(aD:Int)(r:Int)(h:D1 aE aD=some r):Spec Tryz.prog 131 [(Z8 aE),(Z7 aD)] [] (.int .i64 r) []:=by
 refine Ab mix Tryz.func131 (fun Γ hq=>?_);unfold D1 at h;refine Ak hq Ip [] ?_;refine Ak hq Yx [] ?_;obtain⟨x3,hx3,h⟩:=bind_some h;refine gL hq hx3 Yx [] (fun u i1=>(F4 u [(8,(Z7 i1))] [])) (fun u x_=>match x_ with|(.inl _)=>aG Γ (.exit 0) (⟨[],[],[]⟩:St)|(.inr r_)=>aR (Ri Γ aE aD r_)) ?_ ?_
 ·intro i1 y h;unfold Bu at h;refine Ak hq zzN136 [] ?_;refine gC h ?_ ?_<;>intro h
  ·refine Ak hq zzN137 [] ?_;obtain⟨hc2,h⟩:=Aa h;refine gR hq zzN105 [] [] [] (c1 hc2) ?_;refine gC h ?_ ?_<;>intro h
   ·refine Ak hq [4] [] ?_;cases h;exact gO (Pj (J9 [] (Le.refl _ _)))
   ·refine Ak hq Yx [] ?_;cases h;exact gN Fe
  ·cases h;exact gO (D3 (Du [] [] hq))
 ·clear hx3;rcases x3 with _|r5
  ·refine gA ?_;refine Ak hq [4] [] ?_;cases h;exact Dl []
  ·refine T0 (fun st' hk=>?_);obtain rfl:=OI h;exact gK hk
def H0(aA:List Int)(aC:Int):Option Bool:=
 (some (bif (decide (((0:Int):Int)<=aC)) then(decide (aC<(aA.length:Int))) else false))
theorem Ua(aA:List Int)(aC:Int)(r:Bool)(h:H0 aA aC=some r):Spec Tryz.prog 133 [(Z8 aA),(Z7 aC)] [] (.bool r) []:=by
 refine Ab mix Tryz.func133 (fun Γ hq=>?_);unfold H0 at h;refine Ak hq Ip [] ?_;refine gR hq [4] [] [] [] (ci (gI ((decide (((0:Int):Int)<=aC))==true)) (ci (gI ((decide (((0:Int):Int)<=aC))==true)) (ci (gI ((decide (((0:Int):Int)<=aC))==true)) (c1 (Oa (decide (((0:Int):Int)<=aC))))))) ?_;cases h;exact Dl []
def Cy(aA:List Int)(aa5:Int)(aX:Int):(Int×List Int)->Option (LR (Int×List Int) (List Int ⊕ (Bool×List Int))):=
 fun((i1,l2):(Int×List Int))=>(bif (i1 !=aX) then(Bw (Bd i1 l2.length) (bif (((l2.getD i1.toNat 0):Int)!=0) then(Bw (Bd i1 l2.length) (some (.done (.inr ((((l2.getD i1.toNat 0):Int)!=(Bb (aa5+1))),l2))))) else(Bw (Bd i1 aA.length) ((H0 aA (aA.getD i1.toNat 0)).bind fun x7=>(bif (!x7) then(some (.done (.inr (false,l2)))) else(Bw (Bd i1 l2.length) (Bw (Bd i1 aA.length) (some (.next ((aA.getD i1.toNat 0),(l2.set i1.toNat (Bb (aa5+1))))))))))))) else(some (.done (.inl l2))))
def K_dom_leads(Γ:Hy)(aA:List Int)(aaH:List Int)(aa5:Int)(aX:Int)(r:(Bool×List Int)):Exit->St->Prop:=fK Tryz.prog Γ Tryz.f132.results.toList [(Z4 34001 aaH)] (.bool r.1) [(Z4 34001 r.2)]
def Nf(aA:List Int)(aaH:List Int)(aa5:Int)(aX:Int):Option (Bool×List Int):=
 ((An (Cy aA aa5 aX) (aa5,aaH)).bind (fun x10=>(match x10 with|(.inl l3)=>(some (true,l3))|(.inr r12)=>(some r12))))
theorem ok_dom_leads(aA:List Int)(aaH:List Int)(aa5:Int)(aX:Int)(r:(Bool×List Int))(h:Nf aA aaH aa5 aX=some r):Spec Tryz.prog 132 [(Z8 aA),(.vsl 34001 aaH.length),(Z7 aa5),(Z7 aX)] [(Z4 34001 aaH)] (.bool r.1) [(Z4 34001 r.2)]:=by
 refine Ab mix Tryz.func132 (fun Γ hq=>?_);unfold Nf at h;refine Ak hq [0,1,2,3] [34001] ?_;refine Ak hq [0,1,2,3,9] [34001] ?_;refine Ak hq zzN93 [34001] ?_;obtain⟨x10,hx10,h⟩:=bind_some h;refine gL hq hx10 zzN93 [34001] (fun u (i1,l2)=>(F4 u [(1,(.vsl 34001 l2.length)),(10,(Z7 i1))] [(Z4 34001 l2)])) (fun u x_=>match x_ with|(.inl l3)=>aG Γ (.exit 0) (⟨[],[(Z4 34001 l3)],[]⟩:St)|(.inr r_)=>aR (K_dom_leads Γ aA aaH aa5 aX r_)) ?_ ?_
 ·rintro⟨i1,l2⟩ y h;unfold Cy at h;refine Ak hq [0,1,3,9,10,16] [34001] ?_;refine gC h ?_ ?_<;>intro h
  ·obtain⟨hc4,h⟩:=Aa h;refine gR hq [0,1,3,9,10,25] [34001] [] [] (ci hc4 (c1 (Eq.refl l2.length))) ?_;refine gC h ?_ ?_<;>intro h
   ·obtain⟨hc5,h⟩:=Aa h;refine gR hq [8] [34001] [] [] (ci hc5 (c1 (Eq.refl l2.length))) ?_;cases h;exact gO (Pj (J9 zzN125 (Le.refl _ _)))
   ·obtain⟨hc6,h⟩:=Aa h;obtain⟨x7,hx7,h⟩:=bind_some h;refine gR hq [0,1,3,9,10,38] [34001] [] [(Z2 x7)] (ci hc6 (c1 (Ua aA (aA.getD i1.toNat 0) x7 hx7))) ?_;refine gC h ?_ ?_<;>intro h
    ·refine Ak hq [8] [34001] ?_;cases h;exact gO (Pj (J9 zzN125 (Le.refl _ _)))
    ·obtain⟨hc8,h⟩:=Aa h;refine gR hq zzN93 [34001] [] [] (ci hc8 (c1 (Eq.refl l2.length))) ?_;refine Ll (Le.trans (Rz 34001 (show ∀ k_,k_<l2.length->AVleL ((fun i_=>AV.eraseAll (fun n_=>Cc n_ [34001]) ((Jf (fun i=>Ar (l2.getD i 0)) i1.toNat 0 [(.int .i64 (Bb (aa5+1)))]) i_)) k_) ((fun i=>Ar ((l2.set i1.toNat (Bb (aa5+1))).getD i 0)) k_) from(Br (E5 ..).symm (fun k_ hk_=>(Bq (AV.eraseAll (fun n_=>Cc n_ [34001])) ((K1 (fun _ _=>rfl) (L4 hc8) rfl) k_ hk_)).trans rfl)))) (Vh (fun(k_:Nat) u=>(F4 u [(1,(.vsl 34001 k_))] [(34001,.arr 1 3 k_ (fun i=>Ar ((l2.set i1.toNat (Bb (aa5+1))).getD i 0)))])) (show l2.length=(l2.set i1.toNat (Bb (aa5+1))).length from(E5 ..).symm))) ?_;obtain⟨hc9,h⟩:=Aa h;refine gR hq zzN93 [34001] [] [] (c1 hc9) ?_;cases h;exact gN Fe
  ·cases h;exact gO (D3 (Du [] [34001] hq))
 ·clear hx10;rcases x10 with l3|r12
  ·refine gA ?_;refine Ak hq [8] [34001] ?_;cases h;exact Dl zzN125
  ·refine T0 (fun st' hk=>?_);obtain rfl:=OI h;exact gK hk
def Eg(aA:List Int)(x1:Int):(Int×List Int)->Option (LR (Int×List Int) (Unit ⊕ Bool)):=
 fun((i3,l4):(Int×List Int))=>(bif (decide (i3<(aA.length:Int))) then(Bw (Bd i3 aA.length) ((bif ((((aA.getD i3.toNat 0):Int)!=-2)==true) then Nf aA l4 i3 x1 else some (false,[])).bind fun x6=>(Bw (((((aA.getD i3.toNat 0):Int)!=-2)==true)=true->(l4.length=x6.2.length)) (bif (bif (((aA.getD i3.toNat 0):Int)!=-2) then(!x6.1) else false) then(some (.done (.inr false))) else(some (.next ((Bb (i3+1)),(bif ((((aA.getD i3.toNat 0):Int)!=-2)==true) then x6.2 else l4)))))))) else(some (.done (.inl ()))))
def K_dom_isTree(Γ:Hy)(aA:List Int)(r:Bool):Exit->St->Prop:=fK Tryz.prog Γ Tryz.f98.results.toList [] (.bool r) []
def Q97(aA:List Int)(i3:Int):=((((aA.getD i3.toNat 0):Int)!=-2)==true)
def L6(aA:List Int):Option Bool:=
 ((D1 aA (-1:Int)).bind fun x1=>(bif (decide (x1<0)) then(some false) else(Bw (0<=(aA.length:Int)/\(aA.length:Int)<=(aA.length:Int)/\(aA.length:Int)<=(room:Int)) ((An (Eg aA x1) ((0:Int),(List.replicate (aA.length:Int).toNat (0:Int)))).bind (fun x8=>(match x8 with|(.inl _)=>(some true)|(.inr r10)=>(some r10)))))))
theorem ok_dom_isTree(aA:List Int)(r:Bool)(h:L6 aA=some r):Spec Tryz.prog 98 [(Z8 aA)] [] (.bool r) []:=by
 refine Ab mix Tryz.func98 (fun Γ hq=>?_);unfold L6 at h;refine Ak hq [0] [] ?_;obtain⟨x1,hx1,h⟩:=bind_some h;refine gR hq Re [] [] [(Z44 x1)] (c1 (Qw aA (-1:Int) x1 hx1)) ?_;refine Ak hq [0,3,9] [] ?_;refine gC h ?_ ?_<;>intro h
 ·refine Ak hq [2] [] ?_;obtain rfl:=OI h;exact Dl []
 ·obtain⟨hc2,h⟩:=Aa h;refine gR hq [0,3,4] [12] [] [] (c1 hc2) ?_;refine Ll (Le.trans (Rz 12 (show ∀ k_,k_<((aA.length:Int).toNat)->AVleL ((fun i_=>AV.eraseAll (fun n_=>Cc n_ [12]) ((fun _=>[Td]) i_)) k_) ((fun i=>Ar ((List.replicate (aA.length:Int).toNat (0:Int)).getD i 0)) k_) from(fun k hk=>R4 (e:=Ar) (d:=(0:Int)) (.cons (AVle.refl _) .nil) _ k (Si hk)))) (Vh (fun(k_:Nat) u=>(F4 u [(4,(.vsl 12 k_))] [(12,.arr 1 3 k_ (fun i=>Ar ((List.replicate (aA.length:Int).toNat (0:Int)).getD i 0)))])) (show(aA.length:Int).toNat=(List.replicate (aA.length:Int).toNat (0:Int)).length from(Pf ..).symm))) ?_;refine Ak hq zzN119 [12] ?_;obtain⟨x8,hx8,h⟩:=bind_some h;refine gL hq hx8 zzN119 [12] (fun u (i3,l4)=>(F4 u [(4,(.vsl 12 l4.length)),(15,(Z7 i3))] [(Z4 12 l4)])) (fun u x_=>match x_ with|(.inl _)=>aG Γ (.exit 0) (⟨[],[],[]⟩:St)|(.inr r_)=>aR (K_dom_isTree Γ aA r_)) ?_ ?_
  ·rintro⟨i3,l4⟩ y h;unfold Eg at h;refine Ak hq [0,3,4,14,15,16] [12] ?_;refine gC h ?_ ?_<;>intro h
   ·refine Ak hq [0,3,4,5,14,15] [12] ?_;obtain⟨hc5,h⟩:=Aa h;obtain⟨x6,hx6,h⟩:=bind_some h;obtain⟨hc7,h⟩:=Aa h;refine gR hq [0,3,4,14,15,30] [12] [] [⟨[(12,34001)],[],(.bool x6.1),[(Z4 34001 x6.2)],[],[]⟩] (ci hc5 (ci (gI (Q97 aA i3)) (ci (gI (Q97 aA i3)) (ci (gI (Q97 aA i3)) (ci (gI (Q97 aA i3)) (ci (fun(hg:(Q97 aA i3)=true)=>(ok_dom_leads aA l4 i3 x1 x6 (C2 hg hx6))) (ci (gI (Q97 aA i3)) (c1 (Oa (((aA.getD i3.toNat 0):Int)!=-2)))))))))) ?_;refine Ll (Le.trans (Rz 12 (show ∀ k_,k_<(bif (Q97 aA i3) then x6.2.length else l4.length)->AVleL ((fun i_=>AV.eraseAll (fun n_=>Cc n_ [12]) ((fun i=>bif (Q97 aA i3) then(fun i=>Ar (x6.2.getD i 0)) i else(fun i=>Ar (l4.getD i 0)) i) i_)) k_) ((fun i=>Ar ((bif (Q97 aA i3) then x6.2 else l4).getD i 0)) k_) from(Br bif_len (fun k_ hk_=>(Bq (AV.eraseAll (fun n_=>Cc n_ [12])) ((fun _ _=>bif_row) k_ hk_)).trans rfl)))) (Le.trans (Vh (fun(k_:Nat) u=>(F4 u [] [(12,.arr 1 3 k_ (fun i=>Ar ((bif (Q97 aA i3) then x6.2 else l4).getD i 0)))])) (show(bif (Q97 aA i3) then x6.2.length else l4.length)=(bif (Q97 aA i3) then x6.2 else l4).length from bif_len)) (Vh (fun(k_:Nat) u=>(F4 u [(4,(.vsl 12 k_))] [])) (show l4.length=(bif (Q97 aA i3) then x6.2 else l4).length from(bif_was hc7))))) ?_;refine gC h ?_ ?_<;>intro h
    ·refine Ak hq [2] [] ?_;cases h;exact gO (Pj (J9 [] (Le.refl _ _)))
    ·refine Ak hq zzN119 [12] ?_;cases h;exact gN Fe
   ·cases h;exact gO (D3 (Du [] [] hq))
  ·clear hx8;rcases x8 with _|r10
   ·refine gA ?_;refine Ak hq [2] [] ?_;obtain rfl:=OI h;exact Dl []
   ·refine T0 (fun st' hk=>?_);obtain rfl:=OI h;exact gK hk
def H8(aA:List Int)(aC:Int):Option Bool:=
 ((H0 aA aC).bind fun x1=>(Bw ((x1==true)=true->(Bd aC aA.length)) (some (bif x1 then(((aA.getD aC.toNat 0):Int)!=-2) else false))))
theorem Sz(aA:List Int)(aC:Int)(r:Bool)(h:H8 aA aC=some r):Spec Tryz.prog 99 [(Z8 aA),(Z7 aC)] [] (.bool r) []:=by
 refine Ab mix Tryz.func99 (fun Γ hq=>?_);unfold H8 at h;refine Ak hq Ip [] ?_;obtain⟨x1,hx1,h⟩:=bind_some h;obtain⟨hc2,h⟩:=Aa h;refine gR hq [4] [] [] [(Z2 x1)] (ci (Ua aA aC x1 hx1) (ci (gI (x1==true)) (ci (gI (x1==true)) (ci hc2 (ci (gI (x1==true)) (ci (gI (x1==true)) (c1 (Oa x1)))))))) ?_;cases h;exact Dl []
def Nd(aA:List Int)(aS:Int)(aV:Int):Option Bool:=
 ((L6 aA).bind fun x1=>((bif (x1==true) then H8 aA aS else some false).bind fun x2=>((bif ((bif x1 then x2 else false)==true) then H8 aA aV else some false).bind fun x3=>(some (bif (bif x1 then x2 else false) then x3 else false)))))
theorem ok_dom_areIn(aA:List Int)(aS:Int)(aV:Int)(r:Bool)(h:Nd aA aS aV=some r):Spec Tryz.prog 76 [(Z8 aA),(Z7 aS),(Z7 aV)] [] (.bool r) []:=by
 refine Ab mix Tryz.func76 (fun Γ hq=>?_);unfold Nd at h;refine Ak hq zzN131 [] ?_;obtain⟨x1,hx1,h⟩:=bind_some h;obtain⟨x2,hx2,h⟩:=bind_some h;obtain⟨x3,hx3,h⟩:=bind_some h;refine gR hq [6] [] [] [(Z2 x1),(Z2 x2),(Z2 x3)] (ci (ok_dom_isTree aA x1 hx1) (ci (gI (x1==true)) (ci (gI (x1==true)) (ci (fun(hg:(x1==true)=true)=>(Sz aA aS x2 (C2 hg hx2))) (ci (Oa x1) (ci (gI ((bif x1 then x2 else false)==true)) (ci (gI ((bif x1 then x2 else false)==true)) (ci (fun(hg:((bif x1 then x2 else false)==true)=true)=>(Sz aA aV x3 (C2 hg hx3))) (c1 (Oa (bif x1 then x2 else false))))))))))) ?_;cases h;exact Dl []
def Mt(aA:List Int)(aS:Int)(aV:Int):Option Bool:=
 ((Nd aA aS aV).bind fun x1=>((bif (x1==true) then Lg aA aS aV else some (0:Int)).bind fun x2=>(some (bif x1 then(x2==aS) else false))))
theorem Aa0(aA:List Int)(aS:Int)(aV:Int)(r:Bool)(h:Mt aA aS aV=some r):Spec Tryz.prog 45 [(Z8 aA),(Z7 aS),(Z7 aV)] [] (.bool r) []:=by
 refine Ab mix Tryz.func45 (fun Γ hq=>?_);unfold Mt at h;refine Ak hq zzN131 [] ?_;obtain⟨x1,hx1,h⟩:=bind_some h;obtain⟨x2,hx2,h⟩:=bind_some h;refine gR hq [6] [] [] [(Z2 x1),(Z44 x2)] (ci (ok_dom_areIn aA aS aV x1 hx1) (ci (gI (x1==true)) (ci (gI (x1==true)) (ci (gI (x1==true)) (ci (fun(hg:(x1==true)=true)=>(Aa2 aA aS aV x2 (C2 hg hx2))) (ci (gI (x1==true)) (ci (gI (x1==true)) (c1 (Oa x1))))))))) ?_;cases h;exact Dl []
def Er(aN:Ao)(a3:TFunc)(a7:Int)(a9:List Int)(a6:List (Int×Af))(a5:List Ao):Option (Bool×TFunc×Int×List Int×List Ao):=
 (bif (((Fq (default:Af) a6 aN.v).place.block:Int)==aN.place.block) then(some ((decide (((Fq (default:Af) a6 aN.v).place.at_:Int)<aN.place.at_)),a3,a7,a9,a5)) else((Mt a9 ((Fq (default:Af) a6 aN.v).place.block) aN.place.block).bind fun x1=>(some (x1,a3,a7,a9,a5))))
theorem Qd(aN:Ao)(a3:TFunc)(a7:Int)(a9:List Int)(a6:List (Int×Af))(a5:List Ao)(r:(Bool×TFunc×Int×List Int×List Ao))(h:Er aN a3 a7 a9 a6 a5=some r):Spec Tryz.prog 117 [Z52,(.agg (Kk aN))] [(Z1 a3.Params a3.Ret a3.Blocks a7 a9 9100005 a5),(Pi a5.length),(9100005,.obj (.map false .i64 (Df (fun(v_:Af)=>((Rk v_):AV)) a6)))] (.bool r.1) [(Z1 r.2.1.Params r.2.1.Ret r.2.1.Blocks r.2.2.1 r.2.2.2.1 9100005 r.2.2.2.2),(Pi r.2.2.2.2.length),(9100005,.obj (.map false .i64 (Df (fun(v_:Af)=>((Rk v_):AV)) a6)))]:=by
 refine Ab mix Tryz.func117 (fun Γ hq=>?_);unfold Er at h;refine Ak hq Re Ny ?_;refine gR hq [0,3,5] Yt [(12,(Z33 a6 aN.v))] [] (c1 (show(AVle (Fq (.agg [Td,Td,Td,Td]) (Df (fun(v_:Af)=>((Rk v_):AV)) a6) aN.v) (Z33 a6 aN.v)) from(mget_le (f:=(fun(v_:Af)=>((Rk v_):AV))) (l:=a6) (AVle.refl _) rfl))) ?_;refine Ak hq [0,3,5,19] Yt ?_;refine gC h ?_ ?_<;>intro h
 ·refine Ak hq [4] Gn ?_;cases h;exact Dl V0
 ·obtain⟨x1,hx1,h⟩:=bind_some h;refine gR hq [4] Gn [] [(Z2 x1)] (c1 (Aa0 a9 ((Fq (default:Af) a6 aN.v).place.block) aN.place.block x1 hx1)) ?_;cases h;exact Dl V0
def Cv(a6:List (Int×Af))(x8:(TFunc×Int×List Int×List Ao)):(Int×List Int×Int×List Ad×Int×List Int×List Ao)->Option (LR (Int×List Int×Int×List Ad×Int×List Int×List Ao) ((List Int×Int×List Ad×Int×List Int×List Ao) ⊕ (List Int×Int×List Ad×Int×List Int×List Ao))):=
 fun((i9,l10,i11,l12,i13,l14,l15):(Int×List Int×Int×List Ad×Int×List Int×List Ao))=>(bif (decide (i9<(x8.2.2.2.length:Int))) then(Bw (Bd i9 x8.2.2.2.length) ((Gh (x8.2.2.2.getD i9.toNat default) (⟨l10,i11,l12⟩:TFunc) i13 l14 a6 l15).bind fun x29=>(bif (!x29.1) then(some (.done (.inr (x29.2.1.Params,x29.2.1.Ret,x29.2.1.Blocks,x29.2.2.1,x29.2.2.2.1,x29.2.2.2.2)))) else(some (.next ((Bb (i9+1)),x29.2.1.Params,x29.2.1.Ret,x29.2.1.Blocks,x29.2.2.1,x29.2.2.2.1,x29.2.2.2.2)))))) else(some (.done (.inl (l10,i11,l12,i13,l14,l15)))))
def Cw(a6:List (Int×Af))(l21:List Ao):(Int×List Int×Int×List Ad×Int×List Int×List Ao)->Option (LR (Int×List Int×Int×List Ad×Int×List Int×List Ao) ((List Int×Int×List Ad×Int×List Int×List Ao) ⊕ (List Int×Int×List Ad×Int×List Int×List Ao))):=
 fun((i32,l33,i34,l35,i36,l37,l38):(Int×List Int×Int×List Ad×Int×List Int×List Ao))=>(bif (decide (i32<(l21.length:Int))) then(Bw (Bd i32 l21.length) ((Hs (l21.getD i32.toNat default) (⟨l33,i34,l35⟩:TFunc) i36 l37 a6 l38).bind fun x52=>(bif (!x52.1) then(some (.done (.inr (x52.2.1.Params,x52.2.1.Ret,x52.2.1.Blocks,x52.2.2.1,x52.2.2.2.1,x52.2.2.2.2)))) else(some (.next ((Bb (i32+1)),x52.2.1.Params,x52.2.1.Ret,x52.2.1.Blocks,x52.2.2.1,x52.2.2.2.1,x52.2.2.2.2)))))) else(some (.done (.inl (l33,i34,l35,i36,l37,l38)))))
def Cx(a6:List (Int×Af))(l44:List Ao):(Int×List Int×Int×List Ad×Int×List Int×List Ao)->Option (LR (Int×List Int×Int×List Ad×Int×List Int×List Ao) ((List Int×Int×List Ad×Int×List Int×List Ao) ⊕ (List Int×Int×List Ad×Int×List Int×List Ao))):=
 fun((i55,l56,i57,l58,i59,l60,l61):(Int×List Int×Int×List Ad×Int×List Int×List Ao))=>(bif (decide (i55<(l44.length:Int))) then(Bw (Bd i55 l44.length) ((Er (l44.getD i55.toNat default) (⟨l56,i57,l58⟩:TFunc) i59 l60 a6 l61).bind fun x75=>(bif (!x75.1) then(some (.done (.inr (x75.2.1.Params,x75.2.1.Ret,x75.2.1.Blocks,x75.2.2.1,x75.2.2.2.1,x75.2.2.2.2)))) else(some (.next ((Bb (i55+1)),x75.2.1.Params,x75.2.1.Ret,x75.2.1.Blocks,x75.2.2.1,x75.2.2.2.1,x75.2.2.2.2)))))) else(some (.done (.inl (l56,i57,l58,i59,l60,l61)))))
def H5 :(Int×List Int×Int×List Ad×Int×List Int×List Ao)->Option (LR (Int×List Int×Int×List Ad×Int×List Int×List Ao) (Int×TFunc×Int×List Int×List Ao)):=
 fun(s_:(Int×List Int×Int×List Ad×Int×List Int×List Ao))=>match s_ with|(i1,l2,i3,l4,i5,l6,l7)=>(some (.done (i1,(⟨l2,i3,l4⟩:TFunc),i5,l6,l7)))
def Tq(Γ:Hy)(a3:TFunc)(a7:Int)(a9:List Int)(a6:List (Int×Af))(a5:List Ao)(r:(Int×TFunc×Int×List Int×List Ao)):Exit->St->Prop:=fK Tryz.prog Γ Tryz.f93.results.toList [(Z1 a3.Params a3.Ret a3.Blocks a7 a9 9100005 a5),(Pi a5.length),(9100005,.obj (.map false .i64 (Df (fun(v_:Af)=>((Rk v_):AV)) a6)))] (Z7 r.1) [(Z1 r.2.1.Params r.2.1.Ret r.2.1.Blocks r.2.2.1 r.2.2.2.1 9100005 r.2.2.2.2),(Pi r.2.2.2.2.length),(9100005,.obj (.map false .i64 (Df (fun(v_:Af)=>((Rk v_):AV)) a6)))]
def Q98(a6:List (Int×Af)):=(Df (fun(v_:Af)=>((Rk v_):AV)) a6)
def F7(a3:TFunc)(a7:Int)(a9:List Int)(a6:List (Int×Af))(a5:List Ao):Option (Int×TFunc×Int×List Int×List Ao):=
 ((My (S:=(Int×List Int×Int×List Ad×Int×List Int×List Ao)) (X:=(Int×TFunc×Int×List Int×List Ao)) ((Eo a3 a7 a9 a6 a5).bind fun x8=>((An (Cv a6 x8) ((0:Int),x8.1.Params,x8.1.Ret,x8.1.Blocks,x8.2.1,x8.2.2.1,x8.2.2.2)).bind (fun x30=>(match x30 with|(.inl (l16,i17,l18,i19,l20,l21))=>((An (Cw a6 l21) ((0:Int),l16,i17,l18,i19,l20,l21)).bind (fun x53=>(match x53 with|(.inl (l39,i40,l41,i42,l43,l44))=>((An (Cx a6 l44) ((0:Int),l39,i40,l41,i42,l43,l44)).bind (fun x76=>(match x76 with|(.inl (l62,i63,l64,i65,l66,l67))=>(some (.done ((0:Int),(⟨l62,i63,l64⟩:TFunc),i65,l66,l67)))|(.inr (l68,i69,l70,i71,l72,l73))=>(some (.next ((7:Int),l68,i69,l70,i71,l72,l73))))))|(.inr (l45,i46,l47,i48,l49,l50))=>(some (.next ((6:Int),l45,i46,l47,i48,l49,l50))))))|(.inr (l22,i23,l24,i25,l26,l27))=>(some (.next ((7:Int),l22,i23,l24,i25,l26,l27))))))) H5).bind (fun x81=>(some x81)))
theorem Ti(a3:TFunc)(a7:Int)(a9:List Int)(a6:List (Int×Af))(a5:List Ao)(r:(Int×TFunc×Int×List Int×List Ao))(h:F7 a3 a7 a9 a6 a5=some r):Spec Tryz.prog 93 [Z52] [(Z1 a3.Params a3.Ret a3.Blocks a7 a9 9100005 a5),(Pi a5.length),(9100005,.obj (.map false .i64 (Df (fun(v_:Af)=>((Rk v_):AV)) a6)))] (Z7 r.1) [(Z1 r.2.1.Params r.2.1.Ret r.2.1.Blocks r.2.2.1 r.2.2.2.1 9100005 r.2.2.2.2),(Pi r.2.2.2.2.length),(9100005,.obj (.map false .i64 (Df (fun(v_:Af)=>((Rk v_):AV)) a6)))]:=by
 refine Ab mix Tryz.func93 (fun Γ hq=>?_);unfold F7 at h;refine Ak hq [0] Gn ?_;obtain⟨x81,hx81,h⟩:=bind_some h;refine gS hx81 (fun(s_:(Int×List Int×Int×List Ad×Int×List Int×List Ao))=>match s_ with|(i1,l2,i3,l4,i5,l6,l7)=>0) (fun(s_:(Int×List Int×Int×List Ad×Int×List Int×List Ao))=>match s_ with|(i1,l2,i3,l4,i5,l6,l7)=>(⟨[(4,(Z7 i1))],(Z10 l2 i3 l4 i5 l6 l7 l7.length (Q98 a6)),[]⟩:St)) (fun r_=>aR (Tq Γ a3 a7 a9 a6 a5 r_)) ?_ ?_ ?_
 ·clear h hx81;intro y h;obtain⟨x8,hx8,h⟩:=bind_some h;refine gR hq [0] Gn [] [(Z20 x8.1.Params x8.1.Ret x8.1.Blocks x8.2.1 x8.2.2.1 x8.2.2.2 x8.2.2.2.length (Q98 a6))] (c1 (Qb a3 a7 a9 a6 a5 x8 hx8)) ?_;refine Ak hq Re Ny ?_;refine Ak hq Re Ny ?_;refine Ak hq Wm Gn ?_;refine gU 3 ?_;refine Ak hq zzN99 Gn ?_;refine gCt true ?_;refine gR hq zzN142 Qm [] [] (c1 (show(Bd (0:Int) 3) from(by decide))) ?_;refine Ak hq zzN120 Qm ?_;refine Ak hq Yu Qm ?_;obtain⟨x30,hx30,h⟩:=bind_some h;refine gL hq hx30 Yu Qm (fun u (i9,l10,i11,l12,i13,l14,l15)=>(F4 u [(32,(Z7 i9))] (Z31 l10 i11 l12 i13 l14 l15 l15.length))) (fun u x_=>match x_ with|(.inl (l16,i17,l18,i19,l20,l21))=>aG Γ (.exit 2) (W8 Wm Gn u [] (Z31 l16 i17 l18 i19 l20 l21 l21.length))|(.inr (l22,i23,l24,i25,l26,l27))=>aG Γ (.goto 0) (W8 [4] Gn u [] (Z31 l22 i23 l24 i25 l26 l27 l27.length))) ?_ ?_
  ·rintro⟨i9,l10,i11,l12,i13,l14,l15⟩ y h;unfold Cv at h;refine Ak hq zzN58 Qm ?_;refine gC h ?_ ?_<;>intro h
   ·obtain⟨hc28,h⟩:=Aa h;refine gR hq zzN62 zzN70 [] [] (c1 hc28) ?_;obtain⟨x29,hx29,h⟩:=bind_some h;refine gR hq zzN59 Qm [] [(Z63 x29.1 x29.2.1.Params x29.2.1.Ret x29.2.1.Blocks x29.2.2.1 x29.2.2.2.1 x29.2.2.2.2 x29.2.2.2.2.length (Q98 a6))] (c1 (Qe (x8.2.2.2.getD i9.toNat default) (⟨l10,i11,l12⟩:TFunc) i13 l14 a6 l15 x29 hx29)) ?_;refine gC h ?_ ?_<;>intro h
    ·cases h;exact gO (D3 (Du [4] Gn hq))
    ·refine Ak hq Yu Qm ?_;cases h;exact gN Fe
   ·cases h;exact gO (D3 (Du Wm Gn hq))
  ·clear hx30;rcases x30 with⟨l16,i17,l18,i19,l20,l21⟩|⟨l22,i23,l24,i25,l26,l27⟩
   ·refine gA ?_;refine Ak hq Wm Gn ?_;refine Ak hq zzN99 Gn ?_;refine gCt true ?_;refine gR hq zzN142 Qm [] [] (c1 (show(Bd (1:Int) 3) from(by decide))) ?_;refine Ak hq zzN120 Qm ?_;refine Ak hq Yu Qm ?_;obtain⟨x53,hx53,h⟩:=bind_some h;refine gL hq hx53 Yu Qm (fun u (i32,l33,i34,l35,i36,l37,l38)=>(F4 u [(32,(Z7 i32))] (Z31 l33 i34 l35 i36 l37 l38 l38.length))) (fun u x_=>match x_ with|(.inl (l39,i40,l41,i42,l43,l44))=>aG Γ (.exit 2) (W8 Wm Gn u [] (Z31 l39 i40 l41 i42 l43 l44 l44.length))|(.inr (l45,i46,l47,i48,l49,l50))=>aG Γ (.goto 0) (W8 [4] Gn u [] (Z31 l45 i46 l47 i48 l49 l50 l50.length))) ?_ ?_
    ·rintro⟨i32,l33,i34,l35,i36,l37,l38⟩ y h;unfold Cw at h;refine Ak hq zzN58 Qm ?_;refine gC h ?_ ?_<;>intro h
     ·obtain⟨hc51,h⟩:=Aa h;refine gR hq zzN62 zzN70 [] [] (c1 hc51) ?_;obtain⟨x52,hx52,h⟩:=bind_some h;refine gR hq zzN59 Qm [] [(Z63 x52.1 x52.2.1.Params x52.2.1.Ret x52.2.1.Blocks x52.2.2.1 x52.2.2.2.1 x52.2.2.2.2 x52.2.2.2.2.length (Q98 a6))] (c1 (Tg (l21.getD i32.toNat default) (⟨l33,i34,l35⟩:TFunc) i36 l37 a6 l38 x52 hx52)) ?_;refine gC h ?_ ?_<;>intro h
      ·cases h;exact gO (D3 (Du [4] Gn hq))
      ·refine Ak hq Yu Qm ?_;cases h;exact gN Fe
     ·cases h;exact gO (D3 (Du Wm Gn hq))
    ·clear hx53;rcases x53 with⟨l39,i40,l41,i42,l43,l44⟩|⟨l45,i46,l47,i48,l49,l50⟩
     ·refine gA ?_;refine Ak hq Wm Gn ?_;refine Ak hq zzN99 Gn ?_;refine gCt true ?_;refine gR hq zzN142 Qm [] [] (c1 (show(Bd (2:Int) 3) from(by decide))) ?_;refine Ak hq zzN120 Qm ?_;refine Ak hq Yu Qm ?_;obtain⟨x76,hx76,h⟩:=bind_some h;refine gL hq hx76 Yu Qm (fun u (i55,l56,i57,l58,i59,l60,l61)=>(F4 u [(32,(Z7 i55))] (Z31 l56 i57 l58 i59 l60 l61 l61.length))) (fun u x_=>match x_ with|(.inl (l62,i63,l64,i65,l66,l67))=>aG Γ (.exit 2) (W8 Wm Gn u [] (Z31 l62 i63 l64 i65 l66 l67 l67.length))|(.inr (l68,i69,l70,i71,l72,l73))=>aG Γ (.goto 0) (W8 [4] Gn u [] (Z31 l68 i69 l70 i71 l72 l73 l73.length))) ?_ ?_
      ·rintro⟨i55,l56,i57,l58,i59,l60,l61⟩ y h;unfold Cx at h;refine Ak hq zzN58 Qm ?_;refine gC h ?_ ?_<;>intro h
       ·obtain⟨hc74,h⟩:=Aa h;refine gR hq zzN62 zzN70 [] [] (c1 hc74) ?_;obtain⟨x75,hx75,h⟩:=bind_some h;refine gR hq zzN59 Qm [] [(Z63 x75.1 x75.2.1.Params x75.2.1.Ret x75.2.1.Blocks x75.2.2.1 x75.2.2.2.1 x75.2.2.2.2 x75.2.2.2.2.length (Q98 a6))] (c1 (Qd (l44.getD i55.toNat default) (⟨l56,i57,l58⟩:TFunc) i59 l60 a6 l61 x75 hx75)) ?_;refine gC h ?_ ?_<;>intro h
        ·cases h;exact gO (D3 (Du [4] Gn hq))
        ·refine Ak hq Yu Qm ?_;cases h;exact gN Fe
       ·cases h;exact gO (D3 (Du Wm Gn hq))
      ·clear hx76;rcases x76 with⟨l62,i63,l64,i65,l66,l67⟩|⟨l68,i69,l70,i71,l72,l73⟩
       ·refine gA ?_;refine Ak hq Wm Gn ?_;refine Ak hq zzN99 Gn ?_;refine gCt false ?_;refine Ak hq [2] Gn ?_;cases h;exact gJo (Pj (J9 V0 (Le.refl _ _)))
       ·refine gA' (fun st' hl78=>?_);cases h;exact gJn (Le.trans hl78 Fe)
     ·refine gA' (fun st' hl79=>?_);cases h;exact gJn (Le.trans hl79 Fe)
   ·refine gA' (fun st' hl80=>?_);cases h;exact gJn (Le.trans hl80 Fe)
 ·clear h hx81;rintro⟨i1,l2,i3,l4,i5,l6,l7⟩ y h;unfold H5 at h;refine Ak hq [2] Gn ?_;cases h;exact gJo (Pj (J9 V0 (Le.refl _ _)))
 ·clear hx81;refine T0 (fun st' hk=>?_);obtain rfl:=OI h;exact gK hk
def Q104:=(fun(v_:Af)=>((Rk v_):AV))
def Q101(x1:(Int×TFunc×Int×List Int×List Ao)):List (Nat×Own):=(Z3 x1.2.1.Params x1.2.1.Ret x1.2.1.Blocks x1.2.2.1 x1.2.2.2.1 x1.2.2.2.2 x1.2.2.2.2.length)
def Q102(x2:(Int×TFunc×Int×List Int×List Ao)):List (Nat×Own):=(Z3 x2.2.1.Params x2.2.1.Ret x2.2.1.Blocks x2.2.2.1 x2.2.2.2.1 x2.2.2.2.2 x2.2.2.2.2.length)
def Q103(x3:(Int×TFunc×Int×List Int×List Ao)):List (Nat×Own):=(Z3 x3.2.1.Params x3.2.1.Ret x3.2.1.Blocks x3.2.2.1 x3.2.2.2.1 x3.2.2.2.2 x3.2.2.2.2.length)
def Fh(a3:TFunc)(a7:Int)(a9:List Int)(a5:List Ao):Option (Int×TFunc×Int×List Int×List Ao×List (Int×Af)):=
 ((F6 a3 a7 a9 a5).bind fun x1=>(bif (x1.1 !=0) then(some (x1.1,x1.2.1,x1.2.2.1,x1.2.2.2.1,x1.2.2.2.2,([]:List (Int×Af)))) else((E1 x1.2.1 x1.2.2.1 x1.2.2.2.1 x1.2.2.2.2).bind fun x2=>(bif (x2.1 !=0) then(some (x2.1,x2.2.1,x2.2.2.1,x2.2.2.2.1,x2.2.2.2.2,([]:List (Int×Af)))) else((Fg x2.2.1 x2.2.2.1 x2.2.2.2.1 x2.2.2.2.2).bind fun x3=>(bif (x3.1 !=0) then(some (x3.1,x3.2.1,x3.2.2.1,x3.2.2.2.1,x3.2.2.2.2,([]:List (Int×Af)))) else((Ep x3.2.1 x3.2.2.1 x3.2.2.2.1 x3.2.2.2.2).bind fun x4=>(bif (x4.1 !=0) then(some (x4.1,x4.2.1,x4.2.2.1,x4.2.2.2.1,x4.2.2.2.2.1,x4.2.2.2.2.2)) else((F7 x4.2.1 x4.2.2.1 x4.2.2.2.1 x4.2.2.2.2.2 x4.2.2.2.2.1).bind fun x5=>(bif (x5.1 !=0) then(some (x5.1,x5.2.1,x5.2.2.1,x5.2.2.2.1,x5.2.2.2.2,x4.2.2.2.2.2)) else(some ((0:Int),x5.2.1,x5.2.2.1,x5.2.2.2.1,x5.2.2.2.2,x4.2.2.2.2.2))))))))))))
theorem Sa(a3:TFunc)(a7:Int)(a9:List Int)(a5:List Ao)(r:(Int×TFunc×Int×List Int×List Ao×List (Int×Af)))(h:Fh a3 a7 a9 a5=some r):Spec Tryz.prog 59 [Z52] (Z3 a3.Params a3.Ret a3.Blocks a7 a9 a5 a5.length) (Z7 r.1) [(Z1 r.2.1.Params r.2.1.Ret r.2.1.Blocks r.2.2.1 r.2.2.2.1 9200005 r.2.2.2.2.1),(Pi r.2.2.2.2.1.length),(9200005,.obj (.map false .i64 (Df (fun(v_:Af)=>((Rk v_):AV)) r.2.2.2.2.2)))]:=by
 refine Ab mix Tryz.func59 (fun Γ hq=>?_);unfold Fh at h;refine Ak hq [0] Gt ?_;refine Ak hq [3] zzN71 ?_;refine Ak hq Aai Gt ?_;refine gU 5 ?_;refine Ak hq zzN82 Gt ?_;refine gCt true ?_;refine gR hq zzN108 Gt [] [] (c1 (show(Bd (0:Int) 5) from(by decide))) ?_;obtain⟨x1,hx1,h⟩:=bind_some h;refine gR hq zzN109 Gt [] [(Z74 x1.1 (Q101 x1))] (c1 (Th a3 a7 a9 a5 x1 hx1)) ?_;refine Ak hq zzN79 Gt ?_;refine gC h ?_ ?_<;>intro h
 ·refine Ak hq [2] Gt ?_;refine N9 (⟨[(2,(Z7 x1.1))],(Q101 x1),[]⟩:St) ?_;cases h;exact gK (e:=.ret) (J9 zzN30 (Le.trans (R0 (r:=30000) (j:=5) (nm:=9300005) .i64 rfl rfl (nl rfl) rfl) (Du (st':=⟨[(2,(Z7 x1.1))],[(Z1 x1.2.1.Params x1.2.1.Ret x1.2.1.Blocks x1.2.2.1 x1.2.2.2.1 9300005 x1.2.2.2.2),(Pi x1.2.2.2.2.length),(9300005,.obj (.map false .i64 (Df Q104 ([]:List (Int×Af)))))],[]⟩) [2] zzN89 hq)))
 ·refine Ak hq Aai Gt ?_;refine Ak hq zzN82 Gt ?_;refine gCt true ?_;refine gR hq zzN108 Gt [] [] (c1 (show(Bd (1:Int) 5) from(by decide))) ?_;obtain⟨x2,hx2,h⟩:=bind_some h;refine gR hq zzN109 Gt [] [(Z74 x2.1 (Q102 x2))] (c1 (Qt x1.2.1 x1.2.2.1 x1.2.2.2.1 x1.2.2.2.2 x2 hx2)) ?_;refine Ak hq zzN79 Gt ?_;refine gC h ?_ ?_<;>intro h
  ·refine Ak hq [2] Gt ?_;refine N9 (⟨[(2,(Z7 x2.1))],(Q102 x2),[]⟩:St) ?_;cases h;exact gK (e:=.ret) (J9 zzN30 (Le.trans (R0 (r:=30000) (j:=5) (nm:=9300005) .i64 rfl rfl (nl rfl) rfl) (Du (st':=⟨[(2,(Z7 x2.1))],[(Z1 x2.2.1.Params x2.2.1.Ret x2.2.1.Blocks x2.2.2.1 x2.2.2.2.1 9300005 x2.2.2.2.2),(Pi x2.2.2.2.2.length),(9300005,.obj (.map false .i64 (Df Q104 ([]:List (Int×Af)))))],[]⟩) [2] zzN89 hq)))
  ·refine Ak hq Aai Gt ?_;refine Ak hq zzN82 Gt ?_;refine gCt true ?_;refine gR hq zzN108 Gt [] [] (c1 (show(Bd (2:Int) 5) from(by decide))) ?_;obtain⟨x3,hx3,h⟩:=bind_some h;refine gR hq zzN109 Gt [] [(Z74 x3.1 (Q103 x3))] (c1 (R9 x2.2.1 x2.2.2.1 x2.2.2.2.1 x2.2.2.2.2 x3 hx3)) ?_;refine Ak hq zzN79 Gt ?_;refine gC h ?_ ?_<;>intro h
   ·refine Ak hq [2] Gt ?_;refine N9 (⟨[(2,(Z7 x3.1))],(Q103 x3),[]⟩:St) ?_;cases h;exact gK (e:=.ret) (J9 zzN30 (Le.trans (R0 (r:=30000) (j:=5) (nm:=9300005) .i64 rfl rfl (nl rfl) rfl) (Du (st':=⟨[(2,(Z7 x3.1))],[(Z1 x3.2.1.Params x3.2.1.Ret x3.2.1.Blocks x3.2.2.1 x3.2.2.2.1 9300005 x3.2.2.2.2),(Pi x3.2.2.2.2.length),(9300005,.obj (.map false .i64 (Df Q104 ([]:List (Int×Af)))))],[]⟩) [2] zzN89 hq)))
   ·refine Ak hq Aai Gt ?_;refine Ak hq zzN82 Gt ?_;refine gCt true ?_;refine gR hq zzN108 Gt [] [] (c1 (show(Bd (3:Int) 5) from(by decide))) ?_;obtain⟨x4,hx4,h⟩:=bind_some h;refine gR hq zzN109 Ta [] [⟨zzN6,[(9200005,13000005)],(Z7 x4.1),[(Z1 x4.2.1.Params x4.2.1.Ret x4.2.1.Blocks x4.2.2.1 x4.2.2.2.1 9200005 x4.2.2.2.2.1),(Pi x4.2.2.2.2.1.length),(9200005,.obj (.map false .i64 (Df Q104 x4.2.2.2.2.2)))],[],[]⟩] (c1 (Qc x3.2.1 x3.2.2.1 x3.2.2.2.1 x3.2.2.2.2 x4 hx4)) ?_;refine Ak hq zzN79 Ta ?_;refine gC h ?_ ?_<;>intro h
    ·refine Ak hq [2] Ta ?_;cases h;exact Dl zzN28
    ·refine Ak hq Aai Ta ?_;refine Ak hq zzN82 Ta ?_;refine gCt true ?_;refine gR hq zzN108 Ta [] [] (c1 (show(Bd (4:Int) 5) from(by decide))) ?_;obtain⟨x5,hx5,h⟩:=bind_some h;refine gR hq zzN109 Ta [] [⟨[(30000,30000),(37006,37006),(13000005,9100005)],[],(Z7 x5.1),[(Z1 x5.2.1.Params x5.2.1.Ret x5.2.1.Blocks x5.2.2.1 x5.2.2.2.1 9100005 x5.2.2.2.2),(Pi x5.2.2.2.2.length),(9100005,.obj (.map false .i64 (Df Q104 x4.2.2.2.2.2)))],[],[]⟩] (c1 (Ti x4.2.1 x4.2.2.1 x4.2.2.2.1 x4.2.2.2.2.2 x4.2.2.2.2.1 x5 hx5)) ?_;refine Ak hq zzN79 Ta ?_;refine gC h ?_ ?_<;>intro h
     ·refine Ak hq [2] Ta ?_;cases h;exact Dl zzN28
     ·refine Ak hq Aai Ta ?_;refine Ak hq zzN82 Ta ?_;refine gCt false ?_;refine Ak hq [2] Ta ?_;cases h;exact Dl zzN28
def Q107(a1:TFunc)(aO:Int):AV:=(.agg [(Z8 a1.Params),(Z7 a1.Ret),(Z21 a1.Blocks),(Z7 aO),Z19,.nilm,(AV.list 5 Kk default ([]:List Ao) .exact)])
def Q106(a1:TFunc)(aO:Int):=(⟨[(5,(.ptr 5 0))],[(5,.row 103 [(Z8 a1.Params),(Z7 a1.Ret),(Z21 a1.Blocks),(Z7 aO),Z19,.nilm,(AV.list 5 Kk default ([]:List Ao) .exact)])],[]⟩:St)
def Q105(a1:TFunc)(aO:Int):=(⟨[(5,(.ptr 5 0))],[(5,.row 103 [(Z8 a1.Params),(Z7 a1.Ret),(Z21 a1.Blocks),(Z7 aO),Z19,.nilm,(AV.list 5 Kk default ([]:List Ao) (.own 50506))]),(50506,.tok 5 149 (([]:List Ao).length))],[]⟩:St)
def Kw(a1:TFunc)(aO:Int):Option Int:=
 (bif (bif (decide (aO<0)) then true else(decide (((2:Int):Int)<aO))) then(some (1:Int)) else((Fh a1 aO ([]:List Int) ([]:List Ao)).bind fun x1=>(some x1.1)))
theorem ok_check_Check(a1:TFunc)(aO:Int)(r:Int)(h:Kw a1 aO=some r):Spec Tryz.prog 33 [(Z62 a1),(Z7 aO)] [] (.int .i64 r) []:=by
 refine Ab mix Tryz.func33 (fun Γ hq=>?_);unfold Kw at h;refine Ak hq K4 [2] ?_;refine gR hq [1,2,11] [2] [] [] (ci (gI ((decide (aO<0))==false)) (c1 (Vw (decide (aO<0))))) ?_;refine gC h ?_ ?_<;>intro h
 ·refine Ak hq [4] [] ?_;cases h;exact Dl []
 ·refine gR hq [5] [5] [(14,(Q107 a1 aO))] [] (c1 (show(AVle (.agg [(Z8 a1.Params),(Z7 a1.Ret),(Z21 a1.Blocks),(Z7 aO),Z18,.nilm,Z18]) (Q107 a1 aO)) from(AVle.agg (.cons (AVle.refl _) (.cons (AVle.refl _) (.cons (AVle.refl _) (.cons (AVle.refl _) (.cons Gv (.cons (AVle.refl _) (.cons Gv .nil)))))))))) ?_;refine N9 (Q106 a1 aO) ?_;refine Ll (show Le Γ _ (Q105 a1 aO) from Le.trans (Du (st':=(Q106 a1 aO)) [5] [5] hq) (Le.trans (le_tag_cell (r:=5) (j:=6) (nm:=50506) (sz':=5) (fun i=>Kk (([]:List Ao).getD i default)) 149 rfl rfl (nl rfl) rfl (.inl ⟨rfl,rfl⟩) (fun h_=>absurd h_ (by decide))) (Du (st':=(Q105 a1 aO)) [5] [5,50506] hq))) ?_;refine Ll (show Le Γ _ (⟨[(5,(.ptr 5 0))],[(5,.row 103 [(Z8 a1.Params),(Z7 a1.Ret),(Z21 a1.Blocks),(Z7 aO),(AV.list 1 Ar 0 ([]:List Int) .none),.nilm,(AV.list 5 Kk default ([]:List Ao) (.own 50506))]),(50506,.tok 5 149 (([]:List Ao).length))],[]⟩:St) from Le.trans (Du (st':=(Q105 a1 aO)) [5] [5,50506] hq) (Na (.cons (AVle.refl _) .nil) (.row (.cons (AVle.refl _) (.cons (AVle.refl _) (.cons (AVle.refl _) (.cons (AVle.refl _) (.cons AVle.untag (.cons (AVle.refl _) (.cons (AVle.refl _) .nil))))))) (.same .nil)))) ?_;obtain⟨x1,hx1,h⟩:=bind_some h;refine gR hq [4] [] [] [⟨[(5,30000),(50506,37006)],[(9200005,10000505)],(Z7 x1.1),[(Z1 x1.2.1.Params x1.2.1.Ret x1.2.1.Blocks x1.2.2.1 x1.2.2.2.1 9200005 x1.2.2.2.2.1),(Pi x1.2.2.2.2.1.length),(9200005,.obj (.map false .i64 (Df (fun(v_:Af)=>((Rk v_):AV)) x1.2.2.2.2.2)))],[],[]⟩] (c1 (Sa a1 aO ([]:List Int) ([]:List Ao) x1 hx1)) ?_;cases h;exact Dl []
def K5(aaJ:List Ad)(aaK:List (List Int))(aC:Int):Option Unit:=
 (some ())
theorem Zv(aaJ:List Ad)(aaK:List (List Int))(aC:Int)(r:Unit)(h:K5 aaJ aaK aC=some r):Spec Tryz.prog 34 [(Z21 aaJ),(Z5 aaK),(Z7 aC)] [] (.agg [(Z12 aaJ aaK aC),(Z12 aaJ aaK aC),(Z12 aaJ aaK aC),(.clo 62 [] []),(.clo 62 [] []),(Z12 aaJ aaK aC)]) []:=by
 refine Ab mix Tryz.func34 (fun Γ hq=>?_);unfold K5 at h;refine gR hq [3,4,5,6] [6] [(3,(.rpo [])),(4,(.rpo [])),(5,(.rpo []))] [] trivial ?_;refine Ak hq [6,7] [6] ?_;refine Ak hq [6,7,8] [6] ?_;refine Ak hq [6] [6] ?_;cases h;exact Dl []
def Q109(a4:List Ad)(aM:Int):=((((a4.getD aM.toNat default).End.Kind:Int)!=1)==false)
def Q108(a4:List Ad)(aM:Int):=(bif (((a4.getD aM.toNat default).End.Kind:Int)!=1) then true else(decide (((0:Int):Int)<(((a4.getD aM.toNat default).Phis).length:Int))))
def Ea(aM:Int)(a4:List Ad)(aa1:List (List Int))(aaG:Int):Option (Int×Int×Bool):=
 (Bw (Bd aM a4.length) (Bw (((bif (((a4.getD aM.toNat default).End.Kind:Int)!=1) then true else(decide (((0:Int):Int)<(((a4.getD aM.toNat default).Phis).length:Int))))==false)=true->(Bd aM aa1.length)) ((bif ((bif (((a4.getD aM.toNat default).End.Kind:Int)!=1) then true else(decide (((0:Int):Int)<(((a4.getD aM.toNat default).Phis).length:Int))))==false) then C6 (aa1.getD aM.toNat []) ([aaG]:List Int) else some false).bind fun x3=>(bif (bif (bif (((a4.getD aM.toNat default).End.Kind:Int)!=1) then true else(decide (((0:Int):Int)<(((a4.getD aM.toNat default).Phis).length:Int)))) then true else(!x3)) then(some ((-1:Int),(-1:Int),false)) else(Bw (Bd (0:Int) ((a4.getD aM.toNat default).End.To).length) (some (aM,(((a4.getD aM.toNat default).End.To).getD (0:Int).toNat (0:Int)),true)))))))
theorem Iv(aM:Int)(a4:List Ad)(aa1:List (List Int))(aaG:Int)(r:(Int×Int×Bool))(h:Ea aM a4 aa1 aaG=some r):Spec Tryz.prog 60 [(Z7 aM),(.rpo [(Z21 a4)]),(.rpo [(Z5 aa1)]),(.rpo [(Z7 aaG)])] [] (.tuple [(Z7 r.1),(Z7 r.2.1),(.bool r.2.2)]) []:=by
 refine Ab mix Tryz.func60 (fun Γ hq=>?_);unfold Ea at h;refine Ak hq [0,1,2,3] [] ?_;obtain⟨hc1,h⟩:=Aa h;refine gR hq [0,2,3,8] [8] [] [] (c1 hc1) ?_;obtain⟨hc2,h⟩:=Aa h;obtain⟨x3,hx3,h⟩:=bind_some h;refine gR hq [0,8,32] [8] [(29,(Z29 aaG))] [(Z2 x3)] (ci (gI (Q109 a4 aM)) (ci (gI (Q109 a4 aM)) (ci (gI (Q109 a4 aM)) (ci (Vw (((a4.getD aM.toNat default).End.Kind:Int)!=1)) (ci (gI ((Q108 a4 aM)==false)) (ci (gI ((Q108 a4 aM)==false)) (ci hc2 (ci (gI ((Q108 a4 aM)==false)) (ci (gI ((Q108 a4 aM)==false)) (ci (show(((Q108 a4 aM)==false)=true->(AVle (.slice 1 1 (fun i=>([[(Z7 aaG)]]:List (List AV)).getD i []) .exact) (Z29 aaG))) from(fun hg=>@(Ca 1 Ar (0:Int) ([aaG]:List Int)))) (ci (gI ((Q108 a4 aM)==false)) (ci (gI ((Q108 a4 aM)==false)) (ci (fun(hg:((Q108 a4 aM)==false)=true)=>(Ic (aa1.getD aM.toNat []) ([aaG]:List Int) x3 (C2 hg hx3))) (ci (gI ((Q108 a4 aM)==false)) (c1 (Vw (Q108 a4 aM))))))))))))))))) ?_;refine gC h ?_ ?_<;>intro h
 ·refine Ak hq zzN129 [] ?_;cases h;exact Dl []
 ·obtain⟨hc4,h⟩:=Aa h;refine gR hq zzN129 [] [] [] (c1 hc4) ?_;cases h;exact Dl []
def Q110(x2:(Int×Int×Bool))(x4:(Int×Int×Bool)):=(bif (!x2.2.2) then true else(!x4.2.2))
def Ht(aC:Int)(aP:List Int)(aa9:List Ad)(aaA:List (List Int))(aaB:Int)(aaC:List Ad)(aaD:List (List Int))(aaE:Int):Option (Ac×Bool):=
 (Bw (Bd (0:Int) aP.length) ((Ea (aP.getD (0:Int).toNat (0:Int)) aa9 aaA aaB).bind fun x2=>(Bw (Bd (1:Int) aP.length) ((Ea (aP.getD (1:Int).toNat (0:Int)) aaC aaD aaE).bind fun x4=>(bif (bif (bif (bif (!x2.2.2) then true else(!x4.2.2)) then true else(x2.2.1 !=x4.2.1)) then true else(x2.2.1==aC)) then(some ((⟨(0:Int),(0:Int),(0:Int),(0:Int)⟩:Ac),false)) else(some ((⟨aC,x2.1,x4.1,x2.2.1⟩:Ac),true)))))))
theorem W5(aC:Int)(aP:List Int)(aa9:List Ad)(aaA:List (List Int))(aaB:Int)(aaC:List Ad)(aaD:List (List Int))(aaE:Int)(r:(Ac×Bool))(h:Ht aC aP aa9 aaA aaB aaC aaD aaE=some r):Spec Tryz.prog 35 [(Z7 aC),(Z8 aP),(.agg [(Z12 aa9 aaA aaB),(Z12 aaC aaD aaE)])] [] (.tuple [(Z70 r.1),(.bool r.2)]) []:=by
 refine Ab mix Tryz.func35 (fun Γ hq=>?_);unfold Ht at h;refine Ak hq zzN124 [5,6] ?_;obtain⟨hc1,h⟩:=Aa h;obtain⟨x2,hx2,h⟩:=bind_some h;refine gR hq zzN90 [5,6] [] [(Z36 x2.1 x2.2.1 x2.2.2)] (ci (show(Bd (0:Int) 2) from(by decide)) (ci hc1 (c1 (Iv (aP.getD (0:Int).toNat (0:Int)) aa9 aaA aaB x2 hx2)))) ?_;obtain⟨hc3,h⟩:=Aa h;obtain⟨x4,hx4,h⟩:=bind_some h;refine gR hq zzN73 [6] [] [(Z36 x4.1 x4.2.1 x4.2.2)] (ci (show(Bd (1:Int) 2) from(by decide)) (ci hc3 (c1 (Iv (aP.getD (1:Int).toNat (0:Int)) aaC aaD aaE x4 hx4)))) ?_;refine gR hq zzN100 [6] [] [] (ci (gI ((!x2.2.2)==false)) (ci (Vw (!x2.2.2)) (ci (gI ((Q110 x2 x4)==false)) (ci (gI ((Q110 x2 x4)==false)) (ci (Vw (Q110 x2 x4)) (ci (gI ((bif (Q110 x2 x4) then true else(x2.2.1 !=x4.2.1))==false)) (ci (gI ((bif (Q110 x2 x4) then true else(x2.2.1 !=x4.2.1))==false)) (c1 (Vw (bif (Q110 x2 x4) then true else(x2.2.1 !=x4.2.1))))))))))) ?_;refine gC h ?_ ?_<;>intro h
 ·refine Ak hq [6,7] [6] ?_;cases h;exact Dl []
 ·refine Ak hq [6,7] [6] ?_;cases h;exact Dl []
def Gi(aM:Int):Option (Int×Int×Bool):=
 (some ((-1:Int),aM,true))
theorem O4(aM:Int)(r:(Int×Int×Bool))(h:Gi aM=some r):Spec Tryz.prog 62 [(Z7 aM)] [] (.tuple [(Z7 r.1),(Z7 r.2.1),(.bool r.2.2)]) []:=by
 refine Ab mix Tryz.func62 (fun Γ hq=>?_);unfold Gi at h;refine Ak hq [0] [] ?_;refine Ak hq Yz [] ?_;cases h;exact Dl []
def Q111(x2:(Int×Int×Bool))(x4:(Int×Int×Bool)):=(bif (!x2.2.2) then true else(!x4.2.2))
def Ga(aC:Int)(aP:List Int)(aa9:List Ad)(aaA:List (List Int))(aaB:Int):Option (Ac×Bool):=
 (Bw (Bd (0:Int) aP.length) ((Ea (aP.getD (0:Int).toNat (0:Int)) aa9 aaA aaB).bind fun x2=>(Bw (Bd (1:Int) aP.length) ((Gi (aP.getD (1:Int).toNat (0:Int))).bind fun x4=>(bif (bif (bif (bif (!x2.2.2) then true else(!x4.2.2)) then true else(x2.2.1 !=x4.2.1)) then true else(x2.2.1==aC)) then(some ((⟨(0:Int),(0:Int),(0:Int),(0:Int)⟩:Ac),false)) else(some ((⟨aC,x2.1,x4.1,x2.2.1⟩:Ac),true)))))))
theorem Tk(aC:Int)(aP:List Int)(aa9:List Ad)(aaA:List (List Int))(aaB:Int)(r:(Ac×Bool))(h:Ga aC aP aa9 aaA aaB=some r):Spec Tryz.prog 35 [(Z7 aC),(Z8 aP),(.agg [(Z12 aa9 aaA aaB),(.clo 62 [] [])])] [] (.tuple [(Z70 r.1),(.bool r.2)]) []:=by
 refine Ab mix Tryz.func35 (fun Γ hq=>?_);unfold Ga at h;refine Ak hq zzN124 [5,6] ?_;obtain⟨hc1,h⟩:=Aa h;obtain⟨x2,hx2,h⟩:=bind_some h;refine gR hq zzN90 [5,6] [] [(Z36 x2.1 x2.2.1 x2.2.2)] (ci (show(Bd (0:Int) 2) from(by decide)) (ci hc1 (c1 (Iv (aP.getD (0:Int).toNat (0:Int)) aa9 aaA aaB x2 hx2)))) ?_;obtain⟨hc3,h⟩:=Aa h;obtain⟨x4,hx4,h⟩:=bind_some h;refine gR hq zzN73 [6] [] [(Z36 x4.1 x4.2.1 x4.2.2)] (ci (show(Bd (1:Int) 2) from(by decide)) (ci hc3 (c1 (O4 (aP.getD (1:Int).toNat (0:Int)) x4 hx4)))) ?_;refine gR hq zzN100 [6] [] [] (ci (gI ((!x2.2.2)==false)) (ci (Vw (!x2.2.2)) (ci (gI ((Q111 x2 x4)==false)) (ci (gI ((Q111 x2 x4)==false)) (ci (Vw (Q111 x2 x4)) (ci (gI ((bif (Q111 x2 x4) then true else(x2.2.1 !=x4.2.1))==false)) (ci (gI ((bif (Q111 x2 x4) then true else(x2.2.1 !=x4.2.1))==false)) (c1 (Vw (bif (Q111 x2 x4) then true else(x2.2.1 !=x4.2.1))))))))))) ?_;refine gC h ?_ ?_<;>intro h
 ·refine Ak hq [6,7] [6] ?_;cases h;exact Dl []
 ·refine Ak hq [6,7] [6] ?_;cases h;exact Dl []
def Q112(x2:(Int×Int×Bool))(x4:(Int×Int×Bool)):=(bif (!x2.2.2) then true else(!x4.2.2))
def Gb(aC:Int)(aP:List Int)(aaC:List Ad)(aaD:List (List Int))(aaE:Int):Option (Ac×Bool):=
 (Bw (Bd (0:Int) aP.length) ((Gi (aP.getD (0:Int).toNat (0:Int))).bind fun x2=>(Bw (Bd (1:Int) aP.length) ((Ea (aP.getD (1:Int).toNat (0:Int)) aaC aaD aaE).bind fun x4=>(bif (bif (bif (bif (!x2.2.2) then true else(!x4.2.2)) then true else(x2.2.1 !=x4.2.1)) then true else(x2.2.1==aC)) then(some ((⟨(0:Int),(0:Int),(0:Int),(0:Int)⟩:Ac),false)) else(some ((⟨aC,x2.1,x4.1,x2.2.1⟩:Ac),true)))))))
theorem Tl(aC:Int)(aP:List Int)(aaC:List Ad)(aaD:List (List Int))(aaE:Int)(r:(Ac×Bool))(h:Gb aC aP aaC aaD aaE=some r):Spec Tryz.prog 35 [(Z7 aC),(Z8 aP),(.agg [(.clo 62 [] []),(Z12 aaC aaD aaE)])] [] (.tuple [(Z70 r.1),(.bool r.2)]) []:=by
 refine Ab mix Tryz.func35 (fun Γ hq=>?_);unfold Gb at h;refine Ak hq zzN124 [5,6] ?_;obtain⟨hc1,h⟩:=Aa h;obtain⟨x2,hx2,h⟩:=bind_some h;refine gR hq zzN90 [5,6] [] [(Z36 x2.1 x2.2.1 x2.2.2)] (ci (show(Bd (0:Int) 2) from(by decide)) (ci hc1 (c1 (O4 (aP.getD (0:Int).toNat (0:Int)) x2 hx2)))) ?_;obtain⟨hc3,h⟩:=Aa h;obtain⟨x4,hx4,h⟩:=bind_some h;refine gR hq zzN73 [6] [] [(Z36 x4.1 x4.2.1 x4.2.2)] (ci (show(Bd (1:Int) 2) from(by decide)) (ci hc3 (c1 (Iv (aP.getD (1:Int).toNat (0:Int)) aaC aaD aaE x4 hx4)))) ?_;refine gR hq zzN100 [6] [] [] (ci (gI ((!x2.2.2)==false)) (ci (Vw (!x2.2.2)) (ci (gI ((Q112 x2 x4)==false)) (ci (gI ((Q112 x2 x4)==false)) (ci (Vw (Q112 x2 x4)) (ci (gI ((bif (Q112 x2 x4) then true else(x2.2.1 !=x4.2.1))==false)) (ci (gI ((bif (Q112 x2 x4) then true else(x2.2.1 !=x4.2.1))==false)) (c1 (Vw (bif (Q112 x2 x4) then true else(x2.2.1 !=x4.2.1))))))))))) ?_;refine gC h ?_ ?_<;>intro h
 ·refine Ak hq [6,7] [6] ?_;cases h;exact Dl []
 ·refine Ak hq [6,7] [6] ?_;cases h;exact Dl []
def Fo(a1:TFunc)(x2:(Ap×Int)):(List Ac×Int)->Option (LR (List Ac×Int) (List Ac)):=
 fun((l3,i4):(List Ac×Int))=>(bif (decide (i4<(a1.Blocks.length:Int))) then(Option.bind (α:=List Ac) (Bw (Bd i4 a1.Blocks.length) (Bw (((((a1.Blocks.getD i4.toNat default).End.Kind:Int)!=2)==false)=true->(Bd (0:Int) ((a1.Blocks.getD i4.toNat default).End.To).length)) (Bw (((((a1.Blocks.getD i4.toNat default).End.Kind:Int)!=2)==false)=true->(Bd (1:Int) ((a1.Blocks.getD i4.toNat default).End.To).length)) (bif (bif (((a1.Blocks.getD i4.toNat default).End.Kind:Int)!=2) then true else(((((a1.Blocks.getD i4.toNat default).End.To).getD (0:Int).toNat (0:Int)):Int)==(((a1.Blocks.getD i4.toNat default).End.To).getD (1:Int).toNat (0:Int)))) then(some l3) else((K5 a1.Blocks x2.1.Pred i4).bind fun x10=>((Ht i4 ((a1.Blocks.getD i4.toNat default).End.To) a1.Blocks x2.1.Pred i4 a1.Blocks x2.1.Pred i4).bind fun x11=>(bif x11.2 then(Bw (l3.length+([x11.1]:List Ac).length<=room) (some (l3++([x11.1]:List Ac)))) else((Ga i4 ((a1.Blocks.getD i4.toNat default).End.To) a1.Blocks x2.1.Pred i4).bind fun x13=>(bif x13.2 then(Bw (l3.length+([x13.1]:List Ac).length<=room) (some (l3++([x13.1]:List Ac)))) else((Gb i4 ((a1.Blocks.getD i4.toNat default).End.To) a1.Blocks x2.1.Pred i4).bind fun x15=>(bif x15.2 then(Bw (l3.length+([x15.1]:List Ac).length<=room) (some (l3++([x15.1]:List Ac)))) else(some l3)))))))))))) (fun x17=>(some (.next (x17,(Bb (i4+1))))))) else(some (.done l3)))
def Zi :Empty->Option (LR Empty (List Ac)):=
 fun(s_:Empty)=>nomatch s_
def K_hammock_All(Γ:Hy)(a1:TFunc)(r:List Ac):Exit->St->Prop:=fK Tryz.prog Γ Tryz.f18.results.toList [] (Z39 r 20000) [(20000,.tok 4 27 r.length)]
def Q119(a1:TFunc):AV:=(Z21 a1.Blocks)
def Q116:AV:=(AV.list 4 Co default ([]:List Ac) .exact)
def Q113(a1:TFunc)(i4:Int):=((((a1.Blocks.getD i4.toNat default).End.Kind:Int)!=2)==false)
def Q117:=(⟨[(2,(AV.list 4 Co default ([]:List Ac) (.own 6002)))],[(6002,.tok 4 27 (([]:List Ac).length))],[]⟩:St)
def Q115(a1:TFunc)(x2:(Ap×Int))(i4:Int):AV:=(.clo 60 [] [(.rpo [(Q119 a1)]),(.rpo [(Z5 x2.1.Pred)]),(.rpo [(Z7 i4)])])
def Q114(a1:TFunc)(x2:(Ap×Int)):=(⟨[Z48,(3,(.ptr 3 0)),(5,(AV.list 4 Co default ([]:List Ac) (.own 5005))),(21,(Q119 a1)),(22,(Z54 a1.Blocks.length)),(23,Td)],[(1,.row 25 [(Z8 a1.Params),(Z7 a1.Ret),(Q119 a1)]),(3,.row 41 [(Z5 x2.1.Succ),(Z5 x2.1.Pred)]),(5005,.tok 4 27 (([]:List Ac).length))],[]⟩:St)
def F2(a1:TFunc):Option (List Ac):=
 ((My (S:=Empty) (X:=List Ac) ((Kw a1 (2:Int)).bind fun x1=>(bif (x1 !=0) then(some (.done ([]:List Ac))) else((Lh a1).bind fun x2=>((An (Fo a1 x2) (([]:List Ac),(0:Int))).bind (fun x19=>(some (.done x19))))))) Zi).bind (fun x21=>(some x21)))
theorem Mc(a1:TFunc)(r:List Ac)(h:F2 a1=some r):Spec Tryz.prog 18 [(Z62 a1)] [] (Z39 r 20000) [(20000,.tok 4 27 r.length)]:=by
 refine Ab mix Tryz.func18 (fun Γ hq=>?_);unfold F2 at h;refine gR hq [1] [1] [(2,Q116)] [] (c1 (Dx 4 Co (default:Ac))) ?_;obtain⟨x21,hx21,h⟩:=bind_some h;refine gS hx21 (fun(s_:Empty)=>nomatch s_) (fun(s_:Empty)=>nomatch s_) (fun r_=>aR (K_hammock_All Γ a1 r_)) ?_ ?_ ?_
 ·clear h hx21;intro y h;obtain⟨x1,hx1,h⟩:=bind_some h;refine gR hq [1,14] [1] [] [(Z44 x1)] (c1 (ok_check_Check a1 (2:Int) x1 hx1)) ?_;refine gC h ?_ ?_<;>intro h
  ·refine gR hq [2] [] [(2,Q116)] [] (c1 (Dx 4 Co (default:Ac))) ?_;refine N9 (⟨[(2,Q116)],[],[]⟩:St) ?_;cases h;exact gJo (Pj (J9 zzN101 (show Le Γ _ Q117 from Le.trans (Du (st':=⟨[(2,Q116)],[],[]⟩) [2] [] hq) (Le.trans (P8 (t:=2) (nm:=6002) (sz':=4) (fun i=>Co (([]:List Ac).getD i default)) 27 rfl rfl (.inl ⟨rfl,rfl⟩) (fun h_=>absurd h_ (by decide))) (Du (st':=Q117) [2] [6002] hq)))))
  ·obtain⟨x2,hx2,h⟩:=bind_some h;refine gR hq Ml Ml [] [(Z34 x2.1 x2.2)] (c1 (Uc a1 x2 hx2)) ?_;refine gR hq [1,3,5] Ml [(5,Q116)] [] (c1 (Dx 4 Co (default:Ac))) ?_;refine Ak hq Wj Ml ?_;refine Ll (st':=(Q114 a1 x2)) (Le.trans (Du (st':=⟨[Z48,(3,(.ptr 3 0)),(5,Q116),(21,(Q119 a1)),(22,(Z54 a1.Blocks.length)),(23,Td)],[(1,.row 25 [(Z8 a1.Params),(Z7 a1.Ret),(Q119 a1)]),(3,.row 41 [(Z5 x2.1.Succ),(Z5 x2.1.Pred)])],[]⟩) Wj Ml hq) (Le.trans (P8 (t:=5) (nm:=5005) (sz':=4) (fun i=>Co (([]:List Ac).getD i default)) 27 rfl rfl (.inl ⟨rfl,rfl⟩) (fun h_=>absurd h_ (by decide))) (Du (st':=(Q114 a1 x2)) Wj Yy hq))) ?_;obtain⟨x19,hx19,h⟩:=bind_some h;refine gL hq hx19 Wj Yy (fun u (l3,i4)=>(F4 u [(5,(Z39 l3 5005)),(23,(Z7 i4))] [(5005,.tok 4 27 l3.length)])) (fun u l5=>aG Γ (.exit 0) (⟨[(5,(Z39 l5 5005))],[(5005,.tok 4 27 l5.length)],[]⟩:St)) ?_ ?_
   ·rintro⟨l3,i4⟩ y h;unfold Fo at h;refine Ak hq [1,3,5,21,22,23,24] Yy ?_;refine gC h ?_ ?_<;>intro h
    ·obtain⟨x17,hx17,h⟩:=bind_some h;refine gJ hx17 (fun l6=>aG Γ .normal (⟨[Z48,(3,(.ptr 3 0)),(5,(Z39 l6 5005)),(21,(Q119 a1)),(22,(Z54 a1.Blocks.length)),(23,(Z7 i4))],[(1,.row 25 [(Z8 a1.Params),(Z7 a1.Ret),(Q119 a1)]),(3,.row 41 [(Z5 x2.1.Succ),(Z5 x2.1.Pred)]),(5005,.tok 4 27 l6.length)],[]⟩:St)) ?_ ?_
     ·clear h hx17;intro y h;obtain⟨hc7,h⟩:=Aa h;refine gR hq [1,3,5,6,7,21,22,23] Wl [] [] (c1 hc7) ?_;obtain⟨hc8,h⟩:=Aa h;obtain⟨hc9,h⟩:=Aa h;refine gR hq [1,3,5,6,7,21,22,23,44] Wl [] [] (ci (gI (Q113 a1 i4)) (ci (gI (Q113 a1 i4)) (ci (gI (Q113 a1 i4)) (ci hc8 (ci (gI (Q113 a1 i4)) (ci (gI (Q113 a1 i4)) (ci (gI (Q113 a1 i4)) (ci (gI (Q113 a1 i4)) (ci hc9 (ci (gI (Q113 a1 i4)) (ci (gI (Q113 a1 i4)) (ci (gI (Q113 a1 i4)) (c1 (Vw (((a1.Blocks.getD i4.toNat default).End.Kind:Int)!=2))))))))))))))) ?_;refine gC h ?_ ?_<;>intro h
      ·obtain rfl:=OI h;exact gK (D3 (Du Wj Yy hq))
      ·obtain⟨x10,hx10,h⟩:=bind_some h;refine gR hq zzN35 Wl [] [⟨[],[],(.agg [(Q115 a1 x2 i4),(Q115 a1 x2 i4),(Q115 a1 x2 i4),(.clo 62 [] []),(.clo 62 [] []),(Q115 a1 x2 i4)]),[],[],[]⟩] (c1 (Zv a1.Blocks x2.1.Pred i4 x10 hx10)) ?_;refine gU 3 ?_;refine Ak hq zzN31 Wl ?_;refine gCt true ?_;refine gR hq zzN49 zzN114 [] [] (c1 (show(Bd (0:Int) 3) from(by decide))) ?_;obtain⟨x11,hx11,h⟩:=bind_some h;refine gR hq zzN36 zzN50 [] [(Z37 x11.1 x11.2)] (c1 (W5 i4 ((a1.Blocks.getD i4.toNat default).End.To) a1.Blocks x2.1.Pred i4 a1.Blocks x2.1.Pred i4 x11 hx11)) ?_;refine Ak hq zzN37 zzN50 ?_;refine gC h ?_ ?_<;>intro h
       ·obtain⟨hc12,h⟩:=Aa h;refine gR hq Wj Yy (Z24 x11.1 l3) [] (ci (Ca 4 Co (default:Ac) ([x11.1]:List Ac)) (ci (Eq.refl l3.length) (ci hc12 (ci (M2 4 5005 Co (default:Ac) l3 ([x11.1]:List Ac)) (c1 (He l3 ([x11.1]:List Ac))))))) ?_;cases h;exact gK (D3 Fe)
       ·refine Ak hq zzN35 Wl ?_;refine Ak hq zzN31 Wl ?_;refine gCt true ?_;refine gR hq zzN49 zzN114 [] [] (c1 (show(Bd (1:Int) 3) from(by decide))) ?_;obtain⟨x13,hx13,h⟩:=bind_some h;refine gR hq zzN36 zzN50 [] [(Z37 x13.1 x13.2)] (c1 (Tk i4 ((a1.Blocks.getD i4.toNat default).End.To) a1.Blocks x2.1.Pred i4 x13 hx13)) ?_;refine Ak hq zzN37 zzN50 ?_;refine gC h ?_ ?_<;>intro h
        ·obtain⟨hc14,h⟩:=Aa h;refine gR hq Wj Yy (Z24 x13.1 l3) [] (ci (Ca 4 Co (default:Ac) ([x13.1]:List Ac)) (ci (Eq.refl l3.length) (ci hc14 (ci (M2 4 5005 Co (default:Ac) l3 ([x13.1]:List Ac)) (c1 (He l3 ([x13.1]:List Ac))))))) ?_;cases h;exact gK (D3 Fe)
        ·refine Ak hq zzN35 Wl ?_;refine Ak hq zzN31 Wl ?_;refine gCt true ?_;refine gR hq zzN49 zzN114 [] [] (c1 (show(Bd (2:Int) 3) from(by decide))) ?_;obtain⟨x15,hx15,h⟩:=bind_some h;refine gR hq zzN36 zzN50 [] [(Z37 x15.1 x15.2)] (c1 (Tl i4 ((a1.Blocks.getD i4.toNat default).End.To) a1.Blocks x2.1.Pred i4 x15 hx15)) ?_;refine Ak hq zzN37 zzN50 ?_;refine gC h ?_ ?_<;>intro h
         ·obtain⟨hc16,h⟩:=Aa h;refine gR hq Wj Yy (Z24 x15.1 l3) [] (ci (Ca 4 Co (default:Ac) ([x15.1]:List Ac)) (ci (Eq.refl l3.length) (ci hc16 (ci (M2 4 5005 Co (default:Ac) l3 ([x15.1]:List Ac)) (c1 (He l3 ([x15.1]:List Ac))))))) ?_;cases h;exact gK (D3 Fe)
         ·refine Ak hq zzN35 Wl ?_;refine Ak hq zzN31 Wl ?_;refine gCt false ?_;obtain rfl:=OI h;exact gK (D3 (Du Wj Yy hq))
     ·clear hx17;refine gA ?_;refine Ak hq Wj Yy ?_;cases h;exact gN Fe
    ·cases h;exact gO (D3 (Du [5] [5005] hq))
   ·clear hx19;refine gA ?_;refine Ak hq [2] [5005] ?_;cases h;exact gJo (Pj (J9 [(5005,20000)] (Le.refl _ _)))
 ·exact nofun
 ·clear hx21;refine T0 (fun st' hk=>?_);obtain rfl:=OI h;exact gK hk
def Ps(aC:Int)(x1:List Ac):Int->Option (LR Int (Unit ⊕ (Ac×Bool))):=
 fun(i2:Int)=>(bif (decide (i2<(x1.length:Int))) then(Bw (Bd i2 x1.length) (bif (((x1.getD i2.toNat default).At:Int)==aC) then(some (.done (.inr ((x1.getD i2.toNat default),true)))) else(some (.next (Bb (i2+1)))))) else(some (.done (.inl ()))))
def K_hammock_Find(Γ:Hy)(a1:TFunc)(aC:Int)(r:(Ac×Bool)):Exit->St->Prop:=fK Tryz.prog Γ Tryz.f10.results.toList [] (.tuple [(Z70 r.1),(.bool r.2)]) []
def L7(a1:TFunc)(aC:Int):Option (Ac×Bool):=
 ((F2 a1).bind fun x1=>((An (Ps aC x1) (0:Int)).bind (fun x4=>(match x4 with|(.inl _)=>(some ((⟨(0:Int),(0:Int),(0:Int),(0:Int)⟩:Ac),false))|(.inr r6)=>(some r6)))))
theorem S0(a1:TFunc)(aC:Int)(r:(Ac×Bool))(h:L7 a1 aC=some r):Spec Tryz.prog 10 [(Z62 a1),(Z7 aC)] [] (.tuple [(Z70 r.1),(.bool r.2)]) []:=by
 refine Ab mix Tryz.func10 (fun Γ hq=>?_);unfold L7 at h;refine Ak hq [1,2,4] [2,4] ?_;obtain⟨x1,hx1,h⟩:=bind_some h;refine gR hq zzN121 [4,9] [] [⟨[],zzN143,(Z39 x1 20000),[(20000,.tok 4 27 x1.length)],[],[]⟩] (c1 (Mc a1 x1 hx1)) ?_;obtain⟨x4,hx4,h⟩:=bind_some h;refine gL hq hx4 zzN121 [4,9] (fun u i2=>(F4 u [(11,(Z7 i2))] [])) (fun u x_=>match x_ with|(.inl _)=>aG Γ (.exit 0) (W8 [4] [4] u [] [])|(.inr r_)=>aR (K_hammock_Find Γ a1 aC r_)) ?_ ?_
 ·intro i2 y h;unfold Ps at h;refine Ak hq [1,4,9,10,11,12] [4,9] ?_;refine gC h ?_ ?_<;>intro h
  ·obtain⟨hc3,h⟩:=Aa h;refine gR hq [1,4,7,9,10,11] [4,7,9] [] [] (c1 hc3) ?_;refine Ak hq [1,4,7,9,10,11,18] [4,7,9] ?_;refine gC h ?_ ?_<;>intro h
   ·refine Ak hq [4,5] [4] ?_;cases h;exact gO (Pj (J9 [] (Le.refl _ _)))
   ·refine Ak hq zzN121 [4,9] ?_;cases h;exact gN Fe
  ·cases h;exact gO (D3 (Du [4] [4] hq))
 ·clear hx4;rcases x4 with _|r6
  ·refine gA ?_;refine Ak hq [4,5] [4] ?_;cases h;exact Dl []
  ·refine T0 (fun st' hk=>?_);obtain rfl:=OI h;exact gK hk
def Fa(aE:List Ac)(aD:Ac):Int->Option (LR Int (Unit ⊕ Int)):=
 fun(i1:Int)=>(bif (decide (i1<(aE.length:Int))) then(Bw (Bd i1 aE.length) (bif ((aD.At==(aE.getD i1.toNat default).At)&&((aD.Then==(aE.getD i1.toNat default).Then)&&((aD.Else==(aE.getD i1.toNat default).Else)&&((aD.Join==(aE.getD i1.toNat default).Join)&&true)))) then(some (.done (.inr i1))) else(some (.next (Bb (i1+1)))))) else(some (.done (.inl ()))))
def Jk(Γ:Hy)(aE:List Ac)(aD:Ac)(r:Int):Exit->St->Prop:=fK Tryz.prog Γ Tryz.f55.results.toList [] (.int .i64 r) []
def Dr(aE:List Ac)(aD:Ac):Option Int:=
 ((An (Fa aE aD) (0:Int)).bind (fun x3=>(match x3 with|(.inl _)=>(some (-1:Int))|(.inr r5)=>(some r5))))
theorem Jj(aE:List Ac)(aD:Ac)(r:Int)(h:Dr aE aD=some r):Spec Tryz.prog 55 [(AV.list 4 Co default aE .none),(Z70 aD)] [] (.int .i64 r) []:=by
 refine Ab mix Tryz.func55 (fun Γ hq=>?_);unfold Dr at h;refine Ak hq Re [3] ?_;refine Ak hq [0,3,7,8] [3] ?_;obtain⟨x3,hx3,h⟩:=bind_some h;refine gL hq hx3 [0,3,7,8] [3] (fun u i1=>(F4 u [(8,(Z7 i1))] [])) (fun u x_=>match x_ with|(.inl _)=>aG Γ (.exit 0) (⟨[],[],[]⟩:St)|(.inr r_)=>aR (Jk Γ aE aD r_)) ?_ ?_
 ·intro i1 y h;unfold Fa at h;refine Ak hq [0,3,7,8,9] [3] ?_;refine gC h ?_ ?_<;>intro h
  ·refine Ak hq [0,3,5,7,8] [3] ?_;obtain⟨hc2,h⟩:=Aa h;refine gR hq [0,3,5,7,8,16] [3] [] [] (c1 hc2) ?_;refine gC h ?_ ?_<;>intro h
   ·refine Ak hq [4] [] ?_;cases h;exact gO (Pj (J9 [] (Le.refl _ _)))
   ·refine Ak hq [0,3,7,8] [3] ?_;cases h;exact gN Fe
  ·cases h;exact gO (D3 (Du [] [] hq))
 ·clear hx3;rcases x3 with _|r5
  ·refine gA ?_;refine Ak hq [4] [] ?_;cases h;exact Dl []
  ·refine T0 (fun st' hk=>?_);obtain rfl:=OI h;exact gK hk
def Da(aE:List Ac)(aD:Ac):Option Bool:=
 ((Dr aE aD).bind fun x1=>(some (decide (((0:Int):Int)<=x1))))
theorem Iw(aE:List Ac)(aD:Ac)(r:Bool)(h:Da aE aD=some r):Spec Tryz.prog 27 [(AV.list 4 Co default aE .none),(Z70 aD)] [] (.bool r) []:=by
 refine Ab mix Tryz.func27 (fun Γ hq=>?_);unfold Da at h;refine Ak hq Re [3] ?_;obtain⟨x1,hx1,h⟩:=bind_some h;refine gR hq [4] [] [] [(Z44 x1)] (c1 (Jj aE aD x1 hx1)) ?_;cases h;exact Dl []
def L8(a1:TFunc)(aJ:Ac):Option Bool:=
 ((F2 a1).bind fun x1=>((Da x1 aJ).bind fun x2=>(some x2)))
theorem Qh(a1:TFunc)(aJ:Ac)(r:Bool)(h:L8 a1 aJ=some r):Spec Tryz.prog 12 [(Z62 a1),(Z70 aJ)] [] (.bool r) []:=by
 refine Ab mix Tryz.func12 (fun Γ hq=>?_);unfold L8 at h;refine Ak hq G3 G3 ?_;obtain⟨x1,hx1,h⟩:=bind_some h;obtain⟨x2,hx2,h⟩:=bind_some h;refine gR hq [4] [] [] [⟨[],[(20000,6)],(Z39 x1 20000),[(20000,.tok 4 27 x1.length)],[],[]⟩,(Z2 x2)] (ci (Mc a1 x1 hx1) (c1 (Iw x1 aJ x2 hx2))) ?_;obtain rfl:=OI h;exact Dl []
def Ng(a1:TFunc)(aJ:Ac):(List E7×Int)->Option (LR (List E7×Int) (List E7)):=
 fun((l2,i3):(List E7×Int))=>(bif (decide (i3<(([aJ.Then,aJ.Else]:List Int).length:Int))) then(Option.bind (α:=List E7) (Bw (Bd i3 ([aJ.Then,aJ.Else]:List Int).length) (bif (((([aJ.Then,aJ.Else]:List Int).getD i3.toNat 0):Int)!=-1) then(Bw (Bd (([aJ.Then,aJ.Else]:List Int).getD i3.toNat 0) a1.Blocks.length) (Bw (l2.length+((a1.Blocks.getD (([aJ.Then,aJ.Else]:List Int).getD i3.toNat 0).toNat (default:Ad)).Ops).length<=room) (some (l2++(a1.Blocks.getD (([aJ.Then,aJ.Else]:List Int).getD i3.toNat 0).toNat (default:Ad)).Ops)))) else(some l2))) (fun x9=>(some (.next (x9,(Bb (i3+1))))))) else(some (.done l2)))
def Q124(aJ:Ac):=([aJ.Then,aJ.Else]:List Int)
def Q121:AV:=(AV.list 6 J8 default ([]:List E7) .exact)
def Q122(a1:TFunc)(aJ:Ac)(i3:Int):=(a1.Blocks.getD ((Q124 aJ).getD i3.toNat 0).toNat (default:Ad))
def Q125(a1:TFunc):List AV:=[(Z8 a1.Params),(Z7 a1.Ret),(Z21 a1.Blocks)]
def Q123:=(⟨[(4,(AV.list 6 J8 default ([]:List E7) (.own 6004))),(5,(.bool false))],[(6004,.tok 6 57 (([]:List E7).length))],[]⟩:St)
def Q120(aJ:Ac)(a1:TFunc):=(⟨[Oj,(6,(AV.list 6 J8 default ([]:List E7) (.own 5006))),(17,(Z80 (Q124 aJ))),(18,(.int .i64 ((Q124 aJ).length:Int))),(19,Td)],[(Rf 25 (Q125 a1)),(5006,.tok 6 57 (([]:List E7).length))],[]⟩:St)
def Ji(a1:TFunc)(aJ:Ac):Option (List E7×Bool):=
 ((L8 a1 aJ).bind fun x1=>(bif (!x1) then(some (([]:List E7),false)) else((An (Ng a1 aJ) (([]:List E7),(0:Int))).bind (fun x11=>(some (x11,true))))))
theorem O3(a1:TFunc)(aJ:Ac)(r:(List E7×Bool))(h:Ji a1 aJ=some r):Spec Tryz.prog 30 [(Z62 a1),(Z70 aJ)] [] (.tuple [(Z66 r.1 20000),(.bool r.2)]) [(20000,.tok 6 57 r.1.length)]:=by
 refine Ab mix Tryz.func30 (fun Γ hq=>?_);unfold Ji at h;refine gR hq G3 G3 [(4,Q121)] [] (c1 (Dx 6 J8 (default:E7))) ?_;obtain⟨x1,hx1,h⟩:=bind_some h;refine gR hq [2,3,12] G3 [] [(Z2 x1)] (c1 (Qh a1 aJ x1 hx1)) ?_;refine gC h ?_ ?_<;>intro h
 ·refine gR hq [4,5] [] [(4,Q121)] [] (c1 (Dx 6 J8 (default:E7))) ?_;refine N9 (⟨[(4,Q121),(5,(.bool false))],[],[]⟩:St) ?_;cases h;exact gK (e:=.ret) (J9 zzN132 (show Le Γ _ Q123 from Le.trans (Du (st':=⟨[(4,Q121),(5,(.bool false))],[],[]⟩) [4,5] [] hq) (Le.trans (P8 (t:=4) (nm:=6004) (sz':=6) (fun i=>J8 (([]:List E7).getD i default)) 57 rfl rfl (.inl ⟨rfl,rfl⟩) (fun h_=>absurd h_ (by decide))) (Du (st':=Q123) [4,5] [6004] hq))))
 ·refine gR hq [2,3,6] G3 [(6,Q121)] [] (c1 (Dx 6 J8 (default:E7))) ?_;refine gR hq zzN41 [2] [(17,(Z80 (Q124 aJ)))] [] (c1 (Ca 1 Ar (0:Int) (Q124 aJ))) ?_;refine Ll (st':=(Q120 aJ a1)) (Le.trans (Du (st':=⟨[Oj,(6,Q121),(17,(Z80 (Q124 aJ))),(18,(.int .i64 ((Q124 aJ).length:Int))),(19,Td)],[(Rf 25 (Q125 a1))],[]⟩) zzN41 [2] hq) (Le.trans (P8 (t:=6) (nm:=5006) (sz':=6) (fun i=>J8 (([]:List E7).getD i default)) 57 rfl rfl (.inl ⟨rfl,rfl⟩) (fun h_=>absurd h_ (by decide))) (Du (st':=(Q120 aJ a1)) zzN41 Abn hq))) ?_;obtain⟨x11,hx11,h⟩:=bind_some h;refine gL hq hx11 zzN41 Abn (fun u (l2,i3)=>(F4 u [(6,(Z66 l2 5006)),(19,(Z7 i3))] [(5006,.tok 6 57 l2.length)])) (fun u l4=>aG Γ (.exit 0) (⟨[(6,(Z66 l4 5006))],[(5006,.tok 6 57 l4.length)],[]⟩:St)) ?_ ?_
  ·rintro⟨l2,i3⟩ y h;unfold Ng at h;refine Ak hq [2,6,17,18,19,20] Abn ?_;refine gC h ?_ ?_<;>intro h
   ·obtain⟨x9,hx9,h⟩:=bind_some h;refine gJ hx9 (fun l5=>aG Γ .normal (⟨[Oj,(6,(Z66 l5 5006)),(17,(Z80 (Q124 aJ))),(18,(.int .i64 ((Q124 aJ).length:Int))),(19,(Z7 i3))],[(Rf 25 (Q125 a1)),(5006,.tok 6 57 l5.length)],[]⟩:St)) ?_ ?_
    ·clear h hx9;intro y h;obtain⟨hc6,h⟩:=Aa h;refine gR hq [2,6,8,17,18,19] Abn [] [] (c1 hc6) ?_;refine Ak hq [2,6,8,17,18,19,24] Abn ?_;refine gC h ?_ ?_<;>intro h
     ·obtain⟨hc7,h⟩:=Aa h;obtain⟨hc8,h⟩:=Aa h;refine gR hq zzN41 Abn [(32,(AV.list 6 J8 default (l2++(Q122 a1 aJ i3).Ops) (.own 5006)))] [] (ci hc7 (ci (Eq.refl l2.length) (ci hc8 (ci (M2 6 5006 J8 (default:E7) l2 ((Q122 a1 aJ i3).Ops)) (c1 (He l2 ((Q122 a1 aJ i3).Ops))))))) ?_;cases h;exact gK (D3 Fe)
     ·obtain rfl:=OI h;exact gK (D3 (Du zzN41 Abn hq))
    ·clear hx9;refine gA ?_;refine Ak hq zzN41 Abn ?_;cases h;exact gN Fe
   ·cases h;exact gO (D3 (Du [6] [5006] hq))
  ·clear hx11;refine gA ?_;refine Ak hq [4,5] [5006] ?_;cases h;exact Dl [(5006,20000)]
def Ov(a1:TFunc)(aJ:Ac):Option Int:=
 ((Ji a1 aJ).bind fun x1=>(some (x1.1.length:Int)))
theorem Abu(a1:TFunc)(aJ:Ac)(r:Int)(h:Ov a1 aJ=some r):Spec Tryz.prog 17 [(Z62 a1),(Z70 aJ)] [] (.int .i64 r) []:=by
 refine Ab mix Tryz.func17 (fun Γ hq=>?_);unfold Ov at h;refine Ak hq G3 G3 ?_;obtain⟨x1,hx1,h⟩:=bind_some h;refine gR hq [5] [10] [] [⟨[],[(20000,10)],(.tuple [(Z66 x1.1 20000),(.bool x1.2)]),[(20000,.tok 6 57 x1.1.length)],[],[]⟩] (c1 (O3 a1 aJ x1 hx1)) ?_;refine Ak hq [4] [] ?_;cases h;exact Dl []
def Li(a2:E7):Option Bool:=
 (some (a2.Lanes !=1))
theorem Vz(a2:E7)(r:Bool)(h:Li a2=some r):Spec Tryz.prog 32 [(.agg (J8 a2))] [] (.bool r) []:=by
 refine Ab mix Tryz.func32 (fun Γ hq=>?_);unfold Li at h;refine Ak hq [1] [1] ?_;refine Ak hq [2] [] ?_;cases h;exact Dl []
def Gz(aE:List E7):Int->Option (LR Int (Unit ⊕ Int)):=
 fun(i1:Int)=>(bif (decide (i1<(aE.length:Int))) then(Bw (Bd i1 aE.length) ((Li (aE.getD i1.toNat default)).bind fun x3=>(bif x3 then(some (.done (.inr i1))) else(some (.next (Bb (i1+1))))))) else(some (.done (.inl ()))))
def Lw(Γ:Hy)(aE:List E7)(r:Int):Exit->St->Prop:=fK Tryz.prog Γ Tryz.f58.results.toList [] (.int .i64 r) []
def E3(aE:List E7):Option Int:=
 ((An (Gz aE) (0:Int)).bind (fun x4=>(match x4 with|(.inl _)=>(some (-1:Int))|(.inr r6)=>(some r6))))
theorem Lt(aE:List E7)(r:Int)(h:E3 aE=some r):Spec Tryz.prog 58 [(AV.list 6 J8 default aE .none),(.clo 32 [] [])] [] (.int .i64 r) []:=by
 refine Ab mix Tryz.func58 (fun Γ hq=>?_);unfold E3 at h;refine Ak hq Ip [] ?_;refine Ak hq Yx [] ?_;obtain⟨x4,hx4,h⟩:=bind_some h;refine gL hq hx4 Yx [] (fun u i1=>(F4 u [(8,(Z7 i1))] [])) (fun u x_=>match x_ with|(.inl _)=>aG Γ (.exit 0) (⟨[],[],[]⟩:St)|(.inr r_)=>aR (Lw Γ aE r_)) ?_ ?_
 ·intro i1 y h;unfold Gz at h;refine Ak hq zzN136 [] ?_;refine gC h ?_ ?_<;>intro h
  ·refine Ak hq zzN137 [] ?_;obtain⟨hc2,h⟩:=Aa h;obtain⟨x3,hx3,h⟩:=bind_some h;refine gR hq zzN105 [] [] [(Z2 x3)] (ci hc2 (c1 (Vz (aE.getD i1.toNat default) x3 hx3))) ?_;refine gC h ?_ ?_<;>intro h
   ·refine Ak hq [4] [] ?_;cases h;exact gO (Pj (J9 [] (Le.refl _ _)))
   ·refine Ak hq Yx [] ?_;cases h;exact gN Fe
  ·cases h;exact gO (D3 (Du [] [] hq))
 ·clear hx4;rcases x4 with _|r6
  ·refine gA ?_;refine Ak hq [4] [] ?_;cases h;exact Dl []
  ·refine T0 (fun st' hk=>?_);obtain rfl:=OI h;exact gK hk
def Ef(aE:List E7):Option Bool:=
 ((E3 aE).bind fun x1=>(some (decide (((0:Int):Int)<=x1))))
theorem Kr(aE:List E7)(r:Bool)(h:Ef aE=some r):Spec Tryz.prog 31 [(AV.list 6 J8 default aE .none),(.clo 32 [] [])] [] (.bool r) []:=by
 refine Ab mix Tryz.func31 (fun Γ hq=>?_);unfold Ef at h;refine Ak hq Ip [] ?_;obtain⟨x1,hx1,h⟩:=bind_some h;refine gR hq [4] [] [] [(Z44 x1)] (c1 (Lt aE x1 hx1)) ?_;cases h;exact Dl []
def Mu(a1:TFunc)(aJ:Ac):Option Bool:=
 ((Ji a1 aJ).bind fun x1=>((bif (x1.2==true) then Ef x1.1 else some false).bind fun x2=>(some (bif x1.2 then(!x2) else false))))
theorem Yb(a1:TFunc)(aJ:Ac)(r:Bool)(h:Mu a1 aJ=some r):Spec Tryz.prog 14 [(Z62 a1),(Z70 aJ)] [] (.bool r) []:=by
 refine Ab mix Tryz.func14 (fun Γ hq=>?_);unfold Mu at h;refine Ak hq G3 G3 ?_;obtain⟨x1,hx1,h⟩:=bind_some h;refine gR hq [5,6] [10] [] [⟨[],[(20000,10)],(.tuple [(Z66 x1.1 20000),(.bool x1.2)]),[(20000,.tok 6 57 x1.1.length)],[],[]⟩] (c1 (O3 a1 aJ x1 hx1)) ?_;obtain⟨x2,hx2,h⟩:=bind_some h;refine gR hq [4] [] [] [(Z2 x2)] (ci (gI (x1.2==true)) (ci (fun(hg:(x1.2==true)=true)=>(Kr x1.1 x2 (C2 hg hx2))) (ci (gI (x1.2==true)) (c1 (Oa x1.2))))) ?_;cases h;exact Dl []
def Q127(x4:Int):=(x4==1)
def Q128(x6:List Ac):=(((x6.length:Int):Int)==1)
def Q130(x2:(Ac×Bool)):=(bif x2.2 then(((x2.1.At:Int)==0)&&(((x2.1.Then:Int)==1)&&(((x2.1.Else:Int)==2)&&(((x2.1.Join:Int)==3)&&true)))) else false)
def Q126(x2:(Ac×Bool))(x3:(Ac×Bool)):=(bif (Q130 x2) then(!x3.2) else false)
def Q129(x2:(Ac×Bool))(x3:(Ac×Bool))(x4:Int)(x5:Bool):=(bif (bif (Q126 x2 x3) then(Q127 x4) else false) then x5 else false)
def Q131(x2:(Ac×Bool))(x3:(Ac×Bool))(x4:Int)(x5:Bool)(x6:List Ac):=(bif (Q129 x2 x3 x4 x5) then(Q128 x6) else false)
def m_locksteplaw14_awake :Option Bool:=
 (m_locksteplaw14_diamond.bind fun x1=>((L7 x1 (0:Int)).bind fun x2=>((L7 x1 (1:Int)).bind fun x3=>((bif ((bif (bif x2.2 then(((x2.1.At:Int)==0)&&(((x2.1.Then:Int)==1)&&(((x2.1.Else:Int)==2)&&(((x2.1.Join:Int)==3)&&true)))) else false) then(!x3.2) else false)==true) then Ov x1 x2.1 else some (0:Int)).bind fun x4=>((bif ((bif (bif (bif x2.2 then(((x2.1.At:Int)==0)&&(((x2.1.Then:Int)==1)&&(((x2.1.Else:Int)==2)&&(((x2.1.Join:Int)==3)&&true)))) else false) then(!x3.2) else false) then(x4==1) else false)==true) then Mu x1 x2.1 else some false).bind fun x5=>((bif ((bif (bif (bif (bif x2.2 then(((x2.1.At:Int)==0)&&(((x2.1.Then:Int)==1)&&(((x2.1.Else:Int)==2)&&(((x2.1.Join:Int)==3)&&true)))) else false) then(!x3.2) else false) then(x4==1) else false) then x5 else false)==true) then F2 x1 else some []).bind fun x6=>((bif ((bif (bif (bif (bif (bif x2.2 then(((x2.1.At:Int)==0)&&(((x2.1.Then:Int)==1)&&(((x2.1.Else:Int)==2)&&(((x2.1.Join:Int)==3)&&true)))) else false) then(!x3.2) else false) then(x4==1) else false) then x5 else false) then(((x6.length:Int):Int)==1) else false)==true) then L8 x1 x2.1 else some false).bind fun x7=>((bif ((bif (bif (bif (bif (bif (bif x2.2 then(((x2.1.At:Int)==0)&&(((x2.1.Then:Int)==1)&&(((x2.1.Else:Int)==2)&&(((x2.1.Join:Int)==3)&&true)))) else false) then(!x3.2) else false) then(x4==1) else false) then x5 else false) then(((x6.length:Int):Int)==1) else false) then x7 else false)==true) then L8 x1 (⟨(0:Int),(0:Int),(0:Int),(0:Int)⟩:Ac) else some false).bind fun x8=>(some (bif (bif (bif (bif (bif (bif (bif x2.2 then(((x2.1.At:Int)==0)&&(((x2.1.Then:Int)==1)&&(((x2.1.Else:Int)==2)&&(((x2.1.Join:Int)==3)&&true)))) else false) then(!x3.2) else false) then(x4==1) else false) then x5 else false) then(((x6.length:Int):Int)==1) else false) then x7 else false) then(!x8) else false))))))))))
theorem Sc  (r:Bool) (h:m_locksteplaw14_awake=some r):Spec Tryz.prog 8 [] [] (.bool r) []:=by
 refine Ab mix Tryz.func8 (fun Γ hq=>?_);unfold m_locksteplaw14_awake at h;refine Ak hq [] [] ?_;obtain⟨x1,hx1,h⟩:=bind_some h;refine gR hq [1] [1] [] [⟨[],[],(Z62 x1),[],[],[]⟩] (c1 (Qi  x1 hx1)) ?_;obtain⟨x2,hx2,h⟩:=bind_some h;refine gR hq zzN138 K4 [] [(Z37 x2.1 x2.2)] (c1 (S0 x1 (0:Int) x2 hx2)) ?_;obtain⟨x3,hx3,h⟩:=bind_some h;refine gR hq [1,2,3,5] K4 [] [(Z37 x3.1 x3.2)] (c1 (S0 x1 (1:Int) x3 hx3)) ?_;obtain⟨x4,hx4,h⟩:=bind_some h;obtain⟨x5,hx5,h⟩:=bind_some h;obtain⟨x6,hx6,h⟩:=bind_some h;obtain⟨x7,hx7,h⟩:=bind_some h;obtain⟨x8,hx8,h⟩:=bind_some h;refine gR hq [0] [] [] [(Z44 x4),(Z2 x5),⟨[],[],(AV.list 4 Co default x6 .none),[],[],[]⟩,(Z2 x7),(Z2 x8)] (ci (gI (x2.2==true)) (ci (gI (x2.2==true)) (ci (Oa x2.2) (ci (gI ((Q130 x2)==true)) (ci (Oa (Q130 x2)) (ci (gI ((Q126 x2 x3)==true)) (ci (gI ((Q126 x2 x3)==true)) (ci (fun(hg:((Q126 x2 x3)==true)=true)=>(Abu x1 x2.1 x4 (C2 hg hx4))) (ci (gI ((Q126 x2 x3)==true)) (ci (Oa (Q126 x2 x3)) (ci (gI ((bif (Q126 x2 x3) then(Q127 x4) else false)==true)) (ci (gI ((bif (Q126 x2 x3) then(Q127 x4) else false)==true)) (ci (fun(hg:((bif (Q126 x2 x3) then(Q127 x4) else false)==true)=true)=>(Yb x1 x2.1 x5 (C2 hg hx5))) (ci (Oa (bif (Q126 x2 x3) then(Q127 x4) else false)) (ci (gI ((Q129 x2 x3 x4 x5)==true)) (ci (show(((Q129 x2 x3 x4 x5)==true)=true->(Spec Tryz.prog 18 [(Z62 x1)] [] (AV.list 4 Co default x6 .none) [])) from(fun hg=>(Spec.drop (Mc x1 x6 (C2 hg hx6))))) (ci (gI ((Q129 x2 x3 x4 x5)==true)) (ci (gI ((Q129 x2 x3 x4 x5)==true)) (ci (Oa (Q129 x2 x3 x4 x5)) (ci (gI ((Q131 x2 x3 x4 x5 x6)==true)) (ci (gI ((Q131 x2 x3 x4 x5 x6)==true)) (ci (fun(hg:((Q131 x2 x3 x4 x5 x6)==true)=true)=>(Qh x1 x2.1 x7 (C2 hg hx7))) (ci (Oa (Q131 x2 x3 x4 x5 x6)) (ci (gI ((bif (Q131 x2 x3 x4 x5 x6) then x7 else false)==true)) (ci (gI ((bif (Q131 x2 x3 x4 x5 x6) then x7 else false)==true)) (ci (fun(hg:((bif (Q131 x2 x3 x4 x5 x6) then x7 else false)==true)=true)=>(Qh x1 (⟨(0:Int),(0:Int),(0:Int),(0:Int)⟩:Ac) x8 (C2 hg hx8))) (ci (gI ((bif (Q131 x2 x3 x4 x5 x6) then x7 else false)==true)) (c1 (Oa (bif (Q131 x2 x3 x4 x5 x6) then x7 else false)))))))))))))))))))))))))))))) ?_;cases h;exact Dl []
def B1(a1:TFunc)(i2:Int):(Int×Int)->Option (LR (Int×Int) Int):=
 fun((i5,i6):(Int×Int))=>(Bw (Bd i2 a1.Blocks.length) (bif (bif (decide (i6<(((a1.Blocks.getD i2.toNat default).Phis).length:Int))) then(decide (i5<=20000)) else false) then(Bw (Bd i2 a1.Blocks.length) (Bw (Bd i6 ((a1.Blocks.getD i2.toNat default).Phis).length) (Bw (Bd i2 a1.Blocks.length) (Bw (Bd i6 ((a1.Blocks.getD i2.toNat default).Phis).length) (some (.next ((Bb ((Bb ((Bb (i5+1))+(((((a1.Blocks.getD i2.toNat default).Phis).getD i6.toNat default).From).length:Int)))+(((((a1.Blocks.getD i2.toNat default).Phis).getD i6.toNat default).Args).length:Int))),(Bb (i6+1))))))))) else(some (.done i5))))
def B2(a1:TFunc)(i2:Int):(Int×Int)->Option (LR (Int×Int) Int):=
 fun((i15,i16):(Int×Int))=>(Bw (Bd i2 a1.Blocks.length) (bif (bif (decide (i16<(((a1.Blocks.getD i2.toNat default).Ops).length:Int))) then(decide (i15<=20000)) else false) then(Bw (Bd i2 a1.Blocks.length) (Bw (Bd i16 ((a1.Blocks.getD i2.toNat default).Ops).length) (some (.next ((Bb ((Bb (i15+1))+(((((a1.Blocks.getD i2.toNat default).Ops).getD i16.toNat default).Args).length:Int))),(Bb (i16+1))))))) else(some (.done i15))))
def Bm(a1:TFunc):(Int×Int)->Option (LR (Int×Int) Int):=
 fun((i1,i2):(Int×Int))=>(bif (bif (decide (i2<(a1.Blocks.length:Int))) then(decide (i1<=20000)) else false) then(Bw (Bd i2 a1.Blocks.length) ((An (B1 a1 i2) ((Bb ((Bb (i1+1))+(((a1.Blocks.getD i2.toNat default).End.To).length:Int))),(0:Int))).bind (fun x13=>((An (B2 a1 i2) (x13,(0:Int))).bind (fun x21=>(some (.next (x21,(Bb (i2+1)))))))))) else(some (.done i1)))
def Cb(a1:TFunc):Option Bool:=
 ((An (Bm a1) ((a1.Params.length:Int),(0:Int))).bind (fun x23=>(some (decide (x23<=20000)))))
theorem Sd(a1:TFunc)(r:Bool)(h:Cb a1=some r):Spec Tryz.prog 26 [(Z62 a1)] [] (.bool r) []:=by
 refine Ab mix Tryz.func26 (fun Γ hq=>?_);unfold Cb at h;refine Ak hq [1] [1] ?_;refine Ak hq Ml [1] ?_;refine Ak hq Nq [1] ?_;obtain⟨x23,hx23,h⟩:=bind_some h;refine gL hq hx23 Nq [1] (fun u (i1,i2)=>(F4 u [(3,(Z7 i1)),(4,(Z7 i2))] [])) (fun u i3=>aG Γ (.exit 0) (⟨[(3,(Z7 i3))],[],[]⟩:St)) ?_ ?_
 ·rintro⟨i1,i2⟩ y h;unfold Bm at h;refine gR hq [1,3,4,18] [1] [] [] (ci (gI ((decide (i2<(a1.Blocks.length:Int)))==true)) (c1 (Oa (decide (i2<(a1.Blocks.length:Int)))))) ?_;refine gC h ?_ ?_<;>intro h
  ·obtain⟨hc4,h⟩:=Aa h;refine gR hq Nq [1] [] [] (c1 hc4) ?_;refine Ak hq zzN127 [1] ?_;obtain⟨x13,hx13,h⟩:=bind_some h;refine gL hq hx13 zzN127 [1] (fun u (i5,i6)=>(F4 u [(3,(Z7 i5)),(5,(Z7 i6))] [])) (fun u i7=>aG Γ (.exit 2) (W8 Nq [1] u [(3,(Z7 i7))] [])) ?_ ?_
   ·rintro⟨i5,i6⟩ y h;unfold B1 at h;obtain⟨hc8,h⟩:=Aa h;refine gR hq [1,3,4,5,44] [1] [] [] (ci hc8 (ci (gI ((decide (i6<(((a1.Blocks.getD i2.toNat default).Phis).length:Int)))==true)) (c1 (Oa (decide (i6<(((a1.Blocks.getD i2.toNat default).Phis).length:Int))))))) ?_;refine gC h ?_ ?_<;>intro h
    ·obtain⟨hc9,h⟩:=Aa h;obtain⟨hc10,h⟩:=Aa h;obtain⟨hc11,h⟩:=Aa h;obtain⟨hc12,h⟩:=Aa h;refine gR hq zzN127 [1] [] [] (ci hc9 (ci hc10 (ci hc11 (c1 hc12)))) ?_;refine Ak hq zzN127 [1] ?_;cases h;exact gN Fe
    ·cases h;exact gO (D3 (Du Nq [1] hq))
   ·clear hx13;refine gA ?_;refine Ak hq zzN128 [1] ?_;obtain⟨x21,hx21,h⟩:=bind_some h;refine gL hq hx21 zzN128 [1] (fun u (i15,i16)=>(F4 u [(3,(Z7 i15)),(6,(Z7 i16))] [])) (fun u i17=>aG Γ (.exit 4) (W8 Nq [1] u [(3,(Z7 i17))] [])) ?_ ?_
    ·rintro⟨i15,i16⟩ y h;unfold B2 at h;obtain⟨hc18,h⟩:=Aa h;refine gR hq [1,3,4,6,85] [1] [] [] (ci hc18 (ci (gI ((decide (i16<(((a1.Blocks.getD i2.toNat default).Ops).length:Int)))==true)) (c1 (Oa (decide (i16<(((a1.Blocks.getD i2.toNat default).Ops).length:Int))))))) ?_;refine gC h ?_ ?_<;>intro h
     ·obtain⟨hc19,h⟩:=Aa h;obtain⟨hc20,h⟩:=Aa h;refine gR hq zzN128 [1] [] [] (ci hc19 (c1 hc20)) ?_;refine Ak hq zzN128 [1] ?_;cases h;exact gN Fe
     ·cases h;exact gO (D3 (Du Nq [1] hq))
    ·clear hx21;refine gA ?_;refine Ak hq Nq [1] ?_;cases h;exact gN Fe
  ·cases h;exact gO (D3 (Du [3] [] hq))
 ·clear hx23;refine gA ?_;refine Ak hq [2] [] ?_;cases h;exact Dl []
def Be(a1:TFunc):(Int×Int)->Option (LR (Int×Int) Int):=
 fun((i1,i2):(Int×Int))=>(bif (decide (i2<(a1.Blocks.length:Int))) then(Bw (Bd i2 a1.Blocks.length) (Bw (Bd i2 a1.Blocks.length) (some (.next ((Bb ((Bb ((Bb (i1+1))+(((a1.Blocks.getD i2.toNat default).Ops).length:Int)))+(((a1.Blocks.getD i2.toNat default).Phis).length:Int))),(Bb (i2+1))))))) else(some (.done i1)))
def Q132(a1:TFunc)(x6:Int):=(bif (decide (((a1.Blocks.length:Int):Int)<=16)) then(decide (x6<=100)) else false)
def Q133(a1:TFunc)(x6:Int):=(bif (Q132 a1 x6) then true else(decide (((64:Int):Int)<(a1.Blocks.length:Int))))
def Di(a1:TFunc):Option Bool:=
 ((An (Be a1) ((0:Int),(0:Int))).bind (fun x6=>((Cb a1).bind fun x8=>(some (bif x8 then(bif (bif (bif (decide (((a1.Blocks.length:Int):Int)<=16)) then(decide (x6<=100)) else false) then true else(decide (((64:Int):Int)<(a1.Blocks.length:Int)))) then true else(decide (((512:Int):Int)<x6))) else false)))))
theorem Sf(a1:TFunc)(r:Bool)(h:Di a1=some r):Spec Tryz.prog 9 [(Z62 a1)] [] (.bool r) []:=by
 refine Ab mix Tryz.func9 (fun Γ hq=>?_);unfold Di at h;refine Ak hq [1] [1] ?_;refine Ak hq Ml [1] ?_;refine Ak hq Nq [1] ?_;obtain⟨x6,hx6,h⟩:=bind_some h;refine gL hq hx6 Nq [1] (fun u (i1,i2)=>(F4 u [(3,(Z7 i1)),(4,(Z7 i2))] [])) (fun u i3=>aG Γ (.exit 0) (W8 Ml [1] u [(3,(Z7 i3))] [])) ?_ ?_
 ·rintro⟨i1,i2⟩ y h;unfold Be at h;refine Ak hq [1,3,4,9] [1] ?_;refine gC h ?_ ?_<;>intro h
  ·obtain⟨hc4,h⟩:=Aa h;obtain⟨hc5,h⟩:=Aa h;refine gR hq Nq [1] [] [] (ci hc4 (c1 hc5)) ?_;refine Ak hq Nq [1] ?_;cases h;exact gN Fe
  ·cases h;exact gO (D3 (Du Ml [1] hq))
 ·clear hx6;refine gA ?_;obtain⟨x8,hx8,h⟩:=bind_some h;refine gR hq [2] [] [] [(Z2 x8)] (ci (Sd a1 x8 hx8) (ci (gI (x8==true)) (ci (gI (x8==true)) (ci (gI (x8==true)) (ci (gI (x8==true)) (ci (gI ((x8==true)&&((decide (((a1.Blocks.length:Int):Int)<=16))==true))) (ci (gI (x8==true)) (ci (show((x8==true)=true->((decide (((a1.Blocks.length:Int):Int)<=16))=true->((x8==true)&&((decide (((a1.Blocks.length:Int):Int)<=16))==true))=true)) from(fun hg=>(aT hg))) (ci (gI (x8==true)) (ci (gI ((x8==true)&&((Q132 a1 x6)==false))) (ci (gI ((x8==true)&&((Q132 a1 x6)==false))) (ci (gI ((x8==true)&&((Q132 a1 x6)==false))) (ci (gI (x8==true)) (ci (show((x8==true)=true->((Q132 a1 x6)=false->((x8==true)&&((Q132 a1 x6)==false))=true)) from(fun hg=>(aF hg))) (ci (gI (x8==true)) (ci (gI ((x8==true)&&((Q133 a1 x6)==false))) (ci (gI (x8==true)) (ci (show((x8==true)=true->((Q133 a1 x6)=false->((x8==true)&&((Q133 a1 x6)==false))=true)) from(fun hg=>(aF hg))) (c1 (Oa x8)))))))))))))))))))) ?_;cases h;exact Dl []
def Bn(a0:Ap)(aa1:Int)(i6:Int):(Int×List Bool)->Option (LR (Int×List Bool) (List Bool)):=
 fun((i9,l10):(Int×List Bool))=>(Bw (Bd i6 l10.length) (Bw (((l10.getD i6.toNat false)==true)=true->(Bd i6 a0.Succ.length)) (bif (bif (l10.getD i6.toNat false) then(decide (i9<((a0.Succ.getD i6.toNat []).length:Int))) else false) then(Option.bind (α:=List Bool) (Bw (Bd i6 a0.Succ.length) (Bw (Bd i9 (a0.Succ.getD i6.toNat []).length) (bif ((((a0.Succ.getD i6.toNat []).getD i9.toNat 0):Int)!=aa1) then(Bw (Bd i6 a0.Succ.length) (Bw (Bd i9 (a0.Succ.getD i6.toNat []).length) (Bw (Bd ((a0.Succ.getD i6.toNat []).getD i9.toNat 0) l10.length) (some (l10.set ((a0.Succ.getD i6.toNat []).getD i9.toNat 0).toNat true))))) else(some l10)))) (fun x20=>(some (.next ((Bb (i9+1)),x20))))) else(some (.done l10)))))
def B3(a0:Ap)(aa1:Int):(Int×List Bool)->Option (LR (Int×List Bool) (List Bool)):=
 fun((i6,l7):(Int×List Bool))=>(bif (decide (i6<(l7.length:Int))) then((An (Bn a0 aa1 i6) ((0:Int),l7)).bind (fun x22=>(some (.next ((Bb (i6+1)),x22))))) else(some (.done l7)))
def B4(a0:Ap)(aa1:Int):(Int×List Bool)->Option (LR (Int×List Bool) (List Bool)):=
 fun((i3,l4):(Int×List Bool))=>(bif (decide (i3<(l4.length:Int))) then((An (B3 a0 aa1) ((0:Int),l4)).bind (fun x24=>(some (.next ((Bb (i3+1)),x24))))) else(some (.done l4)))
def Q169(l10:List Bool)(i6:Int):=((l10.getD i6.toNat false)==true)
def Y0(a0:Ap):=(List.replicate (a0.Succ.length:Int).toNat false)
def Q171(a0:Ap):=(fun i=>eB ((Y0 a0).getD i false))
def Q170(a0:Ap)(i6:Int)(i9:Int):=((a0.Succ.getD i6.toNat []).getD i9.toNat 0)
def Fj(a0:Ap)(a4:Int)(aa1:Int):Option (List Bool):=
 (Bw (0<=(a0.Succ.length:Int)/\(a0.Succ.length:Int)<=(a0.Succ.length:Int)/\(a0.Succ.length:Int)<=(room:Int)) (bif (a4==aa1) then(some (List.replicate (a0.Succ.length:Int).toNat false)) else(Bw (Bd a4 (List.replicate (a0.Succ.length:Int).toNat false).length) ((An (B4 a0 aa1) ((0:Int),((List.replicate (a0.Succ.length:Int).toNat false).set a4.toNat true))).bind (fun x26=>(some x26))))))
theorem Se(a0:Ap)(a4:Int)(aa1:Int)(r:List Bool)(h:Fj a0 a4 aa1=some r):Spec Tryz.prog 23 [(Z43 a0),(Z7 a4),(Z7 aa1)] [] (AV.list 1 eB false r (.own 20000)) [(20000,.tok 1 4 r.length)]:=by
 refine Ab mix Tryz.func23 (fun Γ hq=>?_);have hΓ:=hq.own;unfold Fj at h;refine gR hq zzN138 [3] [(6,(AV.list 1 eB false ([]:List Bool) .exact))] [] (c1 (Dx 1 eB false)) ?_;obtain⟨hc1,h⟩:=Aa h;refine gR hq [1,2,3,7] Ij [] [] (c1 hc1) ?_;refine Ll (Le.trans (Rz 14 (show ∀ k_,k_<((a0.Succ.length:Int).toNat)->AVleL ((fun i_=>AV.eraseAll (fun n_=>Cc n_ Ij) ((fun _=>[(.bool false)]) i_)) k_) ((Q171 a0) k_) from(fun k hk=>R4 (e:=eB) (d:=false) (.cons (AVle.refl _) .nil) _ k (Si hk)))) (Vh (fun(k_:Nat) u=>(F4 u (Z65 14 k_) [(14,.arr 1 4 k_ (Q171 a0))])) (show(a0.Succ.length:Int).toNat=(Y0 a0).length from(Pf ..).symm))) ?_;refine Ak hq [1,2,3,7,17] Ij ?_;refine gC h ?_ ?_<;>intro h
 ·refine Ak hq [6] [14] ?_;refine N9 (⟨[(6,(.vsl 14 (Y0 a0).length))],[(14,.arr 1 4 ((Y0 a0).length) (Q171 a0))],[]⟩:St) ?_;cases h;exact gK (e:=.ret) (J9 [(14,20000)] (Le.trans (Hl (nm:=14) (sz:=1) (n:=((Y0 a0).length)) (e:=4) (f:=(Q171 a0)) (g:=(Q171 a0)) rfl ⟨rfl,trivial⟩ (fun _ _=>rfl) (by rw[hΓ];rfl)) (Gy (st':=⟨[(6,(AV.list 1 eB false (Y0 a0) (.own 14)))],[(14,.tok 1 4 ((Y0 a0).length))],[]⟩) (by kernel_rfl))))
 ·obtain⟨hc2,h⟩:=Aa h;refine gR hq [2,3,7] Ij [] [] (ci hc2 (c1 (Eq.refl ((Y0 a0).length)))) ?_;refine Ll (Le.trans (Rz 14 (show ∀ k_,k_<((Y0 a0).length)->AVleL ((fun i_=>AV.eraseAll (fun n_=>Cc n_ Ij) ((Jf (Q171 a0) a4.toNat 0 [(.bool true)]) i_)) k_) ((fun i=>eB (((Y0 a0).set a4.toNat true).getD i false)) k_) from(Br (E5 ..).symm (fun k_ hk_=>(Bq (AV.eraseAll (fun n_=>Cc n_ Ij)) ((K1 (fun _ _=>rfl) (L4 hc2) rfl) k_ hk_)).trans rfl)))) (Vh (fun(k_:Nat) u=>(F4 u (Z65 14 k_) [(14,.arr 1 4 k_ (fun i=>eB (((Y0 a0).set a4.toNat true).getD i false)))])) (show(Y0 a0).length=((Y0 a0).set a4.toNat true).length from(E5 ..).symm))) ?_;refine Ak hq zzN102 Ij ?_;obtain⟨x26,hx26,h⟩:=bind_some h;refine gL hq hx26 zzN102 Ij (fun u (i3,l4)=>(F4 u [(7,(.vsl 14 l4.length)),(8,(Z7 i3))] [(Z17 14 l4)])) (fun u l5=>aG Γ (.exit 0) (⟨(Z65 14 l5.length),[(Z17 14 l5)],[]⟩:St)) ?_ ?_
  ·rintro⟨i3,l4⟩ y h;unfold B4 at h;refine Ak hq [2,3,7,8,25] Ij ?_;refine gC h ?_ ?_<;>intro h
   ·refine Ak hq zzN80 Ij ?_;obtain⟨x24,hx24,h⟩:=bind_some h;refine gL hq hx24 zzN80 Ij (fun u (i6,l7)=>(F4 u [(7,(.vsl 14 l7.length)),(9,(Z7 i6))] [(Z17 14 l7)])) (fun u l8=>aG Γ (.exit 2) (W8 zzN102 Ij u (Z65 14 l8.length) [(Z17 14 l8)])) ?_ ?_
    ·rintro⟨i6,l7⟩ y h;unfold B3 at h;refine Ak hq [2,3,7,8,9,31] Ij ?_;refine gC h ?_ ?_<;>intro h
     ·refine Ak hq zzN63 Ij ?_;obtain⟨x22,hx22,h⟩:=bind_some h;refine gL hq hx22 zzN63 Ij (fun u (i9,l10)=>(F4 u [(7,(.vsl 14 l10.length)),(10,(Z7 i9))] [(Z17 14 l10)])) (fun u l11=>aG Γ (.exit 4) (W8 zzN80 Ij u (Z65 14 l11.length) [(Z17 14 l11)])) ?_ ?_
      ·rintro⟨i9,l10⟩ y h;unfold Bn at h;obtain⟨hc12,h⟩:=Aa h;obtain⟨hc13,h⟩:=Aa h;refine gR hq [2,3,7,8,9,10,47] Ij [] [] (ci hc12 (ci (Eq.refl l10.length) (ci (gI (Q169 l10 i6)) (ci (gI (Q169 l10 i6)) (ci (gI (Q169 l10 i6)) (ci hc13 (ci (gI (Q169 l10 i6)) (ci (gI (Q169 l10 i6)) (ci (gI (Q169 l10 i6)) (ci (gI (Q169 l10 i6)) (c1 (Oa (l10.getD i6.toNat false))))))))))))) ?_;refine gC h ?_ ?_<;>intro h
       ·obtain⟨x20,hx20,h⟩:=bind_some h;refine gJ hx20 (fun l14=>aG Γ .normal (⟨[(2,(Z7 aa1)),(3,(.ptr 3 0)),(7,(.vsl 14 l14.length)),(8,(Z7 i3)),(9,(Z7 i6)),(10,(Z7 i9))],[(3,.row 41 [(Z5 a0.Succ),(Z5 a0.Pred)]),(Z17 14 l14)],[]⟩:St)) ?_ ?_
        ·clear h hx20;intro y h;obtain⟨hc15,h⟩:=Aa h;obtain⟨hc16,h⟩:=Aa h;refine gR hq [2,3,7,8,9,10,59] Ij [] [] (ci hc15 (c1 hc16)) ?_;refine gC h ?_ ?_<;>intro h
         ·obtain⟨hc17,h⟩:=Aa h;obtain⟨hc18,h⟩:=Aa h;obtain⟨hc19,h⟩:=Aa h;refine gR hq zzN63 Ij [] [] (ci hc17 (ci hc18 (ci hc19 (c1 (Eq.refl l10.length))))) ?_;cases h;exact gK (D3 (Le.trans (Le.trans (Rz 14 (show ∀ k_,k_<l10.length->AVleL ((fun i_=>AV.eraseAll (fun n_=>Cc n_ Ij) ((Jf (fun i=>eB (l10.getD i false)) (Q170 a0 i6 i9).toNat 0 [(.bool true)]) i_)) k_) ((fun i=>eB ((l10.set (Q170 a0 i6 i9).toNat true).getD i false)) k_) from(Br (E5 ..).symm (fun k_ hk_=>(Bq (AV.eraseAll (fun n_=>Cc n_ Ij)) ((K1 (fun _ _=>rfl) (L4 hc19) rfl) k_ hk_)).trans rfl)))) (Vh (fun(k_:Nat) u=>(F4 u (Z65 14 k_) [(14,.arr 1 4 k_ (fun i=>eB ((l10.set (Q170 a0 i6 i9).toNat true).getD i false)))])) (show l10.length=(l10.set (Q170 a0 i6 i9).toNat true).length from(E5 ..).symm))) Fe))
         ·obtain rfl:=OI h;exact gK (D3 (Du zzN63 Ij hq))
        ·clear hx20;refine gA ?_;refine Ak hq zzN63 Ij ?_;cases h;exact gN Fe
       ·cases h;exact gO (D3 (Du zzN80 Ij hq))
      ·clear hx22;refine gA ?_;refine Ak hq zzN80 Ij ?_;cases h;exact gN Fe
     ·cases h;exact gO (D3 (Du zzN102 Ij hq))
    ·clear hx24;refine gA ?_;refine Ak hq zzN102 Ij ?_;cases h;exact gN Fe
   ·cases h;exact gO (D3 (Du [7] [14] hq))
  ·clear hx26;refine gA ?_;refine Ak hq [6] [14] ?_;refine N9 (⟨[(6,(.vsl 14 x26.length))],[(Z17 14 x26)],[]⟩:St) ?_;obtain rfl:=OI h;exact gK (e:=.ret) (J9 [(14,20000)] (Le.trans (Hl (nm:=14) (sz:=1) (n:=x26.length) (e:=4) (f:=(fun i=>eB (x26.getD i false))) (g:=(fun i=>eB (x26.getD i false))) rfl ⟨rfl,trivial⟩ (fun _ _=>rfl) (by rw[hΓ];rfl)) (Gy (st':=⟨[(6,(AV.list 1 eB false x26 (.own 14)))],[(14,.tok 1 4 x26.length)],[]⟩) (by kernel_rfl))))
def Q272:AV:=Z19
def Q273:=(Z41:St)
def D0(aE:List Int):Option (List Int):=
 (Bw (([]:List Int).length+aE.length<=room) (some (([]:List Int)++aE)))
theorem Lp(aE:List Int)(r:List Int)(h:D0 aE=some r):Spec Tryz.prog 64 [(Z8 aE)] [] (Z26 r 20000) [(20000,.tok 1 3 r.length)]:=by
 refine Ab mix Tryz.func64 (fun Γ hq=>?_);unfold D0 at h;refine gR hq [0] [] [(2,Q272)] [] (c1 (Dx 1 Ar (0:Int))) ?_;refine Ak hq [0,4] [] ?_;refine gNil true aE.length (fun hb=>?_) (fun hb=>?_)
 ·replace h:=nil_at (some ([]:List Int)) (fun(l2:List Int)=>(Bw (([]:List Int).length+l2.length<=room) (some (([]:List Int)++l2)))) h (hb rfl) rfl (fun h0=>by first|exact h0|simpa [Bw,room] using h0);clear hb;refine gR hq [2] [] [(2,Q272)] [] (c1 (Dx 1 Ar (0:Int))) ?_;refine N9 (⟨[(2,Q272)],[],[]⟩:St) ?_;cases h;exact gK (e:=.ret) (J9 zzN101 (show Le Γ _ Q273 from Le.trans (Du (st':=⟨[(2,Q272)],[],[]⟩) [2] [] hq) (Le.trans (P8 (t:=2) (nm:=6002) (sz':=1) (fun i=>Ar (([]:List Int).getD i 0)) 3 rfl rfl (.inl ⟨rfl,rfl⟩) (fun h_=>absurd h_ (by decide))) (Du (st':=Q273) [2] [6002] hq))))
 ·clear hb;obtain⟨hc1,h⟩:=Aa h;refine gR hq [2] [7] [(5,Q272),(7,(AV.list 1 Ar 0 (([]:List Int)++aE) (.own 7)))] [] (ci (show(AVle (.slice 1 0 (fun i=>([]:List (List AV)).getD i []) .exact) Q272) from av_lit rfl (fun i hi=>absurd hi (N5 i))) (ci hc1 (ci (show(3=S4->([]:List Int).length=0\/0<aE.length) from(fun h_=>absurd h_ (by decide))) (ci (M2 1 7 Ar (0:Int) ([]:List Int) aE) (c1 (He ([]:List Int) aE)))))) ?_;cases h;exact Dl [(7,20000)]
def D9(aa2:List (List Int)):(Int×List (List Int))->Option (LR (Int×List (List Int)) (List (List Int))):=
 fun((i2,l3):(Int×List (List Int)))=>(bif (decide (i2<(aa2.length:Int))) then(Bw (Bd i2 aa2.length) ((D0 (aa2.getD i2.toNat [])).bind fun x6=>(Bw (Bd i2 l3.length) (some (.next ((Bb (i2+1)),(l3.set i2.toNat x6))))))) else(some (.done l3)))
def Ha(aa2:List (List Int)):Option (List (List Int)):=
 (Bw (0<=(aa2.length:Int)/\(aa2.length:Int)<=(aa2.length:Int)/\(aa2.length:Int)<=(room:Int)) ((An (D9 aa2) ((0:Int),(List.replicate (aa2.length:Int).toNat ([]:List Int)))).bind (fun x8=>(some x8))))
theorem Nv(aa2:List (List Int))(r:List (List Int))(h:Ha aa2=some r):Spec Tryz.prog 73 [(Z5 aa2)] [] (Z40 r 20000) [(20000,.tok 1 22 r.length)]:=by
 refine Ab mix Tryz.func73 (fun Γ hq=>?_);have hΓ:=hq.own;unfold Ha at h;refine gR hq [0] [] [(2,Z25)] [] (c1 (Dx 1 Gp [])) ?_;obtain⟨hc1,h⟩:=Aa h;refine gR hq Re [8] [] [] (c1 hc1) ?_;refine Ll (Le.trans (Rz 8 (show ∀ k_,k_<((aa2.length:Int).toNat)->AVleL ((fun i_=>AV.eraseAll (fun n_=>Cc n_ [8]) ((fun _=>[Z18]) i_)) k_) ((fun i=>Gp ((List.replicate (aa2.length:Int).toNat ([]:List Int)).getD i [])) k_) from(fun k hk=>R4 (e:=Gp) (d:=[]) (.cons (fun _ _ _ _ _ hh=>AVle.untag _ _ _ _ _ (Gv _ _ _ _ _ hh)) .nil) _ k (Si hk)))) (Vh (fun(k_:Nat) u=>(F4 u [(3,(.vsl 8 k_))] [(8,.arr 1 22 k_ (fun i=>Gp ((List.replicate (aa2.length:Int).toNat ([]:List Int)).getD i [])))])) (show(aa2.length:Int).toNat=(List.replicate (aa2.length:Int).toNat ([]:List Int)).length from(Pf ..).symm))) ?_;refine Ak hq zzN107 [8] ?_;obtain⟨x8,hx8,h⟩:=bind_some h;refine gL hq hx8 zzN107 [8] (fun u (i2,l3)=>(F4 u [(3,(.vsl 8 l3.length)),(11,(Z7 i2))] (Z75 l3))) (fun u l4=>aG Γ (.exit 0) (⟨[(3,(.vsl 8 l4.length))],(Z75 l4),[]⟩:St)) ?_ ?_
 ·rintro⟨i2,l3⟩ y h;unfold D9 at h;refine Ak hq [3,9,10,11,12] [8] ?_;refine gC h ?_ ?_<;>intro h
  ·obtain⟨hc5,h⟩:=Aa h;refine gR hq [3,4,5,9,10,11] [8] [] [] (c1 hc5) ?_;obtain⟨x6,hx6,h⟩:=bind_some h;obtain⟨hc7,h⟩:=Aa h;refine gR hq zzN107 [8] [] [(Z13 19 x6 x6.length)] (ci (Lp (aa2.getD i2.toNat []) x6 hx6) (ci hc7 (c1 (Eq.refl l3.length)))) ?_;refine Ll (Le.trans (Rz 8 (show ∀ k_,k_<l3.length->AVleL ((fun i_=>AV.eraseAll (fun n_=>Cc n_ [8]) ((Jf (fun i=>Gp (l3.getD i [])) i2.toNat 0 [(Z26 x6 19)]) i_)) k_) ((fun i=>Gp ((l3.set i2.toNat x6).getD i [])) k_) from(Br (E5 ..).symm (putF_erase (fun _ _=>rfl) (fun _=>rfl) (L4 hc7) rfl)))) (Vh (fun(k_:Nat) u=>(F4 u [(3,(.vsl 8 k_))] [(8,.arr 1 22 k_ (fun i=>Gp ((l3.set i2.toNat x6).getD i [])))])) (show l3.length=(l3.set i2.toNat x6).length from(E5 ..).symm))) ?_;refine Ak hq zzN107 [8] ?_;cases h;exact gN Fe
  ·cases h;exact gO (D3 (Du [3] [8] hq))
 ·clear hx8;refine gA ?_;refine Ak hq [2] [8] ?_;refine N9 (⟨[(2,(.vsl 8 x8.length))],(Z75 x8),[]⟩:St) ?_;obtain rfl:=OI h;exact gK (e:=.ret) (J9 [(8,20000)] (Le.trans (Hl (nm:=8) (sz:=1) (n:=x8.length) (e:=22) (f:=(fun i=>Gp (x8.getD i []))) (g:=(fun i=>Gp (x8.getD i []))) rfl ⟨rfl,trivial⟩ (fun _ _=>rfl) (by rw[hΓ];rfl)) (Gy (st':=⟨[(2,(AV.list 1 Gp [] x8 (.own 8)))],[(8,.tok 1 22 x8.length)],[]⟩) (by kernel_rfl))))
def Q274:AV:=Z25
def Ee(a0:Ap):Option Ap:=
 ((Im a0).bind fun x1=>(bif (!x1) then(some (⟨([]:List (List Int)),([]:List (List Int))⟩:Ap)) else((Ha a0.Pred).bind fun x2=>((Ha a0.Succ).bind fun x3=>(some (⟨x2,x3⟩:Ap))))))
theorem Nt(a0:Ap)(r:Ap)(h:Ee a0=some r):Spec Tryz.prog 42 [(Z43 a0)] [] (Z43 r) []:=by
 refine Ab mix Tryz.func42 (fun Γ hq=>?_);unfold Ee at h;refine Ak hq K4 K4 ?_;obtain⟨x1,hx1,h⟩:=bind_some h;refine gR hq zzN94 K4 [] [(Z2 x1)] (c1 (Oe a0 x1 hx1)) ?_;refine gC h ?_ ?_<;>intro h
 ·refine gR hq [2] [2] [(6,(.agg [Q274,Q274]))] [] (c1 (show(AVle (.agg [Z18,Z18]) (.agg [Q274,Q274])) from(AVle.agg (.cons Gv (.cons Gv .nil))))) ?_;refine N9 (⟨[Oj],[(2,.row 41 [Q274,Q274])],[]⟩:St) ?_;cases h;exact gK (e:=.ret) (J9 [] (show Le Γ _ (⟨[Oj],[(2,.row 41 [Z30,Z30])],[]⟩:St) from Le.trans (Du (st':=⟨[Oj],[(2,.row 41 [Q274,Q274])],[]⟩) [2] [2] hq) (Na (.cons (AVle.refl _) .nil) (.row (.cons AVle.untag (.cons AVle.untag .nil)) .nil))))
 ·obtain⟨x2,hx2,h⟩:=bind_some h;obtain⟨x3,hx3,h⟩:=bind_some h;refine gR hq [2] [2,9,12] [] [⟨[],zzN143,(Z40 x2 20000),[(20000,.tok 1 22 x2.length)],[],[]⟩,(Z77 12 x3 x3.length)] (ci (Nv a0.Pred x2 hx2) (c1 (Nv a0.Succ x3 hx3))) ?_;cases h;exact Dl []
def Ew(x1:List Int):(Int×List Bool)->Option (LR (Int×List Bool) (List Bool)):=
 fun((i2,l3):(Int×List Bool))=>(bif (decide (i2<(x1.length:Int))) then(Bw (Bd i2 x1.length) (Bw (Bd (x1.getD i2.toNat 0) 64) (some (.next ((Bb (i2+1)),(J5 64 false l3 (x1.getD i2.toNat 0).toNat true)))))) else(some (.done l3)))
def E2(aaO:List Bool)(aaL:Ap)(aC:Int):Option (List Bool):=
 ((F1 aaL aC).bind fun x1=>((An (Ew x1) ((0:Int),aaO)).bind (fun x7=>(some x7))))
theorem Lk(aaO:List Bool)(aaL:Ap)(aC:Int)(r:List Bool)(h:E2 aaO aaL aC=some r):Spec Tryz.prog 68 [(.vpt 34000 64 0 0),(Z43 aaL),(Z7 aC)] (Z32 aaO) (.tuple []) (Z32 r):=by
 refine Ab mix Tryz.func68 (fun Γ hq=>?_);unfold E2 at h;refine Ak hq [0,2,4] [4,34000] ?_;obtain⟨x1,hx1,h⟩:=bind_some h;refine gR hq zzN103 Abm [] [(Z13 10 x1 x1.length)] (c1 (O2 aaL aC x1 hx1)) ?_;obtain⟨x7,hx7,h⟩:=bind_some h;refine gL hq hx7 zzN103 Abm (fun u (i2,l3)=>(F4 u [(12,(Z7 i2))] (Z32 l3))) (fun u l4=>aG Γ (.exit 0) (⟨[],(Z32 l4),[]⟩:St)) ?_ ?_
 ·rintro⟨i2,l3⟩ y h;unfold Ew at h;refine Ak hq [0,10,11,12,13] Abm ?_;refine gC h ?_ ?_<;>intro h
  ·obtain⟨hc5,h⟩:=Aa h;refine gR hq [0,7,10,11,12] Abm [] [] (c1 hc5) ?_;obtain⟨hc6,h⟩:=Aa h;refine gR hq zzN103 Abm [] [] (ci hc6 (c1 (Eq.refl 64))) ?_;refine Ll (Rz 34000 (show ∀ k_,k_<64->AVleL ((fun i_=>AV.eraseAll (fun n_=>Cc n_ Abm) ((Jf (fun i=>eB (l3.getD i false)) (x1.getD i2.toNat 0).toNat 0 [(.bool true)]) i_)) k_) ((fun i=>eB ((J5 64 false l3 (x1.getD i2.toNat 0).toNat true).getD i false)) k_) from(Br rfl (fun k_ hk_=>(Bq (AV.eraseAll (fun n_=>Cc n_ Abm)) ((On (fun _ _=>rfl) (Fy hc6) rfl) k_ hk_)).trans rfl)))) ?_;refine Ak hq zzN103 Abm ?_;cases h;exact gN Fe
  ·cases h;exact gO (D3 (Du [] [34000] hq))
 ·clear hx7;refine gA' (fun st' hl8=>?_);obtain rfl:=OI h;exact gK (e:=.normal) (J9 [(34000,34000)] hl8)
def C4(a0:Ap)(x1:Ap):(Int×List Bool)->Option (LR (Int×List Bool) (List Bool)):=
 fun((i2,l3):(Int×List Bool))=>(bif (decide (i2<(a0.Succ.length:Int))) then(Option.bind (α:=List Bool) (Bw (Bd i2 a0.Succ.length) (bif ((((a0.Succ.getD i2.toNat []).length:Int):Int)==0) then((E2 l3 x1 i2).bind fun x7=>(some x7)) else(some l3))) (fun x8=>(some (.next ((Bb (i2+1)),x8))))) else(some (.done l3)))
def Gk(a0:Ap):Option (List Bool):=
 ((Ee a0).bind fun x1=>((An (C4 a0 x1) ((0:Int),(List.replicate 64 false))).bind (fun x10=>(some x10))))
theorem O5(a0:Ap)(r:List Bool)(h:Gk a0=some r):Spec Tryz.prog 44 [(Z43 a0)] [] (.agg (eA64B r)) []:=by
 refine Ab mix Tryz.func44 (fun Γ hq=>?_);unfold Gk at h;refine gR hq K4 K4 [(2,(.vpt 2 64 0 0))] [] trivial ?_;refine Ll (Rz 2 (show ∀ k_,k_<64->AVleL ((fun i_=>AV.eraseAll (fun n_=>Cc n_ K4) ((fun i=>(((List.replicate 64 [(.bool false)]).flatten).drop (i*1)).take 1) i_)) k_) ((fun i=>eB ((List.replicate 64 false).getD i false)) k_) from(U9 (e:=eB) (d:=false) (z:=[(.bool false)]) rfl rfl rfl))) ?_;refine gR hq zzN138 zzN138 [(3,(.vpt 3 64 0 0))] [] trivial ?_;refine Ll (Rz 3 (show ∀ k_,k_<64->AVleL ((fun i_=>AV.eraseAll (fun n_=>Cc n_ zzN138) ((fun i=>(((List.replicate 64 [(.bool false)]).flatten).drop (i*1)).take 1) i_)) k_) ((fun i=>eB ((List.replicate 64 false).getD i false)) k_) from(U9 (e:=eB) (d:=false) (z:=[(.bool false)]) rfl rfl rfl))) ?_;obtain⟨x1,hx1,h⟩:=bind_some h;refine gR hq [1,2,3,4] [1,2,3,4] [] [⟨[],[],(Z43 x1),[],[],[]⟩] (c1 (Nt a0 x1 hx1)) ?_;refine Ak hq zzN57 Yz ?_;obtain⟨x10,hx10,h⟩:=bind_some h;refine gL hq hx10 zzN57 Yz (fun u (i2,l3)=>(F4 u [(12,(Z7 i2))] [(Z46 l3)])) (fun u l4=>aG Γ (.exit 0) (W8 G3 G3 u [] [(Z46 l4)])) ?_ ?_
 ·rintro⟨i2,l3⟩ y h;unfold C4 at h;refine Ak hq [2,3,4,10,11,12,13] Yz ?_;refine gC h ?_ ?_<;>intro h
  ·obtain⟨x8,hx8,h⟩:=bind_some h;refine gJ hx8 (fun l5=>aG Γ .normal (⟨[(2,(.vpt 2 64 0 0)),(3,(.vpt 3 64 0 0)),(4,(.ptr 4 0)),(10,(Z5 a0.Succ)),(11,(Z54 a0.Succ.length)),(12,(Z7 i2))],[(2,.arr 1 83 64 (fun i=>eB ((List.replicate 64 false).getD i false))),(Z46 l5),(4,.row 41 [(Z5 x1.Succ),(Z5 x1.Pred)])],[]⟩:St)) ?_ ?_
   ·clear h hx8;intro y h;obtain⟨hc6,h⟩:=Aa h;refine gR hq [2,3,4,5,6,10,11,12] Yz [] [] (c1 hc6) ?_;refine Ak hq [2,3,4,5,10,11,12,19] Yz ?_;refine gC h ?_ ?_<;>intro h
    ·obtain⟨x7,hx7,h⟩:=bind_some h;refine gR hq zzN57 Yz [] [⟨[(3,34000)],[],(.tuple []),(Z32 x7),[],[]⟩] (c1 (Lk l3 x1 i2 x7 hx7)) ?_;obtain rfl:=OI h;exact gK (D3 Fe)
    ·obtain rfl:=OI h;exact gK (D3 (Du zzN57 Yz hq))
   ·clear hx8;refine gA ?_;refine Ak hq zzN57 Yz ?_;cases h;exact gN Fe
  ·cases h;exact gO (D3 (Du G3 G3 hq))
 ·clear hx10;refine gA ?_;refine gR hq [2] [2] [] [] (ci (Eq.refl 64) (c1 (Eq.refl 64))) ?_;obtain rfl:=OI h;exact gK (e:=.ret) (J9 [] (Rz 2 (show ∀ k_,k_<64->AVleL ((fun i_=>AV.eraseAll (fun n_=>Cc n_ [2]) ((fun i_=>((eA64B x10).drop (i_*1)).take 1) i_)) k_) ((fun i=>eB (x10.getD i false)) k_) from(Br rfl (fun k_ hk_=>(Bq (AV.eraseAll (fun n_=>Cc n_ [2])) ((Ww (n:=64) (sz:=1) (f:=(fun i=>eB (x10.getD i false))) (fun _ _=>rfl)) k_ hk_)).trans rfl)))))
def Bi(aE:List Bool)(aD:Bool):Int->Option (LR Int (Unit ⊕ Int)):=
 fun(i1:Int)=>(bif (decide (i1<(aE.length:Int))) then(Bw (Bd i1 aE.length) (bif (aD==(aE.getD i1.toNat false)) then(some (.done (.inr i1))) else(some (.next (Bb (i1+1)))))) else(some (.done (.inl ()))))
def P4(Γ:Hy)(aE:List Bool)(aD:Bool)(r:Int):Exit->St->Prop:=fK Tryz.prog Γ Tryz.f67.results.toList [] (.int .i64 r) []
def Ck(aE:List Bool)(aD:Bool):Option Int:=
 ((An (Bi aE aD) (0:Int)).bind (fun x3=>(match x3 with|(.inl _)=>(some (-1:Int))|(.inr r5)=>(some r5))))
theorem Kl(aE:List Bool)(aD:Bool)(r:Int)(h:Ck aE aD=some r):Spec Tryz.prog 67 [(AV.list 1 eB false aE .none),(.bool aD)] [] (.int .i64 r) []:=by
 refine Ab mix Tryz.func67 (fun Γ hq=>?_);unfold Ck at h;refine Ak hq Ip [] ?_;refine Ak hq Yx [] ?_;obtain⟨x3,hx3,h⟩:=bind_some h;refine gL hq hx3 Yx [] (fun u i1=>(F4 u [(8,(Z7 i1))] [])) (fun u x_=>match x_ with|(.inl _)=>aG Γ (.exit 0) (⟨[],[],[]⟩:St)|(.inr r_)=>aR (P4 Γ aE aD r_)) ?_ ?_
 ·intro i1 y h;unfold Bi at h;refine Ak hq zzN136 [] ?_;refine gC h ?_ ?_<;>intro h
  ·refine Ak hq zzN137 [] ?_;obtain⟨hc2,h⟩:=Aa h;refine gR hq zzN105 [] [] [] (c1 hc2) ?_;refine gC h ?_ ?_<;>intro h
   ·refine Ak hq [4] [] ?_;cases h;exact gO (Pj (J9 [] (Le.refl _ _)))
   ·refine Ak hq Yx [] ?_;cases h;exact gN Fe
  ·cases h;exact gO (D3 (Du [] [] hq))
 ·clear hx3;rcases x3 with _|r5
  ·refine gA ?_;refine Ak hq [4] [] ?_;cases h;exact Dl []
  ·refine T0 (fun st' hk=>?_);obtain rfl:=OI h;exact gK hk
def Q275:AV:=Z25
def Kb(a8:List (List Int)):Option (Ap×Int):=
 ((Hp a8).bind fun x1=>(bif (!x1) then(some ((⟨([]:List (List Int)),([]:List (List Int))⟩:Ap),(5:Int))) else((Ha a8).bind fun x2=>((G9 a8).bind fun x3=>(some ((⟨x2,x3⟩:Ap),(0:Int)))))))
theorem V9(a8:List (List Int))(r:(Ap×Int))(h:Kb a8=some r):Spec Tryz.prog 69 [(Z5 a8)] [] (.tuple [(Z43 r.1),(Z7 r.2)]) []:=by
 refine Ab mix Tryz.func69 (fun Γ hq=>?_);unfold Kb at h;refine Ak hq [0,2] [2] ?_;obtain⟨x1,hx1,h⟩:=bind_some h;refine gR hq [0,2,6] [2] [] [(Z2 x1)] (c1 (Qv a8 x1 hx1)) ?_;refine gC h ?_ ?_<;>intro h
 ·refine gR hq G3 [2] [(7,(.agg [Q275,Q275]))] [] (c1 (show(AVle (.agg [Z18,Z18]) (.agg [Q275,Q275])) from(AVle.agg (.cons Gv (.cons Gv .nil))))) ?_;refine N9 ((Z45 Q275):St) ?_;cases h;exact gK (e:=.ret) (J9 [] (show Le Γ _ (⟨[Oj,(3,(.int .i64 (5:Int)))],[(2,.row 41 [Z30,Z30])],[]⟩:St) from Le.trans (Du (st':=(Z45 Q275)) G3 [2] hq) (Na (.cons (AVle.refl _) (.cons (AVle.refl _) .nil)) (.row (.cons AVle.untag (.cons AVle.untag .nil)) .nil))))
 ·obtain⟨x2,hx2,h⟩:=bind_some h;obtain⟨x3,hx3,h⟩:=bind_some h;refine gR hq G3 [2,9,11] [] [⟨[],zzN143,(Z40 x2 20000),[(20000,.tok 1 22 x2.length)],[],[]⟩,(Z77 11 x3 x3.length)] (ci (Nv a8 x2 hx2) (c1 (Nu a8 x3 hx3))) ?_;cases h;exact Dl []
def Gd(a0:Ap):(Int×List (List Int))->Option (LR (Int×List (List Int)) (List (List Int))):=
 fun((i7,l8):(Int×List (List Int)))=>(bif (decide (i7<(a0.Succ.length:Int))) then(Option.bind (α:=List (List Int)) (Bw (Bd i7 a0.Succ.length) (Bw (Bd i7 l8.length) ((D0 (a0.Succ.getD i7.toNat [])).bind fun x13=>(Bw (Bd i7 l8.length) (bif ((((a0.Succ.getD i7.toNat []).length:Int):Int)==0) then(Bw (Bd i7 (l8.set i7.toNat x13).length) (Bw (Bd i7 (l8.set i7.toNat x13).length) (some ((l8.set i7.toNat x13).set i7.toNat ([(a0.Succ.length:Int)]:List Int))))) else(some (l8.set i7.toNat x13))))))) (fun x17=>(some (.next ((Bb (i7+1)),x17))))) else(some (.done l8)))
def Gc(a0:Ap):(List Bool×List (List Int)×List (List Int)×List (List Int))->Option (LR (List Bool×List (List Int)×List (List Int)×List (List Int)) (Ap×Int)):=
 fun(s_:(List Bool×List (List Int)×List (List Int)×List (List Int)))=>match s_ with|(l1,l2,l3,l4)=>(Bw (0<=(a0.Succ.length:Int)/\0+(a0.Succ.length:Int).toNat<=64) ((Ck (subN false l1 0 ((0+(a0.Succ.length:Int).toNat)-0)) false).bind fun x32=>(bif (decide (((0:Int):Int)<=x32)) then(Bw (Bd x32 l4.length) (Bw (Bd x32 l4.length) (Bw ((l4.getD x32.toNat []).length+([(a0.Succ.length:Int)]:List Int).length<=room) (Bw (Bd x32 l4.length) ((E2 l1 (⟨l2,l3⟩:Ap) x32).bind fun x37=>(some (.next (x37,l2,l3,(l4.set x32.toNat ((l4.getD x32.toNat [])++([(a0.Succ.length:Int)]:List Int))))))))))) else((Kb l4).bind fun x38=>(some (.done (x38.1,x38.2)))))))
def K_pdom_Exit(Γ:Hy)(a0:Ap)(r:(Ap×Int)):Exit->St->Prop:=fK Tryz.prog Γ Tryz.f40.results.toList [] (.tuple [(Z43 r.1),(Z7 r.2)]) []
def Abr(a0:Ap):=(a0.Succ.length:Int)
def Lx(a0:Ap):AV:=(Z7 (Abr a0))
def Mr(l8:List (List Int))(i7:Int)(x13:List Int):=(l8.set i7.toNat x13)
def Y2(l4:List (List Int))(x32:Int):=(l4.getD x32.toNat [])
def Y1(x19:List (List Int))(x24:Int):=(x19.getD x24.toNat [])
def K8(a0:Ap):=([(Abr a0)]:List Int)
def Q287(l1:List Bool):=(fun i=>eB (l1.getD i false))
def Q286(x21:List Bool):=(fun i=>eB (x21.getD i false))
def Q282:AV:=Z25
def Q281(l2:List (List Int))(l3:List (List Int)):List AV:=[(Z5 l2),(Z5 l3)]
def Q285(a0:Ap)(i7:Int):AV:=(AV.list 1 Ar 0 (a0.Succ.getD i7.toNat []) .none)
def K7:List AV:=[Z18,Z18]
def Q290(a0:Ap):=(List.replicate (Bb ((Abr a0)+1)).toNat ([]:List Int))
def Wq(a0:Ap):List AV:=[(Z5 a0.Succ),(Z5 a0.Pred)]
def Q279(x22:Ap):List AV:=[(Z5 x22.Succ),(Z5 x22.Pred)]
def Q294(a0:Ap):List (Nat×AV):=[Z48,Oj,(4,(Lx a0)),(5,(.vsl 24 (Bb ((Abr a0)+1)).toNat))]
def Q295(a0:Ap)(l8:List (List Int))(i7:Int)(x13:List Int):List (Nat×AV):=[Z48,Oj,(4,(Lx a0)),(5,(.vsl 24 (Mr l8 i7 x13).length)),(26,(Z5 a0.Succ)),(27,(Lx a0)),(28,(Z7 i7))]
def Q288(a0:Ap)(l8:List (List Int))(i7:Int):List (Nat×AV):=[Z48,Oj,(4,(Lx a0)),(Z72 24 l8.length),(6,(Z7 i7)),(7,(Q285 a0 i7)),(26,(Z5 a0.Succ)),(27,(Lx a0)),(28,(Z7 i7))]
def Q293(a0:Ap)(l8:List (List Int))(i7:Int)(x13:List Int):List (Nat×AV):=[Z48,Oj,(4,(Lx a0)),(5,(.vsl 24 (Mr l8 i7 x13).length)),(6,(Z7 i7)),(26,(Z5 a0.Succ)),(27,(Lx a0)),(28,(Z7 i7)),(40,(.bool ((((a0.Succ.getD i7.toNat []).length:Int):Int)==0)))]
def Q292(a0:Ap)(l4:List (List Int))(x32:Int)(l1:List Bool)(l2:List (List Int))(l3:List (List Int)):=(⟨[Oj,(4,(Lx a0)),(Z72 24 l4.length),Z47,Z68,(10,(Z7 x32)),(55,(.bool (decide (((0:Int):Int)<=x32))))],(Z55 K7 (Q287 l1) (Q281 l2 l3) l4.length l4),[(70024,⟨1,3,Gq l4⟩)]⟩:St)
def Q291(a0:Ap)(x19:List (List Int))(x24:Int)(x21:List Bool)(x22:Ap):=(⟨[Oj,(4,(Lx a0)),(Z72 24 x19.length),Z47,Z68,(10,(Z7 x24)),(55,(.bool (decide (((0:Int):Int)<=x24))))],(Z55 K7 (Q286 x21) (Q279 x22) x19.length x19),[(70024,⟨1,3,Gq x19⟩)]⟩:St)
def Hu(a0:Ap):Option (Ap×Int):=
 ((My (S:=(List Bool×List (List Int)×List (List Int)×List (List Int))) (X:=(Ap×Int)) ((Im a0).bind fun x5=>(bif (bif (!x5) then true else(((a0.Succ.length:Int):Int)==64)) then(some (.done ((⟨([]:List (List Int)),([]:List (List Int))⟩:Ap),(5:Int)))) else(Bw (0<=(Bb ((a0.Succ.length:Int)+1))/\(Bb ((a0.Succ.length:Int)+1))<=(Bb ((a0.Succ.length:Int)+1))/\(Bb ((a0.Succ.length:Int)+1))<=(room:Int)) ((An (Gd a0) ((0:Int),(List.replicate (Bb ((a0.Succ.length:Int)+1)).toNat ([]:List Int)))).bind (fun x19=>((Gk a0).bind fun x21=>((Ee a0).bind fun x22=>(Bw (0<=(a0.Succ.length:Int)/\0+(a0.Succ.length:Int).toNat<=64) ((Ck (subN false x21 0 ((0+(a0.Succ.length:Int).toNat)-0)) false).bind fun x24=>(bif (decide (((0:Int):Int)<=x24)) then(Bw (Bd x24 x19.length) (Bw (Bd x24 x19.length) (Bw ((x19.getD x24.toNat []).length+([(a0.Succ.length:Int)]:List Int).length<=room) (Bw (Bd x24 x19.length) ((E2 x21 x22 x24).bind fun x29=>(some (.next (x29,x22.Succ,x22.Pred,(x19.set x24.toNat ((x19.getD x24.toNat [])++([(a0.Succ.length:Int)]:List Int))))))))))) else((Kb x19).bind fun x30=>(some (.done (x30.1,x30.2)))))))))))))) (Gc a0)).bind (fun x39=>(some x39)))
theorem ok_pdom_Exit(a0:Ap)(r:(Ap×Int))(h:Hu a0=some r):Spec Tryz.prog 40 [(Z43 a0)] [] (.tuple [(Z43 r.1),(Z7 r.2)]) []:=by
 refine Ab mix Tryz.func40 (fun Γ hq=>?_);have hΓ:=hq.own;unfold Hu at h;refine Ak hq K4 K4 ?_;obtain⟨x39,hx39,h⟩:=bind_some h;refine gS hx39 (fun(s_:(List Bool×List (List Int)×List (List Int)×List (List Int)))=>match s_ with|(l1,l2,l3,l4)=>0) (fun(s_:(List Bool×List (List Int)×List (List Int)×List (List Int)))=>match s_ with|(l1,l2,l3,l4)=>(⟨[Oj,(4,(Lx a0)),(Z72 24 l4.length),Z47,Z68],(Z55 K7 (Q287 l1) (Q281 l2 l3) l4.length l4),[(70024,⟨1,3,Gq l4⟩)]⟩:St)) (fun r_=>aR (K_pdom_Exit Γ a0 r_)) ?_ ?_ ?_
 ·clear h hx39;intro y h;refine Ak hq [1,2,4] K4 ?_;obtain⟨x5,hx5,h⟩:=bind_some h;refine gR hq [1,2,4,20] K4 [] [(Z2 x5)] (ci (Oe a0 x5 hx5) (ci (gI ((!x5)==false)) (c1 (Vw (!x5))))) ?_;refine gC h ?_ ?_<;>intro h
  ·refine gR hq G3 [2] [(21,(.agg [Q282,Q282]))] [] (c1 (show(AVle (.agg K7) (.agg [Q282,Q282])) from(AVle.agg (.cons Gv (.cons Gv .nil))))) ?_;refine N9 ((Z45 Q282):St) ?_;cases h;exact gJo (Pj (J9 [] (show Le Γ _ (⟨[Oj,(3,(.int .i64 (5:Int)))],[(2,.row 41 [Z30,Z30])],[]⟩:St) from Le.trans (Du (st':=(Z45 Q282)) G3 [2] hq) (Na (.cons (AVle.refl _) (.cons (AVle.refl _) .nil)) (.row (.cons AVle.untag (.cons AVle.untag .nil)) .nil)))))
  ·obtain⟨hc6,h⟩:=Aa h;refine gR hq zzN122 [1,2,24] [] [] (c1 hc6) ?_;refine N9 (⟨(Q294 a0),[(1,.row 41 (Wq a0)),(Rf 41 K7),(24,.arr 1 22 ((Bb ((Abr a0)+1)).toNat) (fun i_=>AV.eraseAll (fun n_=>Cc n_ [1,2,24]) ((fun _=>[Z18]) i_)))],[]⟩:St) ?_;refine Ll (Le.trans (Na (st':=⟨(Q294 a0),[(1,.row 41 (Wq a0)),(Rf 41 K7),(24,.arr 1 22 ((Bb ((Abr a0)+1)).toNat) (Gf 1 Ar (0:Int) (Q290 a0) (fun _=>.exact)))],[]⟩) (TmpsLe.refl _) (.same (.same (.arr fam_zero .nil)))) (Le.trans (Le.trans (le_birth (r:=24) (b:=70024) Ar (0:Int) (Q290 a0) 3 rfl rfl (Pf ..).symm (fun h_=>absurd h_ (by decide))) (Gy (st':=⟨(Q294 a0),[(1,.row 41 (Wq a0)),(Rf 41 K7),(24,.arr 1 22 ((Bb ((Abr a0)+1)).toNat) (Gf 1 Ar (0:Int) (Q290 a0) (Tag.fam 70024)))],[(70024,⟨1,3,Gq (Q290 a0)⟩)]⟩) (by kernel_rfl))) (Gy (Bq (fun k_:Nat=>(⟨[Z48,Oj,(4,(Lx a0)),(Z72 24 k_)],(Z61 (Wq a0) K7 k_ (Q290 a0)),[(70024,⟨1,3,Gq (Q290 a0)⟩)]⟩:St)) (show(Bb ((Abr a0)+1)).toNat=(Q290 a0).length from(Pf ..).symm))))) ?_;refine Ak hq zzN46 U4 ?_;obtain⟨x19,hx19,h⟩:=bind_some h;refine gL hq hx19 zzN46 U4 (fun u (i7,l8)=>(F4 u [(Z72 24 l8.length),(28,(Z7 i7))] [(Z9 24 l8.length l8 70024)] [(70024,⟨1,3,Gq l8⟩)])) (fun u l9=>aG Γ (.exit 0) (W8 zzN122 U4 u [(Z72 24 l9.length)] [(Z9 24 l9.length l9 70024)] [(70024,⟨1,3,Gq l9⟩)])) ?_ ?_
   ·rintro⟨i7,l8⟩ y h;unfold Gd at h;refine Ak hq [1,2,4,5,26,27,28,29] U4 ?_;refine gC h ?_ ?_<;>intro h
    ·obtain⟨x17,hx17,h⟩:=bind_some h;refine gJ hx17 (fun l10=>aG Γ .normal (⟨[Z48,Oj,(4,(Lx a0)),(Z72 24 l10.length),(26,(Z5 a0.Succ)),(27,(Lx a0)),(28,(Z7 i7))],(Z61 (Wq a0) K7 l10.length l10),[(70024,⟨1,3,Gq l10⟩)]⟩:St)) ?_ ?_
     ·clear h hx17;intro y h;obtain⟨hc11,h⟩:=Aa h;refine gR hq zzN104 U4 [] [] (c1 hc11) ?_;refine N9 (⟨(Q288 a0 l8 i7),(Z61 (Wq a0) K7 l8.length l8),[(70024,⟨1,3,Gq l8⟩)]⟩:St) ?_;obtain⟨hc12,h⟩:=Aa h;obtain⟨x13,hx13,h⟩:=bind_some h;obtain⟨hc14,h⟩:=Aa h;refine Ll (Le.trans (X0 (r:=24) (b:=70024) (k:=60024) Ar (0:Int) l8 i7.toNat 3 rfl rfl rfl rfl (Fy hc12) (by kernel_rfl) (.row (by kernel_rfl) (.row (by kernel_rfl) (.here .nil)))) (Gy (st':=⟨(Q288 a0 l8 i7),[(1,.row 41 (Wq a0)),(Rf 41 K7),(Z79 l8.length l8 i7.toNat),(60024,.tok 1 3 ((l8.getD i7.toNat []).length))],[(70024,⟨1,3,L3 l8 i7.toNat⟩)]⟩) (by kernel_rfl))) ?_;refine gR hq zzN104 [1,2,24,36,70024] [] [(Z13 36 x13 x13.length)] (ci (Lp (a0.Succ.getD i7.toNat []) x13 hx13) (ci hc14 (c1 (Eq.refl l8.length)))) ?_;refine N9 (⟨(Q288 a0 l8 i7),[(1,.row 41 (Wq a0)),(Rf 41 K7),(24,.arr 1 22 l8.length (fun i_=>AV.eraseAll (fun n_=>Cc n_ [1,2,24,36,70024]) ((Jf (Gf 1 Ar (0:Int) l8 (D4 70024 i7.toNat 60024)) i7.toNat 0 [(Z26 x13 36)]) i_))),(36,.tok 1 3 x13.length)],[(70024,⟨1,3,L3 l8 i7.toNat⟩)]⟩:St) ?_;refine Ll (Le.trans (Le.trans (le_put (r:=24) (b:=70024) (k:=36) Ar (0:Int) l8 i7.toNat x13 3 rfl (Ye (Fy hc12) rfl rfl) rfl rfl rfl rfl (Fy hc12) (by kernel_rfl) (.row (by kernel_rfl) (.row (by kernel_rfl) (.here (.tok .nil)))) (by rw[hΓ];rfl)) (Gy (st':=⟨(Q288 a0 l8 i7),(Z61 (Wq a0) K7 l8.length (Mr l8 i7 x13)),[(70024,⟨1,3,Gq (Mr l8 i7 x13)⟩)]⟩) (by kernel_rfl))) (Gy (Bq (fun k_:Nat=>(⟨[Z48,Oj,(4,(Lx a0)),(Z72 24 k_),(6,(Z7 i7)),(7,(Q285 a0 i7)),(26,(Z5 a0.Succ)),(27,(Lx a0)),(28,(Z7 i7))],(Z61 (Wq a0) K7 k_ (Mr l8 i7 x13)),[(70024,⟨1,3,Gq (Mr l8 i7 x13)⟩)]⟩:St)) (show l8.length=(Mr l8 i7 x13).length from(E5 ..).symm)))) ?_;refine Ak hq [1,2,4,5,6,26,27,28,40] U4 ?_;refine gC h ?_ ?_<;>intro h
      ·refine N9 (⟨(Q293 a0 l8 i7 x13),[(1,.row 41 (Wq a0)),(Rf 41 K7),(24,.arr 1 22 ((Mr l8 i7 x13).length) (Gf 1 Ar (0:Int) (Mr l8 i7 x13) (Tag.fam 70024)))],[(70024,⟨1,3,Gq (Mr l8 i7 x13)⟩)]⟩:St) ?_;obtain⟨hc15,h⟩:=Aa h;obtain⟨hc16,h⟩:=Aa h;refine Ll (Le.trans (X0 (r:=24) (b:=70024) (k:=60024) Ar (0:Int) (Mr l8 i7 x13) i7.toNat 3 rfl rfl rfl rfl (Fy hc15) (by kernel_rfl) (.row (by kernel_rfl) (.row (by kernel_rfl) (.here .nil)))) (Gy (st':=⟨(Q293 a0 l8 i7 x13),[(1,.row 41 (Wq a0)),(Rf 41 K7),(24,.arr 1 22 ((Mr l8 i7 x13).length) (Gf 1 Ar (0:Int) (Mr l8 i7 x13) (D4 70024 i7.toNat 60024))),(60024,.tok 1 3 (((Mr l8 i7 x13).getD i7.toNat []).length))],[(70024,⟨1,3,L3 (Mr l8 i7 x13) i7.toNat⟩)]⟩) (by kernel_rfl))) ?_;refine gR hq zzN46 U4 [(44,(Z80 (K8 a0)))] [] (ci (Ca 1 Ar (0:Int) (K8 a0)) (ci hc16 (c1 (Eq.refl ((Mr l8 i7 x13).length))))) ?_;refine N9 (⟨(Q295 a0 l8 i7 x13),[(1,.row 41 (Wq a0)),(Rf 41 K7),(24,.arr 1 22 ((Mr l8 i7 x13).length) (fun i_=>AV.eraseAll (fun n_=>Cc n_ U4) ((Jf (Gf 1 Ar (0:Int) (Mr l8 i7 x13) (D4 70024 i7.toNat 60024)) i7.toNat 0 [(Z80 (K8 a0))]) i_)))],[(70024,⟨1,3,L3 (Mr l8 i7 x13) i7.toNat⟩)]⟩:St) ?_;cases h;exact gK (D3 (Le.trans (Le.trans (Le.trans (le_putx (r:=24) (b:=70024) Ar (0:Int) (Mr l8 i7 x13) i7.toNat (K8 a0) 3 rfl (putF_famx (Fy hc15) rfl) rfl rfl (Fy hc15) (fun h_=>absurd h_ (by decide))) (Gy (st':=⟨(Q295 a0 l8 i7 x13),[(1,.row 41 (Wq a0)),(Rf 41 K7),(24,.arr 1 22 ((Mr l8 i7 x13).length) (Gf 1 Ar (0:Int) ((Mr l8 i7 x13).set i7.toNat (K8 a0)) (Tag.fam 70024)))],[(70024,⟨1,3,Gq ((Mr l8 i7 x13).set i7.toNat (K8 a0))⟩)]⟩) (by kernel_rfl))) (Gy (Bq (fun k_:Nat=>(⟨[Z48,Oj,(4,(Lx a0)),(Z72 24 k_),(26,(Z5 a0.Succ)),(27,(Lx a0)),(28,(Z7 i7))],[(1,.row 41 (Wq a0)),(Rf 41 K7),(24,.arr 1 22 k_ (Gf 1 Ar (0:Int) ((Mr l8 i7 x13).set i7.toNat (K8 a0)) (Tag.fam 70024)))],[(70024,⟨1,3,Gq ((Mr l8 i7 x13).set i7.toNat (K8 a0))⟩)]⟩:St)) (show(Mr l8 i7 x13).length=((Mr l8 i7 x13).set i7.toNat (K8 a0)).length from(E5 ..).symm)))) Fe))
      ·cases h;exact gK (D3 (Du zzN46 U4 hq))
     ·clear hx17;refine gA ?_;refine Ak hq zzN46 U4 ?_;cases h;exact gN Fe
    ·cases h;exact gO (D3 (Du zzN122 U4 hq))
   ·clear hx19;refine gA ?_;obtain⟨x21,hx21,h⟩:=bind_some h;obtain⟨x22,hx22,h⟩:=bind_some h;refine gR hq zzN139 Yv [Z47] [⟨[],[],(.agg (eA64B x21)),[],[],[]⟩,⟨[],[],(Z43 x22),[],[],[]⟩] (ci (O5 a0 x21 hx21) (ci (Nt a0 x22 hx22) (c1 (Eq.refl 64)))) ?_;refine N9 (⟨[Oj,(4,(Lx a0)),(Z72 24 x19.length),Z47,Z68],[(Rf 41 K7),(8,.arr 1 83 64 (fun i_=>AV.eraseAll (fun n_=>Cc n_ Yv) ((fun i_=>((eA64B x21).drop (i_*1)).take 1) i_))),(9,.row 41 (Q279 x22)),(Z9 24 x19.length x19 70024)],[(70024,⟨1,3,Gq x19⟩)]⟩:St) ?_;refine Ll (Na (st':=⟨[Oj,(4,(Lx a0)),(Z72 24 x19.length),Z47,Z68],(Z55 K7 (Q286 x21) (Q279 x22) x19.length x19),[(70024,⟨1,3,Gq x19⟩)]⟩) (TmpsLe.refl _) (.same (.arr (Br rfl (fun k_ hk_=>(Bq (AV.eraseAll (fun n_=>Cc n_ Yv)) ((Ww (n:=64) (sz:=1) (f:=(Q286 x21)) (fun _ _=>rfl)) k_ hk_)).trans rfl)) (.same (.same .nil))))) ?_;obtain⟨hc23,h⟩:=Aa h;obtain⟨x24,hx24,h⟩:=bind_some h;refine gR hq zzN76 Yv [] [⟨[],[],(Z7 x24),[],[8],[]⟩] (ci hc23 (ci (show(Spec Tryz.prog 67 [(.slice 1 ((0+(Abr a0).toNat)-0) (fun i=>AV.stripAll ((Q286 x21) (0+i))) .none),(.bool false)] [] (Z7 x24) []) from(Spec.args (.cons (sub_le (e:=eB) (d:=false) (l:=x21) (fun _=>rfl)) (.cons (AVle.refl _) .nil)) (Kl (subN false x21 0 ((0+(Abr a0).toNat)-0)) false x24 hx24))) (ci (show(Xy []) from trivial) (c1 (Eq.refl 64))))) ?_;refine Ak hq zzN65 Yv ?_;refine gC h ?_ ?_<;>intro h
    ·refine N9 (Q291 a0 x19 x24 x21 x22) ?_;obtain⟨hc25,h⟩:=Aa h;obtain⟨hc26,h⟩:=Aa h;obtain⟨hc27,h⟩:=Aa h;obtain⟨hc28,h⟩:=Aa h;refine Ll (Le.trans (X0 (r:=24) (b:=70024) (k:=60024) Ar (0:Int) x19 x24.toNat 3 rfl rfl rfl rfl (Fy hc25) (by kernel_rfl) (.row (by kernel_rfl) (.arr (fun _=>by kernel_rfl) (.row (by kernel_rfl) (.here .nil))))) (Gy (st':=⟨[Oj,(4,(Lx a0)),(Z72 24 x19.length),Z47,Z68,(10,(Z7 x24)),(55,(.bool (decide (((0:Int):Int)<=x24))))],[(Rf 41 K7),(8,.arr 1 83 64 (Q286 x21)),(9,.row 41 (Q279 x22)),(Z79 x19.length x19 x24.toNat),(60024,.tok 1 3 ((Y1 x19 x24).length))],[(70024,⟨1,3,L3 x19 x24.toNat⟩)]⟩) (by kernel_rfl))) ?_;refine gR hq zzN76 zzN115 (Z38 61 (Y1 x19 x24) 60024 63 (K8 a0) 64) [] (ci hc26 (ci (Eq.refl x19.length) (ci (show(AVle (((Gf 1 Ar (0:Int) x19 (D4 70024 x24.toNat 60024)) x24.toNat).getD 0 .any) (Z26 (Y1 x19 x24) 60024)) from Y7) (ci (Ca 1 Ar (0:Int) (K8 a0)) (ci (Eq.refl ((Y1 x19 x24).length)) (ci hc27 (ci (M2 1 60024 Ar (0:Int) (Y1 x19 x24) (K8 a0)) (ci (He (Y1 x19 x24) (K8 a0)) (ci hc28 (c1 (Eq.refl x19.length))))))))))) ?_;refine N9 ((Z14 (Lx a0) x19.length x24 K7 (Q286 x21) (Q279 x22) x19 x24.toNat (Y1 x19 x24) (K8 a0)):St) ?_;refine Ll (Le.trans (Le.trans (le_put (r:=24) (b:=70024) (k:=60024) Ar (0:Int) x19 x24.toNat ((Y1 x19 x24)++(K8 a0)) 3 rfl (Ye (Fy hc25) rfl rfl) rfl rfl rfl rfl (Fy hc25) (by kernel_rfl) (.row (by kernel_rfl) (.arr (fun _=>by kernel_rfl) (.row (by kernel_rfl) (.here (.tok .nil))))) (by rw[hΓ];rfl)) (Gy (st':=⟨[Oj,(4,(Lx a0)),(Z72 24 x19.length),Z47,Z68,(10,(Z7 x24))],[(Rf 41 K7),(8,.arr 1 83 64 (Q286 x21)),(9,.row 41 (Q279 x22)),(24,.arr 1 22 x19.length (Gf 1 Ar (0:Int) (x19.set x24.toNat ((Y1 x19 x24)++(K8 a0))) (Tag.fam 70024)))],[(70024,⟨1,3,Gq (x19.set x24.toNat ((Y1 x19 x24)++(K8 a0)))⟩)]⟩) (by kernel_rfl))) (Gy (Bq (fun k_:Nat=>(⟨[Oj,(4,(Lx a0)),(Z72 24 k_),Z47,Z68,(10,(Z7 x24))],[(Rf 41 K7),(8,.arr 1 83 64 (Q286 x21)),(9,.row 41 (Q279 x22)),(24,.arr 1 22 k_ (Gf 1 Ar (0:Int) (x19.set x24.toNat ((Y1 x19 x24)++(K8 a0))) (Tag.fam 70024)))],[(70024,⟨1,3,Gq (x19.set x24.toNat ((Y1 x19 x24)++(K8 a0)))⟩)]⟩:St)) (show x19.length=(x19.set x24.toNat ((Y1 x19 x24)++(K8 a0))).length from(E5 ..).symm)))) ?_;obtain⟨x29,hx29,h⟩:=bind_some h;refine gR hq zzN139 Yv [] [⟨[(8,34000)],[],(.tuple []),(Z32 x29),[],[]⟩] (c1 (Lk x21 x22 x24 x29 hx29)) ?_;cases h;exact gJn Fe
    ·refine N9 (Q291 a0 x19 x24 x21 x22) ?_;refine Ll (Le.trans (Hl (nm:=24) (sz:=1) (n:=x19.length) (e:=22) (f:=(Gf 1 Ar (0:Int) x19 (Tag.fam 70024))) (g:=(fun i=>Gp (x19.getD i []))) rfl ⟨rfl,trivial⟩ (fun _ _=>rfl) (by rw[hΓ];rfl)) (Du (st':=⟨[Oj,(4,(Lx a0)),(5,(Z40 x19 24)),Z47,Z68,(10,(Z7 x24)),(55,(.bool (decide (((0:Int):Int)<=x24))))],[(Rf 41 K7),(8,.arr 1 83 64 (Q286 x21)),(9,.row 41 (Q279 x22)),(24,.tok 1 22 x19.length)],[]⟩) zzN65 [2,8,9,24] hq)) ?_;obtain⟨x30,hx30,h⟩:=bind_some h;refine gR hq G3 [2] [] [(Z34 x30.1 x30.2)] (c1 (V9 x19 x30 hx30)) ?_;cases h;exact gJo (Pj (J9 [] (Le.refl _ _)))
 ·clear h hx39;rintro⟨l1,l2,l3,l4⟩ y h;unfold Gc at h;obtain⟨hc31,h⟩:=Aa h;obtain⟨x32,hx32,h⟩:=bind_some h;refine gR hq zzN76 Yv [] [⟨[],[],(Z7 x32),[],[8],[]⟩] (ci hc31 (ci (show(Spec Tryz.prog 67 [(.slice 1 ((0+(Abr a0).toNat)-0) (fun i=>AV.stripAll ((Q287 l1) (0+i))) .none),(.bool false)] [] (Z7 x32) []) from(Spec.args (.cons (sub_le (e:=eB) (d:=false) (l:=l1) (fun _=>rfl)) (.cons (AVle.refl _) .nil)) (Kl (subN false l1 0 ((0+(Abr a0).toNat)-0)) false x32 hx32))) (ci (show(Xy []) from trivial) (c1 (Eq.refl 64))))) ?_;refine Ak hq zzN65 Yv ?_;refine gC h ?_ ?_<;>intro h
  ·refine N9 (Q292 a0 l4 x32 l1 l2 l3) ?_;obtain⟨hc33,h⟩:=Aa h;obtain⟨hc34,h⟩:=Aa h;obtain⟨hc35,h⟩:=Aa h;obtain⟨hc36,h⟩:=Aa h;refine Ll (Le.trans (X0 (r:=24) (b:=70024) (k:=60024) Ar (0:Int) l4 x32.toNat 3 rfl rfl rfl rfl (Fy hc33) (by kernel_rfl) (.row (by kernel_rfl) (.arr (fun _=>by kernel_rfl) (.row (by kernel_rfl) (.here .nil))))) (Gy (st':=⟨[Oj,(4,(Lx a0)),(Z72 24 l4.length),Z47,Z68,(10,(Z7 x32)),(55,(.bool (decide (((0:Int):Int)<=x32))))],[(Rf 41 K7),(8,.arr 1 83 64 (Q287 l1)),(9,.row 41 (Q281 l2 l3)),(Z79 l4.length l4 x32.toNat),(60024,.tok 1 3 ((Y2 l4 x32).length))],[(70024,⟨1,3,L3 l4 x32.toNat⟩)]⟩) (by kernel_rfl))) ?_;refine gR hq zzN76 zzN115 (Z38 61 (Y2 l4 x32) 60024 63 (K8 a0) 64) [] (ci hc34 (ci (Eq.refl l4.length) (ci (show(AVle (((Gf 1 Ar (0:Int) l4 (D4 70024 x32.toNat 60024)) x32.toNat).getD 0 .any) (Z26 (Y2 l4 x32) 60024)) from Y7) (ci (Ca 1 Ar (0:Int) (K8 a0)) (ci (Eq.refl ((Y2 l4 x32).length)) (ci hc35 (ci (M2 1 60024 Ar (0:Int) (Y2 l4 x32) (K8 a0)) (ci (He (Y2 l4 x32) (K8 a0)) (ci hc36 (c1 (Eq.refl l4.length))))))))))) ?_;refine N9 ((Z14 (Lx a0) l4.length x32 K7 (Q287 l1) (Q281 l2 l3) l4 x32.toNat (Y2 l4 x32) (K8 a0)):St) ?_;refine Ll (Le.trans (Le.trans (le_put (r:=24) (b:=70024) (k:=60024) Ar (0:Int) l4 x32.toNat ((Y2 l4 x32)++(K8 a0)) 3 rfl (Ye (Fy hc33) rfl rfl) rfl rfl rfl rfl (Fy hc33) (by kernel_rfl) (.row (by kernel_rfl) (.arr (fun _=>by kernel_rfl) (.row (by kernel_rfl) (.here (.tok .nil))))) (by rw[hΓ];rfl)) (Gy (st':=⟨[Oj,(4,(Lx a0)),(Z72 24 l4.length),Z47,Z68,(10,(Z7 x32))],[(Rf 41 K7),(8,.arr 1 83 64 (Q287 l1)),(9,.row 41 (Q281 l2 l3)),(24,.arr 1 22 l4.length (Gf 1 Ar (0:Int) (l4.set x32.toNat ((Y2 l4 x32)++(K8 a0))) (Tag.fam 70024)))],[(70024,⟨1,3,Gq (l4.set x32.toNat ((Y2 l4 x32)++(K8 a0)))⟩)]⟩) (by kernel_rfl))) (Gy (Bq (fun k_:Nat=>(⟨[Oj,(4,(Lx a0)),(Z72 24 k_),Z47,Z68,(10,(Z7 x32))],[(Rf 41 K7),(8,.arr 1 83 64 (Q287 l1)),(9,.row 41 (Q281 l2 l3)),(24,.arr 1 22 k_ (Gf 1 Ar (0:Int) (l4.set x32.toNat ((Y2 l4 x32)++(K8 a0))) (Tag.fam 70024)))],[(70024,⟨1,3,Gq (l4.set x32.toNat ((Y2 l4 x32)++(K8 a0)))⟩)]⟩:St)) (show l4.length=(l4.set x32.toNat ((Y2 l4 x32)++(K8 a0))).length from(E5 ..).symm)))) ?_;obtain⟨x37,hx37,h⟩:=bind_some h;refine gR hq zzN139 Yv [] [⟨[(8,34000)],[],(.tuple []),(Z32 x37),[],[]⟩] (c1 (Lk l1 (⟨l2,l3⟩:Ap) x32 x37 hx37)) ?_;cases h;exact gJn Fe
  ·refine N9 (Q292 a0 l4 x32 l1 l2 l3) ?_;refine Ll (Le.trans (Hl (nm:=24) (sz:=1) (n:=l4.length) (e:=22) (f:=(Gf 1 Ar (0:Int) l4 (Tag.fam 70024))) (g:=(fun i=>Gp (l4.getD i []))) rfl ⟨rfl,trivial⟩ (fun _ _=>rfl) (by rw[hΓ];rfl)) (Du (st':=⟨[Oj,(4,(Lx a0)),(5,(Z40 l4 24)),Z47,Z68,(10,(Z7 x32)),(55,(.bool (decide (((0:Int):Int)<=x32))))],[(Rf 41 K7),(8,.arr 1 83 64 (Q287 l1)),(9,.row 41 (Q281 l2 l3)),(24,.tok 1 22 l4.length)],[]⟩) zzN65 [2,8,9,24] hq)) ?_;obtain⟨x38,hx38,h⟩:=bind_some h;refine gR hq G3 [2] [] [(Z34 x38.1 x38.2)] (c1 (V9 l4 x38 hx38)) ?_;cases h;exact gJo (Pj (J9 [] (Le.refl _ _)))
 ·clear hx39;refine T0 (fun st' hk=>?_);obtain rfl:=OI h;exact gK hk
def Q297:List (Nat×AV):=[(2,Z19)]
def Q298:=(Z41:St)
def Jx(a0:Ap):Option (List Int):=
 ((Hu a0).bind fun x1=>(bif (x1.2 !=0) then(some ([]:List Int)) else((Ee x1.1).bind fun x2=>((Ld x2 (a0.Succ.length:Int)).bind fun x3=>(some x3)))))
theorem ok_pdom_Tree(a0:Ap)(r:List Int)(h:Jx a0=some r):Spec Tryz.prog 20 [(Z43 a0)] [] (Z26 r 20000) [(20000,.tok 1 3 r.length)]:=by
 refine Ab mix Tryz.func20 (fun Γ hq=>?_);unfold Jx at h;refine gR hq [1] [1] Q297 [] (c1 (Dx 1 Ar (0:Int))) ?_;obtain⟨x1,hx1,h⟩:=bind_some h;refine gR hq Nq Ml [] [(Z34 x1.1 x1.2)] (c1 (ok_pdom_Exit a0 x1 hx1)) ?_;refine Ak hq [1,3,11] Ml ?_;refine gC h ?_ ?_<;>intro h
 ·refine gR hq [2] [] Q297 [] (c1 (Dx 1 Ar (0:Int))) ?_;refine N9 (⟨Q297,[],[]⟩:St) ?_;cases h;exact gK (e:=.ret) (J9 zzN101 (show Le Γ _ Q298 from Le.trans (Du (st':=⟨Q297,[],[]⟩) [2] [] hq) (Le.trans (P8 (t:=2) (nm:=6002) (sz':=1) (fun i=>Ar (([]:List Int).getD i 0)) 3 rfl rfl (.inl ⟨rfl,rfl⟩) (fun h_=>absurd h_ (by decide))) (Du (st':=Q298) [2] [6002] hq))))
 ·obtain⟨x2,hx2,h⟩:=bind_some h;obtain⟨x3,hx3,h⟩:=bind_some h;refine gR hq [2] [17] [] [⟨[],[],(Z43 x2),[],[],[]⟩,(Z13 17 x3 x3.length)] (ci (Nt x1.1 x2 hx2) (c1 (Aa1 x2 (a0.Succ.length:Int) x3 hx3))) ?_;obtain rfl:=OI h;exact Dl [(17,20000)]
def Ge(a0:Ap)(x2:List Bool):(List Int×Int)->Option (LR (List Int×Int) (List Int)):=
 fun((l3,i4):(List Int×Int))=>(bif (decide (i4<(a0.Succ.length:Int))) then(Option.bind (α:=List Int) (Bw (Bd i4 64) (bif (!(x2.getD i4.toNat false)) then(Bw (l3.length+([i4]:List Int).length<=room) (some (l3++([i4]:List Int)))) else(some l3))) (fun x9=>(some (.next (x9,(Bb (i4+1))))))) else(some (.done l3)))
def Q300:AV:=Z19
def Q301:=(Z41:St)
def Q299(a0:Ap)(x2:List Bool):=(⟨[(3,(.vpt 3 64 0 0)),(4,(AV.list 1 Ar 0 ([]:List Int) (.own 5004))),(13,(Z54 a0.Succ.length)),(14,Td)],[(Z46 x2),(5004,.tok 1 3 (([]:List Int).length))],[]⟩:St)
def In(a0:Ap):Option (List Int):=
 ((Im a0).bind fun x1=>(bif (!x1) then(some ([]:List Int)) else((Gk a0).bind fun x2=>((An (Ge a0 x2) (([]:List Int),(0:Int))).bind (fun x11=>(some x11))))))
theorem ok_pdom_Shut(a0:Ap)(r:List Int)(h:In a0=some r):Spec Tryz.prog 21 [(Z43 a0)] [] (Z26 r 20000) [(20000,.tok 1 3 r.length)]:=by
 refine Ab mix Tryz.func21 (fun Γ hq=>?_);unfold In at h;refine gR hq [1] [1] [(2,Q300)] [] (c1 (Dx 1 Ar (0:Int))) ?_;obtain⟨x1,hx1,h⟩:=bind_some h;refine gR hq [1,8] [1] [] [(Z2 x1)] (c1 (Oe a0 x1 hx1)) ?_;refine gC h ?_ ?_<;>intro h
 ·refine gR hq [2] [] [(2,Q300)] [] (c1 (Dx 1 Ar (0:Int))) ?_;refine N9 (⟨[(2,Q300)],[],[]⟩:St) ?_;cases h;exact gK (e:=.ret) (J9 zzN101 (show Le Γ _ Q301 from Le.trans (Du (st':=⟨[(2,Q300)],[],[]⟩) [2] [] hq) (Le.trans (P8 (t:=2) (nm:=6002) (sz':=1) (fun i=>Ar (([]:List Int).getD i 0)) 3 rfl rfl (.inl ⟨rfl,rfl⟩) (fun h_=>absurd h_ (by decide))) (Du (st':=Q301) [2] [6002] hq))))
 ·obtain⟨x2,hx2,h⟩:=bind_some h;refine gR hq Ml Ml [(3,(.vpt 3 64 0 0))] [⟨[],[],(.agg (eA64B x2)),[],[],[]⟩] (ci (O5 a0 x2 hx2) (c1 (Eq.refl 64))) ?_;refine Ll (Rz 3 (show ∀ k_,k_<64->AVleL ((fun i_=>AV.eraseAll (fun n_=>Cc n_ Ml) ((fun i_=>((eA64B x2).drop (i_*1)).take 1) i_)) k_) ((fun i=>eB (x2.getD i false)) k_) from(Br rfl (fun k_ hk_=>(Bq (AV.eraseAll (fun n_=>Cc n_ Ml)) ((Ww (n:=64) (sz:=1) (f:=(fun i=>eB (x2.getD i false))) (fun _ _=>rfl)) k_ hk_)).trans rfl)))) ?_;refine gR hq Nq Ml [(4,Q300)] [] (c1 (Dx 1 Ar (0:Int))) ?_;refine Ak hq zzN60 [3] ?_;refine Ll (st':=(Q299 a0 x2)) (Le.trans (Du (st':=⟨[(3,(.vpt 3 64 0 0)),(4,Q300),(13,(Z54 a0.Succ.length)),(14,Td)],[(Z46 x2)],[]⟩) zzN60 [3] hq) (Le.trans (P8 (t:=4) (nm:=5004) (sz':=1) (fun i=>Ar (([]:List Int).getD i 0)) 3 rfl rfl (.inl ⟨rfl,rfl⟩) (fun h_=>absurd h_ (by decide))) (Du (st':=(Q299 a0 x2)) zzN60 Abo hq))) ?_;obtain⟨x11,hx11,h⟩:=bind_some h;refine gL hq hx11 zzN60 Abo (fun u (l3,i4)=>(F4 u [(4,(Z26 l3 5004)),(14,(Z7 i4))] [(5004,.tok 1 3 l3.length)])) (fun u l5=>aG Γ (.exit 0) ((Z71 l5 5004 l5.length):St)) ?_ ?_
  ·rintro⟨l3,i4⟩ y h;unfold Ge at h;refine Ak hq [3,4,13,14,15] Abo ?_;refine gC h ?_ ?_<;>intro h
   ·obtain⟨x9,hx9,h⟩:=bind_some h;refine gJ hx9 (fun l6=>aG Γ .normal (⟨[(3,(.vpt 3 64 0 0)),(4,(Z26 l6 5004)),(13,(Z54 a0.Succ.length)),(14,(Z7 i4))],[(Z46 x2),(5004,.tok 1 3 l6.length)],[]⟩:St)) ?_ ?_
    ·clear h hx9;intro y h;refine Ak hq [3,4,5,13,14] Abo ?_;obtain⟨hc7,h⟩:=Aa h;refine gR hq [3,4,5,13,14,20] Abo [] [] (ci hc7 (c1 (Eq.refl 64))) ?_;refine gC h ?_ ?_<;>intro h
     ·obtain⟨hc8,h⟩:=Aa h;refine gR hq zzN60 Abo [(23,(Z29 i4)),(24,(AV.list 1 Ar 0 (l3++([i4]:List Int)) (.own 5004)))] [] (ci (Ca 1 Ar (0:Int) ([i4]:List Int)) (ci (Eq.refl l3.length) (ci hc8 (ci (M2 1 5004 Ar (0:Int) l3 ([i4]:List Int)) (c1 (He l3 ([i4]:List Int))))))) ?_;cases h;exact gK (D3 Fe)
     ·obtain rfl:=OI h;exact gK (D3 (Du zzN60 Abo hq))
    ·clear hx9;refine gA ?_;refine Ak hq zzN60 Abo ?_;cases h;exact gN Fe
   ·cases h;exact gO (D3 (Du [4] [5004] hq))
  ·clear hx11;refine gA ?_;refine Ak hq [2] [5004] ?_;obtain rfl:=OI h;exact Dl [(5004,20000)]
def Jw(aA:List Int)(aS:Int)(aV:Int):Option Bool:=
 ((Mt aA aS aV).bind fun x1=>(some x1))
theorem ok_pdom_Over(aA:List Int)(aS:Int)(aV:Int)(r:Bool)(h:Jw aA aS aV=some r):Spec Tryz.prog 22 [(Z8 aA),(Z7 aS),(Z7 aV)] [] (.bool r) []:=by
 refine Ab mix Tryz.func22 (fun Γ hq=>?_);unfold Jw at h;refine Ak hq zzN131 [] ?_;obtain⟨x1,hx1,h⟩:=bind_some h;refine gR hq [6] [] [] [(Z2 x1)] (c1 (Aa0 aA aS aV x1 hx1)) ?_;obtain rfl:=OI h;exact Dl []
def Cm(x3:(Ap×Int))(x4:List Ac)(i6:Int):Int->Option (LR Int (Unit ⊕ Bool)):=
 fun(i8:Int)=>(bif (decide (i8<2)) then(Bw (Bd i8 ([(x4.getD i6.toNat default).Then,(x4.getD i6.toNat default).Else]:List Int).length) (Bw (((decide (((0:Int):Int)<=(([(x4.getD i6.toNat default).Then,(x4.getD i6.toNat default).Else]:List Int).getD i8.toNat 0)))==true)=true->(Bd i8 ([(x4.getD i6.toNat default).Then,(x4.getD i6.toNat default).Else]:List Int).length)) (Bw (((decide (((0:Int):Int)<=(([(x4.getD i6.toNat default).Then,(x4.getD i6.toNat default).Else]:List Int).getD i8.toNat 0)))==true)=true->(Bd (([(x4.getD i6.toNat default).Then,(x4.getD i6.toNat default).Else]:List Int).getD i8.toNat 0) x3.1.Succ.length)) (Bw ((((decide (((0:Int):Int)<=(([(x4.getD i6.toNat default).Then,(x4.getD i6.toNat default).Else]:List Int).getD i8.toNat 0)))==true)&&(((((x3.1.Succ.getD (([(x4.getD i6.toNat default).Then,(x4.getD i6.toNat default).Else]:List Int).getD i8.toNat 0).toNat []).length:Int):Int)!=1)==false))=true->(Bd i8 ([(x4.getD i6.toNat default).Then,(x4.getD i6.toNat default).Else]:List Int).length)) (Bw ((((decide (((0:Int):Int)<=(([(x4.getD i6.toNat default).Then,(x4.getD i6.toNat default).Else]:List Int).getD i8.toNat 0)))==true)&&(((((x3.1.Succ.getD (([(x4.getD i6.toNat default).Then,(x4.getD i6.toNat default).Else]:List Int).getD i8.toNat 0).toNat []).length:Int):Int)!=1)==false))=true->(Bd (([(x4.getD i6.toNat default).Then,(x4.getD i6.toNat default).Else]:List Int).getD i8.toNat 0) x3.1.Succ.length)) (Bw ((((decide (((0:Int):Int)<=(([(x4.getD i6.toNat default).Then,(x4.getD i6.toNat default).Else]:List Int).getD i8.toNat 0)))==true)&&(((((x3.1.Succ.getD (([(x4.getD i6.toNat default).Then,(x4.getD i6.toNat default).Else]:List Int).getD i8.toNat 0).toNat []).length:Int):Int)!=1)==false))=true->(Bd (0:Int) (x3.1.Succ.getD (([(x4.getD i6.toNat default).Then,(x4.getD i6.toNat default).Else]:List Int).getD i8.toNat 0).toNat []).length)) (Bw ((((decide (((0:Int):Int)<=(([(x4.getD i6.toNat default).Then,(x4.getD i6.toNat default).Else]:List Int).getD i8.toNat 0)))==true)&&((bif ((((x3.1.Succ.getD (([(x4.getD i6.toNat default).Then,(x4.getD i6.toNat default).Else]:List Int).getD i8.toNat 0).toNat []).length:Int):Int)!=1) then true else((((x3.1.Succ.getD (([(x4.getD i6.toNat default).Then,(x4.getD i6.toNat default).Else]:List Int).getD i8.toNat 0).toNat []).getD (0:Int).toNat (0:Int)):Int)!=(x4.getD i6.toNat default).Join))==false))=true->(Bd i8 ([(x4.getD i6.toNat default).Then,(x4.getD i6.toNat default).Else]:List Int).length)) (Bw ((((decide (((0:Int):Int)<=(([(x4.getD i6.toNat default).Then,(x4.getD i6.toNat default).Else]:List Int).getD i8.toNat 0)))==true)&&((bif ((((x3.1.Succ.getD (([(x4.getD i6.toNat default).Then,(x4.getD i6.toNat default).Else]:List Int).getD i8.toNat 0).toNat []).length:Int):Int)!=1) then true else((((x3.1.Succ.getD (([(x4.getD i6.toNat default).Then,(x4.getD i6.toNat default).Else]:List Int).getD i8.toNat 0).toNat []).getD (0:Int).toNat (0:Int)):Int)!=(x4.getD i6.toNat default).Join))==false))=true->(Bd (([(x4.getD i6.toNat default).Then,(x4.getD i6.toNat default).Else]:List Int).getD i8.toNat 0) x3.1.Pred.length)) (Bw ((((decide (((0:Int):Int)<=(([(x4.getD i6.toNat default).Then,(x4.getD i6.toNat default).Else]:List Int).getD i8.toNat 0)))==true)&&((bif (bif ((((x3.1.Succ.getD (([(x4.getD i6.toNat default).Then,(x4.getD i6.toNat default).Else]:List Int).getD i8.toNat 0).toNat []).length:Int):Int)!=1) then true else((((x3.1.Succ.getD (([(x4.getD i6.toNat default).Then,(x4.getD i6.toNat default).Else]:List Int).getD i8.toNat 0).toNat []).getD (0:Int).toNat (0:Int)):Int)!=(x4.getD i6.toNat default).Join)) then true else((((x3.1.Pred.getD (([(x4.getD i6.toNat default).Then,(x4.getD i6.toNat default).Else]:List Int).getD i8.toNat 0).toNat []).length:Int):Int)!=1))==false))=true->(Bd i8 ([(x4.getD i6.toNat default).Then,(x4.getD i6.toNat default).Else]:List Int).length)) (Bw ((((decide (((0:Int):Int)<=(([(x4.getD i6.toNat default).Then,(x4.getD i6.toNat default).Else]:List Int).getD i8.toNat 0)))==true)&&((bif (bif ((((x3.1.Succ.getD (([(x4.getD i6.toNat default).Then,(x4.getD i6.toNat default).Else]:List Int).getD i8.toNat 0).toNat []).length:Int):Int)!=1) then true else((((x3.1.Succ.getD (([(x4.getD i6.toNat default).Then,(x4.getD i6.toNat default).Else]:List Int).getD i8.toNat 0).toNat []).getD (0:Int).toNat (0:Int)):Int)!=(x4.getD i6.toNat default).Join)) then true else((((x3.1.Pred.getD (([(x4.getD i6.toNat default).Then,(x4.getD i6.toNat default).Else]:List Int).getD i8.toNat 0).toNat []).length:Int):Int)!=1))==false))=true->(Bd (([(x4.getD i6.toNat default).Then,(x4.getD i6.toNat default).Else]:List Int).getD i8.toNat 0) x3.1.Pred.length)) (Bw ((((decide (((0:Int):Int)<=(([(x4.getD i6.toNat default).Then,(x4.getD i6.toNat default).Else]:List Int).getD i8.toNat 0)))==true)&&((bif (bif ((((x3.1.Succ.getD (([(x4.getD i6.toNat default).Then,(x4.getD i6.toNat default).Else]:List Int).getD i8.toNat 0).toNat []).length:Int):Int)!=1) then true else((((x3.1.Succ.getD (([(x4.getD i6.toNat default).Then,(x4.getD i6.toNat default).Else]:List Int).getD i8.toNat 0).toNat []).getD (0:Int).toNat (0:Int)):Int)!=(x4.getD i6.toNat default).Join)) then true else((((x3.1.Pred.getD (([(x4.getD i6.toNat default).Then,(x4.getD i6.toNat default).Else]:List Int).getD i8.toNat 0).toNat []).length:Int):Int)!=1))==false))=true->(Bd (0:Int) (x3.1.Pred.getD (([(x4.getD i6.toNat default).Then,(x4.getD i6.toNat default).Else]:List Int).getD i8.toNat 0).toNat []).length)) (bif (bif (decide (((0:Int):Int)<=(([(x4.getD i6.toNat default).Then,(x4.getD i6.toNat default).Else]:List Int).getD i8.toNat 0))) then(bif (bif (bif ((((x3.1.Succ.getD (([(x4.getD i6.toNat default).Then,(x4.getD i6.toNat default).Else]:List Int).getD i8.toNat 0).toNat []).length:Int):Int)!=1) then true else((((x3.1.Succ.getD (([(x4.getD i6.toNat default).Then,(x4.getD i6.toNat default).Else]:List Int).getD i8.toNat 0).toNat []).getD (0:Int).toNat (0:Int)):Int)!=(x4.getD i6.toNat default).Join)) then true else((((x3.1.Pred.getD (([(x4.getD i6.toNat default).Then,(x4.getD i6.toNat default).Else]:List Int).getD i8.toNat 0).toNat []).length:Int):Int)!=1)) then true else((((x3.1.Pred.getD (([(x4.getD i6.toNat default).Then,(x4.getD i6.toNat default).Else]:List Int).getD i8.toNat 0).toNat []).getD (0:Int).toNat (0:Int)):Int)!=(x4.getD i6.toNat default).At)) else false) then(some (.done (.inr false))) else(some (.next (Bb (i8+1)))))))))))))))) else(some (.done (.inl ()))))
def Cn(x3:(Ap×Int))(x4:List Ac)(x5:List Int):Int->Option (LR Int (Unit ⊕ Bool)):=
 fun(i6:Int)=>(bif (decide (i6<(x4.length:Int))) then(Bw (Bd i6 x4.length) ((An (Cm x3 x4 i6) (0:Int)).bind (fun x20=>(match x20 with|(.inl _)=>((In x3.1).bind fun x22=>((bif ((((x22.length:Int):Int)==0)==true) then Jw x5 ((x4.getD i6.toNat default).Join) ((x4.getD i6.toNat default).At) else some false).bind fun x23=>((bif ((bif (((x22.length:Int):Int)==0) then(!x23) else false)==false) then Fj x3.1 ((x4.getD i6.toNat default).At) (-1:Int) else some []).bind fun x24=>(Bw (((bif (((x22.length:Int):Int)==0) then(!x23) else false)==false)=true->(Bd (x4.getD i6.toNat default).Join x24.length)) (bif (bif (bif (((x22.length:Int):Int)==0) then(!x23) else false) then true else(!(x24.getD ((x4.getD i6.toNat default).Join).toNat false))) then(some (.done (.inr false))) else(some (.next (Bb (i6+1)))))))))|(.inr r26)=>(some (.done (.inr r26))))))) else(some (.done (.inl ()))))
def Iz(Γ:Hy)(a1:TFunc)(r:Bool):Exit->St->Prop:=fK Tryz.prog Γ Tryz.f4.results.toList [] (.bool r) []
def Q304:=((0:Int):Int)
def Q313(x4:List Ac)(i6:Int):=(x4.getD i6.toNat default)
def Q302(x4:List Ac)(i6:Int)(i8:Int):=(([(Q313 x4 i6).Then,(Q313 x4 i6).Else]:List Int).getD i8.toNat 0)
def P5(x4:List Ac)(i6:Int)(i8:Int):=((decide (Q304<=(Q302 x4 i6 i8)))==true)
def Q308(x3:(Ap×Int))(x4:List Ac)(i6:Int)(i8:Int):=(((((x3.1.Succ.getD (Q302 x4 i6 i8).toNat []).length:Int):Int)!=1)==false)
def Y4(x4:List Ac)(i6:Int)(i8:Int)(x3:(Ap×Int)):=((P5 x4 i6 i8)&&(Q308 x3 x4 i6 i8))
def Q306(x3:(Ap×Int))(x4:List Ac)(i6:Int)(i8:Int):=(bif ((((x3.1.Succ.getD (Q302 x4 i6 i8).toNat []).length:Int):Int)!=1) then true else((((x3.1.Succ.getD (Q302 x4 i6 i8).toNat []).getD (0:Int).toNat (0:Int)):Int)!=(Q313 x4 i6).Join))
def Q311(x4:List Ac)(i6:Int)(i8:Int)(x3:(Ap×Int)):=((P5 x4 i6 i8)&&((Q306 x3 x4 i6 i8)==false))
def Q305(x22:List Int):=((((x22.length:Int):Int)==0)==true)
def Q303(x22:List Int)(x23:Bool):=((bif (((x22.length:Int):Int)==0) then(!x23) else false)==false)
def Q309(x3:(Ap×Int))(x4:List Ac)(i6:Int)(i8:Int):=((((x3.1.Pred.getD (Q302 x4 i6 i8).toNat []).length:Int):Int)!=1)
def Y3(x4:List Ac)(i6:Int)(i8:Int)(x3:(Ap×Int)):=((P5 x4 i6 i8)&&((bif (Q306 x3 x4 i6 i8) then true else(Q309 x3 x4 i6 i8))==false))
def Eh(a1:TFunc):Option Bool:=
 (m_locksteplaw14_awake.bind fun x1=>(bif (!x1) then(some false) else((Di a1).bind fun x2=>(bif (!x2) then(some true) else((Lh a1).bind fun x3=>((F2 a1).bind fun x4=>(bif (x3.2 !=0) then(some (((x4.length:Int):Int)==0)) else((Jx x3.1).bind fun x5=>((An (Cn x3 x4 x5) (0:Int)).bind (fun x27=>(match x27 with|(.inl _)=>(some true)|(.inr r29)=>(some r29))))))))))))
theorem ok_locksteplaw14_HammockMeets(a1:TFunc)(r:Bool)(h:Eh a1=some r):Spec Tryz.prog 4 [(Z62 a1)] [] (.bool r) []:=by
 refine Ab mix Tryz.func4 (fun Γ hq=>?_);unfold Eh at h;refine Ak hq [1] [1] ?_;obtain⟨x1,hx1,h⟩:=bind_some h;refine gR hq [1,12] [1] [] [(Z2 x1)] (c1 (Sc  x1 hx1)) ?_;refine gC h ?_ ?_<;>intro h
 ·refine Ak hq [2] [] ?_;obtain rfl:=OI h;exact Dl []
 ·obtain⟨x2,hx2,h⟩:=bind_some h;refine gR hq [1,15] [1] [] [(Z2 x2)] (c1 (Sf a1 x2 hx2)) ?_;refine gC h ?_ ?_<;>intro h
  ·refine Ak hq [2] [] ?_;obtain rfl:=OI h;exact Dl []
  ·obtain⟨x3,hx3,h⟩:=bind_some h;refine gR hq Nq Ml [] [(Z34 x3.1 x3.2)] (c1 (Uc a1 x3 hx3)) ?_;obtain⟨x4,hx4,h⟩:=bind_some h;refine gR hq [3,4,5] [3,22] [] [⟨[],[(20000,22)],(Z39 x4 20000),[(20000,.tok 4 27 x4.length)],[],[]⟩] (c1 (Mc a1 x4 hx4)) ?_;refine Ak hq [3,5,24] [3,22] ?_;refine gC h ?_ ?_<;>intro h
   ·refine Ak hq [2] [] ?_;cases h;exact Dl []
   ·obtain⟨x5,hx5,h⟩:=bind_some h;refine gR hq [3,5,6] zzN91 [] [(Z13 29 x5 x5.length)] (c1 (ok_pdom_Tree x3.1 x5 hx5)) ?_;refine Ak hq [3,5,6,7] zzN91 ?_;obtain⟨x27,hx27,h⟩:=bind_some h;refine gL hq hx27 [3,5,6,7] zzN91 (fun u i6=>(F4 u [(7,(Z7 i6))] [])) (fun u x_=>match x_ with|(.inl _)=>aG Γ (.exit 0) (⟨[],[],[]⟩:St)|(.inr r_)=>aR (Iz Γ a1 r_)) ?_ ?_
    ·intro i6 y h;unfold Cn at h;refine Ak hq [3,5,6,7,33] zzN91 ?_;refine gC h ?_ ?_<;>intro h
     ·obtain⟨hc7,h⟩:=Aa h;refine gR hq zzN140 Yw [] [] (c1 hc7) ?_;refine gR hq [3,5,6,7,8,9] Yw [(44,(AV.list 1 Ar 0 ([(Q313 x4 i6).Then,(Q313 x4 i6).Else]:List Int) .exact))] [] (c1 (Ca 1 Ar (0:Int) ([(Q313 x4 i6).Then,(Q313 x4 i6).Else]:List Int))) ?_;refine Ak hq zzN92 Yw ?_;obtain⟨x20,hx20,h⟩:=bind_some h;refine gL hq hx20 zzN92 Yw (fun u i8=>(F4 u [(10,(Z7 i8))] [])) (fun u x_=>match x_ with|(.inl _)=>aG Γ (.exit 2) (W8 zzN140 Yw u [] [])|(.inr r_)=>aR (Iz Γ a1 r_)) ?_ ?_
      ·intro i8 y h;unfold Cm at h;refine Ak hq [3,5,6,7,8,9,10,46] Yw ?_;refine gC h ?_ ?_<;>intro h
       ·obtain⟨hc9,h⟩:=Aa h;obtain⟨hc10,h⟩:=Aa h;obtain⟨hc11,h⟩:=Aa h;obtain⟨hc12,h⟩:=Aa h;obtain⟨hc13,h⟩:=Aa h;obtain⟨hc14,h⟩:=Aa h;obtain⟨hc15,h⟩:=Aa h;obtain⟨hc16,h⟩:=Aa h;obtain⟨hc17,h⟩:=Aa h;obtain⟨hc18,h⟩:=Aa h;obtain⟨hc19,h⟩:=Aa h;refine gR hq [3,5,6,7,8,9,10,107] Yw [] [] (ci hc9 (ci (gI (P5 x4 i6 i8)) (ci (gI (P5 x4 i6 i8)) (ci (gI (P5 x4 i6 i8)) (ci hc10 (ci (gI (P5 x4 i6 i8)) (ci (gI (P5 x4 i6 i8)) (ci (gI (P5 x4 i6 i8)) (ci hc11 (ci (gI (P5 x4 i6 i8)) (ci (gI (P5 x4 i6 i8)) (ci (gI (P5 x4 i6 i8)) (ci (gI (P5 x4 i6 i8)) (ci (gI (Y4 x4 i6 i8 x3)) (ci (gI (Y4 x4 i6 i8 x3)) (ci (gI (Y4 x4 i6 i8 x3)) (ci hc12 (ci (gI (Y4 x4 i6 i8 x3)) (ci (gI (Y4 x4 i6 i8 x3)) (ci (gI (Y4 x4 i6 i8 x3)) (ci hc13 (ci (gI (Y4 x4 i6 i8 x3)) (ci (gI (Y4 x4 i6 i8 x3)) (ci hc14 (ci (gI (Y4 x4 i6 i8 x3)) (ci (gI (Y4 x4 i6 i8 x3)) (ci (gI (Y4 x4 i6 i8 x3)) (ci (gI (Y4 x4 i6 i8 x3)) (ci (gI (P5 x4 i6 i8)) (ci (show((P5 x4 i6 i8)=true->(((((x3.1.Succ.getD (Q302 x4 i6 i8).toNat []).length:Int):Int)!=1)=false->(Y4 x4 i6 i8 x3)=true)) from(fun hg=>(aF hg))) (ci (gI (P5 x4 i6 i8)) (ci (gI (Q311 x4 i6 i8 x3)) (ci (gI (Q311 x4 i6 i8 x3)) (ci (gI (Q311 x4 i6 i8 x3)) (ci hc15 (ci (gI (Q311 x4 i6 i8 x3)) (ci (gI (Q311 x4 i6 i8 x3)) (ci (gI (Q311 x4 i6 i8 x3)) (ci hc16 (ci (gI (Q311 x4 i6 i8 x3)) (ci (gI (Q311 x4 i6 i8 x3)) (ci (gI (Q311 x4 i6 i8 x3)) (ci (gI (P5 x4 i6 i8)) (ci (show((P5 x4 i6 i8)=true->((Q306 x3 x4 i6 i8)=false->(Q311 x4 i6 i8 x3)=true)) from(fun hg=>(aF hg))) (ci (gI (P5 x4 i6 i8)) (ci (gI (Y3 x4 i6 i8 x3)) (ci (gI (Y3 x4 i6 i8 x3)) (ci (gI (Y3 x4 i6 i8 x3)) (ci hc17 (ci (gI (Y3 x4 i6 i8 x3)) (ci (gI (Y3 x4 i6 i8 x3)) (ci (gI (Y3 x4 i6 i8 x3)) (ci hc18 (ci (gI (Y3 x4 i6 i8 x3)) (ci (gI (Y3 x4 i6 i8 x3)) (ci hc19 (ci (gI (Y3 x4 i6 i8 x3)) (ci (gI (Y3 x4 i6 i8 x3)) (ci (gI (Y3 x4 i6 i8 x3)) (ci (gI (Y3 x4 i6 i8 x3)) (ci (gI (P5 x4 i6 i8)) (ci (show((P5 x4 i6 i8)=true->((bif (Q306 x3 x4 i6 i8) then true else(Q309 x3 x4 i6 i8))=false->(Y3 x4 i6 i8 x3)=true)) from(fun hg=>(aF hg))) (c1 (Oa (decide (Q304<=(Q302 x4 i6 i8))))))))))))))))))))))))))))))))))))))))))))))))))))))))))))))))))) ?_;refine gC h ?_ ?_<;>intro h
        ·refine Ak hq [2] [] ?_;cases h;exact gO (Pj (J9 [] (Le.refl _ _)))
        ·refine Ak hq zzN92 Yw ?_;cases h;exact gN Fe
       ·cases h;exact gO (D3 (Du zzN140 Yw hq))
      ·clear hx20;rcases x20 with _|r26
       ·refine gA ?_;obtain⟨x22,hx22,h⟩:=bind_some h;obtain⟨x23,hx23,h⟩:=bind_some h;obtain⟨x24,hx24,h⟩:=bind_some h;obtain⟨hc25,h⟩:=Aa h;refine gR hq [3,5,6,7,131] zzN91 [] [(Z13 109 x22 x22.length),(Z2 x23),⟨[],[],(AV.list 1 eB false x24 .none),[],[],[]⟩] (ci (ok_pdom_Shut x3.1 x22 hx22) (ci (gI (Q305 x22)) (ci (gI (Q305 x22)) (ci (gI (Q305 x22)) (ci (gI (Q305 x22)) (ci (gI (Q305 x22)) (ci (fun(hg:(Q305 x22)=true)=>(ok_pdom_Over x5 ((Q313 x4 i6).Join) ((Q313 x4 i6).At) x23 (C2 hg hx23))) (ci (gI (Q305 x22)) (ci (Oa (((x22.length:Int):Int)==0)) (ci (gI (Q303 x22 x23)) (ci (gI (Q303 x22 x23)) (ci (gI (Q303 x22 x23)) (ci (show((Q303 x22 x23)=true->(Spec Tryz.prog 23 [(Z43 x3.1),(.int .i64 (Q313 x4 i6).At),(.int .i64 (-1:Int))] [] (AV.list 1 eB false x24 .none) [])) from(fun hg=>(Spec.drop (Se x3.1 ((Q313 x4 i6).At) (-1:Int) x24 (C2 hg hx24))))) (ci (gI (Q303 x22 x23)) (ci (gI (Q303 x22 x23)) (ci (gI (Q303 x22 x23)) (ci hc25 (ci (gI (Q303 x22 x23)) (ci (gI (Q303 x22 x23)) (c1 (Vw (bif (((x22.length:Int):Int)==0) then(!x23) else false)))))))))))))))))))))) ?_;refine gC h ?_ ?_<;>intro h
        ·refine Ak hq [2] [] ?_;cases h;exact gO (Pj (J9 [] (Le.refl _ _)))
        ·refine Ak hq [3,5,6,7] zzN91 ?_;cases h;exact gN Fe
       ·refine T0 (fun st' hk=>?_);cases h;exact gO (Pj hk)
     ·cases h;exact gO (D3 (Du [] [] hq))
    ·clear hx27;rcases x27 with _|r29
     ·refine gA ?_;refine Ak hq [2] [] ?_;obtain rfl:=OI h;exact Dl []
     ·refine T0 (fun st' hk=>?_);obtain rfl:=OI h;exact gK hk
theorem Jg{n:Int}(h:-9223372036854775808<=n)(h':n<9223372036854775808):Bb n=n:=by
 show IntKind.i64.wrap n=n
 simp only[IntKind.wrap,IntKind.bits,IntKind.signed]
 simp
 split<;>omega
theorem wu64_of{n:Int}(h:0<=n)(h':n<18446744073709551616):Ks n=n:=by
 show IntKind.u64.wrap n=n
 simp[IntKind.wrap,IntKind.bits,IntKind.signed];omega
theorem wu64_mod(n:Int):Ks n=n % 18446744073709551616:=by
 show IntKind.u64.wrap n=_
 simp[IntKind.wrap,IntKind.bits,IntKind.signed]
theorem Am{R:Type}{p:Prop}[Decidable p]{k:Option R}(h:p):Bw p k=k:=if_pos h
theorem fdiv_pow{x:Int}(j:Nat):x.fdiv (2 ^ j)=x / 2 ^ j:=by rw[Int.fdiv_eq_ediv_of_nonneg _ (by exact Int.le_of_lt (Int.pow_pos (by decide)))]
theorem Ag{α:Type}(l:List α)(i:Nat)(d:α)(h:i<l.length):l.getD i d=l[i]:=by simp[List.getD,h]
theorem kinds(k:Int):k=0\/k=1\/k=2\/k=3\/k=4\/k=5\/k=6\/k=7\/k=8\/k=9\/k=10\/k=11\/k=12\/k=13\/k=14\/k=15\/k=16\/k=17\/k=18\/k=19\/k=20\/k=21\/k=22\/(k<0\/22<k):=by omega
theorem out_ne{k:Int}(h:k<0\/22<k):(k==0)=false/\(k==1)=false/\(k==2)=false/\(k==3)=false/\(k==4)=false/\(k==5)=false/\(k==6)=false/\(k==7)=false/\(k==8)=false/\(k==9)=false/\(k==10)=false/\(k==11)=false/\(k==12)=false /\
  (k==13)=false/\(k==14)=false/\(k==15)=false/\(k==16)=false/\(k==17)=false/\(k==18)=false/\(k==19)=false/\(k==20)=false/\(k==21)=false/\(k==22)=false:=by
 simp only[zzL37,ne_eq];omega
def E4(b:Int):Bool:=b==1 || b==8 || b==16 || b==32 || b==64
def Xz(b n:Int):Bool:=E4 b&&(n==1 || ((n==2 || n==4 || n==8 || n==16)&&decide (8<=b)&&decide (b*n<=128)))
theorem width_cases{b:Int}(h:E4 b=true):b=1\/b=8\/b=16\/b=32\/b=64:=by simp[E4]at h;omega
theorem Aa9{b n:Int}(h:Xz b n=true):E4 b=true:=by simp[Xz]at h;exact h.1
theorem Pz{b n:Int}(h:Xz b n=true):n=1\/n=2\/n=4\/n=8\/n=16:=by simp[Xz]at h;omega
theorem Q0(b:Int):Hb b=some (E4 b):=by
 unfold Hb E4
 by_cases h1:b=1
 ·subst h1;rfl
 by_cases h2:b=8
 ·subst h2;rfl
 by_cases h3:b=16
 ·subst h3;rfl
 by_cases h4:b=32
 ·subst h4;rfl
 by_cases h5:b=64
 ·subst h5;rfl
 have e1:(b==1)=false:=by simpa using h1
 have e2:(b==8)=false:=by simpa using h2
 have e3:(b==16)=false:=by simpa using h3
 have e4:(b==32)=false:=by simpa using h4
 have e5:(b==64)=false:=by simpa using h5
 simp[e1,e2,e3,e4,e5]
theorem kind_Shape(b n:Int):L9 b n=some (Xz b n):=by
 unfold L9;simp only[Q0,Ax]
 by_cases hn:n=1\/n=2\/n=4\/n=8\/n=16
 ·cases hw:E4 b with
  | false=>rcases hn with rfl|rfl|rfl|rfl|rfl<;>simp[Xz,hw]
  | true=>
   rcases width_cases hw with rfl|rfl|rfl|rfl|rfl<;>rcases hn with rfl|rfl|rfl|rfl|rfl<;>rfl
 ·have e1:(n==1)=false:=by simp;omega
  have e2:(n==2)=false:=by simp;omega
  have e3:(n==4)=false:=by simp;omega
  have e4:(n==8)=false:=by simp;omega
  have e5:(n==16)=false:=by simp;omega
  simp[Xz,e1,e2,e3,e4,e5]
theorem word_Cut{v b:Int}(hv:0<=v/\v<18446744073709551616)(hb:E4 b=true):Ow v b=some (v % 2 ^ b.toNat):=by
 unfold Ow;simp only[Q0,hb,Ax,E6,A0]
 have key:∀ j:Nat,j<64->Yk .u64 (shlV .u64 v (j:Int)) (j:Int)=(v*2 ^ j % 18446744073709551616) / 2 ^ j:=fun j hj=>by
  simp only[Yk,shlV,Dw,IntKind.bits];rw[Nat.min_eq_left (by omega),fdiv_pow,show IntKind.u64.wrap (v*2 ^ j)=v*2 ^ j % 18446744073709551616 from wu64_mod _]
 rcases width_cases hb with rfl|rfl|rfl|rfl|rfl
 ·have:=key 63 (by decide);simp only[show Bb (64-1)=((63:Nat):Int) from rfl,this];rw[Am (by decide),Am (by decide)];congr 1;simp only[show((1:Int).toNat)=1 from rfl];omega
 ·have:=key 56 (by decide);simp only[show Bb (64-8)=((56:Nat):Int) from rfl,this];rw[Am (by decide),Am (by decide)];congr 1;simp only[show((8:Int).toNat)=8 from rfl];omega
 ·have:=key 48 (by decide);simp only[show Bb (64-16)=((48:Nat):Int) from rfl,this];rw[Am (by decide),Am (by decide)];congr 1;simp only[show((16:Int).toNat)=16 from rfl];omega
 ·have:=key 32 (by decide);simp only[show Bb (64-32)=((32:Nat):Int) from rfl,this];rw[Am (by decide),Am (by decide)];congr 1;simp only[show((32:Int).toNat)=32 from rfl];omega
 ·have:=key 0 (by decide);simp only[show Bb (64-64)=((0:Nat):Int) from rfl,this];rw[Am (by decide),Am (by decide)];congr 1;simp only[show((64:Int).toNat)=64 from rfl];omega
theorem kind_isWidth{i:Int}(h:0<=i/\i<18446744073709551616):Ia i=some (E4 i):=by
 unfold Ia
 by_cases hi:i<=64
 ·have:Bb i=i:=Jg (by omega) (by omega);simp[hi,this,Q0]
 ·have:E4 i=false:=by simp[E4];omega
  simp[hi,this]
def isK(k:Int):Bool:=decide (0<=k)&&decide (k<=22)
def Oy(k n:Int):Int:=
 bif k==0 then 0 else bif k==13 || k==18 || k==19 then 3 else bif k==14 || k==15 || k==16 || k==22 then 1 else bif k==20 then 4 else bif k==21 then n else 2
def Yj(k b n:Int):Bool:=
 bif k==16 || k==17 then decide (8<=b) else bif k==18 || k==19 then decide (8<=b)&&n==1 else
 bif k==4 || k==10 || k==11 || k==12 || k==14 || k==15 || k==20 then n==1 else bif k==21 || k==22 then decide (1<n) else true
def ifitS(k b n i:Int):Bool:=
 bif k==0 then i % 2 ^ b.toNat==i else bif k==14 then E4 i&&decide (i<b) else bif k==15 then E4 i&&decide (b<i) else bif k==22 then decide (i<n) else i==0
def valS(v:Int):Bool:=decide (1<=v)&&decide (v<=1023)
def dstS(k d:Int):Bool:=bif k==17 || k==19 then d==0 else valS d
def Mo(o:E7):Bool:=Xz o.Bits o.Lanes&&(isK o.Kind&&Yj o.Kind o.Bits o.Lanes&&ifitS o.Kind o.Bits o.Lanes o.Imm&&((o.Args.length:Int)==Oy o.Kind o.Lanes))&&(o.Args.all valS&&dstS o.Kind o.Dst)
def elemS(o:E7)(i:Nat):Int×Int:=
 bif o.Kind==13 || o.Kind==20 then(bif Nat.beq i 0 then(1,1) else(o.Bits,o.Lanes)) else bif o.Kind==14 || o.Kind==15 then(Bb o.Imm,1) else
 bif o.Kind==16 || o.Kind==17 then(bif Nat.beq i 0 then(64,1) else(o.Bits,o.Lanes)) else
 bif o.Kind==18 || o.Kind==19 then(bif Nat.beq i 1 then(64,1) else bif Nat.beq i 0 then(1,1) else(o.Bits,o.Lanes)) else bif o.Kind==21 then(o.Bits,1) else(o.Bits,o.Lanes)
def Xd(o:E7):List (Int×Int):=(List.range (Oy o.Kind o.Lanes).toNat).map (elemS o)
def Zc(k b n:Int):Int×Int:=bif k==17 || k==19 then(0,0) else bif k==10 || k==11 || k==12 then(1,1) else bif k==22 then(b,1) else(b,n)
theorem isK_out{k:Int}(h:k<0\/22<k):isK k=false:=by simp[isK];omega
theorem kind_isKind(k:Int):Ky k=some (isK k):=by unfold Ky isK;cases decide ((0:Int)<=k)<;>rfl
theorem Ry(v:Int):H9 v=some (valS v):=by unfold H9 valS;cases decide ((1:Int)<=v)<;>rfl
theorem kind_shapeFits(o:E7):Ib o=some (Yj o.Kind o.Bits o.Lanes):=by
 obtain⟨k,b,n,d,args,i⟩:=o;rcases kinds k with rfl|rfl|rfl|rfl|rfl|rfl|rfl|rfl|rfl|rfl|rfl|rfl|rfl|rfl|rfl|rfl|rfl|rfl|rfl|rfl|rfl|rfl|rfl|h
 any_goals rfl
 ·show some (bif decide (8<=b) then n==1 else false)=some (decide (8<=b)&&n==1);cases decide (8<=b)<;>rfl
 ·show some (bif decide (8<=b) then n==1 else false)=some (decide (8<=b)&&n==1);cases decide (8<=b)<;>rfl
 ·unfold Ib Yj;simp[out_ne h]
theorem kind_gives(o:E7):Ke o=some (Zc o.Kind o.Bits o.Lanes):=by
 obtain⟨k,b,n,d,args,i⟩:=o;rcases kinds k with rfl|rfl|rfl|rfl|rfl|rfl|rfl|rfl|rfl|rfl|rfl|rfl|rfl|rfl|rfl|rfl|rfl|rfl|rfl|rfl|rfl|rfl|rfl|h
 any_goals rfl
 unfold Ke Zc;simp[out_ne h]
theorem kind_immFits(o:E7)(hw:E4 o.Bits=true)(hn:0<=o.Lanes/\o.Lanes<=16)(hi:0<=o.Imm/\o.Imm<18446744073709551616):Jv o=some (ifitS o.Kind o.Bits o.Lanes o.Imm):=by
 unfold Jv ifitS
 have hb:Ks o.Bits=o.Bits:=by apply wu64_of<;>(rcases width_cases hw with h|h|h|h|h<;>omega)
 have hl:Ks o.Lanes=o.Lanes:=by apply wu64_of<;>omega
 rw[word_Cut hi hw,kind_isWidth hi,hb,hl]
 cases(o.Kind==0)<;>cases(o.Kind==14)<;>cases(o.Kind==15)<;>cases(o.Kind==22)<;>cases E4 o.Imm<;>rfl
set_option maxHeartbeats 2000000 in
theorem T7{α X:Type}(l:List α)(d:α)(p:α->Bool)(f:Int->Option (LR Int X))(yes no:X)(hn:∀ i:Nat,i<l.length->p (l.getD i d)=true->f i=some (.next ((i:Int)+1)))
  (hf:∀ i:Nat,i<l.length->p (l.getD i d)=false->f i=some (.done no)) (he:f l.length=some (.done yes)):∀(k i:Nat),i+k=l.length->An f i=some (bif (l.drop i).all p then yes else no)
 | 0,i,h=>by
  obtain rfl:i=l.length:=by omega
  rw[Aq he]
  simp
 | k+1,i,h=>by
  have hi:i<l.length:=by omega
  have hd:l.drop i=l.getD i d::l.drop (i+1):=by rw[Uz hi,Ag _ _ _ hi]
  cases hp:p (l.getD i d) with
  | true=>
   rw[Aw (hn i hi hp)];have:=T7 l d p f yes no hn hf he k (i+1) (by omega);rw[show((i:Int)+1)=((i+1:Nat):Int) by omega,this,hd,S9,hp,G2]
  | false=>
   rw[Aq (hf i hi hp),hd,S9,hp,Wh,A0]
theorem X1{α:Type}(l:List α)(d:α)(wt:α->Nat)(C:Nat)(f:Int×Int->Option (LR (Int×Int) Int))
  (hn:∀(n i:Nat),i<l.length->n<=C->∃ m:Nat,f ((n:Int),(i:Int))=some (.next ((m:Int),((i+1:Nat):Int)))/\(n+wt (l.getD i d)<=C->m=n+wt (l.getD i d))/\(m<=C->n+wt (l.getD i d)<=C))
  (hd:∀(n i:Nat),i<=l.length->(i=l.length\/C<n)->f ((n:Int),(i:Int))=some (.done (n:Int))) :
  ∀(k i n:Nat),i+k=l.length->∃ m:Nat,An f ((n:Int),(i:Int))=some (m:Int)/\(n+((l.drop i).map wt).sum<=C->m=n+((l.drop i).map wt).sum)/\(m<=C->n+((l.drop i).map wt).sum<=C)
 | 0,i,n,h=>by
  obtain rfl:i=l.length:=by omega
  refine⟨n,Aq (hd n _ (zzL8 _) (.inl rfl)),?_,?_⟩
  ·simp
  ·simp
 | k+1,i,n,h=>by
  have hi:i<l.length:=by omega
  have hdr:l.drop i=l.getD i d::l.drop (i+1):=by rw[Uz hi,Ag _ _ _ hi]
  by_cases hC:n<=C
  ·obtain⟨m,h1,h2,h3⟩:=hn n i hi hC;obtain⟨m',h4,h5,h6⟩:=X1 l d wt C f hn hd k (i+1) m (by omega);refine⟨m',by rw[Aw h1];exact h4,fun hle=>?_,fun hle=>?_⟩
   ·rw[hdr,B0,Sl]at hle ⊢;have:=h2 (by omega);subst this;rw[h5 (by omega)];omega
   ·rw[hdr,B0,Sl];have h7:=h6 hle;have h8:=h3 (by omega);have:=h2 h8;omega
  ·refine⟨n,Aq (hd n i (by omega) (.inr (by omega))),fun hle=>by omega,fun hle=>by omega⟩
theorem Ot{X:Type}(N:Nat)(f:Int×Int->Option (LR (Int×Int) X))(hn:∀(n:Int) (i:Nat),i<N->(∃ m:Int,f (n,(i:Int))=some (.next (m,((i+1:Nat):Int))))\/∃ x,f (n,(i:Int))=some (.done x))(hd:∀ n:Int,∃ x,f (n,(N:Int))=some (.done x)) :
  ∀(k i:Nat) (n:Int),i+k=N->∃ x,An f (n,(i:Int))=some x
 | 0,i,n,h=>by
  obtain rfl:i=N:=by omega
  obtain⟨x,hx⟩:=hd n;exact⟨x,Aq hx⟩
 | k+1,i,n,h=>by
  rcases hn n i (by omega) with⟨m,hm⟩|⟨x,hx⟩
  ·obtain⟨x,hx⟩:=Ot N f hn hd k (i+1) m (by omega);exact⟨x,by rw[Aw hm];exact hx⟩
  ·exact⟨x,Aq hx⟩
theorem Zh{α X:Type}(l:List α)(d:α)(wt:α->Nat)(out:Int->X)(f:Int×Int->Option (LR (Int×Int) X))
  (hn:∀(n i:Nat),i<l.length->f (Bb n,(i:Int))=some (.next (Bb ((n+wt (l.getD i d):Nat):Int),((i+1:Nat):Int)))) (hd:∀ n:Int,f (n,(l.length:Int))=some (.done (out n))) :
  ∀(k i n:Nat),i+k=l.length->An f (Bb n,(i:Int))=some (out (Bb ((n+((l.drop i).map wt).sum:Nat):Int)))
 | 0,i,n,h=>by
  obtain rfl:i=l.length:=by omega
  rw[Aq (hd _)]
  simp
 | k+1,i,n,h=>by
  have hi:i<l.length:=by omega
  have hdr:l.drop i=l.getD i d::l.drop (i+1):=by rw[Uz hi,Ag _ _ _ hi]
  rw[Aw (hn n i hi),Zh l d wt out f hn hd k (i+1) _ (by omega),hdr,B0,Sl,K2]
theorem Yn(a b:Int):Bb (Bb a+b)=Bb (a+b):=by
 show IntKind.i64.wrap (IntKind.i64.wrap a+b)=IntKind.i64.wrap (a+b)
 simp only[IntKind.wrap,IntKind.bits,IntKind.signed]
 simp
 split<;>split<;>omega
theorem A8{α:Type}{l:List α}{i:Nat}{d:α}(h:i<l.length):l.getD i d∈l:=by rw[Ag _ _ _ h];exact S7 h
theorem A5{i n:Nat}(h:i<n):Bd (i:Int) n:=⟨by omega,by exact_mod_cast h⟩
theorem Fk{i n:Nat}(h:i<n)(hn:n<9223372036854775808):Bb ((i:Int)+1)=(i:Int)+1:=Jg (by omega) (by omega)
def good31(l:List Int):Prop:=∀ x∈l,0<=x/\x<=2147483647
theorem Jp{S X:Type}(f:S->Option (LR S X))(T:Nat->S)(x:X):∀(n:Nat),(∀ i,i<n->f (T i)=some (.next (T (i+1))))->f (T n)=some (.done x)->An f (T 0)=some x:=by
 suffices h:∀(k i n:Nat),i+k=n->(∀ j,i<=j->j<n->f (T j)=some (.next (T (j+1))))->f (T n)=some (.done x)->An f (T i)=some x from
  fun n h1 h2=>h n 0 n (by omega) (fun j _ hj=>h1 j hj) h2
 intro k
 induction k with
 | zero=>
  intro i n hi _ h2
  have hin:n=i:=by omega
  subst hin;exact Aq h2
 | succ k ih=>intro i n hi h1 h2;rw[Aw (h1 i (zzL8 _) (by omega))];exact ih (i+1) n (by omega) (fun j hj hj'=>h1 j (by omega) hj') h2
theorem loop_seq_part{S X:Type}(f:S->Option (LR S X))(T:Nat->S):∀(n:Nat),(∀ i,i<n->f (T i)=some (.next (T (i+1))))->An f (T 0)=An f (T n):=by
 intro n
 induction n with
 | zero=>intro _;rfl
 | succ n ih=>intro h;rw[ih (fun i hi=>h i (by omega)),Aw (h n (by omega))]
theorem Om{S X:Type}(f:S->Option (LR S X))(T:Nat->S)(p:Nat->Bool)(yes no:X)(n:Nat)(hn:∀ i,i<n->p i=true->f (T i)=some (.next (T (i+1))))(hf:∀ i,i<n->p i=false->f (T i)=some (.done no))
  (he:f (T n)=some (.done yes)):An f (T 0)=some (bif (List.range n).all p then yes else no):=by
 cases hall:(List.range n).all p with
 | true=>
  rw[Aj];exact Jp f T yes n (fun i hi=>hn i hi (zzL33.1 hall i (zzL43.2 hi))) he
 | false=>
  rw[A0]
  have hex:∃ i,i<n/\p i=false:=by
   have:¬ ∀ i∈List.range n,p i=true:=fun h=>by rw[zzL33.2 h]at hall;cases hall
   simpa using this
  let P:Nat->Prop:=fun m=>m<n/\p m=false
  obtain⟨m,hm⟩:=hex
  have key:∀ m,m<n->p m=false->∃ k,k<n/\p k=false/\∀ j,j<k->p j=true:=by
   intro m
   induction m using Nat.strongRecOn with
   | ind m ih=>
    intro h1 h2
    by_cases h:∃ j,j<m/\p j=false
    ·obtain⟨j,hj,hpj⟩:=h;exact ih j hj (by omega) hpj
    ·refine⟨m,h1,h2,fun j hj=>?_⟩
     cases hpj:p j with
     | true=>rfl
     | false=>exact(h ⟨j,hj,hpj⟩).elim
  obtain⟨k,hk,hpk,hlt⟩:=key m hm.1 hm.2;rw[loop_seq_part f T k (fun i hi=>hn i (by omega) (hlt i hi))];exact Aq (hf k hk hpk)
theorem all_range{n:Nat}{p:Nat->Bool}:(List.range n).all p=true↔∀ i,i<n->p i=true:=by
 rw[zzL33];exact⟨fun h i hi=>h i (zzL43.2 hi),fun h i hi=>h i (zzL43.1 hi)⟩
theorem Au(i:Nat):((i:Int)).toNat=i:=Dw i
theorem w1{i:Nat}(h:i<4611686018427387904):Bb ((i:Int)+1)=((i+1:Nat):Int):=by rw[Jg (by omega) (by omega)];omega
theorem E8{i n:Nat}(h:i<n):decide (((i:Nat):Int)<((n:Nat):Int))=true:=by simpa using h
theorem I6{n:Nat}:decide (((n:Nat):Int)<((n:Nat):Int))=false:=by simp
theorem Hz{i n:Nat}(h:i<n):Bd ((i:Nat):Int) n:=A5 h
theorem inbz{x:Int}{n:Nat}(h0:0<=x)(h1:x<n):Bd x n:=⟨h0,h1⟩
structure OpOk(o:E7):Prop where
 imm:0<=o.Imm/\o.Imm<18446744073709551616
 args:o.Args.length<=200
theorem repeat_one(x:Int×Int)(n:Int)(h:n=2\/n=4\/n=8\/n=16):Bj [x] n=some (List.replicate n.toNat x):=by
 let d:Int×Int:=(0,0)
 rcases h with rfl|rfl|rfl|rfl
 ·have e:Bj [x] 2=(An B5 (1,[x,d])).bind some:=by kernel_rfl
  rw[e,Aw (s':=(2,[x,x])) (by kernel_rfl),Aq (x:=[x,x]) (by kernel_rfl)]
  rfl
 ·have e:Bj [x] 4=(An B5 (1,[x,d,d,d])).bind some:=by kernel_rfl
  rw[e,Aw (s':=(2,[x,x,d,d])) (by kernel_rfl),Aw (s':=(4,[x,x,x,x])) (by kernel_rfl),Aq (x:=[x,x,x,x]) (by kernel_rfl)]
  rfl
 ·have e:Bj [x] 8=(An B5 (1,[x,d,d,d,d,d,d,d])).bind some:=by kernel_rfl
  rw[e,Aw (s':=(2,[x,x,d,d,d,d,d,d])) (by kernel_rfl),Aw (s':=(4,[x,x,x,x,d,d,d,d])) (by kernel_rfl),Aw (s':=(8,[x,x,x,x,x,x,x,x])) (by kernel_rfl),
   Aq (x:=[x,x,x,x,x,x,x,x]) (by kernel_rfl)]
  rfl
 ·have e:Bj [x] 16=(An B5 (1,[x,d,d,d,d,d,d,d,d,d,d,d,d,d,d,d])).bind some:=by kernel_rfl
  rw[e,Aw (s':=(2,[x,x,d,d,d,d,d,d,d,d,d,d,d,d,d,d])) (by kernel_rfl),Aw (s':=(4,[x,x,x,x,d,d,d,d,d,d,d,d,d,d,d,d])) (by kernel_rfl),
   Aw (s':=(8,[x,x,x,x,x,x,x,x,d,d,d,d,d,d,d,d])) (by kernel_rfl),Aw (s':=(16,List.replicate 16 x)) (by kernel_rfl),Aq (x:=List.replicate 16 x) (by kernel_rfl)]
  rfl
theorem kind_row(l:List (Int×Int)):Fp l=some l:=rfl
theorem kind_takes(o:E7)(hs:Xz o.Bits o.Lanes=true)(hk:isK o.Kind=true)(hf:Yj o.Kind o.Bits o.Lanes=true):Kf o=some (Xd o):=by
 have hl:=Pz hs;obtain⟨k,b,n,d,args,i⟩:=o;simp only at hs hk hf hl ⊢;rcases kinds k with rfl|rfl|rfl|rfl|rfl|rfl|rfl|rfl|rfl|rfl|rfl|rfl|rfl|rfl|rfl|rfl|rfl|rfl|rfl|rfl|rfl|rfl|rfl|h
 case inr.inr.inr.inr.inr.inr.inr.inr.inr.inr.inr.inr.inr.inr.inr.inr.inr.inr.inr.inr.inr.inl=>
  have h1:n≠1:=by rintro rfl;simp[Yj]at hf
  have h4:n=2\/n=4\/n=8\/n=16:=by omega
  unfold Kf;rw[show(((21:Int))==21)=true from rfl];simp only[repeat_one _ _ h4,kind_row,Ax];rcases h4 with rfl|rfl|rfl|rfl<;>rfl
 all_goals first
  | rfl
  | (rw[isK_out h]at hk;cases hk)
  | (rcases hl with rfl|rfl|rfl|rfl|rfl<;>first|rfl|(simp[Yj]at hf))
theorem kind_argsFit(o:E7)(hs:Xz o.Bits o.Lanes=true)(hk:isK o.Kind=true)(hf:Yj o.Kind o.Bits o.Lanes=true)(hl:o.Args.length<=200):Jt o=some (((o.Args.length:Int)==Oy o.Kind o.Lanes)&&o.Args.all valS):=by
 unfold Jt;rw[kind_takes o hs hk hf]
 have hn:0<=Oy o.Kind o.Lanes:=by
  have:=Pz hs;unfold Oy
  cases(o.Kind==0)<;>cases(o.Kind==13 || o.Kind==18 || o.Kind==19)<;>cases(o.Kind==14 || o.Kind==15 || o.Kind==16 || o.Kind==22)<;>cases(o.Kind==20)<;>cases(o.Kind==21)<;>simp<;>omega
 have hlen:((Xd o).length:Int)=Oy o.Kind o.Lanes:=by simp[Xd];omega
 simp only[Ax,hlen]
 by_cases he:(o.Args.length:Int)=Oy o.Kind o.Lanes
 ·have e1:((o.Args.length:Int)==Oy o.Kind o.Lanes)=true:=by simpa using he
  have e2:((o.Args.length:Int)!=Oy o.Kind o.Lanes)=false:=by simpa using he
  rw[e1,e2,A0]
  have hloop:=T7 o.Args (0:Int) valS (Gj o) (.inl ()) (.inr false) (fun i hi hp=>by
    unfold Gj
    have:decide ((i:Int)<(o.Args.length:Int))=true:=by simpa using hi
    simp only[this,Aj,Am (A5 hi),Dw,Ry,Ax,hp,E6,A0,Fk hi (by omega)]) (fun i hi hp=>by
    unfold Gj
    have:decide ((i:Int)<(o.Args.length:Int))=true:=by simpa using hi
    simp only[this,Aj,Am (A5 hi),Dw,Ry,Ax,hp,Mp]) (by
    unfold Gj
    simp) o.Args.length 0 (by omega)
  rw[show(0:Int)=((0:Nat):Int) from rfl,hloop,N6]
  cases o.Args.all valS<;>rfl
 ·have e1:((o.Args.length:Int)==Oy o.Kind o.Lanes)=false:=by simpa using he
  have e2:((o.Args.length:Int)!=Oy o.Kind o.Lanes)=true:=by simpa using he
  rw[e1,e2];rfl
theorem gives_zero{k b n:Int}(hs:Xz b n=true):((Zc k b n).1==0)=(k==17 || k==19):=by
 have hb:(b==0)=false:=by
  have:=width_cases (Aa9 hs);simp;omega
 unfold Zc
 cases(k==17 || k==19)<;>cases(k==10 || k==11 || k==12)<;>cases(k==22)<;>simp_all
theorem kind_dstFits(o:E7)(hs:Xz o.Bits o.Lanes=true):Ju o=some (dstS o.Kind o.Dst):=by
 unfold Ju;simp only[kind_gives,Ax,gives_zero hs,Ry,dstS]
 cases(o.Kind==17 || o.Kind==19)<;>rfl
theorem kind_May(o:E7)(ho:OpOk o):Lj o=some (Mo o):=by
 unfold Lj Mo;simp only[kind_isKind,kind_Shape,kind_shapeFits,Ax]
 cases hs:Xz o.Bits o.Lanes with
 | false=>cases isK o.Kind<;>rfl
 | true=>
  have hl:=Pz hs
  cases hk:isK o.Kind with
  | false=>rfl
  | true=>
   rw[kind_immFits o (Aa9 hs) (by omega) ho.imm];simp only[kind_dstFits o hs]
   cases hf:Yj o.Kind o.Bits o.Lanes with
   | false=>rfl
   | true=>
    rw[kind_argsFit o hs hk hf ho.args]
    generalize ifitS o.Kind o.Bits o.Lanes o.Imm=p
    generalize ((o.Args.length:Int)==Oy o.Kind o.Lanes)=q
    generalize o.Args.all valS=r
    generalize dstS o.Kind o.Dst=s
    cases p<;>cases q<;>cases r<;>cases s<;>rfl
theorem may_all{o:E7}(h:Mo o=true):Xz o.Bits o.Lanes=true/\isK o.Kind=true/\Yj o.Kind o.Bits o.Lanes=true/\ifitS o.Kind o.Bits o.Lanes o.Imm=true/\(o.Args.length:Int)=Oy o.Kind o.Lanes/\o.Args.all valS=true/\dstS o.Kind o.Dst=true:=by
 simp only[Mo,A7,zzL59]at h;exact⟨h.1.1,h.1.2.1.1.1,h.1.2.1.1.2,h.1.2.1.2,h.1.2.2,h.2.1,h.2.2⟩
theorem kind_Takes(o:E7)(ho:OpOk o):Kd o=some (bif Mo o then Xd o else[]):=by
 unfold Kd;rw[kind_May o ho];simp only[Ax]
 cases hm:Mo o with
 | false=>rfl
 | true=>
  obtain⟨h1,h2,h3,_⟩:=may_all hm;simp only[kind_takes o h1 h2 h3,Ax]
  rfl
theorem kind_Gives(o:E7)(ho:OpOk o):Kc o=some (bif Mo o then Zc o.Kind o.Bits o.Lanes else(0,0)):=by
 unfold Kc;rw[kind_May o ho];simp only[Ax,kind_gives]
 cases Mo o<;>rfl
theorem wf_u64{n:Int}(h:(Lit.int .u64 n).wf=true):0<=n/\n<18446744073709551616:=by simp[Lit.wf,IntKind.min,IntKind.max,IntKind.bits,IntKind.signed]at h;omega
abbrev Iall(w:World):Nat->Nat->Prop:=fun b o=>∃ u,w.cell? ⟨b,o,none⟩=some u
structure CRep(w:World)(cs:List Value)(avs:List AV):Prop where
 len:cs.length=avs.length
 one:∀ j,j<avs.length->(cs.getD j undef).oneCell'=true
 rep:∀ j,j<avs.length->RepV (Iall w) w (cs.getD j undef) (avs.getD j .any)
structure Opens(P:Program)(t:TypeId){α:Type}(e:α->List AV)(ok:α->Prop):Prop where
 get:∀{H:Type} {enc:TypeId×Value->H} {w:World} {base:Nat} {spare:Nat->Bool} {held:Bool} {fuel:Nat} {cs:List Value} {x:DataW H×List MemPlace},
  DataW.trod enc P w base spare held fuel t cs=some x->∃ a,ok a/\CRep w cs (e a)
theorem crep_one{w:World}{v:Value}{x:AV}(h1:v.oneCell'=true)(h:RepV (Iall w) w v x):CRep w [v] [x]:=
 ⟨rfl,fun j hj=>(by
   have hj0:j=0:=by simpa using hj
   subst hj0
   exact h1),fun j hj=>(by
   have hj0:j=0:=by simpa using hj
   subst hj0
   exact h)⟩
theorem opens_int{P:Program}{t:TypeId}{k:IntKind}{e:Int->List AV}(ht:P.underlying t=some (.int k))(he:∀ n,e n=[.int k n]):Opens P t e (fun n=>(Lit.int k n).wf=true):=by
 refine⟨?_⟩;intro H enc w base spare held fuel cs x h;obtain⟨n,rfl,rfl,hw⟩:=DataW.trod_int ht h;exact⟨n,hw,by rw[he];exact crep_one rfl (.int _ _)⟩
theorem cells?_get{w:World}{base:Nat}{a:Addr}{n:Nat}{cs:List Value}(h:w.cells? base a n=some cs):cs.length=n/\∀ i,i<n->w.cell? (a.add i)=some (cs.getD i undef):=by
 unfold World.cells? at h
 split at h
 ·have hl:=mapM_some_length h;simp at hl;refine⟨hl,fun i hi=>?_⟩;have:=mapM_some_get h i i (by simp[hi]);rw[this];simp[List.getD,show i<cs.length by omega]
 ·cases h
theorem Pu{P:Program}{t el:TypeId}{α:Type}{e:α->List AV}{ok:α->Prop}{sz:Nat}{d:α}{e':List α->List AV}(ht:P.underlying t=some (.slice el))(hs:P.cellsOf el=sz)(h1:1<=sz)(he:Opens P el e ok)(hlen:∀ a,(e a).length=sz)
  (he':∀ l,e' l=[AV.list sz e d l .none]):Opens P t e' (fun l=>(∀ a∈l,ok a)/\l.length<=maxLen):=by
 refine⟨?_⟩;intro H enc w base spare held fuel cs x h;rcases DataW.trod_slice ht h with⟨rfl,rfl⟩|⟨a,len,cap,elems,rest,n,_,rfl,rfl,hb,hl,hm,hlen2,hel,_⟩
 ·exact⟨[],⟨by simp,by simp⟩,by rw[he'];exact crep_one rfl (.slice none 0 0 sz _ (fun _=>undef) (zzL8 _) (by simp) (fun h=>by simp at h) (fun _=>rfl) (fun j hj=>by simp at hj) (fun i hi=>by simp at hi) (fun i c hi=>by simp at hi))⟩
 ·have each:∀ i:Fin len,∃ b,ok b/\∃ cs,w.cells? base (a.add (i.1*sz)) sz=some cs/\CRep w cs (e b):=fun⟨i,hi⟩=>by
   have:=hel i hi;rw[hs,Nn (by omega),zzL112]at this;obtain⟨cs,hcs,htr⟩:=this;obtain⟨b,hb,hr⟩:=he.get htr;exact⟨b,hb,cs,hcs,hr⟩
  let f:Fin len->α:=fun i=>(each i).choose
  have hf:∀ i,ok (f i)/\∃ cs,w.cells? base (a.add (i.1*sz)) sz=some cs/\CRep w cs (e (f i)):=fun i=>(each i).choose_spec
  have hlf:(List.ofFn f).length=len:=by simp
  refine⟨List.ofFn f,⟨fun b hb=>?_,by simp;omega⟩,?_⟩
  ·obtain⟨i,rfl⟩:=List.mem_ofFn.1 hb;exact(hf i).1
  rw[he'];refine crep_one rfl ?_
  have hcell0:∀ i (hi:i<len),∀ c,c<sz->∃ u,w.cell? ((a.add (i*sz)).add c)=some u/\u.oneCell'=true/\RepV (Iall w) w u ((e (f ⟨i,hi⟩)).getD c .any):=fun i hi c hc=>by
   obtain⟨_,cs,hcs,hr⟩:=hf ⟨i,hi⟩;obtain⟨hl,hg⟩:=cells?_get hcs;exact⟨_,hg c hc,hr.one c (by rw[hlen];exact hc),hr.rep c (by rw[hlen];exact hc)⟩
  have hspot:0<len->a.spot=none:=fun hp=>by
   obtain⟨u,hu,_⟩:=hcell0 0 hp 0 h1;have h2:=World.cell?_spot hu
   simpa [Addr.add] using h2
  have hcell:∀ i (hi:i<len),∀ c,c<sz->∃ u,w.cell? ⟨a.block,a.off+(i*sz+c),none⟩=some u/\u.oneCell'=true/\RepV (Iall w) w u ((e (f ⟨i,hi⟩)).getD c .any):=fun i hi c hc=>by
   obtain⟨u,hu,h1,h2⟩:=hcell0 i hi c hc;have hsp:=hspot (by omega);rw[I5 hsp,Ls]at hu;exact⟨u,by rw[<- K2];exact hu,h1,h2⟩
  have hdm:∀ j,j<len*sz->∃ i c,i<len/\c<sz/\j=i*sz+c:=fun j hj=>by
   refine⟨j / sz,j % sz,(Z0 (by omega)).2 hj,Sp _ (by omega),?_⟩;rw[Sn];exact(Ux j sz).symm
  unfold AV.list;rw[hlf];refine .slice (some a) len cap sz _ (fun j=>(w.cell? ⟨a.block,a.off+j,none⟩).getD undef) hl hm (fun hp=>⟨a,rfl,hspot hp,fun j hj=>?_,fun j hj=>?_⟩) (fun h=>by cases h) (fun j hj=>?_) (fun i hi=>hlen _) (fun i c hi hc=>?_)
  ·obtain⟨i,c,hi,hc,rfl⟩:=hdm j hj;obtain⟨u,hu,_⟩:=hcell i hi c hc;exact⟨u,hu⟩
  ·obtain⟨i,c,hi,hc,rfl⟩:=hdm j hj;obtain⟨u,hu,_⟩:=hcell i hi c hc;rw[hu];rfl
  ·obtain⟨i,c,hi,hc,rfl⟩:=hdm j hj;obtain⟨u,hu,h1,_⟩:=hcell i hi c hc;simp only[hu];exact h1
  ·obtain⟨u,hu,_,h2⟩:=hcell i hi c hc
   have e1:(List.ofFn f).getD i d=f ⟨i,hi⟩:=by simp[List.getD,hi]
   rw[e1,hu];exact h2
structure OpensF(P:Program)(fs:List Field)(off N:Nat){α:Type}(e:α->List AV)(ok:α->Prop):Prop where
 get:∀{H:Type} {enc:TypeId×Value->H} {w:World} {base:Nat} {spare:Nat->Bool} {held:Bool} {n:Nat} {cs:List Value},cs.length=N->
  (∀ f∈fs,∃ x,DataW.trod enc P w base spare held n f.type ((cs.drop f.offset).take (P.cellsOf f.type))=some x)->∃ a,ok a/\CRep w (cs.drop off) (e a)
theorem O6{P:Program}{N:Nat}:OpensF P [] N N (fun _:Unit=>[]) (fun _=>True):=by
 refine⟨?_⟩;intro H enc w base spare held n cs hN _;rw[List.drop_eq_nil_of_le (by omega)];exact⟨(),trivial,rfl,(fun j hj=>by simp at hj),(fun j hj=>by simp at hj)⟩
theorem Cg{P:Program}{f:Field}{fs:List Field}{off sz N:Nat}{α β:Type}{e:α->List AV}{ok:α->Prop}{e':β->List AV}{ok':β->Prop}(hoff:f.offset=off)(hsz:P.cellsOf f.type=sz)(hle:off+sz<=N)
  (h:Opens P f.type e ok) (h':OpensF P fs (off+sz) N e' ok'):OpensF P (f::fs) off N (fun p:α×β=>e p.1++e' p.2) (fun p=>ok p.1/\ok' p.2):=by
 refine⟨?_⟩;intro H enc w base spare held n cs hN hall;obtain⟨x,hx⟩:=hall f (by simp);rw[hoff,hsz]at hx;obtain⟨a,ha,hr⟩:=h.get hx;obtain⟨b,hb,hr'⟩:=h'.get hN (fun g hg=>hall g (by simp[hg]))
 have hl:(e a).length=sz:=by rw[<- hr.len];simp;omega
 have hl':(e' b).length=N-(off+sz):=by rw[<- hr'.len];simp;omega
 have hsplit:cs.drop off=(cs.drop off).take sz++cs.drop (off+sz):=by rw[<- List.drop_drop];exact(List.take_append_drop sz _).symm
 have hl2:((cs.drop off).take sz).length=sz:=by simp;omega
 refine⟨(a,b),⟨ha,hb⟩,?_,fun j hj=>?_,fun j hj=>?_⟩
 ·simp[hl,hl'];omega
 ·rw[hsplit];replace hj:j<(e a++e' b).length:=hj
  show _
  by_cases hlt:j<sz
  ·have:=hr.one j (by omega);rwa[List.getD,Mk (by omega)]
  ·have:=hr'.one (j-sz) (by simp at hj;omega);rwa[List.getD,P2 (by omega),hl2]
 ·rw[hsplit];replace hj:j<(e a++e' b).length:=hj
  show RepV (Iall w) w _ ((e a++e' b).getD j .any)
  by_cases hlt:j<sz
  ·have:=hr.rep j (by omega);rwa[List.getD,Mk (by omega),List.getD,Mk (by omega)]
  ·have:=hr'.rep (j-sz) (by simp at hj;omega);rwa[List.getD,P2 (by omega),hl2,List.getD,P2 (by omega),hl]
theorem Md{P:Program}{t:TypeId}{fs:Array Field}{N:Nat}{α:Type}{e:α->List AV}{ok:α->Prop}(ht:P.underlying t=some (.struct fs))(hN:P.cellsOf t=N)(h:OpensF P fs.toList 0 N e ok):Opens P t e ok:=by
 refine⟨?_⟩;intro H enc w base spare held fuel cs x hx;obtain⟨xs,n,_,_,hl,hxl,hall⟩:=DataW.trod_struct ht hx
 have:=h.get (n:=n) (hl.trans hN) (enc:=enc) (w:=w) (base:=base) (spare:=spare) (held:=held) (fun f hf=>by
  obtain⟨i,hi,rfl⟩:=List.mem_iff_getElem.1 hf
  have hi':i<fs.size:=by simpa using hi
  have:=hall i fs.toList[i] (by simp[hi']);rw[Nn (by omega)]at this
  exact⟨_,this⟩)
 simpa using this
theorem Opens.to{P:Program}{t:TypeId}{α β:Type}{e:α->List AV}{ok:α->Prop}(h:Opens P t e ok){e':β->List AV}{ok':β->Prop}(g:α->β)(he:∀ a,e' (g a)=e a)(hok:∀ a,ok a->ok' (g a)):Opens P t e' ok':=by
 refine⟨?_⟩;intro H enc w base spare held fuel cs x hx;obtain⟨a,ha,hr⟩:=h.get hx;exact⟨g a,hok a ha,by rw[he];exact hr⟩
theorem arg_agg{P:Program}{t:TypeId}{α:Type}{e:α->List AV}{ok:α->Prop}(h:Opens P t e ok){H:Type}{enc:TypeId×Value->H}{w:World}{base:Nat}{spare:Nat->Bool}{held:Bool}{cs:Array Value}{d:DataW H}{ps:List MemPlace}
  (hd:DataW.Trod enc P w base spare held t (.agg cs) d ps):∃ a,ok a/\RepV (Iall w) w (.agg cs) (.agg (e a)):=by
 obtain⟨fuel,hf⟩:=hd;obtain⟨a,ha,hr⟩:=h.get hf;have e1:(Value.agg cs).cells.toList=cs.toList:=rfl;rw[e1]at hr
 have e2:∀ j,cs.toList.getD j undef=cs.getD j undef:=fun j=>by simp[Ko,List.getD]
 refine⟨a,ha,.agg _ _ (by simpa using hr.len) (fun j hj=>?_) (fun j hj=>?_)⟩
 ·rw[<- e2];exact hr.one j hj
 ·rw[<- e2];exact hr.rep j hj
def T8(n:Int):Prop:=(Lit.int .i64 n).wf=true
theorem op_3:Opens Tryz.prog 3 Ar T8:=opens_int Tryz.underlying3 (fun _=>rfl)
def Zo(l:List (Int)):Prop:=(∀ a∈l,T8 a)/\l.length<=maxLen
theorem op_22:Opens Tryz.prog 22 Gp Zo:=Pu (d:=(0:Int)) Tryz.underlying22 (by kernel_rfl) (by decide) op_3 (fun _=>rfl) (fun _=>rfl)
def okTPhi(a:Hg):Prop:=T8 a.Bits/\T8 a.Dst/\Zo a.From/\Zo a.Args/\True
theorem op_59:Opens Tryz.prog 59 Xu okTPhi:=Opens.to (Md (N:=4) Tryz.underlying59 (by kernel_rfl) (Cg (off:=0) (sz:=1) (N:=4) rfl (by kernel_rfl) (by decide) op_3 (Cg (off:=1) (sz:=1) (N:=4) rfl (by kernel_rfl) (by decide) op_3 (Cg (off:=2) (sz:=1) (N:=4) rfl (by kernel_rfl) (by decide) op_22 (Cg (off:=3) (sz:=1) (N:=4) rfl (by kernel_rfl) (by decide) op_22 O6))))) (fun p=>⟨p.1,p.2.1,p.2.2.1,p.2.2.2.1⟩) (fun _=>rfl) (fun _ h=>h)
def okLTPhi(l:List (Hg)):Prop:=(∀ a∈l,okTPhi a)/\l.length<=maxLen
theorem op_49:Opens Tryz.prog 49 eLTPhi okLTPhi:=Pu (d:=(default:Hg)) Tryz.underlying49 (by kernel_rfl) (by decide) op_59 (fun _=>rfl) (fun _=>rfl)
def okU64(n:Int):Prop:=(Lit.int .u64 n).wf=true
theorem op_55:Opens Tryz.prog 55 eU64 okU64:=opens_int Tryz.underlying55 (fun _=>rfl)
def okTOp(a:E7):Prop:=T8 a.Kind/\T8 a.Bits/\T8 a.Lanes/\T8 a.Dst/\Zo a.Args/\okU64 a.Imm/\True
theorem op_57:Opens Tryz.prog 57 J8 okTOp:=Opens.to (Md (N:=6) Tryz.underlying57 (by kernel_rfl) (Cg (off:=0) (sz:=1) (N:=6) rfl (by kernel_rfl) (by decide) op_3 (Cg (off:=1) (sz:=1) (N:=6) rfl (by kernel_rfl) (by decide) op_3 (Cg (off:=2) (sz:=1) (N:=6) rfl (by kernel_rfl) (by decide) op_3 (Cg (off:=3) (sz:=1) (N:=6) rfl (by kernel_rfl) (by decide) op_3 (Cg (off:=4) (sz:=1) (N:=6) rfl (by kernel_rfl) (by decide) op_22 (Cg (off:=5) (sz:=1) (N:=6) rfl (by kernel_rfl) (by decide) op_55 O6))))))) (fun p=>⟨p.1,p.2.1,p.2.2.1,p.2.2.2.1,p.2.2.2.2.1,p.2.2.2.2.2.1⟩) (fun _=>rfl) (fun _ h=>h)
def okLTOp(l:List (E7)):Prop:=(∀ a∈l,okTOp a)/\l.length<=maxLen
theorem op_33:Opens Tryz.prog 33 eLTOp okLTOp:=Pu (d:=(default:E7)) Tryz.underlying33 (by kernel_rfl) (by decide) op_57 (fun _=>rfl) (fun _=>rfl)
def okTEnd(a:I4):Prop:=T8 a.Kind/\T8 a.Arg/\Zo a.To/\True
theorem op_51:Opens Tryz.prog 51 eTEnd okTEnd:=Opens.to (Md (N:=3) Tryz.underlying51 (by kernel_rfl) (Cg (off:=0) (sz:=1) (N:=3) rfl (by kernel_rfl) (by decide) op_3 (Cg (off:=1) (sz:=1) (N:=3) rfl (by kernel_rfl) (by decide) op_3 (Cg (off:=2) (sz:=1) (N:=3) rfl (by kernel_rfl) (by decide) op_22 O6)))) (fun p=>⟨p.1,p.2.1,p.2.2.1⟩) (fun _=>rfl) (fun _ h=>h)
def okTBlock(a:Ad):Prop:=okLTPhi a.Phis/\okLTOp a.Ops/\okTEnd a.End/\True
theorem op_53:Opens Tryz.prog 53 Gg okTBlock:=Opens.to (Md (N:=5) Tryz.underlying53 (by kernel_rfl) (Cg (off:=0) (sz:=1) (N:=5) rfl (by kernel_rfl) (by decide) op_49 (Cg (off:=1) (sz:=1) (N:=5) rfl (by kernel_rfl) (by decide) op_33 (Cg (off:=2) (sz:=3) (N:=5) rfl (by kernel_rfl) (by decide) op_51 O6)))) (fun p=>⟨p.1,p.2.1,p.2.2.1⟩) (fun _=>rfl) (fun _ h=>h)
def okLTBlock(l:List (Ad)):Prop:=(∀ a∈l,okTBlock a)/\l.length<=maxLen
theorem op_23:Opens Tryz.prog 23 eLTBlock okLTBlock:=Pu (d:=(default:Ad)) Tryz.underlying23 (by kernel_rfl) (by decide) op_53 (fun _=>rfl) (fun _=>rfl)
def okTFunc(a:TFunc):Prop:=Zo a.Params/\T8 a.Ret/\okLTBlock a.Blocks/\True
theorem op_25:Opens Tryz.prog 25 eTFunc okTFunc:=Opens.to (Md (N:=3) Tryz.underlying25 (by kernel_rfl) (Cg (off:=0) (sz:=1) (N:=3) rfl (by kernel_rfl) (by decide) op_22 (Cg (off:=1) (sz:=1) (N:=3) rfl (by kernel_rfl) (by decide) op_3 (Cg (off:=2) (sz:=1) (N:=3) rfl (by kernel_rfl) (by decide) op_23 O6)))) (fun p=>⟨p.1,p.2.1,p.2.2.1⟩) (fun _=>rfl) (fun _ h=>h)
def numB(n:Int):Bool:=decide (0<=n)&&decide (n<=2147483647)
def Nb(l:List Int):Bool:=l.all numB&&decide (l.length<=64)
def phiB(p:Hg):Bool:=numB p.Bits&&numB p.Dst&&Nb p.From&&Nb p.Args
def opB(o:E7):Bool:=numB o.Kind&&numB o.Bits&&numB o.Lanes&&numB o.Dst&&Nb o.Args
def endB(e:I4):Bool:=numB e.Kind&&numB e.Arg&&Nb e.To
def blockB(b:Ad):Bool:=b.Phis.all phiB&&b.Ops.all opB&&endB b.End
def sizeB(b:Ad):Nat:=b.Phis.length+b.Ops.length+1
def P0(f:TFunc):Nat:=(f.Blocks.map sizeB).sum
def sizeW(f:TFunc):Int:=Bb (P0 f)
def Tf(f:TFunc):Bool:=decide (1<=f.Blocks.length)&&decide (f.Blocks.length<=64)&&decide (f.Params.length<=16)&&Nb f.Params&&numB f.Ret&&decide (sizeW f<=512)&&f.Blocks.all blockB
def entP(p:Hg):Nat:=1+p.From.length+p.Args.length
def entO(o:E7):Nat:=1+o.Args.length
def entB(b:Ad):Nat:=1+b.End.To.length+(b.Phis.map entP).sum+(b.Ops.map entO).sum
def entF(f:TFunc):Nat:=f.Params.length+(f.Blocks.map entB).sum
theorem Zj:maxLen=9223372036854775807:=rfl
structure InF(f:TFunc):Prop where
 params:f.Params.length<=maxLen
 blocks:f.Blocks.length<=maxLen
 block:∀ b∈f.Blocks,b.Phis.length<=maxLen/\b.Ops.length<=maxLen/\b.End.To.length<=maxLen
 phi:∀ b∈f.Blocks,∀ p∈b.Phis,p.From.length<=maxLen/\p.Args.length<=maxLen
 op:∀ b∈f.Blocks,∀ o∈b.Ops,o.Args.length<=maxLen/\0<=o.Imm/\o.Imm<18446744073709551616
theorem inF{f:TFunc}(h:okTFunc f):InF f:=
 ⟨h.1.2,h.2.2.1.2,fun b hb=>⟨(h.2.2.1.1 b hb).1.2,(h.2.2.1.1 b hb).2.1.2,(h.2.2.1.1 b hb).2.2.1.2.2.1.2⟩,fun b hb p hp=>⟨((h.2.2.1.1 b hb).1.1 p hp).2.2.1.2,((h.2.2.1.1 b hb).1.1 p hp).2.2.2.1.2⟩,
  fun b hb o ho=>⟨((h.2.2.1.1 b hb).2.1.1 o ho).2.2.2.2.1.2,wf_u64 ((h.2.2.1.1 b hb).2.1.1 o ho).2.2.2.2.2.1⟩⟩
theorem w64_nat{n:Nat}(h:n<9223372036854775808):Bb (n:Int)=n:=Jg (by omega) (by omega)
theorem Ih{i n:Nat}(h:i<n)(hn:n<=maxLen):Bb ((i:Int)+1)=((i+1:Nat):Int):=by rw[Zj]at hn;rw[show((i:Int)+1)=((i+1:Nat):Int) by omega,w64_nat (by omega)]
theorem small_some(f:TFunc)(hf:InF f):∃ b,Cb f=some b:=by
 have h3:∃ x,An (Bm f) ((f.Params.length:Int),((0:Nat):Int))=some x:=by
  refine Ot f.Blocks.length (Bm f) (fun n i hi=>?_) (fun n=>?_) f.Blocks.length 0 _ (Fl _)
  ·have hmem:=A8 (d:=(default:Ad)) hi;obtain⟨b1,b2,_⟩:=hf.block _ hmem;have hI:Bd (i:Int) f.Blocks.length:=A5 hi;unfold Bm
   cases hc:(bif decide ((i:Int)<(f.Blocks.length:Int)) then decide (n<=20000) else false) with
   | false=>right;simp only[hc,A0];exact⟨_,rfl⟩
   | true=>
    left
    simp only[hc,Aj,Am hI]
    obtain⟨x1,h1⟩:=Ot (f.Blocks.getD i default).Phis.length (B1 f i) (fun n j hj=>by
      unfold B1;simp only[Am hI,Dw]
      cases hc:(bif decide ((j:Int)<((f.Blocks.getD i default).Phis.length:Int)) then decide (n<=20000) else false) with
      | false=>right;exact⟨_,rfl⟩
      | true=>left;simp only[Aj,Am (A5 hj),Ih hj b1];exact⟨_,rfl⟩) (fun n=>by
      unfold B1;simp only[Am hI,Dw]
      have:decide (((f.Blocks.getD i default).Phis.length:Int)<((f.Blocks.getD i default).Phis.length:Int))=false:=by simp
      simp only[this,A0];exact⟨_,rfl⟩) _ 0 (Bb (Bb (n+1)+((f.Blocks.getD i default).End.To.length:Int))) (Fl _)
    obtain⟨x2,h2⟩:=Ot (f.Blocks.getD i default).Ops.length (B2 f i) (fun n j hj=>by
      unfold B2;simp only[Am hI,Dw]
      cases hc:(bif decide ((j:Int)<((f.Blocks.getD i default).Ops.length:Int)) then decide (n<=20000) else false) with
      | false=>right;exact⟨_,rfl⟩
      | true=>left;simp only[Aj,Am (A5 hj),Ih hj b2];exact⟨_,rfl⟩) (fun n=>by
      unfold B2;simp only[Am hI,Dw]
      have:decide (((f.Blocks.getD i default).Ops.length:Int)<((f.Blocks.getD i default).Ops.length:Int))=false:=by simp
      simp only[this,A0];exact⟨_,rfl⟩) _ 0 x1 (Fl _)
    rw[show((0:Nat):Int)=0 from rfl]at h1 h2;simp only[Dw,h1,h2,Ax,Ih hi hf.blocks];exact⟨_,rfl⟩
  ·unfold Bm
   have:decide ((f.Blocks.length:Int)<(f.Blocks.length:Int))=false:=by simp
   simp only[this,A0];exact⟨_,rfl⟩
 obtain⟨x,hx⟩:=h3;unfold Cb;rw[show((0:Nat):Int)=0 from rfl]at hx;rw[hx];exact⟨_,rfl⟩
theorem small_eq(f:TFunc)(hf:InF f)(h0:f.Params.length<=64)(hb:∀ b∈f.Blocks,b.End.To.length<=64/\(∀ p∈b.Phis,p.From.length<=64/\p.Args.length<=64)/\∀ o∈b.Ops,o.Args.length<=64):Cb f=some (decide (entF f<=20000)):=by
 have h3:=X1 f.Blocks (default:Ad) entB 20000 (Bm f) (fun n i hi hn=>by
   have hmem:=A8 (d:=(default:Ad)) hi;obtain⟨b1,b2,b3⟩:=hf.block _ hmem;obtain⟨hTo,hPh,hOp⟩:=hb _ hmem;have hI1:Bd (i:Int) f.Blocks.length:=A5 hi
   have l1:=X1 (f.Blocks.getD i default).Phis (default:Hg) entP 20000 (B1 f i) (fun n j hj hn=>by
     have hm:=A8 (d:=(default:Hg)) hj;obtain⟨p1,p2⟩:=hPh _ hm
     have e1:decide ((j:Int)<((f.Blocks.getD i default).Phis.length:Int))=true:=by simpa using hj
     have e2:decide ((n:Int)<=20000)=true:=by simp;omega
     refine⟨n+entP ((f.Blocks.getD i default).Phis.getD j default),?_,fun _=>rfl,fun h=>h⟩;unfold B1;simp only[Am hI1,Dw,e1,e2,Aj,Am (A5 hj),Ih hj b1]
     congr 3
     rw[Jg (n:=(n:Int)+1) (by omega) (by omega),Jg (n:=(n:Int)+1+_) (by omega) (by omega),Jg (by omega) (by omega)];simp only[entP]
     omega) (fun n j hj hd=>by
     unfold B1;simp only[Am hI1,Dw]
     have:(bif decide ((j:Int)<((f.Blocks.getD i default).Phis.length:Int)) then decide ((n:Int)<=20000) else false)=false:=by
      rcases hd with rfl|h
      ·simp
      ·simp;omega
     rw[this];rfl)
   have l2:=X1 (f.Blocks.getD i default).Ops (default:E7) entO 20000 (B2 f i) (fun n j hj hn=>by
     have hm:=A8 (d:=(default:E7)) hj;have p1:=hOp _ hm
     have e1:decide ((j:Int)<((f.Blocks.getD i default).Ops.length:Int))=true:=by simpa using hj
     have e2:decide ((n:Int)<=20000)=true:=by simp;omega
     refine⟨n+entO ((f.Blocks.getD i default).Ops.getD j default),?_,fun _=>rfl,fun h=>h⟩;unfold B2;simp only[Am hI1,Dw,e1,e2,Aj,Am (A5 hj),Ih hj b2]
     congr 3
     rw[Jg (n:=(n:Int)+1) (by omega) (by omega),Jg (by omega) (by omega)];simp only[entO]
     omega) (fun n j hj hd=>by
     unfold B2;simp only[Am hI1,Dw]
     have:(bif decide ((j:Int)<((f.Blocks.getD i default).Ops.length:Int)) then decide ((n:Int)<=20000) else false)=false:=by
      rcases hd with rfl|h
      ·simp
      ·simp;omega
     rw[this];rfl)
   have e1:decide ((i:Int)<(f.Blocks.length:Int))=true:=by simpa using hi
   have e2:decide ((n:Int)<=20000)=true:=by simp;omega
   obtain⟨m1,q1,q2,q3⟩:=l1 _ 0 (n+1+(f.Blocks.getD i default).End.To.length) (Fl _);obtain⟨m2,q4,q5,q6⟩:=l2 _ 0 m1 (Fl _);rw[N6]at q2 q3 q5 q6;refine⟨m2,?_,fun hle=>?_,fun hle=>?_⟩
   ·unfold Bm;simp only[e1,e2,Aj,Am hI1,Dw,Ih hi hf.blocks];rw[Jg (n:=(n:Int)+1) (by omega) (by omega),Jg (by omega) (by omega),show(n:Int)+1+((f.Blocks.getD i default).End.To.length:Int)=((n+1+(f.Blocks.getD i default).End.To.length:Nat):Int) by omega];rw[show((0:Nat):Int)=0 from rfl]at q1 q4;rw[q1,Ax,q4,Ax]
   ·simp only[entB]at hle ⊢;have:=q2 (by omega);rw[q5 (by omega)];omega
   ·simp only[entB];have h6:=q6 hle;have h3:=q3 (by omega);have:=q2 h3
    omega) (fun n i hi hd=>by
   unfold Bm
   have:(bif decide ((i:Int)<(f.Blocks.length:Int)) then decide ((n:Int)<=20000) else false)=false:=by
    rcases hd with rfl|h
    ·simp
    ·simp;omega
   simp only[this,A0]) f.Blocks.length 0 f.Params.length (Fl _)
 obtain⟨m,h1,h2,h4⟩:=h3;rw[N6]at h2 h4;unfold Cb;rw[show((0:Nat):Int)=0 from rfl]at h1;rw[h1,Ax]
 congr 1
 apply zzL113.2
 simp only[entF]
 constructor
 ·intro h;exact h4 (by omega)
 ·intro h;have:=h2 h;omega
theorem numB_iff{n:Int}:numB n=true↔0<=n/\n<=2147483647:=by simp[numB]
theorem listB_iff{l:List Int}:Nb l=true↔good31 l/\l.length<=64:=by
 simp[Nb,good31,numB_iff]
def wideP(n:Int):Prop:=0<=n/\n<18446744073709551616
structure OkB(b:Ad):Prop where
 may:blockB b=true
 phis:b.Phis.length<=512
 ops:b.Ops.length<=512
 imm:∀ o∈b.Ops,wideP o.Imm
structure OkF(f:TFunc):Prop where
 params:Nb f.Params=true
 few:f.Params.length<=16
 ret:numB f.Ret=true
 blocks:f.Blocks.length<=64
 block:∀ b∈f.Blocks,OkB b
theorem blockB_iff{b:Ad}:blockB b=true↔(∀ p∈b.Phis,phiB p=true)/\(∀ o∈b.Ops,opB o=true)/\endB b.End=true:=by
 simp[blockB,and_assoc]
theorem sum_le{α:Type}(l:List α)(g:α->Nat)(B:Nat)(h:∀ a∈l,g a<=B):(l.map g).sum<=l.length*B:=by
 induction l with
 | nil=>simp
 | cons a l ih=>
  have h1:=h a (by simp);have h2:=ih (fun b hb=>h b (by simp[hb]));rw[B0,Sl,U1,Dh];omega
theorem sum_mono{α:Type}(l:List α)(g k:α->Nat)(h:∀ a∈l,g a<=k a):(l.map g).sum<=(l.map k).sum:=by
 induction l with
 | nil=>simp
 | cons a l ih=>
  have h1:=h a (by simp);have h2:=ih (fun b hb=>h b (by simp[hb]));rw[B0,Sl,B0,Sl];omega
theorem len_le_sum{α:Type}(l:List α)(g:α->Nat)(h:∀ a∈l,1<=g a):l.length<=(l.map g).sum:=by
 induction l with
 | nil=>simp
 | cons a l ih=>
  have h1:=h a (by simp);have h2:=ih (fun b hb=>h b (by simp[hb]));rw[B0,Sl,U1];omega
theorem mem_le_sum{α:Type}{l:List α}{a:α}(g:α->Nat)(h:a∈l):g a<=(l.map g).sum:=by
 induction l with
 | nil=>cases h
 | cons b l ih=>
  rw[B0,Sl];rcases zzL28.1 h with rfl|h
  ·omega
  ·have:=ih h;omega
theorem OkF.size{f:TFunc}(h:OkF f):P0 f<=65600/\sizeW f=P0 f:=by
 have:P0 f<=f.Blocks.length*1025:=sum_le _ _ _ fun b hb=>by
  have h1:=(h.block b hb).phis;have h2:=(h.block b hb).ops;simp only[sizeB];omega
 have h2:=h.blocks
 have h3:P0 f<=65600:=by omega
 exact⟨h3,w64_nat (by omega)⟩
theorem Zk{f:TFunc}(h:Tf f=true):1<=f.Blocks.length/\f.Blocks.length<=64/\f.Params.length<=16/\Nb f.Params=true/\numB f.Ret=true/\sizeW f<=512/\∀ b∈f.Blocks,blockB b=true:=by
 simp only[Tf,A7,Gs,zzL33]at h;exact⟨h.1.1.1.1.1.1,h.1.1.1.1.1.2,h.1.1.1.1.2,h.1.1.1.2,h.1.1.2,h.1.2,h.2⟩
theorem may_lists{f:TFunc}(h:Tf f=true):f.Params.length<=64/\∀ b∈f.Blocks,b.End.To.length<=64/\(∀ p∈b.Phis,p.From.length<=64/\p.Args.length<=64)/\∀ o∈b.Ops,o.Args.length<=64:=by
 obtain⟨_,_,h3,_,_,_,h7⟩:=Zk h;refine⟨by omega,fun b hb=>?_⟩;obtain⟨q1,q2,q3⟩:=blockB_iff.1 (h7 b hb);simp only[endB,A7]at q3;refine⟨(listB_iff.1 q3.2).2,fun p hp=>?_,fun o ho=>?_⟩
 ·have:=q1 p hp;simp only[phiB,A7]at this;exact⟨(listB_iff.1 this.1.2).2,(listB_iff.1 this.2).2⟩
 ·have:=q2 o ho;simp only[opB,A7]at this;exact(listB_iff.1 this.2).2
theorem may_ok{f:TFunc}(hf:InF f)(h:Tf f=true)(hs:entF f<=20000):OkF f/\P0 f<=512:=by
 obtain⟨h1,h2,h3,h4,h5,h6,h7⟩:=Zk h
 have hle:P0 f<=entF f:=by
  have:P0 f<=(f.Blocks.map entB).sum:=sum_mono _ _ _ fun b hb=>by
   have q1:b.Phis.length<=(b.Phis.map entP).sum:=len_le_sum _ _ fun p hp=>by simp only[entP];omega
   have q2:b.Ops.length<=(b.Ops.map entO).sum:=len_le_sum _ _ fun p hp=>by simp only[entO];omega
   simp only[sizeB,entB];omega
  simp only[entF];omega
 have hw:sizeW f=P0 f:=w64_nat (by omega)
 have h512:P0 f<=512:=by omega
 refine⟨⟨h4,h3,h5,h2,fun b hb=>?_⟩,h512⟩;have hb512:sizeB b<=P0 f:=mem_le_sum sizeB hb;simp only[sizeB]at hb512;exact⟨h7 b hb,by omega,by omega,fun o ho=>(hf.op b hb o ho).2⟩
theorem small_parts(f:TFunc)(hf:InF f):∃ sm,Cb f=some sm/\(sm=true->Tf f=true->OkF f/\P0 f<=512/\1<=f.Blocks.length):=by
 obtain⟨sm,h⟩:=small_some f hf;refine⟨sm,h,fun h1 h2=>?_⟩;obtain⟨q1,q2⟩:=may_lists h2;rw[small_eq f hf q1 q2]at h;subst h1;obtain⟨r1,r2⟩:=may_ok hf h2 (by simpa using OI h);exact⟨r1,r2,(Zk h2).1⟩
def levMost(l:Int):Int:=bif l==0 then 17 else bif l==1 then 20 else 22
def Sg(l:Int)(o:E7):Bool:=Mo o&&!decide (levMost l<o.Kind)&&!(decide (l<2)&&decide (1<o.Lanes))
def Jm(l:Int)(b:Ad):Bool:=(b.Phis.all fun p=>E4 p.Bits)&&b.Ops.all (Sg l)
def Zy(f:TFunc)(l:Int):Bool:=f.Params.all E4&&f.Blocks.all (Jm l)&&E4 f.Ret
theorem opOk{f:TFunc}(hf:OkF f){b:Ad}(hb:b∈f.Blocks){o:E7}(ho:o∈b.Ops):OpOk o:=by
 have h1:=hf.block b hb;have h2:=(blockB_iff.1 h1.may).2.1 o ho;simp only[opB,A7]at h2;exact⟨⟨(h1.imm o ho).1,(h1.imm o ho).2⟩,by have:=(listB_iff.1 h2.2).2;omega⟩
theorem room_is:room=1099511627776:=rfl
theorem loop_flat{β:Type}(n A C:Nat)(E:Nat->List β)(hE:∀ i,i<n->(E i).length<=C)(f:List β×Int->Option (LR (List β×Int) (List β)))
  (hn:∀(acc:List β) (i:Nat),i<n->acc.length<=A+i*C->f (acc,(i:Int))=some (.next (acc++E i,(i:Int)+1)))
  (hd:∀ acc:List β,f (acc,(n:Int))=some (.done acc)):∀(k i:Nat) (acc:List β),i+k=n->acc.length<=A+i*C->An f (acc,(i:Int))=some (acc++(List.range' i k).flatMap E)
 | 0,i,acc,h,_=>by
  obtain rfl:i=n:=by omega
  rw[Aq (hd acc)]
  simp
 | k+1,i,acc,h,hA=>by
  have hi:i<n:=by omega
  have h1:=hE i hi
  have h2:acc.length+C<=A+(i+1)*C:=by rw[Dh];omega
  rw[Aw (hn acc i hi hA),show((i:Int)+1)=((i+1:Nat):Int) by omega,loop_flat n A C E hE f hn hd k (i+1) _ (by omega) (by rw[Fb];omega),U0,Abi,Aac]
theorem Jn{β:Type}(C:Nat)(E:Nat->List β):∀ l:List Nat,(∀ i∈l,(E i).length<=C)->(l.flatMap E).length<=l.length*C
 | [],_=>by simp
 | a::l,h=>by
  have h1:=h a (by simp);have h2:=Jn C E l (fun i hi=>h i (by simp[hi]));rw[Abi,Fb,U1,Dh];omega
def L1(l:List J6)(v:Int):Int:=match l.findIdx? (fun d=>d.V==v) with|some i=>(i:Int)|none=>-1
def Ns(o:E7):Int×Int:=bif Mo o then Zc o.Kind o.Bits o.Lanes else(0,0)
def Iy(o:E7):List (Int×Int):=bif Mo o then Xd o else[]
def M7(f:TFunc):List J6:=(List.range f.Params.length).flatMap fun(i:Nat)=>[⟨(i:Int)+1,-1,0,(f.Params.getD i 0,1)⟩]
def Xt(b:Ad)(i:Nat):List J6:=(List.range b.Phis.length).flatMap fun(k:Nat)=>[⟨(b.Phis.getD k default).Dst,i,-1,((b.Phis.getD k default).Bits,1)⟩]
def defsOp(b:Ad)(i:Nat):List J6:=(List.range b.Ops.length).flatMap fun(k:Nat)=>bif decide (0<(Ns (b.Ops.getD k default)).1) then[⟨(b.Ops.getD k default).Dst,i,k,Ns (b.Ops.getD k default)⟩] else[]
def Nz(b:Ad)(i:Nat):List J6:=Xt b i++defsOp b i
def B6(f:TFunc):List J6:=M7 f++(List.range f.Blocks.length).flatMap fun i=>Nz (f.Blocks.getD i default) i
theorem defsP_len(f:TFunc):(M7 f).length=f.Params.length:=by
 have h:∀ l:List Nat,(l.map fun _=>1).sum=l.length:=fun l=>by induction l with|nil=>rfl|cons a l ih=>simp[ih];omega
 simp[M7,List.length_flatMap,h]
def Nm(p:Hg):List Qp:=(List.range p.Args.length).flatMap fun(j:Nat)=>[⟨p.Args.getD j 0,p.From.getD j 0,1000,(p.Bits,1)⟩]
def Vt(b:Ad):List Qp:=(List.range b.Phis.length).flatMap fun(k:Nat)=>Nm (b.Phis.getD k default)
def P1(o:E7)(i k:Nat):List Qp:=(List.range (Iy o).length).flatMap fun(j:Nat)=>[⟨o.Args.getD j 0,i,k,(Iy o).getD j (0,0)⟩]
def usesOp(b:Ad)(i:Nat):List Qp:=(List.range b.Ops.length).flatMap fun(k:Nat)=>P1 (b.Ops.getD k default) i k
def Ym(f:TFunc)(b:Ad)(i:Nat):List Qp:=(bif b.End.Kind==0 then[⟨b.End.Arg,i,1000,(f.Ret,1)⟩] else[])++(bif b.End.Kind==2 then[⟨b.End.Arg,i,1000,(1,1)⟩] else[])
def usesB(f:TFunc)(b:Ad)(i:Nat):List Qp:=Vt b++usesOp b i++Ym f b i
def Hd(f:TFunc):List Qp:=(List.range f.Blocks.length).flatMap fun(i:Nat)=>usesB f (f.Blocks.getD i default) i
theorem takesO_len{o:E7}(h:o.Args.length<=64):(Iy o).length<=64/\(Iy o).length<=o.Args.length:=by
 unfold Iy
 cases hm:Mo o with
 | false=>simp
 | true=>
  simp only[Aj]
  have:((o.Args.length:Int)==Oy o.Kind o.Lanes)=true:=by
   simp only[Mo,A7]at hm;exact hm.1.2.2
  have h2:(o.Args.length:Int)=Oy o.Kind o.Lanes:=by simpa using this
  have h3:(Xd o).length=o.Args.length:=by rw[Xd,S8,Aae,<- h2,Dw]
  omega
theorem ok_phi{f:TFunc}(hf:OkF f){b:Ad}(hb:b∈f.Blocks){p:Hg}(hp:p∈b.Phis):p.From.length<=64/\p.Args.length<=64:=by
 have:=(blockB_iff.1 (hf.block b hb).may).1 p hp;simp only[phiB,A7]at this;exact⟨(listB_iff.1 this.1.2).2,(listB_iff.1 this.2).2⟩
theorem ok_op{f:TFunc}(hf:OkF f){b:Ad}(hb:b∈f.Blocks){o:E7}(ho:o∈b.Ops):o.Args.length<=64:=by
 have:=(blockB_iff.1 (hf.block b hb).may).2.1 o ho;simp only[opB,A7]at this;exact(listB_iff.1 this.2).2
theorem usesPhi1_len(p:Hg):(Nm p).length<=p.Args.length:=by
 have:=Jn 1 (fun(j:Nat)=>[(⟨p.Args.getD j 0,p.From.getD j 0,1000,(p.Bits,1)⟩:Qp)]) (List.range p.Args.length) (fun _ _=>zzL8 _)
 simpa [Nm] using this
theorem usesOp1_len(o:E7)(i k:Nat):(P1 o i k).length<=(Iy o).length:=by
 have:=Jn 1 (fun(j:Nat)=>[(⟨o.Args.getD j 0,i,k,(Iy o).getD j (0,0)⟩:Qp)]) (List.range (Iy o).length) (fun _ _=>zzL8 _)
 simpa [P1] using this
theorem usesPhi_len{f:TFunc}(hf:OkF f){b:Ad}(hb:b∈f.Blocks):(Vt b).length<=32768:=by
 have:=Jn 64 (fun(k:Nat)=>Nm (b.Phis.getD k default)) (List.range b.Phis.length) (fun k hk=>by
  have h1:=usesPhi1_len (b.Phis.getD k default);have h2:=(ok_phi hf hb (A8 (d:=(default:Hg)) (by simpa using hk))).2
  omega)
 have h3:=(hf.block b hb).phis;rw[Aae]at this;have h4:b.Phis.length*64<=512*64:=Eb _ h3;rw[Vt];omega
theorem usesOp_len{f:TFunc}(hf:OkF f){b:Ad}(hb:b∈f.Blocks)(i:Nat):(usesOp b i).length<=32768:=by
 have:=Jn 64 (fun(k:Nat)=>P1 (b.Ops.getD k default) i k) (List.range b.Ops.length) (fun k hk=>by
  have h1:=usesOp1_len (b.Ops.getD k default) i k;have h2:=(takesO_len (ok_op hf hb (A8 (d:=(default:E7)) (by simpa using hk)))).1
  omega)
 have h3:=(hf.block b hb).ops;rw[Aae]at this;have h4:b.Ops.length*64<=512*64:=Eb _ h3;rw[usesOp];omega
theorem usesEnd_len(f:TFunc)(b:Ad)(i:Nat):(Ym f b i).length<=2:=by
 unfold Ym
 cases b.End.Kind==0<;>cases b.End.Kind==2<;>simp
theorem usesB_len{f:TFunc}(hf:OkF f){i:Nat}(hi:i<f.Blocks.length):(usesB f (f.Blocks.getD i default) i).length<=70000:=by
 have hmem:=A8 (d:=(default:Ad)) hi;have h1:=usesPhi_len hf hmem;have h2:=usesOp_len hf hmem i;have h3:=usesEnd_len f (f.Blocks.getD i default) i;rw[usesB,Fb,Fb];omega
theorem usesF_len{f:TFunc}(hf:OkF f):(Hd f).length<=4480000:=by
 have h1:=Jn 70000 (fun(i:Nat)=>usesB f (f.Blocks.getD i default) i) (List.range f.Blocks.length) (fun i hi=>usesB_len hf (by simpa using hi));have h4:=hf.blocks;rw[Aae]at h1;have:f.Blocks.length*70000<=64*70000:=Eb _ h4;rw[Hd];omega
def phisFit(f:TFunc):Prop:=∀ b∈f.Blocks,∀ p∈b.Phis,p.Args.length<=p.From.length
def okAt(n:Nat)(l:List Int)(i:Nat):Bool:=decide ((if i=0 then(-1:Int) else l.getD (i-1) 0)<l.getD i 0)&&(decide (0<=l.getD i 0)&&decide (l.getD i 0<n))
def okL(n:Nat)(l:List Int):Bool:=(List.range l.length).all (okAt n l)
def G4(L:List (List Int)):Bool:=decide (1<=L.length)&&decide (L.length<=64)&&(List.range L.length).all fun i=>okL L.length (L.getD i [])
def T3(L:List (List Int))(k i:Nat):Bool:=(L.getD k []).contains (i:Int)
def Ix(L:List (List Int))(m i:Nat):List Int:=((List.range m).filter fun k=>T3 L k i).map Int.ofNat
def A4(L:List (List Int)):List (List Int):=(List.range L.length).map (Ix L L.length)
theorem Qs(a n:Int):Gm a n=some (decide (0<=a)&&decide (a<n)):=by
 unfold Gm
 cases decide ((0:Int)<=a)<;>rfl
theorem m_isCount(n:Nat):Ho (n:Int)=some (decide (1<=n)&&decide (n<=64)):=by
 unfold Ho
 have h1:decide ((1:Int)<=(n:Int))=decide (1<=n):=by apply zzL113.2;omega
 have h2:decide ((n:Int)<=(64:Int))=decide (n<=64):=by apply zzL113.2;omega
 rw[h1,h2]
 cases decide (1<=n)<;>rfl
theorem succMay_L1(L:List (List Int))(i:Nat)(hl:(L.getD i []).length<4611686018427387904) :
  An (Ci L (i:Int)) ((-1:Int),(0:Int))=some (bif okL L.length (L.getD i []) then .inl () else .inr false):=by
 refine Om (Ci L (i:Int)) (fun j=>((if j=0 then(-1:Int) else(L.getD i []).getD (j-1) 0),((j:Nat):Int))) (okAt L.length (L.getD i [])) (.inl ()) (.inr false) _ (fun j hj hp=>?_) (fun j hj hp=>?_) ?_
 ·unfold okAt at hp;simp only[A7,Gs]at hp;obtain⟨h1,h2,h3⟩:=hp
  show Ci L (i:Int) (_,_)=_
  unfold Ci;simp only[Au,E8 hj,Aj,Qs];rw[Ae (Hz hj)]
  have e1:decide ((L.getD i []).getD j 0<=(if j=0 then(-1:Int) else(L.getD i []).getD (j-1) 0))=false:=by simpa using h1
  simp only[e1,Fu h2,Fu h3,Aaf,Rd,Aj,A0,Ax,E6];rw[w1 (show j<4611686018427387904 by omega)]
  simp
 ·show Ci L (i:Int) (_,_)=_
  unfold Ci;simp only[Au,E8 hj,Aj,Qs];rw[Ae (Hz hj)]
  cases h1:decide ((L.getD i []).getD j 0<=(if j=0 then(-1:Int) else(L.getD i []).getD (j-1) 0)) with
  | true=>simp only[Aj,show((true==false)=false) from rfl,A0,Ax]
  | false=>
   have h1':decide ((if j=0 then(-1:Int) else(L.getD i []).getD (j-1) 0)<(L.getD i []).getD j 0)=true:=by simpa using h1
   unfold okAt at hp;rw[h1',G2]at hp;simp only[Rd,Aj,A0,Ax,hp,Mp]
 ·show Ci L (i:Int) (_,_)=_
  unfold Ci;simp only[Au,I6,A0]
def Fits(L:List (List Int)):Prop:=L.length<4611686018427387904/\∀ l∈L,l.length<4611686018427387904
theorem Fits.at{L:List (List Int)}(h:Fits L)(i:Nat):(L.getD i []).length<4611686018427387904:=by
 by_cases hi:i<L.length
 ·exact h.2 _ (A8 hi)
 ·rw[Kp,Abc (by omega)];simp
theorem m_succMay(L:List (List Int))(h:Fits L):Hp L=some (G4 L):=by
 unfold Hp;rw[m_isCount,Ax];unfold G4
 cases hc:(decide (1<=L.length)&&decide (L.length<=64)) with
 | false=>rfl
 | true=>
  simp only[E6,A0,G2];have:=Om (Cj L) (fun j=>((j:Nat):Int)) (fun i=>okL L.length (L.getD i [])) (.inl ()) (.inr false) L.length (fun j hj hp=>?_) (fun j hj hp=>?_) ?_
  ·rw[show An (Cj L) (0:Int)=_ from this]
   cases(List.range L.length).all fun i=>okL L.length (L.getD i [])<;>rfl
  ·show Cj L (j:Int)=_
   unfold Cj;simp only[E8 hj,Aj];rw[Ae (Hz hj),succMay_L1 L j (h.at j),hp];simp only[Aj,Ax,w1 (show j<4611686018427387904 by have:=h.1;omega)]
  ·show Cj L (j:Int)=_
   unfold Cj;simp only[E8 hj,Aj];rw[Ae (Hz hj),succMay_L1 L j (h.at j),hp]
   rfl
  ·show Cj L _=_
   unfold Cj;simp only[I6,A0]
theorem Pq{α:Type}{n i:Nat}{g:Nat->α}{d:α}(h:i<n):((List.range n).map g).getD i d=g i:=by simp[List.getD,h]
theorem Xb{α:Type}{n i:Nat}{g:Nat->α}{x:α}:((List.range n).map g).set i x=(List.range n).map fun j=>if j=i then x else g j:=by
 apply List.ext_getElem?
 intro j;rw[List.getElem?_set]
 by_cases hj:j<n
 ·by_cases hij:i=j
  ·subst hij;simp[hj]
  ·simp[hij,hj,Hj hij]
 ·simp[hj];intro h;omega
theorem Kz{α:Type}{n:Nat}{g h:Nat->α}(H:∀ i,i<n->g i=h i):(List.range n).map g=(List.range n).map h:=zzL138 fun i hi=>H i (zzL43.1 hi)
theorem mayS_iff{L:List (List Int)}:G4 L=true↔1<=L.length/\L.length<=64/\∀ i,i<L.length->okL L.length (L.getD i [])=true:=by
 unfold G4;rw[A7,A7,all_range];simp only[Gs];exact⟨fun⟨⟨a,b⟩,c⟩=>⟨a,b,c⟩,fun⟨a,b,c⟩=>⟨⟨a,b⟩,c⟩⟩
theorem okL_iff{n:Nat}{l:List Int}:okL n l=true↔∀ i,i<l.length->(0<=l.getD i 0/\l.getD i 0<n)/\(0<i->l.getD (i-1) 0<l.getD i 0):=by
 unfold okL;rw[all_range];unfold okAt;simp only[A7,Gs]
 constructor
 ·intro h i hi;obtain⟨h1,h2,h3⟩:=h i hi;refine⟨⟨h2,h3⟩,fun hp=>?_⟩;rwa[if_neg (by omega)]at h1
 ·intro h i hi;obtain⟨⟨h2,h3⟩,h1⟩:=h i hi;refine⟨?_,h2,h3⟩
  by_cases hz:i=0
  ·rw[if_pos hz];omega
  ·rw[if_neg hz];exact h1 (by omega)
section
variable {n:Nat} {l:List Int} (h:okL n l=true)
include h
theorem W4{i:Nat}(hi:i<l.length):0<=l.getD i 0/\l.getD i 0<n:=(okL_iff.1 h i hi).1
theorem okL_lt{i j:Nat}(hij:i<j)(hj:j<l.length):l.getD i 0<l.getD j 0:=by
 induction j with
 | zero=>omega
 | succ j ih=>
  have h1:=(okL_iff.1 h (j+1) hj).2 (by omega);rw[show j+1-1=j by omega]at h1
  by_cases he:i=j
  ·rw[he];exact h1
  ·exact Int.lt_trans (ih (by omega) (by omega)) h1
theorem okL_ge{i:Nat}(hi:i<l.length):(i:Int)<=l.getD i 0:=by
 induction i with
 | zero=>exact(W4 h hi).1
 | succ i ih=>
  have:=okL_lt h (show i<i+1 by omega) hi;have:=ih (by omega);omega
theorem X8:l.length<=n:=by
 by_cases hz:l.length=0
 ·omega
 ·have h1:=okL_ge h (show l.length-1<l.length by omega);have h2:=(W4 h (show l.length-1<l.length by omega)).2;omega
theorem R7{x:Int}(hx:x∈l):0<=x/\x<n:=by
 obtain⟨i,hi,rfl⟩:=Rb hx;have:=W4 h hi;rwa[Ag _ _ _ hi]at this
theorem okL_pair:l.Pairwise (·<·):=by
 rw[zzL125];intro i j hi hj hij;have:=okL_lt h hij hj;rwa[Ag _ _ _ hi,Ag _ _ _ hj]at this
end
theorem okL_of{n:Nat}{l:List Int}(h1:∀ x∈l,0<=x/\x<n)(h2:l.Pairwise (·<·)):okL n l=true:=by
 rw[okL_iff];intro i hi;rw[Ag _ _ _ hi];refine⟨h1 _ (S7 hi),fun hp=>?_⟩;rw[Ag _ _ _ (show i-1<l.length by omega)];exact(zzL125.1 h2) _ _ _ _ (by omega)
theorem Lm{L:List (List Int)}(h:G4 L=true):L.length<=64/\∀ l∈L,l.length<=64:=by
 obtain⟨h1,h2,h3⟩:=mayS_iff.1 h;refine⟨h2,fun l hl=>?_⟩;obtain⟨i,hi,rfl⟩:=Rb hl;have:=X8 (h3 i hi);rw[Ag _ _ _ hi]at this;omega
theorem fits_of{L:List (List Int)}(h:L.length<=1000/\∀ l∈L,l.length<=1000):Fits L:=⟨by omega,fun l hl=>by have:=h.2 l hl;omega⟩
theorem m_clone(l:List Int)(h:l.length<=room):D0 l=some l:=by
 unfold D0;rw[Ae (by simpa using h)]
 simp
theorem m_copied(L:List (List Int))(h:L.length<=1000/\∀ l∈L,l.length<=1000):Ha L=some L:=by
 have hroom:(1000:Nat)<=room:=by decide
 unfold Ha;rw[Ae ⟨by omega,Int.le_refl _,by omega⟩,Au];have:An (D9 L) ((0:Int),(List.range L.length).map fun i=>if i<0 then L.getD i [] else[])=some L:=Jp (D9 L) (fun j=>(((j:Nat):Int),(List.range L.length).map fun i=>if i<j then L.getD i [] else[])) L L.length (fun j hj=>?_) ?_
 ·have e0:(List.replicate L.length ([]:List Int))=(List.range L.length).map fun i=>if i<0 then L.getD i [] else[]:=by
   apply List.ext_getElem?
   intro i
   by_cases hi:i<L.length<;>simp[hi,List.getElem?_replicate]
  rw[e0,this];rfl
 ·show D9 L (_,_)=_
  unfold D9;simp only[Au,E8 hj,Aj];rw[Ae (Hz hj),m_clone _ (by have:=h.2 _ (A8 (d:=[]) hj);omega),Ax,Ae (Hz (by simpa using hj)),Xb,w1 (by omega)]
  congr 3
  apply Kz
  intro i hi
  by_cases h1:i=j
  ·subst h1;simp
  ·by_cases h2:i<j
   ·simp[h1,h2,show i<j+1 by omega]
   ·simp[h1,h2,show ¬ i<j+1 by omega]
 ·show D9 L (_,_)=_
  unfold D9;simp only[I6,A0]
  congr 2
  apply List.ext_getElem?
  intro i
  by_cases hi:i<L.length
  ·simp[hi]
  ·simp[hi]
theorem predAt_succ(L:List (List Int))(k i:Nat):Ix L (k+1) i=Ix L k i++(if T3 L k i=true then[(k:Int)] else[]):=by
 unfold Ix;rw[Ys,Aab,Yr]
 congr 1
 cases hg:T3 L k i<;>simp[hg]
theorem W6(L:List (List Int))(k i:Nat):(Ix L k i).length<=k:=by
 unfold Ix;rw[S8];have:=List.length_filter_le (fun k=>T3 L k i) (List.range k)
 simpa using this
theorem getD_take{l:List Int}{j:Nat}(hj:j<l.length):l.take (j+1)=l.take j++[l.getD j 0]:=by
 rw[Ag _ _ _ hj,zzL103 hj]
def P7(L:List (List Int))(k j i:Nat):Bool:=((L.getD k []).take j).contains (i:Int)
def J3(L:List (List Int))(k j:Nat):List (List Int):=(List.range L.length).map fun i=>Ix L k i++(if P7 L k j i=true then[(k:Int)] else[])
theorem comers_step(L:List (List Int))(h:G4 L=true)(k j:Nat)(hk:k<L.length)(hj:j<(L.getD k []).length) :
  (J3 L k j).set ((L.getD k []).getD j 0).toNat ((J3 L k j).getD ((L.getD k []).getD j 0).toNat []++[(k:Int)])=J3 L k (j+1):=by
 obtain⟨h1,h2,h3⟩:=mayS_iff.1 h;have hok:=h3 k hk;obtain⟨a0,a1⟩:=W4 hok hj;unfold J3;rw[Pq (by omega),Xb]
 apply Kz
 intro i hi
 have hnot:P7 L k j ((L.getD k []).getD j 0).toNat=false:=by
  unfold P7;rw[N3 a0]
  cases hc:((L.getD k []).take j).contains ((L.getD k []).getD j 0) with
  | false=>rfl
  | true=>
   rw[Abd]at hc;obtain⟨m,hm,he⟩:=Rb hc
   have hm':m<j:=by simp at hm;omega
   rw[List.getElem_take]at he;have:=okL_lt hok hm' hj;rw[Ag _ _ _ (show m<(L.getD k []).length by omega),he]at this;omega
 by_cases hi2:i=((L.getD k []).getD j 0).toNat
 ·rw[if_pos hi2,hnot]
  have:P7 L k (j+1) i=true:=by
   unfold P7;rw[getD_take hj,Abd,hi2,N3 a0]
   simp
  rw[this,hi2]
  simp
 ·rw[if_neg hi2]
  have:P7 L k (j+1) i=P7 L k j i:=by
   unfold P7;rw[getD_take hj,Lr,Abd,Abd,zzL13]
   constructor
   ·rintro(hm|hm)
    ·exact hm
    ·simp only[zzL14]at hm;exact(hi2 (by omega)).elim
   ·exact .inl
  rw[this]
theorem m_comers(L:List (List Int))(h:G4 L=true):G9 L=some (A4 L):=by
 obtain⟨h1,h2,h3⟩:=mayS_iff.1 h
 have hroom:(1000:Nat)<=room:=by decide
 unfold G9;rw[Ae ⟨by omega,Int.le_refl _,by omega⟩,Au]
 have inner:∀ k,k<L.length->An (D7 L (k:Int)) ((0:Int),J3 L k 0)=some (J3 L k (L.getD k []).length):=fun k hk=>by
  have hok:=h3 k hk;refine Jp (D7 L (k:Int)) (fun j=>(((j:Nat):Int),J3 L k j)) (J3 L k (L.getD k []).length) (L.getD k []).length (fun j hj=>?_) ?_
  ·obtain⟨a0,a1⟩:=W4 hok hj
   have hlen:(J3 L k j).length=L.length:=by simp[J3]
   have hl64:=X8 hok
   show D7 L (k:Int) (_,_)=_
   unfold D7;simp only[Au,E8 hj,Aj];have hb:Bd ((L.getD k []).getD j 0) (J3 L k j).length:=⟨a0,by rw[hlen];exact a1⟩
   have hrow:((J3 L k j).getD ((L.getD k []).getD j 0).toNat []).length<=k+1:=by
    unfold J3;rw[Pq (by omega),Fb];have:=W6 L k ((L.getD k []).getD j 0).toNat
    split
    ·rw[Ra];omega
    ·rw[List.length_nil];omega
   rw[Ae (Hz hj),Ae hb,Ae hb,Ae (by simp only[Ra];omega),Ae hb,comers_step L h k j hk hj,w1 (by omega)]
  ·show D7 L (k:Int) (_,_)=_
   unfold D7;simp only[Au,I6,A0]
 have r0:∀ k,J3 L k 0=(List.range L.length).map (Ix L k):=fun k=>by
  unfold J3
  apply Kz
  intro i _;simp[P7]
 have r1:∀ k,J3 L k (L.getD k []).length=(List.range L.length).map (Ix L (k+1)):=fun k=>by
  unfold J3
  apply Kz
  intro i _;rw[predAt_succ];unfold P7 T3;rw[Uv]
 have:An (D8 L) ((0:Int),(List.range L.length).map (Ix L 0))=some (A4 L):=Jp (D8 L) (fun k=>(((k:Nat):Int),(List.range L.length).map (Ix L k))) (A4 L) L.length (fun k hk=>?_) ?_
 ·have e0:(List.replicate L.length ([]:List Int))=(List.range L.length).map (Ix L 0):=by
   apply List.ext_getElem?
   intro i
   by_cases hi:i<L.length<;>simp[hi,List.getElem?_replicate,Ix]
  rw[e0,this];rfl
 ·show D8 L (_,_)=_
  unfold D8;simp only[E8 hk,Aj];rw[Ae (Hz hk),<- r0,inner k hk,r1,w1 (by omega)]
  rfl
 ·show D8 L (_,_)=_
  unfold D8;simp only[I6,A0]
  rfl
theorem Aau{α:Type}[DecidableEq α]{a b:List α}{d:α}(h:a.length=b.length):((List.range a.length).all fun i=>decide (a.getD i d=b.getD i d))=decide (a=b):=by
 rw[Lr,all_range,Gs]
 constructor
 ·intro hall
  apply Xh h
  intro i h1 h2;have:=Abh (hall i h1);rwa[Ag _ _ _ h1,Ag _ _ _ h2]at this
 ·rintro rfl i _
  simp
theorem lens_ne{a b:Nat}:(((a:Nat):Int)!=(b:Int))=decide (a≠b):=by
 rw[Lr,Pd,Gs];omega
theorem int_ne{a b:Int}:(a !=b) = !decide (a=b):=by
 rw[Lr]
 simp
theorem m_equal(a b:List Int)(hb:b.length<4611686018427387904):C6 a b=some (decide (a=b)):=by
 unfold C6;rw[lens_ne]
 by_cases hl:a.length=b.length
 ·rw[Gl (by simpa using hl),A0];have:An (Ba a b) (0:Int)=_:=Om (Ba a b) (fun j=>((j:Nat):Int)) (fun i=>decide (a.getD i 0=b.getD i 0)) (.inl ()) (.inr false) a.length (fun j hj hp=>?_) (fun j hj hp=>?_) ?_
  ·rw[this,Aau hl]
   cases decide (a=b)<;>rfl
  ·show Ba a b (j:Int)=_
   unfold Ba;simp only[Au,E8 hj,Aj];rw[Ae (Hz hj),Ae (Hz (by omega)),int_ne,hp,w1 (by omega)]
   rfl
  ·show Ba a b (j:Int)=_
   unfold Ba;simp only[Au,E8 hj,Aj];rw[Ae (Hz hj),Ae (Hz (by omega)),int_ne,hp]
   rfl
  ·show Ba a b _=_
   unfold Ba;simp only[I6,A0]
 ·rw[Fu (by simpa using hl),Aj,Gl (fun h=>hl (by rw[h]))]
theorem m_equalFunc(a b:List (List Int))(hb:Fits b):B8 a b=some (decide (a=b)):=by
 unfold B8;rw[lens_ne]
 by_cases hl:a.length=b.length
 ·rw[Gl (by simpa using hl),A0];have hb1:=hb.1;have:An (Ay a b) (0:Int)=_:=Om (Ay a b) (fun j=>((j:Nat):Int)) (fun i=>decide (a.getD i []=b.getD i [])) (.inl ()) (.inr false) a.length (fun j hj hp=>?_) (fun j hj hp=>?_) ?_
  ·rw[this,Aau hl]
   cases decide (a=b)<;>rfl
  ·show Ay a b (j:Int)=_
   unfold Ay;simp only[Au,E8 hj,Aj];rw[Ae (Hz hj),Ae (Hz (by omega)),m_equal _ _ (hb.at j),hp,w1 (by omega)]
   rfl
  ·show Ay a b (j:Int)=_
   unfold Ay;simp only[Au,E8 hj,Aj];rw[Ae (Hz hj),Ae (Hz (by omega)),m_equal _ _ (hb.at j),hp]
   rfl
  ·show Ay a b _=_
   unfold Ay;simp only[I6,A0]
 ·rw[Fu (by simpa using hl),Aj,Gl (fun h=>hl (by rw[h]))]
theorem Dj(L:List (List Int)):(A4 L).length=L.length:=by simp[A4]
theorem Mw{L:List (List Int)}{i:Nat}(hi:i<L.length):(A4 L).getD i []=Ix L L.length i:=by unfold A4;rw[Pq hi]
theorem Of{L:List (List Int)}(h:G4 L=true):(A4 L).length<=64/\∀ l∈A4 L,l.length<=64:=by
 obtain⟨h1,_⟩:=Lm h;refine⟨by rw[Dj];exact h1,fun l hl=>?_⟩;obtain⟨i,hi,rfl⟩:=zzL19.1 hl;have:=W6 L L.length i;omega
theorem Sk{L:List (List Int)}(h:L.length<=64/\∀ l∈L,l.length<=64):Fits L:=fits_of ⟨by omega,fun l hl=>by have:=h.2 l hl;omega⟩
theorem small_k{L:List (List Int)}(h:L.length<=64/\∀ l∈L,l.length<=64):L.length<=1000/\∀ l∈L,l.length<=1000:=⟨by omega,fun l hl=>by have:=h.2 l hl;omega⟩
def Ma(g:Ap):Bool:=G4 g.Succ&&decide (g.Pred=A4 g.Succ)
theorem m_may(g:Ap)(h:Fits g.Succ):Im g=some (Ma g):=by
 unfold Im Ma;rw[m_succMay _ h,Ax]
 cases hm:G4 g.Succ with
 | false=>rfl
 | true=>
  simp only[Rd,Aj,m_comers _ hm,Ax,m_equalFunc _ _ (Sk (Of hm)),G2]
def H3(L:List (List Int)):Ap:=⟨L,A4 L⟩
def g0:Ap:=⟨[],[]⟩
theorem m_make(L:List (List Int))(h:Fits L):Kb L=some (bif G4 L then(H3 L,0) else(g0,5)):=by
 unfold Kb;rw[m_succMay _ h,Ax]
 cases hm:G4 L with
 | false=>rfl
 | true=>
  simp only[E6,A0,m_copied _ (small_k (Lm hm)),m_comers _ hm,Ax]
  rfl
theorem Mb{L:List (List Int)}(h:G4 L=true):Ma (H3 L)=true:=by simp[Ma,H3,h]
theorem m_turned(g:Ap)(h:Fits g.Succ):Ee g=some (bif Ma g then⟨g.Pred,g.Succ⟩ else g0):=by
 unfold Ee;rw[m_may _ h,Ax]
 cases hm:Ma g with
 | false=>rfl
 | true=>
  have hm':=hm;unfold Ma at hm';simp only[A7,Gs]at hm';simp only[E6,A0,m_copied _ (small_k (Lm hm'.1)),Ax];rw[m_copied _ (by rw[hm'.2];exact small_k (Of hm'.1))]
  rfl
theorem chk_imp{R:Type}{c:Bool}{q:Prop}[Decidable q]{k:Option R}(h:q):Bw (c=true->q) k=k:=Ae fun _=>h
theorem Kv{L:List (List Int)}(h:G4 L=true):Fits (H3 L).Succ/\Fits (H3 L).Pred:=⟨Sk (Lm h),Sk (Of h)⟩
noncomputable section
def upd(s:Nat->Bool)(y:Nat):Nat->Bool:=fun z=>decide (z=y) || s z
theorem upd_true{s:Nat->Bool}{y z:Nat}:upd s y z=true↔z=y\/s z=true:=by simp[upd]
theorem upd_false{s:Nat->Bool}{y z:Nat}:upd s y z=false↔z≠y/\s z=false:=by simp[upd]
inductive VL (S:Nat->List Nat):(Nat->Bool)->List Nat->(Nat->Bool)->List Nat->Prop
 | nil (s:Nat->Bool):VL S s [] s []
 | skip {s s':Nat->Bool} {y:Nat} {l o:List Nat} (h:s y=true) (t:VL S s l s' o):VL S s (y::l) s' o
 | step {s s1 s2:Nat->Bool} {y:Nat} {l o1 o2:List Nat} (h:s y=false) (a:VL S (upd s y) (S y) s1 o1) (b:VL S s1 l s2 o2):VL S s (y::l) s2 (o1++y::o2)
inductive Rch (S:Nat->List Nat):Nat->Nat->Prop
 | refl (x:Nat):Rch S x x
 | head {x y z:Nat} (h:y∈S x) (t:Rch S y z):Rch S x z
theorem Rch.tail{S:Nat->List Nat}{x y z:Nat}(h:Rch S x y)(hz:z∈S y):Rch S x z:=by
 induction h with
 | refl x=>exact .head hz (.refl _)
 | head h _ ih=>exact .head h (ih hz)
theorem Rch.trans{S:Nat->List Nat}{x y z:Nat}(h:Rch S x y)(k:Rch S y z):Rch S x z:=by
 induction h with
 | refl x=>exact k
 | head h _ ih=>exact .head h (ih k)
variable {S:Nat->List Nat} {s s':Nat->Bool} {l o:List Nat}
theorem VL.seen(h:VL S s l s' o)(z:Nat):s' z=true↔s z=true\/z∈o:=by
 induction h with
 | nil s=>simp
 | skip h _ ih=>exact ih
 | @step s s1 s2 y l o1 o2 h a b iha ihb=>
  rw[ihb,iha,upd_true];simp only[zzL13,zzL28]
  constructor
  ·rintro((( rfl|h1)|h1)|h1)
   ·exact .inr (.inr (.inl rfl))
   ·exact .inl h1
   ·exact .inr (.inl h1)
   ·exact .inr (.inr (.inr h1))
  ·rintro(h1|h1|rfl|h1)
   ·exact .inl (.inl (.inr h1))
   ·exact .inl (.inr h1)
   ·exact .inl (.inl (.inl rfl))
   ·exact .inr h1
theorem VL.fresh(h:VL S s l s' o){z:Nat}(hz:z∈o):s z=false:=by
 induction h with
 | nil s=>cases hz
 | skip h _ ih=>exact ih hz
 | @step s s1 s2 y l o1 o2 h a b iha ihb=>
  rcases zzL13.1 hz with h1|h1
  ·exact(upd_false.1 (iha h1)).2
  ·rcases zzL28.1 h1 with rfl|h1
   ·exact h
   ·have:=ihb h1
    cases hs:s z with
    | false=>rfl
    | true=>rw[(a.seen z).2 (.inl (upd_true.2 (.inr hs)))]at this;cases this
theorem VL.nodup(h:VL S s l s' o):o.Nodup:=by
 induction h with
 | nil s=>exact List.nodup_nil
 | skip h _ ih=>exact ih
 | @step s s1 s2 y l o1 o2 h a b iha ihb=>
  rw[List.nodup_append];refine⟨iha,zzL97.2 ⟨fun hy=>?_,ihb⟩,fun u hu v hv=>?_⟩
  ·have:=b.fresh hy;rw[(a.seen y).2 (.inl (upd_true.2 (.inl rfl)))]at this
   cases this
  ·rintro rfl;rcases zzL28.1 hv with rfl|hv
   ·have:=a.fresh hu;rw[upd_true.2 (.inl rfl)]at this
    cases this
   ·have:=b.fresh hv;rw[(a.seen u).2 (.inr hu)]at this
    cases this
theorem VL.rch(h:VL S s l s' o){z:Nat}(hz:z∈o):∃ y∈l,Rch S y z:=by
 induction h with
 | nil s=>cases hz
 | skip h _ ih=>obtain⟨y,hy,hr⟩:=ih hz;exact⟨y,zzL15 _ hy,hr⟩
 | @step s s1 s2 y l o1 o2 h a b iha ihb=>
  rcases zzL13.1 hz with h1|h1
  ·obtain⟨u,hu,hr⟩:=iha h1;exact⟨y,zzL39 ..,.head hu hr⟩
  ·rcases zzL28.1 h1 with rfl|h1
   ·exact⟨z,zzL39 ..,.refl z⟩
   ·obtain⟨u,hu,hr⟩:=ihb h1;exact⟨u,zzL15 _ hu,hr⟩
theorem VL.closed(h:VL S s l s' o):(∀ y∈l,s' y=true)/\∀ z∈o,∀ y∈S z,s' y=true:=by
 induction h with
 | nil s=>exact⟨(fun _ h=>by cases h),(fun _ h=>by cases h)⟩
 | @skip s s' y l o h t ih=>
  refine⟨fun u hu=>?_,ih.2⟩;rcases zzL28.1 hu with rfl|hu
  ·exact(t.seen u).2 (.inl h)
  ·exact ih.1 u hu
 | @step s s1 s2 y l o1 o2 h a b iha ihb=>
  refine⟨fun u hu=>?_,fun z hz u hu=>?_⟩
  ·rcases zzL28.1 hu with rfl|hu
   ·exact(b.seen u).2 (.inl ((a.seen u).2 (.inl (upd_true.2 (.inl rfl)))))
   ·exact ihb.1 u hu
  ·rcases zzL13.1 hz with h1|h1
   ·exact(b.seen u).2 (.inl (iha.2 z h1 u hu))
   ·rcases zzL28.1 h1 with rfl|h1
    ·exact(b.seen u).2 (.inl (iha.1 u hu))
    ·exact ihb.2 z h1 u hu
theorem VL.above(h:VL S s l s' o)(hf:∀ z,∀ y∈S z,z<y){b:Nat}(hb:∀ y∈l,b<y):∀ z∈o,b<z:=by
 induction h generalizing b with
 | nil s=>intro z hz;cases hz
 | skip h _ ih=>exact ih (fun y hy=>hb y (zzL15 _ hy))
 | @step s s1 s2 y l o1 o2 h a c iha ihb=>
  intro z hz;have hy:=hb y (zzL39 ..);rcases zzL13.1 hz with h1|h1
  ·exact iha (fun u hu=>Nat.lt_trans hy (hf y u hu)) z h1
  ·rcases zzL28.1 h1 with rfl|h1
   ·exact hy
   ·exact ihb (fun u hu=>hb u (zzL15 _ hu)) z h1
theorem VL.ahead(h:VL S s l s' o)(hf:∀ z,∀ y∈S z,z<y):∀ z∈o,∀ y∈S z,s y=true\/∃ A B,o=A++z::B/\y∈A:=by
 induction h with
 | nil s=>intro z hz;cases hz
 | skip h _ ih=>exact ih
 | @step s s1 s2 y l o1 o2 h a c iha ihb=>
  intro z hz u hu;rcases zzL13.1 hz with h1|h1
  ·have hzy:y<z:=a.above hf (fun v hv=>hf y v hv) z h1;have hzu:=hf z u hu;rcases iha z h1 u hu with h2|⟨A,B,rfl,hA⟩
   ·rcases upd_true.1 h2 with rfl|h2
    ·omega
    ·exact .inl h2
   ·exact .inr ⟨A,B++y::o2,by simp,hA⟩
  ·rcases zzL28.1 h1 with rfl|h1z
   ·have hzu:=hf z u hu;rcases(a.seen u).1 (a.closed.1 u hu) with h2|h2
    ·rcases upd_true.1 h2 with rfl|h2
     ·omega
     ·exact .inl h2
    ·exact .inr ⟨o1,o2,rfl,h2⟩
   ·rcases ihb z h1z u hu with h2|⟨A,B,rfl,hA⟩
    ·rcases(a.seen u).1 h2 with h3|h3
     ·rcases upd_true.1 h3 with rfl|h3
      ·obtain⟨P,Q,rfl⟩:=List.append_of_mem h1z;exact .inr ⟨o1++u::P,Q,by simp,by simp⟩
      ·exact .inl h3
     ·obtain⟨P,Q,rfl⟩:=List.append_of_mem h1z;exact .inr ⟨o1++y::P,Q,by simp,by simp[h3]⟩
    ·exact .inr ⟨o1++y::A,B,by simp,by simp[hA]⟩
def cnt(n:Nat)(s:Nat->Bool):Nat:=((List.range n).filter fun z=>!s z).length
theorem Vb{n:Nat}{s:Nat->Bool}{y:Nat}(hy:y<n)(h:s y=false):cnt n (upd s y)+1=cnt n s:=by
 unfold cnt
 induction n with
 | zero=>omega
 | succ n ih=>
  rw[Ys,Aab,Aab,Fb,Fb]
  by_cases hyn:y=n
  ·subst hyn
   have e:(List.range y).filter (fun z=>!upd s y z)=(List.range y).filter (fun z=>!s z):=by
    apply List.filter_congr
    intro z hz;have:=zzL43.1 hz;simp[upd,show z≠y by omega]
   rw[e];simp[upd,h]
  ·have:=ih (by omega)
   have e:([n].filter fun z=>!upd s y z).length=([n].filter fun z=>!s z).length:=by
    simp only[List.filter_cons,List.filter_nil,upd];simp[Hj hyn]
   omega
theorem cnt_mono{n:Nat}{s s':Nat->Bool}(h:∀ z,s z=true->s' z=true):cnt n s'<=cnt n s:=by
 unfold cnt
 apply List.Sublist.length_le
 have:(List.range n).filter (fun z=>!s' z)=((List.range n).filter fun z=>!s z).filter fun z=>!s' z:=by
  rw[List.filter_filter]
  apply List.filter_congr
  intro z _
  cases hs:s z with
  | false=>simp
  | true=>simp[h z hs]
 rw[this];exact List.filter_sublist
theorem VL.exist{n:Nat}(hS:∀ z,z<n->∀ y∈S z,y<n):∀(m:Nat) (s:Nat->Bool),cnt n s<=m->∀ l:List Nat,(∀ y∈l,y<n)->∃ s' o,VL S s l s' o:=by
 intro m
 induction m with
 | zero=>
  intro s hm l
  induction l with
  | nil=>intro _;exact⟨s,[],.nil s⟩
  | cons y l ih=>
   intro hl;obtain⟨s',o,h⟩:=ih (fun z hz=>hl z (zzL15 _ hz))
   cases hy:s y with
   | true=>exact⟨s',o,.skip hy h⟩
   | false=>have:=Vb (hl y (zzL39 ..)) hy;omega
 | succ m ih=>
  intro s hm l
  induction l generalizing s with
  | nil=>intro _;exact⟨s,[],.nil s⟩
  | cons y l ihl=>
   intro hl
   cases hy:s y with
   | true=>
    obtain⟨s',o,h⟩:=ihl s hm (fun z hz=>hl z (zzL15 _ hz));exact⟨s',o,.skip hy h⟩
   | false=>
    have hyn:=hl y (zzL39 ..);have:=Vb hyn hy;obtain⟨s1,o1,h1⟩:=ih (upd s y) (by omega) (S y) (hS y hyn);have h2:cnt n s1<=cnt n s:=cnt_mono fun z hz=>(h1.seen z).2 (.inl (upd_true.2 (.inr hz)));obtain⟨s2,o2,h3⟩:=ihl s1 (by omega) (fun z hz=>hl z (zzL15 _ hz));exact⟨s2,_,.step hy h1 h3⟩
def one(r:Nat):Nat->Bool:=fun z=>decide (z=r)
def Ord(S:Nat->List Nat)(r:Nat)(L:List Nat):Prop:=∃ s' o,VL S (one r) (S r) s' o/\L=r::o.reverse
theorem Ord.exist{n:Nat}(hS:∀ z,z<n->∀ y∈S z,y<n){r:Nat}(hr:r<n):∃ L,Ord S r L:=by
 obtain⟨s',o,h⟩:=VL.exist hS _ (one r) (zzL8 _) (S r) (hS r hr);exact⟨_,s',o,h,rfl⟩
theorem Ord.mem{r:Nat}{L:List Nat}(h:Ord S r L)(z:Nat):z∈L↔Rch S r z:=by
 obtain⟨s',o,h,rfl⟩:=h
 have hs:∀ z,s' z=true↔z=r\/z∈o:=fun z=>by rw[h.seen];simp[one]
 have hc:∀ x,s' x=true->∀ y∈S x,s' y=true:=fun x hx y hy=>by
  rcases(hs x).1 hx with rfl|hx
  ·exact h.closed.1 y hy
  ·exact h.closed.2 x hx y hy
 simp only[zzL28,zzL128];rw[<- hs z]
 constructor
 ·intro hz;rcases(hs z).1 hz with rfl|hz
  ·exact .refl _
  ·obtain⟨y,hy,hr⟩:=h.rch hz;exact .head hy hr
 ·intro hr
  have key:∀ x z,Rch S x z->s' x=true->s' z=true:=by
   intro x z hxz
   induction hxz with
   | refl x=>exact id
   | head hy _ ih=>exact fun hx=>ih (hc _ hx _ hy)
  exact key r z hr ((hs r).2 (.inl rfl))
theorem Ord.nodup{r:Nat}{L:List Nat}(h:Ord S r L):L.Nodup:=by
 obtain⟨s',o,h,rfl⟩:=h;refine zzL97.2 ⟨fun hr=>?_,(List.reverse_perm o).nodup_iff.2 h.nodup⟩;have:=h.fresh (zzL128.1 hr);simp[one]at this
theorem Ord.fwd{r:Nat}{L:List Nat}(h:Ord S r L)(hf:∀ z,∀ y∈S z,z<y):∀ z∈L,∀ y∈S z,∃ A B,L=A++z::B/\y∈B:=by
 obtain⟨s',o,h,rfl⟩:=h;intro z hz y hy;have hzy:=hf z y hy;rcases zzL28.1 hz with rfl|hz
 ·refine⟨[],o.reverse,rfl,?_⟩;rcases(h.seen y).1 (h.closed.1 y hy) with h1|h1
  ·simp[one]at h1;omega
  ·exact zzL128.2 h1
 ·have hz:=zzL128.1 hz;have hrz:r<z:=h.above hf (fun v hv=>hf r v hv) z hz;rcases h.ahead hf z hz y hy with h1|⟨A,B,rfl,hA⟩
  ·simp[one]at h1;omega
  ·exact⟨r::B.reverse,A.reverse,by simp,zzL128.2 hA⟩
end
theorem m_reverse(l:List Int)(hl:l.length<4611686018427387904):De l=some l.reverse:=by
 unfold De
 by_cases h0:l.length=0
 ·obtain rfl:l=[]:=zzL92.1 h0
  have:An A6 ((0:Int),(Bb ((([]:List Int).length:Int)-1)),([]:List Int))=some []:=by
   apply Aq
   unfold A6;rw[Jg (by simp) (by simp)]
   rfl
  rw[this];rfl
 ·have hw:Bb ((l.length:Int)-1)=((l.length-1:Nat):Int):=by rw[Jg (by omega) (by omega)];omega
  rw[hw]
  let C:Nat->List Int:=fun k=>(List.range l.length).map fun i=>if i<k\/l.length-1-k<i then l.getD (l.length-1-i) 0 else l.getD i 0
  have hC:∀ k i,i<l.length->(C k).getD i 0=if i<k\/l.length-1-k<i then l.getD (l.length-1-i) 0 else l.getD i 0:=fun k i hi=>by simp only[C];rw[Pq hi]
  have hlen:∀ k,(C k).length=l.length:=fun k=>by simp[C]
  have:=Jp A6 (fun k=>(((k:Nat):Int),((l.length-1-k:Nat):Int),C k)) l.reverse (l.length / 2) (fun k hk=>?_) ?_
  ·have e0:C 0=l:=by
    apply Xh (by simp[C])
    intro i h1 h2;have:=hC 0 i h2;rw[Ag _ _ _ h1,Ag _ _ _ h2]at this;rw[this,if_neg (by omega)]
   have this':An A6 ((0:Int),((l.length-1:Nat):Int),l)=some l.reverse:=by
    have h2:=this;simp only[e0]at h2;exact h2
   rw[this'];rfl
  ·show A6 (_,_,_)=_
   unfold A6
   have hlt:k<l.length-1-k:=by omega
   simp only[E8 hlt,Aj,Au];rw[Ae (Hz (by rw[hlen];omega)),Ae (Hz (by rw[hlen];omega)),Ae (Hz (by rw[hlen];omega)),Ae (Hz (by rw[hlen];omega))];rw[w1 (by omega),show Bb (((l.length-1-k:Nat):Int)-1)=((l.length-1-(k+1):Nat):Int) by rw[Jg (by omega) (by omega)];omega]
   congr 4
   rw[hC k _ (by omega),hC k _ (by omega),if_neg (by omega),if_neg (by omega)];simp only[C];rw[Xb,Xb]
   apply Kz
   intro i hi
   by_cases h1:i=k
   ·subst h1;rw[if_neg (by omega),if_pos rfl,if_pos (by omega)]
   ·by_cases h2:i=l.length-1-k
    ·subst h2;rw[if_pos rfl,if_pos (by omega)]
     congr 1;omega
    ·rw[if_neg h2,if_neg h1]
     by_cases h3:i<k\/l.length-1-k<i
     ·rw[if_pos h3,if_pos (by omega)]
     ·rw[if_neg h3,if_neg (by omega)]
  ·show A6 (_,_,_)=_
   unfold A6;have hd:decide (((l.length / 2:Nat):Int)<((l.length-1-l.length / 2:Nat):Int))=false:=Gl (by omega);simp only[hd,A0]
   congr 2
   apply Xh (by simp[C])
   intro i h1 h2
   have h3:i<l.length:=by simpa [C] using h1
   have:=hC (l.length / 2) i h3;rw[Ag _ _ _ h1]at this;rw[this,List.getElem_reverse]
   split
   ·rw[Ag _ _ _ (by omega)]
   ·rw[Ag _ _ _ h3]
    congr 1;omega
theorem top{st:List Int}{a:Int}(h:st.length<4611686018427387904):(st++[a]).getD (Bb (((st++[a]).length:Int)-1)).toNat 0=a:=by
 have:Bb (((st++[a]).length:Int)-1)=((st.length:Nat):Int):=by rw[Fb,Ra,Jg (by omega) (by omega)];omega
 rw[this,Au];simp[List.getD]
theorem topi{st:List Int}{a:Int}(h:st.length<4611686018427387904):Bb (((st++[a]).length:Int)-1)=((st.length:Nat):Int):=by
 rw[Fb,Ra,Jg (by omega) (by omega)];omega
theorem L2_done{g:Ap}{R:List Bool}{st T:List Int}{a:Nat}(hst:st.length<64)(ha:a<g.Succ.length)(h64:g.Succ.length<=64)(ht:T.getD a 0=((g.Succ.getD a []).length:Int)) :
  Fn g R (st++[(a:Int)]) T=some (.done (.inl T)):=by
 unfold Fn;simp only[top (st:=st) (a:=(a:Int)) (by omega),Au];rw[Ae (Hz (by omega)),Ae (Hz ha),ht,I6,A0]
theorem L2_step{g:Ap}{R:List Bool}{st T:List Int}{a t y:Nat}(hst:st.length<64)(ha:a<g.Succ.length)(h64:g.Succ.length<=64)(ht:T.getD a 0=(t:Int))(htl:t<(g.Succ.getD a []).length)(htm:t<64)
  (hy:(g.Succ.getD a []).getD t 0=(y:Int)) (hyn:y<g.Succ.length) :
  Fn g R (st++[(a:Int)]) T=bif R.getD y false then some (.next (J5 64 (0:Int) T a ((t+1:Nat):Int))) else some (.done (.inr (J5 64 false R y true,J5 64 (0:Int) T a ((t+1:Nat):Int),(st++[(a:Int)])++[(y:Int)]))):=by
 have hroom:(1000:Nat)<=room:=by decide
 unfold Fn;simp only[top (st:=st) (a:=(a:Int)) (by omega),Au,ht,hy];rw[Ae (Hz (by omega)),Ae (Hz ha),E8 htl,Aj,Ae (Hz ha),Ae (Hz (by omega)),Ae (Hz htl),Ae (Hz (by omega)),Ae (Hz (by omega)),Ae (Hz (by omega)),w1 (by omega)]
 cases R.getD y false with
 | true=>rfl
 | false=>
  simp only[Mp,Aj,A0];rw[Ae (Hz (by omega)),Ae (by rw[Fb,Ra,Ra];omega)]
theorem F3_eq{g:Ap}{R:List Bool}{st T Lf:List Int}{a:Nat}(hst:st.length<64)(hLf:Lf.length<64) :
  Cz g (R,T,st++[(a:Int)],Lf)=(An (Fn g R (st++[(a:Int)])) T).bind fun x=>match x with
   | .inl T'=>if st=[] then some (.done (Lf++[(a:Int)]).reverse) else some (.next (R,T',st,Lf++[(a:Int)]))
   | .inr (R',T',st')=>some (.next (R',T',st',Lf)):=by
 have hroom:(1000:Nat)<=room:=by decide
 unfold Cz;simp only
 have hb:Bd (Bb (((st++[(a:Int)]).length:Int)-1)) (st++[(a:Int)]).length:=by rw[topi (by omega)];exact Hz (by simp)
 rw[Ae hb]
 congr 1
 funext x
 cases x with
 | inr y=>obtain⟨R',T',st'⟩:=y;rfl
 | inl T'=>
  simp only[top (st:=st) (a:=(a:Int)) (by omega)];rw[topi (by omega),Au,Ae (by rw[Ra];omega),Ae ⟨by omega,by simp⟩];have e:(st++[(a:Int)]).take st.length=st:=List.take_left' rfl;rw[e]
  cases st with
  | nil=>
   rw[if_pos rfl]
   have:decide ((0:Int)<(([]:List Int).length:Int))=false:=by decide
   rw[this,A0,m_reverse _ (by simp;omega)];simp only[Ax];rw[Ae (by simp)]
  | cons b st'=>
   rw[if_neg (by simp)];have:decide ((0:Int)<((b::st').length:Int))=true:=Fu (by simp<;>omega);rw[this,Aj]
theorem loopO_from{S X:Type}{f:S->Option (LR S X)}{a b:S}(h:f a=f b):An f a=An f b:=by
 cases hb:f b with
 | none=>rw[W0 (h.trans hb),W0 hb]
 | some r=>cases r with
  | done x=>rw[Aq (h.trans hb),Aq hb]
  | next s=>rw[Aw (h.trans hb),Aw hb]
theorem Un{S X:Type}{f:S->Option (LR S X)}{s:S}:My (f s) f=An f s:=by
 unfold My
 cases hb:f s with
 | none=>rw[W0 hb];rfl
 | some r=>cases r with
  | done x=>rw[Aq hb];rfl
  | next s'=>rw[Aw hb];rfl
def sN(L:List (List Int))(k:Nat):List Nat:=(L.getD k []).map Int.toNat
def RelS(R:List Bool)(s:Nat->Bool):Prop:=∀ z,z<64->R.getD z false=s z
theorem M6{α:Type}{d:α}{l:List α}{i:Nat}{x:α}{k:Nat}(hk:k<64):(J5 64 d l i x).getD k d=if k=i then x else l.getD k d:=by
 rw[setN_getD hk]
 by_cases h:k=i
 ·subst h;simp
 ·have:Nat.beq k i=false:=by cases hb:Nat.beq k i with|false=>rfl|true=>exact absurd (Bo hb) h
  rw[this,if_neg h];rfl
theorem RelS.set{R:List Bool}{s:Nat->Bool}(h:RelS R s){y:Nat}:RelS (J5 64 false R y true) (upd s y):=fun z hz=>by
 rw[M6 hz,h z hz]
 by_cases hzy:z=y
 ·simp[upd,hzy]
 ·simp[upd,hzy]
def Ob(o:List Nat):List Int:=o.map Int.ofNat
theorem order_main{g:Ap}(hm:G4 g.Succ=true){s s':Nat->Bool}{l o:List Nat}(hv:VL (sN g.Succ) s l s' o) :
  ∀(R:List Bool) (T st Lf:List Int) (a t:Nat),RelS R s->a<g.Succ.length->l=(sN g.Succ a).drop t->T.getD a 0=(t:Int)->t<=(sN g.Succ a).length->s a=true->(∀ z,z<64->s z=false->T.getD z 0=0)->
   Lf.length+cnt 64 s+st.length+1<=64->
   ∃(R':List Bool) (T':List Int),RelS R' s'/\(∀ z,z<64->s' z=false->T'.getD z 0=0)/\(∀ z,z<64->s z=true->z≠a->T'.getD z 0=T.getD z 0)/\Lf.length+o.length+cnt 64 s'+st.length+1<=64 /\
    An (Cz g) (R,T,st++[(a:Int)],Lf)=if st=[] then some (Lf++Ob o++[(a:Int)]).reverse else An (Cz g) (R',T',st,Lf++Ob o++[(a:Int)]):=by
 obtain⟨hL1,hL64,hLok⟩:=mayS_iff.1 hm
 have hlenS:∀ a,(sN g.Succ a).length=(g.Succ.getD a []).length:=fun a=>by simp[sN]
 have hdrop:∀(a t y:Nat) (l':List Nat),a<g.Succ.length->y::l'=(sN g.Succ a).drop t->t<(g.Succ.getD a []).length/\(g.Succ.getD a []).getD t 0=(y:Int)/\y<g.Succ.length/\l'=(sN g.Succ a).drop (t+1):=fun a t y l' ha he=>by
  have ht:t<(sN g.Succ a).length:=by
   rcases zzL135 t (sN g.Succ a).length with h|h
   ·exact h
   ·rw[List.drop_eq_nil_of_le h]at he;cases he
  rw[Uz ht]at he;simp only[C3]at he;obtain⟨h1,h2⟩:=he
  have ht':t<(g.Succ.getD a []).length:=by rw[<- hlenS];exact ht
  obtain⟨b0,b1⟩:=W4 (hLok a ha) ht'
  have h3:(sN g.Succ a)[t]=((g.Succ.getD a []).getD t 0).toNat:=by rw[Ag _ _ _ ht'];simp[sN]
  exact⟨ht',by omega,by omega,h2⟩
 induction hv with
 | nil s=>
  intro R T st Lf a t hR ha hl hT htl hsa hz hc
  have ht:t=(g.Succ.getD a []).length:=by
   have:=Bq List.length hl;simp at this;rw[hlenS]at htl this;omega
  refine⟨R,T,hR,hz,fun _ _ _ _=>rfl,by simpa using hc,?_⟩
  have hF:Cz g (R,T,st++[(a:Int)],Lf)=if st=[] then some (.done (Lf++[(a:Int)]).reverse) else some (.next (R,T,st,Lf++[(a:Int)])):=by
   rw[F3_eq (by omega) (by omega),Aq (L2_done (by omega) ha hL64 (by rw[hT,ht]))]
   rfl
  by_cases hst:st=[]
  ·rw[if_pos hst]at hF ⊢;rw[Aq hF];simp[Ob]
  ·rw[if_neg hst]at hF ⊢;rw[Aw hF];simp[Ob]
 | @skip s s' y l o h tl ih=>
  intro R T st Lf a t hR ha hl hT htl hsa hz hc;obtain⟨h1,h2,h3,h4⟩:=hdrop a t y l ha hl;have hb:=X8 (hLok a ha);have hs:=L2_step (g:=g) (R:=R) (st:=st) (T:=T) (a:=a) (t:=t) (y:=y) (by omega) ha hL64 hT h1 (by omega) h2 h3;rw[hR y (by omega),h,Aj]at hs;obtain⟨R',T',a1,a2,a3,a4,a5⟩:=ih R (J5 64 (0:Int) T a ((t+1:Nat):Int)) st Lf a (t+1) hR ha h4 (by rw[M6 (by omega),if_pos rfl]) (by rw[hlenS];omega) hsa
   (fun z hz1 hz2=>by rw[M6 hz1,if_neg (by rintro rfl;rw[hsa]at hz2;cases hz2)];exact hz z hz1 hz2) hc
  refine⟨R',T',a1,a2,fun z hz1 hz2 hz3=>by rw[a3 z hz1 hz2 hz3,M6 hz1,if_neg hz3],a4,?_⟩;rw[<- a5]
  apply loopO_from
  rw[F3_eq (by omega) (by omega),F3_eq (by omega) (by omega),Aw hs]
 | @step s s1 s2 y l o1 o2 h tl tr ih1 ih2=>
  intro R T st Lf a t hR ha hl hT htl hsa hz hc;obtain⟨h1,h2,h3,h4⟩:=hdrop a t y l ha hl;have hb:=X8 (hLok a ha)
  have hay:y≠a:=by rintro rfl;rw[hsa]at h;cases h
  have hs:=L2_step (g:=g) (R:=R) (st:=st) (T:=T) (a:=a) (t:=t) (y:=y) (by omega) ha hL64 hT h1 (by omega) h2 h3;rw[hR y (by omega),h,A0]at hs;have hcu:=Vb (n:=64) (show y<64 by omega) h
  have hF:Cz g (R,T,st++[(a:Int)],Lf)=some (.next (J5 64 false R y true,J5 64 (0:Int) T a ((t+1:Nat):Int),(st++[(a:Int)])++[(y:Int)],Lf)):=by
   rw[F3_eq (by omega) (by omega),Aq hs]
   rfl
  obtain⟨R1,T1,b1,b2,b3,b4,b5⟩:=ih1 (J5 64 false R y true) (J5 64 (0:Int) T a ((t+1:Nat):Int)) (st++[(a:Int)]) Lf y 0 hR.set h3 (by simp)
   (by rw[M6 (by omega),if_neg hay];exact hz y (by omega) h) (N7 _) (upd_true.2 (.inl rfl))
   (fun z hz1 hz2=>by
    obtain⟨c1,c2⟩:=upd_false.1 hz2;rw[M6 hz1,if_neg (by rintro rfl;rw[hsa]at c2;cases c2)]
    exact hz z hz1 c2) (by rw[Fb,Ra];omega)
  rw[if_neg (by simp)]at b5
  have hTa:T1.getD a 0=((t+1:Nat):Int):=by rw[b3 a (by omega) (upd_true.2 (.inr hsa)) (Hj hay),M6 (by omega),if_pos rfl]
  rw[Fb,Ra]at b4;obtain⟨R2,T2,c1,c2,c3,c4,c5⟩:=ih2 R1 T1 st (Lf++Ob o1++[(y:Int)]) a (t+1) b1 ha h4 hTa (by rw[hlenS];omega) ((tl.seen a).2 (.inl (upd_true.2 (.inr hsa)))) b2
   (by simp only[Fb,Ra,Ob,S8];omega)
  refine⟨R2,T2,c1,c2,fun z hz1 hz2 hz3=>?_,?_,?_⟩
  ·rw[c3 z hz1 ((tl.seen z).2 (.inl (upd_true.2 (.inr hz2)))) hz3,b3 z hz1 (upd_true.2 (.inr hz2)) (by rintro rfl;rw[h]at hz2;cases hz2),M6 hz1,if_neg hz3]
  ·simp only[Fb,Ra,Ob,S8,U1]at c4 ⊢;omega
  ·rw[Aw hF,b5,c5]
   have e:Lf++Ob o1++[(y:Int)]++Ob o2++[(a:Int)]=Lf++Ob (o1++y::o2)++[(a:Int)]:=by simp[Ob]
   rw[e]
theorem Nk{L:List (List Int)}(h:G4 L=true):∀ z,z<L.length->∀ y∈sN L z,y<L.length:=fun z hz y hy=>by
 obtain⟨_,_,h3⟩:=mayS_iff.1 h;obtain⟨x,hx,rfl⟩:=zzL19.1 hy;have:=R7 (h3 z hz) hx;omega
theorem cnt_one{r:Nat}(hr:r<64):cnt 64 (one r)=63:=by
 have h:=Vb (n:=64) (s:=fun _=>false) hr rfl
 have e:upd (fun _=>false) r=one r:=by funext z;simp[upd,one]
 rw[e]at h
 have:cnt 64 (fun _=>false)=64:=by decide
 omega
theorem Ni{α:Type}{n z:Nat}{d:α}:(List.replicate n d).getD z d=d:=by rw[Kp,List.getElem?_replicate];split<;>rfl
theorem m_order(g:Ap)(h:Fits g.Succ)(hP:True)(r:Int) :
  (Ma g=true->0<=r->r<(g.Succ.length:Int)->∀ L,Ord (sN g.Succ) r.toNat L->F1 g r=some (Ob L)) /\
  ((Ma g&&(decide (0<=r)&&decide (r<(g.Succ.length:Int))))=false->F1 g r=some []):=by
 refine⟨fun hm h0 h1 L hL=>?_,fun hf=>?_⟩
 ·have hms:G4 g.Succ=true:=by unfold Ma at hm;exact(A7 _ _▸hm).1
  obtain⟨hL1,hL64,hLok⟩:=mayS_iff.1 hms;obtain⟨s',o,hv,rfl⟩:=hL;have hrn:((r.toNat:Nat):Int)=r:=N3 h0
  have hr:r.toNat<g.Succ.length:=by omega
  obtain⟨R',T',_,_,_,_,hmain⟩:=order_main hms hv (J5 64 false (List.replicate 64 false) r.toNat true) (List.replicate 64 (0:Int)) [] [] r.toNat 0
   (fun z hz=>by rw[M6 hz,Ni];by_cases hzr:z=r.toNat<;>simp[one,hzr]) hr (by simp) Ni (N7 _) (by simp[one])
   (fun z hz _=>Ni) (by rw[cnt_one (by omega)];simp)
  rw[if_pos rfl,hrn]at hmain;unfold F1;rw[m_may _ h,hm,Ax];simp only[E6,Rd,Aj,A0,Qs,Fu h0,Fu h1,Aaf,Ax];rw[Ae ⟨h0,by omega⟩];have hF:∀ X,An (Cz g) (J5 64 false (List.replicate 64 false) r.toNat true,List.replicate 64 (0:Int),[]++[r],[])=some X->
    (My (Cz g (J5 64 false (List.replicate 64 false) r.toNat true,List.replicate 64 (0:Int),[r],[])) (Cz g)).bind (fun x=>some x)=some X:=fun X hX=>by
   rw[Un];rw[Wg]at hX;rw[hX];rfl
  refine(hF _ hmain).trans ?_;simp only[Wg,List.reverse_append,Ob,B0,List.map_reverse,List.reverse_cons,List.reverse_nil]
  simp
  omega
 ·unfold F1;rw[m_may _ h,Ax]
  cases hm:Ma g with
  | false=>rfl
  | true=>
   rw[hm,G2]at hf;simp only[E6,Rd,Aj,A0,Qs,hf,Ax,Mp]
   rfl
def RelN(n:Nat)(R:List Bool)(s:Nat->Bool):Prop:=R.length=n/\∀ z,z<n->R.getD z false=s z
theorem RelN.set{n:Nat}{R:List Bool}{s:Nat->Bool}(h:RelN n R s){y:Nat}(hy:y<n):RelN n (R.set y true) (upd s y):=by
 refine⟨by rw[E5];exact h.1,fun z hz=>?_⟩;rw[Kp,List.getElem?_set]
 by_cases hzy:y=z
 ·subst hzy;simp[upd,h.1,hy]
 ·rw[if_neg hzy,<- Kp,h.2 z hz];simp[upd,Hj hzy]
theorem Ln:∀(n:Nat) (l:List Nat),l.Nodup->(∀ x∈l,x<n)->l.length<=n
 | 0,l,_,h=>by
  cases l with
  | nil=>simp
  | cons x l=>have:=h x (zzL39 ..);omega
 | n+1,l,hd,h=>by
  by_cases hn:n∈l
  ·have h1:=Ln n (l.erase n) (hd.erase n) fun x hx=>by
    have h2:=(hd.mem_erase_iff).1 hx;have:=h x h2.2;have:=h2.1;omega
   rw[List.length_erase_of_mem hn]at h1;omega
  ·have h1:=Ln n l hd fun x hx=>by
    have:=h x hx
    have:x≠n:=by rintro rfl;exact hn hx
    omega
   omega
theorem Xc:∀{a b:List Int},a.Pairwise (·<·)->b.Pairwise (·<·)->(∀ x,x∈a↔x∈b)->a=b
 | [],[],_,_,_=>rfl
 | [],y::b,_,_,h=>by have:=(h y).2 (zzL39 ..);cases this
 | x::a,[],_,_,h=>by have:=(h x).1 (zzL39 ..);cases this
 | x::a,y::b,ha,hb,h=>by
  have ha':=zzL107.1 ha;have hb':=zzL107.1 hb
  have hxy:x=y:=by
   rcases zzL28.1 ((h x).1 (zzL39 ..)) with h1|h1
   ·exact h1
   ·rcases zzL28.1 ((h y).2 (zzL39 ..)) with h2|h2
    ·exact h2.symm
    ·have:=ha'.1 y h2;have:=hb'.1 x h1;omega
  subst hxy
  congr 1
  refine Xc ha'.2 hb'.2 fun z=>⟨fun hz=>?_,fun hz=>?_⟩
  ·rcases zzL28.1 ((h z).1 (zzL15 _ hz)) with rfl|h1
   ·have:=ha'.1 z hz;omega
   ·exact h1
  ·rcases zzL28.1 ((h z).2 (zzL15 _ hz)) with rfl|h1
   ·have:=hb'.1 z hz;omega
   ·exact h1
theorem Aap(p:Nat->Bool)(n:Nat):(((List.range n).filter p).map Int.ofNat).Pairwise (·<·):=by
 rw[List.pairwise_map];have:=(List.pairwise_lt_range (n:=n)).filter p
 exact this.imp fun h=>by simpa using h
theorem mem_filt{p:Nat->Bool}{n:Nat}{x:Int}:x∈((List.range n).filter p).map Int.ofNat↔∃ k:Nat,x=(k:Int)/\k<n/\p k=true:=by
 simp only[zzL19,zzL87,zzL43]
 constructor
 ·rintro⟨k,⟨h1,h2⟩,rfl⟩;exact⟨k,rfl,h1,h2⟩
 ·rintro⟨k,rfl,h1,h2⟩;exact⟨k,⟨h1,h2⟩,rfl⟩
theorem goes_iff{L:List (List Int)}{k i:Nat}:T3 L k i=true↔(i:Int)∈L.getD k []:=by unfold T3;rw[Abd]
theorem predAt_ok(L:List (List Int))(i:Nat):okL L.length (Ix L L.length i)=true:=
 okL_of (fun x hx=>by obtain⟨k,rfl,hk,_⟩:=mem_filt.1 hx;omega) (Aap _ _)
theorem Vj{L:List (List Int)}(h:G4 L=true):G4 (A4 L)=true:=by
 obtain⟨h1,h2,h3⟩:=mayS_iff.1 h;refine mayS_iff.2 ⟨by rw[Dj];exact h1,by rw[Dj];exact h2,fun i hi=>?_⟩;rw[Dj]at hi ⊢;rw[Mw hi];exact predAt_ok L i
theorem pred_pred{L:List (List Int)}(h:G4 L=true):A4 (A4 L)=L:=by
 obtain⟨h1,h2,h3⟩:=mayS_iff.1 h
 apply Xh (by rw[Dj,Dj])
 intro i hi hi'
 have e1:(A4 (A4 L))[i]=Ix (A4 L) L.length i:=by
  have:=Mw (L:=A4 L) (i:=i) (by rw[Dj];exact hi');rw[Ag _ _ _ hi,Dj]at this;exact this
 have e2:=Ag L i [] hi';rw[e1,<- e2];refine Xc (Aap _ _) (okL_pair (h3 i hi')) fun x=>?_;rw[show Ix (A4 L) L.length i=((List.range L.length).filter fun k=>T3 (A4 L) k i).map Int.ofNat from rfl,mem_filt]
 constructor
 ·rintro⟨k,rfl,hk,hg⟩;rw[goes_iff,Mw hk]at hg;obtain⟨j,hj,_,hg'⟩:=mem_filt.1 hg
  have:j=i:=by omega
  subst this;exact goes_iff.1 hg'
 ·intro hx;have hb:=R7 (h3 i hi') hx;refine⟨x.toNat,by omega,by omega,?_⟩;rw[goes_iff,Mw (by omega)];refine mem_filt.2 ⟨i,rfl,hi',?_⟩;rw[goes_iff,N3 hb.1];exact hx
theorem Aaw{L:List (List Int)}(h:G4 L=true):Ma ⟨A4 L,L⟩=true:=by
 simp[Ma,Vj h,pred_pred h]
theorem mem_sN{L:List (List Int)}(h:G4 L=true){x y:Nat}(hx:x<L.length):y∈sN L x↔(y:Int)∈L.getD x []:=by
 obtain⟨_,_,h3⟩:=mayS_iff.1 h;unfold sN;rw[zzL19]
 constructor
 ·rintro⟨z,hz,rfl⟩;have:=R7 (h3 x hx) hz;rw[N3 this.1];exact hz
 ·intro hy;exact⟨_,hy,Au y⟩
theorem rch_lt{L:List (List Int)}(h:G4 L=true){x y:Nat}(hr:Rch (sN L) x y)(hx:x<L.length):y<L.length:=by
 induction hr with
 | refl x=>exact hx
 | head hy _ ih=>exact ih (Nk h _ hx _ hy)
theorem ofN_at{l:List Nat}{i:Nat}(hi:i<l.length):(Ob l).getD i 0=((l[i]:Nat):Int):=by simp[Ob,List.getD,hi]
def mk(o:List Bool)(l:List Nat):List Bool:=l.foldl (fun o y=>o.set y true) o
theorem mk_len(l:List Nat):∀ o:List Bool,(mk o l).length=o.length:=by
 induction l with
 | nil=>intro o;rfl
 | cons y l ih=>intro o;show(mk (o.set y true) l).length=_;rw[ih,E5]
theorem mk_at{n:Nat}(l:List Nat):∀(o:List Bool),o.length=n->(∀ y∈l,y<n)->∀ z,(mk o l).getD z false=true↔o.getD z false=true\/z∈l:=by
 induction l with
 | nil=>intro o _ _ z;simp[mk]
 | cons y l ih=>
  intro o ho hl z
  show(mk (o.set y true) l).getD z false=true↔_
  rw[ih (o.set y true) (by rw[E5];exact ho) (fun u hu=>hl u (zzL15 _ hu)) z];have hy:=hl y (zzL39 ..)
  have e:(o.set y true).getD z false=true↔o.getD z false=true\/z=y:=by
   rw[Kp,List.getElem?_set,Kp]
   by_cases h:y=z
   ·subst h;simp[ho,hy]
   ·simp[h,Hj h]
  rw[e,zzL28]
  constructor
  ·rintro((h|h)|h)
   ·exact .inl h
   ·exact .inr (.inl h)
   ·exact .inr (.inr h)
  ·rintro(h|h|h)
   ·exact .inl (.inl h)
   ·exact .inl (.inr h)
   ·exact .inr h
def sw(S:Nat->List Nat)(o:List Bool):Nat->List Bool
 | 0=>o
 | i+1=>if(sw S o i).getD i false=true then mk (sw S o i) (S i) else sw S o i
def rds(S:Nat->List Nat)(n:Nat)(o:List Bool):Nat->List Bool
 | 0=>o
 | j+1=>sw S (rds S n o j) n
section
variable {S:Nat->List Nat} {n:Nat} (hS:∀ z,z<n->∀ y∈S z,y<n)
theorem Uq(o:List Bool):∀ i,(sw S o i).length=o.length:=by
 intro i
 induction i with
 | zero=>rfl
 | succ i ih=>unfold sw;split;rw[mk_len,ih];exact ih
theorem rds_len(o:List Bool):∀ j,(rds S n o j).length=o.length:=by
 intro j
 induction j with
 | zero=>rfl
 | succ j ih=>unfold rds;rw[Uq,ih]
include hS
theorem sw_mono{o:List Bool}(ho:o.length=n):∀ i,i<=n->∀ z,o.getD z false=true->(sw S o i).getD z false=true:=by
 intro i
 induction i with
 | zero=>intro _ z h;exact h
 | succ i ih=>
  intro hi z h;unfold sw
  split
  ·exact(mk_at (n:=n) _ _ (by rw[Uq];exact ho) (hS i (by omega)) z).2 (.inl (ih (by omega) z h))
  ·exact ih (by omega) z h
theorem sw_sound{o:List Bool}{r:Nat}(ho:o.length=n)(h:∀ z,o.getD z false=true->Rch S r z):∀ i,i<=n->∀ z,(sw S o i).getD z false=true->Rch S r z:=by
 intro i
 induction i with
 | zero=>intro _ z hz;exact h z hz
 | succ i ih=>
  intro hi z hz;unfold sw at hz
  split at hz
  ·rename_i hsi
   rcases(mk_at (n:=n) _ _ (by rw[Uq];exact ho) (hS i (by omega)) z).1 hz with h1|h1
   ·exact ih (by omega) z h1
   ·exact(ih (by omega) i hsi).tail h1
  ·exact ih (by omega) z hz
theorem sw_step{o:List Bool}(ho:o.length=n):∀ i,i<=n->∀ j,j<i->o.getD j false=true->∀ y∈S j,(sw S o i).getD y false=true:=by
 intro i
 induction i with
 | zero=>intro _ j hj;omega
 | succ i ih=>
  intro hi j hj hoj y hy;unfold sw
  by_cases hji:j=i
  ·subst hji;have h1:=sw_mono hS ho j (by omega) j hoj;rw[if_pos h1];exact(mk_at (n:=n) _ _ (by rw[Uq];exact ho) (hS j (by omega)) y).2 (.inr hy)
  ·have h1:=ih (by omega) j (by omega) hoj y hy
   split
   ·exact(mk_at (n:=n) _ _ (by rw[Uq];exact ho) (hS i (by omega)) y).2 (.inl h1)
   ·exact h1
theorem sw_closed{o:List Bool}(ho:o.length=n)(hc:∀ j,j<n->o.getD j false=true->∀ y∈S j,o.getD y false=true):∀ i,i<=n->∀ z,(sw S o i).getD z false=true->o.getD z false=true:=by
 intro i
 induction i with
 | zero=>intro _ z h;exact h
 | succ i ih=>
  intro hi z hz;unfold sw at hz
  split at hz
  ·rename_i hsi
   rcases(mk_at (n:=n) _ _ (by rw[Uq];exact ho) (hS i (by omega)) z).1 hz with h1|h1
   ·exact ih (by omega) z h1
   ·exact hc i (by omega) (ih (by omega) i hsi) z h1
  ·exact ih (by omega) z hz
theorem Ug{r:Nat}(hr:r<n)(z:Nat):(rds S n ((List.replicate n false).set r true) n).getD z false=true↔Rch S r z:=by
 let o0:=(List.replicate n false).set r true
 have ho0:o0.length=n:=by simp[o0]
 have hat0:∀ z,o0.getD z false=true↔z=r:=fun z=>by
  show((List.replicate n false).set r true).getD z false=true↔z=r
  rw[Kp,List.getElem?_set]
  by_cases h:r=z
  ·subst h;simp[hr]
  ·rw[if_neg h,<- Kp,Ni];simp[Hj h]
 have hlen:∀ j,(rds S n o0 j).length=n:=fun j=>by rw[rds_len,ho0]
 have hsound:∀ j z,(rds S n o0 j).getD z false=true->Rch S r z:=by
  intro j
  induction j with
  | zero=>intro z hz;rw[(hat0 z).1 hz];exact .refl _
  | succ j ih=>intro z hz;exact sw_sound hS (hlen j) ih n (zzL8 _) z hz
 have hmono:∀ j,∀ z,o0.getD z false=true->(rds S n o0 j).getD z false=true:=by
  intro j
  induction j with
  | zero=>intro z h;exact h
  | succ j ih=>intro z h;exact sw_mono hS (hlen j) n (zzL8 _) z (ih z h)
 let C:Nat->Prop:=fun j=>∀ i,i<n->(rds S n o0 j).getD i false=true->∀ y∈S i,(rds S n o0 j).getD y false=true
 have key:∀ j,C j\/cnt n (fun z=>(rds S n o0 j).getD z false)+j+1<=n:=by
  intro j
  induction j with
  | zero=>
   refine .inr ?_;have h1:=Vb (n:=n) (s:=fun _=>false) hr rfl
   have e:upd (fun _=>false) r=fun z=>(rds S n o0 0).getD z false:=by
    funext z
    rw[Lr,upd_true]
    show _↔o0.getD z false=true
    rw[hat0]
    simp
   rw[e]at h1
   have hcl:cnt n (fun _=>false)=n:=by
    unfold cnt;rw[List.filter_eq_self.2 (by simp)]
    simp
   omega
  | succ j ih=>
   by_cases hc:C j
   ·refine .inl fun i hi h y hy=>?_;have h1:=sw_closed hS (hlen j) hc n (zzL8 _) i h;exact sw_mono hS (hlen j) n (zzL8 _) y (hc i hi h1 y hy)
   ·rcases ih with ih|ih
    ·exact(hc ih).elim
    ·refine .inr ?_
     have hex:∃ i,i<n/\(rds S n o0 j).getD i false=true/\∃ y,y∈S i/\(rds S n o0 j).getD y false=false:=by
      simp only[C]at hc;simp only[Classical.not_forall]at hc;obtain⟨i,hi,h1,y,hy,h2⟩:=hc;exact⟨i,hi,h1,y,hy,by simpa using h2⟩
     obtain⟨i,hi,h1,y,hy,h2⟩:=hex;have h3:=sw_step hS (hlen j) n (zzL8 _) i hi h1 y hy;have hyn:=hS i hi y hy;have h4:=Vb (n:=n) (s:=fun z=>(rds S n o0 j).getD z false) hyn h2
     have h5:cnt n (fun z=>(rds S n o0 (j+1)).getD z false)<=cnt n (upd (fun z=>(rds S n o0 j).getD z false) y):=cnt_mono fun z hz=>by
      rcases upd_true.1 hz with rfl|hz
      ·exact h3
      ·exact sw_mono hS (hlen j) n (zzL8 _) z hz
     omega
 have hC:C n:=by
  rcases key n with h|h
  ·exact h
  ·omega
 constructor
 ·exact hsound n z
 ·intro hrch
  have hlt:∀ x z,Rch S x z->x<n->z<n/\((rds S n o0 n).getD x false=true->(rds S n o0 n).getD z false=true):=by
   intro x z hxz
   induction hxz with
   | refl x=>exact fun hx=>⟨hx,id⟩
   | @head x y z hy _ ih=>
    intro hx;have:=ih (hS x hx y hy);exact⟨this.1,fun h=>this.2 (hC x hx h y hy)⟩
  exact(hlt r z hrch hr).2 (hmono n r ((hat0 r).2 rfl))
end
theorem m_reach{L:List (List Int)}(hm:G4 L=true){r:Nat}(hr:r<L.length) :
  Fj (H3 L) (r:Int) (-1:Int)=some (rds (sN L) L.length ((List.replicate L.length false).set r true) L.length):=by
 obtain⟨h1,h2,h3⟩:=mayS_iff.1 hm
 have hroom:(1000:Nat)<=room:=by decide
 have hS:=Nk hm;have hgs:(H3 L).Succ=L:=rfl
 have hlenS:∀ a,(sN L a).length=(L.getD a []).length:=fun a=>by simp[sN]
 have hin:∀(o:List Bool) (i:Nat),o.length=L.length->i<L.length->An (Bn (H3 L) (-1) (i:Int)) ((0:Int),o)=some (if o.getD i false=true then mk o (sN L i) else o):=fun o i ho hi=>by
  have hb:=X8 (h3 i hi)
  by_cases hoi:o.getD i false=true
  ·rw[if_pos hoi];have hmi:∀ k,(mk o ((sN L i).take k)).getD i false=true:=fun k=>(mk_at (n:=L.length) _ _ ho (fun y hy=>hS i hi y (List.mem_of_mem_take hy)) i).2 (.inl hoi)
   have hml:∀ k,(mk o ((sN L i).take k)).length=L.length:=fun k=>by rw[mk_len,ho]
   refine Jp (Bn (H3 L) (-1) (i:Int)) (fun k=>(((k:Nat):Int),mk o ((sN L i).take k))) _ (L.getD i []).length (fun k hk=>?_) ?_
   ·show Bn (H3 L) (-1) (i:Int) (_,_)=_
    unfold Bn;obtain⟨a0,a1⟩:=W4 (h3 i hi) hk;simp only[hgs,Au,hmi];rw[Ae (Hz (by rw[hml];exact hi)),chk_imp (Hz hi),Aj,E8 hk,Aj,Ae (Hz hi),Ae (Hz hk)]
    have hne:((L.getD i []).getD k 0 !=(-1:Int))=true:=by rw[Pd];omega
    rw[hne,Aj,Ae (Hz hi),Ae (Hz hk),Ae ⟨a0,by rw[hml];exact a1⟩,w1 (by omega)]
    have e:mk o ((sN L i).take (k+1))=(mk o ((sN L i).take k)).set ((L.getD i []).getD k 0).toNat true:=by
     have hk':k<(sN L i).length:=by rw[hlenS];exact hk
     rw[zzL103 hk'];unfold mk;rw[List.foldl_append]
     have:(sN L i)[k]=((L.getD i []).getD k 0).toNat:=by rw[Ag _ _ _ hk];simp[sN]
     rw[this]
     rfl
    rw[e]
    rfl
   ·show Bn (H3 L) (-1) (i:Int) (_,_)=_
    unfold Bn;simp only[hgs,Au,hmi];rw[Ae (Hz (by rw[hml];exact hi)),chk_imp (Hz hi),Aj,I6,A0]
    have:(sN L i).take (L.getD i []).length=sN L i:=by rw[<- hlenS];exact Uv ..
    rw[this]
  ·have hof:o.getD i false=false:=by simpa using hoi
   rw[if_neg hoi]
   apply Aq
   unfold Bn;simp only[hgs,Au,hof];rw[Ae (Hz (by rw[ho];exact hi)),chk_imp (Hz hi),A0,A0]
 have hsw:∀ o:List Bool,o.length=L.length->An (B3 (H3 L) (-1)) ((0:Int),o)=some (sw (sN L) o L.length):=fun o ho=>by
  refine Jp (B3 (H3 L) (-1)) (fun i=>(((i:Nat):Int),sw (sN L) o i)) _ L.length (fun i hi=>?_) ?_
  ·show B3 (H3 L) (-1) (_,_)=_
   unfold B3
   have hl:(sw (sN L) o i).length=L.length:=by rw[Uq,ho]
   simp only[hl,E8 hi,Aj];rw[hin _ i hl hi,w1 (by omega)]
   rfl
  ·show B3 (H3 L) (-1) (_,_)=_
   unfold B3
   have hl:(sw (sN L) o L.length).length=L.length:=by rw[Uq,ho]
   simp only[hl,I6,A0]
 unfold Fj;simp only[hgs,Au];rw[Ae ⟨by omega,Int.le_refl _,by omega⟩]
 have hne:((r:Int)==(-1:Int))=false:=by rw[zzL37];omega
 rw[hne,A0,Ae (Hz (by simpa using hr))]
 have hl0:((List.replicate L.length false).set r true).length=L.length:=by simp
 have:An (B4 (H3 L) (-1)) ((0:Int),(List.replicate L.length false).set r true)=some (rds (sN L) L.length ((List.replicate L.length false).set r true) L.length):=by
  refine Jp (B4 (H3 L) (-1)) (fun j=>(((j:Nat):Int),rds (sN L) L.length ((List.replicate L.length false).set r true) j)) _ L.length (fun j hj=>?_) ?_
  ·show B4 (H3 L) (-1) (_,_)=_
   unfold B4
   have hl:(rds (sN L) L.length ((List.replicate L.length false).set r true) j).length=L.length:=by rw[rds_len,hl0]
   simp only[hl,E8 hj,Aj];rw[hsw _ hl,w1 (by omega)]
   rfl
  ·show B4 (H3 L) (-1) (_,_)=_
   unfold B4
   have hl:(rds (sN L) L.length ((List.replicate L.length false).set r true) L.length).length=L.length:=by rw[rds_len,hl0]
   simp only[hl,I6,A0]
 rw[this]
 rfl
def pos:List Nat->Nat->Nat
 | [],_=>0
 | x::l,z=>if x=z then 0 else pos l z+1
theorem pos_cons(x:Nat)(l:List Nat)(z:Nat):pos (x::l) z=if x=z then 0 else pos l z+1:=rfl
theorem pos_app{A l:List Nat}{z:Nat}(h:z∉A):pos (A++l) z=A.length+pos l z:=by
 induction A with
 | nil=>simp
 | cons x A ih=>
  have h1:x≠z:=fun e=>h (by rw[e];exact zzL39 ..);have h2:z∉A:=fun e=>h (zzL15 _ e);rw[Yq,pos_cons,if_neg h1,ih h2,U1];omega
theorem pos_get{P:List Nat}(hd:P.Nodup){i:Nat}(hi:i<P.length):P[i]∉P.take i/\pos P P[i]=i:=by
 have e:P=P.take i++P[i]::P.drop (i+1):=by rw[<- Uz hi,List.take_append_drop]
 have hn:P[i]∉P.take i:=by
  rw[e]at hd;have:=(List.nodup_append.1 hd).2.2;exact fun hm=>this _ hm _ (zzL39 ..) rfl
 refine⟨hn,?_⟩
 have h2:pos (P.take i++P[i]::P.drop (i+1)) P[i]=i:=by
  rw[pos_app hn]
  have:pos (P[i]::P.drop (i+1)) P[i]=0:=by rw[pos_cons,if_pos rfl]
  rw[this,Ph];omega
 rw[<- e]at h2;exact h2
end
end Go.Proofs.YtmkiepobhjiabaaGreat
