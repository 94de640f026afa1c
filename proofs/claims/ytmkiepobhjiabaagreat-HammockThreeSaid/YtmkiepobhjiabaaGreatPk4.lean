/-
  The machine, the program's functions and the laws' arithmetic: part 4 of 4.
-/
import Derived.Test.YtmkiepobhjiabaaGreatPk3
import Derived.Lib.RowBridge
import Derived.OpenShut
import Derived.ShutString
set_option linter.unusedVariables false
set_option linter.unusedSimpArgs false
namespace Go.Proofs.YtmkiepobhjiabaaGreat
noncomputable section
open Go Go.RowKit
set_option maxRecDepth 100000
set_option maxHeartbeats 2000000
def Er(aW:Int)(aJ:Aa):(Int×List Int×Int×List Aa×Int×List Int×List Ao×List (Int×Ak))->Option (LR (Int×List Int×Int×List Aa×Int×List Int×List Ao×List (Int×Ak)) ((List Int×Int×List Aa×Int×List Int×List Ao×List (Int×Ak)) ⊕ (Bool×Ae×Int×List Int×List Ao×List (Int×Ak)))):=
 fun((i1,l2,i3,l4,i5,l6,l7,l8):(Int×List Int×Int×List Aa×Int×List Int×List Ao×List (Int×Ak)))=>(bif (decide (i1<(aJ.Phis.length:Int))) then(Bi (Bk i1 aJ.Phis.length) ((Db ((aJ.Phis.getD i1.toNat default).Bits)).bind fun x17=>((C3 ((aJ.Phis.getD i1.toNat default).Dst) x17 (⟨aW,(-1:Int)⟩:Ee) (⟨l2,i3,l4⟩:Ae) i5 l6 l8 l7).bind fun x18=>(bif (!x18.1) then(some (.done (.inr (false,x18.2.1,x18.2.2.1,x18.2.2.2.1,x18.2.2.2.2.1,x18.2.2.2.2.2)))) else(some (.next ((A8 (i1+1)),x18.2.1.Params,x18.2.1.Ret,x18.2.1.Blocks,x18.2.2.1,x18.2.2.2.1,x18.2.2.2.2.1,x18.2.2.2.2.2))))))) else(some (.done (.inl (l2,i3,l4,i5,l6,l7,l8)))))
def Es(aW:Int)(aJ:Aa):(Int×List Int×Int×List Aa×Int×List Int×List Ao×List (Int×Ak))->Option (LR (Int×List Int×Int×List Aa×Int×List Int×List Ao×List (Int×Ak)) ((List Int×Int×List Aa×Int×List Int×List Ao×List (Int×Ak)) ⊕ (Bool×Ae×Int×List Int×List Ao×List (Int×Ak)))):=
 fun((i21,l22,i23,l24,i25,l26,l27,l28):(Int×List Int×Int×List Aa×Int×List Int×List Ao×List (Int×Ak)))=>(bif (decide (i21<(aJ.Ops.length:Int))) then(Bi (Bk i21 aJ.Ops.length) ((Me (aJ.Ops.getD i21.toNat default)).bind fun x37=>((bif ((decide (((0:Int):Int)<x37.1))==true) then C3 ((aJ.Ops.getD i21.toNat default).Dst) (x37.1,x37.2) (⟨aW,i21⟩:Ee) (⟨l22,i23,l24⟩:Ae) i25 l26 l28 l27 else some (false,(default:Ae),(0:Int),[],[],[])).bind fun x38=>(bif (bif (decide (((0:Int):Int)<x37.1)) then(!x38.1) else false) then(some (.done (.inr (false,(⟨(bif ((decide (((0:Int):Int)<x37.1))==true) then x38.2.1.Params else l22),(bif ((decide (((0:Int):Int)<x37.1))==true) then x38.2.1.Ret else i23),(bif ((decide (((0:Int):Int)<x37.1))==true) then x38.2.1.Blocks else l24)⟩:Ae),(bif ((decide (((0:Int):Int)<x37.1))==true) then x38.2.2.1 else i25),(bif ((decide (((0:Int):Int)<x37.1))==true) then x38.2.2.2.1 else l26),(bif ((decide (((0:Int):Int)<x37.1))==true) then x38.2.2.2.2.1 else l27),(bif ((decide (((0:Int):Int)<x37.1))==true) then x38.2.2.2.2.2 else l28))))) else(some (.next ((A8 (i21+1)),(bif ((decide (((0:Int):Int)<x37.1))==true) then x38.2.1.Params else l22),(bif ((decide (((0:Int):Int)<x37.1))==true) then x38.2.1.Ret else i23),(bif ((decide (((0:Int):Int)<x37.1))==true) then x38.2.1.Blocks else l24),(bif ((decide (((0:Int):Int)<x37.1))==true) then x38.2.2.1 else i25),(bif ((decide (((0:Int):Int)<x37.1))==true) then x38.2.2.2.1 else l26),(bif ((decide (((0:Int):Int)<x37.1))==true) then x38.2.2.2.2.1 else l27),(bif ((decide (((0:Int):Int)<x37.1))==true) then x38.2.2.2.2.2 else l28)))))))) else(some (.done (.inl (l22,i23,l24,i25,l26,l27,l28)))))
def F3(Γ:Du)(aW:Int)(aJ:Aa)(a1:Ae)(a7:Int)(a8:List Int)(a6:List (Int×Ak))(a4:List Ao)(r:(Bool×Ae×Int×List Int×List Ao×List (Int×Ak))):Exit->St->Prop:=fK Tryz.prog Γ Tryz.f113.results.toList [(Z1 a1.Params a1.Ret a1.Blocks a7 a8 9100005 a4),(J6 a4.length),(9100005,.obj (.map true .i64 (Bu (fun(v_:Ak)=>((Lt v_):AV)) a6)))] (.bool r.1) [(Z1 r.2.1.Params r.2.1.Ret r.2.1.Blocks r.2.2.1 r.2.2.2.1 9100005 r.2.2.2.2.1),(J6 r.2.2.2.2.1.length),(9100005,.obj (.map true .i64 (Bu (fun(v_:Ak)=>((Lt v_):AV)) r.2.2.2.2.2)))]
def T3(x37:(Int×Int)):=((decide (((0:Int):Int)<x37.1))==true)
def Q85:=(fun(v_:Ak)=>((Lt v_):AV))
def Q88(x37:(Int×Int))(x38:(Bool×Ae×Int×List Int×List Ao×List (Int×Ak)))(l26:List Int):AV:=(Z11 (T3 x37) x38.2.2.2.1 l26)
def Q89(x37:(Int×Int))(x38:(Bool×Ae×Int×List Int×List Ao×List (Int×Ak)))(l24:List Aa):AV:=(Z33 (T3 x37) x38.2.1.Blocks l24)
def Q87(x37:(Int×Int))(x38:(Bool×Ae×Int×List Int×List Ao×List (Int×Ak)))(l22:List Int):AV:=(Z11 (T3 x37) x38.2.1.Params l22)
def Dj(aW:Int)(aJ:Aa)(a1:Ae)(a7:Int)(a8:List Int)(a6:List (Int×Ak))(a4:List Ao):Option (Bool×Ae×Int×List Int×List Ao×List (Int×Ak)):=
 ((Bd (Er aW aJ) ((0:Int),a1.Params,a1.Ret,a1.Blocks,a7,a8,a4,a6)).bind (fun x19=>(match x19 with|(.inl (l9,i10,l11,i12,l13,l14,l15))=>((Bd (Es aW aJ) ((0:Int),l9,i10,l11,i12,l13,l14,l15)).bind (fun x39=>(match x39 with|(.inl (l29,i30,l31,i32,l33,l34,l35))=>(some (true,(⟨l29,i30,l31⟩:Ae),i32,l33,l34,l35))|(.inr r41)=>(some r41))))|(.inr r42)=>(some r42))))
theorem Jx(aW:Int)(aJ:Aa)(a1:Ae)(a7:Int)(a8:List Int)(a6:List (Int×Ak))(a4:List Ao)(r:(Bool×Ae×Int×List Int×List Ao×List (Int×Ak)))(h:Dj aW aJ a1 a7 a8 a6 a4=some r):Spec Tryz.prog 113 [Yx,(Z7 aW),(.agg (Bj aJ))] [(Z1 a1.Params a1.Ret a1.Blocks a7 a8 9100005 a4),(J6 a4.length),(9100005,.obj (.map true .i64 (Bu (fun(v_:Ak)=>((Lt v_):AV)) a6)))] (.bool r.1) [(Z1 r.2.1.Params r.2.1.Ret r.2.1.Blocks r.2.2.1 r.2.2.2.1 9100005 r.2.2.2.2.1),(J6 r.2.2.2.2.1.length),(9100005,.obj (.map true .i64 (Bu (fun(v_:Ak)=>((Lt v_):AV)) r.2.2.2.2.2)))]:=by
 refine Af mix Tryz.func113 (fun Γ hq=>?_);unfold Dj at h;refine Am hq V3 Tk ?_;refine Am hq zzN77 Tk ?_;obtain⟨x19,hx19,h⟩:=bind_some h;refine gL hq hx19 zzN77 Tk (fun u (i1,l2,i3,l4,i5,l6,l7,l8)=>(Df u [(16,(Z7 i1))] [(Z1 l2 i3 l4 i5 l6 9100005 l7),(J6 l7.length),(9100005,.obj (.map true .i64 (Bu Q85 l8)))])) (fun u x_=>match x_ with|(.inl (l9,i10,l11,i12,l13,l14,l15))=>aG Γ (.exit 0) (Ud V3 Tk u [] [(Z1 l9 i10 l11 i12 l13 9100005 l14),(J6 l14.length),(9100005,.obj (.map true .i64 (Bu Q85 l15)))])|(.inr r_)=>aR (F3 Γ aW aJ a1 a7 a8 a6 a4 r_)) ?_ ?_
 ·rintro⟨i1,l2,i3,l4,i5,l6,l7,l8⟩ y h;unfold Er at h;refine Am hq [0,1,5,14,15,16,17] Tk ?_;refine gC h ?_ ?_<;>intro h
  ·obtain⟨hc16,h⟩:=Ad h;refine gR hq [0,1,5,8,14,15,16] [5,8,30000,37006,9100005] [] [] (c1 hc16) ?_;obtain⟨x17,hx17,h⟩:=bind_some h;obtain⟨x18,hx18,h⟩:=bind_some h;refine gR hq [0,1,5,14,15,16,29] Tk [] [(Z48 x17),⟨Pf,[],(.bool x18.1),[(Z1 x18.2.1.Params x18.2.1.Ret x18.2.1.Blocks x18.2.2.1 x18.2.2.2.1 9100005 x18.2.2.2.2.1),(J6 x18.2.2.2.2.1.length),(9100005,.obj (.map true .i64 (Bu Q85 x18.2.2.2.2.2)))],[],[]⟩] (ci (Eu ((aJ.Phis.getD i1.toNat default).Bits) x17 hx17) (c1 (G8 ((aJ.Phis.getD i1.toNat default).Dst) x17 (⟨aW,(-1:Int)⟩:Ee) (⟨l2,i3,l4⟩:Ae) i5 l6 l8 l7 x18 hx18))) ?_;refine gC h ?_ ?_<;>intro h
   ·refine Am hq [6] Cy ?_;cases h;exact gO (Ms (Ig Pf (Le.refl _ _)))
   ·refine Am hq zzN77 Tk ?_;cases h;exact gN De
  ·cases h;exact gO (Ck (Cn V3 Tk hq))
 ·clear hx19;rcases x19 with⟨l9,i10,l11,i12,l13,l14,l15⟩|r42
  ·refine gA ?_;refine Am hq zzN89 Cy ?_;obtain⟨x39,hx39,h⟩:=bind_some h;refine gL hq hx39 zzN89 Cy (fun u (i21,l22,i23,l24,i25,l26,l27,l28)=>(Df u [(34,(Z7 i21))] [(Z1 l22 i23 l24 i25 l26 9100005 l27),(J6 l27.length),(9100005,.obj (.map true .i64 (Bu Q85 l28)))])) (fun u x_=>match x_ with|(.inl (l29,i30,l31,i32,l33,l34,l35))=>aG Γ (.exit 2) (⟨[],[(Z1 l29 i30 l31 i32 l33 9100005 l34),(J6 l34.length),(9100005,.obj (.map true .i64 (Bu Q85 l35)))],[]⟩:St)|(.inr r_)=>aR (F3 Γ aW aJ a1 a7 a8 a6 a4 r_)) ?_ ?_
   ·rintro⟨i21,l22,i23,l24,i25,l26,l27,l28⟩ y h;unfold Es at h;refine Am hq [0,1,32,33,34,35] Cy ?_;refine gC h ?_ ?_<;>intro h
    ·obtain⟨hc36,h⟩:=Ad h;refine gR hq [0,1,9,10,32,33,34] zzN90 [] [] (c1 hc36) ?_;obtain⟨x37,hx37,h⟩:=bind_some h;refine gR hq [0,1,9,10,11,12,32,33,34] zzN90 [] [⟨[],[],(.tuple [(Z7 x37.1),(Z7 x37.2)]),[],[],[]⟩] (c1 (Wu (aJ.Ops.getD i21.toNat default) x37 hx37)) ?_;obtain⟨x38,hx38,h⟩:=bind_some h;refine gR hq [0,1,32,33,34,58] Cy [] [⟨Pf,[],(.bool x38.1),[(Z1 x38.2.1.Params x38.2.1.Ret x38.2.1.Blocks x38.2.2.1 x38.2.2.2.1 9100005 x38.2.2.2.2.1),(J6 x38.2.2.2.2.1.length),(9100005,.obj (.map true .i64 (Bu Q85 x38.2.2.2.2.2)))],[],[]⟩] (ci (gI (T3 x37)) (ci (gI (T3 x37)) (ci (gI (T3 x37)) (ci (gI (T3 x37)) (ci (gI (T3 x37)) (ci (gI (T3 x37)) (ci (gI (T3 x37)) (ci (gI (T3 x37)) (ci (gI (T3 x37)) (ci (fun(hg:(T3 x37)=true)=>(G8 ((aJ.Ops.getD i21.toNat default).Dst) (x37.1,x37.2) (⟨aW,i21⟩:Ee) (⟨l22,i23,l24⟩:Ae) i25 l26 l28 l27 x38 (Bn hg hx38))) (ci (gI (T3 x37)) (c1 (Kr (decide (((0:Int):Int)<x37.1))))))))))))))) ?_;refine I6 (Le.trans (O3 (fun(k_:List (Int×AV)) u=>Df u [] [(9100005,.obj (.map true .i64 k_))]) (show(bif (T3 x37) then(Bu Q85 x38.2.2.2.2.2) else(Bu Q85 l28))=(Bu Q85 (bif (T3 x37) then x38.2.2.2.2.2 else l28)) from(bif_mapE rfl rfl))) (Le.trans (leB (fun g_ u=>(Df u [] [(30000,.row 103 [(Q87 x37 x38 l22),(Z45 (T3 x37) x38.2.1.Ret i23),(Q89 x37 x38 l24),(Z45 (T3 x37) x38.2.2.1 i25),(Q88 x37 x38 l26),(.omap 9100005),(Z17 g_ x38.2.2.2.2.1 l27)]),(37006,.tok 5 149 (bif g_ then x38.2.2.2.2.1.length else l27.length))])) (fun g_ u=>(Df u [] [(30000,.row 103 [(Q87 x37 x38 l22),(Z45 (T3 x37) x38.2.1.Ret i23),(Q89 x37 x38 l24),(Z45 (T3 x37) x38.2.2.1 i25),(Q88 x37 x38 l26),(.omap 9100005),(AV.list 5 F4 default (bif g_ then x38.2.2.2.2.1 else l27) (.own 37006))]),(37006,.tok 5 149 ((bif g_ then x38.2.2.2.2.1 else l27).length))])) (T3 x37)) (Le.trans (leC 30000 0 (show AVle (Q87 x37 x38 l22) (AV.list 1 Aq 0 (bif (T3 x37) then x38.2.1.Params else l22) .none) from Dn)) (Le.trans (leC 30000 2 (show AVle (Q89 x37 x38 l24) (AV.list 5 Bj default (bif (T3 x37) then x38.2.1.Blocks else l24) .none) from Dn)) (leC 30000 4 (show AVle (Q88 x37 x38 l26) (AV.list 1 Aq 0 (bif (T3 x37) then x38.2.2.2.1 else l26) .none) from Dn)))))) ?_;refine gC h ?_ ?_<;>intro h
     ·refine Am hq [6] Cy ?_;cases h;exact gO (Ms (Ig Pf (Le.refl _ _)))
     ·refine Am hq zzN89 Cy ?_;cases h;exact gN De
    ·cases h;exact gO (Ck (Cn [] Cy hq))
   ·clear hx39;rcases x39 with⟨l29,i30,l31,i32,l33,l34,l35⟩|r41
    ·refine gA ?_;refine Am hq [6] Cy ?_;cases h;exact B6 Pf
    ·refine Qe (fun st' hk=>?_);obtain rfl:=OI h;exact gK hk
  ·refine Qe (fun st' hk=>?_);obtain rfl:=OI h;exact gK hk
def Fh(a1:Ae):(Int×List (Int×Ak))->Option (LR (Int×List (Int×Ak)) (List (Int×Ak))):=
 fun((i1,l2):(Int×List (Int×Ak)))=>(bif (decide (i1<(a1.Params.length:Int))) then(Bi (Bk i1 a1.Params.length) ((Db (a1.Params.getD i1.toNat 0)).bind fun x5=>(some (.next ((A8 (i1+1)),(H5 l2 (A8 (i1+1)) (⟨x5,(⟨(0:Int),(-1:Int)⟩:Ee)⟩:Ak))))))) else(some (.done l2)))
def Fi(a1:Ae):(Int×List (Int×Ak)×List Int×Int×List Aa×Int×List Int×List Ao)->Option (LR (Int×List (Int×Ak)×List Int×Int×List Aa×Int×List Int×List Ao) ((List (Int×Ak)×List Int×Int×List Aa×Int×List Int×List Ao) ⊕ (Int×Ae×Int×List Int×List Ao×List (Int×Ak)))):=
 fun((i8,l9,l10,i11,l12,i13,l14,l15):(Int×List (Int×Ak)×List Int×Int×List Aa×Int×List Int×List Ao))=>(bif (decide (i8<(a1.Blocks.length:Int))) then(Bi (Bk i8 a1.Blocks.length) ((Dj i8 (a1.Blocks.getD i8.toNat default) (⟨l10,i11,l12⟩:Ae) i13 l14 l9 l15).bind fun x24=>(bif (!x24.1) then(some (.done (.inr ((7:Int),x24.2.1,x24.2.2.1,x24.2.2.2.1,x24.2.2.2.2.1,x24.2.2.2.2.2)))) else(some (.next ((A8 (i8+1)),x24.2.2.2.2.2,x24.2.1.Params,x24.2.1.Ret,x24.2.1.Blocks,x24.2.2.1,x24.2.2.2.1,x24.2.2.2.2.1)))))) else(some (.done (.inl (l9,l10,i11,l12,i13,l14,l15)))))
def K8(Γ:Du)(a1:Ae)(a7:Int)(a8:List Int)(a4:List Ao)(r:(Int×Ae×Int×List Int×List Ao×List (Int×Ak))):Exit->St->Prop:=fK Tryz.prog Γ Tryz.f92.results.toList (Z3 a1.Params a1.Ret a1.Blocks a7 a8 a4 a4.length) (Z7 r.1) [(Z1 r.2.1.Params r.2.1.Ret r.2.1.Blocks r.2.2.1 r.2.2.2.1 9200005 r.2.2.2.2.1),(J6 r.2.2.2.2.1.length),(9200005,.obj (.map false .i64 (Bu (fun(v_:Ak)=>((Lt v_):AV)) r.2.2.2.2.2)))]
def Q90:=(fun(v_:Ak)=>((Lt v_):AV))
def Q91(l16:List (Int×Ak))(l17:List Int)(i18:Int)(l19:List Aa)(i20:Int)(l21:List Int)(l22:List Ao):List (Nat×Own):=[(8,.obj (.map true .i64 (Bu Q90 l16))),(Z21 l17 i18 l19 i20 l21 l22),(J6 l22.length)]
def Dx(a1:Ae)(a7:Int)(a8:List Int)(a4:List Ao):Option (Int×Ae×Int×List Int×List Ao×List (Int×Ak)):=
 ((Bd (Fh a1) ((0:Int),([]:List (Int×Ak)))).bind (fun x6=>((Bd (Fi a1) ((0:Int),x6,a1.Params,a1.Ret,a1.Blocks,a7,a8,a4)).bind (fun x25=>(match x25 with|(.inl (l16,l17,i18,l19,i20,l21,l22))=>(some ((0:Int),(⟨l17,i18,l19⟩:Ae),i20,l21,l22,l16))|(.inr r27)=>(some r27))))))
theorem Ky(a1:Ae)(a7:Int)(a8:List Int)(a4:List Ao)(r:(Int×Ae×Int×List Int×List Ao×List (Int×Ak)))(h:Dx a1 a7 a8 a4=some r):Spec Tryz.prog 92 [Yx] (Z3 a1.Params a1.Ret a1.Blocks a7 a8 a4 a4.length) (Z7 r.1) [(Z1 r.2.1.Params r.2.1.Ret r.2.1.Blocks r.2.2.1 r.2.2.2.1 9200005 r.2.2.2.2.1),(J6 r.2.2.2.2.1.length),(9200005,.obj (.map false .i64 (Bu (fun(v_:Ak)=>((Lt v_):AV)) r.2.2.2.2.2)))]:=by
 refine Af mix Tryz.func92 (fun Γ hq=>?_);unfold Dx at h;refine Am hq [0] C0 ?_;refine Am hq [0] Mp ?_;refine I6 (O3 (fun(k_:List (Int×AV)) u=>Df u [] [(8,.obj (.map true .i64 k_))]) (show[]=(Bu Q90 ([]:List (Int×Ak))) from rfl)) ?_;refine Am hq zzN80 Mp ?_;obtain⟨x6,hx6,h⟩:=bind_some h;refine gL hq hx6 zzN80 Mp (fun u (i1,l2)=>(Df u [(17,(Z7 i1))] [(8,.obj (.map true .i64 (Bu Q90 l2)))])) (fun u l3=>aG Γ (.exit 0) (Ud [0] Mp u [] [(8,.obj (.map true .i64 (Bu Q90 l3)))])) ?_ ?_
 ·rintro⟨i1,l2⟩ y h;unfold Fh at h;refine Am hq [0,15,16,17,18] Mp ?_;refine gC h ?_ ?_<;>intro h
  ·obtain⟨hc4,h⟩:=Ad h;refine gR hq [0,3,4,15,16,17] Mp [] [] (c1 hc4) ?_;obtain⟨x5,hx5,h⟩:=bind_some h;refine gR hq zzN80 Mp [] [(Z48 x5)] (c1 (Eu (a1.Params.getD i1.toNat 0) x5 hx5)) ?_;refine I6 (O3 (fun(k_:List (Int×AV)) u=>Df u [] [(8,.obj (.map true .i64 k_))]) (show(H5 (Bu Q90 l2) (A8 (i1+1)) (.agg [(Z7 x5.1),(Z7 x5.2),W4,(.int .i64 (-1:Int))]))=(Bu Q90 (H5 l2 (A8 (i1+1)) (⟨x5,(⟨(0:Int),(-1:Int)⟩:Ee)⟩:Ak))) from(mset_eq (f:=Q90) (l:=l2) (v:=(⟨x5,(⟨(0:Int),(-1:Int)⟩:Ee)⟩:Ak)) rfl rfl))) ?_;refine Am hq zzN80 Mp ?_;cases h;exact gN De
  ·cases h;exact gO (Ck (Cn [0] Mp hq))
 ·clear hx6;refine gA ?_;refine Am hq zzN110 Mp ?_;obtain⟨x25,hx25,h⟩:=bind_some h;refine gL hq hx25 zzN110 Mp (fun u (i8,l9,l10,i11,l12,i13,l14,l15)=>(Df u [(39,(Z7 i8))] [(8,.obj (.map true .i64 (Bu Q90 l9))),(Z21 l10 i11 l12 i13 l14 l15),(J6 l15.length)])) (fun u x_=>match x_ with|(.inl (l16,l17,i18,l19,i20,l21,l22))=>aG Γ (.exit 2) (⟨[],(Q91 l16 l17 i18 l19 i20 l21 l22),[]⟩:St)|(.inr r_)=>aR (K8 Γ a1 a7 a8 a4 r_)) ?_ ?_
  ·rintro⟨i8,l9,l10,i11,l12,i13,l14,l15⟩ y h;unfold Fi at h;refine Am hq [0,37,38,39,40] Mp ?_;refine gC h ?_ ?_<;>intro h
   ·obtain⟨hc23,h⟩:=Ad h;refine gR hq [0,5,6,37,38,39] [6,8,30000,37006] [] [] (c1 hc23) ?_;obtain⟨x24,hx24,h⟩:=bind_some h;refine gR hq [0,37,38,39,48] Mp [] [⟨[(30000,30000),(37006,37006),(8,9100005)],[],(.bool x24.1),[(Z1 x24.2.1.Params x24.2.1.Ret x24.2.1.Blocks x24.2.2.1 x24.2.2.2.1 9100005 x24.2.2.2.2.1),(J6 x24.2.2.2.2.1.length),(9100005,.obj (.map true .i64 (Bu Q90 x24.2.2.2.2.2)))],[],[]⟩] (c1 (Jx i8 (a1.Blocks.getD i8.toNat default) (⟨l10,i11,l12⟩:Ae) i13 l14 l9 l15 x24 hx24)) ?_;refine gC h ?_ ?_<;>intro h
    ·refine Am hq [2] Mp ?_;refine Q0 (⟨[(2,(.int .i64 (7:Int)))],[(8,.obj (.map true .i64 (Bu Q90 x24.2.2.2.2.2))),(Z21 x24.2.1.Params x24.2.1.Ret x24.2.1.Blocks x24.2.2.1 x24.2.2.2.1 x24.2.2.2.2.1),(J6 x24.2.2.2.2.1.length)],[]⟩:St) ?_;cases h;exact gO (Ms (Ig zzN52 (Le.trans (le_obj (nm:=8) (.map false .i64 (Bu Q90 x24.2.2.2.2.2)) rfl (fun _ _ _ _ h_=>Aa2 h_)) (Cn (st':=⟨[(2,(.int .i64 (7:Int)))],[(8,.obj (.map false .i64 (Bu Q90 x24.2.2.2.2.2))),(Z21 x24.2.1.Params x24.2.1.Ret x24.2.1.Blocks x24.2.2.1 x24.2.2.2.1 x24.2.2.2.2.1),(J6 x24.2.2.2.2.1.length)],[]⟩) [2] Mp hq))))
    ·refine Am hq zzN110 Mp ?_;cases h;exact gN De
   ·cases h;exact gO (Ck (Cn [] Mp hq))
  ·clear hx25;rcases x25 with⟨l16,l17,i18,l19,i20,l21,l22⟩|r27
   ·refine gA ?_;refine Am hq [2] Mp ?_;refine Q0 (⟨[(2,W4)],(Q91 l16 l17 i18 l19 i20 l21 l22),[]⟩:St) ?_;cases h;exact gK (e:=.ret) (Ig zzN52 (Le.trans (le_obj (nm:=8) (.map false .i64 (Bu Q90 l16)) rfl (fun _ _ _ _ h_=>Aa2 h_)) (Cn (st':=⟨[(2,W4)],[(8,.obj (.map false .i64 (Bu Q90 l16))),(Z21 l17 i18 l19 i20 l21 l22),(J6 l22.length)],[]⟩) [2] Mp hq)))
   ·refine Qe (fun st' hk=>?_);obtain rfl:=OI h;exact gK hk
def Cz(aW:Int)(a1:Ae)(a7:Int)(a8:List Int)(a6:List (Int×Ak))(a4:List Ao):Option (Ee×Ae×Int×List Int×List Ao):=
 (Bi (Bk aW a1.Blocks.length) (some ((⟨aW,(((a1.Blocks.getD aW.toNat default).Ops).length:Int)⟩:Ee),a1,a7,a8,a4)))
theorem Ft(aW:Int)(a1:Ae)(a7:Int)(a8:List Int)(a6:List (Int×Ak))(a4:List Ao)(r:(Ee×Ae×Int×List Int×List Ao))(h:Cz aW a1 a7 a8 a6 a4=some r):Spec Tryz.prog 146 [Yx,(Z7 aW)] [(Z1 a1.Params a1.Ret a1.Blocks a7 a8 9100005 a4),(J6 a4.length),(9100005,.obj (.map false .i64 (Bu (fun(v_:Ak)=>((Lt v_):AV)) a6)))] (.agg (T9 r.1)) [(Z1 r.2.1.Params r.2.1.Ret r.2.1.Blocks r.2.2.1 r.2.2.2.1 9100005 r.2.2.2.2),(J6 r.2.2.2.2.length),(9100005,.obj (.map false .i64 (Bu (fun(v_:Ak)=>((Lt v_):AV)) a6)))]:=by
 refine Af mix Tryz.func146 (fun Γ hq=>?_);unfold Cz at h;refine Am hq [0,1,4] zzN94 ?_;obtain⟨hc1,h⟩:=Ad h;refine gR hq [4] zzN94 [] [] (c1 hc1) ?_;cases h;exact B6 Pf
def Ch(aD:Int)(aY:(Int×Int))(aC:Ee)(a1:Ae)(a7:Int)(a8:List Int)(a6:List (Int×Ak))(a4:List Ao):Option (Ae×Int×List Int×List Ao):=
 (Bi (a4.length+([(⟨aD,aY,aC⟩:Ao)]:List Ao).length<=room) (some (a1,a7,a8,(a4++([(⟨aD,aY,aC⟩:Ao)]:List Ao)))))
theorem Dq(aD:Int)(aY:(Int×Int))(aC:Ee)(a1:Ae)(a7:Int)(a8:List Int)(a6:List (Int×Ak))(a4:List Ao)(r:(Ae×Int×List Int×List Ao))(h:Ch aD aY aC a1 a7 a8 a6 a4=some r):Spec Tryz.prog 145 [Yx,(Z7 aD),(.agg (Bc aY)),(.agg (T9 aC))] [(Z1 a1.Params a1.Ret a1.Blocks a7 a8 9100005 a4),(J6 a4.length),(9100005,.obj (.map false .i64 (Bu (fun(v_:Ak)=>((Lt v_):AV)) a6)))] (.tuple []) [(Z1 r.1.Params r.1.Ret r.1.Blocks r.2.1 r.2.2.1 9100005 r.2.2.2),(J6 r.2.2.2.length),(9100005,.obj (.map false .i64 (Bu (fun(v_:Ak)=>((Lt v_):AV)) a6)))]:=by
 refine Af mix Tryz.func145 (fun Γ hq=>?_);unfold Ch at h;refine Am hq [0,1,6,7] zzN40 ?_;obtain⟨hc1,h⟩:=Ad h;refine gR hq [] Cy [(17,(AV.list 5 F4 default ([(⟨aD,aY,aC⟩:Ao)]:List Ao) .exact)),(18,(AV.list 5 F4 default (a4++([(⟨aD,aY,aC⟩:Ao)]:List Ao)) (.own 37006)))] [] (ci (A6 5 F4 (default:Ao) ([(⟨aD,aY,aC⟩:Ao)]:List Ao)) (ci (Eq.refl a4.length) (ci hc1 (ci (Lu 5 37006 F4 (default:Ao) a4 ([(⟨aD,aY,aC⟩:Ao)]:List Ao)) (c1 (Dp a4 ([(⟨aD,aY,aC⟩:Ao)]:List Ao))))))) ?_;cases h;exact gK (e:=.normal) (Ig Pf (Le.refl _ _))
def Q92:List (Nat×AV):=[(2,Z27)]
def Mg(a0:Aj):Option (List (Int×Int)):=
 ((Jr a0).bind fun x1=>(bif (!x1) then(some ([]:List (Int×Int))) else((I8 a0).bind fun x2=>(some x2))))
theorem Ww(a0:Aj)(r:List ((Int×Int)))(h:Mg a0=some r):Spec Tryz.prog 147 [(.agg (Eh a0))] [] (Z5 r) []:=by
 refine Af mix Tryz.func147 (fun Γ hq=>?_);unfold Mg at h;refine gR hq [1] [1] Q92 [] (c1 (C1 2 Bc ((0:Int),(0:Int)))) ?_;obtain⟨x1,hx1,h⟩:=bind_some h;refine gR hq [1,5] [1] [] [(Z2 x1)] (c1 (Oa a0 x1 hx1)) ?_;refine gC h ?_ ?_<;>intro h
 ·refine gR hq [2] [] Q92 [] (c1 (C1 2 Bc ((0:Int),(0:Int)))) ?_;refine Q0 (⟨Q92,[],[]⟩:St) ?_;cases h;exact gK (e:=.ret) (Ig [] (show Le Γ _ (⟨[(2,(AV.list 2 Bc ((0:Int),(0:Int)) ([]:List (Int×Int)) .none))],[],[]⟩:St) from Le.trans (Cn (st':=⟨Q92,[],[]⟩) [2] [] hq) (Mx (.cons AVle.untag .nil) .nil)))
 ·obtain⟨x2,hx2,h⟩:=bind_some h;refine gR hq [2] [] [] [(Z30 x2)] (c1 (Pv a0 x2 hx2)) ?_;obtain rfl:=OI h;exact B6 []
def Fc(a1:Ae)(a6:List (Int×Ak))(i1:Int)(i21:Int):(Int×List Int×Int×List Aa×Int×List Int×List Ao)->Option (LR (Int×List Int×Int×List Aa×Int×List Int×List Ao) (List Int×Int×List Aa×Int×List Int×List Ao)):=
 fun((i35,l36,i37,l38,i39,l40,l41):(Int×List Int×Int×List Aa×Int×List Int×List Ao))=>(bif (decide (i35<(((((a1.Blocks.getD i1.toNat default).Phis).getD i21.toNat default).Args).length:Int))) then(Bi (Bk i35 ((((a1.Blocks.getD i1.toNat default).Phis).getD i21.toNat default).Args).length) ((Db ((((a1.Blocks.getD i1.toNat default).Phis).getD i21.toNat default).Bits)).bind fun x49=>(Bi (Bk i35 ((((a1.Blocks.getD i1.toNat default).Phis).getD i21.toNat default).From).length) ((Cz (((((a1.Blocks.getD i1.toNat default).Phis).getD i21.toNat default).From).getD i35.toNat 0) (⟨l36,i37,l38⟩:Ae) i39 l40 a6 l41).bind fun x51=>((Ch (((((a1.Blocks.getD i1.toNat default).Phis).getD i21.toNat default).Args).getD i35.toNat 0) x49 x51.1 x51.2.1 x51.2.2.1 x51.2.2.2.1 a6 x51.2.2.2.2).bind fun x52=>(some (.next ((A8 (i35+1)),x52.1.Params,x52.1.Ret,x52.1.Blocks,x52.2.1,x52.2.2.1,x52.2.2.2)))))))) else(some (.done (l36,i37,l38,i39,l40,l41))))
def Fd(a1:Ae)(a6:List (Int×Ak))(i1:Int):(Int×List Int×Int×List Aa×Int×List Int×List Ao)->Option (LR (Int×List Int×Int×List Aa×Int×List Int×List Ao) (List Int×Int×List Aa×Int×List Int×List Ao)):=
 fun((i21,l22,i23,l24,i25,l26,l27):(Int×List Int×Int×List Aa×Int×List Int×List Ao))=>(bif (decide (i21<(((a1.Blocks.getD i1.toNat default).Phis).length:Int))) then(Bi (Bk i21 ((a1.Blocks.getD i1.toNat default).Phis).length) ((Bd (Fc a1 a6 i1 i21) ((0:Int),l22,i23,l24,i25,l26,l27)).bind (fun(l42,i43,l44,i45,l46,l47)=>(some (.next ((A8 (i21+1)),l42,i43,l44,i45,l46,l47)))))) else(some (.done (l22,i23,l24,i25,l26,l27))))
def Fe(a1:Ae)(a6:List (Int×Ak))(i1:Int)(i57:Int)(x71:List ((Int×Int))):(Int×List Int×Int×List Aa×Int×List Int×List Ao)->Option (LR (Int×List Int×Int×List Aa×Int×List Int×List Ao) (List Int×Int×List Aa×Int×List Int×List Ao)):=
 fun((i72,l73,i74,l75,i76,l77,l78):(Int×List Int×Int×List Aa×Int×List Int×List Ao))=>(bif (decide (i72<(x71.length:Int))) then(Bi (Bk i72 x71.length) (Bi (Bk i72 ((((a1.Blocks.getD i1.toNat default).Ops).getD i57.toNat default).Args).length) ((Ch (((((a1.Blocks.getD i1.toNat default).Ops).getD i57.toNat default).Args).getD i72.toNat 0) (x71.getD i72.toNat ((0:Int),(0:Int))) (⟨i1,i57⟩:Ee) (⟨l73,i74,l75⟩:Ae) i76 l77 a6 l78).bind fun x87=>(some (.next ((A8 (i72+1)),x87.1.Params,x87.1.Ret,x87.1.Blocks,x87.2.1,x87.2.2.1,x87.2.2.2)))))) else(some (.done (l73,i74,l75,i76,l77,l78))))
def Ff(a1:Ae)(a6:List (Int×Ak))(i1:Int):(Int×List Int×Int×List Aa×Int×List Int×List Ao)->Option (LR (Int×List Int×Int×List Aa×Int×List Int×List Ao) (List Int×Int×List Aa×Int×List Int×List Ao)):=
 fun((i57,l58,i59,l60,i61,l62,l63):(Int×List Int×Int×List Aa×Int×List Int×List Ao))=>(bif (decide (i57<(((a1.Blocks.getD i1.toNat default).Ops).length:Int))) then(Bi (Bk i57 ((a1.Blocks.getD i1.toNat default).Ops).length) ((Mg (((a1.Blocks.getD i1.toNat default).Ops).getD i57.toNat default)).bind fun x71=>((Bd (Fe a1 a6 i1 i57 x71) ((0:Int),l58,i59,l60,i61,l62,l63)).bind (fun(l79,i80,l81,i82,l83,l84)=>(some (.next ((A8 (i57+1)),l79,i80,l81,i82,l83,l84))))))) else(some (.done (l58,i59,l60,i61,l62,l63))))
def Fg(a1:Ae)(a6:List (Int×Ak)):(Int×List Int×Int×List Aa×Int×List Int×List Ao)->Option (LR (Int×List Int×Int×List Aa×Int×List Int×List Ao) (List Int×Int×List Aa×Int×List Int×List Ao)):=
 fun((i1,l2,i3,l4,i5,l6,l7):(Int×List Int×Int×List Aa×Int×List Int×List Ao))=>(bif (decide (i1<(a1.Blocks.length:Int))) then(Option.bind (α:=(List Int×Int×List Aa×Int×List Int×List Ao)) (Bi (Bk i1 a1.Blocks.length) ((Bd (Fd a1 a6 i1) ((0:Int),l2,i3,l4,i5,l6,l7)).bind (fun x55=>(match x55 with|(l28,i29,l30,i31,l32,l33)=>((Bd (Ff a1 a6 i1) ((0:Int),l28,i29,l30,i31,l32,l33)).bind (fun x90=>(match x90 with|(l64,i65,l66,i67,l68,l69)=>(bif (((a1.Blocks.getD i1.toNat default).End.Kind:Int)==0) then((Db i65).bind fun x92=>((Cz i1 (⟨l64,i65,l66⟩:Ae) i67 l68 a6 l69).bind fun x93=>((Ch ((a1.Blocks.getD i1.toNat default).End.Arg) x92 x93.1 x93.2.1 x93.2.2.1 x93.2.2.2.1 a6 x93.2.2.2.2).bind fun x94=>(some (x94.1.Params,x94.1.Ret,x94.1.Blocks,x94.2.1,x94.2.2.1,x94.2.2.2))))) else(bif (((a1.Blocks.getD i1.toNat default).End.Kind:Int)==2) then((Db (1:Int)).bind fun x95=>((Cz i1 (⟨l64,i65,l66⟩:Ae) i67 l68 a6 l69).bind fun x96=>((Ch ((a1.Blocks.getD i1.toNat default).End.Arg) x95 x96.1 x96.2.1 x96.2.2.1 x96.2.2.2.1 a6 x96.2.2.2.2).bind fun x97=>(some (x97.1.Params,x97.1.Ret,x97.1.Blocks,x97.2.1,x97.2.2.1,x97.2.2.2))))) else(some (l64,i65,l66,i67,l68,l69))))))))))) (fun x98=>(match x98 with|(l14,i15,l16,i17,l18,l19)=>(some (.next ((A8 (i1+1)),l14,i15,l16,i17,l18,l19)))))) else(some (.done (l2,i3,l4,i5,l6,l7))))
def Q94(a1:Ae)(i1:Int):=(a1.Blocks.getD i1.toNat default)
def Q93(a6:List (Int×Ak)):=(Bu (fun(v_:Ak)=>((Lt v_):AV)) a6)
def Dw(a1:Ae)(a7:Int)(a8:List Int)(a6:List (Int×Ak))(a4:List Ao):Option (Ae×Int×List Int×List Ao):=
 ((Bd (Fg a1 a6) ((0:Int),a1.Params,a1.Ret,a1.Blocks,a7,a8,a4)).bind (fun(l8,i9,l10,i11,l12,l13)=>(some ((⟨l8,i9,l10⟩:Ae),i11,l12,l13))))
theorem Kx(a1:Ae)(a7:Int)(a8:List Int)(a6:List (Int×Ak))(a4:List Ao)(r:(Ae×Int×List Int×List Ao))(h:Dw a1 a7 a8 a6 a4=some r):Spec Tryz.prog 114 [Yx] [(Z1 a1.Params a1.Ret a1.Blocks a7 a8 9100005 a4),(J6 a4.length),(9100005,.obj (.map false .i64 (Bu (fun(v_:Ak)=>((Lt v_):AV)) a6)))] (.tuple []) [(Z1 r.1.Params r.1.Ret r.1.Blocks r.2.1 r.2.2.1 9100005 r.2.2.2),(J6 r.2.2.2.length),(9100005,.obj (.map false .i64 (Bu (fun(v_:Ak)=>((Lt v_):AV)) a6)))]:=by
 refine Af mix Tryz.func114 (fun Γ hq=>?_);unfold Dw at h;refine Am hq Yi Cy ?_;obtain⟨x100,hx100,h⟩:=bind_some h;refine gL hq hx100 Yi Cy (fun u (i1,l2,i3,l4,i5,l6,l7)=>(Df u [(18,(Z7 i1))] (Yw l2 i3 l4 i5 l6 l7 l7.length))) (fun u (l8,i9,l10,i11,l12,l13)=>aG Γ (.exit 0) (Ud [] Cy u [] (Yw l8 i9 l10 i11 l12 l13 l13.length))) ?_ ?_
 ·rintro⟨i1,l2,i3,l4,i5,l6,l7⟩ y h;unfold Fg at h;refine Am hq [0,16,17,18,19] Cy ?_;refine gC h ?_ ?_<;>intro h
  ·obtain⟨x98,hx98,h⟩:=bind_some h;refine gJ hx98 (fun(l14,i15,l16,i17,l18,l19)=>aG Γ .normal (⟨[(0,Yx),(16,(Z15 a1.Blocks)),(17,(Z50 a1.Blocks.length)),(18,(Z7 i1))],(Z9 l14 i15 l16 i17 l18 l19 l19.length (Q93 a6)),[]⟩:St)) ?_ ?_
   ·clear h hx98;intro y h;obtain⟨hc20,h⟩:=Ad h;refine gR hq Ab0 Iz [] [] (c1 hc20) ?_;refine Am hq Aby Iz ?_;obtain⟨x55,hx55,h⟩:=bind_some h;refine gL hq hx55 Aby Iz (fun u (i21,l22,i23,l24,i25,l26,l27)=>(Df u [(26,(Z7 i21))] (Yw l22 i23 l24 i25 l26 l27 l27.length))) (fun u (l28,i29,l30,i31,l32,l33)=>aG Γ (.exit 2) (Ud Ab0 Iz u [] (Yw l28 i29 l30 i31 l32 l33 l33.length))) ?_ ?_
    ·rintro⟨i21,l22,i23,l24,i25,l26,l27⟩ y h;unfold Fd at h;refine Am hq [0,2,3,16,17,18,24,25,26,27] Iz ?_;refine gC h ?_ ?_<;>intro h
     ·obtain⟨hc34,h⟩:=Ad h;refine gR hq [0,2,3,5,16,17,18,24,25,26] Rw [] [] (c1 hc34) ?_;refine Am hq zzN17 Rw ?_;obtain⟨x53,hx53,h⟩:=bind_some h;refine gL hq hx53 zzN17 Rw (fun u (i35,l36,i37,l38,i39,l40,l41)=>(Df u [(33,(Z7 i35))] (Yw l36 i37 l38 i39 l40 l41 l41.length))) (fun u (l42,i43,l44,i45,l46,l47)=>aG Γ (.exit 4) (Ud Aby Iz u [] (Yw l42 i43 l44 i45 l46 l47 l47.length))) ?_ ?_
      ·rintro⟨i35,l36,i37,l38,i39,l40,l41⟩ y h;unfold Fc at h;refine Am hq [0,2,3,5,16,17,18,24,25,26,31,32,33,34] Rw ?_;refine gC h ?_ ?_<;>intro h
       ·obtain⟨hc48,h⟩:=Ad h;refine gR hq [0,2,3,5,6,7,16,17,18,24,25,26,31,32,33] Rw [] [] (c1 hc48) ?_;obtain⟨x49,hx49,h⟩:=bind_some h;obtain⟨hc50,h⟩:=Ad h;obtain⟨x51,hx51,h⟩:=bind_some h;obtain⟨x52,hx52,h⟩:=bind_some h;refine gR hq zzN17 Rw [] [(Z48 x49),(Z38 x51.1 x51.2.1.Params x51.2.1.Ret x51.2.1.Blocks x51.2.2.1 x51.2.2.2.1 x51.2.2.2.2 x51.2.2.2.2.length (Q93 a6)),(Z16 x52.1.Params x52.1.Ret x52.1.Blocks x52.2.1 x52.2.2.1 x52.2.2.2 x52.2.2.2.length (Q93 a6))] (ci (Eu ((((Q94 a1 i1).Phis).getD i21.toNat default).Bits) x49 hx49) (ci hc50 (ci (Ft (((((Q94 a1 i1).Phis).getD i21.toNat default).From).getD i35.toNat 0) (⟨l36,i37,l38⟩:Ae) i39 l40 a6 l41 x51 hx51) (c1 (Dq (((((Q94 a1 i1).Phis).getD i21.toNat default).Args).getD i35.toNat 0) x49 x51.1 x51.2.1 x51.2.2.1 x51.2.2.2.1 a6 x51.2.2.2.2 x52 hx52))))) ?_;refine Am hq zzN17 Rw ?_;cases h;exact gN De
       ·cases h;exact gO (Ck (Cn Aby Iz hq))
      ·clear hx53;rcases x53 with⟨l42,i43,l44,i45,l46,l47⟩;refine gA ?_;refine Am hq Aby Iz ?_;cases h;exact gN De
     ·cases h;exact gO (Ck (Cn Ab0 Iz hq))
    ·clear hx55;rcases x55 with⟨l28,i29,l30,i31,l32,l33⟩;refine gA ?_;refine Am hq Abz Iz ?_;obtain⟨x90,hx90,h⟩:=bind_some h;refine gL hq hx90 Abz Iz (fun u (i57,l58,i59,l60,i61,l62,l63)=>(Df u [(56,(Z7 i57))] (Yw l58 i59 l60 i61 l62 l63 l63.length))) (fun u (l64,i65,l66,i67,l68,l69)=>aG Γ (.exit 6) (Ud Ab0 Iz u [] (Yw l64 i65 l66 i67 l68 l69 l69.length))) ?_ ?_
     ·rintro⟨i57,l58,i59,l60,i61,l62,l63⟩ y h;unfold Ff at h;refine Am hq [0,2,3,16,17,18,54,55,56,57] Iz ?_;refine gC h ?_ ?_<;>intro h
      ·obtain⟨hc70,h⟩:=Ad h;refine gR hq [0,2,3,8,9,16,17,18,54,55,56] Yd [] [] (c1 hc70) ?_;obtain⟨x71,hx71,h⟩:=bind_some h;refine gR hq zzN16 Yd [] [(Z30 x71)] (c1 (Ww (((Q94 a1 i1).Ops).getD i57.toNat default) x71 hx71)) ?_;obtain⟨x88,hx88,h⟩:=bind_some h;refine gL hq hx88 zzN16 Yd (fun u (i72,l73,i74,l75,i76,l77,l78)=>(Df u [(64,(Z7 i72))] (Yw l73 i74 l75 i76 l77 l78 l78.length))) (fun u (l79,i80,l81,i82,l83,l84)=>aG Γ (.exit 8) (Ud Abz Iz u [] (Yw l79 i80 l81 i82 l83 l84 l84.length))) ?_ ?_
       ·rintro⟨i72,l73,i74,l75,i76,l77,l78⟩ y h;unfold Fe at h;refine Am hq [0,2,3,8,9,16,17,18,54,55,56,62,63,64,65] Yd ?_;refine gC h ?_ ?_<;>intro h
        ·obtain⟨hc85,h⟩:=Ad h;refine gR hq [0,2,3,8,9,10,11,16,17,18,54,55,56,62,63,64] [3,9,11,30000,37006,9100005] [] [] (c1 hc85) ?_;obtain⟨hc86,h⟩:=Ad h;obtain⟨x87,hx87,h⟩:=bind_some h;refine gR hq zzN16 Yd [] [(Z16 x87.1.Params x87.1.Ret x87.1.Blocks x87.2.1 x87.2.2.1 x87.2.2.2 x87.2.2.2.length (Q93 a6))] (ci hc86 (c1 (Dq (((((Q94 a1 i1).Ops).getD i57.toNat default).Args).getD i72.toNat 0) (x71.getD i72.toNat ((0:Int),(0:Int))) (⟨i1,i57⟩:Ee) (⟨l73,i74,l75⟩:Ae) i76 l77 a6 l78 x87 hx87))) ?_;refine Am hq zzN16 Yd ?_;cases h;exact gN De
        ·cases h;exact gO (Ck (Cn Abz Iz hq))
       ·clear hx88;rcases x88 with⟨l79,i80,l81,i82,l83,l84⟩;refine gA ?_;refine Am hq Abz Iz ?_;cases h;exact gN De
      ·cases h;exact gO (Ck (Cn Ab0 Iz hq))
     ·clear hx90;rcases x90 with⟨l64,i65,l66,i67,l68,l69⟩;refine gA ?_;refine Am hq [0,2,3,16,17,18,84] Iz ?_;refine Am hq [0,2,3,16,17,18,84,85] Iz ?_;refine gC h ?_ ?_<;>intro h
      ·obtain⟨x92,hx92,h⟩:=bind_some h;obtain⟨x93,hx93,h⟩:=bind_some h;obtain⟨x94,hx94,h⟩:=bind_some h;refine gR hq Yi Cy [] [(Z48 x92),(Z38 x93.1 x93.2.1.Params x93.2.1.Ret x93.2.1.Blocks x93.2.2.1 x93.2.2.2.1 x93.2.2.2.2 x93.2.2.2.2.length (Q93 a6)),(Z16 x94.1.Params x94.1.Ret x94.1.Blocks x94.2.1 x94.2.2.1 x94.2.2.2 x94.2.2.2.length (Q93 a6))] (ci (Eu i65 x92 hx92) (ci (Ft i1 (⟨l64,i65,l66⟩:Ae) i67 l68 a6 l69 x93 hx93) (c1 (Dq ((Q94 a1 i1).End.Arg) x92 x93.1 x93.2.1 x93.2.2.1 x93.2.2.2.1 a6 x93.2.2.2.2 x94 hx94)))) ?_;cases h;exact gK (Ck De)
      ·refine Am hq [0,2,3,16,17,18,101] Iz ?_;refine gC h ?_ ?_<;>intro h
       ·obtain⟨x95,hx95,h⟩:=bind_some h;obtain⟨x96,hx96,h⟩:=bind_some h;obtain⟨x97,hx97,h⟩:=bind_some h;refine gR hq Yi Cy [] [(Z48 x95),(Z38 x96.1 x96.2.1.Params x96.2.1.Ret x96.2.1.Blocks x96.2.2.1 x96.2.2.2.1 x96.2.2.2.2 x96.2.2.2.2.length (Q93 a6)),(Z16 x97.1.Params x97.1.Ret x97.1.Blocks x97.2.1 x97.2.2.1 x97.2.2.2 x97.2.2.2.length (Q93 a6))] (ci (Eu (1:Int) x95 hx95) (ci (Ft i1 (⟨l64,i65,l66⟩:Ae) i67 l68 a6 l69 x96 hx96) (c1 (Dq ((Q94 a1 i1).End.Arg) x95 x96.1 x96.2.1 x96.2.2.1 x96.2.2.2.1 a6 x96.2.2.2.2 x97 hx97)))) ?_;cases h;exact gK (Ck De)
       ·cases h;exact gK (Ck (Cn Yi Cy hq))
   ·clear hx98;rcases x98 with⟨l14,i15,l16,i17,l18,l19⟩;refine gA ?_;refine Am hq Yi Cy ?_;cases h;exact gN De
  ·cases h;exact gO (Ck (Cn [] Cy hq))
 ·clear hx100;rcases x100 with⟨l8,i9,l10,i11,l12,l13⟩;refine gA' (fun st' hl101=>?_);cases h;exact gK (e:=.normal) (Ig Pf hl101)
def Dz(aM:Ao)(a1:Ae)(a7:Int)(a8:List Int)(a6:List (Int×Ak))(a4:List Ao):Option (Bool×Ae×Int×List Int×List Ao):=
 (some ((Cx a6 aM.v),a1,a7,a8,a4))
theorem K0(aM:Ao)(a1:Ae)(a7:Int)(a8:List Int)(a6:List (Int×Ak))(a4:List Ao)(r:(Bool×Ae×Int×List Int×List Ao))(h:Dz aM a1 a7 a8 a6 a4=some r):Spec Tryz.prog 115 [Yx,(.agg (F4 aM))] [(Z1 a1.Params a1.Ret a1.Blocks a7 a8 9100005 a4),(J6 a4.length),(9100005,.obj (.map false .i64 (Bu (fun(v_:Ak)=>((Lt v_):AV)) a6)))] (.bool r.1) [(Z1 r.2.1.Params r.2.1.Ret r.2.1.Blocks r.2.2.1 r.2.2.2.1 9100005 r.2.2.2.2),(J6 r.2.2.2.2.length),(9100005,.obj (.map false .i64 (Bu (fun(v_:Ak)=>((Lt v_):AV)) a6)))]:=by
 refine Af mix Tryz.func115 (fun Γ hq=>?_);unfold Dz at h;refine Am hq Na Iz ?_;refine gR hq [6] Cy [(14,(.tuple [(Z29 a6 aM.v),(.bool (Cx a6 aM.v))]))] [] (c1 (show(AVle (.tuple [Ds Z14 (Bu (fun(v_:Ak)=>((Lt v_):AV)) a6) aM.v,.bool (Cx (Bu (fun(v_:Ak)=>((Lt v_):AV)) a6) aM.v)]) (.tuple [(Z29 a6 aM.v),(.bool (Cx a6 aM.v))])) from(Aaz (f:=(fun(v_:Ak)=>((Lt v_):AV))) (l:=a6) (AVle.refl _) rfl))) ?_;refine Am hq [4] Cy ?_;cases h;exact B6 Pf
def Fj(aM:Ao)(a1:Ae)(a7:Int)(a8:List Int)(a6:List (Int×Ak))(a4:List Ao):Option (Bool×Ae×Int×List Int×List Ao):=
 (some (((((Ds (default:Ak) a6 aM.v).shape.1:Int)==aM.shape.1)&&((((Ds (default:Ak) a6 aM.v).shape.2:Int)==aM.shape.2)&&true)),a1,a7,a8,a4))
theorem Nd(aM:Ao)(a1:Ae)(a7:Int)(a8:List Int)(a6:List (Int×Ak))(a4:List Ao)(r:(Bool×Ae×Int×List Int×List Ao))(h:Fj aM a1 a7 a8 a6 a4=some r):Spec Tryz.prog 116 [Yx,(.agg (F4 aM))] [(Z1 a1.Params a1.Ret a1.Blocks a7 a8 9100005 a4),(J6 a4.length),(9100005,.obj (.map false .i64 (Bu (fun(v_:Ak)=>((Lt v_):AV)) a6)))] (.bool r.1) [(Z1 r.2.1.Params r.2.1.Ret r.2.1.Blocks r.2.2.1 r.2.2.2.1 9100005 r.2.2.2.2),(J6 r.2.2.2.2.length),(9100005,.obj (.map false .i64 (Bu (fun(v_:Ak)=>((Lt v_):AV)) a6)))]:=by
 refine Af mix Tryz.func116 (fun Γ hq=>?_);unfold Fj at h;refine Am hq Na Iz ?_;refine gR hq [4] Cy [(11,(Z29 a6 aM.v))] [] (c1 (show(AVle (Ds Z14 (Bu (fun(v_:Ak)=>((Lt v_):AV)) a6) aM.v) (Z29 a6 aM.v)) from(Y5 (f:=(fun(v_:Ak)=>((Lt v_):AV))) (l:=a6) (AVle.refl _) rfl))) ?_;cases h;exact B6 Pf
def F7(aF:List Int)(aD:Int):Int->Option (LR Int (Unit ⊕ Int)):=
 fun(i1:Int)=>(bif (decide (i1<(aF.length:Int))) then(Bi (Bk i1 aF.length) (bif (aD==(aF.getD i1.toNat 0)) then(some (.done (.inr i1))) else(some (.next (A8 (i1+1)))))) else(some (.done (.inl ()))))
def Ls(Γ:Du)(aF:List Int)(aD:Int)(r:Int):Exit->St->Prop:=fK Tryz.prog Γ Tryz.f131.results.toList [] (.int .i64 r) []
def Ek(aF:List Int)(aD:Int):Option Int:=
 ((Bd (F7 aF aD) (0:Int)).bind (fun x3=>(match x3 with|(.inl _)=>(some (-1:Int))|(.inr r5)=>(some r5))))
theorem Lj(aF:List Int)(aD:Int)(r:Int)(h:Ek aF aD=some r):Spec Tryz.prog 131 [(Z8 aF),(Z7 aD)] [] (.int .i64 r) []:=by
 refine Af mix Tryz.func131 (fun Γ hq=>?_);unfold Ek at h;refine Am hq Ed [] ?_;refine Am hq Yk [] ?_;obtain⟨x3,hx3,h⟩:=bind_some h;refine gL hq hx3 Yk [] (fun u i1=>(Df u [(8,(Z7 i1))] [])) (fun u x_=>match x_ with|(.inl _)=>aG Γ (.exit 0) (⟨[],[],[]⟩:St)|(.inr r_)=>aR (Ls Γ aF aD r_)) ?_ ?_
 ·intro i1 y h;unfold F7 at h;refine Am hq [0,1,7,8,9] [] ?_;refine gC h ?_ ?_<;>intro h
  ·refine Am hq [0,1,5,7,8] [] ?_;obtain⟨hc2,h⟩:=Ad h;refine gR hq [0,1,5,7,8,16] [] [] [] (c1 hc2) ?_;refine gC h ?_ ?_<;>intro h
   ·refine Am hq [4] [] ?_;cases h;exact gO (Ms (Ig [] (Le.refl _ _)))
   ·refine Am hq Yk [] ?_;cases h;exact gN De
  ·cases h;exact gO (Ck (Cn [] [] hq))
 ·clear hx3;rcases x3 with _|r5
  ·refine gA ?_;refine Am hq [4] [] ?_;cases h;exact B6 []
  ·refine Qe (fun st' hk=>?_);obtain rfl:=OI h;exact gK hk
def Id(aA:List Int)(aC:Int):Option Bool:=
 (some (bif (decide (((0:Int):Int)<=aC)) then(decide (aC<(aA.length:Int))) else false))
theorem N6(aA:List Int)(aC:Int)(r:Bool)(h:Id aA aC=some r):Spec Tryz.prog 133 [(Z8 aA),(Z7 aC)] [] (.bool r) []:=by
 refine Af mix Tryz.func133 (fun Γ hq=>?_);unfold Id at h;refine Am hq Ed [] ?_;refine gR hq [4] [] [] [] (ci (gI ((decide (((0:Int):Int)<=aC))==true)) (ci (gI ((decide (((0:Int):Int)<=aC))==true)) (ci (gI ((decide (((0:Int):Int)<=aC))==true)) (c1 (Kr (decide (((0:Int):Int)<=aC))))))) ?_;cases h;exact B6 []
def N2(aA:List Int)(aa1:Int)(aT:Int):(Int×List Int)->Option (LR (Int×List Int) (List Int ⊕ (Bool×List Int))):=
 fun((i1,l2):(Int×List Int))=>(bif (i1 !=aT) then(Bi (Bk i1 l2.length) (bif (((l2.getD i1.toNat 0):Int)!=0) then(Bi (Bk i1 l2.length) (some (.done (.inr ((((l2.getD i1.toNat 0):Int)!=(A8 (aa1+1))),l2))))) else(Bi (Bk i1 aA.length) ((Id aA (aA.getD i1.toNat 0)).bind fun x7=>(bif (!x7) then(some (.done (.inr (false,l2)))) else(Bi (Bk i1 l2.length) (Bi (Bk i1 aA.length) (some (.next ((aA.getD i1.toNat 0),(l2.set i1.toNat (A8 (aa1+1))))))))))))) else(some (.done (.inl l2))))
def Zp(Γ:Du)(aA:List Int)(aaF:List Int)(aa1:Int)(aT:Int)(r:(Bool×List Int)):Exit->St->Prop:=fK Tryz.prog Γ Tryz.f132.results.toList [(Z4 34001 aaF)] (.bool r.1) [(Z4 34001 r.2)]
def N1(aA:List Int)(aaF:List Int)(aa1:Int)(aT:Int):Option (Bool×List Int):=
 ((Bd (N2 aA aa1 aT) (aa1,aaF)).bind (fun x10=>(match x10 with|(.inl l3)=>(some (true,l3))|(.inr r12)=>(some r12))))
theorem Y9(aA:List Int)(aaF:List Int)(aa1:Int)(aT:Int)(r:(Bool×List Int))(h:N1 aA aaF aa1 aT=some r):Spec Tryz.prog 132 [(Z8 aA),(.vsl 34001 aaF.length),(Z7 aa1),(Z7 aT)] [(Z4 34001 aaF)] (.bool r.1) [(Z4 34001 r.2)]:=by
 refine Af mix Tryz.func132 (fun Γ hq=>?_);unfold N1 at h;refine Am hq [0,1,2,3] [34001] ?_;refine Am hq [0,1,2,3,9] [34001] ?_;refine Am hq zzN76 [34001] ?_;obtain⟨x10,hx10,h⟩:=bind_some h;refine gL hq hx10 zzN76 [34001] (fun u (i1,l2)=>(Df u [(1,(.vsl 34001 l2.length)),(10,(Z7 i1))] [(Z4 34001 l2)])) (fun u x_=>match x_ with|(.inl l3)=>aG Γ (.exit 0) (⟨[],[(Z4 34001 l3)],[]⟩:St)|(.inr r_)=>aR (Zp Γ aA aaF aa1 aT r_)) ?_ ?_
 ·rintro⟨i1,l2⟩ y h;unfold N2 at h;refine Am hq [0,1,3,9,10,16] [34001] ?_;refine gC h ?_ ?_<;>intro h
  ·obtain⟨hc4,h⟩:=Ad h;refine gR hq [0,1,3,9,10,25] [34001] [] [] (ci hc4 (c1 (Eq.refl l2.length))) ?_;refine gC h ?_ ?_<;>intro h
   ·obtain⟨hc5,h⟩:=Ad h;refine gR hq [8] [34001] [] [] (ci hc5 (c1 (Eq.refl l2.length))) ?_;cases h;exact gO (Ms (Ig zzN100 (Le.refl _ _)))
   ·obtain⟨hc6,h⟩:=Ad h;obtain⟨x7,hx7,h⟩:=bind_some h;refine gR hq [0,1,3,9,10,38] [34001] [] [(Z2 x7)] (ci hc6 (c1 (N6 aA (aA.getD i1.toNat 0) x7 hx7))) ?_;refine gC h ?_ ?_<;>intro h
    ·refine Am hq [8] [34001] ?_;cases h;exact gO (Ms (Ig zzN100 (Le.refl _ _)))
    ·obtain⟨hc8,h⟩:=Ad h;refine gR hq zzN76 [34001] [] [] (ci hc8 (c1 (Eq.refl l2.length))) ?_;refine I6 (Le.trans (O2 34001 (show ∀ k_,k_<l2.length->AVleL ((fun i_=>AV.eraseAll (fun n_=>Bx n_ [34001]) ((G1 (fun i=>Aq (l2.getD i 0)) i1.toNat 0 [(.int .i64 (A8 (aa1+1)))]) i_)) k_) ((fun i=>Aq ((l2.set i1.toNat (A8 (aa1+1))).getD i 0)) k_) from(Be (Di ..).symm (fun k_ hk_=>(Bm (AV.eraseAll (fun n_=>Bx n_ [34001])) ((Gq (fun _ _=>rfl) (Hj hc8) rfl) k_ hk_)).trans rfl)))) (O3 (fun(k_:Nat) u=>(Df u [(1,(.vsl 34001 k_))] [(34001,.arr 1 3 k_ (fun i=>Aq ((l2.set i1.toNat (A8 (aa1+1))).getD i 0)))])) (show l2.length=(l2.set i1.toNat (A8 (aa1+1))).length from(Di ..).symm))) ?_;obtain⟨hc9,h⟩:=Ad h;refine gR hq zzN76 [34001] [] [] (c1 hc9) ?_;cases h;exact gN De
  ·cases h;exact gO (Ck (Cn [] [34001] hq))
 ·clear hx10;rcases x10 with l3|r12
  ·refine gA ?_;refine Am hq [8] [34001] ?_;cases h;exact B6 zzN100
  ·refine Qe (fun st' hk=>?_);obtain rfl:=OI h;exact gK hk
def My(aA:List Int)(x1:Int):(Int×List Int)->Option (LR (Int×List Int) (Unit ⊕ Bool)):=
 fun((i3,l4):(Int×List Int))=>(bif (decide (i3<(aA.length:Int))) then(Bi (Bk i3 aA.length) ((bif ((((aA.getD i3.toNat 0):Int)!=-2)==true) then N1 aA l4 i3 x1 else some (false,[])).bind fun x6=>(Bi (((((aA.getD i3.toNat 0):Int)!=-2)==true)=true->(l4.length=x6.2.length)) (bif (bif (((aA.getD i3.toNat 0):Int)!=-2) then(!x6.1) else false) then(some (.done (.inr false))) else(some (.next ((A8 (i3+1)),(bif ((((aA.getD i3.toNat 0):Int)!=-2)==true) then x6.2 else l4)))))))) else(some (.done (.inl ()))))
def Yq(Γ:Du)(aA:List Int)(r:Bool):Exit->St->Prop:=fK Tryz.prog Γ Tryz.f98.results.toList [] (.bool r) []
def Q97(aA:List Int)(i3:Int):=((((aA.getD i3.toNat 0):Int)!=-2)==true)
def Mb(aA:List Int):Option Bool:=
 ((Ek aA (-1:Int)).bind fun x1=>(bif (decide (x1<0)) then(some false) else(Bi (0<=(aA.length:Int)/\(aA.length:Int)<=(aA.length:Int)/\(aA.length:Int)<=(room:Int)) ((Bd (My aA x1) ((0:Int),(List.replicate (aA.length:Int).toNat (0:Int)))).bind (fun x8=>(match x8 with|(.inl _)=>(some true)|(.inr r10)=>(some r10)))))))
theorem Wr(aA:List Int)(r:Bool)(h:Mb aA=some r):Spec Tryz.prog 98 [(Z8 aA)] [] (.bool r) []:=by
 refine Af mix Tryz.func98 (fun Γ hq=>?_);unfold Mb at h;refine Am hq [0] [] ?_;obtain⟨x1,hx1,h⟩:=bind_some h;refine gR hq Na [] [] [(Z31 x1)] (c1 (Lj aA (-1:Int) x1 hx1)) ?_;refine Am hq [0,3,9] [] ?_;refine gC h ?_ ?_<;>intro h
 ·refine Am hq [2] [] ?_;obtain rfl:=OI h;exact B6 []
 ·obtain⟨hc2,h⟩:=Ad h;refine gR hq [0,3,4] [12] [] [] (c1 hc2) ?_;refine I6 (Le.trans (O2 12 (show ∀ k_,k_<((aA.length:Int).toNat)->AVleL ((fun i_=>AV.eraseAll (fun n_=>Bx n_ [12]) ((fun _=>[W4]) i_)) k_) ((fun i=>Aq ((List.replicate (aA.length:Int).toNat (0:Int)).getD i 0)) k_) from(fun k hk=>Re (e:=Aq) (d:=(0:Int)) (.cons (AVle.refl _) .nil) _ k (Rq hk)))) (O3 (fun(k_:Nat) u=>(Df u [(4,(.vsl 12 k_))] [(12,.arr 1 3 k_ (fun i=>Aq ((List.replicate (aA.length:Int).toNat (0:Int)).getD i 0)))])) (show(aA.length:Int).toNat=(List.replicate (aA.length:Int).toNat (0:Int)).length from(Rr ..).symm))) ?_;refine Am hq zzN95 [12] ?_;obtain⟨x8,hx8,h⟩:=bind_some h;refine gL hq hx8 zzN95 [12] (fun u (i3,l4)=>(Df u [(4,(.vsl 12 l4.length)),(15,(Z7 i3))] [(Z4 12 l4)])) (fun u x_=>match x_ with|(.inl _)=>aG Γ (.exit 0) (⟨[],[],[]⟩:St)|(.inr r_)=>aR (Yq Γ aA r_)) ?_ ?_
  ·rintro⟨i3,l4⟩ y h;unfold My at h;refine Am hq [0,3,4,14,15,16] [12] ?_;refine gC h ?_ ?_<;>intro h
   ·refine Am hq [0,3,4,5,14,15] [12] ?_;obtain⟨hc5,h⟩:=Ad h;obtain⟨x6,hx6,h⟩:=bind_some h;obtain⟨hc7,h⟩:=Ad h;refine gR hq [0,3,4,14,15,30] [12] [] [⟨[(12,34001)],[],(.bool x6.1),[(Z4 34001 x6.2)],[],[]⟩] (ci hc5 (ci (gI (Q97 aA i3)) (ci (gI (Q97 aA i3)) (ci (gI (Q97 aA i3)) (ci (gI (Q97 aA i3)) (ci (fun(hg:(Q97 aA i3)=true)=>(Y9 aA l4 i3 x1 x6 (Bn hg hx6))) (ci (gI (Q97 aA i3)) (c1 (Kr (((aA.getD i3.toNat 0):Int)!=-2)))))))))) ?_;refine I6 (Le.trans (O2 12 (show ∀ k_,k_<(bif (Q97 aA i3) then x6.2.length else l4.length)->AVleL ((fun i_=>AV.eraseAll (fun n_=>Bx n_ [12]) ((fun i=>bif (Q97 aA i3) then(fun i=>Aq (x6.2.getD i 0)) i else(fun i=>Aq (l4.getD i 0)) i) i_)) k_) ((fun i=>Aq ((bif (Q97 aA i3) then x6.2 else l4).getD i 0)) k_) from(Be bif_len (fun k_ hk_=>(Bm (AV.eraseAll (fun n_=>Bx n_ [12])) ((fun _ _=>bif_row) k_ hk_)).trans rfl)))) (Le.trans (O3 (fun(k_:Nat) u=>(Df u [] [(12,.arr 1 3 k_ (fun i=>Aq ((bif (Q97 aA i3) then x6.2 else l4).getD i 0)))])) (show(bif (Q97 aA i3) then x6.2.length else l4.length)=(bif (Q97 aA i3) then x6.2 else l4).length from bif_len)) (O3 (fun(k_:Nat) u=>(Df u [(4,(.vsl 12 k_))] [])) (show l4.length=(bif (Q97 aA i3) then x6.2 else l4).length from(bif_was hc7))))) ?_;refine gC h ?_ ?_<;>intro h
    ·refine Am hq [2] [] ?_;cases h;exact gO (Ms (Ig [] (Le.refl _ _)))
    ·refine Am hq zzN95 [12] ?_;cases h;exact gN De
   ·cases h;exact gO (Ck (Cn [] [] hq))
  ·clear hx8;rcases x8 with _|r10
   ·refine gA ?_;refine Am hq [2] [] ?_;obtain rfl:=OI h;exact B6 []
   ·refine Qe (fun st' hk=>?_);obtain rfl:=OI h;exact gK hk
def Hm(aA:List Int)(aC:Int):Option Bool:=
 ((Id aA aC).bind fun x1=>(Bi ((x1==true)=true->(Bk aC aA.length)) (some (bif x1 then(((aA.getD aC.toNat 0):Int)!=-2) else false))))
theorem M0(aA:List Int)(aC:Int)(r:Bool)(h:Hm aA aC=some r):Spec Tryz.prog 99 [(Z8 aA),(Z7 aC)] [] (.bool r) []:=by
 refine Af mix Tryz.func99 (fun Γ hq=>?_);unfold Hm at h;refine Am hq Ed [] ?_;obtain⟨x1,hx1,h⟩:=bind_some h;obtain⟨hc2,h⟩:=Ad h;refine gR hq [4] [] [] [(Z2 x1)] (ci (N6 aA aC x1 hx1) (ci (gI (x1==true)) (ci (gI (x1==true)) (ci hc2 (ci (gI (x1==true)) (ci (gI (x1==true)) (c1 (Kr x1)))))))) ?_;cases h;exact B6 []
def N0(aA:List Int)(aV:Int)(aX:Int):Option Bool:=
 ((Mb aA).bind fun x1=>((bif (x1==true) then Hm aA aV else some false).bind fun x2=>((bif ((bif x1 then x2 else false)==true) then Hm aA aX else some false).bind fun x3=>(some (bif (bif x1 then x2 else false) then x3 else false)))))
theorem Y8(aA:List Int)(aV:Int)(aX:Int)(r:Bool)(h:N0 aA aV aX=some r):Spec Tryz.prog 76 [(Z8 aA),(Z7 aV),(Z7 aX)] [] (.bool r) []:=by
 refine Af mix Tryz.func76 (fun Γ hq=>?_);unfold N0 at h;refine Am hq [0,1,2] [] ?_;obtain⟨x1,hx1,h⟩:=bind_some h;obtain⟨x2,hx2,h⟩:=bind_some h;obtain⟨x3,hx3,h⟩:=bind_some h;refine gR hq [6] [] [] [(Z2 x1),(Z2 x2),(Z2 x3)] (ci (Wr aA x1 hx1) (ci (gI (x1==true)) (ci (gI (x1==true)) (ci (fun(hg:(x1==true)=true)=>(M0 aA aV x2 (Bn hg hx2))) (ci (Kr x1) (ci (gI ((bif x1 then x2 else false)==true)) (ci (gI ((bif x1 then x2 else false)==true)) (ci (fun(hg:((bif x1 then x2 else false)==true)=true)=>(M0 aA aX x3 (Bn hg hx3))) (c1 (Kr (bif x1 then x2 else false))))))))))) ?_;cases h;exact B6 []
def L9(aA:List Int)(aV:Int)(aX:Int):Option Bool:=
 ((N0 aA aV aX).bind fun x1=>((bif (x1==true) then Mc aA aV aX else some (0:Int)).bind fun x2=>(some (bif x1 then(x2==aV) else false))))
theorem Aa7(aA:List Int)(aV:Int)(aX:Int)(r:Bool)(h:L9 aA aV aX=some r):Spec Tryz.prog 45 [(Z8 aA),(Z7 aV),(Z7 aX)] [] (.bool r) []:=by
 refine Af mix Tryz.func45 (fun Γ hq=>?_);unfold L9 at h;refine Am hq [0,1,2] [] ?_;obtain⟨x1,hx1,h⟩:=bind_some h;obtain⟨x2,hx2,h⟩:=bind_some h;refine gR hq [6] [] [] [(Z2 x1),(Z31 x2)] (ci (Y8 aA aV aX x1 hx1) (ci (gI (x1==true)) (ci (gI (x1==true)) (ci (gI (x1==true)) (ci (fun(hg:(x1==true)=true)=>(S4 aA aV aX x2 (Bn hg hx2))) (ci (gI (x1==true)) (ci (gI (x1==true)) (c1 (Kr x1))))))))) ?_;cases h;exact B6 []
def Dy(aM:Ao)(a1:Ae)(a7:Int)(a8:List Int)(a6:List (Int×Ak))(a4:List Ao):Option (Bool×Ae×Int×List Int×List Ao):=
 (bif (((Ds (default:Ak) a6 aM.v).place.block:Int)==aM.place.block) then(some ((decide (((Ds (default:Ak) a6 aM.v).place.at_:Int)<aM.place.at_)),a1,a7,a8,a4)) else((L9 a8 ((Ds (default:Ak) a6 aM.v).place.block) aM.place.block).bind fun x1=>(some (x1,a1,a7,a8,a4))))
theorem Kz(aM:Ao)(a1:Ae)(a7:Int)(a8:List Int)(a6:List (Int×Ak))(a4:List Ao)(r:(Bool×Ae×Int×List Int×List Ao))(h:Dy aM a1 a7 a8 a6 a4=some r):Spec Tryz.prog 117 [Yx,(.agg (F4 aM))] [(Z1 a1.Params a1.Ret a1.Blocks a7 a8 9100005 a4),(J6 a4.length),(9100005,.obj (.map false .i64 (Bu (fun(v_:Ak)=>((Lt v_):AV)) a6)))] (.bool r.1) [(Z1 r.2.1.Params r.2.1.Ret r.2.1.Blocks r.2.2.1 r.2.2.2.1 9100005 r.2.2.2.2),(J6 r.2.2.2.2.length),(9100005,.obj (.map false .i64 (Bu (fun(v_:Ak)=>((Lt v_):AV)) a6)))]:=by
 refine Af mix Tryz.func117 (fun Γ hq=>?_);unfold Dy at h;refine Am hq Na Iz ?_;refine gR hq [0,3,5] Rw [(12,(Z29 a6 aM.v))] [] (c1 (show(AVle (Ds Z14 (Bu (fun(v_:Ak)=>((Lt v_):AV)) a6) aM.v) (Z29 a6 aM.v)) from(Y5 (f:=(fun(v_:Ak)=>((Lt v_):AV))) (l:=a6) (AVle.refl _) rfl))) ?_;refine Am hq [0,3,5,19] Rw ?_;refine gC h ?_ ?_<;>intro h
 ·refine Am hq [4] Cy ?_;cases h;exact B6 Pf
 ·obtain⟨x1,hx1,h⟩:=bind_some h;refine gR hq [4] Cy [] [(Z2 x1)] (c1 (Aa7 a8 ((Ds (default:Ak) a6 aM.v).place.block) aM.place.block x1 hx1)) ?_;cases h;exact B6 Pf
def G3(a6:List (Int×Ak))(x8:(Ae×Int×List Int×List Ao)):(Int×List Int×Int×List Aa×Int×List Int×List Ao)->Option (LR (Int×List Int×Int×List Aa×Int×List Int×List Ao) ((List Int×Int×List Aa×Int×List Int×List Ao) ⊕ (List Int×Int×List Aa×Int×List Int×List Ao))):=
 fun((i9,l10,i11,l12,i13,l14,l15):(Int×List Int×Int×List Aa×Int×List Int×List Ao))=>(bif (decide (i9<(x8.2.2.2.length:Int))) then(Bi (Bk i9 x8.2.2.2.length) ((Dz (x8.2.2.2.getD i9.toNat default) (⟨l10,i11,l12⟩:Ae) i13 l14 a6 l15).bind fun x29=>(bif (!x29.1) then(some (.done (.inr (x29.2.1.Params,x29.2.1.Ret,x29.2.1.Blocks,x29.2.2.1,x29.2.2.2.1,x29.2.2.2.2)))) else(some (.next ((A8 (i9+1)),x29.2.1.Params,x29.2.1.Ret,x29.2.1.Blocks,x29.2.2.1,x29.2.2.2.1,x29.2.2.2.2)))))) else(some (.done (.inl (l10,i11,l12,i13,l14,l15)))))
def G4(a6:List (Int×Ak))(l21:List Ao):(Int×List Int×Int×List Aa×Int×List Int×List Ao)->Option (LR (Int×List Int×Int×List Aa×Int×List Int×List Ao) ((List Int×Int×List Aa×Int×List Int×List Ao) ⊕ (List Int×Int×List Aa×Int×List Int×List Ao))):=
 fun((i32,l33,i34,l35,i36,l37,l38):(Int×List Int×Int×List Aa×Int×List Int×List Ao))=>(bif (decide (i32<(l21.length:Int))) then(Bi (Bk i32 l21.length) ((Fj (l21.getD i32.toNat default) (⟨l33,i34,l35⟩:Ae) i36 l37 a6 l38).bind fun x52=>(bif (!x52.1) then(some (.done (.inr (x52.2.1.Params,x52.2.1.Ret,x52.2.1.Blocks,x52.2.2.1,x52.2.2.2.1,x52.2.2.2.2)))) else(some (.next ((A8 (i32+1)),x52.2.1.Params,x52.2.1.Ret,x52.2.1.Blocks,x52.2.2.1,x52.2.2.2.1,x52.2.2.2.2)))))) else(some (.done (.inl (l33,i34,l35,i36,l37,l38)))))
def G5(a6:List (Int×Ak))(l44:List Ao):(Int×List Int×Int×List Aa×Int×List Int×List Ao)->Option (LR (Int×List Int×Int×List Aa×Int×List Int×List Ao) ((List Int×Int×List Aa×Int×List Int×List Ao) ⊕ (List Int×Int×List Aa×Int×List Int×List Ao))):=
 fun((i55,l56,i57,l58,i59,l60,l61):(Int×List Int×Int×List Aa×Int×List Int×List Ao))=>(bif (decide (i55<(l44.length:Int))) then(Bi (Bk i55 l44.length) ((Dy (l44.getD i55.toNat default) (⟨l56,i57,l58⟩:Ae) i59 l60 a6 l61).bind fun x75=>(bif (!x75.1) then(some (.done (.inr (x75.2.1.Params,x75.2.1.Ret,x75.2.1.Blocks,x75.2.2.1,x75.2.2.2.1,x75.2.2.2.2)))) else(some (.next ((A8 (i55+1)),x75.2.1.Params,x75.2.1.Ret,x75.2.1.Blocks,x75.2.2.1,x75.2.2.2.1,x75.2.2.2.2)))))) else(some (.done (.inl (l56,i57,l58,i59,l60,l61)))))
def G2 :(Int×List Int×Int×List Aa×Int×List Int×List Ao)->Option (LR (Int×List Int×Int×List Aa×Int×List Int×List Ao) (Int×Ae×Int×List Int×List Ao)):=
 fun(s_:(Int×List Int×Int×List Aa×Int×List Int×List Ao))=>match s_ with|(i1,l2,i3,l4,i5,l6,l7)=>(some (.done (i1,(⟨l2,i3,l4⟩:Ae),i5,l6,l7)))
def Nm(Γ:Du)(a1:Ae)(a7:Int)(a8:List Int)(a6:List (Int×Ak))(a4:List Ao)(r:(Int×Ae×Int×List Int×List Ao)):Exit->St->Prop:=fK Tryz.prog Γ Tryz.f93.results.toList [(Z1 a1.Params a1.Ret a1.Blocks a7 a8 9100005 a4),(J6 a4.length),(9100005,.obj (.map false .i64 (Bu (fun(v_:Ak)=>((Lt v_):AV)) a6)))] (Z7 r.1) [(Z1 r.2.1.Params r.2.1.Ret r.2.1.Blocks r.2.2.1 r.2.2.2.1 9100005 r.2.2.2.2),(J6 r.2.2.2.2.length),(9100005,.obj (.map false .i64 (Bu (fun(v_:Ak)=>((Lt v_):AV)) a6)))]
def Q98(a6:List (Int×Ak)):=(Bu (fun(v_:Ak)=>((Lt v_):AV)) a6)
def Fl(a1:Ae)(a7:Int)(a8:List Int)(a6:List (Int×Ak))(a4:List Ao):Option (Int×Ae×Int×List Int×List Ao):=
 ((Ql (S:=(Int×List Int×Int×List Aa×Int×List Int×List Ao)) (X:=(Int×Ae×Int×List Int×List Ao)) ((Dw a1 a7 a8 a6 a4).bind fun x8=>((Bd (G3 a6 x8) ((0:Int),x8.1.Params,x8.1.Ret,x8.1.Blocks,x8.2.1,x8.2.2.1,x8.2.2.2)).bind (fun x30=>(match x30 with|(.inl (l16,i17,l18,i19,l20,l21))=>((Bd (G4 a6 l21) ((0:Int),l16,i17,l18,i19,l20,l21)).bind (fun x53=>(match x53 with|(.inl (l39,i40,l41,i42,l43,l44))=>((Bd (G5 a6 l44) ((0:Int),l39,i40,l41,i42,l43,l44)).bind (fun x76=>(match x76 with|(.inl (l62,i63,l64,i65,l66,l67))=>(some (.done ((0:Int),(⟨l62,i63,l64⟩:Ae),i65,l66,l67)))|(.inr (l68,i69,l70,i71,l72,l73))=>(some (.next ((7:Int),l68,i69,l70,i71,l72,l73))))))|(.inr (l45,i46,l47,i48,l49,l50))=>(some (.next ((6:Int),l45,i46,l47,i48,l49,l50))))))|(.inr (l22,i23,l24,i25,l26,l27))=>(some (.next ((7:Int),l22,i23,l24,i25,l26,l27))))))) G2).bind (fun x81=>(some x81)))
theorem Ng(a1:Ae)(a7:Int)(a8:List Int)(a6:List (Int×Ak))(a4:List Ao)(r:(Int×Ae×Int×List Int×List Ao))(h:Fl a1 a7 a8 a6 a4=some r):Spec Tryz.prog 93 [Yx] [(Z1 a1.Params a1.Ret a1.Blocks a7 a8 9100005 a4),(J6 a4.length),(9100005,.obj (.map false .i64 (Bu (fun(v_:Ak)=>((Lt v_):AV)) a6)))] (Z7 r.1) [(Z1 r.2.1.Params r.2.1.Ret r.2.1.Blocks r.2.2.1 r.2.2.2.1 9100005 r.2.2.2.2),(J6 r.2.2.2.2.length),(9100005,.obj (.map false .i64 (Bu (fun(v_:Ak)=>((Lt v_):AV)) a6)))]:=by
 refine Af mix Tryz.func93 (fun Γ hq=>?_);unfold Fl at h;refine Am hq [0] Cy ?_;obtain⟨x81,hx81,h⟩:=bind_some h;refine gS hx81 (fun(s_:(Int×List Int×Int×List Aa×Int×List Int×List Ao))=>match s_ with|(i1,l2,i3,l4,i5,l6,l7)=>0) (fun(s_:(Int×List Int×Int×List Aa×Int×List Int×List Ao))=>match s_ with|(i1,l2,i3,l4,i5,l6,l7)=>(⟨[(4,(Z7 i1))],(Z9 l2 i3 l4 i5 l6 l7 l7.length (Q98 a6)),[]⟩:St)) (fun r_=>aR (Nm Γ a1 a7 a8 a6 a4 r_)) ?_ ?_ ?_
 ·clear h hx81;intro y h;obtain⟨x8,hx8,h⟩:=bind_some h;refine gR hq [0] Cy [] [(Z16 x8.1.Params x8.1.Ret x8.1.Blocks x8.2.1 x8.2.2.1 x8.2.2.2 x8.2.2.2.length (Q98 a6))] (c1 (Kx a1 a7 a8 a6 a4 x8 hx8)) ?_;refine Am hq Na Iz ?_;refine Am hq Na Iz ?_;refine Am hq P7 Cy ?_;refine gU 3 ?_;refine Am hq zzN81 Cy ?_;refine gCt true ?_;refine gR hq zzN113 K7 [] [] (c1 (show(Bk (0:Int) 3) from(by decide))) ?_;refine Am hq zzN96 K7 ?_;refine Am hq Rx K7 ?_;obtain⟨x30,hx30,h⟩:=bind_some h;refine gL hq hx30 Rx K7 (fun u (i9,l10,i11,l12,i13,l14,l15)=>(Df u [(32,(Z7 i9))] (Yw l10 i11 l12 i13 l14 l15 l15.length))) (fun u x_=>match x_ with|(.inl (l16,i17,l18,i19,l20,l21))=>aG Γ (.exit 2) (Ud P7 Cy u [] (Yw l16 i17 l18 i19 l20 l21 l21.length))|(.inr (l22,i23,l24,i25,l26,l27))=>aG Γ (.goto 0) (Ud [4] Cy u [] (Yw l22 i23 l24 i25 l26 l27 l27.length))) ?_ ?_
  ·rintro⟨i9,l10,i11,l12,i13,l14,l15⟩ y h;unfold G3 at h;refine Am hq zzN48 K7 ?_;refine gC h ?_ ?_<;>intro h
   ·obtain⟨hc28,h⟩:=Ad h;refine gR hq zzN51 zzN56 [] [] (c1 hc28) ?_;obtain⟨x29,hx29,h⟩:=bind_some h;refine gR hq zzN49 K7 [] [(Z46 x29.1 x29.2.1.Params x29.2.1.Ret x29.2.1.Blocks x29.2.2.1 x29.2.2.2.1 x29.2.2.2.2 x29.2.2.2.2.length (Q98 a6))] (c1 (K0 (x8.2.2.2.getD i9.toNat default) (⟨l10,i11,l12⟩:Ae) i13 l14 a6 l15 x29 hx29)) ?_;refine gC h ?_ ?_<;>intro h
    ·cases h;exact gO (Ck (Cn [4] Cy hq))
    ·refine Am hq Rx K7 ?_;cases h;exact gN De
   ·cases h;exact gO (Ck (Cn P7 Cy hq))
  ·clear hx30;rcases x30 with⟨l16,i17,l18,i19,l20,l21⟩|⟨l22,i23,l24,i25,l26,l27⟩
   ·refine gA ?_;refine Am hq P7 Cy ?_;refine Am hq zzN81 Cy ?_;refine gCt true ?_;refine gR hq zzN113 K7 [] [] (c1 (show(Bk (1:Int) 3) from(by decide))) ?_;refine Am hq zzN96 K7 ?_;refine Am hq Rx K7 ?_;obtain⟨x53,hx53,h⟩:=bind_some h;refine gL hq hx53 Rx K7 (fun u (i32,l33,i34,l35,i36,l37,l38)=>(Df u [(32,(Z7 i32))] (Yw l33 i34 l35 i36 l37 l38 l38.length))) (fun u x_=>match x_ with|(.inl (l39,i40,l41,i42,l43,l44))=>aG Γ (.exit 2) (Ud P7 Cy u [] (Yw l39 i40 l41 i42 l43 l44 l44.length))|(.inr (l45,i46,l47,i48,l49,l50))=>aG Γ (.goto 0) (Ud [4] Cy u [] (Yw l45 i46 l47 i48 l49 l50 l50.length))) ?_ ?_
    ·rintro⟨i32,l33,i34,l35,i36,l37,l38⟩ y h;unfold G4 at h;refine Am hq zzN48 K7 ?_;refine gC h ?_ ?_<;>intro h
     ·obtain⟨hc51,h⟩:=Ad h;refine gR hq zzN51 zzN56 [] [] (c1 hc51) ?_;obtain⟨x52,hx52,h⟩:=bind_some h;refine gR hq zzN49 K7 [] [(Z46 x52.1 x52.2.1.Params x52.2.1.Ret x52.2.1.Blocks x52.2.2.1 x52.2.2.2.1 x52.2.2.2.2 x52.2.2.2.2.length (Q98 a6))] (c1 (Nd (l21.getD i32.toNat default) (⟨l33,i34,l35⟩:Ae) i36 l37 a6 l38 x52 hx52)) ?_;refine gC h ?_ ?_<;>intro h
      ·cases h;exact gO (Ck (Cn [4] Cy hq))
      ·refine Am hq Rx K7 ?_;cases h;exact gN De
     ·cases h;exact gO (Ck (Cn P7 Cy hq))
    ·clear hx53;rcases x53 with⟨l39,i40,l41,i42,l43,l44⟩|⟨l45,i46,l47,i48,l49,l50⟩
     ·refine gA ?_;refine Am hq P7 Cy ?_;refine Am hq zzN81 Cy ?_;refine gCt true ?_;refine gR hq zzN113 K7 [] [] (c1 (show(Bk (2:Int) 3) from(by decide))) ?_;refine Am hq zzN96 K7 ?_;refine Am hq Rx K7 ?_;obtain⟨x76,hx76,h⟩:=bind_some h;refine gL hq hx76 Rx K7 (fun u (i55,l56,i57,l58,i59,l60,l61)=>(Df u [(32,(Z7 i55))] (Yw l56 i57 l58 i59 l60 l61 l61.length))) (fun u x_=>match x_ with|(.inl (l62,i63,l64,i65,l66,l67))=>aG Γ (.exit 2) (Ud P7 Cy u [] (Yw l62 i63 l64 i65 l66 l67 l67.length))|(.inr (l68,i69,l70,i71,l72,l73))=>aG Γ (.goto 0) (Ud [4] Cy u [] (Yw l68 i69 l70 i71 l72 l73 l73.length))) ?_ ?_
      ·rintro⟨i55,l56,i57,l58,i59,l60,l61⟩ y h;unfold G5 at h;refine Am hq zzN48 K7 ?_;refine gC h ?_ ?_<;>intro h
       ·obtain⟨hc74,h⟩:=Ad h;refine gR hq zzN51 zzN56 [] [] (c1 hc74) ?_;obtain⟨x75,hx75,h⟩:=bind_some h;refine gR hq zzN49 K7 [] [(Z46 x75.1 x75.2.1.Params x75.2.1.Ret x75.2.1.Blocks x75.2.2.1 x75.2.2.2.1 x75.2.2.2.2 x75.2.2.2.2.length (Q98 a6))] (c1 (Kz (l44.getD i55.toNat default) (⟨l56,i57,l58⟩:Ae) i59 l60 a6 l61 x75 hx75)) ?_;refine gC h ?_ ?_<;>intro h
        ·cases h;exact gO (Ck (Cn [4] Cy hq))
        ·refine Am hq Rx K7 ?_;cases h;exact gN De
       ·cases h;exact gO (Ck (Cn P7 Cy hq))
      ·clear hx76;rcases x76 with⟨l62,i63,l64,i65,l66,l67⟩|⟨l68,i69,l70,i71,l72,l73⟩
       ·refine gA ?_;refine Am hq P7 Cy ?_;refine Am hq zzN81 Cy ?_;refine gCt false ?_;refine Am hq [2] Cy ?_;cases h;exact gJo (Ms (Ig Pf (Le.refl _ _)))
       ·refine gA' (fun st' hl78=>?_);cases h;exact gJn (Le.trans hl78 De)
     ·refine gA' (fun st' hl79=>?_);cases h;exact gJn (Le.trans hl79 De)
   ·refine gA' (fun st' hl80=>?_);cases h;exact gJn (Le.trans hl80 De)
 ·clear h hx81;rintro⟨i1,l2,i3,l4,i5,l6,l7⟩ y h;unfold G2 at h;refine Am hq [2] Cy ?_;cases h;exact gJo (Ms (Ig Pf (Le.refl _ _)))
 ·clear hx81;refine Qe (fun st' hk=>?_);obtain rfl:=OI h;exact gK hk
def Q104:=(fun(v_:Ak)=>((Lt v_):AV))
def Q101(x1:(Int×Ae×Int×List Int×List Ao)):List (Nat×Own):=(Z3 x1.2.1.Params x1.2.1.Ret x1.2.1.Blocks x1.2.2.1 x1.2.2.2.1 x1.2.2.2.2 x1.2.2.2.2.length)
def Q102(x2:(Int×Ae×Int×List Int×List Ao)):List (Nat×Own):=(Z3 x2.2.1.Params x2.2.1.Ret x2.2.1.Blocks x2.2.2.1 x2.2.2.2.1 x2.2.2.2.2 x2.2.2.2.2.length)
def Q103(x3:(Int×Ae×Int×List Int×List Ao)):List (Nat×Own):=(Z3 x3.2.1.Params x3.2.1.Ret x3.2.1.Blocks x3.2.2.1 x3.2.2.2.1 x3.2.2.2.2 x3.2.2.2.2.length)
def E1(a1:Ae)(a7:Int)(a8:List Int)(a4:List Ao):Option (Int×Ae×Int×List Int×List Ao×List (Int×Ak)):=
 ((Fk a1 a7 a8 a4).bind fun x1=>(bif (x1.1 !=0) then(some (x1.1,x1.2.1,x1.2.2.1,x1.2.2.2.1,x1.2.2.2.2,([]:List (Int×Ak)))) else((Ej x1.2.1 x1.2.2.1 x1.2.2.2.1 x1.2.2.2.2).bind fun x2=>(bif (x2.1 !=0) then(some (x2.1,x2.2.1,x2.2.2.1,x2.2.2.2.1,x2.2.2.2.2,([]:List (Int×Ak)))) else((E0 x2.2.1 x2.2.2.1 x2.2.2.2.1 x2.2.2.2.2).bind fun x3=>(bif (x3.1 !=0) then(some (x3.1,x3.2.1,x3.2.2.1,x3.2.2.2.1,x3.2.2.2.2,([]:List (Int×Ak)))) else((Dx x3.2.1 x3.2.2.1 x3.2.2.2.1 x3.2.2.2.2).bind fun x4=>(bif (x4.1 !=0) then(some (x4.1,x4.2.1,x4.2.2.1,x4.2.2.2.1,x4.2.2.2.2.1,x4.2.2.2.2.2)) else((Fl x4.2.1 x4.2.2.1 x4.2.2.2.1 x4.2.2.2.2.2 x4.2.2.2.2.1).bind fun x5=>(bif (x5.1 !=0) then(some (x5.1,x5.2.1,x5.2.2.1,x5.2.2.2.1,x5.2.2.2.2,x4.2.2.2.2.2)) else(some ((0:Int),x5.2.1,x5.2.2.1,x5.2.2.2.1,x5.2.2.2.2,x4.2.2.2.2.2))))))))))))
theorem Mk(a1:Ae)(a7:Int)(a8:List Int)(a4:List Ao)(r:(Int×Ae×Int×List Int×List Ao×List (Int×Ak)))(h:E1 a1 a7 a8 a4=some r):Spec Tryz.prog 59 [Yx] (Z3 a1.Params a1.Ret a1.Blocks a7 a8 a4 a4.length) (Z7 r.1) [(Z1 r.2.1.Params r.2.1.Ret r.2.1.Blocks r.2.2.1 r.2.2.2.1 9200005 r.2.2.2.2.1),(J6 r.2.2.2.2.1.length),(9200005,.obj (.map false .i64 (Bu (fun(v_:Ak)=>((Lt v_):AV)) r.2.2.2.2.2)))]:=by
 refine Af mix Tryz.func59 (fun Γ hq=>?_);unfold E1 at h;refine Am hq [0] C0 ?_;refine Am hq [3] Ab1 ?_;refine Am hq Sm C0 ?_;refine gU 5 ?_;refine Am hq Yl C0 ?_;refine gCt true ?_;refine gR hq Ab5 C0 [] [] (c1 (show(Bk (0:Int) 5) from(by decide))) ?_;obtain⟨x1,hx1,h⟩:=bind_some h;refine gR hq Ab6 C0 [] [(Z54 x1.1 (Q101 x1))] (c1 (Nf a1 a7 a8 a4 x1 hx1)) ?_;refine Am hq Ab4 C0 ?_;refine gC h ?_ ?_<;>intro h
 ·refine Am hq [2] C0 ?_;refine Q0 (⟨[(2,(Z7 x1.1))],(Q101 x1),[]⟩:St) ?_;cases h;exact gK (e:=.ret) (Ig zzN26 (Le.trans (L5 (r:=30000) (j:=5) (nm:=9300005) .i64 rfl rfl (nl rfl) rfl) (Cn (st':=⟨[(2,(Z7 x1.1))],[(Z1 x1.2.1.Params x1.2.1.Ret x1.2.1.Blocks x1.2.2.1 x1.2.2.2.1 9300005 x1.2.2.2.2),(J6 x1.2.2.2.2.length),(9300005,.obj (.map false .i64 (Bu Q104 ([]:List (Int×Ak)))))],[]⟩) [2] zzN73 hq)))
 ·refine Am hq Sm C0 ?_;refine Am hq Yl C0 ?_;refine gCt true ?_;refine gR hq Ab5 C0 [] [] (c1 (show(Bk (1:Int) 5) from(by decide))) ?_;obtain⟨x2,hx2,h⟩:=bind_some h;refine gR hq Ab6 C0 [] [(Z54 x2.1 (Q102 x2))] (c1 (Lh x1.2.1 x1.2.2.1 x1.2.2.2.1 x1.2.2.2.2 x2 hx2)) ?_;refine Am hq Ab4 C0 ?_;refine gC h ?_ ?_<;>intro h
  ·refine Am hq [2] C0 ?_;refine Q0 (⟨[(2,(Z7 x2.1))],(Q102 x2),[]⟩:St) ?_;cases h;exact gK (e:=.ret) (Ig zzN26 (Le.trans (L5 (r:=30000) (j:=5) (nm:=9300005) .i64 rfl rfl (nl rfl) rfl) (Cn (st':=⟨[(2,(Z7 x2.1))],[(Z1 x2.2.1.Params x2.2.1.Ret x2.2.1.Blocks x2.2.2.1 x2.2.2.2.1 9300005 x2.2.2.2.2),(J6 x2.2.2.2.2.length),(9300005,.obj (.map false .i64 (Bu Q104 ([]:List (Int×Ak)))))],[]⟩) [2] zzN73 hq)))
  ·refine Am hq Sm C0 ?_;refine Am hq Yl C0 ?_;refine gCt true ?_;refine gR hq Ab5 C0 [] [] (c1 (show(Bk (2:Int) 5) from(by decide))) ?_;obtain⟨x3,hx3,h⟩:=bind_some h;refine gR hq Ab6 C0 [] [(Z54 x3.1 (Q103 x3))] (c1 (Mj x2.2.1 x2.2.2.1 x2.2.2.2.1 x2.2.2.2.2 x3 hx3)) ?_;refine Am hq Ab4 C0 ?_;refine gC h ?_ ?_<;>intro h
   ·refine Am hq [2] C0 ?_;refine Q0 (⟨[(2,(Z7 x3.1))],(Q103 x3),[]⟩:St) ?_;cases h;exact gK (e:=.ret) (Ig zzN26 (Le.trans (L5 (r:=30000) (j:=5) (nm:=9300005) .i64 rfl rfl (nl rfl) rfl) (Cn (st':=⟨[(2,(Z7 x3.1))],[(Z1 x3.2.1.Params x3.2.1.Ret x3.2.1.Blocks x3.2.2.1 x3.2.2.2.1 9300005 x3.2.2.2.2),(J6 x3.2.2.2.2.length),(9300005,.obj (.map false .i64 (Bu Q104 ([]:List (Int×Ak)))))],[]⟩) [2] zzN73 hq)))
   ·refine Am hq Sm C0 ?_;refine Am hq Yl C0 ?_;refine gCt true ?_;refine gR hq Ab5 C0 [] [] (c1 (show(Bk (3:Int) 5) from(by decide))) ?_;obtain⟨x4,hx4,h⟩:=bind_some h;refine gR hq Ab6 M9 [] [⟨T2,[(9200005,13000005)],(Z7 x4.1),[(Z1 x4.2.1.Params x4.2.1.Ret x4.2.1.Blocks x4.2.2.1 x4.2.2.2.1 9200005 x4.2.2.2.2.1),(J6 x4.2.2.2.2.1.length),(9200005,.obj (.map false .i64 (Bu Q104 x4.2.2.2.2.2)))],[],[]⟩] (c1 (Ky x3.2.1 x3.2.2.1 x3.2.2.2.1 x3.2.2.2.2 x4 hx4)) ?_;refine Am hq Ab4 M9 ?_;refine gC h ?_ ?_<;>intro h
    ·refine Am hq [2] M9 ?_;cases h;exact B6 zzN24
    ·refine Am hq Sm M9 ?_;refine Am hq Yl M9 ?_;refine gCt true ?_;refine gR hq Ab5 M9 [] [] (c1 (show(Bk (4:Int) 5) from(by decide))) ?_;obtain⟨x5,hx5,h⟩:=bind_some h;refine gR hq Ab6 M9 [] [⟨[(30000,30000),(37006,37006),(13000005,9100005)],[],(Z7 x5.1),[(Z1 x5.2.1.Params x5.2.1.Ret x5.2.1.Blocks x5.2.2.1 x5.2.2.2.1 9100005 x5.2.2.2.2),(J6 x5.2.2.2.2.length),(9100005,.obj (.map false .i64 (Bu Q104 x4.2.2.2.2.2)))],[],[]⟩] (c1 (Ng x4.2.1 x4.2.2.1 x4.2.2.2.1 x4.2.2.2.2.2 x4.2.2.2.2.1 x5 hx5)) ?_;refine Am hq Ab4 M9 ?_;refine gC h ?_ ?_<;>intro h
     ·refine Am hq [2] M9 ?_;cases h;exact B6 zzN24
     ·refine Am hq Sm M9 ?_;refine Am hq Yl M9 ?_;refine gCt false ?_;refine Am hq [2] M9 ?_;cases h;exact B6 zzN24
def Q107(a3:Ae)(aN:Int):AV:=(.agg [(Z8 a3.Params),(Z7 a3.Ret),(Z15 a3.Blocks),(Z7 aN),Z24,.nilm,(AV.list 5 F4 default ([]:List Ao) .exact)])
def Q106(a3:Ae)(aN:Int):=(⟨[(5,(.ptr 5 0))],[(5,.row 103 [(Z8 a3.Params),(Z7 a3.Ret),(Z15 a3.Blocks),(Z7 aN),Z24,.nilm,(AV.list 5 F4 default ([]:List Ao) .exact)])],[]⟩:St)
def Q105(a3:Ae)(aN:Int):=(⟨[(5,(.ptr 5 0))],[(5,.row 103 [(Z8 a3.Params),(Z7 a3.Ret),(Z15 a3.Blocks),(Z7 aN),Z24,.nilm,(AV.list 5 F4 default ([]:List Ao) (.own 50506))]),(50506,.tok 5 149 (([]:List Ao).length))],[]⟩:St)
def Kt(a3:Ae)(aN:Int):Option Int:=
 (bif (bif (decide (aN<0)) then true else(decide (((2:Int):Int)<aN))) then(some (1:Int)) else((E1 a3 aN ([]:List Int) ([]:List Ao)).bind fun x1=>(some x1.1)))
theorem U2(a3:Ae)(aN:Int)(r:Int)(h:Kt a3 aN=some r):Spec Tryz.prog 33 [(Z56 a3),(Z7 aN)] [] (.int .i64 r) []:=by
 refine Af mix Tryz.func33 (fun Γ hq=>?_);unfold Kt at h;refine Am hq Or [2] ?_;refine gR hq [1,2,11] [2] [] [] (ci (gI ((decide (aN<0))==false)) (c1 (Ox (decide (aN<0))))) ?_;refine gC h ?_ ?_<;>intro h
 ·refine Am hq [4] [] ?_;cases h;exact B6 []
 ·refine gR hq [5] [5] [(14,(Q107 a3 aN))] [] (c1 (show(AVle (.agg [(Z8 a3.Params),(Z7 a3.Ret),(Z15 a3.Blocks),(Z7 aN),Z44,.nilm,Z44]) (Q107 a3 aN)) from(AVle.agg (.cons (AVle.refl _) (.cons (AVle.refl _) (.cons (AVle.refl _) (.cons (AVle.refl _) (.cons Cl (.cons (AVle.refl _) (.cons Cl .nil)))))))))) ?_;refine Q0 (Q106 a3 aN) ?_;refine I6 (show Le Γ _ (Q105 a3 aN) from Le.trans (Cn (st':=(Q106 a3 aN)) [5] [5] hq) (Le.trans (Aao (r:=5) (j:=6) (nm:=50506) (sz':=5) (fun i=>F4 (([]:List Ao).getD i default)) 149 rfl rfl (nl rfl) rfl (.inl ⟨rfl,rfl⟩) (fun h_=>absurd h_ (by decide))) (Cn (st':=(Q105 a3 aN)) [5] [5,50506] hq))) ?_;refine I6 (show Le Γ _ (⟨[(5,(.ptr 5 0))],[(5,.row 103 [(Z8 a3.Params),(Z7 a3.Ret),(Z15 a3.Blocks),(Z7 aN),(AV.list 1 Aq 0 ([]:List Int) .none),.nilm,(AV.list 5 F4 default ([]:List Ao) (.own 50506))]),(50506,.tok 5 149 (([]:List Ao).length))],[]⟩:St) from Le.trans (Cn (st':=(Q105 a3 aN)) [5] [5,50506] hq) (Mx (.cons (AVle.refl _) .nil) (.row (.cons (AVle.refl _) (.cons (AVle.refl _) (.cons (AVle.refl _) (.cons (AVle.refl _) (.cons AVle.untag (.cons (AVle.refl _) (.cons (AVle.refl _) .nil))))))) (.same .nil)))) ?_;obtain⟨x1,hx1,h⟩:=bind_some h;refine gR hq [4] [] [] [⟨[(5,30000),(50506,37006)],[(9200005,10000505)],(Z7 x1.1),[(Z1 x1.2.1.Params x1.2.1.Ret x1.2.1.Blocks x1.2.2.1 x1.2.2.2.1 9200005 x1.2.2.2.2.1),(J6 x1.2.2.2.2.1.length),(9200005,.obj (.map false .i64 (Bu (fun(v_:Ak)=>((Lt v_):AV)) x1.2.2.2.2.2)))],[],[]⟩] (c1 (Mk a3 aN ([]:List Int) ([]:List Ao) x1 hx1)) ?_;cases h;exact B6 []
def Iv(aaH:List Aa)(aaI:List (List Int))(aC:Int):Option Unit:=
 (some ())
theorem Si(aaH:List Aa)(aaI:List (List Int))(aC:Int)(r:Unit)(h:Iv aaH aaI aC=some r):Spec Tryz.prog 34 [(Z15 aaH),(Tv aaI),(Z7 aC)] [] (.agg [(Z6 aaH aaI aC),(Z6 aaH aaI aC),(Z6 aaH aaI aC),(.clo 62 [] []),(.clo 62 [] []),(Z6 aaH aaI aC)]) []:=by
 refine Af mix Tryz.func34 (fun Γ hq=>?_);unfold Iv at h;refine gR hq [3,4,5,6] [6] [(3,(.rpo [])),(4,(.rpo [])),(5,(.rpo []))] [] trivial ?_;refine Am hq [6,7] [6] ?_;refine Am hq [6,7,8] [6] ?_;refine Am hq [6] [6] ?_;cases h;exact B6 []
def Q109(a2:List Aa)(aL:Int):=((((a2.getD aL.toNat default).End.Kind:Int)!=1)==false)
def Wb(a2:List Aa)(aL:Int):=(bif (((a2.getD aL.toNat default).End.Kind:Int)!=1) then true else(decide (((0:Int):Int)<(((a2.getD aL.toNat default).Phis).length:Int))))
def Cu(aL:Int)(a2:List Aa)(aaJ:List (List Int))(aaD:Int):Option (Int×Int×Bool):=
 (Bi (Bk aL a2.length) (Bi (((bif (((a2.getD aL.toNat default).End.Kind:Int)!=1) then true else(decide (((0:Int):Int)<(((a2.getD aL.toNat default).Phis).length:Int))))==false)=true->(Bk aL aaJ.length)) ((bif ((bif (((a2.getD aL.toNat default).End.Kind:Int)!=1) then true else(decide (((0:Int):Int)<(((a2.getD aL.toNat default).Phis).length:Int))))==false) then Ce (aaJ.getD aL.toNat []) ([aaD]:List Int) else some false).bind fun x3=>(bif (bif (bif (((a2.getD aL.toNat default).End.Kind:Int)!=1) then true else(decide (((0:Int):Int)<(((a2.getD aL.toNat default).Phis).length:Int)))) then true else(!x3)) then(some ((-1:Int),(-1:Int),false)) else(Bi (Bk (0:Int) ((a2.getD aL.toNat default).End.To).length) (some (aL,(((a2.getD aL.toNat default).End.To).getD (0:Int).toNat (0:Int)),true)))))))
theorem En(aL:Int)(a2:List Aa)(aaJ:List (List Int))(aaD:Int)(r:(Int×Int×Bool))(h:Cu aL a2 aaJ aaD=some r):Spec Tryz.prog 60 [(Z7 aL),(.rpo [(Z15 a2)]),(.rpo [(Tv aaJ)]),(.rpo [(Z7 aaD)])] [] (.tuple [(Z7 r.1),(Z7 r.2.1),(.bool r.2.2)]) []:=by
 refine Af mix Tryz.func60 (fun Γ hq=>?_);unfold Cu at h;refine Am hq [0,1,2,3] [] ?_;obtain⟨hc1,h⟩:=Ad h;refine gR hq [0,2,3,8] [8] [] [] (c1 hc1) ?_;obtain⟨hc2,h⟩:=Ad h;obtain⟨x3,hx3,h⟩:=bind_some h;refine gR hq [0,8,32] [8] [(29,(Z25 aaD))] [(Z2 x3)] (ci (gI (Q109 a2 aL)) (ci (gI (Q109 a2 aL)) (ci (gI (Q109 a2 aL)) (ci (Ox (((a2.getD aL.toNat default).End.Kind:Int)!=1)) (ci (gI ((Wb a2 aL)==false)) (ci (gI ((Wb a2 aL)==false)) (ci hc2 (ci (gI ((Wb a2 aL)==false)) (ci (gI ((Wb a2 aL)==false)) (ci (show(((Wb a2 aL)==false)=true->(AVle (.slice 1 1 (fun i=>([[(Z7 aaD)]]:List (List AV)).getD i []) .exact) (Z25 aaD))) from(fun hg=>@(A6 1 Aq (0:Int) ([aaD]:List Int)))) (ci (gI ((Wb a2 aL)==false)) (ci (gI ((Wb a2 aL)==false)) (ci (fun(hg:((Wb a2 aL)==false)=true)=>(D4 (aaJ.getD aL.toNat []) ([aaD]:List Int) x3 (Bn hg hx3))) (ci (gI ((Wb a2 aL)==false)) (c1 (Ox (Wb a2 aL))))))))))))))))) ?_;refine gC h ?_ ?_<;>intro h
 ·refine Am hq V1 [] ?_;cases h;exact B6 []
 ·obtain⟨hc4,h⟩:=Ad h;refine gR hq V1 [] [] [] (c1 hc4) ?_;cases h;exact B6 []
def Q110(x2:(Int×Int×Bool))(x4:(Int×Int×Bool)):=(bif (!x2.2.2) then true else(!x4.2.2))
def Hp(aC:Int)(aO:List Int)(aa5:List Aa)(aa6:List (List Int))(aa7:Int)(aa8:List Aa)(aa9:List (List Int))(aaA:Int):Option (Ai×Bool):=
 (Bi (Bk (0:Int) aO.length) ((Cu (aO.getD (0:Int).toNat (0:Int)) aa5 aa6 aa7).bind fun x2=>(Bi (Bk (1:Int) aO.length) ((Cu (aO.getD (1:Int).toNat (0:Int)) aa8 aa9 aaA).bind fun x4=>(bif (bif (bif (bif (!x2.2.2) then true else(!x4.2.2)) then true else(x2.2.1 !=x4.2.1)) then true else(x2.2.1==aC)) then(some ((⟨(0:Int),(0:Int),(0:Int),(0:Int)⟩:Ai),false)) else(some ((⟨aC,x2.1,x4.1,x2.2.1⟩:Ai),true)))))))
theorem Qj(aC:Int)(aO:List Int)(aa5:List Aa)(aa6:List (List Int))(aa7:Int)(aa8:List Aa)(aa9:List (List Int))(aaA:Int)(r:(Ai×Bool))(h:Hp aC aO aa5 aa6 aa7 aa8 aa9 aaA=some r):Spec Tryz.prog 35 [(Z7 aC),(Z8 aO),(.agg [(Z6 aa5 aa6 aa7),(Z6 aa8 aa9 aaA)])] [] (.tuple (Z19 r.1 r.2)) []:=by
 refine Af mix Tryz.func35 (fun Γ hq=>?_);unfold Hp at h;refine Am hq zzN99 [5,6] ?_;obtain⟨hc1,h⟩:=Ad h;obtain⟨x2,hx2,h⟩:=bind_some h;refine gR hq zzN75 [5,6] [] [(Z26 x2.1 x2.2.1 x2.2.2)] (ci (show(Bk (0:Int) 2) from(by decide)) (ci hc1 (c1 (En (aO.getD (0:Int).toNat (0:Int)) aa5 aa6 aa7 x2 hx2)))) ?_;obtain⟨hc3,h⟩:=Ad h;obtain⟨x4,hx4,h⟩:=bind_some h;refine gR hq zzN59 [6] [] [(Z26 x4.1 x4.2.1 x4.2.2)] (ci (show(Bk (1:Int) 2) from(by decide)) (ci hc3 (c1 (En (aO.getD (1:Int).toNat (0:Int)) aa8 aa9 aaA x4 hx4)))) ?_;refine gR hq zzN82 [6] [] [] (ci (gI ((!x2.2.2)==false)) (ci (Ox (!x2.2.2)) (ci (gI ((Q110 x2 x4)==false)) (ci (gI ((Q110 x2 x4)==false)) (ci (Ox (Q110 x2 x4)) (ci (gI ((bif (Q110 x2 x4) then true else(x2.2.1 !=x4.2.1))==false)) (ci (gI ((bif (Q110 x2 x4) then true else(x2.2.1 !=x4.2.1))==false)) (c1 (Ox (bif (Q110 x2 x4) then true else(x2.2.1 !=x4.2.1))))))))))) ?_;refine gC h ?_ ?_<;>intro h
 ·refine Am hq [6,7] [6] ?_;cases h;exact B6 []
 ·refine Am hq [6,7] [6] ?_;cases h;exact B6 []
def E4(aL:Int):Option (Int×Int×Bool):=
 (some ((-1:Int),aL,true))
theorem J0(aL:Int)(r:(Int×Int×Bool))(h:E4 aL=some r):Spec Tryz.prog 62 [(Z7 aL)] [] (.tuple [(Z7 r.1),(Z7 r.2.1),(.bool r.2.2)]) []:=by
 refine Af mix Tryz.func62 (fun Γ hq=>?_);unfold E4 at h;refine Am hq [0] [] ?_;refine Am hq [2,3,4] [] ?_;cases h;exact B6 []
def Q111(x2:(Int×Int×Bool))(x4:(Int×Int×Bool)):=(bif (!x2.2.2) then true else(!x4.2.2))
def Fp(aC:Int)(aO:List Int)(aa5:List Aa)(aa6:List (List Int))(aa7:Int):Option (Ai×Bool):=
 (Bi (Bk (0:Int) aO.length) ((Cu (aO.getD (0:Int).toNat (0:Int)) aa5 aa6 aa7).bind fun x2=>(Bi (Bk (1:Int) aO.length) ((E4 (aO.getD (1:Int).toNat (0:Int))).bind fun x4=>(bif (bif (bif (bif (!x2.2.2) then true else(!x4.2.2)) then true else(x2.2.1 !=x4.2.1)) then true else(x2.2.1==aC)) then(some ((⟨(0:Int),(0:Int),(0:Int),(0:Int)⟩:Ai),false)) else(some ((⟨aC,x2.1,x4.1,x2.2.1⟩:Ai),true)))))))
theorem Ni(aC:Int)(aO:List Int)(aa5:List Aa)(aa6:List (List Int))(aa7:Int)(r:(Ai×Bool))(h:Fp aC aO aa5 aa6 aa7=some r):Spec Tryz.prog 35 [(Z7 aC),(Z8 aO),(.agg [(Z6 aa5 aa6 aa7),(.clo 62 [] [])])] [] (.tuple (Z19 r.1 r.2)) []:=by
 refine Af mix Tryz.func35 (fun Γ hq=>?_);unfold Fp at h;refine Am hq zzN99 [5,6] ?_;obtain⟨hc1,h⟩:=Ad h;obtain⟨x2,hx2,h⟩:=bind_some h;refine gR hq zzN75 [5,6] [] [(Z26 x2.1 x2.2.1 x2.2.2)] (ci (show(Bk (0:Int) 2) from(by decide)) (ci hc1 (c1 (En (aO.getD (0:Int).toNat (0:Int)) aa5 aa6 aa7 x2 hx2)))) ?_;obtain⟨hc3,h⟩:=Ad h;obtain⟨x4,hx4,h⟩:=bind_some h;refine gR hq zzN59 [6] [] [(Z26 x4.1 x4.2.1 x4.2.2)] (ci (show(Bk (1:Int) 2) from(by decide)) (ci hc3 (c1 (J0 (aO.getD (1:Int).toNat (0:Int)) x4 hx4)))) ?_;refine gR hq zzN82 [6] [] [] (ci (gI ((!x2.2.2)==false)) (ci (Ox (!x2.2.2)) (ci (gI ((Q111 x2 x4)==false)) (ci (gI ((Q111 x2 x4)==false)) (ci (Ox (Q111 x2 x4)) (ci (gI ((bif (Q111 x2 x4) then true else(x2.2.1 !=x4.2.1))==false)) (ci (gI ((bif (Q111 x2 x4) then true else(x2.2.1 !=x4.2.1))==false)) (c1 (Ox (bif (Q111 x2 x4) then true else(x2.2.1 !=x4.2.1))))))))))) ?_;refine gC h ?_ ?_<;>intro h
 ·refine Am hq [6,7] [6] ?_;cases h;exact B6 []
 ·refine Am hq [6,7] [6] ?_;cases h;exact B6 []
def Q112(x2:(Int×Int×Bool))(x4:(Int×Int×Bool)):=(bif (!x2.2.2) then true else(!x4.2.2))
def Fq(aC:Int)(aO:List Int)(aa8:List Aa)(aa9:List (List Int))(aaA:Int):Option (Ai×Bool):=
 (Bi (Bk (0:Int) aO.length) ((E4 (aO.getD (0:Int).toNat (0:Int))).bind fun x2=>(Bi (Bk (1:Int) aO.length) ((Cu (aO.getD (1:Int).toNat (0:Int)) aa8 aa9 aaA).bind fun x4=>(bif (bif (bif (bif (!x2.2.2) then true else(!x4.2.2)) then true else(x2.2.1 !=x4.2.1)) then true else(x2.2.1==aC)) then(some ((⟨(0:Int),(0:Int),(0:Int),(0:Int)⟩:Ai),false)) else(some ((⟨aC,x2.1,x4.1,x2.2.1⟩:Ai),true)))))))
theorem Nj(aC:Int)(aO:List Int)(aa8:List Aa)(aa9:List (List Int))(aaA:Int)(r:(Ai×Bool))(h:Fq aC aO aa8 aa9 aaA=some r):Spec Tryz.prog 35 [(Z7 aC),(Z8 aO),(.agg [(.clo 62 [] []),(Z6 aa8 aa9 aaA)])] [] (.tuple (Z19 r.1 r.2)) []:=by
 refine Af mix Tryz.func35 (fun Γ hq=>?_);unfold Fq at h;refine Am hq zzN99 [5,6] ?_;obtain⟨hc1,h⟩:=Ad h;obtain⟨x2,hx2,h⟩:=bind_some h;refine gR hq zzN75 [5,6] [] [(Z26 x2.1 x2.2.1 x2.2.2)] (ci (show(Bk (0:Int) 2) from(by decide)) (ci hc1 (c1 (J0 (aO.getD (0:Int).toNat (0:Int)) x2 hx2)))) ?_;obtain⟨hc3,h⟩:=Ad h;obtain⟨x4,hx4,h⟩:=bind_some h;refine gR hq zzN59 [6] [] [(Z26 x4.1 x4.2.1 x4.2.2)] (ci (show(Bk (1:Int) 2) from(by decide)) (ci hc3 (c1 (En (aO.getD (1:Int).toNat (0:Int)) aa8 aa9 aaA x4 hx4)))) ?_;refine gR hq zzN82 [6] [] [] (ci (gI ((!x2.2.2)==false)) (ci (Ox (!x2.2.2)) (ci (gI ((Q112 x2 x4)==false)) (ci (gI ((Q112 x2 x4)==false)) (ci (Ox (Q112 x2 x4)) (ci (gI ((bif (Q112 x2 x4) then true else(x2.2.1 !=x4.2.1))==false)) (ci (gI ((bif (Q112 x2 x4) then true else(x2.2.1 !=x4.2.1))==false)) (c1 (Ox (bif (Q112 x2 x4) then true else(x2.2.1 !=x4.2.1))))))))))) ?_;refine gC h ?_ ?_<;>intro h
 ·refine Am hq [6,7] [6] ?_;cases h;exact B6 []
 ·refine Am hq [6,7] [6] ?_;cases h;exact B6 []
def Lg(a3:Ae)(x2:(Ax×Int)):(List Ai×Int)->Option (LR (List Ai×Int) (List Ai)):=
 fun((l3,i4):(List Ai×Int))=>(bif (decide (i4<(a3.Blocks.length:Int))) then(Option.bind (α:=List Ai) (Bi (Bk i4 a3.Blocks.length) (Bi (((((a3.Blocks.getD i4.toNat default).End.Kind:Int)!=2)==false)=true->(Bk (0:Int) ((a3.Blocks.getD i4.toNat default).End.To).length)) (Bi (((((a3.Blocks.getD i4.toNat default).End.Kind:Int)!=2)==false)=true->(Bk (1:Int) ((a3.Blocks.getD i4.toNat default).End.To).length)) (bif (bif (((a3.Blocks.getD i4.toNat default).End.Kind:Int)!=2) then true else(((((a3.Blocks.getD i4.toNat default).End.To).getD (0:Int).toNat (0:Int)):Int)==(((a3.Blocks.getD i4.toNat default).End.To).getD (1:Int).toNat (0:Int)))) then(some l3) else((Iv a3.Blocks x2.1.Pred i4).bind fun x10=>((Hp i4 ((a3.Blocks.getD i4.toNat default).End.To) a3.Blocks x2.1.Pred i4 a3.Blocks x2.1.Pred i4).bind fun x11=>(bif x11.2 then(Bi (l3.length+([x11.1]:List Ai).length<=room) (some (l3++([x11.1]:List Ai)))) else((Fp i4 ((a3.Blocks.getD i4.toNat default).End.To) a3.Blocks x2.1.Pred i4).bind fun x13=>(bif x13.2 then(Bi (l3.length+([x13.1]:List Ai).length<=room) (some (l3++([x13.1]:List Ai)))) else((Fq i4 ((a3.Blocks.getD i4.toNat default).End.To) a3.Blocks x2.1.Pred i4).bind fun x15=>(bif x15.2 then(Bi (l3.length+([x15.1]:List Ai).length<=room) (some (l3++([x15.1]:List Ai)))) else(some l3)))))))))))) (fun x17=>(some (.next (x17,(A8 (i4+1))))))) else(some (.done l3)))
def R8 :Empty->Option (LR Empty (List Ai)):=
 fun(s_:Empty)=>nomatch s_
def Wa(Γ:Du)(a3:Ae)(r:List Ai):Exit->St->Prop:=fK Tryz.prog Γ Tryz.f18.results.toList [] (Z35 r 20000) [(20000,.tok 4 27 r.length)]
def Q119(a3:Ae):AV:=(Z15 a3.Blocks)
def Q116:AV:=(AV.list 4 Ba default ([]:List Ai) .exact)
def Wc(a3:Ae)(i4:Int):=((((a3.Blocks.getD i4.toNat default).End.Kind:Int)!=2)==false)
def Q117:=(⟨[(2,(AV.list 4 Ba default ([]:List Ai) (.own 6002)))],[(6002,.tok 4 27 (([]:List Ai).length))],[]⟩:St)
def Q115(a3:Ae)(x2:(Ax×Int))(i4:Int):AV:=(.clo 60 [] [(.rpo [(Q119 a3)]),(.rpo [(Tv x2.1.Pred)]),(.rpo [(Z7 i4)])])
def Q114(a3:Ae)(x2:(Ax×Int)):=(⟨[(1,(.ptr 1 0)),(3,(.ptr 3 0)),(5,(AV.list 4 Ba default ([]:List Ai) (.own 5005))),(21,(Q119 a3)),(22,(Z50 a3.Blocks.length)),(23,W4)],[(1,.row 25 [(Z8 a3.Params),(Z7 a3.Ret),(Q119 a3)]),(3,.row 41 [(Tv x2.1.Succ),(Tv x2.1.Pred)]),(5005,.tok 4 27 (([]:List Ai).length))],[]⟩:St)
def Gl(a3:Ae):Option (List Ai):=
 ((Ql (S:=Empty) (X:=List Ai) ((Kt a3 (2:Int)).bind fun x1=>(bif (x1 !=0) then(some (.done ([]:List Ai))) else((Md a3).bind fun x2=>((Bd (Lg a3 x2) (([]:List Ai),(0:Int))).bind (fun x19=>(some (.done x19))))))) R8).bind (fun x21=>(some x21)))
theorem Jy(a3:Ae)(r:List Ai)(h:Gl a3=some r):Spec Tryz.prog 18 [(Z56 a3)] [] (Z35 r 20000) [(20000,.tok 4 27 r.length)]:=by
 refine Af mix Tryz.func18 (fun Γ hq=>?_);unfold Gl at h;refine gR hq [1] [1] [(2,Q116)] [] (c1 (C1 4 Ba (default:Ai))) ?_;obtain⟨x21,hx21,h⟩:=bind_some h;refine gS hx21 (fun(s_:Empty)=>nomatch s_) (fun(s_:Empty)=>nomatch s_) (fun r_=>aR (Wa Γ a3 r_)) ?_ ?_ ?_
 ·clear h hx21;intro y h;obtain⟨x1,hx1,h⟩:=bind_some h;refine gR hq [1,14] [1] [] [(Z31 x1)] (c1 (U2 a3 (2:Int) x1 hx1)) ?_;refine gC h ?_ ?_<;>intro h
  ·refine gR hq [2] [] [(2,Q116)] [] (c1 (C1 4 Ba (default:Ai))) ?_;refine Q0 (⟨[(2,Q116)],[],[]⟩:St) ?_;cases h;exact gJo (Ms (Ig [(6002,20000)] (show Le Γ _ Q117 from Le.trans (Cn (st':=⟨[(2,Q116)],[],[]⟩) [2] [] hq) (Le.trans (Qg (t:=2) (nm:=6002) (sz':=4) (fun i=>Ba (([]:List Ai).getD i default)) 27 rfl rfl (.inl ⟨rfl,rfl⟩) (fun h_=>absurd h_ (by decide))) (Cn (st':=Q117) [2] [6002] hq)))))
  ·obtain⟨x2,hx2,h⟩:=bind_some h;refine gR hq [1,3] [1,3] [] [⟨[],[],(.tuple [(.agg (Kc x2.1)),(Z7 x2.2)]),[],[],[]⟩] (c1 (S5 a3 x2 hx2)) ?_;refine gR hq [1,3,5] [1,3] [(5,Q116)] [] (c1 (C1 4 Ba (default:Ai))) ?_;refine Am hq P4 [1,3] ?_;refine I6 (st':=(Q114 a3 x2)) (Le.trans (Cn (st':=⟨[(1,(.ptr 1 0)),(3,(.ptr 3 0)),(5,Q116),(21,(Q119 a3)),(22,(Z50 a3.Blocks.length)),(23,W4)],[(1,.row 25 [(Z8 a3.Params),(Z7 a3.Ret),(Q119 a3)]),(3,.row 41 [(Tv x2.1.Succ),(Tv x2.1.Pred)])],[]⟩) P4 [1,3] hq) (Le.trans (Qg (t:=5) (nm:=5005) (sz':=4) (fun i=>Ba (([]:List Ai).getD i default)) 27 rfl rfl (.inl ⟨rfl,rfl⟩) (fun h_=>absurd h_ (by decide))) (Cn (st':=(Q114 a3 x2)) P4 Ry hq))) ?_;obtain⟨x19,hx19,h⟩:=bind_some h;refine gL hq hx19 P4 Ry (fun u (l3,i4)=>(Df u [(5,(Z35 l3 5005)),(23,(Z7 i4))] [(5005,.tok 4 27 l3.length)])) (fun u l5=>aG Γ (.exit 0) (⟨[(5,(Z35 l5 5005))],[(5005,.tok 4 27 l5.length)],[]⟩:St)) ?_ ?_
   ·rintro⟨l3,i4⟩ y h;unfold Lg at h;refine Am hq [1,3,5,21,22,23,24] Ry ?_;refine gC h ?_ ?_<;>intro h
    ·obtain⟨x17,hx17,h⟩:=bind_some h;refine gJ hx17 (fun l6=>aG Γ .normal (⟨[(1,(.ptr 1 0)),(3,(.ptr 3 0)),(5,(Z35 l6 5005)),(21,(Q119 a3)),(22,(Z50 a3.Blocks.length)),(23,(Z7 i4))],[(1,.row 25 [(Z8 a3.Params),(Z7 a3.Ret),(Q119 a3)]),(3,.row 41 [(Tv x2.1.Succ),(Tv x2.1.Pred)]),(5005,.tok 4 27 l6.length)],[]⟩:St)) ?_ ?_
     ·clear h hx17;intro y h;obtain⟨hc7,h⟩:=Ad h;refine gR hq [1,3,5,6,7,21,22,23] P6 [] [] (c1 hc7) ?_;obtain⟨hc8,h⟩:=Ad h;obtain⟨hc9,h⟩:=Ad h;refine gR hq [1,3,5,6,7,21,22,23,44] P6 [] [] (ci (gI (Wc a3 i4)) (ci (gI (Wc a3 i4)) (ci (gI (Wc a3 i4)) (ci hc8 (ci (gI (Wc a3 i4)) (ci (gI (Wc a3 i4)) (ci (gI (Wc a3 i4)) (ci (gI (Wc a3 i4)) (ci hc9 (ci (gI (Wc a3 i4)) (ci (gI (Wc a3 i4)) (ci (gI (Wc a3 i4)) (c1 (Ox (((a3.Blocks.getD i4.toNat default).End.Kind:Int)!=2))))))))))))))) ?_;refine gC h ?_ ?_<;>intro h
      ·obtain rfl:=OI h;exact gK (Ck (Cn P4 Ry hq))
      ·obtain⟨x10,hx10,h⟩:=bind_some h;refine gR hq zzN30 P6 [] [⟨[],[],(.agg [(Q115 a3 x2 i4),(Q115 a3 x2 i4),(Q115 a3 x2 i4),(.clo 62 [] []),(.clo 62 [] []),(Q115 a3 x2 i4)]),[],[],[]⟩] (c1 (Si a3.Blocks x2.1.Pred i4 x10 hx10)) ?_;refine gU 3 ?_;refine Am hq zzN27 P6 ?_;refine gCt true ?_;refine gR hq zzN41 zzN91 [] [] (c1 (show(Bk (0:Int) 3) from(by decide))) ?_;obtain⟨x11,hx11,h⟩:=bind_some h;refine gR hq zzN31 Yf [] [(Z51 x11.1 x11.2)] (c1 (Qj i4 ((a3.Blocks.getD i4.toNat default).End.To) a3.Blocks x2.1.Pred i4 a3.Blocks x2.1.Pred i4 x11 hx11)) ?_;refine Am hq zzN32 Yf ?_;refine gC h ?_ ?_<;>intro h
       ·obtain⟨hc12,h⟩:=Ad h;refine gR hq P4 Ry (Z18 x11.1 l3) [] (ci (A6 4 Ba (default:Ai) ([x11.1]:List Ai)) (ci (Eq.refl l3.length) (ci hc12 (ci (Lu 4 5005 Ba (default:Ai) l3 ([x11.1]:List Ai)) (c1 (Dp l3 ([x11.1]:List Ai))))))) ?_;cases h;exact gK (Ck De)
       ·refine Am hq zzN30 P6 ?_;refine Am hq zzN27 P6 ?_;refine gCt true ?_;refine gR hq zzN41 zzN91 [] [] (c1 (show(Bk (1:Int) 3) from(by decide))) ?_;obtain⟨x13,hx13,h⟩:=bind_some h;refine gR hq zzN31 Yf [] [(Z51 x13.1 x13.2)] (c1 (Ni i4 ((a3.Blocks.getD i4.toNat default).End.To) a3.Blocks x2.1.Pred i4 x13 hx13)) ?_;refine Am hq zzN32 Yf ?_;refine gC h ?_ ?_<;>intro h
        ·obtain⟨hc14,h⟩:=Ad h;refine gR hq P4 Ry (Z18 x13.1 l3) [] (ci (A6 4 Ba (default:Ai) ([x13.1]:List Ai)) (ci (Eq.refl l3.length) (ci hc14 (ci (Lu 4 5005 Ba (default:Ai) l3 ([x13.1]:List Ai)) (c1 (Dp l3 ([x13.1]:List Ai))))))) ?_;cases h;exact gK (Ck De)
        ·refine Am hq zzN30 P6 ?_;refine Am hq zzN27 P6 ?_;refine gCt true ?_;refine gR hq zzN41 zzN91 [] [] (c1 (show(Bk (2:Int) 3) from(by decide))) ?_;obtain⟨x15,hx15,h⟩:=bind_some h;refine gR hq zzN31 Yf [] [(Z51 x15.1 x15.2)] (c1 (Nj i4 ((a3.Blocks.getD i4.toNat default).End.To) a3.Blocks x2.1.Pred i4 x15 hx15)) ?_;refine Am hq zzN32 Yf ?_;refine gC h ?_ ?_<;>intro h
         ·obtain⟨hc16,h⟩:=Ad h;refine gR hq P4 Ry (Z18 x15.1 l3) [] (ci (A6 4 Ba (default:Ai) ([x15.1]:List Ai)) (ci (Eq.refl l3.length) (ci hc16 (ci (Lu 4 5005 Ba (default:Ai) l3 ([x15.1]:List Ai)) (c1 (Dp l3 ([x15.1]:List Ai))))))) ?_;cases h;exact gK (Ck De)
         ·refine Am hq zzN30 P6 ?_;refine Am hq zzN27 P6 ?_;refine gCt false ?_;obtain rfl:=OI h;exact gK (Ck (Cn P4 Ry hq))
     ·clear hx17;refine gA ?_;refine Am hq P4 Ry ?_;cases h;exact gN De
    ·cases h;exact gO (Ck (Cn [5] [5005] hq))
   ·clear hx19;refine gA ?_;refine Am hq [2] [5005] ?_;cases h;exact gJo (Ms (Ig [(5005,20000)] (Le.refl _ _)))
 ·exact nofun
 ·clear hx21;refine Qe (fun st' hk=>?_);obtain rfl:=OI h;exact gK hk
def Kh(aC:Int)(x1:List Ai):Int->Option (LR Int (Unit ⊕ (Ai×Bool))):=
 fun(i2:Int)=>(bif (decide (i2<(x1.length:Int))) then(Bi (Bk i2 x1.length) (bif (((x1.getD i2.toNat default).At:Int)==aC) then(some (.done (.inr ((x1.getD i2.toNat default),true)))) else(some (.next (A8 (i2+1)))))) else(some (.done (.inl ()))))
def Ue(Γ:Du)(a3:Ae)(aC:Int)(r:(Ai×Bool)):Exit->St->Prop:=fK Tryz.prog Γ Tryz.f10.results.toList [] (.tuple (Z19 r.1 r.2)) []
def Dc(a3:Ae)(aC:Int):Option (Ai×Bool):=
 ((Gl a3).bind fun x1=>((Bd (Kh aC x1) (0:Int)).bind (fun x4=>(match x4 with|(.inl _)=>(some ((⟨(0:Int),(0:Int),(0:Int),(0:Int)⟩:Ai),false))|(.inr r6)=>(some r6)))))
theorem Ew(a3:Ae)(aC:Int)(r:(Ai×Bool))(h:Dc a3 aC=some r):Spec Tryz.prog 10 [(Z56 a3),(Z7 aC)] [] (.tuple (Z19 r.1 r.2)) []:=by
 refine Af mix Tryz.func10 (fun Γ hq=>?_);unfold Dc at h;refine Am hq [1,2,4] [2,4] ?_;obtain⟨x1,hx1,h⟩:=bind_some h;refine gR hq zzN97 [4,9] [] [⟨[],[(20000,9)],(Z35 x1 20000),[(20000,.tok 4 27 x1.length)],[],[]⟩] (c1 (Jy a3 x1 hx1)) ?_;obtain⟨x4,hx4,h⟩:=bind_some h;refine gL hq hx4 zzN97 [4,9] (fun u i2=>(Df u [(11,(Z7 i2))] [])) (fun u x_=>match x_ with|(.inl _)=>aG Γ (.exit 0) (Ud [4] [4] u [] [])|(.inr r_)=>aR (Ue Γ a3 aC r_)) ?_ ?_
 ·intro i2 y h;unfold Kh at h;refine Am hq [1,4,9,10,11,12] [4,9] ?_;refine gC h ?_ ?_<;>intro h
  ·obtain⟨hc3,h⟩:=Ad h;refine gR hq [1,4,7,9,10,11] [4,7,9] [] [] (c1 hc3) ?_;refine Am hq [1,4,7,9,10,11,18] [4,7,9] ?_;refine gC h ?_ ?_<;>intro h
   ·refine Am hq [4,5] [4] ?_;cases h;exact gO (Ms (Ig [] (Le.refl _ _)))
   ·refine Am hq zzN97 [4,9] ?_;cases h;exact gN De
  ·cases h;exact gO (Ck (Cn [4] [4] hq))
 ·clear hx4;rcases x4 with _|r6
  ·refine gA ?_;refine Am hq [4,5] [4] ?_;cases h;exact B6 []
  ·refine Qe (fun st' hk=>?_);obtain rfl:=OI h;exact gK hk
def Ci(aF:List Ai)(aD:Ai):Int->Option (LR Int (Unit ⊕ Int)):=
 fun(i1:Int)=>(bif (decide (i1<(aF.length:Int))) then(Bi (Bk i1 aF.length) (bif ((aD.At==(aF.getD i1.toNat default).At)&&((aD.Then==(aF.getD i1.toNat default).Then)&&((aD.Else==(aF.getD i1.toNat default).Else)&&((aD.Join==(aF.getD i1.toNat default).Join)&&true)))) then(some (.done (.inr i1))) else(some (.next (A8 (i1+1)))))) else(some (.done (.inl ()))))
def E8(Γ:Du)(aF:List Ai)(aD:Ai)(r:Int):Exit->St->Prop:=fK Tryz.prog Γ Tryz.f55.results.toList [] (.int .i64 r) []
def B3(aF:List Ai)(aD:Ai):Option Int:=
 ((Bd (Ci aF aD) (0:Int)).bind (fun x3=>(match x3 with|(.inl _)=>(some (-1:Int))|(.inr r5)=>(some r5))))
theorem E7(aF:List Ai)(aD:Ai)(r:Int)(h:B3 aF aD=some r):Spec Tryz.prog 55 [(AV.list 4 Ba default aF .none),(.agg (Ba aD))] [] (.int .i64 r) []:=by
 refine Af mix Tryz.func55 (fun Γ hq=>?_);unfold B3 at h;refine Am hq Na [3] ?_;refine Am hq [0,3,7,8] [3] ?_;obtain⟨x3,hx3,h⟩:=bind_some h;refine gL hq hx3 [0,3,7,8] [3] (fun u i1=>(Df u [(8,(Z7 i1))] [])) (fun u x_=>match x_ with|(.inl _)=>aG Γ (.exit 0) (⟨[],[],[]⟩:St)|(.inr r_)=>aR (E8 Γ aF aD r_)) ?_ ?_
 ·intro i1 y h;unfold Ci at h;refine Am hq [0,3,7,8,9] [3] ?_;refine gC h ?_ ?_<;>intro h
  ·refine Am hq [0,3,5,7,8] [3] ?_;obtain⟨hc2,h⟩:=Ad h;refine gR hq [0,3,5,7,8,16] [3] [] [] (c1 hc2) ?_;refine gC h ?_ ?_<;>intro h
   ·refine Am hq [4] [] ?_;cases h;exact gO (Ms (Ig [] (Le.refl _ _)))
   ·refine Am hq [0,3,7,8] [3] ?_;cases h;exact gN De
  ·cases h;exact gO (Ck (Cn [] [] hq))
 ·clear hx3;rcases x3 with _|r5
  ·refine gA ?_;refine Am hq [4] [] ?_;cases h;exact B6 []
  ·refine Qe (fun st' hk=>?_);obtain rfl:=OI h;exact gK hk
def Bs(aF:List Ai)(aD:Ai):Option Bool:=
 ((B3 aF aD).bind fun x1=>(some (decide (((0:Int):Int)<=x1))))
theorem Eo(aF:List Ai)(aD:Ai)(r:Bool)(h:Bs aF aD=some r):Spec Tryz.prog 27 [(AV.list 4 Ba default aF .none),(.agg (Ba aD))] [] (.bool r) []:=by
 refine Af mix Tryz.func27 (fun Γ hq=>?_);unfold Bs at h;refine Am hq Na [3] ?_;obtain⟨x1,hx1,h⟩:=bind_some h;refine gR hq [4] [] [] [(Z31 x1)] (c1 (E7 aF aD x1 hx1)) ?_;cases h;exact B6 []
def Ho(a3:Ae)(aI:Ai):Option Bool:=
 ((Gl a3).bind fun x1=>((Bs x1 aI).bind fun x2=>(some x2)))
theorem K3(a3:Ae)(aI:Ai)(r:Bool)(h:Ho a3 aI=some r):Spec Tryz.prog 12 [(Z56 a3),(.agg (Ba aI))] [] (.bool r) []:=by
 refine Af mix Tryz.func12 (fun Γ hq=>?_);unfold Ho at h;refine Am hq Gu Gu ?_;obtain⟨x1,hx1,h⟩:=bind_some h;obtain⟨x2,hx2,h⟩:=bind_some h;refine gR hq [4] [] [] [⟨[],[(20000,6)],(Z35 x1 20000),[(20000,.tok 4 27 x1.length)],[],[]⟩,(Z2 x2)] (ci (Jy a3 x1 hx1) (c1 (Eo x1 aI x2 hx2))) ?_;obtain rfl:=OI h;exact B6 []
def Ik(a3:Ae)(aI:Ai):(List Aj×Int)->Option (LR (List Aj×Int) (List Aj)):=
 fun((l2,i3):(List Aj×Int))=>(bif (decide (i3<(([aI.Then,aI.Else]:List Int).length:Int))) then(Option.bind (α:=List Aj) (Bi (Bk i3 ([aI.Then,aI.Else]:List Int).length) (bif (((([aI.Then,aI.Else]:List Int).getD i3.toNat 0):Int)!=-1) then(Bi (Bk (([aI.Then,aI.Else]:List Int).getD i3.toNat 0) a3.Blocks.length) (Bi (l2.length+((a3.Blocks.getD (([aI.Then,aI.Else]:List Int).getD i3.toNat 0).toNat (default:Aa)).Ops).length<=room) (some (l2++(a3.Blocks.getD (([aI.Then,aI.Else]:List Int).getD i3.toNat 0).toNat (default:Aa)).Ops)))) else(some l2))) (fun x9=>(some (.next (x9,(A8 (i3+1))))))) else(some (.done l2)))
def Ys(aI:Ai):=([aI.Then,aI.Else]:List Int)
def Q121:AV:=(AV.list 6 Eh default ([]:List Aj) .exact)
def Q122(a3:Ae)(aI:Ai)(i3:Int):=(a3.Blocks.getD ((Ys aI).getD i3.toNat 0).toNat (default:Aa))
def Q125(a3:Ae):List AV:=[(Z8 a3.Params),(Z7 a3.Ret),(Z15 a3.Blocks)]
def Q123:=(⟨[(4,(AV.list 6 Eh default ([]:List Aj) (.own 6004))),(5,(.bool false))],[(6004,.tok 6 57 (([]:List Aj).length))],[]⟩:St)
def Q120(aI:Ai)(a3:Ae):=(⟨[Wg,(6,(AV.list 6 Eh default ([]:List Aj) (.own 5006))),(17,(Z58 (Ys aI))),(18,(.int .i64 ((Ys aI).length:Int))),(19,W4)],[(2,.row 25 (Q125 a3)),(5006,.tok 6 57 (([]:List Aj).length))],[]⟩:St)
def E3(a3:Ae)(aI:Ai):Option (List Aj×Bool):=
 ((Ho a3 aI).bind fun x1=>(bif (!x1) then(some (([]:List Aj),false)) else((Bd (Ik a3 aI) (([]:List Aj),(0:Int))).bind (fun x11=>(some (x11,true))))))
theorem Jz(a3:Ae)(aI:Ai)(r:(List Aj×Bool))(h:E3 a3 aI=some r):Spec Tryz.prog 30 [(Z56 a3),(.agg (Ba aI))] [] (.tuple [(Z34 r.1 20000),(.bool r.2)]) [(20000,.tok 6 57 r.1.length)]:=by
 refine Af mix Tryz.func30 (fun Γ hq=>?_);unfold E3 at h;refine gR hq Gu Gu [(4,Q121)] [] (c1 (C1 6 Eh (default:Aj))) ?_;obtain⟨x1,hx1,h⟩:=bind_some h;refine gR hq [2,3,12] Gu [] [(Z2 x1)] (c1 (K3 a3 aI x1 hx1)) ?_;refine gC h ?_ ?_<;>intro h
 ·refine gR hq [4,5] [] [(4,Q121)] [] (c1 (C1 6 Eh (default:Aj))) ?_;refine Q0 (⟨[(4,Q121),(5,(.bool false))],[],[]⟩:St) ?_;cases h;exact gK (e:=.ret) (Ig zzN106 (show Le Γ _ Q123 from Le.trans (Cn (st':=⟨[(4,Q121),(5,(.bool false))],[],[]⟩) [4,5] [] hq) (Le.trans (Qg (t:=4) (nm:=6004) (sz':=6) (fun i=>Eh (([]:List Aj).getD i default)) 57 rfl rfl (.inl ⟨rfl,rfl⟩) (fun h_=>absurd h_ (by decide))) (Cn (st':=Q123) [4,5] [6004] hq))))
 ·refine gR hq [2,3,6] Gu [(6,Q121)] [] (c1 (C1 6 Eh (default:Aj))) ?_;refine gR hq V5 [2] [(17,(Z58 (Ys aI)))] [] (c1 (A6 1 Aq (0:Int) (Ys aI))) ?_;refine I6 (st':=(Q120 aI a3)) (Le.trans (Cn (st':=⟨[Wg,(6,Q121),(17,(Z58 (Ys aI))),(18,(.int .i64 ((Ys aI).length:Int))),(19,W4)],[(2,.row 25 (Q125 a3))],[]⟩) V5 [2] hq) (Le.trans (Qg (t:=6) (nm:=5006) (sz':=6) (fun i=>Eh (([]:List Aj).getD i default)) 57 rfl rfl (.inl ⟨rfl,rfl⟩) (fun h_=>absurd h_ (by decide))) (Cn (st':=(Q120 aI a3)) V5 Tn hq))) ?_;obtain⟨x11,hx11,h⟩:=bind_some h;refine gL hq hx11 V5 Tn (fun u (l2,i3)=>(Df u [(6,(Z34 l2 5006)),(19,(Z7 i3))] [(5006,.tok 6 57 l2.length)])) (fun u l4=>aG Γ (.exit 0) (⟨[(6,(Z34 l4 5006))],[(5006,.tok 6 57 l4.length)],[]⟩:St)) ?_ ?_
  ·rintro⟨l2,i3⟩ y h;unfold Ik at h;refine Am hq [2,6,17,18,19,20] Tn ?_;refine gC h ?_ ?_<;>intro h
   ·obtain⟨x9,hx9,h⟩:=bind_some h;refine gJ hx9 (fun l5=>aG Γ .normal (⟨[Wg,(6,(Z34 l5 5006)),(17,(Z58 (Ys aI))),(18,(.int .i64 ((Ys aI).length:Int))),(19,(Z7 i3))],[(2,.row 25 (Q125 a3)),(5006,.tok 6 57 l5.length)],[]⟩:St)) ?_ ?_
    ·clear h hx9;intro y h;obtain⟨hc6,h⟩:=Ad h;refine gR hq [2,6,8,17,18,19] Tn [] [] (c1 hc6) ?_;refine Am hq [2,6,8,17,18,19,24] Tn ?_;refine gC h ?_ ?_<;>intro h
     ·obtain⟨hc7,h⟩:=Ad h;obtain⟨hc8,h⟩:=Ad h;refine gR hq V5 Tn [(32,(AV.list 6 Eh default (l2++(Q122 a3 aI i3).Ops) (.own 5006)))] [] (ci hc7 (ci (Eq.refl l2.length) (ci hc8 (ci (Lu 6 5006 Eh (default:Aj) l2 ((Q122 a3 aI i3).Ops)) (c1 (Dp l2 ((Q122 a3 aI i3).Ops))))))) ?_;cases h;exact gK (Ck De)
     ·obtain rfl:=OI h;exact gK (Ck (Cn V5 Tn hq))
    ·clear hx9;refine gA ?_;refine Am hq V5 Tn ?_;cases h;exact gN De
   ·cases h;exact gO (Ck (Cn [6] [5006] hq))
  ·clear hx11;refine gA ?_;refine Am hq [4,5] [5006] ?_;cases h;exact B6 [(5006,20000)]
def Hn(a3:Ae)(aI:Ai):Option Int:=
 ((E3 a3 aI).bind fun x1=>(some (x1.1.length:Int)))
theorem M2(a3:Ae)(aI:Ai)(r:Int)(h:Hn a3 aI=some r):Spec Tryz.prog 17 [(Z56 a3),(.agg (Ba aI))] [] (.int .i64 r) []:=by
 refine Af mix Tryz.func17 (fun Γ hq=>?_);unfold Hn at h;refine Am hq Gu Gu ?_;obtain⟨x1,hx1,h⟩:=bind_some h;refine gR hq [5] [10] [] [⟨[],[(20000,10)],(.tuple [(Z34 x1.1 20000),(.bool x1.2)]),[(20000,.tok 6 57 x1.1.length)],[],[]⟩] (c1 (Jz a3 aI x1 hx1)) ?_;refine Am hq [4] [] ?_;cases h;exact B6 []
def G0(a0:Aj):Option Bool:=
 (some (a0.Lanes !=1))
theorem Pe(a0:Aj)(r:Bool)(h:G0 a0=some r):Spec Tryz.prog 32 [(.agg (Eh a0))] [] (.bool r) []:=by
 refine Af mix Tryz.func32 (fun Γ hq=>?_);unfold G0 at h;refine Am hq [1] [1] ?_;refine Am hq [2] [] ?_;cases h;exact B6 []
def C6(aF:List Aj):Int->Option (LR Int (Unit ⊕ Int)):=
 fun(i1:Int)=>(bif (decide (i1<(aF.length:Int))) then(Bi (Bk i1 aF.length) ((G0 (aF.getD i1.toNat default)).bind fun x3=>(bif x3 then(some (.done (.inr i1))) else(some (.next (A8 (i1+1))))))) else(some (.done (.inl ()))))
def Hd(Γ:Du)(aF:List Aj)(r:Int):Exit->St->Prop:=fK Tryz.prog Γ Tryz.f58.results.toList [] (.int .i64 r) []
def Cf(aF:List Aj):Option Int:=
 ((Bd (C6 aF) (0:Int)).bind (fun x4=>(match x4 with|(.inl _)=>(some (-1:Int))|(.inr r6)=>(some r6))))
theorem Ha(aF:List Aj)(r:Int)(h:Cf aF=some r):Spec Tryz.prog 58 [(Z57 aF),(.clo 32 [] [])] [] (.int .i64 r) []:=by
 refine Af mix Tryz.func58 (fun Γ hq=>?_);unfold Cf at h;refine Am hq Ed [] ?_;refine Am hq Yk [] ?_;obtain⟨x4,hx4,h⟩:=bind_some h;refine gL hq hx4 Yk [] (fun u i1=>(Df u [(8,(Z7 i1))] [])) (fun u x_=>match x_ with|(.inl _)=>aG Γ (.exit 0) (⟨[],[],[]⟩:St)|(.inr r_)=>aR (Hd Γ aF r_)) ?_ ?_
 ·intro i1 y h;unfold C6 at h;refine Am hq [0,1,7,8,9] [] ?_;refine gC h ?_ ?_<;>intro h
  ·refine Am hq [0,1,5,7,8] [] ?_;obtain⟨hc2,h⟩:=Ad h;obtain⟨x3,hx3,h⟩:=bind_some h;refine gR hq [0,1,5,7,8,16] [] [] [(Z2 x3)] (ci hc2 (c1 (Pe (aF.getD i1.toNat default) x3 hx3))) ?_;refine gC h ?_ ?_<;>intro h
   ·refine Am hq [4] [] ?_;cases h;exact gO (Ms (Ig [] (Le.refl _ _)))
   ·refine Am hq Yk [] ?_;cases h;exact gN De
  ·cases h;exact gO (Ck (Cn [] [] hq))
 ·clear hx4;rcases x4 with _|r6
  ·refine gA ?_;refine Am hq [4] [] ?_;cases h;exact B6 []
  ·refine Qe (fun st' hk=>?_);obtain rfl:=OI h;exact gK hk
def Ca(aF:List Aj):Option Bool:=
 ((Cf aF).bind fun x1=>(some (decide (((0:Int):Int)<=x1))))
theorem Ge(aF:List Aj)(r:Bool)(h:Ca aF=some r):Spec Tryz.prog 31 [(Z57 aF),(.clo 32 [] [])] [] (.bool r) []:=by
 refine Af mix Tryz.func31 (fun Γ hq=>?_);unfold Ca at h;refine Am hq Ed [] ?_;obtain⟨x1,hx1,h⟩:=bind_some h;refine gR hq [4] [] [] [(Z31 x1)] (c1 (Ha aF x1 hx1)) ?_;cases h;exact B6 []
def Fz(a3:Ae)(aI:Ai):Option Bool:=
 ((E3 a3 aI).bind fun x1=>((bif (x1.2==true) then Ca x1.1 else some false).bind fun x2=>(some (bif x1.2 then(!x2) else false))))
theorem Kl(a3:Ae)(aI:Ai)(r:Bool)(h:Fz a3 aI=some r):Spec Tryz.prog 14 [(Z56 a3),(.agg (Ba aI))] [] (.bool r) []:=by
 refine Af mix Tryz.func14 (fun Γ hq=>?_);unfold Fz at h;refine Am hq Gu Gu ?_;obtain⟨x1,hx1,h⟩:=bind_some h;refine gR hq [5,6] [10] [] [⟨[],[(20000,10)],(.tuple [(Z34 x1.1 20000),(.bool x1.2)]),[(20000,.tok 6 57 x1.1.length)],[],[]⟩] (c1 (Jz a3 aI x1 hx1)) ?_;obtain⟨x2,hx2,h⟩:=bind_some h;refine gR hq [4] [] [] [(Z2 x2)] (ci (gI (x1.2==true)) (ci (fun(hg:(x1.2==true)=true)=>(Ge x1.1 x2 (Bn hg hx2))) (ci (gI (x1.2==true)) (c1 (Kr x1.2))))) ?_;cases h;exact B6 []
def Q127(x4:Int):=(x4==1)
def Q128(x6:List Ai):=(((x6.length:Int):Int)==1)
def Q130(x2:(Ai×Bool)):=(bif x2.2 then(((x2.1.At:Int)==0)&&(((x2.1.Then:Int)==1)&&(((x2.1.Else:Int)==2)&&(((x2.1.Join:Int)==3)&&true)))) else false)
def Wd(x2:(Ai×Bool))(x3:(Ai×Bool)):=(bif (Q130 x2) then(!x3.2) else false)
def Q129(x2:(Ai×Bool))(x3:(Ai×Bool))(x4:Int)(x5:Bool):=(bif (bif (Wd x2 x3) then(Q127 x4) else false) then x5 else false)
def Yt(x2:(Ai×Bool))(x3:(Ai×Bool))(x4:Int)(x5:Bool)(x6:List Ai):=(bif (Q129 x2 x3 x4 x5) then(Q128 x6) else false)
def m_locksteplaw14_awake :Option Bool:=
 (m_locksteplaw14_diamond.bind fun x1=>((Dc x1 (0:Int)).bind fun x2=>((Dc x1 (1:Int)).bind fun x3=>((bif ((bif (bif x2.2 then(((x2.1.At:Int)==0)&&(((x2.1.Then:Int)==1)&&(((x2.1.Else:Int)==2)&&(((x2.1.Join:Int)==3)&&true)))) else false) then(!x3.2) else false)==true) then Hn x1 x2.1 else some (0:Int)).bind fun x4=>((bif ((bif (bif (bif x2.2 then(((x2.1.At:Int)==0)&&(((x2.1.Then:Int)==1)&&(((x2.1.Else:Int)==2)&&(((x2.1.Join:Int)==3)&&true)))) else false) then(!x3.2) else false) then(x4==1) else false)==true) then Fz x1 x2.1 else some false).bind fun x5=>((bif ((bif (bif (bif (bif x2.2 then(((x2.1.At:Int)==0)&&(((x2.1.Then:Int)==1)&&(((x2.1.Else:Int)==2)&&(((x2.1.Join:Int)==3)&&true)))) else false) then(!x3.2) else false) then(x4==1) else false) then x5 else false)==true) then Gl x1 else some []).bind fun x6=>((bif ((bif (bif (bif (bif (bif x2.2 then(((x2.1.At:Int)==0)&&(((x2.1.Then:Int)==1)&&(((x2.1.Else:Int)==2)&&(((x2.1.Join:Int)==3)&&true)))) else false) then(!x3.2) else false) then(x4==1) else false) then x5 else false) then(((x6.length:Int):Int)==1) else false)==true) then Ho x1 x2.1 else some false).bind fun x7=>((bif ((bif (bif (bif (bif (bif (bif x2.2 then(((x2.1.At:Int)==0)&&(((x2.1.Then:Int)==1)&&(((x2.1.Else:Int)==2)&&(((x2.1.Join:Int)==3)&&true)))) else false) then(!x3.2) else false) then(x4==1) else false) then x5 else false) then(((x6.length:Int):Int)==1) else false) then x7 else false)==true) then Ho x1 (⟨(0:Int),(0:Int),(0:Int),(0:Int)⟩:Ai) else some false).bind fun x8=>(some (bif (bif (bif (bif (bif (bif (bif x2.2 then(((x2.1.At:Int)==0)&&(((x2.1.Then:Int)==1)&&(((x2.1.Else:Int)==2)&&(((x2.1.Join:Int)==3)&&true)))) else false) then(!x3.2) else false) then(x4==1) else false) then x5 else false) then(((x6.length:Int):Int)==1) else false) then x7 else false) then(!x8) else false))))))))))
theorem Mm  (r:Bool) (h:m_locksteplaw14_awake=some r):Spec Tryz.prog 8 [] [] (.bool r) []:=by
 refine Af mix Tryz.func8 (fun Γ hq=>?_);unfold m_locksteplaw14_awake at h;refine Am hq [] [] ?_;obtain⟨x1,hx1,h⟩:=bind_some h;refine gR hq [1] [1] [] [⟨[],[],(Z56 x1),[],[],[]⟩] (c1 (K4  x1 hx1)) ?_;obtain⟨x2,hx2,h⟩:=bind_some h;refine gR hq [1,2,3] Or [] [(Z51 x2.1 x2.2)] (c1 (Ew x1 (0:Int) x2 hx2)) ?_;obtain⟨x3,hx3,h⟩:=bind_some h;refine gR hq [1,2,3,5] Or [] [(Z51 x3.1 x3.2)] (c1 (Ew x1 (1:Int) x3 hx3)) ?_;obtain⟨x4,hx4,h⟩:=bind_some h;obtain⟨x5,hx5,h⟩:=bind_some h;obtain⟨x6,hx6,h⟩:=bind_some h;obtain⟨x7,hx7,h⟩:=bind_some h;obtain⟨x8,hx8,h⟩:=bind_some h;refine gR hq [0] [] [] [(Z31 x4),(Z2 x5),⟨[],[],(AV.list 4 Ba default x6 .none),[],[],[]⟩,(Z2 x7),(Z2 x8)] (ci (gI (x2.2==true)) (ci (gI (x2.2==true)) (ci (Kr x2.2) (ci (gI ((Q130 x2)==true)) (ci (Kr (Q130 x2)) (ci (gI ((Wd x2 x3)==true)) (ci (gI ((Wd x2 x3)==true)) (ci (fun(hg:((Wd x2 x3)==true)=true)=>(M2 x1 x2.1 x4 (Bn hg hx4))) (ci (gI ((Wd x2 x3)==true)) (ci (Kr (Wd x2 x3)) (ci (gI ((bif (Wd x2 x3) then(Q127 x4) else false)==true)) (ci (gI ((bif (Wd x2 x3) then(Q127 x4) else false)==true)) (ci (fun(hg:((bif (Wd x2 x3) then(Q127 x4) else false)==true)=true)=>(Kl x1 x2.1 x5 (Bn hg hx5))) (ci (Kr (bif (Wd x2 x3) then(Q127 x4) else false)) (ci (gI ((Q129 x2 x3 x4 x5)==true)) (ci (show(((Q129 x2 x3 x4 x5)==true)=true->(Spec Tryz.prog 18 [(Z56 x1)] [] (AV.list 4 Ba default x6 .none) [])) from(fun hg=>(Spec.drop (Jy x1 x6 (Bn hg hx6))))) (ci (gI ((Q129 x2 x3 x4 x5)==true)) (ci (gI ((Q129 x2 x3 x4 x5)==true)) (ci (Kr (Q129 x2 x3 x4 x5)) (ci (gI ((Yt x2 x3 x4 x5 x6)==true)) (ci (gI ((Yt x2 x3 x4 x5 x6)==true)) (ci (fun(hg:((Yt x2 x3 x4 x5 x6)==true)=true)=>(K3 x1 x2.1 x7 (Bn hg hx7))) (ci (Kr (Yt x2 x3 x4 x5 x6)) (ci (gI ((bif (Yt x2 x3 x4 x5 x6) then x7 else false)==true)) (ci (gI ((bif (Yt x2 x3 x4 x5 x6) then x7 else false)==true)) (ci (fun(hg:((bif (Yt x2 x3 x4 x5 x6) then x7 else false)==true)=true)=>(K3 x1 (⟨(0:Int),(0:Int),(0:Int),(0:Int)⟩:Ai) x8 (Bn hg hx8))) (ci (gI ((bif (Yt x2 x3 x4 x5 x6) then x7 else false)==true)) (c1 (Kr (bif (Yt x2 x3 x4 x5 x6) then x7 else false)))))))))))))))))))))))))))))) ?_;cases h;exact B6 []
def Ht(aF:List Int):Option (List Int):=
 (Bi (([]:List Int).length+aF.length<=room) (some (([]:List Int)++aF)))
def Rd(aaC:List (List Int)):(Int×List (List Int))->Option (LR (Int×List (List Int)) (List (List Int))):=
 fun((i2,l3):(Int×List (List Int)))=>(bif (decide (i2<(aaC.length:Int))) then(Bi (Bk i2 aaC.length) ((Ht (aaC.getD i2.toNat [])).bind fun x6=>(Bi (Bk i2 l3.length) (some (.next ((A8 (i2+1)),(l3.set i2.toNat x6))))))) else(some (.done l3)))
def Jn(aaC:List (List Int)):Option (List (List Int)):=
 (Bi (0<=(aaC.length:Int)/\(aaC.length:Int)<=(aaC.length:Int)/\(aaC.length:Int)<=(room:Int)) ((Bd (Rd aaC) ((0:Int),(List.replicate (aaC.length:Int).toNat ([]:List Int)))).bind (fun x8=>(some x8))))
def Jm(a5:Ax):Option Ax:=
 ((G7 a5).bind fun x1=>(bif (!x1) then(some (⟨([]:List (List Int)),([]:List (List Int))⟩:Ax)) else((Jn a5.Pred).bind fun x2=>((Jn a5.Succ).bind fun x3=>(some (⟨x2,x3⟩:Ax))))))
def N4(x1:List Int):(Int×List Bool)->Option (LR (Int×List Bool) (List Bool)):=
 fun((i2,l3):(Int×List Bool))=>(bif (decide (i2<(x1.length:Int))) then(Bi (Bk i2 x1.length) (Bi (Bk (x1.getD i2.toNat 0) 64) (some (.next ((A8 (i2+1)),(K6 64 false l3 (x1.getD i2.toNat 0).toNat true)))))) else(some (.done l3)))
def Hs(aaM:List Bool)(aaN:Ax)(aC:Int):Option (List Bool):=
 ((Gk aaN aC).bind fun x1=>((Bd (N4 x1) ((0:Int),aaM)).bind (fun x7=>(some x7))))
def N3(a5:Ax)(x1:Ax):(Int×List Bool)->Option (LR (Int×List Bool) (List Bool)):=
 fun((i2,l3):(Int×List Bool))=>(bif (decide (i2<(a5.Succ.length:Int))) then(Option.bind (α:=List Bool) (Bi (Bk i2 a5.Succ.length) (bif ((((a5.Succ.getD i2.toNat []).length:Int):Int)==0) then((Hs l3 x1 i2).bind fun x7=>(some x7)) else(some l3))) (fun x8=>(some (.next ((A8 (i2+1)),x8))))) else(some (.done l3)))
def Kj(a5:Ax):Option (List Bool):=
 ((Jm a5).bind fun x1=>((Bd (N3 a5 x1) ((0:Int),(List.replicate 64 false))).bind (fun x10=>(some x10))))
def I9(aF:List Bool)(aD:Bool):Int->Option (LR Int (Unit ⊕ Int)):=
 fun(i1:Int)=>(bif (decide (i1<(aF.length:Int))) then(Bi (Bk i1 aF.length) (bif (aD==(aF.getD i1.toNat false)) then(some (.done (.inr i1))) else(some (.next (A8 (i1+1)))))) else(some (.done (.inl ()))))
def Gm(aF:List Bool)(aD:Bool):Option Int:=
 ((Bd (I9 aF aD) (0:Int)).bind (fun x3=>(match x3 with|(.inl _)=>(some (-1:Int))|(.inr r5)=>(some r5))))
def Rb(a9:List (List Int)):Option (Ax×Int):=
 ((Gw a9).bind fun x1=>(bif (!x1) then(some ((⟨([]:List (List Int)),([]:List (List Int))⟩:Ax),(5:Int))) else((Jn a9).bind fun x2=>((Fo a9).bind fun x3=>(some ((⟨x2,x3⟩:Ax),(0:Int)))))))
def Uw(a5:Ax):(Int×List (List Int))->Option (LR (Int×List (List Int)) (List (List Int))):=
 fun((i7,l8):(Int×List (List Int)))=>(bif (decide (i7<(a5.Succ.length:Int))) then(Option.bind (α:=List (List Int)) (Bi (Bk i7 a5.Succ.length) (Bi (Bk i7 l8.length) ((Ht (a5.Succ.getD i7.toNat [])).bind fun x13=>(Bi (Bk i7 l8.length) (bif ((((a5.Succ.getD i7.toNat []).length:Int):Int)==0) then(Bi (Bk i7 (l8.set i7.toNat x13).length) (Bi (Bk i7 (l8.set i7.toNat x13).length) (some ((l8.set i7.toNat x13).set i7.toNat ([(a5.Succ.length:Int)]:List Int))))) else(some (l8.set i7.toNat x13))))))) (fun x17=>(some (.next ((A8 (i7+1)),x17))))) else(some (.done l8)))
def Uv(a5:Ax):(List Bool×List (List Int)×List (List Int)×List (List Int))->Option (LR (List Bool×List (List Int)×List (List Int)×List (List Int)) (Ax×Int)):=
 fun(s_:(List Bool×List (List Int)×List (List Int)×List (List Int)))=>match s_ with|(l1,l2,l3,l4)=>(Bi (0<=(a5.Succ.length:Int)/\0+(a5.Succ.length:Int).toNat<=64) ((Gm (subN false l1 0 ((0+(a5.Succ.length:Int).toNat)-0)) false).bind fun x32=>(bif (decide (((0:Int):Int)<=x32)) then(Bi (Bk x32 l4.length) (Bi (Bk x32 l4.length) (Bi ((l4.getD x32.toNat []).length+([(a5.Succ.length:Int)]:List Int).length<=room) (Bi (Bk x32 l4.length) ((Hs l1 (⟨l2,l3⟩:Ax) x32).bind fun x37=>(some (.next (x37,l2,l3,(l4.set x32.toNat ((l4.getD x32.toNat [])++([(a5.Succ.length:Int)]:List Int))))))))))) else((Rb l4).bind fun x38=>(some (.done (x38.1,x38.2)))))))
def S1(a5:Ax):Option (Ax×Int):=
 ((Ql (S:=(List Bool×List (List Int)×List (List Int)×List (List Int))) (X:=(Ax×Int)) ((G7 a5).bind fun x5=>(bif (bif (!x5) then true else(((a5.Succ.length:Int):Int)==64)) then(some (.done ((⟨([]:List (List Int)),([]:List (List Int))⟩:Ax),(5:Int)))) else(Bi (0<=(A8 ((a5.Succ.length:Int)+1))/\(A8 ((a5.Succ.length:Int)+1))<=(A8 ((a5.Succ.length:Int)+1))/\(A8 ((a5.Succ.length:Int)+1))<=(room:Int)) ((Bd (Uw a5) ((0:Int),(List.replicate (A8 ((a5.Succ.length:Int)+1)).toNat ([]:List Int)))).bind (fun x19=>((Kj a5).bind fun x21=>((Jm a5).bind fun x22=>(Bi (0<=(a5.Succ.length:Int)/\0+(a5.Succ.length:Int).toNat<=64) ((Gm (subN false x21 0 ((0+(a5.Succ.length:Int).toNat)-0)) false).bind fun x24=>(bif (decide (((0:Int):Int)<=x24)) then(Bi (Bk x24 x19.length) (Bi (Bk x24 x19.length) (Bi ((x19.getD x24.toNat []).length+([(a5.Succ.length:Int)]:List Int).length<=room) (Bi (Bk x24 x19.length) ((Hs x21 x22 x24).bind fun x29=>(some (.next (x29,x22.Succ,x22.Pred,(x19.set x24.toNat ((x19.getD x24.toNat [])++([(a5.Succ.length:Int)]:List Int))))))))))) else((Rb x19).bind fun x30=>(some (.done (x30.1,x30.2)))))))))))))) (Uv a5)).bind (fun x39=>(some x39)))
def Aax(a5:Ax):Option (List Int):=
 ((S1 a5).bind fun x1=>(bif (x1.2 !=0) then(some ([]:List Int)) else((Jm x1.1).bind fun x2=>((Ma x2 (a5.Succ.length:Int)).bind fun x3=>(some x3)))))
def Ux(a5:Ax)(x2:List Bool):(List Int×Int)->Option (LR (List Int×Int) (List Int)):=
 fun((l3,i4):(List Int×Int))=>(bif (decide (i4<(a5.Succ.length:Int))) then(Option.bind (α:=List Int) (Bi (Bk i4 64) (bif (!(x2.getD i4.toNat false)) then(Bi (l3.length+([i4]:List Int).length<=room) (some (l3++([i4]:List Int)))) else(some l3))) (fun x9=>(some (.next (x9,(A8 (i4+1))))))) else(some (.done l3)))
def Aaw(a5:Ax):Option (List Int):=
 ((G7 a5).bind fun x1=>(bif (!x1) then(some ([]:List Int)) else((Kj a5).bind fun x2=>((Bd (Ux a5 x2) (([]:List Int),(0:Int))).bind (fun x11=>(some x11))))))
def Aav(aA:List Int)(aV:Int)(aX:Int):Option Bool:=
 ((L9 aA aV aX).bind fun x1=>(some x1))
def Bg(a2:Int):(List Aj×Int)->Option (LR (List Aj×Int) (List Aj)):=
 fun((l2,i3):(List Aj×Int))=>(bif (decide (i3<(Int.tmod (A8 a2) (9:Int)))) then(Bi (l2.length+([(⟨(0:Int),(8:Int),(1:Int),(A8 ((2:Int)+i3)),([]:List Int),(H9 i3)⟩:Aj)]:List Aj).length<=room) (some (.next ((l2++([(⟨(0:Int),(8:Int),(1:Int),(A8 ((2:Int)+i3)),([]:List Int),(H9 i3)⟩:Aj)]:List Aj)),(A8 (i3+1)))))) else(some (.done l2)))
def Gg:AV:=(.int .i64 (1:Int))
def Hy:AV:=W4
def Q355:=(fun n_=>Bx n_ [10,50])
def Ug:AV:=Z44
def Q349(l8:List Int):AV:=(Z58 l8)
def Q348(x6:List Aj):AV:=(Z57 x6)
def Q350(a2:Int):AV:=(.int .i64 (Int.tmod (A8 a2) (9:Int)))
def Qr:AV:=Z24
def Tt:AV:=(AV.list 6 Eh default ([]:List Aj) .exact)
def Qq:AV:=(AV.list 4 Pi default ([]:List Ab) .exact)
def Q344:AV:=(AV.list 1 Aq 0 ([(1:Int)]:List Int) .exact)
def Q346:AV:=(AV.list 1 Aq 0 ([(2:Int)]:List Int) .exact)
def Q331:=(⟨(2:Int),(1:Int),([(1:Int),(3:Int)]:List Int)⟩:Ac)
def Q351:AV:=(AV.list 1 Aq 0 ([(1:Int),(3:Int)]:List Int) .none)
def Yu(x13:(Ai×Bool))(i9:Int)(i10:Int):=(bif (!x13.2) then true else(!(((x13.1.At:Int)==0)&&(((x13.1.Then:Int)==i9)&&(((x13.1.Else:Int)==i10)&&(((x13.1.Join:Int)==2)&&true))))))
def Q341(x13:(Ai×Bool))(i9:Int)(i10:Int)(x14:Int)(a2:Int):=(bif (Yu x13 i9 i10) then true else(x14 !=(Int.tmod (A8 a2) (9:Int))))
def Q345:=([(⟨(1:Int),(100:Int),([(0:Int)]:List Int),([(1:Int)]:List Int)⟩:Ab)]:List Ab)
def Q339(i3:Int):=([(⟨(0:Int),(8:Int),(1:Int),(A8 ((2:Int)+i3)),([]:List Int),(H9 i3)⟩:Aj)]:List Aj)
def Q330:=([(⟨([]:List Ab),([]:List Aj),(⟨(3:Int),(0:Int),([]:List Int)⟩:Ac)⟩:Aa)]:List Aa)
def Q354(aaE:Bool)(a2:Int):=(⟨[(0,(.bool aaE)),(5,(Q350 a2)),(6,(AV.list 6 Eh default ([]:List Aj) (.own 5006))),(7,Hy)],[(5006,.tok 6 57 (([]:List Aj).length))],[]⟩:St)
def Qp(l8:List Int)(x6:List Aj):=([(⟨([]:List Ab),([]:List Aj),(⟨(2:Int),(1:Int),l8⟩:Ac)⟩:Aa),(⟨([]:List Ab),x6,(⟨(1:Int),(0:Int),([(2:Int)]:List Int)⟩:Ac)⟩:Aa),(⟨([]:List Ab),([]:List Aj),(⟨(0:Int),(1:Int),([]:List Int)⟩:Ac)⟩:Aa)].set (1:Int).toNat (⟨Q345,([(⟨([]:List Ab),([]:List Aj),(⟨(2:Int),(1:Int),l8⟩:Ac)⟩:Aa),(⟨([]:List Ab),x6,(⟨(1:Int),(0:Int),([(2:Int)]:List Int)⟩:Ac)⟩:Aa),(⟨([]:List Ab),([]:List Aj),(⟨(0:Int),(1:Int),([]:List Int)⟩:Ac)⟩:Aa)].getD (1:Int).toNat (default:Aa)).Ops,(⟨([(⟨([]:List Ab),([]:List Aj),(⟨(2:Int),(1:Int),l8⟩:Ac)⟩:Aa),(⟨([]:List Ab),x6,(⟨(1:Int),(0:Int),([(2:Int)]:List Int)⟩:Ac)⟩:Aa),(⟨([]:List Ab),([]:List Aj),(⟨(0:Int),(1:Int),([]:List Int)⟩:Ac)⟩:Aa)].getD (1:Int).toNat (default:Aa)).End.Kind,([(⟨([]:List Ab),([]:List Aj),(⟨(2:Int),(1:Int),l8⟩:Ac)⟩:Aa),(⟨([]:List Ab),x6,(⟨(1:Int),(0:Int),([(2:Int)]:List Int)⟩:Ac)⟩:Aa),(⟨([]:List Ab),([]:List Aj),(⟨(0:Int),(1:Int),([]:List Int)⟩:Ac)⟩:Aa)].getD (1:Int).toNat (default:Aa)).End.Arg,([(⟨([]:List Ab),([]:List Aj),(⟨(2:Int),(1:Int),l8⟩:Ac)⟩:Aa),(⟨([]:List Ab),x6,(⟨(1:Int),(0:Int),([(2:Int)]:List Int)⟩:Ac)⟩:Aa),(⟨([]:List Ab),([]:List Aj),(⟨(0:Int),(1:Int),([]:List Int)⟩:Ac)⟩:Aa)].getD (1:Int).toNat (default:Aa)).End.To⟩:Ac)⟩:Aa))
def We(l8:List Int)(x6:List Aj):=((Qp l8 x6).set (1:Int).toNat (⟨([]:List Ab),((Qp l8 x6).getD (1:Int).toNat (default:Aa)).Ops,(⟨((Qp l8 x6).getD (1:Int).toNat (default:Aa)).End.Kind,((Qp l8 x6).getD (1:Int).toNat (default:Aa)).End.Arg,((Qp l8 x6).getD (1:Int).toNat (default:Aa)).End.To⟩:Ac)⟩:Aa))
def Rz(l8:List Int)(x6:List Aj):=((We l8 x6).set (2:Int).toNat (⟨((We l8 x6).getD (2:Int).toNat (default:Aa)).Phis,((We l8 x6).getD (2:Int).toNat (default:Aa)).Ops,Q331⟩:Aa))
def Q353(a2:Int)(x6:List Aj)(l8:List Int)(i9:Int)(i10:Int):=(⟨[(5,(Q350 a2)),(6,(Z34 x6 5006)),(8,(Q349 l8)),(9,(.ptr 9 0))],[(9,.row 27 [Hy,(Z7 i9),(Z7 i10),Z32]),(5006,.tok 6 57 x6.length)],[]⟩:St)
def Q336(l8:List Int)(x6:List Aj):=([(⟨([]:List Ab),([]:List Aj),(⟨(2:Int),(1:Int),l8⟩:Ac)⟩:Aa),(⟨([]:List Ab),x6,(⟨(1:Int),(0:Int),([(2:Int)]:List Int)⟩:Ac)⟩:Aa),(⟨([]:List Ab),([]:List Aj),(⟨(0:Int),(1:Int),([]:List Int)⟩:Ac)⟩:Aa)].length)
def Q334(l8:List Int)(x6:List Aj):=(fun i=>Bj ([(⟨([]:List Ab),([]:List Aj),(⟨(2:Int),(1:Int),l8⟩:Ac)⟩:Aa),(⟨([]:List Ab),x6,(⟨(1:Int),(0:Int),([(2:Int)]:List Int)⟩:Ac)⟩:Aa),(⟨([]:List Ab),([]:List Aj),(⟨(0:Int),(1:Int),([]:List Int)⟩:Ac)⟩:Aa)].getD i default))
def Q333(l8:List Int)(x6:List Aj):=(⟨([(1:Int)]:List Int),(1:Int),[(⟨([]:List Ab),([]:List Aj),(⟨(2:Int),(1:Int),l8⟩:Ac)⟩:Aa),(⟨([]:List Ab),x6,(⟨(1:Int),(0:Int),([(2:Int)]:List Int)⟩:Ac)⟩:Aa),(⟨([]:List Ab),([]:List Aj),(⟨(0:Int),(1:Int),([]:List Int)⟩:Ac)⟩:Aa)]⟩:Ae)
def Q335(l8:List Int)(x6:List Aj):=([(⟨([]:List Ab),([]:List Aj),(⟨(2:Int),(1:Int),l8⟩:Ac)⟩:Aa),(⟨([]:List Ab),x6,(⟨(1:Int),(0:Int),([(2:Int)]:List Int)⟩:Ac)⟩:Aa),(⟨([]:List Ab),([]:List Aj),(⟨(0:Int),(1:Int),([]:List Int)⟩:Ac)⟩:Aa)].length=[(⟨([]:List Ab),([]:List Aj),(⟨(2:Int),(1:Int),l8⟩:Ac)⟩:Aa),(⟨([]:List Ab),x6,(⟨(1:Int),(0:Int),([(2:Int)]:List Int)⟩:Ac)⟩:Aa),(⟨([]:List Ab),([]:List Aj),(⟨(0:Int),(1:Int),([]:List Int)⟩:Ac)⟩:Aa)].length)
def A0(aaE:Bool)(a2:Int):Option Bool:=
 (m_locksteplaw14_awake.bind fun x1=>(bif (!x1) then(some false) else((Bd (Bg a2) (([]:List Aj),(0:Int))).bind (fun x6=>(Option.bind (α:=(List Int×Int×Int)) (bif aaE then(some (([(2:Int),(1:Int)]:List Int),(-1:Int),(1:Int))) else(some (([(1:Int),(2:Int)]:List Int),(1:Int),(-1:Int)))) (fun(l8,i9,i10)=>((Dc (⟨([(1:Int)]:List Int),(1:Int),[(⟨([]:List Ab),([]:List Aj),(⟨(2:Int),(1:Int),l8⟩:Ac)⟩:Aa),(⟨([]:List Ab),x6,(⟨(1:Int),(0:Int),([(2:Int)]:List Int)⟩:Ac)⟩:Aa),(⟨([]:List Ab),([]:List Aj),(⟨(0:Int),(1:Int),([]:List Int)⟩:Ac)⟩:Aa)]⟩:Ae) (0:Int)).bind fun x13=>((bif ((bif (!x13.2) then true else(!(((x13.1.At:Int)==0)&&(((x13.1.Then:Int)==i9)&&(((x13.1.Else:Int)==i10)&&(((x13.1.Join:Int)==2)&&true))))))==false) then Hn (⟨([(1:Int)]:List Int),(1:Int),[(⟨([]:List Ab),([]:List Aj),(⟨(2:Int),(1:Int),l8⟩:Ac)⟩:Aa),(⟨([]:List Ab),x6,(⟨(1:Int),(0:Int),([(2:Int)]:List Int)⟩:Ac)⟩:Aa),(⟨([]:List Ab),([]:List Aj),(⟨(0:Int),(1:Int),([]:List Int)⟩:Ac)⟩:Aa)]⟩:Ae) x13.1 else some (0:Int)).bind fun x14=>((bif ((bif (bif (!x13.2) then true else(!(((x13.1.At:Int)==0)&&(((x13.1.Then:Int)==i9)&&(((x13.1.Else:Int)==i10)&&(((x13.1.Join:Int)==2)&&true)))))) then true else(x14 !=(Int.tmod (A8 a2) (9:Int))))==false) then Fz (⟨([(1:Int)]:List Int),(1:Int),[(⟨([]:List Ab),([]:List Aj),(⟨(2:Int),(1:Int),l8⟩:Ac)⟩:Aa),(⟨([]:List Ab),x6,(⟨(1:Int),(0:Int),([(2:Int)]:List Int)⟩:Ac)⟩:Aa),(⟨([]:List Ab),([]:List Aj),(⟨(0:Int),(1:Int),([]:List Int)⟩:Ac)⟩:Aa)]⟩:Ae) x13.1 else some false).bind fun x15=>(bif (bif (bif (bif (!x13.2) then true else(!(((x13.1.At:Int)==0)&&(((x13.1.Then:Int)==i9)&&(((x13.1.Else:Int)==i10)&&(((x13.1.Join:Int)==2)&&true)))))) then true else(x14 !=(Int.tmod (A8 a2) (9:Int)))) then true else(!x15)) then(some false) else(Bi (Bk (1:Int) [(⟨([]:List Ab),([]:List Aj),(⟨(2:Int),(1:Int),l8⟩:Ac)⟩:Aa),(⟨([]:List Ab),x6,(⟨(1:Int),(0:Int),([(2:Int)]:List Int)⟩:Ac)⟩:Aa),(⟨([]:List Ab),([]:List Aj),(⟨(0:Int),(1:Int),([]:List Int)⟩:Ac)⟩:Aa)].length) ((Dc (⟨([(1:Int)]:List Int),(1:Int),([(⟨([]:List Ab),([]:List Aj),(⟨(2:Int),(1:Int),l8⟩:Ac)⟩:Aa),(⟨([]:List Ab),x6,(⟨(1:Int),(0:Int),([(2:Int)]:List Int)⟩:Ac)⟩:Aa),(⟨([]:List Ab),([]:List Aj),(⟨(0:Int),(1:Int),([]:List Int)⟩:Ac)⟩:Aa)].set (1:Int).toNat (⟨([(⟨(1:Int),(100:Int),([(0:Int)]:List Int),([(1:Int)]:List Int)⟩:Ab)]:List Ab),([(⟨([]:List Ab),([]:List Aj),(⟨(2:Int),(1:Int),l8⟩:Ac)⟩:Aa),(⟨([]:List Ab),x6,(⟨(1:Int),(0:Int),([(2:Int)]:List Int)⟩:Ac)⟩:Aa),(⟨([]:List Ab),([]:List Aj),(⟨(0:Int),(1:Int),([]:List Int)⟩:Ac)⟩:Aa)].getD (1:Int).toNat (default:Aa)).Ops,(⟨([(⟨([]:List Ab),([]:List Aj),(⟨(2:Int),(1:Int),l8⟩:Ac)⟩:Aa),(⟨([]:List Ab),x6,(⟨(1:Int),(0:Int),([(2:Int)]:List Int)⟩:Ac)⟩:Aa),(⟨([]:List Ab),([]:List Aj),(⟨(0:Int),(1:Int),([]:List Int)⟩:Ac)⟩:Aa)].getD (1:Int).toNat (default:Aa)).End.Kind,([(⟨([]:List Ab),([]:List Aj),(⟨(2:Int),(1:Int),l8⟩:Ac)⟩:Aa),(⟨([]:List Ab),x6,(⟨(1:Int),(0:Int),([(2:Int)]:List Int)⟩:Ac)⟩:Aa),(⟨([]:List Ab),([]:List Aj),(⟨(0:Int),(1:Int),([]:List Int)⟩:Ac)⟩:Aa)].getD (1:Int).toNat (default:Aa)).End.Arg,([(⟨([]:List Ab),([]:List Aj),(⟨(2:Int),(1:Int),l8⟩:Ac)⟩:Aa),(⟨([]:List Ab),x6,(⟨(1:Int),(0:Int),([(2:Int)]:List Int)⟩:Ac)⟩:Aa),(⟨([]:List Ab),([]:List Aj),(⟨(0:Int),(1:Int),([]:List Int)⟩:Ac)⟩:Aa)].getD (1:Int).toNat (default:Aa)).End.To⟩:Ac)⟩:Aa))⟩:Ae) (0:Int)).bind fun x17=>(Bi (Bk (1:Int) ([(⟨([]:List Ab),([]:List Aj),(⟨(2:Int),(1:Int),l8⟩:Ac)⟩:Aa),(⟨([]:List Ab),x6,(⟨(1:Int),(0:Int),([(2:Int)]:List Int)⟩:Ac)⟩:Aa),(⟨([]:List Ab),([]:List Aj),(⟨(0:Int),(1:Int),([]:List Int)⟩:Ac)⟩:Aa)].set (1:Int).toNat (⟨([(⟨(1:Int),(100:Int),([(0:Int)]:List Int),([(1:Int)]:List Int)⟩:Ab)]:List Ab),([(⟨([]:List Ab),([]:List Aj),(⟨(2:Int),(1:Int),l8⟩:Ac)⟩:Aa),(⟨([]:List Ab),x6,(⟨(1:Int),(0:Int),([(2:Int)]:List Int)⟩:Ac)⟩:Aa),(⟨([]:List Ab),([]:List Aj),(⟨(0:Int),(1:Int),([]:List Int)⟩:Ac)⟩:Aa)].getD (1:Int).toNat (default:Aa)).Ops,(⟨([(⟨([]:List Ab),([]:List Aj),(⟨(2:Int),(1:Int),l8⟩:Ac)⟩:Aa),(⟨([]:List Ab),x6,(⟨(1:Int),(0:Int),([(2:Int)]:List Int)⟩:Ac)⟩:Aa),(⟨([]:List Ab),([]:List Aj),(⟨(0:Int),(1:Int),([]:List Int)⟩:Ac)⟩:Aa)].getD (1:Int).toNat (default:Aa)).End.Kind,([(⟨([]:List Ab),([]:List Aj),(⟨(2:Int),(1:Int),l8⟩:Ac)⟩:Aa),(⟨([]:List Ab),x6,(⟨(1:Int),(0:Int),([(2:Int)]:List Int)⟩:Ac)⟩:Aa),(⟨([]:List Ab),([]:List Aj),(⟨(0:Int),(1:Int),([]:List Int)⟩:Ac)⟩:Aa)].getD (1:Int).toNat (default:Aa)).End.Arg,([(⟨([]:List Ab),([]:List Aj),(⟨(2:Int),(1:Int),l8⟩:Ac)⟩:Aa),(⟨([]:List Ab),x6,(⟨(1:Int),(0:Int),([(2:Int)]:List Int)⟩:Ac)⟩:Aa),(⟨([]:List Ab),([]:List Aj),(⟨(0:Int),(1:Int),([]:List Int)⟩:Ac)⟩:Aa)].getD (1:Int).toNat (default:Aa)).End.To⟩:Ac)⟩:Aa)).length) (Bi (Bk (2:Int) (([(⟨([]:List Ab),([]:List Aj),(⟨(2:Int),(1:Int),l8⟩:Ac)⟩:Aa),(⟨([]:List Ab),x6,(⟨(1:Int),(0:Int),([(2:Int)]:List Int)⟩:Ac)⟩:Aa),(⟨([]:List Ab),([]:List Aj),(⟨(0:Int),(1:Int),([]:List Int)⟩:Ac)⟩:Aa)].set (1:Int).toNat (⟨([(⟨(1:Int),(100:Int),([(0:Int)]:List Int),([(1:Int)]:List Int)⟩:Ab)]:List Ab),([(⟨([]:List Ab),([]:List Aj),(⟨(2:Int),(1:Int),l8⟩:Ac)⟩:Aa),(⟨([]:List Ab),x6,(⟨(1:Int),(0:Int),([(2:Int)]:List Int)⟩:Ac)⟩:Aa),(⟨([]:List Ab),([]:List Aj),(⟨(0:Int),(1:Int),([]:List Int)⟩:Ac)⟩:Aa)].getD (1:Int).toNat (default:Aa)).Ops,(⟨([(⟨([]:List Ab),([]:List Aj),(⟨(2:Int),(1:Int),l8⟩:Ac)⟩:Aa),(⟨([]:List Ab),x6,(⟨(1:Int),(0:Int),([(2:Int)]:List Int)⟩:Ac)⟩:Aa),(⟨([]:List Ab),([]:List Aj),(⟨(0:Int),(1:Int),([]:List Int)⟩:Ac)⟩:Aa)].getD (1:Int).toNat (default:Aa)).End.Kind,([(⟨([]:List Ab),([]:List Aj),(⟨(2:Int),(1:Int),l8⟩:Ac)⟩:Aa),(⟨([]:List Ab),x6,(⟨(1:Int),(0:Int),([(2:Int)]:List Int)⟩:Ac)⟩:Aa),(⟨([]:List Ab),([]:List Aj),(⟨(0:Int),(1:Int),([]:List Int)⟩:Ac)⟩:Aa)].getD (1:Int).toNat (default:Aa)).End.Arg,([(⟨([]:List Ab),([]:List Aj),(⟨(2:Int),(1:Int),l8⟩:Ac)⟩:Aa),(⟨([]:List Ab),x6,(⟨(1:Int),(0:Int),([(2:Int)]:List Int)⟩:Ac)⟩:Aa),(⟨([]:List Ab),([]:List Aj),(⟨(0:Int),(1:Int),([]:List Int)⟩:Ac)⟩:Aa)].getD (1:Int).toNat (default:Aa)).End.To⟩:Ac)⟩:Aa)).set (1:Int).toNat (⟨([]:List Ab),(([(⟨([]:List Ab),([]:List Aj),(⟨(2:Int),(1:Int),l8⟩:Ac)⟩:Aa),(⟨([]:List Ab),x6,(⟨(1:Int),(0:Int),([(2:Int)]:List Int)⟩:Ac)⟩:Aa),(⟨([]:List Ab),([]:List Aj),(⟨(0:Int),(1:Int),([]:List Int)⟩:Ac)⟩:Aa)].set (1:Int).toNat (⟨([(⟨(1:Int),(100:Int),([(0:Int)]:List Int),([(1:Int)]:List Int)⟩:Ab)]:List Ab),([(⟨([]:List Ab),([]:List Aj),(⟨(2:Int),(1:Int),l8⟩:Ac)⟩:Aa),(⟨([]:List Ab),x6,(⟨(1:Int),(0:Int),([(2:Int)]:List Int)⟩:Ac)⟩:Aa),(⟨([]:List Ab),([]:List Aj),(⟨(0:Int),(1:Int),([]:List Int)⟩:Ac)⟩:Aa)].getD (1:Int).toNat (default:Aa)).Ops,(⟨([(⟨([]:List Ab),([]:List Aj),(⟨(2:Int),(1:Int),l8⟩:Ac)⟩:Aa),(⟨([]:List Ab),x6,(⟨(1:Int),(0:Int),([(2:Int)]:List Int)⟩:Ac)⟩:Aa),(⟨([]:List Ab),([]:List Aj),(⟨(0:Int),(1:Int),([]:List Int)⟩:Ac)⟩:Aa)].getD (1:Int).toNat (default:Aa)).End.Kind,([(⟨([]:List Ab),([]:List Aj),(⟨(2:Int),(1:Int),l8⟩:Ac)⟩:Aa),(⟨([]:List Ab),x6,(⟨(1:Int),(0:Int),([(2:Int)]:List Int)⟩:Ac)⟩:Aa),(⟨([]:List Ab),([]:List Aj),(⟨(0:Int),(1:Int),([]:List Int)⟩:Ac)⟩:Aa)].getD (1:Int).toNat (default:Aa)).End.Arg,([(⟨([]:List Ab),([]:List Aj),(⟨(2:Int),(1:Int),l8⟩:Ac)⟩:Aa),(⟨([]:List Ab),x6,(⟨(1:Int),(0:Int),([(2:Int)]:List Int)⟩:Ac)⟩:Aa),(⟨([]:List Ab),([]:List Aj),(⟨(0:Int),(1:Int),([]:List Int)⟩:Ac)⟩:Aa)].getD (1:Int).toNat (default:Aa)).End.To⟩:Ac)⟩:Aa)).getD (1:Int).toNat (default:Aa)).Ops,(⟨(([(⟨([]:List Ab),([]:List Aj),(⟨(2:Int),(1:Int),l8⟩:Ac)⟩:Aa),(⟨([]:List Ab),x6,(⟨(1:Int),(0:Int),([(2:Int)]:List Int)⟩:Ac)⟩:Aa),(⟨([]:List Ab),([]:List Aj),(⟨(0:Int),(1:Int),([]:List Int)⟩:Ac)⟩:Aa)].set (1:Int).toNat (⟨([(⟨(1:Int),(100:Int),([(0:Int)]:List Int),([(1:Int)]:List Int)⟩:Ab)]:List Ab),([(⟨([]:List Ab),([]:List Aj),(⟨(2:Int),(1:Int),l8⟩:Ac)⟩:Aa),(⟨([]:List Ab),x6,(⟨(1:Int),(0:Int),([(2:Int)]:List Int)⟩:Ac)⟩:Aa),(⟨([]:List Ab),([]:List Aj),(⟨(0:Int),(1:Int),([]:List Int)⟩:Ac)⟩:Aa)].getD (1:Int).toNat (default:Aa)).Ops,(⟨([(⟨([]:List Ab),([]:List Aj),(⟨(2:Int),(1:Int),l8⟩:Ac)⟩:Aa),(⟨([]:List Ab),x6,(⟨(1:Int),(0:Int),([(2:Int)]:List Int)⟩:Ac)⟩:Aa),(⟨([]:List Ab),([]:List Aj),(⟨(0:Int),(1:Int),([]:List Int)⟩:Ac)⟩:Aa)].getD (1:Int).toNat (default:Aa)).End.Kind,([(⟨([]:List Ab),([]:List Aj),(⟨(2:Int),(1:Int),l8⟩:Ac)⟩:Aa),(⟨([]:List Ab),x6,(⟨(1:Int),(0:Int),([(2:Int)]:List Int)⟩:Ac)⟩:Aa),(⟨([]:List Ab),([]:List Aj),(⟨(0:Int),(1:Int),([]:List Int)⟩:Ac)⟩:Aa)].getD (1:Int).toNat (default:Aa)).End.Arg,([(⟨([]:List Ab),([]:List Aj),(⟨(2:Int),(1:Int),l8⟩:Ac)⟩:Aa),(⟨([]:List Ab),x6,(⟨(1:Int),(0:Int),([(2:Int)]:List Int)⟩:Ac)⟩:Aa),(⟨([]:List Ab),([]:List Aj),(⟨(0:Int),(1:Int),([]:List Int)⟩:Ac)⟩:Aa)].getD (1:Int).toNat (default:Aa)).End.To⟩:Ac)⟩:Aa)).getD (1:Int).toNat (default:Aa)).End.Kind,(([(⟨([]:List Ab),([]:List Aj),(⟨(2:Int),(1:Int),l8⟩:Ac)⟩:Aa),(⟨([]:List Ab),x6,(⟨(1:Int),(0:Int),([(2:Int)]:List Int)⟩:Ac)⟩:Aa),(⟨([]:List Ab),([]:List Aj),(⟨(0:Int),(1:Int),([]:List Int)⟩:Ac)⟩:Aa)].set (1:Int).toNat (⟨([(⟨(1:Int),(100:Int),([(0:Int)]:List Int),([(1:Int)]:List Int)⟩:Ab)]:List Ab),([(⟨([]:List Ab),([]:List Aj),(⟨(2:Int),(1:Int),l8⟩:Ac)⟩:Aa),(⟨([]:List Ab),x6,(⟨(1:Int),(0:Int),([(2:Int)]:List Int)⟩:Ac)⟩:Aa),(⟨([]:List Ab),([]:List Aj),(⟨(0:Int),(1:Int),([]:List Int)⟩:Ac)⟩:Aa)].getD (1:Int).toNat (default:Aa)).Ops,(⟨([(⟨([]:List Ab),([]:List Aj),(⟨(2:Int),(1:Int),l8⟩:Ac)⟩:Aa),(⟨([]:List Ab),x6,(⟨(1:Int),(0:Int),([(2:Int)]:List Int)⟩:Ac)⟩:Aa),(⟨([]:List Ab),([]:List Aj),(⟨(0:Int),(1:Int),([]:List Int)⟩:Ac)⟩:Aa)].getD (1:Int).toNat (default:Aa)).End.Kind,([(⟨([]:List Ab),([]:List Aj),(⟨(2:Int),(1:Int),l8⟩:Ac)⟩:Aa),(⟨([]:List Ab),x6,(⟨(1:Int),(0:Int),([(2:Int)]:List Int)⟩:Ac)⟩:Aa),(⟨([]:List Ab),([]:List Aj),(⟨(0:Int),(1:Int),([]:List Int)⟩:Ac)⟩:Aa)].getD (1:Int).toNat (default:Aa)).End.Arg,([(⟨([]:List Ab),([]:List Aj),(⟨(2:Int),(1:Int),l8⟩:Ac)⟩:Aa),(⟨([]:List Ab),x6,(⟨(1:Int),(0:Int),([(2:Int)]:List Int)⟩:Ac)⟩:Aa),(⟨([]:List Ab),([]:List Aj),(⟨(0:Int),(1:Int),([]:List Int)⟩:Ac)⟩:Aa)].getD (1:Int).toNat (default:Aa)).End.To⟩:Ac)⟩:Aa)).getD (1:Int).toNat (default:Aa)).End.Arg,(([(⟨([]:List Ab),([]:List Aj),(⟨(2:Int),(1:Int),l8⟩:Ac)⟩:Aa),(⟨([]:List Ab),x6,(⟨(1:Int),(0:Int),([(2:Int)]:List Int)⟩:Ac)⟩:Aa),(⟨([]:List Ab),([]:List Aj),(⟨(0:Int),(1:Int),([]:List Int)⟩:Ac)⟩:Aa)].set (1:Int).toNat (⟨([(⟨(1:Int),(100:Int),([(0:Int)]:List Int),([(1:Int)]:List Int)⟩:Ab)]:List Ab),([(⟨([]:List Ab),([]:List Aj),(⟨(2:Int),(1:Int),l8⟩:Ac)⟩:Aa),(⟨([]:List Ab),x6,(⟨(1:Int),(0:Int),([(2:Int)]:List Int)⟩:Ac)⟩:Aa),(⟨([]:List Ab),([]:List Aj),(⟨(0:Int),(1:Int),([]:List Int)⟩:Ac)⟩:Aa)].getD (1:Int).toNat (default:Aa)).Ops,(⟨([(⟨([]:List Ab),([]:List Aj),(⟨(2:Int),(1:Int),l8⟩:Ac)⟩:Aa),(⟨([]:List Ab),x6,(⟨(1:Int),(0:Int),([(2:Int)]:List Int)⟩:Ac)⟩:Aa),(⟨([]:List Ab),([]:List Aj),(⟨(0:Int),(1:Int),([]:List Int)⟩:Ac)⟩:Aa)].getD (1:Int).toNat (default:Aa)).End.Kind,([(⟨([]:List Ab),([]:List Aj),(⟨(2:Int),(1:Int),l8⟩:Ac)⟩:Aa),(⟨([]:List Ab),x6,(⟨(1:Int),(0:Int),([(2:Int)]:List Int)⟩:Ac)⟩:Aa),(⟨([]:List Ab),([]:List Aj),(⟨(0:Int),(1:Int),([]:List Int)⟩:Ac)⟩:Aa)].getD (1:Int).toNat (default:Aa)).End.Arg,([(⟨([]:List Ab),([]:List Aj),(⟨(2:Int),(1:Int),l8⟩:Ac)⟩:Aa),(⟨([]:List Ab),x6,(⟨(1:Int),(0:Int),([(2:Int)]:List Int)⟩:Ac)⟩:Aa),(⟨([]:List Ab),([]:List Aj),(⟨(0:Int),(1:Int),([]:List Int)⟩:Ac)⟩:Aa)].getD (1:Int).toNat (default:Aa)).End.To⟩:Ac)⟩:Aa)).getD (1:Int).toNat (default:Aa)).End.To⟩:Ac)⟩:Aa)).length) (Bi (((([(⟨([]:List Ab),([]:List Aj),(⟨(2:Int),(1:Int),l8⟩:Ac)⟩:Aa),(⟨([]:List Ab),x6,(⟨(1:Int),(0:Int),([(2:Int)]:List Int)⟩:Ac)⟩:Aa),(⟨([]:List Ab),([]:List Aj),(⟨(0:Int),(1:Int),([]:List Int)⟩:Ac)⟩:Aa)].set (1:Int).toNat (⟨([(⟨(1:Int),(100:Int),([(0:Int)]:List Int),([(1:Int)]:List Int)⟩:Ab)]:List Ab),([(⟨([]:List Ab),([]:List Aj),(⟨(2:Int),(1:Int),l8⟩:Ac)⟩:Aa),(⟨([]:List Ab),x6,(⟨(1:Int),(0:Int),([(2:Int)]:List Int)⟩:Ac)⟩:Aa),(⟨([]:List Ab),([]:List Aj),(⟨(0:Int),(1:Int),([]:List Int)⟩:Ac)⟩:Aa)].getD (1:Int).toNat (default:Aa)).Ops,(⟨([(⟨([]:List Ab),([]:List Aj),(⟨(2:Int),(1:Int),l8⟩:Ac)⟩:Aa),(⟨([]:List Ab),x6,(⟨(1:Int),(0:Int),([(2:Int)]:List Int)⟩:Ac)⟩:Aa),(⟨([]:List Ab),([]:List Aj),(⟨(0:Int),(1:Int),([]:List Int)⟩:Ac)⟩:Aa)].getD (1:Int).toNat (default:Aa)).End.Kind,([(⟨([]:List Ab),([]:List Aj),(⟨(2:Int),(1:Int),l8⟩:Ac)⟩:Aa),(⟨([]:List Ab),x6,(⟨(1:Int),(0:Int),([(2:Int)]:List Int)⟩:Ac)⟩:Aa),(⟨([]:List Ab),([]:List Aj),(⟨(0:Int),(1:Int),([]:List Int)⟩:Ac)⟩:Aa)].getD (1:Int).toNat (default:Aa)).End.Arg,([(⟨([]:List Ab),([]:List Aj),(⟨(2:Int),(1:Int),l8⟩:Ac)⟩:Aa),(⟨([]:List Ab),x6,(⟨(1:Int),(0:Int),([(2:Int)]:List Int)⟩:Ac)⟩:Aa),(⟨([]:List Ab),([]:List Aj),(⟨(0:Int),(1:Int),([]:List Int)⟩:Ac)⟩:Aa)].getD (1:Int).toNat (default:Aa)).End.To⟩:Ac)⟩:Aa)).set (1:Int).toNat (⟨([]:List Ab),(([(⟨([]:List Ab),([]:List Aj),(⟨(2:Int),(1:Int),l8⟩:Ac)⟩:Aa),(⟨([]:List Ab),x6,(⟨(1:Int),(0:Int),([(2:Int)]:List Int)⟩:Ac)⟩:Aa),(⟨([]:List Ab),([]:List Aj),(⟨(0:Int),(1:Int),([]:List Int)⟩:Ac)⟩:Aa)].set (1:Int).toNat (⟨([(⟨(1:Int),(100:Int),([(0:Int)]:List Int),([(1:Int)]:List Int)⟩:Ab)]:List Ab),([(⟨([]:List Ab),([]:List Aj),(⟨(2:Int),(1:Int),l8⟩:Ac)⟩:Aa),(⟨([]:List Ab),x6,(⟨(1:Int),(0:Int),([(2:Int)]:List Int)⟩:Ac)⟩:Aa),(⟨([]:List Ab),([]:List Aj),(⟨(0:Int),(1:Int),([]:List Int)⟩:Ac)⟩:Aa)].getD (1:Int).toNat (default:Aa)).Ops,(⟨([(⟨([]:List Ab),([]:List Aj),(⟨(2:Int),(1:Int),l8⟩:Ac)⟩:Aa),(⟨([]:List Ab),x6,(⟨(1:Int),(0:Int),([(2:Int)]:List Int)⟩:Ac)⟩:Aa),(⟨([]:List Ab),([]:List Aj),(⟨(0:Int),(1:Int),([]:List Int)⟩:Ac)⟩:Aa)].getD (1:Int).toNat (default:Aa)).End.Kind,([(⟨([]:List Ab),([]:List Aj),(⟨(2:Int),(1:Int),l8⟩:Ac)⟩:Aa),(⟨([]:List Ab),x6,(⟨(1:Int),(0:Int),([(2:Int)]:List Int)⟩:Ac)⟩:Aa),(⟨([]:List Ab),([]:List Aj),(⟨(0:Int),(1:Int),([]:List Int)⟩:Ac)⟩:Aa)].getD (1:Int).toNat (default:Aa)).End.Arg,([(⟨([]:List Ab),([]:List Aj),(⟨(2:Int),(1:Int),l8⟩:Ac)⟩:Aa),(⟨([]:List Ab),x6,(⟨(1:Int),(0:Int),([(2:Int)]:List Int)⟩:Ac)⟩:Aa),(⟨([]:List Ab),([]:List Aj),(⟨(0:Int),(1:Int),([]:List Int)⟩:Ac)⟩:Aa)].getD (1:Int).toNat (default:Aa)).End.To⟩:Ac)⟩:Aa)).getD (1:Int).toNat (default:Aa)).Ops,(⟨(([(⟨([]:List Ab),([]:List Aj),(⟨(2:Int),(1:Int),l8⟩:Ac)⟩:Aa),(⟨([]:List Ab),x6,(⟨(1:Int),(0:Int),([(2:Int)]:List Int)⟩:Ac)⟩:Aa),(⟨([]:List Ab),([]:List Aj),(⟨(0:Int),(1:Int),([]:List Int)⟩:Ac)⟩:Aa)].set (1:Int).toNat (⟨([(⟨(1:Int),(100:Int),([(0:Int)]:List Int),([(1:Int)]:List Int)⟩:Ab)]:List Ab),([(⟨([]:List Ab),([]:List Aj),(⟨(2:Int),(1:Int),l8⟩:Ac)⟩:Aa),(⟨([]:List Ab),x6,(⟨(1:Int),(0:Int),([(2:Int)]:List Int)⟩:Ac)⟩:Aa),(⟨([]:List Ab),([]:List Aj),(⟨(0:Int),(1:Int),([]:List Int)⟩:Ac)⟩:Aa)].getD (1:Int).toNat (default:Aa)).Ops,(⟨([(⟨([]:List Ab),([]:List Aj),(⟨(2:Int),(1:Int),l8⟩:Ac)⟩:Aa),(⟨([]:List Ab),x6,(⟨(1:Int),(0:Int),([(2:Int)]:List Int)⟩:Ac)⟩:Aa),(⟨([]:List Ab),([]:List Aj),(⟨(0:Int),(1:Int),([]:List Int)⟩:Ac)⟩:Aa)].getD (1:Int).toNat (default:Aa)).End.Kind,([(⟨([]:List Ab),([]:List Aj),(⟨(2:Int),(1:Int),l8⟩:Ac)⟩:Aa),(⟨([]:List Ab),x6,(⟨(1:Int),(0:Int),([(2:Int)]:List Int)⟩:Ac)⟩:Aa),(⟨([]:List Ab),([]:List Aj),(⟨(0:Int),(1:Int),([]:List Int)⟩:Ac)⟩:Aa)].getD (1:Int).toNat (default:Aa)).End.Arg,([(⟨([]:List Ab),([]:List Aj),(⟨(2:Int),(1:Int),l8⟩:Ac)⟩:Aa),(⟨([]:List Ab),x6,(⟨(1:Int),(0:Int),([(2:Int)]:List Int)⟩:Ac)⟩:Aa),(⟨([]:List Ab),([]:List Aj),(⟨(0:Int),(1:Int),([]:List Int)⟩:Ac)⟩:Aa)].getD (1:Int).toNat (default:Aa)).End.To⟩:Ac)⟩:Aa)).getD (1:Int).toNat (default:Aa)).End.Kind,(([(⟨([]:List Ab),([]:List Aj),(⟨(2:Int),(1:Int),l8⟩:Ac)⟩:Aa),(⟨([]:List Ab),x6,(⟨(1:Int),(0:Int),([(2:Int)]:List Int)⟩:Ac)⟩:Aa),(⟨([]:List Ab),([]:List Aj),(⟨(0:Int),(1:Int),([]:List Int)⟩:Ac)⟩:Aa)].set (1:Int).toNat (⟨([(⟨(1:Int),(100:Int),([(0:Int)]:List Int),([(1:Int)]:List Int)⟩:Ab)]:List Ab),([(⟨([]:List Ab),([]:List Aj),(⟨(2:Int),(1:Int),l8⟩:Ac)⟩:Aa),(⟨([]:List Ab),x6,(⟨(1:Int),(0:Int),([(2:Int)]:List Int)⟩:Ac)⟩:Aa),(⟨([]:List Ab),([]:List Aj),(⟨(0:Int),(1:Int),([]:List Int)⟩:Ac)⟩:Aa)].getD (1:Int).toNat (default:Aa)).Ops,(⟨([(⟨([]:List Ab),([]:List Aj),(⟨(2:Int),(1:Int),l8⟩:Ac)⟩:Aa),(⟨([]:List Ab),x6,(⟨(1:Int),(0:Int),([(2:Int)]:List Int)⟩:Ac)⟩:Aa),(⟨([]:List Ab),([]:List Aj),(⟨(0:Int),(1:Int),([]:List Int)⟩:Ac)⟩:Aa)].getD (1:Int).toNat (default:Aa)).End.Kind,([(⟨([]:List Ab),([]:List Aj),(⟨(2:Int),(1:Int),l8⟩:Ac)⟩:Aa),(⟨([]:List Ab),x6,(⟨(1:Int),(0:Int),([(2:Int)]:List Int)⟩:Ac)⟩:Aa),(⟨([]:List Ab),([]:List Aj),(⟨(0:Int),(1:Int),([]:List Int)⟩:Ac)⟩:Aa)].getD (1:Int).toNat (default:Aa)).End.Arg,([(⟨([]:List Ab),([]:List Aj),(⟨(2:Int),(1:Int),l8⟩:Ac)⟩:Aa),(⟨([]:List Ab),x6,(⟨(1:Int),(0:Int),([(2:Int)]:List Int)⟩:Ac)⟩:Aa),(⟨([]:List Ab),([]:List Aj),(⟨(0:Int),(1:Int),([]:List Int)⟩:Ac)⟩:Aa)].getD (1:Int).toNat (default:Aa)).End.To⟩:Ac)⟩:Aa)).getD (1:Int).toNat (default:Aa)).End.Arg,(([(⟨([]:List Ab),([]:List Aj),(⟨(2:Int),(1:Int),l8⟩:Ac)⟩:Aa),(⟨([]:List Ab),x6,(⟨(1:Int),(0:Int),([(2:Int)]:List Int)⟩:Ac)⟩:Aa),(⟨([]:List Ab),([]:List Aj),(⟨(0:Int),(1:Int),([]:List Int)⟩:Ac)⟩:Aa)].set (1:Int).toNat (⟨([(⟨(1:Int),(100:Int),([(0:Int)]:List Int),([(1:Int)]:List Int)⟩:Ab)]:List Ab),([(⟨([]:List Ab),([]:List Aj),(⟨(2:Int),(1:Int),l8⟩:Ac)⟩:Aa),(⟨([]:List Ab),x6,(⟨(1:Int),(0:Int),([(2:Int)]:List Int)⟩:Ac)⟩:Aa),(⟨([]:List Ab),([]:List Aj),(⟨(0:Int),(1:Int),([]:List Int)⟩:Ac)⟩:Aa)].getD (1:Int).toNat (default:Aa)).Ops,(⟨([(⟨([]:List Ab),([]:List Aj),(⟨(2:Int),(1:Int),l8⟩:Ac)⟩:Aa),(⟨([]:List Ab),x6,(⟨(1:Int),(0:Int),([(2:Int)]:List Int)⟩:Ac)⟩:Aa),(⟨([]:List Ab),([]:List Aj),(⟨(0:Int),(1:Int),([]:List Int)⟩:Ac)⟩:Aa)].getD (1:Int).toNat (default:Aa)).End.Kind,([(⟨([]:List Ab),([]:List Aj),(⟨(2:Int),(1:Int),l8⟩:Ac)⟩:Aa),(⟨([]:List Ab),x6,(⟨(1:Int),(0:Int),([(2:Int)]:List Int)⟩:Ac)⟩:Aa),(⟨([]:List Ab),([]:List Aj),(⟨(0:Int),(1:Int),([]:List Int)⟩:Ac)⟩:Aa)].getD (1:Int).toNat (default:Aa)).End.Arg,([(⟨([]:List Ab),([]:List Aj),(⟨(2:Int),(1:Int),l8⟩:Ac)⟩:Aa),(⟨([]:List Ab),x6,(⟨(1:Int),(0:Int),([(2:Int)]:List Int)⟩:Ac)⟩:Aa),(⟨([]:List Ab),([]:List Aj),(⟨(0:Int),(1:Int),([]:List Int)⟩:Ac)⟩:Aa)].getD (1:Int).toNat (default:Aa)).End.To⟩:Ac)⟩:Aa)).getD (1:Int).toNat (default:Aa)).End.To⟩:Ac)⟩:Aa)).set (2:Int).toNat (⟨((([(⟨([]:List Ab),([]:List Aj),(⟨(2:Int),(1:Int),l8⟩:Ac)⟩:Aa),(⟨([]:List Ab),x6,(⟨(1:Int),(0:Int),([(2:Int)]:List Int)⟩:Ac)⟩:Aa),(⟨([]:List Ab),([]:List Aj),(⟨(0:Int),(1:Int),([]:List Int)⟩:Ac)⟩:Aa)].set (1:Int).toNat (⟨([(⟨(1:Int),(100:Int),([(0:Int)]:List Int),([(1:Int)]:List Int)⟩:Ab)]:List Ab),([(⟨([]:List Ab),([]:List Aj),(⟨(2:Int),(1:Int),l8⟩:Ac)⟩:Aa),(⟨([]:List Ab),x6,(⟨(1:Int),(0:Int),([(2:Int)]:List Int)⟩:Ac)⟩:Aa),(⟨([]:List Ab),([]:List Aj),(⟨(0:Int),(1:Int),([]:List Int)⟩:Ac)⟩:Aa)].getD (1:Int).toNat (default:Aa)).Ops,(⟨([(⟨([]:List Ab),([]:List Aj),(⟨(2:Int),(1:Int),l8⟩:Ac)⟩:Aa),(⟨([]:List Ab),x6,(⟨(1:Int),(0:Int),([(2:Int)]:List Int)⟩:Ac)⟩:Aa),(⟨([]:List Ab),([]:List Aj),(⟨(0:Int),(1:Int),([]:List Int)⟩:Ac)⟩:Aa)].getD (1:Int).toNat (default:Aa)).End.Kind,([(⟨([]:List Ab),([]:List Aj),(⟨(2:Int),(1:Int),l8⟩:Ac)⟩:Aa),(⟨([]:List Ab),x6,(⟨(1:Int),(0:Int),([(2:Int)]:List Int)⟩:Ac)⟩:Aa),(⟨([]:List Ab),([]:List Aj),(⟨(0:Int),(1:Int),([]:List Int)⟩:Ac)⟩:Aa)].getD (1:Int).toNat (default:Aa)).End.Arg,([(⟨([]:List Ab),([]:List Aj),(⟨(2:Int),(1:Int),l8⟩:Ac)⟩:Aa),(⟨([]:List Ab),x6,(⟨(1:Int),(0:Int),([(2:Int)]:List Int)⟩:Ac)⟩:Aa),(⟨([]:List Ab),([]:List Aj),(⟨(0:Int),(1:Int),([]:List Int)⟩:Ac)⟩:Aa)].getD (1:Int).toNat (default:Aa)).End.To⟩:Ac)⟩:Aa)).set (1:Int).toNat (⟨([]:List Ab),(([(⟨([]:List Ab),([]:List Aj),(⟨(2:Int),(1:Int),l8⟩:Ac)⟩:Aa),(⟨([]:List Ab),x6,(⟨(1:Int),(0:Int),([(2:Int)]:List Int)⟩:Ac)⟩:Aa),(⟨([]:List Ab),([]:List Aj),(⟨(0:Int),(1:Int),([]:List Int)⟩:Ac)⟩:Aa)].set (1:Int).toNat (⟨([(⟨(1:Int),(100:Int),([(0:Int)]:List Int),([(1:Int)]:List Int)⟩:Ab)]:List Ab),([(⟨([]:List Ab),([]:List Aj),(⟨(2:Int),(1:Int),l8⟩:Ac)⟩:Aa),(⟨([]:List Ab),x6,(⟨(1:Int),(0:Int),([(2:Int)]:List Int)⟩:Ac)⟩:Aa),(⟨([]:List Ab),([]:List Aj),(⟨(0:Int),(1:Int),([]:List Int)⟩:Ac)⟩:Aa)].getD (1:Int).toNat (default:Aa)).Ops,(⟨([(⟨([]:List Ab),([]:List Aj),(⟨(2:Int),(1:Int),l8⟩:Ac)⟩:Aa),(⟨([]:List Ab),x6,(⟨(1:Int),(0:Int),([(2:Int)]:List Int)⟩:Ac)⟩:Aa),(⟨([]:List Ab),([]:List Aj),(⟨(0:Int),(1:Int),([]:List Int)⟩:Ac)⟩:Aa)].getD (1:Int).toNat (default:Aa)).End.Kind,([(⟨([]:List Ab),([]:List Aj),(⟨(2:Int),(1:Int),l8⟩:Ac)⟩:Aa),(⟨([]:List Ab),x6,(⟨(1:Int),(0:Int),([(2:Int)]:List Int)⟩:Ac)⟩:Aa),(⟨([]:List Ab),([]:List Aj),(⟨(0:Int),(1:Int),([]:List Int)⟩:Ac)⟩:Aa)].getD (1:Int).toNat (default:Aa)).End.Arg,([(⟨([]:List Ab),([]:List Aj),(⟨(2:Int),(1:Int),l8⟩:Ac)⟩:Aa),(⟨([]:List Ab),x6,(⟨(1:Int),(0:Int),([(2:Int)]:List Int)⟩:Ac)⟩:Aa),(⟨([]:List Ab),([]:List Aj),(⟨(0:Int),(1:Int),([]:List Int)⟩:Ac)⟩:Aa)].getD (1:Int).toNat (default:Aa)).End.To⟩:Ac)⟩:Aa)).getD (1:Int).toNat (default:Aa)).Ops,(⟨(([(⟨([]:List Ab),([]:List Aj),(⟨(2:Int),(1:Int),l8⟩:Ac)⟩:Aa),(⟨([]:List Ab),x6,(⟨(1:Int),(0:Int),([(2:Int)]:List Int)⟩:Ac)⟩:Aa),(⟨([]:List Ab),([]:List Aj),(⟨(0:Int),(1:Int),([]:List Int)⟩:Ac)⟩:Aa)].set (1:Int).toNat (⟨([(⟨(1:Int),(100:Int),([(0:Int)]:List Int),([(1:Int)]:List Int)⟩:Ab)]:List Ab),([(⟨([]:List Ab),([]:List Aj),(⟨(2:Int),(1:Int),l8⟩:Ac)⟩:Aa),(⟨([]:List Ab),x6,(⟨(1:Int),(0:Int),([(2:Int)]:List Int)⟩:Ac)⟩:Aa),(⟨([]:List Ab),([]:List Aj),(⟨(0:Int),(1:Int),([]:List Int)⟩:Ac)⟩:Aa)].getD (1:Int).toNat (default:Aa)).Ops,(⟨([(⟨([]:List Ab),([]:List Aj),(⟨(2:Int),(1:Int),l8⟩:Ac)⟩:Aa),(⟨([]:List Ab),x6,(⟨(1:Int),(0:Int),([(2:Int)]:List Int)⟩:Ac)⟩:Aa),(⟨([]:List Ab),([]:List Aj),(⟨(0:Int),(1:Int),([]:List Int)⟩:Ac)⟩:Aa)].getD (1:Int).toNat (default:Aa)).End.Kind,([(⟨([]:List Ab),([]:List Aj),(⟨(2:Int),(1:Int),l8⟩:Ac)⟩:Aa),(⟨([]:List Ab),x6,(⟨(1:Int),(0:Int),([(2:Int)]:List Int)⟩:Ac)⟩:Aa),(⟨([]:List Ab),([]:List Aj),(⟨(0:Int),(1:Int),([]:List Int)⟩:Ac)⟩:Aa)].getD (1:Int).toNat (default:Aa)).End.Arg,([(⟨([]:List Ab),([]:List Aj),(⟨(2:Int),(1:Int),l8⟩:Ac)⟩:Aa),(⟨([]:List Ab),x6,(⟨(1:Int),(0:Int),([(2:Int)]:List Int)⟩:Ac)⟩:Aa),(⟨([]:List Ab),([]:List Aj),(⟨(0:Int),(1:Int),([]:List Int)⟩:Ac)⟩:Aa)].getD (1:Int).toNat (default:Aa)).End.To⟩:Ac)⟩:Aa)).getD (1:Int).toNat (default:Aa)).End.Kind,(([(⟨([]:List Ab),([]:List Aj),(⟨(2:Int),(1:Int),l8⟩:Ac)⟩:Aa),(⟨([]:List Ab),x6,(⟨(1:Int),(0:Int),([(2:Int)]:List Int)⟩:Ac)⟩:Aa),(⟨([]:List Ab),([]:List Aj),(⟨(0:Int),(1:Int),([]:List Int)⟩:Ac)⟩:Aa)].set (1:Int).toNat (⟨([(⟨(1:Int),(100:Int),([(0:Int)]:List Int),([(1:Int)]:List Int)⟩:Ab)]:List Ab),([(⟨([]:List Ab),([]:List Aj),(⟨(2:Int),(1:Int),l8⟩:Ac)⟩:Aa),(⟨([]:List Ab),x6,(⟨(1:Int),(0:Int),([(2:Int)]:List Int)⟩:Ac)⟩:Aa),(⟨([]:List Ab),([]:List Aj),(⟨(0:Int),(1:Int),([]:List Int)⟩:Ac)⟩:Aa)].getD (1:Int).toNat (default:Aa)).Ops,(⟨([(⟨([]:List Ab),([]:List Aj),(⟨(2:Int),(1:Int),l8⟩:Ac)⟩:Aa),(⟨([]:List Ab),x6,(⟨(1:Int),(0:Int),([(2:Int)]:List Int)⟩:Ac)⟩:Aa),(⟨([]:List Ab),([]:List Aj),(⟨(0:Int),(1:Int),([]:List Int)⟩:Ac)⟩:Aa)].getD (1:Int).toNat (default:Aa)).End.Kind,([(⟨([]:List Ab),([]:List Aj),(⟨(2:Int),(1:Int),l8⟩:Ac)⟩:Aa),(⟨([]:List Ab),x6,(⟨(1:Int),(0:Int),([(2:Int)]:List Int)⟩:Ac)⟩:Aa),(⟨([]:List Ab),([]:List Aj),(⟨(0:Int),(1:Int),([]:List Int)⟩:Ac)⟩:Aa)].getD (1:Int).toNat (default:Aa)).End.Arg,([(⟨([]:List Ab),([]:List Aj),(⟨(2:Int),(1:Int),l8⟩:Ac)⟩:Aa),(⟨([]:List Ab),x6,(⟨(1:Int),(0:Int),([(2:Int)]:List Int)⟩:Ac)⟩:Aa),(⟨([]:List Ab),([]:List Aj),(⟨(0:Int),(1:Int),([]:List Int)⟩:Ac)⟩:Aa)].getD (1:Int).toNat (default:Aa)).End.To⟩:Ac)⟩:Aa)).getD (1:Int).toNat (default:Aa)).End.Arg,(([(⟨([]:List Ab),([]:List Aj),(⟨(2:Int),(1:Int),l8⟩:Ac)⟩:Aa),(⟨([]:List Ab),x6,(⟨(1:Int),(0:Int),([(2:Int)]:List Int)⟩:Ac)⟩:Aa),(⟨([]:List Ab),([]:List Aj),(⟨(0:Int),(1:Int),([]:List Int)⟩:Ac)⟩:Aa)].set (1:Int).toNat (⟨([(⟨(1:Int),(100:Int),([(0:Int)]:List Int),([(1:Int)]:List Int)⟩:Ab)]:List Ab),([(⟨([]:List Ab),([]:List Aj),(⟨(2:Int),(1:Int),l8⟩:Ac)⟩:Aa),(⟨([]:List Ab),x6,(⟨(1:Int),(0:Int),([(2:Int)]:List Int)⟩:Ac)⟩:Aa),(⟨([]:List Ab),([]:List Aj),(⟨(0:Int),(1:Int),([]:List Int)⟩:Ac)⟩:Aa)].getD (1:Int).toNat (default:Aa)).Ops,(⟨([(⟨([]:List Ab),([]:List Aj),(⟨(2:Int),(1:Int),l8⟩:Ac)⟩:Aa),(⟨([]:List Ab),x6,(⟨(1:Int),(0:Int),([(2:Int)]:List Int)⟩:Ac)⟩:Aa),(⟨([]:List Ab),([]:List Aj),(⟨(0:Int),(1:Int),([]:List Int)⟩:Ac)⟩:Aa)].getD (1:Int).toNat (default:Aa)).End.Kind,([(⟨([]:List Ab),([]:List Aj),(⟨(2:Int),(1:Int),l8⟩:Ac)⟩:Aa),(⟨([]:List Ab),x6,(⟨(1:Int),(0:Int),([(2:Int)]:List Int)⟩:Ac)⟩:Aa),(⟨([]:List Ab),([]:List Aj),(⟨(0:Int),(1:Int),([]:List Int)⟩:Ac)⟩:Aa)].getD (1:Int).toNat (default:Aa)).End.Arg,([(⟨([]:List Ab),([]:List Aj),(⟨(2:Int),(1:Int),l8⟩:Ac)⟩:Aa),(⟨([]:List Ab),x6,(⟨(1:Int),(0:Int),([(2:Int)]:List Int)⟩:Ac)⟩:Aa),(⟨([]:List Ab),([]:List Aj),(⟨(0:Int),(1:Int),([]:List Int)⟩:Ac)⟩:Aa)].getD (1:Int).toNat (default:Aa)).End.To⟩:Ac)⟩:Aa)).getD (1:Int).toNat (default:Aa)).End.To⟩:Ac)⟩:Aa)).getD (2:Int).toNat (default:Aa)).Phis,((([(⟨([]:List Ab),([]:List Aj),(⟨(2:Int),(1:Int),l8⟩:Ac)⟩:Aa),(⟨([]:List Ab),x6,(⟨(1:Int),(0:Int),([(2:Int)]:List Int)⟩:Ac)⟩:Aa),(⟨([]:List Ab),([]:List Aj),(⟨(0:Int),(1:Int),([]:List Int)⟩:Ac)⟩:Aa)].set (1:Int).toNat (⟨([(⟨(1:Int),(100:Int),([(0:Int)]:List Int),([(1:Int)]:List Int)⟩:Ab)]:List Ab),([(⟨([]:List Ab),([]:List Aj),(⟨(2:Int),(1:Int),l8⟩:Ac)⟩:Aa),(⟨([]:List Ab),x6,(⟨(1:Int),(0:Int),([(2:Int)]:List Int)⟩:Ac)⟩:Aa),(⟨([]:List Ab),([]:List Aj),(⟨(0:Int),(1:Int),([]:List Int)⟩:Ac)⟩:Aa)].getD (1:Int).toNat (default:Aa)).Ops,(⟨([(⟨([]:List Ab),([]:List Aj),(⟨(2:Int),(1:Int),l8⟩:Ac)⟩:Aa),(⟨([]:List Ab),x6,(⟨(1:Int),(0:Int),([(2:Int)]:List Int)⟩:Ac)⟩:Aa),(⟨([]:List Ab),([]:List Aj),(⟨(0:Int),(1:Int),([]:List Int)⟩:Ac)⟩:Aa)].getD (1:Int).toNat (default:Aa)).End.Kind,([(⟨([]:List Ab),([]:List Aj),(⟨(2:Int),(1:Int),l8⟩:Ac)⟩:Aa),(⟨([]:List Ab),x6,(⟨(1:Int),(0:Int),([(2:Int)]:List Int)⟩:Ac)⟩:Aa),(⟨([]:List Ab),([]:List Aj),(⟨(0:Int),(1:Int),([]:List Int)⟩:Ac)⟩:Aa)].getD (1:Int).toNat (default:Aa)).End.Arg,([(⟨([]:List Ab),([]:List Aj),(⟨(2:Int),(1:Int),l8⟩:Ac)⟩:Aa),(⟨([]:List Ab),x6,(⟨(1:Int),(0:Int),([(2:Int)]:List Int)⟩:Ac)⟩:Aa),(⟨([]:List Ab),([]:List Aj),(⟨(0:Int),(1:Int),([]:List Int)⟩:Ac)⟩:Aa)].getD (1:Int).toNat (default:Aa)).End.To⟩:Ac)⟩:Aa)).set (1:Int).toNat (⟨([]:List Ab),(([(⟨([]:List Ab),([]:List Aj),(⟨(2:Int),(1:Int),l8⟩:Ac)⟩:Aa),(⟨([]:List Ab),x6,(⟨(1:Int),(0:Int),([(2:Int)]:List Int)⟩:Ac)⟩:Aa),(⟨([]:List Ab),([]:List Aj),(⟨(0:Int),(1:Int),([]:List Int)⟩:Ac)⟩:Aa)].set (1:Int).toNat (⟨([(⟨(1:Int),(100:Int),([(0:Int)]:List Int),([(1:Int)]:List Int)⟩:Ab)]:List Ab),([(⟨([]:List Ab),([]:List Aj),(⟨(2:Int),(1:Int),l8⟩:Ac)⟩:Aa),(⟨([]:List Ab),x6,(⟨(1:Int),(0:Int),([(2:Int)]:List Int)⟩:Ac)⟩:Aa),(⟨([]:List Ab),([]:List Aj),(⟨(0:Int),(1:Int),([]:List Int)⟩:Ac)⟩:Aa)].getD (1:Int).toNat (default:Aa)).Ops,(⟨([(⟨([]:List Ab),([]:List Aj),(⟨(2:Int),(1:Int),l8⟩:Ac)⟩:Aa),(⟨([]:List Ab),x6,(⟨(1:Int),(0:Int),([(2:Int)]:List Int)⟩:Ac)⟩:Aa),(⟨([]:List Ab),([]:List Aj),(⟨(0:Int),(1:Int),([]:List Int)⟩:Ac)⟩:Aa)].getD (1:Int).toNat (default:Aa)).End.Kind,([(⟨([]:List Ab),([]:List Aj),(⟨(2:Int),(1:Int),l8⟩:Ac)⟩:Aa),(⟨([]:List Ab),x6,(⟨(1:Int),(0:Int),([(2:Int)]:List Int)⟩:Ac)⟩:Aa),(⟨([]:List Ab),([]:List Aj),(⟨(0:Int),(1:Int),([]:List Int)⟩:Ac)⟩:Aa)].getD (1:Int).toNat (default:Aa)).End.Arg,([(⟨([]:List Ab),([]:List Aj),(⟨(2:Int),(1:Int),l8⟩:Ac)⟩:Aa),(⟨([]:List Ab),x6,(⟨(1:Int),(0:Int),([(2:Int)]:List Int)⟩:Ac)⟩:Aa),(⟨([]:List Ab),([]:List Aj),(⟨(0:Int),(1:Int),([]:List Int)⟩:Ac)⟩:Aa)].getD (1:Int).toNat (default:Aa)).End.To⟩:Ac)⟩:Aa)).getD (1:Int).toNat (default:Aa)).Ops,(⟨(([(⟨([]:List Ab),([]:List Aj),(⟨(2:Int),(1:Int),l8⟩:Ac)⟩:Aa),(⟨([]:List Ab),x6,(⟨(1:Int),(0:Int),([(2:Int)]:List Int)⟩:Ac)⟩:Aa),(⟨([]:List Ab),([]:List Aj),(⟨(0:Int),(1:Int),([]:List Int)⟩:Ac)⟩:Aa)].set (1:Int).toNat (⟨([(⟨(1:Int),(100:Int),([(0:Int)]:List Int),([(1:Int)]:List Int)⟩:Ab)]:List Ab),([(⟨([]:List Ab),([]:List Aj),(⟨(2:Int),(1:Int),l8⟩:Ac)⟩:Aa),(⟨([]:List Ab),x6,(⟨(1:Int),(0:Int),([(2:Int)]:List Int)⟩:Ac)⟩:Aa),(⟨([]:List Ab),([]:List Aj),(⟨(0:Int),(1:Int),([]:List Int)⟩:Ac)⟩:Aa)].getD (1:Int).toNat (default:Aa)).Ops,(⟨([(⟨([]:List Ab),([]:List Aj),(⟨(2:Int),(1:Int),l8⟩:Ac)⟩:Aa),(⟨([]:List Ab),x6,(⟨(1:Int),(0:Int),([(2:Int)]:List Int)⟩:Ac)⟩:Aa),(⟨([]:List Ab),([]:List Aj),(⟨(0:Int),(1:Int),([]:List Int)⟩:Ac)⟩:Aa)].getD (1:Int).toNat (default:Aa)).End.Kind,([(⟨([]:List Ab),([]:List Aj),(⟨(2:Int),(1:Int),l8⟩:Ac)⟩:Aa),(⟨([]:List Ab),x6,(⟨(1:Int),(0:Int),([(2:Int)]:List Int)⟩:Ac)⟩:Aa),(⟨([]:List Ab),([]:List Aj),(⟨(0:Int),(1:Int),([]:List Int)⟩:Ac)⟩:Aa)].getD (1:Int).toNat (default:Aa)).End.Arg,([(⟨([]:List Ab),([]:List Aj),(⟨(2:Int),(1:Int),l8⟩:Ac)⟩:Aa),(⟨([]:List Ab),x6,(⟨(1:Int),(0:Int),([(2:Int)]:List Int)⟩:Ac)⟩:Aa),(⟨([]:List Ab),([]:List Aj),(⟨(0:Int),(1:Int),([]:List Int)⟩:Ac)⟩:Aa)].getD (1:Int).toNat (default:Aa)).End.To⟩:Ac)⟩:Aa)).getD (1:Int).toNat (default:Aa)).End.Kind,(([(⟨([]:List Ab),([]:List Aj),(⟨(2:Int),(1:Int),l8⟩:Ac)⟩:Aa),(⟨([]:List Ab),x6,(⟨(1:Int),(0:Int),([(2:Int)]:List Int)⟩:Ac)⟩:Aa),(⟨([]:List Ab),([]:List Aj),(⟨(0:Int),(1:Int),([]:List Int)⟩:Ac)⟩:Aa)].set (1:Int).toNat (⟨([(⟨(1:Int),(100:Int),([(0:Int)]:List Int),([(1:Int)]:List Int)⟩:Ab)]:List Ab),([(⟨([]:List Ab),([]:List Aj),(⟨(2:Int),(1:Int),l8⟩:Ac)⟩:Aa),(⟨([]:List Ab),x6,(⟨(1:Int),(0:Int),([(2:Int)]:List Int)⟩:Ac)⟩:Aa),(⟨([]:List Ab),([]:List Aj),(⟨(0:Int),(1:Int),([]:List Int)⟩:Ac)⟩:Aa)].getD (1:Int).toNat (default:Aa)).Ops,(⟨([(⟨([]:List Ab),([]:List Aj),(⟨(2:Int),(1:Int),l8⟩:Ac)⟩:Aa),(⟨([]:List Ab),x6,(⟨(1:Int),(0:Int),([(2:Int)]:List Int)⟩:Ac)⟩:Aa),(⟨([]:List Ab),([]:List Aj),(⟨(0:Int),(1:Int),([]:List Int)⟩:Ac)⟩:Aa)].getD (1:Int).toNat (default:Aa)).End.Kind,([(⟨([]:List Ab),([]:List Aj),(⟨(2:Int),(1:Int),l8⟩:Ac)⟩:Aa),(⟨([]:List Ab),x6,(⟨(1:Int),(0:Int),([(2:Int)]:List Int)⟩:Ac)⟩:Aa),(⟨([]:List Ab),([]:List Aj),(⟨(0:Int),(1:Int),([]:List Int)⟩:Ac)⟩:Aa)].getD (1:Int).toNat (default:Aa)).End.Arg,([(⟨([]:List Ab),([]:List Aj),(⟨(2:Int),(1:Int),l8⟩:Ac)⟩:Aa),(⟨([]:List Ab),x6,(⟨(1:Int),(0:Int),([(2:Int)]:List Int)⟩:Ac)⟩:Aa),(⟨([]:List Ab),([]:List Aj),(⟨(0:Int),(1:Int),([]:List Int)⟩:Ac)⟩:Aa)].getD (1:Int).toNat (default:Aa)).End.To⟩:Ac)⟩:Aa)).getD (1:Int).toNat (default:Aa)).End.Arg,(([(⟨([]:List Ab),([]:List Aj),(⟨(2:Int),(1:Int),l8⟩:Ac)⟩:Aa),(⟨([]:List Ab),x6,(⟨(1:Int),(0:Int),([(2:Int)]:List Int)⟩:Ac)⟩:Aa),(⟨([]:List Ab),([]:List Aj),(⟨(0:Int),(1:Int),([]:List Int)⟩:Ac)⟩:Aa)].set (1:Int).toNat (⟨([(⟨(1:Int),(100:Int),([(0:Int)]:List Int),([(1:Int)]:List Int)⟩:Ab)]:List Ab),([(⟨([]:List Ab),([]:List Aj),(⟨(2:Int),(1:Int),l8⟩:Ac)⟩:Aa),(⟨([]:List Ab),x6,(⟨(1:Int),(0:Int),([(2:Int)]:List Int)⟩:Ac)⟩:Aa),(⟨([]:List Ab),([]:List Aj),(⟨(0:Int),(1:Int),([]:List Int)⟩:Ac)⟩:Aa)].getD (1:Int).toNat (default:Aa)).Ops,(⟨([(⟨([]:List Ab),([]:List Aj),(⟨(2:Int),(1:Int),l8⟩:Ac)⟩:Aa),(⟨([]:List Ab),x6,(⟨(1:Int),(0:Int),([(2:Int)]:List Int)⟩:Ac)⟩:Aa),(⟨([]:List Ab),([]:List Aj),(⟨(0:Int),(1:Int),([]:List Int)⟩:Ac)⟩:Aa)].getD (1:Int).toNat (default:Aa)).End.Kind,([(⟨([]:List Ab),([]:List Aj),(⟨(2:Int),(1:Int),l8⟩:Ac)⟩:Aa),(⟨([]:List Ab),x6,(⟨(1:Int),(0:Int),([(2:Int)]:List Int)⟩:Ac)⟩:Aa),(⟨([]:List Ab),([]:List Aj),(⟨(0:Int),(1:Int),([]:List Int)⟩:Ac)⟩:Aa)].getD (1:Int).toNat (default:Aa)).End.Arg,([(⟨([]:List Ab),([]:List Aj),(⟨(2:Int),(1:Int),l8⟩:Ac)⟩:Aa),(⟨([]:List Ab),x6,(⟨(1:Int),(0:Int),([(2:Int)]:List Int)⟩:Ac)⟩:Aa),(⟨([]:List Ab),([]:List Aj),(⟨(0:Int),(1:Int),([]:List Int)⟩:Ac)⟩:Aa)].getD (1:Int).toNat (default:Aa)).End.To⟩:Ac)⟩:Aa)).getD (1:Int).toNat (default:Aa)).End.To⟩:Ac)⟩:Aa)).getD (2:Int).toNat (default:Aa)).Ops,(⟨(2:Int),(1:Int),([(1:Int),(3:Int)]:List Int)⟩:Ac)⟩:Aa)).length+([(⟨([]:List Ab),([]:List Aj),(⟨(3:Int),(0:Int),([]:List Int)⟩:Ac)⟩:Aa)]:List Aa).length<=room) ((Dc (⟨([(1:Int)]:List Int),(1:Int),(((([(⟨([]:List Ab),([]:List Aj),(⟨(2:Int),(1:Int),l8⟩:Ac)⟩:Aa),(⟨([]:List Ab),x6,(⟨(1:Int),(0:Int),([(2:Int)]:List Int)⟩:Ac)⟩:Aa),(⟨([]:List Ab),([]:List Aj),(⟨(0:Int),(1:Int),([]:List Int)⟩:Ac)⟩:Aa)].set (1:Int).toNat (⟨([(⟨(1:Int),(100:Int),([(0:Int)]:List Int),([(1:Int)]:List Int)⟩:Ab)]:List Ab),([(⟨([]:List Ab),([]:List Aj),(⟨(2:Int),(1:Int),l8⟩:Ac)⟩:Aa),(⟨([]:List Ab),x6,(⟨(1:Int),(0:Int),([(2:Int)]:List Int)⟩:Ac)⟩:Aa),(⟨([]:List Ab),([]:List Aj),(⟨(0:Int),(1:Int),([]:List Int)⟩:Ac)⟩:Aa)].getD (1:Int).toNat (default:Aa)).Ops,(⟨([(⟨([]:List Ab),([]:List Aj),(⟨(2:Int),(1:Int),l8⟩:Ac)⟩:Aa),(⟨([]:List Ab),x6,(⟨(1:Int),(0:Int),([(2:Int)]:List Int)⟩:Ac)⟩:Aa),(⟨([]:List Ab),([]:List Aj),(⟨(0:Int),(1:Int),([]:List Int)⟩:Ac)⟩:Aa)].getD (1:Int).toNat (default:Aa)).End.Kind,([(⟨([]:List Ab),([]:List Aj),(⟨(2:Int),(1:Int),l8⟩:Ac)⟩:Aa),(⟨([]:List Ab),x6,(⟨(1:Int),(0:Int),([(2:Int)]:List Int)⟩:Ac)⟩:Aa),(⟨([]:List Ab),([]:List Aj),(⟨(0:Int),(1:Int),([]:List Int)⟩:Ac)⟩:Aa)].getD (1:Int).toNat (default:Aa)).End.Arg,([(⟨([]:List Ab),([]:List Aj),(⟨(2:Int),(1:Int),l8⟩:Ac)⟩:Aa),(⟨([]:List Ab),x6,(⟨(1:Int),(0:Int),([(2:Int)]:List Int)⟩:Ac)⟩:Aa),(⟨([]:List Ab),([]:List Aj),(⟨(0:Int),(1:Int),([]:List Int)⟩:Ac)⟩:Aa)].getD (1:Int).toNat (default:Aa)).End.To⟩:Ac)⟩:Aa)).set (1:Int).toNat (⟨([]:List Ab),(([(⟨([]:List Ab),([]:List Aj),(⟨(2:Int),(1:Int),l8⟩:Ac)⟩:Aa),(⟨([]:List Ab),x6,(⟨(1:Int),(0:Int),([(2:Int)]:List Int)⟩:Ac)⟩:Aa),(⟨([]:List Ab),([]:List Aj),(⟨(0:Int),(1:Int),([]:List Int)⟩:Ac)⟩:Aa)].set (1:Int).toNat (⟨([(⟨(1:Int),(100:Int),([(0:Int)]:List Int),([(1:Int)]:List Int)⟩:Ab)]:List Ab),([(⟨([]:List Ab),([]:List Aj),(⟨(2:Int),(1:Int),l8⟩:Ac)⟩:Aa),(⟨([]:List Ab),x6,(⟨(1:Int),(0:Int),([(2:Int)]:List Int)⟩:Ac)⟩:Aa),(⟨([]:List Ab),([]:List Aj),(⟨(0:Int),(1:Int),([]:List Int)⟩:Ac)⟩:Aa)].getD (1:Int).toNat (default:Aa)).Ops,(⟨([(⟨([]:List Ab),([]:List Aj),(⟨(2:Int),(1:Int),l8⟩:Ac)⟩:Aa),(⟨([]:List Ab),x6,(⟨(1:Int),(0:Int),([(2:Int)]:List Int)⟩:Ac)⟩:Aa),(⟨([]:List Ab),([]:List Aj),(⟨(0:Int),(1:Int),([]:List Int)⟩:Ac)⟩:Aa)].getD (1:Int).toNat (default:Aa)).End.Kind,([(⟨([]:List Ab),([]:List Aj),(⟨(2:Int),(1:Int),l8⟩:Ac)⟩:Aa),(⟨([]:List Ab),x6,(⟨(1:Int),(0:Int),([(2:Int)]:List Int)⟩:Ac)⟩:Aa),(⟨([]:List Ab),([]:List Aj),(⟨(0:Int),(1:Int),([]:List Int)⟩:Ac)⟩:Aa)].getD (1:Int).toNat (default:Aa)).End.Arg,([(⟨([]:List Ab),([]:List Aj),(⟨(2:Int),(1:Int),l8⟩:Ac)⟩:Aa),(⟨([]:List Ab),x6,(⟨(1:Int),(0:Int),([(2:Int)]:List Int)⟩:Ac)⟩:Aa),(⟨([]:List Ab),([]:List Aj),(⟨(0:Int),(1:Int),([]:List Int)⟩:Ac)⟩:Aa)].getD (1:Int).toNat (default:Aa)).End.To⟩:Ac)⟩:Aa)).getD (1:Int).toNat (default:Aa)).Ops,(⟨(([(⟨([]:List Ab),([]:List Aj),(⟨(2:Int),(1:Int),l8⟩:Ac)⟩:Aa),(⟨([]:List Ab),x6,(⟨(1:Int),(0:Int),([(2:Int)]:List Int)⟩:Ac)⟩:Aa),(⟨([]:List Ab),([]:List Aj),(⟨(0:Int),(1:Int),([]:List Int)⟩:Ac)⟩:Aa)].set (1:Int).toNat (⟨([(⟨(1:Int),(100:Int),([(0:Int)]:List Int),([(1:Int)]:List Int)⟩:Ab)]:List Ab),([(⟨([]:List Ab),([]:List Aj),(⟨(2:Int),(1:Int),l8⟩:Ac)⟩:Aa),(⟨([]:List Ab),x6,(⟨(1:Int),(0:Int),([(2:Int)]:List Int)⟩:Ac)⟩:Aa),(⟨([]:List Ab),([]:List Aj),(⟨(0:Int),(1:Int),([]:List Int)⟩:Ac)⟩:Aa)].getD (1:Int).toNat (default:Aa)).Ops,(⟨([(⟨([]:List Ab),([]:List Aj),(⟨(2:Int),(1:Int),l8⟩:Ac)⟩:Aa),(⟨([]:List Ab),x6,(⟨(1:Int),(0:Int),([(2:Int)]:List Int)⟩:Ac)⟩:Aa),(⟨([]:List Ab),([]:List Aj),(⟨(0:Int),(1:Int),([]:List Int)⟩:Ac)⟩:Aa)].getD (1:Int).toNat (default:Aa)).End.Kind,([(⟨([]:List Ab),([]:List Aj),(⟨(2:Int),(1:Int),l8⟩:Ac)⟩:Aa),(⟨([]:List Ab),x6,(⟨(1:Int),(0:Int),([(2:Int)]:List Int)⟩:Ac)⟩:Aa),(⟨([]:List Ab),([]:List Aj),(⟨(0:Int),(1:Int),([]:List Int)⟩:Ac)⟩:Aa)].getD (1:Int).toNat (default:Aa)).End.Arg,([(⟨([]:List Ab),([]:List Aj),(⟨(2:Int),(1:Int),l8⟩:Ac)⟩:Aa),(⟨([]:List Ab),x6,(⟨(1:Int),(0:Int),([(2:Int)]:List Int)⟩:Ac)⟩:Aa),(⟨([]:List Ab),([]:List Aj),(⟨(0:Int),(1:Int),([]:List Int)⟩:Ac)⟩:Aa)].getD (1:Int).toNat (default:Aa)).End.To⟩:Ac)⟩:Aa)).getD (1:Int).toNat (default:Aa)).End.Kind,(([(⟨([]:List Ab),([]:List Aj),(⟨(2:Int),(1:Int),l8⟩:Ac)⟩:Aa),(⟨([]:List Ab),x6,(⟨(1:Int),(0:Int),([(2:Int)]:List Int)⟩:Ac)⟩:Aa),(⟨([]:List Ab),([]:List Aj),(⟨(0:Int),(1:Int),([]:List Int)⟩:Ac)⟩:Aa)].set (1:Int).toNat (⟨([(⟨(1:Int),(100:Int),([(0:Int)]:List Int),([(1:Int)]:List Int)⟩:Ab)]:List Ab),([(⟨([]:List Ab),([]:List Aj),(⟨(2:Int),(1:Int),l8⟩:Ac)⟩:Aa),(⟨([]:List Ab),x6,(⟨(1:Int),(0:Int),([(2:Int)]:List Int)⟩:Ac)⟩:Aa),(⟨([]:List Ab),([]:List Aj),(⟨(0:Int),(1:Int),([]:List Int)⟩:Ac)⟩:Aa)].getD (1:Int).toNat (default:Aa)).Ops,(⟨([(⟨([]:List Ab),([]:List Aj),(⟨(2:Int),(1:Int),l8⟩:Ac)⟩:Aa),(⟨([]:List Ab),x6,(⟨(1:Int),(0:Int),([(2:Int)]:List Int)⟩:Ac)⟩:Aa),(⟨([]:List Ab),([]:List Aj),(⟨(0:Int),(1:Int),([]:List Int)⟩:Ac)⟩:Aa)].getD (1:Int).toNat (default:Aa)).End.Kind,([(⟨([]:List Ab),([]:List Aj),(⟨(2:Int),(1:Int),l8⟩:Ac)⟩:Aa),(⟨([]:List Ab),x6,(⟨(1:Int),(0:Int),([(2:Int)]:List Int)⟩:Ac)⟩:Aa),(⟨([]:List Ab),([]:List Aj),(⟨(0:Int),(1:Int),([]:List Int)⟩:Ac)⟩:Aa)].getD (1:Int).toNat (default:Aa)).End.Arg,([(⟨([]:List Ab),([]:List Aj),(⟨(2:Int),(1:Int),l8⟩:Ac)⟩:Aa),(⟨([]:List Ab),x6,(⟨(1:Int),(0:Int),([(2:Int)]:List Int)⟩:Ac)⟩:Aa),(⟨([]:List Ab),([]:List Aj),(⟨(0:Int),(1:Int),([]:List Int)⟩:Ac)⟩:Aa)].getD (1:Int).toNat (default:Aa)).End.To⟩:Ac)⟩:Aa)).getD (1:Int).toNat (default:Aa)).End.Arg,(([(⟨([]:List Ab),([]:List Aj),(⟨(2:Int),(1:Int),l8⟩:Ac)⟩:Aa),(⟨([]:List Ab),x6,(⟨(1:Int),(0:Int),([(2:Int)]:List Int)⟩:Ac)⟩:Aa),(⟨([]:List Ab),([]:List Aj),(⟨(0:Int),(1:Int),([]:List Int)⟩:Ac)⟩:Aa)].set (1:Int).toNat (⟨([(⟨(1:Int),(100:Int),([(0:Int)]:List Int),([(1:Int)]:List Int)⟩:Ab)]:List Ab),([(⟨([]:List Ab),([]:List Aj),(⟨(2:Int),(1:Int),l8⟩:Ac)⟩:Aa),(⟨([]:List Ab),x6,(⟨(1:Int),(0:Int),([(2:Int)]:List Int)⟩:Ac)⟩:Aa),(⟨([]:List Ab),([]:List Aj),(⟨(0:Int),(1:Int),([]:List Int)⟩:Ac)⟩:Aa)].getD (1:Int).toNat (default:Aa)).Ops,(⟨([(⟨([]:List Ab),([]:List Aj),(⟨(2:Int),(1:Int),l8⟩:Ac)⟩:Aa),(⟨([]:List Ab),x6,(⟨(1:Int),(0:Int),([(2:Int)]:List Int)⟩:Ac)⟩:Aa),(⟨([]:List Ab),([]:List Aj),(⟨(0:Int),(1:Int),([]:List Int)⟩:Ac)⟩:Aa)].getD (1:Int).toNat (default:Aa)).End.Kind,([(⟨([]:List Ab),([]:List Aj),(⟨(2:Int),(1:Int),l8⟩:Ac)⟩:Aa),(⟨([]:List Ab),x6,(⟨(1:Int),(0:Int),([(2:Int)]:List Int)⟩:Ac)⟩:Aa),(⟨([]:List Ab),([]:List Aj),(⟨(0:Int),(1:Int),([]:List Int)⟩:Ac)⟩:Aa)].getD (1:Int).toNat (default:Aa)).End.Arg,([(⟨([]:List Ab),([]:List Aj),(⟨(2:Int),(1:Int),l8⟩:Ac)⟩:Aa),(⟨([]:List Ab),x6,(⟨(1:Int),(0:Int),([(2:Int)]:List Int)⟩:Ac)⟩:Aa),(⟨([]:List Ab),([]:List Aj),(⟨(0:Int),(1:Int),([]:List Int)⟩:Ac)⟩:Aa)].getD (1:Int).toNat (default:Aa)).End.To⟩:Ac)⟩:Aa)).getD (1:Int).toNat (default:Aa)).End.To⟩:Ac)⟩:Aa)).set (2:Int).toNat (⟨((([(⟨([]:List Ab),([]:List Aj),(⟨(2:Int),(1:Int),l8⟩:Ac)⟩:Aa),(⟨([]:List Ab),x6,(⟨(1:Int),(0:Int),([(2:Int)]:List Int)⟩:Ac)⟩:Aa),(⟨([]:List Ab),([]:List Aj),(⟨(0:Int),(1:Int),([]:List Int)⟩:Ac)⟩:Aa)].set (1:Int).toNat (⟨([(⟨(1:Int),(100:Int),([(0:Int)]:List Int),([(1:Int)]:List Int)⟩:Ab)]:List Ab),([(⟨([]:List Ab),([]:List Aj),(⟨(2:Int),(1:Int),l8⟩:Ac)⟩:Aa),(⟨([]:List Ab),x6,(⟨(1:Int),(0:Int),([(2:Int)]:List Int)⟩:Ac)⟩:Aa),(⟨([]:List Ab),([]:List Aj),(⟨(0:Int),(1:Int),([]:List Int)⟩:Ac)⟩:Aa)].getD (1:Int).toNat (default:Aa)).Ops,(⟨([(⟨([]:List Ab),([]:List Aj),(⟨(2:Int),(1:Int),l8⟩:Ac)⟩:Aa),(⟨([]:List Ab),x6,(⟨(1:Int),(0:Int),([(2:Int)]:List Int)⟩:Ac)⟩:Aa),(⟨([]:List Ab),([]:List Aj),(⟨(0:Int),(1:Int),([]:List Int)⟩:Ac)⟩:Aa)].getD (1:Int).toNat (default:Aa)).End.Kind,([(⟨([]:List Ab),([]:List Aj),(⟨(2:Int),(1:Int),l8⟩:Ac)⟩:Aa),(⟨([]:List Ab),x6,(⟨(1:Int),(0:Int),([(2:Int)]:List Int)⟩:Ac)⟩:Aa),(⟨([]:List Ab),([]:List Aj),(⟨(0:Int),(1:Int),([]:List Int)⟩:Ac)⟩:Aa)].getD (1:Int).toNat (default:Aa)).End.Arg,([(⟨([]:List Ab),([]:List Aj),(⟨(2:Int),(1:Int),l8⟩:Ac)⟩:Aa),(⟨([]:List Ab),x6,(⟨(1:Int),(0:Int),([(2:Int)]:List Int)⟩:Ac)⟩:Aa),(⟨([]:List Ab),([]:List Aj),(⟨(0:Int),(1:Int),([]:List Int)⟩:Ac)⟩:Aa)].getD (1:Int).toNat (default:Aa)).End.To⟩:Ac)⟩:Aa)).set (1:Int).toNat (⟨([]:List Ab),(([(⟨([]:List Ab),([]:List Aj),(⟨(2:Int),(1:Int),l8⟩:Ac)⟩:Aa),(⟨([]:List Ab),x6,(⟨(1:Int),(0:Int),([(2:Int)]:List Int)⟩:Ac)⟩:Aa),(⟨([]:List Ab),([]:List Aj),(⟨(0:Int),(1:Int),([]:List Int)⟩:Ac)⟩:Aa)].set (1:Int).toNat (⟨([(⟨(1:Int),(100:Int),([(0:Int)]:List Int),([(1:Int)]:List Int)⟩:Ab)]:List Ab),([(⟨([]:List Ab),([]:List Aj),(⟨(2:Int),(1:Int),l8⟩:Ac)⟩:Aa),(⟨([]:List Ab),x6,(⟨(1:Int),(0:Int),([(2:Int)]:List Int)⟩:Ac)⟩:Aa),(⟨([]:List Ab),([]:List Aj),(⟨(0:Int),(1:Int),([]:List Int)⟩:Ac)⟩:Aa)].getD (1:Int).toNat (default:Aa)).Ops,(⟨([(⟨([]:List Ab),([]:List Aj),(⟨(2:Int),(1:Int),l8⟩:Ac)⟩:Aa),(⟨([]:List Ab),x6,(⟨(1:Int),(0:Int),([(2:Int)]:List Int)⟩:Ac)⟩:Aa),(⟨([]:List Ab),([]:List Aj),(⟨(0:Int),(1:Int),([]:List Int)⟩:Ac)⟩:Aa)].getD (1:Int).toNat (default:Aa)).End.Kind,([(⟨([]:List Ab),([]:List Aj),(⟨(2:Int),(1:Int),l8⟩:Ac)⟩:Aa),(⟨([]:List Ab),x6,(⟨(1:Int),(0:Int),([(2:Int)]:List Int)⟩:Ac)⟩:Aa),(⟨([]:List Ab),([]:List Aj),(⟨(0:Int),(1:Int),([]:List Int)⟩:Ac)⟩:Aa)].getD (1:Int).toNat (default:Aa)).End.Arg,([(⟨([]:List Ab),([]:List Aj),(⟨(2:Int),(1:Int),l8⟩:Ac)⟩:Aa),(⟨([]:List Ab),x6,(⟨(1:Int),(0:Int),([(2:Int)]:List Int)⟩:Ac)⟩:Aa),(⟨([]:List Ab),([]:List Aj),(⟨(0:Int),(1:Int),([]:List Int)⟩:Ac)⟩:Aa)].getD (1:Int).toNat (default:Aa)).End.To⟩:Ac)⟩:Aa)).getD (1:Int).toNat (default:Aa)).Ops,(⟨(([(⟨([]:List Ab),([]:List Aj),(⟨(2:Int),(1:Int),l8⟩:Ac)⟩:Aa),(⟨([]:List Ab),x6,(⟨(1:Int),(0:Int),([(2:Int)]:List Int)⟩:Ac)⟩:Aa),(⟨([]:List Ab),([]:List Aj),(⟨(0:Int),(1:Int),([]:List Int)⟩:Ac)⟩:Aa)].set (1:Int).toNat (⟨([(⟨(1:Int),(100:Int),([(0:Int)]:List Int),([(1:Int)]:List Int)⟩:Ab)]:List Ab),([(⟨([]:List Ab),([]:List Aj),(⟨(2:Int),(1:Int),l8⟩:Ac)⟩:Aa),(⟨([]:List Ab),x6,(⟨(1:Int),(0:Int),([(2:Int)]:List Int)⟩:Ac)⟩:Aa),(⟨([]:List Ab),([]:List Aj),(⟨(0:Int),(1:Int),([]:List Int)⟩:Ac)⟩:Aa)].getD (1:Int).toNat (default:Aa)).Ops,(⟨([(⟨([]:List Ab),([]:List Aj),(⟨(2:Int),(1:Int),l8⟩:Ac)⟩:Aa),(⟨([]:List Ab),x6,(⟨(1:Int),(0:Int),([(2:Int)]:List Int)⟩:Ac)⟩:Aa),(⟨([]:List Ab),([]:List Aj),(⟨(0:Int),(1:Int),([]:List Int)⟩:Ac)⟩:Aa)].getD (1:Int).toNat (default:Aa)).End.Kind,([(⟨([]:List Ab),([]:List Aj),(⟨(2:Int),(1:Int),l8⟩:Ac)⟩:Aa),(⟨([]:List Ab),x6,(⟨(1:Int),(0:Int),([(2:Int)]:List Int)⟩:Ac)⟩:Aa),(⟨([]:List Ab),([]:List Aj),(⟨(0:Int),(1:Int),([]:List Int)⟩:Ac)⟩:Aa)].getD (1:Int).toNat (default:Aa)).End.Arg,([(⟨([]:List Ab),([]:List Aj),(⟨(2:Int),(1:Int),l8⟩:Ac)⟩:Aa),(⟨([]:List Ab),x6,(⟨(1:Int),(0:Int),([(2:Int)]:List Int)⟩:Ac)⟩:Aa),(⟨([]:List Ab),([]:List Aj),(⟨(0:Int),(1:Int),([]:List Int)⟩:Ac)⟩:Aa)].getD (1:Int).toNat (default:Aa)).End.To⟩:Ac)⟩:Aa)).getD (1:Int).toNat (default:Aa)).End.Kind,(([(⟨([]:List Ab),([]:List Aj),(⟨(2:Int),(1:Int),l8⟩:Ac)⟩:Aa),(⟨([]:List Ab),x6,(⟨(1:Int),(0:Int),([(2:Int)]:List Int)⟩:Ac)⟩:Aa),(⟨([]:List Ab),([]:List Aj),(⟨(0:Int),(1:Int),([]:List Int)⟩:Ac)⟩:Aa)].set (1:Int).toNat (⟨([(⟨(1:Int),(100:Int),([(0:Int)]:List Int),([(1:Int)]:List Int)⟩:Ab)]:List Ab),([(⟨([]:List Ab),([]:List Aj),(⟨(2:Int),(1:Int),l8⟩:Ac)⟩:Aa),(⟨([]:List Ab),x6,(⟨(1:Int),(0:Int),([(2:Int)]:List Int)⟩:Ac)⟩:Aa),(⟨([]:List Ab),([]:List Aj),(⟨(0:Int),(1:Int),([]:List Int)⟩:Ac)⟩:Aa)].getD (1:Int).toNat (default:Aa)).Ops,(⟨([(⟨([]:List Ab),([]:List Aj),(⟨(2:Int),(1:Int),l8⟩:Ac)⟩:Aa),(⟨([]:List Ab),x6,(⟨(1:Int),(0:Int),([(2:Int)]:List Int)⟩:Ac)⟩:Aa),(⟨([]:List Ab),([]:List Aj),(⟨(0:Int),(1:Int),([]:List Int)⟩:Ac)⟩:Aa)].getD (1:Int).toNat (default:Aa)).End.Kind,([(⟨([]:List Ab),([]:List Aj),(⟨(2:Int),(1:Int),l8⟩:Ac)⟩:Aa),(⟨([]:List Ab),x6,(⟨(1:Int),(0:Int),([(2:Int)]:List Int)⟩:Ac)⟩:Aa),(⟨([]:List Ab),([]:List Aj),(⟨(0:Int),(1:Int),([]:List Int)⟩:Ac)⟩:Aa)].getD (1:Int).toNat (default:Aa)).End.Arg,([(⟨([]:List Ab),([]:List Aj),(⟨(2:Int),(1:Int),l8⟩:Ac)⟩:Aa),(⟨([]:List Ab),x6,(⟨(1:Int),(0:Int),([(2:Int)]:List Int)⟩:Ac)⟩:Aa),(⟨([]:List Ab),([]:List Aj),(⟨(0:Int),(1:Int),([]:List Int)⟩:Ac)⟩:Aa)].getD (1:Int).toNat (default:Aa)).End.To⟩:Ac)⟩:Aa)).getD (1:Int).toNat (default:Aa)).End.Arg,(([(⟨([]:List Ab),([]:List Aj),(⟨(2:Int),(1:Int),l8⟩:Ac)⟩:Aa),(⟨([]:List Ab),x6,(⟨(1:Int),(0:Int),([(2:Int)]:List Int)⟩:Ac)⟩:Aa),(⟨([]:List Ab),([]:List Aj),(⟨(0:Int),(1:Int),([]:List Int)⟩:Ac)⟩:Aa)].set (1:Int).toNat (⟨([(⟨(1:Int),(100:Int),([(0:Int)]:List Int),([(1:Int)]:List Int)⟩:Ab)]:List Ab),([(⟨([]:List Ab),([]:List Aj),(⟨(2:Int),(1:Int),l8⟩:Ac)⟩:Aa),(⟨([]:List Ab),x6,(⟨(1:Int),(0:Int),([(2:Int)]:List Int)⟩:Ac)⟩:Aa),(⟨([]:List Ab),([]:List Aj),(⟨(0:Int),(1:Int),([]:List Int)⟩:Ac)⟩:Aa)].getD (1:Int).toNat (default:Aa)).Ops,(⟨([(⟨([]:List Ab),([]:List Aj),(⟨(2:Int),(1:Int),l8⟩:Ac)⟩:Aa),(⟨([]:List Ab),x6,(⟨(1:Int),(0:Int),([(2:Int)]:List Int)⟩:Ac)⟩:Aa),(⟨([]:List Ab),([]:List Aj),(⟨(0:Int),(1:Int),([]:List Int)⟩:Ac)⟩:Aa)].getD (1:Int).toNat (default:Aa)).End.Kind,([(⟨([]:List Ab),([]:List Aj),(⟨(2:Int),(1:Int),l8⟩:Ac)⟩:Aa),(⟨([]:List Ab),x6,(⟨(1:Int),(0:Int),([(2:Int)]:List Int)⟩:Ac)⟩:Aa),(⟨([]:List Ab),([]:List Aj),(⟨(0:Int),(1:Int),([]:List Int)⟩:Ac)⟩:Aa)].getD (1:Int).toNat (default:Aa)).End.Arg,([(⟨([]:List Ab),([]:List Aj),(⟨(2:Int),(1:Int),l8⟩:Ac)⟩:Aa),(⟨([]:List Ab),x6,(⟨(1:Int),(0:Int),([(2:Int)]:List Int)⟩:Ac)⟩:Aa),(⟨([]:List Ab),([]:List Aj),(⟨(0:Int),(1:Int),([]:List Int)⟩:Ac)⟩:Aa)].getD (1:Int).toNat (default:Aa)).End.To⟩:Ac)⟩:Aa)).getD (1:Int).toNat (default:Aa)).End.To⟩:Ac)⟩:Aa)).getD (2:Int).toNat (default:Aa)).Phis,((([(⟨([]:List Ab),([]:List Aj),(⟨(2:Int),(1:Int),l8⟩:Ac)⟩:Aa),(⟨([]:List Ab),x6,(⟨(1:Int),(0:Int),([(2:Int)]:List Int)⟩:Ac)⟩:Aa),(⟨([]:List Ab),([]:List Aj),(⟨(0:Int),(1:Int),([]:List Int)⟩:Ac)⟩:Aa)].set (1:Int).toNat (⟨([(⟨(1:Int),(100:Int),([(0:Int)]:List Int),([(1:Int)]:List Int)⟩:Ab)]:List Ab),([(⟨([]:List Ab),([]:List Aj),(⟨(2:Int),(1:Int),l8⟩:Ac)⟩:Aa),(⟨([]:List Ab),x6,(⟨(1:Int),(0:Int),([(2:Int)]:List Int)⟩:Ac)⟩:Aa),(⟨([]:List Ab),([]:List Aj),(⟨(0:Int),(1:Int),([]:List Int)⟩:Ac)⟩:Aa)].getD (1:Int).toNat (default:Aa)).Ops,(⟨([(⟨([]:List Ab),([]:List Aj),(⟨(2:Int),(1:Int),l8⟩:Ac)⟩:Aa),(⟨([]:List Ab),x6,(⟨(1:Int),(0:Int),([(2:Int)]:List Int)⟩:Ac)⟩:Aa),(⟨([]:List Ab),([]:List Aj),(⟨(0:Int),(1:Int),([]:List Int)⟩:Ac)⟩:Aa)].getD (1:Int).toNat (default:Aa)).End.Kind,([(⟨([]:List Ab),([]:List Aj),(⟨(2:Int),(1:Int),l8⟩:Ac)⟩:Aa),(⟨([]:List Ab),x6,(⟨(1:Int),(0:Int),([(2:Int)]:List Int)⟩:Ac)⟩:Aa),(⟨([]:List Ab),([]:List Aj),(⟨(0:Int),(1:Int),([]:List Int)⟩:Ac)⟩:Aa)].getD (1:Int).toNat (default:Aa)).End.Arg,([(⟨([]:List Ab),([]:List Aj),(⟨(2:Int),(1:Int),l8⟩:Ac)⟩:Aa),(⟨([]:List Ab),x6,(⟨(1:Int),(0:Int),([(2:Int)]:List Int)⟩:Ac)⟩:Aa),(⟨([]:List Ab),([]:List Aj),(⟨(0:Int),(1:Int),([]:List Int)⟩:Ac)⟩:Aa)].getD (1:Int).toNat (default:Aa)).End.To⟩:Ac)⟩:Aa)).set (1:Int).toNat (⟨([]:List Ab),(([(⟨([]:List Ab),([]:List Aj),(⟨(2:Int),(1:Int),l8⟩:Ac)⟩:Aa),(⟨([]:List Ab),x6,(⟨(1:Int),(0:Int),([(2:Int)]:List Int)⟩:Ac)⟩:Aa),(⟨([]:List Ab),([]:List Aj),(⟨(0:Int),(1:Int),([]:List Int)⟩:Ac)⟩:Aa)].set (1:Int).toNat (⟨([(⟨(1:Int),(100:Int),([(0:Int)]:List Int),([(1:Int)]:List Int)⟩:Ab)]:List Ab),([(⟨([]:List Ab),([]:List Aj),(⟨(2:Int),(1:Int),l8⟩:Ac)⟩:Aa),(⟨([]:List Ab),x6,(⟨(1:Int),(0:Int),([(2:Int)]:List Int)⟩:Ac)⟩:Aa),(⟨([]:List Ab),([]:List Aj),(⟨(0:Int),(1:Int),([]:List Int)⟩:Ac)⟩:Aa)].getD (1:Int).toNat (default:Aa)).Ops,(⟨([(⟨([]:List Ab),([]:List Aj),(⟨(2:Int),(1:Int),l8⟩:Ac)⟩:Aa),(⟨([]:List Ab),x6,(⟨(1:Int),(0:Int),([(2:Int)]:List Int)⟩:Ac)⟩:Aa),(⟨([]:List Ab),([]:List Aj),(⟨(0:Int),(1:Int),([]:List Int)⟩:Ac)⟩:Aa)].getD (1:Int).toNat (default:Aa)).End.Kind,([(⟨([]:List Ab),([]:List Aj),(⟨(2:Int),(1:Int),l8⟩:Ac)⟩:Aa),(⟨([]:List Ab),x6,(⟨(1:Int),(0:Int),([(2:Int)]:List Int)⟩:Ac)⟩:Aa),(⟨([]:List Ab),([]:List Aj),(⟨(0:Int),(1:Int),([]:List Int)⟩:Ac)⟩:Aa)].getD (1:Int).toNat (default:Aa)).End.Arg,([(⟨([]:List Ab),([]:List Aj),(⟨(2:Int),(1:Int),l8⟩:Ac)⟩:Aa),(⟨([]:List Ab),x6,(⟨(1:Int),(0:Int),([(2:Int)]:List Int)⟩:Ac)⟩:Aa),(⟨([]:List Ab),([]:List Aj),(⟨(0:Int),(1:Int),([]:List Int)⟩:Ac)⟩:Aa)].getD (1:Int).toNat (default:Aa)).End.To⟩:Ac)⟩:Aa)).getD (1:Int).toNat (default:Aa)).Ops,(⟨(([(⟨([]:List Ab),([]:List Aj),(⟨(2:Int),(1:Int),l8⟩:Ac)⟩:Aa),(⟨([]:List Ab),x6,(⟨(1:Int),(0:Int),([(2:Int)]:List Int)⟩:Ac)⟩:Aa),(⟨([]:List Ab),([]:List Aj),(⟨(0:Int),(1:Int),([]:List Int)⟩:Ac)⟩:Aa)].set (1:Int).toNat (⟨([(⟨(1:Int),(100:Int),([(0:Int)]:List Int),([(1:Int)]:List Int)⟩:Ab)]:List Ab),([(⟨([]:List Ab),([]:List Aj),(⟨(2:Int),(1:Int),l8⟩:Ac)⟩:Aa),(⟨([]:List Ab),x6,(⟨(1:Int),(0:Int),([(2:Int)]:List Int)⟩:Ac)⟩:Aa),(⟨([]:List Ab),([]:List Aj),(⟨(0:Int),(1:Int),([]:List Int)⟩:Ac)⟩:Aa)].getD (1:Int).toNat (default:Aa)).Ops,(⟨([(⟨([]:List Ab),([]:List Aj),(⟨(2:Int),(1:Int),l8⟩:Ac)⟩:Aa),(⟨([]:List Ab),x6,(⟨(1:Int),(0:Int),([(2:Int)]:List Int)⟩:Ac)⟩:Aa),(⟨([]:List Ab),([]:List Aj),(⟨(0:Int),(1:Int),([]:List Int)⟩:Ac)⟩:Aa)].getD (1:Int).toNat (default:Aa)).End.Kind,([(⟨([]:List Ab),([]:List Aj),(⟨(2:Int),(1:Int),l8⟩:Ac)⟩:Aa),(⟨([]:List Ab),x6,(⟨(1:Int),(0:Int),([(2:Int)]:List Int)⟩:Ac)⟩:Aa),(⟨([]:List Ab),([]:List Aj),(⟨(0:Int),(1:Int),([]:List Int)⟩:Ac)⟩:Aa)].getD (1:Int).toNat (default:Aa)).End.Arg,([(⟨([]:List Ab),([]:List Aj),(⟨(2:Int),(1:Int),l8⟩:Ac)⟩:Aa),(⟨([]:List Ab),x6,(⟨(1:Int),(0:Int),([(2:Int)]:List Int)⟩:Ac)⟩:Aa),(⟨([]:List Ab),([]:List Aj),(⟨(0:Int),(1:Int),([]:List Int)⟩:Ac)⟩:Aa)].getD (1:Int).toNat (default:Aa)).End.To⟩:Ac)⟩:Aa)).getD (1:Int).toNat (default:Aa)).End.Kind,(([(⟨([]:List Ab),([]:List Aj),(⟨(2:Int),(1:Int),l8⟩:Ac)⟩:Aa),(⟨([]:List Ab),x6,(⟨(1:Int),(0:Int),([(2:Int)]:List Int)⟩:Ac)⟩:Aa),(⟨([]:List Ab),([]:List Aj),(⟨(0:Int),(1:Int),([]:List Int)⟩:Ac)⟩:Aa)].set (1:Int).toNat (⟨([(⟨(1:Int),(100:Int),([(0:Int)]:List Int),([(1:Int)]:List Int)⟩:Ab)]:List Ab),([(⟨([]:List Ab),([]:List Aj),(⟨(2:Int),(1:Int),l8⟩:Ac)⟩:Aa),(⟨([]:List Ab),x6,(⟨(1:Int),(0:Int),([(2:Int)]:List Int)⟩:Ac)⟩:Aa),(⟨([]:List Ab),([]:List Aj),(⟨(0:Int),(1:Int),([]:List Int)⟩:Ac)⟩:Aa)].getD (1:Int).toNat (default:Aa)).Ops,(⟨([(⟨([]:List Ab),([]:List Aj),(⟨(2:Int),(1:Int),l8⟩:Ac)⟩:Aa),(⟨([]:List Ab),x6,(⟨(1:Int),(0:Int),([(2:Int)]:List Int)⟩:Ac)⟩:Aa),(⟨([]:List Ab),([]:List Aj),(⟨(0:Int),(1:Int),([]:List Int)⟩:Ac)⟩:Aa)].getD (1:Int).toNat (default:Aa)).End.Kind,([(⟨([]:List Ab),([]:List Aj),(⟨(2:Int),(1:Int),l8⟩:Ac)⟩:Aa),(⟨([]:List Ab),x6,(⟨(1:Int),(0:Int),([(2:Int)]:List Int)⟩:Ac)⟩:Aa),(⟨([]:List Ab),([]:List Aj),(⟨(0:Int),(1:Int),([]:List Int)⟩:Ac)⟩:Aa)].getD (1:Int).toNat (default:Aa)).End.Arg,([(⟨([]:List Ab),([]:List Aj),(⟨(2:Int),(1:Int),l8⟩:Ac)⟩:Aa),(⟨([]:List Ab),x6,(⟨(1:Int),(0:Int),([(2:Int)]:List Int)⟩:Ac)⟩:Aa),(⟨([]:List Ab),([]:List Aj),(⟨(0:Int),(1:Int),([]:List Int)⟩:Ac)⟩:Aa)].getD (1:Int).toNat (default:Aa)).End.To⟩:Ac)⟩:Aa)).getD (1:Int).toNat (default:Aa)).End.Arg,(([(⟨([]:List Ab),([]:List Aj),(⟨(2:Int),(1:Int),l8⟩:Ac)⟩:Aa),(⟨([]:List Ab),x6,(⟨(1:Int),(0:Int),([(2:Int)]:List Int)⟩:Ac)⟩:Aa),(⟨([]:List Ab),([]:List Aj),(⟨(0:Int),(1:Int),([]:List Int)⟩:Ac)⟩:Aa)].set (1:Int).toNat (⟨([(⟨(1:Int),(100:Int),([(0:Int)]:List Int),([(1:Int)]:List Int)⟩:Ab)]:List Ab),([(⟨([]:List Ab),([]:List Aj),(⟨(2:Int),(1:Int),l8⟩:Ac)⟩:Aa),(⟨([]:List Ab),x6,(⟨(1:Int),(0:Int),([(2:Int)]:List Int)⟩:Ac)⟩:Aa),(⟨([]:List Ab),([]:List Aj),(⟨(0:Int),(1:Int),([]:List Int)⟩:Ac)⟩:Aa)].getD (1:Int).toNat (default:Aa)).Ops,(⟨([(⟨([]:List Ab),([]:List Aj),(⟨(2:Int),(1:Int),l8⟩:Ac)⟩:Aa),(⟨([]:List Ab),x6,(⟨(1:Int),(0:Int),([(2:Int)]:List Int)⟩:Ac)⟩:Aa),(⟨([]:List Ab),([]:List Aj),(⟨(0:Int),(1:Int),([]:List Int)⟩:Ac)⟩:Aa)].getD (1:Int).toNat (default:Aa)).End.Kind,([(⟨([]:List Ab),([]:List Aj),(⟨(2:Int),(1:Int),l8⟩:Ac)⟩:Aa),(⟨([]:List Ab),x6,(⟨(1:Int),(0:Int),([(2:Int)]:List Int)⟩:Ac)⟩:Aa),(⟨([]:List Ab),([]:List Aj),(⟨(0:Int),(1:Int),([]:List Int)⟩:Ac)⟩:Aa)].getD (1:Int).toNat (default:Aa)).End.Arg,([(⟨([]:List Ab),([]:List Aj),(⟨(2:Int),(1:Int),l8⟩:Ac)⟩:Aa),(⟨([]:List Ab),x6,(⟨(1:Int),(0:Int),([(2:Int)]:List Int)⟩:Ac)⟩:Aa),(⟨([]:List Ab),([]:List Aj),(⟨(0:Int),(1:Int),([]:List Int)⟩:Ac)⟩:Aa)].getD (1:Int).toNat (default:Aa)).End.To⟩:Ac)⟩:Aa)).getD (1:Int).toNat (default:Aa)).End.To⟩:Ac)⟩:Aa)).getD (2:Int).toNat (default:Aa)).Ops,(⟨(2:Int),(1:Int),([(1:Int),(3:Int)]:List Int)⟩:Ac)⟩:Aa))++([(⟨([]:List Ab),([]:List Aj),(⟨(3:Int),(0:Int),([]:List Int)⟩:Ac)⟩:Aa)]:List Aa))⟩:Ae) (0:Int)).bind fun x21=>(some (bif (!x17.2) then(!x21.2) else false))))))))))))))))))
theorem ok_locksteplaw14_HammockThree(aaE:Bool)(a2:Int)(r:Bool)(h:A0 aaE a2=some r):Spec Tryz.prog 7 [(.bool aaE),(.int .u8 a2)] [] (.bool r) []:=by
 refine Af mix Tryz.func7 (fun Γ hq=>?_);unfold A0 at h;refine Am hq Ed [] ?_;obtain⟨x1,hx1,h⟩:=bind_some h;refine gR hq [0,1,18] [] [] [(Z2 x1)] (c1 (Mm  x1 hx1)) ?_;refine gC h ?_ ?_<;>intro h
 ·refine Am hq [4] [] ?_;obtain rfl:=OI h;exact B6 []
 ·refine gR hq [0,5] [] [] [] (c1 (show((9:Int)≠0) from(by decide))) ?_;refine gR hq V2 [] [(6,Tt)] [] (c1 (C1 6 Eh (default:Aj))) ?_;refine Am hq Ym [] ?_;refine I6 (st':=(Q354 aaE a2)) (Le.trans (Cn (st':=⟨[(0,(.bool aaE)),(5,(Q350 a2)),(6,Tt),(7,Hy)],[],[]⟩) Ym [] hq) (Le.trans (Qg (t:=6) (nm:=5006) (sz':=6) (fun i=>Eh (([]:List Aj).getD i default)) 57 rfl rfl (.inl ⟨rfl,rfl⟩) (fun h_=>absurd h_ (by decide))) (Cn (st':=(Q354 aaE a2)) Ym [5006] hq))) ?_;obtain⟨x6,hx6,h⟩:=bind_some h;refine gL hq hx6 Ym [5006] (fun u (l2,i3)=>(Df u [(6,(Z34 l2 5006)),(7,(Z7 i3))] [(5006,.tok 6 57 l2.length)])) (fun u l4=>aG Γ (.exit 0) (Ud V2 [5006] u [(6,(Z34 l4 5006))] [(5006,.tok 6 57 l4.length)])) ?_ ?_
  ·rintro⟨l2,i3⟩ y h;unfold Bg at h;refine Am hq [0,5,6,7,24] [5006] ?_;refine gC h ?_ ?_<;>intro h
   ·obtain⟨hc5,h⟩:=Ad h;refine gR hq Ym [5006] [(32,(Z37 Hy Gg i3 Qr)),(33,(AV.list 6 Eh default (Q339 i3) .exact)),(34,(AV.list 6 Eh default (l2++(Q339 i3)) (.own 5006)))] [] (ci (show(AVle (Z37 Hy Gg i3 Ug) (Z37 Hy Gg i3 Qr)) from(AVle.agg (.cons (AVle.refl _) (.cons (AVle.refl _) (.cons (AVle.refl _) (.cons (AVle.refl _) (.cons Cl (.cons (AVle.refl _) .nil)))))))) (ci (A6 6 Eh (default:Aj) (Q339 i3)) (ci (Eq.refl l2.length) (ci hc5 (ci (Lu 6 5006 Eh (default:Aj) l2 (Q339 i3)) (c1 (Dp l2 (Q339 i3)))))))) ?_;refine Am hq Ym [5006] ?_;cases h;exact gN De
   ·cases h;exact gO (Ck (Cn V2 [5006] hq))
  ·clear hx6;refine gA ?_;refine gR hq [0,5,6,8] [5006] [(35,(AV.list 1 Aq 0 ([(1:Int),(2:Int)]:List Int) .exact))] [] (c1 (A6 1 Aq (0:Int) ([(1:Int),(2:Int)]:List Int))) ?_;refine Am hq [0,5,6,8,9] V4 ?_;obtain⟨x11,hx11,h⟩:=bind_some h;refine gJ hx11 (fun(l8,i9,i10)=>aG Γ .normal (Q353 a2 x6 l8 i9 i10)) ?_ ?_
   ·clear h hx11;intro y h;refine Am hq [5,6,8,9,37] V4 ?_;refine gC h ?_ ?_<;>intro h
    ·refine gR hq Zo V4 [(38,(AV.list 1 Aq 0 ([(2:Int),(1:Int)]:List Int) .exact))] [] (c1 (A6 1 Aq (0:Int) ([(2:Int),(1:Int)]:List Int))) ?_;refine Am hq Zo V4 ?_;cases h;exact gK (Ck De)
    ·cases h;exact gK (Ck (Cn Zo V4 hq))
   ·clear hx11;rcases x11 with⟨l8,i9,i10⟩;refine gA ?_;refine Q0 (Q353 a2 x6 l8 i9 i10) ?_;refine I6 (show Le Γ _ (⟨[(5,(Q350 a2)),(6,(Q348 x6)),(8,(Q349 l8)),(9,(.ptr 9 0))],[(9,.row 27 [Hy,(Z7 i9),(Z7 i10),Z32])],[]⟩:St) from Cn Zo [9] hq) ?_;refine gR hq [5,9,10] [9,10,50] [(40,Q344),(43,(.agg [Qq,Tt,Z32,Gg,(Q349 l8)])),(45,Q346),(47,(.agg [Qq,(Q348 x6),Gg,Hy,Q346])),(48,(.agg [Hy,Gg,Qr])),(49,(.agg [Qq,Tt,Hy,Gg,Qr])),(50,(.vsl 50 3))] [] (ci (A6 1 Aq (0:Int) ([(1:Int)]:List Int)) (ci (show(AVle (.agg [Ug,Ug,Z32,Gg,(Q349 l8)]) (.agg [Qq,Tt,Z32,Gg,(Q349 l8)])) from(AVle.agg (.cons Cl (.cons Cl (.cons (AVle.refl _) (.cons (AVle.refl _) (.cons (AVle.refl _) .nil))))))) (ci (A6 1 Aq (0:Int) ([(2:Int)]:List Int)) (ci (show(AVle (.agg [Ug,(Q348 x6),Gg,Hy,Q346]) (.agg [Qq,(Q348 x6),Gg,Hy,Q346])) from(AVle.agg (.cons Cl (.cons (AVle.refl _) (.cons (AVle.refl _) (.cons (AVle.refl _) (.cons (AVle.refl _) .nil))))))) (ci (show(AVle (.agg [Hy,Gg,Ug]) (.agg [Hy,Gg,Qr])) from(AVle.agg (.cons (AVle.refl _) (.cons (AVle.refl _) (.cons Cl .nil))))) (c1 (show(AVle (.agg [Ug,Ug,Hy,Gg,Qr]) (.agg [Qq,Tt,Hy,Gg,Qr])) from(AVle.agg (.cons Cl (.cons Cl (.cons (AVle.refl _) (.cons (AVle.refl _) (.cons (AVle.refl _) .nil))))))))))))) ?_;refine I6 (Le.trans (O2 50 (show ∀ k_,k_<3->AVleL ((fun i_=>AV.eraseAll (fun n_=>Bx n_ [9,10,50]) ((fun i_=>([Qq,Tt,Z32,Gg,(Q349 l8),Qq,(Q348 x6),Gg,Hy,Q346,Qq,Tt,Hy,Gg,Qr].drop (i_*5)).take 5) i_)) k_) ((Q334 l8 x6) k_) from(Vh (n:=2) (Vh (n:=1) (Vh (n:=0) pwl_nil (show AVleL [Qq,Tt,Z32,Gg,(Q349 l8)] [(AV.list 4 Pi default ([]:List Ab) .none),(AV.list 6 Eh default ([]:List Aj) .none),Z32,Gg,(Z8 l8)] from(.cons AVle.untag (.cons AVle.untag (.cons (AVle.refl _) (.cons (AVle.refl _) (.cons AVle.untag .nil))))))) (show AVleL [Qq,(Q348 x6),Gg,Hy,Q346] [(AV.list 4 Pi default ([]:List Ab) .none),(Q348 x6),Gg,Hy,(AV.list 1 Aq 0 ([(2:Int)]:List Int) .none)] from(.cons AVle.untag (.cons (AVle.refl _) (.cons (AVle.refl _) (.cons (AVle.refl _) (.cons AVle.untag .nil))))))) (show AVleL [Qq,Tt,Hy,Gg,Qr] [(AV.list 4 Pi default ([]:List Ab) .none),(AV.list 6 Eh default ([]:List Aj) .none),Hy,Gg,(AV.list 1 Aq 0 ([]:List Int) .none)] from(.cons AVle.untag (.cons AVle.untag (.cons (AVle.refl _) (.cons (AVle.refl _) (.cons AVle.untag .nil))))))))) (O3 (fun(k_:Nat) u=>(Df u [] [(10,.row 25 [Q344,Gg,(.vsl 50 k_)]),(50,.arr 5 53 k_ (Q334 l8 x6))])) (show 3=[(⟨([]:List Ab),([]:List Aj),(⟨(2:Int),(1:Int),l8⟩:Ac)⟩:Aa),(⟨([]:List Ab),x6,(⟨(1:Int),(0:Int),([(2:Int)]:List Int)⟩:Ac)⟩:Aa),(⟨([]:List Ab),([]:List Aj),(⟨(0:Int),(1:Int),([]:List Int)⟩:Ac)⟩:Aa)].length from rfl))) ?_;obtain⟨x13,hx13,h⟩:=bind_some h;refine gR hq [5,9,10,11,12] [9,10,11,50] [] [⟨[],[],(.tuple (Z19 x13.1 x13.2)),[],[50],[]⟩] (ci (Ew (Q333 l8 x6) (0:Int) x13 hx13) (ci (show(Mw []) from trivial) (c1 (Eq.refl (Q336 l8 x6))))) ?_;obtain⟨x14,hx14,h⟩:=bind_some h;obtain⟨x15,hx15,h⟩:=bind_some h;refine gR hq [10,76] Sn [] [⟨[],[],(Z7 x14),[],[50],[]⟩,⟨[],[],(.bool x15),[],[50],[]⟩] (ci (gI ((!x13.2)==false)) (ci (gI ((!x13.2)==false)) (ci (Ox (!x13.2)) (ci (gI ((Yu x13 i9 i10)==false)) (ci (gI ((Yu x13 i9 i10)==false)) (ci (fun(hg:((Yu x13 i9 i10)==false)=true)=>(M2 (Q333 l8 x6) x13.1 x14 (Bn hg hx14))) (ci (show(((Yu x13 i9 i10)==false)=true->(Mw [])) from(fun hg=>trivial)) (ci (show(((Yu x13 i9 i10)==false)=true->(Q335 l8 x6)) from(fun hg=>rfl)) (ci (gI ((Yu x13 i9 i10)==false)) (ci (gI ((Yu x13 i9 i10)==false)) (ci (Ox (Yu x13 i9 i10)) (ci (gI ((Q341 x13 i9 i10 x14 a2)==false)) (ci (gI ((Q341 x13 i9 i10 x14 a2)==false)) (ci (fun(hg:((Q341 x13 i9 i10 x14 a2)==false)=true)=>(Kl (Q333 l8 x6) x13.1 x15 (Bn hg hx15))) (ci (show(((Q341 x13 i9 i10 x14 a2)==false)=true->(Mw [])) from(fun hg=>trivial)) (ci (show(((Q341 x13 i9 i10 x14 a2)==false)=true->(Q335 l8 x6)) from(fun hg=>rfl)) (ci (gI ((Q341 x13 i9 i10 x14 a2)==false)) (c1 (Ox (Q341 x13 i9 i10 x14 a2)))))))))))))))))))) ?_;refine gC h ?_ ?_<;>intro h
    ·refine Am hq [4] [] ?_;obtain rfl:=OI h;exact B6 []
    ·obtain⟨hc16,h⟩:=Ad h;refine gR hq [10] Sn [(79,(AV.list 1 Aq 0 ([(0:Int)]:List Int) .exact)),(80,Q344),(82,(Z47 Q345))] [] (ci (A6 1 Aq (0:Int) ([(0:Int)]:List Int)) (ci (A6 1 Aq (0:Int) ([(1:Int)]:List Int)) (ci (show(AVle (.slice 4 1 (fun i=>([[Gg,(Z50 100),(AV.list 1 Aq 0 ([(0:Int)]:List Int) .none),(AV.list 1 Aq 0 ([(1:Int)]:List Int) .none)]]:List (List AV)).getD i []) .exact) (Z47 Q345)) from(fun _ _ _ _ _ hh=>AVle.untag _ _ _ _ _ ((A6 4 Pi (default:Ab) Q345) _ _ _ _ _ hh))) (ci hc16 (c1 (Eq.refl (Q336 l8 x6))))))) ?_;refine I6 (Le.trans (O2 50 (show ∀ k_,k_<(Q336 l8 x6)->AVleL ((fun i_=>AV.eraseAll Q355 ((G1 (Q334 l8 x6) (1:Int).toNat 0 [(Z47 Q345)]) i_)) k_) ((fun i=>Bj ((Qp l8 x6).getD i default)) k_) from(Be (Di ..).symm (fun k_ hk_=>(Bm (AV.eraseAll Q355) ((Gq (fun _ _=>rfl) (Hj hc16) rfl) k_ hk_)).trans rfl)))) (O3 (fun(k_:Nat) u=>(Df u [] [(10,.row 25 [Q344,Gg,(.vsl 50 k_)]),(50,.arr 5 53 k_ (fun i=>Bj ((Qp l8 x6).getD i default)))])) (show[(⟨([]:List Ab),([]:List Aj),(⟨(2:Int),(1:Int),l8⟩:Ac)⟩:Aa),(⟨([]:List Ab),x6,(⟨(1:Int),(0:Int),([(2:Int)]:List Int)⟩:Ac)⟩:Aa),(⟨([]:List Ab),([]:List Aj),(⟨(0:Int),(1:Int),([]:List Int)⟩:Ac)⟩:Aa)].length=(Qp l8 x6).length from(Di ..).symm))) ?_;obtain⟨x17,hx17,h⟩:=bind_some h;refine gR hq [10,14] Sn [] [⟨[],[],(.tuple (Z19 x17.1 x17.2)),[],[50],[]⟩] (ci (Ew (⟨([(1:Int)]:List Int),(1:Int),(Qp l8 x6)⟩:Ae) (0:Int) x17 hx17) (ci (show(Mw []) from trivial) (c1 (Eq.refl ((Qp l8 x6).length))))) ?_;obtain⟨hc18,h⟩:=Ad h;refine gR hq [10,14] Sn [] [] (ci hc18 (c1 (Eq.refl ((Qp l8 x6).length)))) ?_;refine I6 (Le.trans (O2 50 (show ∀ k_,k_<((Qp l8 x6).length)->AVleL ((fun i_=>AV.eraseAll Q355 ((G1 (fun i=>Bj ((Qp l8 x6).getD i default)) (1:Int).toNat 0 [Ug]) i_)) k_) ((fun i=>Bj ((We l8 x6).getD i default)) k_) from(putF_leE (Di ..).symm (fun _ _=>rfl) (fun _=>rfl) (Hj hc18) (.cons (fun _ _ _ _ _ hh=>AVle.untag _ _ _ _ _ (Cl _ _ _ _ _ hh)) .nil) rfl))) (O3 (fun(k_:Nat) u=>(Df u [] [(10,.row 25 [Q344,Gg,(.vsl 50 k_)]),(50,.arr 5 53 k_ (fun i=>Bj ((We l8 x6).getD i default)))])) (show(Qp l8 x6).length=(We l8 x6).length from(Di ..).symm))) ?_;obtain⟨hc19,h⟩:=Ad h;refine gR hq [10,14] Sn [(96,Q351)] [] (ci (show(AVle (.slice 1 2 (fun i=>([[Gg],[(.int .i64 (3:Int))]]:List (List AV)).getD i []) .exact) Q351) from(fun _ _ _ _ _ hh=>AVle.untag _ _ _ _ _ ((A6 1 Aq (0:Int) ([(1:Int),(3:Int)]:List Int)) _ _ _ _ _ hh))) (ci hc19 (c1 (Eq.refl ((We l8 x6).length))))) ?_;refine I6 (Le.trans (O2 50 (show ∀ k_,k_<((We l8 x6).length)->AVleL ((fun i_=>AV.eraseAll Q355 ((G1 (fun i=>Bj ((We l8 x6).getD i default)) (2:Int).toNat 2 [Z32,Gg,Q351]) i_)) k_) ((fun i=>Bj ((Rz l8 x6).getD i default)) k_) from(Be (Di ..).symm (fun k_ hk_=>(Bm (AV.eraseAll Q355) ((Gq (fun _ _=>rfl) (Hj hc19) rfl) k_ hk_)).trans rfl)))) (O3 (fun(k_:Nat) u=>(Df u [] [(10,.row 25 [Q344,Gg,(.vsl 50 k_)]),(50,.arr 5 53 k_ (fun i=>Bj ((Rz l8 x6).getD i default)))])) (show(We l8 x6).length=(Rz l8 x6).length from(Di ..).symm))) ?_;obtain⟨hc20,h⟩:=Ad h;refine gR hq [10,14] Sn [(102,(.agg [(.int .i64 (3:Int)),Hy,Qr])),(103,(.agg [Qq,Tt,(.int .i64 (3:Int)),Hy,Qr])),(104,(AV.list 5 Bj default Q330 .exact))] [] (ci (show(AVle (.agg [(.int .i64 (3:Int)),Hy,Ug]) (.agg [(.int .i64 (3:Int)),Hy,Qr])) from(AVle.agg (.cons (AVle.refl _) (.cons (AVle.refl _) (.cons Cl .nil))))) (ci (show(AVle (.agg [Ug,Ug,(.int .i64 (3:Int)),Hy,Qr]) (.agg [Qq,Tt,(.int .i64 (3:Int)),Hy,Qr])) from(AVle.agg (.cons Cl (.cons Cl (.cons (AVle.refl _) (.cons (AVle.refl _) (.cons (AVle.refl _) .nil))))))) (ci (A6 5 Bj (default:Aa) Q330) (ci (Eq.refl ((Rz l8 x6).length)) (c1 hc20))))) ?_;refine I6 (Le.trans (O2 50 (show ∀ k_,k_<((Rz l8 x6).length+Q330.length)->AVleL ((fun i_=>AV.eraseAll Q355 ((Gb ((Rz l8 x6).length) (fun i=>Bj ((Rz l8 x6).getD i default)) (fun i=>Bj (Q330.getD i default))) i_)) k_) ((fun i=>Bj (((Rz l8 x6)++Q330).getD i default)) k_) from(Be (Dp _ _) (fun k_ hk_=>(Bm (AV.eraseAll Q355) ((Nq (fun _ _=>rfl) (fun _ _=>rfl)) k_ hk_)).trans rfl)))) (O3 (fun(k_:Nat) u=>(Df u [] [(10,.row 25 [Q344,Gg,(.vsl 50 k_)]),(50,.arr 5 53 k_ (fun i=>Bj (((Rz l8 x6)++Q330).getD i default)))])) (show((Rz l8 x6).length+Q330.length)=((Rz l8 x6)++Q330).length from(Dp _ _)))) ?_;obtain⟨x21,hx21,h⟩:=bind_some h;refine gR hq [14,16] [] [] [⟨[],[],(.tuple (Z19 x21.1 x21.2)),[],[50],[]⟩] (ci (Ew (⟨([(1:Int)]:List Int),(1:Int),((Rz l8 x6)++Q330)⟩:Ae) (0:Int) x21 hx21) (ci (show(Mw []) from trivial) (c1 (Eq.refl (((Rz l8 x6)++Q330).length))))) ?_;refine gR hq [4] [] [] [] (ci (gI ((!x17.2)==true)) (c1 (Kr (!x17.2)))) ?_;cases h;exact B6 []
theorem Vt{n:Int}(h:-9223372036854775808<=n)(h':n<9223372036854775808):A8 n=n:=by
 show IntKind.i64.wrap n=n
 simp only[IntKind.wrap,IntKind.bits,IntKind.signed]
 simp
 split<;>omega
theorem Gh{α:Type}(l:List α)(i:Nat)(d:α)(h:i<l.length):l.getD i d=l[i]:=by simp[List.getD,h]
def Sk(b:Int):Bool:=b==1 || b==8 || b==16 || b==32 || b==64
def kshB(b n:Int):Bool:=Sk b&&(n==1 || ((n==2 || n==4 || n==8 || n==16)&&decide (8<=b)&&decide (b*n<=128)))
def isK(k:Int):Bool:=decide (0<=k)&&decide (k<=22)
def nArgs(k n:Int):Int:=
 bif k==0 then 0 else bif k==13 || k==18 || k==19 then 3 else bif k==14 || k==15 || k==16 || k==22 then 1 else bif k==20 then 4 else bif k==21 then n else 2
def sfitS(k b n:Int):Bool:=
 bif k==16 || k==17 then decide (8<=b) else bif k==18 || k==19 then decide (8<=b)&&n==1 else
 bif k==4 || k==10 || k==11 || k==12 || k==14 || k==15 || k==20 then n==1 else bif k==21 || k==22 then decide (1<n) else true
def ifitS(k b n i:Int):Bool:=
 bif k==0 then i % 2 ^ b.toNat==i else bif k==14 then Sk i&&decide (i<b) else bif k==15 then Sk i&&decide (b<i) else bif k==22 then decide (i<n) else i==0
def valS(v:Int):Bool:=decide (1<=v)&&decide (v<=1023)
def dstS(k d:Int):Bool:=bif k==17 || k==19 then d==0 else valS d
def kmayS(o:Aj):Bool:=kshB o.Bits o.Lanes&&(isK o.Kind&&sfitS o.Kind o.Bits o.Lanes&&ifitS o.Kind o.Bits o.Lanes o.Imm&&((o.Args.length:Int)==nArgs o.Kind o.Lanes))&&(o.Args.all valS&&dstS o.Kind o.Dst)
def elemS(o:Aj)(i:Nat):Int×Int:=
 bif o.Kind==13 || o.Kind==20 then(bif Nat.beq i 0 then(1,1) else(o.Bits,o.Lanes)) else bif o.Kind==14 || o.Kind==15 then(A8 o.Imm,1) else
 bif o.Kind==16 || o.Kind==17 then(bif Nat.beq i 0 then(64,1) else(o.Bits,o.Lanes)) else
 bif o.Kind==18 || o.Kind==19 then(bif Nat.beq i 1 then(64,1) else bif Nat.beq i 0 then(1,1) else(o.Bits,o.Lanes)) else bif o.Kind==21 then(o.Bits,1) else(o.Bits,o.Lanes)
def takesS(o:Aj):List (Int×Int):=(List.range (nArgs o.Kind o.Lanes).toNat).map (elemS o)
def givesS(k b n:Int):Int×Int:=bif k==17 || k==19 then(0,0) else bif k==10 || k==11 || k==12 then(1,1) else bif k==22 then(b,1) else(b,n)
set_option maxHeartbeats 2000000 in
theorem getD_mem{α:Type}{l:List α}{i:Nat}{d:α}(h:i<l.length):l.getD i d∈l:=by rw[Gh _ _ _ h];exact Tg h
theorem nat_nat(i:Nat):((i:Int)).toNat=i:=Int.toNat_natCast i
theorem w1{i:Nat}(h:i<4611686018427387904):A8 ((i:Int)+1)=((i+1:Nat):Int):=by rw[Vt (by omega) (by omega)];omega
structure OpOk(o:Aj):Prop where
 imm:0<=o.Imm/\o.Imm<18446744073709551616
 args:o.Args.length<=200
theorem wf_u8{n:Int}(h:(Lit.int .u8 n).wf=true):0<=n/\n<256:=by simp[Lit.wf,IntKind.min,IntKind.max,IntKind.bits,IntKind.signed]at h;omega
abbrev Iall(w:World):Nat->Nat->Prop:=fun b o=>∃ u,w.cell? ⟨b,o,none⟩=some u
structure CRep(w:World)(cs:List Value)(avs:List AV):Prop where
 len:cs.length=avs.length
 one:∀ j,j<avs.length->(cs.getD j undef).oneCell'=true
 rep:∀ j,j<avs.length->RepV (Iall w) w (cs.getD j undef) (avs.getD j .any)
structure Zq(P:Program)(t:TypeId){α:Type}(e:α->List AV)(ok:α->Prop):Prop where
 get:∀{H:Type} {enc:TypeId×Value->H} {w:World} {base:Nat} {spare:Nat->Bool} {held:Bool} {fuel:Nat} {cs:List Value} {x:DataW H×List MemPlace},
  DataW.trod enc P w base spare held fuel t cs=some x->∃ a,ok a/\CRep w cs (e a)
theorem Aag{w:World}{v:Value}{x:AV}(h1:v.oneCell'=true)(h:RepV (Iall w) w v x):CRep w [v] [x]:=
 ⟨rfl,fun j hj=>(by
   have hj0:j=0:=by simpa using hj
   subst hj0
   exact h1),fun j hj=>(by
   have hj0:j=0:=by simpa using hj
   subst hj0
   exact h)⟩
theorem opens_int{P:Program}{t:TypeId}{k:IntKind}{e:Int->List AV}(ht:P.underlying t=some (.int k))(he:∀ n,e n=[.int k n]):Zq P t e (fun n=>(Lit.int k n).wf=true):=by
 refine⟨?_⟩;intro H enc w base spare held fuel cs x h;obtain⟨n,rfl,rfl,hw⟩:=DataW.trod_int ht h;exact⟨n,hw,by rw[he];exact Aag rfl (.int _ _)⟩
theorem opens_bool{P:Program}{t:TypeId}{e:Bool->List AV}(ht:P.underlying t=some .bool)(he:∀ n,e n=[.bool n]):Zq P t e (fun _=>True):=by
 refine⟨?_⟩;intro H enc w base spare held fuel cs x h;obtain⟨n,rfl,rfl⟩:=DataW.trod_bool ht h;exact⟨n,trivial,by rw[he];exact Aag rfl (.bool _)⟩
structure OpensF(P:Program)(fs:List Field)(off N:Nat){α:Type}(e:α->List AV)(ok:α->Prop):Prop where
 get:∀{H:Type} {enc:TypeId×Value->H} {w:World} {base:Nat} {spare:Nat->Bool} {held:Bool} {n:Nat} {cs:List Value},cs.length=N->
  (∀ f∈fs,∃ x,DataW.trod enc P w base spare held n f.type ((cs.drop f.offset).take (P.cellsOf f.type))=some x)->∃ a,ok a/\CRep w (cs.drop off) (e a)
theorem arg_one{P:Program}{t:TypeId}{α:Type}{e:α->List AV}{ok:α->Prop}(h:Zq P t e ok){x:α->AV}(he:∀ a,e a=[x a]){H:Type}{enc:TypeId×Value->H}{w:World}{base:Nat}{spare:Nat->Bool}{held:Bool}{v:Value}{d:DataW H}{ps:List MemPlace}
  (hv:v.cells = #[v]) (hd:DataW.Trod enc P w base spare held t v d ps):∃ a,ok a/\RepV (Iall w) w v (x a):=by
 obtain⟨fuel,hf⟩:=hd;obtain⟨a,ha,hr⟩:=h.get hf;refine⟨a,ha,?_⟩;have:=hr.rep 0 (by simp[he])
 simpa [hv,he] using this
def eU8(x:Int):List AV:=[(.int .u8 x)]
def okB(n:Bool):Prop:=True
theorem op_4:Zq Tryz.prog 4 eB okB:=opens_bool Tryz.underlying4 (fun _=>rfl)
def okU8(n:Int):Prop:=(Lit.int .u8 n).wf=true
theorem op_5:Zq Tryz.prog 5 eU8 okU8:=opens_int Tryz.underlying5 (fun _=>rfl)
def U1(n:Int):Bool:=decide (0<=n)&&decide (n<=2147483647)
def Xk(l:List Int):Bool:=l.all U1&&decide (l.length<=64)
def phiB(p:Ab):Bool:=U1 p.Bits&&U1 p.Dst&&Xk p.From&&Xk p.Args
def opB(o:Aj):Bool:=U1 o.Kind&&U1 o.Bits&&U1 o.Lanes&&U1 o.Dst&&Xk o.Args
def endB(e:Ac):Bool:=U1 e.Kind&&U1 e.Arg&&Xk e.To
def blockB(b:Aa):Bool:=b.Phis.all phiB&&b.Ops.all opB&&endB b.End
def sizeB(b:Aa):Nat:=b.Phis.length+b.Ops.length+1
def Abk(f:Ae):Nat:=(f.Blocks.map sizeB).sum
def sizeW(f:Ae):Int:=A8 (Abk f)
def mayF(f:Ae):Bool:=decide (1<=f.Blocks.length)&&decide (f.Blocks.length<=64)&&decide (f.Params.length<=16)&&Xk f.Params&&U1 f.Ret&&decide (sizeW f<=512)&&f.Blocks.all blockB
structure InF(f:Ae):Prop where
 params:f.Params.length<=maxLen
 blocks:f.Blocks.length<=maxLen
 block:∀ b∈f.Blocks,b.Phis.length<=maxLen/\b.Ops.length<=maxLen/\b.End.To.length<=maxLen
 phi:∀ b∈f.Blocks,∀ p∈b.Phis,p.From.length<=maxLen/\p.Args.length<=maxLen
 op:∀ b∈f.Blocks,∀ o∈b.Ops,o.Args.length<=maxLen/\0<=o.Imm/\o.Imm<18446744073709551616
theorem w64_nat{n:Nat}(h:n<9223372036854775808):A8 (n:Int)=n:=Vt (by omega) (by omega)
def wideP(n:Int):Prop:=0<=n/\n<18446744073709551616
structure OkB(b:Aa):Prop where
 may:blockB b=true
 phis:b.Phis.length<=512
 ops:b.Ops.length<=512
 imm:∀ o∈b.Ops,wideP o.Imm
structure OkF(f:Ae):Prop where
 params:Xk f.Params=true
 few:f.Params.length<=16
 ret:U1 f.Ret=true
 blocks:f.Blocks.length<=64
 block:∀ b∈f.Blocks,OkB b
theorem sum_le{α:Type}(l:List α)(g:α->Nat)(B:Nat)(h:∀ a∈l,g a<=B):(l.map g).sum<=l.length*B:=by
 induction l with
 | nil=>simp
 | cons a l ih=>
  have h1:=h a (by simp);have h2:=ih (fun b hb=>h b (by simp[hb]));rw[Bh,List.sum_cons,X9,B4];omega
theorem OkF.size{f:Ae}(h:OkF f):Abk f<=65600/\sizeW f=Abk f:=by
 have:Abk f<=f.Blocks.length*1025:=sum_le _ _ _ fun b hb=>by
  have h1:=(h.block b hb).phis;have h2:=(h.block b hb).ops;simp only[sizeB];omega
 have h2:=h.blocks
 have h3:Abk f<=65600:=by omega
 exact⟨h3,w64_nat (by omega)⟩
def levMost(l:Int):Int:=bif l==0 then 17 else bif l==1 then 20 else 22
def opTyped(l:Int)(o:Aj):Bool:=kmayS o&&!decide (levMost l<o.Kind)&&!(decide (l<2)&&decide (1<o.Lanes))
def blockTyped(l:Int)(b:Aa):Bool:=(b.Phis.all fun p=>Sk p.Bits)&&b.Ops.all (opTyped l)
def typedD(f:Ae)(l:Int):Bool:=f.Params.all Sk&&f.Blocks.all (blockTyped l)&&Sk f.Ret
def findD(l:List Tu)(v:Int):Int:=match l.findIdx? (fun d=>d.V==v) with|some i=>(i:Int)|none=>-1
def givesO(o:Aj):Int×Int:=bif kmayS o then givesS o.Kind o.Bits o.Lanes else(0,0)
def takesO(o:Aj):List (Int×Int):=bif kmayS o then takesS o else[]
def defsP(f:Ae):List Tu:=(List.range f.Params.length).flatMap fun(i:Nat)=>[⟨(i:Int)+1,-1,0,(f.Params.getD i 0,1)⟩]
def defsPhi(b:Aa)(i:Nat):List Tu:=(List.range b.Phis.length).flatMap fun(k:Nat)=>[⟨(b.Phis.getD k default).Dst,i,-1,((b.Phis.getD k default).Bits,1)⟩]
def defsOp(b:Aa)(i:Nat):List Tu:=(List.range b.Ops.length).flatMap fun(k:Nat)=>bif decide (0<(givesO (b.Ops.getD k default)).1) then[⟨(b.Ops.getD k default).Dst,i,k,givesO (b.Ops.getD k default)⟩] else[]
def defsB(b:Aa)(i:Nat):List Tu:=defsPhi b i++defsOp b i
def Su(f:Ae):List Tu:=defsP f++(List.range f.Blocks.length).flatMap fun i=>defsB (f.Blocks.getD i default) i
def usesPhi1(p:Ab):List Wf:=(List.range p.Args.length).flatMap fun(j:Nat)=>[⟨p.Args.getD j 0,p.From.getD j 0,1000,(p.Bits,1)⟩]
def usesPhi(b:Aa):List Wf:=(List.range b.Phis.length).flatMap fun(k:Nat)=>usesPhi1 (b.Phis.getD k default)
def usesOp1(o:Aj)(i k:Nat):List Wf:=(List.range (takesO o).length).flatMap fun(j:Nat)=>[⟨o.Args.getD j 0,i,k,(takesO o).getD j (0,0)⟩]
def usesOp(b:Aa)(i:Nat):List Wf:=(List.range b.Ops.length).flatMap fun(k:Nat)=>usesOp1 (b.Ops.getD k default) i k
def usesEnd(f:Ae)(b:Aa)(i:Nat):List Wf:=(bif b.End.Kind==0 then[⟨b.End.Arg,i,1000,(f.Ret,1)⟩] else[])++(bif b.End.Kind==2 then[⟨b.End.Arg,i,1000,(1,1)⟩] else[])
def usesB(f:Ae)(b:Aa)(i:Nat):List Wf:=usesPhi b++usesOp b i++usesEnd f b i
def usesF(f:Ae):List Wf:=(List.range f.Blocks.length).flatMap fun(i:Nat)=>usesB f (f.Blocks.getD i default) i
def okAt(n:Nat)(l:List Int)(i:Nat):Bool:=decide ((if i=0 then(-1:Int) else l.getD (i-1) 0)<l.getD i 0)&&(decide (0<=l.getD i 0)&&decide (l.getD i 0<n))
def okL(n:Nat)(l:List Int):Bool:=(List.range l.length).all (okAt n l)
def Wn(L:List (List Int)):Bool:=decide (1<=L.length)&&decide (L.length<=64)&&(List.range L.length).all fun i=>okL L.length (L.getD i [])
def goesB(L:List (List Int))(k i:Nat):Bool:=(L.getD k []).contains (i:Int)
def predAt(L:List (List Int))(m i:Nat):List Int:=((List.range m).filter fun k=>goesB L k i).map Int.ofNat
def Zl(L:List (List Int)):List (List Int):=(List.range L.length).map (predAt L L.length)
def Fits(L:List (List Int)):Prop:=L.length<4611686018427387904/\∀ l∈L,l.length<4611686018427387904
theorem Fits.at{L:List (List Int)}(h:Fits L)(i:Nat):(L.getD i []).length<4611686018427387904:=by
 by_cases hi:i<L.length
 ·exact h.2 _ (getD_mem hi)
 ·rw[P0,X5 (by omega)];simp
section
variable {n:Nat} {l:List Int} (h:okL n l=true)
include h
end
def mayG(g:Ax):Bool:=Wn g.Succ&&decide (g.Pred=Zl g.Succ)
def gOf(L:List (List Int)):Ax:=⟨L,Zl L⟩
def g0:Ax:=⟨[],[]⟩
noncomputable section
def upd(s:Nat->Bool)(y:Nat):Nat->Bool:=fun z=>decide (z=y) || s z
theorem upd_true{s:Nat->Bool}{y z:Nat}:upd s y z=true↔z=y\/s z=true:=by simp[upd]
theorem upd_false{s:Nat->Bool}{y z:Nat}:upd s y z=false↔z≠y/\s z=false:=by simp[upd]
inductive VL (S:Nat->List Nat):(Nat->Bool)->List Nat->(Nat->Bool)->List Nat->Prop
 | nil (s:Nat->Bool):VL S s [] s []
 | skip {s s':Nat->Bool} {y:Nat} {l o:List Nat} (h:s y=true) (t:VL S s l s' o):VL S s (y::l) s' o
 | step {s s1 s2:Nat->Bool} {y:Nat} {l o1 o2:List Nat} (h:s y=false) (a:VL S (upd s y) (S y) s1 o1) (b:VL S s1 l s2 o2):VL S s (y::l) s2 (o1++y::o2)
inductive Rch (S:Nat->List Nat):Nat->Nat->Prop
 | refl (x:Nat):Rch S x x
 | head {x y z:Nat} (h:y∈S x) (t:Rch S y z):Rch S x z
theorem Rch.tail{S:Nat->List Nat}{x y z:Nat}(h:Rch S x y)(hz:z∈S y):Rch S x z:=by
 induction h with
 | refl x=>exact .head hz (.refl _)
 | head h _ ih=>exact .head h (ih hz)
theorem Rch.trans{S:Nat->List Nat}{x y z:Nat}(h:Rch S x y)(k:Rch S y z):Rch S x z:=by
 induction h with
 | refl x=>exact k
 | head h _ ih=>exact .head h (ih k)
variable {S:Nat->List Nat} {s s':Nat->Bool} {l o:List Nat}
theorem VL.seen(h:VL S s l s' o)(z:Nat):s' z=true↔s z=true\/z∈o:=by
 induction h with
 | nil s=>simp
 | skip h _ ih=>exact ih
 | @step s s1 s2 y l o1 o2 h a b iha ihb=>
  rw[ihb,iha,upd_true];simp only[zzL16,zzL24]
  constructor
  ·rintro((( rfl|h1)|h1)|h1)
   ·exact .inr (.inr (.inl rfl))
   ·exact .inl h1
   ·exact .inr (.inl h1)
   ·exact .inr (.inr (.inr h1))
  ·rintro(h1|h1|rfl|h1)
   ·exact .inl (.inl (.inr h1))
   ·exact .inl (.inr h1)
   ·exact .inl (.inl (.inl rfl))
   ·exact .inr h1
theorem VL.fresh(h:VL S s l s' o){z:Nat}(hz:z∈o):s z=false:=by
 induction h with
 | nil s=>cases hz
 | skip h _ ih=>exact ih hz
 | @step s s1 s2 y l o1 o2 h a b iha ihb=>
  rcases zzL16.1 hz with h1|h1
  ·exact(upd_false.1 (iha h1)).2
  ·rcases zzL24.1 h1 with rfl|h1
   ·exact h
   ·have:=ihb h1
    cases hs:s z with
    | false=>rfl
    | true=>rw[(a.seen z).2 (.inl (upd_true.2 (.inr hs)))]at this;cases this
theorem VL.nodup(h:VL S s l s' o):o.Nodup:=by
 induction h with
 | nil s=>exact List.nodup_nil
 | skip h _ ih=>exact ih
 | @step s s1 s2 y l o1 o2 h a b iha ihb=>
  rw[List.nodup_append];refine⟨iha,zzL66.2 ⟨fun hy=>?_,ihb⟩,fun u hu v hv=>?_⟩
  ·have:=b.fresh hy;rw[(a.seen y).2 (.inl (upd_true.2 (.inl rfl)))]at this
   cases this
  ·rintro rfl;rcases zzL24.1 hv with rfl|hv
   ·have:=a.fresh hu;rw[upd_true.2 (.inl rfl)]at this
    cases this
   ·have:=b.fresh hv;rw[(a.seen u).2 (.inr hu)]at this
    cases this
theorem VL.rch(h:VL S s l s' o){z:Nat}(hz:z∈o):∃ y∈l,Rch S y z:=by
 induction h with
 | nil s=>cases hz
 | skip h _ ih=>obtain⟨y,hy,hr⟩:=ih hz;exact⟨y,Gs _ hy,hr⟩
 | @step s s1 s2 y l o1 o2 h a b iha ihb=>
  rcases zzL16.1 hz with h1|h1
  ·obtain⟨u,hu,hr⟩:=iha h1;exact⟨y,Ol ..,.head hu hr⟩
  ·rcases zzL24.1 h1 with rfl|h1
   ·exact⟨z,Ol ..,.refl z⟩
   ·obtain⟨u,hu,hr⟩:=ihb h1;exact⟨u,Gs _ hu,hr⟩
theorem VL.closed(h:VL S s l s' o):(∀ y∈l,s' y=true)/\∀ z∈o,∀ y∈S z,s' y=true:=by
 induction h with
 | nil s=>exact⟨(fun _ h=>by cases h),(fun _ h=>by cases h)⟩
 | @skip s s' y l o h t ih=>
  refine⟨fun u hu=>?_,ih.2⟩;rcases zzL24.1 hu with rfl|hu
  ·exact(t.seen u).2 (.inl h)
  ·exact ih.1 u hu
 | @step s s1 s2 y l o1 o2 h a b iha ihb=>
  refine⟨fun u hu=>?_,fun z hz u hu=>?_⟩
  ·rcases zzL24.1 hu with rfl|hu
   ·exact(b.seen u).2 (.inl ((a.seen u).2 (.inl (upd_true.2 (.inl rfl)))))
   ·exact ihb.1 u hu
  ·rcases zzL16.1 hz with h1|h1
   ·exact(b.seen u).2 (.inl (iha.2 z h1 u hu))
   ·rcases zzL24.1 h1 with rfl|h1
    ·exact(b.seen u).2 (.inl (iha.1 u hu))
    ·exact ihb.2 z h1 u hu
theorem VL.above(h:VL S s l s' o)(hf:∀ z,∀ y∈S z,z<y){b:Nat}(hb:∀ y∈l,b<y):∀ z∈o,b<z:=by
 induction h generalizing b with
 | nil s=>intro z hz;cases hz
 | skip h _ ih=>exact ih (fun y hy=>hb y (Gs _ hy))
 | @step s s1 s2 y l o1 o2 h a c iha ihb=>
  intro z hz;have hy:=hb y (Ol ..);rcases zzL16.1 hz with h1|h1
  ·exact iha (fun u hu=>Nat.lt_trans hy (hf y u hu)) z h1
  ·rcases zzL24.1 h1 with rfl|h1
   ·exact hy
   ·exact ihb (fun u hu=>hb u (Gs _ hu)) z h1
theorem VL.ahead(h:VL S s l s' o)(hf:∀ z,∀ y∈S z,z<y):∀ z∈o,∀ y∈S z,s y=true\/∃ A B,o=A++z::B/\y∈A:=by
 induction h with
 | nil s=>intro z hz;cases hz
 | skip h _ ih=>exact ih
 | @step s s1 s2 y l o1 o2 h a c iha ihb=>
  intro z hz u hu;rcases zzL16.1 hz with h1|h1
  ·have hzy:y<z:=a.above hf (fun v hv=>hf y v hv) z h1;have hzu:=hf z u hu;rcases iha z h1 u hu with h2|⟨A,B,rfl,hA⟩
   ·rcases upd_true.1 h2 with rfl|h2
    ·omega
    ·exact .inl h2
   ·exact .inr ⟨A,B++y::o2,by simp,hA⟩
  ·rcases zzL24.1 h1 with rfl|h1z
   ·have hzu:=hf z u hu;rcases(a.seen u).1 (a.closed.1 u hu) with h2|h2
    ·rcases upd_true.1 h2 with rfl|h2
     ·omega
     ·exact .inl h2
    ·exact .inr ⟨o1,o2,rfl,h2⟩
   ·rcases ihb z h1z u hu with h2|⟨A,B,rfl,hA⟩
    ·rcases(a.seen u).1 h2 with h3|h3
     ·rcases upd_true.1 h3 with rfl|h3
      ·obtain⟨P,Q,rfl⟩:=List.append_of_mem h1z;exact .inr ⟨o1++u::P,Q,by simp,by simp⟩
      ·exact .inl h3
     ·obtain⟨P,Q,rfl⟩:=List.append_of_mem h1z;exact .inr ⟨o1++y::P,Q,by simp,by simp[h3]⟩
    ·exact .inr ⟨o1++y::A,B,by simp,by simp[hA]⟩
def one(r:Nat):Nat->Bool:=fun z=>decide (z=r)
def Ord(S:Nat->List Nat)(r:Nat)(L:List Nat):Prop:=∃ s' o,VL S (one r) (S r) s' o/\L=r::o.reverse
theorem Ord.mem{r:Nat}{L:List Nat}(h:Ord S r L)(z:Nat):z∈L↔Rch S r z:=by
 obtain⟨s',o,h,rfl⟩:=h
 have hs:∀ z,s' z=true↔z=r\/z∈o:=fun z=>by rw[h.seen];simp[one]
 have hc:∀ x,s' x=true->∀ y∈S x,s' y=true:=fun x hx y hy=>by
  rcases(hs x).1 hx with rfl|hx
  ·exact h.closed.1 y hy
  ·exact h.closed.2 x hx y hy
 simp only[zzL24,zzL88];rw[<- hs z]
 constructor
 ·intro hz;rcases(hs z).1 hz with rfl|hz
  ·exact .refl _
  ·obtain⟨y,hy,hr⟩:=h.rch hz;exact .head hy hr
 ·intro hr
  have key:∀ x z,Rch S x z->s' x=true->s' z=true:=by
   intro x z hxz
   induction hxz with
   | refl x=>exact id
   | head hy _ ih=>exact fun hx=>ih (hc _ hx _ hy)
  exact key r z hr ((hs r).2 (.inl rfl))
theorem Ord.nodup{r:Nat}{L:List Nat}(h:Ord S r L):L.Nodup:=by
 obtain⟨s',o,h,rfl⟩:=h;refine zzL66.2 ⟨fun hr=>?_,(List.reverse_perm o).nodup_iff.2 h.nodup⟩;have:=h.fresh (zzL88.1 hr);simp[one]at this
theorem Ord.fwd{r:Nat}{L:List Nat}(h:Ord S r L)(hf:∀ z,∀ y∈S z,z<y):∀ z∈L,∀ y∈S z,∃ A B,L=A++z::B/\y∈B:=by
 obtain⟨s',o,h,rfl⟩:=h;intro z hz y hy;have hzy:=hf z y hy;rcases zzL24.1 hz with rfl|hz
 ·refine⟨[],o.reverse,rfl,?_⟩;rcases(h.seen y).1 (h.closed.1 y hy) with h1|h1
  ·simp[one]at h1;omega
  ·exact zzL88.2 h1
 ·have hz:=zzL88.1 hz;have hrz:r<z:=h.above hf (fun v hv=>hf r v hv) z hz;rcases h.ahead hf z hz y hy with h1|⟨A,B,rfl,hA⟩
  ·simp[one]at h1;omega
  ·exact⟨r::B.reverse,A.reverse,by simp,zzL88.2 hA⟩
end
theorem top{st:List Int}{a:Int}(h:st.length<4611686018427387904):(st++[a]).getD (A8 (((st++[a]).length:Int)-1)).toNat 0=a:=by
 have:A8 (((st++[a]).length:Int)-1)=((st.length:Nat):Int):=by rw[I4,List.length_singleton,Vt (by omega) (by omega)];omega
 rw[this,nat_nat];simp[List.getD]
def sN(L:List (List Int))(k:Nat):List Nat:=(L.getD k []).map Int.toNat
def RelS(R:List Bool)(s:Nat->Bool):Prop:=∀ z,z<64->R.getD z false=s z
theorem setN_at{α:Type}{d:α}{l:List α}{i:Nat}{x:α}{k:Nat}(hk:k<64):(K6 64 d l i x).getD k d=if k=i then x else l.getD k d:=by
 rw[X1 hk]
 by_cases h:k=i
 ·subst h;simp
 ·have:Nat.beq k i=false:=by cases hb:Nat.beq k i with|false=>rfl|true=>exact absurd (A5 hb) h
  rw[this,if_neg h];rfl
theorem RelS.set{R:List Bool}{s:Nat->Bool}(h:RelS R s){y:Nat}:RelS (K6 64 false R y true) (upd s y):=fun z hz=>by
 rw[setN_at hz,h z hz]
 by_cases hzy:z=y
 ·simp[upd,hzy]
 ·simp[upd,hzy]
def RelN(n:Nat)(R:List Bool)(s:Nat->Bool):Prop:=R.length=n/\∀ z,z<n->R.getD z false=s z
theorem RelN.set{n:Nat}{R:List Bool}{s:Nat->Bool}(h:RelN n R s){y:Nat}(hy:y<n):RelN n (R.set y true) (upd s y):=by
 refine⟨by rw[Di];exact h.1,fun z hz=>?_⟩;rw[P0,List.getElem?_set]
 by_cases hzy:y=z
 ·subst hzy;simp[upd,h.1,hy]
 ·rw[if_neg hzy,<- P0,h.2 z hz];simp[upd,Ga hzy]
def mk(o:List Bool)(l:List Nat):List Bool:=l.foldl (fun o y=>o.set y true) o
def sw(S:Nat->List Nat)(o:List Bool):Nat->List Bool
 | 0=>o
 | i+1=>if(sw S o i).getD i false=true then mk (sw S o i) (S i) else sw S o i
def rds(S:Nat->List Nat)(n:Nat)(o:List Bool):Nat->List Bool
 | 0=>o
 | j+1=>sw S (rds S n o j) n
section
variable {S:Nat->List Nat} {n:Nat} (hS:∀ z,z<n->∀ y∈S z,y<n)
include hS
end
def pos:List Nat->Nat->Nat
 | [],_=>0
 | x::l,z=>if x=z then 0 else pos l z+1
theorem Vf(x:Nat)(l:List Nat)(z:Nat):pos (x::l) z=if x=z then 0 else pos l z+1:=rfl
theorem pos_app{A l:List Nat}{z:Nat}(h:z∉A):pos (A++l) z=A.length+pos l z:=by
 induction A with
 | nil=>simp
 | cons x A ih=>
  have h1:x≠z:=fun e=>h (by rw[e];exact Ol ..);have h2:z∉A:=fun e=>h (Gs _ e);rw[Vw,Vf,if_neg h1,ih h2,X9];omega
theorem Zj{P:List Nat}(hd:P.Nodup){i:Nat}(hi:i<P.length):P[i]∉P.take i/\pos P P[i]=i:=by
 have e:P=P.take i++P[i]::P.drop (i+1):=by rw[<- List.drop_eq_getElem_cons hi,List.take_append_drop]
 have hn:P[i]∉P.take i:=by
  rw[e]at hd;have:=(List.nodup_append.1 hd).2.2;exact fun hm=>this _ hm _ (Ol ..) rfl
 refine⟨hn,?_⟩
 have h2:pos (P.take i++P[i]::P.drop (i+1)) P[i]=i:=by
  rw[pos_app hn]
  have:pos (P[i]::P.drop (i+1)) P[i]=0:=by rw[Vf,if_pos rfl]
  rw[this,Kp];omega
 rw[<- e]at h2;exact h2
def riseL(l:List Int):List Int:=Lib.compact (l.mergeSort fun x y=>decide (x<=y))
def toB(n:Nat)(l:List Int):Bool:=(List.range l.length).all fun i=>decide (0<l.getD i 0)&&decide (l.getD i 0<(n:Int))
def wantK(k:Int):Int:=([0,1,2,0]:List Int).getD k.toNat 0
def kindB(e:Ac):Bool:=(decide (0<=e.Kind)&&decide (e.Kind<=3))&&decide ((e.To.length:Int)=wantK e.Kind)
def fitsE(e:Ac)(n:Nat):Bool:=kindB e&&toB n e.To
def endAt(f:Ae)(i:Nat):Ac:=(f.Blocks.getD i (default:Aa)).End
def rowsF(f:Ae):List (List Int):=(List.range f.Blocks.length).map fun i=>riseL (endAt f i).To
def shapeB(f:Ae):Bool:=(decide (1<=f.Blocks.length)&&decide (f.Blocks.length<=64))&&(List.range f.Blocks.length).all fun i=>fitsE (endAt f i) f.Blocks.length
inductive Rc (S:Nat->List Nat) (r:Nat):Nat->Prop
 | root:Rc S r r
 | step {x y:Nat} (h:Rc S r x) (hy:y∈S x):Rc S r y
inductive Av (S:Nat->List Nat) (r z:Nat):Nat->Prop
 | root (h:r≠z):Av S r z r
 | step {x y:Nat} (h:Av S r z x) (hy:y∈S x) (hz:y≠z):Av S r z y
inductive AvN (S:Nat->List Nat) (r z:Nat):Nat->Nat->Prop
 | root (h:r≠z) (k:Nat):AvN S r z k r
 | step {k x y:Nat} (h:AvN S r z k x) (hy:y∈S x) (hz:y≠z):AvN S r z (k+1) y
section
variable {S:Nat->List Nat} {r:Nat}
def wo(S:Nat->List Nat)(z:Nat):Nat->List Nat:=fun x=>(S x).filter fun y=>decide (y≠z)
theorem Av.rc{z x:Nat}(h:Av S r z x):Rc S r x:=by
 induction h with
 | root _=>exact .root
 | step _ hy _ ih=>exact .step ih hy
theorem AvN.av{z k x:Nat}(h:AvN S r z k x):Av S r z x:=by
 induction h with
 | root h=>exact .root h
 | step _ hy hz ih=>exact .step ih hy hz
theorem AvN.up{z k x:Nat}(h:AvN S r z k x):AvN S r z (k+1) x:=by
 induction h with
 | root h k=>exact .root h _
 | step _ hy hz ih=>exact .step ih hy hz
theorem AvN.mono{z k m x:Nat}(h:AvN S r z k x)(hm:k<=m):AvN S r z m x:=by
 obtain⟨d,rfl⟩:=Nat.exists_eq_add_of_le hm;clear hm
 induction d with
 | zero=>exact h
 | succ d ih=>exact ih.up
end
inductive UpTo (par:Nat->Int):Nat->Nat->Prop
 | refl (x:Nat):UpTo par x x
 | up {x y z:Nat} (h:par x=(y:Int)) (t:UpTo par y z):UpTo par x z
inductive Fw (S:Nat->List Nat) (at_:Nat->Nat) (u:Nat):Nat->Prop
 | refl:Fw S at_ u u
 | step {v w:Nat} (h:Fw S at_ u v) (hw:w∈S v) (hl:at_ v<at_ w):Fw S at_ u w
section
variable {S:Nat->List Nat} {at_:Nat->Nat} {par:Nat->Int}
theorem Fw.le{u w:Nat}(h:Fw S at_ u w):at_ u<=at_ w:=by
 induction h with
 | refl=>exact Bw _
 | step _ _ hl ih=>omega
theorem Fw.trans{u v w:Nat}(h:Fw S at_ u v)(k:Fw S at_ v w):Fw S at_ u w:=by
 induction k with
 | refl=>exact h
 | step _ hw hl ih=>exact .step ih hw hl
theorem Fw.av{r d u w:Nat}(h:Fw S at_ u w)(ha:Av S r d u)(hd:at_ d<at_ u):Av S r d w:=by
 induction h with
 | refl=>exact ha
 | @step v w h hw hl ih=>exact .step ih hw (by rintro rfl;have:=h.le;omega)
theorem UpTo.trans{x y z:Nat}(h:UpTo par x y)(k:UpTo par y z):UpTo par x z:=by
 induction h with
 | refl x=>exact k
 | up h _ ih=>exact .up h (ih k)
theorem anc_up{x p z:Nat}(h:par x=(p:Int)):UpTo par x z↔z=x\/UpTo par p z:=by
 constructor
 ·intro k
  cases k with
  | refl=>exact .inl rfl
  | up h' t=>rw[h]at h';cases Int.ofNat.inj h';exact .inr t
 ·rintro(rfl|k)
  ·exact .refl _
  ·exact .up h k
theorem anc_top{x z:Nat}(h:∀ p:Nat,par x≠(p:Int)):UpTo par x z↔z=x:=by
 constructor
 ·intro k
  cases k with
  | refl=>rfl
  | up h' t=>exact absurd h' (h _)
 ·rintro rfl;exact .refl _
structure Inv(S:Nat->List Nat)(r n:Nat)(at_:Nat->Nat)(par:Nat->Int):Prop where
 top:par r = -1
 kind:∀ x,x<n->par x = -2\/x=r\/∃ z:Nat,par x=(z:Int)
 up:∀ x,x<n->∀ z:Nat,par x=(z:Int)->z<n/\par z≠-2/\at_ z<at_ x/\Fw S at_ z x
 rc:∀ x,x<n->par x≠-2->Rc S r x
 all:∀ x,x<n->par x≠-2->∀ d,¬ UpTo par x d->Av S r d x
end
section
variable {S:Nat->List Nat} {at_:Nat->Nat} {par:Nat->Int} {r n:Nat}
theorem Inv.anc(h:Inv S r n at_ par){x z:Nat}(k:UpTo par x z)(hx:x<n)(hp:par x≠-2):z<n/\par z≠-2/\at_ z<=at_ x/\Fw S at_ z x:=by
 induction k with
 | refl x=>exact⟨hx,hp,Bw _,.refl⟩
 | @up x y z hxy t ih=>
  obtain⟨h1,h2,h3,h4⟩:=h.up x hx y hxy;obtain⟨i1,i2,i3,i4⟩:=ih h1 h2;exact⟨i1,i2,by omega,i4.trans h4⟩
theorem Inv.root_anc(h:Inv S r n at_ par){z:Nat}:UpTo par r z↔z=r:=anc_top fun p hp=>by rw[h.top]at hp;omega
theorem Inv.strict(h:Inv S r n at_ par){x z:Nat}(k:UpTo par x z)(hx:x<n)(hp:par x≠-2):z=x\/at_ z<at_ x:=by
 cases k with
 | refl=>exact .inl rfl
 | up hxy t=>
  obtain⟨h1,h2,h3,h4⟩:=h.up x hx _ hxy;obtain⟨i1,i2,i3,i4⟩:=h.anc t h1 h2;exact .inr (by omega)
theorem Inv.antisymm(h:Inv S r n at_ par){x z:Nat}(k:UpTo par x z)(m:UpTo par z x)(hx:x<n)(hp:par x≠-2):z=x:=by
 rcases h.strict k hx hp with rfl|h1
 ·rfl
 ·obtain⟨i1,i2,i3,i4⟩:=h.anc k hx hp;have:=(h.anc m i1 i2).2.2.1;omega
def MeetAt(par:Nat->Int)(a b m:Nat):Prop:=∀ w,UpTo par m w↔UpTo par a w/\UpTo par b w
theorem Xp{a:Nat}:MeetAt par a a a:=fun w=>by simp
theorem meet_swap{a b m:Nat}(h:MeetAt par a b m):MeetAt par b a m:=fun w=>by rw[h w];exact And.comm
theorem Inv.meet_left(h:Inv S r n at_ par)(hinj:∀ x y,x<n->y<n->par x≠-2->par y≠-2->at_ x=at_ y->x=y){a b p m:Nat}(ha:a<n)(hpa:par a≠-2)(hb:b<n)(hpb:par b≠-2)(hab:a≠b)(hl:at_ b<=at_ a)(hp:par a=(p:Int))(k:MeetAt par p b m):MeetAt par a b m:=fun w=>by
 rw[k w]
 constructor
 ·rintro⟨h1,h2⟩;exact⟨.up hp h1,h2⟩
 ·rintro⟨h1,h2⟩;rcases(anc_up hp).1 h1 with rfl|h1
  ·exfalso
   rcases h.strict h2 hb hpb with h3|h3
   ·exact hab h3
   ·omega
  ·exact⟨h1,h2⟩
end
section
variable {S:Nat->List Nat} {at_:Nat->Nat} {par:Nat->Int} {r n:Nat}
def Ix(par:Nat->Int)(y:Nat)(v:Int):Nat->Int:=fun x=>if x=y then v else par x
def Best(S:Nat->List Nat)(n:Nat)(par:Nat->Int)(y z:Nat):Prop:=∀ w,UpTo par z w↔∀ p,p<n->y∈S p->par p≠-2->UpTo par p w
theorem Sp{y:Nat}{v:Int}{x z:Nat}(k:UpTo par x z)(hy:¬ UpTo par x y):UpTo (Ix par y v) x z:=by
 induction k with
 | refl x=>exact .refl _
 | @up x q z h t ih=>
  have hxy:x≠y:=by rintro rfl;exact hy (.refl _)
  refine .up (y:=q) ?_ (ih fun k=>hy (.up h k));unfold Ix;rw[if_neg hxy];exact h
theorem Zw{y:Nat}{v:Int}{x:Nat}(k:UpTo par x y):UpTo (Ix par y v) x y:=by
 induction k with
 | refl x=>exact .refl _
 | @up x q z h t ih=>
  by_cases hxy:x=z
  ·subst hxy;exact .refl _
  ·refine .up (y:=q) ?_ ih;unfold Ix;rw[if_neg hxy];exact h
theorem anc_upd_inv{y:Nat}{v:Int}{x w:Nat}(k:UpTo (Ix par y v) x w):UpTo par x w\/(UpTo par x y/\UpTo (Ix par y v) y w):=by
 induction k with
 | refl x=>exact .inl (.refl _)
 | @up x q w h t ih=>
  by_cases hxy:x=y
  ·subst hxy;exact .inr ⟨.refl _,.up h t⟩
  ·unfold Ix at h;rw[if_neg hxy]at h;rcases ih with h1|⟨h1,h2⟩
   ·exact .inl (.up h h1)
   ·exact .inr ⟨.up h h1,h2⟩
theorem low_or{y:Nat}{v:Int}{x d:Nat}(k:UpTo par x y)(hd:UpTo par x d):UpTo par y d\/UpTo (Ix par y v) x d:=by
 induction k with
 | refl x=>exact .inl hd
 | @up x q y hq t ih=>
  by_cases e:x=y
  ·subst e;exact .inl hd
  ·rcases(anc_up hq).1 hd with rfl|k
   ·exact .inr (.refl _)
   ·rcases ih k with h1|h1
    ·exact .inl h1
    ·exact .inr (.up (y:=q) (by unfold Ix;rw[if_neg e];exact hq) h1)
structure Better(S:Nat->List Nat)(r n:Nat)(at_:Nat->Nat)(par:Nat->Int)(y z:Nat):Prop where
 inv:Inv S r n at_ par
 hy:y<n
 hr:y≠r
 hz:z<n
 best:Best S n par y z
 fwd:∃ p,p<n/\y∈S p/\par p≠-2/\at_ p<at_ y
variable {y z:Nat}
theorem Better.zlt(h:Better S r n at_ par y z):UpTo par z z/\par z≠-2/\at_ z<at_ y/\Fw S at_ z y:=by
 obtain⟨p,hp,hyp,hpp,hl⟩:=h.fwd;obtain⟨h1,h2,h3,h4⟩:=h.inv.anc ((h.best z).1 (.refl _) p hp hyp hpp) hp hpp;exact⟨.refl _,h2,by omega,.step h4 hyp hl⟩
theorem Better.above(h:Better S r n at_ par y z){w:Nat}:UpTo (Ix par y z) z w↔UpTo par z w:=by
 obtain⟨_,h2,h3,_⟩:=h.zlt
 have hn:¬ UpTo par z y:=fun k=>by have:=(h.inv.anc k h.hz h2).2.2.1;omega
 constructor
 ·intro k;rcases anc_upd_inv k with h1|⟨h1,_⟩
  ·exact h1
  ·exact absurd h1 hn
 ·intro k;exact Sp k hn
theorem Better.here(h:Better S r n at_ par y z){w:Nat}:UpTo (Ix par y z) y w↔w=y\/UpTo par z w:=by
 rw[anc_up (p:=z) (by simp[Ix]),h.above]
theorem Better.av_here(h:Better S r n at_ par y z){d:Nat}(hd:¬ UpTo (Ix par y z) y d):Av S r d y:=by
 rw[h.here]at hd;have h1:¬ ∀ p,p<n->y∈S p->par p≠-2->UpTo par p d:=fun hh=>hd (.inr ((h.best d).2 hh));simp only[Classical.not_forall]at h1;obtain⟨p,hp,hyp,hpp,hnp⟩:=h1;exact .step (h.inv.all p hp hpp d hnp) hyp fun e=>hd (.inl e.symm)
theorem Better.inv'(h:Better S r n at_ par y z):Inv S r n at_ (Ix par y z):=by
 obtain⟨hzz,hz2,hzl,hzf⟩:=h.zlt;obtain⟨p,hp,hyp,hpp,hl⟩:=h.fwd
 have hne:∀ x,Ix par y z x≠-2->x=y\/par x≠-2:=fun x hx=>by
  by_cases e:x=y
  ·exact .inl e
  ·unfold Ix at hx;rw[if_neg e]at hx;exact .inr hx
 have hyv:Ix par y z y=(z:Int):=by simp[Ix]
 have hyo:∀ x,x≠y->Ix par y z x=par x:=fun x e=>by unfold Ix;rw[if_neg e]
 refine⟨by rw[hyo _ (Ga h.hr)];exact h.inv.top,fun x hx=>?_,fun x hx w hw=>?_,fun x hx hxp=>?_,fun x hx hxp d hd=>?_⟩
 ·by_cases e:x=y
  ·subst e;exact .inr (.inr ⟨z,hyv⟩)
  ·rw[hyo x e];exact h.inv.kind x hx
 ·have hzn:∀ w,par w≠-2->Ix par y z w≠-2:=fun w hw=>by
   by_cases e:w=y
   ·subst e;rw[hyv];omega
   ·rw[hyo w e];exact hw
  by_cases e:x=y
  ·subst e;rw[hyv]at hw
   cases Int.ofNat.inj hw
   exact⟨h.hz,hzn _ hz2,hzl,hzf⟩
  ·rw[hyo x e]at hw;obtain⟨h1,h2,h3,h4⟩:=h.inv.up x hx w hw;exact⟨h1,hzn _ h2,h3,h4⟩
 ·rcases hne x hxp with rfl|h1
  ·exact .step (h.inv.rc p hp hpp) hyp
  ·exact h.inv.rc x hx h1
 ·by_cases e:x=y
  ·subst e;exact h.av_here hd
  ·rw[hyo x e]at hxp
   by_cases hxd:UpTo par x d
   ·
    by_cases hxy:UpTo par x y
    ·have hyd:¬ UpTo (Ix par y z) y d:=fun k=>hd ((Zw hxy).trans k);have hav:=h.av_here hyd;have hf:=(h.inv.anc hxy hx hxp).2.2.2
     have hdy:UpTo par y d:=by
      rcases low_or (v:=(z:Int)) hxy hxd with h1|h1
      ·exact h1
      ·exact absurd h1 hd
     by_cases hpy:par y = -2
     ·
      have:d=y:=by
       refine(anc_top (par:=par) fun p hp=>?_).1 hdy;rw[hpy]at hp;omega
      subst this;exact absurd (.refl _) hyd
     ·rcases h.inv.strict hdy h.hy hpy with rfl|hlt
      ·exact absurd (.refl _) hyd
      ·exact hf.av hav hlt
    ·exact absurd (Sp hxd hxy) hd
   ·exact h.inv.all x hx hxp d hxd
end
section
variable {S:Nat->List Nat} {at_:Nat->Nat} {par:Nat->Int} {r n:Nat}
def Full(S:Nat->List Nat)(r n:Nat)(par:Nat->Int):Prop:=∀ x,x<n->Rc S r x->par x≠-2
def Exact(S:Nat->List Nat)(r n:Nat)(par:Nat->Int):Prop:=∀ x,x<n->par x≠-2->∀ d,UpTo par x d↔¬ Av S r d x
theorem rc_lt(hS:∀ x,x<n->∀ w∈S x,w<n)(hr:r<n){x:Nat}(h:Rc S r x):x<n:=by
 induction h with
 | root=>exact hr
 | step _ hy ih=>exact hS _ ih _ hy
theorem Better.same{y z:Nat}(h:Better S r n at_ par y z)(hS:∀ x,x<n->∀ w∈S x,w<n)(hrn:r<n)(full:Full S r n par)(hy2:par y≠-2)(ex:Exact S r n par):par y=(z:Int):=by
 obtain⟨hzz,hz2,hzl,hzf⟩:=h.zlt;rcases h.inv.kind y h.hy with h1|h1|⟨q,hq⟩
 ·exact absurd h1 hy2
 ·exact absurd h1 h.hr
 ·obtain⟨q1,q2,q3,q4⟩:=h.inv.up y h.hy q hq
  have key:∀ w,UpTo par z w↔UpTo par q w:=fun w=>by
   rw[h.best w]
   constructor
   ·intro hall
    have hwy:¬ Av S r w y:=fun ha=>by
     cases ha with
     | root _=>exact h.hr rfl
     | @step p _ hp hyp hne=>
      have hpn:=rc_lt hS hrn hp.rc;have hpp:=full p hpn hp.rc;exact(ex p hpn hpp w).1 (hall p hpn hyp hpp) hp
    rcases(anc_up hq).1 ((ex y h.hy hy2 w).2 hwy) with rfl|hu
    ·have:=(h.inv.anc ((h.best _).2 hall) h.hz hz2).2.2.1;omega
    ·exact hu
   ·intro hu p hp hyp hpp;have hwy:UpTo par y w:=.up hq hu;refine(ex p hp hpp w).2 fun ha=>?_
    have hne:y≠w:=by rintro rfl;have:=(h.inv.anc hu q1 q2).2.2.1;omega
    exact(ex y h.hy hy2 w).1 hwy (.step ha hyp hne)
  have:=h.inv.antisymm ((key q).2 (.refl _)) ((key z).1 (.refl _)) h.hz hz2;rw[hq,this]
end
def Gf(t:List Int):Nat->Int:=fun x=>t.getD x 0
theorem parL_set{t:List Int}{y:Nat}{v:Int}(hy:y<t.length):Gf (t.set y v)=Ix (Gf t) y v:=by
 funext x
 unfold Gf Ix
 by_cases e:x=y
 ·subst e;simp[List.getD,hy]
 ·simp[List.getD,e,Ga e]
open Classical in
def R2(S:Nat->List Nat)(n:Nat)(t:List Int)(y:Nat):Nat:=if h:∃ z,z<n/\Best S n (Gf t) y z then Classical.choose h else 0
structure Ordered(S:Nat->List Nat)(r n:Nat)(P:List Nat):Prop where
 hr:r<n
 hS:∀ x,x<n->∀ w∈S x,w<n
 nodup:(r::P).Nodup
 mem:∀ x,x∈r::P↔Rc S r x
 fwd:∀ i,i<P.length->∃ p,p∈r::P.take i/\P.getD i 0∈S p
section
variable {S:Nat->List Nat} {r n:Nat} {P:List Nat}
theorem Ordered.lt(o:Ordered S r n P){x:Nat}(h:x∈r::P):x<n:=rc_lt o.hS o.hr ((o.mem x).1 h)
theorem getD_memP{i:Nat}(hi:i<P.length):P.getD i 0∈P:=by rw[Gh _ _ _ hi];exact Tg hi
theorem Ordered.at_lt(o:Ordered S r n P){i:Nat}(hi:i<P.length){p:Nat}(hp:p∈r::P.take i):pos (r::P) p<pos (r::P) (P.getD i 0):=by
 have hd:=o.nodup
 have h1:pos (r::P) (P.getD i 0)=i+1:=by
  have:=(Zj hd (i:=i+1) (by simpa using hi)).2;rw[Gh _ _ _ hi]
  simpa using this
 rw[h1];obtain⟨j,hj,rfl⟩:=List.getElem_of_mem hp
 have hj':j<i+1:=by simp at hj;omega
 have hjl:j<(r::P).length:=by simp;omega
 have e:(r::P.take i)[j]=(r::P)[j]:=by
  cases j with
  | zero=>rfl
  | succ j=>simp
 rw[e,(Zj hd hjl).2];exact hj'
structure Ready(S:Nat->List Nat)(r n:Nat)(P:List Nat)(t:List Int)(i:Nat):Prop where
 inv:Inv S r n (pos (r::P)) (Gf t)
 len:t.length=n
 done:∀ x∈r::P.take i,Gf t x≠-2
theorem Inv.meets{at_:Nat->Nat}{par:Nat->Int}(h:Inv S r n at_ par)(hinj:∀ x y,x<n->y<n->par x≠-2->par y≠-2->at_ x=at_ y->x=y)(hr:at_ r=0):∀ m a b,at_ a+at_ b<=m->a<n->b<n->par a≠-2->par b≠-2->∃ c,MeetAt par a b c/\c<n/\par c≠-2:=by
 intro m
 induction m with
 | zero=>
  intro a b hm ha hb hpa hpb;have:a=b:=hinj a b ha hb hpa hpb (by omega);subst this;exact⟨a,Xp,ha,hpa⟩
 | succ m ih=>
  have go:∀ a b,at_ a+at_ b<=m+1->a<n->b<n->par a≠-2->par b≠-2->at_ b<=at_ a->∃ c,MeetAt par a b c/\c<n/\par c≠-2:=fun a b hm ha hb hpa hpb hl=>by
   by_cases e:a=b
   ·subst e;exact⟨a,Xp,ha,hpa⟩
   ·rcases h.kind a ha with h1|h1|⟨p,hp⟩
    ·exact absurd h1 hpa
    ·subst h1;exact absurd (hinj a b ha hb hpa hpb (by omega)) e
    ·obtain⟨p1,p2,p3,p4⟩:=h.up a ha p hp;obtain⟨c,hc,hc2⟩:=ih p b (by omega) p1 hb p2 hpb;exact⟨c,h.meet_left hinj ha hpa hb hpb e hl hp hc,hc2⟩
  intro a b hm ha hb hpa hpb;rcases Nat.le_total (at_ b) (at_ a) with hl|hl
  ·exact go a b hm ha hb hpa hpb hl
  ·obtain⟨c,hc,hc2⟩:=go b a (by omega) hb ha hpb hpa hl;exact⟨c,meet_swap hc,hc2⟩
theorem Ready.inj(o:Ordered S r n P){t:List Int}{i:Nat}(h:Ready S r n P t i):∀ x y,x<n->y<n->Gf t x≠-2->Gf t y≠-2->pos (r::P) x=pos (r::P) y->x=y:=fun x y hx hy hpx hpy he=>by
 have hm:∀ x,x<n->Gf t x≠-2->x∈r::P:=fun x hx hp=>(o.mem x).2 (h.inv.rc x hx hp)
 have back:∀ x∈r::P,(r::P).getD (pos (r::P) x) 0=x:=fun x hx=>by
  obtain⟨j,hj,rfl⟩:=List.getElem_of_mem hx;rw[(Zj o.nodup hj).2,Gh _ _ _ hj]
 rw[<- back x (hm x hx hpx),<- back y (hm y hy hpy),he]
theorem pos_root:pos (r::P) r=0:=by rw[Vf,if_pos rfl]
theorem Ready.meetAll(o:Ordered S r n P){t:List Int}{i:Nat}(h:Ready S r n P t i):∀ l:List Nat,(∀ p∈l,p<n/\Gf t p≠-2)->l≠[]->∃ z,z<n/\Gf t z≠-2/\∀ w,UpTo (Gf t) z w↔∀ p∈l,UpTo (Gf t) p w:=by
 intro l
 induction l with
 | nil=>intro _ hn;exact absurd rfl hn
 | cons p l ih=>
  intro hl _;obtain⟨hp1,hp2⟩:=hl p (Ol ..)
  by_cases hl0:l=[]
  ·subst hl0;exact⟨p,hp1,hp2,fun w=>by simp⟩
  ·obtain⟨z,hz1,hz2,hz3⟩:=ih (fun q hq=>hl q (Gs _ hq)) hl0;obtain⟨c,hc1,hc2,hc3⟩:=h.inv.meets (h.inj o) pos_root _ p z (Bw _) hp1 hz1 hp2 hz2;exact⟨c,hc2,hc3,fun w=>by rw[hc1 w,hz3 w];simp⟩
theorem Ready.best(o:Ordered S r n P){t:List Int}{i:Nat}(h:Ready S r n P t i)(hi:i<P.length):Better S r n (pos (r::P)) (Gf t) (P.getD i 0) (R2 S n t (P.getD i 0)):=by
 have hy:=getD_memP hi;have hyr:P.getD i 0≠r:=fun e=>(zzL66.1 o.nodup).1 (e▸hy);have hyn:=o.lt (Gs _ hy);obtain⟨p,hp,hyp⟩:=o.fwd i hi;have hp2:=h.done p hp
 have hpP:p∈r::P:=by
  rcases zzL24.1 hp with rfl|hp
  ·exact Ol ..
  ·exact Gs _ (List.mem_of_mem_take hp)
 have hpn:=o.lt hpP
 have hex:∃ z,z<n/\Best S n (Gf t) (P.getD i 0) z:=by
  classical
  obtain⟨z,hz1,hz2,hz3⟩:=h.meetAll o ((List.range n).filter fun p=>decide (P.getD i 0∈S p/\Gf t p≠-2)) (fun p hp=>by
   obtain⟨h1,h2⟩:=zzL83.1 hp
   exact⟨zzL57.1 h1,(of_decide_eq_true h2).2⟩) (fun e=>by
   have:p∈(List.range n).filter fun p=>decide (P.getD i 0∈S p/\Gf t p≠-2):=zzL83.2 ⟨zzL57.2 hpn,decide_eq_true ⟨hyp,hp2⟩⟩
   rw[e]at this;cases this)
  refine⟨z,hz1,fun w=>?_⟩;rw[hz3 w]
  constructor
  ·intro k p hp hyp hpp;exact k p (zzL83.2 ⟨zzL57.2 hp,decide_eq_true ⟨hyp,hpp⟩⟩)
  ·intro k p hp;obtain⟨h1,h2⟩:=zzL83.1 hp;exact k p (zzL57.1 h1) (of_decide_eq_true h2).1 (of_decide_eq_true h2).2
 have hb:R2 S n t (P.getD i 0)<n/\Best S n (Gf t) (P.getD i 0) (R2 S n t (P.getD i 0)):=by
  unfold R2;rw[dif_pos hex];exact Classical.choose_spec hex
 exact⟨h.inv,hyn,hyr,hb.1,hb.2,p,hpn,hyp,hp2,o.at_lt hi hp⟩
theorem Ready.next(o:Ordered S r n P){t:List Int}{i:Nat}(h:Ready S r n P t i)(hi:i<P.length):Ready S r n P (t.set (P.getD i 0) (R2 S n t (P.getD i 0):Int)) (i+1):=by
 have b:=h.best o hi;have e:=parL_set (t:=t) (y:=P.getD i 0) (v:=(R2 S n t (P.getD i 0):Int)) (by rw[h.len];exact b.hy);refine⟨by rw[e];exact b.inv',by rw[Di];exact h.len,fun x hx=>?_⟩;rw[e];unfold Ix
 split
 ·omega
 ·rename_i hne
  refine h.done x ?_;rcases zzL24.1 hx with rfl|hx
  ·exact Ol ..
  ·rw[List.take_succ_eq_append_getElem hi]at hx;rcases zzL16.1 hx with hx|hx
   ·exact Gs _ hx
   ·rw[zzL19,<- Gh _ _ 0 hi]at hx;exact absurd hx hne
structure DomTree(S:Nat->List Nat)(r n:Nat)(P:List Nat)(t:List Int):Prop where
 inv:Inv S r n (pos (r::P)) (Gf t)
 len:t.length=n
 full:Full S r n (Gf t)
 exact_:Exact S r n (Gf t)
end
section
variable {S:Nat->List Nat} {s s':Nat->Bool} {l o:List Nat}
end
def woI(S:Nat->List Nat)(w:Int):Nat->List Nat:=fun x=>(S x).filter fun y=>decide ((y:Int)≠w)
def reachW(L:List (List Int))(r:Nat)(w:Int):List Bool:=if(r:Int)=w then List.replicate L.length false else rds (woI (sN L) w) L.length ((List.replicate L.length false).set r true) L.length
def overB(L:List (List Int))(r a b:Nat):Bool:=(reachW L r (-1)).getD b false&&!(reachW L r (a:Int)).getD b false
def nearB(L:List (List Int))(r a b:Nat):Bool:=(List.range L.length).all fun c=>decide (c=b) || !overB L r c b || overB L r c a
def pickD(L:List (List Int))(r b:Nat):Nat->Int
 | 0=>-2
 | a+1=>if a≠b/\overB L r a b=true/\nearB L r a b=true then(a:Int) else pickD L r b a
def treeAt(L:List (List Int))(r b:Nat):Int:=if b=r then -1 else pickD L r b L.length
def treeD(L:List (List Int))(r:Nat):List Int:=(List.range L.length).map (treeAt L r)
section
variable {L:List (List Int)} (hm:Wn L=true) {r:Nat} (hr:r<L.length)
include hm hr
omit hr in
omit hr in
omit hm hr in
omit hm hr in
omit hm hr in
omit hr in
omit hr in
end
def treeG(g:Ax)(r:Int):List Int:=if mayG g=true/\0<=r/\r<(g.Succ.length:Int) then treeD g.Succ r.toNat else[]
def upD(t:List Int):Nat->Int->Option (List Int)
 | 0,_=>none
 | k+1,a=>if 0<=a/\a<(t.length:Int) then(if t.getD a.toNat 0 = -1 then some [a] else(upD t k (t.getD a.toNat 0)).map fun l=>a::l) else none
def pathD(t:List Int)(a:Int):List Int:=(upD t t.length a).getD []
def topsK(t:List Int)(k:Nat):Nat:=((List.range k).filter fun a=>decide (t.getD a 0 = -1)).length
def okR(t:List Int)(a:Nat):Bool:=decide (t.getD a 0 = -2) || !decide (pathD t (a:Int)=[])
def rightD(t:List Int):Bool:=(List.range t.length).all (okR t)&&decide (topsK t t.length=1)
def meetD(t:List Int)(a b:Int):Int:=if rightD t=true then((pathD t a).find? fun x=>(pathD t b).contains x).getD (-2) else -2
def overD(t:List Int)(a b:Int):Bool:=meetD t a b==a&&meetD t a b !=-2
section
variable {S:Nat->List Nat} {r n:Nat} {P:List Nat} {t:List Int}
theorem DomTree.up(h:DomTree S r n P t):∀ k x,x<n->Gf t x≠-2->pos (r::P) x<k->∃ q,upD t k (x:Int)=some q/\(∀ w:Int,w∈q↔∃ z:Nat,w=(z:Int)/\UpTo (Gf t) x z) /\
  ∀ p:Int->Bool,(q.find? p=none/\∀ z:Nat,UpTo (Gf t) x z->p (z:Int)=false)\/∃ f:Nat,q.find? p=some (f:Int)/\UpTo (Gf t) x f/\p (f:Int)=true/\∀ z:Nat,UpTo (Gf t) x z->p (z:Int)=true->UpTo (Gf t) f z:=by
 intro k
 induction k with
 | zero=>intro x _ _ hk;exact absurd hk (Nat.not_lt_zero _)
 | succ k ih=>
  intro x hx hp hk
  have hxt:(0:Int)<=(x:Int)/\(x:Int)<(t.length:Int):=by rw[h.len];omega
  unfold upD;rw[if_pos hxt,nat_nat];have hpx:t.getD x 0=Gf t x:=rfl;rw[hpx];rcases h.inv.kind x hx with h1|rfl|⟨z,hz⟩
  ·exact absurd h1 hp
  ·rw[if_pos h.inv.top];refine⟨_,rfl,fun w=>?_,fun p=>?_⟩
   ·rw[zzL19]
    constructor
    ·rintro rfl;exact⟨x,rfl,.refl _⟩
    ·rintro⟨z,rfl,hz⟩;rw[h.inv.root_anc.1 hz]
   ·cases hpp:p (x:Int) with
    | false=>exact .inl ⟨by simp[List.find?,hpp],fun z hz=>by rw[h.inv.root_anc.1 hz];exact hpp⟩
    | true=>exact .inr ⟨x,by simp[List.find?,hpp],.refl _,hpp,fun z hz _=>hz⟩
  ·obtain⟨z1,z2,z3,z4⟩:=h.inv.up x hx z hz;rw[hz,if_neg (by omega)];obtain⟨q,hq1,hq2,hq3⟩:=ih z z1 z2 (by omega);rw[hq1];refine⟨(x:Int)::q,rfl,fun w=>?_,fun p=>?_⟩
   ·rw[zzL24,hq2 w]
    constructor
    ·rintro(rfl|⟨y,rfl,hy⟩)
     ·exact⟨x,rfl,.refl _⟩
     ·exact⟨y,rfl,.up hz hy⟩
    ·rintro⟨y,rfl,hy⟩;rcases(anc_up hz).1 hy with rfl|hy
     ·exact .inl rfl
     ·exact .inr ⟨y,rfl,hy⟩
   ·cases hpp:p (x:Int) with
    | true=>exact .inr ⟨x,by simp[List.find?,hpp],.refl _,hpp,fun y hy _=>hy⟩
    | false=>
     have hf:((x:Int)::q).find? p=q.find? p:=by simp[List.find?,hpp]
     rw[hf];rcases hq3 p with⟨e1,e2⟩|⟨f,e1,e2,e3,e4⟩
     ·refine .inl ⟨e1,fun y hy=>?_⟩;rcases(anc_up hz).1 hy with rfl|hy
      ·exact hpp
      ·exact e2 y hy
     ·refine .inr ⟨f,e1,.up hz e2,e3,fun y hy hpy=>?_⟩;rcases(anc_up hz).1 hy with rfl|hy
      ·rw[hpp]at hpy;cases hpy
      ·exact e4 y hy hpy
end
section
variable {L:List (List Int)} (hm:Wn L=true) {r:Nat} (hr:r<L.length)
include hm hr
end
def reachB0(L:List (List Int)):List Bool:=rds (sN L) L.length ((List.replicate L.length false).set 0 true) L.length
def phiShape(l:List Int)(p:Ab):Bool:=decide (p.From=l)&&((p.Args.length:Int)==(l.length:Int))
def blockShape(L:List (List Int))(b:Aa)(i:Nat):Bool:=(reachB0 L).getD i false&&!((b.End.Kind==1 || b.End.Kind==3)&&(b.End.Arg !=0))&&b.Phis.all (phiShape ((Zl L).getD i []))
def shapeD(f:Ae):Bool:=shapeB f&&(List.range f.Blocks.length).all fun i=>blockShape (rowsF f) (f.Blocks.getD i default) i
def okDef(l:List Tu)(i:Nat):Bool:=valS (l.getD i default).V&&(findD l (l.getD i default).V==(i:Int))
def okFound(l:List Tu)(u:Wf):Bool:=!decide (findD l u.V<0)
def Ss(l:List Tu)(v:Int):Tu:=l.getD (findD l v).toNat default
def okFit(l:List Tu)(u:Wf):Bool:=((Ss l u.V).Shape.1==u.Shape.1)&&(((Ss l u.V).Shape.2==u.Shape.2)&&true)
def okDom(l:List Tu)(t:List Int)(u:Wf):Bool:=
 (decide ((Ss l u.V).Block<0) || ((Ss l u.V).Block==u.Block&&decide ((Ss l u.V).At<u.At))) || (!((Ss l u.V).Block==u.Block)&&!(meetD t (Ss l u.V).Block u.Block !=(Ss l u.V).Block))
def treeF(f:Ae):List Int:=treeG (gOf (rowsF f)) 0
def wrongD(f:Ae)(l:Int):Int:=
 bif !shapeD f then 5 else bif !typedD f l then 6 else bif !(List.range (Su f).length).all (okDef (Su f)) then 7 else bif !(usesF f).all (okFound (Su f)) then 7 else
 bif !(usesF f).all (okFit (Su f)) then 6 else bif !(usesF f).all (okDom (Su f) (treeF f)) then 7 else 0
def Y1(f:Ae)(l:Int):Int:=bif decide (l<0) || decide (2<l) then 1 else bif !mayF f then 4 else wrongD f l
def grow(n d:Int):Int:=bif decide (n<d) then d else n
structure ShapesOf(f:Ae)(s:List (Int×(Int×Int))):Prop where
 none:Y1 f 2≠0->s.length=0
 len:Y1 f 2=0->s.length=(Su f).length
 get:Y1 f 2=0->∀ d∈Su f,Ds ((0:Int),(0:Int)) s d.V=d.Shape
 has:Y1 f 2=0->∀ v,Cx s v=true->∃ d∈Su f,d.V=v
inductive Tp (t:List Int):Nat->Nat->Nat->Prop
 | top {x:Nat} (hx:x<t.length) (h:t.getD x 0 = -1):Tp t x x 0
 | up {x y r k:Nat} (hx:x<t.length) (h:t.getD x 0=(y:Int)) (hk:Tp t y r k):Tp t x r (k+1)
section
variable {t:List Int}
theorem Tp.lt{x r k:Nat}(h:Tp t x r k):x<t.length:=by cases h<;>assumption
theorem Tp.det{x r k r' k':Nat}(h:Tp t x r k)(h':Tp t x r' k'):r=r'/\k=k':=by
 induction h generalizing k' with
 | top hx h=>cases h' with
  | top=>exact⟨rfl,rfl⟩
  | up _ h2 _=>omega
 | up hx h1 _ ih=>cases h' with
  | top _ h2=>omega
  | up _ h2 k2=>
   have:_=_:=h1.symm.trans h2
   cases Int.ofNat.inj this
   obtain⟨e1,e2⟩:=ih k2;exact⟨e1,by omega⟩
theorem Tp.on{x r k z:Nat}(h:Tp t x r k)(hz:UpTo (Gf t) x z):∃ j,j<=k/\Tp t z r j/\(j=k->z=x):=by
 induction hz generalizing k with
 | refl x=>exact⟨k,Bw _,h,fun _=>rfl⟩
 | up hp _ ih=>
  cases h with
  | top _ h2=>have:_=_:=hp.symm.trans h2;omega
  | up _ h2 k2=>
   have:_=_:=hp.symm.trans h2
   cases Int.ofNat.inj this
   obtain⟨j,h1,h3,_⟩:=ih k2;exact⟨j,by omega,h3,fun e=>by omega⟩
theorem Tp.anti{x r k z:Nat}(h:Tp t x r k)(h1:UpTo (Gf t) x z)(h2:UpTo (Gf t) z x):z=x:=by
 obtain⟨j,j1,j2,j3⟩:=h.on h1;obtain⟨i,i1,i2,i3⟩:=j2.on h2;have:=h.det i2;exact j3 (by omega)
theorem Tp.list{x r k:Nat}(h:Tp t x r k):∃ l:List Nat,l.length=k+1/\l.Nodup/\∀ y∈l,y<t.length/\∃ j,j<=k/\Tp t y r j:=by
 induction h with
 | top hx h=>exact⟨[_],rfl,by simp,fun y hy=>by rw[zzL19.1 hy];exact⟨hx,0,Bw _,.top hx h⟩⟩
 | @up x y r k hx h hk ih=>
  obtain⟨l,h1,h2,h3⟩:=ih;refine⟨x::l,by simp[h1],zzL66.2 ⟨fun hm=>?_,h2⟩,fun z hz=>?_⟩
  ·obtain⟨_,j,hj,hj2⟩:=h3 _ hm;have:=(Tp.up hx h hk).det hj2;omega
  ·rcases zzL24.1 hz with rfl|hz
   ·exact⟨hx,k+1,Bw _,.up hx h hk⟩
   ·obtain⟨e1,j,e2,e3⟩:=h3 z hz;exact⟨e1,j,by omega,e3⟩
theorem MeetAt.same{a b r k c d:Nat}(ha:Tp t a r k)(hc:MeetAt (Gf t) a b c)(hd:MeetAt (Gf t) a b d):c=d:=by
 obtain⟨j,_,hj,_⟩:=ha.on ((hc c).1 (.refl _)).1;exact(hj.anti ((hc d).2 ((hd d).1 (.refl _))) ((hd c).2 ((hc c).1 (.refl _)))).symm
end
section
variable {t:List Int}
structure Walks(t:List Int)(r f:Nat)(w:List Int):Prop where
 len:w.length=t.length
 old:∀ y,y<t.length->w.getD y 0≠0->(w.getD y 0<=(f:Int))/\∃ k,Tp t y r k
structure Walk(t:List Int)(r f x:Nat)(w:List Int):Prop where
 len:w.length=t.length
 hx:x<t.length
 old:∀ y,y<t.length->w.getD y 0≠0->w.getD y 0<=(f:Int)/\(∃ k,Tp t y r k)\/w.getD y 0=((f+1:Nat):Int)/\∀ r' k,Tp t x r' k->∃ j,k<j/\Tp t y r' j
 fwd:∀ r' k,Tp t x r' k->∃ j,k<=j/\Tp t f r' j
 back:∀ r' k,Tp t f r' k->∃ j,Tp t x r' j
end
section
variable {t:List Int}
open Classical in
end
section
variable {S:Nat->List Nat} {r n:Nat} {P:List Nat}
end
section
variable {L:List (List Int)} (hm:Wn L=true) {r:Nat} {P:List Nat}
include hm
end
section
variable {L:List (List Int)} (hm:Wn L=true) {r:Nat} {P:List Nat} (o:Ordered (sN L) r L.length P)
include hm o
open Classical in
end
section
variable {f:Ae} (hf:OkF f) (l:Int) (t:List Int) (vs:List (Int×Ak))
include hf
end
section
variable {f:Ae} (l:Int) (vs:List (Int×Ak))
end
abbrev bA(f:Ae)(i:Nat):Aa:=f.Blocks.getD i default
def ton(f:Ae)(i:Nat)(k:Nat):Int:=(bA f i).End.To.getD k 0
structure Rt(f:Ae):Prop where
 lo:1<=f.Blocks.length
 hi:f.Blocks.length<=64
 to:∀ i,i<f.Blocks.length->∀ k,k<(bA f i).End.To.length->0<ton f i k/\ton f i k<f.Blocks.length
 one:∀ i,i<f.Blocks.length->(bA f i).End.Kind=1->(bA f i).End.To.length=1
 two:∀ i,i<f.Blocks.length->(bA f i).End.Kind=2->(bA f i).End.To.length=2
 may:Wn (rowsF f)=true
 ok:OkF f
section
variable {f:Ae} (R:Rt f) {a:Int} {i:Nat} (hi:i<f.Blocks.length) (hk:(bA f i).End.Kind=2)
include R hi hk
end
def lone(e:Ac)(b r:Int):Ae:=⟨[b],r,[⟨[],[],e⟩]⟩
theorem ones{α:Type}(l:List α):(l.map fun _=>1).sum=l.length:=by induction l with|nil=>rfl|cons a l ih=>simp[ih];omega
theorem three_same{s:Bool}{a b:Int}(h:Int.tmod (A8 a) 9=Int.tmod (A8 b) 9):A0 s a=A0 s b:=by
 have hL:Bg a=Bg b:=by
  unfold Bg;rw[h]
 unfold A0;rw[hL,h]
theorem three_all:((List.range 9).all fun n=>(A0 true (n:Int)==some true)&&(A0 false (n:Int)==some true))=true:=by kernel_rfl
theorem three14(s:Bool)(a:Int)(ha:0<=a/\a<256):A0 s a=some true:=by
 have hw:A8 a=a:=Vt (by omega) (by omega)
 have hn:(a % 9).toNat<9:=by omega
 have hw2:A8 (((a % 9).toNat:Nat):Int)=(((a % 9).toNat:Nat):Int):=Vt (by omega) (by omega)
 have e:Int.tmod (A8 a) 9=Int.tmod (A8 (((a % 9).toNat:Nat):Int)) 9:=by
  rw[hw,hw2,Int.tmod_eq_emod_of_nonneg ha.1,Int.tmod_eq_emod_of_nonneg (by omega)];omega
 rw[three_same e];have:=zzL33.1 three_all _ (zzL57.2 hn);rw[B9,Vz,Vz]at this
 cases s
 ·exact this.2
 ·exact this.1
def hitB(L:List (List Int))(s:Nat->Bool)(i:Nat):Bool:=(List.range L.length).any fun j=>(reachW L i (-1)).getD j false&&s j
def goesE(L:List (List Int)):Nat->Nat->Bool
 | 0=>fun k=>(L.getD k []).isEmpty
 | m+1=>fun k=>goesE L m k || (decide (k=m)&&!hitB L (goesE L m) m)
def exitRow(L:List (List Int))(s:Nat->Bool)(k:Nat):List Int:=L.getD k []++(if s k=true then[(L.length:Int)] else[])
def withE(L:List (List Int))(s:Nat->Bool):List (List Int):=(List.range L.length).map (exitRow L s)++[[]]
def exitL(L:List (List Int)):List (List Int):=withE L (goesE L L.length)
def shutL(L:List (List Int)):List Int:=((List.range L.length).filter fun i=>!hitB L (goesE L 0) i).map Int.ofNat
section
variable {L:List (List Int)}
end
section
variable {S T:Nat->List Nat}
variable (hT:∀ x y,y∈T x->x∈S y)
include hT
end
section
variable {L:List (List Int)} (hm:Wn L=true)
include hm
end
def ptreeL(L:List (List Int)):List Int:=treeD (Zl (exitL L)) L.length
structure Facts8:Prop where
 exit:∀(g:Ax),Fits g.Succ->Fits g.Pred->S1 g=some (if mayG g=true/\g.Succ.length<64 then(gOf (exitL g.Succ),0) else(g0,5))
 tree:∀(g:Ax),Fits g.Succ->Fits g.Pred->Aax g=some (if mayG g=true/\g.Succ.length<64 then ptreeL g.Succ else[])
 over:∀(t:List Int) (a b:Int),t.length<=64->Aav t a b=some (overD t a b)
 shut:∀(g:Ax),Fits g.Succ->Fits g.Pred->Aaw g=some (if mayG g=true then shutL g.Succ else[])
section
variable {L:List (List Int)} (hm:Wn L=true) (hn:L.length<64)
include hm hn
end
section
variable {L:List (List Int)}
variable (hm:Wn L=true)
include hm
omit hm in
omit hm in
end
section
variable {L:List (List Int)} (hm:Wn L=true)
include hm
variable (hn:L.length<64)
include hn
end
section
variable {f:Ae} (R:Rt f)
include R
end
end
end Go.Proofs.YtmkiepobhjiabaaGreat
