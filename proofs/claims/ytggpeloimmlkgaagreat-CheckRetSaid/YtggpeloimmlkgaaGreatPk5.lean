/-
  The machine, the program's functions and the laws' arithmetic: part 5 of 7.
-/
import Derived.Test.YtggpeloimmlkgaaGreatPk4
set_option linter.unusedVariables false
set_option linter.unusedSimpArgs false
namespace Go.Proofs.YtggpeloimmlkgaaGreat
noncomputable section
open Go Go.RowKit
set_option maxRecDepth 100000
set_option maxHeartbeats 2000000
def Cu(aX:Int)(aM:Ad):(Int×List Int×Int×List Ad×Int×List Int×List An×List (Int×Aj))→Option (LR (Int×List Int×Int×List Ad×Int×List Int×List An×List (Int×Aj)) ((List Int×Int×List Ad×Int×List Int×List An×List (Int×Aj)) ⊕ (Bool×Ab×Int×List Int×List An×List (Int×Aj)))):=
 fun((i1,l2,i3,l4,i5,l6,l7,l8):(Int×List Int×Int×List Ad×Int×List Int×List An×List (Int×Aj)))=>(bif (decide (i1<(aM.Phis.length:Int))) then(Ba (Bb i1 aM.Phis.length) ((Dw ((aM.Phis.getD i1.toNat default).Bits)).bind fun x17=>((Ew ((aM.Phis.getD i1.toNat default).Dst) x17 (⟨aX,(-1:Int)⟩:Hu) (⟨l2,i3,l4⟩:Ab) i5 l6 l8 l7).bind fun x18=>(bif (!x18.1) then(some (.done (.inr (false,x18.2.1,x18.2.2.1,x18.2.2.2.1,x18.2.2.2.2.1,x18.2.2.2.2.2)))) else(some (.next ((w64 (i1+1)),x18.2.1.Params,x18.2.1.Ret,x18.2.1.Blocks,x18.2.2.1,x18.2.2.2.1,x18.2.2.2.2.1,x18.2.2.2.2.2))))))) else(some (.done (.inl (l2,i3,l4,i5,l6,l7,l8)))))
def B5(aX:Int)(aM:Ad):(Int×List Int×Int×List Ad×Int×List Int×List An×List (Int×Aj))→Option (LR (Int×List Int×Int×List Ad×Int×List Int×List An×List (Int×Aj)) ((List Int×Int×List Ad×Int×List Int×List An×List (Int×Aj)) ⊕ (Bool×Ab×Int×List Int×List An×List (Int×Aj)))):=
 fun((i21,l22,i23,l24,i25,l26,l27,l28):(Int×List Int×Int×List Ad×Int×List Int×List An×List (Int×Aj)))=>(bif (decide (i21<(aM.Ops.length:Int))) then(Ba (Bb i21 aM.Ops.length) ((Ky (aM.Ops.getD i21.toNat default)).bind fun x37=>((bif ((decide (((0:Int):Int)<x37.1))==true) then Ew ((aM.Ops.getD i21.toNat default).Dst) (x37.1,x37.2) (⟨aX,i21⟩:Hu) (⟨l22,i23,l24⟩:Ab) i25 l26 l28 l27 else some (false,(default:Ab),(0:Int),[],[],[])).bind fun x38=>(bif (bif (decide (((0:Int):Int)<x37.1)) then(!x38.1) else false) then(some (.done (.inr (false,(⟨(bif ((decide (((0:Int):Int)<x37.1))==true) then x38.2.1.Params else l22),(bif ((decide (((0:Int):Int)<x37.1))==true) then x38.2.1.Ret else i23),(bif ((decide (((0:Int):Int)<x37.1))==true) then x38.2.1.Blocks else l24)⟩:Ab),(bif ((decide (((0:Int):Int)<x37.1))==true) then x38.2.2.1 else i25),(bif ((decide (((0:Int):Int)<x37.1))==true) then x38.2.2.2.1 else l26),(bif ((decide (((0:Int):Int)<x37.1))==true) then x38.2.2.2.2.1 else l27),(bif ((decide (((0:Int):Int)<x37.1))==true) then x38.2.2.2.2.2 else l28))))) else(some (.next ((w64 (i21+1)),(bif ((decide (((0:Int):Int)<x37.1))==true) then x38.2.1.Params else l22),(bif ((decide (((0:Int):Int)<x37.1))==true) then x38.2.1.Ret else i23),(bif ((decide (((0:Int):Int)<x37.1))==true) then x38.2.1.Blocks else l24),(bif ((decide (((0:Int):Int)<x37.1))==true) then x38.2.2.1 else i25),(bif ((decide (((0:Int):Int)<x37.1))==true) then x38.2.2.2.1 else l26),(bif ((decide (((0:Int):Int)<x37.1))==true) then x38.2.2.2.2.1 else l27),(bif ((decide (((0:Int):Int)<x37.1))==true) then x38.2.2.2.2.2 else l28)))))))) else(some (.done (.inl (l22,i23,l24,i25,l26,l27,l28)))))
def K7(Γ:H0)(aX:Int)(aM:Ad)(a4:Ab)(aA:Int)(aB:List Int)(a9:List (Int×Aj))(a7:List An)(r:(Bool×Ab×Int×List Int×List An×List (Int×Aj))):Exit→St→Prop:=fK Tryz.prog Γ Tryz.f59.results.toList [(Z1 a4.Params a4.Ret a4.Blocks aA aB 9100005 a7),(Nv 37006 104 a7.length),(9100005,.obj (.map true .i64 (mapE (fun(v_:Aj)=>((Z36 v_):AV)) a9)))] (.bool r.1) [(Z1 r.2.1.Params r.2.1.Ret r.2.1.Blocks r.2.2.1 r.2.2.2.1 9100005 r.2.2.2.2.1),(Nv 37006 104 r.2.2.2.2.1.length),(9100005,.obj (.map true .i64 (mapE (fun(v_:Aj)=>((Z36 v_):AV)) r.2.2.2.2.2)))]
def Yx(x37:(Int×Int)):=((decide (((0:Int):Int)<x37.1))==true)
def Q74:=(fun(v_:Aj)=>((Z36 v_):AV))
def Q77(x37:(Int×Int))(x38:(Bool×Ab×Int×List Int×List An×List (Int×Aj)))(l26:List Int):AV:=(Z15 (Yx x37) x38.2.2.2.1 l26)
def Q78(x37:(Int×Int))(x38:(Bool×Ab×Int×List Int×List An×List (Int×Aj)))(l24:List Ad):AV:=(Z50 (Yx x37) x38.2.1.Blocks l24)
def Q76(x37:(Int×Int))(x38:(Bool×Ab×Int×List Int×List An×List (Int×Aj)))(l22:List Int):AV:=(Z15 (Yx x37) x38.2.1.Params l22)
def E2(aX:Int)(aM:Ad)(a4:Ab)(aA:Int)(aB:List Int)(a9:List (Int×Aj))(a7:List An):Option (Bool×Ab×Int×List Int×List An×List (Int×Aj)):=
 ((Ah (Cu aX aM) ((0:Int),a4.Params,a4.Ret,a4.Blocks,aA,aB,a7,a9)).bind (fun x19=>(match x19 with|(.inl (l9,i10,l11,i12,l13,l14,l15))=>((Ah (B5 aX aM) ((0:Int),l9,i10,l11,i12,l13,l14,l15)).bind (fun x39=>(match x39 with|(.inl (l29,i30,l31,i32,l33,l34,l35))=>(some (true,(⟨l29,i30,l31⟩:Ab),i32,l33,l34,l35))|(.inr r41)=>(some r41))))|(.inr r42)=>(some r42))))
theorem Oj(aX:Int)(aM:Ad)(a4:Ab)(aA:Int)(aB:List Int)(a9:List (Int×Aj))(a7:List An)(r:(Bool×Ab×Int×List Int×List An×List (Int×Aj)))(h:E2 aX aM a4 aA aB a9 a7=some r):Spec Tryz.prog 59 [(.ptr 30000 0),(.int .i64 aX),(.agg (A2 aM))] [(30000,.row 59 [(AV.list 1 Ak 0 a4.Params .none),(.int .i64 a4.Ret),(AV.list 5 A2 default a4.Blocks .none),(.int .i64 aA),(AV.list 1 Ak 0 aB .none),(.omap 9100005),(AV.list 5 C6 default a7 (.own 37006))]),(37006,.tok 5 104 a7.length),(9100005,.obj (.map true .i64 (mapE (fun(v_:Aj)=>((.agg (Eu v_)):AV)) a9)))] (.bool r.1) [(30000,.row 59 [(AV.list 1 Ak 0 r.2.1.Params .none),(.int .i64 r.2.1.Ret),(AV.list 5 A2 default r.2.1.Blocks .none),(.int .i64 r.2.2.1),(AV.list 1 Ak 0 r.2.2.2.1 .none),(.omap 9100005),(AV.list 5 C6 default r.2.2.2.2.1 (.own 37006))]),(37006,.tok 5 104 r.2.2.2.2.1.length),(9100005,.obj (.map true .i64 (mapE (fun(v_:Aj)=>((.agg (Eu v_)):AV)) r.2.2.2.2.2)))]:=by
 refine Ae mix Tryz.func59 (fun Γ hq=>?_);unfold E2 at h;refine Ag hq [0,1,5] [5,30000,37006,9100005] ?_;refine Ag hq [0,1,5,14,15,16] [5,30000,37006,9100005] ?_;obtain⟨x19,hx19,h⟩:=bind_some h;refine gL hq hx19 [0,1,5,14,15,16] [5,30000,37006,9100005] (fun u (i1,l2,i3,l4,i5,l6,l7,l8)=>(Dx u [(16,(Z6 i1))] [(Z1 l2 i3 l4 i5 l6 9100005 l7),(Nv 37006 104 l7.length),(9100005,.obj (.map true .i64 (mapE Q74 l8)))])) (fun u x_=>match x_ with|(.inl (l9,i10,l11,i12,l13,l14,l15))=>aG Γ (.exit 0) (Mj [0,1,5] [5,30000,37006,9100005] u [] [(Z1 l9 i10 l11 i12 l13 9100005 l14),(Nv 37006 104 l14.length),(9100005,.obj (.map true .i64 (mapE Q74 l15)))])|(.inr r_)=>aR (K7 Γ aX aM a4 aA aB a9 a7 r_)) ?_ ?_
 ·rintro⟨i1,l2,i3,l4,i5,l6,l7,l8⟩ y h;unfold Cu at h;refine Ag hq [0,1,5,14,15,16,17] [5,30000,37006,9100005] ?_;refine gC h (fun h=>?_) (fun h=>?_)
  ·obtain⟨hc16,h⟩:=Aa h;refine gR hq [0,1,5,8,14,15,16] [5,8,30000,37006,9100005] [] [] (c1 hc16) ?_;obtain⟨x17,hx17,h⟩:=bind_some h;obtain⟨x18,hx18,h⟩:=bind_some h;refine gR hq [0,1,5,14,15,16,29] [5,30000,37006,9100005] [] [⟨[],[],(Z46 x17),[],[]⟩,⟨[(30000,30000),(37006,37006),(9100005,9100005)],[],(.bool x18.1),[(Z1 x18.2.1.Params x18.2.1.Ret x18.2.1.Blocks x18.2.2.1 x18.2.2.2.1 9100005 x18.2.2.2.2.1),(Nv 37006 104 x18.2.2.2.2.1.length),(9100005,.obj (.map true .i64 (mapE Q74 x18.2.2.2.2.2)))],[]⟩] (ci (Jy ((aM.Phis.getD i1.toNat default).Bits) x17 hx17) (c1 (L3 ((aM.Phis.getD i1.toNat default).Dst) x17 (⟨aX,(-1:Int)⟩:Hu) (⟨l2,i3,l4⟩:Ab) i5 l6 l8 l7 x18 hx18))) ?_;refine gC h (fun h=>?_) (fun h=>?_)
   ·refine Ag hq [6] [30000,37006,9100005] ?_;cases h;exact gO (La (I4 [(30000,30000),(37006,37006),(9100005,9100005)] (Le.refl _ _)))
   ·refine Ag hq [0,1,5,14,15,16] [5,30000,37006,9100005] ?_;cases h;exact gN Ct
  ·cases h;exact gO (Br (Ca [0,1,5] [5,30000,37006,9100005] hq))
 ·clear hx19;rcases x19 with⟨l9,i10,l11,i12,l13,l14,l15⟩|r42
  ·refine gA ?_;refine Ag hq [0,1,32,33,34] [30000,37006,9100005] ?_;obtain⟨x39,hx39,h⟩:=bind_some h;refine gL hq hx39 [0,1,32,33,34] [30000,37006,9100005] (fun u (i21,l22,i23,l24,i25,l26,l27,l28)=>(Dx u [(34,(Z6 i21))] [(Z1 l22 i23 l24 i25 l26 9100005 l27),(Nv 37006 104 l27.length),(9100005,.obj (.map true .i64 (mapE Q74 l28)))])) (fun u x_=>match x_ with|(.inl (l29,i30,l31,i32,l33,l34,l35))=>aG Γ (.exit 2) (⟨[],[(Z1 l29 i30 l31 i32 l33 9100005 l34),(Nv 37006 104 l34.length),(9100005,.obj (.map true .i64 (mapE Q74 l35)))],[]⟩:St)|(.inr r_)=>aR (K7 Γ aX aM a4 aA aB a9 a7 r_)) ?_ ?_
   ·rintro⟨i21,l22,i23,l24,i25,l26,l27,l28⟩ y h;unfold B5 at h;refine Ag hq [0,1,32,33,34,35] [30000,37006,9100005] ?_;refine gC h (fun h=>?_) (fun h=>?_)
    ·obtain⟨hc36,h⟩:=Aa h;refine gR hq [0,1,9,10,32,33,34] [10,30000,37006,9100005] [] [] (c1 hc36) ?_;obtain⟨x37,hx37,h⟩:=bind_some h;refine gR hq [0,1,9,10,11,12,32,33,34] [10,30000,37006,9100005] [] [(Z68 x37.1 x37.2)] (c1 (ok_kind_Gives (aM.Ops.getD i21.toNat default) x37 hx37)) ?_;obtain⟨x38,hx38,h⟩:=bind_some h;refine gR hq [0,1,32,33,34,58] [30000,37006,9100005] [] [⟨[(30000,30000),(37006,37006),(9100005,9100005)],[],(.bool x38.1),[(Z1 x38.2.1.Params x38.2.1.Ret x38.2.1.Blocks x38.2.2.1 x38.2.2.2.1 9100005 x38.2.2.2.2.1),(Nv 37006 104 x38.2.2.2.2.1.length),(9100005,.obj (.map true .i64 (mapE Q74 x38.2.2.2.2.2)))],[]⟩] (ci (gI (Yx x37)) (ci (gI (Yx x37)) (ci (gI (Yx x37)) (ci (gI (Yx x37)) (ci (gI (Yx x37)) (ci (gI (Yx x37)) (ci (gI (Yx x37)) (ci (gI (Yx x37)) (ci (gI (Yx x37)) (ci (fun(hg:(Yx x37)=true)=>(L3 ((aM.Ops.getD i21.toNat default).Dst) (x37.1,x37.2) (⟨aX,i21⟩:Hu) (⟨l22,i23,l24⟩:Ab) i25 l26 l28 l27 x38 (Bw hg hx38))) (ci (gI (Yx x37)) (c1 (L2 (decide (((0:Int):Int)<x37.1))))))))))))))) ?_;refine Kw (Le.trans (Ox (fun(k_:List (Int×AV)) u=>Dx u [] [(9100005,.obj (.map true .i64 k_))]) (show(bif (Yx x37) then(mapE Q74 x38.2.2.2.2.2) else(mapE Q74 l28))=(mapE Q74 (bif (Yx x37) then x38.2.2.2.2.2 else l28)) from(bif_mapE rfl rfl))) (Le.trans (leB (fun g_ u=>(Dx u [] [(30000,.row 59 [(Q76 x37 x38 l22),(Z58 (Yx x37) x38.2.1.Ret i23),(Q78 x37 x38 l24),(Z58 (Yx x37) x38.2.2.1 i25),(Q77 x37 x38 l26),(.omap 9100005),(Z27 g_ x38.2.2.2.2.1 l27)]),(37006,.tok 5 104 (bif g_ then x38.2.2.2.2.1.length else l27.length))])) (fun g_ u=>(Dx u [] [(30000,.row 59 [(Q76 x37 x38 l22),(Z58 (Yx x37) x38.2.1.Ret i23),(Q78 x37 x38 l24),(Z58 (Yx x37) x38.2.2.1 i25),(Q77 x37 x38 l26),(.omap 9100005),(AV.list 5 C6 default (bif g_ then x38.2.2.2.2.1 else l27) (.own 37006))]),(37006,.tok 5 104 ((bif g_ then x38.2.2.2.2.1 else l27).length))])) (Yx x37)) (Le.trans (leC 30000 0 (show AVle (Q76 x37 x38 l22) (AV.list 1 Ak 0 (bif (Yx x37) then x38.2.1.Params else l22) .none) from Ij)) (Le.trans (leC 30000 2 (show AVle (Q78 x37 x38 l24) (AV.list 5 A2 default (bif (Yx x37) then x38.2.1.Blocks else l24) .none) from Ij)) (leC 30000 4 (show AVle (Q77 x37 x38 l26) (AV.list 1 Ak 0 (bif (Yx x37) then x38.2.2.2.1 else l26) .none) from Ij)))))) ?_;refine gC h (fun h=>?_) (fun h=>?_)
     ·refine Ag hq [6] [30000,37006,9100005] ?_;cases h;exact gO (La (I4 [(30000,30000),(37006,37006),(9100005,9100005)] (Le.refl _ _)))
     ·refine Ag hq [0,1,32,33,34] [30000,37006,9100005] ?_;cases h;exact gN Ct
    ·cases h;exact gO (Br (Ca [] [30000,37006,9100005] hq))
   ·clear hx39;rcases x39 with⟨l29,i30,l31,i32,l33,l34,l35⟩|r41
    ·refine gA ?_;refine Ag hq [6] [30000,37006,9100005] ?_;cases h;exact C7 [(30000,30000),(37006,37006),(9100005,9100005)]
    ·refine Mr (fun st' hk=>?_);obtain rfl:=OI h;exact gK hk
  ·refine Mr (fun st' hk=>?_);obtain rfl:=OI h;exact gK hk
def Ej(a4:Ab):(Int×List (Int×Aj))→Option (LR (Int×List (Int×Aj)) (List (Int×Aj))):=
 fun((i1,l2):(Int×List (Int×Aj)))=>(bif (decide (i1<(a4.Params.length:Int))) then(Ba (Bb i1 a4.Params.length) ((Dw (a4.Params.getD i1.toNat 0)).bind fun x5=>(some (.next ((w64 (i1+1)),(J4 l2 (w64 (i1+1)) (⟨x5,(⟨(0:Int),(-1:Int)⟩:Hu)⟩:Aj))))))) else(some (.done l2)))
def Df(a4:Ab):(Int×List (Int×Aj)×List Int×Int×List Ad×Int×List Int×List An)→Option (LR (Int×List (Int×Aj)×List Int×Int×List Ad×Int×List Int×List An) ((List (Int×Aj)×List Int×Int×List Ad×Int×List Int×List An) ⊕ (Int×Ab×Int×List Int×List An×List (Int×Aj)))):=
 fun((i8,l9,l10,i11,l12,i13,l14,l15):(Int×List (Int×Aj)×List Int×Int×List Ad×Int×List Int×List An))=>(bif (decide (i8<(a4.Blocks.length:Int))) then(Ba (Bb i8 a4.Blocks.length) ((E2 i8 (a4.Blocks.getD i8.toNat default) (⟨l10,i11,l12⟩:Ab) i13 l14 l9 l15).bind fun x24=>(bif (!x24.1) then(some (.done (.inr ((7:Int),x24.2.1,x24.2.2.1,x24.2.2.2.1,x24.2.2.2.2.1,x24.2.2.2.2.2)))) else(some (.next ((w64 (i8+1)),x24.2.2.2.2.2,x24.2.1.Params,x24.2.1.Ret,x24.2.1.Blocks,x24.2.2.1,x24.2.2.2.1,x24.2.2.2.2.1)))))) else(some (.done (.inl (l9,l10,i11,l12,i13,l14,l15)))))
def Ps(Γ:H0)(a4:Ab)(aA:Int)(aB:List Int)(a7:List An)(r:(Int×Ab×Int×List Int×List An×List (Int×Aj))):Exit→St→Prop:=fK Tryz.prog Γ Tryz.f33.results.toList (Z3 a4.Params a4.Ret a4.Blocks aA aB a7 a7.length) (Z6 r.1) [(Z1 r.2.1.Params r.2.1.Ret r.2.1.Blocks r.2.2.1 r.2.2.2.1 9200005 r.2.2.2.2.1),(Nv 37006 104 r.2.2.2.2.1.length),(9200005,.obj (.map false .i64 (mapE (fun(v_:Aj)=>((Z36 v_):AV)) r.2.2.2.2.2)))]
def Q79:=(fun(v_:Aj)=>((Z36 v_):AV))
def Q80(l16:List (Int×Aj))(l17:List Int)(i18:Int)(l19:List Ad)(i20:Int)(l21:List Int)(l22:List An):List (Nat×Own):=[(8,.obj (.map true .i64 (mapE Q79 l16))),(Z17 l17 i18 l19 i20 l21 l22),(Nv 37006 104 l22.length)]
def Fs(a4:Ab)(aA:Int)(aB:List Int)(a7:List An):Option (Int×Ab×Int×List Int×List An×List (Int×Aj)):=
 ((Ah (Ej a4) ((0:Int),([]:List (Int×Aj)))).bind (fun x6=>((Ah (Df a4) ((0:Int),x6,a4.Params,a4.Ret,a4.Blocks,aA,aB,a7)).bind (fun x25=>(match x25 with|(.inl (l16,l17,i18,l19,i20,l21,l22))=>(some ((0:Int),(⟨l17,i18,l19⟩:Ab),i20,l21,l22,l16))|(.inr r27)=>(some r27))))))
theorem Pk(a4:Ab)(aA:Int)(aB:List Int)(a7:List An)(r:(Int×Ab×Int×List Int×List An×List (Int×Aj)))(h:Fs a4 aA aB a7=some r):Spec Tryz.prog 33 [(.ptr 30000 0)] [(30000,.row 59 [(AV.list 1 Ak 0 a4.Params .none),(.int .i64 a4.Ret),(AV.list 5 A2 default a4.Blocks .none),(.int .i64 aA),(AV.list 1 Ak 0 aB .none),.nilm,(AV.list 5 C6 default a7 (.own 37006))]),(37006,.tok 5 104 a7.length)] (.int .i64 r.1) [(30000,.row 59 [(AV.list 1 Ak 0 r.2.1.Params .none),(.int .i64 r.2.1.Ret),(AV.list 5 A2 default r.2.1.Blocks .none),(.int .i64 r.2.2.1),(AV.list 1 Ak 0 r.2.2.2.1 .none),(.omap 9200005),(AV.list 5 C6 default r.2.2.2.2.1 (.own 37006))]),(37006,.tok 5 104 r.2.2.2.2.1.length),(9200005,.obj (.map false .i64 (mapE (fun(v_:Aj)=>((.agg (Eu v_)):AV)) r.2.2.2.2.2)))]:=by
 refine Ae mix Tryz.func33 (fun Γ hq=>?_);unfold Fs at h;refine Ag hq [0] [30000,37006] ?_;refine Ag hq [0] [8,30000,37006] ?_;refine Kw (Ox (fun(k_:List (Int×AV)) u=>Dx u [] [(8,.obj (.map true .i64 k_))]) (show[]=(mapE Q79 ([]:List (Int×Aj))) from rfl)) ?_;refine Ag hq [0,15,16,17] [8,30000,37006] ?_;obtain⟨x6,hx6,h⟩:=bind_some h;refine gL hq hx6 [0,15,16,17] [8,30000,37006] (fun u (i1,l2)=>(Dx u [(17,(Z6 i1))] [(8,.obj (.map true .i64 (mapE Q79 l2)))])) (fun u l3=>aG Γ (.exit 0) (Mj [0] [8,30000,37006] u [] [(8,.obj (.map true .i64 (mapE Q79 l3)))])) ?_ ?_
 ·rintro⟨i1,l2⟩ y h;unfold Ej at h;refine Ag hq [0,15,16,17,18] [8,30000,37006] ?_;refine gC h (fun h=>?_) (fun h=>?_)
  ·obtain⟨hc4,h⟩:=Aa h;refine gR hq [0,3,4,15,16,17] [8,30000,37006] [] [] (c1 hc4) ?_;obtain⟨x5,hx5,h⟩:=bind_some h;refine gR hq [0,15,16,17] [8,30000,37006] [] [⟨[],[],(Z46 x5),[],[]⟩] (c1 (Jy (a4.Params.getD i1.toNat 0) x5 hx5)) ?_;refine Kw (Ox (fun(k_:List (Int×AV)) u=>Dx u [] [(8,.obj (.map true .i64 k_))]) (show(J4 (mapE Q79 l2) (w64 (i1+1)) (.agg [(Z6 x5.1),(Z6 x5.2),Nd,(.int .i64 (-1:Int))]))=(mapE Q79 (J4 l2 (w64 (i1+1)) (⟨x5,(⟨(0:Int),(-1:Int)⟩:Hu)⟩:Aj))) from(mset_eq (f:=Q79) (l:=l2) (v:=(⟨x5,(⟨(0:Int),(-1:Int)⟩:Hu)⟩:Aj)) rfl rfl))) ?_;refine Ag hq [0,15,16,17] [8,30000,37006] ?_;cases h;exact gN Ct
  ·cases h;exact gO (Br (Ca [0] [8,30000,37006] hq))
 ·clear hx6;refine gA ?_;refine Ag hq [0,37,38,39] [8,30000,37006] ?_;obtain⟨x25,hx25,h⟩:=bind_some h;refine gL hq hx25 [0,37,38,39] [8,30000,37006] (fun u (i8,l9,l10,i11,l12,i13,l14,l15)=>(Dx u [(39,(Z6 i8))] [(8,.obj (.map true .i64 (mapE Q79 l9))),(Z17 l10 i11 l12 i13 l14 l15),(Nv 37006 104 l15.length)])) (fun u x_=>match x_ with|(.inl (l16,l17,i18,l19,i20,l21,l22))=>aG Γ (.exit 2) (⟨[],(Q80 l16 l17 i18 l19 i20 l21 l22),[]⟩:St)|(.inr r_)=>aR (Ps Γ a4 aA aB a7 r_)) ?_ ?_
  ·rintro⟨i8,l9,l10,i11,l12,i13,l14,l15⟩ y h;unfold Df at h;refine Ag hq [0,37,38,39,40] [8,30000,37006] ?_;refine gC h (fun h=>?_) (fun h=>?_)
   ·obtain⟨hc23,h⟩:=Aa h;refine gR hq [0,5,6,37,38,39] [6,8,30000,37006] [] [] (c1 hc23) ?_;obtain⟨x24,hx24,h⟩:=bind_some h;refine gR hq [0,37,38,39,48] [8,30000,37006] [] [⟨[(30000,30000),(37006,37006),(8,9100005)],[],(.bool x24.1),[(Z1 x24.2.1.Params x24.2.1.Ret x24.2.1.Blocks x24.2.2.1 x24.2.2.2.1 9100005 x24.2.2.2.2.1),(Nv 37006 104 x24.2.2.2.2.1.length),(9100005,.obj (.map true .i64 (mapE Q79 x24.2.2.2.2.2)))],[]⟩] (c1 (Oj i8 (a4.Blocks.getD i8.toNat default) (⟨l10,i11,l12⟩:Ab) i13 l14 l9 l15 x24 hx24)) ?_;refine gC h (fun h=>?_) (fun h=>?_)
    ·refine Ag hq [2] [8,30000,37006] ?_;refine Nw (⟨[(2,(.int .i64 (7:Int)))],[(8,.obj (.map true .i64 (mapE Q79 x24.2.2.2.2.2))),(Z17 x24.2.1.Params x24.2.1.Ret x24.2.1.Blocks x24.2.2.1 x24.2.2.2.1 x24.2.2.2.2.1),(Nv 37006 104 x24.2.2.2.2.1.length)],[]⟩:St) ?_;cases h;exact gO (La (I4 [(30000,30000),(37006,37006),(8,9200005)] (Le.trans (le_obj (nm:=8) (.map false .i64 (mapE Q79 x24.2.2.2.2.2)) rfl (fun _ _ _ _ h_=>objAt_nn h_)) (Ca (st':=⟨[(2,(.int .i64 (7:Int)))],[(8,.obj (.map false .i64 (mapE Q79 x24.2.2.2.2.2))),(Z17 x24.2.1.Params x24.2.1.Ret x24.2.1.Blocks x24.2.2.1 x24.2.2.2.1 x24.2.2.2.2.1),(Nv 37006 104 x24.2.2.2.2.1.length)],[]⟩) [2] [8,30000,37006] hq))))
    ·refine Ag hq [0,37,38,39] [8,30000,37006] ?_;cases h;exact gN Ct
   ·cases h;exact gO (Br (Ca [] [8,30000,37006] hq))
  ·clear hx25;rcases x25 with⟨l16,l17,i18,l19,i20,l21,l22⟩|r27
   ·refine gA ?_;refine Ag hq [2] [8,30000,37006] ?_;refine Nw (⟨[(2,Nd)],(Q80 l16 l17 i18 l19 i20 l21 l22),[]⟩:St) ?_;cases h;exact gK (e:=.ret) (I4 [(30000,30000),(37006,37006),(8,9200005)] (Le.trans (le_obj (nm:=8) (.map false .i64 (mapE Q79 l16)) rfl (fun _ _ _ _ h_=>objAt_nn h_)) (Ca (st':=⟨[(2,Nd)],[(8,.obj (.map false .i64 (mapE Q79 l16))),(Z17 l17 i18 l19 i20 l21 l22),(Nv 37006 104 l22.length)],[]⟩) [2] [8,30000,37006] hq)))
   ·refine Mr (fun st' hk=>?_);obtain rfl:=OI h;exact gK hk
def E3(aX:Int)(a4:Ab)(aA:Int)(aB:List Int)(a9:List (Int×Aj))(a7:List An):Option (Hu×Ab×Int×List Int×List An):=
 (Ba (Bb aX a4.Blocks.length) (some ((⟨aX,(((a4.Blocks.getD aX.toNat default).Ops).length:Int)⟩:Hu),a4,aA,aB,a7)))
theorem Kn(aX:Int)(a4:Ab)(aA:Int)(aB:List Int)(a9:List (Int×Aj))(a7:List An)(r:(Hu×Ab×Int×List Int×List An))(h:E3 aX a4 aA aB a9 a7=some r):Spec Tryz.prog 89 [(.ptr 30000 0),(.int .i64 aX)] [(30000,.row 59 [(AV.list 1 Ak 0 a4.Params .none),(.int .i64 a4.Ret),(AV.list 5 A2 default a4.Blocks .none),(.int .i64 aA),(AV.list 1 Ak 0 aB .none),(.omap 9100005),(AV.list 5 C6 default a7 (.own 37006))]),(37006,.tok 5 104 a7.length),(9100005,.obj (.map false .i64 (mapE (fun(v_:Aj)=>((.agg (Eu v_)):AV)) a9)))] (.agg (Y4 r.1)) [(30000,.row 59 [(AV.list 1 Ak 0 r.2.1.Params .none),(.int .i64 r.2.1.Ret),(AV.list 5 A2 default r.2.1.Blocks .none),(.int .i64 r.2.2.1),(AV.list 1 Ak 0 r.2.2.2.1 .none),(.omap 9100005),(AV.list 5 C6 default r.2.2.2.2 (.own 37006))]),(37006,.tok 5 104 r.2.2.2.2.length),(9100005,.obj (.map false .i64 (mapE (fun(v_:Aj)=>((.agg (Eu v_)):AV)) a9)))]:=by
 refine Ae mix Tryz.func89 (fun Γ hq=>?_);unfold E3 at h;refine Ag hq [0,1,4] [4,30000,37006,9100005] ?_;obtain⟨hc1,h⟩:=Aa h;refine gR hq [4] [4,30000,37006,9100005] [] [] (c1 hc1) ?_;cases h;exact C7 [(30000,30000),(37006,37006),(9100005,9100005)]
def D4(aE:Int)(aY:(Int×Int))(aK:Hu)(a4:Ab)(aA:Int)(aB:List Int)(a9:List (Int×Aj))(a7:List An):Option (Ab×Int×List Int×List An):=
 (Ba (a7.length+([(⟨aE,aY,aK⟩:An)]:List An).length≤room) (some (a4,aA,aB,(a7++([(⟨aE,aY,aK⟩:An)]:List An)))))
theorem Ip(aE:Int)(aY:(Int×Int))(aK:Hu)(a4:Ab)(aA:Int)(aB:List Int)(a9:List (Int×Aj))(a7:List An)(r:(Ab×Int×List Int×List An))(h:D4 aE aY aK a4 aA aB a9 a7=some r):Spec Tryz.prog 88 [(.ptr 30000 0),(.int .i64 aE),(.agg (A8 aY)),(.agg (Y4 aK))] [(30000,.row 59 [(AV.list 1 Ak 0 a4.Params .none),(.int .i64 a4.Ret),(AV.list 5 A2 default a4.Blocks .none),(.int .i64 aA),(AV.list 1 Ak 0 aB .none),(.omap 9100005),(AV.list 5 C6 default a7 (.own 37006))]),(37006,.tok 5 104 a7.length),(9100005,.obj (.map false .i64 (mapE (fun(v_:Aj)=>((.agg (Eu v_)):AV)) a9)))] (.tuple []) [(30000,.row 59 [(AV.list 1 Ak 0 r.1.Params .none),(.int .i64 r.1.Ret),(AV.list 5 A2 default r.1.Blocks .none),(.int .i64 r.2.1),(AV.list 1 Ak 0 r.2.2.1 .none),(.omap 9100005),(AV.list 5 C6 default r.2.2.2 (.own 37006))]),(37006,.tok 5 104 r.2.2.2.length),(9100005,.obj (.map false .i64 (mapE (fun(v_:Aj)=>((.agg (Eu v_)):AV)) a9)))]:=by
 refine Ae mix Tryz.func88 (fun Γ hq=>?_);unfold D4 at h;refine Ag hq [0,1,6,7] [6,7,30000,37006,9100005] ?_;obtain⟨hc1,h⟩:=Aa h;refine gR hq [] [30000,37006,9100005] [(17,(AV.list 5 C6 default ([(⟨aE,aY,aK⟩:An)]:List An) .exact)),(18,(AV.list 5 C6 default (a7++([(⟨aE,aY,aK⟩:An)]:List An)) (.own 37006)))] [] (ci (B8 5 C6 (default:An) ([(⟨aE,aY,aK⟩:An)]:List An)) (ci (Eq.refl a7.length) (ci hc1 (ci (J7 5 37006 C6 (default:An) a7 ([(⟨aE,aY,aK⟩:An)]:List An)) (c1 (Gi a7 ([(⟨aE,aY,aK⟩:An)]:List An))))))) ?_;cases h;exact gK (e:=.normal) (I4 [(30000,30000),(37006,37006),(9100005,9100005)] (Le.refl _ _))
def Q81:List (Nat×AV):=[(2,Z28)]
def Kz(a1:Dv):Option (List (Int×Int)):=
 ((Lw a1).bind fun x1=>(bif (!x1) then(some ([]:List (Int×Int))) else((K1 a1).bind fun x2=>(some x2))))
theorem ok_kind_Takes(a1:Dv)(r:List ((Int×Int)))(h:Kz a1=some r):Spec Tryz.prog 90 [(.agg (Mp a1))] [] (AV.list 2 A8 ((0:Int),(0:Int)) r .none) []:=by
 refine Ae mix Tryz.func90 (fun Γ hq=>?_);unfold Kz at h;refine gR hq [1] [1] Q81 [] (c1 (Et 2 A8 ((0:Int),(0:Int)))) ?_;obtain⟨x1,hx1,h⟩:=bind_some h;refine gR hq [1,5] [1] [] [(Z2 x1)] (c1 (Tg a1 x1 hx1)) ?_;refine gC h (fun h=>?_) (fun h=>?_)
 ·refine gR hq [2] [] Q81 [] (c1 (Et 2 A8 ((0:Int),(0:Int)))) ?_;refine Nw (⟨Q81,[],[]⟩:St) ?_;cases h;exact gK (e:=.ret) (I4 [] (show Le Γ _ (⟨[(2,(AV.list 2 A8 ((0:Int),(0:Int)) ([]:List (Int×Int)) .none))],[],[]⟩:St) from Le.trans (Ca (st':=⟨Q81,[],[]⟩) [2] [] hq) (H3 (.cons AVle.untag .nil) .nil)))
 ·obtain⟨x2,hx2,h⟩:=bind_some h;refine gR hq [2] [] [] [(Z5 x2)] (c1 (U6 a1 x2 hx2)) ?_;obtain rfl:=OI h;exact C7 []
def Da(a4:Ab)(a9:List (Int×Aj))(i1:Int)(i21:Int):(Int×List Int×Int×List Ad×Int×List Int×List An)→Option (LR (Int×List Int×Int×List Ad×Int×List Int×List An) (List Int×Int×List Ad×Int×List Int×List An)):=
 fun((i35,l36,i37,l38,i39,l40,l41):(Int×List Int×Int×List Ad×Int×List Int×List An))=>(bif (decide (i35<(((((a4.Blocks.getD i1.toNat default).Phis).getD i21.toNat default).Args).length:Int))) then(Ba (Bb i35 ((((a4.Blocks.getD i1.toNat default).Phis).getD i21.toNat default).Args).length) ((Dw ((((a4.Blocks.getD i1.toNat default).Phis).getD i21.toNat default).Bits)).bind fun x49=>(Ba (Bb i35 ((((a4.Blocks.getD i1.toNat default).Phis).getD i21.toNat default).From).length) ((E3 (((((a4.Blocks.getD i1.toNat default).Phis).getD i21.toNat default).From).getD i35.toNat 0) (⟨l36,i37,l38⟩:Ab) i39 l40 a9 l41).bind fun x51=>((D4 (((((a4.Blocks.getD i1.toNat default).Phis).getD i21.toNat default).Args).getD i35.toNat 0) x49 x51.1 x51.2.1 x51.2.2.1 x51.2.2.2.1 a9 x51.2.2.2.2).bind fun x52=>(some (.next ((w64 (i35+1)),x52.1.Params,x52.1.Ret,x52.1.Blocks,x52.2.1,x52.2.2.1,x52.2.2.2)))))))) else(some (.done (l36,i37,l38,i39,l40,l41))))
def Db(a4:Ab)(a9:List (Int×Aj))(i1:Int):(Int×List Int×Int×List Ad×Int×List Int×List An)→Option (LR (Int×List Int×Int×List Ad×Int×List Int×List An) (List Int×Int×List Ad×Int×List Int×List An)):=
 fun((i21,l22,i23,l24,i25,l26,l27):(Int×List Int×Int×List Ad×Int×List Int×List An))=>(bif (decide (i21<(((a4.Blocks.getD i1.toNat default).Phis).length:Int))) then(Ba (Bb i21 ((a4.Blocks.getD i1.toNat default).Phis).length) ((Ah (Da a4 a9 i1 i21) ((0:Int),l22,i23,l24,i25,l26,l27)).bind (fun(l42,i43,l44,i45,l46,l47)=>(some (.next ((w64 (i21+1)),l42,i43,l44,i45,l46,l47)))))) else(some (.done (l22,i23,l24,i25,l26,l27))))
def Dc(a4:Ab)(a9:List (Int×Aj))(i1:Int)(i57:Int)(x71:List ((Int×Int))):(Int×List Int×Int×List Ad×Int×List Int×List An)→Option (LR (Int×List Int×Int×List Ad×Int×List Int×List An) (List Int×Int×List Ad×Int×List Int×List An)):=
 fun((i72,l73,i74,l75,i76,l77,l78):(Int×List Int×Int×List Ad×Int×List Int×List An))=>(bif (decide (i72<(x71.length:Int))) then(Ba (Bb i72 x71.length) (Ba (Bb i72 ((((a4.Blocks.getD i1.toNat default).Ops).getD i57.toNat default).Args).length) ((D4 (((((a4.Blocks.getD i1.toNat default).Ops).getD i57.toNat default).Args).getD i72.toNat 0) (x71.getD i72.toNat ((0:Int),(0:Int))) (⟨i1,i57⟩:Hu) (⟨l73,i74,l75⟩:Ab) i76 l77 a9 l78).bind fun x87=>(some (.next ((w64 (i72+1)),x87.1.Params,x87.1.Ret,x87.1.Blocks,x87.2.1,x87.2.2.1,x87.2.2.2)))))) else(some (.done (l73,i74,l75,i76,l77,l78))))
def Dd(a4:Ab)(a9:List (Int×Aj))(i1:Int):(Int×List Int×Int×List Ad×Int×List Int×List An)→Option (LR (Int×List Int×Int×List Ad×Int×List Int×List An) (List Int×Int×List Ad×Int×List Int×List An)):=
 fun((i57,l58,i59,l60,i61,l62,l63):(Int×List Int×Int×List Ad×Int×List Int×List An))=>(bif (decide (i57<(((a4.Blocks.getD i1.toNat default).Ops).length:Int))) then(Ba (Bb i57 ((a4.Blocks.getD i1.toNat default).Ops).length) ((Kz (((a4.Blocks.getD i1.toNat default).Ops).getD i57.toNat default)).bind fun x71=>((Ah (Dc a4 a9 i1 i57 x71) ((0:Int),l58,i59,l60,i61,l62,l63)).bind (fun(l79,i80,l81,i82,l83,l84)=>(some (.next ((w64 (i57+1)),l79,i80,l81,i82,l83,l84))))))) else(some (.done (l58,i59,l60,i61,l62,l63))))
def De(a4:Ab)(a9:List (Int×Aj)):(Int×List Int×Int×List Ad×Int×List Int×List An)→Option (LR (Int×List Int×Int×List Ad×Int×List Int×List An) (List Int×Int×List Ad×Int×List Int×List An)):=
 fun((i1,l2,i3,l4,i5,l6,l7):(Int×List Int×Int×List Ad×Int×List Int×List An))=>(bif (decide (i1<(a4.Blocks.length:Int))) then(Option.bind (α:=(List Int×Int×List Ad×Int×List Int×List An)) (Ba (Bb i1 a4.Blocks.length) ((Ah (Db a4 a9 i1) ((0:Int),l2,i3,l4,i5,l6,l7)).bind (fun x55=>(match x55 with|(l28,i29,l30,i31,l32,l33)=>((Ah (Dd a4 a9 i1) ((0:Int),l28,i29,l30,i31,l32,l33)).bind (fun x90=>(match x90 with|(l64,i65,l66,i67,l68,l69)=>(bif (((a4.Blocks.getD i1.toNat default).End.Kind:Int)==0) then((Dw i65).bind fun x92=>((E3 i1 (⟨l64,i65,l66⟩:Ab) i67 l68 a9 l69).bind fun x93=>((D4 ((a4.Blocks.getD i1.toNat default).End.Arg) x92 x93.1 x93.2.1 x93.2.2.1 x93.2.2.2.1 a9 x93.2.2.2.2).bind fun x94=>(some (x94.1.Params,x94.1.Ret,x94.1.Blocks,x94.2.1,x94.2.2.1,x94.2.2.2))))) else(bif (((a4.Blocks.getD i1.toNat default).End.Kind:Int)==2) then((Dw (1:Int)).bind fun x95=>((E3 i1 (⟨l64,i65,l66⟩:Ab) i67 l68 a9 l69).bind fun x96=>((D4 ((a4.Blocks.getD i1.toNat default).End.Arg) x95 x96.1 x96.2.1 x96.2.2.1 x96.2.2.2.1 a9 x96.2.2.2.2).bind fun x97=>(some (x97.1.Params,x97.1.Ret,x97.1.Blocks,x97.2.1,x97.2.2.1,x97.2.2.2))))) else(some (l64,i65,l66,i67,l68,l69))))))))))) (fun x98=>(match x98 with|(l14,i15,l16,i17,l18,l19)=>(some (.next ((w64 (i1+1)),l14,i15,l16,i17,l18,l19)))))) else(some (.done (l2,i3,l4,i5,l6,l7))))
def Q83(a4:Ab)(i1:Int):=(a4.Blocks.getD i1.toNat default)
def Q82(a9:List (Int×Aj)):=(mapE (fun(v_:Aj)=>((Z36 v_):AV)) a9)
def Fq(a4:Ab)(aA:Int)(aB:List Int)(a9:List (Int×Aj))(a7:List An):Option (Ab×Int×List Int×List An):=
 ((Ah (De a4 a9) ((0:Int),a4.Params,a4.Ret,a4.Blocks,aA,aB,a7)).bind (fun(l8,i9,l10,i11,l12,l13)=>(some ((⟨l8,i9,l10⟩:Ab),i11,l12,l13))))
theorem Pj(a4:Ab)(aA:Int)(aB:List Int)(a9:List (Int×Aj))(a7:List An)(r:(Ab×Int×List Int×List An))(h:Fq a4 aA aB a9 a7=some r):Spec Tryz.prog 60 [(.ptr 30000 0)] [(30000,.row 59 [(AV.list 1 Ak 0 a4.Params .none),(.int .i64 a4.Ret),(AV.list 5 A2 default a4.Blocks .none),(.int .i64 aA),(AV.list 1 Ak 0 aB .none),(.omap 9100005),(AV.list 5 C6 default a7 (.own 37006))]),(37006,.tok 5 104 a7.length),(9100005,.obj (.map false .i64 (mapE (fun(v_:Aj)=>((.agg (Eu v_)):AV)) a9)))] (.tuple []) [(30000,.row 59 [(AV.list 1 Ak 0 r.1.Params .none),(.int .i64 r.1.Ret),(AV.list 5 A2 default r.1.Blocks .none),(.int .i64 r.2.1),(AV.list 1 Ak 0 r.2.2.1 .none),(.omap 9100005),(AV.list 5 C6 default r.2.2.2 (.own 37006))]),(37006,.tok 5 104 r.2.2.2.length),(9100005,.obj (.map false .i64 (mapE (fun(v_:Aj)=>((.agg (Eu v_)):AV)) a9)))]:=by
 refine Ae mix Tryz.func60 (fun Γ hq=>?_);unfold Fq at h;refine Ag hq [0,16,17,18] [30000,37006,9100005] ?_;obtain⟨x100,hx100,h⟩:=bind_some h;refine gL hq hx100 [0,16,17,18] [30000,37006,9100005] (fun u (i1,l2,i3,l4,i5,l6,l7)=>(Dx u [(18,(Z6 i1))] (Z12 l2 i3 l4 i5 l6 l7 l7.length))) (fun u (l8,i9,l10,i11,l12,l13)=>aG Γ (.exit 0) (Mj [] [30000,37006,9100005] u [] (Z12 l8 i9 l10 i11 l12 l13 l13.length))) ?_ ?_
 ·rintro⟨i1,l2,i3,l4,i5,l6,l7⟩ y h;unfold De at h;refine Ag hq [0,16,17,18,19] [30000,37006,9100005] ?_;refine gC h (fun h=>?_) (fun h=>?_)
  ·obtain⟨x98,hx98,h⟩:=bind_some h;refine gJ hx98 (fun(l14,i15,l16,i17,l18,l19)=>aG Γ .normal (⟨[(0,(.ptr 30000 0)),(16,(Z21 a4.Blocks)),(17,(Z42 a4.Blocks.length)),(18,(Z6 i1))],(Z14 l14 i15 l16 i17 l18 9100005 l19 l19.length (Q82 a9)),[]⟩:St)) ?_ ?_
   ·clear h hx98;intro y h;obtain⟨hc20,h⟩:=Aa h;refine gR hq [0,2,3,16,17,18] [3,30000,37006,9100005] [] [] (c1 hc20) ?_;refine Ag hq [0,2,3,16,17,18,24,25,26] [3,30000,37006,9100005] ?_;obtain⟨x55,hx55,h⟩:=bind_some h;refine gL hq hx55 [0,2,3,16,17,18,24,25,26] [3,30000,37006,9100005] (fun u (i21,l22,i23,l24,i25,l26,l27)=>(Dx u [(26,(Z6 i21))] (Z12 l22 i23 l24 i25 l26 l27 l27.length))) (fun u (l28,i29,l30,i31,l32,l33)=>aG Γ (.exit 2) (Mj [0,2,3,16,17,18] [3,30000,37006,9100005] u [] (Z12 l28 i29 l30 i31 l32 l33 l33.length))) ?_ ?_
    ·rintro⟨i21,l22,i23,l24,i25,l26,l27⟩ y h;unfold Db at h;refine Ag hq [0,2,3,16,17,18,24,25,26,27] [3,30000,37006,9100005] ?_;refine gC h (fun h=>?_) (fun h=>?_)
     ·obtain⟨hc34,h⟩:=Aa h;refine gR hq [0,2,3,5,16,17,18,24,25,26] [3,5,30000,37006,9100005] [] [] (c1 hc34) ?_;refine Ag hq [0,2,3,5,16,17,18,24,25,26,31,32,33] [3,5,30000,37006,9100005] ?_;obtain⟨x53,hx53,h⟩:=bind_some h;refine gL hq hx53 [0,2,3,5,16,17,18,24,25,26,31,32,33] [3,5,30000,37006,9100005] (fun u (i35,l36,i37,l38,i39,l40,l41)=>(Dx u [(33,(Z6 i35))] (Z12 l36 i37 l38 i39 l40 l41 l41.length))) (fun u (l42,i43,l44,i45,l46,l47)=>aG Γ (.exit 4) (Mj [0,2,3,16,17,18,24,25,26] [3,30000,37006,9100005] u [] (Z12 l42 i43 l44 i45 l46 l47 l47.length))) ?_ ?_
      ·rintro⟨i35,l36,i37,l38,i39,l40,l41⟩ y h;unfold Da at h;refine Ag hq [0,2,3,5,16,17,18,24,25,26,31,32,33,34] [3,5,30000,37006,9100005] ?_;refine gC h (fun h=>?_) (fun h=>?_)
       ·obtain⟨hc48,h⟩:=Aa h;refine gR hq [0,2,3,5,6,7,16,17,18,24,25,26,31,32,33] [3,5,30000,37006,9100005] [] [] (c1 hc48) ?_;obtain⟨x49,hx49,h⟩:=bind_some h;obtain⟨hc50,h⟩:=Aa h;obtain⟨x51,hx51,h⟩:=bind_some h;obtain⟨x52,hx52,h⟩:=bind_some h;refine gR hq [0,2,3,5,16,17,18,24,25,26,31,32,33] [3,5,30000,37006,9100005] [] [⟨[],[],(Z46 x49),[],[]⟩,(Z44 x51.1 x51.2.1.Params x51.2.1.Ret x51.2.1.Blocks x51.2.2.1 x51.2.2.2.1 x51.2.2.2.2 x51.2.2.2.2.length (Q82 a9)),(Z10 x52.1.Params x52.1.Ret x52.1.Blocks x52.2.1 x52.2.2.1 x52.2.2.2 x52.2.2.2.length (Q82 a9))] (ci (Jy ((((Q83 a4 i1).Phis).getD i21.toNat default).Bits) x49 hx49) (ci hc50 (ci (Kn (((((Q83 a4 i1).Phis).getD i21.toNat default).From).getD i35.toNat 0) (⟨l36,i37,l38⟩:Ab) i39 l40 a9 l41 x51 hx51) (c1 (Ip (((((Q83 a4 i1).Phis).getD i21.toNat default).Args).getD i35.toNat 0) x49 x51.1 x51.2.1 x51.2.2.1 x51.2.2.2.1 a9 x51.2.2.2.2 x52 hx52))))) ?_;refine Ag hq [0,2,3,5,16,17,18,24,25,26,31,32,33] [3,5,30000,37006,9100005] ?_;cases h;exact gN Ct
       ·cases h;exact gO (Br (Ca [0,2,3,16,17,18,24,25,26] [3,30000,37006,9100005] hq))
      ·clear hx53;rcases x53 with⟨l42,i43,l44,i45,l46,l47⟩;refine gA ?_;refine Ag hq [0,2,3,16,17,18,24,25,26] [3,30000,37006,9100005] ?_;cases h;exact gN Ct
     ·cases h;exact gO (Br (Ca [0,2,3,16,17,18] [3,30000,37006,9100005] hq))
    ·clear hx55;rcases x55 with⟨l28,i29,l30,i31,l32,l33⟩;refine gA ?_;refine Ag hq [0,2,3,16,17,18,54,55,56] [3,30000,37006,9100005] ?_;obtain⟨x90,hx90,h⟩:=bind_some h;refine gL hq hx90 [0,2,3,16,17,18,54,55,56] [3,30000,37006,9100005] (fun u (i57,l58,i59,l60,i61,l62,l63)=>(Dx u [(56,(Z6 i57))] (Z12 l58 i59 l60 i61 l62 l63 l63.length))) (fun u (l64,i65,l66,i67,l68,l69)=>aG Γ (.exit 6) (Mj [0,2,3,16,17,18] [3,30000,37006,9100005] u [] (Z12 l64 i65 l66 i67 l68 l69 l69.length))) ?_ ?_
     ·rintro⟨i57,l58,i59,l60,i61,l62,l63⟩ y h;unfold Dd at h;refine Ag hq [0,2,3,16,17,18,54,55,56,57] [3,30000,37006,9100005] ?_;refine gC h (fun h=>?_) (fun h=>?_)
      ·obtain⟨hc70,h⟩:=Aa h;refine gR hq [0,2,3,8,9,16,17,18,54,55,56] [3,9,30000,37006,9100005] [] [] (c1 hc70) ?_;obtain⟨x71,hx71,h⟩:=bind_some h;refine gR hq [0,2,3,8,9,16,17,18,54,55,56,62,63,64] [3,9,30000,37006,9100005] [] [(Z5 x71)] (c1 (ok_kind_Takes (((Q83 a4 i1).Ops).getD i57.toNat default) x71 hx71)) ?_;obtain⟨x88,hx88,h⟩:=bind_some h;refine gL hq hx88 [0,2,3,8,9,16,17,18,54,55,56,62,63,64] [3,9,30000,37006,9100005] (fun u (i72,l73,i74,l75,i76,l77,l78)=>(Dx u [(64,(Z6 i72))] (Z12 l73 i74 l75 i76 l77 l78 l78.length))) (fun u (l79,i80,l81,i82,l83,l84)=>aG Γ (.exit 8) (Mj [0,2,3,16,17,18,54,55,56] [3,30000,37006,9100005] u [] (Z12 l79 i80 l81 i82 l83 l84 l84.length))) ?_ ?_
       ·rintro⟨i72,l73,i74,l75,i76,l77,l78⟩ y h;unfold Dc at h;refine Ag hq [0,2,3,8,9,16,17,18,54,55,56,62,63,64,65] [3,9,30000,37006,9100005] ?_;refine gC h (fun h=>?_) (fun h=>?_)
        ·obtain⟨hc85,h⟩:=Aa h;refine gR hq [0,2,3,8,9,10,11,16,17,18,54,55,56,62,63,64] [3,9,11,30000,37006,9100005] [] [] (c1 hc85) ?_;obtain⟨hc86,h⟩:=Aa h;obtain⟨x87,hx87,h⟩:=bind_some h;refine gR hq [0,2,3,8,9,16,17,18,54,55,56,62,63,64] [3,9,30000,37006,9100005] [] [(Z10 x87.1.Params x87.1.Ret x87.1.Blocks x87.2.1 x87.2.2.1 x87.2.2.2 x87.2.2.2.length (Q82 a9))] (ci hc86 (c1 (Ip (((((Q83 a4 i1).Ops).getD i57.toNat default).Args).getD i72.toNat 0) (x71.getD i72.toNat ((0:Int),(0:Int))) (⟨i1,i57⟩:Hu) (⟨l73,i74,l75⟩:Ab) i76 l77 a9 l78 x87 hx87))) ?_;refine Ag hq [0,2,3,8,9,16,17,18,54,55,56,62,63,64] [3,9,30000,37006,9100005] ?_;cases h;exact gN Ct
        ·cases h;exact gO (Br (Ca [0,2,3,16,17,18,54,55,56] [3,30000,37006,9100005] hq))
       ·clear hx88;rcases x88 with⟨l79,i80,l81,i82,l83,l84⟩;refine gA ?_;refine Ag hq [0,2,3,16,17,18,54,55,56] [3,30000,37006,9100005] ?_;cases h;exact gN Ct
      ·cases h;exact gO (Br (Ca [0,2,3,16,17,18] [3,30000,37006,9100005] hq))
     ·clear hx90;rcases x90 with⟨l64,i65,l66,i67,l68,l69⟩;refine gA ?_;refine Ag hq [0,2,3,16,17,18,84] [3,30000,37006,9100005] ?_;refine Ag hq [0,2,3,16,17,18,84,85] [3,30000,37006,9100005] ?_;refine gC h (fun h=>?_) (fun h=>?_)
      ·obtain⟨x92,hx92,h⟩:=bind_some h;obtain⟨x93,hx93,h⟩:=bind_some h;obtain⟨x94,hx94,h⟩:=bind_some h;refine gR hq [0,16,17,18] [30000,37006,9100005] [] [⟨[],[],(Z46 x92),[],[]⟩,(Z44 x93.1 x93.2.1.Params x93.2.1.Ret x93.2.1.Blocks x93.2.2.1 x93.2.2.2.1 x93.2.2.2.2 x93.2.2.2.2.length (Q82 a9)),(Z10 x94.1.Params x94.1.Ret x94.1.Blocks x94.2.1 x94.2.2.1 x94.2.2.2 x94.2.2.2.length (Q82 a9))] (ci (Jy i65 x92 hx92) (ci (Kn i1 (⟨l64,i65,l66⟩:Ab) i67 l68 a9 l69 x93 hx93) (c1 (Ip ((Q83 a4 i1).End.Arg) x92 x93.1 x93.2.1 x93.2.2.1 x93.2.2.2.1 a9 x93.2.2.2.2 x94 hx94)))) ?_;cases h;exact gK (Br Ct)
      ·refine Ag hq [0,2,3,16,17,18,101] [3,30000,37006,9100005] ?_;refine gC h (fun h=>?_) (fun h=>?_)
       ·obtain⟨x95,hx95,h⟩:=bind_some h;obtain⟨x96,hx96,h⟩:=bind_some h;obtain⟨x97,hx97,h⟩:=bind_some h;refine gR hq [0,16,17,18] [30000,37006,9100005] [] [⟨[],[],(Z46 x95),[],[]⟩,(Z44 x96.1 x96.2.1.Params x96.2.1.Ret x96.2.1.Blocks x96.2.2.1 x96.2.2.2.1 x96.2.2.2.2 x96.2.2.2.2.length (Q82 a9)),(Z10 x97.1.Params x97.1.Ret x97.1.Blocks x97.2.1 x97.2.2.1 x97.2.2.2 x97.2.2.2.length (Q82 a9))] (ci (Jy (1:Int) x95 hx95) (ci (Kn i1 (⟨l64,i65,l66⟩:Ab) i67 l68 a9 l69 x96 hx96) (c1 (Ip ((Q83 a4 i1).End.Arg) x95 x96.1 x96.2.1 x96.2.2.1 x96.2.2.2.1 a9 x96.2.2.2.2 x97 hx97)))) ?_;cases h;exact gK (Br Ct)
       ·cases h;exact gK (Br (Ca [0,16,17,18] [30000,37006,9100005] hq))
   ·clear hx98;rcases x98 with⟨l14,i15,l16,i17,l18,l19⟩;refine gA ?_;refine Ag hq [0,16,17,18] [30000,37006,9100005] ?_;cases h;exact gN Ct
  ·cases h;exact gO (Br (Ca [] [30000,37006,9100005] hq))
 ·clear hx100;rcases x100 with⟨l8,i9,l10,i11,l12,l13⟩;refine gA' (fun st' hl101=>?_);cases h;exact gK (e:=.normal) (I4 [(30000,30000),(37006,37006),(9100005,9100005)] hl101)
def Hl(aN:An)(a4:Ab)(aA:Int)(aB:List Int)(a9:List (Int×Aj))(a7:List An):Option (Bool×Ab×Int×List Int×List An):=
 (some ((Gh a9 aN.v),a4,aA,aB,a7))
theorem Pm(aN:An)(a4:Ab)(aA:Int)(aB:List Int)(a9:List (Int×Aj))(a7:List An)(r:(Bool×Ab×Int×List Int×List An))(h:Hl aN a4 aA aB a9 a7=some r):Spec Tryz.prog 61 [(.ptr 30000 0),(.agg (C6 aN))] [(30000,.row 59 [(AV.list 1 Ak 0 a4.Params .none),(.int .i64 a4.Ret),(AV.list 5 A2 default a4.Blocks .none),(.int .i64 aA),(AV.list 1 Ak 0 aB .none),(.omap 9100005),(AV.list 5 C6 default a7 (.own 37006))]),(37006,.tok 5 104 a7.length),(9100005,.obj (.map false .i64 (mapE (fun(v_:Aj)=>((.agg (Eu v_)):AV)) a9)))] (.bool r.1) [(30000,.row 59 [(AV.list 1 Ak 0 r.2.1.Params .none),(.int .i64 r.2.1.Ret),(AV.list 5 A2 default r.2.1.Blocks .none),(.int .i64 r.2.2.1),(AV.list 1 Ak 0 r.2.2.2.1 .none),(.omap 9100005),(AV.list 5 C6 default r.2.2.2.2 (.own 37006))]),(37006,.tok 5 104 r.2.2.2.2.length),(9100005,.obj (.map false .i64 (mapE (fun(v_:Aj)=>((.agg (Eu v_)):AV)) a9)))]:=by
 refine Ae mix Tryz.func61 (fun Γ hq=>?_);unfold Hl at h;refine Ag hq [0,3] [3,30000,37006,9100005] ?_;refine gR hq [6] [30000,37006,9100005] [(14,(.tuple [(Z32 a9 aN.v),(.bool (Gh a9 aN.v))]))] [] (c1 (show(AVle (.tuple [Fh (.agg [Nd,Nd,Nd,Nd]) (mapE (fun(v_:Aj)=>((Z36 v_):AV)) a9) aN.v,.bool (Gh (mapE (fun(v_:Aj)=>((Z36 v_):AV)) a9) aN.v)]) (.tuple [(Z32 a9 aN.v),(.bool (Gh a9 aN.v))])) from(mlook_le (f:=(fun(v_:Aj)=>((Z36 v_):AV))) (l:=a9) (AVle.refl _) rfl))) ?_;refine Ag hq [4] [30000,37006,9100005] ?_;cases h;exact C7 [(30000,30000),(37006,37006),(9100005,9100005)]
def Io(aN:An)(a4:Ab)(aA:Int)(aB:List Int)(a9:List (Int×Aj))(a7:List An):Option (Bool×Ab×Int×List Int×List An):=
 (some (((((Fh (default:Aj) a9 aN.v).shape.1:Int)==aN.shape.1)&&((((Fh (default:Aj) a9 aN.v).shape.2:Int)==aN.shape.2)&&true)),a4,aA,aB,a7))
theorem R5(aN:An)(a4:Ab)(aA:Int)(aB:List Int)(a9:List (Int×Aj))(a7:List An)(r:(Bool×Ab×Int×List Int×List An))(h:Io aN a4 aA aB a9 a7=some r):Spec Tryz.prog 62 [(.ptr 30000 0),(.agg (C6 aN))] [(30000,.row 59 [(AV.list 1 Ak 0 a4.Params .none),(.int .i64 a4.Ret),(AV.list 5 A2 default a4.Blocks .none),(.int .i64 aA),(AV.list 1 Ak 0 aB .none),(.omap 9100005),(AV.list 5 C6 default a7 (.own 37006))]),(37006,.tok 5 104 a7.length),(9100005,.obj (.map false .i64 (mapE (fun(v_:Aj)=>((.agg (Eu v_)):AV)) a9)))] (.bool r.1) [(30000,.row 59 [(AV.list 1 Ak 0 r.2.1.Params .none),(.int .i64 r.2.1.Ret),(AV.list 5 A2 default r.2.1.Blocks .none),(.int .i64 r.2.2.1),(AV.list 1 Ak 0 r.2.2.2.1 .none),(.omap 9100005),(AV.list 5 C6 default r.2.2.2.2 (.own 37006))]),(37006,.tok 5 104 r.2.2.2.2.length),(9100005,.obj (.map false .i64 (mapE (fun(v_:Aj)=>((.agg (Eu v_)):AV)) a9)))]:=by
 refine Ae mix Tryz.func62 (fun Γ hq=>?_);unfold Io at h;refine Ag hq [0,3] [3,30000,37006,9100005] ?_;refine gR hq [4] [30000,37006,9100005] [(11,(Z32 a9 aN.v))] [] (c1 (show(AVle (Fh (.agg [Nd,Nd,Nd,Nd]) (mapE (fun(v_:Aj)=>((Z36 v_):AV)) a9) aN.v) (Z32 a9 aN.v)) from(Y8 (f:=(fun(v_:Aj)=>((Z36 v_):AV))) (l:=a9) (AVle.refl _) rfl))) ?_;cases h;exact C7 [(30000,30000),(37006,37006),(9100005,9100005)]
def B7(aZ:List Int)(aE:Int):Int→Option (LR Int (Unit ⊕ Int)):=
 fun(i1:Int)=>(bif (decide (i1<(aZ.length:Int))) then(Ba (Bb i1 aZ.length) (bif (aE==(aZ.getD i1.toNat 0)) then(some (.done (.inr i1))) else(some (.next (w64 (i1+1)))))) else(some (.done (.inl ()))))
def Qa(Γ:H0)(aZ:List Int)(aE:Int)(r:Int):Exit→St→Prop:=fK Tryz.prog Γ Tryz.f139.results.toList [] (.int .i64 r) []
def E1(aZ:List Int)(aE:Int):Option Int:=
 ((Ah (B7 aZ aE) (0:Int)).bind (fun x3=>(match x3 with|(.inl _)=>(some (-1:Int))|(.inr r5)=>(some r5))))
theorem P2(aZ:List Int)(aE:Int)(r:Int)(h:E1 aZ aE=some r):Spec Tryz.prog 139 [(AV.list 1 Ak 0 aZ .none),(.int .i64 aE)] [] (.int .i64 r) []:=by
 refine Ae mix Tryz.func139 (fun Γ hq=>?_);unfold E1 at h;refine Ag hq [0,1] [] ?_;refine Ag hq [0,1,7,8] [] ?_;obtain⟨x3,hx3,h⟩:=bind_some h;refine gL hq hx3 [0,1,7,8] [] (fun u i1=>(Dx u [(8,(Z6 i1))] [])) (fun u x_=>match x_ with|(.inl _)=>aG Γ (.exit 0) (⟨[],[],[]⟩:St)|(.inr r_)=>aR (Qa Γ aZ aE r_)) ?_ ?_
 ·intro i1 y h;unfold B7 at h;refine Ag hq [0,1,7,8,9] [] ?_;refine gC h (fun h=>?_) (fun h=>?_)
  ·refine Ag hq [0,1,5,7,8] [] ?_;obtain⟨hc2,h⟩:=Aa h;refine gR hq [0,1,5,7,8,16] [] [] [] (c1 hc2) ?_;refine gC h (fun h=>?_) (fun h=>?_)
   ·refine Ag hq [4] [] ?_;cases h;exact gO (La (I4 [] (Le.refl _ _)))
   ·refine Ag hq [0,1,7,8] [] ?_;cases h;exact gN Ct
  ·cases h;exact gO (Br (Ca [] [] hq))
 ·clear hx3;rcases x3 with _|r5
  ·refine gA ?_;refine Ag hq [4] [] ?_;cases h;exact C7 []
  ·refine Mr (fun st' hk=>?_);obtain rfl:=OI h;exact gK hk
def Is(a6:List Int)(aK:Int):Option Bool:=
 (some (bif (decide (((0:Int):Int)≤aK)) then(decide (aK<(a6.length:Int))) else false))
theorem Td(a6:List Int)(aK:Int)(r:Bool)(h:Is a6 aK=some r):Spec Tryz.prog 141 [(AV.list 1 Ak 0 a6 .none),(.int .i64 aK)] [] (.bool r) []:=by
 refine Ae mix Tryz.func141 (fun Γ hq=>?_);unfold Is at h;refine Ag hq [0,1] [] ?_;refine gR hq [4] [] [] [] (ci (gI ((decide (((0:Int):Int)≤aK))==true)) (ci (gI ((decide (((0:Int):Int)≤aK))==true)) (ci (gI ((decide (((0:Int):Int)≤aK))==true)) (c1 (L2 (decide (((0:Int):Int)≤aK))))))) ?_;cases h;exact C7 []
def Dj(a6:List Int)(aa2:Int)(aV:Int):(Int×List Int)→Option (LR (Int×List Int) (List Int ⊕ (Bool×List Int))):=
 fun((i1,l2):(Int×List Int))=>(bif (i1 !=aV) then(Ba (Bb i1 l2.length) (bif (((l2.getD i1.toNat 0):Int)!=0) then(Ba (Bb i1 l2.length) (some (.done (.inr ((((l2.getD i1.toNat 0):Int)!=(w64 (aa2+1))),l2))))) else(Ba (Bb i1 a6.length) ((Is a6 (a6.getD i1.toNat 0)).bind fun x7=>(bif (!x7) then(some (.done (.inr (false,l2)))) else(Ba (Bb i1 l2.length) (Ba (Bb i1 a6.length) (some (.next ((a6.getD i1.toNat 0),(l2.set i1.toNat (w64 (aa2+1))))))))))))) else(some (.done (.inl l2))))
def K_dom_leads(Γ:H0)(a6:List Int)(aa7:List Int)(aa2:Int)(aV:Int)(r:(Bool×List Int)):Exit→St→Prop:=fK Tryz.prog Γ Tryz.f140.results.toList [(Z4 34001 aa7)] (.bool r.1) [(Z4 34001 r.2)]
def Ni(a6:List Int)(aa7:List Int)(aa2:Int)(aV:Int):Option (Bool×List Int):=
 ((Ah (Dj a6 aa2 aV) (aa2,aa7)).bind (fun x10=>(match x10 with|(.inl l3)=>(some (true,l3))|(.inr r12)=>(some r12))))
theorem ok_dom_leads(a6:List Int)(aa7:List Int)(aa2:Int)(aV:Int)(r:(Bool×List Int))(h:Ni a6 aa7 aa2 aV=some r):Spec Tryz.prog 140 [(AV.list 1 Ak 0 a6 .none),(.vsl 34001 aa7.length),(.int .i64 aa2),(.int .i64 aV)] [(34001,.arr 1 3 aa7.length (fun i=>Ak (aa7.getD i 0)))] (.bool r.1) [(34001,.arr 1 3 r.2.length (fun i=>Ak (r.2.getD i 0)))]:=by
 refine Ae mix Tryz.func140 (fun Γ hq=>?_);unfold Ni at h;refine Ag hq [0,1,2,3] [34001] ?_;refine Ag hq [0,1,2,3,9] [34001] ?_;refine Ag hq [0,1,3,9,10] [34001] ?_;obtain⟨x10,hx10,h⟩:=bind_some h;refine gL hq hx10 [0,1,3,9,10] [34001] (fun u (i1,l2)=>(Dx u [(1,(.vsl 34001 l2.length)),(10,(Z6 i1))] [(Z4 34001 l2)])) (fun u x_=>match x_ with|(.inl l3)=>aG Γ (.exit 0) (⟨[],[(Z4 34001 l3)],[]⟩:St)|(.inr r_)=>aR (K_dom_leads Γ a6 aa7 aa2 aV r_)) ?_ ?_
 ·rintro⟨i1,l2⟩ y h;unfold Dj at h;refine Ag hq [0,1,3,9,10,16] [34001] ?_;refine gC h (fun h=>?_) (fun h=>?_)
  ·obtain⟨hc4,h⟩:=Aa h;refine gR hq [0,1,3,9,10,25] [34001] [] [] (ci hc4 (c1 (Eq.refl l2.length))) ?_;refine gC h (fun h=>?_) (fun h=>?_)
   ·obtain⟨hc5,h⟩:=Aa h;refine gR hq [8] [34001] [] [] (ci hc5 (c1 (Eq.refl l2.length))) ?_;cases h;exact gO (La (I4 [(34001,34001)] (Le.refl _ _)))
   ·obtain⟨hc6,h⟩:=Aa h;obtain⟨x7,hx7,h⟩:=bind_some h;refine gR hq [0,1,3,9,10,38] [34001] [] [(Z2 x7)] (ci hc6 (c1 (Td a6 (a6.getD i1.toNat 0) x7 hx7))) ?_;refine gC h (fun h=>?_) (fun h=>?_)
    ·refine Ag hq [8] [34001] ?_;cases h;exact gO (La (I4 [(34001,34001)] (Le.refl _ _)))
    ·obtain⟨hc8,h⟩:=Aa h;refine gR hq [0,1,3,9,10] [34001] [] [] (ci hc8 (c1 (Eq.refl l2.length))) ?_;refine Kw (Le.trans (Pv 34001 (show ∀ k_,k_<l2.length→AVleL ((fun i_=>AV.eraseAll (fun n_=>Dl n_ [34001]) ((F6 (fun i=>Ak (l2.getD i 0)) i1.toNat 0 [(.int .i64 (w64 (aa2+1)))]) i_)) k_) ((fun i=>Ak ((l2.set i1.toNat (w64 (aa2+1))).getD i 0)) k_) from(Bu (List.length_set ..).symm (fun k_ hk_=>(congrArg (AV.eraseAll (fun n_=>Dl n_ [34001])) ((Ht (fun _ _=>rfl) (Ix hc8) rfl) k_ hk_)).trans rfl)))) (Ox (fun(k_:Nat) u=>(Dx u [(1,(.vsl 34001 k_))] [(34001,.arr 1 3 k_ (fun i=>Ak ((l2.set i1.toNat (w64 (aa2+1))).getD i 0)))])) (show l2.length=(l2.set i1.toNat (w64 (aa2+1))).length from(List.length_set ..).symm))) ?_;obtain⟨hc9,h⟩:=Aa h;refine gR hq [0,1,3,9,10] [34001] [] [] (c1 hc9) ?_;cases h;exact gN Ct
  ·cases h;exact gO (Br (Ca [] [34001] hq))
 ·clear hx10;rcases x10 with l3|r12
  ·refine gA ?_;refine Ag hq [8] [34001] ?_;cases h;exact C7 [(34001,34001)]
  ·refine Mr (fun st' hk=>?_);obtain rfl:=OI h;exact gK hk
def Fi(a6:List Int)(x1:Int):(Int×List Int)→Option (LR (Int×List Int) (Unit ⊕ Bool)):=
 fun((i3,l4):(Int×List Int))=>(bif (decide (i3<(a6.length:Int))) then(Ba (Bb i3 a6.length) ((bif ((((a6.getD i3.toNat 0):Int)!=-2)==true) then Ni a6 l4 i3 x1 else some (false,[])).bind fun x6=>(Ba (((((a6.getD i3.toNat 0):Int)!=-2)==true)=true→(l4.length=x6.2.length)) (bif (bif (((a6.getD i3.toNat 0):Int)!=-2) then(!x6.1) else false) then(some (.done (.inr false))) else(some (.next ((w64 (i3+1)),(bif ((((a6.getD i3.toNat 0):Int)!=-2)==true) then x6.2 else l4)))))))) else(some (.done (.inl ()))))
def K_dom_isTree(Γ:H0)(a6:List Int)(r:Bool):Exit→St→Prop:=fK Tryz.prog Γ Tryz.f123.results.toList [] (.bool r) []
def Q86(a6:List Int)(i3:Int):=((((a6.getD i3.toNat 0):Int)!=-2)==true)
def Md(a6:List Int):Option Bool:=
 ((E1 a6 (-1:Int)).bind fun x1=>(bif (decide (x1<0)) then(some false) else(Ba (0≤(a6.length:Int)∧(a6.length:Int)≤(a6.length:Int)∧(a6.length:Int)≤(room:Int)) ((Ah (Fi a6 x1) ((0:Int),(List.replicate (a6.length:Int).toNat (0:Int)))).bind (fun x8=>(match x8 with|(.inl _)=>(some true)|(.inr r10)=>(some r10)))))))
theorem ok_dom_isTree(a6:List Int)(r:Bool)(h:Md a6=some r):Spec Tryz.prog 123 [(AV.list 1 Ak 0 a6 .none)] [] (.bool r) []:=by
 refine Ae mix Tryz.func123 (fun Γ hq=>?_);unfold Md at h;refine Ag hq [0] [] ?_;obtain⟨x1,hx1,h⟩:=bind_some h;refine gR hq [0,3] [] [] [(Z33 x1)] (c1 (P2 a6 (-1:Int) x1 hx1)) ?_;refine Ag hq [0,3,9] [] ?_;refine gC h (fun h=>?_) (fun h=>?_)
 ·refine Ag hq [2] [] ?_;obtain rfl:=OI h;exact C7 []
 ·obtain⟨hc2,h⟩:=Aa h;refine gR hq [0,3,4] [12] [] [] (c1 hc2) ?_;refine Kw (Le.trans (Pv 12 (show ∀ k_,k_<((a6.length:Int).toNat)→AVleL ((fun i_=>AV.eraseAll (fun n_=>Dl n_ [12]) ((fun _=>[Nd]) i_)) k_) ((fun i=>Ak ((List.replicate (a6.length:Int).toNat (0:Int)).getD i 0)) k_) from(fun k hk=>M9 (e:=Ak) (d:=(0:Int)) (.cons (AVle.refl _) .nil) _ k (Na hk)))) (Ox (fun(k_:Nat) u=>(Dx u [(4,(.vsl 12 k_))] [(12,.arr 1 3 k_ (fun i=>Ak ((List.replicate (a6.length:Int).toNat (0:Int)).getD i 0)))])) (show(a6.length:Int).toNat=(List.replicate (a6.length:Int).toNat (0:Int)).length from(List.length_replicate ..).symm))) ?_;refine Ag hq [0,3,4,14,15] [12] ?_;obtain⟨x8,hx8,h⟩:=bind_some h;refine gL hq hx8 [0,3,4,14,15] [12] (fun u (i3,l4)=>(Dx u [(4,(.vsl 12 l4.length)),(15,(Z6 i3))] [(Z4 12 l4)])) (fun u x_=>match x_ with|(.inl _)=>aG Γ (.exit 0) (⟨[],[],[]⟩:St)|(.inr r_)=>aR (K_dom_isTree Γ a6 r_)) ?_ ?_
  ·rintro⟨i3,l4⟩ y h;unfold Fi at h;refine Ag hq [0,3,4,14,15,16] [12] ?_;refine gC h (fun h=>?_) (fun h=>?_)
   ·refine Ag hq [0,3,4,5,14,15] [12] ?_;obtain⟨hc5,h⟩:=Aa h;obtain⟨x6,hx6,h⟩:=bind_some h;obtain⟨hc7,h⟩:=Aa h;refine gR hq [0,3,4,14,15,30] [12] [] [⟨[(12,34001)],[],(.bool x6.1),[(Z4 34001 x6.2)],[]⟩] (ci hc5 (ci (gI (Q86 a6 i3)) (ci (gI (Q86 a6 i3)) (ci (gI (Q86 a6 i3)) (ci (gI (Q86 a6 i3)) (ci (fun(hg:(Q86 a6 i3)=true)=>(ok_dom_leads a6 l4 i3 x1 x6 (Bw hg hx6))) (ci (gI (Q86 a6 i3)) (c1 (L2 (((a6.getD i3.toNat 0):Int)!=-2)))))))))) ?_;refine Kw (Le.trans (Pv 12 (show ∀ k_,k_<(bif (Q86 a6 i3) then x6.2.length else l4.length)→AVleL ((fun i_=>AV.eraseAll (fun n_=>Dl n_ [12]) ((fun i=>bif (Q86 a6 i3) then(fun i=>Ak (x6.2.getD i 0)) i else(fun i=>Ak (l4.getD i 0)) i) i_)) k_) ((fun i=>Ak ((bif (Q86 a6 i3) then x6.2 else l4).getD i 0)) k_) from(Bu bif_len (fun k_ hk_=>(congrArg (AV.eraseAll (fun n_=>Dl n_ [12])) ((fun _ _=>bif_row) k_ hk_)).trans rfl)))) (Le.trans (Ox (fun(k_:Nat) u=>(Dx u [] [(12,.arr 1 3 k_ (fun i=>Ak ((bif (Q86 a6 i3) then x6.2 else l4).getD i 0)))])) (show(bif (Q86 a6 i3) then x6.2.length else l4.length)=(bif (Q86 a6 i3) then x6.2 else l4).length from bif_len)) (Ox (fun(k_:Nat) u=>(Dx u [(4,(.vsl 12 k_))] [])) (show l4.length=(bif (Q86 a6 i3) then x6.2 else l4).length from(bif_was hc7))))) ?_;refine gC h (fun h=>?_) (fun h=>?_)
    ·refine Ag hq [2] [] ?_;cases h;exact gO (La (I4 [] (Le.refl _ _)))
    ·refine Ag hq [0,3,4,14,15] [12] ?_;cases h;exact gN Ct
   ·cases h;exact gO (Br (Ca [] [] hq))
  ·clear hx8;rcases x8 with _|r10
   ·refine gA ?_;refine Ag hq [2] [] ?_;obtain rfl:=OI h;exact C7 []
   ·refine Mr (fun st' hk=>?_);obtain rfl:=OI h;exact gK hk
def Ja(a6:List Int)(aK:Int):Option Bool:=
 ((Is a6 aK).bind fun x1=>(Ba ((x1==true)=true→(Bb aK a6.length)) (some (bif x1 then(((a6.getD aK.toNat 0):Int)!=-2) else false))))
theorem Rr(a6:List Int)(aK:Int)(r:Bool)(h:Ja a6 aK=some r):Spec Tryz.prog 124 [(AV.list 1 Ak 0 a6 .none),(.int .i64 aK)] [] (.bool r) []:=by
 refine Ae mix Tryz.func124 (fun Γ hq=>?_);unfold Ja at h;refine Ag hq [0,1] [] ?_;obtain⟨x1,hx1,h⟩:=bind_some h;obtain⟨hc2,h⟩:=Aa h;refine gR hq [4] [] [] [(Z2 x1)] (ci (Td a6 aK x1 hx1) (ci (gI (x1==true)) (ci (gI (x1==true)) (ci hc2 (ci (gI (x1==true)) (ci (gI (x1==true)) (c1 (L2 x1)))))))) ?_;cases h;exact C7 []
def Nh(a6:List Int)(aD:Int)(aH:Int):Option Bool:=
 ((Md a6).bind fun x1=>((bif (x1==true) then Ja a6 aD else some false).bind fun x2=>((bif ((bif x1 then x2 else false)==true) then Ja a6 aH else some false).bind fun x3=>(some (bif (bif x1 then x2 else false) then x3 else false)))))
theorem ok_dom_areIn(a6:List Int)(aD:Int)(aH:Int)(r:Bool)(h:Nh a6 aD aH=some r):Spec Tryz.prog 109 [(AV.list 1 Ak 0 a6 .none),(.int .i64 aD),(.int .i64 aH)] [] (.bool r) []:=by
 refine Ae mix Tryz.func109 (fun Γ hq=>?_);unfold Nh at h;refine Ag hq [0,1,2] [] ?_;obtain⟨x1,hx1,h⟩:=bind_some h;obtain⟨x2,hx2,h⟩:=bind_some h;obtain⟨x3,hx3,h⟩:=bind_some h;refine gR hq [6] [] [] [(Z2 x1),(Z2 x2),(Z2 x3)] (ci (ok_dom_isTree a6 x1 hx1) (ci (gI (x1==true)) (ci (gI (x1==true)) (ci (fun(hg:(x1==true)=true)=>(Rr a6 aD x2 (Bw hg hx2))) (ci (L2 x1) (ci (gI ((bif x1 then x2 else false)==true)) (ci (gI ((bif x1 then x2 else false)==true)) (ci (fun(hg:((bif x1 then x2 else false)==true)=true)=>(Rr a6 aH x3 (Bw hg hx3))) (c1 (L2 (bif x1 then x2 else false))))))))))) ?_;cases h;exact C7 []
def Fe(a6:List Int):(Int×List Bool)→Option (LR (Int×List Bool) (List Bool)):=
 fun((i2,l3):(Int×List Bool))=>(bif (i2 !=-1) then(Ba (Bb i2 l3.length) (Ba (Bb i2 a6.length) (some (.next ((a6.getD i2.toNat 0),(l3.set i2.toNat true)))))) else(some (.done l3)))
def Ff(a6:List Int)(l4:List Bool):Int→Option (LR Int Int):=
 fun(i9:Int)=>(Ba (Bb i9 l4.length) (bif (!(l4.getD i9.toNat false)) then(Ba (Bb i9 a6.length) (some (.next (a6.getD i9.toNat 0)))) else(some (.done i9))))
def Ki(a6:List Int)(aD:Int)(aH:Int):Option Int:=
 (Ba (0≤(a6.length:Int)∧(a6.length:Int)≤(a6.length:Int)∧(a6.length:Int)≤(room:Int)) ((Ah (Fe a6) (aD,(List.replicate (a6.length:Int).toNat false))).bind (fun x7=>((Ah (Ff a6 x7) aH).bind (fun x13=>(some x13))))))
theorem ok_dom_meet(a6:List Int)(aD:Int)(aH:Int)(r:Int)(h:Ki a6 aD aH=some r):Spec Tryz.prog 104 [(AV.list 1 Ak 0 a6 .none),(.int .i64 aD),(.int .i64 aH)] [] (.int .i64 r) []:=by
 refine Ae mix Tryz.func104 (fun Γ hq=>?_);unfold Ki at h;refine Ag hq [0,1,2] [] ?_;obtain⟨hc1,h⟩:=Aa h;refine gR hq [0,1,2,7] [11] [] [] (c1 hc1) ?_;refine Kw (Le.trans (Pv 11 (show ∀ k_,k_<((a6.length:Int).toNat)→AVleL ((fun i_=>AV.eraseAll (fun n_=>Dl n_ [11]) ((fun _=>[(.bool false)]) i_)) k_) ((fun i=>eB ((List.replicate (a6.length:Int).toNat false).getD i false)) k_) from(fun k hk=>M9 (e:=eB) (d:=false) (.cons (AVle.refl _) .nil) _ k (Na hk)))) (Ox (fun(k_:Nat) u=>(Dx u [(N9 11 k_)] [(11,.arr 1 4 k_ (fun i=>eB ((List.replicate (a6.length:Int).toNat false).getD i false)))])) (show(a6.length:Int).toNat=(List.replicate (a6.length:Int).toNat false).length from(List.length_replicate ..).symm))) ?_;refine Ag hq [0,2,7,8] [11] ?_;obtain⟨x7,hx7,h⟩:=bind_some h;refine gL hq hx7 [0,2,7,8] [11] (fun u (i2,l3)=>(Dx u [(N9 11 l3.length),(8,(Z6 i2))] [(Z9 11 l3)])) (fun u l4=>aG Γ (.exit 0) (Mj [0,2,7] [11] u [(N9 11 l4.length)] [(Z9 11 l4)])) ?_ ?_
 ·rintro⟨i2,l3⟩ y h;unfold Fe at h;refine Ag hq [0,2,7,8,14] [11] ?_;refine gC h (fun h=>?_) (fun h=>?_)
  ·obtain⟨hc5,h⟩:=Aa h;refine gR hq [0,2,7,8] [11] [] [] (ci hc5 (c1 (Eq.refl l3.length))) ?_;refine Kw (Le.trans (Pv 11 (show ∀ k_,k_<l3.length→AVleL ((fun i_=>AV.eraseAll (fun n_=>Dl n_ [11]) ((F6 (fun i=>eB (l3.getD i false)) i2.toNat 0 [(.bool true)]) i_)) k_) ((fun i=>eB ((l3.set i2.toNat true).getD i false)) k_) from(Bu (List.length_set ..).symm (fun k_ hk_=>(congrArg (AV.eraseAll (fun n_=>Dl n_ [11])) ((Ht (fun _ _=>rfl) (Ix hc5) rfl) k_ hk_)).trans rfl)))) (Ox (fun(k_:Nat) u=>(Dx u [(N9 11 k_)] [(11,.arr 1 4 k_ (fun i=>eB ((l3.set i2.toNat true).getD i false)))])) (show l3.length=(l3.set i2.toNat true).length from(List.length_set ..).symm))) ?_;obtain⟨hc6,h⟩:=Aa h;refine gR hq [0,2,7,8] [11] [] [] (c1 hc6) ?_;cases h;exact gN Ct
  ·cases h;exact gO (Br (Ca [0,2,7] [11] hq))
 ·clear hx7;refine gA ?_;obtain⟨x13,hx13,h⟩:=bind_some h;refine gL hq hx13 [0,2,7] [11] (fun u i9=>(Dx u [(2,(Z6 i9))] [])) (fun u i10=>aG Γ (.exit 2) (⟨[(2,(Z6 i10))],[],[]⟩:St)) ?_ ?_
  ·intro i9 y h;unfold Ff at h;obtain⟨hc11,h⟩:=Aa h;refine gR hq [0,2,7,26] [11] [] [] (ci hc11 (c1 (Eq.refl x7.length))) ?_;refine gC h (fun h=>?_) (fun h=>?_)
   ·obtain⟨hc12,h⟩:=Aa h;refine gR hq [0,2,7] [11] [] [] (c1 hc12) ?_;cases h;exact gN Ct
   ·cases h;exact gO (Br (Ca [2] [] hq))
  ·clear hx13;refine gA ?_;refine Ag hq [6] [] ?_;obtain rfl:=OI h;exact C7 []
def Of(a6:List Int)(aD:Int)(aH:Int):Option Bool:=
 ((Nh a6 aD aH).bind fun x1=>((bif (x1==true) then Ki a6 aD aH else some (0:Int)).bind fun x2=>(some (bif x1 then(x2==aD) else false))))
theorem ok_dom_Over(a6:List Int)(aD:Int)(aH:Int)(r:Bool)(h:Of a6 aD aH=some r):Spec Tryz.prog 91 [(AV.list 1 Ak 0 a6 .none),(.int .i64 aD),(.int .i64 aH)] [] (.bool r) []:=by
 refine Ae mix Tryz.func91 (fun Γ hq=>?_);unfold Of at h;refine Ag hq [0,1,2] [] ?_;obtain⟨x1,hx1,h⟩:=bind_some h;obtain⟨x2,hx2,h⟩:=bind_some h;refine gR hq [6] [] [] [(Z2 x1),(Z33 x2)] (ci (ok_dom_areIn a6 aD aH x1 hx1) (ci (gI (x1==true)) (ci (gI (x1==true)) (ci (gI (x1==true)) (ci (fun(hg:(x1==true)=true)=>(ok_dom_meet a6 aD aH x2 (Bw hg hx2))) (ci (gI (x1==true)) (ci (gI (x1==true)) (c1 (L2 x1))))))))) ?_;cases h;exact C7 []
def Ft(aN:An)(a4:Ab)(aA:Int)(aB:List Int)(a9:List (Int×Aj))(a7:List An):Option (Bool×Ab×Int×List Int×List An):=
 (bif (((Fh (default:Aj) a9 aN.v).place.block:Int)==aN.place.block) then(some ((decide (((Fh (default:Aj) a9 aN.v).place.at_:Int)<aN.place.at_)),a4,aA,aB,a7)) else((Of aB ((Fh (default:Aj) a9 aN.v).place.block) aN.place.block).bind fun x1=>(some (x1,a4,aA,aB,a7))))
theorem Pl(aN:An)(a4:Ab)(aA:Int)(aB:List Int)(a9:List (Int×Aj))(a7:List An)(r:(Bool×Ab×Int×List Int×List An))(h:Ft aN a4 aA aB a9 a7=some r):Spec Tryz.prog 63 [(.ptr 30000 0),(.agg (C6 aN))] [(30000,.row 59 [(AV.list 1 Ak 0 a4.Params .none),(.int .i64 a4.Ret),(AV.list 5 A2 default a4.Blocks .none),(.int .i64 aA),(AV.list 1 Ak 0 aB .none),(.omap 9100005),(AV.list 5 C6 default a7 (.own 37006))]),(37006,.tok 5 104 a7.length),(9100005,.obj (.map false .i64 (mapE (fun(v_:Aj)=>((.agg (Eu v_)):AV)) a9)))] (.bool r.1) [(30000,.row 59 [(AV.list 1 Ak 0 r.2.1.Params .none),(.int .i64 r.2.1.Ret),(AV.list 5 A2 default r.2.1.Blocks .none),(.int .i64 r.2.2.1),(AV.list 1 Ak 0 r.2.2.2.1 .none),(.omap 9100005),(AV.list 5 C6 default r.2.2.2.2 (.own 37006))]),(37006,.tok 5 104 r.2.2.2.2.length),(9100005,.obj (.map false .i64 (mapE (fun(v_:Aj)=>((.agg (Eu v_)):AV)) a9)))]:=by
 refine Ae mix Tryz.func63 (fun Γ hq=>?_);unfold Ft at h;refine Ag hq [0,3] [3,30000,37006,9100005] ?_;refine gR hq [0,3,5] [3,5,30000,37006,9100005] [(12,(Z32 a9 aN.v))] [] (c1 (show(AVle (Fh (.agg [Nd,Nd,Nd,Nd]) (mapE (fun(v_:Aj)=>((Z36 v_):AV)) a9) aN.v) (Z32 a9 aN.v)) from(Y8 (f:=(fun(v_:Aj)=>((Z36 v_):AV))) (l:=a9) (AVle.refl _) rfl))) ?_;refine Ag hq [0,3,5,19] [3,5,30000,37006,9100005] ?_;refine gC h (fun h=>?_) (fun h=>?_)
 ·refine Ag hq [4] [30000,37006,9100005] ?_;cases h;exact C7 [(30000,30000),(37006,37006),(9100005,9100005)]
 ·obtain⟨x1,hx1,h⟩:=bind_some h;refine gR hq [4] [30000,37006,9100005] [] [(Z2 x1)] (c1 (ok_dom_Over aB ((Fh (default:Aj) a9 aN.v).place.block) aN.place.block x1 hx1)) ?_;cases h;exact C7 [(30000,30000),(37006,37006),(9100005,9100005)]
def Dg(a9:List (Int×Aj))(x8:(Ab×Int×List Int×List An)):(Int×List Int×Int×List Ad×Int×List Int×List An)→Option (LR (Int×List Int×Int×List Ad×Int×List Int×List An) ((List Int×Int×List Ad×Int×List Int×List An) ⊕ (List Int×Int×List Ad×Int×List Int×List An))):=
 fun((i9,l10,i11,l12,i13,l14,l15):(Int×List Int×Int×List Ad×Int×List Int×List An))=>(bif (decide (i9<(x8.2.2.2.length:Int))) then(Ba (Bb i9 x8.2.2.2.length) ((Hl (x8.2.2.2.getD i9.toNat default) (⟨l10,i11,l12⟩:Ab) i13 l14 a9 l15).bind fun x29=>(bif (!x29.1) then(some (.done (.inr (x29.2.1.Params,x29.2.1.Ret,x29.2.1.Blocks,x29.2.2.1,x29.2.2.2.1,x29.2.2.2.2)))) else(some (.next ((w64 (i9+1)),x29.2.1.Params,x29.2.1.Ret,x29.2.1.Blocks,x29.2.2.1,x29.2.2.2.1,x29.2.2.2.2)))))) else(some (.done (.inl (l10,i11,l12,i13,l14,l15)))))
def Dh(a9:List (Int×Aj))(l21:List An):(Int×List Int×Int×List Ad×Int×List Int×List An)→Option (LR (Int×List Int×Int×List Ad×Int×List Int×List An) ((List Int×Int×List Ad×Int×List Int×List An) ⊕ (List Int×Int×List Ad×Int×List Int×List An))):=
 fun((i32,l33,i34,l35,i36,l37,l38):(Int×List Int×Int×List Ad×Int×List Int×List An))=>(bif (decide (i32<(l21.length:Int))) then(Ba (Bb i32 l21.length) ((Io (l21.getD i32.toNat default) (⟨l33,i34,l35⟩:Ab) i36 l37 a9 l38).bind fun x52=>(bif (!x52.1) then(some (.done (.inr (x52.2.1.Params,x52.2.1.Ret,x52.2.1.Blocks,x52.2.2.1,x52.2.2.2.1,x52.2.2.2.2)))) else(some (.next ((w64 (i32+1)),x52.2.1.Params,x52.2.1.Ret,x52.2.1.Blocks,x52.2.2.1,x52.2.2.2.1,x52.2.2.2.2)))))) else(some (.done (.inl (l33,i34,l35,i36,l37,l38)))))
def Di(a9:List (Int×Aj))(l44:List An):(Int×List Int×Int×List Ad×Int×List Int×List An)→Option (LR (Int×List Int×Int×List Ad×Int×List Int×List An) ((List Int×Int×List Ad×Int×List Int×List An) ⊕ (List Int×Int×List Ad×Int×List Int×List An))):=
 fun((i55,l56,i57,l58,i59,l60,l61):(Int×List Int×Int×List Ad×Int×List Int×List An))=>(bif (decide (i55<(l44.length:Int))) then(Ba (Bb i55 l44.length) ((Ft (l44.getD i55.toNat default) (⟨l56,i57,l58⟩:Ab) i59 l60 a9 l61).bind fun x75=>(bif (!x75.1) then(some (.done (.inr (x75.2.1.Params,x75.2.1.Ret,x75.2.1.Blocks,x75.2.2.1,x75.2.2.2.1,x75.2.2.2.2)))) else(some (.next ((w64 (i55+1)),x75.2.1.Params,x75.2.1.Ret,x75.2.1.Blocks,x75.2.2.1,x75.2.2.2.1,x75.2.2.2.2)))))) else(some (.done (.inl (l56,i57,l58,i59,l60,l61)))))
def I7 :(Int×List Int×Int×List Ad×Int×List Int×List An)→Option (LR (Int×List Int×Int×List Ad×Int×List Int×List An) (Int×Ab×Int×List Int×List An)):=
 fun(s_:(Int×List Int×Int×List Ad×Int×List Int×List An))=>match s_ with|(i1,l2,i3,l4,i5,l6,l7)=>(some (.done (i1,(⟨l2,i3,l4⟩:Ab),i5,l6,l7)))
def Sj(Γ:H0)(a4:Ab)(aA:Int)(aB:List Int)(a9:List (Int×Aj))(a7:List An)(r:(Int×Ab×Int×List Int×List An)):Exit→St→Prop:=fK Tryz.prog Γ Tryz.f34.results.toList [(Z1 a4.Params a4.Ret a4.Blocks aA aB 9100005 a7),(Nv 37006 104 a7.length),(9100005,.obj (.map false .i64 (mapE (fun(v_:Aj)=>((Z36 v_):AV)) a9)))] (Z6 r.1) [(Z1 r.2.1.Params r.2.1.Ret r.2.1.Blocks r.2.2.1 r.2.2.2.1 9100005 r.2.2.2.2),(Nv 37006 104 r.2.2.2.2.length),(9100005,.obj (.map false .i64 (mapE (fun(v_:Aj)=>((Z36 v_):AV)) a9)))]
def Q87(a9:List (Int×Aj)):=(mapE (fun(v_:Aj)=>((Z36 v_):AV)) a9)
def G6(a4:Ab)(aA:Int)(aB:List Int)(a9:List (Int×Aj))(a7:List An):Option (Int×Ab×Int×List Int×List An):=
 ((Pq (S:=(Int×List Int×Int×List Ad×Int×List Int×List An)) (X:=(Int×Ab×Int×List Int×List An)) ((Fq a4 aA aB a9 a7).bind fun x8=>((Ah (Dg a9 x8) ((0:Int),x8.1.Params,x8.1.Ret,x8.1.Blocks,x8.2.1,x8.2.2.1,x8.2.2.2)).bind (fun x30=>(match x30 with|(.inl (l16,i17,l18,i19,l20,l21))=>((Ah (Dh a9 l21) ((0:Int),l16,i17,l18,i19,l20,l21)).bind (fun x53=>(match x53 with|(.inl (l39,i40,l41,i42,l43,l44))=>((Ah (Di a9 l44) ((0:Int),l39,i40,l41,i42,l43,l44)).bind (fun x76=>(match x76 with|(.inl (l62,i63,l64,i65,l66,l67))=>(some (.done ((0:Int),(⟨l62,i63,l64⟩:Ab),i65,l66,l67)))|(.inr (l68,i69,l70,i71,l72,l73))=>(some (.next ((7:Int),l68,i69,l70,i71,l72,l73))))))|(.inr (l45,i46,l47,i48,l49,l50))=>(some (.next ((6:Int),l45,i46,l47,i48,l49,l50))))))|(.inr (l22,i23,l24,i25,l26,l27))=>(some (.next ((7:Int),l22,i23,l24,i25,l26,l27))))))) I7).bind (fun x81=>(some x81)))
theorem R7(a4:Ab)(aA:Int)(aB:List Int)(a9:List (Int×Aj))(a7:List An)(r:(Int×Ab×Int×List Int×List An))(h:G6 a4 aA aB a9 a7=some r):Spec Tryz.prog 34 [(.ptr 30000 0)] [(30000,.row 59 [(AV.list 1 Ak 0 a4.Params .none),(.int .i64 a4.Ret),(AV.list 5 A2 default a4.Blocks .none),(.int .i64 aA),(AV.list 1 Ak 0 aB .none),(.omap 9100005),(AV.list 5 C6 default a7 (.own 37006))]),(37006,.tok 5 104 a7.length),(9100005,.obj (.map false .i64 (mapE (fun(v_:Aj)=>((.agg (Eu v_)):AV)) a9)))] (.int .i64 r.1) [(30000,.row 59 [(AV.list 1 Ak 0 r.2.1.Params .none),(.int .i64 r.2.1.Ret),(AV.list 5 A2 default r.2.1.Blocks .none),(.int .i64 r.2.2.1),(AV.list 1 Ak 0 r.2.2.2.1 .none),(.omap 9100005),(AV.list 5 C6 default r.2.2.2.2 (.own 37006))]),(37006,.tok 5 104 r.2.2.2.2.length),(9100005,.obj (.map false .i64 (mapE (fun(v_:Aj)=>((.agg (Eu v_)):AV)) a9)))]:=by
 refine Ae mix Tryz.func34 (fun Γ hq=>?_);unfold G6 at h;refine Ag hq [0] [30000,37006,9100005] ?_;obtain⟨x81,hx81,h⟩:=bind_some h;refine gS hx81 (fun(s_:(Int×List Int×Int×List Ad×Int×List Int×List An))=>match s_ with|(i1,l2,i3,l4,i5,l6,l7)=>0) (fun(s_:(Int×List Int×Int×List Ad×Int×List Int×List An))=>match s_ with|(i1,l2,i3,l4,i5,l6,l7)=>(⟨[(4,(Z6 i1))],(Z14 l2 i3 l4 i5 l6 9100005 l7 l7.length (Q87 a9)),[]⟩:St)) (fun r_=>aR (Sj Γ a4 aA aB a9 a7 r_)) ?_ ?_ ?_
 ·clear h hx81;intro y h;obtain⟨x8,hx8,h⟩:=bind_some h;refine gR hq [0] [30000,37006,9100005] [] [(Z10 x8.1.Params x8.1.Ret x8.1.Blocks x8.2.1 x8.2.2.1 x8.2.2.2 x8.2.2.2.length (Q87 a9))] (c1 (Pj a4 aA aB a9 a7 x8 hx8)) ?_;refine Ag hq [0,3] [3,30000,37006,9100005] ?_;refine Ag hq [0,3] [3,30000,37006,9100005] ?_;refine Ag hq [0,21,22] [30000,37006,9100005] ?_;refine gU 3 ?_;refine Ag hq [0,21,22,23] [30000,37006,9100005] ?_;refine gCt true ?_;refine gR hq [0,6,21,22] [6,30000,37006,9100005] [] [] (c1 (show(Bb (0:Int) 3) from(by decide))) ?_;refine Ag hq [0,4,6,21,22] [6,30000,37006,9100005] ?_;refine Ag hq [0,4,6,21,22,30,31,32] [6,30000,37006,9100005] ?_;obtain⟨x30,hx30,h⟩:=bind_some h;refine gL hq hx30 [0,4,6,21,22,30,31,32] [6,30000,37006,9100005] (fun u (i9,l10,i11,l12,i13,l14,l15)=>(Dx u [(32,(Z6 i9))] (Z12 l10 i11 l12 i13 l14 l15 l15.length))) (fun u x_=>match x_ with|(.inl (l16,i17,l18,i19,l20,l21))=>aG Γ (.exit 2) (Mj [0,21,22] [30000,37006,9100005] u [] (Z12 l16 i17 l18 i19 l20 l21 l21.length))|(.inr (l22,i23,l24,i25,l26,l27))=>aG Γ (.goto 0) (Mj [4] [30000,37006,9100005] u [] (Z12 l22 i23 l24 i25 l26 l27 l27.length))) ?_ ?_
  ·rintro⟨i9,l10,i11,l12,i13,l14,l15⟩ y h;unfold Dg at h;refine Ag hq [0,4,6,21,22,30,31,32,33] [6,30000,37006,9100005] ?_;refine gC h (fun h=>?_) (fun h=>?_)
   ·obtain⟨hc28,h⟩:=Aa h;refine gR hq [0,4,6,8,21,22,30,31,32] [6,8,30000,37006,9100005] [] [] (c1 hc28) ?_;obtain⟨x29,hx29,h⟩:=bind_some h;refine gR hq [0,4,6,21,22,30,31,32,40] [6,30000,37006,9100005] [] [(Z52 x29.1 x29.2.1.Params x29.2.1.Ret x29.2.1.Blocks x29.2.2.1 x29.2.2.2.1 x29.2.2.2.2 x29.2.2.2.2.length (Q87 a9))] (c1 (Pm (x8.2.2.2.getD i9.toNat default) (⟨l10,i11,l12⟩:Ab) i13 l14 a9 l15 x29 hx29)) ?_;refine gC h (fun h=>?_) (fun h=>?_)
    ·cases h;exact gO (Br (Ca [4] [30000,37006,9100005] hq))
    ·refine Ag hq [0,4,6,21,22,30,31,32] [6,30000,37006,9100005] ?_;cases h;exact gN Ct
   ·cases h;exact gO (Br (Ca [0,21,22] [30000,37006,9100005] hq))
  ·clear hx30;rcases x30 with⟨l16,i17,l18,i19,l20,l21⟩|⟨l22,i23,l24,i25,l26,l27⟩
   ·refine gA ?_;refine Ag hq [0,21,22] [30000,37006,9100005] ?_;refine Ag hq [0,21,22,23] [30000,37006,9100005] ?_;refine gCt true ?_;refine gR hq [0,6,21,22] [6,30000,37006,9100005] [] [] (c1 (show(Bb (1:Int) 3) from(by decide))) ?_;refine Ag hq [0,4,6,21,22] [6,30000,37006,9100005] ?_;refine Ag hq [0,4,6,21,22,30,31,32] [6,30000,37006,9100005] ?_;obtain⟨x53,hx53,h⟩:=bind_some h;refine gL hq hx53 [0,4,6,21,22,30,31,32] [6,30000,37006,9100005] (fun u (i32,l33,i34,l35,i36,l37,l38)=>(Dx u [(32,(Z6 i32))] (Z12 l33 i34 l35 i36 l37 l38 l38.length))) (fun u x_=>match x_ with|(.inl (l39,i40,l41,i42,l43,l44))=>aG Γ (.exit 2) (Mj [0,21,22] [30000,37006,9100005] u [] (Z12 l39 i40 l41 i42 l43 l44 l44.length))|(.inr (l45,i46,l47,i48,l49,l50))=>aG Γ (.goto 0) (Mj [4] [30000,37006,9100005] u [] (Z12 l45 i46 l47 i48 l49 l50 l50.length))) ?_ ?_
    ·rintro⟨i32,l33,i34,l35,i36,l37,l38⟩ y h;unfold Dh at h;refine Ag hq [0,4,6,21,22,30,31,32,33] [6,30000,37006,9100005] ?_;refine gC h (fun h=>?_) (fun h=>?_)
     ·obtain⟨hc51,h⟩:=Aa h;refine gR hq [0,4,6,8,21,22,30,31,32] [6,8,30000,37006,9100005] [] [] (c1 hc51) ?_;obtain⟨x52,hx52,h⟩:=bind_some h;refine gR hq [0,4,6,21,22,30,31,32,40] [6,30000,37006,9100005] [] [(Z52 x52.1 x52.2.1.Params x52.2.1.Ret x52.2.1.Blocks x52.2.2.1 x52.2.2.2.1 x52.2.2.2.2 x52.2.2.2.2.length (Q87 a9))] (c1 (R5 (l21.getD i32.toNat default) (⟨l33,i34,l35⟩:Ab) i36 l37 a9 l38 x52 hx52)) ?_;refine gC h (fun h=>?_) (fun h=>?_)
      ·cases h;exact gO (Br (Ca [4] [30000,37006,9100005] hq))
      ·refine Ag hq [0,4,6,21,22,30,31,32] [6,30000,37006,9100005] ?_;cases h;exact gN Ct
     ·cases h;exact gO (Br (Ca [0,21,22] [30000,37006,9100005] hq))
    ·clear hx53;rcases x53 with⟨l39,i40,l41,i42,l43,l44⟩|⟨l45,i46,l47,i48,l49,l50⟩
     ·refine gA ?_;refine Ag hq [0,21,22] [30000,37006,9100005] ?_;refine Ag hq [0,21,22,23] [30000,37006,9100005] ?_;refine gCt true ?_;refine gR hq [0,6,21,22] [6,30000,37006,9100005] [] [] (c1 (show(Bb (2:Int) 3) from(by decide))) ?_;refine Ag hq [0,4,6,21,22] [6,30000,37006,9100005] ?_;refine Ag hq [0,4,6,21,22,30,31,32] [6,30000,37006,9100005] ?_;obtain⟨x76,hx76,h⟩:=bind_some h;refine gL hq hx76 [0,4,6,21,22,30,31,32] [6,30000,37006,9100005] (fun u (i55,l56,i57,l58,i59,l60,l61)=>(Dx u [(32,(Z6 i55))] (Z12 l56 i57 l58 i59 l60 l61 l61.length))) (fun u x_=>match x_ with|(.inl (l62,i63,l64,i65,l66,l67))=>aG Γ (.exit 2) (Mj [0,21,22] [30000,37006,9100005] u [] (Z12 l62 i63 l64 i65 l66 l67 l67.length))|(.inr (l68,i69,l70,i71,l72,l73))=>aG Γ (.goto 0) (Mj [4] [30000,37006,9100005] u [] (Z12 l68 i69 l70 i71 l72 l73 l73.length))) ?_ ?_
      ·rintro⟨i55,l56,i57,l58,i59,l60,l61⟩ y h;unfold Di at h;refine Ag hq [0,4,6,21,22,30,31,32,33] [6,30000,37006,9100005] ?_;refine gC h (fun h=>?_) (fun h=>?_)
       ·obtain⟨hc74,h⟩:=Aa h;refine gR hq [0,4,6,8,21,22,30,31,32] [6,8,30000,37006,9100005] [] [] (c1 hc74) ?_;obtain⟨x75,hx75,h⟩:=bind_some h;refine gR hq [0,4,6,21,22,30,31,32,40] [6,30000,37006,9100005] [] [(Z52 x75.1 x75.2.1.Params x75.2.1.Ret x75.2.1.Blocks x75.2.2.1 x75.2.2.2.1 x75.2.2.2.2 x75.2.2.2.2.length (Q87 a9))] (c1 (Pl (l44.getD i55.toNat default) (⟨l56,i57,l58⟩:Ab) i59 l60 a9 l61 x75 hx75)) ?_;refine gC h (fun h=>?_) (fun h=>?_)
        ·cases h;exact gO (Br (Ca [4] [30000,37006,9100005] hq))
        ·refine Ag hq [0,4,6,21,22,30,31,32] [6,30000,37006,9100005] ?_;cases h;exact gN Ct
       ·cases h;exact gO (Br (Ca [0,21,22] [30000,37006,9100005] hq))
      ·clear hx76;rcases x76 with⟨l62,i63,l64,i65,l66,l67⟩|⟨l68,i69,l70,i71,l72,l73⟩
       ·refine gA ?_;refine Ag hq [0,21,22] [30000,37006,9100005] ?_;refine Ag hq [0,21,22,23] [30000,37006,9100005] ?_;refine gCt false ?_;refine Ag hq [2] [30000,37006,9100005] ?_;cases h;exact gJo (La (I4 [(30000,30000),(37006,37006),(9100005,9100005)] (Le.refl _ _)))
       ·refine gA' (fun st' hl78=>?_);cases h;exact gJn (Le.trans hl78 Ct)
     ·refine gA' (fun st' hl79=>?_);cases h;exact gJn (Le.trans hl79 Ct)
   ·refine gA' (fun st' hl80=>?_);cases h;exact gJn (Le.trans hl80 Ct)
 ·clear h hx81;rintro⟨i1,l2,i3,l4,i5,l6,l7⟩ y h;unfold I7 at h;refine Ag hq [2] [30000,37006,9100005] ?_;cases h;exact gJo (La (I4 [(30000,30000),(37006,37006),(9100005,9100005)] (Le.refl _ _)))
 ·clear hx81;refine Mr (fun st' hk=>?_);obtain rfl:=OI h;exact gK hk
def Q93:=(fun(v_:Aj)=>((Z36 v_):AV))
def Q90(x1:(Int×Ab×Int×List Int×List An)):List (Nat×Own):=(Z3 x1.2.1.Params x1.2.1.Ret x1.2.1.Blocks x1.2.2.1 x1.2.2.2.1 x1.2.2.2.2 x1.2.2.2.2.length)
def Q91(x2:(Int×Ab×Int×List Int×List An)):List (Nat×Own):=(Z3 x2.2.1.Params x2.2.1.Ret x2.2.1.Blocks x2.2.2.1 x2.2.2.2.1 x2.2.2.2.2 x2.2.2.2.2.length)
def Q92(x3:(Int×Ab×Int×List Int×List An)):List (Nat×Own):=(Z3 x3.2.1.Params x3.2.1.Ret x3.2.1.Blocks x3.2.2.1 x3.2.2.2.1 x3.2.2.2.2 x3.2.2.2.2.length)
def E9(a4:Ab)(aA:Int)(aB:List Int)(a7:List An):Option (Int×Ab×Int×List Int×List An×List (Int×Aj)):=
 ((G5 a4 aA aB a7).bind fun x1=>(bif (x1.1 !=0) then(some (x1.1,x1.2.1,x1.2.2.1,x1.2.2.2.1,x1.2.2.2.2,([]:List (Int×Aj)))) else((Gc x1.2.1 x1.2.2.1 x1.2.2.2.1 x1.2.2.2.2).bind fun x2=>(bif (x2.1 !=0) then(some (x2.1,x2.2.1,x2.2.2.1,x2.2.2.2.1,x2.2.2.2.2,([]:List (Int×Aj)))) else((Gm x2.2.1 x2.2.2.1 x2.2.2.2.1 x2.2.2.2.2).bind fun x3=>(bif (x3.1 !=0) then(some (x3.1,x3.2.1,x3.2.2.1,x3.2.2.2.1,x3.2.2.2.2,([]:List (Int×Aj)))) else((Fs x3.2.1 x3.2.2.1 x3.2.2.2.1 x3.2.2.2.2).bind fun x4=>(bif (x4.1 !=0) then(some (x4.1,x4.2.1,x4.2.2.1,x4.2.2.2.1,x4.2.2.2.2.1,x4.2.2.2.2.2)) else((G6 x4.2.1 x4.2.2.1 x4.2.2.2.1 x4.2.2.2.2.2 x4.2.2.2.2.1).bind fun x5=>(bif (x5.1 !=0) then(some (x5.1,x5.2.1,x5.2.2.1,x5.2.2.2.1,x5.2.2.2.2,x4.2.2.2.2.2)) else(some ((0:Int),x5.2.1,x5.2.2.1,x5.2.2.2.1,x5.2.2.2.2,x4.2.2.2.2.2))))))))))))
theorem Mf(a4:Ab)(aA:Int)(aB:List Int)(a7:List An)(r:(Int×Ab×Int×List Int×List An×List (Int×Aj)))(h:E9 a4 aA aB a7=some r):Spec Tryz.prog 19 [(.ptr 30000 0)] [(30000,.row 59 [(AV.list 1 Ak 0 a4.Params .none),(.int .i64 a4.Ret),(AV.list 5 A2 default a4.Blocks .none),(.int .i64 aA),(AV.list 1 Ak 0 aB .none),.nilm,(AV.list 5 C6 default a7 (.own 37006))]),(37006,.tok 5 104 a7.length)] (.int .i64 r.1) [(30000,.row 59 [(AV.list 1 Ak 0 r.2.1.Params .none),(.int .i64 r.2.1.Ret),(AV.list 5 A2 default r.2.1.Blocks .none),(.int .i64 r.2.2.1),(AV.list 1 Ak 0 r.2.2.2.1 .none),(.omap 9200005),(AV.list 5 C6 default r.2.2.2.2.1 (.own 37006))]),(37006,.tok 5 104 r.2.2.2.2.1.length),(9200005,.obj (.map false .i64 (mapE (fun(v_:Aj)=>((.agg (Eu v_)):AV)) r.2.2.2.2.2)))]:=by
 refine Ae mix Tryz.func19 (fun Γ hq=>?_);unfold E9 at h;refine Ag hq [0] [30000,37006] ?_;refine Ag hq [3] [3,30000,37006] ?_;refine Ag hq [18,19] [30000,37006] ?_;refine gU 5 ?_;refine Ag hq [18,19,20] [30000,37006] ?_;refine gCt true ?_;refine gR hq [5,18,19] [30000,37006] [] [] (c1 (show(Bb (0:Int) 5) from(by decide))) ?_;obtain⟨x1,hx1,h⟩:=bind_some h;refine gR hq [6,18,19] [30000,37006] [] [⟨[(30000,30000),(37006,37006)],[],(Z6 x1.1),(Q90 x1),[]⟩] (c1 (R6 a4 aA aB a7 x1 hx1)) ?_;refine Ag hq [6,18,19,25] [30000,37006] ?_;refine gC h (fun h=>?_) (fun h=>?_)
 ·refine Ag hq [2] [30000,37006] ?_;refine Nw (⟨[(2,(Z6 x1.1))],(Q90 x1),[]⟩:St) ?_;cases h;exact gK (e:=.ret) (I4 [(30000,30000),(37006,37006),(9300005,9200005)] (Le.trans (Ql (r:=30000) (j:=5) (nm:=9300005) .i64 rfl rfl (nl rfl) rfl) (Ca (st':=⟨[(2,(Z6 x1.1))],[(Z1 x1.2.1.Params x1.2.1.Ret x1.2.1.Blocks x1.2.2.1 x1.2.2.2.1 9300005 x1.2.2.2.2),(Nv 37006 104 x1.2.2.2.2.length),(9300005,.obj (.map false .i64 (mapE Q93 ([]:List (Int×Aj)))))],[]⟩) [2] [30000,37006,9300005] hq)))
 ·refine Ag hq [18,19] [30000,37006] ?_;refine Ag hq [18,19,20] [30000,37006] ?_;refine gCt true ?_;refine gR hq [5,18,19] [30000,37006] [] [] (c1 (show(Bb (1:Int) 5) from(by decide))) ?_;obtain⟨x2,hx2,h⟩:=bind_some h;refine gR hq [6,18,19] [30000,37006] [] [⟨[(30000,30000),(37006,37006)],[],(Z6 x2.1),(Q91 x2),[]⟩] (c1 (P0 x1.2.1 x1.2.2.1 x1.2.2.2.1 x1.2.2.2.2 x2 hx2)) ?_;refine Ag hq [6,18,19,25] [30000,37006] ?_;refine gC h (fun h=>?_) (fun h=>?_)
  ·refine Ag hq [2] [30000,37006] ?_;refine Nw (⟨[(2,(Z6 x2.1))],(Q91 x2),[]⟩:St) ?_;cases h;exact gK (e:=.ret) (I4 [(30000,30000),(37006,37006),(9300005,9200005)] (Le.trans (Ql (r:=30000) (j:=5) (nm:=9300005) .i64 rfl rfl (nl rfl) rfl) (Ca (st':=⟨[(2,(Z6 x2.1))],[(Z1 x2.2.1.Params x2.2.1.Ret x2.2.1.Blocks x2.2.2.1 x2.2.2.2.1 9300005 x2.2.2.2.2),(Nv 37006 104 x2.2.2.2.2.length),(9300005,.obj (.map false .i64 (mapE Q93 ([]:List (Int×Aj)))))],[]⟩) [2] [30000,37006,9300005] hq)))
  ·refine Ag hq [18,19] [30000,37006] ?_;refine Ag hq [18,19,20] [30000,37006] ?_;refine gCt true ?_;refine gR hq [5,18,19] [30000,37006] [] [] (c1 (show(Bb (2:Int) 5) from(by decide))) ?_;obtain⟨x3,hx3,h⟩:=bind_some h;refine gR hq [6,18,19] [30000,37006] [] [⟨[(30000,30000),(37006,37006)],[],(Z6 x3.1),(Q92 x3),[]⟩] (c1 (Qr x2.2.1 x2.2.2.1 x2.2.2.2.1 x2.2.2.2.2 x3 hx3)) ?_;refine Ag hq [6,18,19,25] [30000,37006] ?_;refine gC h (fun h=>?_) (fun h=>?_)
   ·refine Ag hq [2] [30000,37006] ?_;refine Nw (⟨[(2,(Z6 x3.1))],(Q92 x3),[]⟩:St) ?_;cases h;exact gK (e:=.ret) (I4 [(30000,30000),(37006,37006),(9300005,9200005)] (Le.trans (Ql (r:=30000) (j:=5) (nm:=9300005) .i64 rfl rfl (nl rfl) rfl) (Ca (st':=⟨[(2,(Z6 x3.1))],[(Z1 x3.2.1.Params x3.2.1.Ret x3.2.1.Blocks x3.2.2.1 x3.2.2.2.1 9300005 x3.2.2.2.2),(Nv 37006 104 x3.2.2.2.2.length),(9300005,.obj (.map false .i64 (mapE Q93 ([]:List (Int×Aj)))))],[]⟩) [2] [30000,37006,9300005] hq)))
   ·refine Ag hq [18,19] [30000,37006] ?_;refine Ag hq [18,19,20] [30000,37006] ?_;refine gCt true ?_;refine gR hq [5,18,19] [30000,37006] [] [] (c1 (show(Bb (3:Int) 5) from(by decide))) ?_;obtain⟨x4,hx4,h⟩:=bind_some h;refine gR hq [6,18,19] [30000,37006,13000005] [] [⟨[(30000,30000),(37006,37006)],[(9200005,13000005)],(Z6 x4.1),[(Z1 x4.2.1.Params x4.2.1.Ret x4.2.1.Blocks x4.2.2.1 x4.2.2.2.1 9200005 x4.2.2.2.2.1),(Nv 37006 104 x4.2.2.2.2.1.length),(9200005,.obj (.map false .i64 (mapE Q93 x4.2.2.2.2.2)))],[]⟩] (c1 (Pk x3.2.1 x3.2.2.1 x3.2.2.2.1 x3.2.2.2.2 x4 hx4)) ?_;refine Ag hq [6,18,19,25] [30000,37006,13000005] ?_;refine gC h (fun h=>?_) (fun h=>?_)
    ·refine Ag hq [2] [30000,37006,13000005] ?_;cases h;exact C7 [(30000,30000),(37006,37006),(13000005,9200005)]
    ·refine Ag hq [18,19] [30000,37006,13000005] ?_;refine Ag hq [18,19,20] [30000,37006,13000005] ?_;refine gCt true ?_;refine gR hq [5,18,19] [30000,37006,13000005] [] [] (c1 (show(Bb (4:Int) 5) from(by decide))) ?_;obtain⟨x5,hx5,h⟩:=bind_some h;refine gR hq [6,18,19] [30000,37006,13000005] [] [⟨[(30000,30000),(37006,37006),(13000005,9100005)],[],(Z6 x5.1),[(Z1 x5.2.1.Params x5.2.1.Ret x5.2.1.Blocks x5.2.2.1 x5.2.2.2.1 9100005 x5.2.2.2.2),(Nv 37006 104 x5.2.2.2.2.length),(9100005,.obj (.map false .i64 (mapE Q93 x4.2.2.2.2.2)))],[]⟩] (c1 (R7 x4.2.1 x4.2.2.1 x4.2.2.2.1 x4.2.2.2.2.2 x4.2.2.2.2.1 x5 hx5)) ?_;refine Ag hq [6,18,19,25] [30000,37006,13000005] ?_;refine gC h (fun h=>?_) (fun h=>?_)
     ·refine Ag hq [2] [30000,37006,13000005] ?_;cases h;exact C7 [(30000,30000),(37006,37006),(13000005,9200005)]
     ·refine Ag hq [18,19] [30000,37006,13000005] ?_;refine Ag hq [18,19,20] [30000,37006,13000005] ?_;refine gCt false ?_;refine Ag hq [2] [30000,37006,13000005] ?_;cases h;exact C7 [(30000,30000),(37006,37006),(13000005,9200005)]
def Q96(a0:Ab)(aQ:Int):AV:=(.agg [(Z7 a0.Params),(Z6 a0.Ret),(Z21 a0.Blocks),(Z6 aQ),Z16,.nilm,Z63])
def Q95(a0:Ab)(aQ:Int):=(⟨[Z70],[(5,.row 59 [(Z7 a0.Params),(Z6 a0.Ret),(Z21 a0.Blocks),(Z6 aQ),Z16,.nilm,Z63])],[]⟩:St)
def Q94(a0:Ab)(aQ:Int):=(⟨[Z70],[(5,.row 59 [(Z7 a0.Params),(Z6 a0.Ret),(Z21 a0.Blocks),(Z6 aQ),Z16,.nilm,(Z67 50506)]),(Z72 50506)],[]⟩:St)
def Dn(a0:Ab)(aQ:Int):Option Int:=
 (bif (bif (decide (aQ<0)) then true else(decide (((2:Int):Int)<aQ))) then(some (1:Int)) else((E9 a0 aQ ([]:List Int) ([]:List An)).bind fun x1=>(some x1.1)))
theorem Jg(a0:Ab)(aQ:Int)(r:Int)(h:Dn a0 aQ=some r):Spec Tryz.prog 10 [(.agg (L9 a0)),(.int .i64 aQ)] [] (.int .i64 r) []:=by
 refine Ae mix Tryz.func10 (fun Γ hq=>?_);unfold Dn at h;refine Ag hq [1,2] [2] ?_;refine gR hq [1,2,11] [2] [] [] (ci (gI ((decide (aQ<0))==false)) (c1 (Kb (decide (aQ<0))))) ?_;refine gC h (fun h=>?_) (fun h=>?_)
 ·refine Ag hq [4] [] ?_;cases h;exact C7 []
 ·refine gR hq [5] [5] [(14,(Q96 a0 aQ))] [] (c1 (show(AVle (.agg [(Z7 a0.Params),(Z6 a0.Ret),(Z21 a0.Blocks),(Z6 aQ),Z29,.nilm,Z29]) (Q96 a0 aQ)) from(AVle.agg (.cons (AVle.refl _) (.cons (AVle.refl _) (.cons (AVle.refl _) (.cons (AVle.refl _) (.cons F7 (.cons (AVle.refl _) (.cons F7 .nil)))))))))) ?_;refine Nw (Q95 a0 aQ) ?_;refine Kw (show Le Γ _ (Q94 a0 aQ) from Le.trans (Ca (st':=(Q95 a0 aQ)) [5] [5] hq) (Le.trans (Xy (r:=5) (j:=6) (nm:=50506) (sz':=5) (fun i=>C6 (([]:List An).getD i default)) 104 rfl rfl (nl rfl) rfl (.inl ⟨rfl,rfl⟩) (fun h_=>absurd h_ (by decide))) (Ca (st':=(Q94 a0 aQ)) [5] [5,50506] hq))) ?_;refine Kw (show Le Γ _ (⟨[Z70],[(5,.row 59 [(Z7 a0.Params),(Z6 a0.Ret),(Z21 a0.Blocks),(Z6 aQ),(AV.list 1 Ak 0 ([]:List Int) .none),.nilm,(Z67 50506)]),(Z72 50506)],[]⟩:St) from Le.trans (Ca (st':=(Q94 a0 aQ)) [5] [5,50506] hq) (H3 (.cons (AVle.refl _) .nil) (.row (.cons (AVle.refl _) (.cons (AVle.refl _) (.cons (AVle.refl _) (.cons (AVle.refl _) (.cons AVle.untag (.cons (AVle.refl _) (.cons (AVle.refl _) .nil))))))) (.same .nil)))) ?_;obtain⟨x1,hx1,h⟩:=bind_some h;refine gR hq [4] [] [] [⟨[(5,30000),(50506,37006)],[(9200005,10000505)],(Z6 x1.1),[(Z1 x1.2.1.Params x1.2.1.Ret x1.2.1.Blocks x1.2.2.1 x1.2.2.2.1 9200005 x1.2.2.2.2.1),(Nv 37006 104 x1.2.2.2.2.1.length),(9200005,.obj (.map false .i64 (mapE (fun(v_:Aj)=>((Z36 v_):AV)) x1.2.2.2.2.2)))],[]⟩] (c1 (Mf a0 aQ ([]:List Int) ([]:List An) x1 hx1)) ?_;cases h;exact C7 []
def Jr(a0:Ab)(i2:Int):(Int×Int)→Option (LR (Int×Int) Int):=
 fun((i5,i6):(Int×Int))=>(bif (decide (i6<(((a0.Blocks.getD i2.toNat default).Phis).length:Int))) then(Ba (Bb i6 ((a0.Blocks.getD i2.toNat default).Phis).length) (some (.next ((if i5<(((a0.Blocks.getD i2.toNat default).Phis).getD i6.toNat default).Dst then(((a0.Blocks.getD i2.toNat default).Phis).getD i6.toNat default).Dst else i5),(w64 (i6+1)))))) else(some (.done i5)))
def Js(a0:Ab)(i2:Int):(Int×Int)→Option (LR (Int×Int) Int):=
 fun((i11,i12):(Int×Int))=>(bif (decide (i12<(((a0.Blocks.getD i2.toNat default).Ops).length:Int))) then(Ba (Bb i12 ((a0.Blocks.getD i2.toNat default).Ops).length) (some (.next ((if i11<(((a0.Blocks.getD i2.toNat default).Ops).getD i12.toNat default).Dst then(((a0.Blocks.getD i2.toNat default).Ops).getD i12.toNat default).Dst else i11),(w64 (i12+1)))))) else(some (.done i11)))
def Jt(a0:Ab):(Int×Int)→Option (LR (Int×Int) Int):=
 fun((i1,i2):(Int×Int))=>(bif (decide (i2<(a0.Blocks.length:Int))) then(Ba (Bb i2 a0.Blocks.length) ((Ah (Jr a0 i2) (i1,(0:Int))).bind (fun x9=>((Ah (Js a0 i2) (x9,(0:Int))).bind (fun x15=>(some (.next (x15,(w64 (i2+1)))))))))) else(some (.done i1)))
def Jk(a0:Ab):Option Int:=
 ((Ah (Jt a0) ((a0.Params.length:Int),(0:Int))).bind (fun x17=>(some x17)))
theorem ok_check_Last(a0:Ab)(r:Int)(h:Jk a0=some r):Spec Tryz.prog 12 [(.agg (L9 a0))] [] (.int .i64 r) []:=by
 refine Ae mix Tryz.func12 (fun Γ hq=>?_);unfold Jk at h;refine Ag hq [1] [1] ?_;refine Ag hq [1,3] [1] ?_;refine Ag hq [3,14,15,16] [] ?_;obtain⟨x17,hx17,h⟩:=bind_some h;refine gL hq hx17 [3,14,15,16] [] (fun u (i1,i2)=>(Dx u [(3,(Z6 i1)),(16,(Z6 i2))] [])) (fun u i3=>aG Γ (.exit 0) (⟨[(3,(Z6 i3))],[],[]⟩:St)) ?_ ?_
 ·rintro⟨i1,i2⟩ y h;unfold Jt at h;refine Ag hq [3,14,15,16,17] [] ?_;refine gC h (fun h=>?_) (fun h=>?_)
  ·obtain⟨hc4,h⟩:=Aa h;refine gR hq [3,5,14,15,16] [5] [] [] (c1 hc4) ?_;refine Ag hq [3,5,14,15,16,21,22,23] [5] ?_;obtain⟨x9,hx9,h⟩:=bind_some h;refine gL hq hx9 [3,5,14,15,16,21,22,23] [5] (fun u (i5,i6)=>(Dx u [(3,(Z6 i5)),(23,(Z6 i6))] [])) (fun u i7=>aG Γ (.exit 2) (Mj [3,5,14,15,16] [5] u [(3,(Z6 i7))] [])) ?_ ?_
   ·rintro⟨i5,i6⟩ y h;unfold Jr at h;refine Ag hq [3,5,14,15,16,21,22,23,24] [5] ?_;refine gC h (fun h=>?_) (fun h=>?_)
    ·obtain⟨hc8,h⟩:=Aa h;refine gR hq [3,5,7,14,15,16,21,22,23] [5,7] [] [] (c1 hc8) ?_;refine Ag hq [3,5,14,15,16,21,22,23] [5] ?_;refine Ag hq [3,5,14,15,16,21,22,23] [5] ?_;cases h;exact gN Ct
    ·cases h;exact gO (Br (Ca [3,5,14,15,16] [5] hq))
   ·clear hx9;refine gA ?_;refine Ag hq [3,14,15,16,33,34,35] [] ?_;obtain⟨x15,hx15,h⟩:=bind_some h;refine gL hq hx15 [3,14,15,16,33,34,35] [] (fun u (i11,i12)=>(Dx u [(3,(Z6 i11)),(35,(Z6 i12))] [])) (fun u i13=>aG Γ (.exit 4) (Mj [3,14,15,16] [] u [(3,(Z6 i13))] [])) ?_ ?_
    ·rintro⟨i11,i12⟩ y h;unfold Js at h;refine Ag hq [3,14,15,16,33,34,35,36] [] ?_;refine gC h (fun h=>?_) (fun h=>?_)
     ·obtain⟨hc14,h⟩:=Aa h;refine gR hq [3,9,14,15,16,33,34,35] [9] [] [] (c1 hc14) ?_;refine Ag hq [3,14,15,16,33,34,35] [] ?_;refine Ag hq [3,14,15,16,33,34,35] [] ?_;cases h;exact gN Ct
     ·cases h;exact gO (Br (Ca [3,14,15,16] [] hq))
    ·clear hx15;refine gA ?_;refine Ag hq [3,14,15,16] [] ?_;cases h;exact gN Ct
  ·cases h;exact gO (Br (Ca [3] [] hq))
 ·clear hx17;refine gA ?_;refine Ag hq [2] [] ?_;obtain rfl:=OI h;exact C7 []
def In :List (Int×(Int×Int))→Option (LR (List (Int×(Int×Int))) (List (Int×(Int×Int)))):=
 fun(l4:List (Int×(Int×Int)))=>(some (.done l4))
def Hk(x1:(Int×Ab×Int×List Int×List An×List (Int×Aj))):Nat→List (Int×(Int×Int))→Option (LR (List (Int×(Int×Int))) (List (Int×(Int×Int)))):=
 fun(n3:Nat) (l4:List (Int×(Int×Int)))=>(some (.next (J4 l4 (x1.2.2.2.2.2.getD n3 ((0:Int),(default:Aj))).1 (((x1.2.2.2.2.2.getD n3 ((0:Int),(default:Aj))).2).shape.1,((x1.2.2.2.2.2.getD n3 ((0:Int),(default:Aj))).2).shape.2))))
def Q98(x1:(Int×Ab×Int×List Int×List An×List (Int×Aj)))(n3:Nat):=(x1.2.2.2.2.2.getD n3 ((0:Int),(default:Aj)))
def Q99(x1:(Int×Ab×Int×List Int×List An×List (Int×Aj))):=(mapE (fun(v_:Aj)=>((Z36 v_):AV)) x1.2.2.2.2.2)
def Q101(a0:Ab):AV:=(.agg [(Z7 a0.Params),(Z6 a0.Ret),(Z21 a0.Blocks),Z54,Z16,.nilm,Z63])
def Q100(a0:Ab):=(⟨[(3,(.ptr 3 0))],[(3,.row 59 [(Z7 a0.Params),(Z6 a0.Ret),(Z21 a0.Blocks),Z54,Z16,.nilm,Z63])],[]⟩:St)
def Q97(a0:Ab):=(⟨[(3,(.ptr 3 0))],[(3,.row 59 [(Z7 a0.Params),(Z6 a0.Ret),(Z21 a0.Blocks),Z54,Z16,.nilm,(Z67 50306)]),(Z72 50306)],[]⟩:St)
def H4(a0:Ab):Option (List (Int×(Int×Int))):=
 ((E9 a0 (2:Int) ([]:List Int) ([]:List An)).bind fun x1=>(bif (x1.1 !=0) then(some ([]:List (Int×(Int×Int)))) else((Vm (S:=List (Int×(Int×Int))) (X:=List (Int×(Int×Int))) permN ((mapE (fun(v_:Aj)=>((.agg (Eu v_)):AV)) x1.2.2.2.2.2).length) (Hk x1) In ([]:List (Int×(Int×Int)))).bind (fun x6=>(some x6)))))
theorem Yq(a0:Ab)(r:List (Int×(Int×Int)))(h:H4 a0=some r):Spec Tryz.prog 14 [(.agg (L9 a0))] [] (.omap 20000) [(20000,.obj (.pmap false .i64 (mapE (fun(v_:(Int×Int))=>((.agg (A8 v_)):AV)) r)))]:=by
 refine Ae mix Tryz.func14 (fun Γ hq=>?_);unfold H4 at h;refine Ag hq [1] [1] ?_;refine gR hq [3] [3] [(8,(Q101 a0))] [] (c1 (show(AVle (.agg [(Z7 a0.Params),(Z6 a0.Ret),(Z21 a0.Blocks),Z54,Z29,.nilm,Z29]) (Q101 a0)) from(AVle.agg (.cons (AVle.refl _) (.cons (AVle.refl _) (.cons (AVle.refl _) (.cons (AVle.refl _) (.cons F7 (.cons (AVle.refl _) (.cons F7 .nil)))))))))) ?_;refine Nw (Q100 a0) ?_;refine Kw (show Le Γ _ (Q97 a0) from Le.trans (Ca (st':=(Q100 a0)) [3] [3] hq) (Le.trans (Xy (r:=3) (j:=6) (nm:=50306) (sz':=5) (fun i=>C6 (([]:List An).getD i default)) 104 rfl rfl (nl rfl) rfl (.inl ⟨rfl,rfl⟩) (fun h_=>absurd h_ (by decide))) (Ca (st':=(Q97 a0)) [3] [3,50306] hq))) ?_;refine Kw (show Le Γ _ (⟨[(3,(.ptr 3 0))],[(3,.row 59 [(Z7 a0.Params),(Z6 a0.Ret),(Z21 a0.Blocks),Z54,(AV.list 1 Ak 0 ([]:List Int) .none),.nilm,(Z67 50306)]),(Z72 50306)],[]⟩:St) from Le.trans (Ca (st':=(Q97 a0)) [3] [3,50306] hq) (H3 (.cons (AVle.refl _) .nil) (.row (.cons (AVle.refl _) (.cons (AVle.refl _) (.cons (AVle.refl _) (.cons (AVle.refl _) (.cons AVle.untag (.cons (AVle.refl _) (.cons (AVle.refl _) .nil))))))) (.same .nil)))) ?_;obtain⟨x1,hx1,h⟩:=bind_some h;refine gR hq [3,10] [3,50306,10000305] [] [⟨[(3,30000),(50306,37006)],[(9200005,10000305)],(Z6 x1.1),(Z14 x1.2.1.Params x1.2.1.Ret x1.2.1.Blocks x1.2.2.1 x1.2.2.2.1 9200005 x1.2.2.2.2.1 x1.2.2.2.2.1.length (Q99 x1)),[]⟩] (c1 (Mf a0 (2:Int) ([]:List Int) ([]:List An) x1 hx1)) ?_;refine gC h (fun h=>?_) (fun h=>?_)
 ·refine Ag hq [2] [] ?_;refine Nw (⟨[(2,.nilm)],[],[]⟩:St) ?_;cases h;exact gK (e:=.ret) (I4 [(36002,20000)] (Le.trans (Le.trans (le_nilm (t:=2) (nm:=36002) .i64 rfl rfl) (Ca (st':=⟨[(2,(.omap 36002))],[(36002,.obj (.map false .i64 (mapE (fun(v_:(Int×Int))=>((Z46 v_):AV)) ([]:List (Int×(Int×Int))))))],[]⟩) [2] [36002] hq)) (leP 36002 false .i64 (f:=(fun(v_:(Int×Int))=>((Z46 v_):AV))) permN_nil)))
 ·refine gR hq [3,4] [3,14,50306,10000305] [(13,(Z42 x1.2.2.2.2.2.length))] [] (c1 (show(AVle (.int .i64 ((Q99 x1).length:Int)) (Z42 x1.2.2.2.2.2.length)) from(mlen_le (f:=(fun(v_:Aj)=>((Z36 v_):AV))) (l:=x1.2.2.2.2.2) rfl))) ?_;refine Kw (Ox (fun(k_:List (Int×AV)) u=>Dx u [] [(14,.obj (.map true .i64 k_))]) (show[]=(mapE (fun(v_:(Int×Int))=>((Z46 v_):AV)) ([]:List (Int×(Int×Int)))) from rfl)) ?_;refine Ag hq [4,17] [14,17,10000305] ?_;obtain⟨x6,hx6,h⟩:=bind_some h;refine gMP hq hx6 [4,17] [14,17,10000305] (fun u z2 l4=>(Dx u [] [(14,.obj (.map true .i64 (mapE (fun(v_:(Int×Int))=>((Z46 v_):AV)) l4))),(17,.obj (.miter (.omap 10000305) ((Q99 x1).length) z2))])) (fun u l5=>aG Γ (.exit 0) (Mj [4] [14] u [] [(14,.obj (.map true .i64 (mapE (fun(v_:(Int×Int))=>((Z46 v_):AV)) l5)))])) 17 18 19 17 10000305 false .i64 (Q99 x1) [4,17,19] [14,17,10000305] (kd:=?_) (kn:=?_) (ko:=?_)
  ·rintro z2 l4 y h hall;unfold In at h;refine gCt false ?_;cases h;exact gO (Br (Ca [4] [14] hq))
  ·rintro z2 l4 n3 y h hin3 hnn3;unfold Hk at h;refine gCt true ?_;refine gR hq [4,5,6,17] [6,14,17,10000305] [(20,(.tuple [(.int .i64 (Q98 x1 n3).1),(.agg (Eu ((Q98 x1 n3).2)))]))] [] (ci (Eq.refl ((Q99 x1).length)) (ci (show(n3<(Q99 x1).length) from hin3) (c1 (show(AVle (.tuple [.int .i64 ((Q99 x1).getD n3 (0,.any)).1,((Q99 x1).getD n3 (0,.any)).2]) (.tuple [(.int .i64 (Q98 x1 n3).1),(.agg (Eu ((Q98 x1 n3).2)))])) from(ment_le (f:=(fun(v_:Aj)=>((Z36 v_):AV))) (l:=x1.2.2.2.2.2) hin3))))) ?_;refine Ag hq [4,17] [14,17,10000305] ?_;cases h;exact gN (Le.trans (Ox (fun(k_:List (Int×AV)) u=>Dx u [] [(14,.obj (.map true .i64 k_))]) (show(J4 (mapE (fun(v_:(Int×Int))=>((Z46 v_):AV)) l4) (Q98 x1 n3).1 (.agg [(.int .i64 ((Q98 x1 n3).2).shape.1),(.int .i64 ((Q98 x1 n3).2).shape.2)]))=(mapE (fun(v_:(Int×Int))=>((Z46 v_):AV)) (J4 l4 (Q98 x1 n3).1 (((Q98 x1 n3).2).shape.1,((Q98 x1 n3).2).shape.2))) from(mset_eq (f:=(fun(v_:(Int×Int))=>((Z46 v_):AV))) (l:=l4) (v:=(((Q98 x1 n3).2).shape.1,((Q98 x1 n3).2).shape.2)) rfl rfl))) Ct)
  ·clear hx6;rintro l_ hp_;refine gA' (fun st' hl7=>?_);refine Kw (Le.trans hl7 (leP 14 true .i64 (f:=(fun(v_:(Int×Int))=>((Z46 v_):AV))) hp_)) ?_;refine Ag hq [2] [14] ?_;refine Nw (⟨[(2,(.omap 14))],[(14,.obj (.pmap true .i64 (mapE (fun(v_:(Int×Int))=>((Z46 v_):AV)) x6)))],[]⟩:St) ?_;obtain rfl:=OI h;exact gK (e:=.ret) (I4 [(14,20000)] (leQ 14 .i64 (mapE (fun(v_:(Int×Int))=>((Z46 v_):AV)) x6)))
def Q108:=([(8:Int)]:List Int)
def Q103(x1:Int)(x2:Int)(x3:List (Int×(Int×Int))):=(bif (bif (bif (x1==0) then(x2==2) else false) then(((x3.length:Int):Int)==2) else false) then((((Fh ((0:Int),(0:Int)) x3 (2:Int)).1:Int)==8)&&((((Fh ((0:Int),(0:Int)) x3 (2:Int)).2:Int)==1)&&true)) else false)
def Q111(x1:Int)(x2:Int)(x3:List (Int×(Int×Int)))(x5:Int):=(bif (Q103 x1 x2 x3) then(x5==7) else false)
def Q107(x1:Int)(x2:Int):=((bif (x1==0) then(x2==2) else false)==true)
def Q110:=([(⟨(1:Int),(8:Int),(1:Int),(2:Int),([(1:Int),(1:Int)]:List Int),(0:Int)⟩:Dv)]:List Dv)
def Q105(x1:Int)(x2:Int)(x3:List (Int×(Int×Int))):=((bif (bif (x1==0) then(x2==2) else false) then(((x3.length:Int):Int)==2) else false)==true)
def R0:=(⟨([]:List Er),Q110,(⟨(0:Int),(2:Int),([]:List Int)⟩:Ga)⟩:Ad)
def Q109:=([R0].set (0:Int).toNat (⟨([R0].getD (0:Int).toNat (default:Ad)).Phis,([R0].getD (0:Int).toNat (default:Ad)).Ops,(⟨([R0].getD (0:Int).toNat (default:Ad)).End.Kind,(3:Int),([R0].getD (0:Int).toNat (default:Ad)).End.To⟩:Ga)⟩:Ad))
def Q104:List AV:=[(AV.list 4 Sz default ([]:List Er) .exact),(AV.list 6 Mp default Q110 .exact),Nd,Z54,Z16]
def m_locksteplaw11_awake :Option Bool:=
 ((Dn (⟨([(8:Int)]:List Int),(8:Int),[(⟨([]:List Er),([(⟨(1:Int),(8:Int),(1:Int),(2:Int),([(1:Int),(1:Int)]:List Int),(0:Int)⟩:Dv)]:List Dv),(⟨(0:Int),(2:Int),([]:List Int)⟩:Ga)⟩:Ad)]⟩:Ab) (0:Int)).bind fun x1=>((Jk (⟨([(8:Int)]:List Int),(8:Int),[(⟨([]:List Er),([(⟨(1:Int),(8:Int),(1:Int),(2:Int),([(1:Int),(1:Int)]:List Int),(0:Int)⟩:Dv)]:List Dv),(⟨(0:Int),(2:Int),([]:List Int)⟩:Ga)⟩:Ad)]⟩:Ab)).bind fun x2=>((H4 (⟨([(8:Int)]:List Int),(8:Int),[(⟨([]:List Er),([(⟨(1:Int),(8:Int),(1:Int),(2:Int),([(1:Int),(1:Int)]:List Int),(0:Int)⟩:Dv)]:List Dv),(⟨(0:Int),(2:Int),([]:List Int)⟩:Ga)⟩:Ad)]⟩:Ab)).bind fun x3=>(Ba (Bb (0:Int) [(⟨([]:List Er),([(⟨(1:Int),(8:Int),(1:Int),(2:Int),([(1:Int),(1:Int)]:List Int),(0:Int)⟩:Dv)]:List Dv),(⟨(0:Int),(2:Int),([]:List Int)⟩:Ga)⟩:Ad)].length) ((Dn (⟨([(8:Int)]:List Int),(8:Int),([(⟨([]:List Er),([(⟨(1:Int),(8:Int),(1:Int),(2:Int),([(1:Int),(1:Int)]:List Int),(0:Int)⟩:Dv)]:List Dv),(⟨(0:Int),(2:Int),([]:List Int)⟩:Ga)⟩:Ad)].set (0:Int).toNat (⟨([(⟨([]:List Er),([(⟨(1:Int),(8:Int),(1:Int),(2:Int),([(1:Int),(1:Int)]:List Int),(0:Int)⟩:Dv)]:List Dv),(⟨(0:Int),(2:Int),([]:List Int)⟩:Ga)⟩:Ad)].getD (0:Int).toNat (default:Ad)).Phis,([(⟨([]:List Er),([(⟨(1:Int),(8:Int),(1:Int),(2:Int),([(1:Int),(1:Int)]:List Int),(0:Int)⟩:Dv)]:List Dv),(⟨(0:Int),(2:Int),([]:List Int)⟩:Ga)⟩:Ad)].getD (0:Int).toNat (default:Ad)).Ops,(⟨([(⟨([]:List Er),([(⟨(1:Int),(8:Int),(1:Int),(2:Int),([(1:Int),(1:Int)]:List Int),(0:Int)⟩:Dv)]:List Dv),(⟨(0:Int),(2:Int),([]:List Int)⟩:Ga)⟩:Ad)].getD (0:Int).toNat (default:Ad)).End.Kind,(3:Int),([(⟨([]:List Er),([(⟨(1:Int),(8:Int),(1:Int),(2:Int),([(1:Int),(1:Int)]:List Int),(0:Int)⟩:Dv)]:List Dv),(⟨(0:Int),(2:Int),([]:List Int)⟩:Ga)⟩:Ad)].getD (0:Int).toNat (default:Ad)).End.To⟩:Ga)⟩:Ad))⟩:Ab) (0:Int)).bind fun x5=>((bif ((bif (bif (bif (bif (x1==0) then(x2==2) else false) then(((x3.length:Int):Int)==2) else false) then((((Fh ((0:Int),(0:Int)) x3 (2:Int)).1:Int)==8)&&((((Fh ((0:Int),(0:Int)) x3 (2:Int)).2:Int)==1)&&true)) else false) then(x5==7) else false)==true) then Dn (⟨([(8:Int)]:List Int),(8:Int),([(⟨([]:List Er),([(⟨(1:Int),(8:Int),(1:Int),(2:Int),([(1:Int),(1:Int)]:List Int),(0:Int)⟩:Dv)]:List Dv),(⟨(0:Int),(2:Int),([]:List Int)⟩:Ga)⟩:Ad)].set (0:Int).toNat (⟨([(⟨([]:List Er),([(⟨(1:Int),(8:Int),(1:Int),(2:Int),([(1:Int),(1:Int)]:List Int),(0:Int)⟩:Dv)]:List Dv),(⟨(0:Int),(2:Int),([]:List Int)⟩:Ga)⟩:Ad)].getD (0:Int).toNat (default:Ad)).Phis,([(⟨([]:List Er),([(⟨(1:Int),(8:Int),(1:Int),(2:Int),([(1:Int),(1:Int)]:List Int),(0:Int)⟩:Dv)]:List Dv),(⟨(0:Int),(2:Int),([]:List Int)⟩:Ga)⟩:Ad)].getD (0:Int).toNat (default:Ad)).Ops,(⟨([(⟨([]:List Er),([(⟨(1:Int),(8:Int),(1:Int),(2:Int),([(1:Int),(1:Int)]:List Int),(0:Int)⟩:Dv)]:List Dv),(⟨(0:Int),(2:Int),([]:List Int)⟩:Ga)⟩:Ad)].getD (0:Int).toNat (default:Ad)).End.Kind,(3:Int),([(⟨([]:List Er),([(⟨(1:Int),(8:Int),(1:Int),(2:Int),([(1:Int),(1:Int)]:List Int),(0:Int)⟩:Dv)]:List Dv),(⟨(0:Int),(2:Int),([]:List Int)⟩:Ga)⟩:Ad)].getD (0:Int).toNat (default:Ad)).End.To⟩:Ga)⟩:Ad))⟩:Ab) (3:Int) else some (0:Int)).bind fun x6=>(some (bif (bif (bif (bif (bif (x1==0) then(x2==2) else false) then(((x3.length:Int):Int)==2) else false) then((((Fh ((0:Int),(0:Int)) x3 (2:Int)).1:Int)==8)&&((((Fh ((0:Int),(0:Int)) x3 (2:Int)).2:Int)==1)&&true)) else false) then(x5==7) else false) then(x6==1) else false))))))))
theorem Qt  (r:Bool) (h:m_locksteplaw11_awake=some r):Spec Tryz.prog 8 [] [] (.bool r) []:=by
 refine Ae mix Tryz.func8 (fun Γ hq=>?_);unfold m_locksteplaw11_awake at h;refine Ag hq [] [] ?_;refine gR hq [1] [1,12] [(6,(AV.list 1 Ak 0 Q108 .exact)),(7,(AV.list 1 Ak 0 ([(1:Int),(1:Int)]:List Int) .exact)),(9,(AV.list 6 Mp default Q110 .exact)),(10,(.agg [Nd,Z54,Z16])),(11,(.agg Q104)),(12,(.vsl 12 1))] [] (ci (B8 1 Ak (0:Int) Q108) (ci (B8 1 Ak (0:Int) ([(1:Int),(1:Int)]:List Int)) (ci (B8 6 Mp (default:Dv) Q110) (ci (show(AVle (.agg [Nd,Z54,Z29]) (.agg [Nd,Z54,Z16])) from(AVle.agg (.cons (AVle.refl _) (.cons (AVle.refl _) (.cons F7 .nil))))) (c1 (show(AVle (.agg [Z29,(AV.list 6 Mp default Q110 .exact),Nd,Z54,Z16]) (.agg Q104)) from(AVle.agg (.cons F7 (.cons (AVle.refl _) (.cons (AVle.refl _) (.cons (AVle.refl _) (.cons (AVle.refl _) .nil)))))))))))) ?_;refine Kw (Le.trans (Pv 12 (show ∀ k_,k_<1→AVleL ((fun i_=>AV.eraseAll (fun n_=>Dl n_ [1,12]) ((fun i_=>(Q104.drop (i_*5)).take 5) i_)) k_) ((fun i=>A2 ([R0].getD i default)) k_) from(pwl_snoc (n:=0) pwl_nil (show AVleL Q104 [(AV.list 4 Sz default ([]:List Er) .none),(AV.list 6 Mp default Q110 .none),Nd,Z54,(AV.list 1 Ak 0 ([]:List Int) .none)] from(.cons AVle.untag (.cons AVle.untag (.cons (AVle.refl _) (.cons (AVle.refl _) (.cons AVle.untag .nil))))))))) (Ox (fun(k_:Nat) u=>(Dx u [] [(1,.row 25 [(AV.list 1 Ak 0 Q108 .exact),(.int .i64 (8:Int)),(.vsl 12 k_)]),(12,.arr 5 44 k_ (fun i=>A2 ([R0].getD i default)))])) (show 1=[R0].length from rfl))) ?_;obtain⟨x1,hx1,h⟩:=bind_some h;refine gR hq [1,2] [1,12] [] [⟨[],[],(Z6 x1),[],[12]⟩] (ci (Jg (⟨Q108,(8:Int),[R0]⟩:Ab) (0:Int) x1 hx1) (ci (show(U0 []) from trivial) (c1 (Eq.refl ([R0].length))))) ?_;obtain⟨x2,hx2,h⟩:=bind_some h;refine gR hq [1,2,3] [1,12] [] [⟨[],[],(Z6 x2),[],[12]⟩] (ci (ok_check_Last (⟨Q108,(8:Int),[R0]⟩:Ab) x2 hx2) (ci (show(U0 []) from trivial) (c1 (Eq.refl ([R0].length))))) ?_;obtain⟨x3,hx3,h⟩:=bind_some h;refine gR hq [1,2,3,4] [1,12,19] [] [⟨[],[(20000,19)],(.omap 20000),[(20000,.obj (.pmap false .i64 (mapE (fun(v_:(Int×Int))=>((Z46 v_):AV)) x3)))],[12]⟩] (ci (Yq (⟨Q108,(8:Int),[R0]⟩:Ab) x3 hx3) (ci (show(U0 [(20000,.obj (.pmap false .i64 (mapE (fun(v_:(Int×Int))=>((Z46 v_):AV)) x3)))]) from⟨mapE_flat (fun _=>rfl),trivial⟩) (c1 (Eq.refl ([R0].length))))) ?_;obtain⟨hc4,h⟩:=Aa h;refine gR hq [1,2,3,4] [1,12,19] [] [] (ci hc4 (c1 (Eq.refl ([R0].length)))) ?_;refine Kw (Le.trans (Pv 12 (show ∀ k_,k_<([R0].length)→AVleL ((fun i_=>AV.eraseAll (fun n_=>Dl n_ [1,12,19]) ((F6 (fun i=>A2 ([R0].getD i default)) (0:Int).toNat 3 [(.int .i64 (3:Int))]) i_)) k_) ((fun i=>A2 (Q109.getD i default)) k_) from(Bu (List.length_set ..).symm (fun k_ hk_=>(congrArg (AV.eraseAll (fun n_=>Dl n_ [1,12,19])) ((Ht (fun _ _=>rfl) (Ix hc4) rfl) k_ hk_)).trans rfl)))) (Ox (fun(k_:Nat) u=>(Dx u [] [(1,.row 25 [(AV.list 1 Ak 0 Q108 .exact),(.int .i64 (8:Int)),(.vsl 12 k_)]),(12,.arr 5 44 k_ (fun i=>A2 (Q109.getD i default)))])) (show[R0].length=Q109.length from(List.length_set ..).symm))) ?_;obtain⟨x5,hx5,h⟩:=bind_some h;refine gR hq [1,2,3,4,5] [1,12,19] [] [⟨[],[],(Z6 x5),[],[12]⟩] (ci (Jg (⟨Q108,(8:Int),Q109⟩:Ab) (0:Int) x5 hx5) (ci (show(U0 []) from trivial) (c1 (Eq.refl (Q109.length))))) ?_;obtain⟨x6,hx6,h⟩:=bind_some h;refine gR hq [0] [] [(35,(Z42 x3.length)),(40,(.agg (A8 (Fh ((0:Int),(0:Int)) x3 (2:Int)))))] [⟨[],[],(Z6 x6),[],[12]⟩] (ci (gI ((x1==0)==true)) (ci (L2 (x1==0)) (ci (gI (Q107 x1 x2)) (ci (show((Q107 x1 x2)=true→(AVle (.int .i64 ((mapE (fun(v_:(Int×Int))=>((Z46 v_):AV)) x3).length:Int)) (Z42 x3.length))) from(fun hg=>(mlen_le (f:=(fun(v_:(Int×Int))=>((Z46 v_):AV))) (l:=x3) rfl))) (ci (gI (Q107 x1 x2)) (ci (L2 (bif (x1==0) then(x2==2) else false)) (ci (gI (Q105 x1 x2 x3)) (ci (show((Q105 x1 x2 x3)=true→(AVle (Fh (.agg [Nd,Nd]) (mapE (fun(v_:(Int×Int))=>((Z46 v_):AV)) x3) (2:Int)) (.agg (A8 (Fh ((0:Int),(0:Int)) x3 (2:Int)))))) from(fun hg=>(Y8 (f:=(fun(v_:(Int×Int))=>((Z46 v_):AV))) (l:=x3) (AVle.refl _) rfl))) (ci (gI (Q105 x1 x2 x3)) (ci (gI (Q105 x1 x2 x3)) (ci (L2 (bif (bif (x1==0) then(x2==2) else false) then(((x3.length:Int):Int)==2) else false)) (ci (gI ((Q103 x1 x2 x3)==true)) (ci (L2 (Q103 x1 x2 x3)) (ci (gI ((Q111 x1 x2 x3 x5)==true)) (ci (fun(hg:((Q111 x1 x2 x3 x5)==true)=true)=>(Jg (⟨Q108,(8:Int),Q109⟩:Ab) (3:Int) x6 (Bw hg hx6))) (ci (show(((Q111 x1 x2 x3 x5)==true)=true→(U0 [])) from(fun hg=>trivial)) (ci (show(((Q111 x1 x2 x3 x5)==true)=true→(Q109.length=Q109.length)) from(fun hg=>rfl)) (ci (gI ((Q111 x1 x2 x3 x5)==true)) (c1 (L2 (Q111 x1 x2 x3 x5))))))))))))))))))))) ?_;cases h;exact C7 []
def Cz(a0:Ab)(i2:Int):(Int×Int)→Option (LR (Int×Int) Int):=
 fun((i5,i6):(Int×Int))=>(Ba (Bb i2 a0.Blocks.length) (bif (bif (decide (i6<(((a0.Blocks.getD i2.toNat default).Phis).length:Int))) then(decide (i5≤20000)) else false) then(Ba (Bb i2 a0.Blocks.length) (Ba (Bb i6 ((a0.Blocks.getD i2.toNat default).Phis).length) (Ba (Bb i2 a0.Blocks.length) (Ba (Bb i6 ((a0.Blocks.getD i2.toNat default).Phis).length) (some (.next ((w64 ((w64 ((w64 (i5+1))+(((((a0.Blocks.getD i2.toNat default).Phis).getD i6.toNat default).From).length:Int)))+(((((a0.Blocks.getD i2.toNat default).Phis).getD i6.toNat default).Args).length:Int))),(w64 (i6+1))))))))) else(some (.done i5))))
def C0(a0:Ab)(i2:Int):(Int×Int)→Option (LR (Int×Int) Int):=
 fun((i15,i16):(Int×Int))=>(Ba (Bb i2 a0.Blocks.length) (bif (bif (decide (i16<(((a0.Blocks.getD i2.toNat default).Ops).length:Int))) then(decide (i15≤20000)) else false) then(Ba (Bb i2 a0.Blocks.length) (Ba (Bb i16 ((a0.Blocks.getD i2.toNat default).Ops).length) (some (.next ((w64 ((w64 (i15+1))+(((((a0.Blocks.getD i2.toNat default).Ops).getD i16.toNat default).Args).length:Int))),(w64 (i16+1))))))) else(some (.done i15))))
def Cd(a0:Ab):(Int×Int)→Option (LR (Int×Int) Int):=
 fun((i1,i2):(Int×Int))=>(bif (bif (decide (i2<(a0.Blocks.length:Int))) then(decide (i1≤20000)) else false) then(Ba (Bb i2 a0.Blocks.length) ((Ah (Cz a0 i2) ((w64 ((w64 (i1+1))+(((a0.Blocks.getD i2.toNat default).End.To).length:Int))),(0:Int))).bind (fun x13=>((Ah (C0 a0 i2) (x13,(0:Int))).bind (fun x21=>(some (.next (x21,(w64 (i2+1)))))))))) else(some (.done i1)))
def Fc(a0:Ab):Option Bool:=
 ((Ah (Cd a0) ((a0.Params.length:Int),(0:Int))).bind (fun x23=>(some (decide (x23≤20000)))))
def Bd(aP:Int):Option Bool:=
 (some (bif (decide (((0:Int):Int)≤aP)) then(decide (aP≤2147483647)) else false))
theorem Cf(aP:Int)(r:Bool)(h:Bd aP=some r):Spec Tryz.prog 36 [(.int .i64 aP)] [] (.bool r) []:=by
 refine Ae mix Tryz.func36 (fun Γ hq=>?_);unfold Bd at h;refine Ag hq [0] [] ?_;refine gR hq [2] [] [] [] (ci (gI ((decide (((0:Int):Int)≤aP))==true)) (c1 (L2 (decide (((0:Int):Int)≤aP))))) ?_;cases h;exact C7 []
def D8(aO:List Int):Int→Option (LR Int (Unit ⊕ Bool)):=
 fun(i1:Int)=>(bif (decide (i1<(aO.length:Int))) then(Ba (Bb i1 aO.length) ((Bd (aO.getD i1.toNat 0)).bind fun x3=>(bif (!x3) then(some (.done (.inr false))) else(some (.next (w64 (i1+1))))))) else(some (.done (.inl ()))))
def So(Γ:H0)(aO:List Int)(r:Bool):Exit→St→Prop:=fK Tryz.prog Γ Tryz.f35.results.toList [] (.bool r) []
def Cv(aO:List Int):Option Bool:=
 ((Ah (D8 aO) (0:Int)).bind (fun x4=>(match x4 with|(.inl _)=>(some (decide (((aO.length:Int):Int)≤64)))|(.inr r6)=>(some r6))))
theorem Gu(aO:List Int)(r:Bool)(h:Cv aO=some r):Spec Tryz.prog 35 [(AV.list 1 Ak 0 aO .none)] [] (.bool r) []:=by
 refine Ae mix Tryz.func35 (fun Γ hq=>?_);unfold Cv at h;refine Ag hq [0] [] ?_;refine Ag hq [0,3] [] ?_;obtain⟨x4,hx4,h⟩:=bind_some h;refine gL hq hx4 [0,3] [] (fun u i1=>(Dx u [(3,(Z6 i1))] [])) (fun u x_=>match x_ with|(.inl _)=>aG Γ (.exit 0) (Mj [0] [] u [] [])|(.inr r_)=>aR (So Γ aO r_)) ?_ ?_
 ·intro i1 y h;unfold D8 at h;refine Ag hq [0,3,7] [] ?_;refine gC h (fun h=>?_) (fun h=>?_)
  ·obtain⟨hc2,h⟩:=Aa h;obtain⟨x3,hx3,h⟩:=bind_some h;refine gR hq [0,3,15] [] [] [(Z2 x3)] (ci hc2 (c1 (Cf (aO.getD i1.toNat 0) x3 hx3))) ?_;refine gC h (fun h=>?_) (fun h=>?_)
   ·refine Ag hq [2] [] ?_;cases h;exact gO (La (I4 [] (Le.refl _ _)))
   ·refine Ag hq [0,3] [] ?_;cases h;exact gN Ct
  ·cases h;exact gO (Br (Ca [0] [] hq))
 ·clear hx4;rcases x4 with _|r6
  ·refine gA ?_;refine Ag hq [2] [] ?_;cases h;exact C7 []
  ·refine Mr (fun st' hk=>?_);obtain rfl:=OI h;exact gK hk
def Fy(a0:Ab):(Int×Int)→Option (LR (Int×Int) Int):=
 fun((i1,i2):(Int×Int))=>(bif (decide (i2<(a0.Blocks.length:Int))) then(Ba (Bb i2 a0.Blocks.length) (Ba (Bb i2 a0.Blocks.length) (some (.next ((w64 ((w64 ((w64 (i1+(((a0.Blocks.getD i2.toNat default).Phis).length:Int)))+(((a0.Blocks.getD i2.toNat default).Ops).length:Int)))+1)),(w64 (i2+1))))))) else(some (.done i1)))
def Ha(a0:Ab):Option Int:=
 ((Ah (Fy a0) ((0:Int),(0:Int))).bind (fun x6=>(some x6)))
theorem Sb(a0:Ab)(r:Int)(h:Ha a0=some r):Spec Tryz.prog 37 [(.agg (L9 a0))] [] (.int .i64 r) []:=by
 refine Ae mix Tryz.func37 (fun Γ hq=>?_);unfold Ha at h;refine Ag hq [1] [1] ?_;refine Ag hq [1,3] [1] ?_;refine Ag hq [1,3,4] [1] ?_;obtain⟨x6,hx6,h⟩:=bind_some h;refine gL hq hx6 [1,3,4] [1] (fun u (i1,i2)=>(Dx u [(3,(Z6 i1)),(4,(Z6 i2))] [])) (fun u i3=>aG Γ (.exit 0) (⟨[(3,(Z6 i3))],[],[]⟩:St)) ?_ ?_
 ·rintro⟨i1,i2⟩ y h;unfold Fy at h;refine Ag hq [1,3,4,9] [1] ?_;refine gC h (fun h=>?_) (fun h=>?_)
  ·obtain⟨hc4,h⟩:=Aa h;obtain⟨hc5,h⟩:=Aa h;refine gR hq [1,3,4] [1] [] [] (ci hc4 (c1 hc5)) ?_;refine Ag hq [1,3,4] [1] ?_;cases h;exact gN Ct
  ·cases h;exact gO (Br (Ca [3] [] hq))
 ·clear hx6;refine gA ?_;refine Ag hq [2] [] ?_;obtain rfl:=OI h;exact C7 []
def Ey(a0:Ab)(i4:Int):Int→Option (LR Int (Unit ⊕ Bool)):=
 fun(i6:Int)=>(bif (decide (i6<(((a0.Blocks.getD i4.toNat default).Phis).length:Int))) then(Ba (Bb i6 ((a0.Blocks.getD i4.toNat default).Phis).length) ((Bd ((((a0.Blocks.getD i4.toNat default).Phis).getD i6.toNat default).Bits)).bind fun x8=>((bif ((!x8)==false) then Bd ((((a0.Blocks.getD i4.toNat default).Phis).getD i6.toNat default).Dst) else some false).bind fun x9=>((bif ((bif (!x8) then true else(!x9))==false) then Cv ((((a0.Blocks.getD i4.toNat default).Phis).getD i6.toNat default).From) else some false).bind fun x10=>((bif ((bif (bif (!x8) then true else(!x9)) then true else(!x10))==false) then Cv ((((a0.Blocks.getD i4.toNat default).Phis).getD i6.toNat default).Args) else some false).bind fun x11=>(bif (bif (bif (bif (!x8) then true else(!x9)) then true else(!x10)) then true else(!x11)) then(some (.done (.inr false))) else(some (.next (w64 (i6+1)))))))))) else(some (.done (.inl ()))))
def Ez(a0:Ab)(i4:Int):Int→Option (LR Int (Unit ⊕ Bool)):=
 fun(i14:Int)=>(bif (decide (i14<(((a0.Blocks.getD i4.toNat default).Ops).length:Int))) then(Ba (Bb i14 ((a0.Blocks.getD i4.toNat default).Ops).length) ((Bd ((((a0.Blocks.getD i4.toNat default).Ops).getD i14.toNat default).Kind)).bind fun x16=>((bif ((!x16)==false) then Bd ((((a0.Blocks.getD i4.toNat default).Ops).getD i14.toNat default).Bits) else some false).bind fun x17=>((bif ((bif (!x16) then true else(!x17))==false) then Bd ((((a0.Blocks.getD i4.toNat default).Ops).getD i14.toNat default).Lanes) else some false).bind fun x18=>((bif ((bif (bif (!x16) then true else(!x17)) then true else(!x18))==false) then Bd ((((a0.Blocks.getD i4.toNat default).Ops).getD i14.toNat default).Dst) else some false).bind fun x19=>((bif ((bif (bif (bif (!x16) then true else(!x17)) then true else(!x18)) then true else(!x19))==false) then Cv ((((a0.Blocks.getD i4.toNat default).Ops).getD i14.toNat default).Args) else some false).bind fun x20=>(bif (bif (bif (bif (bif (!x16) then true else(!x17)) then true else(!x18)) then true else(!x19)) then true else(!x20)) then(some (.done (.inr false))) else(some (.next (w64 (i14+1))))))))))) else(some (.done (.inl ()))))
def Ds(a0:Ab):Int→Option (LR Int (Unit ⊕ Bool)):=
 fun(i4:Int)=>(bif (decide (i4<(a0.Blocks.length:Int))) then(Ba (Bb i4 a0.Blocks.length) ((Ah (Ey a0 i4) (0:Int)).bind (fun x12=>(match x12 with|(.inl _)=>((Ah (Ez a0 i4) (0:Int)).bind (fun x21=>(match x21 with|(.inl _)=>((Bd ((a0.Blocks.getD i4.toNat default).End.Kind)).bind fun x23=>((bif ((!x23)==false) then Bd ((a0.Blocks.getD i4.toNat default).End.Arg) else some false).bind fun x24=>((bif ((bif (!x23) then true else(!x24))==false) then Cv ((a0.Blocks.getD i4.toNat default).End.To) else some false).bind fun x25=>(bif (bif (bif (!x23) then true else(!x24)) then true else(!x25)) then(some (.done (.inr false))) else(some (.next (w64 (i4+1))))))))|(.inr r26)=>(some (.done (.inr r26))))))|(.inr r27)=>(some (.done (.inr r27))))))) else(some (.done (.inl ()))))
def K9(Γ:H0)(a0:Ab)(r:Bool):Exit→St→Prop:=fK Tryz.prog Γ Tryz.f20.results.toList [] (.bool r) []
def Q118(x8:Bool)(x9:Bool):=(bif (!x8) then true else(!x9))
def Q122(a0:Ab):=(((a0.Blocks.length:Int):Int)==0)
def Q114(a0:Ab):=(bif (bif (Q122 a0) then true else(decide (((64:Int):Int)<(a0.Blocks.length:Int)))) then true else(decide (((16:Int):Int)<(a0.Params.length:Int))))
def Q120(a0:Ab)(x1:Bool):=(bif (Q114 a0) then true else(!x1))
def Q119(x23:Bool)(x24:Bool):=((bif (!x23) then true else(!x24))==false)
def Q116(a0:Ab)(i4:Int):=(a0.Blocks.getD i4.toNat default)
def Q121(a0:Ab)(i4:Int)(i14:Int):=(((Q116 a0 i4).Ops).getD i14.toNat default)
def Q115(x16:Bool)(x17:Bool)(x18:Bool):=(bif (bif (!x16) then true else(!x17)) then true else(!x18))
def Q117(a0:Ab):=((bif (Q122 a0) then true else(decide (((64:Int):Int)<(a0.Blocks.length:Int))))==false)
def Ge(a0:Ab):Option Bool:=
 ((bif ((bif (bif (((a0.Blocks.length:Int):Int)==0) then true else(decide (((64:Int):Int)<(a0.Blocks.length:Int)))) then true else(decide (((16:Int):Int)<(a0.Params.length:Int))))==false) then Cv a0.Params else some false).bind fun x1=>((bif ((bif (bif (bif (((a0.Blocks.length:Int):Int)==0) then true else(decide (((64:Int):Int)<(a0.Blocks.length:Int)))) then true else(decide (((16:Int):Int)<(a0.Params.length:Int)))) then true else(!x1))==false) then Bd a0.Ret else some false).bind fun x2=>((bif ((bif (bif (bif (bif (((a0.Blocks.length:Int):Int)==0) then true else(decide (((64:Int):Int)<(a0.Blocks.length:Int)))) then true else(decide (((16:Int):Int)<(a0.Params.length:Int)))) then true else(!x1)) then true else(!x2))==false) then Ha a0 else some (0:Int)).bind fun x3=>(bif (bif (bif (bif (bif (bif (((a0.Blocks.length:Int):Int)==0) then true else(decide (((64:Int):Int)<(a0.Blocks.length:Int)))) then true else(decide (((16:Int):Int)<(a0.Params.length:Int)))) then true else(!x1)) then true else(!x2)) then true else(decide (((512:Int):Int)<x3))) then(some false) else((Ah (Ds a0) (0:Int)).bind (fun x28=>(match x28 with|(.inl _)=>(some true)|(.inr r30)=>(some r30))))))))
theorem Ti(a0:Ab)(r:Bool)(h:Ge a0=some r):Spec Tryz.prog 20 [(.agg (L9 a0))] [] (.bool r) []:=by
 refine Ae mix Tryz.func20 (fun Γ hq=>?_);unfold Ge at h;refine Ag hq [1] [1] ?_;obtain⟨x1,hx1,h⟩:=bind_some h;obtain⟨x2,hx2,h⟩:=bind_some h;obtain⟨x3,hx3,h⟩:=bind_some h;refine gR hq [1,41] [1] [] [(Z2 x1),(Z2 x2),(Z33 x3)] (ci (gI ((Q122 a0)==false)) (ci (gI ((Q122 a0)==false)) (ci (gI ((Q122 a0)==false)) (ci (Kb (Q122 a0)) (ci (gI (Q117 a0)) (ci (gI (Q117 a0)) (ci (gI (Q117 a0)) (ci (Kb (bif (Q122 a0) then true else(decide (((64:Int):Int)<(a0.Blocks.length:Int))))) (ci (gI ((Q114 a0)==false)) (ci (gI ((Q114 a0)==false)) (ci (fun(hg:((Q114 a0)==false)=true)=>(Gu a0.Params x1 (Bw hg hx1))) (ci (gI ((Q114 a0)==false)) (ci (Kb (Q114 a0)) (ci (gI ((Q120 a0 x1)==false)) (ci (gI ((Q120 a0 x1)==false)) (ci (fun(hg:((Q120 a0 x1)==false)=true)=>(Cf a0.Ret x2 (Bw hg hx2))) (ci (gI ((Q120 a0 x1)==false)) (ci (Kb (Q120 a0 x1)) (ci (gI ((bif (Q120 a0 x1) then true else(!x2))==false)) (ci (fun(hg:((bif (Q120 a0 x1) then true else(!x2))==false)=true)=>(Sb a0 x3 (Bw hg hx3))) (ci (gI ((bif (Q120 a0 x1) then true else(!x2))==false)) (c1 (Kb (bif (Q120 a0 x1) then true else(!x2))))))))))))))))))))))))) ?_;refine gC h (fun h=>?_) (fun h=>?_)
 ·refine Ag hq [2] [] ?_;obtain rfl:=OI h;exact C7 []
 ·refine Ag hq [1,3] [1] ?_;obtain⟨x28,hx28,h⟩:=bind_some h;refine gL hq hx28 [1,3] [1] (fun u i4=>(Dx u [(3,(Z6 i4))] [])) (fun u x_=>match x_ with|(.inl _)=>aG Γ (.exit 0) (⟨[],[],[]⟩:St)|(.inr r_)=>aR (K9 Γ a0 r_)) ?_ ?_
  ·intro i4 y h;unfold Ds at h;refine Ag hq [1,3,46] [1] ?_;refine gC h (fun h=>?_) (fun h=>?_)
   ·obtain⟨hc5,h⟩:=Aa h;refine gR hq [1,3,4] [1,4] [] [] (c1 hc5) ?_;refine Ag hq [1,3,4,5] [1,4] ?_;obtain⟨x12,hx12,h⟩:=bind_some h;refine gL hq hx12 [1,3,4,5] [1,4] (fun u i6=>(Dx u [(5,(Z6 i6))] [])) (fun u x_=>match x_ with|(.inl _)=>aG Γ (.exit 2) (Mj [1,3,4] [1,4] u [] [])|(.inr r_)=>aR (K9 Γ a0 r_)) ?_ ?_
    ·intro i6 y h;unfold Ey at h;refine Ag hq [1,3,4,5,58] [1,4] ?_;refine gC h (fun h=>?_) (fun h=>?_)
     ·obtain⟨hc7,h⟩:=Aa h;refine gR hq [1,3,4,5,6] [1,4,6] [] [] (c1 hc7) ?_;obtain⟨x8,hx8,h⟩:=bind_some h;obtain⟨x9,hx9,h⟩:=bind_some h;obtain⟨x10,hx10,h⟩:=bind_some h;obtain⟨x11,hx11,h⟩:=bind_some h;refine gR hq [1,3,4,5,87] [1,4] [] [(Z2 x8),(Z2 x9),(Z2 x10),(Z2 x11)] (ci (Cf ((((Q116 a0 i4).Phis).getD i6.toNat default).Bits) x8 hx8) (ci (gI ((!x8)==false)) (ci (gI ((!x8)==false)) (ci (fun(hg:((!x8)==false)=true)=>(Cf ((((Q116 a0 i4).Phis).getD i6.toNat default).Dst) x9 (Bw hg hx9))) (ci (gI ((!x8)==false)) (ci (Kb (!x8)) (ci (gI ((Q118 x8 x9)==false)) (ci (gI ((Q118 x8 x9)==false)) (ci (fun(hg:((Q118 x8 x9)==false)=true)=>(Gu ((((Q116 a0 i4).Phis).getD i6.toNat default).From) x10 (Bw hg hx10))) (ci (gI ((Q118 x8 x9)==false)) (ci (Kb (Q118 x8 x9)) (ci (gI ((bif (Q118 x8 x9) then true else(!x10))==false)) (ci (gI ((bif (Q118 x8 x9) then true else(!x10))==false)) (ci (fun(hg:((bif (Q118 x8 x9) then true else(!x10))==false)=true)=>(Gu ((((Q116 a0 i4).Phis).getD i6.toNat default).Args) x11 (Bw hg hx11))) (ci (gI ((bif (Q118 x8 x9) then true else(!x10))==false)) (c1 (Kb (bif (Q118 x8 x9) then true else(!x10))))))))))))))))))) ?_;refine gC h (fun h=>?_) (fun h=>?_)
      ·refine Ag hq [2] [] ?_;cases h;exact gO (La (I4 [] (Le.refl _ _)))
      ·refine Ag hq [1,3,4,5] [1,4] ?_;cases h;exact gN Ct
     ·cases h;exact gO (Br (Ca [1,3,4] [1,4] hq))
    ·clear hx12;rcases x12 with _|r27
     ·refine gA ?_;refine Ag hq [1,3,4,7] [1,4] ?_;obtain⟨x21,hx21,h⟩:=bind_some h;refine gL hq hx21 [1,3,4,7] [1,4] (fun u i14=>(Dx u [(7,(Z6 i14))] [])) (fun u x_=>match x_ with|(.inl _)=>aG Γ (.exit 4) (Mj [1,3,4] [1,4] u [] [])|(.inr r_)=>aR (K9 Γ a0 r_)) ?_ ?_
      ·intro i14 y h;unfold Ez at h;refine Ag hq [1,3,4,7,92] [1,4] ?_;refine gC h (fun h=>?_) (fun h=>?_)
       ·obtain⟨hc15,h⟩:=Aa h;refine gR hq [1,3,4,7,8] [1,4,8] [] [] (c1 hc15) ?_;obtain⟨x16,hx16,h⟩:=bind_some h;obtain⟨x17,hx17,h⟩:=bind_some h;obtain⟨x18,hx18,h⟩:=bind_some h;obtain⟨x19,hx19,h⟩:=bind_some h;obtain⟨x20,hx20,h⟩:=bind_some h;refine gR hq [1,3,4,7,127] [1,4] [] [(Z2 x16),(Z2 x17),(Z2 x18),(Z2 x19),(Z2 x20)] (ci (Cf ((Q121 a0 i4 i14).Kind) x16 hx16) (ci (gI ((!x16)==false)) (ci (gI ((!x16)==false)) (ci (fun(hg:((!x16)==false)=true)=>(Cf ((Q121 a0 i4 i14).Bits) x17 (Bw hg hx17))) (ci (gI ((!x16)==false)) (ci (Kb (!x16)) (ci (gI ((bif (!x16) then true else(!x17))==false)) (ci (gI ((bif (!x16) then true else(!x17))==false)) (ci (fun(hg:((bif (!x16) then true else(!x17))==false)=true)=>(Cf ((Q121 a0 i4 i14).Lanes) x18 (Bw hg hx18))) (ci (gI ((bif (!x16) then true else(!x17))==false)) (ci (Kb (bif (!x16) then true else(!x17))) (ci (gI ((Q115 x16 x17 x18)==false)) (ci (gI ((Q115 x16 x17 x18)==false)) (ci (fun(hg:((Q115 x16 x17 x18)==false)=true)=>(Cf ((Q121 a0 i4 i14).Dst) x19 (Bw hg hx19))) (ci (gI ((Q115 x16 x17 x18)==false)) (ci (Kb (Q115 x16 x17 x18)) (ci (gI ((bif (Q115 x16 x17 x18) then true else(!x19))==false)) (ci (gI ((bif (Q115 x16 x17 x18) then true else(!x19))==false)) (ci (fun(hg:((bif (Q115 x16 x17 x18) then true else(!x19))==false)=true)=>(Gu ((Q121 a0 i4 i14).Args) x20 (Bw hg hx20))) (ci (gI ((bif (Q115 x16 x17 x18) then true else(!x19))==false)) (c1 (Kb (bif (Q115 x16 x17 x18) then true else(!x19)))))))))))))))))))))))) ?_;refine gC h (fun h=>?_) (fun h=>?_)
        ·refine Ag hq [2] [] ?_;cases h;exact gO (La (I4 [] (Le.refl _ _)))
        ·refine Ag hq [1,3,4,7] [1,4] ?_;cases h;exact gN Ct
       ·cases h;exact gO (Br (Ca [1,3,4] [1,4] hq))
      ·clear hx21;rcases x21 with _|r26
       ·refine gA ?_;obtain⟨x23,hx23,h⟩:=bind_some h;obtain⟨x24,hx24,h⟩:=bind_some h;obtain⟨x25,hx25,h⟩:=bind_some h;refine gR hq [1,3,146] [1] [] [(Z2 x23),(Z2 x24),(Z2 x25)] (ci (Cf ((Q116 a0 i4).End.Kind) x23 hx23) (ci (gI ((!x23)==false)) (ci (gI ((!x23)==false)) (ci (gI ((!x23)==false)) (ci (fun(hg:((!x23)==false)=true)=>(Cf ((Q116 a0 i4).End.Arg) x24 (Bw hg hx24))) (ci (gI ((!x23)==false)) (ci (Kb (!x23)) (ci (gI (Q119 x23 x24)) (ci (gI (Q119 x23 x24)) (ci (gI (Q119 x23 x24)) (ci (fun(hg:(Q119 x23 x24)=true)=>(Gu ((Q116 a0 i4).End.To) x25 (Bw hg hx25))) (ci (gI (Q119 x23 x24)) (c1 (Kb (bif (!x23) then true else(!x24)))))))))))))))) ?_;refine gC h (fun h=>?_) (fun h=>?_)
        ·refine Ag hq [2] [] ?_;cases h;exact gO (La (I4 [] (Le.refl _ _)))
        ·refine Ag hq [1,3] [1] ?_;cases h;exact gN Ct
       ·refine Mr (fun st' hk=>?_);cases h;exact gO (La hk)
     ·refine Mr (fun st' hk=>?_);cases h;exact gO (La hk)
   ·cases h;exact gO (Br (Ca [] [] hq))
  ·clear hx28;rcases x28 with _|r30
   ·refine gA ?_;refine Ag hq [2] [] ?_;obtain rfl:=OI h;exact C7 []
   ·refine Mr (fun st' hk=>?_);obtain rfl:=OI h;exact gK hk
def Bt(aO:List Int)(aJ:Int):Int→Option (LR Int (Unit ⊕ Bool)):=
 fun(i1:Int)=>(bif (decide (i1<(aO.length:Int))) then(Ba (Bb i1 aO.length) (bif (((aO.getD i1.toNat 0):Int)==aJ) then(some (.done (.inr true))) else(some (.next (w64 (i1+1)))))) else(some (.done (.inl ()))))
def Uq(Γ:H0)(aO:List Int)(aJ:Int)(r:Bool):Exit→St→Prop:=fK Tryz.prog Γ Tryz.f42.results.toList [] (.bool r) []
def E5(aO:List Int)(aJ:Int):Option Bool:=
 ((Ah (Bt aO aJ) (0:Int)).bind (fun x3=>(match x3 with|(.inl _)=>(some false)|(.inr r5)=>(some r5))))
theorem Kp(aO:List Int)(aJ:Int)(r:Bool)(h:E5 aO aJ=some r):Spec Tryz.prog 42 [(AV.list 1 Ak 0 aO .none),(.int .i64 aJ)] [] (.bool r) []:=by
 refine Ae mix Tryz.func42 (fun Γ hq=>?_);unfold E5 at h;refine Ag hq [0,1] [] ?_;refine Ag hq [0,1,5] [] ?_;obtain⟨x3,hx3,h⟩:=bind_some h;refine gL hq hx3 [0,1,5] [] (fun u i1=>(Dx u [(5,(Z6 i1))] [])) (fun u x_=>match x_ with|(.inl _)=>aG Γ (.exit 0) (⟨[],[],[]⟩:St)|(.inr r_)=>aR (Uq Γ aO aJ r_)) ?_ ?_
 ·intro i1 y h;unfold Bt at h;refine Ag hq [0,1,5,9] [] ?_;refine gC h (fun h=>?_) (fun h=>?_)
  ·obtain⟨hc2,h⟩:=Aa h;refine gR hq [0,1,5,17] [] [] [] (c1 hc2) ?_;refine gC h (fun h=>?_) (fun h=>?_)
   ·refine Ag hq [4] [] ?_;cases h;exact gO (La (I4 [] (Le.refl _ _)))
   ·refine Ag hq [0,1,5] [] ?_;cases h;exact gN Ct
  ·cases h;exact gO (Br (Ca [] [] hq))
 ·clear hx3;rcases x3 with _|r5
  ·refine gA ?_;refine Ag hq [4] [] ?_;obtain rfl:=OI h;exact C7 []
  ·refine Mr (fun st' hk=>?_);obtain rfl:=OI h;exact gK hk
def Bm(a5:List (List Int))(i1:Int):Int→Option (LR Int (Unit ⊕ (TGraph×Int))):=
 fun(i2:Int)=>(Ba (Bb i1 a5.length) (bif (decide (i2<((a5.getD i1.toNat []).length:Int))) then(Ba (Bb i1 a5.length) (Ba (Bb i2 (a5.getD i1.toNat []).length) (Ba (((decide ((((a5.getD i1.toNat []).getD i2.toNat 0):Int)<0))==false)=true→(Bb i1 a5.length)) (Ba (((decide ((((a5.getD i1.toNat []).getD i2.toNat 0):Int)<0))==false)=true→(Bb i2 (a5.getD i1.toNat []).length)) (Ba ((((bif (decide ((((a5.getD i1.toNat []).getD i2.toNat 0):Int)<0)) then true else(decide (((a5.length:Int):Int)≤((a5.getD i1.toNat []).getD i2.toNat 0))))==false)&&((decide (((0:Int):Int)<i2))==true))=true→(Bb i1 a5.length)) (Ba ((((bif (decide ((((a5.getD i1.toNat []).getD i2.toNat 0):Int)<0)) then true else(decide (((a5.length:Int):Int)≤((a5.getD i1.toNat []).getD i2.toNat 0))))==false)&&((decide (((0:Int):Int)<i2))==true))=true→(Bb i2 (a5.getD i1.toNat []).length)) (Ba ((((bif (decide ((((a5.getD i1.toNat []).getD i2.toNat 0):Int)<0)) then true else(decide (((a5.length:Int):Int)≤((a5.getD i1.toNat []).getD i2.toNat 0))))==false)&&((decide (((0:Int):Int)<i2))==true))=true→(Bb i1 a5.length)) (Ba ((((bif (decide ((((a5.getD i1.toNat []).getD i2.toNat 0):Int)<0)) then true else(decide (((a5.length:Int):Int)≤((a5.getD i1.toNat []).getD i2.toNat 0))))==false)&&((decide (((0:Int):Int)<i2))==true))=true→(Bb (w64 (i2-1)) (a5.getD i1.toNat []).length)) (bif (bif (bif (decide ((((a5.getD i1.toNat []).getD i2.toNat 0):Int)<0)) then true else(decide (((a5.length:Int):Int)≤((a5.getD i1.toNat []).getD i2.toNat 0)))) then true else(bif (decide (((0:Int):Int)<i2)) then(decide ((((a5.getD i1.toNat []).getD i2.toNat 0):Int)≤((a5.getD i1.toNat []).getD (w64 (i2-1)).toNat (0:Int)))) else false)) then(some (.done (.inr ((⟨([]:List (List Int)),([]:List (List Int))⟩:TGraph),(5:Int))))) else(some (.next (w64 (i2+1))))))))))))) else(some (.done (.inl ())))))
def Bn(a5:List (List Int)):Int→Option (LR Int (Unit ⊕ (TGraph×Int))):=
 fun(i1:Int)=>(bif (decide (i1<(a5.length:Int))) then((Ah (Bm a5 i1) (0:Int)).bind (fun x12=>(match x12 with|(.inl _)=>(some (.next (w64 (i1+1))))|(.inr r14)=>(some (.done (.inr r14)))))) else(some (.done (.inl ()))))
def Cm(a5:List (List Int))(i18:Int):(Int×List (List Int))→Option (LR (Int×List (List Int)) (List (List Int))):=
 fun((i21,l22):(Int×List (List Int)))=>(bif (decide (i21<(a5.length:Int))) then(Option.bind (α:=List (List Int)) (Ba (Bb i21 a5.length) ((E5 (a5.getD i21.toNat []) i18).bind fun x26=>(bif x26 then(Ba (Bb i18 l22.length) (Ba (Bb i18 l22.length) (Ba ((l22.getD i18.toNat []).length+([i21]:List Int).length≤room) (Ba (Bb i18 l22.length) (some (l22.set i18.toNat ((l22.getD i18.toNat [])++([i21]:List Int)))))))) else(some l22)))) (fun x31=>(some (.next ((w64 (i21+1)),x31))))) else(some (.done l22)))
def B0(a5:List (List Int)):(Int×List (List Int))→Option (LR (Int×List (List Int)) (List (List Int))):=
 fun((i18,l19):(Int×List (List Int)))=>(bif (decide (i18<(a5.length:Int))) then((Ah (Cm a5 i18) ((0:Int),l19)).bind (fun x33=>(some (.next ((w64 (i18+1)),x33))))) else(some (.done l19)))
def Nb(Γ:H0)(a5:List (List Int))(r:(TGraph×Int)):Exit→St→Prop:=fK Tryz.prog Γ Tryz.f43.results.toList [] (.tuple [(.agg (Iw r.1)),(Z6 r.2)]) []
def Pu(a5:List (List Int)):AV:=(Z23 a5)
def Q131(a5:List (List Int)):AV:=(Z42 a5.length)
def Q123(a5:List (List Int))(i1:Int)(i2:Int):=((bif (decide ((((a5.getD i1.toNat []).getD i2.toNat 0):Int)<0)) then true else(decide (((a5.length:Int):Int)≤((a5.getD i1.toNat []).getD i2.toNat 0))))==false)
def Q128(i2:Int):=((decide (((0:Int):Int)<i2))==true)
def Ur(a5:List (List Int))(i1:Int)(i2:Int):=((Q123 a5 i1 i2)&&(Q128 i2))
def Q132:List (Nat×AV):=[Pd,(3,(.int .i64 (5:Int)))]
def Q129(l22:List (List Int))(i18:Int)(i21:Int):=((l22.getD i18.toNat [])++([i21]:List Int))
def Q133:AV:=Z59
def Q130(a5:List (List Int)):=(List.replicate (a5.length:Int).toNat ([]:List Int))
def Yl:List AV:=[Z29,Z29]
def Q136(a5:List (List Int)):List (Nat×AV):=[(0,(Pu a5)),Pd,(4,(Q131 a5)),(7,(.ptr 7 0))]
def Q127(a5:List (List Int))(i1:Int)(i2:Int):=((decide ((((a5.getD i1.toNat []).getD i2.toNat 0):Int)<0))==false)
def Q124:List AV:=[Z35,Z35]
def Q135(a5:List (List Int))(i18:Int)(i21:Int):List (Nat×AV):=[(0,(Pu a5)),Pd,(4,(Q131 a5)),(7,(.ptr 7 0)),(8,(Z6 i18)),(9,(Z6 i21))]
def Fz(a5:List (List Int)):Option (TGraph×Int):=
 (bif (bif (((a5.length:Int):Int)==0) then true else(decide (((64:Int):Int)<(a5.length:Int)))) then(some ((⟨([]:List (List Int)),([]:List (List Int))⟩:TGraph),(5:Int))) else((Ah (Bn a5) (0:Int)).bind (fun x15=>(match x15 with|(.inl _)=>(Ba (0≤(a5.length:Int)∧(a5.length:Int)≤(a5.length:Int)∧(a5.length:Int)≤(room:Int)) ((Ah (B0 a5) ((0:Int),(List.replicate (a5.length:Int).toNat ([]:List Int)))).bind (fun x35=>(some ((⟨a5,x35⟩:TGraph),(0:Int))))))|(.inr r37)=>(some r37)))))
theorem Mt(a5:List (List Int))(r:(TGraph×Int))(h:Fz a5=some r):Spec Tryz.prog 43 [(AV.list 1 Hp [] a5 .none)] [] (.tuple [(.agg (Iw r.1)),(.int .i64 r.2)]) []:=by
 refine Ae mix Tryz.func43 (fun Γ hq=>?_);have hΓ:=hq.own;unfold Fz at h;refine Ag hq [0,2] [2] ?_;refine Ag hq [0,2,4] [2] ?_;refine gR hq [0,2,4,17] [2] [] [] (ci (gI ((((a5.length:Int):Int)==0)==false)) (c1 (Kb (((a5.length:Int):Int)==0)))) ?_;refine gC h (fun h=>?_) (fun h=>?_)
 ·refine gR hq [2,3] [2] [(18,(.agg Q124))] [] (c1 (show(AVle (.agg Yl) (.agg Q124)) from(AVle.agg (.cons F7 (.cons F7 .nil))))) ?_;refine Nw (⟨Q132,[(Ly 67 Q124)],[]⟩:St) ?_;cases h;exact gK (e:=.ret) (I4 [] (show Le Γ _ (⟨Q132,[(Z56 Q133)],[]⟩:St) from Le.trans (Ca (st':=⟨Q132,[(Ly 67 Q124)],[]⟩) [2,3] [2] hq) (H3 (.cons (AVle.refl _) (.cons (AVle.refl _) .nil)) (.row (.cons AVle.untag (.cons AVle.untag .nil)) .nil))))
 ·refine Ag hq [0,2,4,5] [2] ?_;obtain⟨x15,hx15,h⟩:=bind_some h;refine gL hq hx15 [0,2,4,5] [2] (fun u i1=>(Dx u [(5,(Z6 i1))] [])) (fun u x_=>match x_ with|(.inl _)=>aG Γ (.exit 0) (Mj [0,2,4] [2] u [] [])|(.inr r_)=>aR (Nb Γ a5 r_)) ?_ ?_
  ·intro i1 y h;unfold Bn at h;refine Ag hq [0,2,4,5,21] [2] ?_;refine gC h (fun h=>?_) (fun h=>?_)
   ·refine Ag hq [0,2,4,5,6] [2] ?_;obtain⟨x12,hx12,h⟩:=bind_some h;refine gL hq hx12 [0,2,4,5,6] [2] (fun u i2=>(Dx u [(6,(Z6 i2))] [])) (fun u x_=>match x_ with|(.inl _)=>aG Γ (.exit 2) (Mj [0,2,4,5] [2] u [] [])|(.inr r_)=>aR (Nb Γ a5 r_)) ?_ ?_
    ·intro i2 y h;unfold Bm at h;obtain⟨hc3,h⟩:=Aa h;refine gR hq [0,2,4,5,6,30] [2] [] [] (c1 hc3) ?_;refine gC h (fun h=>?_) (fun h=>?_)
     ·obtain⟨hc4,h⟩:=Aa h;obtain⟨hc5,h⟩:=Aa h;obtain⟨hc6,h⟩:=Aa h;obtain⟨hc7,h⟩:=Aa h;obtain⟨hc8,h⟩:=Aa h;obtain⟨hc9,h⟩:=Aa h;obtain⟨hc10,h⟩:=Aa h;obtain⟨hc11,h⟩:=Aa h;refine gR hq [0,2,4,5,6,73] [2] [] [] (ci hc4 (ci hc5 (ci (gI (Q127 a5 i1 i2)) (ci (gI (Q127 a5 i1 i2)) (ci hc6 (ci (gI (Q127 a5 i1 i2)) (ci (gI (Q127 a5 i1 i2)) (ci (gI (Q127 a5 i1 i2)) (ci hc7 (ci (gI (Q127 a5 i1 i2)) (ci (gI (Q127 a5 i1 i2)) (ci (gI (Q127 a5 i1 i2)) (ci (Kb (decide ((((a5.getD i1.toNat []).getD i2.toNat 0):Int)<0))) (ci (gI (Q123 a5 i1 i2)) (ci (gI (Q123 a5 i1 i2)) (ci (gI (Ur a5 i1 i2)) (ci (gI (Ur a5 i1 i2)) (ci hc8 (ci (gI (Ur a5 i1 i2)) (ci (gI (Ur a5 i1 i2)) (ci (gI (Ur a5 i1 i2)) (ci hc9 (ci (gI (Ur a5 i1 i2)) (ci (gI (Ur a5 i1 i2)) (ci (gI (Ur a5 i1 i2)) (ci hc10 (ci (gI (Ur a5 i1 i2)) (ci (gI (Ur a5 i1 i2)) (ci (gI (Ur a5 i1 i2)) (ci (gI (Ur a5 i1 i2)) (ci hc11 (ci (gI (Ur a5 i1 i2)) (ci (gI (Ur a5 i1 i2)) (ci (gI (Ur a5 i1 i2)) (ci (gI (Q123 a5 i1 i2)) (ci (show((Q123 a5 i1 i2)=true→((decide (((0:Int):Int)<i2))=true→(Ur a5 i1 i2)=true)) from(fun hg=>(aT hg))) (c1 (Kb (bif (decide ((((a5.getD i1.toNat []).getD i2.toNat 0):Int)<0)) then true else(decide (((a5.length:Int):Int)≤((a5.getD i1.toNat []).getD i2.toNat 0)))))))))))))))))))))))))))))))))))))))))) ?_;refine gC h (fun h=>?_) (fun h=>?_)
      ·refine gR hq [2,3] [2] [(74,(.agg Q124))] [] (c1 (show(AVle (.agg Yl) (.agg Q124)) from(AVle.agg (.cons F7 (.cons F7 .nil))))) ?_;refine Nw (⟨Q132,[(Ly 67 Q124)],[]⟩:St) ?_;cases h;exact gO (La (I4 [] (show Le Γ _ (⟨Q132,[(Z56 Q133)],[]⟩:St) from Le.trans (Ca (st':=⟨Q132,[(Ly 67 Q124)],[]⟩) [2,3] [2] hq) (H3 (.cons (AVle.refl _) (.cons (AVle.refl _) .nil)) (.row (.cons AVle.untag (.cons AVle.untag .nil)) .nil)))))
      ·refine Ag hq [0,2,4,5,6] [2] ?_;cases h;exact gN Ct
     ·cases h;exact gO (Br (Ca [0,2,4,5] [2] hq))
    ·clear hx12;rcases x12 with _|r14
     ·refine gA ?_;refine Ag hq [0,2,4,5] [2] ?_;cases h;exact gN Ct
     ·refine Mr (fun st' hk=>?_);cases h;exact gO (La hk)
   ·cases h;exact gO (Br (Ca [0,2,4] [2] hq))
  ·clear hx15;rcases x15 with _|r37
   ·refine gA ?_;obtain⟨hc17,h⟩:=Aa h;refine gR hq [0,2,4,7] [2,7,77] [] [] (c1 hc17) ?_;refine Nw (⟨(Q136 a5),[(Ly 67 Yl),(7,.row 67 [(Pu a5),(.vsl 77 (a5.length:Int).toNat)]),(77,.arr 1 22 ((a5.length:Int).toNat) (fun i_=>AV.eraseAll (fun n_=>Dl n_ [2,7,77]) ((fun _=>[Z29]) i_)))],[]⟩:St) ?_;refine Kw (Le.trans (H3 (st':=⟨(Q136 a5),[(Ly 67 Yl),(7,.row 67 [(Pu a5),(.vsl 77 (a5.length:Int).toNat)]),(77,.arr 1 22 ((a5.length:Int).toNat) (Kr 1 Ak (0:Int) (Q130 a5) (fun _=>.exact)))],[]⟩) (TmpsLe.refl _) (.same (.same (.arr fam_zero .nil)))) (Le.trans (Le.trans (le_birth (r:=77) (b:=70077) Ak (0:Int) (Q130 a5) 3 rfl rfl (List.length_replicate ..).symm (fun h_=>absurd h_ (by decide))) (Id (st':=⟨(Q136 a5),[(Ly 67 Yl),(7,.row 67 [(Pu a5),(.vsl 77 (a5.length:Int).toNat)]),(77,.arr 1 22 ((a5.length:Int).toNat) (Kr 1 Ak (0:Int) (Q130 a5) (Tag.fam 70077)))],[(70077,⟨1,3,Ka (Q130 a5)⟩)]⟩) (by kernel_rfl))) (Id (congrArg (fun k_:Nat=>(⟨(Q136 a5),[(Ly 67 Yl),(Z39 (Pu a5) k_),(Z8 77 k_ (Q130 a5) 70077)],[(70077,⟨1,3,Ka (Q130 a5)⟩)]⟩:St)) (show(a5.length:Int).toNat=(Q130 a5).length from(List.length_replicate ..).symm))))) ?_;refine Ag hq [0,2,4,7,8] [2,7,77,70077] ?_;obtain⟨x35,hx35,h⟩:=bind_some h;refine gL hq hx35 [0,2,4,7,8] [2,7,77,70077] (fun u (i18,l19)=>(Dx u [(8,(Z6 i18))] [(Z39 (Pu a5) l19.length),(Z8 77 l19.length l19 70077)] [(70077,⟨1,3,Ka l19⟩)])) (fun u l20=>aG Γ (.exit 4) (Mj [2,7] [2,7,77,70077] u [] [(Z39 (Pu a5) l20.length),(Z8 77 l20.length l20 70077)] [(70077,⟨1,3,Ka l20⟩)])) ?_ ?_
    ·rintro⟨i18,l19⟩ y h;unfold B0 at h;refine Ag hq [0,2,4,7,8,81] [2,7,77,70077] ?_;refine gC h (fun h=>?_) (fun h=>?_)
     ·refine Ag hq [0,2,4,7,8,9] [2,7,77,70077] ?_;obtain⟨x33,hx33,h⟩:=bind_some h;refine gL hq hx33 [0,2,4,7,8,9] [2,7,77,70077] (fun u (i21,l22)=>(Dx u [(9,(Z6 i21))] [(Z39 (Pu a5) l22.length),(Z8 77 l22.length l22 70077)] [(70077,⟨1,3,Ka l22⟩)])) (fun u l23=>aG Γ (.exit 6) (Mj [0,2,4,7,8] [2,7,77,70077] u [] [(Z39 (Pu a5) l23.length),(Z8 77 l23.length l23 70077)] [(70077,⟨1,3,Ka l23⟩)])) ?_ ?_
      ·rintro⟨i21,l22⟩ y h;unfold Cm at h;refine Ag hq [0,2,4,7,8,9,86] [2,7,77,70077] ?_;refine gC h (fun h=>?_) (fun h=>?_)
       ·obtain⟨x31,hx31,h⟩:=bind_some h;refine gJ hx31 (fun l24=>aG Γ .normal (⟨(Q135 a5 i18 i21),[(Ly 67 Yl),(Z39 (Pu a5) l24.length),(Z8 77 l24.length l24 70077)],[(70077,⟨1,3,Ka l24⟩)]⟩:St)) ?_ ?_
        ·clear h hx31;intro y h;obtain⟨hc25,h⟩:=Aa h;obtain⟨x26,hx26,h⟩:=bind_some h;refine gR hq [0,2,4,7,8,9,94] [2,7,77,70077] [] [(Z2 x26)] (ci hc25 (c1 (Kp (a5.getD i21.toNat []) i18 x26 hx26))) ?_;refine gC h (fun h=>?_) (fun h=>?_)
         ·refine Nw (⟨[(0,(Pu a5)),Pd,(4,(Q131 a5)),(7,(.ptr 7 0)),(8,(Z6 i18)),(9,(Z6 i21)),(94,(.bool x26))],[(Ly 67 Yl),(Z39 (Pu a5) l22.length),(Z8 77 l22.length l22 70077)],[(70077,⟨1,3,Ka l22⟩)]⟩:St) ?_;obtain⟨hc27,h⟩:=Aa h;obtain⟨hc28,h⟩:=Aa h;obtain⟨hc29,h⟩:=Aa h;obtain⟨hc30,h⟩:=Aa h;refine Kw (Le.trans (le_take (r:=77) (b:=70077) (k:=60077) Ak (0:Int) l22 i18.toNat 3 rfl rfl rfl rfl (Mb hc27) (by kernel_rfl) (.row (by kernel_rfl) (.row (by kernel_rfl) (.here .nil)))) (Id (st':=⟨[(0,(Pu a5)),Pd,(4,(Q131 a5)),(7,(.ptr 7 0)),(8,(Z6 i18)),(9,(Z6 i21)),(94,(.bool x26))],[(Ly 67 Yl),(Z39 (Pu a5) l22.length),(77,.arr 1 22 l22.length (Kr 1 Ak (0:Int) l22 (Gx 70077 i18.toNat 60077))),(60077,.tok 1 3 ((l22.getD i18.toNat []).length))],[(70077,⟨1,3,S8 l22 i18.toNat⟩)]⟩) (by kernel_rfl))) ?_;refine gR hq [0,2,4,7,8,9] [2,7,77,60077,70077] [(102,(AV.list 1 Ak 0 (l22.getD i18.toNat []) (.own 60077))),(104,(Z20 i21)),(105,(Z13 (Q129 l22 i18 i21) 60077))] [] (ci hc28 (ci (Eq.refl l22.length) (ci (show(AVle (((Kr 1 Ak (0:Int) l22 (Gx 70077 i18.toNat 60077)) i18.toNat).getD 0 .any) (AV.list 1 Ak 0 (l22.getD i18.toNat []) (.own 60077))) from av_famtag) (ci (B8 1 Ak (0:Int) ([i21]:List Int)) (ci (Eq.refl ((l22.getD i18.toNat []).length)) (ci hc29 (ci (J7 1 60077 Ak (0:Int) (l22.getD i18.toNat []) ([i21]:List Int)) (ci (Gi (l22.getD i18.toNat []) ([i21]:List Int)) (ci hc30 (c1 (Eq.refl l22.length))))))))))) ?_;refine Nw (⟨(Q135 a5 i18 i21),[(Ly 67 Yl),(Z39 (Pu a5) l22.length),(77,.arr 1 22 l22.length (fun i_=>AV.eraseAll (fun n_=>Dl n_ [2,7,77,60077,70077]) ((F6 (Kr 1 Ak (0:Int) l22 (Gx 70077 i18.toNat 60077)) i18.toNat 0 [(Z13 (Q129 l22 i18 i21) 60077)]) i_))),(60077,.tok 1 3 ((Q129 l22 i18 i21).length))],[(70077,⟨1,3,S8 l22 i18.toNat⟩)]⟩:St) ?_;cases h;exact gK (Br (Le.trans (Le.trans (Le.trans (le_put (r:=77) (b:=70077) (k:=60077) Ak (0:Int) l22 i18.toNat (Q129 l22 i18 i21) 3 rfl (putF_fam (Mb hc27) rfl rfl) rfl rfl rfl rfl (Mb hc27) (by kernel_rfl) (.row (by kernel_rfl) (.row (by kernel_rfl) (.here (.tok .nil)))) (by rw[hΓ];rfl)) (Id (st':=⟨(Q135 a5 i18 i21),[(Ly 67 Yl),(Z39 (Pu a5) l22.length),(77,.arr 1 22 l22.length (Kr 1 Ak (0:Int) (l22.set i18.toNat (Q129 l22 i18 i21)) (Tag.fam 70077)))],[(70077,⟨1,3,Ka (l22.set i18.toNat (Q129 l22 i18 i21))⟩)]⟩) (by kernel_rfl))) (Id (congrArg (fun k_:Nat=>(⟨(Q135 a5 i18 i21),[(Ly 67 Yl),(Z39 (Pu a5) k_),(77,.arr 1 22 k_ (Kr 1 Ak (0:Int) (l22.set i18.toNat (Q129 l22 i18 i21)) (Tag.fam 70077)))],[(70077,⟨1,3,Ka (l22.set i18.toNat (Q129 l22 i18 i21))⟩)]⟩:St)) (show l22.length=(l22.set i18.toNat (Q129 l22 i18 i21)).length from(List.length_set ..).symm)))) Ct))
         ·obtain rfl:=OI h;exact gK (Br (Ca [0,2,4,7,8,9] [2,7,77,70077] hq))
        ·clear hx31;refine gA ?_;refine Ag hq [0,2,4,7,8,9] [2,7,77,70077] ?_;cases h;exact gN Ct
       ·cases h;exact gO (Br (Ca [0,2,4,7,8] [2,7,77,70077] hq))
      ·clear hx33;refine gA ?_;refine Ag hq [0,2,4,7,8] [2,7,77,70077] ?_;cases h;exact gN Ct
     ·cases h;exact gO (Br (Ca [2,7] [2,7,77,70077] hq))
    ·clear hx35;refine gA ?_;refine Ag hq [2,3] [2,77,70077] ?_;refine Nw (⟨[Pd,(3,Nd)],[(2,.row 67 [(Pu a5),(.vsl 77 x35.length)]),(Z8 77 x35.length x35 70077)],[(70077,⟨1,3,Ka x35⟩)]⟩:St) ?_;cases h;exact gK (e:=.ret) (I4 [] (Le.trans (Ie (nm:=77) (sz:=1) (n:=x35.length) (e:=22) (f:=(Kr 1 Ak (0:Int) x35 (Tag.fam 70077))) (g:=(fun i=>Hp (x35.getD i []))) rfl ⟨rfl,trivial⟩ (fun _ _=>rfl) (by rw[hΓ];rfl)) (Ca (st':=⟨[Pd,(3,Nd)],[(2,.row 67 [(Pu a5),(Z49 x35 77)]),(77,.tok 1 22 x35.length)],[]⟩) [2,3] [2,77] hq)))
   ·refine Mr (fun st' hk=>?_);obtain rfl:=OI h;exact gK hk
def B2(a0:Ab)(i2:Int):Int→Option (LR Int (Unit ⊕ (TGraph×Int))):=
 fun(i6:Int)=>(bif (decide (i6<(((a0.Blocks.getD i2.toNat default).End.To).length:Int))) then(Ba (Bb i6 ((a0.Blocks.getD i2.toNat default).End.To).length) (Ba (((decide (((((a0.Blocks.getD i2.toNat default).End.To).getD i6.toNat 0):Int)≤0))==false)=true→(Bb i6 ((a0.Blocks.getD i2.toNat default).End.To).length)) (bif (bif (decide (((((a0.Blocks.getD i2.toNat default).End.To).getD i6.toNat 0):Int)≤0)) then true else(decide (((a0.Blocks.length:Int):Int)≤(((a0.Blocks.getD i2.toNat default).End.To).getD i6.toNat 0)))) then(some (.done (.inr ((⟨([]:List (List Int)),([]:List (List Int))⟩:TGraph),(5:Int))))) else(some (.next (w64 (i6+1))))))) else(some (.done (.inl ()))))
def B3(a0:Ab)(i2:Int):(List Int×Int)→Option (LR (List Int×Int) (List Int)):=
 fun((l11,i12):(List Int×Int))=>(bif (decide (i12<(a0.Blocks.length:Int))) then(Option.bind (α:=List Int) ((E5 ((a0.Blocks.getD i2.toNat default).End.To) i12).bind fun x15=>(bif x15 then(Ba (l11.length+([i12]:List Int).length≤room) (some (l11++([i12]:List Int)))) else(some l11))) (fun x17=>(some (.next (x17,(w64 (i12+1))))))) else(some (.done l11)))
def B4(a0:Ab):(List (List Int)×Int)→Option (LR (List (List Int)×Int) (List (List Int) ⊕ (TGraph×Int))):=
 fun((l1,i2):(List (List Int)×Int))=>(bif (decide (i2<(a0.Blocks.length:Int))) then(Ba (Bb i2 a0.Blocks.length) (Ba (((bif (decide (((a0.Blocks.getD i2.toNat default).End.Kind:Int)<0)) then true else(decide (((3:Int):Int)<(a0.Blocks.getD i2.toNat default).End.Kind)))==false)=true→(Bb (a0.Blocks.getD i2.toNat default).End.Kind ([(0:Int),(1:Int),(2:Int),(0:Int)]:List Int).length)) (bif (bif (bif (decide (((a0.Blocks.getD i2.toNat default).End.Kind:Int)<0)) then true else(decide (((3:Int):Int)<(a0.Blocks.getD i2.toNat default).End.Kind))) then true else(((((a0.Blocks.getD i2.toNat default).End.To).length:Int):Int)!=(([(0:Int),(1:Int),(2:Int),(0:Int)]:List Int).getD ((a0.Blocks.getD i2.toNat default).End.Kind).toNat (0:Int)))) then(some (.done (.inr ((⟨([]:List (List Int)),([]:List (List Int))⟩:TGraph),(5:Int))))) else((Ah (B2 a0 i2) (0:Int)).bind (fun x9=>(match x9 with|(.inl _)=>((Ah (B3 a0 i2) (([]:List Int),(1:Int))).bind (fun x19=>(Ba (l1.length+([x19]:List (List Int)).length≤room) (some (.next ((l1++([x19]:List (List Int))),(w64 (i2+1))))))))|(.inr r22)=>(some (.done (.inr r22))))))))) else(some (.done (.inl l1))))
def N8(Γ:H0)(a0:Ab)(r:(TGraph×Int)):Exit→St→Prop:=fK Tryz.prog Γ Tryz.f26.results.toList [] (.tuple [(.agg (Iw r.1)),(Z6 r.2)]) []
def Q147:AV:=Z29
def Us(a0:Ab)(i2:Int):=(a0.Blocks.getD i2.toNat default)
def Vc:AV:=Z35
def Q143:AV:=(.agg [Q147,Q147])
def Q144:=(⟨[Pd,(3,(.int .i64 (5:Int)))],[(Z56 Vc)],[]⟩:St)
def Q140(a0:Ab)(i2:Int)(i6:Int):=(decide (((((Us a0 i2).End.To).getD i6.toNat 0):Int)≤0))
def Q146(a0:Ab):List AV:=[(Z7 a0.Params),(Z6 a0.Ret),(Z21 a0.Blocks)]
def Q142:=(⟨[Pd,(3,(.int .i64 (5:Int)))],[(2,.row 67 [Z59,Z59])],[]⟩:St)
def Q137(a0:Ab)(i2:Int):=(bif (decide (((Us a0 i2).End.Kind:Int)<0)) then true else(decide (((3:Int):Int)<(Us a0 i2).End.Kind)))
def Q141(a0:Ab):=(⟨[Uy,Pd,(4,(Z42 a0.Blocks.length)),(5,(AV.list 1 Hp [] ([]:List (List Int)) (.own 5005))),(6,Nd)],[(1,.row 25 (Q146 a0)),(Z56 Q147),(5005,.tok 1 22 (([]:List (List Int)).length))],[]⟩:St)
def Q139(a0:Ab)(l1:List (List Int))(i2:Int):=(⟨[Uy,Pd,(4,(Z42 a0.Blocks.length)),(5,(Z49 l1 5005)),(6,(Z6 i2)),(7,(.ptr 7 0)),(8,(AV.list 1 Ak 0 ([]:List Int) (.own 5008))),(10,Z40)],[(1,.row 25 (Q146 a0)),(Z56 Q147),(7,.row 42 [(.int .i64 (Us a0 i2).End.Kind),(.int .i64 (Us a0 i2).End.Arg),(AV.list 1 Ak 0 (Us a0 i2).End.To .none)]),(5005,.tok 1 22 l1.length),(5008,.tok 1 3 (([]:List Int).length))],[]⟩:St)
def G1(a0:Ab):Option (TGraph×Int):=
 (bif (bif (((a0.Blocks.length:Int):Int)==0) then true else(decide (((64:Int):Int)<(a0.Blocks.length:Int)))) then(some ((⟨([]:List (List Int)),([]:List (List Int))⟩:TGraph),(5:Int))) else((Ah (B4 a0) (([]:List (List Int)),(0:Int))).bind (fun x23=>(match x23 with|(.inl l3)=>((Fz l3).bind fun x25=>(some (x25.1,x25.2)))|(.inr r26)=>(some r26)))))
theorem Nx(a0:Ab)(r:(TGraph×Int))(h:G1 a0=some r):Spec Tryz.prog 26 [(.agg (L9 a0))] [] (.tuple [(.agg (Iw r.1)),(.int .i64 r.2)]) []:=by
 refine Ae mix Tryz.func26 (fun Γ hq=>?_);unfold G1 at h;refine Ag hq [1,2] [1,2] ?_;refine Ag hq [1,2,4] [1,2] ?_;refine gR hq [1,2,4,19] [1,2] [] [] (ci (gI ((((a0.Blocks.length:Int):Int)==0)==false)) (c1 (Kb (((a0.Blocks.length:Int):Int)==0)))) ?_;refine gC h (fun h=>?_) (fun h=>?_)
 ·refine gR hq [2,3] [2] [(20,(.agg [Vc,Vc]))] [] (c1 (show(AVle Q143 (.agg [Vc,Vc])) from(AVle.agg (.cons F7 (.cons F7 .nil))))) ?_;refine Nw Q144 ?_;cases h;exact gK (e:=.ret) (I4 [] (show Le Γ _ Q142 from Le.trans (Ca (st':=Q144) [2,3] [2] hq) (H3 (.cons (AVle.refl _) (.cons (AVle.refl _) .nil)) (.row (.cons AVle.untag (.cons AVle.untag .nil)) .nil))))
 ·refine gR hq [1,2,4,5] [1,2] [(5,Vc)] [] (c1 (Et 1 Hp [])) ?_;refine Ag hq [1,2,4,5,6] [1,2] ?_;refine Kw (st':=(Q141 a0)) (Le.trans (Ca (st':=⟨[Uy,Pd,(4,(Z42 a0.Blocks.length)),(5,Vc),(6,Nd)],[(1,.row 25 (Q146 a0)),(Z56 Q147)],[]⟩) [1,2,4,5,6] [1,2] hq) (Le.trans (Od (t:=5) (nm:=5005) (sz':=1) (fun i=>Hp (([]:List (List Int)).getD i [])) 22 rfl rfl (.inl ⟨rfl,rfl⟩) (fun h_=>absurd h_ (by decide))) (Ca (st':=(Q141 a0)) [1,2,4,5,6] [1,2,5005] hq))) ?_;obtain⟨x23,hx23,h⟩:=bind_some h;refine gL hq hx23 [1,2,4,5,6] [1,2,5005] (fun u (l1,i2)=>(Dx u [(5,(Z49 l1 5005)),(6,(Z6 i2))] [(5005,.tok 1 22 l1.length)])) (fun u x_=>match x_ with|(.inl l3)=>aG Γ (.exit 0) (Mj [2,5] [2,5005] u [(5,(Z49 l3 5005))] [(5005,.tok 1 22 l3.length)])|(.inr r_)=>aR (N8 Γ a0 r_)) ?_ ?_
  ·rintro⟨l1,i2⟩ y h;unfold B4 at h;refine Ag hq [1,2,4,5,6,23] [1,2,5005] ?_;refine gC h (fun h=>?_) (fun h=>?_)
   ·obtain⟨hc4,h⟩:=Aa h;refine gR hq [1,2,4,5,6,7] [1,2,7,5005] [] [] (c1 hc4) ?_;obtain⟨hc5,h⟩:=Aa h;refine gR hq [1,2,4,5,6,7,50] [1,2,7,5005] [(44,(AV.list 1 Ak 0 ([(0:Int),(1:Int),(2:Int),(0:Int)]:List Int) .exact))] [] (ci (gI ((decide (((Us a0 i2).End.Kind:Int)<0))==false)) (ci (gI ((decide (((Us a0 i2).End.Kind:Int)<0))==false)) (ci (Kb (decide (((Us a0 i2).End.Kind:Int)<0))) (ci (gI ((Q137 a0 i2)==false)) (ci (gI ((Q137 a0 i2)==false)) (ci (show(((Q137 a0 i2)==false)=true→(AVle (.slice 1 4 (fun i=>([[Nd],[Z40],[Z54],[Nd]]:List (List AV)).getD i []) .exact) (AV.list 1 Ak 0 ([(0:Int),(1:Int),(2:Int),(0:Int)]:List Int) .exact))) from(fun hg=>@(B8 1 Ak (0:Int) ([(0:Int),(1:Int),(2:Int),(0:Int)]:List Int)))) (ci (gI ((Q137 a0 i2)==false)) (ci (gI ((Q137 a0 i2)==false)) (ci (gI ((Q137 a0 i2)==false)) (ci hc5 (ci (gI ((Q137 a0 i2)==false)) (ci (gI ((Q137 a0 i2)==false)) (ci (gI ((Q137 a0 i2)==false)) (c1 (Kb (Q137 a0 i2)))))))))))))))) ?_;refine gC h (fun h=>?_) (fun h=>?_)
    ·refine gR hq [2,3] [2] [(51,(.agg [Vc,Vc]))] [] (c1 (show(AVle Q143 (.agg [Vc,Vc])) from(AVle.agg (.cons F7 (.cons F7 .nil))))) ?_;refine Nw Q144 ?_;cases h;exact gO (La (I4 [] (show Le Γ _ Q142 from Le.trans (Ca (st':=Q144) [2,3] [2] hq) (H3 (.cons (AVle.refl _) (.cons (AVle.refl _) .nil)) (.row (.cons AVle.untag (.cons AVle.untag .nil)) .nil)))))
    ·refine gR hq [1,2,4,5,6,7,8] [1,2,7,5005] [(8,Z16)] [] (c1 (Et 1 Ak (0:Int))) ?_;refine Ag hq [1,2,4,5,6,7,8,9] [1,2,7,5005] ?_;obtain⟨x9,hx9,h⟩:=bind_some h;refine gL hq hx9 [1,2,4,5,6,7,8,9] [1,2,7,5005] (fun u i6=>(Dx u [(9,(Z6 i6))] [])) (fun u x_=>match x_ with|(.inl _)=>aG Γ (.exit 2) (Mj [1,2,4,5,6,7,8] [1,2,7,5005] u [] [])|(.inr r_)=>aR (N8 Γ a0 r_)) ?_ ?_
     ·intro i6 y h;unfold B2 at h;refine Ag hq [1,2,4,5,6,7,8,9,56] [1,2,7,5005] ?_;refine gC h (fun h=>?_) (fun h=>?_)
      ·obtain⟨hc7,h⟩:=Aa h;obtain⟨hc8,h⟩:=Aa h;refine gR hq [1,2,4,5,6,7,8,9,73] [1,2,7,5005] [] [] (ci hc7 (ci (gI ((Q140 a0 i2 i6)==false)) (ci (gI ((Q140 a0 i2 i6)==false)) (ci (gI ((Q140 a0 i2 i6)==false)) (ci hc8 (ci (gI ((Q140 a0 i2 i6)==false)) (ci (gI ((Q140 a0 i2 i6)==false)) (ci (gI ((Q140 a0 i2 i6)==false)) (c1 (Kb (Q140 a0 i2 i6))))))))))) ?_;refine gC h (fun h=>?_) (fun h=>?_)
       ·refine gR hq [2,3] [2] [(74,(.agg [Vc,Vc]))] [] (c1 (show(AVle Q143 (.agg [Vc,Vc])) from(AVle.agg (.cons F7 (.cons F7 .nil))))) ?_;refine Nw Q144 ?_;cases h;exact gO (La (I4 [] (show Le Γ _ Q142 from Le.trans (Ca (st':=Q144) [2,3] [2] hq) (H3 (.cons (AVle.refl _) (.cons (AVle.refl _) .nil)) (.row (.cons AVle.untag (.cons AVle.untag .nil)) .nil)))))
       ·refine Ag hq [1,2,4,5,6,7,8,9] [1,2,7,5005] ?_;cases h;exact gN Ct
      ·cases h;exact gO (Br (Ca [1,2,4,5,6,7,8] [1,2,7,5005] hq))
     ·clear hx9;rcases x9 with _|r22
      ·refine gA ?_;refine Ag hq [1,2,4,5,6,7,8,10] [1,2,7,5005] ?_;refine Kw (st':=(Q139 a0 l1 i2)) (Le.trans (Ca (st':=⟨[Uy,Pd,(4,(Z42 a0.Blocks.length)),(5,(Z49 l1 5005)),(6,(Z6 i2)),(7,(.ptr 7 0)),(8,Z16),(10,Z40)],[(1,.row 25 (Q146 a0)),(Z56 Q147),(7,.row 42 [(.int .i64 (Us a0 i2).End.Kind),(.int .i64 (Us a0 i2).End.Arg),(AV.list 1 Ak 0 (Us a0 i2).End.To .none)]),(5005,.tok 1 22 l1.length)],[]⟩) [1,2,4,5,6,7,8,10] [1,2,7,5005] hq) (Le.trans (Od (t:=8) (nm:=5008) (sz':=1) (fun i=>Ak (([]:List Int).getD i 0)) 3 rfl rfl (.inl ⟨rfl,rfl⟩) (fun h_=>absurd h_ (by decide))) (Ca (st':=(Q139 a0 l1 i2)) [1,2,4,5,6,7,8,10] [1,2,7,5005,5008] hq))) ?_;obtain⟨x19,hx19,h⟩:=bind_some h;refine gL hq hx19 [1,2,4,5,6,7,8,10] [1,2,7,5005,5008] (fun u (l11,i12)=>(Dx u [(8,(Z13 l11 5008)),(10,(Z6 i12))] [(5008,.tok 1 3 l11.length)])) (fun u l13=>aG Γ (.exit 4) (Mj [1,2,4,5,6,8] [1,2,5005,5008] u [(8,(Z13 l13 5008))] [(5008,.tok 1 3 l13.length)])) ?_ ?_
       ·rintro⟨l11,i12⟩ y h;unfold B3 at h;refine Ag hq [1,2,4,5,6,7,8,10,77] [1,2,7,5005,5008] ?_;refine gC h (fun h=>?_) (fun h=>?_)
        ·obtain⟨x17,hx17,h⟩:=bind_some h;refine gJ hx17 (fun l14=>aG Γ .normal (⟨[Uy,Pd,(4,(Z42 a0.Blocks.length)),(5,(Z49 l1 5005)),(6,(Z6 i2)),(7,(.ptr 7 0)),(8,(Z13 l14 5008)),(10,(Z6 i12))],[(1,.row 25 (Q146 a0)),(Z56 Q147),(7,.row 42 [(.int .i64 (Us a0 i2).End.Kind),(.int .i64 (Us a0 i2).End.Arg),(AV.list 1 Ak 0 (Us a0 i2).End.To .none)]),(5005,.tok 1 22 l1.length),(5008,.tok 1 3 l14.length)],[]⟩:St)) ?_ ?_
         ·clear h hx17;intro y h;obtain⟨x15,hx15,h⟩:=bind_some h;refine gR hq [1,2,4,5,6,7,8,10,83] [1,2,7,5005,5008] [] [(Z2 x15)] (c1 (Kp ((Us a0 i2).End.To) i12 x15 hx15)) ?_;refine gC h (fun h=>?_) (fun h=>?_)
          ·obtain⟨hc16,h⟩:=Aa h;refine gR hq [1,2,4,5,6,7,8,10] [1,2,7,5005,5008] [(86,(Z20 i12)),(87,(AV.list 1 Ak 0 (l11++([i12]:List Int)) (.own 5008)))] [] (ci (B8 1 Ak (0:Int) ([i12]:List Int)) (ci (Eq.refl l11.length) (ci hc16 (ci (J7 1 5008 Ak (0:Int) l11 ([i12]:List Int)) (c1 (Gi l11 ([i12]:List Int))))))) ?_;cases h;exact gK (Br Ct)
          ·obtain rfl:=OI h;exact gK (Br (Ca [1,2,4,5,6,7,8,10] [1,2,7,5005,5008] hq))
         ·clear hx17;refine gA ?_;refine Ag hq [1,2,4,5,6,7,8,10] [1,2,7,5005,5008] ?_;cases h;exact gN Ct
        ·cases h;exact gO (Br (Ca [1,2,4,5,6,8] [1,2,5005,5008] hq))
       ·clear hx19;refine gA ?_;obtain⟨hc21,h⟩:=Aa h;refine gR hq [1,2,4,5,6] [1,2,5005] [(90,(AV.list 1 Hp [] ([x19]:List (List Int)) .exact)),(91,(AV.list 1 Hp [] (l1++([x19]:List (List Int))) (.own 5005)))] [] (ci (B8 1 Hp [] ([x19]:List (List Int))) (ci (Eq.refl l1.length) (ci hc21 (ci (J7 1 5005 Hp [] l1 ([x19]:List (List Int))) (c1 (Gi l1 ([x19]:List (List Int)))))))) ?_;refine Ag hq [1,2,4,5,6] [1,2,5005] ?_;cases h;exact gN Ct
      ·refine Mr (fun st' hk=>?_);cases h;exact gO (La hk)
   ·cases h;exact gO (Br (Ca [2,5] [2,5005] hq))
  ·clear hx23;rcases x23 with l3|r26
   ·refine gA ?_;obtain⟨x25,hx25,h⟩:=bind_some h;refine gR hq [2,3] [2] [] [(Z43 x25.1 x25.2)] (c1 (Mt l3 x25 hx25)) ?_;cases h;exact C7 []
   ·refine Mr (fun st' hk=>?_);obtain rfl:=OI h;exact gK hk
def Az(a2:TGraph)(aa4:Int)(i6:Int):(Int×List Bool)→Option (LR (Int×List Bool) (List Bool)):=
 fun((i9,l10):(Int×List Bool))=>(Ba (Bb i6 l10.length) (Ba (((l10.getD i6.toNat false)==true)=true→(Bb i6 a2.Succ.length)) (bif (bif (l10.getD i6.toNat false) then(decide (i9<((a2.Succ.getD i6.toNat []).length:Int))) else false) then(Option.bind (α:=List Bool) (Ba (Bb i6 a2.Succ.length) (Ba (Bb i9 (a2.Succ.getD i6.toNat []).length) (bif ((((a2.Succ.getD i6.toNat []).getD i9.toNat 0):Int)!=aa4) then(Ba (Bb i6 a2.Succ.length) (Ba (Bb i9 (a2.Succ.getD i6.toNat []).length) (Ba (Bb ((a2.Succ.getD i6.toNat []).getD i9.toNat 0) l10.length) (some (l10.set ((a2.Succ.getD i6.toNat []).getD i9.toNat 0).toNat true))))) else(some l10)))) (fun x20=>(some (.next ((w64 (i9+1)),x20))))) else(some (.done l10)))))
def A0(a2:TGraph)(aa4:Int):(Int×List Bool)→Option (LR (Int×List Bool) (List Bool)):=
 fun((i6,l7):(Int×List Bool))=>(bif (decide (i6<(l7.length:Int))) then((Ah (Az a2 aa4 i6) ((0:Int),l7)).bind (fun x22=>(some (.next ((w64 (i6+1)),x22))))) else(some (.done l7)))
def A1(a2:TGraph)(aa4:Int):(Int×List Bool)→Option (LR (Int×List Bool) (List Bool)):=
 fun((i3,l4):(Int×List Bool))=>(bif (decide (i3<(l4.length:Int))) then((Ah (A0 a2 aa4) ((0:Int),l4)).bind (fun x24=>(some (.next ((w64 (i3+1)),x24))))) else(some (.done l4)))
def Q149(l10:List Bool)(i6:Int):=((l10.getD i6.toNat false)==true)
def Wx(a2:TGraph):=(List.replicate (a2.Succ.length:Int).toNat false)
def Q151(a2:TGraph):=(fun i=>eB ((Wx a2).getD i false))
def Q150(a2:TGraph)(i6:Int)(i9:Int):=((a2.Succ.getD i6.toNat []).getD i9.toNat 0)
def Cl(a2:TGraph)(a3:Int)(aa4:Int):Option (List Bool):=
 (Ba (0≤(a2.Succ.length:Int)∧(a2.Succ.length:Int)≤(a2.Succ.length:Int)∧(a2.Succ.length:Int)≤(room:Int)) (bif (a3==aa4) then(some (List.replicate (a2.Succ.length:Int).toNat false)) else(Ba (Bb a3 (List.replicate (a2.Succ.length:Int).toNat false).length) ((Ah (A1 a2 aa4) ((0:Int),((List.replicate (a2.Succ.length:Int).toNat false).set a3.toNat true))).bind (fun x26=>(some x26))))))
theorem Jo(a2:TGraph)(a3:Int)(aa4:Int)(r:List Bool)(h:Cl a2 a3 aa4=some r):Spec Tryz.prog 38 [(.agg (Iw a2)),(.int .i64 a3),(.int .i64 aa4)] [] (AV.list 1 eB false r (.own 20000)) [(20000,.tok 1 4 r.length)]:=by
 refine Ae mix Tryz.func38 (fun Γ hq=>?_);have hΓ:=hq.own;unfold Cl at h;refine gR hq [1,2,3] [3] [(6,(AV.list 1 eB false ([]:List Bool) .exact))] [] (c1 (Et 1 eB false)) ?_;obtain⟨hc1,h⟩:=Aa h;refine gR hq [1,2,3,7] [3,14] [] [] (c1 hc1) ?_;refine Kw (Le.trans (Pv 14 (show ∀ k_,k_<((a2.Succ.length:Int).toNat)→AVleL ((fun i_=>AV.eraseAll (fun n_=>Dl n_ [3,14]) ((fun _=>[(.bool false)]) i_)) k_) ((Q151 a2) k_) from(fun k hk=>M9 (e:=eB) (d:=false) (.cons (AVle.refl _) .nil) _ k (Na hk)))) (Ox (fun(k_:Nat) u=>(Dx u [(N9 14 k_)] [(14,.arr 1 4 k_ (Q151 a2))])) (show(a2.Succ.length:Int).toNat=(Wx a2).length from(List.length_replicate ..).symm))) ?_;refine Ag hq [1,2,3,7,17] [3,14] ?_;refine gC h (fun h=>?_) (fun h=>?_)
 ·refine Ag hq [6] [14] ?_;refine Nw (⟨[(6,(.vsl 14 (Wx a2).length))],[(14,.arr 1 4 ((Wx a2).length) (Q151 a2))],[]⟩:St) ?_;cases h;exact gK (e:=.ret) (I4 [(14,20000)] (Le.trans (Ie (nm:=14) (sz:=1) (n:=((Wx a2).length)) (e:=4) (f:=(Q151 a2)) (g:=(Q151 a2)) rfl ⟨rfl,trivial⟩ (fun _ _=>rfl) (by rw[hΓ];rfl)) (Id (st':=⟨[(6,(Z19 (Wx a2) 14))],[(14,.tok 1 4 ((Wx a2).length))],[]⟩) (by kernel_rfl))))
 ·obtain⟨hc2,h⟩:=Aa h;refine gR hq [2,3,7] [3,14] [] [] (ci hc2 (c1 (Eq.refl ((Wx a2).length)))) ?_;refine Kw (Le.trans (Pv 14 (show ∀ k_,k_<((Wx a2).length)→AVleL ((fun i_=>AV.eraseAll (fun n_=>Dl n_ [3,14]) ((F6 (Q151 a2) a3.toNat 0 [(.bool true)]) i_)) k_) ((fun i=>eB (((Wx a2).set a3.toNat true).getD i false)) k_) from(Bu (List.length_set ..).symm (fun k_ hk_=>(congrArg (AV.eraseAll (fun n_=>Dl n_ [3,14])) ((Ht (fun _ _=>rfl) (Ix hc2) rfl) k_ hk_)).trans rfl)))) (Ox (fun(k_:Nat) u=>(Dx u [(N9 14 k_)] [(14,.arr 1 4 k_ (fun i=>eB (((Wx a2).set a3.toNat true).getD i false)))])) (show(Wx a2).length=((Wx a2).set a3.toNat true).length from(List.length_set ..).symm))) ?_;refine Ag hq [2,3,7,8] [3,14] ?_;obtain⟨x26,hx26,h⟩:=bind_some h;refine gL hq hx26 [2,3,7,8] [3,14] (fun u (i3,l4)=>(Dx u [(N9 14 l4.length),(8,(Z6 i3))] [(Z9 14 l4)])) (fun u l5=>aG Γ (.exit 0) (⟨[(N9 14 l5.length)],[(Z9 14 l5)],[]⟩:St)) ?_ ?_
  ·rintro⟨i3,l4⟩ y h;unfold A1 at h;refine Ag hq [2,3,7,8,25] [3,14] ?_;refine gC h (fun h=>?_) (fun h=>?_)
   ·refine Ag hq [2,3,7,8,9] [3,14] ?_;obtain⟨x24,hx24,h⟩:=bind_some h;refine gL hq hx24 [2,3,7,8,9] [3,14] (fun u (i6,l7)=>(Dx u [(N9 14 l7.length),(9,(Z6 i6))] [(Z9 14 l7)])) (fun u l8=>aG Γ (.exit 2) (Mj [2,3,7,8] [3,14] u [(N9 14 l8.length)] [(Z9 14 l8)])) ?_ ?_
    ·rintro⟨i6,l7⟩ y h;unfold A0 at h;refine Ag hq [2,3,7,8,9,31] [3,14] ?_;refine gC h (fun h=>?_) (fun h=>?_)
     ·refine Ag hq [2,3,7,8,9,10] [3,14] ?_;obtain⟨x22,hx22,h⟩:=bind_some h;refine gL hq hx22 [2,3,7,8,9,10] [3,14] (fun u (i9,l10)=>(Dx u [(N9 14 l10.length),(10,(Z6 i9))] [(Z9 14 l10)])) (fun u l11=>aG Γ (.exit 4) (Mj [2,3,7,8,9] [3,14] u [(N9 14 l11.length)] [(Z9 14 l11)])) ?_ ?_
      ·rintro⟨i9,l10⟩ y h;unfold Az at h;obtain⟨hc12,h⟩:=Aa h;obtain⟨hc13,h⟩:=Aa h;refine gR hq [2,3,7,8,9,10,47] [3,14] [] [] (ci hc12 (ci (Eq.refl l10.length) (ci (gI (Q149 l10 i6)) (ci (gI (Q149 l10 i6)) (ci (gI (Q149 l10 i6)) (ci hc13 (ci (gI (Q149 l10 i6)) (ci (gI (Q149 l10 i6)) (ci (gI (Q149 l10 i6)) (ci (gI (Q149 l10 i6)) (c1 (L2 (l10.getD i6.toNat false))))))))))))) ?_;refine gC h (fun h=>?_) (fun h=>?_)
       ·obtain⟨x20,hx20,h⟩:=bind_some h;refine gJ hx20 (fun l14=>aG Γ .normal (⟨[(2,(Z6 aa4)),(3,(.ptr 3 0)),(N9 14 l14.length),(8,(Z6 i3)),(9,(Z6 i6)),(10,(Z6 i9))],[(3,.row 67 [(Z23 a2.Succ),(Z23 a2.Pred)]),(Z9 14 l14)],[]⟩:St)) ?_ ?_
        ·clear h hx20;intro y h;obtain⟨hc15,h⟩:=Aa h;obtain⟨hc16,h⟩:=Aa h;refine gR hq [2,3,7,8,9,10,59] [3,14] [] [] (ci hc15 (c1 hc16)) ?_;refine gC h (fun h=>?_) (fun h=>?_)
         ·obtain⟨hc17,h⟩:=Aa h;obtain⟨hc18,h⟩:=Aa h;obtain⟨hc19,h⟩:=Aa h;refine gR hq [2,3,7,8,9,10] [3,14] [] [] (ci hc17 (ci hc18 (ci hc19 (c1 (Eq.refl l10.length))))) ?_;cases h;exact gK (Br (Le.trans (Le.trans (Pv 14 (show ∀ k_,k_<l10.length→AVleL ((fun i_=>AV.eraseAll (fun n_=>Dl n_ [3,14]) ((F6 (fun i=>eB (l10.getD i false)) (Q150 a2 i6 i9).toNat 0 [(.bool true)]) i_)) k_) ((fun i=>eB ((l10.set (Q150 a2 i6 i9).toNat true).getD i false)) k_) from(Bu (List.length_set ..).symm (fun k_ hk_=>(congrArg (AV.eraseAll (fun n_=>Dl n_ [3,14])) ((Ht (fun _ _=>rfl) (Ix hc19) rfl) k_ hk_)).trans rfl)))) (Ox (fun(k_:Nat) u=>(Dx u [(N9 14 k_)] [(14,.arr 1 4 k_ (fun i=>eB ((l10.set (Q150 a2 i6 i9).toNat true).getD i false)))])) (show l10.length=(l10.set (Q150 a2 i6 i9).toNat true).length from(List.length_set ..).symm))) Ct))
         ·obtain rfl:=OI h;exact gK (Br (Ca [2,3,7,8,9,10] [3,14] hq))
        ·clear hx20;refine gA ?_;refine Ag hq [2,3,7,8,9,10] [3,14] ?_;cases h;exact gN Ct
       ·cases h;exact gO (Br (Ca [2,3,7,8,9] [3,14] hq))
      ·clear hx22;refine gA ?_;refine Ag hq [2,3,7,8,9] [3,14] ?_;cases h;exact gN Ct
     ·cases h;exact gO (Br (Ca [2,3,7,8] [3,14] hq))
    ·clear hx24;refine gA ?_;refine Ag hq [2,3,7,8] [3,14] ?_;cases h;exact gN Ct
   ·cases h;exact gO (Br (Ca [7] [14] hq))
  ·clear hx26;refine gA ?_;refine Ag hq [6] [14] ?_;refine Nw (⟨[(6,(.vsl 14 x26.length))],[(Z9 14 x26)],[]⟩:St) ?_;obtain rfl:=OI h;exact gK (e:=.ret) (I4 [(14,20000)] (Le.trans (Ie (nm:=14) (sz:=1) (n:=x26.length) (e:=4) (f:=(fun i=>eB (x26.getD i false))) (g:=(fun i=>eB (x26.getD i false))) rfl ⟨rfl,trivial⟩ (fun _ _=>rfl) (by rw[hΓ];rfl)) (Id (st':=⟨[(6,(Z19 x26 14))],[(Nf 14 x26.length)],[]⟩) (by kernel_rfl))))
def Bl(aD:List Int)(aH:List Int):Int→Option (LR Int (Unit ⊕ Bool)):=
 fun(i1:Int)=>(bif (decide (i1<(aD.length:Int))) then(Ba (Bb i1 aD.length) (Ba (Bb i1 aH.length) (bif (((aD.getD i1.toNat 0):Int)!=(aH.getD i1.toNat 0)) then(some (.done (.inr false))) else(some (.next (w64 (i1+1))))))) else(some (.done (.inl ()))))
def Sl(Γ:H0)(aD:List Int)(aH:List Int)(r:Bool):Exit→St→Prop:=fK Tryz.prog Γ Tryz.f39.results.toList [] (.bool r) []
def Dp(aD:List Int)(aH:List Int):Option Bool:=
 (bif (((aD.length:Int):Int)!=(aH.length:Int)) then(some false) else((Ah (Bl aD aH) (0:Int)).bind (fun x4=>(match x4 with|(.inl _)=>(some true)|(.inr r6)=>(some r6)))))
theorem J5(aD:List Int)(aH:List Int)(r:Bool)(h:Dp aD aH=some r):Spec Tryz.prog 39 [(AV.list 1 Ak 0 aD .none),(AV.list 1 Ak 0 aH .none)] [] (.bool r) []:=by
 refine Ae mix Tryz.func39 (fun Γ hq=>?_);unfold Dp at h;refine Ag hq [0,1] [] ?_;refine Ag hq [0,1,10] [] ?_;refine gC h (fun h=>?_) (fun h=>?_)
 ·refine Ag hq [4] [] ?_;obtain rfl:=OI h;exact C7 []
 ·refine Ag hq [0,1,5] [] ?_;obtain⟨x4,hx4,h⟩:=bind_some h;refine gL hq hx4 [0,1,5] [] (fun u i1=>(Dx u [(5,(Z6 i1))] [])) (fun u x_=>match x_ with|(.inl _)=>aG Γ (.exit 0) (⟨[],[],[]⟩:St)|(.inr r_)=>aR (Sl Γ aD aH r_)) ?_ ?_
  ·intro i1 y h;unfold Bl at h;refine Ag hq [0,1,5,14] [] ?_;refine gC h (fun h=>?_) (fun h=>?_)
   ·obtain⟨hc2,h⟩:=Aa h;obtain⟨hc3,h⟩:=Aa h;refine gR hq [0,1,5,25] [] [] [] (ci hc2 (c1 hc3)) ?_;refine gC h (fun h=>?_) (fun h=>?_)
    ·refine Ag hq [4] [] ?_;cases h;exact gO (La (I4 [] (Le.refl _ _)))
    ·refine Ag hq [0,1,5] [] ?_;cases h;exact gN Ct
   ·cases h;exact gO (Br (Ca [] [] hq))
  ·clear hx4;rcases x4 with _|r6
   ·refine gA ?_;refine Ag hq [4] [] ?_;obtain rfl:=OI h;exact C7 []
   ·refine Mr (fun st' hk=>?_);obtain rfl:=OI h;exact gK hk
def C3(a0:Ab)(x1:(TGraph×Int))(i3:Int):Int→Option (LR Int (Unit ⊕ Bool)):=
 fun(i6:Int)=>(bif (decide (i6<(((a0.Blocks.getD i3.toNat default).Phis).length:Int))) then(Ba (Bb i6 ((a0.Blocks.getD i3.toNat default).Phis).length) (Ba (Bb i3 x1.1.Pred.length) ((Dp ((((a0.Blocks.getD i3.toNat default).Phis).getD i6.toNat default).From) (x1.1.Pred.getD i3.toNat [])).bind fun x9=>(Ba (((!x9)==false)=true→(Bb i6 ((a0.Blocks.getD i3.toNat default).Phis).length)) (Ba (((!x9)==false)=true→(Bb i3 x1.1.Pred.length)) (bif (bif (!x9) then true else(((((((a0.Blocks.getD i3.toNat default).Phis).getD i6.toNat default).Args).length:Int):Int)!=((x1.1.Pred.getD i3.toNat []).length:Int))) then(some (.done (.inr false))) else(some (.next (w64 (i6+1)))))))))) else(some (.done (.inl ()))))
def D0(a0:Ab)(x1:(TGraph×Int))(x2:List Bool):Int→Option (LR Int (Unit ⊕ Bool)):=
 fun(i3:Int)=>(bif (decide (i3<(a0.Blocks.length:Int))) then(Ba (Bb i3 a0.Blocks.length) (Ba (Bb i3 x2.length) (bif (bif (!(x2.getD i3.toNat false)) then true else(bif (bif (((a0.Blocks.getD i3.toNat default).End.Kind:Int)==1) then true else(((a0.Blocks.getD i3.toNat default).End.Kind:Int)==3)) then(((a0.Blocks.getD i3.toNat default).End.Arg:Int)!=0) else false)) then(some (.done (.inr false))) else((Ah (C3 a0 x1 i3) (0:Int)).bind (fun x12=>(match x12 with|(.inl _)=>(some (.next (w64 (i3+1))))|(.inr r14)=>(some (.done (.inr r14))))))))) else(some (.done (.inl ()))))
def Mq(Γ:H0)(a0:Ab)(r:Bool):Exit→St→Prop:=fK Tryz.prog Γ Tryz.f21.results.toList [] (.bool r) []
def Vs(x2:List Bool)(i3:Int):=((!(x2.getD i3.toNat false))==false)
def Q152(a0:Ab)(i3:Int):=((a0.Blocks.getD i3.toNat default).End.Kind:Int)
def Q154(x2:List Bool)(i3:Int)(a0:Ab):=((Vs x2 i3)&&((bif ((Q152 a0 i3)==1) then true else((Q152 a0 i3)==3))==true))
def Gr(a0:Ab):Option Bool:=
 ((G1 a0).bind fun x1=>(bif (x1.2 !=0) then(some false) else((Cl x1.1 (0:Int) (-1:Int)).bind fun x2=>((Ah (D0 a0 x1 x2) (0:Int)).bind (fun x15=>(match x15 with|(.inl _)=>(some true)|(.inr r17)=>(some r17)))))))
theorem Qz(a0:Ab)(r:Bool)(h:Gr a0=some r):Spec Tryz.prog 21 [(.agg (L9 a0))] [] (.bool r) []:=by
 refine Ae mix Tryz.func21 (fun Γ hq=>?_);unfold Gr at h;refine Ag hq [1] [1] ?_;obtain⟨x1,hx1,h⟩:=bind_some h;refine gR hq [1,3,4] [1,3] [] [(Z43 x1.1 x1.2)] (c1 (Nx a0 x1 hx1)) ?_;refine Ag hq [1,3,15] [1,3] ?_;refine gC h (fun h=>?_) (fun h=>?_)
 ·refine Ag hq [2] [] ?_;obtain rfl:=OI h;exact C7 []
 ·obtain⟨x2,hx2,h⟩:=bind_some h;refine gR hq [1,3,5] [1,3,17] [] [⟨[],[(20000,17)],(Z19 x2 20000),[(Nf 20000 x2.length)],[]⟩] (c1 (Jo x1.1 (0:Int) (-1:Int) x2 hx2)) ?_;refine Ag hq [1,3,5,6] [1,3,17] ?_;obtain⟨x15,hx15,h⟩:=bind_some h;refine gL hq hx15 [1,3,5,6] [1,3,17] (fun u i3=>(Dx u [(6,(Z6 i3))] [])) (fun u x_=>match x_ with|(.inl _)=>aG Γ (.exit 0) (⟨[],[],[]⟩:St)|(.inr r_)=>aR (Mq Γ a0 r_)) ?_ ?_
  ·intro i3 y h;unfold D0 at h;refine Ag hq [1,3,5,6,22] [1,3,17] ?_;refine gC h (fun h=>?_) (fun h=>?_)
   ·obtain⟨hc4,h⟩:=Aa h;refine gR hq [1,3,5,6,7] [1,3,7,17] [] [] (c1 hc4) ?_;obtain⟨hc5,h⟩:=Aa h;refine gR hq [1,3,5,6,7,52] [1,3,7,17] [] [] (ci hc5 (ci (gI (Vs x2 i3)) (ci (gI (Vs x2 i3)) (ci (gI (Vs x2 i3)) (ci (gI (Vs x2 i3)) (ci (gI ((Vs x2 i3)&&(((Q152 a0 i3)==1)==false))) (ci (gI ((Vs x2 i3)&&(((Q152 a0 i3)==1)==false))) (ci (gI ((Vs x2 i3)&&(((Q152 a0 i3)==1)==false))) (ci (gI (Vs x2 i3)) (ci (show((Vs x2 i3)=true→(((Q152 a0 i3)==1)=false→((Vs x2 i3)&&(((Q152 a0 i3)==1)==false))=true)) from(fun hg=>(aF hg))) (ci (gI (Vs x2 i3)) (ci (gI (Q154 x2 i3 a0)) (ci (gI (Q154 x2 i3 a0)) (ci (gI (Q154 x2 i3 a0)) (ci (gI (Vs x2 i3)) (ci (show((Vs x2 i3)=true→((bif ((Q152 a0 i3)==1) then true else((Q152 a0 i3)==3))=true→(Q154 x2 i3 a0)=true)) from(fun hg=>(aT hg))) (c1 (Kb (!(x2.getD i3.toNat false)))))))))))))))))))) ?_;refine gC h (fun h=>?_) (fun h=>?_)
    ·refine Ag hq [2] [] ?_;cases h;exact gO (La (I4 [] (Le.refl _ _)))
    ·refine Ag hq [1,3,5,6,7,8] [1,3,7,17] ?_;obtain⟨x12,hx12,h⟩:=bind_some h;refine gL hq hx12 [1,3,5,6,7,8] [1,3,7,17] (fun u i6=>(Dx u [(8,(Z6 i6))] [])) (fun u x_=>match x_ with|(.inl _)=>aG Γ (.exit 2) (Mj [1,3,5,6] [1,3,17] u [] [])|(.inr r_)=>aR (Mq Γ a0 r_)) ?_ ?_
     ·intro i6 y h;unfold C3 at h;refine Ag hq [1,3,5,6,7,8,57] [1,3,7,17] ?_;refine gC h (fun h=>?_) (fun h=>?_)
      ·obtain⟨hc7,h⟩:=Aa h;obtain⟨hc8,h⟩:=Aa h;obtain⟨x9,hx9,h⟩:=bind_some h;obtain⟨hc10,h⟩:=Aa h;obtain⟨hc11,h⟩:=Aa h;refine gR hq [1,3,5,6,7,8,88] [1,3,7,17] [] [(Z2 x9)] (ci hc7 (ci hc8 (ci (J5 ((((a0.Blocks.getD i3.toNat default).Phis).getD i6.toNat default).From) (x1.1.Pred.getD i3.toNat []) x9 hx9) (ci (gI ((!x9)==false)) (ci (gI ((!x9)==false)) (ci (gI ((!x9)==false)) (ci hc10 (ci (gI ((!x9)==false)) (ci (gI ((!x9)==false)) (ci (gI ((!x9)==false)) (ci (gI ((!x9)==false)) (ci (gI ((!x9)==false)) (ci (gI ((!x9)==false)) (ci hc11 (ci (gI ((!x9)==false)) (ci (gI ((!x9)==false)) (ci (gI ((!x9)==false)) (ci (gI ((!x9)==false)) (c1 (Kb (!x9))))))))))))))))))))) ?_;refine gC h (fun h=>?_) (fun h=>?_)
       ·refine Ag hq [2] [] ?_;cases h;exact gO (La (I4 [] (Le.refl _ _)))
       ·refine Ag hq [1,3,5,6,7,8] [1,3,7,17] ?_;cases h;exact gN Ct
      ·cases h;exact gO (Br (Ca [1,3,5,6] [1,3,17] hq))
     ·clear hx12;rcases x12 with _|r14
      ·refine gA ?_;refine Ag hq [1,3,5,6] [1,3,17] ?_;cases h;exact gN Ct
      ·refine Mr (fun st' hk=>?_);cases h;exact gO (La hk)
   ·cases h;exact gO (Br (Ca [] [] hq))
  ·clear hx15;rcases x15 with _|r17
   ·refine gA ?_;refine Ag hq [2] [] ?_;obtain rfl:=OI h;exact C7 []
   ·refine Mr (fun st' hk=>?_);obtain rfl:=OI h;exact gK hk
def Q155(a8:Int):=(bif (bif (a8==1) then true else(a8==8)) then true else(a8==16))
def Bj(a8:Int):Option Bool:=
 (some (bif (bif (bif (bif (a8==1) then true else(a8==8)) then true else(a8==16)) then true else(a8==32)) then true else(a8==64)))
theorem Cw(a8:Int)(r:Bool)(h:Bj a8=some r):Spec Tryz.prog 17 [(.int .i64 a8)] [] (.bool r) []:=by
 refine Ae mix Tryz.func17 (fun Γ hq=>?_);unfold Bj at h;refine Ag hq [0] [] ?_;refine gR hq [2] [] [] [] (ci (gI ((a8==1)==false)) (ci (Kb (a8==1)) (ci (gI ((bif (a8==1) then true else(a8==8))==false)) (ci (Kb (bif (a8==1) then true else(a8==8))) (ci (gI ((Q155 a8)==false)) (ci (Kb (Q155 a8)) (ci (gI ((bif (Q155 a8) then true else(a8==32))==false)) (c1 (Kb (bif (Q155 a8) then true else(a8==32))))))))))) ?_;cases h;exact C7 []
def Q157(aL:Int):=(bif (aL==2) then true else(aL==4))
def Q156(aL:Int):=(bif (bif (Q157 aL) then true else(aL==8)) then true else(aL==16))
def Q158(aL:Int)(a8:Int):=(bif (Q156 aL) then(decide (((1:Int):Int)<a8)) else false)
def Gp(a8:Int)(aL:Int):Option Bool:=
 ((Bj a8).bind fun x1=>(bif (!x1) then(some false) else(bif (aL==1) then(some true) else(some (bif (bif (bif (bif (bif (aL==2) then true else(aL==4)) then true else(aL==8)) then true else(aL==16)) then(decide (((1:Int):Int)<a8)) else false) then(decide (((w64 (a8*aL)):Int)≤128)) else false)))))
theorem Qv(a8:Int)(aL:Int)(r:Bool)(h:Gp a8 aL=some r):Spec Tryz.prog 64 [(.int .i64 a8),(.int .i64 aL)] [] (.bool r) []:=by
 refine Ae mix Tryz.func64 (fun Γ hq=>?_);unfold Gp at h;refine Ag hq [0,1] [] ?_;obtain⟨x1,hx1,h⟩:=bind_some h;refine gR hq [0,1,7] [] [] [(Z2 x1)] (c1 (Cw a8 x1 hx1)) ?_;refine gC h (fun h=>?_) (fun h=>?_)
 ·refine Ag hq [4] [] ?_;obtain rfl:=OI h;exact C7 []
 ·refine Ag hq [0,1,9] [] ?_;refine gC h (fun h=>?_) (fun h=>?_)
  ·refine Ag hq [4] [] ?_;obtain rfl:=OI h;exact C7 []
  ·refine gR hq [4] [] [] [] (ci (gI ((aL==2)==false)) (ci (Kb (aL==2)) (ci (gI ((Q157 aL)==false)) (ci (Kb (Q157 aL)) (ci (gI ((bif (Q157 aL) then true else(aL==8))==false)) (ci (Kb (bif (Q157 aL) then true else(aL==8))) (ci (gI ((Q156 aL)==true)) (ci (L2 (Q156 aL)) (ci (gI ((Q158 aL a8)==true)) (ci (gI ((Q158 aL a8)==true)) (ci (gI ((Q158 aL a8)==true)) (c1 (L2 (Q158 aL a8)))))))))))))) ?_;cases h;exact C7 []
def Q159(a1:Dv):List (Nat×Own):=[(Z48 a1.Kind a1.Bits a1.Lanes a1.Dst a1.Args a1.Imm)]
def G9(a1:Dv):Option Int:=
 (bif (a1.Kind==0) then(some (0:Int)) else(Option.bind (α:=Bool) (bif (a1.Kind==1) then(some (a1.Kind==1)) else(bif (a1.Kind==2) then(some (a1.Kind==2)) else(bif (a1.Kind==3) then(some (a1.Kind==3)) else(bif (a1.Kind==4) then(some (a1.Kind==4)) else(bif (a1.Kind==5) then(some (a1.Kind==5)) else(bif (a1.Kind==6) then(some (a1.Kind==6)) else(bif (a1.Kind==7) then(some (a1.Kind==7)) else(bif (a1.Kind==8) then(some (a1.Kind==8)) else(bif (a1.Kind==9) then(some (a1.Kind==9)) else(bif (a1.Kind==10) then(some (a1.Kind==10)) else(bif (a1.Kind==11) then(some (a1.Kind==11)) else(bif (a1.Kind==12) then(some (a1.Kind==12)) else(some (a1.Kind==17)))))))))))))) (fun x2=>(bif x2 then(some (2:Int)) else(Option.bind (α:=Bool) (bif (a1.Kind==13) then(some (a1.Kind==13)) else(bif (a1.Kind==18) then(some (a1.Kind==18)) else(some (a1.Kind==19)))) (fun x5=>(bif x5 then(some (3:Int)) else(Option.bind (α:=Bool) (bif (a1.Kind==14) then(some (a1.Kind==14)) else(bif (a1.Kind==15) then(some (a1.Kind==15)) else(bif (a1.Kind==16) then(some (a1.Kind==16)) else(some (a1.Kind==22))))) (fun x8=>(bif x8 then(some (1:Int)) else(bif (a1.Kind==20) then(some (4:Int)) else(bif (a1.Kind==21) then(some a1.Lanes) else(some (-1:Int))))))))))))))
theorem R9(a1:Dv)(r:Int)(h:G9 a1=some r):Spec Tryz.prog 65 [(.agg (Mp a1))] [] (.int .i64 r) []:=by
 refine Ae mix Tryz.func65 (fun Γ hq=>?_);unfold G9 at h;refine Ag hq [1] [1] ?_;refine Ag hq [1,4] [1] ?_;refine Ag hq [1,4,5] [1] ?_;refine gC h (fun h=>?_) (fun h=>?_)
 ·refine Ag hq [2] [] ?_;cases h;exact C7 []
 ·obtain⟨x2,hx2,h⟩:=bind_some h;refine gJ hx2 (fun b1=>aG Γ .normal (⟨[Uy,(4,(Z6 a1.Kind)),(7,(.bool b1))],(Q159 a1),[]⟩:St)) ?_ ?_
  ·clear h hx2;intro y h;refine Ag hq [1,4,7] [1] ?_;refine gC h (fun h=>?_) (fun h=>?_)
   ·cases h;exact gK (Br Ct)
   ·refine Ag hq [1,4,7] [1] ?_;refine gC h (fun h=>?_) (fun h=>?_)
    ·cases h;exact gK (Br Ct)
    ·refine Ag hq [1,4,7] [1] ?_;refine gC h (fun h=>?_) (fun h=>?_)
     ·cases h;exact gK (Br Ct)
     ·refine Ag hq [1,4,7] [1] ?_;refine gC h (fun h=>?_) (fun h=>?_)
      ·cases h;exact gK (Br Ct)
      ·refine Ag hq [1,4,7] [1] ?_;refine gC h (fun h=>?_) (fun h=>?_)
       ·cases h;exact gK (Br Ct)
       ·refine Ag hq [1,4,7] [1] ?_;refine gC h (fun h=>?_) (fun h=>?_)
        ·cases h;exact gK (Br Ct)
        ·refine Ag hq [1,4,7] [1] ?_;refine gC h (fun h=>?_) (fun h=>?_)
         ·cases h;exact gK (Br Ct)
         ·refine Ag hq [1,4,7] [1] ?_;refine gC h (fun h=>?_) (fun h=>?_)
          ·cases h;exact gK (Br Ct)
          ·refine Ag hq [1,4,7] [1] ?_;refine gC h (fun h=>?_) (fun h=>?_)
           ·cases h;exact gK (Br Ct)
           ·refine Ag hq [1,4,7] [1] ?_;refine gC h (fun h=>?_) (fun h=>?_)
            ·cases h;exact gK (Br Ct)
            ·refine Ag hq [1,4,7] [1] ?_;refine gC h (fun h=>?_) (fun h=>?_)
             ·cases h;exact gK (Br Ct)
             ·refine Ag hq [1,4,7] [1] ?_;refine gC h (fun h=>?_) (fun h=>?_)
              ·cases h;exact gK (Br Ct)
              ·refine Ag hq [1,4,7] [1] ?_;cases h;exact gK (Br Ct)
  ·clear hx2;refine gA ?_;refine gC h (fun h=>?_) (fun h=>?_)
   ·refine Ag hq [2] [] ?_;cases h;exact C7 []
   ·obtain⟨x5,hx5,h⟩:=bind_some h;refine gJ hx5 (fun b4=>aG Γ .normal (⟨[Uy,(4,(Z6 a1.Kind)),(21,(.bool b4))],(Q159 a1),[]⟩:St)) ?_ ?_
    ·clear h hx5;intro y h;refine Ag hq [1,4,21] [1] ?_;refine gC h (fun h=>?_) (fun h=>?_)
     ·cases h;exact gK (Br Ct)
     ·refine Ag hq [1,4,21] [1] ?_;refine gC h (fun h=>?_) (fun h=>?_)
      ·cases h;exact gK (Br Ct)
      ·refine Ag hq [1,4,21] [1] ?_;cases h;exact gK (Br Ct)
    ·clear hx5;refine gA ?_;refine gC h (fun h=>?_) (fun h=>?_)
     ·refine Ag hq [2] [] ?_;cases h;exact C7 []
     ·obtain⟨x8,hx8,h⟩:=bind_some h;refine gJ hx8 (fun b7=>aG Γ .normal (⟨[Uy,(4,(Z6 a1.Kind)),(25,(.bool b7))],(Q159 a1),[]⟩:St)) ?_ ?_
      ·clear h hx8;intro y h;refine Ag hq [1,4,25] [1] ?_;refine gC h (fun h=>?_) (fun h=>?_)
       ·cases h;exact gK (Br Ct)
       ·refine Ag hq [1,4,25] [1] ?_;refine gC h (fun h=>?_) (fun h=>?_)
        ·cases h;exact gK (Br Ct)
        ·refine Ag hq [1,4,25] [1] ?_;refine gC h (fun h=>?_) (fun h=>?_)
         ·cases h;exact gK (Br Ct)
         ·refine Ag hq [1,4,25] [1] ?_;cases h;exact gK (Br Ct)
      ·clear hx8;refine gA ?_;refine gC h (fun h=>?_) (fun h=>?_)
       ·refine Ag hq [2] [] ?_;cases h;exact C7 []
       ·refine Ag hq [1,4,30] [1] ?_;refine gC h (fun h=>?_) (fun h=>?_)
        ·refine Ag hq [2] [] ?_;cases h;exact C7 []
        ·refine Ag hq [1,32] [1] ?_;refine gC h (fun h=>?_) (fun h=>?_)
         ·refine Ag hq [2] [] ?_;cases h;exact C7 []
         ·refine Ag hq [2] [] ?_;cases h;exact C7 []
def Hr(aE:Int)(a8:Int):Option Int:=
 ((Bj a8).bind fun x1=>(bif (!x1) then(some (0:Int)) else(bif (a8==64) then(some aE) else(Ba (0≤(Hi a8)) (Ba ((shlV .u64 (1:Int) (Hi a8))≠0) (some (Int.tmod aE (shlV .u64 (1:Int) (Hi a8)))))))))
theorem Th(aE:Int)(a8:Int)(r:Int)(h:Hr aE a8=some r):Spec Tryz.prog 92 [(.int .u64 aE),(.int .i64 a8)] [] (.int .u64 r) []:=by
 refine Ae mix Tryz.func92 (fun Γ hq=>?_);unfold Hr at h;refine Ag hq [0,1] [] ?_;obtain⟨x1,hx1,h⟩:=bind_some h;refine gR hq [0,1,7] [] [] [(Z2 x1)] (c1 (Cw a8 x1 hx1)) ?_;refine gC h (fun h=>?_) (fun h=>?_)
 ·refine Ag hq [4] [] ?_;cases h;exact C7 []
 ·refine Ag hq [0,1,9] [] ?_;refine gC h (fun h=>?_) (fun h=>?_)
  ·refine Ag hq [4] [] ?_;obtain rfl:=OI h;exact C7 []
  ·obtain⟨hc2,h⟩:=Aa h;obtain⟨hc3,h⟩:=Aa h;refine gR hq [4] [] [] [] (ci hc2 (c1 hc3)) ?_;cases h;exact C7 []
def Sn(Γ:H0)(a1:Dv)(r:Bool):Exit→St→Prop:=fK Tryz.prog Γ Tryz.f66.results.toList [] (.bool r) []
def Q164(a1:Dv):=(a1.Kind==15)
def Q163(a1:Dv):=((a1.Kind==4)==false)
def Q165(a1:Dv):=(decide (a1.Imm<(Hi a1.Bits)))
def Q168(a1:Dv):=(bif (a1.Kind==4) then true else(bif (decide (((10:Int):Int)≤a1.Kind)) then(decide (a1.Kind≤12)) else false))
def Q160(a1:Dv):=(bif (Q168 a1) then true else(a1.Kind==14))
def Q166(a1:Dv):=((bif (Q160 a1) then true else(Q164 a1))==false)
def Q167(a1:Dv):=(bif (decide (((16:Int):Int)≤a1.Kind)) then(decide (a1.Kind≤19)) else false)
def Q161(a1:Dv):=(bif (Q167 a1) then(decide (a1.Bits<8)) else false)
def Q169(a1:Dv):=(((Q161 a1)==false)&&((decide (((21:Int):Int)≤a1.Kind))==true))
def Q162(a1:Dv):=(bif (decide (((Hi a1.Bits):Int)<a1.Imm)) then(decide (a1.Imm≤64)) else false)
def El(a1:Dv):Option Bool:=
 (Option.bind (α:=(Unit ⊕ Bool)) (bif (bif (bif (bif (bif (a1.Kind==4) then true else(bif (decide (((10:Int):Int)≤a1.Kind)) then(decide (a1.Kind≤12)) else false)) then true else(a1.Kind==14)) then true else(a1.Kind==15)) then true else(bif (decide (((18:Int):Int)≤a1.Kind)) then(decide (a1.Kind≤20)) else false)) then(bif (a1.Lanes !=1) then(some (.inr false)) else(some (.inl ()))) else(some (.inl ()))) (fun x1=>(match x1 with|(.inl _)=>(bif (bif (bif (bif (decide (((16:Int):Int)≤a1.Kind)) then(decide (a1.Kind≤19)) else false) then(decide (a1.Bits<8)) else false) then true else(bif (decide (((21:Int):Int)≤a1.Kind)) then(decide (a1.Lanes<2)) else false)) then(some false) else(bif (a1.Kind==0) then((Hr a1.Imm a1.Bits).bind fun x3=>(some (x3==a1.Imm))) else(bif (a1.Kind==14) then((bif ((decide (a1.Imm<(Hi a1.Bits)))==true) then Bj (w64 a1.Imm) else some false).bind fun x4=>(some (bif (decide (a1.Imm<(Hi a1.Bits))) then x4 else false))) else(bif (a1.Kind==15) then((bif ((bif (decide (((Hi a1.Bits):Int)<a1.Imm)) then(decide (a1.Imm≤64)) else false)==true) then Bj (w64 a1.Imm) else some false).bind fun x5=>(some (bif (bif (decide (((Hi a1.Bits):Int)<a1.Imm)) then(decide (a1.Imm≤64)) else false) then x5 else false))) else(bif (a1.Kind==22) then(some (decide (a1.Imm<(Hi a1.Lanes)))) else(some (a1.Imm==0)))))))|(.inr r6)=>(some r6))))
theorem Sa(a1:Dv)(r:Bool)(h:El a1=some r):Spec Tryz.prog 66 [(.agg (Mp a1))] [] (.bool r) []:=by
 refine Ae mix Tryz.func66 (fun Γ hq=>?_);unfold El at h;refine Ag hq [1] [1] ?_;refine Ag hq [1,3] [1] ?_;obtain⟨x1,hx1,h⟩:=bind_some h;refine gJ hx1 (fun x_=>match x_ with|(.inl _)=>aG Γ .normal (⟨[Uy,(3,(Z6 a1.Kind))],[(Z48 a1.Kind a1.Bits a1.Lanes a1.Dst a1.Args a1.Imm)],[]⟩:St)|(.inr r_)=>aR (Sn Γ a1 r_)) ?_ ?_
 ·clear h hx1;intro y h;refine gR hq [1,3,31] [1] [] [] (ci (gI (Q163 a1)) (ci (gI (Q163 a1)) (ci (gI ((Q163 a1)&&((decide (((10:Int):Int)≤a1.Kind))==true))) (ci (gI (Q163 a1)) (ci (show((Q163 a1)=true→((decide (((10:Int):Int)≤a1.Kind))=true→((Q163 a1)&&((decide (((10:Int):Int)≤a1.Kind))==true))=true)) from(fun hg=>(aT hg))) (ci (Kb (a1.Kind==4)) (ci (gI ((Q168 a1)==false)) (ci (Kb (Q168 a1)) (ci (gI ((Q160 a1)==false)) (ci (Kb (Q160 a1)) (ci (gI (Q166 a1)) (ci (gI (Q166 a1)) (ci (gI ((Q166 a1)&&((decide (((18:Int):Int)≤a1.Kind))==true))) (ci (gI (Q166 a1)) (ci (show((Q166 a1)=true→((decide (((18:Int):Int)≤a1.Kind))=true→((Q166 a1)&&((decide (((18:Int):Int)≤a1.Kind))==true))=true)) from(fun hg=>(aT hg))) (c1 (Kb (bif (Q160 a1) then true else(Q164 a1))))))))))))))))))) ?_;refine gC h (fun h=>?_) (fun h=>?_)
  ·refine Ag hq [1,3,34] [1] ?_;refine gC h (fun h=>?_) (fun h=>?_)
   ·refine Ag hq [2] [] ?_;cases h;exact gK (La (I4 [] (Le.refl _ _)))
   ·cases h;exact gK (Br (Ca [1,3] [1] hq))
  ·cases h;exact gK (Br (Ca [1,3] [1] hq))
 ·clear hx1;rcases x1 with _|r6
  ·refine gA ?_;refine gR hq [1,3,54] [1] [] [] (ci (gI ((decide (((16:Int):Int)≤a1.Kind))==true)) (ci (L2 (decide (((16:Int):Int)≤a1.Kind))) (ci (gI ((Q167 a1)==true)) (ci (gI ((Q167 a1)==true)) (ci (L2 (Q167 a1)) (ci (gI ((Q161 a1)==false)) (ci (gI ((Q161 a1)==false)) (ci (gI (Q169 a1)) (ci (gI (Q169 a1)) (ci (gI ((Q161 a1)==false)) (ci (show(((Q161 a1)==false)=true→((decide (((21:Int):Int)≤a1.Kind))=true→(Q169 a1)=true)) from(fun hg=>(aT hg))) (c1 (Kb (Q161 a1)))))))))))))) ?_;refine gC h (fun h=>?_) (fun h=>?_)
   ·refine Ag hq [2] [] ?_;obtain rfl:=OI h;exact C7 []
   ·refine Ag hq [1,55] [1] ?_;refine Ag hq [1,55,56] [1] ?_;refine gC h (fun h=>?_) (fun h=>?_)
    ·obtain⟨x3,hx3,h⟩:=bind_some h;refine gR hq [2] [] [] [⟨[],[],(.int .u64 x3),[],[]⟩] (c1 (Th a1.Imm a1.Bits x3 hx3)) ?_;cases h;exact C7 []
    ·refine Ag hq [1,55,66] [1] ?_;refine gC h (fun h=>?_) (fun h=>?_)
     ·obtain⟨x4,hx4,h⟩:=bind_some h;refine gR hq [2] [] [] [(Z2 x4)] (ci (gI ((Q165 a1)==true)) (ci (gI ((Q165 a1)==true)) (ci (gI ((Q165 a1)==true)) (ci (fun(hg:((Q165 a1)==true)=true)=>(Cw (w64 a1.Imm) x4 (Bw hg hx4))) (c1 (L2 (Q165 a1))))))) ?_;cases h;exact C7 []
     ·refine Ag hq [1,55,80] [1] ?_;refine gC h (fun h=>?_) (fun h=>?_)
      ·obtain⟨x5,hx5,h⟩:=bind_some h;refine gR hq [2] [] [] [(Z2 x5)] (ci (gI ((decide (((Hi a1.Bits):Int)<a1.Imm))==true)) (ci (gI ((decide (((Hi a1.Bits):Int)<a1.Imm))==true)) (ci (L2 (decide (((Hi a1.Bits):Int)<a1.Imm))) (ci (gI ((Q162 a1)==true)) (ci (gI ((Q162 a1)==true)) (ci (gI ((Q162 a1)==true)) (ci (fun(hg:((Q162 a1)==true)=true)=>(Cw (w64 a1.Imm) x5 (Bw hg hx5))) (c1 (L2 (Q162 a1)))))))))) ?_;cases h;exact C7 []
      ·refine Ag hq [1,99] [1] ?_;refine gC h (fun h=>?_) (fun h=>?_)
       ·refine Ag hq [2] [] ?_;cases h;exact C7 []
       ·refine Ag hq [2] [] ?_;cases h;exact C7 []
  ·refine Mr (fun st' hk=>?_);obtain rfl:=OI h;exact gK hk
def D5(aE:Int):Option Bool:=
 (some (bif (decide (((0:Int):Int)<aE)) then(decide (aE<1024)) else false))
theorem Jn(aE:Int)(r:Bool)(h:D5 aE=some r):Spec Tryz.prog 23 [(.int .i64 aE)] [] (.bool r) []:=by
 refine Ae mix Tryz.func23 (fun Γ hq=>?_);unfold D5 at h;refine Ag hq [0] [] ?_;refine gR hq [2] [] [] [] (ci (gI ((decide (((0:Int):Int)<aE))==true)) (c1 (L2 (decide (((0:Int):Int)<aE))))) ?_;cases h;exact C7 []
def Ex(a1:Dv):Int→Option (LR Int (Unit ⊕ Bool)):=
 fun(i4:Int)=>(bif (decide (i4<(a1.Args.length:Int))) then(Ba (Bb i4 a1.Args.length) ((D5 (a1.Args.getD i4.toNat 0)).bind fun x6=>(bif (!x6) then(some (.done (.inr false))) else(some (.next (w64 (i4+1))))))) else(some (.done (.inl ()))))
def Up(Γ:H0)(a1:Dv)(r:Bool):Exit→St→Prop:=fK Tryz.prog Γ Tryz.f40.results.toList [] (.bool r) []
def Q170(x1:Bool)(x2:Int)(a1:Dv):=(bif (!x1) then true else(x2 !=(a1.Args.length:Int)))
def E4(a1:Dv):Option Bool:=
 ((Gp a1.Bits a1.Lanes).bind fun x1=>((bif ((!x1)==false) then G9 a1 else some (0:Int)).bind fun x2=>((bif ((bif (!x1) then true else(x2 !=(a1.Args.length:Int)))==false) then El a1 else some false).bind fun x3=>(bif (bif (bif (!x1) then true else(x2 !=(a1.Args.length:Int))) then true else(!x3)) then(some false) else((Ah (Ex a1) (0:Int)).bind (fun x7=>(match x7 with|(.inl _)=>(bif (bif (a1.Kind==17) then true else(a1.Kind==19)) then(some (a1.Dst==0)) else((D5 a1.Dst).bind fun x9=>(some x9)))|(.inr r10)=>(some r10))))))))
theorem Ko(a1:Dv)(r:Bool)(h:E4 a1=some r):Spec Tryz.prog 40 [(.agg (Mp a1))] [] (.bool r) []:=by
 refine Ae mix Tryz.func40 (fun Γ hq=>?_);unfold E4 at h;refine Ag hq [1] [1] ?_;obtain⟨x1,hx1,h⟩:=bind_some h;obtain⟨x2,hx2,h⟩:=bind_some h;obtain⟨x3,hx3,h⟩:=bind_some h;refine gR hq [1,22] [1] [] [(Z2 x1),(Z33 x2),(Z2 x3)] (ci (Qv a1.Bits a1.Lanes x1 hx1) (ci (gI ((!x1)==false)) (ci (fun(hg:((!x1)==false)=true)=>(R9 a1 x2 (Bw hg hx2))) (ci (gI ((!x1)==false)) (ci (gI ((!x1)==false)) (ci (gI ((!x1)==false)) (ci (gI ((!x1)==false)) (ci (Kb (!x1)) (ci (gI ((Q170 x1 x2 a1)==false)) (ci (fun(hg:((Q170 x1 x2 a1)==false)=true)=>(Sa a1 x3 (Bw hg hx3))) (ci (gI ((Q170 x1 x2 a1)==false)) (c1 (Kb (Q170 x1 x2 a1)))))))))))))) ?_;refine gC h (fun h=>?_) (fun h=>?_)
 ·refine Ag hq [2] [] ?_;obtain rfl:=OI h;exact C7 []
 ·refine Ag hq [1,3] [1] ?_;obtain⟨x7,hx7,h⟩:=bind_some h;refine gL hq hx7 [1,3] [1] (fun u i4=>(Dx u [(3,(Z6 i4))] [])) (fun u x_=>match x_ with|(.inl _)=>aG Γ (.exit 0) (Mj [1] [1] u [] [])|(.inr r_)=>aR (Up Γ a1 r_)) ?_ ?_
  ·intro i4 y h;unfold Ex at h;refine Ag hq [1,3,27] [1] ?_;refine gC h (fun h=>?_) (fun h=>?_)
   ·obtain⟨hc5,h⟩:=Aa h;obtain⟨x6,hx6,h⟩:=bind_some h;refine gR hq [1,3,36] [1] [] [(Z2 x6)] (ci hc5 (c1 (Jn (a1.Args.getD i4.toNat 0) x6 hx6))) ?_;refine gC h (fun h=>?_) (fun h=>?_)
    ·refine Ag hq [2] [] ?_;cases h;exact gO (La (I4 [] (Le.refl _ _)))
    ·refine Ag hq [1,3] [1] ?_;cases h;exact gN Ct
   ·cases h;exact gO (Br (Ca [1] [1] hq))
  ·clear hx7;rcases x7 with _|r10
   ·refine gA ?_;refine gR hq [1,44] [1] [] [] (ci (gI ((a1.Kind==17)==false)) (ci (gI ((a1.Kind==17)==false)) (c1 (Kb (a1.Kind==17))))) ?_;refine gC h (fun h=>?_) (fun h=>?_)
    ·refine Ag hq [2] [] ?_;cases h;exact C7 []
    ·obtain⟨x9,hx9,h⟩:=bind_some h;refine gR hq [2] [] [] [(Z2 x9)] (c1 (Jn a1.Dst x9 hx9)) ?_;obtain rfl:=OI h;exact C7 []
   ·refine Mr (fun st' hk=>?_);obtain rfl:=OI h;exact gK hk
def D1(a0:Ab):Int→Option (LR Int (Unit ⊕ Bool)):=
 fun(i1:Int)=>(bif (decide (i1<(a0.Params.length:Int))) then(Ba (Bb i1 a0.Params.length) ((Bj (a0.Params.getD i1.toNat 0)).bind fun x3=>(bif (!x3) then(some (.done (.inr false))) else(some (.next (w64 (i1+1))))))) else(some (.done (.inl ()))))
def C4(a0:Ab)(i6:Int):Int→Option (LR Int (Unit ⊕ Bool)):=
 fun(i7:Int)=>(Ba (Bb i6 a0.Blocks.length) (bif (decide (i7<(((a0.Blocks.getD i6.toNat default).Phis).length:Int))) then(Ba (Bb i6 a0.Blocks.length) (Ba (Bb i7 ((a0.Blocks.getD i6.toNat default).Phis).length) ((Bj ((((a0.Blocks.getD i6.toNat default).Phis).getD i7.toNat default).Bits)).bind fun x11=>(bif (!x11) then(some (.done (.inr false))) else(some (.next (w64 (i7+1)))))))) else(some (.done (.inl ())))))
def C5(a0:Ab)(a3:Int)(i6:Int):Int→Option (LR Int (Unit ⊕ Bool)):=
 fun(i14:Int)=>(Ba (Bb i6 a0.Blocks.length) (bif (decide (i14<(((a0.Blocks.getD i6.toNat default).Ops).length:Int))) then(Ba (Bb i6 a0.Blocks.length) (Ba (Bb i14 ((a0.Blocks.getD i6.toNat default).Ops).length) (Option.bind (α:=Int) (bif (a3==1) then(some (20:Int)) else(some (22:Int))) (fun x19=>(Option.bind (α:=Int) (bif (a3==0) then(some (17:Int)) else(some x19)) (fun x22=>((E4 (((a0.Blocks.getD i6.toNat default).Ops).getD i14.toNat default)).bind fun x24=>(bif (bif (bif (!x24) then true else(decide (x22<(((a0.Blocks.getD i6.toNat default).Ops).getD i14.toNat default).Kind))) then true else(bif (decide (a3<2)) then(decide (((1:Int):Int)<(((a0.Blocks.getD i6.toNat default).Ops).getD i14.toNat default).Lanes)) else false)) then(some (.done (.inr false))) else(some (.next (w64 (i14+1)))))))))))) else(some (.done (.inl ())))))
def D2(a0:Ab)(a3:Int):Int→Option (LR Int (Unit ⊕ Bool)):=
 fun(i6:Int)=>(bif (decide (i6<(a0.Blocks.length:Int))) then((Ah (C4 a0 i6) (0:Int)).bind (fun x12=>(match x12 with|(.inl _)=>((Ah (C5 a0 a3 i6) (0:Int)).bind (fun x25=>(match x25 with|(.inl _)=>(some (.next (w64 (i6+1))))|(.inr r27)=>(some (.done (.inr r27))))))|(.inr r28)=>(some (.done (.inr r28)))))) else(some (.done (.inl ()))))
def H9(Γ:H0)(a0:Ab)(a3:Int)(r:Bool):Exit→St→Prop:=fK Tryz.prog Γ Tryz.f22.results.toList [] (.bool r) []
def Q171(a0:Ab)(i6:Int)(i14:Int):=(((a0.Blocks.getD i6.toNat default).Ops).getD i14.toNat default)
def Q173(x24:Bool)(x22:Int)(a0:Ab)(i6:Int)(i14:Int):=(bif (!x24) then true else(decide (x22<(Q171 a0 i6 i14).Kind)))
def Q172(a0:Ab):List AV:=[(Z7 a0.Params),(Z6 a0.Ret),(Z21 a0.Blocks)]
def Q174(a0:Ab)(i6:Int)(i14:Int):List (Nat×Own):=[(Ly 25 (Q172 a0)),(9,.row 47 [(.int .i64 (Q171 a0 i6 i14).Kind),(.int .i64 (Q171 a0 i6 i14).Bits),(.int .i64 (Q171 a0 i6 i14).Lanes),(.int .i64 (Q171 a0 i6 i14).Dst),(AV.list 1 Ak 0 (Q171 a0 i6 i14).Args .none),(.int .u64 (Q171 a0 i6 i14).Imm)])]
def Gs(a0:Ab)(a3:Int):Option Bool:=
 ((Ah (D1 a0) (0:Int)).bind (fun x4=>(match x4 with|(.inl _)=>((Ah (D2 a0 a3) (0:Int)).bind (fun x29=>(match x29 with|(.inl _)=>((Bj a0.Ret).bind fun x31=>(some x31))|(.inr r32)=>(some r32))))|(.inr r33)=>(some r33))))
theorem Q0(a0:Ab)(a3:Int)(r:Bool)(h:Gs a0 a3=some r):Spec Tryz.prog 22 [(.agg (L9 a0)),(.int .i64 a3)] [] (.bool r) []:=by
 refine Ae mix Tryz.func22 (fun Γ hq=>?_);unfold Gs at h;refine Ag hq [1,2] [2] ?_;refine Ag hq [1,2,5] [2] ?_;obtain⟨x4,hx4,h⟩:=bind_some h;refine gL hq hx4 [1,2,5] [2] (fun u i1=>(Dx u [(5,(Z6 i1))] [])) (fun u x_=>match x_ with|(.inl _)=>aG Γ (.exit 0) (Mj [1,2] [2] u [] [])|(.inr r_)=>aR (H9 Γ a0 a3 r_)) ?_ ?_
 ·intro i1 y h;unfold D1 at h;refine Ag hq [1,2,5,15] [2] ?_;refine gC h (fun h=>?_) (fun h=>?_)
  ·obtain⟨hc2,h⟩:=Aa h;obtain⟨x3,hx3,h⟩:=bind_some h;refine gR hq [1,2,5,24] [2] [] [(Z2 x3)] (ci hc2 (c1 (Cw (a0.Params.getD i1.toNat 0) x3 hx3))) ?_;refine gC h (fun h=>?_) (fun h=>?_)
   ·refine Ag hq [4] [] ?_;cases h;exact gO (La (I4 [] (Le.refl _ _)))
   ·refine Ag hq [1,2,5] [2] ?_;cases h;exact gN Ct
  ·cases h;exact gO (Br (Ca [1,2] [2] hq))
 ·clear hx4;rcases x4 with _|r33
  ·refine gA ?_;refine Ag hq [1,2,6] [2] ?_;obtain⟨x29,hx29,h⟩:=bind_some h;refine gL hq hx29 [1,2,6] [2] (fun u i6=>(Dx u [(6,(Z6 i6))] [])) (fun u x_=>match x_ with|(.inl _)=>aG Γ (.exit 2) (Mj [2] [2] u [] [])|(.inr r_)=>aR (H9 Γ a0 a3 r_)) ?_ ?_
   ·intro i6 y h;unfold D2 at h;refine Ag hq [1,2,6,29] [2] ?_;refine gC h (fun h=>?_) (fun h=>?_)
    ·refine Ag hq [1,2,6,7] [2] ?_;obtain⟨x12,hx12,h⟩:=bind_some h;refine gL hq hx12 [1,2,6,7] [2] (fun u i7=>(Dx u [(7,(Z6 i7))] [])) (fun u x_=>match x_ with|(.inl _)=>aG Γ (.exit 4) (Mj [1,2,6] [2] u [] [])|(.inr r_)=>aR (H9 Γ a0 a3 r_)) ?_ ?_
     ·intro i7 y h;unfold C4 at h;obtain⟨hc8,h⟩:=Aa h;refine gR hq [1,2,6,7,40] [2] [] [] (c1 hc8) ?_;refine gC h (fun h=>?_) (fun h=>?_)
      ·obtain⟨hc9,h⟩:=Aa h;obtain⟨hc10,h⟩:=Aa h;obtain⟨x11,hx11,h⟩:=bind_some h;refine gR hq [1,2,6,7,54] [2] [] [(Z2 x11)] (ci hc9 (ci hc10 (c1 (Cw ((((a0.Blocks.getD i6.toNat default).Phis).getD i7.toNat default).Bits) x11 hx11)))) ?_;refine gC h (fun h=>?_) (fun h=>?_)
       ·refine Ag hq [4] [] ?_;cases h;exact gO (La (I4 [] (Le.refl _ _)))
       ·refine Ag hq [1,2,6,7] [2] ?_;cases h;exact gN Ct
      ·cases h;exact gO (Br (Ca [1,2,6] [2] hq))
     ·clear hx12;rcases x12 with _|r28
      ·refine gA ?_;refine Ag hq [1,2,6,8] [2] ?_;obtain⟨x25,hx25,h⟩:=bind_some h;refine gL hq hx25 [1,2,6,8] [2] (fun u i14=>(Dx u [(8,(Z6 i14))] [])) (fun u x_=>match x_ with|(.inl _)=>aG Γ (.exit 6) (Mj [1,2,6] [2] u [] [])|(.inr r_)=>aR (H9 Γ a0 a3 r_)) ?_ ?_
       ·intro i14 y h;unfold C5 at h;obtain⟨hc15,h⟩:=Aa h;refine gR hq [1,2,6,8,63] [2] [] [] (c1 hc15) ?_;refine gC h (fun h=>?_) (fun h=>?_)
        ·obtain⟨hc16,h⟩:=Aa h;obtain⟨hc17,h⟩:=Aa h;refine gR hq [1,2,6,8,9] [2,9] [] [] (ci hc16 (c1 hc17)) ?_;refine Ag hq [1,2,6,8,9,10] [2,9] ?_;obtain⟨x19,hx19,h⟩:=bind_some h;refine gJ hx19 (fun i18=>aG Γ .normal (⟨[(1,(Z6 a3)),Pd,(6,(Z6 i6)),(8,(Z6 i14)),(9,(.ptr 9 0)),(10,(Z6 i18))],(Q174 a0 i6 i14),[]⟩:St)) ?_ ?_
         ·clear h hx19;intro y h;refine Ag hq [1,2,6,8,9,10,76] [2,9] ?_;refine gC h (fun h=>?_) (fun h=>?_)
          ·refine Ag hq [1,2,6,8,9,10] [2,9] ?_;cases h;exact gK (Br Ct)
          ·cases h;exact gK (Br (Ca [1,2,6,8,9,10] [2,9] hq))
         ·clear hx19;refine gA ?_;obtain⟨x22,hx22,h⟩:=bind_some h;refine gJ hx22 (fun i21=>aG Γ .normal (⟨[(1,(Z6 a3)),Pd,(6,(Z6 i6)),(8,(Z6 i14)),(9,(.ptr 9 0)),(10,(Z6 i21))],(Q174 a0 i6 i14),[]⟩:St)) ?_ ?_
          ·clear h hx22;intro y h;refine Ag hq [1,2,6,8,9,10,78] [2,9] ?_;refine gC h (fun h=>?_) (fun h=>?_)
           ·refine Ag hq [1,2,6,8,9,10] [2,9] ?_;cases h;exact gK (Br Ct)
           ·obtain rfl:=OI h;exact gK (Br (Ca [1,2,6,8,9,10] [2,9] hq))
          ·clear hx22;refine gA ?_;obtain⟨x24,hx24,h⟩:=bind_some h;refine gR hq [1,2,6,8,96] [2] [] [(Z2 x24)] (ci (Ko (Q171 a0 i6 i14) x24 hx24) (ci (gI ((!x24)==false)) (ci (gI ((!x24)==false)) (ci (gI ((!x24)==false)) (ci (Kb (!x24)) (ci (gI ((Q173 x24 x22 a0 i6 i14)==false)) (ci (gI ((Q173 x24 x22 a0 i6 i14)==false)) (ci (gI (((Q173 x24 x22 a0 i6 i14)==false)&&((decide (a3<2))==true))) (ci (gI (((Q173 x24 x22 a0 i6 i14)==false)&&((decide (a3<2))==true))) (ci (gI ((Q173 x24 x22 a0 i6 i14)==false)) (ci (show(((Q173 x24 x22 a0 i6 i14)==false)=true→((decide (a3<2))=true→(((Q173 x24 x22 a0 i6 i14)==false)&&((decide (a3<2))==true))=true)) from(fun hg=>(aT hg))) (c1 (Kb (Q173 x24 x22 a0 i6 i14)))))))))))))) ?_;refine gC h (fun h=>?_) (fun h=>?_)
           ·refine Ag hq [4] [] ?_;cases h;exact gO (La (I4 [] (Le.refl _ _)))
           ·refine Ag hq [1,2,6,8] [2] ?_;cases h;exact gN Ct
        ·cases h;exact gO (Br (Ca [1,2,6] [2] hq))
       ·clear hx25;rcases x25 with _|r27
        ·refine gA ?_;refine Ag hq [1,2,6] [2] ?_;cases h;exact gN Ct
        ·refine Mr (fun st' hk=>?_);cases h;exact gO (La hk)
      ·refine Mr (fun st' hk=>?_);cases h;exact gO (La hk)
    ·cases h;exact gO (Br (Ca [2] [2] hq))
   ·clear hx29;rcases x29 with _|r32
    ·refine gA ?_;obtain⟨x31,hx31,h⟩:=bind_some h;refine gR hq [4] [] [] [(Z2 x31)] (c1 (Cw a0.Ret x31 hx31)) ?_;obtain rfl:=OI h;exact C7 []
    ·refine Mr (fun st' hk=>?_);obtain rfl:=OI h;exact gK hk
  ·refine Mr (fun st' hk=>?_);obtain rfl:=OI h;exact gK hk
def Fa(a1:Dv):Option (Int×Int):=
 ((E4 a1).bind fun x1=>(bif (bif (bif (!x1) then true else(a1.Kind==17)) then true else(a1.Kind==19)) then(some ((0:Int),(0:Int))) else(bif (bif (decide (((10:Int):Int)≤a1.Kind)) then(decide (a1.Kind≤12)) else false) then(some ((1:Int),(1:Int))) else(bif (a1.Kind==22) then(some (a1.Bits,(1:Int))) else(some (a1.Bits,a1.Lanes))))))
theorem Qu(a1:Dv)(r:(Int×Int))(h:Fa a1=some r):Spec Tryz.prog 29 [(.agg (Mp a1))] [] (.tuple [(.int .i64 r.1),(.int .i64 r.2)]) []:=by
 refine Ae mix Tryz.func29 (fun Γ hq=>?_);unfold Fa at h;refine Ag hq [1] [1] ?_;obtain⟨x1,hx1,h⟩:=bind_some h;refine gR hq [1,16] [1] [] [(Z2 x1)] (ci (Ko a1 x1 hx1) (ci (gI ((!x1)==false)) (ci (gI ((!x1)==false)) (ci (Kb (!x1)) (ci (gI ((bif (!x1) then true else(a1.Kind==17))==false)) (ci (gI ((bif (!x1) then true else(a1.Kind==17))==false)) (c1 (Kb (bif (!x1) then true else(a1.Kind==17)))))))))) ?_;refine gC h (fun h=>?_) (fun h=>?_)
 ·refine Ag hq [2,3] [] ?_;cases h;exact C7 []
 ·refine gR hq [1,24] [1] [] [] (ci (gI ((decide (((10:Int):Int)≤a1.Kind))==true)) (ci (gI ((decide (((10:Int):Int)≤a1.Kind))==true)) (c1 (L2 (decide (((10:Int):Int)≤a1.Kind)))))) ?_;refine gC h (fun h=>?_) (fun h=>?_)
  ·refine Ag hq [2,3] [] ?_;cases h;exact C7 []
  ·refine Ag hq [1,27] [1] ?_;refine gC h (fun h=>?_) (fun h=>?_)
   ·refine Ag hq [2,3] [] ?_;cases h;exact C7 []
   ·refine Ag hq [2,3] [] ?_;cases h;exact C7 []
def F2(a0:Ab):(List Bk×Int)→Option (LR (List Bk×Int) (List Bk)):=
 fun((l1,i2):(List Bk×Int))=>(bif (decide (i2<(a0.Params.length:Int))) then(Ba (Bb i2 a0.Params.length) (Ba (l1.length+([(⟨(w64 (i2+1)),(-1:Int),(0:Int),((a0.Params.getD i2.toNat 0),(1:Int))⟩:Bk)]:List Bk).length≤room) (some (.next ((l1++([(⟨(w64 (i2+1)),(-1:Int),(0:Int),((a0.Params.getD i2.toNat 0),(1:Int))⟩:Bk)]:List Bk)),(w64 (i2+1))))))) else(some (.done l1)))
def D9(a0:Ab)(i9:Int):(List Bk×Int)→Option (LR (List Bk×Int) (List Bk)):=
 fun((l12,i13):(List Bk×Int))=>(bif (decide (i13<(((a0.Blocks.getD i9.toNat default).Phis).length:Int))) then(Ba (Bb i13 ((a0.Blocks.getD i9.toNat default).Phis).length) (Ba (Bb i13 ((a0.Blocks.getD i9.toNat default).Phis).length) (Ba (l12.length+([(⟨(((a0.Blocks.getD i9.toNat default).Phis).getD i13.toNat default).Dst,i9,(-1:Int),((((a0.Blocks.getD i9.toNat default).Phis).getD i13.toNat default).Bits,(1:Int))⟩:Bk)]:List Bk).length≤room) (some (.next ((l12++([(⟨(((a0.Blocks.getD i9.toNat default).Phis).getD i13.toNat default).Dst,i9,(-1:Int),((((a0.Blocks.getD i9.toNat default).Phis).getD i13.toNat default).Bits,(1:Int))⟩:Bk)]:List Bk)),(w64 (i13+1)))))))) else(some (.done l12)))
def Ea(a0:Ab)(i9:Int):(List Bk×Int)→Option (LR (List Bk×Int) (List Bk)):=
 fun((l20,i21):(List Bk×Int))=>(bif (decide (i21<(((a0.Blocks.getD i9.toNat default).Ops).length:Int))) then(Option.bind (α:=List Bk) (Ba (Bb i21 ((a0.Blocks.getD i9.toNat default).Ops).length) ((Fa (((a0.Blocks.getD i9.toNat default).Ops).getD i21.toNat default)).bind fun x25=>(bif (decide (((0:Int):Int)<x25.1)) then(Ba (Bb i21 ((a0.Blocks.getD i9.toNat default).Ops).length) (Ba (l20.length+([(⟨(((a0.Blocks.getD i9.toNat default).Ops).getD i21.toNat default).Dst,i9,i21,(x25.1,x25.2)⟩:Bk)]:List Bk).length≤room) (some (l20++([(⟨(((a0.Blocks.getD i9.toNat default).Ops).getD i21.toNat default).Dst,i9,i21,(x25.1,x25.2)⟩:Bk)]:List Bk))))) else(some l20)))) (fun x28=>(some (.next (x28,(w64 (i21+1))))))) else(some (.done l20)))
def F3(a0:Ab):(List Bk×Int)→Option (LR (List Bk×Int) (List Bk)):=
 fun((l8,i9):(List Bk×Int))=>(bif (decide (i9<(a0.Blocks.length:Int))) then(Ba (Bb i9 a0.Blocks.length) ((Ah (D9 a0 i9) (l8,(0:Int))).bind (fun x18=>((Ah (Ea a0 i9) (x18,(0:Int))).bind (fun x30=>(some (.next (x30,(w64 (i9+1)))))))))) else(some (.done l8)))
def Q180(a0:Ab)(i9:Int):=(a0.Blocks.getD i9.toNat default)
def Q178(a0:Ab):List AV:=[(Z7 a0.Params),(Z6 a0.Ret),(Z21 a0.Blocks)]
def Q177(i2:Int)(a0:Ab):=([(⟨(w64 (i2+1)),(-1:Int),(0:Int),((a0.Params.getD i2.toNat 0),(1:Int))⟩:Bk)]:List Bk)
def Q176(a0:Ab)(i9:Int)(i21:Int)(x25:(Int×Int)):=([(⟨(((Q180 a0 i9).Ops).getD i21.toNat default).Dst,i9,i21,(x25.1,x25.2)⟩:Bk)]:List Bk)
def Q181(a0:Ab):=(⟨[Uy,(3,(AV.list 5 L1 default ([]:List Bk) (.own 5003))),(4,Nd)],[(1,.row 25 (Q178 a0)),(5003,.tok 5 37 (([]:List Bk).length))],[]⟩:St)
def Q175(a0:Ab)(i9:Int)(i13:Int):=([(⟨(((Q180 a0 i9).Phis).getD i13.toNat default).Dst,i9,(-1:Int),((((Q180 a0 i9).Phis).getD i13.toNat default).Bits,(1:Int))⟩:Bk)]:List Bk)
def He(a0:Ab):Option (List Bk):=
 ((Ah (F2 a0) (([]:List Bk),(0:Int))).bind (fun x6=>((Ah (F3 a0) (x6,(0:Int))).bind (fun x32=>(some x32)))))
theorem Sf(a0:Ab)(r:List Bk)(h:He a0=some r):Spec Tryz.prog 15 [(.agg (L9 a0))] [] (AV.list 5 L1 default r (.own 20000)) [(20000,.tok 5 37 r.length)]:=by
 refine Ae mix Tryz.func15 (fun Γ hq=>?_);unfold He at h;refine gR hq [1] [1] [(2,(AV.list 5 L1 default ([]:List Bk) .exact))] [] (c1 (Et 5 L1 (default:Bk))) ?_;refine gR hq [1,3] [1] [(3,(AV.list 5 L1 default ([]:List Bk) .exact))] [] (c1 (Et 5 L1 (default:Bk))) ?_;refine Ag hq [1,3,4] [1] ?_;refine Kw (st':=(Q181 a0)) (Le.trans (Ca (st':=⟨[Uy,(3,(AV.list 5 L1 default ([]:List Bk) .exact)),(4,Nd)],[(1,.row 25 (Q178 a0))],[]⟩) [1,3,4] [1] hq) (Le.trans (Od (t:=3) (nm:=5003) (sz':=5) (fun i=>L1 (([]:List Bk).getD i default)) 37 rfl rfl (.inl ⟨rfl,rfl⟩) (fun h_=>absurd h_ (by decide))) (Ca (st':=(Q181 a0)) [1,3,4] [1,5003] hq))) ?_;obtain⟨x6,hx6,h⟩:=bind_some h;refine gL hq hx6 [1,3,4] [1,5003] (fun u (l1,i2)=>(Dx u [(Z26 l1),(4,(Z6 i2))] [(Nv 5003 37 l1.length)])) (fun u l3=>aG Γ (.exit 0) (Mj [1,3] [1,5003] u [(Z26 l3)] [(Nv 5003 37 l3.length)])) ?_ ?_
 ·rintro⟨l1,i2⟩ y h;unfold F2 at h;refine Ag hq [1,3,4,15] [1,5003] ?_;refine gC h (fun h=>?_) (fun h=>?_)
  ·obtain⟨hc4,h⟩:=Aa h;obtain⟨hc5,h⟩:=Aa h;refine gR hq [1,3,4] [1,5003] (Z37 28 (Q177 i2 a0) 29 l1) [] (ci hc4 (ci (B8 5 L1 (default:Bk) (Q177 i2 a0)) (ci (Eq.refl l1.length) (ci hc5 (ci (J7 5 5003 L1 (default:Bk) l1 (Q177 i2 a0)) (c1 (Gi l1 (Q177 i2 a0)))))))) ?_;refine Ag hq [1,3,4] [1,5003] ?_;cases h;exact gN Ct
  ·cases h;exact gO (Br (Ca [1,3] [1,5003] hq))
 ·clear hx6;refine gA ?_;refine Ag hq [1,3,5] [1,5003] ?_;obtain⟨x32,hx32,h⟩:=bind_some h;refine gL hq hx32 [1,3,5] [1,5003] (fun u (l8,i9)=>(Dx u [(Z26 l8),(5,(Z6 i9))] [(Nv 5003 37 l8.length)])) (fun u l10=>aG Γ (.exit 2) (⟨[(Z26 l10)],[(Nv 5003 37 l10.length)],[]⟩:St)) ?_ ?_
  ·rintro⟨l8,i9⟩ y h;unfold F3 at h;refine Ag hq [1,3,5,34] [1,5003] ?_;refine gC h (fun h=>?_) (fun h=>?_)
   ·obtain⟨hc11,h⟩:=Aa h;refine gR hq [1,3,5,6] [1,6,5003] [] [] (c1 hc11) ?_;refine Ag hq [1,3,5,6,7] [1,6,5003] ?_;obtain⟨x18,hx18,h⟩:=bind_some h;refine gL hq hx18 [1,3,5,6,7] [1,6,5003] (fun u (l12,i13)=>(Dx u [(Z26 l12),(7,(Z6 i13))] [(Nv 5003 37 l12.length)])) (fun u l14=>aG Γ (.exit 4) (Mj [1,3,5,6] [1,6,5003] u [(Z26 l14)] [(Nv 5003 37 l14.length)])) ?_ ?_
    ·rintro⟨l12,i13⟩ y h;unfold D9 at h;refine Ag hq [1,3,5,6,7,46] [1,6,5003] ?_;refine gC h (fun h=>?_) (fun h=>?_)
     ·obtain⟨hc15,h⟩:=Aa h;obtain⟨hc16,h⟩:=Aa h;obtain⟨hc17,h⟩:=Aa h;refine gR hq [1,3,5,6,7] [1,6,5003] (Z37 65 (Q175 a0 i9 i13) 66 l12) [] (ci hc15 (ci hc16 (ci (B8 5 L1 (default:Bk) (Q175 a0 i9 i13)) (ci (Eq.refl l12.length) (ci hc17 (ci (J7 5 5003 L1 (default:Bk) l12 (Q175 a0 i9 i13)) (c1 (Gi l12 (Q175 a0 i9 i13))))))))) ?_;refine Ag hq [1,3,5,6,7] [1,6,5003] ?_;cases h;exact gN Ct
     ·cases h;exact gO (Br (Ca [1,3,5,6] [1,6,5003] hq))
    ·clear hx18;refine gA ?_;refine Ag hq [1,3,5,6,8] [1,6,5003] ?_;obtain⟨x30,hx30,h⟩:=bind_some h;refine gL hq hx30 [1,3,5,6,8] [1,6,5003] (fun u (l20,i21)=>(Dx u [(Z26 l20),(8,(Z6 i21))] [(Nv 5003 37 l20.length)])) (fun u l22=>aG Γ (.exit 6) (Mj [1,3,5] [1,5003] u [(Z26 l22)] [(Nv 5003 37 l22.length)])) ?_ ?_
     ·rintro⟨l20,i21⟩ y h;unfold Ea at h;refine Ag hq [1,3,5,6,8,71] [1,6,5003] ?_;refine gC h (fun h=>?_) (fun h=>?_)
      ·obtain⟨x28,hx28,h⟩:=bind_some h;refine gJ hx28 (fun l23=>aG Γ .normal (⟨[Uy,(Z26 l23),(5,(Z6 i9)),(6,(.ptr 6 0)),(8,(Z6 i21))],[(1,.row 25 (Q178 a0)),(6,.row 44 [(AV.list 4 Sz default (Q180 a0 i9).Phis .none),(AV.list 6 Mp default (Q180 a0 i9).Ops .none),(.int .i64 (Q180 a0 i9).End.Kind),(.int .i64 (Q180 a0 i9).End.Arg),(AV.list 1 Ak 0 (Q180 a0 i9).End.To .none)]),(Nv 5003 37 l23.length)],[]⟩:St)) ?_ ?_
       ·clear h hx28;intro y h;obtain⟨hc24,h⟩:=Aa h;obtain⟨x25,hx25,h⟩:=bind_some h;refine gR hq [1,3,5,6,8,9,10] [1,6,5003] [] [(Z68 x25.1 x25.2)] (ci hc24 (c1 (Qu (((Q180 a0 i9).Ops).getD i21.toNat default) x25 hx25))) ?_;refine Ag hq [1,3,5,6,8,9,10,84] [1,6,5003] ?_;refine gC h (fun h=>?_) (fun h=>?_)
        ·obtain⟨hc26,h⟩:=Aa h;obtain⟨hc27,h⟩:=Aa h;refine gR hq [1,3,5,6,8] [1,6,5003] (Z37 98 (Q176 a0 i9 i21 x25) 99 l20) [] (ci hc26 (ci (B8 5 L1 (default:Bk) (Q176 a0 i9 i21 x25)) (ci (Eq.refl l20.length) (ci hc27 (ci (J7 5 5003 L1 (default:Bk) l20 (Q176 a0 i9 i21 x25)) (c1 (Gi l20 (Q176 a0 i9 i21 x25)))))))) ?_;cases h;exact gK (Br Ct)
        ·obtain rfl:=OI h;exact gK (Br (Ca [1,3,5,6,8] [1,6,5003] hq))
       ·clear hx28;refine gA ?_;refine Ag hq [1,3,5,6,8] [1,6,5003] ?_;cases h;exact gN Ct
      ·cases h;exact gO (Br (Ca [1,3,5] [1,5003] hq))
     ·clear hx30;refine gA ?_;refine Ag hq [1,3,5] [1,5003] ?_;cases h;exact gN Ct
   ·cases h;exact gO (Br (Ca [3] [5003] hq))
  ·clear hx32;refine gA ?_;refine Ag hq [2] [5003] ?_;obtain rfl:=OI h;exact C7 [(5003,20000)]
def Eb(aO:List Bk)(aE:Int):Int→Option (LR Int (Unit ⊕ Int)):=
 fun(i1:Int)=>(bif (decide (i1<(aO.length:Int))) then(Ba (Bb i1 aO.length) (bif (((aO.getD i1.toNat default).V:Int)==aE) then(some (.done (.inr i1))) else(some (.next (w64 (i1+1)))))) else(some (.done (.inl ()))))
def Sr(Γ:H0)(aO:List Bk)(aE:Int)(r:Int):Exit→St→Prop:=fK Tryz.prog Γ Tryz.f24.results.toList [] (.int .i64 r) []
def Dq(aO:List Bk)(aE:Int):Option Int:=
 ((Ah (Eb aO aE) (0:Int)).bind (fun x3=>(match x3 with|(.inl _)=>(some (-1:Int))|(.inr r5)=>(some r5))))
theorem Ib(aO:List Bk)(aE:Int)(r:Int)(h:Dq aO aE=some r):Spec Tryz.prog 24 [(AV.list 5 L1 default aO .none),(.int .i64 aE)] [] (.int .i64 r) []:=by
 refine Ae mix Tryz.func24 (fun Γ hq=>?_);unfold Dq at h;refine Ag hq [0,1] [] ?_;refine Ag hq [0,1,5] [] ?_;obtain⟨x3,hx3,h⟩:=bind_some h;refine gL hq hx3 [0,1,5] [] (fun u i1=>(Dx u [(5,(Z6 i1))] [])) (fun u x_=>match x_ with|(.inl _)=>aG Γ (.exit 0) (⟨[],[],[]⟩:St)|(.inr r_)=>aR (Sr Γ aO aE r_)) ?_ ?_
 ·intro i1 y h;unfold Eb at h;refine Ag hq [0,1,5,9] [] ?_;refine gC h (fun h=>?_) (fun h=>?_)
  ·obtain⟨hc2,h⟩:=Aa h;refine gR hq [0,1,5,18] [] [] [] (c1 hc2) ?_;refine gC h (fun h=>?_) (fun h=>?_)
   ·refine Ag hq [4] [] ?_;cases h;exact gO (La (I4 [] (Le.refl _ _)))
   ·refine Ag hq [0,1,5] [] ?_;cases h;exact gN Ct
  ·cases h;exact gO (Br (Ca [] [] hq))
 ·clear hx3;rcases x3 with _|r5
  ·refine gA ?_;refine Ag hq [4] [] ?_;cases h;exact C7 []
  ·refine Mr (fun st' hk=>?_);obtain rfl:=OI h;exact gK hk
def Fg(a1:Dv):(List (Int×Int)×Int)→Option (LR (List (Int×Int)×Int) (List (Int×Int))):=
 fun((l2,i3):(List (Int×Int)×Int))=>(bif (decide (i3<(a1.Args.length:Int))) then(Option.bind (α:=(Int×Int)) (Option.bind (α:=Bool) (bif (a1.Kind==13) then(some (a1.Kind==13)) else(some (a1.Kind==20))) (fun x8=>(bif x8 then(bif (i3==0) then(some ((1:Int),(1:Int))) else(some (a1.Bits,a1.Lanes))) else(Option.bind (α:=Bool) (bif (a1.Kind==14) then(some (a1.Kind==14)) else(some (a1.Kind==15))) (fun x11=>(bif x11 then(some ((w64 a1.Imm),(1:Int))) else(Option.bind (α:=Bool) (bif (a1.Kind==16) then(some (a1.Kind==16)) else(some (a1.Kind==17))) (fun x14=>(bif x14 then(bif (i3==0) then(some ((64:Int),(1:Int))) else(some (a1.Bits,a1.Lanes))) else(Option.bind (α:=Bool) (bif (a1.Kind==18) then(some (a1.Kind==18)) else(some (a1.Kind==19))) (fun x17=>(bif x17 then(Option.bind (α:=(Int×Int)) (bif (i3==0) then(some ((1:Int),(1:Int))) else(some (a1.Bits,a1.Lanes))) (fun x21=>(match x21 with|(i19,i20)=>(bif (i3==1) then(some ((64:Int),(1:Int))) else(some (i19,i20)))))) else(bif (a1.Kind==21) then(some (a1.Bits,(1:Int))) else(some (a1.Bits,a1.Lanes))))))))))))))) (fun x23=>(match x23 with|(i5,i6)=>(Ba (l2.length+([(i5,i6)]:List (Int×Int)).length≤room) (some (.next ((l2++([(i5,i6)]:List (Int×Int))),(w64 (i3+1))))))))) else(some (.done l2)))
def Q186(a1:Dv):List AV:=[(Z6 a1.Bits),(Z6 a1.Lanes)]
def Q184(l2:List ((Int×Int))):AV:=(Z45 l2 5003)
def Q183:AV:=Z28
def Q182(a1:Dv):List AV:=[(Z6 a1.Kind),(Z6 a1.Bits),(Z6 a1.Lanes),(Z6 a1.Dst),(Z7 a1.Args),(.int .u64 a1.Imm)]
def Q187(a1:Dv)(l2:List ((Int×Int))):List (Nat×Own):=[(1,.row 47 (Q182 a1)),(5,.row 35 (Q186 a1)),(5003,.tok 2 35 l2.length)]
def Q185:List (Nat×AV):=[Uy,(3,(AV.list 2 A8 ((0:Int),(0:Int)) ([]:List (Int×Int)) (.own 5003))),(4,Nd)]
def Fb(a1:Dv):Option (List (Int×Int)):=
 ((E4 a1).bind fun x1=>(bif (!x1) then(some ([]:List (Int×Int))) else((Ah (Fg a1) (([]:List (Int×Int)),(0:Int))).bind (fun x26=>(some x26)))))
theorem Qw(a1:Dv)(r:List ((Int×Int)))(h:Fb a1=some r):Spec Tryz.prog 41 [(.agg (Mp a1))] [] (AV.list 2 A8 ((0:Int),(0:Int)) r (.own 20000)) [(20000,.tok 2 35 r.length)]:=by
 refine Ae mix Tryz.func41 (fun Γ hq=>?_);unfold Fb at h;refine gR hq [1] [1] [(2,Q183)] [] (c1 (Et 2 A8 ((0:Int),(0:Int)))) ?_;refine gR hq [1,3] [1] [(3,Q183)] [] (c1 (Et 2 A8 ((0:Int),(0:Int)))) ?_;obtain⟨x1,hx1,h⟩:=bind_some h;refine gR hq [1,3,8] [1] [] [(Z2 x1)] (c1 (Ko a1 x1 hx1)) ?_;refine gC h (fun h=>?_) (fun h=>?_)
 ·refine gR hq [2] [] [(2,Q183)] [] (c1 (Et 2 A8 ((0:Int),(0:Int)))) ?_;refine Nw (⟨[(2,Q183)],[],[]⟩:St) ?_;cases h;exact gK (e:=.ret) (I4 [(6002,20000)] (show Le Γ _ (Z53:St) from Le.trans (Ca (st':=⟨[(2,Q183)],[],[]⟩) [2] [] hq) (Le.trans (Od (t:=2) (nm:=6002) (sz':=2) (fun i=>A8 (([]:List (Int×Int)).getD i ((0:Int),(0:Int)))) 35 rfl rfl (.inl ⟨rfl,rfl⟩) (fun h_=>absurd h_ (by decide))) (Ca (st':=Z53) [2] [6002] hq))))
 ·refine Ag hq [1,3,4] [1] ?_;refine Kw (st':=⟨Q185,[(1,.row 47 (Q182 a1)),(5003,.tok 2 35 (([]:List (Int×Int)).length))],[]⟩) (Le.trans (Ca (st':=⟨[Uy,(3,Q183),(4,Nd)],[(1,.row 47 (Q182 a1))],[]⟩) [1,3,4] [1] hq) (Le.trans (Od (t:=3) (nm:=5003) (sz':=2) (fun i=>A8 (([]:List (Int×Int)).getD i ((0:Int),(0:Int)))) 35 rfl rfl (.inl ⟨rfl,rfl⟩) (fun h_=>absurd h_ (by decide))) (Ca (st':=⟨Q185,[(1,.row 47 (Q182 a1)),(5003,.tok 2 35 (([]:List (Int×Int)).length))],[]⟩) [1,3,4] [1,5003] hq))) ?_;obtain⟨x26,hx26,h⟩:=bind_some h;refine gL hq hx26 [1,3,4] [1,5003] (fun u (l2,i3)=>(Dx u [(3,(Q184 l2)),(4,(Z6 i3))] [(5003,.tok 2 35 l2.length)])) (fun u l4=>aG Γ (.exit 0) (⟨[(3,(Z45 l4 5003))],[(5003,.tok 2 35 l4.length)],[]⟩:St)) ?_ ?_
  ·rintro⟨l2,i3⟩ y h;unfold Fg at h;refine Ag hq [1,3,4,13] [1,5003] ?_;refine gC h (fun h=>?_) (fun h=>?_)
   ·refine Ag hq [1,3,4,5] [1,5,5003] ?_;obtain⟨x23,hx23,h⟩:=bind_some h;refine gJ hx23 (fun(i5,i6)=>aG Γ .normal (⟨[Uy,(3,(Q184 l2)),(4,(Z6 i3)),Z70],[(1,.row 47 (Q182 a1)),(5,.row 35 [(Z6 i5),(Z6 i6)]),(5003,.tok 2 35 l2.length)],[]⟩:St)) ?_ ?_
    ·clear h hx23;intro y h;refine Ag hq [1,3,4,5,22] [1,5,5003] ?_;obtain⟨x8,hx8,h⟩:=bind_some h;refine gJ hx8 (fun b7=>aG Γ .normal (⟨[Uy,(3,(Q184 l2)),(4,(Z6 i3)),Z70,(22,(Z6 a1.Kind)),(23,(.bool b7))],(Q187 a1 l2),[]⟩:St)) ?_ ?_
     ·clear h hx8;intro y h;refine Ag hq [1,3,4,5,22,23] [1,5,5003] ?_;refine gC h (fun h=>?_) (fun h=>?_)
      ·cases h;exact gK (Br Ct)
      ·refine Ag hq [1,3,4,5,22,23] [1,5,5003] ?_;cases h;exact gK (Br Ct)
     ·clear hx8;refine gA ?_;refine gC h (fun h=>?_) (fun h=>?_)
      ·refine Ag hq [1,3,4,5,27] [1,5,5003] ?_;refine gC h (fun h=>?_) (fun h=>?_)
       ·refine Ag hq [1,3,4,5] [1,5,5003] ?_;cases h;exact gK (Br Ct)
       ·cases h;exact gK (Br (Ca [1,3,4,5] [1,5,5003] hq))
      ·obtain⟨x11,hx11,h⟩:=bind_some h;refine gJ hx11 (fun b10=>aG Γ .normal (⟨[Uy,(3,(Q184 l2)),(4,(Z6 i3)),Z70,(22,(Z6 a1.Kind)),(29,(.bool b10))],(Q187 a1 l2),[]⟩:St)) ?_ ?_
       ·clear h hx11;intro y h;refine Ag hq [1,3,4,5,22,29] [1,5,5003] ?_;refine gC h (fun h=>?_) (fun h=>?_)
        ·cases h;exact gK (Br Ct)
        ·refine Ag hq [1,3,4,5,22,29] [1,5,5003] ?_;cases h;exact gK (Br Ct)
       ·clear hx11;refine gA ?_;refine gC h (fun h=>?_) (fun h=>?_)
        ·refine Ag hq [1,3,4,5] [1,5,5003] ?_;cases h;exact gK (Br Ct)
        ·obtain⟨x14,hx14,h⟩:=bind_some h;refine gJ hx14 (fun b13=>aG Γ .normal (⟨[Uy,(3,(Q184 l2)),(4,(Z6 i3)),Z70,(22,(Z6 a1.Kind)),(36,(.bool b13))],(Q187 a1 l2),[]⟩:St)) ?_ ?_
         ·clear h hx14;intro y h;refine Ag hq [1,3,4,5,22,36] [1,5,5003] ?_;refine gC h (fun h=>?_) (fun h=>?_)
          ·cases h;exact gK (Br Ct)
          ·refine Ag hq [1,3,4,5,22,36] [1,5,5003] ?_;cases h;exact gK (Br Ct)
         ·clear hx14;refine gA ?_;refine gC h (fun h=>?_) (fun h=>?_)
          ·refine Ag hq [1,3,4,5,40] [1,5,5003] ?_;refine gC h (fun h=>?_) (fun h=>?_)
           ·refine Ag hq [1,3,4,5] [1,5,5003] ?_;cases h;exact gK (Br Ct)
           ·cases h;exact gK (Br (Ca [1,3,4,5] [1,5,5003] hq))
          ·obtain⟨x17,hx17,h⟩:=bind_some h;refine gJ hx17 (fun b16=>aG Γ .normal (⟨[Uy,(3,(Q184 l2)),(4,(Z6 i3)),Z70,(22,(Z6 a1.Kind)),(42,(.bool b16))],(Q187 a1 l2),[]⟩:St)) ?_ ?_
           ·clear h hx17;intro y h;refine Ag hq [1,3,4,5,22,42] [1,5,5003] ?_;refine gC h (fun h=>?_) (fun h=>?_)
            ·cases h;exact gK (Br Ct)
            ·refine Ag hq [1,3,4,5,22,42] [1,5,5003] ?_;cases h;exact gK (Br Ct)
           ·clear hx17;refine gA ?_;refine gC h (fun h=>?_) (fun h=>?_)
            ·obtain⟨x21,hx21,h⟩:=bind_some h;refine gJ hx21 (fun(i19,i20)=>aG Γ .normal (⟨[Uy,(3,(Q184 l2)),(4,(Z6 i3)),Z70],[(1,.row 47 (Q182 a1)),(5,.row 35 [(Z6 i19),(Z6 i20)]),(5003,.tok 2 35 l2.length)],[]⟩:St)) ?_ ?_
             ·clear h hx21;intro y h;refine Ag hq [1,3,4,5,46] [1,5,5003] ?_;refine gC h (fun h=>?_) (fun h=>?_)
              ·refine Ag hq [1,3,4,5] [1,5,5003] ?_;cases h;exact gK (Br Ct)
              ·cases h;exact gK (Br (Ca [1,3,4,5] [1,5,5003] hq))
             ·clear hx21;rcases x21 with⟨i19,i20⟩;refine gA ?_;refine Ag hq [1,3,4,5,49] [1,5,5003] ?_;refine gC h (fun h=>?_) (fun h=>?_)
              ·refine Ag hq [1,3,4,5] [1,5,5003] ?_;cases h;exact gK (Br Ct)
              ·cases h;exact gK (Br (Ca [1,3,4,5] [1,5,5003] hq))
            ·refine Ag hq [1,3,4,5,51] [1,5,5003] ?_;refine gC h (fun h=>?_) (fun h=>?_)
             ·refine Ag hq [1,3,4,5] [1,5,5003] ?_;cases h;exact gK (Br Ct)
             ·cases h;exact gK (Br (Ca [1,3,4,5] [1,5,5003] hq))
    ·clear hx23;rcases x23 with⟨i5,i6⟩;refine gA ?_;obtain⟨hc25,h⟩:=Aa h;refine gR hq [1,3,4] [1,5003] [(58,(AV.list 2 A8 ((0:Int),(0:Int)) ([(i5,i6)]:List (Int×Int)) .exact)),(59,(AV.list 2 A8 ((0:Int),(0:Int)) (l2++([(i5,i6)]:List (Int×Int))) (.own 5003)))] [] (ci (B8 2 A8 ((0:Int),(0:Int)) ([(i5,i6)]:List (Int×Int))) (ci (Eq.refl l2.length) (ci hc25 (ci (J7 2 5003 A8 ((0:Int),(0:Int)) l2 ([(i5,i6)]:List (Int×Int))) (c1 (Gi l2 ([(i5,i6)]:List (Int×Int)))))))) ?_;refine Ag hq [1,3,4] [1,5003] ?_;cases h;exact gN Ct
   ·cases h;exact gO (Br (Ca [3] [5003] hq))
  ·clear hx26;refine gA ?_;refine Ag hq [2] [5003] ?_;obtain rfl:=OI h;exact C7 [(5003,20000)]
def Ec(a0:Ab)(i2:Int)(i7:Int):(List Bz×Int)→Option (LR (List Bz×Int) (List Bz)):=
 fun((l10,i11):(List Bz×Int))=>(bif (decide (i11<(((((a0.Blocks.getD i2.toNat default).Phis).getD i7.toNat default).Args).length:Int))) then(Ba (Bb i11 ((((a0.Blocks.getD i2.toNat default).Phis).getD i7.toNat default).Args).length) (Ba (Bb i11 ((((a0.Blocks.getD i2.toNat default).Phis).getD i7.toNat default).From).length) (Ba (l10.length+([(⟨(((((a0.Blocks.getD i2.toNat default).Phis).getD i7.toNat default).Args).getD i11.toNat 0),(((((a0.Blocks.getD i2.toNat default).Phis).getD i7.toNat default).From).getD i11.toNat 0),(1000:Int),((((a0.Blocks.getD i2.toNat default).Phis).getD i7.toNat default).Bits,(1:Int))⟩:Bz)]:List Bz).length≤room) (some (.next ((l10++([(⟨(((((a0.Blocks.getD i2.toNat default).Phis).getD i7.toNat default).Args).getD i11.toNat 0),(((((a0.Blocks.getD i2.toNat default).Phis).getD i7.toNat default).From).getD i11.toNat 0),(1000:Int),((((a0.Blocks.getD i2.toNat default).Phis).getD i7.toNat default).Bits,(1:Int))⟩:Bz)]:List Bz)),(w64 (i11+1)))))))) else(some (.done l10)))
def Ed(a0:Ab)(i2:Int):(List Bz×Int)→Option (LR (List Bz×Int) (List Bz)):=
 fun((l6,i7):(List Bz×Int))=>(bif (decide (i7<(((a0.Blocks.getD i2.toNat default).Phis).length:Int))) then(Ba (Bb i7 ((a0.Blocks.getD i2.toNat default).Phis).length) ((Ah (Ec a0 i2 i7) (l6,(0:Int))).bind (fun x16=>(some (.next (x16,(w64 (i7+1)))))))) else(some (.done l6)))
def Ee(a0:Ab)(i2:Int)(i21:Int)(x24:List ((Int×Int))):(List Bz×Int)→Option (LR (List Bz×Int) (List Bz)):=
 fun((l25,i26):(List Bz×Int))=>(bif (decide (i26<(x24.length:Int))) then(Ba (Bb i21 ((a0.Blocks.getD i2.toNat default).Ops).length) (Ba (Bb i26 ((((a0.Blocks.getD i2.toNat default).Ops).getD i21.toNat default).Args).length) (Ba (Bb i26 x24.length) (Ba (l25.length+([(⟨(((((a0.Blocks.getD i2.toNat default).Ops).getD i21.toNat default).Args).getD i26.toNat 0),i2,i21,(x24.getD i26.toNat ((0:Int),(0:Int)))⟩:Bz)]:List Bz).length≤room) (some (.next ((l25++([(⟨(((((a0.Blocks.getD i2.toNat default).Ops).getD i21.toNat default).Args).getD i26.toNat 0),i2,i21,(x24.getD i26.toNat ((0:Int),(0:Int)))⟩:Bz)]:List Bz)),(w64 (i26+1))))))))) else(some (.done l25)))
def Ef(a0:Ab)(i2:Int):(List Bz×Int)→Option (LR (List Bz×Int) (List Bz)):=
 fun((l20,i21):(List Bz×Int))=>(bif (decide (i21<(((a0.Blocks.getD i2.toNat default).Ops).length:Int))) then(Ba (Bb i21 ((a0.Blocks.getD i2.toNat default).Ops).length) ((Fb (((a0.Blocks.getD i2.toNat default).Ops).getD i21.toNat default)).bind fun x24=>((Ah (Ee a0 i2 i21 x24) (l20,(0:Int))).bind (fun x32=>(some (.next (x32,(w64 (i21+1))))))))) else(some (.done l20)))
def F4(a0:Ab):(List Bz×Int)→Option (LR (List Bz×Int) (List Bz)):=
 fun((l1,i2):(List Bz×Int))=>(bif (decide (i2<(a0.Blocks.length:Int))) then(Option.bind (α:=List Bz) (Ba (Bb i2 a0.Blocks.length) ((Ah (Ed a0 i2) (l1,(0:Int))).bind (fun x18=>((Ah (Ef a0 i2) (x18,(0:Int))).bind (fun x34=>(Option.bind (α:=List Bz) (bif (((a0.Blocks.getD i2.toNat default).End.Kind:Int)==0) then(Ba (x34.length+([(⟨(a0.Blocks.getD i2.toNat default).End.Arg,i2,(1000:Int),(a0.Ret,(1:Int))⟩:Bz)]:List Bz).length≤room) (some (x34++([(⟨(a0.Blocks.getD i2.toNat default).End.Arg,i2,(1000:Int),(a0.Ret,(1:Int))⟩:Bz)]:List Bz)))) else(some x34)) (fun x38=>(bif (((a0.Blocks.getD i2.toNat default).End.Kind:Int)==2) then(Ba (x38.length+([(⟨(a0.Blocks.getD i2.toNat default).End.Arg,i2,(1000:Int),((1:Int),(1:Int))⟩:Bz)]:List Bz).length≤room) (some (x38++([(⟨(a0.Blocks.getD i2.toNat default).End.Arg,i2,(1000:Int),((1:Int),(1:Int))⟩:Bz)]:List Bz)))) else(some x38))))))))) (fun x41=>(some (.next (x41,(w64 (i2+1))))))) else(some (.done l1)))
def Ym(a0:Ab)(i2:Int):=(a0.Blocks.getD i2.toNat default)
def Q192(a0:Ab):List AV:=[(Z7 a0.Params),(Z6 a0.Ret),(Z21 a0.Blocks)]
def Q191(a0:Ab)(i2:Int):=([(⟨(Ym a0 i2).End.Arg,i2,(1000:Int),(a0.Ret,(1:Int))⟩:Bz)]:List Bz)
def Q190(a0:Ab)(i2:Int):=([(⟨(Ym a0 i2).End.Arg,i2,(1000:Int),((1:Int),(1:Int))⟩:Bz)]:List Bz)
def Q195(a0:Ab):=(⟨[Uy,(3,(AV.list 5 Lj default ([]:List Bz) (.own 5003))),(4,Nd)],[(1,.row 25 (Q192 a0)),(5003,.tok 5 64 (([]:List Bz).length))],[]⟩:St)
def Q189(a0:Ab)(i2:Int)(i21:Int)(i26:Int)(x24:List ((Int×Int))):=([(⟨(((((Ym a0 i2).Ops).getD i21.toNat default).Args).getD i26.toNat 0),i2,i21,(x24.getD i26.toNat ((0:Int),(0:Int)))⟩:Bz)]:List Bz)
def Q188(a0:Ab)(i2:Int)(i7:Int)(i11:Int):=([(⟨(((((Ym a0 i2).Phis).getD i7.toNat default).Args).getD i11.toNat 0),(((((Ym a0 i2).Phis).getD i7.toNat default).From).getD i11.toNat 0),(1000:Int),((((Ym a0 i2).Phis).getD i7.toNat default).Bits,(1:Int))⟩:Bz)]:List Bz)
def Hg(a0:Ab):Option (List Bz):=
 ((Ah (F4 a0) (([]:List Bz),(0:Int))).bind (fun x43=>(some x43)))
theorem Sg(a0:Ab)(r:List Bz)(h:Hg a0=some r):Spec Tryz.prog 25 [(.agg (L9 a0))] [] (AV.list 5 Lj default r (.own 20000)) [(20000,.tok 5 64 r.length)]:=by
 refine Ae mix Tryz.func25 (fun Γ hq=>?_);unfold Hg at h;refine gR hq [1] [1] [(2,(AV.list 5 Lj default ([]:List Bz) .exact))] [] (c1 (Et 5 Lj (default:Bz))) ?_;refine gR hq [1,3] [1] [(3,(AV.list 5 Lj default ([]:List Bz) .exact))] [] (c1 (Et 5 Lj (default:Bz))) ?_;refine Ag hq [1,3,4] [1] ?_;refine Kw (st':=(Q195 a0)) (Le.trans (Ca (st':=⟨[Uy,(3,(AV.list 5 Lj default ([]:List Bz) .exact)),(4,Nd)],[(1,.row 25 (Q192 a0))],[]⟩) [1,3,4] [1] hq) (Le.trans (Od (t:=3) (nm:=5003) (sz':=5) (fun i=>Lj (([]:List Bz).getD i default)) 64 rfl rfl (.inl ⟨rfl,rfl⟩) (fun h_=>absurd h_ (by decide))) (Ca (st':=(Q195 a0)) [1,3,4] [1,5003] hq))) ?_;obtain⟨x43,hx43,h⟩:=bind_some h;refine gL hq hx43 [1,3,4] [1,5003] (fun u (l1,i2)=>(Dx u [(Z18 l1),(4,(Z6 i2))] [(Nv 5003 64 l1.length)])) (fun u l3=>aG Γ (.exit 0) (⟨[(Z18 l3)],[(Nv 5003 64 l3.length)],[]⟩:St)) ?_ ?_
 ·rintro⟨l1,i2⟩ y h;unfold F4 at h;refine Ag hq [1,3,4,16] [1,5003] ?_;refine gC h (fun h=>?_) (fun h=>?_)
  ·obtain⟨x41,hx41,h⟩:=bind_some h;refine gJ hx41 (fun l4=>aG Γ .normal (⟨[Uy,(Z18 l4),(4,(Z6 i2))],[(1,.row 25 (Q192 a0)),(Nv 5003 64 l4.length)],[]⟩:St)) ?_ ?_
   ·clear h hx41;intro y h;obtain⟨hc5,h⟩:=Aa h;refine gR hq [1,3,4,5] [1,5,5003] [] [] (c1 hc5) ?_;refine Ag hq [1,3,4,5,6] [1,5,5003] ?_;obtain⟨x18,hx18,h⟩:=bind_some h;refine gL hq hx18 [1,3,4,5,6] [1,5,5003] (fun u (l6,i7)=>(Dx u [(Z18 l6),(6,(Z6 i7))] [(Nv 5003 64 l6.length)])) (fun u l8=>aG Γ (.exit 2) (Mj [1,3,4,5] [1,5,5003] u [(Z18 l8)] [(Nv 5003 64 l8.length)])) ?_ ?_
    ·rintro⟨l6,i7⟩ y h;unfold Ed at h;refine Ag hq [1,3,4,5,6,28] [1,5,5003] ?_;refine gC h (fun h=>?_) (fun h=>?_)
     ·obtain⟨hc9,h⟩:=Aa h;refine gR hq [1,3,4,5,6,7] [1,5,7,5003] [] [] (c1 hc9) ?_;refine Ag hq [1,3,4,5,6,7,8] [1,5,7,5003] ?_;obtain⟨x16,hx16,h⟩:=bind_some h;refine gL hq hx16 [1,3,4,5,6,7,8] [1,5,7,5003] (fun u (l10,i11)=>(Dx u [(Z18 l10),(8,(Z6 i11))] [(Nv 5003 64 l10.length)])) (fun u l12=>aG Γ (.exit 4) (Mj [1,3,4,5,6] [1,5,5003] u [(Z18 l12)] [(Nv 5003 64 l12.length)])) ?_ ?_
      ·rintro⟨l10,i11⟩ y h;unfold Ec at h;refine Ag hq [1,3,4,5,6,7,8,40] [1,5,7,5003] ?_;refine gC h (fun h=>?_) (fun h=>?_)
       ·obtain⟨hc13,h⟩:=Aa h;obtain⟨hc14,h⟩:=Aa h;obtain⟨hc15,h⟩:=Aa h;refine gR hq [1,3,4,5,6,7,8] [1,5,7,5003] (Z25 58 (Q188 a0 i2 i7 i11) 59 l10) [] (ci hc13 (ci hc14 (ci (B8 5 Lj (default:Bz) (Q188 a0 i2 i7 i11)) (ci (Eq.refl l10.length) (ci hc15 (ci (J7 5 5003 Lj (default:Bz) l10 (Q188 a0 i2 i7 i11)) (c1 (Gi l10 (Q188 a0 i2 i7 i11))))))))) ?_;refine Ag hq [1,3,4,5,6,7,8] [1,5,7,5003] ?_;cases h;exact gN Ct
       ·cases h;exact gO (Br (Ca [1,3,4,5,6] [1,5,5003] hq))
      ·clear hx16;refine gA ?_;refine Ag hq [1,3,4,5,6] [1,5,5003] ?_;cases h;exact gN Ct
     ·cases h;exact gO (Br (Ca [1,3,4,5] [1,5,5003] hq))
    ·clear hx18;refine gA ?_;refine Ag hq [1,3,4,5,9] [1,5,5003] ?_;obtain⟨x34,hx34,h⟩:=bind_some h;refine gL hq hx34 [1,3,4,5,9] [1,5,5003] (fun u (l20,i21)=>(Dx u [(Z18 l20),(9,(Z6 i21))] [(Nv 5003 64 l20.length)])) (fun u l22=>aG Γ (.exit 6) (Mj [1,3,4,5] [1,5,5003] u [(Z18 l22)] [(Nv 5003 64 l22.length)])) ?_ ?_
     ·rintro⟨l20,i21⟩ y h;unfold Ef at h;refine Ag hq [1,3,4,5,9,64] [1,5,5003] ?_;refine gC h (fun h=>?_) (fun h=>?_)
      ·obtain⟨hc23,h⟩:=Aa h;obtain⟨x24,hx24,h⟩:=bind_some h;refine gR hq [1,3,4,5,9,10] [1,5,72,5003] [] [⟨[],[(20000,72)],(Z45 x24 20000),[(20000,.tok 2 35 x24.length)],[]⟩] (ci hc23 (c1 (Qw (((Ym a0 i2).Ops).getD i21.toNat default) x24 hx24))) ?_;refine Ag hq [1,3,4,5,9,10,11] [1,5,72,5003] ?_;obtain⟨x32,hx32,h⟩:=bind_some h;refine gL hq hx32 [1,3,4,5,9,10,11] [1,5,72,5003] (fun u (l25,i26)=>(Dx u [(Z18 l25),(11,(Z6 i26))] [(Nv 5003 64 l25.length)])) (fun u l27=>aG Γ (.exit 8) (Mj [1,3,4,5,9] [1,5,5003] u [(Z18 l27)] [(Nv 5003 64 l27.length)])) ?_ ?_
       ·rintro⟨l25,i26⟩ y h;unfold Ee at h;refine Ag hq [1,3,4,5,9,10,11,76] [1,5,72,5003] ?_;refine gC h (fun h=>?_) (fun h=>?_)
        ·obtain⟨hc28,h⟩:=Aa h;obtain⟨hc29,h⟩:=Aa h;obtain⟨hc30,h⟩:=Aa h;obtain⟨hc31,h⟩:=Aa h;refine gR hq [1,3,4,5,9,10,11] [1,5,72,5003] (Z25 96 (Q189 a0 i2 i21 i26 x24) 97 l25) [] (ci hc28 (ci hc29 (ci hc30 (ci (B8 5 Lj (default:Bz) (Q189 a0 i2 i21 i26 x24)) (ci (Eq.refl l25.length) (ci hc31 (ci (J7 5 5003 Lj (default:Bz) l25 (Q189 a0 i2 i21 i26 x24)) (c1 (Gi l25 (Q189 a0 i2 i21 i26 x24)))))))))) ?_;refine Ag hq [1,3,4,5,9,10,11] [1,5,72,5003] ?_;cases h;exact gN Ct
        ·cases h;exact gO (Br (Ca [1,3,4,5,9] [1,5,5003] hq))
       ·clear hx32;refine gA ?_;refine Ag hq [1,3,4,5,9] [1,5,5003] ?_;cases h;exact gN Ct
      ·cases h;exact gO (Br (Ca [1,3,4,5] [1,5,5003] hq))
     ·clear hx34;refine gA ?_;obtain⟨x38,hx38,h⟩:=bind_some h;refine gJ hx38 (fun l36=>aG Γ .normal (⟨[Uy,(Z18 l36),(4,(Z6 i2)),Z70],[(1,.row 25 (Q192 a0)),(5,.row 44 [(AV.list 4 Sz default (Ym a0 i2).Phis .none),(AV.list 6 Mp default (Ym a0 i2).Ops .none),(.int .i64 (Ym a0 i2).End.Kind),(.int .i64 (Ym a0 i2).End.Arg),(AV.list 1 Ak 0 (Ym a0 i2).End.To .none)]),(Nv 5003 64 l36.length)],[]⟩:St)) ?_ ?_
      ·clear h hx38;intro y h;refine Ag hq [1,3,4,5,101] [1,5,5003] ?_;refine gC h (fun h=>?_) (fun h=>?_)
       ·obtain⟨hc37,h⟩:=Aa h;refine gR hq [1,3,4,5] [1,5,5003] (Z25 111 (Q191 a0 i2) 112 x34) [] (ci (B8 5 Lj (default:Bz) (Q191 a0 i2)) (ci (Eq.refl x34.length) (ci hc37 (ci (J7 5 5003 Lj (default:Bz) x34 (Q191 a0 i2)) (c1 (Gi x34 (Q191 a0 i2))))))) ?_;cases h;exact gK (Br Ct)
       ·obtain rfl:=OI h;exact gK (Br (Ca [1,3,4,5] [1,5,5003] hq))
      ·clear hx38;refine gA ?_;refine Ag hq [1,3,4,5,116] [1,5,5003] ?_;refine gC h (fun h=>?_) (fun h=>?_)
       ·obtain⟨hc40,h⟩:=Aa h;refine gR hq [1,3,4] [1,5003] (Z25 124 (Q190 a0 i2) 125 x38) [] (ci (B8 5 Lj (default:Bz) (Q190 a0 i2)) (ci (Eq.refl x38.length) (ci hc40 (ci (J7 5 5003 Lj (default:Bz) x38 (Q190 a0 i2)) (c1 (Gi x38 (Q190 a0 i2))))))) ?_;cases h;exact gK (Br Ct)
       ·obtain rfl:=OI h;exact gK (Br (Ca [1,3,4] [1,5003] hq))
   ·clear hx41;refine gA ?_;refine Ag hq [1,3,4] [1,5003] ?_;cases h;exact gN Ct
  ·cases h;exact gO (Br (Ca [3] [5003] hq))
 ·clear hx43;refine gA ?_;refine Ag hq [2] [5003] ?_;obtain rfl:=OI h;exact C7 [(5003,20000)]
def F0(aD:TGraph)(aH:TGraph):Int→Option (LR Int (Unit ⊕ Bool)):=
 fun(i1:Int)=>(bif (decide (i1<(aD.Succ.length:Int))) then(Ba (Bb i1 aD.Succ.length) (Ba (Bb i1 aH.Succ.length) ((Dp (aD.Succ.getD i1.toNat []) (aH.Succ.getD i1.toNat [])).bind fun x4=>(bif (!x4) then(some (.done (.inr false))) else(some (.next (w64 (i1+1)))))))) else(some (.done (.inl ()))))
def F1(aD:TGraph)(aH:TGraph):Int→Option (LR Int (Unit ⊕ Bool)):=
 fun(i7:Int)=>(bif (decide (i7<(aD.Pred.length:Int))) then(Ba (Bb i7 aD.Pred.length) (Ba (Bb i7 aH.Pred.length) ((Dp (aD.Pred.getD i7.toNat []) (aH.Pred.getD i7.toNat [])).bind fun x10=>(bif (!x10) then(some (.done (.inr false))) else(some (.next (w64 (i7+1)))))))) else(some (.done (.inl ()))))
def Nc(Γ:H0)(aD:TGraph)(aH:TGraph)(r:Bool):Exit→St→Prop:=fK Tryz.prog Γ Tryz.f67.results.toList [] (.bool r) []
def Q196(aD:TGraph)(aH:TGraph):=((((aD.Succ.length:Int):Int)!=(aH.Succ.length:Int))==false)
def Hb(aD:TGraph)(aH:TGraph):Option Bool:=
 (bif (bif (((aD.Succ.length:Int):Int)!=(aH.Succ.length:Int)) then true else(((aD.Pred.length:Int):Int)!=(aH.Pred.length:Int))) then(some false) else((Ah (F0 aD aH) (0:Int)).bind (fun x5=>(match x5 with|(.inl _)=>((Ah (F1 aD aH) (0:Int)).bind (fun x11=>(match x11 with|(.inl _)=>(some true)|(.inr r13)=>(some r13))))|(.inr r14)=>(some r14)))))
theorem Sc(aD:TGraph)(aH:TGraph)(r:Bool)(h:Hb aD aH=some r):Spec Tryz.prog 67 [(.agg (Iw aD)),(.agg (Iw aH))] [] (.bool r) []:=by
 refine Ae mix Tryz.func67 (fun Γ hq=>?_);unfold Hb at h;refine Ag hq [2,3] [2,3] ?_;refine gR hq [2,3,22] [2,3] [] [] (ci (gI (Q196 aD aH)) (ci (gI (Q196 aD aH)) (ci (gI (Q196 aD aH)) (ci (gI (Q196 aD aH)) (ci (gI (Q196 aD aH)) (ci (gI (Q196 aD aH)) (c1 (Kb (((aD.Succ.length:Int):Int)!=(aH.Succ.length:Int)))))))))) ?_;refine gC h (fun h=>?_) (fun h=>?_)
 ·refine Ag hq [4] [] ?_;obtain rfl:=OI h;exact C7 []
 ·refine Ag hq [2,3,5] [2,3] ?_;obtain⟨x5,hx5,h⟩:=bind_some h;refine gL hq hx5 [2,3,5] [2,3] (fun u i1=>(Dx u [(5,(Z6 i1))] [])) (fun u x_=>match x_ with|(.inl _)=>aG Γ (.exit 0) (Mj [2,3] [2,3] u [] [])|(.inr r_)=>aR (Nc Γ aD aH r_)) ?_ ?_
  ·intro i1 y h;unfold F0 at h;refine Ag hq [2,3,5,27] [2,3] ?_;refine gC h (fun h=>?_) (fun h=>?_)
   ·obtain⟨hc2,h⟩:=Aa h;obtain⟨hc3,h⟩:=Aa h;obtain⟨x4,hx4,h⟩:=bind_some h;refine gR hq [2,3,5,41] [2,3] [] [(Z2 x4)] (ci hc2 (ci hc3 (c1 (J5 (aD.Succ.getD i1.toNat []) (aH.Succ.getD i1.toNat []) x4 hx4)))) ?_;refine gC h (fun h=>?_) (fun h=>?_)
    ·refine Ag hq [4] [] ?_;cases h;exact gO (La (I4 [] (Le.refl _ _)))
    ·refine Ag hq [2,3,5] [2,3] ?_;cases h;exact gN Ct
   ·cases h;exact gO (Br (Ca [2,3] [2,3] hq))
  ·clear hx5;rcases x5 with _|r14
   ·refine gA ?_;refine Ag hq [2,3,6] [2,3] ?_;obtain⟨x11,hx11,h⟩:=bind_some h;refine gL hq hx11 [2,3,6] [2,3] (fun u i7=>(Dx u [(6,(Z6 i7))] [])) (fun u x_=>match x_ with|(.inl _)=>aG Γ (.exit 2) (⟨[],[],[]⟩:St)|(.inr r_)=>aR (Nc Γ aD aH r_)) ?_ ?_
    ·intro i7 y h;unfold F1 at h;refine Ag hq [2,3,6,46] [2,3] ?_;refine gC h (fun h=>?_) (fun h=>?_)
     ·obtain⟨hc8,h⟩:=Aa h;obtain⟨hc9,h⟩:=Aa h;obtain⟨x10,hx10,h⟩:=bind_some h;refine gR hq [2,3,6,60] [2,3] [] [(Z2 x10)] (ci hc8 (ci hc9 (c1 (J5 (aD.Pred.getD i7.toNat []) (aH.Pred.getD i7.toNat []) x10 hx10)))) ?_;refine gC h (fun h=>?_) (fun h=>?_)
      ·refine Ag hq [4] [] ?_;cases h;exact gO (La (I4 [] (Le.refl _ _)))
      ·refine Ag hq [2,3,6] [2,3] ?_;cases h;exact gN Ct
     ·cases h;exact gO (Br (Ca [] [] hq))
    ·clear hx11;rcases x11 with _|r13
     ·refine gA ?_;refine Ag hq [4] [] ?_;obtain rfl:=OI h;exact C7 []
     ·refine Mr (fun st' hk=>?_);obtain rfl:=OI h;exact gK hk
   ·refine Mr (fun st' hk=>?_);obtain rfl:=OI h;exact gK hk
def Hs(a2:TGraph):Option Bool:=
 ((Fz a2.Succ).bind fun x1=>((bif ((x1.2==0)==true) then Hb x1.1 a2 else some false).bind fun x2=>(some (bif (x1.2==0) then x2 else false))))
theorem Tj(a2:TGraph)(r:Bool)(h:Hs a2=some r):Spec Tryz.prog 44 [(.agg (Iw a2))] [] (.bool r) []:=by
 refine Ae mix Tryz.func44 (fun Γ hq=>?_);unfold Hs at h;refine Ag hq [1] [1] ?_;obtain⟨x1,hx1,h⟩:=bind_some h;refine gR hq [1,3,4] [1,3] [] [(Z43 x1.1 x1.2)] (c1 (Mt a2.Succ x1 hx1)) ?_;obtain⟨x2,hx2,h⟩:=bind_some h;refine gR hq [2] [] [] [(Z2 x2)] (ci (gI ((x1.2==0)==true)) (ci (gI ((x1.2==0)==true)) (ci (fun(hg:((x1.2==0)==true)=true)=>(Sc x1.1 a2 x2 (Bw hg hx2))) (c1 (L2 (x1.2==0)))))) ?_;cases h;exact C7 []
def Cn(a2:TGraph)(x2:List Bool)(i4:Int)(l5:List (List Bool))(x9:List Bool):(Int×List Bool)→Option (LR (Int×List Bool) (List Bool)):=
 fun((i10,l11):(Int×List Bool))=>(bif (decide (i10<(a2.Succ.length:Int))) then(Ba (Bb i4 l5.length) (Ba (Bb i10 x2.length) (Ba (((x2.getD i10.toNat false)==true)=true→(Bb i10 x9.length)) (Ba (Bb i10 l11.length) (some (.next ((w64 (i10+1)),(l11.set i10.toNat (bif (x2.getD i10.toNat false) then(!(x9.getD i10.toNat false)) else false))))))))) else(some (.done l11)))
def Co(a2:TGraph)(a3:Int)(x2:List Bool):(Int×List (List Bool))→Option (LR (Int×List (List Bool)) (List (List Bool))):=
 fun((i4,l5):(Int×List (List Bool)))=>(bif (decide (i4<(a2.Succ.length:Int))) then(Ba (0≤(a2.Succ.length:Int)∧(a2.Succ.length:Int)≤(a2.Succ.length:Int)∧(a2.Succ.length:Int)≤(room:Int)) (Ba (Bb i4 l5.length) ((Cl a2 a3 i4).bind fun x9=>((Ah (Cn a2 x2 i4 l5 x9) ((0:Int),(List.replicate (a2.Succ.length:Int).toNat false))).bind (fun x17=>(some (.next ((w64 (i4+1)),(l5.set i4.toNat x17))))))))) else(some (.done l5)))
def Cp(a2:TGraph)(l6:List (List Bool))(i22:Int)(i30:Int):(Bool×Int)→Option (LR (Bool×Int) Bool):=
 fun((b36,i37):(Bool×Int))=>(bif (decide (i37<(a2.Succ.length:Int))) then(Ba (((b36==true)&&((i37==i22)==false))=true→(Bb i37 l6.length)) (Ba (((b36==true)&&((i37==i22)==false))=true→(Bb i22 (l6.getD i37.toNat []).length)) (Ba (((b36==true)&&((bif (i37==i22) then true else(!((l6.getD i37.toNat []).getD i22.toNat false)))==false))=true→(Bb i37 l6.length)) (Ba (((b36==true)&&((bif (i37==i22) then true else(!((l6.getD i37.toNat []).getD i22.toNat false)))==false))=true→(Bb i30 (l6.getD i37.toNat []).length)) (some (.next ((bif b36 then(bif (bif (i37==i22) then true else(!((l6.getD i37.toNat []).getD i22.toNat false))) then true else((l6.getD i37.toNat []).getD i30.toNat false)) else false),(w64 (i37+1))))))))) else(some (.done b36)))
def Bo(a2:TGraph)(a3:Int)(l6:List (List Bool))(i22:Int):(Int×List Int)→Option (LR (Int×List Int) (List Int)):=
 fun((i30,l31):(Int×List Int))=>(bif (bif (decide (i30<(a2.Succ.length:Int))) then(i22 !=a3) else false) then(Option.bind (α:=List Int) (Ba (((i30==i22)==false)=true→(Bb i30 l6.length)) (Ba (((i30==i22)==false)=true→(Bb i22 (l6.getD i30.toNat []).length)) (bif (bif (i30==i22) then true else(!((l6.getD i30.toNat []).getD i22.toNat false))) then(some l31) else((Ah (Cp a2 l6 i22 i30) (true,(0:Int))).bind (fun x43=>(bif x43 then(Ba (Bb i22 l31.length) (some (l31.set i22.toNat i30))) else(some l31))))))) (fun x46=>(some (.next ((w64 (i30+1)),x46))))) else(some (.done l31)))
def Cq(a2:TGraph)(a3:Int)(l6:List (List Bool)):(Int×List Int)→Option (LR (Int×List Int) (List Int)):=
 fun((i22,l23):(Int×List Int))=>(bif (decide (i22<(a2.Succ.length:Int))) then(Ba (Bb i22 l23.length) (Option.bind (α:=List Int) (bif (i22==a3) then(Ba (Bb i22 (l23.set i22.toNat (-2:Int)).length) (some ((l23.set i22.toNat (-2:Int)).set i22.toNat (-1:Int)))) else(some (l23.set i22.toNat (-2:Int)))) (fun x28=>((Ah (Bo a2 a3 l6 i22) ((0:Int),x28)).bind (fun x48=>(some (.next ((w64 (i22+1)),x48)))))))) else(some (.done l23)))
def Lt(a2:TGraph):=(a2.Succ.length:Int)
def Q219:=(fun n_=>Dl n_ [37,75])
def L5(l5:List (List Bool)):=(fun i=>eLB (l5.getD i []))
def Zi(a2:TGraph):=(List.replicate (Lt a2).toNat false)
def Q215(a2:TGraph):List AV:=[(.vsl 46 (Zi a2).length)]
def Q214(i30:Int)(i22:Int):=((i30==i22)==false)
def Q213(l23:List Int)(i22:Int):=(l23.set i22.toNat (-2:Int))
def Q218(l11:List Bool):=(fun i=>eB (l11.getD i false))
def Q217:=(fun n_=>Dl n_ [2,35,37,46])
def Zj:=(fun n_=>Dl n_ [2,35,37,46,51])
def Q210(a2:TGraph):=(fun i=>eB ((Zi a2).getD i false))
def Yn(l11:List Bool)(i10:Int)(x2:List Bool)(x9:List Bool):=(l11.set i10.toNat (bif (x2.getD i10.toNat false) then(!(x9.getD i10.toNat false)) else false))
def Q211(l11:List Bool)(i10:Int)(x2:List Bool)(x9:List Bool):=(fun i=>eB ((Yn l11 i10 x2 x9).getD i false))
def Q207(b36:Bool)(i37:Int)(i22:Int):=((b36==true)&&((i37==i22)==false))
def Q216:List (Nat×AV):=[(4,Z16)]
def Q212(x1:Bool)(a3:Int):=(bif (!x1) then true else(decide (a3<0)))
def L6(a2:TGraph):List AV:=[(Z23 a2.Succ),(Z23 a2.Pred)]
def Q220:=(Z24:St)
def Q202(b36:Bool)(i37:Int)(i22:Int)(x19:List (List Bool)):=((b36==true)&&((bif (i37==i22) then true else(!((x19.getD i37.toNat []).getD i22.toNat false)))==false))
def Q200(a3:Int)(a2:TGraph)(x2:List Bool)(l5:List (List Bool))(i4:Int):List (Nat×AV):=[(1,(Z6 a3)),Pd,(5,(Z6 (Lt a2))),(6,(Z19 x2 35)),(N9 37 l5.length),(8,(Z6 i4))]
def Q206(a3:Int)(a2:TGraph)(x2:List Bool)(l5:List (List Bool))(i4:Int):List (Nat×AV):=[(1,(Z6 a3)),Pd,(5,(Z6 (Lt a2))),(6,(Z19 x2 35)),(N9 37 l5.length),(8,(.int .i64 (w64 (i4+1))))]
def Q204(a3:Int)(a2:TGraph)(x2:List Bool)(l5:List (List Bool))(i4:Int)(x9:List Bool)(i10:Int):List (Nat×AV):=[(1,(Z6 a3)),Pd,(5,(Z6 (Lt a2))),(6,(Z19 x2 35)),(N9 37 l5.length),(8,(Z6 i4)),(9,(Z19 x9 51)),(10,(Z6 i10))]
def Q201(a3:Int)(a2:TGraph)(x2:List Bool)(l5:List (List Bool))(i4:Int)(x9:List Bool):List (Nat×AV):=[(1,(Z6 a3)),Pd,(5,(Z6 (Lt a2))),(6,(Z19 x2 35)),(N9 37 l5.length),(8,(Z6 i4)),(9,(Z19 x9 51)),(10,Nd)]
def Q203(a3:Int)(a2:TGraph)(x2:List Bool)(l5:List (List Bool))(i4:Int)(x9:List Bool)(i10:Int):List (Nat×AV):=[(1,(Z6 a3)),Pd,(5,(Z6 (Lt a2))),(6,(Z19 x2 35)),(N9 37 l5.length),(8,(Z6 i4)),(9,(Z19 x9 51)),(10,(.int .i64 (w64 (i10+1))))]
def Q221(a3:Int)(a2:TGraph)(x2:List Bool)(l5:List (List Bool))(i4:Int)(x9:List Bool)(i10:Int):List (Nat×AV):=[(1,(Z6 a3)),Pd,(5,(Z6 (Lt a2))),(6,(Z19 x2 35)),(N9 37 l5.length),(8,(Z6 i4)),(9,(Z19 x9 51)),(10,(Z6 i10)),(54,(.bool (decide (i10<(Lt a2)))))]
def Hd(a2:TGraph)(a3:Int):Option (List Int):=
 ((Hs a2).bind fun x1=>(bif (bif (bif (!x1) then true else(decide (a3<0))) then true else(decide (((a2.Succ.length:Int):Int)≤a3))) then(some ([]:List Int)) else((Cl a2 a3 (-1:Int)).bind fun x2=>(Ba (0≤(a2.Succ.length:Int)∧(a2.Succ.length:Int)≤(a2.Succ.length:Int)∧(a2.Succ.length:Int)≤(room:Int)) ((Ah (Co a2 a3 x2) ((0:Int),(List.replicate (a2.Succ.length:Int).toNat ([]:List Bool)))).bind (fun x19=>(Ba (0≤(a2.Succ.length:Int)∧(a2.Succ.length:Int)≤(a2.Succ.length:Int)∧(a2.Succ.length:Int)≤(room:Int)) ((Ah (Cq a2 a3 x19) ((0:Int),(List.replicate (a2.Succ.length:Int).toNat (0:Int)))).bind (fun x50=>(some x50))))))))))
theorem Se(a2:TGraph)(a3:Int)(r:List Int)(h:Hd a2 a3=some r):Spec Tryz.prog 27 [(.agg (Iw a2)),(.int .i64 a3)] [] (AV.list 1 Ak 0 r (.own 20000)) [(20000,.tok 1 3 r.length)]:=by
 refine Ae mix Tryz.func27 (fun Γ hq=>?_);have hΓ:=hq.own;unfold Hd at h;refine gR hq [1,2] [2] Q216 [] (c1 (Et 1 Ak (0:Int))) ?_;obtain⟨x1,hx1,h⟩:=bind_some h;refine gR hq [1,2,29] [2] [] [(Z2 x1)] (ci (Tj a2 x1 hx1) (ci (gI ((!x1)==false)) (ci (Kb (!x1)) (ci (gI ((Q212 x1 a3)==false)) (ci (gI ((Q212 x1 a3)==false)) (ci (gI ((Q212 x1 a3)==false)) (ci (gI ((Q212 x1 a3)==false)) (c1 (Kb (Q212 x1 a3)))))))))) ?_;refine gC h (fun h=>?_) (fun h=>?_)
 ·refine gR hq [4] [] Q216 [] (c1 (Et 1 Ak (0:Int))) ?_;refine Nw (⟨Q216,[],[]⟩:St) ?_;cases h;exact gK (e:=.ret) (I4 [(6004,20000)] (show Le Γ _ Q220 from Le.trans (Ca (st':=⟨Q216,[],[]⟩) [4] [] hq) (Le.trans (Od (t:=4) (nm:=6004) (sz':=1) (fun i=>Ak (([]:List Int).getD i 0)) 3 rfl rfl (.inl ⟨rfl,rfl⟩) (fun h_=>absurd h_ (by decide))) (Ca (st':=Q220) [4] [6004] hq))))
 ·refine Ag hq [1,2,5] [2] ?_;obtain⟨x2,hx2,h⟩:=bind_some h;refine gR hq [1,2,5,6] [2,35] [] [⟨[],[(20000,35)],(Z19 x2 20000),[(Nf 20000 x2.length)],[]⟩] (c1 (Jo a2 a3 (-1:Int) x2 hx2)) ?_;obtain⟨hc3,h⟩:=Aa h;refine gR hq [1,2,5,6,7] [2,35,37] [] [] (c1 hc3) ?_;refine Kw (Le.trans (Pv 37 (show ∀ k_,k_<((Lt a2).toNat)→AVleL ((fun i_=>AV.eraseAll (fun n_=>Dl n_ [2,35,37]) ((fun _=>[Z29]) i_)) k_) ((fun i=>eLB ((List.replicate (Lt a2).toNat ([]:List Bool)).getD i [])) k_) from(fun k hk=>M9 (e:=eLB) (d:=[]) (.cons (fun _ _ _ _ _ hh=>AVle.untag _ _ _ _ _ (F7 _ _ _ _ _ hh)) .nil) _ k (Na hk)))) (Ox (fun(k_:Nat) u=>(Dx u [(N9 37 k_)] [(37,.arr 1 81 k_ (fun i=>eLB ((List.replicate (Lt a2).toNat ([]:List Bool)).getD i [])))])) (show(Lt a2).toNat=(List.replicate (Lt a2).toNat ([]:List Bool)).length from(List.length_replicate ..).symm))) ?_;refine Ag hq [1,2,5,6,7,8] [2,35,37] ?_;obtain⟨x19,hx19,h⟩:=bind_some h;refine gL hq hx19 [1,2,5,6,7,8] [2,35,37] (fun u (i4,l5)=>(Dx u [(N9 37 l5.length),(8,(Z6 i4))] [(37,.arr 1 81 l5.length (L5 l5))])) (fun u l6=>aG Γ (.exit 0) (Mj [1,5,7] [37] u [(N9 37 l6.length)] [(37,.arr 1 81 l6.length (fun i=>eLB (l6.getD i [])))])) ?_ ?_
  ·rintro⟨i4,l5⟩ y h;unfold Co at h;refine Ag hq [1,2,5,6,7,8,40] [2,35,37] ?_;refine gC h (fun h=>?_) (fun h=>?_)
   ·obtain⟨hc7,h⟩:=Aa h;obtain⟨hc8,h⟩:=Aa h;refine gR hq [1,2,5,6,7,8] [2,35,37,46] [] [] (ci hc7 (ci hc8 (c1 (Eq.refl l5.length)))) ?_;refine Nw (⟨(Q200 a3 a2 x2 l5 i4),[(Ly 67 (L6 a2)),(Nf 35 x2.length),(37,.arr 1 81 l5.length (fun i_=>AV.eraseAll Q217 ((F6 (L5 l5) i4.toNat 0 [(.vsl 46 (Lt a2).toNat)]) i_))),(46,.arr 1 4 ((Lt a2).toNat) (fun i_=>AV.eraseAll Q217 ((fun _=>[(.bool false)]) i_)))],[]⟩:St) ?_;refine Kw (Le.trans (Le.trans (H3 (st':=⟨(Q200 a3 a2 x2 l5 i4),[(Ly 67 (L6 a2)),(Nf 35 x2.length),(37,.arr 1 81 l5.length (fun i_=>AV.eraseAll Q217 ((F6 (L5 l5) i4.toNat 0 [(.vsl 46 (Lt a2).toNat)]) i_))),(46,.arr 1 4 ((Lt a2).toNat) (Q210 a2))],[]⟩) (TmpsLe.refl _) (.same (.same (.same (.arr (fun k hk=>M9 (e:=eB) (d:=false) (.cons (AVle.refl _) .nil) _ k (Na hk)) .nil))))) (Id (congrArg (fun k_:Nat=>(⟨(Q200 a3 a2 x2 l5 i4),[(Ly 67 (L6 a2)),(Nf 35 x2.length),(Z30 l5.length Q217 (L5 l5) i4.toNat k_),(46,.arr 1 4 k_ (Q210 a2))],[]⟩:St)) (show(Lt a2).toNat=(Zi a2).length from(List.length_replicate ..).symm)))) (H3 (st':=⟨(Q200 a3 a2 x2 l5 i4),[(Ly 67 (L6 a2)),(Nf 35 x2.length),(37,.arr 1 81 l5.length (F6 (L5 l5) i4.toNat 0 (Q215 a2))),(46,.arr 1 4 ((Zi a2).length) (Q210 a2))],[]⟩) (TmpsLe.refl _) (.same (.same (.arr (J2 (fun _=>rfl) rfl) (.same .nil)))))) ?_;obtain⟨x9,hx9,h⟩:=bind_some h;refine gR hq [1,2,5,6,7,8,9] [2,35,37,46,51] [] [⟨[],[(20000,51)],(Z19 x9 20000),[(Nf 20000 x9.length)],[]⟩] (c1 (Jo a2 a3 i4 x9 hx9)) ?_;refine Nw (⟨[(1,(Z6 a3)),Pd,(5,(Z6 (Lt a2))),(6,(Z19 x2 35)),(N9 37 l5.length),(8,(Z6 i4)),(9,(Z19 x9 51))],[(Ly 67 (L6 a2)),(Nf 35 x2.length),(37,.arr 1 81 l5.length (fun i_=>AV.eraseAll Zj ((F6 (L5 l5) i4.toNat 0 (Q215 a2)) i_))),(46,.arr 1 4 ((Zi a2).length) (Q210 a2)),(Nf 51 x9.length)],[]⟩:St) ?_;refine Kw (H3 (st':=⟨[(1,(Z6 a3)),Pd,(5,(Z6 (Lt a2))),(6,(Z19 x2 35)),(N9 37 l5.length),(8,(Z6 i4)),(9,(Z19 x9 51))],[(Ly 67 (L6 a2)),(Nf 35 x2.length),(37,.arr 1 81 l5.length (F6 (L5 l5) i4.toNat 0 (Q215 a2))),(46,.arr 1 4 ((Zi a2).length) (Q210 a2)),(Nf 51 x9.length)],[]⟩) (TmpsLe.refl _) (.same (.same (.arr (J2 (fun _=>rfl) rfl) (.same (.same .nil)))))) ?_;refine Ag hq [1,2,5,6,7,8,9,10] [2,35,37,46,51] ?_;refine Nw (⟨(Q201 a3 a2 x2 l5 i4 x9),[(Ly 67 (L6 a2)),(Nf 35 x2.length),(37,.arr 1 81 l5.length (fun i_=>AV.eraseAll Zj ((F6 (L5 l5) i4.toNat 0 (Q215 a2)) i_))),(46,.arr 1 4 ((Zi a2).length) (Q210 a2)),(Nf 51 x9.length)],[]⟩:St) ?_;refine Kw (H3 (st':=⟨(Q201 a3 a2 x2 l5 i4 x9),[(Ly 67 (L6 a2)),(Nf 35 x2.length),(37,.arr 1 81 l5.length (F6 (L5 l5) i4.toNat 0 (Q215 a2))),(46,.arr 1 4 ((Zi a2).length) (Q210 a2)),(Nf 51 x9.length)],[]⟩) (TmpsLe.refl _) (.same (.same (.arr (J2 (fun _=>rfl) rfl) (.same (.same .nil)))))) ?_;refine Kw (st':=⟨(Q201 a3 a2 x2 l5 i4 x9),[(Ly 67 (L6 a2)),(Nf 35 x2.length),(37,.arr 1 81 l5.length (F6 (L5 l5) i4.toNat 0 (Q215 a2))),(46,.arr 1 4 ((Zi a2).length) (Q210 a2)),(Nf 51 x9.length)],[]⟩) (Le.trans (Le.trans (Ca (st':=⟨(Q201 a3 a2 x2 l5 i4 x9),[(Ly 67 (L6 a2)),(Nf 35 x2.length),(37,.arr 1 81 l5.length (fun i_=>AV.eraseAll Zj ((F6 (L5 l5) i4.toNat 0 (Q215 a2)) i_))),(46,.arr 1 4 ((Zi a2).length) (Q210 a2)),(Nf 51 x9.length)],[]⟩) [1,2,5,6,7,8,9,10] [2,35,37,46,51] hq) (H3 (st':=⟨(Q201 a3 a2 x2 l5 i4 x9),[(Ly 67 (L6 a2)),(Nf 35 x2.length),(37,.arr 1 81 l5.length (F6 (L5 l5) i4.toNat 0 (Q215 a2))),(46,.arr 1 4 ((Zi a2).length) (Q210 a2)),(Nf 51 x9.length)],[]⟩) (TmpsLe.refl _) (.same (.same (.arr (J2 (fun _=>rfl) rfl) (.same (.same .nil))))))) (Id (by kernel_rfl))) ?_;obtain⟨x17,hx17,h⟩:=bind_some h;refine gL0 hx17 (fun u (i10,l11)=>(Dx u [(10,(Z6 i10))] [(Z65 l5.length (L5 l5) i4.toNat l11.length),(46,.arr 1 4 l11.length (Q218 l11))])) (fun u l12=>aG Γ (.exit 2) (⟨(Q200 a3 a2 x2 l5 i4),[(Ly 67 (L6 a2)),(Nf 35 x2.length),(Z65 l5.length (L5 l5) i4.toNat l12.length),(Z9 46 l12)],[]⟩:St)) ?_ ?_
    ·rintro⟨i10,l11⟩ y h;unfold Cn at h;refine Ag hq [1,2,5,6,7,8,9,10,54] [2,35,37,46,51] ?_;refine Nw (⟨(Q221 a3 a2 x2 l5 i4 x9 i10),[(Ly 67 (L6 a2)),(Nf 35 x2.length),(Z30 l5.length Zj (L5 l5) i4.toNat l11.length),(46,.arr 1 4 l11.length (Q218 l11)),(Nf 51 x9.length)],[]⟩:St) ?_;refine Kw (H3 (st':=⟨(Q221 a3 a2 x2 l5 i4 x9 i10),[(Ly 67 (L6 a2)),(Nf 35 x2.length),(Z65 l5.length (L5 l5) i4.toNat l11.length),(46,.arr 1 4 l11.length (Q218 l11)),(Nf 51 x9.length)],[]⟩) (TmpsLe.refl _) (.same (.same (.arr (J2 (fun _=>rfl) rfl) (.same (.same .nil)))))) ?_;refine gC h (fun h=>?_) (fun h=>?_)
     ·obtain⟨hc13,h⟩:=Aa h;obtain⟨hc14,h⟩:=Aa h;obtain⟨hc15,h⟩:=Aa h;obtain⟨hc16,h⟩:=Aa h;refine gR hq [1,2,5,6,7,8,9,10] [2,35,37,46,51] [(60,(.vsl 46 l11.length))] [] (ci hc13 (ci (Eq.refl l5.length) (ci (show(AVle (((F6 (L5 l5) i4.toNat 0 [(.vsl 46 l11.length)]) i4.toNat).getD 0 .any) (.vsl 46 l11.length)) from lent_load) (ci hc14 (ci (gI ((x2.getD i10.toNat false)==true)) (ci (gI ((x2.getD i10.toNat false)==true)) (ci hc15 (ci (gI ((x2.getD i10.toNat false)==true)) (ci (gI ((x2.getD i10.toNat false)==true)) (ci (L2 (x2.getD i10.toNat false)) (ci hc16 (c1 (Eq.refl l11.length))))))))))))) ?_;refine Nw (⟨(Q204 a3 a2 x2 l5 i4 x9 i10),[(Ly 67 (L6 a2)),(Nf 35 x2.length),(Z30 l5.length Zj (L5 l5) i4.toNat l11.length),(46,.arr 1 4 l11.length (fun i_=>AV.eraseAll Zj ((F6 (Q218 l11) i10.toNat 0 [(.bool (bif (x2.getD i10.toNat false) then(!(x9.getD i10.toNat false)) else false))]) i_))),(Nf 51 x9.length)],[]⟩:St) ?_;refine Kw (Le.trans (Le.trans (H3 (st':=⟨(Q204 a3 a2 x2 l5 i4 x9 i10),[(Ly 67 (L6 a2)),(Nf 35 x2.length),(Z30 l5.length Zj (L5 l5) i4.toNat l11.length),(46,.arr 1 4 l11.length (Q211 l11 i10 x2 x9)),(Nf 51 x9.length)],[]⟩) (TmpsLe.refl _) (.same (.same (.same (.arr (Bu (List.length_set ..).symm (fun k_ hk_=>(congrArg (AV.eraseAll Zj) ((Ht (fun _ _=>rfl) (Ix hc16) rfl) k_ hk_)).trans rfl)) (.same .nil)))))) (Id (congrArg (fun k_:Nat=>(⟨(Q204 a3 a2 x2 l5 i4 x9 i10),[(Ly 67 (L6 a2)),(Nf 35 x2.length),(Z30 l5.length Zj (L5 l5) i4.toNat k_),(46,.arr 1 4 k_ (Q211 l11 i10 x2 x9)),(Nf 51 x9.length)],[]⟩:St)) (show l11.length=(Yn l11 i10 x2 x9).length from(List.length_set ..).symm)))) (H3 (st':=⟨(Q204 a3 a2 x2 l5 i4 x9 i10),[(Ly 67 (L6 a2)),(Nf 35 x2.length),(37,.arr 1 81 l5.length (F6 (L5 l5) i4.toNat 0 [(.vsl 46 (Yn l11 i10 x2 x9).length)])),(46,.arr 1 4 ((Yn l11 i10 x2 x9).length) (Q211 l11 i10 x2 x9)),(Nf 51 x9.length)],[]⟩) (TmpsLe.refl _) (.same (.same (.arr (J2 (fun _=>rfl) rfl) (.same (.same .nil))))))) ?_;refine Ag hq [1,2,5,6,7,8,9,10] [2,35,37,46,51] ?_;refine Nw (⟨(Q203 a3 a2 x2 l5 i4 x9 i10),[(Ly 67 (L6 a2)),(Nf 35 x2.length),(37,.arr 1 81 l5.length (fun i_=>AV.eraseAll Zj ((F6 (L5 l5) i4.toNat 0 [(.vsl 46 (Yn l11 i10 x2 x9).length)]) i_))),(46,.arr 1 4 ((Yn l11 i10 x2 x9).length) (Q211 l11 i10 x2 x9)),(Nf 51 x9.length)],[]⟩:St) ?_;cases h;exact gN (Le.trans (H3 (st':=⟨(Q203 a3 a2 x2 l5 i4 x9 i10),[(Ly 67 (L6 a2)),(Nf 35 x2.length),(37,.arr 1 81 l5.length (F6 (L5 l5) i4.toNat 0 [(.vsl 46 (Yn l11 i10 x2 x9).length)])),(46,.arr 1 4 ((Yn l11 i10 x2 x9).length) (Q211 l11 i10 x2 x9)),(Nf 51 x9.length)],[]⟩) (TmpsLe.refl _) (.same (.same (.arr (J2 (fun _=>rfl) rfl) (.same (.same .nil)))))) (Le.trans (Le.trans (Ca (st':=⟨(Q203 a3 a2 x2 l5 i4 x9 i10),[(Ly 67 (L6 a2)),(Nf 35 x2.length),(37,.arr 1 81 l5.length (fun i_=>AV.eraseAll Zj ((F6 (L5 l5) i4.toNat 0 [(.vsl 46 (Yn l11 i10 x2 x9).length)]) i_))),(46,.arr 1 4 ((Yn l11 i10 x2 x9).length) (Q211 l11 i10 x2 x9)),(Nf 51 x9.length)],[]⟩) [1,2,5,6,7,8,9,10] [2,35,37,46,51] hq) (H3 (st':=⟨(Q203 a3 a2 x2 l5 i4 x9 i10),[(Ly 67 (L6 a2)),(Nf 35 x2.length),(37,.arr 1 81 l5.length (F6 (L5 l5) i4.toNat 0 [(.vsl 46 (Yn l11 i10 x2 x9).length)])),(46,.arr 1 4 ((Yn l11 i10 x2 x9).length) (Q211 l11 i10 x2 x9)),(Nf 51 x9.length)],[]⟩) (TmpsLe.refl _) (.same (.same (.arr (J2 (fun _=>rfl) rfl) (.same (.same .nil))))))) (Id (by kernel_rfl))))
     ·cases h;exact gO (Br (Le.trans (Le.trans (Ca (st':=⟨(Q200 a3 a2 x2 l5 i4),[(Ly 67 (L6 a2)),(Nf 35 x2.length),(Z30 l5.length Q217 (L5 l5) i4.toNat l11.length),(46,.arr 1 4 l11.length (Q218 l11))],[]⟩) [1,2,5,6,7,8] [2,35,37,46] hq) (H3 (st':=⟨(Q200 a3 a2 x2 l5 i4),[(Ly 67 (L6 a2)),(Nf 35 x2.length),(Z65 l5.length (L5 l5) i4.toNat l11.length),(46,.arr 1 4 l11.length (Q218 l11))],[]⟩) (TmpsLe.refl _) (.same (.same (.arr (J2 (fun _=>rfl) rfl) (.same .nil)))))) (Id (by kernel_rfl))))
    ·clear hx17;refine gA ?_;refine Ag hq [1,2,5,6,7,8] [2,35,37,46] ?_;refine Nw (⟨(Q206 a3 a2 x2 l5 i4),[(Ly 67 (L6 a2)),(Nf 35 x2.length),(Z30 l5.length Q217 (L5 l5) i4.toNat x17.length),(Z9 46 x17)],[]⟩:St) ?_;cases h;exact gN (Le.trans (Le.trans (H3 (st':=⟨(Q206 a3 a2 x2 l5 i4),[(Ly 67 (L6 a2)),(Nf 35 x2.length),(Z65 l5.length (L5 l5) i4.toNat x17.length),(Z9 46 x17)],[]⟩) (TmpsLe.refl _) (.same (.same (.arr (J2 (fun _=>rfl) rfl) (.same .nil))))) (Le.trans (Le.trans (Le.trans (Ie (nm:=46) (sz:=1) (n:=x17.length) (e:=4) (f:=(fun i=>eB (x17.getD i false))) (g:=(fun i=>eB (x17.getD i false))) rfl trivial (fun _ _=>rfl) (by rw[hΓ];rfl)) (Id (st':=⟨(Q206 a3 a2 x2 l5 i4),[(Ly 67 (L6 a2)),(Nf 35 x2.length),(37,.arr 1 81 l5.length (fun i_=>AV.frwAll 46 1 x17.length (fun i=>eB (x17.getD i false)) ((F6 (L5 l5) i4.toNat 0 [(.vsl 46 x17.length)]) i_))),(Nf 46 x17.length)],[]⟩) (by kernel_rfl))) (H3 (st':=⟨(Q206 a3 a2 x2 l5 i4),[(Ly 67 (L6 a2)),(Nf 35 x2.length),(37,.arr 1 81 l5.length (fun i=>eLB ((l5.set i4.toNat x17).getD i []))),(Nf 46 x17.length)],[]⟩) (TmpsLe.refl _) (.same (.same (.arr (lent_put (fun _=>rfl) (fun _=>rfl) rfl) (.same .nil)))))) (Id (congrArg (fun k_:Nat=>(⟨[(1,(Z6 a3)),Pd,(5,(Z6 (Lt a2))),(6,(Z19 x2 35)),(N9 37 k_),(8,(.int .i64 (w64 (i4+1))))],[(Ly 67 (L6 a2)),(Nf 35 x2.length),(37,.arr 1 81 k_ (fun i=>eLB ((l5.set i4.toNat x17).getD i []))),(Nf 46 x17.length)],[]⟩:St)) (show l5.length=(l5.set i4.toNat x17).length from(List.length_set ..).symm))))) (Ca [1,2,5,6,7,8] [2,35,37] hq))
   ·cases h;exact gO (Br (Ca [1,5,7] [37] hq))
  ·clear hx19;refine gA ?_;obtain⟨hc21,h⟩:=Aa h;refine gR hq [1,5,7,11] [37,75] [] [] (c1 hc21) ?_;refine Kw (Le.trans (Pv 75 (show ∀ k_,k_<((Lt a2).toNat)→AVleL ((fun i_=>AV.eraseAll Q219 ((fun _=>[Nd]) i_)) k_) ((fun i=>Ak ((List.replicate (Lt a2).toNat (0:Int)).getD i 0)) k_) from(fun k hk=>M9 (e:=Ak) (d:=(0:Int)) (.cons (AVle.refl _) .nil) _ k (Na hk)))) (Ox (fun(k_:Nat) u=>(Dx u [(11,(.vsl 75 k_))] [(75,.arr 1 3 k_ (fun i=>Ak ((List.replicate (Lt a2).toNat (0:Int)).getD i 0)))])) (show(Lt a2).toNat=(List.replicate (Lt a2).toNat (0:Int)).length from(List.length_replicate ..).symm))) ?_;refine Ag hq [1,5,7,11,12] [37,75] ?_;obtain⟨x50,hx50,h⟩:=bind_some h;refine gL hq hx50 [1,5,7,11,12] [37,75] (fun u (i22,l23)=>(Dx u [(11,(.vsl 75 l23.length)),(12,(Z6 i22))] [(Z4 75 l23)])) (fun u l24=>aG Γ (.exit 4) (⟨[(11,(.vsl 75 l24.length))],[(Z4 75 l24)],[]⟩:St)) ?_ ?_
   ·rintro⟨i22,l23⟩ y h;unfold Cq at h;refine Ag hq [1,5,7,11,12,78] [37,75] ?_;refine gC h (fun h=>?_) (fun h=>?_)
    ·obtain⟨hc25,h⟩:=Aa h;refine gR hq [1,5,7,11,12] [37,75] [] [] (ci hc25 (c1 (Eq.refl l23.length))) ?_;refine Kw (Le.trans (Pv 75 (show ∀ k_,k_<l23.length→AVleL ((fun i_=>AV.eraseAll Q219 ((F6 (fun i=>Ak (l23.getD i 0)) i22.toNat 0 [(.int .i64 (-2:Int))]) i_)) k_) ((fun i=>Ak ((Q213 l23 i22).getD i 0)) k_) from(Bu (List.length_set ..).symm (fun k_ hk_=>(congrArg (AV.eraseAll Q219) ((Ht (fun _ _=>rfl) (Ix hc25) rfl) k_ hk_)).trans rfl)))) (Ox (fun(k_:Nat) u=>(Dx u [(11,(.vsl 75 k_))] [(75,.arr 1 3 k_ (fun i=>Ak ((Q213 l23 i22).getD i 0)))])) (show l23.length=(Q213 l23 i22).length from(List.length_set ..).symm))) ?_;obtain⟨x28,hx28,h⟩:=bind_some h;refine gJ hx28 (fun l26=>aG Γ .normal (⟨[(1,(Z6 a3)),(5,(Z6 (Lt a2))),(N9 37 x19.length),(11,(.vsl 75 l26.length)),(12,(Z6 i22))],[(37,.arr 1 81 x19.length (fun i=>eLB (x19.getD i []))),(Z4 75 l26)],[]⟩:St)) ?_ ?_
     ·clear h hx28;intro y h;refine Ag hq [1,5,7,11,12,86] [37,75] ?_;refine gC h (fun h=>?_) (fun h=>?_)
      ·obtain⟨hc27,h⟩:=Aa h;refine gR hq [1,5,7,11,12] [37,75] [] [] (ci hc27 (c1 (Eq.refl ((Q213 l23 i22).length)))) ?_;cases h;exact gK (Br (Le.trans (Le.trans (Pv 75 (show ∀ k_,k_<((Q213 l23 i22).length)→AVleL ((fun i_=>AV.eraseAll Q219 ((F6 (fun i=>Ak ((Q213 l23 i22).getD i 0)) i22.toNat 0 [(.int .i64 (-1:Int))]) i_)) k_) ((fun i=>Ak (((Q213 l23 i22).set i22.toNat (-1:Int)).getD i 0)) k_) from(Bu (List.length_set ..).symm (fun k_ hk_=>(congrArg (AV.eraseAll Q219) ((Ht (fun _ _=>rfl) (Ix hc27) rfl) k_ hk_)).trans rfl)))) (Ox (fun(k_:Nat) u=>(Dx u [(11,(.vsl 75 k_))] [(75,.arr 1 3 k_ (fun i=>Ak (((Q213 l23 i22).set i22.toNat (-1:Int)).getD i 0)))])) (show(Q213 l23 i22).length=((Q213 l23 i22).set i22.toNat (-1:Int)).length from(List.length_set ..).symm))) Ct))
      ·cases h;exact gK (Br (Ca [1,5,7,11,12] [37,75] hq))
     ·clear hx28;refine gA ?_;refine Ag hq [1,5,7,11,12,13] [37,75] ?_;obtain⟨x48,hx48,h⟩:=bind_some h;refine gL hq hx48 [1,5,7,11,12,13] [37,75] (fun u (i30,l31)=>(Dx u [(11,(.vsl 75 l31.length)),(13,(Z6 i30))] [(Z4 75 l31)])) (fun u l32=>aG Γ (.exit 6) (Mj [1,5,7,11,12] [37,75] u [(11,(.vsl 75 l32.length))] [(Z4 75 l32)])) ?_ ?_
      ·rintro⟨i30,l31⟩ y h;unfold Bo at h;refine gR hq [1,5,7,11,12,13,97] [37,75] [] [] (ci (gI ((decide (i30<(Lt a2)))==true)) (ci (gI ((decide (i30<(Lt a2)))==true)) (c1 (L2 (decide (i30<(Lt a2))))))) ?_;refine gC h (fun h=>?_) (fun h=>?_)
       ·obtain⟨x46,hx46,h⟩:=bind_some h;refine gJ hx46 (fun l33=>aG Γ .normal (⟨[(1,(Z6 a3)),(5,(Z6 (Lt a2))),(N9 37 x19.length),(11,(.vsl 75 l33.length)),(12,(Z6 i22)),(13,(Z6 i30))],[(37,.arr 1 81 x19.length (fun i=>eLB (x19.getD i []))),(Z4 75 l33)],[]⟩:St)) ?_ ?_
        ·clear h hx46;intro y h;obtain⟨hc34,h⟩:=Aa h;obtain⟨hc35,h⟩:=Aa h;refine gR hq [1,5,7,11,12,13,112] [37,75] [] [] (ci (gI (Q214 i30 i22)) (ci (gI (Q214 i30 i22)) (ci hc34 (ci (gI (Q214 i30 i22)) (ci (show((Q214 i30 i22)=true→(x19.length=x19.length)) from(fun hg=>rfl)) (ci (gI (Q214 i30 i22)) (ci (gI (Q214 i30 i22)) (ci hc35 (ci (gI (Q214 i30 i22)) (ci (gI (Q214 i30 i22)) (c1 (Kb (i30==i22))))))))))))) ?_;refine gC h (fun h=>?_) (fun h=>?_)
         ·obtain rfl:=OI h;exact gK (Br (Ca [1,5,7,11,12,13] [37,75] hq))
         ·refine Ag hq [1,5,7,11,12,13,14] [37,75] ?_;refine Ag hq [1,5,7,11,12,13,14,15] [37,75] ?_;obtain⟨x43,hx43,h⟩:=bind_some h;refine gL hq hx43 [1,5,7,11,12,13,14,15] [37,75] (fun u (b36,i37)=>(Dx u [(14,(.bool b36)),(15,(Z6 i37))] [])) (fun u b38=>aG Γ (.exit 8) (Mj [1,5,7,11,12,13,14] [37,75] u [(14,(.bool b38))] [])) ?_ ?_
          ·rintro⟨b36,i37⟩ y h;unfold Cp at h;refine Ag hq [1,5,7,11,12,13,14,15,115] [37,75] ?_;refine gC h (fun h=>?_) (fun h=>?_)
           ·obtain⟨hc39,h⟩:=Aa h;obtain⟨hc40,h⟩:=Aa h;obtain⟨hc41,h⟩:=Aa h;obtain⟨hc42,h⟩:=Aa h;refine gR hq [1,5,7,11,12,13,14,15] [37,75] [] [] (ci (gI (b36==true)) (ci (gI (b36==true)) (ci (gI (b36==true)) (ci (gI (Q207 b36 i37 i22)) (ci (gI (Q207 b36 i37 i22)) (ci hc39 (ci (gI (Q207 b36 i37 i22)) (ci (show((Q207 b36 i37 i22)=true→(x19.length=x19.length)) from(fun hg=>rfl)) (ci (gI (Q207 b36 i37 i22)) (ci (gI (Q207 b36 i37 i22)) (ci hc40 (ci (gI (Q207 b36 i37 i22)) (ci (gI (Q207 b36 i37 i22)) (ci (gI (b36==true)) (ci (show((b36==true)=true→((i37==i22)=false→(Q207 b36 i37 i22)=true)) from(fun hg=>(aF hg))) (ci (gI (b36==true)) (ci (gI (Q202 b36 i37 i22 x19)) (ci (gI (Q202 b36 i37 i22 x19)) (ci hc41 (ci (gI (Q202 b36 i37 i22 x19)) (ci (show((Q202 b36 i37 i22 x19)=true→(x19.length=x19.length)) from(fun hg=>rfl)) (ci (gI (Q202 b36 i37 i22 x19)) (ci (gI (Q202 b36 i37 i22 x19)) (ci hc42 (ci (gI (Q202 b36 i37 i22 x19)) (ci (gI (b36==true)) (ci (show((b36==true)=true→((bif (i37==i22) then true else(!((x19.getD i37.toNat []).getD i22.toNat false)))=false→(Q202 b36 i37 i22 x19)=true)) from(fun hg=>(aF hg))) (c1 (L2 b36))))))))))))))))))))))))))))) ?_;refine Ag hq [1,5,7,11,12,13,14,15] [37,75] ?_;cases h;exact gN Ct
           ·cases h;exact gO (Br (Ca [1,5,7,11,12,13,14] [37,75] hq))
          ·clear hx43;refine gA ?_;refine Ag hq [1,5,7,11,12,13,143] [37,75] ?_;refine gC h (fun h=>?_) (fun h=>?_)
           ·obtain⟨hc45,h⟩:=Aa h;refine gR hq [1,5,7,11,12,13] [37,75] [] [] (ci hc45 (c1 (Eq.refl l31.length))) ?_;cases h;exact gK (Br (Le.trans (Le.trans (Pv 75 (show ∀ k_,k_<l31.length→AVleL ((fun i_=>AV.eraseAll Q219 ((F6 (fun i=>Ak (l31.getD i 0)) i22.toNat 0 [(Z6 i30)]) i_)) k_) ((fun i=>Ak ((l31.set i22.toNat i30).getD i 0)) k_) from(Bu (List.length_set ..).symm (fun k_ hk_=>(congrArg (AV.eraseAll Q219) ((Ht (fun _ _=>rfl) (Ix hc45) rfl) k_ hk_)).trans rfl)))) (Ox (fun(k_:Nat) u=>(Dx u [(11,(.vsl 75 k_))] [(75,.arr 1 3 k_ (fun i=>Ak ((l31.set i22.toNat i30).getD i 0)))])) (show l31.length=(l31.set i22.toNat i30).length from(List.length_set ..).symm))) Ct))
           ·obtain rfl:=OI h;exact gK (Br (Ca [1,5,7,11,12,13] [37,75] hq))
        ·clear hx46;refine gA ?_;refine Ag hq [1,5,7,11,12,13] [37,75] ?_;cases h;exact gN Ct
       ·cases h;exact gO (Br (Ca [1,5,7,11,12] [37,75] hq))
      ·clear hx48;refine gA ?_;refine Ag hq [1,5,7,11,12] [37,75] ?_;cases h;exact gN Ct
    ·cases h;exact gO (Br (Ca [11] [75] hq))
   ·clear hx50;refine gA ?_;refine Ag hq [4] [75] ?_;refine Nw (⟨[(4,(.vsl 75 x50.length))],[(Z4 75 x50)],[]⟩:St) ?_;obtain rfl:=OI h;exact gK (e:=.ret) (I4 [(75,20000)] (Le.trans (Ie (nm:=75) (sz:=1) (n:=x50.length) (e:=3) (f:=(fun i=>Ak (x50.getD i 0))) (g:=(fun i=>Ak (x50.getD i 0))) rfl ⟨rfl,trivial⟩ (fun _ _=>rfl) (by rw[hΓ];rfl)) (Id (st':=(Z64 x50 75 x50.length)) (by kernel_rfl))))
def B1(a6:List Int):(Int×List Int)→Option (LR (Int×List Int) (Unit ⊕ List Int)):=
 fun((i1,l2):(Int×List Int))=>(bif (bif (bif (decide (((l2.length:Int):Int)<(a6.length:Int))) then(decide (((0:Int):Int)≤i1)) else false) then(decide (i1<(a6.length:Int))) else false) then(Ba (l2.length+([i1]:List Int).length≤room) (Ba (Bb i1 a6.length) (bif (((a6.getD i1.toNat 0):Int)==-1) then(some (.done (.inr (l2++([i1]:List Int))))) else(Ba (Bb i1 a6.length) (some (.next ((a6.getD i1.toNat 0),(l2++([i1]:List Int))))))))) else(some (.done (.inl ()))))
def Sq(Γ:H0)(a6:List Int)(aD:Int)(r:List Int):Exit→St→Prop:=fK Tryz.prog Γ Tryz.f46.results.toList [] (Z13 r 20000) [(20000,.tok 1 3 r.length)]
def Q223:AV:=Z16
def Q222(l2:List Int)(a6:List Int)(i1:Int):=(bif (decide (((l2.length:Int):Int)<(a6.length:Int))) then(decide (((0:Int):Int)≤i1)) else false)
def Q225:=(Z24:St)
def Q224(a6:List Int)(aD:Int):=(⟨[(0,(Z7 a6)),(1,(Z6 aD)),(5,(AV.list 1 Ak 0 ([]:List Int) (.own 5005)))],[(5005,.tok 1 3 (([]:List Int).length))],[]⟩:St)
def Em(a6:List Int)(aD:Int):Option (List Int):=
 ((Ah (B1 a6) (aD,([]:List Int))).bind (fun x6=>(match x6 with|(.inl _)=>(some ([]:List Int))|(.inr r8)=>(some r8))))
theorem J6(a6:List Int)(aD:Int)(r:List Int)(h:Em a6 aD=some r):Spec Tryz.prog 46 [(AV.list 1 Ak 0 a6 .none),(.int .i64 aD)] [] (AV.list 1 Ak 0 r (.own 20000)) [(20000,.tok 1 3 r.length)]:=by
 refine Ae mix Tryz.func46 (fun Γ hq=>?_);unfold Em at h;refine gR hq [0,1] [] [(4,Q223)] [] (c1 (Et 1 Ak (0:Int))) ?_;refine gR hq [0,1,5] [] [(5,Q223)] [] (c1 (Et 1 Ak (0:Int))) ?_;refine Kw (st':=(Q224 a6 aD)) (Le.trans (Ca (st':=⟨[(0,(Z7 a6)),(1,(Z6 aD)),(5,Q223)],[],[]⟩) [0,1,5] [] hq) (Le.trans (Od (t:=5) (nm:=5005) (sz':=1) (fun i=>Ak (([]:List Int).getD i 0)) 3 rfl rfl (.inl ⟨rfl,rfl⟩) (fun h_=>absurd h_ (by decide))) (Ca (st':=(Q224 a6 aD)) [0,1,5] [5005] hq))) ?_;obtain⟨x6,hx6,h⟩:=bind_some h;refine gL hq hx6 [0,1,5] [5005] (fun u (i1,l2)=>(Dx u [(1,(Z6 i1)),(5,(Z13 l2 5005))] [(5005,.tok 1 3 l2.length)])) (fun u x_=>match x_ with|(.inl _)=>aG Γ (.exit 0) (⟨[],[],[]⟩:St)|(.inr r_)=>aR (Sq Γ a6 aD r_)) ?_ ?_
 ·rintro⟨i1,l2⟩ y h;unfold B1 at h;refine gR hq [0,1,5,20] [5005] [] [] (ci (gI ((decide (((l2.length:Int):Int)<(a6.length:Int)))==true)) (ci (L2 (decide (((l2.length:Int):Int)<(a6.length:Int)))) (ci (gI ((Q222 l2 a6 i1)==true)) (ci (gI ((Q222 l2 a6 i1)==true)) (ci (gI ((Q222 l2 a6 i1)==true)) (c1 (L2 (Q222 l2 a6 i1)))))))) ?_;refine gC h (fun h=>?_) (fun h=>?_)
  ·obtain⟨hc3,h⟩:=Aa h;refine gR hq [0,1,5] [5005] [(23,(Z20 i1)),(24,(AV.list 1 Ak 0 (l2++([i1]:List Int)) (.own 5005)))] [] (ci (B8 1 Ak (0:Int) ([i1]:List Int)) (ci (Eq.refl l2.length) (ci hc3 (ci (J7 1 5005 Ak (0:Int) l2 ([i1]:List Int)) (c1 (Gi l2 ([i1]:List Int))))))) ?_;obtain⟨hc4,h⟩:=Aa h;refine gR hq [0,1,5,29] [5005] [] [] (c1 hc4) ?_;refine gC h (fun h=>?_) (fun h=>?_)
   ·refine Ag hq [4] [5005] ?_;cases h;exact gO (La (I4 [(5005,20000)] (Le.refl _ _)))
   ·obtain⟨hc5,h⟩:=Aa h;refine gR hq [0,1,5] [5005] [] [] (c1 hc5) ?_;cases h;exact gN Ct
  ·cases h;exact gO (Br (Ca [] [] hq))
 ·clear hx6;rcases x6 with _|r8
  ·refine gA ?_;refine gR hq [4] [] [(4,Q223)] [] (c1 (Et 1 Ak (0:Int))) ?_;refine Nw (⟨[(4,Q223)],[],[]⟩:St) ?_;cases h;exact gK (e:=.ret) (I4 [(6004,20000)] (show Le Γ _ Q225 from Le.trans (Ca (st':=⟨[(4,Q223)],[],[]⟩) [4] [] hq) (Le.trans (Od (t:=4) (nm:=6004) (sz':=1) (fun i=>Ak (([]:List Int).getD i 0)) 3 rfl rfl (.inl ⟨rfl,rfl⟩) (fun h_=>absurd h_ (by decide))) (Ca (st':=Q225) [4] [6004] hq))))
  ·refine Mr (fun st' hk=>?_);obtain rfl:=OI h;exact gK hk
def Bh(a6:List Int):(Int×Int)→Option (LR (Int×Int) (Int ⊕ Bool)):=
 fun((i1,i2):(Int×Int))=>(bif (decide (i2<(a6.length:Int))) then(Option.bind (α:=Int) (Ba (Bb i2 a6.length) (bif (((a6.getD i2.toNat 0):Int)==-1) then(some (w64 (i1+1))) else(some i1))) (fun x6=>(Ba (Bb i2 a6.length) ((bif ((((a6.getD i2.toNat 0):Int)!=-2)==true) then Em a6 i2 else some []).bind fun x9=>(bif (bif (((a6.getD i2.toNat 0):Int)!=-2) then(((x9.length:Int):Int)==0) else false) then(some (.done (.inr false))) else(some (.next (x6,(w64 (i2+1)))))))))) else(some (.done (.inl i1))))
def Rz(Γ:H0)(a6:List Int)(r:Bool):Exit→St→Prop:=fK Tryz.prog Γ Tryz.f45.results.toList [] (.bool r) []
def Q226(a6:List Int)(i2:Int):=(((a6.getD i2.toNat 0):Int)!=-2)
def Gq(a6:List Int):Option Bool:=
 ((Ah (Bh a6) ((0:Int),(0:Int))).bind (fun x10=>(match x10 with|(.inl i3)=>(some (i3==1))|(.inr r12)=>(some r12))))
theorem Qx(a6:List Int)(r:Bool)(h:Gq a6=some r):Spec Tryz.prog 45 [(AV.list 1 Ak 0 a6 .none)] [] (.bool r) []:=by
 refine Ae mix Tryz.func45 (fun Γ hq=>?_);unfold Gq at h;refine Ag hq [0] [] ?_;refine Ag hq [0,3] [] ?_;refine Ag hq [0,3,4] [] ?_;obtain⟨x10,hx10,h⟩:=bind_some h;refine gL hq hx10 [0,3,4] [] (fun u (i1,i2)=>(Dx u [(3,(Z6 i1)),(4,(Z6 i2))] [])) (fun u x_=>match x_ with|(.inl i3)=>aG Γ (.exit 0) (⟨[(3,(Z6 i3))],[],[]⟩:St)|(.inr r_)=>aR (Rz Γ a6 r_)) ?_ ?_
 ·rintro⟨i1,i2⟩ y h;unfold Bh at h;refine Ag hq [0,3,4,8] [] ?_;refine gC h (fun h=>?_) (fun h=>?_)
  ·obtain⟨x6,hx6,h⟩:=bind_some h;refine gJ hx6 (fun i4=>aG Γ .normal (⟨[(0,(Z7 a6)),(3,(Z6 i4)),(4,(Z6 i2))],[],[]⟩:St)) ?_ ?_
   ·clear h hx6;intro y h;obtain⟨hc5,h⟩:=Aa h;refine gR hq [0,3,4,15] [] [] [] (c1 hc5) ?_;refine gC h (fun h=>?_) (fun h=>?_)
    ·refine Ag hq [0,3,4] [] ?_;cases h;exact gK (Br Ct)
    ·obtain rfl:=OI h;exact gK (Br (Ca [0,3,4] [] hq))
   ·clear hx6;refine gA ?_;obtain⟨hc8,h⟩:=Aa h;obtain⟨x9,hx9,h⟩:=bind_some h;refine gR hq [0,3,4,29] [] [] [⟨[],[],(Z7 x9),[],[]⟩] (ci hc8 (ci (gI ((Q226 a6 i2)==true)) (ci (gI ((Q226 a6 i2)==true)) (ci (show(((Q226 a6 i2)==true)=true→(Spec Tryz.prog 46 [(Z7 a6),(Z6 i2)] [] (Z7 x9) [])) from(fun hg=>(Spec.drop (J6 a6 i2 x9 (Bw hg hx9))))) (ci (gI ((Q226 a6 i2)==true)) (ci (gI ((Q226 a6 i2)==true)) (c1 (L2 (Q226 a6 i2))))))))) ?_;refine gC h (fun h=>?_) (fun h=>?_)
    ·refine Ag hq [2] [] ?_;cases h;exact gO (La (I4 [] (Le.refl _ _)))
    ·refine Ag hq [0,3,4] [] ?_;cases h;exact gN Ct
  ·cases h;exact gO (Br (Ca [3] [] hq))
 ·clear hx10;rcases x10 with i3|r12
  ·refine gA ?_;refine Ag hq [2] [] ?_;cases h;exact C7 []
  ·refine Mr (fun st' hk=>?_);obtain rfl:=OI h;exact gK hk
def A7(x2:List Int)(x3:List Int):Int→Option (LR Int (Unit ⊕ Int)):=
 fun(i4:Int)=>(bif (decide (i4<(x2.length:Int))) then(Ba (Bb i4 x2.length) ((E5 x3 (x2.getD i4.toNat 0)).bind fun x6=>(bif x6 then(Ba (Bb i4 x2.length) (some (.done (.inr (x2.getD i4.toNat 0))))) else(some (.next (w64 (i4+1))))))) else(some (.done (.inl ()))))
def Sp(Γ:H0)(a6:List Int)(aD:Int)(aH:Int)(r:Int):Exit→St→Prop:=fK Tryz.prog Γ Tryz.f28.results.toList [] (.int .i64 r) []
def Hc(a6:List Int)(aD:Int)(aH:Int):Option Int:=
 ((Gq a6).bind fun x1=>(bif (!x1) then(some (-2:Int)) else((Em a6 aD).bind fun x2=>((Em a6 aH).bind fun x3=>((Ah (A7 x2 x3) (0:Int)).bind (fun x8=>(match x8 with|(.inl _)=>(some (-2:Int))|(.inr r10)=>(some r10))))))))
theorem Sd(a6:List Int)(aD:Int)(aH:Int)(r:Int)(h:Hc a6 aD aH=some r):Spec Tryz.prog 28 [(AV.list 1 Ak 0 a6 .none),(.int .i64 aD),(.int .i64 aH)] [] (.int .i64 r) []:=by
 refine Ae mix Tryz.func28 (fun Γ hq=>?_);unfold Hc at h;refine Ag hq [0,1,2] [] ?_;obtain⟨x1,hx1,h⟩:=bind_some h;refine gR hq [0,1,2,12] [] [] [(Z2 x1)] (c1 (Qx a6 x1 hx1)) ?_;refine gC h (fun h=>?_) (fun h=>?_)
 ·refine Ag hq [6] [] ?_;cases h;exact C7 []
 ·obtain⟨x2,hx2,h⟩:=bind_some h;refine gR hq [0,2,7] [15] [] [(Z38 15 x2 x2.length)] (c1 (J6 a6 aD x2 hx2)) ?_;obtain⟨x3,hx3,h⟩:=bind_some h;refine gR hq [7,8] [15,18] [] [(Z38 18 x3 x3.length)] (c1 (J6 a6 aH x3 hx3)) ?_;refine Ag hq [7,8,9] [15,18] ?_;obtain⟨x8,hx8,h⟩:=bind_some h;refine gL hq hx8 [7,8,9] [15,18] (fun u i4=>(Dx u [(9,(Z6 i4))] [])) (fun u x_=>match x_ with|(.inl _)=>aG Γ (.exit 0) (⟨[],[],[]⟩:St)|(.inr r_)=>aR (Sp Γ a6 aD aH r_)) ?_ ?_
  ·intro i4 y h;unfold A7 at h;refine Ag hq [7,8,9,22] [15,18] ?_;refine gC h (fun h=>?_) (fun h=>?_)
   ·obtain⟨hc5,h⟩:=Aa h;obtain⟨x6,hx6,h⟩:=bind_some h;refine gR hq [7,8,9,30] [15,18] [] [(Z2 x6)] (ci hc5 (c1 (Kp x3 (x2.getD i4.toNat 0) x6 hx6))) ?_;refine gC h (fun h=>?_) (fun h=>?_)
    ·obtain⟨hc7,h⟩:=Aa h;refine gR hq [6] [] [] [] (c1 hc7) ?_;cases h;exact gO (La (I4 [] (Le.refl _ _)))
    ·refine Ag hq [7,8,9] [15,18] ?_;cases h;exact gN Ct
   ·cases h;exact gO (Br (Ca [] [] hq))
  ·clear hx8;rcases x8 with _|r10
   ·refine gA ?_;refine Ag hq [6] [] ?_;cases h;exact C7 []
   ·refine Mr (fun st' hk=>?_);obtain rfl:=OI h;exact gK hk
def Dz(x4:List Bk):Int→Option (LR Int (Unit ⊕ Int)):=
 fun(i5:Int)=>(bif (decide (i5<(x4.length:Int))) then(Ba (Bb i5 x4.length) ((D5 ((x4.getD i5.toNat default).V)).bind fun x7=>(Ba (((!x7)==false)=true→(Bb i5 x4.length)) ((bif ((!x7)==false) then Dq x4 ((x4.getD i5.toNat default).V) else some (0:Int)).bind fun x9=>(bif (bif (!x7) then true else(x9 !=i5)) then(some (.done (.inr (7:Int)))) else(some (.next (w64 (i5+1))))))))) else(some (.done (.inl ()))))
def C1(x4:List Bk)(x12:List Bz):Int→Option (LR Int (Unit ⊕ Int)):=
 fun(i13:Int)=>(bif (decide (i13<(x12.length:Int))) then(Ba (Bb i13 x12.length) ((Dq x4 ((x12.getD i13.toNat default).V)).bind fun x15=>(bif (decide (x15<0)) then(some (.done (.inr (7:Int)))) else(some (.next (w64 (i13+1))))))) else(some (.done (.inl ()))))
def C2(x4:List Bk)(x12:List Bz):Int→Option (LR Int (Unit ⊕ Int)):=
 fun(i18:Int)=>(bif (decide (i18<(x12.length:Int))) then(Ba (Bb i18 x12.length) ((Dq x4 ((x12.getD i18.toNat default).V)).bind fun x20=>(Ba (Bb x20 x4.length) (Ba (Bb i18 x12.length) (bif (!((((x4.getD x20.toNat default).Shape.1:Int)==(x12.getD i18.toNat default).Shape.1)&&((((x4.getD x20.toNat default).Shape.2:Int)==(x12.getD i18.toNat default).Shape.2)&&true))) then(some (.done (.inr (6:Int)))) else(some (.next (w64 (i18+1))))))))) else(some (.done (.inl ()))))
def Ce(x4:List Bk)(x12:List Bz)(x26:List Int):Int→Option (LR Int (Unit ⊕ Int)):=
 fun(i27:Int)=>(bif (decide (i27<(x12.length:Int))) then(Option.bind (α:=(Unit ⊕ Int)) (Ba (Bb i27 x12.length) ((Dq x4 ((x12.getD i27.toNat default).V)).bind fun x29=>(Ba (Bb x29 x4.length) (bif (bif (decide (((x4.getD x29.toNat default).Block:Int)<0)) then true else(bif (((x4.getD x29.toNat default).Block:Int)==(x12.getD i27.toNat default).Block) then(decide (((x4.getD x29.toNat default).At:Int)<(x12.getD i27.toNat default).At)) else false)) then(some (.inl ())) else((bif ((((x4.getD x29.toNat default).Block:Int)==(x12.getD i27.toNat default).Block)==false) then Hc x26 ((x4.getD x29.toNat default).Block) ((x12.getD i27.toNat default).Block) else some (0:Int)).bind fun x31=>(bif (bif (((x4.getD x29.toNat default).Block:Int)==(x12.getD i27.toNat default).Block) then true else(x31 !=(x4.getD x29.toNat default).Block)) then(some (.inr (7:Int))) else(some (.inl ())))))))) (fun x32=>(match x32 with|(.inl _)=>(some (.next (w64 (i27+1))))|(.inr r34)=>(some (.done (.inr r34)))))) else(some (.done (.inl ()))))
def Gj(Γ:H0)(a0:Ab)(a3:Int)(r:Int):Exit→St→Prop:=fK Tryz.prog Γ Tryz.f11.results.toList [] (.int .i64 r) []
def Yo(x4:List Bk)(x29:Int):=((decide (((x4.getD x29.toNat default).Block:Int)<0))==false)
def Ut(x4:List Bk)(x29:Int)(x12:List Bz)(i27:Int):=(((x4.getD x29.toNat default).Block:Int)==(x12.getD i27.toNat default).Block)
def D6(a0:Ab)(a3:Int):Option Int:=
 (bif (bif (decide (a3<0)) then true else(decide (((2:Int):Int)<a3))) then(some (1:Int)) else((Ge a0).bind fun x1=>(bif (!x1) then(some (4:Int)) else((Gr a0).bind fun x2=>(bif (!x2) then(some (5:Int)) else((Gs a0 a3).bind fun x3=>(bif (!x3) then(some (6:Int)) else((He a0).bind fun x4=>((Ah (Dz x4) (0:Int)).bind (fun x10=>(match x10 with|(.inl _)=>((Hg a0).bind fun x12=>((Ah (C1 x4 x12) (0:Int)).bind (fun x16=>(match x16 with|(.inl _)=>((Ah (C2 x4 x12) (0:Int)).bind (fun x23=>(match x23 with|(.inl _)=>((G1 a0).bind fun x25=>((Hd x25.1 (0:Int)).bind fun x26=>((Ah (Ce x4 x12 x26) (0:Int)).bind (fun x35=>(match x35 with|(.inl _)=>(some (0:Int))|(.inr r37)=>(some r37))))))|(.inr r38)=>(some r38))))|(.inr r39)=>(some r39)))))|(.inr r40)=>(some r40))))))))))))
theorem Qy(a0:Ab)(a3:Int)(r:Int)(h:D6 a0 a3=some r):Spec Tryz.prog 11 [(.agg (L9 a0)),(.int .i64 a3)] [] (.int .i64 r) []:=by
 refine Ae mix Tryz.func11 (fun Γ hq=>?_);unfold D6 at h;refine Ag hq [1,2] [2] ?_;refine gR hq [1,2,21] [2] [] [] (ci (gI ((decide (a3<0))==false)) (c1 (Kb (decide (a3<0))))) ?_;refine gC h (fun h=>?_) (fun h=>?_)
 ·refine Ag hq [4] [] ?_;cases h;exact C7 []
 ·obtain⟨x1,hx1,h⟩:=bind_some h;refine gR hq [1,2,24] [2] [] [(Z2 x1)] (c1 (Ti a0 x1 hx1)) ?_;refine gC h (fun h=>?_) (fun h=>?_)
  ·refine Ag hq [4] [] ?_;cases h;exact C7 []
  ·obtain⟨x2,hx2,h⟩:=bind_some h;refine gR hq [1,2,27] [2] [] [(Z2 x2)] (c1 (Qz a0 x2 hx2)) ?_;refine gC h (fun h=>?_) (fun h=>?_)
   ·refine Ag hq [4] [] ?_;cases h;exact C7 []
   ·obtain⟨x3,hx3,h⟩:=bind_some h;refine gR hq [2,31] [2] [] [(Z2 x3)] (c1 (Q0 a0 a3 x3 hx3)) ?_;refine gC h (fun h=>?_) (fun h=>?_)
    ·refine Ag hq [4] [] ?_;cases h;exact C7 []
    ·obtain⟨x4,hx4,h⟩:=bind_some h;refine gR hq [2,5] [2,33] [] [⟨[],[(20000,33)],(AV.list 5 L1 default x4 (.own 20000)),[(Nv 20000 37 x4.length)],[]⟩] (c1 (Sf a0 x4 hx4)) ?_;refine Ag hq [2,5,6] [2,33] ?_;obtain⟨x10,hx10,h⟩:=bind_some h;refine gL hq hx10 [2,5,6] [2,33] (fun u i5=>(Dx u [(6,(Z6 i5))] [])) (fun u x_=>match x_ with|(.inl _)=>aG Γ (.exit 0) (Mj [2,5] [2,33] u [] [])|(.inr r_)=>aR (Gj Γ a0 a3 r_)) ?_ ?_
     ·intro i5 y h;unfold Dz at h;refine Ag hq [2,5,6,37] [2,33] ?_;refine gC h (fun h=>?_) (fun h=>?_)
      ·obtain⟨hc6,h⟩:=Aa h;obtain⟨x7,hx7,h⟩:=bind_some h;obtain⟨hc8,h⟩:=Aa h;obtain⟨x9,hx9,h⟩:=bind_some h;refine gR hq [2,5,6,57] [2,33] [] [(Z2 x7),(Z33 x9)] (ci hc6 (ci (Jn ((x4.getD i5.toNat default).V) x7 hx7) (ci (gI ((!x7)==false)) (ci (gI ((!x7)==false)) (ci hc8 (ci (gI ((!x7)==false)) (ci (gI ((!x7)==false)) (ci (gI ((!x7)==false)) (ci (gI ((!x7)==false)) (ci (fun(hg:((!x7)==false)=true)=>(Ib x4 ((x4.getD i5.toNat default).V) x9 (Bw hg hx9))) (ci (gI ((!x7)==false)) (ci (gI ((!x7)==false)) (c1 (Kb (!x7))))))))))))))) ?_;refine gC h (fun h=>?_) (fun h=>?_)
       ·refine Ag hq [4] [] ?_;cases h;exact gO (La (I4 [] (Le.refl _ _)))
       ·refine Ag hq [2,5,6] [2,33] ?_;cases h;exact gN Ct
      ·cases h;exact gO (Br (Ca [2,5] [2,33] hq))
     ·clear hx10;rcases x10 with _|r40
      ·refine gA ?_;obtain⟨x12,hx12,h⟩:=bind_some h;refine gR hq [2,5,7] [2,33,59] [] [⟨[],[(20000,59)],(AV.list 5 Lj default x12 (.own 20000)),[(Nv 20000 64 x12.length)],[]⟩] (c1 (Sg a0 x12 hx12)) ?_;refine Ag hq [2,5,7,8] [2,33,59] ?_;obtain⟨x16,hx16,h⟩:=bind_some h;refine gL hq hx16 [2,5,7,8] [2,33,59] (fun u i13=>(Dx u [(8,(Z6 i13))] [])) (fun u x_=>match x_ with|(.inl _)=>aG Γ (.exit 2) (Mj [2,5,7] [2,33,59] u [] [])|(.inr r_)=>aR (Gj Γ a0 a3 r_)) ?_ ?_
       ·intro i13 y h;unfold C1 at h;refine Ag hq [2,5,7,8,63] [2,33,59] ?_;refine gC h (fun h=>?_) (fun h=>?_)
        ·obtain⟨hc14,h⟩:=Aa h;obtain⟨x15,hx15,h⟩:=bind_some h;refine gR hq [2,5,7,8,73] [2,33,59] [] [(Z33 x15)] (ci hc14 (c1 (Ib x4 ((x12.getD i13.toNat default).V) x15 hx15))) ?_;refine gC h (fun h=>?_) (fun h=>?_)
         ·refine Ag hq [4] [] ?_;cases h;exact gO (La (I4 [] (Le.refl _ _)))
         ·refine Ag hq [2,5,7,8] [2,33,59] ?_;cases h;exact gN Ct
        ·cases h;exact gO (Br (Ca [2,5,7] [2,33,59] hq))
       ·clear hx16;rcases x16 with _|r39
        ·refine gA ?_;refine Ag hq [2,5,7,9] [2,33,59] ?_;obtain⟨x23,hx23,h⟩:=bind_some h;refine gL hq hx23 [2,5,7,9] [2,33,59] (fun u i18=>(Dx u [(9,(Z6 i18))] [])) (fun u x_=>match x_ with|(.inl _)=>aG Γ (.exit 4) (Mj [2,5,7] [2,33,59] u [] [])|(.inr r_)=>aR (Gj Γ a0 a3 r_)) ?_ ?_
         ·intro i18 y h;unfold C2 at h;refine Ag hq [2,5,7,9,77] [2,33,59] ?_;refine gC h (fun h=>?_) (fun h=>?_)
          ·obtain⟨hc19,h⟩:=Aa h;obtain⟨x20,hx20,h⟩:=bind_some h;obtain⟨hc21,h⟩:=Aa h;obtain⟨hc22,h⟩:=Aa h;refine gR hq [2,5,7,9,96] [2,33,59] [] [(Z33 x20)] (ci hc19 (ci (Ib x4 ((x12.getD i18.toNat default).V) x20 hx20) (ci hc21 (c1 hc22)))) ?_;refine gC h (fun h=>?_) (fun h=>?_)
           ·refine Ag hq [4] [] ?_;cases h;exact gO (La (I4 [] (Le.refl _ _)))
           ·refine Ag hq [2,5,7,9] [2,33,59] ?_;cases h;exact gN Ct
          ·cases h;exact gO (Br (Ca [2,5,7] [2,33,59] hq))
         ·clear hx23;rcases x23 with _|r38
          ·refine gA ?_;obtain⟨x25,hx25,h⟩:=bind_some h;refine gR hq [5,7,10] [10,33,59] [] [(Z43 x25.1 x25.2)] (c1 (Nx a0 x25 hx25)) ?_;obtain⟨x26,hx26,h⟩:=bind_some h;refine gR hq [5,7,12] [33,59,103] [] [(Z38 103 x26 x26.length)] (c1 (Se x25.1 (0:Int) x26 hx26)) ?_;refine Ag hq [5,7,12,13] [33,59,103] ?_;obtain⟨x35,hx35,h⟩:=bind_some h;refine gL hq hx35 [5,7,12,13] [33,59,103] (fun u i27=>(Dx u [(13,(Z6 i27))] [])) (fun u x_=>match x_ with|(.inl _)=>aG Γ (.exit 6) (⟨[],[],[]⟩:St)|(.inr r_)=>aR (Gj Γ a0 a3 r_)) ?_ ?_
           ·intro i27 y h;unfold Ce at h;refine Ag hq [5,7,12,13,107] [33,59,103] ?_;refine gC h (fun h=>?_) (fun h=>?_)
            ·obtain⟨x32,hx32,h⟩:=bind_some h;refine gJ hx32 (fun x_=>match x_ with|(.inl _)=>aG Γ .normal (⟨[(5,(AV.list 5 L1 default x4 (.own 33))),(7,(AV.list 5 Lj default x12 (.own 59))),(12,(Z13 x26 103)),(13,(Z6 i27))],[(Nv 33 37 x4.length),(Nv 59 64 x12.length),(103,.tok 1 3 x26.length)],[]⟩:St)|(.inr r_)=>aR (Gj Γ a0 a3 r_)) ?_ ?_
             ·clear h hx32;intro y h;obtain⟨hc28,h⟩:=Aa h;refine gR hq [5,7,12,13,14] [14,33,59,103] [] [] (c1 hc28) ?_;obtain⟨x29,hx29,h⟩:=bind_some h;obtain⟨hc30,h⟩:=Aa h;refine gR hq [5,7,12,13,14,15] [14,15,33,59,103] [] [(Z33 x29)] (ci (Ib x4 ((x12.getD i27.toNat default).V) x29 hx29) (c1 hc30)) ?_;refine gR hq [5,7,12,13,14,15,137] [14,15,33,59,103] [] [] (ci (gI (Yo x4 x29)) (ci (gI (Yo x4 x29)) (ci (gI (Yo x4 x29)) (ci (gI (Yo x4 x29)) (ci (gI (Yo x4 x29)) (ci (gI ((Yo x4 x29)&&((Ut x4 x29 x12 i27)==true))) (ci (gI ((Yo x4 x29)&&((Ut x4 x29 x12 i27)==true))) (ci (gI ((Yo x4 x29)&&((Ut x4 x29 x12 i27)==true))) (ci (gI ((Yo x4 x29)&&((Ut x4 x29 x12 i27)==true))) (ci (gI (Yo x4 x29)) (ci (show((Yo x4 x29)=true→((Ut x4 x29 x12 i27)=true→((Yo x4 x29)&&((Ut x4 x29 x12 i27)==true))=true)) from(fun hg=>(aT hg))) (c1 (Kb (decide (((x4.getD x29.toNat default).Block:Int)<0))))))))))))))) ?_;refine gC h (fun h=>?_) (fun h=>?_)
              ·cases h;exact gK (Br (Ca [5,7,12,13] [33,59,103] hq))
              ·obtain⟨x31,hx31,h⟩:=bind_some h;refine gR hq [5,7,12,13,153] [33,59,103] [] [(Z33 x31)] (ci (gI ((Ut x4 x29 x12 i27)==false)) (ci (gI ((Ut x4 x29 x12 i27)==false)) (ci (gI ((Ut x4 x29 x12 i27)==false)) (ci (gI ((Ut x4 x29 x12 i27)==false)) (ci (gI ((Ut x4 x29 x12 i27)==false)) (ci (fun(hg:((Ut x4 x29 x12 i27)==false)=true)=>(Sd x26 ((x4.getD x29.toNat default).Block) ((x12.getD i27.toNat default).Block) x31 (Bw hg hx31))) (ci (gI ((Ut x4 x29 x12 i27)==false)) (ci (gI ((Ut x4 x29 x12 i27)==false)) (ci (gI ((Ut x4 x29 x12 i27)==false)) (c1 (Kb (Ut x4 x29 x12 i27)))))))))))) ?_;refine gC h (fun h=>?_) (fun h=>?_)
               ·refine Ag hq [4] [] ?_;cases h;exact gK (La (I4 [] (Le.refl _ _)))
               ·cases h;exact gK (Br (Ca [5,7,12,13] [33,59,103] hq))
             ·clear hx32;rcases x32 with _|r34
              ·refine gA ?_;refine Ag hq [5,7,12,13] [33,59,103] ?_;cases h;exact gN Ct
              ·refine Mr (fun st' hk=>?_);cases h;exact gO (La hk)
            ·cases h;exact gO (Br (Ca [] [] hq))
           ·clear hx35;rcases x35 with _|r37
            ·refine gA ?_;refine Ag hq [4] [] ?_;cases h;exact C7 []
            ·refine Mr (fun st' hk=>?_);obtain rfl:=OI h;exact gK hk
          ·refine Mr (fun st' hk=>?_);obtain rfl:=OI h;exact gK hk
        ·refine Mr (fun st' hk=>?_);obtain rfl:=OI h;exact gK hk
      ·refine Mr (fun st' hk=>?_);obtain rfl:=OI h;exact gK hk
def Yp:AV:=Nd
def Q245:AV:=Z29
def Q238:AV:=Z16
def Q244:AV:=(AV.list 6 Mp default ([]:List Dv) .exact)
def Q240(x5:Int)(x6:Bool)(x7:Bool):=((x5==0)==(bif x6 then x7 else false))
def Q242:AV:=(AV.list 4 Sz default ([]:List Er) .exact)
def Q235(x4:Int)(x6:Bool)(x7:Bool)(a8:Int)(a3:Int):=(bif ((x4==0)==(bif (bif x6 then x7 else false) then(a8==a3) else false)) then(bif (x4==0) then true else(x4==6)) else false)
def Q246(x4:Int)(x6:Bool)(x7:Bool)(a8:Int)(a3:Int)(x5:Int):=(bif (Q235 x4 x6 x7 a8 a3) then(Q240 x5 x6 x7) else false)
def Q239(a8:Int):=(bif (decide (a8<0)) then true else(decide (((1073741824:Int):Int)<a8)))
def Q236(x4:Int)(x6:Bool)(x7:Bool)(a8:Int)(a3:Int):=(((x4==0)==(bif (bif x6 then x7 else false) then(a8==a3) else false))==true)
def Q237:=([(⟨([]:List Er),([]:List Dv),(⟨(0:Int),(1:Int),([]:List Int)⟩:Ga)⟩:Ad)]:List Ad)
def Q241:=([(⟨([]:List Er),([]:List Dv),(⟨(3:Int),(0:Int),([]:List Int)⟩:Ga)⟩:Ad)]:List Ad)
def G4(a8:Int)(a3:Int):Option Bool:=
 (m_locksteplaw11_awake.bind fun x1=>(bif (!x1) then(some false) else(bif (bif (bif (bif (decide (a8<0)) then true else(decide (((1073741824:Int):Int)<a8))) then true else(decide (a3<0))) then true else(decide (((1073741824:Int):Int)<a3))) then((Dn (⟨([a8]:List Int),a3,([(⟨([]:List Er),([]:List Dv),(⟨(0:Int),(1:Int),([]:List Int)⟩:Ga)⟩:Ad)]:List Ad)⟩:Ab) (0:Int)).bind fun x2=>((D6 (⟨([a8]:List Int),a3,([(⟨([]:List Er),([]:List Dv),(⟨(0:Int),(1:Int),([]:List Int)⟩:Ga)⟩:Ad)]:List Ad)⟩:Ab) (0:Int)).bind fun x3=>(some (x2==x3)))) else((Dn (⟨([a8]:List Int),a3,([(⟨([]:List Er),([]:List Dv),(⟨(0:Int),(1:Int),([]:List Int)⟩:Ga)⟩:Ad)]:List Ad)⟩:Ab) (0:Int)).bind fun x4=>((Dn (⟨([a8]:List Int),a3,([(⟨([]:List Er),([]:List Dv),(⟨(3:Int),(0:Int),([]:List Int)⟩:Ga)⟩:Ad)]:List Ad)⟩:Ab) (0:Int)).bind fun x5=>((Bj a8).bind fun x6=>((bif (x6==true) then Bj a3 else some false).bind fun x7=>(some (bif (bif (bif ((x4==0)==(bif (bif x6 then x7 else false) then(a8==a3) else false)) then(bif (x4==0) then true else(x4==6)) else false) then((x5==0)==(bif x6 then x7 else false)) else false) then(bif (bif x6 then x7 else false) then true else(x5==6)) else false)))))))))
theorem ok_locksteplaw11_CheckRet(a8:Int)(a3:Int)(r:Bool)(h:G4 a8 a3=some r):Spec Tryz.prog 7 [(.int .i64 a8),(.int .i64 a3)] [] (.bool r) []:=by
 refine Ae mix Tryz.func7 (fun Γ hq=>?_);unfold G4 at h;refine Ag hq [0,1] [] ?_;obtain⟨x1,hx1,h⟩:=bind_some h;refine gR hq [0,1,11] [] [] [(Z2 x1)] (c1 (Qt  x1 hx1)) ?_;refine gC h (fun h=>?_) (fun h=>?_)
 ·refine Ag hq [4] [] ?_;obtain rfl:=OI h;exact C7 []
 ·refine gR hq [0,1,5] [5] [(13,(Z20 a8)),(15,(.agg [Yp,Z40,Q238])),(16,(.agg [Q242,Q244,Yp,Z40,Q238])),(17,(AV.list 5 A2 default Q237 .exact))] [] (ci (B8 1 Ak (0:Int) ([a8]:List Int)) (ci (show(AVle (.agg [Yp,Z40,Q245]) (.agg [Yp,Z40,Q238])) from(AVle.agg (.cons (AVle.refl _) (.cons (AVle.refl _) (.cons F7 .nil))))) (ci (show(AVle (.agg [Q245,Q245,Yp,Z40,Q238]) (.agg [Q242,Q244,Yp,Z40,Q238])) from(AVle.agg (.cons F7 (.cons F7 (.cons (AVle.refl _) (.cons (AVle.refl _) (.cons (AVle.refl _) .nil))))))) (c1 (B8 5 A2 (default:Ad) Q237))))) ?_;refine gR hq [0,1,5,6] [5,6] [(20,(Z20 a8)),(22,(.agg [(.int .i64 (3:Int)),Yp,Q238])),(23,(.agg [Q242,Q244,(.int .i64 (3:Int)),Yp,Q238])),(24,(AV.list 5 A2 default Q241 .exact))] [] (ci (B8 1 Ak (0:Int) ([a8]:List Int)) (ci (show(AVle (.agg [(.int .i64 (3:Int)),Yp,Q245]) (.agg [(.int .i64 (3:Int)),Yp,Q238])) from(AVle.agg (.cons (AVle.refl _) (.cons (AVle.refl _) (.cons F7 .nil))))) (ci (show(AVle (.agg [Q245,Q245,(.int .i64 (3:Int)),Yp,Q238]) (.agg [Q242,Q244,(.int .i64 (3:Int)),Yp,Q238])) from(AVle.agg (.cons F7 (.cons F7 (.cons (AVle.refl _) (.cons (AVle.refl _) (.cons (AVle.refl _) .nil))))))) (c1 (B8 5 A2 (default:Ad) Q241))))) ?_;refine gR hq [0,1,5,6,39] [5,6] [] [] (ci (gI ((decide (a8<0))==false)) (ci (Kb (decide (a8<0))) (ci (gI ((Q239 a8)==false)) (ci (Kb (Q239 a8)) (ci (gI ((bif (Q239 a8) then true else(decide (a3<0)))==false)) (c1 (Kb (bif (Q239 a8) then true else(decide (a3<0)))))))))) ?_;refine gC h (fun h=>?_) (fun h=>?_)
  ·obtain⟨x2,hx2,h⟩:=bind_some h;obtain⟨x3,hx3,h⟩:=bind_some h;refine gR hq [4] [] [] [(Z33 x2),(Z33 x3)] (ci (Jg (⟨([a8]:List Int),a3,Q237⟩:Ab) (0:Int) x2 hx2) (c1 (Qy (⟨([a8]:List Int),a3,Q237⟩:Ab) (0:Int) x3 hx3))) ?_;cases h;exact C7 []
  ·obtain⟨x4,hx4,h⟩:=bind_some h;refine gR hq [0,1,6,7] [6] [] [(Z33 x4)] (c1 (Jg (⟨([a8]:List Int),a3,Q237⟩:Ab) (0:Int) x4 hx4)) ?_;obtain⟨x5,hx5,h⟩:=bind_some h;refine gR hq [0,1,7,8] [] [] [(Z33 x5)] (c1 (Jg (⟨([a8]:List Int),a3,Q241⟩:Ab) (0:Int) x5 hx5)) ?_;obtain⟨x6,hx6,h⟩:=bind_some h;obtain⟨x7,hx7,h⟩:=bind_some h;refine gR hq [0,1,7,8,9] [] [] [(Z2 x6),(Z2 x7)] (ci (Cw a8 x6 hx6) (ci (gI (x6==true)) (ci (fun(hg:(x6==true)=true)=>(Cw a3 x7 (Bw hg hx7))) (c1 (L2 x6))))) ?_;refine gR hq [4] [] [] [] (ci (gI ((bif x6 then x7 else false)==true)) (ci (gI ((bif x6 then x7 else false)==true)) (ci (L2 (bif x6 then x7 else false)) (ci (gI (Q236 x4 x6 x7 a8 a3)) (ci (gI (Q236 x4 x6 x7 a8 a3)) (ci (gI ((Q236 x4 x6 x7 a8 a3)&&((x4==0)==false))) (ci (gI (Q236 x4 x6 x7 a8 a3)) (ci (show((Q236 x4 x6 x7 a8 a3)=true→((x4==0)=false→((Q236 x4 x6 x7 a8 a3)&&((x4==0)==false))=true)) from(fun hg=>(aF hg))) (ci (L2 ((x4==0)==(bif (bif x6 then x7 else false) then(a8==a3) else false))) (ci (gI ((Q235 x4 x6 x7 a8 a3)==true)) (ci (gI ((Q235 x4 x6 x7 a8 a3)==true)) (ci (gI ((Q235 x4 x6 x7 a8 a3)==true)) (ci (L2 (Q235 x4 x6 x7 a8 a3)) (ci (gI ((Q246 x4 x6 x7 a8 a3 x5)==true)) (ci (gI (((Q246 x4 x6 x7 a8 a3 x5)==true)&&((bif x6 then x7 else false)==false))) (ci (gI ((Q246 x4 x6 x7 a8 a3 x5)==true)) (ci (show(((Q246 x4 x6 x7 a8 a3 x5)==true)=true→((bif x6 then x7 else false)=false→(((Q246 x4 x6 x7 a8 a3 x5)==true)&&((bif x6 then x7 else false)==false))=true)) from(fun hg=>(aF hg))) (c1 (L2 (Q246 x4 x6 x7 a8 a3 x5)))))))))))))))))))) ?_;cases h;exact C7 []
theorem Iv{n:Int}(h:-9223372036854775808≤n)(h':n<9223372036854775808):w64 n=n:=by
 show IntKind.i64.wrap n=n
 simp only[IntKind.wrap,IntKind.bits,IntKind.signed]
 simp
 split<;>omega
theorem Zg{n:Int}(h:0≤n)(h':n<18446744073709551616):Hi n=n:=by
 show IntKind.u64.wrap n=n
 simp[IntKind.wrap,IntKind.bits,IntKind.signed];omega
theorem wu64_mod(n:Int):Hi n=n % 18446744073709551616:=by
 show IntKind.u64.wrap n=_
 simp[IntKind.wrap,IntKind.bits,IntKind.signed]
theorem Af{R:Type}{p:Prop}[Decidable p]{k:Option R}(h:p):Ba p k=k:=if_pos h
theorem fdiv_pow{x:Int}(j:Nat):x.fdiv (2 ^ j)=x / 2 ^ j:=by rw[Int.fdiv_eq_ediv_of_nonneg _ (by exact Int.le_of_lt (Int.pow_pos (by decide)))]
theorem Ai{α:Type}(l:List α)(i:Nat)(d:α)(h:i<l.length):l.getD i d=l[i]:=by simp[List.getD,h]
theorem kinds(k:Int):k=0∨k=1∨k=2∨k=3∨k=4∨k=5∨k=6∨k=7∨k=8∨k=9∨k=10∨k=11∨k=12∨k=13∨k=14∨k=15∨k=16∨k=17∨k=18∨k=19∨k=20∨k=21∨k=22∨(k<0∨22<k):=by omega
theorem out_ne{k:Int}(h:k<0∨22<k):(k==0)=false∧(k==1)=false∧(k==2)=false∧(k==3)=false∧(k==4)=false∧(k==5)=false∧(k==6)=false∧(k==7)=false∧(k==8)=false∧(k==9)=false∧(k==10)=false∧(k==11)=false∧(k==12)=false ∧
  (k==13)=false∧(k==14)=false∧(k==15)=false∧(k==16)=false∧(k==17)=false∧(k==18)=false∧(k==19)=false∧(k==20)=false∧(k==21)=false∧(k==22)=false:=by
 simp only[beq_eq_false_iff_ne,ne_eq];omega
def widthB(b:Int):Bool:=b==1 || b==8 || b==16 || b==32 || b==64
def Qk(b n:Int):Bool:=widthB b&&(n==1 || ((n==2 || n==4 || n==8 || n==16)&&decide (8≤b)&&decide (b*n≤128)))
theorem width_cases{b:Int}(h:widthB b=true):b=1∨b=8∨b=16∨b=32∨b=64:=by simp[widthB]at h;omega
theorem Tx{b n:Int}(h:Qk b n=true):widthB b=true:=by simp[Qk]at h;exact h.1
theorem Nq{b n:Int}(h:Qk b n=true):n=1∨n=2∨n=4∨n=8∨n=16:=by simp[Qk]at h;omega
theorem P7(b:Int):H8 b=some (widthB b):=by
 unfold H8 widthB
 by_cases h1:b=1
 ·subst h1;rfl
 by_cases h2:b=8
 ·subst h2;rfl
 by_cases h3:b=16
 ·subst h3;rfl
 by_cases h4:b=32
 ·subst h4;rfl
 by_cases h5:b=64
 ·subst h5;rfl
 have e1:(b==1)=false:=by simpa using h1
 have e2:(b==8)=false:=by simpa using h2
 have e3:(b==16)=false:=by simpa using h3
 have e4:(b==32)=false:=by simpa using h4
 have e5:(b==64)=false:=by simpa using h5
 simp[e1,e2,e3,e4,e5]
theorem Mi(b:Int):Bj b=some (widthB b):=by
 unfold Bj widthB
 cases(b==1)<;>cases(b==8)<;>cases(b==16)<;>cases(b==32)<;>rfl
theorem kind_Shape(b n:Int):Me b n=some (Qk b n):=by
 unfold Me;simp only[P7,Option.bind_some]
 by_cases hn:n=1∨n=2∨n=4∨n=8∨n=16
 ·cases hw:widthB b with
  | false=>rcases hn with rfl|rfl|rfl|rfl|rfl<;>simp[Qk,hw]
  | true=>
   rcases width_cases hw with rfl|rfl|rfl|rfl|rfl<;>rcases hn with rfl|rfl|rfl|rfl|rfl<;>rfl
 ·have e1:(n==1)=false:=by simp;omega
  have e2:(n==2)=false:=by simp;omega
  have e3:(n==4)=false:=by simp;omega
  have e4:(n==8)=false:=by simp;omega
  have e5:(n==16)=false:=by simp;omega
  simp[Qk,e1,e2,e3,e4,e5]
theorem ref_Shape(b n:Int):Gp b n=some (Qk b n):=by
 unfold Gp;simp only[Mi,Option.bind_some]
 cases hw:widthB b with
 | false=>simp[Qk,hw]
 | true=>
  by_cases hn:n=1∨n=2∨n=4∨n=8∨n=16
  ·rcases width_cases hw with rfl|rfl|rfl|rfl|rfl<;>rcases hn with rfl|rfl|rfl|rfl|rfl<;>rfl
  ·have e1:(n==1)=false:=by simp;omega
   have e2:(n==2)=false:=by simp;omega
   have e3:(n==4)=false:=by simp;omega
   have e4:(n==8)=false:=by simp;omega
   have e5:(n==16)=false:=by simp;omega
   simp[Qk,e1,e2,e3,e4,e5]
theorem word_Cut{v b:Int}(hv:0≤v∧v<18446744073709551616)(hb:widthB b=true):Oh v b=some (v % 2 ^ b.toNat):=by
 unfold Oh;simp only[P7,hb,Option.bind_some,Bool.not_true,cond_false]
 have key:∀ j:Nat,j<64→Ws .u64 (shlV .u64 v (j:Int)) (j:Int)=(v*2 ^ j % 18446744073709551616) / 2 ^ j:=fun j hj=>by
  simp only[Ws,shlV,Int.toNat_natCast,IntKind.bits];rw[Nat.min_eq_left (by omega),fdiv_pow,show IntKind.u64.wrap (v*2 ^ j)=v*2 ^ j % 18446744073709551616 from wu64_mod _]
 rcases width_cases hb with rfl|rfl|rfl|rfl|rfl
 ·have:=key 63 (by decide);simp only[show w64 (64-1)=((63:Nat):Int) from rfl,this];rw[Af (by decide),Af (by decide)];congr 1;simp only[show((1:Int).toNat)=1 from rfl];omega
 ·have:=key 56 (by decide);simp only[show w64 (64-8)=((56:Nat):Int) from rfl,this];rw[Af (by decide),Af (by decide)];congr 1;simp only[show((8:Int).toNat)=8 from rfl];omega
 ·have:=key 48 (by decide);simp only[show w64 (64-16)=((48:Nat):Int) from rfl,this];rw[Af (by decide),Af (by decide)];congr 1;simp only[show((16:Int).toNat)=16 from rfl];omega
 ·have:=key 32 (by decide);simp only[show w64 (64-32)=((32:Nat):Int) from rfl,this];rw[Af (by decide),Af (by decide)];congr 1;simp only[show((32:Int).toNat)=32 from rfl];omega
 ·have:=key 0 (by decide);simp only[show w64 (64-64)=((0:Nat):Int) from rfl,this];rw[Af (by decide),Af (by decide)];congr 1;simp only[show((64:Int).toNat)=64 from rfl];omega
theorem ref_Cut{v b:Int}(hv:0≤v∧v<18446744073709551616)(hb:widthB b=true):Hr v b=some (v % 2 ^ b.toNat):=by
 unfold Hr;simp only[Mi,hb,Option.bind_some,Bool.not_true,cond_false];rcases width_cases hb with rfl|rfl|rfl|rfl|rfl
 ·rw[show((1:Int)==64)=false from rfl,cond_false,Af (by decide),Af (by decide),show shlV .u64 (1:Int) (Hi 1)=2 ^ (1:Int).toNat from rfl,Int.tmod_eq_emod_of_nonneg hv.1]
 ·rw[show((8:Int)==64)=false from rfl,cond_false,Af (by decide),Af (by decide),show shlV .u64 (1:Int) (Hi 8)=2 ^ (8:Int).toNat from rfl,Int.tmod_eq_emod_of_nonneg hv.1]
 ·rw[show((16:Int)==64)=false from rfl,cond_false,Af (by decide),Af (by decide),show shlV .u64 (1:Int) (Hi 16)=2 ^ (16:Int).toNat from rfl,Int.tmod_eq_emod_of_nonneg hv.1]
 ·rw[show((32:Int)==64)=false from rfl,cond_false,Af (by decide),Af (by decide),show shlV .u64 (1:Int) (Hi 32)=2 ^ (32:Int).toNat from rfl,Int.tmod_eq_emod_of_nonneg hv.1]
 ·rw[show((64:Int)==64)=true from rfl,cond_true]
  congr 1
  simp only[show((64:Int).toNat)=64 from rfl];omega
theorem kind_isWidth{i:Int}(h:0≤i∧i<18446744073709551616):Jd i=some (widthB i):=by
 unfold Jd
 by_cases hi:i≤64
 ·have:w64 i=i:=Iv (by omega) (by omega);simp[hi,this,P7]
 ·have:widthB i=false:=by simp[widthB];omega
  simp[hi,this]
def isK(k:Int):Bool:=decide (0≤k)&&decide (k≤22)
def Lo(k n:Int):Int:=
 bif k==0 then 0 else bif k==13 || k==18 || k==19 then 3 else bif k==14 || k==15 || k==16 || k==22 then 1 else bif k==20 then 4 else bif k==21 then n else 2
def sfitS(k b n:Int):Bool:=
 bif k==16 || k==17 then decide (8≤b) else bif k==18 || k==19 then decide (8≤b)&&n==1 else
 bif k==4 || k==10 || k==11 || k==12 || k==14 || k==15 || k==20 then n==1 else bif k==21 || k==22 then decide (1<n) else true
def ifitS(k b n i:Int):Bool:=
 bif k==0 then i % 2 ^ b.toNat==i else bif k==14 then widthB i&&decide (i<b) else bif k==15 then widthB i&&decide (b<i) else bif k==22 then decide (i<n) else i==0
def valS(v:Int):Bool:=decide (1≤v)&&decide (v≤1023)
def dstS(k d:Int):Bool:=bif k==17 || k==19 then d==0 else valS d
def J9(o:Dv):Bool:=Qk o.Bits o.Lanes&&(isK o.Kind&&sfitS o.Kind o.Bits o.Lanes&&ifitS o.Kind o.Bits o.Lanes o.Imm&&((o.Args.length:Int)==Lo o.Kind o.Lanes))&&(o.Args.all valS&&dstS o.Kind o.Dst)
def elemS(o:Dv)(i:Nat):Int×Int:=
 bif o.Kind==13 || o.Kind==20 then(bif Nat.beq i 0 then(1,1) else(o.Bits,o.Lanes)) else bif o.Kind==14 || o.Kind==15 then(w64 o.Imm,1) else
 bif o.Kind==16 || o.Kind==17 then(bif Nat.beq i 0 then(64,1) else(o.Bits,o.Lanes)) else
 bif o.Kind==18 || o.Kind==19 then(bif Nat.beq i 1 then(64,1) else bif Nat.beq i 0 then(1,1) else(o.Bits,o.Lanes)) else bif o.Kind==21 then(o.Bits,1) else(o.Bits,o.Lanes)
def Rh(o:Dv):List (Int×Int):=(List.range (Lo o.Kind o.Lanes).toNat).map (elemS o)
def Vg(k b n:Int):Int×Int:=bif k==17 || k==19 then(0,0) else bif k==10 || k==11 || k==12 then(1,1) else bif k==22 then(b,1) else(b,n)
theorem V6{k:Int}(h:k<0∨22<k):isK k=false:=by simp[isK];omega
theorem kind_isKind(k:Int):Ln k=some (isK k):=by unfold Ln isK;cases decide ((0:Int)≤k)<;>rfl
theorem Qj(v:Int):Jc v=some (valS v):=by unfold Jc valS;cases decide ((1:Int)≤v)<;>rfl
theorem Uh(v:Int):D5 v=some (valS v):=by
 unfold D5 valS
 have e1:decide ((0:Int)<v)=decide (1≤v):=by congr 1
 have e2:decide (v<(1024:Int))=decide (v≤1023):=by apply decide_eq_decide.2;omega
 rw[e1,e2]
 cases decide ((1:Int)≤v)<;>rfl
theorem Aaf(o:Dv):Je o=some (sfitS o.Kind o.Bits o.Lanes):=by
 obtain⟨k,b,n,d,args,i⟩:=o;rcases kinds k with rfl|rfl|rfl|rfl|rfl|rfl|rfl|rfl|rfl|rfl|rfl|rfl|rfl|rfl|rfl|rfl|rfl|rfl|rfl|rfl|rfl|rfl|rfl|h
 any_goals rfl
 ·show some (bif decide (8≤b) then n==1 else false)=some (decide (8≤b)&&n==1);cases decide (8≤b)<;>rfl
 ·show some (bif decide (8≤b) then n==1 else false)=some (decide (8≤b)&&n==1);cases decide (8≤b)<;>rfl
 ·unfold Je sfitS;simp[out_ne h]
theorem Aae(o:Dv):K0 o=some (Vg o.Kind o.Bits o.Lanes):=by
 obtain⟨k,b,n,d,args,i⟩:=o;rcases kinds k with rfl|rfl|rfl|rfl|rfl|rfl|rfl|rfl|rfl|rfl|rfl|rfl|rfl|rfl|rfl|rfl|rfl|rfl|rfl|rfl|rfl|rfl|rfl|h
 any_goals rfl
 unfold K0 Vg;simp[out_ne h]
theorem kind_immFits(o:Dv)(hw:widthB o.Bits=true)(hn:0≤o.Lanes∧o.Lanes≤16)(hi:0≤o.Imm∧o.Imm<18446744073709551616):Kl o=some (ifitS o.Kind o.Bits o.Lanes o.Imm):=by
 unfold Kl ifitS
 have hb:Hi o.Bits=o.Bits:=by apply Zg<;>(rcases width_cases hw with h|h|h|h|h<;>omega)
 have hl:Hi o.Lanes=o.Lanes:=by apply Zg<;>omega
 rw[word_Cut hi hw,kind_isWidth hi,hb,hl]
 cases(o.Kind==0)<;>cases(o.Kind==14)<;>cases(o.Kind==15)<;>cases(o.Kind==22)<;>cases widthB o.Imm<;>rfl
set_option maxHeartbeats 2000000 in
theorem ref_Fits (o : Dv) (hs : Qk o.Bits o.Lanes = true) (hk : isK o.Kind = true) (hi : 0 ≤ o.Imm ∧ o.Imm < 18446744073709551616) : El o = some (sfitS o.Kind o.Bits o.Lanes && ifitS o.Kind o.Bits o.Lanes o.Imm) := by
  have hw := Tx hs; have hl := Nq hs; obtain ⟨k, b, n, d, args, i⟩ := o; simp only at hs hk hi hw hl ⊢
  have hb : Hi b = b := by apply Zg <;> (rcases width_cases hw with h | h | h | h | h <;> omega)
  have hn : Hi n = n := by apply Zg <;> omega
  have hb8 : decide (b < 8) = !decide (8 ≤ b) := by rw [← decide_not]; apply decide_eq_decide.2; omega
  have hn2 : decide (n < 2) = !decide (1 < n) := by rw [← decide_not]; apply decide_eq_decide.2; omega
  have h14 : (bif decide (i < b) then widthB (w64 i) else false) = (widthB i && decide (i < b)) := by
    by_cases h : i < b
    · have : w64 i = i := Iv (by omega) (by rcases width_cases hw with h | h | h | h | h <;> omega); simp [h, this]
    · simp [h]
  have h15 : (bif (bif decide (b < i) then decide (i ≤ 64) else false) then widthB (w64 i) else false) = (widthB i && decide (b < i)) := by
    by_cases h : i ≤ 64
    · have : w64 i = i := Iv (by omega) (by omega)
      by_cases h2 : b < i <;> simp [h, this, h2]
    · have : widthB i = false := by simp [widthB]; omega
      simp [h, this]
  have hc := ref_Cut (v := i) hi hw; rcases kinds k with rfl | rfl | rfl | rfl | rfl | rfl | rfl | rfl | rfl | rfl | rfl | rfl | rfl | rfl | rfl | rfl | rfl | rfl | rfl | rfl | rfl | rfl | rfl | h
  case inl => unfold El; simp [hc, sfitS, ifitS]
  all_goals first
    | (rw [V6 h] at hk; cases hk)
    | (unfold El sfitS ifitS
       simp only [hb8]
       generalize decide (8 ≤ b) = u at *
       clear hc h14 h15 hb8 hw hs; rcases hl with rfl | rfl | rfl | rfl | rfl <;> cases u <;> simp_all
       done)
    | (unfold El sfitS ifitS
       rw [hb]; simp only [Mi]; clear hc hs
       generalize decide (i < b) = p at *
       generalize decide (b < i) = q at *
       generalize decide (i ≤ 64) = r at *
       generalize widthB (w64 i) = s at *
       rcases hl with rfl | rfl | rfl | rfl | rfl <;> cases p <;> cases q <;> cases r <;> cases s <;> simp_all
       done)
end
end Go.Proofs.YtggpeloimmlkgaaGreat
