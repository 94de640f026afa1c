/-
  The machine, the program's functions and the laws' arithmetic: part 4 of 5.
-/
import Derived.Test.YtggpeloimmlkgaaGreatPk3
import Derived.Lib.RowBridge
import Derived.OpenShut
import Derived.ShutString
set_option linter.unusedVariables false
set_option linter.unusedSimpArgs false
namespace Go.Proofs.YtggpeloimmlkgaaGreat
noncomputable section
open Go Go.RowKit
set_option maxRecDepth 100000
set_option maxHeartbeats 2000000
def Bt(aV:Int)(aI:Ab):(Int×List Int×Int×List Ab×Int×List Int×List Ah×List (Int×Ac))→Option (LR (Int×List Int×Int×List Ab×Int×List Int×List Ah×List (Int×Ac)) ((List Int×Int×List Ab×Int×List Int×List Ah×List (Int×Ac)) ⊕ (Bool×TFunc×Int×List Int×List Ah×List (Int×Ac)))):=
 fun((i1,l2,i3,l4,i5,l6,l7,l8):(Int×List Int×Int×List Ab×Int×List Int×List Ah×List (Int×Ac)))=>(bif (decide (i1<(aI.Phis.length:Int))) then(Cs (Cg i1 aI.Phis.length) ((Cm ((aI.Phis.getD i1.toNat default).Bits)).bind fun x17=>((C4 ((aI.Phis.getD i1.toNat default).Dst) x17 (⟨aV,(-1:Int)⟩:Ez) (⟨l2,i3,l4⟩:TFunc) i5 l6 l8 l7).bind fun x18=>(bif (!x18.1) then(some (.done (.inr (false,x18.2.1,x18.2.2.1,x18.2.2.2.1,x18.2.2.2.2.1,x18.2.2.2.2.2)))) else(some (.next ((A8 (i1+1)),x18.2.1.Params,x18.2.1.Ret,x18.2.1.Blocks,x18.2.2.1,x18.2.2.2.1,x18.2.2.2.2.1,x18.2.2.2.2.2))))))) else(some (.done (.inl (l2,i3,l4,i5,l6,l7,l8)))))
def Be(aV:Int)(aI:Ab):(Int×List Int×Int×List Ab×Int×List Int×List Ah×List (Int×Ac))→Option (LR (Int×List Int×Int×List Ab×Int×List Int×List Ah×List (Int×Ac)) ((List Int×Int×List Ab×Int×List Int×List Ah×List (Int×Ac)) ⊕ (Bool×TFunc×Int×List Int×List Ah×List (Int×Ac)))):=
 fun((i21,l22,i23,l24,i25,l26,l27,l28):(Int×List Int×Int×List Ab×Int×List Int×List Ah×List (Int×Ac)))=>(bif (decide (i21<(aI.Ops.length:Int))) then(Cs (Cg i21 aI.Ops.length) ((Hh (aI.Ops.getD i21.toNat default)).bind fun x37=>((bif ((decide (((0:Int):Int)<x37.1))==true) then C4 ((aI.Ops.getD i21.toNat default).Dst) (x37.1,x37.2) (⟨aV,i21⟩:Ez) (⟨l22,i23,l24⟩:TFunc) i25 l26 l28 l27 else some (false,(default:TFunc),(0:Int),[],[],[])).bind fun x38=>(bif (bif (decide (((0:Int):Int)<x37.1)) then(!x38.1) else false) then(some (.done (.inr (false,(⟨(bif ((decide (((0:Int):Int)<x37.1))==true) then x38.2.1.Params else l22),(bif ((decide (((0:Int):Int)<x37.1))==true) then x38.2.1.Ret else i23),(bif ((decide (((0:Int):Int)<x37.1))==true) then x38.2.1.Blocks else l24)⟩:TFunc),(bif ((decide (((0:Int):Int)<x37.1))==true) then x38.2.2.1 else i25),(bif ((decide (((0:Int):Int)<x37.1))==true) then x38.2.2.2.1 else l26),(bif ((decide (((0:Int):Int)<x37.1))==true) then x38.2.2.2.2.1 else l27),(bif ((decide (((0:Int):Int)<x37.1))==true) then x38.2.2.2.2.2 else l28))))) else(some (.next ((A8 (i21+1)),(bif ((decide (((0:Int):Int)<x37.1))==true) then x38.2.1.Params else l22),(bif ((decide (((0:Int):Int)<x37.1))==true) then x38.2.1.Ret else i23),(bif ((decide (((0:Int):Int)<x37.1))==true) then x38.2.1.Blocks else l24),(bif ((decide (((0:Int):Int)<x37.1))==true) then x38.2.2.1 else i25),(bif ((decide (((0:Int):Int)<x37.1))==true) then x38.2.2.2.1 else l26),(bif ((decide (((0:Int):Int)<x37.1))==true) then x38.2.2.2.2.1 else l27),(bif ((decide (((0:Int):Int)<x37.1))==true) then x38.2.2.2.2.2 else l28)))))))) else(some (.done (.inl (l22,i23,l24,i25,l26,l27,l28)))))
def Ho(Γ:Ga)(aV:Int)(aI:Ab)(a1:TFunc)(a7:Int)(a8:List Int)(a6:List (Int×Ac))(a4:List Ah)(r:(Bool×TFunc×Int×List Int×List Ah×List (Int×Ac))):Exit→St→Prop:=fK Tryz.prog Γ Tryz.f59.results.toList [(Z1 a1.Params a1.Ret a1.Blocks a7 a8 9100005 a4),(Tq a4.length),(9100005,.obj (.map true .i64 (mapE (fun(v_:Ac)=>((Wo v_):AV)) a6)))] (.bool r.1) [(Z1 r.2.1.Params r.2.1.Ret r.2.1.Blocks r.2.2.1 r.2.2.2.1 9100005 r.2.2.2.2.1),(Tq r.2.2.2.2.1.length),(9100005,.obj (.map true .i64 (mapE (fun(v_:Ac)=>((Wo v_):AV)) r.2.2.2.2.2)))]
def Tz(x37:(Int×Int)):=((decide (((0:Int):Int)<x37.1))==true)
def Q74:=(fun(v_:Ac)=>((Wo v_):AV))
def Q77(x37:(Int×Int))(x38:(Bool×TFunc×Int×List Int×List Ah×List (Int×Ac)))(l26:List Int):AV:=(Z11 (Tz x37) x38.2.2.2.1 l26)
def Q78(x37:(Int×Int))(x38:(Bool×TFunc×Int×List Int×List Ah×List (Int×Ac)))(l24:List Ab):AV:=(Z23 (Tz x37) x38.2.1.Blocks l24)
def Q76(x37:(Int×Int))(x38:(Bool×TFunc×Int×List Int×List Ah×List (Int×Ac)))(l22:List Int):AV:=(Z11 (Tz x37) x38.2.1.Params l22)
def C7(aV:Int)(aI:Ab)(a1:TFunc)(a7:Int)(a8:List Int)(a6:List (Int×Ac))(a4:List Ah):Option (Bool×TFunc×Int×List Int×List Ah×List (Int×Ac)):=
 ((Ak (Bt aV aI) ((0:Int),a1.Params,a1.Ret,a1.Blocks,a7,a8,a4,a6)).bind (fun x19=>(match x19 with|(.inl (l9,i10,l11,i12,l13,l14,l15))=>((Ak (Be aV aI) ((0:Int),l9,i10,l11,i12,l13,l14,l15)).bind (fun x39=>(match x39 with|(.inl (l29,i30,l31,i32,l33,l34,l35))=>(some (true,(⟨l29,i30,l31⟩:TFunc),i32,l33,l34,l35))|(.inr r41)=>(some r41))))|(.inr r42)=>(some r42))))
theorem Kn(aV:Int)(aI:Ab)(a1:TFunc)(a7:Int)(a8:List Int)(a6:List (Int×Ac))(a4:List Ah)(r:(Bool×TFunc×Int×List Int×List Ah×List (Int×Ac)))(h:C7 aV aI a1 a7 a8 a6 a4=some r):Spec Tryz.prog 59 [(.ptr 30000 0),(.int .i64 aV),(.agg (Au aI))] [(30000,.row 59 [(AV.list 1 Ag 0 a1.Params .none),(.int .i64 a1.Ret),(AV.list 5 Au default a1.Blocks .none),(.int .i64 a7),(AV.list 1 Ag 0 a8 .none),(.omap 9100005),(AV.list 5 Bz default a4 (.own 37006))]),(37006,.tok 5 104 a4.length),(9100005,.obj (.map true .i64 (mapE (fun(v_:Ac)=>((.agg (C3 v_)):AV)) a6)))] (.bool r.1) [(30000,.row 59 [(AV.list 1 Ag 0 r.2.1.Params .none),(.int .i64 r.2.1.Ret),(AV.list 5 Au default r.2.1.Blocks .none),(.int .i64 r.2.2.1),(AV.list 1 Ag 0 r.2.2.2.1 .none),(.omap 9100005),(AV.list 5 Bz default r.2.2.2.2.1 (.own 37006))]),(37006,.tok 5 104 r.2.2.2.2.1.length),(9100005,.obj (.map true .i64 (mapE (fun(v_:Ac)=>((.agg (C3 v_)):AV)) r.2.2.2.2.2)))]:=by
 refine Af mix Tryz.func59 (fun Γ hq=>?_);unfold C7 at h;refine Aj hq [0,1,5] [5,30000,37006,9100005] ?_;refine Aj hq [0,1,5,14,15,16] [5,30000,37006,9100005] ?_;obtain⟨x19,hx19,h⟩:=bind_some h;refine gL hq hx19 [0,1,5,14,15,16] [5,30000,37006,9100005] (fun u (i1,l2,i3,l4,i5,l6,l7,l8)=>(Et u [(16,(Br i1))] [(Z1 l2 i3 l4 i5 l6 9100005 l7),(Tq l7.length),(9100005,.obj (.map true .i64 (mapE Q74 l8)))])) (fun u x_=>match x_ with|(.inl (l9,i10,l11,i12,l13,l14,l15))=>aG Γ (.exit 0) (Px [0,1,5] [5,30000,37006,9100005] u [] [(Z1 l9 i10 l11 i12 l13 9100005 l14),(Tq l14.length),(9100005,.obj (.map true .i64 (mapE Q74 l15)))])|(.inr r_)=>aR (Ho Γ aV aI a1 a7 a8 a6 a4 r_)) ?_ ?_
 ·rintro⟨i1,l2,i3,l4,i5,l6,l7,l8⟩ y h;unfold Bt at h;refine Aj hq [0,1,5,14,15,16,17] [5,30000,37006,9100005] ?_;refine gC h (fun h=>?_) (fun h=>?_)
  ·obtain⟨hc16,h⟩:=Aa h;refine gR hq [0,1,5,8,14,15,16] [5,8,30000,37006,9100005] [] [] (c1 hc16) ?_;obtain⟨x17,hx17,h⟩:=bind_some h;obtain⟨x18,hx18,h⟩:=bind_some h;refine gR hq [0,1,5,14,15,16,29] [5,30000,37006,9100005] [] [(Z41 x17),⟨[(30000,30000),(37006,37006),(9100005,9100005)],[],(.bool x18.1),[(Z1 x18.2.1.Params x18.2.1.Ret x18.2.1.Blocks x18.2.2.1 x18.2.2.2.1 9100005 x18.2.2.2.2.1),(Tq x18.2.2.2.2.1.length),(9100005,.obj (.map true .i64 (mapE Q74 x18.2.2.2.2.2)))],[]⟩] (ci (Gs ((aI.Phis.getD i1.toNat default).Bits) x17 hx17) (c1 (Ia ((aI.Phis.getD i1.toNat default).Dst) x17 (⟨aV,(-1:Int)⟩:Ez) (⟨l2,i3,l4⟩:TFunc) i5 l6 l8 l7 x18 hx18))) ?_;refine gC h (fun h=>?_) (fun h=>?_)
   ·refine Aj hq [6] [30000,37006,9100005] ?_;cases h;exact gO (Pg (J6 [(30000,30000),(37006,37006),(9100005,9100005)] (Le.refl _ _)))
   ·refine Aj hq [0,1,5,14,15,16] [5,30000,37006,9100005] ?_;cases h;exact gN E9
  ·cases h;exact gO (Eb (Ej [0,1,5] [5,30000,37006,9100005] hq))
 ·clear hx19;rcases x19 with⟨l9,i10,l11,i12,l13,l14,l15⟩|r42
  ·refine gA ?_;refine Aj hq [0,1,32,33,34] [30000,37006,9100005] ?_;obtain⟨x39,hx39,h⟩:=bind_some h;refine gL hq hx39 [0,1,32,33,34] [30000,37006,9100005] (fun u (i21,l22,i23,l24,i25,l26,l27,l28)=>(Et u [(34,(Br i21))] [(Z1 l22 i23 l24 i25 l26 9100005 l27),(Tq l27.length),(9100005,.obj (.map true .i64 (mapE Q74 l28)))])) (fun u x_=>match x_ with|(.inl (l29,i30,l31,i32,l33,l34,l35))=>aG Γ (.exit 2) (⟨[],[(Z1 l29 i30 l31 i32 l33 9100005 l34),(Tq l34.length),(9100005,.obj (.map true .i64 (mapE Q74 l35)))],[]⟩:St)|(.inr r_)=>aR (Ho Γ aV aI a1 a7 a8 a6 a4 r_)) ?_ ?_
   ·rintro⟨i21,l22,i23,l24,i25,l26,l27,l28⟩ y h;unfold Be at h;refine Aj hq [0,1,32,33,34,35] [30000,37006,9100005] ?_;refine gC h (fun h=>?_) (fun h=>?_)
    ·obtain⟨hc36,h⟩:=Aa h;refine gR hq [0,1,9,10,32,33,34] [10,30000,37006,9100005] [] [] (c1 hc36) ?_;obtain⟨x37,hx37,h⟩:=bind_some h;refine gR hq [0,1,9,10,11,12,32,33,34] [10,30000,37006,9100005] [] [⟨[],[],(.tuple [(Br x37.1),(Br x37.2)]),[],[]⟩] (c1 (W8 (aI.Ops.getD i21.toNat default) x37 hx37)) ?_;obtain⟨x38,hx38,h⟩:=bind_some h;refine gR hq [0,1,32,33,34,58] [30000,37006,9100005] [] [⟨[(30000,30000),(37006,37006),(9100005,9100005)],[],(.bool x38.1),[(Z1 x38.2.1.Params x38.2.1.Ret x38.2.1.Blocks x38.2.2.1 x38.2.2.2.1 9100005 x38.2.2.2.2.1),(Tq x38.2.2.2.2.1.length),(9100005,.obj (.map true .i64 (mapE Q74 x38.2.2.2.2.2)))],[]⟩] (ci (gI (Tz x37)) (ci (gI (Tz x37)) (ci (gI (Tz x37)) (ci (gI (Tz x37)) (ci (gI (Tz x37)) (ci (gI (Tz x37)) (ci (gI (Tz x37)) (ci (gI (Tz x37)) (ci (gI (Tz x37)) (ci (fun(hg:(Tz x37)=true)=>(Ia ((aI.Ops.getD i21.toNat default).Dst) (x37.1,x37.2) (⟨aV,i21⟩:Ez) (⟨l22,i23,l24⟩:TFunc) i25 l26 l28 l27 x38 (Dd hg hx38))) (ci (gI (Tz x37)) (c1 (Kx (decide (((0:Int):Int)<x37.1))))))))))))))) ?_;refine Jy (Le.trans (M8 (fun(k_:List (Int×AV)) u=>Et u [] [(9100005,.obj (.map true .i64 k_))]) (show(bif (Tz x37) then(mapE Q74 x38.2.2.2.2.2) else(mapE Q74 l28))=(mapE Q74 (bif (Tz x37) then x38.2.2.2.2.2 else l28)) from(bif_mapE rfl rfl))) (Le.trans (leB (fun g_ u=>(Et u [] [(30000,.row 59 [(Q76 x37 x38 l22),(Z36 (Tz x37) x38.2.1.Ret i23),(Q78 x37 x38 l24),(Z36 (Tz x37) x38.2.2.1 i25),(Q77 x37 x38 l26),(.omap 9100005),(Z16 g_ x38.2.2.2.2.1 l27)]),(37006,.tok 5 104 (bif g_ then x38.2.2.2.2.1.length else l27.length))])) (fun g_ u=>(Et u [] [(30000,.row 59 [(Q76 x37 x38 l22),(Z36 (Tz x37) x38.2.1.Ret i23),(Q78 x37 x38 l24),(Z36 (Tz x37) x38.2.2.1 i25),(Q77 x37 x38 l26),(.omap 9100005),(AV.list 5 Bz default (bif g_ then x38.2.2.2.2.1 else l27) (.own 37006))]),(37006,.tok 5 104 ((bif g_ then x38.2.2.2.2.1 else l27).length))])) (Tz x37)) (Le.trans (leC 30000 0 (show AVle (Q76 x37 x38 l22) (AV.list 1 Ag 0 (bif (Tz x37) then x38.2.1.Params else l22) .none) from Fk)) (Le.trans (leC 30000 2 (show AVle (Q78 x37 x38 l24) (AV.list 5 Au default (bif (Tz x37) then x38.2.1.Blocks else l24) .none) from Fk)) (leC 30000 4 (show AVle (Q77 x37 x38 l26) (AV.list 1 Ag 0 (bif (Tz x37) then x38.2.2.2.1 else l26) .none) from Fk)))))) ?_;refine gC h (fun h=>?_) (fun h=>?_)
     ·refine Aj hq [6] [30000,37006,9100005] ?_;cases h;exact gO (Pg (J6 [(30000,30000),(37006,37006),(9100005,9100005)] (Le.refl _ _)))
     ·refine Aj hq [0,1,32,33,34] [30000,37006,9100005] ?_;cases h;exact gN E9
    ·cases h;exact gO (Eb (Ej [] [30000,37006,9100005] hq))
   ·clear hx39;rcases x39 with⟨l29,i30,l31,i32,l33,l34,l35⟩|r41
    ·refine gA ?_;refine Aj hq [6] [30000,37006,9100005] ?_;cases h;exact Du [(30000,30000),(37006,37006),(9100005,9100005)]
    ·refine R0 (fun st' hk=>?_);obtain rfl:=OI h;exact gK hk
  ·refine R0 (fun st' hk=>?_);obtain rfl:=OI h;exact gK hk
def Cx(a1:TFunc):(Int×List (Int×Ac))→Option (LR (Int×List (Int×Ac)) (List (Int×Ac))):=
 fun((i1,l2):(Int×List (Int×Ac)))=>(bif (decide (i1<(a1.Params.length:Int))) then(Cs (Cg i1 a1.Params.length) ((Cm (a1.Params.getD i1.toNat 0)).bind fun x5=>(some (.next ((A8 (i1+1)),(Gw l2 (A8 (i1+1)) (⟨x5,(⟨(0:Int),(-1:Int)⟩:Ez)⟩:Ac))))))) else(some (.done l2)))
def B8(a1:TFunc):(Int×List (Int×Ac)×List Int×Int×List Ab×Int×List Int×List Ah)→Option (LR (Int×List (Int×Ac)×List Int×Int×List Ab×Int×List Int×List Ah) ((List (Int×Ac)×List Int×Int×List Ab×Int×List Int×List Ah) ⊕ (Int×TFunc×Int×List Int×List Ah×List (Int×Ac)))):=
 fun((i8,l9,l10,i11,l12,i13,l14,l15):(Int×List (Int×Ac)×List Int×Int×List Ab×Int×List Int×List Ah))=>(bif (decide (i8<(a1.Blocks.length:Int))) then(Cs (Cg i8 a1.Blocks.length) ((C7 i8 (a1.Blocks.getD i8.toNat default) (⟨l10,i11,l12⟩:TFunc) i13 l14 l9 l15).bind fun x24=>(bif (!x24.1) then(some (.done (.inr ((7:Int),x24.2.1,x24.2.2.1,x24.2.2.2.1,x24.2.2.2.2.1,x24.2.2.2.2.2)))) else(some (.next ((A8 (i8+1)),x24.2.2.2.2.2,x24.2.1.Params,x24.2.1.Ret,x24.2.1.Blocks,x24.2.2.1,x24.2.2.2.1,x24.2.2.2.2.1)))))) else(some (.done (.inl (l9,l10,i11,l12,i13,l14,l15)))))
def Lu(Γ:Ga)(a1:TFunc)(a7:Int)(a8:List Int)(a4:List Ah)(r:(Int×TFunc×Int×List Int×List Ah×List (Int×Ac))):Exit→St→Prop:=fK Tryz.prog Γ Tryz.f33.results.toList (Z3 a1.Params a1.Ret a1.Blocks a7 a8 a4 a4.length) (Br r.1) [(Z1 r.2.1.Params r.2.1.Ret r.2.1.Blocks r.2.2.1 r.2.2.2.1 9200005 r.2.2.2.2.1),(Tq r.2.2.2.2.1.length),(9200005,.obj (.map false .i64 (mapE (fun(v_:Ac)=>((Wo v_):AV)) r.2.2.2.2.2)))]
def Q79:=(fun(v_:Ac)=>((Wo v_):AV))
def Q80(l16:List (Int×Ac))(l17:List Int)(i18:Int)(l19:List Ab)(i20:Int)(l21:List Int)(l22:List Ah):List (Nat×Own):=[(8,.obj (.map true .i64 (mapE Q79 l16))),(Z7 l17 i18 l19 i20 l21 l22),(Tq l22.length)]
def Dn(a1:TFunc)(a7:Int)(a8:List Int)(a4:List Ah):Option (Int×TFunc×Int×List Int×List Ah×List (Int×Ac)):=
 ((Ak (Cx a1) ((0:Int),([]:List (Int×Ac)))).bind (fun x6=>((Ak (B8 a1) ((0:Int),x6,a1.Params,a1.Ret,a1.Blocks,a7,a8,a4)).bind (fun x25=>(match x25 with|(.inl (l16,l17,i18,l19,i20,l21,l22))=>(some ((0:Int),(⟨l17,i18,l19⟩:TFunc),i20,l21,l22,l16))|(.inr r27)=>(some r27))))))
theorem Ll(a1:TFunc)(a7:Int)(a8:List Int)(a4:List Ah)(r:(Int×TFunc×Int×List Int×List Ah×List (Int×Ac)))(h:Dn a1 a7 a8 a4=some r):Spec Tryz.prog 33 [(.ptr 30000 0)] [(30000,.row 59 [(AV.list 1 Ag 0 a1.Params .none),(.int .i64 a1.Ret),(AV.list 5 Au default a1.Blocks .none),(.int .i64 a7),(AV.list 1 Ag 0 a8 .none),.nilm,(AV.list 5 Bz default a4 (.own 37006))]),(37006,.tok 5 104 a4.length)] (.int .i64 r.1) [(30000,.row 59 [(AV.list 1 Ag 0 r.2.1.Params .none),(.int .i64 r.2.1.Ret),(AV.list 5 Au default r.2.1.Blocks .none),(.int .i64 r.2.2.1),(AV.list 1 Ag 0 r.2.2.2.1 .none),(.omap 9200005),(AV.list 5 Bz default r.2.2.2.2.1 (.own 37006))]),(37006,.tok 5 104 r.2.2.2.2.1.length),(9200005,.obj (.map false .i64 (mapE (fun(v_:Ac)=>((.agg (C3 v_)):AV)) r.2.2.2.2.2)))]:=by
 refine Af mix Tryz.func33 (fun Γ hq=>?_);unfold Dn at h;refine Aj hq [0] [30000,37006] ?_;refine Aj hq [0] [8,30000,37006] ?_;refine Jy (M8 (fun(k_:List (Int×AV)) u=>Et u [] [(8,.obj (.map true .i64 k_))]) (show[]=(mapE Q79 ([]:List (Int×Ac))) from rfl)) ?_;refine Aj hq [0,15,16,17] [8,30000,37006] ?_;obtain⟨x6,hx6,h⟩:=bind_some h;refine gL hq hx6 [0,15,16,17] [8,30000,37006] (fun u (i1,l2)=>(Et u [(17,(Br i1))] [(8,.obj (.map true .i64 (mapE Q79 l2)))])) (fun u l3=>aG Γ (.exit 0) (Px [0] [8,30000,37006] u [] [(8,.obj (.map true .i64 (mapE Q79 l3)))])) ?_ ?_
 ·rintro⟨i1,l2⟩ y h;unfold Cx at h;refine Aj hq [0,15,16,17,18] [8,30000,37006] ?_;refine gC h (fun h=>?_) (fun h=>?_)
  ·obtain⟨hc4,h⟩:=Aa h;refine gR hq [0,3,4,15,16,17] [8,30000,37006] [] [] (c1 hc4) ?_;obtain⟨x5,hx5,h⟩:=bind_some h;refine gR hq [0,15,16,17] [8,30000,37006] [] [(Z41 x5)] (c1 (Gs (a1.Params.getD i1.toNat 0) x5 hx5)) ?_;refine Jy (M8 (fun(k_:List (Int×AV)) u=>Et u [] [(8,.obj (.map true .i64 k_))]) (show(Gw (mapE Q79 l2) (A8 (i1+1)) (.agg [(Br x5.1),(Br x5.2),Wn,(.int .i64 (-1:Int))]))=(mapE Q79 (Gw l2 (A8 (i1+1)) (⟨x5,(⟨(0:Int),(-1:Int)⟩:Ez)⟩:Ac))) from(Zh (f:=Q79) (l:=l2) (v:=(⟨x5,(⟨(0:Int),(-1:Int)⟩:Ez)⟩:Ac)) rfl rfl))) ?_;refine Aj hq [0,15,16,17] [8,30000,37006] ?_;cases h;exact gN E9
  ·cases h;exact gO (Eb (Ej [0] [8,30000,37006] hq))
 ·clear hx6;refine gA ?_;refine Aj hq [0,37,38,39] [8,30000,37006] ?_;obtain⟨x25,hx25,h⟩:=bind_some h;refine gL hq hx25 [0,37,38,39] [8,30000,37006] (fun u (i8,l9,l10,i11,l12,i13,l14,l15)=>(Et u [(39,(Br i8))] [(8,.obj (.map true .i64 (mapE Q79 l9))),(Z7 l10 i11 l12 i13 l14 l15),(Tq l15.length)])) (fun u x_=>match x_ with|(.inl (l16,l17,i18,l19,i20,l21,l22))=>aG Γ (.exit 2) (⟨[],(Q80 l16 l17 i18 l19 i20 l21 l22),[]⟩:St)|(.inr r_)=>aR (Lu Γ a1 a7 a8 a4 r_)) ?_ ?_
  ·rintro⟨i8,l9,l10,i11,l12,i13,l14,l15⟩ y h;unfold B8 at h;refine Aj hq [0,37,38,39,40] [8,30000,37006] ?_;refine gC h (fun h=>?_) (fun h=>?_)
   ·obtain⟨hc23,h⟩:=Aa h;refine gR hq [0,5,6,37,38,39] [6,8,30000,37006] [] [] (c1 hc23) ?_;obtain⟨x24,hx24,h⟩:=bind_some h;refine gR hq [0,37,38,39,48] [8,30000,37006] [] [⟨[(30000,30000),(37006,37006),(8,9100005)],[],(.bool x24.1),[(Z1 x24.2.1.Params x24.2.1.Ret x24.2.1.Blocks x24.2.2.1 x24.2.2.2.1 9100005 x24.2.2.2.2.1),(Tq x24.2.2.2.2.1.length),(9100005,.obj (.map true .i64 (mapE Q79 x24.2.2.2.2.2)))],[]⟩] (c1 (Kn i8 (a1.Blocks.getD i8.toNat default) (⟨l10,i11,l12⟩:TFunc) i13 l14 l9 l15 x24 hx24)) ?_;refine gC h (fun h=>?_) (fun h=>?_)
    ·refine Aj hq [2] [8,30000,37006] ?_;refine Rt (⟨[(2,(.int .i64 (7:Int)))],[(8,.obj (.map true .i64 (mapE Q79 x24.2.2.2.2.2))),(Z7 x24.2.1.Params x24.2.1.Ret x24.2.1.Blocks x24.2.2.1 x24.2.2.2.1 x24.2.2.2.2.1),(Tq x24.2.2.2.2.1.length)],[]⟩:St) ?_;cases h;exact gO (Pg (J6 [(30000,30000),(37006,37006),(8,9200005)] (Le.trans (Zc (nm:=8) (.map false .i64 (mapE Q79 x24.2.2.2.2.2)) rfl (fun _ _ _ _ h_=>objAt_nn h_)) (Ej (st':=⟨[(2,(.int .i64 (7:Int)))],[(8,.obj (.map false .i64 (mapE Q79 x24.2.2.2.2.2))),(Z7 x24.2.1.Params x24.2.1.Ret x24.2.1.Blocks x24.2.2.1 x24.2.2.2.1 x24.2.2.2.2.1),(Tq x24.2.2.2.2.1.length)],[]⟩) [2] [8,30000,37006] hq))))
    ·refine Aj hq [0,37,38,39] [8,30000,37006] ?_;cases h;exact gN E9
   ·cases h;exact gO (Eb (Ej [] [8,30000,37006] hq))
  ·clear hx25;rcases x25 with⟨l16,l17,i18,l19,i20,l21,l22⟩|r27
   ·refine gA ?_;refine Aj hq [2] [8,30000,37006] ?_;refine Rt (⟨[(2,Wn)],(Q80 l16 l17 i18 l19 i20 l21 l22),[]⟩:St) ?_;cases h;exact gK (e:=.ret) (J6 [(30000,30000),(37006,37006),(8,9200005)] (Le.trans (Zc (nm:=8) (.map false .i64 (mapE Q79 l16)) rfl (fun _ _ _ _ h_=>objAt_nn h_)) (Ej (st':=⟨[(2,Wn)],[(8,.obj (.map false .i64 (mapE Q79 l16))),(Z7 l17 i18 l19 i20 l21 l22),(Tq l22.length)],[]⟩) [2] [8,30000,37006] hq)))
   ·refine R0 (fun st' hk=>?_);obtain rfl:=OI h;exact gK hk
def C8(aV:Int)(a1:TFunc)(a7:Int)(a8:List Int)(a6:List (Int×Ac))(a4:List Ah):Option (Ez×TFunc×Int×List Int×List Ah):=
 (Cs (Cg aV a1.Blocks.length) (some ((⟨aV,(((a1.Blocks.getD aV.toNat default).Ops).length:Int)⟩:Ez),a1,a7,a8,a4)))
theorem G9(aV:Int)(a1:TFunc)(a7:Int)(a8:List Int)(a6:List (Int×Ac))(a4:List Ah)(r:(Ez×TFunc×Int×List Int×List Ah))(h:C8 aV a1 a7 a8 a6 a4=some r):Spec Tryz.prog 89 [(.ptr 30000 0),(.int .i64 aV)] [(30000,.row 59 [(AV.list 1 Ag 0 a1.Params .none),(.int .i64 a1.Ret),(AV.list 5 Au default a1.Blocks .none),(.int .i64 a7),(AV.list 1 Ag 0 a8 .none),(.omap 9100005),(AV.list 5 Bz default a4 (.own 37006))]),(37006,.tok 5 104 a4.length),(9100005,.obj (.map false .i64 (mapE (fun(v_:Ac)=>((.agg (C3 v_)):AV)) a6)))] (.agg (T8 r.1)) [(30000,.row 59 [(AV.list 1 Ag 0 r.2.1.Params .none),(.int .i64 r.2.1.Ret),(AV.list 5 Au default r.2.1.Blocks .none),(.int .i64 r.2.2.1),(AV.list 1 Ag 0 r.2.2.2.1 .none),(.omap 9100005),(AV.list 5 Bz default r.2.2.2.2 (.own 37006))]),(37006,.tok 5 104 r.2.2.2.2.length),(9100005,.obj (.map false .i64 (mapE (fun(v_:Ac)=>((.agg (C3 v_)):AV)) a6)))]:=by
 refine Af mix Tryz.func89 (fun Γ hq=>?_);unfold C8 at h;refine Aj hq [0,1,4] [4,30000,37006,9100005] ?_;obtain⟨hc1,h⟩:=Aa h;refine gR hq [4] [4,30000,37006,9100005] [] [] (c1 hc1) ?_;cases h;exact Du [(30000,30000),(37006,37006),(9100005,9100005)]
def Cr(aE:Int)(aW:(Int×Int))(aH:Ez)(a1:TFunc)(a7:Int)(a8:List Int)(a6:List (Int×Ac))(a4:List Ah):Option (TFunc×Int×List Int×List Ah):=
 (Cs (a4.length+([(⟨aE,aW,aH⟩:Ah)]:List Ah).length≤room) (some (a1,a7,a8,(a4++([(⟨aE,aW,aH⟩:Ah)]:List Ah)))))
theorem Fq(aE:Int)(aW:(Int×Int))(aH:Ez)(a1:TFunc)(a7:Int)(a8:List Int)(a6:List (Int×Ac))(a4:List Ah)(r:(TFunc×Int×List Int×List Ah))(h:Cr aE aW aH a1 a7 a8 a6 a4=some r):Spec Tryz.prog 88 [(.ptr 30000 0),(.int .i64 aE),(.agg (A4 aW)),(.agg (T8 aH))] [(30000,.row 59 [(AV.list 1 Ag 0 a1.Params .none),(.int .i64 a1.Ret),(AV.list 5 Au default a1.Blocks .none),(.int .i64 a7),(AV.list 1 Ag 0 a8 .none),(.omap 9100005),(AV.list 5 Bz default a4 (.own 37006))]),(37006,.tok 5 104 a4.length),(9100005,.obj (.map false .i64 (mapE (fun(v_:Ac)=>((.agg (C3 v_)):AV)) a6)))] (.tuple []) [(30000,.row 59 [(AV.list 1 Ag 0 r.1.Params .none),(.int .i64 r.1.Ret),(AV.list 5 Au default r.1.Blocks .none),(.int .i64 r.2.1),(AV.list 1 Ag 0 r.2.2.1 .none),(.omap 9100005),(AV.list 5 Bz default r.2.2.2 (.own 37006))]),(37006,.tok 5 104 r.2.2.2.length),(9100005,.obj (.map false .i64 (mapE (fun(v_:Ac)=>((.agg (C3 v_)):AV)) a6)))]:=by
 refine Af mix Tryz.func88 (fun Γ hq=>?_);unfold Cr at h;refine Aj hq [0,1,6,7] [6,7,30000,37006,9100005] ?_;obtain⟨hc1,h⟩:=Aa h;refine gR hq [] [30000,37006,9100005] [(17,(AV.list 5 Bz default ([(⟨aE,aW,aH⟩:Ah)]:List Ah) .exact)),(18,(AV.list 5 Bz default (a4++([(⟨aE,aW,aH⟩:Ah)]:List Ah)) (.own 37006)))] [] (ci (Dy 5 Bz (default:Ah) ([(⟨aE,aW,aH⟩:Ah)]:List Ah)) (ci (Eq.refl a4.length) (ci hc1 (ci (av_appX 5 37006 Bz (default:Ah) a4 ([(⟨aE,aW,aH⟩:Ah)]:List Ah)) (c1 (Je a4 ([(⟨aE,aW,aH⟩:Ah)]:List Ah))))))) ?_;cases h;exact gK (e:=.normal) (J6 [(30000,30000),(37006,37006),(9100005,9100005)] (Le.refl _ _))
def Q81:List (Nat×AV):=[(2,Z19)]
def Hi(a0:D4):Option (List (Int×Int)):=
 ((H5 a0).bind fun x1=>(bif (!x1) then(some ([]:List (Int×Int))) else((Hk a0).bind fun x2=>(some x2))))
theorem Xa(a0:D4)(r:List ((Int×Int)))(h:Hi a0=some r):Spec Tryz.prog 90 [(.agg (Ky a0))] [] (AV.list 2 A4 ((0:Int),(0:Int)) r .none) []:=by
 refine Af mix Tryz.func90 (fun Γ hq=>?_);unfold Hi at h;refine gR hq [1] [1] Q81 [] (c1 (H0 2 A4 ((0:Int),(0:Int)))) ?_;obtain⟨x1,hx1,h⟩:=bind_some h;refine gR hq [1,5] [1] [] [(Z6 x1)] (c1 (Oe a0 x1 hx1)) ?_;refine gC h (fun h=>?_) (fun h=>?_)
 ·refine gR hq [2] [] Q81 [] (c1 (H0 2 A4 ((0:Int),(0:Int)))) ?_;refine Rt (⟨Q81,[],[]⟩:St) ?_;cases h;exact gK (e:=.ret) (J6 [] (show Le Γ _ (⟨[(2,(AV.list 2 A4 ((0:Int),(0:Int)) ([]:List (Int×Int)) .none))],[],[]⟩:St) from Le.trans (Ej (st':=⟨Q81,[],[]⟩) [2] [] hq) (M9 (.cons AVle.untag .nil) .nil)))
 ·obtain⟨x2,hx2,h⟩:=bind_some h;refine gR hq [2] [] [] [(Z4 x2)] (c1 (Pu a0 x2 hx2)) ?_;obtain rfl:=OI h;exact Du []
def B3(a1:TFunc)(a6:List (Int×Ac))(i1:Int)(i21:Int):(Int×List Int×Int×List Ab×Int×List Int×List Ah)→Option (LR (Int×List Int×Int×List Ab×Int×List Int×List Ah) (List Int×Int×List Ab×Int×List Int×List Ah)):=
 fun((i35,l36,i37,l38,i39,l40,l41):(Int×List Int×Int×List Ab×Int×List Int×List Ah))=>(bif (decide (i35<(((((a1.Blocks.getD i1.toNat default).Phis).getD i21.toNat default).Args).length:Int))) then(Cs (Cg i35 ((((a1.Blocks.getD i1.toNat default).Phis).getD i21.toNat default).Args).length) ((Cm ((((a1.Blocks.getD i1.toNat default).Phis).getD i21.toNat default).Bits)).bind fun x49=>(Cs (Cg i35 ((((a1.Blocks.getD i1.toNat default).Phis).getD i21.toNat default).From).length) ((C8 (((((a1.Blocks.getD i1.toNat default).Phis).getD i21.toNat default).From).getD i35.toNat 0) (⟨l36,i37,l38⟩:TFunc) i39 l40 a6 l41).bind fun x51=>((Cr (((((a1.Blocks.getD i1.toNat default).Phis).getD i21.toNat default).Args).getD i35.toNat 0) x49 x51.1 x51.2.1 x51.2.2.1 x51.2.2.2.1 a6 x51.2.2.2.2).bind fun x52=>(some (.next ((A8 (i35+1)),x52.1.Params,x52.1.Ret,x52.1.Blocks,x52.2.1,x52.2.2.1,x52.2.2.2)))))))) else(some (.done (l36,i37,l38,i39,l40,l41))))
def B4(a1:TFunc)(a6:List (Int×Ac))(i1:Int):(Int×List Int×Int×List Ab×Int×List Int×List Ah)→Option (LR (Int×List Int×Int×List Ab×Int×List Int×List Ah) (List Int×Int×List Ab×Int×List Int×List Ah)):=
 fun((i21,l22,i23,l24,i25,l26,l27):(Int×List Int×Int×List Ab×Int×List Int×List Ah))=>(bif (decide (i21<(((a1.Blocks.getD i1.toNat default).Phis).length:Int))) then(Cs (Cg i21 ((a1.Blocks.getD i1.toNat default).Phis).length) ((Ak (B3 a1 a6 i1 i21) ((0:Int),l22,i23,l24,i25,l26,l27)).bind (fun(l42,i43,l44,i45,l46,l47)=>(some (.next ((A8 (i21+1)),l42,i43,l44,i45,l46,l47)))))) else(some (.done (l22,i23,l24,i25,l26,l27))))
def B5(a1:TFunc)(a6:List (Int×Ac))(i1:Int)(i57:Int)(x71:List ((Int×Int))):(Int×List Int×Int×List Ab×Int×List Int×List Ah)→Option (LR (Int×List Int×Int×List Ab×Int×List Int×List Ah) (List Int×Int×List Ab×Int×List Int×List Ah)):=
 fun((i72,l73,i74,l75,i76,l77,l78):(Int×List Int×Int×List Ab×Int×List Int×List Ah))=>(bif (decide (i72<(x71.length:Int))) then(Cs (Cg i72 x71.length) (Cs (Cg i72 ((((a1.Blocks.getD i1.toNat default).Ops).getD i57.toNat default).Args).length) ((Cr (((((a1.Blocks.getD i1.toNat default).Ops).getD i57.toNat default).Args).getD i72.toNat 0) (x71.getD i72.toNat ((0:Int),(0:Int))) (⟨i1,i57⟩:Ez) (⟨l73,i74,l75⟩:TFunc) i76 l77 a6 l78).bind fun x87=>(some (.next ((A8 (i72+1)),x87.1.Params,x87.1.Ret,x87.1.Blocks,x87.2.1,x87.2.2.1,x87.2.2.2)))))) else(some (.done (l73,i74,l75,i76,l77,l78))))
def B6(a1:TFunc)(a6:List (Int×Ac))(i1:Int):(Int×List Int×Int×List Ab×Int×List Int×List Ah)→Option (LR (Int×List Int×Int×List Ab×Int×List Int×List Ah) (List Int×Int×List Ab×Int×List Int×List Ah)):=
 fun((i57,l58,i59,l60,i61,l62,l63):(Int×List Int×Int×List Ab×Int×List Int×List Ah))=>(bif (decide (i57<(((a1.Blocks.getD i1.toNat default).Ops).length:Int))) then(Cs (Cg i57 ((a1.Blocks.getD i1.toNat default).Ops).length) ((Hi (((a1.Blocks.getD i1.toNat default).Ops).getD i57.toNat default)).bind fun x71=>((Ak (B5 a1 a6 i1 i57 x71) ((0:Int),l58,i59,l60,i61,l62,l63)).bind (fun(l79,i80,l81,i82,l83,l84)=>(some (.next ((A8 (i57+1)),l79,i80,l81,i82,l83,l84))))))) else(some (.done (l58,i59,l60,i61,l62,l63))))
def B7(a1:TFunc)(a6:List (Int×Ac)):(Int×List Int×Int×List Ab×Int×List Int×List Ah)→Option (LR (Int×List Int×Int×List Ab×Int×List Int×List Ah) (List Int×Int×List Ab×Int×List Int×List Ah)):=
 fun((i1,l2,i3,l4,i5,l6,l7):(Int×List Int×Int×List Ab×Int×List Int×List Ah))=>(bif (decide (i1<(a1.Blocks.length:Int))) then(Option.bind (α:=(List Int×Int×List Ab×Int×List Int×List Ah)) (Cs (Cg i1 a1.Blocks.length) ((Ak (B4 a1 a6 i1) ((0:Int),l2,i3,l4,i5,l6,l7)).bind (fun x55=>(match x55 with|(l28,i29,l30,i31,l32,l33)=>((Ak (B6 a1 a6 i1) ((0:Int),l28,i29,l30,i31,l32,l33)).bind (fun x90=>(match x90 with|(l64,i65,l66,i67,l68,l69)=>(bif (((a1.Blocks.getD i1.toNat default).End.Kind:Int)==0) then((Cm i65).bind fun x92=>((C8 i1 (⟨l64,i65,l66⟩:TFunc) i67 l68 a6 l69).bind fun x93=>((Cr ((a1.Blocks.getD i1.toNat default).End.Arg) x92 x93.1 x93.2.1 x93.2.2.1 x93.2.2.2.1 a6 x93.2.2.2.2).bind fun x94=>(some (x94.1.Params,x94.1.Ret,x94.1.Blocks,x94.2.1,x94.2.2.1,x94.2.2.2))))) else(bif (((a1.Blocks.getD i1.toNat default).End.Kind:Int)==2) then((Cm (1:Int)).bind fun x95=>((C8 i1 (⟨l64,i65,l66⟩:TFunc) i67 l68 a6 l69).bind fun x96=>((Cr ((a1.Blocks.getD i1.toNat default).End.Arg) x95 x96.1 x96.2.1 x96.2.2.1 x96.2.2.2.1 a6 x96.2.2.2.2).bind fun x97=>(some (x97.1.Params,x97.1.Ret,x97.1.Blocks,x97.2.1,x97.2.2.1,x97.2.2.2))))) else(some (l64,i65,l66,i67,l68,l69))))))))))) (fun x98=>(match x98 with|(l14,i15,l16,i17,l18,l19)=>(some (.next ((A8 (i1+1)),l14,i15,l16,i17,l18,l19)))))) else(some (.done (l2,i3,l4,i5,l6,l7))))
def Q83(a1:TFunc)(i1:Int):=(a1.Blocks.getD i1.toNat default)
def Q82(a6:List (Int×Ac)):=(mapE (fun(v_:Ac)=>((Wo v_):AV)) a6)
def Dm(a1:TFunc)(a7:Int)(a8:List Int)(a6:List (Int×Ac))(a4:List Ah):Option (TFunc×Int×List Int×List Ah):=
 ((Ak (B7 a1 a6) ((0:Int),a1.Params,a1.Ret,a1.Blocks,a7,a8,a4)).bind (fun(l8,i9,l10,i11,l12,l13)=>(some ((⟨l8,i9,l10⟩:TFunc),i11,l12,l13))))
theorem Lk(a1:TFunc)(a7:Int)(a8:List Int)(a6:List (Int×Ac))(a4:List Ah)(r:(TFunc×Int×List Int×List Ah))(h:Dm a1 a7 a8 a6 a4=some r):Spec Tryz.prog 60 [(.ptr 30000 0)] [(30000,.row 59 [(AV.list 1 Ag 0 a1.Params .none),(.int .i64 a1.Ret),(AV.list 5 Au default a1.Blocks .none),(.int .i64 a7),(AV.list 1 Ag 0 a8 .none),(.omap 9100005),(AV.list 5 Bz default a4 (.own 37006))]),(37006,.tok 5 104 a4.length),(9100005,.obj (.map false .i64 (mapE (fun(v_:Ac)=>((.agg (C3 v_)):AV)) a6)))] (.tuple []) [(30000,.row 59 [(AV.list 1 Ag 0 r.1.Params .none),(.int .i64 r.1.Ret),(AV.list 5 Au default r.1.Blocks .none),(.int .i64 r.2.1),(AV.list 1 Ag 0 r.2.2.1 .none),(.omap 9100005),(AV.list 5 Bz default r.2.2.2 (.own 37006))]),(37006,.tok 5 104 r.2.2.2.length),(9100005,.obj (.map false .i64 (mapE (fun(v_:Ac)=>((.agg (C3 v_)):AV)) a6)))]:=by
 refine Af mix Tryz.func60 (fun Γ hq=>?_);unfold Dm at h;refine Aj hq [0,16,17,18] [30000,37006,9100005] ?_;obtain⟨x100,hx100,h⟩:=bind_some h;refine gL hq hx100 [0,16,17,18] [30000,37006,9100005] (fun u (i1,l2,i3,l4,i5,l6,l7)=>(Et u [(18,(Br i1))] (Z8 l2 i3 l4 i5 l6 l7 l7.length))) (fun u (l8,i9,l10,i11,l12,l13)=>aG Γ (.exit 0) (Px [] [30000,37006,9100005] u [] (Z8 l8 i9 l10 i11 l12 l13 l13.length))) ?_ ?_
 ·rintro⟨i1,l2,i3,l4,i5,l6,l7⟩ y h;unfold B7 at h;refine Aj hq [0,16,17,18,19] [30000,37006,9100005] ?_;refine gC h (fun h=>?_) (fun h=>?_)
  ·obtain⟨x98,hx98,h⟩:=bind_some h;refine gJ hx98 (fun(l14,i15,l16,i17,l18,l19)=>aG Γ .normal (⟨[(0,(.ptr 30000 0)),(16,(Z20 a1.Blocks)),(17,(Z48 a1.Blocks.length)),(18,(Br i1))],(Z5 l14 i15 l16 i17 l18 9100005 l19 l19.length (Q82 a6)),[]⟩:St)) ?_ ?_
   ·clear h hx98;intro y h;obtain⟨hc20,h⟩:=Aa h;refine gR hq [0,2,3,16,17,18] [3,30000,37006,9100005] [] [] (c1 hc20) ?_;refine Aj hq [0,2,3,16,17,18,24,25,26] [3,30000,37006,9100005] ?_;obtain⟨x55,hx55,h⟩:=bind_some h;refine gL hq hx55 [0,2,3,16,17,18,24,25,26] [3,30000,37006,9100005] (fun u (i21,l22,i23,l24,i25,l26,l27)=>(Et u [(26,(Br i21))] (Z8 l22 i23 l24 i25 l26 l27 l27.length))) (fun u (l28,i29,l30,i31,l32,l33)=>aG Γ (.exit 2) (Px [0,2,3,16,17,18] [3,30000,37006,9100005] u [] (Z8 l28 i29 l30 i31 l32 l33 l33.length))) ?_ ?_
    ·rintro⟨i21,l22,i23,l24,i25,l26,l27⟩ y h;unfold B4 at h;refine Aj hq [0,2,3,16,17,18,24,25,26,27] [3,30000,37006,9100005] ?_;refine gC h (fun h=>?_) (fun h=>?_)
     ·obtain⟨hc34,h⟩:=Aa h;refine gR hq [0,2,3,5,16,17,18,24,25,26] [3,5,30000,37006,9100005] [] [] (c1 hc34) ?_;refine Aj hq [0,2,3,5,16,17,18,24,25,26,31,32,33] [3,5,30000,37006,9100005] ?_;obtain⟨x53,hx53,h⟩:=bind_some h;refine gL hq hx53 [0,2,3,5,16,17,18,24,25,26,31,32,33] [3,5,30000,37006,9100005] (fun u (i35,l36,i37,l38,i39,l40,l41)=>(Et u [(33,(Br i35))] (Z8 l36 i37 l38 i39 l40 l41 l41.length))) (fun u (l42,i43,l44,i45,l46,l47)=>aG Γ (.exit 4) (Px [0,2,3,16,17,18,24,25,26] [3,30000,37006,9100005] u [] (Z8 l42 i43 l44 i45 l46 l47 l47.length))) ?_ ?_
      ·rintro⟨i35,l36,i37,l38,i39,l40,l41⟩ y h;unfold B3 at h;refine Aj hq [0,2,3,5,16,17,18,24,25,26,31,32,33,34] [3,5,30000,37006,9100005] ?_;refine gC h (fun h=>?_) (fun h=>?_)
       ·obtain⟨hc48,h⟩:=Aa h;refine gR hq [0,2,3,5,6,7,16,17,18,24,25,26,31,32,33] [3,5,30000,37006,9100005] [] [] (c1 hc48) ?_;obtain⟨x49,hx49,h⟩:=bind_some h;obtain⟨hc50,h⟩:=Aa h;obtain⟨x51,hx51,h⟩:=bind_some h;obtain⟨x52,hx52,h⟩:=bind_some h;refine gR hq [0,2,3,5,16,17,18,24,25,26,31,32,33] [3,5,30000,37006,9100005] [] [(Z41 x49),(Z24 x51.1 x51.2.1.Params x51.2.1.Ret x51.2.1.Blocks x51.2.2.1 x51.2.2.2.1 x51.2.2.2.2 x51.2.2.2.2.length (Q82 a6)),(Z15 x52.1.Params x52.1.Ret x52.1.Blocks x52.2.1 x52.2.2.1 x52.2.2.2 x52.2.2.2.length (Q82 a6))] (ci (Gs ((((Q83 a1 i1).Phis).getD i21.toNat default).Bits) x49 hx49) (ci hc50 (ci (G9 (((((Q83 a1 i1).Phis).getD i21.toNat default).From).getD i35.toNat 0) (⟨l36,i37,l38⟩:TFunc) i39 l40 a6 l41 x51 hx51) (c1 (Fq (((((Q83 a1 i1).Phis).getD i21.toNat default).Args).getD i35.toNat 0) x49 x51.1 x51.2.1 x51.2.2.1 x51.2.2.2.1 a6 x51.2.2.2.2 x52 hx52))))) ?_;refine Aj hq [0,2,3,5,16,17,18,24,25,26,31,32,33] [3,5,30000,37006,9100005] ?_;cases h;exact gN E9
       ·cases h;exact gO (Eb (Ej [0,2,3,16,17,18,24,25,26] [3,30000,37006,9100005] hq))
      ·clear hx53;rcases x53 with⟨l42,i43,l44,i45,l46,l47⟩;refine gA ?_;refine Aj hq [0,2,3,16,17,18,24,25,26] [3,30000,37006,9100005] ?_;cases h;exact gN E9
     ·cases h;exact gO (Eb (Ej [0,2,3,16,17,18] [3,30000,37006,9100005] hq))
    ·clear hx55;rcases x55 with⟨l28,i29,l30,i31,l32,l33⟩;refine gA ?_;refine Aj hq [0,2,3,16,17,18,54,55,56] [3,30000,37006,9100005] ?_;obtain⟨x90,hx90,h⟩:=bind_some h;refine gL hq hx90 [0,2,3,16,17,18,54,55,56] [3,30000,37006,9100005] (fun u (i57,l58,i59,l60,i61,l62,l63)=>(Et u [(56,(Br i57))] (Z8 l58 i59 l60 i61 l62 l63 l63.length))) (fun u (l64,i65,l66,i67,l68,l69)=>aG Γ (.exit 6) (Px [0,2,3,16,17,18] [3,30000,37006,9100005] u [] (Z8 l64 i65 l66 i67 l68 l69 l69.length))) ?_ ?_
     ·rintro⟨i57,l58,i59,l60,i61,l62,l63⟩ y h;unfold B6 at h;refine Aj hq [0,2,3,16,17,18,54,55,56,57] [3,30000,37006,9100005] ?_;refine gC h (fun h=>?_) (fun h=>?_)
      ·obtain⟨hc70,h⟩:=Aa h;refine gR hq [0,2,3,8,9,16,17,18,54,55,56] [3,9,30000,37006,9100005] [] [] (c1 hc70) ?_;obtain⟨x71,hx71,h⟩:=bind_some h;refine gR hq [0,2,3,8,9,16,17,18,54,55,56,62,63,64] [3,9,30000,37006,9100005] [] [(Z4 x71)] (c1 (Xa (((Q83 a1 i1).Ops).getD i57.toNat default) x71 hx71)) ?_;obtain⟨x88,hx88,h⟩:=bind_some h;refine gL hq hx88 [0,2,3,8,9,16,17,18,54,55,56,62,63,64] [3,9,30000,37006,9100005] (fun u (i72,l73,i74,l75,i76,l77,l78)=>(Et u [(64,(Br i72))] (Z8 l73 i74 l75 i76 l77 l78 l78.length))) (fun u (l79,i80,l81,i82,l83,l84)=>aG Γ (.exit 8) (Px [0,2,3,16,17,18,54,55,56] [3,30000,37006,9100005] u [] (Z8 l79 i80 l81 i82 l83 l84 l84.length))) ?_ ?_
       ·rintro⟨i72,l73,i74,l75,i76,l77,l78⟩ y h;unfold B5 at h;refine Aj hq [0,2,3,8,9,16,17,18,54,55,56,62,63,64,65] [3,9,30000,37006,9100005] ?_;refine gC h (fun h=>?_) (fun h=>?_)
        ·obtain⟨hc85,h⟩:=Aa h;refine gR hq [0,2,3,8,9,10,11,16,17,18,54,55,56,62,63,64] [3,9,11,30000,37006,9100005] [] [] (c1 hc85) ?_;obtain⟨hc86,h⟩:=Aa h;obtain⟨x87,hx87,h⟩:=bind_some h;refine gR hq [0,2,3,8,9,16,17,18,54,55,56,62,63,64] [3,9,30000,37006,9100005] [] [(Z15 x87.1.Params x87.1.Ret x87.1.Blocks x87.2.1 x87.2.2.1 x87.2.2.2 x87.2.2.2.length (Q82 a6))] (ci hc86 (c1 (Fq (((((Q83 a1 i1).Ops).getD i57.toNat default).Args).getD i72.toNat 0) (x71.getD i72.toNat ((0:Int),(0:Int))) (⟨i1,i57⟩:Ez) (⟨l73,i74,l75⟩:TFunc) i76 l77 a6 l78 x87 hx87))) ?_;refine Aj hq [0,2,3,8,9,16,17,18,54,55,56,62,63,64] [3,9,30000,37006,9100005] ?_;cases h;exact gN E9
        ·cases h;exact gO (Eb (Ej [0,2,3,16,17,18,54,55,56] [3,30000,37006,9100005] hq))
       ·clear hx88;rcases x88 with⟨l79,i80,l81,i82,l83,l84⟩;refine gA ?_;refine Aj hq [0,2,3,16,17,18,54,55,56] [3,30000,37006,9100005] ?_;cases h;exact gN E9
      ·cases h;exact gO (Eb (Ej [0,2,3,16,17,18] [3,30000,37006,9100005] hq))
     ·clear hx90;rcases x90 with⟨l64,i65,l66,i67,l68,l69⟩;refine gA ?_;refine Aj hq [0,2,3,16,17,18,84] [3,30000,37006,9100005] ?_;refine Aj hq [0,2,3,16,17,18,84,85] [3,30000,37006,9100005] ?_;refine gC h (fun h=>?_) (fun h=>?_)
      ·obtain⟨x92,hx92,h⟩:=bind_some h;obtain⟨x93,hx93,h⟩:=bind_some h;obtain⟨x94,hx94,h⟩:=bind_some h;refine gR hq [0,16,17,18] [30000,37006,9100005] [] [(Z41 x92),(Z24 x93.1 x93.2.1.Params x93.2.1.Ret x93.2.1.Blocks x93.2.2.1 x93.2.2.2.1 x93.2.2.2.2 x93.2.2.2.2.length (Q82 a6)),(Z15 x94.1.Params x94.1.Ret x94.1.Blocks x94.2.1 x94.2.2.1 x94.2.2.2 x94.2.2.2.length (Q82 a6))] (ci (Gs i65 x92 hx92) (ci (G9 i1 (⟨l64,i65,l66⟩:TFunc) i67 l68 a6 l69 x93 hx93) (c1 (Fq ((Q83 a1 i1).End.Arg) x92 x93.1 x93.2.1 x93.2.2.1 x93.2.2.2.1 a6 x93.2.2.2.2 x94 hx94)))) ?_;cases h;exact gK (Eb E9)
      ·refine Aj hq [0,2,3,16,17,18,101] [3,30000,37006,9100005] ?_;refine gC h (fun h=>?_) (fun h=>?_)
       ·obtain⟨x95,hx95,h⟩:=bind_some h;obtain⟨x96,hx96,h⟩:=bind_some h;obtain⟨x97,hx97,h⟩:=bind_some h;refine gR hq [0,16,17,18] [30000,37006,9100005] [] [(Z41 x95),(Z24 x96.1 x96.2.1.Params x96.2.1.Ret x96.2.1.Blocks x96.2.2.1 x96.2.2.2.1 x96.2.2.2.2 x96.2.2.2.2.length (Q82 a6)),(Z15 x97.1.Params x97.1.Ret x97.1.Blocks x97.2.1 x97.2.2.1 x97.2.2.2 x97.2.2.2.length (Q82 a6))] (ci (Gs (1:Int) x95 hx95) (ci (G9 i1 (⟨l64,i65,l66⟩:TFunc) i67 l68 a6 l69 x96 hx96) (c1 (Fq ((Q83 a1 i1).End.Arg) x95 x96.1 x96.2.1 x96.2.2.1 x96.2.2.2.1 a6 x96.2.2.2.2 x97 hx97)))) ?_;cases h;exact gK (Eb E9)
       ·cases h;exact gK (Eb (Ej [0,16,17,18] [30000,37006,9100005] hq))
   ·clear hx98;rcases x98 with⟨l14,i15,l16,i17,l18,l19⟩;refine gA ?_;refine Aj hq [0,16,17,18] [30000,37006,9100005] ?_;cases h;exact gN E9
  ·cases h;exact gO (Eb (Ej [] [30000,37006,9100005] hq))
 ·clear hx100;rcases x100 with⟨l8,i9,l10,i11,l12,l13⟩;refine gA' (fun st' hl101=>?_);cases h;exact gK (e:=.normal) (J6 [(30000,30000),(37006,37006),(9100005,9100005)] hl101)
def Er(aK:Ah)(a1:TFunc)(a7:Int)(a8:List Int)(a6:List (Int×Ac))(a4:List Ah):Option (Bool×TFunc×Int×List Int×List Ah):=
 (some ((D6 a6 aK.v),a1,a7,a8,a4))
theorem Ln(aK:Ah)(a1:TFunc)(a7:Int)(a8:List Int)(a6:List (Int×Ac))(a4:List Ah)(r:(Bool×TFunc×Int×List Int×List Ah))(h:Er aK a1 a7 a8 a6 a4=some r):Spec Tryz.prog 61 [(.ptr 30000 0),(.agg (Bz aK))] [(30000,.row 59 [(AV.list 1 Ag 0 a1.Params .none),(.int .i64 a1.Ret),(AV.list 5 Au default a1.Blocks .none),(.int .i64 a7),(AV.list 1 Ag 0 a8 .none),(.omap 9100005),(AV.list 5 Bz default a4 (.own 37006))]),(37006,.tok 5 104 a4.length),(9100005,.obj (.map false .i64 (mapE (fun(v_:Ac)=>((.agg (C3 v_)):AV)) a6)))] (.bool r.1) [(30000,.row 59 [(AV.list 1 Ag 0 r.2.1.Params .none),(.int .i64 r.2.1.Ret),(AV.list 5 Au default r.2.1.Blocks .none),(.int .i64 r.2.2.1),(AV.list 1 Ag 0 r.2.2.2.1 .none),(.omap 9100005),(AV.list 5 Bz default r.2.2.2.2 (.own 37006))]),(37006,.tok 5 104 r.2.2.2.2.length),(9100005,.obj (.map false .i64 (mapE (fun(v_:Ac)=>((.agg (C3 v_)):AV)) a6)))]:=by
 refine Af mix Tryz.func61 (fun Γ hq=>?_);unfold Er at h;refine Aj hq [0,3] [3,30000,37006,9100005] ?_;refine gR hq [6] [30000,37006,9100005] [(14,(.tuple [(Z17 a6 aK.v),(.bool (D6 a6 aK.v))]))] [] (c1 (show(AVle (.tuple [Dh Z13 (mapE (fun(v_:Ac)=>((Wo v_):AV)) a6) aK.v,.bool (D6 (mapE (fun(v_:Ac)=>((Wo v_):AV)) a6) aK.v)]) (.tuple [(Z17 a6 aK.v),(.bool (D6 a6 aK.v))])) from(mlook_le (f:=(fun(v_:Ac)=>((Wo v_):AV))) (l:=a6) (AVle.refl _) rfl))) ?_;refine Aj hq [4] [30000,37006,9100005] ?_;cases h;exact Du [(30000,30000),(37006,37006),(9100005,9100005)]
def Fp(aK:Ah)(a1:TFunc)(a7:Int)(a8:List Int)(a6:List (Int×Ac))(a4:List Ah):Option (Bool×TFunc×Int×List Int×List Ah):=
 (some (((((Dh (default:Ac) a6 aK.v).shape.1:Int)==aK.shape.1)&&((((Dh (default:Ac) a6 aK.v).shape.2:Int)==aK.shape.2)&&true)),a1,a7,a8,a4))
theorem Nl(aK:Ah)(a1:TFunc)(a7:Int)(a8:List Int)(a6:List (Int×Ac))(a4:List Ah)(r:(Bool×TFunc×Int×List Int×List Ah))(h:Fp aK a1 a7 a8 a6 a4=some r):Spec Tryz.prog 62 [(.ptr 30000 0),(.agg (Bz aK))] [(30000,.row 59 [(AV.list 1 Ag 0 a1.Params .none),(.int .i64 a1.Ret),(AV.list 5 Au default a1.Blocks .none),(.int .i64 a7),(AV.list 1 Ag 0 a8 .none),(.omap 9100005),(AV.list 5 Bz default a4 (.own 37006))]),(37006,.tok 5 104 a4.length),(9100005,.obj (.map false .i64 (mapE (fun(v_:Ac)=>((.agg (C3 v_)):AV)) a6)))] (.bool r.1) [(30000,.row 59 [(AV.list 1 Ag 0 r.2.1.Params .none),(.int .i64 r.2.1.Ret),(AV.list 5 Au default r.2.1.Blocks .none),(.int .i64 r.2.2.1),(AV.list 1 Ag 0 r.2.2.2.1 .none),(.omap 9100005),(AV.list 5 Bz default r.2.2.2.2 (.own 37006))]),(37006,.tok 5 104 r.2.2.2.2.length),(9100005,.obj (.map false .i64 (mapE (fun(v_:Ac)=>((.agg (C3 v_)):AV)) a6)))]:=by
 refine Af mix Tryz.func62 (fun Γ hq=>?_);unfold Fp at h;refine Aj hq [0,3] [3,30000,37006,9100005] ?_;refine gR hq [4] [30000,37006,9100005] [(11,(Z17 a6 aK.v))] [] (c1 (show(AVle (Dh Z13 (mapE (fun(v_:Ac)=>((Wo v_):AV)) a6) aK.v) (Z17 a6 aK.v)) from(Uc (f:=(fun(v_:Ac)=>((Wo v_):AV))) (l:=a6) (AVle.refl _) rfl))) ?_;cases h;exact Du [(30000,30000),(37006,37006),(9100005,9100005)]
def Bg(aX:List Int)(aE:Int):Int→Option (LR Int (Unit ⊕ Int)):=
 fun(i1:Int)=>(bif (decide (i1<(aX.length:Int))) then(Cs (Cg i1 aX.length) (bif (aE==(aX.getD i1.toNat 0)) then(some (.done (.inr i1))) else(some (.next (A8 (i1+1)))))) else(some (.done (.inl ()))))
def Mb(Γ:Ga)(aX:List Int)(aE:Int)(r:Int):Exit→St→Prop:=fK Tryz.prog Γ Tryz.f139.results.toList [] (.int .i64 r) []
def C6(aX:List Int)(aE:Int):Option Int:=
 ((Ak (Bg aX aE) (0:Int)).bind (fun x3=>(match x3 with|(.inl _)=>(some (-1:Int))|(.inr r5)=>(some r5))))
theorem L3(aX:List Int)(aE:Int)(r:Int)(h:C6 aX aE=some r):Spec Tryz.prog 139 [(AV.list 1 Ag 0 aX .none),(.int .i64 aE)] [] (.int .i64 r) []:=by
 refine Af mix Tryz.func139 (fun Γ hq=>?_);unfold C6 at h;refine Aj hq [0,1] [] ?_;refine Aj hq [0,1,7,8] [] ?_;obtain⟨x3,hx3,h⟩:=bind_some h;refine gL hq hx3 [0,1,7,8] [] (fun u i1=>(Et u [(8,(Br i1))] [])) (fun u x_=>match x_ with|(.inl _)=>aG Γ (.exit 0) (⟨[],[],[]⟩:St)|(.inr r_)=>aR (Mb Γ aX aE r_)) ?_ ?_
 ·intro i1 y h;unfold Bg at h;refine Aj hq [0,1,7,8,9] [] ?_;refine gC h (fun h=>?_) (fun h=>?_)
  ·refine Aj hq [0,1,5,7,8] [] ?_;obtain⟨hc2,h⟩:=Aa h;refine gR hq [0,1,5,7,8,16] [] [] [] (c1 hc2) ?_;refine gC h (fun h=>?_) (fun h=>?_)
   ·refine Aj hq [4] [] ?_;cases h;exact gO (Pg (J6 [] (Le.refl _ _)))
   ·refine Aj hq [0,1,7,8] [] ?_;cases h;exact gN E9
  ·cases h;exact gO (Eb (Ej [] [] hq))
 ·clear hx3;rcases x3 with _|r5
  ·refine gA ?_;refine Aj hq [4] [] ?_;cases h;exact Du []
  ·refine R0 (fun st' hk=>?_);obtain rfl:=OI h;exact gK hk
def Fu(a5:List Int)(aH:Int):Option Bool:=
 (some (bif (decide (((0:Int):Int)≤aH)) then(decide (aH<(a5.length:Int))) else false))
theorem Ob(a5:List Int)(aH:Int)(r:Bool)(h:Fu a5 aH=some r):Spec Tryz.prog 141 [(AV.list 1 Ag 0 a5 .none),(.int .i64 aH)] [] (.bool r) []:=by
 refine Af mix Tryz.func141 (fun Γ hq=>?_);unfold Fu at h;refine Aj hq [0,1] [] ?_;refine gR hq [4] [] [] [] (ci (gI ((decide (((0:Int):Int)≤aH))==true)) (ci (gI ((decide (((0:Int):Int)≤aH))==true)) (ci (gI ((decide (((0:Int):Int)≤aH))==true)) (c1 (Kx (decide (((0:Int):Int)≤aH))))))) ?_;cases h;exact Du []
def Cc(a5:List Int)(aa0:Int)(aS:Int):(Int×List Int)→Option (LR (Int×List Int) (List Int ⊕ (Bool×List Int))):=
 fun((i1,l2):(Int×List Int))=>(bif (i1 !=aS) then(Cs (Cg i1 l2.length) (bif (((l2.getD i1.toNat 0):Int)!=0) then(Cs (Cg i1 l2.length) (some (.done (.inr ((((l2.getD i1.toNat 0):Int)!=(A8 (aa0+1))),l2))))) else(Cs (Cg i1 a5.length) ((Fu a5 (a5.getD i1.toNat 0)).bind fun x7=>(bif (!x7) then(some (.done (.inr (false,l2)))) else(Cs (Cg i1 l2.length) (Cs (Cg i1 a5.length) (some (.next ((a5.getD i1.toNat 0),(l2.set i1.toNat (A8 (aa0+1))))))))))))) else(some (.done (.inl l2))))
def K_dom_leads(Γ:Ga)(a5:List Int)(aa5:List Int)(aa0:Int)(aS:Int)(r:(Bool×List Int)):Exit→St→Prop:=fK Tryz.prog Γ Tryz.f140.results.toList [(Z2 34001 aa5)] (.bool r.1) [(Z2 34001 r.2)]
def Jk(a5:List Int)(aa5:List Int)(aa0:Int)(aS:Int):Option (Bool×List Int):=
 ((Ak (Cc a5 aa0 aS) (aa0,aa5)).bind (fun x10=>(match x10 with|(.inl l3)=>(some (true,l3))|(.inr r12)=>(some r12))))
theorem Zl(a5:List Int)(aa5:List Int)(aa0:Int)(aS:Int)(r:(Bool×List Int))(h:Jk a5 aa5 aa0 aS=some r):Spec Tryz.prog 140 [(AV.list 1 Ag 0 a5 .none),(.vsl 34001 aa5.length),(.int .i64 aa0),(.int .i64 aS)] [(34001,.arr 1 3 aa5.length (fun i=>Ag (aa5.getD i 0)))] (.bool r.1) [(34001,.arr 1 3 r.2.length (fun i=>Ag (r.2.getD i 0)))]:=by
 refine Af mix Tryz.func140 (fun Γ hq=>?_);unfold Jk at h;refine Aj hq [0,1,2,3] [34001] ?_;refine Aj hq [0,1,2,3,9] [34001] ?_;refine Aj hq [0,1,3,9,10] [34001] ?_;obtain⟨x10,hx10,h⟩:=bind_some h;refine gL hq hx10 [0,1,3,9,10] [34001] (fun u (i1,l2)=>(Et u [(1,(.vsl 34001 l2.length)),(10,(Br i1))] [(Z2 34001 l2)])) (fun u x_=>match x_ with|(.inl l3)=>aG Γ (.exit 0) (⟨[],[(Z2 34001 l3)],[]⟩:St)|(.inr r_)=>aR (K_dom_leads Γ a5 aa5 aa0 aS r_)) ?_ ?_
 ·rintro⟨i1,l2⟩ y h;unfold Cc at h;refine Aj hq [0,1,3,9,10,16] [34001] ?_;refine gC h (fun h=>?_) (fun h=>?_)
  ·obtain⟨hc4,h⟩:=Aa h;refine gR hq [0,1,3,9,10,25] [34001] [] [] (ci hc4 (c1 (Eq.refl l2.length))) ?_;refine gC h (fun h=>?_) (fun h=>?_)
   ·obtain⟨hc5,h⟩:=Aa h;refine gR hq [8] [34001] [] [] (ci hc5 (c1 (Eq.refl l2.length))) ?_;cases h;exact gO (Pg (J6 [(34001,34001)] (Le.refl _ _)))
   ·obtain⟨hc6,h⟩:=Aa h;obtain⟨x7,hx7,h⟩:=bind_some h;refine gR hq [0,1,3,9,10,38] [34001] [] [(Z6 x7)] (ci hc6 (c1 (Ob a5 (a5.getD i1.toNat 0) x7 hx7))) ?_;refine gC h (fun h=>?_) (fun h=>?_)
    ·refine Aj hq [8] [34001] ?_;cases h;exact gO (Pg (J6 [(34001,34001)] (Le.refl _ _)))
    ·obtain⟨hc8,h⟩:=Aa h;refine gR hq [0,1,3,9,10] [34001] [] [] (ci hc8 (c1 (Eq.refl l2.length))) ?_;refine Jy (Le.trans (Ph 34001 (show ∀ k_,k_<l2.length→AVleL ((fun i_=>AV.eraseAll (fun n_=>Cu n_ [34001]) ((Ip (fun i=>Ag (l2.getD i 0)) i1.toNat 0 [(.int .i64 (A8 (aa0+1)))]) i_)) k_) ((fun i=>Ag ((l2.set i1.toNat (A8 (aa0+1))).getD i 0)) k_) from(Bx (List.length_set ..).symm (fun k_ hk_=>(congrArg (AV.eraseAll (fun n_=>Cu n_ [34001])) ((Hz (fun _ _=>rfl) (Jd hc8) rfl) k_ hk_)).trans rfl)))) (M8 (fun(k_:Nat) u=>(Et u [(1,(.vsl 34001 k_))] [(34001,.arr 1 3 k_ (fun i=>Ag ((l2.set i1.toNat (A8 (aa0+1))).getD i 0)))])) (show l2.length=(l2.set i1.toNat (A8 (aa0+1))).length from(List.length_set ..).symm))) ?_;obtain⟨hc9,h⟩:=Aa h;refine gR hq [0,1,3,9,10] [34001] [] [] (c1 hc9) ?_;cases h;exact gN E9
  ·cases h;exact gO (Eb (Ej [] [34001] hq))
 ·clear hx10;rcases x10 with l3|r12
  ·refine gA ?_;refine Aj hq [8] [34001] ?_;cases h;exact Du [(34001,34001)]
  ·refine R0 (fun st' hk=>?_);obtain rfl:=OI h;exact gK hk
def Di(a5:List Int)(x1:Int):(Int×List Int)→Option (LR (Int×List Int) (Unit ⊕ Bool)):=
 fun((i3,l4):(Int×List Int))=>(bif (decide (i3<(a5.length:Int))) then(Cs (Cg i3 a5.length) ((bif ((((a5.getD i3.toNat 0):Int)!=-2)==true) then Jk a5 l4 i3 x1 else some (false,[])).bind fun x6=>(Cs (((((a5.getD i3.toNat 0):Int)!=-2)==true)=true→(l4.length=x6.2.length)) (bif (bif (((a5.getD i3.toNat 0):Int)!=-2) then(!x6.1) else false) then(some (.done (.inr false))) else(some (.next ((A8 (i3+1)),(bif ((((a5.getD i3.toNat 0):Int)!=-2)==true) then x6.2 else l4)))))))) else(some (.done (.inl ()))))
def Yt(Γ:Ga)(a5:List Int)(r:Bool):Exit→St→Prop:=fK Tryz.prog Γ Tryz.f123.results.toList [] (.bool r) []
def Q86(a5:List Int)(i3:Int):=((((a5.getD i3.toNat 0):Int)!=-2)==true)
def Ik(a5:List Int):Option Bool:=
 ((C6 a5 (-1:Int)).bind fun x1=>(bif (decide (x1<0)) then(some false) else(Cs (0≤(a5.length:Int)∧(a5.length:Int)≤(a5.length:Int)∧(a5.length:Int)≤(room:Int)) ((Ak (Di a5 x1) ((0:Int),(List.replicate (a5.length:Int).toNat (0:Int)))).bind (fun x8=>(match x8 with|(.inl _)=>(some true)|(.inr r10)=>(some r10)))))))
theorem W5(a5:List Int)(r:Bool)(h:Ik a5=some r):Spec Tryz.prog 123 [(AV.list 1 Ag 0 a5 .none)] [] (.bool r) []:=by
 refine Af mix Tryz.func123 (fun Γ hq=>?_);unfold Ik at h;refine Aj hq [0] [] ?_;obtain⟨x1,hx1,h⟩:=bind_some h;refine gR hq [0,3] [] [] [(Z45 x1)] (c1 (L3 a5 (-1:Int) x1 hx1)) ?_;refine Aj hq [0,3,9] [] ?_;refine gC h (fun h=>?_) (fun h=>?_)
 ·refine Aj hq [2] [] ?_;obtain rfl:=OI h;exact Du []
 ·obtain⟨hc2,h⟩:=Aa h;refine gR hq [0,3,4] [12] [] [] (c1 hc2) ?_;refine Jy (Le.trans (Ph 12 (show ∀ k_,k_<((a5.length:Int).toNat)→AVleL ((fun i_=>AV.eraseAll (fun n_=>Cu n_ [12]) ((fun _=>[Wn]) i_)) k_) ((fun i=>Ag ((List.replicate (a5.length:Int).toNat (0:Int)).getD i 0)) k_) from(fun k hk=>O4 (e:=Ag) (d:=(0:Int)) (.cons (AVle.refl _) .nil) _ k (O8 hk)))) (M8 (fun(k_:Nat) u=>(Et u [(4,(.vsl 12 k_))] [(12,.arr 1 3 k_ (fun i=>Ag ((List.replicate (a5.length:Int).toNat (0:Int)).getD i 0)))])) (show(a5.length:Int).toNat=(List.replicate (a5.length:Int).toNat (0:Int)).length from(List.length_replicate ..).symm))) ?_;refine Aj hq [0,3,4,14,15] [12] ?_;obtain⟨x8,hx8,h⟩:=bind_some h;refine gL hq hx8 [0,3,4,14,15] [12] (fun u (i3,l4)=>(Et u [(4,(.vsl 12 l4.length)),(15,(Br i3))] [(Z2 12 l4)])) (fun u x_=>match x_ with|(.inl _)=>aG Γ (.exit 0) (⟨[],[],[]⟩:St)|(.inr r_)=>aR (Yt Γ a5 r_)) ?_ ?_
  ·rintro⟨i3,l4⟩ y h;unfold Di at h;refine Aj hq [0,3,4,14,15,16] [12] ?_;refine gC h (fun h=>?_) (fun h=>?_)
   ·refine Aj hq [0,3,4,5,14,15] [12] ?_;obtain⟨hc5,h⟩:=Aa h;obtain⟨x6,hx6,h⟩:=bind_some h;obtain⟨hc7,h⟩:=Aa h;refine gR hq [0,3,4,14,15,30] [12] [] [⟨[(12,34001)],[],(.bool x6.1),[(Z2 34001 x6.2)],[]⟩] (ci hc5 (ci (gI (Q86 a5 i3)) (ci (gI (Q86 a5 i3)) (ci (gI (Q86 a5 i3)) (ci (gI (Q86 a5 i3)) (ci (fun(hg:(Q86 a5 i3)=true)=>(Zl a5 l4 i3 x1 x6 (Dd hg hx6))) (ci (gI (Q86 a5 i3)) (c1 (Kx (((a5.getD i3.toNat 0):Int)!=-2)))))))))) ?_;refine Jy (Le.trans (Ph 12 (show ∀ k_,k_<(bif (Q86 a5 i3) then x6.2.length else l4.length)→AVleL ((fun i_=>AV.eraseAll (fun n_=>Cu n_ [12]) ((fun i=>bif (Q86 a5 i3) then(fun i=>Ag (x6.2.getD i 0)) i else(fun i=>Ag (l4.getD i 0)) i) i_)) k_) ((fun i=>Ag ((bif (Q86 a5 i3) then x6.2 else l4).getD i 0)) k_) from(Bx bif_len (fun k_ hk_=>(congrArg (AV.eraseAll (fun n_=>Cu n_ [12])) ((fun _ _=>bif_row) k_ hk_)).trans rfl)))) (Le.trans (M8 (fun(k_:Nat) u=>(Et u [] [(12,.arr 1 3 k_ (fun i=>Ag ((bif (Q86 a5 i3) then x6.2 else l4).getD i 0)))])) (show(bif (Q86 a5 i3) then x6.2.length else l4.length)=(bif (Q86 a5 i3) then x6.2 else l4).length from bif_len)) (M8 (fun(k_:Nat) u=>(Et u [(4,(.vsl 12 k_))] [])) (show l4.length=(bif (Q86 a5 i3) then x6.2 else l4).length from(bif_was hc7))))) ?_;refine gC h (fun h=>?_) (fun h=>?_)
    ·refine Aj hq [2] [] ?_;cases h;exact gO (Pg (J6 [] (Le.refl _ _)))
    ·refine Aj hq [0,3,4,14,15] [12] ?_;cases h;exact gN E9
   ·cases h;exact gO (Eb (Ej [] [] hq))
  ·clear hx8;rcases x8 with _|r10
   ·refine gA ?_;refine Aj hq [2] [] ?_;obtain rfl:=OI h;exact Du []
   ·refine R0 (fun st' hk=>?_);obtain rfl:=OI h;exact gK hk
def F2(a5:List Int)(aH:Int):Option Bool:=
 ((Fu a5 aH).bind fun x1=>(Cs ((x1==true)=true→(Cg aH a5.length)) (some (bif x1 then(((a5.getD aH.toNat 0):Int)!=-2) else false))))
theorem Nb(a5:List Int)(aH:Int)(r:Bool)(h:F2 a5 aH=some r):Spec Tryz.prog 124 [(AV.list 1 Ag 0 a5 .none),(.int .i64 aH)] [] (.bool r) []:=by
 refine Af mix Tryz.func124 (fun Γ hq=>?_);unfold F2 at h;refine Aj hq [0,1] [] ?_;obtain⟨x1,hx1,h⟩:=bind_some h;obtain⟨hc2,h⟩:=Aa h;refine gR hq [4] [] [] [(Z6 x1)] (ci (Ob a5 aH x1 hx1) (ci (gI (x1==true)) (ci (gI (x1==true)) (ci hc2 (ci (gI (x1==true)) (ci (gI (x1==true)) (c1 (Kx x1)))))))) ?_;cases h;exact Du []
def Jj(a5:List Int)(aO:Int)(aP:Int):Option Bool:=
 ((Ik a5).bind fun x1=>((bif (x1==true) then F2 a5 aO else some false).bind fun x2=>((bif ((bif x1 then x2 else false)==true) then F2 a5 aP else some false).bind fun x3=>(some (bif (bif x1 then x2 else false) then x3 else false)))))
theorem Zk(a5:List Int)(aO:Int)(aP:Int)(r:Bool)(h:Jj a5 aO aP=some r):Spec Tryz.prog 109 [(AV.list 1 Ag 0 a5 .none),(.int .i64 aO),(.int .i64 aP)] [] (.bool r) []:=by
 refine Af mix Tryz.func109 (fun Γ hq=>?_);unfold Jj at h;refine Aj hq [0,1,2] [] ?_;obtain⟨x1,hx1,h⟩:=bind_some h;obtain⟨x2,hx2,h⟩:=bind_some h;obtain⟨x3,hx3,h⟩:=bind_some h;refine gR hq [6] [] [] [(Z6 x1),(Z6 x2),(Z6 x3)] (ci (W5 a5 x1 hx1) (ci (gI (x1==true)) (ci (gI (x1==true)) (ci (fun(hg:(x1==true)=true)=>(Nb a5 aO x2 (Dd hg hx2))) (ci (Kx x1) (ci (gI ((bif x1 then x2 else false)==true)) (ci (gI ((bif x1 then x2 else false)==true)) (ci (fun(hg:((bif x1 then x2 else false)==true)=true)=>(Nb a5 aP x3 (Dd hg hx3))) (c1 (Kx (bif x1 then x2 else false))))))))))) ?_;cases h;exact Du []
def Df(a5:List Int):(Int×List Bool)→Option (LR (Int×List Bool) (List Bool)):=
 fun((i2,l3):(Int×List Bool))=>(bif (i2 !=-1) then(Cs (Cg i2 l3.length) (Cs (Cg i2 a5.length) (some (.next ((a5.getD i2.toNat 0),(l3.set i2.toNat true)))))) else(some (.done l3)))
def Dg(a5:List Int)(l4:List Bool):Int→Option (LR Int Int):=
 fun(i9:Int)=>(Cs (Cg i9 l4.length) (bif (!(l4.getD i9.toNat false)) then(Cs (Cg i9 a5.length) (some (.next (a5.getD i9.toNat 0)))) else(some (.done i9))))
def G5(a5:List Int)(aO:Int)(aP:Int):Option Int:=
 (Cs (0≤(a5.length:Int)∧(a5.length:Int)≤(a5.length:Int)∧(a5.length:Int)≤(room:Int)) ((Ak (Df a5) (aO,(List.replicate (a5.length:Int).toNat false))).bind (fun x7=>((Ak (Dg a5 x7) aP).bind (fun x13=>(some x13))))))
theorem ok_dom_meet(a5:List Int)(aO:Int)(aP:Int)(r:Int)(h:G5 a5 aO aP=some r):Spec Tryz.prog 104 [(AV.list 1 Ag 0 a5 .none),(.int .i64 aO),(.int .i64 aP)] [] (.int .i64 r) []:=by
 refine Af mix Tryz.func104 (fun Γ hq=>?_);unfold G5 at h;refine Aj hq [0,1,2] [] ?_;obtain⟨hc1,h⟩:=Aa h;refine gR hq [0,1,2,7] [11] [] [] (c1 hc1) ?_;refine Jy (Le.trans (Ph 11 (show ∀ k_,k_<((a5.length:Int).toNat)→AVleL ((fun i_=>AV.eraseAll (fun n_=>Cu n_ [11]) ((fun _=>[(.bool false)]) i_)) k_) ((fun i=>eB ((List.replicate (a5.length:Int).toNat false).getD i false)) k_) from(fun k hk=>O4 (e:=eB) (d:=false) (.cons (AVle.refl _) .nil) _ k (O8 hk)))) (M8 (fun(k_:Nat) u=>(Et u (Z52 11 k_) [(11,.arr 1 4 k_ (fun i=>eB ((List.replicate (a5.length:Int).toNat false).getD i false)))])) (show(a5.length:Int).toNat=(List.replicate (a5.length:Int).toNat false).length from(List.length_replicate ..).symm))) ?_;refine Aj hq [0,2,7,8] [11] ?_;obtain⟨x7,hx7,h⟩:=bind_some h;refine gL hq hx7 [0,2,7,8] [11] (fun u (i2,l3)=>(Et u [(7,(.vsl 11 l3.length)),(8,(Br i2))] (Z30 l3))) (fun u l4=>aG Γ (.exit 0) (Px [0,2,7] [11] u (Z52 11 l4.length) (Z30 l4))) ?_ ?_
 ·rintro⟨i2,l3⟩ y h;unfold Df at h;refine Aj hq [0,2,7,8,14] [11] ?_;refine gC h (fun h=>?_) (fun h=>?_)
  ·obtain⟨hc5,h⟩:=Aa h;refine gR hq [0,2,7,8] [11] [] [] (ci hc5 (c1 (Eq.refl l3.length))) ?_;refine Jy (Le.trans (Ph 11 (show ∀ k_,k_<l3.length→AVleL ((fun i_=>AV.eraseAll (fun n_=>Cu n_ [11]) ((Ip (fun i=>eB (l3.getD i false)) i2.toNat 0 [(.bool true)]) i_)) k_) ((fun i=>eB ((l3.set i2.toNat true).getD i false)) k_) from(Bx (List.length_set ..).symm (fun k_ hk_=>(congrArg (AV.eraseAll (fun n_=>Cu n_ [11])) ((Hz (fun _ _=>rfl) (Jd hc5) rfl) k_ hk_)).trans rfl)))) (M8 (fun(k_:Nat) u=>(Et u (Z52 11 k_) [(11,.arr 1 4 k_ (fun i=>eB ((l3.set i2.toNat true).getD i false)))])) (show l3.length=(l3.set i2.toNat true).length from(List.length_set ..).symm))) ?_;obtain⟨hc6,h⟩:=Aa h;refine gR hq [0,2,7,8] [11] [] [] (c1 hc6) ?_;cases h;exact gN E9
  ·cases h;exact gO (Eb (Ej [0,2,7] [11] hq))
 ·clear hx7;refine gA ?_;obtain⟨x13,hx13,h⟩:=bind_some h;refine gL hq hx13 [0,2,7] [11] (fun u i9=>(Et u [(2,(Br i9))] [])) (fun u i10=>aG Γ (.exit 2) (⟨[(2,(Br i10))],[],[]⟩:St)) ?_ ?_
  ·intro i9 y h;unfold Dg at h;obtain⟨hc11,h⟩:=Aa h;refine gR hq [0,2,7,26] [11] [] [] (ci hc11 (c1 (Eq.refl x7.length))) ?_;refine gC h (fun h=>?_) (fun h=>?_)
   ·obtain⟨hc12,h⟩:=Aa h;refine gR hq [0,2,7] [11] [] [] (c1 hc12) ?_;cases h;exact gN E9
   ·cases h;exact gO (Eb (Ej [2] [] hq))
  ·clear hx13;refine gA ?_;refine Aj hq [6] [] ?_;obtain rfl:=OI h;exact Du []
def Ki(a5:List Int)(aO:Int)(aP:Int):Option Bool:=
 ((Jj a5 aO aP).bind fun x1=>((bif (x1==true) then G5 a5 aO aP else some (0:Int)).bind fun x2=>(some (bif x1 then(x2==aO) else false))))
theorem ok_dom_Over(a5:List Int)(aO:Int)(aP:Int)(r:Bool)(h:Ki a5 aO aP=some r):Spec Tryz.prog 91 [(AV.list 1 Ag 0 a5 .none),(.int .i64 aO),(.int .i64 aP)] [] (.bool r) []:=by
 refine Af mix Tryz.func91 (fun Γ hq=>?_);unfold Ki at h;refine Aj hq [0,1,2] [] ?_;obtain⟨x1,hx1,h⟩:=bind_some h;obtain⟨x2,hx2,h⟩:=bind_some h;refine gR hq [6] [] [] [(Z6 x1),(Z45 x2)] (ci (Zk a5 aO aP x1 hx1) (ci (gI (x1==true)) (ci (gI (x1==true)) (ci (gI (x1==true)) (ci (fun(hg:(x1==true)=true)=>(ok_dom_meet a5 aO aP x2 (Dd hg hx2))) (ci (gI (x1==true)) (ci (gI (x1==true)) (c1 (Kx x1))))))))) ?_;cases h;exact Du []
def Do(aK:Ah)(a1:TFunc)(a7:Int)(a8:List Int)(a6:List (Int×Ac))(a4:List Ah):Option (Bool×TFunc×Int×List Int×List Ah):=
 (bif (((Dh (default:Ac) a6 aK.v).place.block:Int)==aK.place.block) then(some ((decide (((Dh (default:Ac) a6 aK.v).place.at_:Int)<aK.place.at_)),a1,a7,a8,a4)) else((Ki a8 ((Dh (default:Ac) a6 aK.v).place.block) aK.place.block).bind fun x1=>(some (x1,a1,a7,a8,a4))))
theorem Lm(aK:Ah)(a1:TFunc)(a7:Int)(a8:List Int)(a6:List (Int×Ac))(a4:List Ah)(r:(Bool×TFunc×Int×List Int×List Ah))(h:Do aK a1 a7 a8 a6 a4=some r):Spec Tryz.prog 63 [(.ptr 30000 0),(.agg (Bz aK))] [(30000,.row 59 [(AV.list 1 Ag 0 a1.Params .none),(.int .i64 a1.Ret),(AV.list 5 Au default a1.Blocks .none),(.int .i64 a7),(AV.list 1 Ag 0 a8 .none),(.omap 9100005),(AV.list 5 Bz default a4 (.own 37006))]),(37006,.tok 5 104 a4.length),(9100005,.obj (.map false .i64 (mapE (fun(v_:Ac)=>((.agg (C3 v_)):AV)) a6)))] (.bool r.1) [(30000,.row 59 [(AV.list 1 Ag 0 r.2.1.Params .none),(.int .i64 r.2.1.Ret),(AV.list 5 Au default r.2.1.Blocks .none),(.int .i64 r.2.2.1),(AV.list 1 Ag 0 r.2.2.2.1 .none),(.omap 9100005),(AV.list 5 Bz default r.2.2.2.2 (.own 37006))]),(37006,.tok 5 104 r.2.2.2.2.length),(9100005,.obj (.map false .i64 (mapE (fun(v_:Ac)=>((.agg (C3 v_)):AV)) a6)))]:=by
 refine Af mix Tryz.func63 (fun Γ hq=>?_);unfold Do at h;refine Aj hq [0,3] [3,30000,37006,9100005] ?_;refine gR hq [0,3,5] [3,5,30000,37006,9100005] [(12,(Z17 a6 aK.v))] [] (c1 (show(AVle (Dh Z13 (mapE (fun(v_:Ac)=>((Wo v_):AV)) a6) aK.v) (Z17 a6 aK.v)) from(Uc (f:=(fun(v_:Ac)=>((Wo v_):AV))) (l:=a6) (AVle.refl _) rfl))) ?_;refine Aj hq [0,3,5,19] [3,5,30000,37006,9100005] ?_;refine gC h (fun h=>?_) (fun h=>?_)
 ·refine Aj hq [4] [30000,37006,9100005] ?_;cases h;exact Du [(30000,30000),(37006,37006),(9100005,9100005)]
 ·obtain⟨x1,hx1,h⟩:=bind_some h;refine gR hq [4] [30000,37006,9100005] [] [(Z6 x1)] (c1 (ok_dom_Over a8 ((Dh (default:Ac) a6 aK.v).place.block) aK.place.block x1 hx1)) ?_;cases h;exact Du [(30000,30000),(37006,37006),(9100005,9100005)]
def B9(a6:List (Int×Ac))(x8:(TFunc×Int×List Int×List Ah)):(Int×List Int×Int×List Ab×Int×List Int×List Ah)→Option (LR (Int×List Int×Int×List Ab×Int×List Int×List Ah) ((List Int×Int×List Ab×Int×List Int×List Ah) ⊕ (List Int×Int×List Ab×Int×List Int×List Ah))):=
 fun((i9,l10,i11,l12,i13,l14,l15):(Int×List Int×Int×List Ab×Int×List Int×List Ah))=>(bif (decide (i9<(x8.2.2.2.length:Int))) then(Cs (Cg i9 x8.2.2.2.length) ((Er (x8.2.2.2.getD i9.toNat default) (⟨l10,i11,l12⟩:TFunc) i13 l14 a6 l15).bind fun x29=>(bif (!x29.1) then(some (.done (.inr (x29.2.1.Params,x29.2.1.Ret,x29.2.1.Blocks,x29.2.2.1,x29.2.2.2.1,x29.2.2.2.2)))) else(some (.next ((A8 (i9+1)),x29.2.1.Params,x29.2.1.Ret,x29.2.1.Blocks,x29.2.2.1,x29.2.2.2.1,x29.2.2.2.2)))))) else(some (.done (.inl (l10,i11,l12,i13,l14,l15)))))
def Ca(a6:List (Int×Ac))(l21:List Ah):(Int×List Int×Int×List Ab×Int×List Int×List Ah)→Option (LR (Int×List Int×Int×List Ab×Int×List Int×List Ah) ((List Int×Int×List Ab×Int×List Int×List Ah) ⊕ (List Int×Int×List Ab×Int×List Int×List Ah))):=
 fun((i32,l33,i34,l35,i36,l37,l38):(Int×List Int×Int×List Ab×Int×List Int×List Ah))=>(bif (decide (i32<(l21.length:Int))) then(Cs (Cg i32 l21.length) ((Fp (l21.getD i32.toNat default) (⟨l33,i34,l35⟩:TFunc) i36 l37 a6 l38).bind fun x52=>(bif (!x52.1) then(some (.done (.inr (x52.2.1.Params,x52.2.1.Ret,x52.2.1.Blocks,x52.2.2.1,x52.2.2.2.1,x52.2.2.2.2)))) else(some (.next ((A8 (i32+1)),x52.2.1.Params,x52.2.1.Ret,x52.2.1.Blocks,x52.2.2.1,x52.2.2.2.1,x52.2.2.2.2)))))) else(some (.done (.inl (l33,i34,l35,i36,l37,l38)))))
def Cb(a6:List (Int×Ac))(l44:List Ah):(Int×List Int×Int×List Ab×Int×List Int×List Ah)→Option (LR (Int×List Int×Int×List Ab×Int×List Int×List Ah) ((List Int×Int×List Ab×Int×List Int×List Ah) ⊕ (List Int×Int×List Ab×Int×List Int×List Ah))):=
 fun((i55,l56,i57,l58,i59,l60,l61):(Int×List Int×Int×List Ab×Int×List Int×List Ah))=>(bif (decide (i55<(l44.length:Int))) then(Cs (Cg i55 l44.length) ((Do (l44.getD i55.toNat default) (⟨l56,i57,l58⟩:TFunc) i59 l60 a6 l61).bind fun x75=>(bif (!x75.1) then(some (.done (.inr (x75.2.1.Params,x75.2.1.Ret,x75.2.1.Blocks,x75.2.2.1,x75.2.2.2.1,x75.2.2.2.2)))) else(some (.next ((A8 (i55+1)),x75.2.1.Params,x75.2.1.Ret,x75.2.1.Blocks,x75.2.2.1,x75.2.2.2.1,x75.2.2.2.2)))))) else(some (.done (.inl (l56,i57,l58,i59,l60,l61)))))
def Fz :(Int×List Int×Int×List Ab×Int×List Int×List Ah)→Option (LR (Int×List Int×Int×List Ab×Int×List Int×List Ah) (Int×TFunc×Int×List Int×List Ah)):=
 fun(s_:(Int×List Int×Int×List Ab×Int×List Int×List Ah))=>match s_ with|(i1,l2,i3,l4,i5,l6,l7)=>(some (.done (i1,(⟨l2,i3,l4⟩:TFunc),i5,l6,l7)))
def Ns(Γ:Ga)(a1:TFunc)(a7:Int)(a8:List Int)(a6:List (Int×Ac))(a4:List Ah)(r:(Int×TFunc×Int×List Int×List Ah)):Exit→St→Prop:=fK Tryz.prog Γ Tryz.f34.results.toList [(Z1 a1.Params a1.Ret a1.Blocks a7 a8 9100005 a4),(Tq a4.length),(9100005,.obj (.map false .i64 (mapE (fun(v_:Ac)=>((Wo v_):AV)) a6)))] (Br r.1) [(Z1 r.2.1.Params r.2.1.Ret r.2.1.Blocks r.2.2.1 r.2.2.2.1 9100005 r.2.2.2.2),(Tq r.2.2.2.2.length),(9100005,.obj (.map false .i64 (mapE (fun(v_:Ac)=>((Wo v_):AV)) a6)))]
def Q87(a6:List (Int×Ac)):=(mapE (fun(v_:Ac)=>((Wo v_):AV)) a6)
def El(a1:TFunc)(a7:Int)(a8:List Int)(a6:List (Int×Ac))(a4:List Ah):Option (Int×TFunc×Int×List Int×List Ah):=
 ((Lt (S:=(Int×List Int×Int×List Ab×Int×List Int×List Ah)) (X:=(Int×TFunc×Int×List Int×List Ah)) ((Dm a1 a7 a8 a6 a4).bind fun x8=>((Ak (B9 a6 x8) ((0:Int),x8.1.Params,x8.1.Ret,x8.1.Blocks,x8.2.1,x8.2.2.1,x8.2.2.2)).bind (fun x30=>(match x30 with|(.inl (l16,i17,l18,i19,l20,l21))=>((Ak (Ca a6 l21) ((0:Int),l16,i17,l18,i19,l20,l21)).bind (fun x53=>(match x53 with|(.inl (l39,i40,l41,i42,l43,l44))=>((Ak (Cb a6 l44) ((0:Int),l39,i40,l41,i42,l43,l44)).bind (fun x76=>(match x76 with|(.inl (l62,i63,l64,i65,l66,l67))=>(some (.done ((0:Int),(⟨l62,i63,l64⟩:TFunc),i65,l66,l67)))|(.inr (l68,i69,l70,i71,l72,l73))=>(some (.next ((7:Int),l68,i69,l70,i71,l72,l73))))))|(.inr (l45,i46,l47,i48,l49,l50))=>(some (.next ((6:Int),l45,i46,l47,i48,l49,l50))))))|(.inr (l22,i23,l24,i25,l26,l27))=>(some (.next ((7:Int),l22,i23,l24,i25,l26,l27))))))) Fz).bind (fun x81=>(some x81)))
theorem Nn(a1:TFunc)(a7:Int)(a8:List Int)(a6:List (Int×Ac))(a4:List Ah)(r:(Int×TFunc×Int×List Int×List Ah))(h:El a1 a7 a8 a6 a4=some r):Spec Tryz.prog 34 [(.ptr 30000 0)] [(30000,.row 59 [(AV.list 1 Ag 0 a1.Params .none),(.int .i64 a1.Ret),(AV.list 5 Au default a1.Blocks .none),(.int .i64 a7),(AV.list 1 Ag 0 a8 .none),(.omap 9100005),(AV.list 5 Bz default a4 (.own 37006))]),(37006,.tok 5 104 a4.length),(9100005,.obj (.map false .i64 (mapE (fun(v_:Ac)=>((.agg (C3 v_)):AV)) a6)))] (.int .i64 r.1) [(30000,.row 59 [(AV.list 1 Ag 0 r.2.1.Params .none),(.int .i64 r.2.1.Ret),(AV.list 5 Au default r.2.1.Blocks .none),(.int .i64 r.2.2.1),(AV.list 1 Ag 0 r.2.2.2.1 .none),(.omap 9100005),(AV.list 5 Bz default r.2.2.2.2 (.own 37006))]),(37006,.tok 5 104 r.2.2.2.2.length),(9100005,.obj (.map false .i64 (mapE (fun(v_:Ac)=>((.agg (C3 v_)):AV)) a6)))]:=by
 refine Af mix Tryz.func34 (fun Γ hq=>?_);unfold El at h;refine Aj hq [0] [30000,37006,9100005] ?_;obtain⟨x81,hx81,h⟩:=bind_some h;refine gS hx81 (fun(s_:(Int×List Int×Int×List Ab×Int×List Int×List Ah))=>match s_ with|(i1,l2,i3,l4,i5,l6,l7)=>0) (fun(s_:(Int×List Int×Int×List Ab×Int×List Int×List Ah))=>match s_ with|(i1,l2,i3,l4,i5,l6,l7)=>(⟨[(4,(Br i1))],(Z5 l2 i3 l4 i5 l6 9100005 l7 l7.length (Q87 a6)),[]⟩:St)) (fun r_=>aR (Ns Γ a1 a7 a8 a6 a4 r_)) ?_ ?_ ?_
 ·clear h hx81;intro y h;obtain⟨x8,hx8,h⟩:=bind_some h;refine gR hq [0] [30000,37006,9100005] [] [(Z15 x8.1.Params x8.1.Ret x8.1.Blocks x8.2.1 x8.2.2.1 x8.2.2.2 x8.2.2.2.length (Q87 a6))] (c1 (Lk a1 a7 a8 a6 a4 x8 hx8)) ?_;refine Aj hq [0,3] [3,30000,37006,9100005] ?_;refine Aj hq [0,3] [3,30000,37006,9100005] ?_;refine Aj hq [0,21,22] [30000,37006,9100005] ?_;refine gU 3 ?_;refine Aj hq [0,21,22,23] [30000,37006,9100005] ?_;refine gCt true ?_;refine gR hq [0,6,21,22] [6,30000,37006,9100005] [] [] (c1 (show(Cg (0:Int) 3) from(by decide))) ?_;refine Aj hq [0,4,6,21,22] [6,30000,37006,9100005] ?_;refine Aj hq [0,4,6,21,22,30,31,32] [6,30000,37006,9100005] ?_;obtain⟨x30,hx30,h⟩:=bind_some h;refine gL hq hx30 [0,4,6,21,22,30,31,32] [6,30000,37006,9100005] (fun u (i9,l10,i11,l12,i13,l14,l15)=>(Et u [(32,(Br i9))] (Z8 l10 i11 l12 i13 l14 l15 l15.length))) (fun u x_=>match x_ with|(.inl (l16,i17,l18,i19,l20,l21))=>aG Γ (.exit 2) (Px [0,21,22] [30000,37006,9100005] u [] (Z8 l16 i17 l18 i19 l20 l21 l21.length))|(.inr (l22,i23,l24,i25,l26,l27))=>aG Γ (.goto 0) (Px [4] [30000,37006,9100005] u [] (Z8 l22 i23 l24 i25 l26 l27 l27.length))) ?_ ?_
  ·rintro⟨i9,l10,i11,l12,i13,l14,l15⟩ y h;unfold B9 at h;refine Aj hq [0,4,6,21,22,30,31,32,33] [6,30000,37006,9100005] ?_;refine gC h (fun h=>?_) (fun h=>?_)
   ·obtain⟨hc28,h⟩:=Aa h;refine gR hq [0,4,6,8,21,22,30,31,32] [6,8,30000,37006,9100005] [] [] (c1 hc28) ?_;obtain⟨x29,hx29,h⟩:=bind_some h;refine gR hq [0,4,6,21,22,30,31,32,40] [6,30000,37006,9100005] [] [(Z31 x29.1 x29.2.1.Params x29.2.1.Ret x29.2.1.Blocks x29.2.2.1 x29.2.2.2.1 x29.2.2.2.2 x29.2.2.2.2.length (Q87 a6))] (c1 (Ln (x8.2.2.2.getD i9.toNat default) (⟨l10,i11,l12⟩:TFunc) i13 l14 a6 l15 x29 hx29)) ?_;refine gC h (fun h=>?_) (fun h=>?_)
    ·cases h;exact gO (Eb (Ej [4] [30000,37006,9100005] hq))
    ·refine Aj hq [0,4,6,21,22,30,31,32] [6,30000,37006,9100005] ?_;cases h;exact gN E9
   ·cases h;exact gO (Eb (Ej [0,21,22] [30000,37006,9100005] hq))
  ·clear hx30;rcases x30 with⟨l16,i17,l18,i19,l20,l21⟩|⟨l22,i23,l24,i25,l26,l27⟩
   ·refine gA ?_;refine Aj hq [0,21,22] [30000,37006,9100005] ?_;refine Aj hq [0,21,22,23] [30000,37006,9100005] ?_;refine gCt true ?_;refine gR hq [0,6,21,22] [6,30000,37006,9100005] [] [] (c1 (show(Cg (1:Int) 3) from(by decide))) ?_;refine Aj hq [0,4,6,21,22] [6,30000,37006,9100005] ?_;refine Aj hq [0,4,6,21,22,30,31,32] [6,30000,37006,9100005] ?_;obtain⟨x53,hx53,h⟩:=bind_some h;refine gL hq hx53 [0,4,6,21,22,30,31,32] [6,30000,37006,9100005] (fun u (i32,l33,i34,l35,i36,l37,l38)=>(Et u [(32,(Br i32))] (Z8 l33 i34 l35 i36 l37 l38 l38.length))) (fun u x_=>match x_ with|(.inl (l39,i40,l41,i42,l43,l44))=>aG Γ (.exit 2) (Px [0,21,22] [30000,37006,9100005] u [] (Z8 l39 i40 l41 i42 l43 l44 l44.length))|(.inr (l45,i46,l47,i48,l49,l50))=>aG Γ (.goto 0) (Px [4] [30000,37006,9100005] u [] (Z8 l45 i46 l47 i48 l49 l50 l50.length))) ?_ ?_
    ·rintro⟨i32,l33,i34,l35,i36,l37,l38⟩ y h;unfold Ca at h;refine Aj hq [0,4,6,21,22,30,31,32,33] [6,30000,37006,9100005] ?_;refine gC h (fun h=>?_) (fun h=>?_)
     ·obtain⟨hc51,h⟩:=Aa h;refine gR hq [0,4,6,8,21,22,30,31,32] [6,8,30000,37006,9100005] [] [] (c1 hc51) ?_;obtain⟨x52,hx52,h⟩:=bind_some h;refine gR hq [0,4,6,21,22,30,31,32,40] [6,30000,37006,9100005] [] [(Z31 x52.1 x52.2.1.Params x52.2.1.Ret x52.2.1.Blocks x52.2.2.1 x52.2.2.2.1 x52.2.2.2.2 x52.2.2.2.2.length (Q87 a6))] (c1 (Nl (l21.getD i32.toNat default) (⟨l33,i34,l35⟩:TFunc) i36 l37 a6 l38 x52 hx52)) ?_;refine gC h (fun h=>?_) (fun h=>?_)
      ·cases h;exact gO (Eb (Ej [4] [30000,37006,9100005] hq))
      ·refine Aj hq [0,4,6,21,22,30,31,32] [6,30000,37006,9100005] ?_;cases h;exact gN E9
     ·cases h;exact gO (Eb (Ej [0,21,22] [30000,37006,9100005] hq))
    ·clear hx53;rcases x53 with⟨l39,i40,l41,i42,l43,l44⟩|⟨l45,i46,l47,i48,l49,l50⟩
     ·refine gA ?_;refine Aj hq [0,21,22] [30000,37006,9100005] ?_;refine Aj hq [0,21,22,23] [30000,37006,9100005] ?_;refine gCt true ?_;refine gR hq [0,6,21,22] [6,30000,37006,9100005] [] [] (c1 (show(Cg (2:Int) 3) from(by decide))) ?_;refine Aj hq [0,4,6,21,22] [6,30000,37006,9100005] ?_;refine Aj hq [0,4,6,21,22,30,31,32] [6,30000,37006,9100005] ?_;obtain⟨x76,hx76,h⟩:=bind_some h;refine gL hq hx76 [0,4,6,21,22,30,31,32] [6,30000,37006,9100005] (fun u (i55,l56,i57,l58,i59,l60,l61)=>(Et u [(32,(Br i55))] (Z8 l56 i57 l58 i59 l60 l61 l61.length))) (fun u x_=>match x_ with|(.inl (l62,i63,l64,i65,l66,l67))=>aG Γ (.exit 2) (Px [0,21,22] [30000,37006,9100005] u [] (Z8 l62 i63 l64 i65 l66 l67 l67.length))|(.inr (l68,i69,l70,i71,l72,l73))=>aG Γ (.goto 0) (Px [4] [30000,37006,9100005] u [] (Z8 l68 i69 l70 i71 l72 l73 l73.length))) ?_ ?_
      ·rintro⟨i55,l56,i57,l58,i59,l60,l61⟩ y h;unfold Cb at h;refine Aj hq [0,4,6,21,22,30,31,32,33] [6,30000,37006,9100005] ?_;refine gC h (fun h=>?_) (fun h=>?_)
       ·obtain⟨hc74,h⟩:=Aa h;refine gR hq [0,4,6,8,21,22,30,31,32] [6,8,30000,37006,9100005] [] [] (c1 hc74) ?_;obtain⟨x75,hx75,h⟩:=bind_some h;refine gR hq [0,4,6,21,22,30,31,32,40] [6,30000,37006,9100005] [] [(Z31 x75.1 x75.2.1.Params x75.2.1.Ret x75.2.1.Blocks x75.2.2.1 x75.2.2.2.1 x75.2.2.2.2 x75.2.2.2.2.length (Q87 a6))] (c1 (Lm (l44.getD i55.toNat default) (⟨l56,i57,l58⟩:TFunc) i59 l60 a6 l61 x75 hx75)) ?_;refine gC h (fun h=>?_) (fun h=>?_)
        ·cases h;exact gO (Eb (Ej [4] [30000,37006,9100005] hq))
        ·refine Aj hq [0,4,6,21,22,30,31,32] [6,30000,37006,9100005] ?_;cases h;exact gN E9
       ·cases h;exact gO (Eb (Ej [0,21,22] [30000,37006,9100005] hq))
      ·clear hx76;rcases x76 with⟨l62,i63,l64,i65,l66,l67⟩|⟨l68,i69,l70,i71,l72,l73⟩
       ·refine gA ?_;refine Aj hq [0,21,22] [30000,37006,9100005] ?_;refine Aj hq [0,21,22,23] [30000,37006,9100005] ?_;refine gCt false ?_;refine Aj hq [2] [30000,37006,9100005] ?_;cases h;exact gJo (Pg (J6 [(30000,30000),(37006,37006),(9100005,9100005)] (Le.refl _ _)))
       ·refine gA' (fun st' hl78=>?_);cases h;exact gJn (Le.trans hl78 E9)
     ·refine gA' (fun st' hl79=>?_);cases h;exact gJn (Le.trans hl79 E9)
   ·refine gA' (fun st' hl80=>?_);cases h;exact gJn (Le.trans hl80 E9)
 ·clear h hx81;rintro⟨i1,l2,i3,l4,i5,l6,l7⟩ y h;unfold Fz at h;refine Aj hq [2] [30000,37006,9100005] ?_;cases h;exact gJo (Pg (J6 [(30000,30000),(37006,37006),(9100005,9100005)] (Le.refl _ _)))
 ·clear hx81;refine R0 (fun st' hk=>?_);obtain rfl:=OI h;exact gK hk
def Q93:=(fun(v_:Ac)=>((Wo v_):AV))
def Q90(x1:(Int×TFunc×Int×List Int×List Ah)):List (Nat×Own):=(Z3 x1.2.1.Params x1.2.1.Ret x1.2.1.Blocks x1.2.2.1 x1.2.2.2.1 x1.2.2.2.2 x1.2.2.2.2.length)
def Q91(x2:(Int×TFunc×Int×List Int×List Ah)):List (Nat×Own):=(Z3 x2.2.1.Params x2.2.1.Ret x2.2.1.Blocks x2.2.2.1 x2.2.2.2.1 x2.2.2.2.2 x2.2.2.2.2.length)
def Q92(x3:(Int×TFunc×Int×List Int×List Ah)):List (Nat×Own):=(Z3 x3.2.1.Params x3.2.1.Ret x3.2.1.Blocks x3.2.2.1 x3.2.2.2.1 x3.2.2.2.2 x3.2.2.2.2.length)
def Dc(a1:TFunc)(a7:Int)(a8:List Int)(a4:List Ah):Option (Int×TFunc×Int×List Int×List Ah×List (Int×Ac)):=
 ((Ek a1 a7 a8 a4).bind fun x1=>(bif (x1.1 !=0) then(some (x1.1,x1.2.1,x1.2.2.1,x1.2.2.2.1,x1.2.2.2.2,([]:List (Int×Ac)))) else((D0 x1.2.1 x1.2.2.1 x1.2.2.2.1 x1.2.2.2.2).bind fun x2=>(bif (x2.1 !=0) then(some (x2.1,x2.2.1,x2.2.2.1,x2.2.2.2.1,x2.2.2.2.2,([]:List (Int×Ac)))) else((D8 x2.2.1 x2.2.2.1 x2.2.2.2.1 x2.2.2.2.2).bind fun x3=>(bif (x3.1 !=0) then(some (x3.1,x3.2.1,x3.2.2.1,x3.2.2.2.1,x3.2.2.2.2,([]:List (Int×Ac)))) else((Dn x3.2.1 x3.2.2.1 x3.2.2.2.1 x3.2.2.2.2).bind fun x4=>(bif (x4.1 !=0) then(some (x4.1,x4.2.1,x4.2.2.1,x4.2.2.2.1,x4.2.2.2.2.1,x4.2.2.2.2.2)) else((El x4.2.1 x4.2.2.1 x4.2.2.2.1 x4.2.2.2.2.2 x4.2.2.2.2.1).bind fun x5=>(bif (x5.1 !=0) then(some (x5.1,x5.2.1,x5.2.2.1,x5.2.2.2.1,x5.2.2.2.2,x4.2.2.2.2.2)) else(some ((0:Int),x5.2.1,x5.2.2.1,x5.2.2.2.1,x5.2.2.2.2,x4.2.2.2.2.2))))))))))))
theorem Im(a1:TFunc)(a7:Int)(a8:List Int)(a4:List Ah)(r:(Int×TFunc×Int×List Int×List Ah×List (Int×Ac)))(h:Dc a1 a7 a8 a4=some r):Spec Tryz.prog 19 [(.ptr 30000 0)] [(30000,.row 59 [(AV.list 1 Ag 0 a1.Params .none),(.int .i64 a1.Ret),(AV.list 5 Au default a1.Blocks .none),(.int .i64 a7),(AV.list 1 Ag 0 a8 .none),.nilm,(AV.list 5 Bz default a4 (.own 37006))]),(37006,.tok 5 104 a4.length)] (.int .i64 r.1) [(30000,.row 59 [(AV.list 1 Ag 0 r.2.1.Params .none),(.int .i64 r.2.1.Ret),(AV.list 5 Au default r.2.1.Blocks .none),(.int .i64 r.2.2.1),(AV.list 1 Ag 0 r.2.2.2.1 .none),(.omap 9200005),(AV.list 5 Bz default r.2.2.2.2.1 (.own 37006))]),(37006,.tok 5 104 r.2.2.2.2.1.length),(9200005,.obj (.map false .i64 (mapE (fun(v_:Ac)=>((.agg (C3 v_)):AV)) r.2.2.2.2.2)))]:=by
 refine Af mix Tryz.func19 (fun Γ hq=>?_);unfold Dc at h;refine Aj hq [0] [30000,37006] ?_;refine Aj hq [3] [3,30000,37006] ?_;refine Aj hq [18,19] [30000,37006] ?_;refine gU 5 ?_;refine Aj hq [18,19,20] [30000,37006] ?_;refine gCt true ?_;refine gR hq [5,18,19] [30000,37006] [] [] (c1 (show(Cg (0:Int) 5) from(by decide))) ?_;obtain⟨x1,hx1,h⟩:=bind_some h;refine gR hq [6,18,19] [30000,37006] [] [⟨[(30000,30000),(37006,37006)],[],(Br x1.1),(Q90 x1),[]⟩] (c1 (Nm a1 a7 a8 a4 x1 hx1)) ?_;refine Aj hq [6,18,19,25] [30000,37006] ?_;refine gC h (fun h=>?_) (fun h=>?_)
 ·refine Aj hq [2] [30000,37006] ?_;refine Rt (⟨[(2,(Br x1.1))],(Q90 x1),[]⟩:St) ?_;cases h;exact gK (e:=.ret) (J6 [(30000,30000),(37006,37006),(9300005,9200005)] (Le.trans (Mo (r:=30000) (j:=5) (nm:=9300005) .i64 rfl rfl (nl rfl) rfl) (Ej (st':=⟨[(2,(Br x1.1))],[(Z1 x1.2.1.Params x1.2.1.Ret x1.2.1.Blocks x1.2.2.1 x1.2.2.2.1 9300005 x1.2.2.2.2),(Tq x1.2.2.2.2.length),(9300005,.obj (.map false .i64 (mapE Q93 ([]:List (Int×Ac)))))],[]⟩) [2] [30000,37006,9300005] hq)))
 ·refine Aj hq [18,19] [30000,37006] ?_;refine Aj hq [18,19,20] [30000,37006] ?_;refine gCt true ?_;refine gR hq [5,18,19] [30000,37006] [] [] (c1 (show(Cg (1:Int) 5) from(by decide))) ?_;obtain⟨x2,hx2,h⟩:=bind_some h;refine gR hq [6,18,19] [30000,37006] [] [⟨[(30000,30000),(37006,37006)],[],(Br x2.1),(Q91 x2),[]⟩] (c1 (L1 x1.2.1 x1.2.2.1 x1.2.2.2.1 x1.2.2.2.2 x2 hx2)) ?_;refine Aj hq [6,18,19,25] [30000,37006] ?_;refine gC h (fun h=>?_) (fun h=>?_)
  ·refine Aj hq [2] [30000,37006] ?_;refine Rt (⟨[(2,(Br x2.1))],(Q91 x2),[]⟩:St) ?_;cases h;exact gK (e:=.ret) (J6 [(30000,30000),(37006,37006),(9300005,9200005)] (Le.trans (Mo (r:=30000) (j:=5) (nm:=9300005) .i64 rfl rfl (nl rfl) rfl) (Ej (st':=⟨[(2,(Br x2.1))],[(Z1 x2.2.1.Params x2.2.1.Ret x2.2.1.Blocks x2.2.2.1 x2.2.2.2.1 9300005 x2.2.2.2.2),(Tq x2.2.2.2.2.length),(9300005,.obj (.map false .i64 (mapE Q93 ([]:List (Int×Ac)))))],[]⟩) [2] [30000,37006,9300005] hq)))
  ·refine Aj hq [18,19] [30000,37006] ?_;refine Aj hq [18,19,20] [30000,37006] ?_;refine gCt true ?_;refine gR hq [5,18,19] [30000,37006] [] [] (c1 (show(Cg (2:Int) 5) from(by decide))) ?_;obtain⟨x3,hx3,h⟩:=bind_some h;refine gR hq [6,18,19] [30000,37006] [] [⟨[(30000,30000),(37006,37006)],[],(Br x3.1),(Q92 x3),[]⟩] (c1 (Mt x2.2.1 x2.2.2.1 x2.2.2.2.1 x2.2.2.2.2 x3 hx3)) ?_;refine Aj hq [6,18,19,25] [30000,37006] ?_;refine gC h (fun h=>?_) (fun h=>?_)
   ·refine Aj hq [2] [30000,37006] ?_;refine Rt (⟨[(2,(Br x3.1))],(Q92 x3),[]⟩:St) ?_;cases h;exact gK (e:=.ret) (J6 [(30000,30000),(37006,37006),(9300005,9200005)] (Le.trans (Mo (r:=30000) (j:=5) (nm:=9300005) .i64 rfl rfl (nl rfl) rfl) (Ej (st':=⟨[(2,(Br x3.1))],[(Z1 x3.2.1.Params x3.2.1.Ret x3.2.1.Blocks x3.2.2.1 x3.2.2.2.1 9300005 x3.2.2.2.2),(Tq x3.2.2.2.2.length),(9300005,.obj (.map false .i64 (mapE Q93 ([]:List (Int×Ac)))))],[]⟩) [2] [30000,37006,9300005] hq)))
   ·refine Aj hq [18,19] [30000,37006] ?_;refine Aj hq [18,19,20] [30000,37006] ?_;refine gCt true ?_;refine gR hq [5,18,19] [30000,37006] [] [] (c1 (show(Cg (3:Int) 5) from(by decide))) ?_;obtain⟨x4,hx4,h⟩:=bind_some h;refine gR hq [6,18,19] [30000,37006,13000005] [] [⟨[(30000,30000),(37006,37006)],[(9200005,13000005)],(Br x4.1),[(Z1 x4.2.1.Params x4.2.1.Ret x4.2.1.Blocks x4.2.2.1 x4.2.2.2.1 9200005 x4.2.2.2.2.1),(Tq x4.2.2.2.2.1.length),(9200005,.obj (.map false .i64 (mapE Q93 x4.2.2.2.2.2)))],[]⟩] (c1 (Ll x3.2.1 x3.2.2.1 x3.2.2.2.1 x3.2.2.2.2 x4 hx4)) ?_;refine Aj hq [6,18,19,25] [30000,37006,13000005] ?_;refine gC h (fun h=>?_) (fun h=>?_)
    ·refine Aj hq [2] [30000,37006,13000005] ?_;cases h;exact Du [(30000,30000),(37006,37006),(13000005,9200005)]
    ·refine Aj hq [18,19] [30000,37006,13000005] ?_;refine Aj hq [18,19,20] [30000,37006,13000005] ?_;refine gCt true ?_;refine gR hq [5,18,19] [30000,37006,13000005] [] [] (c1 (show(Cg (4:Int) 5) from(by decide))) ?_;obtain⟨x5,hx5,h⟩:=bind_some h;refine gR hq [6,18,19] [30000,37006,13000005] [] [⟨[(30000,30000),(37006,37006),(13000005,9100005)],[],(Br x5.1),[(Z1 x5.2.1.Params x5.2.1.Ret x5.2.1.Blocks x5.2.2.1 x5.2.2.2.1 9100005 x5.2.2.2.2),(Tq x5.2.2.2.2.length),(9100005,.obj (.map false .i64 (mapE Q93 x4.2.2.2.2.2)))],[]⟩] (c1 (Nn x4.2.1 x4.2.2.1 x4.2.2.2.1 x4.2.2.2.2.2 x4.2.2.2.2.1 x5 hx5)) ?_;refine Aj hq [6,18,19,25] [30000,37006,13000005] ?_;refine gC h (fun h=>?_) (fun h=>?_)
     ·refine Aj hq [2] [30000,37006,13000005] ?_;cases h;exact Du [(30000,30000),(37006,37006),(13000005,9200005)]
     ·refine Aj hq [18,19] [30000,37006,13000005] ?_;refine Aj hq [18,19,20] [30000,37006,13000005] ?_;refine gCt false ?_;refine Aj hq [2] [30000,37006,13000005] ?_;cases h;exact Du [(30000,30000),(37006,37006),(13000005,9200005)]
def Q96(a2:TFunc)(aL:Int):AV:=(.agg [(Tn a2.Params),(Br a2.Ret),(Z20 a2.Blocks),(Br aL),Z9,.nilm,Z37])
def Q95(a2:TFunc)(aL:Int):=(⟨[(5,(.ptr 5 0))],[(5,.row 59 [(Tn a2.Params),(Br a2.Ret),(Z20 a2.Blocks),(Br aL),Z9,.nilm,Z37])],[]⟩:St)
def Q94(a2:TFunc)(aL:Int):=(⟨[(5,(.ptr 5 0))],[(5,.row 59 [(Tn a2.Params),(Br a2.Ret),(Z20 a2.Blocks),(Br aL),Z9,.nilm,(Z44 50506)]),(Z49 50506)],[]⟩:St)
def Ci(a2:TFunc)(aL:Int):Option Int:=
 (bif (bif (decide (aL<0)) then true else(decide (((2:Int):Int)<aL))) then(some (1:Int)) else((Dc a2 aL ([]:List Int) ([]:List Ah)).bind fun x1=>(some x1.1)))
theorem F7(a2:TFunc)(aL:Int)(r:Int)(h:Ci a2 aL=some r):Spec Tryz.prog 10 [(.agg (eTFunc a2)),(.int .i64 aL)] [] (.int .i64 r) []:=by
 refine Af mix Tryz.func10 (fun Γ hq=>?_);unfold Ci at h;refine Aj hq [1,2] [2] ?_;refine gR hq [1,2,11] [2] [] [] (ci (gI ((decide (aL<0))==false)) (c1 (Wu (decide (aL<0))))) ?_;refine gC h (fun h=>?_) (fun h=>?_)
 ·refine Aj hq [4] [] ?_;cases h;exact Du []
 ·refine gR hq [5] [5] [(14,(Q96 a2 aL))] [] (c1 (show(AVle (.agg [(Tn a2.Params),(Br a2.Ret),(Z20 a2.Blocks),(Br aL),Z38,.nilm,Z38]) (Q96 a2 aL)) from(AVle.agg (.cons (AVle.refl _) (.cons (AVle.refl _) (.cons (AVle.refl _) (.cons (AVle.refl _) (.cons Iv (.cons (AVle.refl _) (.cons Iv .nil)))))))))) ?_;refine Rt (Q95 a2 aL) ?_;refine Jy (show Le Γ _ (Q94 a2 aL) from Le.trans (Ej (st':=(Q95 a2 aL)) [5] [5] hq) (Le.trans (S2 (r:=5) (j:=6) (nm:=50506) (sz':=5) (fun i=>Bz (([]:List Ah).getD i default)) 104 rfl rfl (nl rfl) rfl (.inl ⟨rfl,rfl⟩) (fun h_=>absurd h_ (by decide))) (Ej (st':=(Q94 a2 aL)) [5] [5,50506] hq))) ?_;refine Jy (show Le Γ _ (⟨[(5,(.ptr 5 0))],[(5,.row 59 [(Tn a2.Params),(Br a2.Ret),(Z20 a2.Blocks),(Br aL),(AV.list 1 Ag 0 ([]:List Int) .none),.nilm,(Z44 50506)]),(Z49 50506)],[]⟩:St) from Le.trans (Ej (st':=(Q94 a2 aL)) [5] [5,50506] hq) (M9 (.cons (AVle.refl _) .nil) (.row (.cons (AVle.refl _) (.cons (AVle.refl _) (.cons (AVle.refl _) (.cons (AVle.refl _) (.cons AVle.untag (.cons (AVle.refl _) (.cons (AVle.refl _) .nil))))))) (.same .nil)))) ?_;obtain⟨x1,hx1,h⟩:=bind_some h;refine gR hq [4] [] [] [⟨[(5,30000),(50506,37006)],[(9200005,10000505)],(Br x1.1),[(Z1 x1.2.1.Params x1.2.1.Ret x1.2.1.Blocks x1.2.2.1 x1.2.2.2.1 9200005 x1.2.2.2.2.1),(Tq x1.2.2.2.2.1.length),(9200005,.obj (.map false .i64 (mapE (fun(v_:Ac)=>((Wo v_):AV)) x1.2.2.2.2.2)))],[]⟩] (c1 (Im a2 aL ([]:List Int) ([]:List Ah) x1 hx1)) ?_;cases h;exact Du []
def Gj(a2:TFunc)(i2:Int):(Int×Int)→Option (LR (Int×Int) Int):=
 fun((i5,i6):(Int×Int))=>(bif (decide (i6<(((a2.Blocks.getD i2.toNat default).Phis).length:Int))) then(Cs (Cg i6 ((a2.Blocks.getD i2.toNat default).Phis).length) (some (.next ((if i5<(((a2.Blocks.getD i2.toNat default).Phis).getD i6.toNat default).Dst then(((a2.Blocks.getD i2.toNat default).Phis).getD i6.toNat default).Dst else i5),(A8 (i6+1)))))) else(some (.done i5)))
def Gk(a2:TFunc)(i2:Int):(Int×Int)→Option (LR (Int×Int) Int):=
 fun((i11,i12):(Int×Int))=>(bif (decide (i12<(((a2.Blocks.getD i2.toNat default).Ops).length:Int))) then(Cs (Cg i12 ((a2.Blocks.getD i2.toNat default).Ops).length) (some (.next ((if i11<(((a2.Blocks.getD i2.toNat default).Ops).getD i12.toNat default).Dst then(((a2.Blocks.getD i2.toNat default).Ops).getD i12.toNat default).Dst else i11),(A8 (i12+1)))))) else(some (.done i11)))
def Gl(a2:TFunc):(Int×Int)→Option (LR (Int×Int) Int):=
 fun((i1,i2):(Int×Int))=>(bif (decide (i2<(a2.Blocks.length:Int))) then(Cs (Cg i2 a2.Blocks.length) ((Ak (Gj a2 i2) (i1,(0:Int))).bind (fun x9=>((Ak (Gk a2 i2) (x9,(0:Int))).bind (fun x15=>(some (.next (x15,(A8 (i2+1)))))))))) else(some (.done i1)))
def Gd(a2:TFunc):Option Int:=
 ((Ak (Gl a2) ((a2.Params.length:Int),(0:Int))).bind (fun x17=>(some x17)))
theorem W1(a2:TFunc)(r:Int)(h:Gd a2=some r):Spec Tryz.prog 12 [(.agg (eTFunc a2))] [] (.int .i64 r) []:=by
 refine Af mix Tryz.func12 (fun Γ hq=>?_);unfold Gd at h;refine Aj hq [1] [1] ?_;refine Aj hq [1,3] [1] ?_;refine Aj hq [3,14,15,16] [] ?_;obtain⟨x17,hx17,h⟩:=bind_some h;refine gL hq hx17 [3,14,15,16] [] (fun u (i1,i2)=>(Et u [(3,(Br i1)),(16,(Br i2))] [])) (fun u i3=>aG Γ (.exit 0) (⟨[(3,(Br i3))],[],[]⟩:St)) ?_ ?_
 ·rintro⟨i1,i2⟩ y h;unfold Gl at h;refine Aj hq [3,14,15,16,17] [] ?_;refine gC h (fun h=>?_) (fun h=>?_)
  ·obtain⟨hc4,h⟩:=Aa h;refine gR hq [3,5,14,15,16] [5] [] [] (c1 hc4) ?_;refine Aj hq [3,5,14,15,16,21,22,23] [5] ?_;obtain⟨x9,hx9,h⟩:=bind_some h;refine gL hq hx9 [3,5,14,15,16,21,22,23] [5] (fun u (i5,i6)=>(Et u [(3,(Br i5)),(23,(Br i6))] [])) (fun u i7=>aG Γ (.exit 2) (Px [3,5,14,15,16] [5] u [(3,(Br i7))] [])) ?_ ?_
   ·rintro⟨i5,i6⟩ y h;unfold Gj at h;refine Aj hq [3,5,14,15,16,21,22,23,24] [5] ?_;refine gC h (fun h=>?_) (fun h=>?_)
    ·obtain⟨hc8,h⟩:=Aa h;refine gR hq [3,5,7,14,15,16,21,22,23] [5,7] [] [] (c1 hc8) ?_;refine Aj hq [3,5,14,15,16,21,22,23] [5] ?_;refine Aj hq [3,5,14,15,16,21,22,23] [5] ?_;cases h;exact gN E9
    ·cases h;exact gO (Eb (Ej [3,5,14,15,16] [5] hq))
   ·clear hx9;refine gA ?_;refine Aj hq [3,14,15,16,33,34,35] [] ?_;obtain⟨x15,hx15,h⟩:=bind_some h;refine gL hq hx15 [3,14,15,16,33,34,35] [] (fun u (i11,i12)=>(Et u [(3,(Br i11)),(35,(Br i12))] [])) (fun u i13=>aG Γ (.exit 4) (Px [3,14,15,16] [] u [(3,(Br i13))] [])) ?_ ?_
    ·rintro⟨i11,i12⟩ y h;unfold Gk at h;refine Aj hq [3,14,15,16,33,34,35,36] [] ?_;refine gC h (fun h=>?_) (fun h=>?_)
     ·obtain⟨hc14,h⟩:=Aa h;refine gR hq [3,9,14,15,16,33,34,35] [9] [] [] (c1 hc14) ?_;refine Aj hq [3,14,15,16,33,34,35] [] ?_;refine Aj hq [3,14,15,16,33,34,35] [] ?_;cases h;exact gN E9
     ·cases h;exact gO (Eb (Ej [3,14,15,16] [] hq))
    ·clear hx15;refine gA ?_;refine Aj hq [3,14,15,16] [] ?_;cases h;exact gN E9
  ·cases h;exact gO (Eb (Ej [3] [] hq))
 ·clear hx17;refine gA ?_;refine Aj hq [2] [] ?_;obtain rfl:=OI h;exact Du []
def Fo :List (Int×(Int×Int))→Option (LR (List (Int×(Int×Int))) (List (Int×(Int×Int)))):=
 fun(l4:List (Int×(Int×Int)))=>(some (.done l4))
def Ep(x1:(Int×TFunc×Int×List Int×List Ah×List (Int×Ac))):Nat→List (Int×(Int×Int))→Option (LR (List (Int×(Int×Int))) (List (Int×(Int×Int)))):=
 fun(n3:Nat) (l4:List (Int×(Int×Int)))=>(some (.next (Gw l4 (x1.2.2.2.2.2.getD n3 ((0:Int),(default:Ac))).1 (((x1.2.2.2.2.2.getD n3 ((0:Int),(default:Ac))).2).shape.1,((x1.2.2.2.2.2.getD n3 ((0:Int),(default:Ac))).2).shape.2))))
def Q98(x1:(Int×TFunc×Int×List Int×List Ah×List (Int×Ac)))(n3:Nat):=(x1.2.2.2.2.2.getD n3 ((0:Int),(default:Ac)))
def Q99(x1:(Int×TFunc×Int×List Int×List Ah×List (Int×Ac))):=(mapE (fun(v_:Ac)=>((Wo v_):AV)) x1.2.2.2.2.2)
def Q101(a2:TFunc):AV:=(.agg [(Tn a2.Params),(Br a2.Ret),(Z20 a2.Blocks),Z27,Z9,.nilm,Z37])
def Q100(a2:TFunc):=(⟨[(3,(.ptr 3 0))],[(3,.row 59 [(Tn a2.Params),(Br a2.Ret),(Z20 a2.Blocks),Z27,Z9,.nilm,Z37])],[]⟩:St)
def Q97(a2:TFunc):=(⟨[(3,(.ptr 3 0))],[(3,.row 59 [(Tn a2.Params),(Br a2.Ret),(Z20 a2.Blocks),Z27,Z9,.nilm,(Z44 50306)]),(Z49 50306)],[]⟩:St)
def Fa(a2:TFunc):Option (List (Int×(Int×Int))):=
 ((Dc a2 (2:Int) ([]:List Int) ([]:List Ah)).bind fun x1=>(bif (x1.1 !=0) then(some ([]:List (Int×(Int×Int)))) else((Qc (S:=List (Int×(Int×Int))) (X:=List (Int×(Int×Int))) Yd ((mapE (fun(v_:Ac)=>((.agg (C3 v_)):AV)) x1.2.2.2.2.2).length) (Ep x1) Fo ([]:List (Int×(Int×Int)))).bind (fun x6=>(some x6)))))
theorem Ts(a2:TFunc)(r:List (Int×(Int×Int)))(h:Fa a2=some r):Spec Tryz.prog 14 [(.agg (eTFunc a2))] [] (.omap 20000) [(20000,.obj (.pmap false .i64 (mapE (fun(v_:(Int×Int))=>((.agg (A4 v_)):AV)) r)))]:=by
 refine Af mix Tryz.func14 (fun Γ hq=>?_);unfold Fa at h;refine Aj hq [1] [1] ?_;refine gR hq [3] [3] [(8,(Q101 a2))] [] (c1 (show(AVle (.agg [(Tn a2.Params),(Br a2.Ret),(Z20 a2.Blocks),Z27,Z38,.nilm,Z38]) (Q101 a2)) from(AVle.agg (.cons (AVle.refl _) (.cons (AVle.refl _) (.cons (AVle.refl _) (.cons (AVle.refl _) (.cons Iv (.cons (AVle.refl _) (.cons Iv .nil)))))))))) ?_;refine Rt (Q100 a2) ?_;refine Jy (show Le Γ _ (Q97 a2) from Le.trans (Ej (st':=(Q100 a2)) [3] [3] hq) (Le.trans (S2 (r:=3) (j:=6) (nm:=50306) (sz':=5) (fun i=>Bz (([]:List Ah).getD i default)) 104 rfl rfl (nl rfl) rfl (.inl ⟨rfl,rfl⟩) (fun h_=>absurd h_ (by decide))) (Ej (st':=(Q97 a2)) [3] [3,50306] hq))) ?_;refine Jy (show Le Γ _ (⟨[(3,(.ptr 3 0))],[(3,.row 59 [(Tn a2.Params),(Br a2.Ret),(Z20 a2.Blocks),Z27,(AV.list 1 Ag 0 ([]:List Int) .none),.nilm,(Z44 50306)]),(Z49 50306)],[]⟩:St) from Le.trans (Ej (st':=(Q97 a2)) [3] [3,50306] hq) (M9 (.cons (AVle.refl _) .nil) (.row (.cons (AVle.refl _) (.cons (AVle.refl _) (.cons (AVle.refl _) (.cons (AVle.refl _) (.cons AVle.untag (.cons (AVle.refl _) (.cons (AVle.refl _) .nil))))))) (.same .nil)))) ?_;obtain⟨x1,hx1,h⟩:=bind_some h;refine gR hq [3,10] [3,50306,10000305] [] [⟨[(3,30000),(50306,37006)],[(9200005,10000305)],(Br x1.1),(Z5 x1.2.1.Params x1.2.1.Ret x1.2.1.Blocks x1.2.2.1 x1.2.2.2.1 9200005 x1.2.2.2.2.1 x1.2.2.2.2.1.length (Q99 x1)),[]⟩] (c1 (Im a2 (2:Int) ([]:List Int) ([]:List Ah) x1 hx1)) ?_;refine gC h (fun h=>?_) (fun h=>?_)
 ·refine Aj hq [2] [] ?_;refine Rt (⟨[(2,.nilm)],[],[]⟩:St) ?_;cases h;exact gK (e:=.ret) (J6 [(36002,20000)] (Le.trans (Le.trans (le_nilm (t:=2) (nm:=36002) .i64 rfl rfl) (Ej (st':=⟨[(2,(.omap 36002))],[(36002,.obj (.map false .i64 (mapE (fun(v_:(Int×Int))=>((Z42 v_):AV)) ([]:List (Int×(Int×Int))))))],[]⟩) [2] [36002] hq)) (leP 36002 false .i64 (f:=(fun(v_:(Int×Int))=>((Z42 v_):AV))) permN_nil)))
 ·refine gR hq [3,4] [3,14,50306,10000305] [(13,(Z48 x1.2.2.2.2.2.length))] [] (c1 (show(AVle (.int .i64 ((Q99 x1).length:Int)) (Z48 x1.2.2.2.2.2.length)) from(mlen_le (f:=(fun(v_:Ac)=>((Wo v_):AV))) (l:=x1.2.2.2.2.2) rfl))) ?_;refine Jy (M8 (fun(k_:List (Int×AV)) u=>Et u [] [(14,.obj (.map true .i64 k_))]) (show[]=(mapE (fun(v_:(Int×Int))=>((Z42 v_):AV)) ([]:List (Int×(Int×Int)))) from rfl)) ?_;refine Aj hq [4,17] [14,17,10000305] ?_;obtain⟨x6,hx6,h⟩:=bind_some h;refine gMP hq hx6 [4,17] [14,17,10000305] (fun u z2 l4=>(Et u [] [(14,.obj (.map true .i64 (mapE (fun(v_:(Int×Int))=>((Z42 v_):AV)) l4))),(17,.obj (.miter (.omap 10000305) ((Q99 x1).length) z2))])) (fun u l5=>aG Γ (.exit 0) (Px [4] [14] u [] [(14,.obj (.map true .i64 (mapE (fun(v_:(Int×Int))=>((Z42 v_):AV)) l5)))])) 17 18 19 17 10000305 false .i64 (Q99 x1) [4,17,19] [14,17,10000305] (kd:=?_) (kn:=?_) (ko:=?_)
  ·rintro z2 l4 y h hall;unfold Fo at h;refine gCt false ?_;cases h;exact gO (Eb (Ej [4] [14] hq))
  ·rintro z2 l4 n3 y h hin3 hnn3;unfold Ep at h;refine gCt true ?_;refine gR hq [4,5,6,17] [6,14,17,10000305] [(20,(.tuple [(.int .i64 (Q98 x1 n3).1),(.agg (C3 ((Q98 x1 n3).2)))]))] [] (ci (Eq.refl ((Q99 x1).length)) (ci (show(n3<(Q99 x1).length) from hin3) (c1 (show(AVle (.tuple [.int .i64 ((Q99 x1).getD n3 (0,.any)).1,((Q99 x1).getD n3 (0,.any)).2]) (.tuple [(.int .i64 (Q98 x1 n3).1),(.agg (C3 ((Q98 x1 n3).2)))])) from(ment_le (f:=(fun(v_:Ac)=>((Wo v_):AV))) (l:=x1.2.2.2.2.2) hin3))))) ?_;refine Aj hq [4,17] [14,17,10000305] ?_;cases h;exact gN (Le.trans (M8 (fun(k_:List (Int×AV)) u=>Et u [] [(14,.obj (.map true .i64 k_))]) (show(Gw (mapE (fun(v_:(Int×Int))=>((Z42 v_):AV)) l4) (Q98 x1 n3).1 (.agg [(.int .i64 ((Q98 x1 n3).2).shape.1),(.int .i64 ((Q98 x1 n3).2).shape.2)]))=(mapE (fun(v_:(Int×Int))=>((Z42 v_):AV)) (Gw l4 (Q98 x1 n3).1 (((Q98 x1 n3).2).shape.1,((Q98 x1 n3).2).shape.2))) from(Zh (f:=(fun(v_:(Int×Int))=>((Z42 v_):AV))) (l:=l4) (v:=(((Q98 x1 n3).2).shape.1,((Q98 x1 n3).2).shape.2)) rfl rfl))) E9)
  ·clear hx6;rintro l_ hp_;refine gA' (fun st' hl7=>?_);refine Jy (Le.trans hl7 (leP 14 true .i64 (f:=(fun(v_:(Int×Int))=>((Z42 v_):AV))) hp_)) ?_;refine Aj hq [2] [14] ?_;refine Rt (⟨[(2,(.omap 14))],[(14,.obj (.pmap true .i64 (mapE (fun(v_:(Int×Int))=>((Z42 v_):AV)) x6)))],[]⟩:St) ?_;obtain rfl:=OI h;exact gK (e:=.ret) (J6 [(14,20000)] (leQ 14 .i64 (mapE (fun(v_:(Int×Int))=>((Z42 v_):AV)) x6)))
def Yw:=([(8:Int)]:List Int)
def Q103(x1:Int)(x2:Int)(x3:List (Int×(Int×Int))):=(bif (bif (bif (x1==0) then(x2==2) else false) then(((x3.length:Int):Int)==2) else false) then((((Dh ((0:Int),(0:Int)) x3 (2:Int)).1:Int)==8)&&((((Dh ((0:Int),(0:Int)) x3 (2:Int)).2:Int)==1)&&true)) else false)
def Q111(x1:Int)(x2:Int)(x3:List (Int×(Int×Int)))(x5:Int):=(bif (Q103 x1 x2 x3) then(x5==7) else false)
def Q107(x1:Int)(x2:Int):=((bif (x1==0) then(x2==2) else false)==true)
def Q110:=([(⟨(1:Int),(8:Int),(1:Int),(2:Int),([(1:Int),(1:Int)]:List Int),(0:Int)⟩:D4)]:List D4)
def Q105(x1:Int)(x2:Int)(x3:List (Int×(Int×Int))):=((bif (bif (x1==0) then(x2==2) else false) then(((x3.length:Int):Int)==2) else false)==true)
def Nj:=(⟨([]:List Dx),Q110,(⟨(0:Int),(2:Int),([]:List Int)⟩:Eo)⟩:Ab)
def Q109:=([Nj].set (0:Int).toNat (⟨([Nj].getD (0:Int).toNat (default:Ab)).Phis,([Nj].getD (0:Int).toNat (default:Ab)).Ops,(⟨([Nj].getD (0:Int).toNat (default:Ab)).End.Kind,(3:Int),([Nj].getD (0:Int).toNat (default:Ab)).End.To⟩:Eo)⟩:Ab))
def Q104:List AV:=[(AV.list 4 Pn default ([]:List Dx) .exact),(AV.list 6 Ky default Q110 .exact),Wn,Z27,Z9]
def m_locksteplaw11_awake :Option Bool:=
 ((Ci (⟨([(8:Int)]:List Int),(8:Int),[(⟨([]:List Dx),([(⟨(1:Int),(8:Int),(1:Int),(2:Int),([(1:Int),(1:Int)]:List Int),(0:Int)⟩:D4)]:List D4),(⟨(0:Int),(2:Int),([]:List Int)⟩:Eo)⟩:Ab)]⟩:TFunc) (0:Int)).bind fun x1=>((Gd (⟨([(8:Int)]:List Int),(8:Int),[(⟨([]:List Dx),([(⟨(1:Int),(8:Int),(1:Int),(2:Int),([(1:Int),(1:Int)]:List Int),(0:Int)⟩:D4)]:List D4),(⟨(0:Int),(2:Int),([]:List Int)⟩:Eo)⟩:Ab)]⟩:TFunc)).bind fun x2=>((Fa (⟨([(8:Int)]:List Int),(8:Int),[(⟨([]:List Dx),([(⟨(1:Int),(8:Int),(1:Int),(2:Int),([(1:Int),(1:Int)]:List Int),(0:Int)⟩:D4)]:List D4),(⟨(0:Int),(2:Int),([]:List Int)⟩:Eo)⟩:Ab)]⟩:TFunc)).bind fun x3=>(Cs (Cg (0:Int) [(⟨([]:List Dx),([(⟨(1:Int),(8:Int),(1:Int),(2:Int),([(1:Int),(1:Int)]:List Int),(0:Int)⟩:D4)]:List D4),(⟨(0:Int),(2:Int),([]:List Int)⟩:Eo)⟩:Ab)].length) ((Ci (⟨([(8:Int)]:List Int),(8:Int),([(⟨([]:List Dx),([(⟨(1:Int),(8:Int),(1:Int),(2:Int),([(1:Int),(1:Int)]:List Int),(0:Int)⟩:D4)]:List D4),(⟨(0:Int),(2:Int),([]:List Int)⟩:Eo)⟩:Ab)].set (0:Int).toNat (⟨([(⟨([]:List Dx),([(⟨(1:Int),(8:Int),(1:Int),(2:Int),([(1:Int),(1:Int)]:List Int),(0:Int)⟩:D4)]:List D4),(⟨(0:Int),(2:Int),([]:List Int)⟩:Eo)⟩:Ab)].getD (0:Int).toNat (default:Ab)).Phis,([(⟨([]:List Dx),([(⟨(1:Int),(8:Int),(1:Int),(2:Int),([(1:Int),(1:Int)]:List Int),(0:Int)⟩:D4)]:List D4),(⟨(0:Int),(2:Int),([]:List Int)⟩:Eo)⟩:Ab)].getD (0:Int).toNat (default:Ab)).Ops,(⟨([(⟨([]:List Dx),([(⟨(1:Int),(8:Int),(1:Int),(2:Int),([(1:Int),(1:Int)]:List Int),(0:Int)⟩:D4)]:List D4),(⟨(0:Int),(2:Int),([]:List Int)⟩:Eo)⟩:Ab)].getD (0:Int).toNat (default:Ab)).End.Kind,(3:Int),([(⟨([]:List Dx),([(⟨(1:Int),(8:Int),(1:Int),(2:Int),([(1:Int),(1:Int)]:List Int),(0:Int)⟩:D4)]:List D4),(⟨(0:Int),(2:Int),([]:List Int)⟩:Eo)⟩:Ab)].getD (0:Int).toNat (default:Ab)).End.To⟩:Eo)⟩:Ab))⟩:TFunc) (0:Int)).bind fun x5=>((bif ((bif (bif (bif (bif (x1==0) then(x2==2) else false) then(((x3.length:Int):Int)==2) else false) then((((Dh ((0:Int),(0:Int)) x3 (2:Int)).1:Int)==8)&&((((Dh ((0:Int),(0:Int)) x3 (2:Int)).2:Int)==1)&&true)) else false) then(x5==7) else false)==true) then Ci (⟨([(8:Int)]:List Int),(8:Int),([(⟨([]:List Dx),([(⟨(1:Int),(8:Int),(1:Int),(2:Int),([(1:Int),(1:Int)]:List Int),(0:Int)⟩:D4)]:List D4),(⟨(0:Int),(2:Int),([]:List Int)⟩:Eo)⟩:Ab)].set (0:Int).toNat (⟨([(⟨([]:List Dx),([(⟨(1:Int),(8:Int),(1:Int),(2:Int),([(1:Int),(1:Int)]:List Int),(0:Int)⟩:D4)]:List D4),(⟨(0:Int),(2:Int),([]:List Int)⟩:Eo)⟩:Ab)].getD (0:Int).toNat (default:Ab)).Phis,([(⟨([]:List Dx),([(⟨(1:Int),(8:Int),(1:Int),(2:Int),([(1:Int),(1:Int)]:List Int),(0:Int)⟩:D4)]:List D4),(⟨(0:Int),(2:Int),([]:List Int)⟩:Eo)⟩:Ab)].getD (0:Int).toNat (default:Ab)).Ops,(⟨([(⟨([]:List Dx),([(⟨(1:Int),(8:Int),(1:Int),(2:Int),([(1:Int),(1:Int)]:List Int),(0:Int)⟩:D4)]:List D4),(⟨(0:Int),(2:Int),([]:List Int)⟩:Eo)⟩:Ab)].getD (0:Int).toNat (default:Ab)).End.Kind,(3:Int),([(⟨([]:List Dx),([(⟨(1:Int),(8:Int),(1:Int),(2:Int),([(1:Int),(1:Int)]:List Int),(0:Int)⟩:D4)]:List D4),(⟨(0:Int),(2:Int),([]:List Int)⟩:Eo)⟩:Ab)].getD (0:Int).toNat (default:Ab)).End.To⟩:Eo)⟩:Ab))⟩:TFunc) (3:Int) else some (0:Int)).bind fun x6=>(some (bif (bif (bif (bif (bif (x1==0) then(x2==2) else false) then(((x3.length:Int):Int)==2) else false) then((((Dh ((0:Int),(0:Int)) x3 (2:Int)).1:Int)==8)&&((((Dh ((0:Int),(0:Int)) x3 (2:Int)).2:Int)==1)&&true)) else false) then(x5==7) else false) then(x6==1) else false))))))))
theorem Mv  (r:Bool) (h:m_locksteplaw11_awake=some r):Spec Tryz.prog 8 [] [] (.bool r) []:=by
 refine Af mix Tryz.func8 (fun Γ hq=>?_);unfold m_locksteplaw11_awake at h;refine Aj hq [] [] ?_;refine gR hq [1] [1,12] [(6,(AV.list 1 Ag 0 Yw .exact)),(7,(AV.list 1 Ag 0 ([(1:Int),(1:Int)]:List Int) .exact)),(9,(AV.list 6 Ky default Q110 .exact)),(10,(.agg [Wn,Z27,Z9])),(11,(.agg Q104)),(12,(.vsl 12 1))] [] (ci (Dy 1 Ag (0:Int) Yw) (ci (Dy 1 Ag (0:Int) ([(1:Int),(1:Int)]:List Int)) (ci (Dy 6 Ky (default:D4) Q110) (ci (show(AVle (.agg [Wn,Z27,Z38]) (.agg [Wn,Z27,Z9])) from(AVle.agg (.cons (AVle.refl _) (.cons (AVle.refl _) (.cons Iv .nil))))) (c1 (show(AVle (.agg [Z38,(AV.list 6 Ky default Q110 .exact),Wn,Z27,Z9]) (.agg Q104)) from(AVle.agg (.cons Iv (.cons (AVle.refl _) (.cons (AVle.refl _) (.cons (AVle.refl _) (.cons (AVle.refl _) .nil)))))))))))) ?_;refine Jy (Le.trans (Ph 12 (show ∀ k_,k_<1→AVleL ((fun i_=>AV.eraseAll (fun n_=>Cu n_ [1,12]) ((fun i_=>(Q104.drop (i_*5)).take 5) i_)) k_) ((fun i=>Au ([Nj].getD i default)) k_) from(pwl_snoc (n:=0) pwl_nil (show AVleL Q104 [(AV.list 4 Pn default ([]:List Dx) .none),(AV.list 6 Ky default Q110 .none),Wn,Z27,(AV.list 1 Ag 0 ([]:List Int) .none)] from(.cons AVle.untag (.cons AVle.untag (.cons (AVle.refl _) (.cons (AVle.refl _) (.cons AVle.untag .nil))))))))) (M8 (fun(k_:Nat) u=>(Et u [] [(1,.row 25 [(AV.list 1 Ag 0 Yw .exact),(.int .i64 (8:Int)),(.vsl 12 k_)]),(12,.arr 5 44 k_ (fun i=>Au ([Nj].getD i default)))])) (show 1=[Nj].length from rfl))) ?_;obtain⟨x1,hx1,h⟩:=bind_some h;refine gR hq [1,2] [1,12] [] [⟨[],[],(Br x1),[],[12]⟩] (ci (F7 (⟨Yw,(8:Int),[Nj]⟩:TFunc) (0:Int) x1 hx1) (ci (show(Po []) from trivial) (c1 (Eq.refl ([Nj].length))))) ?_;obtain⟨x2,hx2,h⟩:=bind_some h;refine gR hq [1,2,3] [1,12] [] [⟨[],[],(Br x2),[],[12]⟩] (ci (W1 (⟨Yw,(8:Int),[Nj]⟩:TFunc) x2 hx2) (ci (show(Po []) from trivial) (c1 (Eq.refl ([Nj].length))))) ?_;obtain⟨x3,hx3,h⟩:=bind_some h;refine gR hq [1,2,3,4] [1,12,19] [] [⟨[],[(20000,19)],(.omap 20000),[(20000,.obj (.pmap false .i64 (mapE (fun(v_:(Int×Int))=>((Z42 v_):AV)) x3)))],[12]⟩] (ci (Ts (⟨Yw,(8:Int),[Nj]⟩:TFunc) x3 hx3) (ci (show(Po [(20000,.obj (.pmap false .i64 (mapE (fun(v_:(Int×Int))=>((Z42 v_):AV)) x3)))]) from⟨mapE_flat (fun _=>rfl),trivial⟩) (c1 (Eq.refl ([Nj].length))))) ?_;obtain⟨hc4,h⟩:=Aa h;refine gR hq [1,2,3,4] [1,12,19] [] [] (ci hc4 (c1 (Eq.refl ([Nj].length)))) ?_;refine Jy (Le.trans (Ph 12 (show ∀ k_,k_<([Nj].length)→AVleL ((fun i_=>AV.eraseAll (fun n_=>Cu n_ [1,12,19]) ((Ip (fun i=>Au ([Nj].getD i default)) (0:Int).toNat 3 [(.int .i64 (3:Int))]) i_)) k_) ((fun i=>Au (Q109.getD i default)) k_) from(Bx (List.length_set ..).symm (fun k_ hk_=>(congrArg (AV.eraseAll (fun n_=>Cu n_ [1,12,19])) ((Hz (fun _ _=>rfl) (Jd hc4) rfl) k_ hk_)).trans rfl)))) (M8 (fun(k_:Nat) u=>(Et u [] [(1,.row 25 [(AV.list 1 Ag 0 Yw .exact),(.int .i64 (8:Int)),(.vsl 12 k_)]),(12,.arr 5 44 k_ (fun i=>Au (Q109.getD i default)))])) (show[Nj].length=Q109.length from(List.length_set ..).symm))) ?_;obtain⟨x5,hx5,h⟩:=bind_some h;refine gR hq [1,2,3,4,5] [1,12,19] [] [⟨[],[],(Br x5),[],[12]⟩] (ci (F7 (⟨Yw,(8:Int),Q109⟩:TFunc) (0:Int) x5 hx5) (ci (show(Po []) from trivial) (c1 (Eq.refl (Q109.length))))) ?_;obtain⟨x6,hx6,h⟩:=bind_some h;refine gR hq [0] [] [(35,(Z48 x3.length)),(40,(.agg (A4 (Dh ((0:Int),(0:Int)) x3 (2:Int)))))] [⟨[],[],(Br x6),[],[12]⟩] (ci (gI ((x1==0)==true)) (ci (Kx (x1==0)) (ci (gI (Q107 x1 x2)) (ci (show((Q107 x1 x2)=true→(AVle (.int .i64 ((mapE (fun(v_:(Int×Int))=>((Z42 v_):AV)) x3).length:Int)) (Z48 x3.length))) from(fun hg=>(mlen_le (f:=(fun(v_:(Int×Int))=>((Z42 v_):AV))) (l:=x3) rfl))) (ci (gI (Q107 x1 x2)) (ci (Kx (bif (x1==0) then(x2==2) else false)) (ci (gI (Q105 x1 x2 x3)) (ci (show((Q105 x1 x2 x3)=true→(AVle (Dh (.agg [Wn,Wn]) (mapE (fun(v_:(Int×Int))=>((Z42 v_):AV)) x3) (2:Int)) (.agg (A4 (Dh ((0:Int),(0:Int)) x3 (2:Int)))))) from(fun hg=>(Uc (f:=(fun(v_:(Int×Int))=>((Z42 v_):AV))) (l:=x3) (AVle.refl _) rfl))) (ci (gI (Q105 x1 x2 x3)) (ci (gI (Q105 x1 x2 x3)) (ci (Kx (bif (bif (x1==0) then(x2==2) else false) then(((x3.length:Int):Int)==2) else false)) (ci (gI ((Q103 x1 x2 x3)==true)) (ci (Kx (Q103 x1 x2 x3)) (ci (gI ((Q111 x1 x2 x3 x5)==true)) (ci (fun(hg:((Q111 x1 x2 x3 x5)==true)=true)=>(F7 (⟨Yw,(8:Int),Q109⟩:TFunc) (3:Int) x6 (Dd hg hx6))) (ci (show(((Q111 x1 x2 x3 x5)==true)=true→(Po [])) from(fun hg=>trivial)) (ci (show(((Q111 x1 x2 x3 x5)==true)=true→(Q109.length=Q109.length)) from(fun hg=>rfl)) (ci (gI ((Q111 x1 x2 x3 x5)==true)) (c1 (Kx (Q111 x1 x2 x3 x5))))))))))))))))))))) ?_;cases h;exact Du []
def Bk(a2:TFunc)(i2:Int):(Int×Int)→Option (LR (Int×Int) Int):=
 fun((i5,i6):(Int×Int))=>(Cs (Cg i2 a2.Blocks.length) (bif (bif (decide (i6<(((a2.Blocks.getD i2.toNat default).Phis).length:Int))) then(decide (i5≤20000)) else false) then(Cs (Cg i2 a2.Blocks.length) (Cs (Cg i6 ((a2.Blocks.getD i2.toNat default).Phis).length) (Cs (Cg i2 a2.Blocks.length) (Cs (Cg i6 ((a2.Blocks.getD i2.toNat default).Phis).length) (some (.next ((A8 ((A8 ((A8 (i5+1))+(((((a2.Blocks.getD i2.toNat default).Phis).getD i6.toNat default).From).length:Int)))+(((((a2.Blocks.getD i2.toNat default).Phis).getD i6.toNat default).Args).length:Int))),(A8 (i6+1))))))))) else(some (.done i5))))
def Bl(a2:TFunc)(i2:Int):(Int×Int)→Option (LR (Int×Int) Int):=
 fun((i15,i16):(Int×Int))=>(Cs (Cg i2 a2.Blocks.length) (bif (bif (decide (i16<(((a2.Blocks.getD i2.toNat default).Ops).length:Int))) then(decide (i15≤20000)) else false) then(Cs (Cg i2 a2.Blocks.length) (Cs (Cg i16 ((a2.Blocks.getD i2.toNat default).Ops).length) (some (.next ((A8 ((A8 (i15+1))+(((((a2.Blocks.getD i2.toNat default).Ops).getD i16.toNat default).Args).length:Int))),(A8 (i16+1))))))) else(some (.done i15))))
def Bb(a2:TFunc):(Int×Int)→Option (LR (Int×Int) Int):=
 fun((i1,i2):(Int×Int))=>(bif (bif (decide (i2<(a2.Blocks.length:Int))) then(decide (i1≤20000)) else false) then(Cs (Cg i2 a2.Blocks.length) ((Ak (Bk a2 i2) ((A8 ((A8 (i1+1))+(((a2.Blocks.getD i2.toNat default).End.To).length:Int))),(0:Int))).bind (fun x13=>((Ak (Bl a2 i2) (x13,(0:Int))).bind (fun x21=>(some (.next (x21,(A8 (i2+1)))))))))) else(some (.done i1)))
def Bq(a2:TFunc):Option Bool:=
 ((Ak (Bb a2) ((a2.Params.length:Int),(0:Int))).bind (fun x23=>(some (decide (x23≤20000)))))
theorem Mw(a2:TFunc)(r:Bool)(h:Bq a2=some r):Spec Tryz.prog 18 [(.agg (eTFunc a2))] [] (.bool r) []:=by
 refine Af mix Tryz.func18 (fun Γ hq=>?_);unfold Bq at h;refine Aj hq [1] [1] ?_;refine Aj hq [1,3] [1] ?_;refine Aj hq [1,3,4] [1] ?_;obtain⟨x23,hx23,h⟩:=bind_some h;refine gL hq hx23 [1,3,4] [1] (fun u (i1,i2)=>(Et u [(3,(Br i1)),(4,(Br i2))] [])) (fun u i3=>aG Γ (.exit 0) (⟨[(3,(Br i3))],[],[]⟩:St)) ?_ ?_
 ·rintro⟨i1,i2⟩ y h;unfold Bb at h;refine gR hq [1,3,4,18] [1] [] [] (ci (gI ((decide (i2<(a2.Blocks.length:Int)))==true)) (c1 (Kx (decide (i2<(a2.Blocks.length:Int)))))) ?_;refine gC h (fun h=>?_) (fun h=>?_)
  ·obtain⟨hc4,h⟩:=Aa h;refine gR hq [1,3,4] [1] [] [] (c1 hc4) ?_;refine Aj hq [1,3,4,5] [1] ?_;obtain⟨x13,hx13,h⟩:=bind_some h;refine gL hq hx13 [1,3,4,5] [1] (fun u (i5,i6)=>(Et u [(3,(Br i5)),(5,(Br i6))] [])) (fun u i7=>aG Γ (.exit 2) (Px [1,3,4] [1] u [(3,(Br i7))] [])) ?_ ?_
   ·rintro⟨i5,i6⟩ y h;unfold Bk at h;obtain⟨hc8,h⟩:=Aa h;refine gR hq [1,3,4,5,44] [1] [] [] (ci hc8 (ci (gI ((decide (i6<(((a2.Blocks.getD i2.toNat default).Phis).length:Int)))==true)) (c1 (Kx (decide (i6<(((a2.Blocks.getD i2.toNat default).Phis).length:Int))))))) ?_;refine gC h (fun h=>?_) (fun h=>?_)
    ·obtain⟨hc9,h⟩:=Aa h;obtain⟨hc10,h⟩:=Aa h;obtain⟨hc11,h⟩:=Aa h;obtain⟨hc12,h⟩:=Aa h;refine gR hq [1,3,4,5] [1] [] [] (ci hc9 (ci hc10 (ci hc11 (c1 hc12)))) ?_;refine Aj hq [1,3,4,5] [1] ?_;cases h;exact gN E9
    ·cases h;exact gO (Eb (Ej [1,3,4] [1] hq))
   ·clear hx13;refine gA ?_;refine Aj hq [1,3,4,6] [1] ?_;obtain⟨x21,hx21,h⟩:=bind_some h;refine gL hq hx21 [1,3,4,6] [1] (fun u (i15,i16)=>(Et u [(3,(Br i15)),(6,(Br i16))] [])) (fun u i17=>aG Γ (.exit 4) (Px [1,3,4] [1] u [(3,(Br i17))] [])) ?_ ?_
    ·rintro⟨i15,i16⟩ y h;unfold Bl at h;obtain⟨hc18,h⟩:=Aa h;refine gR hq [1,3,4,6,85] [1] [] [] (ci hc18 (ci (gI ((decide (i16<(((a2.Blocks.getD i2.toNat default).Ops).length:Int)))==true)) (c1 (Kx (decide (i16<(((a2.Blocks.getD i2.toNat default).Ops).length:Int))))))) ?_;refine gC h (fun h=>?_) (fun h=>?_)
     ·obtain⟨hc19,h⟩:=Aa h;obtain⟨hc20,h⟩:=Aa h;refine gR hq [1,3,4,6] [1] [] [] (ci hc19 (c1 hc20)) ?_;refine Aj hq [1,3,4,6] [1] ?_;cases h;exact gN E9
     ·cases h;exact gO (Eb (Ej [1,3,4] [1] hq))
    ·clear hx21;refine gA ?_;refine Aj hq [1,3,4] [1] ?_;cases h;exact gN E9
  ·cases h;exact gO (Eb (Ej [3] [] hq))
 ·clear hx23;refine gA ?_;refine Aj hq [2] [] ?_;cases h;exact Du []
def Cp(a2:TFunc):(Int×Int)→Option (LR (Int×Int) Int):=
 fun((i1,i2):(Int×Int))=>(bif (decide (i2<(a2.Blocks.length:Int))) then(Cs (Cg i2 a2.Blocks.length) (Cs (Cg i2 a2.Blocks.length) (some (.next ((A8 ((A8 ((A8 (i1+1))+(((a2.Blocks.getD i2.toNat default).Ops).length:Int)))+(((a2.Blocks.getD i2.toNat default).Phis).length:Int))),(A8 (i2+1))))))) else(some (.done i1)))
def Q112(a2:TFunc)(x6:Int):=(bif (decide (((a2.Blocks.length:Int):Int)≤16)) then(decide (x6≤100)) else false)
def Q113(a2:TFunc)(x6:Int):=(bif (Q112 a2 x6) then true else(decide (((64:Int):Int)<(a2.Blocks.length:Int))))
def Ea(a2:TFunc):Option Bool:=
 ((Ak (Cp a2) ((0:Int),(0:Int))).bind (fun x6=>((Bq a2).bind fun x8=>(some (bif x8 then(bif (bif (bif (decide (((a2.Blocks.length:Int):Int)≤16)) then(decide (x6≤100)) else false) then true else(decide (((64:Int):Int)<(a2.Blocks.length:Int)))) then true else(decide (((512:Int):Int)<x6))) else false)))))
theorem Mx(a2:TFunc)(r:Bool)(h:Ea a2=some r):Spec Tryz.prog 9 [(.agg (eTFunc a2))] [] (.bool r) []:=by
 refine Af mix Tryz.func9 (fun Γ hq=>?_);unfold Ea at h;refine Aj hq [1] [1] ?_;refine Aj hq [1,3] [1] ?_;refine Aj hq [1,3,4] [1] ?_;obtain⟨x6,hx6,h⟩:=bind_some h;refine gL hq hx6 [1,3,4] [1] (fun u (i1,i2)=>(Et u [(3,(Br i1)),(4,(Br i2))] [])) (fun u i3=>aG Γ (.exit 0) (Px [1,3] [1] u [(3,(Br i3))] [])) ?_ ?_
 ·rintro⟨i1,i2⟩ y h;unfold Cp at h;refine Aj hq [1,3,4,9] [1] ?_;refine gC h (fun h=>?_) (fun h=>?_)
  ·obtain⟨hc4,h⟩:=Aa h;obtain⟨hc5,h⟩:=Aa h;refine gR hq [1,3,4] [1] [] [] (ci hc4 (c1 hc5)) ?_;refine Aj hq [1,3,4] [1] ?_;cases h;exact gN E9
  ·cases h;exact gO (Eb (Ej [1,3] [1] hq))
 ·clear hx6;refine gA ?_;obtain⟨x8,hx8,h⟩:=bind_some h;refine gR hq [2] [] [] [(Z6 x8)] (ci (Mw a2 x8 hx8) (ci (gI (x8==true)) (ci (gI (x8==true)) (ci (gI (x8==true)) (ci (gI (x8==true)) (ci (gI ((x8==true)&&((decide (((a2.Blocks.length:Int):Int)≤16))==true))) (ci (gI (x8==true)) (ci (show((x8==true)=true→((decide (((a2.Blocks.length:Int):Int)≤16))=true→((x8==true)&&((decide (((a2.Blocks.length:Int):Int)≤16))==true))=true)) from(fun hg=>(aT hg))) (ci (gI (x8==true)) (ci (gI ((x8==true)&&((Q112 a2 x6)==false))) (ci (gI ((x8==true)&&((Q112 a2 x6)==false))) (ci (gI ((x8==true)&&((Q112 a2 x6)==false))) (ci (gI (x8==true)) (ci (show((x8==true)=true→((Q112 a2 x6)=false→((x8==true)&&((Q112 a2 x6)==false))=true)) from(fun hg=>(aF hg))) (ci (gI (x8==true)) (ci (gI ((x8==true)&&((Q113 a2 x6)==false))) (ci (gI (x8==true)) (ci (show((x8==true)=true→((Q113 a2 x6)=false→((x8==true)&&((Q113 a2 x6)==false))=true)) from(fun hg=>(aF hg))) (c1 (Kx x8)))))))))))))))))))) ?_;cases h;exact Du []
def Ce(a2:TFunc)(i7:Int):(Bool×Int)→Option (LR (Bool×Int) Bool):=
 fun((b9,i10):(Bool×Int))=>(Cs (Cg i7 a2.Blocks.length) (bif (decide (i10<(((a2.Blocks.getD i7.toNat default).Ops).length:Int))) then(Cs (Cg i7 a2.Blocks.length) (Cs (Cg i10 ((a2.Blocks.getD i7.toNat default).Ops).length) (some (.next ((bif (bif b9 then(((((a2.Blocks.getD i7.toNat default).Ops).getD i10.toNat default).Lanes:Int)==1) else false) then(decide (((((a2.Blocks.getD i7.toNat default).Ops).getD i10.toNat default).Kind:Int)≤17)) else false),(A8 (i10+1))))))) else(some (.done b9))))
def Cf(a2:TFunc):(Bool×Int)→Option (LR (Bool×Int) Bool):=
 fun((b6,i7):(Bool×Int))=>(bif (decide (i7<(a2.Blocks.length:Int))) then((Ak (Ce a2 i7) (b6,(0:Int))).bind (fun x15=>(some (.next (x15,(A8 (i7+1))))))) else(some (.done b6)))
def Q230(x3:Int)(x4:Int):=(bif (x3==0) then(x4 !=0) else false)
def Q231(b9:Bool)(a2:TFunc)(i7:Int)(i10:Int):=(bif b9 then(((((a2.Blocks.getD i7.toNat default).Ops).getD i10.toNat default).Lanes:Int)==1) else false)
def Dt(a2:TFunc):Option Bool:=
 (m_locksteplaw11_awake.bind fun x1=>(bif (!x1) then(some false) else((Ea a2).bind fun x2=>(bif (!x2) then(some true) else((Ci a2 (0:Int)).bind fun x3=>((Ci a2 (1:Int)).bind fun x4=>((Ci a2 (2:Int)).bind fun x5=>(bif (bif (bif (x3==0) then(x4 !=0) else false) then true else(bif (x4==0) then(x5 !=0) else false)) then(some false) else((Ak (Cf a2) (true,(0:Int))).bind (fun x17=>(some (bif (x5 !=0) then true else((x3==0)==x17)))))))))))))
theorem ok_locksteplaw11_CheckLevels(a2:TFunc)(r:Bool)(h:Dt a2=some r):Spec Tryz.prog 4 [(.agg (eTFunc a2))] [] (.bool r) []:=by
 refine Af mix Tryz.func4 (fun Γ hq=>?_);unfold Dt at h;refine Aj hq [1] [1] ?_;obtain⟨x1,hx1,h⟩:=bind_some h;refine gR hq [1,11] [1] [] [(Z6 x1)] (c1 (Mv  x1 hx1)) ?_;refine gC h (fun h=>?_) (fun h=>?_)
 ·refine Aj hq [2] [] ?_;obtain rfl:=OI h;exact Du []
 ·obtain⟨x2,hx2,h⟩:=bind_some h;refine gR hq [1,14] [1] [] [(Z6 x2)] (c1 (Mx a2 x2 hx2)) ?_;refine gC h (fun h=>?_) (fun h=>?_)
  ·refine Aj hq [2] [] ?_;obtain rfl:=OI h;exact Du []
  ·obtain⟨x3,hx3,h⟩:=bind_some h;refine gR hq [1,3] [1] [] [(Z45 x3)] (c1 (F7 a2 (0:Int) x3 hx3)) ?_;obtain⟨x4,hx4,h⟩:=bind_some h;refine gR hq [1,3,4] [1] [] [(Z45 x4)] (c1 (F7 a2 (1:Int) x4 hx4)) ?_;obtain⟨x5,hx5,h⟩:=bind_some h;refine gR hq [1,3,4,5] [1] [] [(Z45 x5)] (c1 (F7 a2 (2:Int) x5 hx5)) ?_;refine gR hq [1,3,5,34] [1] [] [] (ci (gI ((x3==0)==true)) (ci (Kx (x3==0)) (ci (gI ((Q230 x3 x4)==false)) (ci (gI ((Q230 x3 x4)==false)) (ci (gI (((Q230 x3 x4)==false)&&((x4==0)==true))) (ci (gI ((Q230 x3 x4)==false)) (ci (show(((Q230 x3 x4)==false)=true→((x4==0)=true→(((Q230 x3 x4)==false)&&((x4==0)==true))=true)) from(fun hg=>(aT hg))) (c1 (Wu (Q230 x3 x4)))))))))) ?_;refine gC h (fun h=>?_) (fun h=>?_)
   ·refine Aj hq [2] [] ?_;obtain rfl:=OI h;exact Du []
   ·refine Aj hq [1,3,5,6] [1] ?_;refine Aj hq [1,3,5,6,7] [1] ?_;obtain⟨x17,hx17,h⟩:=bind_some h;refine gL hq hx17 [1,3,5,6,7] [1] (fun u (b6,i7)=>(Et u [(6,(.bool b6)),(7,(Br i7))] [])) (fun u b8=>aG Γ (.exit 0) (Px [3,5,6] [] u [(6,(.bool b8))] [])) ?_ ?_
    ·rintro⟨b6,i7⟩ y h;unfold Cf at h;refine Aj hq [1,3,5,6,7,39] [1] ?_;refine gC h (fun h=>?_) (fun h=>?_)
     ·refine Aj hq [1,3,5,6,7,8] [1] ?_;obtain⟨x15,hx15,h⟩:=bind_some h;refine gL hq hx15 [1,3,5,6,7,8] [1] (fun u (b9,i10)=>(Et u [(6,(.bool b9)),(8,(Br i10))] [])) (fun u b11=>aG Γ (.exit 2) (Px [1,3,5,6,7] [1] u [(6,(.bool b11))] [])) ?_ ?_
      ·rintro⟨b9,i10⟩ y h;unfold Ce at h;obtain⟨hc12,h⟩:=Aa h;refine gR hq [1,3,5,6,7,8,50] [1] [] [] (c1 hc12) ?_;refine gC h (fun h=>?_) (fun h=>?_)
       ·obtain⟨hc13,h⟩:=Aa h;obtain⟨hc14,h⟩:=Aa h;refine gR hq [1,3,5,6,7,8,9] [1,9] [] [] (ci hc13 (c1 hc14)) ?_;refine gR hq [1,3,5,6,7,8] [1] [] [] (ci (gI (b9==true)) (ci (gI (b9==true)) (ci (Kx b9) (ci (gI ((Q231 b9 a2 i7 i10)==true)) (ci (gI ((Q231 b9 a2 i7 i10)==true)) (c1 (Kx (Q231 b9 a2 i7 i10)))))))) ?_;refine Aj hq [1,3,5,6,7,8] [1] ?_;cases h;exact gN E9
       ·cases h;exact gO (Eb (Ej [1,3,5,6,7] [1] hq))
      ·clear hx15;refine gA ?_;refine Aj hq [1,3,5,6,7] [1] ?_;cases h;exact gN E9
     ·cases h;exact gO (Eb (Ej [3,5,6] [] hq))
    ·clear hx17;refine gA ?_;refine gR hq [2] [] [] [] (ci (gI ((x5 !=0)==false)) (ci (gI ((x5 !=0)==false)) (ci (gI ((x5 !=0)==false)) (c1 (Wu (x5 !=0)))))) ?_;cases h;exact Du []
theorem Gx{n:Int}(h:-9223372036854775808≤n)(h':n<9223372036854775808):A8 n=n:=by
 show IntKind.i64.wrap n=n
 simp only[IntKind.wrap,IntKind.bits,IntKind.signed]
 simp
 split<;>omega
theorem wu64_of{n:Int}(h:0≤n)(h':n<18446744073709551616):Hs n=n:=by
 show IntKind.u64.wrap n=n
 simp[IntKind.wrap,IntKind.bits,IntKind.signed];omega
theorem wu64_mod(n:Int):Hs n=n % 18446744073709551616:=by
 show IntKind.u64.wrap n=_
 simp[IntKind.wrap,IntKind.bits,IntKind.signed]
theorem Ao{R:Type}{p:Prop}[Decidable p]{k:Option R}(h:p):Cs p k=k:=if_pos h
theorem fdiv_pow{x:Int}(j:Nat):x.fdiv (2 ^ j)=x / 2 ^ j:=by rw[Int.fdiv_eq_ediv_of_nonneg _ (by exact Int.le_of_lt (Int.pow_pos (by decide)))]
theorem Ad{α:Type}(l:List α)(i:Nat)(d:α)(h:i<l.length):l.getD i d=l[i]:=by simp[List.getD,h]
theorem kinds(k:Int):k=0∨k=1∨k=2∨k=3∨k=4∨k=5∨k=6∨k=7∨k=8∨k=9∨k=10∨k=11∨k=12∨k=13∨k=14∨k=15∨k=16∨k=17∨k=18∨k=19∨k=20∨k=21∨k=22∨(k<0∨22<k):=by omega
theorem out_ne{k:Int}(h:k<0∨22<k):(k==0)=false∧(k==1)=false∧(k==2)=false∧(k==3)=false∧(k==4)=false∧(k==5)=false∧(k==6)=false∧(k==7)=false∧(k==8)=false∧(k==9)=false∧(k==10)=false∧(k==11)=false∧(k==12)=false ∧
  (k==13)=false∧(k==14)=false∧(k==15)=false∧(k==16)=false∧(k==17)=false∧(k==18)=false∧(k==19)=false∧(k==20)=false∧(k==21)=false∧(k==22)=false:=by
 simp only[beq_eq_false_iff_ne,ne_eq];omega
def D2(b:Int):Bool:=b==1 || b==8 || b==16 || b==32 || b==64
def Qv(b n:Int):Bool:=D2 b&&(n==1 || ((n==2 || n==4 || n==8 || n==16)&&decide (8≤b)&&decide (b*n≤128)))
theorem width_cases{b:Int}(h:D2 b=true):b=1∨b=8∨b=16∨b=32∨b=64:=by simp[D2]at h;omega
theorem Th{b n:Int}(h:Qv b n=true):D2 b=true:=by simp[Qv]at h;exact h.1
theorem Lb{b n:Int}(h:Qv b n=true):n=1∨n=2∨n=4∨n=8∨n=16:=by simp[Qv]at h;omega
theorem L8(b:Int):Fe b=some (D2 b):=by
 unfold Fe D2
 by_cases h1:b=1
 ·subst h1;rfl
 by_cases h2:b=8
 ·subst h2;rfl
 by_cases h3:b=16
 ·subst h3;rfl
 by_cases h4:b=32
 ·subst h4;rfl
 by_cases h5:b=64
 ·subst h5;rfl
 have e1:(b==1)=false:=by simpa using h1
 have e2:(b==8)=false:=by simpa using h2
 have e3:(b==16)=false:=by simpa using h3
 have e4:(b==32)=false:=by simpa using h4
 have e5:(b==64)=false:=by simpa using h5
 simp[e1,e2,e3,e4,e5]
theorem kind_Shape(b n:Int):Il b n=some (Qv b n):=by
 unfold Il;simp only[L8,Option.bind_some]
 by_cases hn:n=1∨n=2∨n=4∨n=8∨n=16
 ·cases hw:D2 b with
  | false=>rcases hn with rfl|rfl|rfl|rfl|rfl<;>simp[Qv,hw]
  | true=>
   rcases width_cases hw with rfl|rfl|rfl|rfl|rfl<;>rcases hn with rfl|rfl|rfl|rfl|rfl<;>rfl
 ·have e1:(n==1)=false:=by simp;omega
  have e2:(n==2)=false:=by simp;omega
  have e3:(n==4)=false:=by simp;omega
  have e4:(n==8)=false:=by simp;omega
  have e5:(n==16)=false:=by simp;omega
  simp[Qv,e1,e2,e3,e4,e5]
theorem word_Cut{v b:Int}(hv:0≤v∧v<18446744073709551616)(hb:D2 b=true):Kk v b=some (v % 2 ^ b.toNat):=by
 unfold Kk;simp only[L8,hb,Option.bind_some,Bool.not_true,cond_false]
 have key:∀ j:Nat,j<64→Ro .u64 (shlV .u64 v (j:Int)) (j:Int)=(v*2 ^ j % 18446744073709551616) / 2 ^ j:=fun j hj=>by
  simp only[Ro,shlV,Int.toNat_natCast,IntKind.bits];rw[Nat.min_eq_left (by omega),fdiv_pow,show IntKind.u64.wrap (v*2 ^ j)=v*2 ^ j % 18446744073709551616 from wu64_mod _]
 rcases width_cases hb with rfl|rfl|rfl|rfl|rfl
 ·have:=key 63 (by decide);simp only[show A8 (64-1)=((63:Nat):Int) from rfl,this];rw[Ao (by decide),Ao (by decide)];congr 1;simp only[show((1:Int).toNat)=1 from rfl];omega
 ·have:=key 56 (by decide);simp only[show A8 (64-8)=((56:Nat):Int) from rfl,this];rw[Ao (by decide),Ao (by decide)];congr 1;simp only[show((8:Int).toNat)=8 from rfl];omega
 ·have:=key 48 (by decide);simp only[show A8 (64-16)=((48:Nat):Int) from rfl,this];rw[Ao (by decide),Ao (by decide)];congr 1;simp only[show((16:Int).toNat)=16 from rfl];omega
 ·have:=key 32 (by decide);simp only[show A8 (64-32)=((32:Nat):Int) from rfl,this];rw[Ao (by decide),Ao (by decide)];congr 1;simp only[show((32:Int).toNat)=32 from rfl];omega
 ·have:=key 0 (by decide);simp only[show A8 (64-64)=((0:Nat):Int) from rfl,this];rw[Ao (by decide),Ao (by decide)];congr 1;simp only[show((64:Int).toNat)=64 from rfl];omega
theorem Zb{i:Int}(h:0≤i∧i<18446744073709551616):F5 i=some (D2 i):=by
 unfold F5
 by_cases hi:i≤64
 ·have:A8 i=i:=Gx (by omega) (by omega);simp[hi,this,L8]
 ·have:D2 i=false:=by simp[D2];omega
  simp[hi,this]
def isK(k:Int):Bool:=decide (0≤k)&&decide (k≤22)
def Kl(k n:Int):Int:=
 bif k==0 then 0 else bif k==13 || k==18 || k==19 then 3 else bif k==14 || k==15 || k==16 || k==22 then 1 else bif k==20 then 4 else bif k==21 then n else 2
def Rn(k b n:Int):Bool:=
 bif k==16 || k==17 then decide (8≤b) else bif k==18 || k==19 then decide (8≤b)&&n==1 else
 bif k==4 || k==10 || k==11 || k==12 || k==14 || k==15 || k==20 then n==1 else bif k==21 || k==22 then decide (1<n) else true
def ifitS(k b n i:Int):Bool:=
 bif k==0 then i % 2 ^ b.toNat==i else bif k==14 then D2 i&&decide (i<b) else bif k==15 then D2 i&&decide (b<i) else bif k==22 then decide (i<n) else i==0
def valS(v:Int):Bool:=decide (1≤v)&&decide (v≤1023)
def dstS(k d:Int):Bool:=bif k==17 || k==19 then d==0 else valS d
def Hu(o:D4):Bool:=Qv o.Bits o.Lanes&&(isK o.Kind&&Rn o.Kind o.Bits o.Lanes&&ifitS o.Kind o.Bits o.Lanes o.Imm&&((o.Args.length:Int)==Kl o.Kind o.Lanes))&&(o.Args.all valS&&dstS o.Kind o.Dst)
def elemS(o:D4)(i:Nat):Int×Int:=
 bif o.Kind==13 || o.Kind==20 then(bif Nat.beq i 0 then(1,1) else(o.Bits,o.Lanes)) else bif o.Kind==14 || o.Kind==15 then(A8 o.Imm,1) else
 bif o.Kind==16 || o.Kind==17 then(bif Nat.beq i 0 then(64,1) else(o.Bits,o.Lanes)) else
 bif o.Kind==18 || o.Kind==19 then(bif Nat.beq i 1 then(64,1) else bif Nat.beq i 0 then(1,1) else(o.Bits,o.Lanes)) else bif o.Kind==21 then(o.Bits,1) else(o.Bits,o.Lanes)
def Qf(o:D4):List (Int×Int):=(List.range (Kl o.Kind o.Lanes).toNat).map (elemS o)
def R3(k b n:Int):Int×Int:=bif k==17 || k==19 then(0,0) else bif k==10 || k==11 || k==12 then(1,1) else bif k==22 then(b,1) else(b,n)
theorem isK_out{k:Int}(h:k<0∨22<k):isK k=false:=by simp[isK];omega
theorem kind_isKind(k:Int):Hx k=some (isK k):=by unfold Hx isK;cases decide ((0:Int)≤k)<;>rfl
theorem Mn(v:Int):F4 v=some (valS v):=by unfold F4 valS;cases decide ((1:Int)≤v)<;>rfl
theorem U9(o:D4):F6 o=some (Rn o.Kind o.Bits o.Lanes):=by
 obtain⟨k,b,n,d,args,i⟩:=o;rcases kinds k with rfl|rfl|rfl|rfl|rfl|rfl|rfl|rfl|rfl|rfl|rfl|rfl|rfl|rfl|rfl|rfl|rfl|rfl|rfl|rfl|rfl|rfl|rfl|h
 any_goals rfl
 ·show some (bif decide (8≤b) then n==1 else false)=some (decide (8≤b)&&n==1);cases decide (8≤b)<;>rfl
 ·show some (bif decide (8≤b) then n==1 else false)=some (decide (8≤b)&&n==1);cases decide (8≤b)<;>rfl
 ·unfold F6 Rn;simp[out_ne h]
theorem U8(o:D4):Hj o=some (R3 o.Kind o.Bits o.Lanes):=by
 obtain⟨k,b,n,d,args,i⟩:=o;rcases kinds k with rfl|rfl|rfl|rfl|rfl|rfl|rfl|rfl|rfl|rfl|rfl|rfl|rfl|rfl|rfl|rfl|rfl|rfl|rfl|rfl|rfl|rfl|rfl|h
 any_goals rfl
 unfold Hj R3;simp[out_ne h]
theorem Za(o:D4)(hw:D2 o.Bits=true)(hn:0≤o.Lanes∧o.Lanes≤16)(hi:0≤o.Imm∧o.Imm<18446744073709551616):G8 o=some (ifitS o.Kind o.Bits o.Lanes o.Imm):=by
 unfold G8 ifitS
 have hb:Hs o.Bits=o.Bits:=by apply wu64_of<;>(rcases width_cases hw with h|h|h|h|h<;>omega)
 have hl:Hs o.Lanes=o.Lanes:=by apply wu64_of<;>omega
 rw[word_Cut hi hw,Zb hi,hb,hl]
 cases(o.Kind==0)<;>cases(o.Kind==14)<;>cases(o.Kind==15)<;>cases(o.Kind==22)<;>cases D2 o.Imm<;>rfl
set_option maxHeartbeats 2000000 in
theorem N5{α X:Type}(l:List α)(d:α)(p:α→Bool)(f:Int→Option (LR Int X))(yes no:X)(hn:∀ i:Nat,i<l.length→p (l.getD i d)=true→f i=some (.next ((i:Int)+1)))
  (hf:∀ i:Nat,i<l.length→p (l.getD i d)=false→f i=some (.done no)) (he:f l.length=some (.done yes)):∀(k i:Nat),i+k=l.length→Ak f i=some (bif (l.drop i).all p then yes else no)
 | 0,i,h=>by
  obtain rfl:i=l.length:=by omega
  rw[Am he]
  simp
 | k+1,i,h=>by
  have hi:i<l.length:=by omega
  have hd:l.drop i=l.getD i d::l.drop (i+1):=by rw[List.drop_eq_getElem_cons hi,Ad _ _ _ hi]
  cases hp:p (l.getD i d) with
  | true=>
   rw[Ar (hn i hi hp)];have:=N5 l d p f yes no hn hf he k (i+1) (by omega);rw[show((i:Int)+1)=((i+1:Nat):Int) by omega,this,hd,List.all_cons,hp,Bool.true_and]
  | false=>
   rw[Am (hf i hi hp),hd,List.all_cons,hp,Bool.false_and,cond_false]
theorem Qx{α:Type}(l:List α)(d:α)(wt:α→Nat)(C:Nat)(f:Int×Int→Option (LR (Int×Int) Int))
  (hn:∀(n i:Nat),i<l.length→n≤C→∃ m:Nat,f ((n:Int),(i:Int))=some (.next ((m:Int),((i+1:Nat):Int)))∧(n+wt (l.getD i d)≤C→m=n+wt (l.getD i d))∧(m≤C→n+wt (l.getD i d)≤C))
  (hd:∀(n i:Nat),i≤l.length→(i=l.length∨C<n)→f ((n:Int),(i:Int))=some (.done (n:Int))) :
  ∀(k i n:Nat),i+k=l.length→∃ m:Nat,Ak f ((n:Int),(i:Int))=some (m:Int)∧(n+((l.drop i).map wt).sum≤C→m=n+((l.drop i).map wt).sum)∧(m≤C→n+((l.drop i).map wt).sum≤C)
 | 0,i,n,h=>by
  obtain rfl:i=l.length:=by omega
  refine⟨n,Am (hd n _ (Nat.le_refl _) (.inl rfl)),?_,?_⟩
  ·simp
  ·simp
 | k+1,i,n,h=>by
  have hi:i<l.length:=by omega
  have hdr:l.drop i=l.getD i d::l.drop (i+1):=by rw[List.drop_eq_getElem_cons hi,Ad _ _ _ hi]
  by_cases hC:n≤C
  ·obtain⟨m,h1,h2,h3⟩:=hn n i hi hC;obtain⟨m',h4,h5,h6⟩:=Qx l d wt C f hn hd k (i+1) m (by omega);refine⟨m',by rw[Ar h1];exact h4,fun hle=>?_,fun hle=>?_⟩
   ·rw[hdr,List.map_cons,List.sum_cons]at hle ⊢;have:=h2 (by omega);subst this;rw[h5 (by omega)];omega
   ·rw[hdr,List.map_cons,List.sum_cons];have h7:=h6 hle;have h8:=h3 (by omega);have:=h2 h8;omega
  ·refine⟨n,Am (hd n i (by omega) (.inr (by omega))),fun hle=>by omega,fun hle=>by omega⟩
theorem Kg{X:Type}(N:Nat)(f:Int×Int→Option (LR (Int×Int) X))(hn:∀(n:Int) (i:Nat),i<N→(∃ m:Int,f (n,(i:Int))=some (.next (m,((i+1:Nat):Int))))∨∃ x,f (n,(i:Int))=some (.done x))(hd:∀ n:Int,∃ x,f (n,(N:Int))=some (.done x)) :
  ∀(k i:Nat) (n:Int),i+k=N→∃ x,Ak f (n,(i:Int))=some x
 | 0,i,n,h=>by
  obtain rfl:i=N:=by omega
  obtain⟨x,hx⟩:=hd n;exact⟨x,Am hx⟩
 | k+1,i,n,h=>by
  rcases hn n i (by omega) with⟨m,hm⟩|⟨x,hx⟩
  ·obtain⟨x,hx⟩:=Kg N f hn hd k (i+1) m (by omega);exact⟨x,by rw[Ar hm];exact hx⟩
  ·exact⟨x,Am hx⟩
theorem Xz{α X:Type}(l:List α)(d:α)(wt:α→Nat)(out:Int→X)(f:Int×Int→Option (LR (Int×Int) X))
  (hn:∀(n i:Nat),i<l.length→f (A8 n,(i:Int))=some (.next (A8 ((n+wt (l.getD i d):Nat):Int),((i+1:Nat):Int)))) (hd:∀ n:Int,f (n,(l.length:Int))=some (.done (out n))) :
  ∀(k i n:Nat),i+k=l.length→Ak f (A8 n,(i:Int))=some (out (A8 ((n+((l.drop i).map wt).sum:Nat):Int)))
 | 0,i,n,h=>by
  obtain rfl:i=l.length:=by omega
  rw[Am (hd _)]
  simp
 | k+1,i,n,h=>by
  have hi:i<l.length:=by omega
  have hdr:l.drop i=l.getD i d::l.drop (i+1):=by rw[List.drop_eq_getElem_cons hi,Ad _ _ _ hi]
  rw[Ar (hn n i hi),Xz l d wt out f hn hd k (i+1) _ (by omega),hdr,List.map_cons,List.sum_cons,Nat.add_assoc]
theorem w64_add(a b:Int):A8 (A8 a+b)=A8 (a+b):=by
 show IntKind.i64.wrap (IntKind.i64.wrap a+b)=IntKind.i64.wrap (a+b)
 simp only[IntKind.wrap,IntKind.bits,IntKind.signed]
 simp
 split<;>split<;>omega
theorem A3{α:Type}{l:List α}{i:Nat}{d:α}(h:i<l.length):l.getD i d∈l:=by rw[Ad _ _ _ h];exact List.getElem_mem h
theorem Ay{i n:Nat}(h:i<n):Cg (i:Int) n:=⟨by omega,by exact_mod_cast h⟩
theorem D1{i n:Nat}(h:i<n)(hn:n<9223372036854775808):A8 ((i:Int)+1)=(i:Int)+1:=Gx (by omega) (by omega)
def good31(l:List Int):Prop:=∀ x∈l,0≤x∧x≤2147483647
structure OpOk(o:D4):Prop where
 imm:0≤o.Imm∧o.Imm<18446744073709551616
 args:o.Args.length≤200
theorem repeat_one(x:Int×Int)(n:Int)(h:n=2∨n=4∨n=8∨n=16):A9 [x] n=some (List.replicate n.toNat x):=by
 let d:Int×Int:=(0,0)
 rcases h with rfl|rfl|rfl|rfl
 ·have e:A9 [x] 2=(Ak Bm (1,[x,d])).bind some:=by kernel_rfl
  rw[e,Ar (s':=(2,[x,x])) (by kernel_rfl),Am (x:=[x,x]) (by kernel_rfl)]
  rfl
 ·have e:A9 [x] 4=(Ak Bm (1,[x,d,d,d])).bind some:=by kernel_rfl
  rw[e,Ar (s':=(2,[x,x,d,d])) (by kernel_rfl),Ar (s':=(4,[x,x,x,x])) (by kernel_rfl),Am (x:=[x,x,x,x]) (by kernel_rfl)]
  rfl
 ·have e:A9 [x] 8=(Ak Bm (1,[x,d,d,d,d,d,d,d])).bind some:=by kernel_rfl
  rw[e,Ar (s':=(2,[x,x,d,d,d,d,d,d])) (by kernel_rfl),Ar (s':=(4,[x,x,x,x,d,d,d,d])) (by kernel_rfl),Ar (s':=(8,[x,x,x,x,x,x,x,x])) (by kernel_rfl),
   Am (x:=[x,x,x,x,x,x,x,x]) (by kernel_rfl)]
  rfl
 ·have e:A9 [x] 16=(Ak Bm (1,[x,d,d,d,d,d,d,d,d,d,d,d,d,d,d,d])).bind some:=by kernel_rfl
  rw[e,Ar (s':=(2,[x,x,d,d,d,d,d,d,d,d,d,d,d,d,d,d])) (by kernel_rfl),Ar (s':=(4,[x,x,x,x,d,d,d,d,d,d,d,d,d,d,d,d])) (by kernel_rfl),
   Ar (s':=(8,[x,x,x,x,x,x,x,x,d,d,d,d,d,d,d,d])) (by kernel_rfl),Ar (s':=(16,List.replicate 16 x)) (by kernel_rfl),Am (x:=List.replicate 16 x) (by kernel_rfl)]
  rfl
theorem kind_row(l:List (Int×Int)):Ef l=some l:=rfl
theorem Va(o:D4)(hs:Qv o.Bits o.Lanes=true)(hk:isK o.Kind=true)(hf:Rn o.Kind o.Bits o.Lanes=true):Hk o=some (Qf o):=by
 have hl:=Lb hs;obtain⟨k,b,n,d,args,i⟩:=o;simp only at hs hk hf hl ⊢;rcases kinds k with rfl|rfl|rfl|rfl|rfl|rfl|rfl|rfl|rfl|rfl|rfl|rfl|rfl|rfl|rfl|rfl|rfl|rfl|rfl|rfl|rfl|rfl|rfl|h
 case inr.inr.inr.inr.inr.inr.inr.inr.inr.inr.inr.inr.inr.inr.inr.inr.inr.inr.inr.inr.inr.inl=>
  have h1:n≠1:=by rintro rfl;simp[Rn]at hf
  have h4:n=2∨n=4∨n=8∨n=16:=by omega
  unfold Hk;rw[show(((21:Int))==21)=true from rfl];simp only[repeat_one _ _ h4,kind_row,Option.bind_some];rcases h4 with rfl|rfl|rfl|rfl<;>rfl
 all_goals first
  | rfl
  | (rw[isK_out h]at hk;cases hk)
  | (rcases hl with rfl|rfl|rfl|rfl|rfl<;>first|rfl|(simp[Rn]at hf))
theorem Y8(o:D4)(hs:Qv o.Bits o.Lanes=true)(hk:isK o.Kind=true)(hf:Rn o.Kind o.Bits o.Lanes=true)(hl:o.Args.length≤200):G6 o=some (((o.Args.length:Int)==Kl o.Kind o.Lanes)&&o.Args.all valS):=by
 unfold G6;rw[Va o hs hk hf]
 have hn:0≤Kl o.Kind o.Lanes:=by
  have:=Lb hs;unfold Kl
  cases(o.Kind==0)<;>cases(o.Kind==13 || o.Kind==18 || o.Kind==19)<;>cases(o.Kind==14 || o.Kind==15 || o.Kind==16 || o.Kind==22)<;>cases(o.Kind==20)<;>cases(o.Kind==21)<;>simp<;>omega
 have hlen:((Qf o).length:Int)=Kl o.Kind o.Lanes:=by simp[Qf];omega
 simp only[Option.bind_some,hlen]
 by_cases he:(o.Args.length:Int)=Kl o.Kind o.Lanes
 ·have e1:((o.Args.length:Int)==Kl o.Kind o.Lanes)=true:=by simpa using he
  have e2:((o.Args.length:Int)!=Kl o.Kind o.Lanes)=false:=by simpa using he
  rw[e1,e2,cond_false]
  have hloop:=N5 o.Args (0:Int) valS (Es o) (.inl ()) (.inr false) (fun i hi hp=>by
    unfold Es
    have:decide ((i:Int)<(o.Args.length:Int))=true:=by simpa using hi
    simp only[this,cond_true,Ao (Ay hi),Int.toNat_natCast,Mn,Option.bind_some,hp,Bool.not_true,cond_false,D1 hi (by omega)]) (fun i hi hp=>by
    unfold Es
    have:decide ((i:Int)<(o.Args.length:Int))=true:=by simpa using hi
    simp only[this,cond_true,Ao (Ay hi),Int.toNat_natCast,Mn,Option.bind_some,hp,Bool.not_false]) (by
    unfold Es
    simp) o.Args.length 0 (by omega)
  rw[show(0:Int)=((0:Nat):Int) from rfl,hloop,List.drop_zero]
  cases o.Args.all valS<;>rfl
 ·have e1:((o.Args.length:Int)==Kl o.Kind o.Lanes)=false:=by simpa using he
  have e2:((o.Args.length:Int)!=Kl o.Kind o.Lanes)=true:=by simpa using he
  rw[e1,e2];rfl
theorem gives_zero{k b n:Int}(hs:Qv b n=true):((R3 k b n).1==0)=(k==17 || k==19):=by
 have hb:(b==0)=false:=by
  have:=width_cases (Th hs);simp;omega
 unfold R3
 cases(k==17 || k==19)<;>cases(k==10 || k==11 || k==12)<;>cases(k==22)<;>simp_all
theorem Y9(o:D4)(hs:Qv o.Bits o.Lanes=true):G7 o=some (dstS o.Kind o.Dst):=by
 unfold G7;simp only[U8,Option.bind_some,gives_zero hs,Mn,dstS]
 cases(o.Kind==17 || o.Kind==19)<;>rfl
theorem U7(o:D4)(ho:OpOk o):H5 o=some (Hu o):=by
 unfold H5 Hu;simp only[kind_isKind,kind_Shape,U9,Option.bind_some]
 cases hs:Qv o.Bits o.Lanes with
 | false=>cases isK o.Kind<;>rfl
 | true=>
  have hl:=Lb hs
  cases hk:isK o.Kind with
  | false=>rfl
  | true=>
   rw[Za o (Th hs) (by omega) ho.imm];simp only[Y9 o hs]
   cases hf:Rn o.Kind o.Bits o.Lanes with
   | false=>rfl
   | true=>
    rw[Y8 o hs hk hf ho.args]
    generalize ifitS o.Kind o.Bits o.Lanes o.Imm=p
    generalize ((o.Args.length:Int)==Kl o.Kind o.Lanes)=q
    generalize o.Args.all valS=r
    generalize dstS o.Kind o.Dst=s
    cases p<;>cases q<;>cases r<;>cases s<;>rfl
theorem may_all{o:D4}(h:Hu o=true):Qv o.Bits o.Lanes=true∧isK o.Kind=true∧Rn o.Kind o.Bits o.Lanes=true∧ifitS o.Kind o.Bits o.Lanes o.Imm=true∧(o.Args.length:Int)=Kl o.Kind o.Lanes∧o.Args.all valS=true∧dstS o.Kind o.Dst=true:=by
 simp only[Hu,Bool.and_eq_true,beq_iff_eq]at h;exact⟨h.1.1,h.1.2.1.1.1,h.1.2.1.1.2,h.1.2.1.2,h.1.2.2,h.2.1,h.2.2⟩
theorem kind_Takes(o:D4)(ho:OpOk o):Hi o=some (bif Hu o then Qf o else[]):=by
 unfold Hi;rw[U7 o ho];simp only[Option.bind_some]
 cases hm:Hu o with
 | false=>rfl
 | true=>
  obtain⟨h1,h2,h3,_⟩:=may_all hm;simp only[Va o h1 h2 h3,Option.bind_some]
  rfl
theorem kind_Gives(o:D4)(ho:OpOk o):Hh o=some (bif Hu o then R3 o.Kind o.Bits o.Lanes else(0,0)):=by
 unfold Hh;rw[U7 o ho];simp only[Option.bind_some,U8]
 cases Hu o<;>rfl
theorem wf_u64{n:Int}(h:(Lit.int .u64 n).wf=true):0≤n∧n<18446744073709551616:=by simp[Lit.wf,IntKind.min,IntKind.max,IntKind.bits,IntKind.signed]at h;omega
abbrev Iall(w:World):Nat→Nat→Prop:=fun b o=>∃ u,w.cell? ⟨b,o,none⟩=some u
structure CRep(w:World)(cs:List Value)(avs:List AV):Prop where
 len:cs.length=avs.length
 one:∀ j,j<avs.length→(cs.getD j undef).oneCell'=true
 rep:∀ j,j<avs.length→RepV (Iall w) w (cs.getD j undef) (avs.getD j .any)
structure Opens(P:Program)(t:TypeId){α:Type}(e:α→List AV)(ok:α→Prop):Prop where
 get:∀{H:Type} {enc:TypeId×Value→H} {w:World} {base:Nat} {spare:Nat→Bool} {held:Bool} {fuel:Nat} {cs:List Value} {x:DataW H×List MemPlace},
  DataW.trod enc P w base spare held fuel t cs=some x→∃ a,ok a∧CRep w cs (e a)
theorem Uu{w:World}{v:Value}{x:AV}(h1:v.oneCell'=true)(h:RepV (Iall w) w v x):CRep w [v] [x]:=
 ⟨rfl,fun j hj=>(by
   have hj0:j=0:=by simpa using hj
   subst hj0
   exact h1),fun j hj=>(by
   have hj0:j=0:=by simpa using hj
   subst hj0
   exact h)⟩
theorem Ya{P:Program}{t:TypeId}{k:IntKind}{e:Int→List AV}(ht:P.underlying t=some (.int k))(he:∀ n,e n=[.int k n]):Opens P t e (fun n=>(Lit.int k n).wf=true):=by
 refine⟨?_⟩;intro H enc w base spare held fuel cs x h;obtain⟨n,rfl,rfl,hw⟩:=DataW.trod_int ht h;exact⟨n,hw,by rw[he];exact Uu rfl (.int _ _)⟩
theorem cells?_get{w:World}{base:Nat}{a:Addr}{n:Nat}{cs:List Value}(h:w.cells? base a n=some cs):cs.length=n∧∀ i,i<n→w.cell? (a.add i)=some (cs.getD i undef):=by
 unfold World.cells? at h
 split at h
 ·have hl:=mapM_some_length h;simp at hl;refine⟨hl,fun i hi=>?_⟩;have:=mapM_some_get h i i (by simp[hi]);rw[this];simp[List.getD,show i<cs.length by omega]
 ·cases h
theorem La{P:Program}{t el:TypeId}{α:Type}{e:α→List AV}{ok:α→Prop}{sz:Nat}{d:α}{e':List α→List AV}(ht:P.underlying t=some (.slice el))(hs:P.cellsOf el=sz)(h1:1≤sz)(he:Opens P el e ok)(hlen:∀ a,(e a).length=sz)
  (he':∀ l,e' l=[AV.list sz e d l .none]):Opens P t e' (fun l=>(∀ a∈l,ok a)∧l.length≤maxLen):=by
 refine⟨?_⟩;intro H enc w base spare held fuel cs x h;rcases DataW.trod_slice ht h with⟨rfl,rfl⟩|⟨a,len,cap,elems,rest,n,_,rfl,rfl,hb,hl,hm,hlen2,hel,_⟩
 ·exact⟨[],⟨by simp,by simp⟩,by rw[he'];exact Uu rfl (.slice none 0 0 sz _ (fun _=>undef) (Nat.le_refl _) (by simp) (fun h=>by simp at h) (fun _=>rfl) (fun j hj=>by simp at hj) (fun i hi=>by simp at hi) (fun i c hi=>by simp at hi))⟩
 ·have each:∀ i:Fin len,∃ b,ok b∧∃ cs,w.cells? base (a.add (i.1*sz)) sz=some cs∧CRep w cs (e b):=fun⟨i,hi⟩=>by
   have:=hel i hi;rw[hs,List.getElem?_eq_getElem (by omega),Option.bind_eq_some_iff]at this;obtain⟨cs,hcs,htr⟩:=this;obtain⟨b,hb,hr⟩:=he.get htr;exact⟨b,hb,cs,hcs,hr⟩
  let f:Fin len→α:=fun i=>(each i).choose
  have hf:∀ i,ok (f i)∧∃ cs,w.cells? base (a.add (i.1*sz)) sz=some cs∧CRep w cs (e (f i)):=fun i=>(each i).choose_spec
  have hlf:(List.ofFn f).length=len:=by simp
  refine⟨List.ofFn f,⟨fun b hb=>?_,by simp;omega⟩,?_⟩
  ·obtain⟨i,rfl⟩:=List.mem_ofFn.1 hb;exact(hf i).1
  rw[he'];refine Uu rfl ?_
  have hcell0:∀ i (hi:i<len),∀ c,c<sz→∃ u,w.cell? ((a.add (i*sz)).add c)=some u∧u.oneCell'=true∧RepV (Iall w) w u ((e (f ⟨i,hi⟩)).getD c .any):=fun i hi c hc=>by
   obtain⟨_,cs,hcs,hr⟩:=hf ⟨i,hi⟩;obtain⟨hl,hg⟩:=cells?_get hcs;exact⟨_,hg c hc,hr.one c (by rw[hlen];exact hc),hr.rep c (by rw[hlen];exact hc)⟩
  have hspot:0<len→a.spot=none:=fun hp=>by
   obtain⟨u,hu,_⟩:=hcell0 0 hp 0 h1;have h2:=World.cell?_spot hu
   simpa [Addr.add] using h2
  have hcell:∀ i (hi:i<len),∀ c,c<sz→∃ u,w.cell? ⟨a.block,a.off+(i*sz+c),none⟩=some u∧u.oneCell'=true∧RepV (Iall w) w u ((e (f ⟨i,hi⟩)).getD c .any):=fun i hi c hc=>by
   obtain⟨u,hu,h1,h2⟩:=hcell0 i hi c hc;have hsp:=hspot (by omega);rw[Gz hsp,Addr.add_lit]at hu;exact⟨u,by rw[← Nat.add_assoc];exact hu,h1,h2⟩
  have hdm:∀ j,j<len*sz→∃ i c,i<len∧c<sz∧j=i*sz+c:=fun j hj=>by
   refine⟨j / sz,j % sz,(Nat.div_lt_iff_lt_mul (by omega)).2 hj,Nat.mod_lt _ (by omega),?_⟩;rw[Nat.mul_comm];exact(Nat.div_add_mod j sz).symm
  unfold AV.list;rw[hlf];refine .slice (some a) len cap sz _ (fun j=>(w.cell? ⟨a.block,a.off+j,none⟩).getD undef) hl hm (fun hp=>⟨a,rfl,hspot hp,fun j hj=>?_,fun j hj=>?_⟩) (fun h=>by cases h) (fun j hj=>?_) (fun i hi=>hlen _) (fun i c hi hc=>?_)
  ·obtain⟨i,c,hi,hc,rfl⟩:=hdm j hj;obtain⟨u,hu,_⟩:=hcell i hi c hc;exact⟨u,hu⟩
  ·obtain⟨i,c,hi,hc,rfl⟩:=hdm j hj;obtain⟨u,hu,_⟩:=hcell i hi c hc;rw[hu];rfl
  ·obtain⟨i,c,hi,hc,rfl⟩:=hdm j hj;obtain⟨u,hu,h1,_⟩:=hcell i hi c hc;simp only[hu];exact h1
  ·obtain⟨u,hu,_,h2⟩:=hcell i hi c hc
   have e1:(List.ofFn f).getD i d=f ⟨i,hi⟩:=by simp[List.getD,hi]
   rw[e1,hu];exact h2
structure Yu(P:Program)(fs:List Field)(off N:Nat){α:Type}(e:α→List AV)(ok:α→Prop):Prop where
 get:∀{H:Type} {enc:TypeId×Value→H} {w:World} {base:Nat} {spare:Nat→Bool} {held:Bool} {n:Nat} {cs:List Value},cs.length=N→
  (∀ f∈fs,∃ x,DataW.trod enc P w base spare held n f.type ((cs.drop f.offset).take (P.cellsOf f.type))=some x)→∃ a,ok a∧CRep w (cs.drop off) (e a)
theorem Ko{P:Program}{N:Nat}:Yu P [] N N (fun _:Unit=>[]) (fun _=>True):=by
 refine⟨?_⟩;intro H enc w base spare held n cs hN _;rw[List.drop_eq_nil_of_le (by omega)];exact⟨(),trivial,rfl,(fun j hj=>by simp at hj),(fun j hj=>by simp at hj)⟩
theorem Bu{P:Program}{f:Field}{fs:List Field}{off sz N:Nat}{α β:Type}{e:α→List AV}{ok:α→Prop}{e':β→List AV}{ok':β→Prop}(hoff:f.offset=off)(hsz:P.cellsOf f.type=sz)(hle:off+sz≤N)
  (h:Opens P f.type e ok) (h':Yu P fs (off+sz) N e' ok'):Yu P (f::fs) off N (fun p:α×β=>e p.1++e' p.2) (fun p=>ok p.1∧ok' p.2):=by
 refine⟨?_⟩;intro H enc w base spare held n cs hN hall;obtain⟨x,hx⟩:=hall f (by simp);rw[hoff,hsz]at hx;obtain⟨a,ha,hr⟩:=h.get hx;obtain⟨b,hb,hr'⟩:=h'.get hN (fun g hg=>hall g (by simp[hg]))
 have hl:(e a).length=sz:=by rw[← hr.len];simp;omega
 have hl':(e' b).length=N-(off+sz):=by rw[← hr'.len];simp;omega
 have hsplit:cs.drop off=(cs.drop off).take sz++cs.drop (off+sz):=by rw[← List.drop_drop];exact(List.take_append_drop sz _).symm
 have hl2:((cs.drop off).take sz).length=sz:=by simp;omega
 refine⟨(a,b),⟨ha,hb⟩,?_,fun j hj=>?_,fun j hj=>?_⟩
 ·simp[hl,hl'];omega
 ·rw[hsplit];replace hj:j<(e a++e' b).length:=hj
  show _
  by_cases hlt:j<sz
  ·have:=hr.one j (by omega);rwa[List.getD,List.getElem?_append_left (by omega)]
  ·have:=hr'.one (j-sz) (by simp at hj;omega);rwa[List.getD,List.getElem?_append_right (by omega),hl2]
 ·rw[hsplit];replace hj:j<(e a++e' b).length:=hj
  show RepV (Iall w) w _ ((e a++e' b).getD j .any)
  by_cases hlt:j<sz
  ·have:=hr.rep j (by omega);rwa[List.getD,List.getElem?_append_left (by omega),List.getD,List.getElem?_append_left (by omega)]
  ·have:=hr'.rep (j-sz) (by simp at hj;omega);rwa[List.getD,List.getElem?_append_right (by omega),hl2,List.getD,List.getElem?_append_right (by omega),hl]
theorem In{P:Program}{t:TypeId}{fs:Array Field}{N:Nat}{α:Type}{e:α→List AV}{ok:α→Prop}(ht:P.underlying t=some (.struct fs))(hN:P.cellsOf t=N)(h:Yu P fs.toList 0 N e ok):Opens P t e ok:=by
 refine⟨?_⟩;intro H enc w base spare held fuel cs x hx;obtain⟨xs,n,_,_,hl,hxl,hall⟩:=DataW.trod_struct ht hx
 have:=h.get (n:=n) (hl.trans hN) (enc:=enc) (w:=w) (base:=base) (spare:=spare) (held:=held) (fun f hf=>by
  obtain⟨i,hi,rfl⟩:=List.mem_iff_getElem.1 hf
  have hi':i<fs.size:=by simpa using hi
  have:=hall i fs.toList[i] (by simp[hi']);rw[List.getElem?_eq_getElem (by omega)]at this
  exact⟨_,this⟩)
 simpa using this
theorem Opens.to{P:Program}{t:TypeId}{α β:Type}{e:α→List AV}{ok:α→Prop}(h:Opens P t e ok){e':β→List AV}{ok':β→Prop}(g:α→β)(he:∀ a,e' (g a)=e a)(hok:∀ a,ok a→ok' (g a)):Opens P t e' ok':=by
 refine⟨?_⟩;intro H enc w base spare held fuel cs x hx;obtain⟨a,ha,hr⟩:=h.get hx;exact⟨g a,hok a ha,by rw[he];exact hr⟩
theorem arg_agg{P:Program}{t:TypeId}{α:Type}{e:α→List AV}{ok:α→Prop}(h:Opens P t e ok){H:Type}{enc:TypeId×Value→H}{w:World}{base:Nat}{spare:Nat→Bool}{held:Bool}{cs:Array Value}{d:DataW H}{ps:List MemPlace}
  (hd:DataW.Trod enc P w base spare held t (.agg cs) d ps):∃ a,ok a∧RepV (Iall w) w (.agg cs) (.agg (e a)):=by
 obtain⟨fuel,hf⟩:=hd;obtain⟨a,ha,hr⟩:=h.get hf;have e1:(Value.agg cs).cells.toList=cs.toList:=rfl;rw[e1]at hr
 have e2:∀ j,cs.toList.getD j undef=cs.getD j undef:=fun j=>by simp[Array.getD_eq_getD_getElem?,List.getD]
 refine⟨a,ha,.agg _ _ (by simpa using hr.len) (fun j hj=>?_) (fun j hj=>?_)⟩
 ·rw[← e2];exact hr.one j hj
 ·rw[← e2];exact hr.rep j hj
def N9(n:Int):Prop:=(Lit.int .i64 n).wf=true
theorem Xc:Opens Tryz.prog 3 Ag N9:=Ya Tryz.underlying3 (fun _=>rfl)
def Se(l:List (Int)):Prop:=(∀ a∈l,N9 a)∧l.length≤maxLen
theorem op_22:Opens Tryz.prog 22 Fm Se:=La (d:=(0:Int)) Tryz.underlying22 (by kernel_rfl) (by decide) Xc (fun _=>rfl) (fun _=>rfl)
def okTPhi(a:Dx):Prop:=N9 a.Bits∧N9 a.Dst∧Se a.From∧Se a.Args∧True
theorem op_51:Opens Tryz.prog 51 Pn okTPhi:=Opens.to (In (N:=4) Tryz.underlying51 (by kernel_rfl) (Bu (off:=0) (sz:=1) (N:=4) rfl (by kernel_rfl) (by decide) Xc (Bu (off:=1) (sz:=1) (N:=4) rfl (by kernel_rfl) (by decide) Xc (Bu (off:=2) (sz:=1) (N:=4) rfl (by kernel_rfl) (by decide) op_22 (Bu (off:=3) (sz:=1) (N:=4) rfl (by kernel_rfl) (by decide) op_22 Ko))))) (fun p=>⟨p.1,p.2.1,p.2.2.1,p.2.2.2.1⟩) (fun _=>rfl) (fun _ h=>h)
def okLTPhi(l:List (Dx)):Prop:=(∀ a∈l,okTPhi a)∧l.length≤maxLen
theorem op_39:Opens Tryz.prog 39 eLTPhi okLTPhi:=La (d:=(default:Dx)) Tryz.underlying39 (by kernel_rfl) (by decide) op_51 (fun _=>rfl) (fun _=>rfl)
def okU64(n:Int):Prop:=(Lit.int .u64 n).wf=true
theorem op_45:Opens Tryz.prog 45 eU64 okU64:=Ya Tryz.underlying45 (fun _=>rfl)
def okTOp(a:D4):Prop:=N9 a.Kind∧N9 a.Bits∧N9 a.Lanes∧N9 a.Dst∧Se a.Args∧okU64 a.Imm∧True
theorem op_47:Opens Tryz.prog 47 Ky okTOp:=Opens.to (In (N:=6) Tryz.underlying47 (by kernel_rfl) (Bu (off:=0) (sz:=1) (N:=6) rfl (by kernel_rfl) (by decide) Xc (Bu (off:=1) (sz:=1) (N:=6) rfl (by kernel_rfl) (by decide) Xc (Bu (off:=2) (sz:=1) (N:=6) rfl (by kernel_rfl) (by decide) Xc (Bu (off:=3) (sz:=1) (N:=6) rfl (by kernel_rfl) (by decide) Xc (Bu (off:=4) (sz:=1) (N:=6) rfl (by kernel_rfl) (by decide) op_22 (Bu (off:=5) (sz:=1) (N:=6) rfl (by kernel_rfl) (by decide) op_45 Ko))))))) (fun p=>⟨p.1,p.2.1,p.2.2.1,p.2.2.2.1,p.2.2.2.2.1,p.2.2.2.2.2.1⟩) (fun _=>rfl) (fun _ h=>h)
def okLTOp(l:List (D4)):Prop:=(∀ a∈l,okTOp a)∧l.length≤maxLen
theorem op_40:Opens Tryz.prog 40 eLTOp okLTOp:=La (d:=(default:D4)) Tryz.underlying40 (by kernel_rfl) (by decide) op_47 (fun _=>rfl) (fun _=>rfl)
def okTEnd(a:Eo):Prop:=N9 a.Kind∧N9 a.Arg∧Se a.To∧True
theorem op_42:Opens Tryz.prog 42 eTEnd okTEnd:=Opens.to (In (N:=3) Tryz.underlying42 (by kernel_rfl) (Bu (off:=0) (sz:=1) (N:=3) rfl (by kernel_rfl) (by decide) Xc (Bu (off:=1) (sz:=1) (N:=3) rfl (by kernel_rfl) (by decide) Xc (Bu (off:=2) (sz:=1) (N:=3) rfl (by kernel_rfl) (by decide) op_22 Ko)))) (fun p=>⟨p.1,p.2.1,p.2.2.1⟩) (fun _=>rfl) (fun _ h=>h)
def okTBlock(a:Ab):Prop:=okLTPhi a.Phis∧okLTOp a.Ops∧okTEnd a.End∧True
theorem op_44:Opens Tryz.prog 44 Au okTBlock:=Opens.to (In (N:=5) Tryz.underlying44 (by kernel_rfl) (Bu (off:=0) (sz:=1) (N:=5) rfl (by kernel_rfl) (by decide) op_39 (Bu (off:=1) (sz:=1) (N:=5) rfl (by kernel_rfl) (by decide) op_40 (Bu (off:=2) (sz:=3) (N:=5) rfl (by kernel_rfl) (by decide) op_42 Ko)))) (fun p=>⟨p.1,p.2.1,p.2.2.1⟩) (fun _=>rfl) (fun _ h=>h)
def X8(l:List (Ab)):Prop:=(∀ a∈l,okTBlock a)∧l.length≤maxLen
theorem op_23:Opens Tryz.prog 23 eLTBlock X8:=La (d:=(default:Ab)) Tryz.underlying23 (by kernel_rfl) (by decide) op_44 (fun _=>rfl) (fun _=>rfl)
def okTFunc(a:TFunc):Prop:=Se a.Params∧N9 a.Ret∧X8 a.Blocks∧True
theorem op_25:Opens Tryz.prog 25 eTFunc okTFunc:=Opens.to (In (N:=3) Tryz.underlying25 (by kernel_rfl) (Bu (off:=0) (sz:=1) (N:=3) rfl (by kernel_rfl) (by decide) op_22 (Bu (off:=1) (sz:=1) (N:=3) rfl (by kernel_rfl) (by decide) Xc (Bu (off:=2) (sz:=1) (N:=3) rfl (by kernel_rfl) (by decide) op_23 Ko)))) (fun p=>⟨p.1,p.2.1,p.2.2.1⟩) (fun _=>rfl) (fun _ h=>h)
def numB(n:Int):Bool:=decide (0≤n)&&decide (n≤2147483647)
def Jh(l:List Int):Bool:=l.all numB&&decide (l.length≤64)
def Xd(p:Dx):Bool:=numB p.Bits&&numB p.Dst&&Jh p.From&&Jh p.Args
def opB(o:D4):Bool:=numB o.Kind&&numB o.Bits&&numB o.Lanes&&numB o.Dst&&Jh o.Args
def endB(e:Eo):Bool:=numB e.Kind&&numB e.Arg&&Jh e.To
def blockB(b:Ab):Bool:=b.Phis.all Xd&&b.Ops.all opB&&endB b.End
def sizeB(b:Ab):Nat:=b.Phis.length+b.Ops.length+1
def L7(f:TFunc):Nat:=(f.Blocks.map sizeB).sum
def sizeW(f:TFunc):Int:=A8 (L7 f)
def P8(f:TFunc):Bool:=decide (1≤f.Blocks.length)&&decide (f.Blocks.length≤64)&&decide (f.Params.length≤16)&&Jh f.Params&&numB f.Ret&&decide (sizeW f≤512)&&f.Blocks.all blockB
def entP(p:Dx):Nat:=1+p.From.length+p.Args.length
def entO(o:D4):Nat:=1+o.Args.length
def entB(b:Ab):Nat:=1+b.End.To.length+(b.Phis.map entP).sum+(b.Ops.map entO).sum
def entF(f:TFunc):Nat:=f.Params.length+(f.Blocks.map entB).sum
theorem O5:maxLen=9223372036854775807:=rfl
structure InF(f:TFunc):Prop where
 params:f.Params.length≤maxLen
 blocks:f.Blocks.length≤maxLen
 block:∀ b∈f.Blocks,b.Phis.length≤maxLen∧b.Ops.length≤maxLen∧b.End.To.length≤maxLen
 phi:∀ b∈f.Blocks,∀ p∈b.Phis,p.From.length≤maxLen∧p.Args.length≤maxLen
 op:∀ b∈f.Blocks,∀ o∈b.Ops,o.Args.length≤maxLen∧0≤o.Imm∧o.Imm<18446744073709551616
theorem inF{f:TFunc}(h:okTFunc f):InF f:=
 ⟨h.1.2,h.2.2.1.2,fun b hb=>⟨(h.2.2.1.1 b hb).1.2,(h.2.2.1.1 b hb).2.1.2,(h.2.2.1.1 b hb).2.2.1.2.2.1.2⟩,fun b hb p hp=>⟨((h.2.2.1.1 b hb).1.1 p hp).2.2.1.2,((h.2.2.1.1 b hb).1.1 p hp).2.2.2.1.2⟩,
  fun b hb o ho=>⟨((h.2.2.1.1 b hb).2.1.1 o ho).2.2.2.2.1.2,wf_u64 ((h.2.2.1.1 b hb).2.1.1 o ho).2.2.2.2.2.1⟩⟩
theorem Uj{n:Nat}(h:n<9223372036854775808):A8 (n:Int)=n:=Gx (by omega) (by omega)
theorem Gv{i n:Nat}(h:i<n)(hn:n≤maxLen):A8 ((i:Int)+1)=((i+1:Nat):Int):=by rw[O5]at hn;rw[show((i:Int)+1)=((i+1:Nat):Int) by omega,Uj (by omega)]
theorem Wc(f:TFunc)(hf:InF f):∃ b,Bq f=some b:=by
 have h3:∃ x,Ak (Bb f) ((f.Params.length:Int),((0:Nat):Int))=some x:=by
  refine Kg f.Blocks.length (Bb f) (fun n i hi=>?_) (fun n=>?_) f.Blocks.length 0 _ (Nat.zero_add _)
  ·have hmem:=A3 (d:=(default:Ab)) hi;obtain⟨b1,b2,_⟩:=hf.block _ hmem;have hI:Cg (i:Int) f.Blocks.length:=Ay hi;unfold Bb
   cases hc:(bif decide ((i:Int)<(f.Blocks.length:Int)) then decide (n≤20000) else false) with
   | false=>right;simp only[hc,cond_false];exact⟨_,rfl⟩
   | true=>
    left
    simp only[hc,cond_true,Ao hI]
    obtain⟨x1,h1⟩:=Kg (f.Blocks.getD i default).Phis.length (Bk f i) (fun n j hj=>by
      unfold Bk;simp only[Ao hI,Int.toNat_natCast]
      cases hc:(bif decide ((j:Int)<((f.Blocks.getD i default).Phis.length:Int)) then decide (n≤20000) else false) with
      | false=>right;exact⟨_,rfl⟩
      | true=>left;simp only[cond_true,Ao (Ay hj),Gv hj b1];exact⟨_,rfl⟩) (fun n=>by
      unfold Bk;simp only[Ao hI,Int.toNat_natCast]
      have:decide (((f.Blocks.getD i default).Phis.length:Int)<((f.Blocks.getD i default).Phis.length:Int))=false:=by simp
      simp only[this,cond_false];exact⟨_,rfl⟩) _ 0 (A8 (A8 (n+1)+((f.Blocks.getD i default).End.To.length:Int))) (Nat.zero_add _)
    obtain⟨x2,h2⟩:=Kg (f.Blocks.getD i default).Ops.length (Bl f i) (fun n j hj=>by
      unfold Bl;simp only[Ao hI,Int.toNat_natCast]
      cases hc:(bif decide ((j:Int)<((f.Blocks.getD i default).Ops.length:Int)) then decide (n≤20000) else false) with
      | false=>right;exact⟨_,rfl⟩
      | true=>left;simp only[cond_true,Ao (Ay hj),Gv hj b2];exact⟨_,rfl⟩) (fun n=>by
      unfold Bl;simp only[Ao hI,Int.toNat_natCast]
      have:decide (((f.Blocks.getD i default).Ops.length:Int)<((f.Blocks.getD i default).Ops.length:Int))=false:=by simp
      simp only[this,cond_false];exact⟨_,rfl⟩) _ 0 x1 (Nat.zero_add _)
    rw[show((0:Nat):Int)=0 from rfl]at h1 h2;simp only[Int.toNat_natCast,h1,h2,Option.bind_some,Gv hi hf.blocks];exact⟨_,rfl⟩
  ·unfold Bb
   have:decide ((f.Blocks.length:Int)<(f.Blocks.length:Int))=false:=by simp
   simp only[this,cond_false];exact⟨_,rfl⟩
 obtain⟨x,hx⟩:=h3;unfold Bq;rw[show((0:Nat):Int)=0 from rfl]at hx;rw[hx];exact⟨_,rfl⟩
theorem small_eq(f:TFunc)(hf:InF f)(h0:f.Params.length≤64)(hb:∀ b∈f.Blocks,b.End.To.length≤64∧(∀ p∈b.Phis,p.From.length≤64∧p.Args.length≤64)∧∀ o∈b.Ops,o.Args.length≤64):Bq f=some (decide (entF f≤20000)):=by
 have h3:=Qx f.Blocks (default:Ab) entB 20000 (Bb f) (fun n i hi hn=>by
   have hmem:=A3 (d:=(default:Ab)) hi;obtain⟨b1,b2,b3⟩:=hf.block _ hmem;obtain⟨hTo,hPh,hOp⟩:=hb _ hmem;have hI1:Cg (i:Int) f.Blocks.length:=Ay hi
   have l1:=Qx (f.Blocks.getD i default).Phis (default:Dx) entP 20000 (Bk f i) (fun n j hj hn=>by
     have hm:=A3 (d:=(default:Dx)) hj;obtain⟨p1,p2⟩:=hPh _ hm
     have e1:decide ((j:Int)<((f.Blocks.getD i default).Phis.length:Int))=true:=by simpa using hj
     have e2:decide ((n:Int)≤20000)=true:=by simp;omega
     refine⟨n+entP ((f.Blocks.getD i default).Phis.getD j default),?_,fun _=>rfl,fun h=>h⟩;unfold Bk;simp only[Ao hI1,Int.toNat_natCast,e1,e2,cond_true,Ao (Ay hj),Gv hj b1]
     congr 3
     rw[Gx (n:=(n:Int)+1) (by omega) (by omega),Gx (n:=(n:Int)+1+_) (by omega) (by omega),Gx (by omega) (by omega)];simp only[entP]
     omega) (fun n j hj hd=>by
     unfold Bk;simp only[Ao hI1,Int.toNat_natCast]
     have:(bif decide ((j:Int)<((f.Blocks.getD i default).Phis.length:Int)) then decide ((n:Int)≤20000) else false)=false:=by
      rcases hd with rfl|h
      ·simp
      ·simp;omega
     rw[this];rfl)
   have l2:=Qx (f.Blocks.getD i default).Ops (default:D4) entO 20000 (Bl f i) (fun n j hj hn=>by
     have hm:=A3 (d:=(default:D4)) hj;have p1:=hOp _ hm
     have e1:decide ((j:Int)<((f.Blocks.getD i default).Ops.length:Int))=true:=by simpa using hj
     have e2:decide ((n:Int)≤20000)=true:=by simp;omega
     refine⟨n+entO ((f.Blocks.getD i default).Ops.getD j default),?_,fun _=>rfl,fun h=>h⟩;unfold Bl;simp only[Ao hI1,Int.toNat_natCast,e1,e2,cond_true,Ao (Ay hj),Gv hj b2]
     congr 3
     rw[Gx (n:=(n:Int)+1) (by omega) (by omega),Gx (by omega) (by omega)];simp only[entO]
     omega) (fun n j hj hd=>by
     unfold Bl;simp only[Ao hI1,Int.toNat_natCast]
     have:(bif decide ((j:Int)<((f.Blocks.getD i default).Ops.length:Int)) then decide ((n:Int)≤20000) else false)=false:=by
      rcases hd with rfl|h
      ·simp
      ·simp;omega
     rw[this];rfl)
   have e1:decide ((i:Int)<(f.Blocks.length:Int))=true:=by simpa using hi
   have e2:decide ((n:Int)≤20000)=true:=by simp;omega
   obtain⟨m1,q1,q2,q3⟩:=l1 _ 0 (n+1+(f.Blocks.getD i default).End.To.length) (Nat.zero_add _);obtain⟨m2,q4,q5,q6⟩:=l2 _ 0 m1 (Nat.zero_add _);rw[List.drop_zero]at q2 q3 q5 q6;refine⟨m2,?_,fun hle=>?_,fun hle=>?_⟩
   ·unfold Bb;simp only[e1,e2,cond_true,Ao hI1,Int.toNat_natCast,Gv hi hf.blocks];rw[Gx (n:=(n:Int)+1) (by omega) (by omega),Gx (by omega) (by omega),show(n:Int)+1+((f.Blocks.getD i default).End.To.length:Int)=((n+1+(f.Blocks.getD i default).End.To.length:Nat):Int) by omega];rw[show((0:Nat):Int)=0 from rfl]at q1 q4;rw[q1,Option.bind_some,q4,Option.bind_some]
   ·simp only[entB]at hle ⊢;have:=q2 (by omega);rw[q5 (by omega)];omega
   ·simp only[entB];have h6:=q6 hle;have h3:=q3 (by omega);have:=q2 h3
    omega) (fun n i hi hd=>by
   unfold Bb
   have:(bif decide ((i:Int)<(f.Blocks.length:Int)) then decide ((n:Int)≤20000) else false)=false:=by
    rcases hd with rfl|h
    ·simp
    ·simp;omega
   simp only[this,cond_false]) f.Blocks.length 0 f.Params.length (Nat.zero_add _)
 obtain⟨m,h1,h2,h4⟩:=h3;rw[List.drop_zero]at h2 h4;unfold Bq;rw[show((0:Nat):Int)=0 from rfl]at h1;rw[h1,Option.bind_some]
 congr 1
 apply decide_eq_decide.2
 simp only[entF]
 constructor
 ·intro h;exact h4 (by omega)
 ·intro h;have:=h2 h;omega
theorem numB_iff{n:Int}:numB n=true↔0≤n∧n≤2147483647:=by simp[numB]
theorem listB_iff{l:List Int}:Jh l=true↔good31 l∧l.length≤64:=by
 simp[Jh,good31,numB_iff]
def wideP(n:Int):Prop:=0≤n∧n<18446744073709551616
structure OkB(b:Ab):Prop where
 may:blockB b=true
 phis:b.Phis.length≤512
 ops:b.Ops.length≤512
 imm:∀ o∈b.Ops,wideP o.Imm
structure OkF(f:TFunc):Prop where
 params:Jh f.Params=true
 few:f.Params.length≤16
 ret:numB f.Ret=true
 blocks:f.Blocks.length≤64
 block:∀ b∈f.Blocks,OkB b
theorem blockB_iff{b:Ab}:blockB b=true↔(∀ p∈b.Phis,Xd p=true)∧(∀ o∈b.Ops,opB o=true)∧endB b.End=true:=by
 simp[blockB,and_assoc]
theorem sum_le{α:Type}(l:List α)(g:α→Nat)(B:Nat)(h:∀ a∈l,g a≤B):(l.map g).sum≤l.length*B:=by
 induction l with
 | nil=>simp
 | cons a l ih=>
  have h1:=h a (by simp);have h2:=ih (fun b hb=>h b (by simp[hb]));rw[List.map_cons,List.sum_cons,List.length_cons,Nat.add_mul];omega
theorem sum_mono{α:Type}(l:List α)(g k:α→Nat)(h:∀ a∈l,g a≤k a):(l.map g).sum≤(l.map k).sum:=by
 induction l with
 | nil=>simp
 | cons a l ih=>
  have h1:=h a (by simp);have h2:=ih (fun b hb=>h b (by simp[hb]));rw[List.map_cons,List.sum_cons,List.map_cons,List.sum_cons];omega
theorem Vc{α:Type}(l:List α)(g:α→Nat)(h:∀ a∈l,1≤g a):l.length≤(l.map g).sum:=by
 induction l with
 | nil=>simp
 | cons a l ih=>
  have h1:=h a (by simp);have h2:=ih (fun b hb=>h b (by simp[hb]));rw[List.map_cons,List.sum_cons,List.length_cons];omega
theorem mem_le_sum{α:Type}{l:List α}{a:α}(g:α→Nat)(h:a∈l):g a≤(l.map g).sum:=by
 induction l with
 | nil=>cases h
 | cons b l ih=>
  rw[List.map_cons,List.sum_cons];rcases List.mem_cons.1 h with rfl|h
  ·omega
  ·have:=ih h;omega
theorem OkF.size{f:TFunc}(h:OkF f):L7 f≤65600∧sizeW f=L7 f:=by
 have:L7 f≤f.Blocks.length*1025:=sum_le _ _ _ fun b hb=>by
  have h1:=(h.block b hb).phis;have h2:=(h.block b hb).ops;simp only[sizeB];omega
 have h2:=h.blocks
 have h3:L7 f≤65600:=by omega
 exact⟨h3,Uj (by omega)⟩
theorem R9{f:TFunc}(h:P8 f=true):1≤f.Blocks.length∧f.Blocks.length≤64∧f.Params.length≤16∧Jh f.Params=true∧numB f.Ret=true∧sizeW f≤512∧∀ b∈f.Blocks,blockB b=true:=by
 simp only[P8,Bool.and_eq_true,decide_eq_true_eq,List.all_eq_true]at h;exact⟨h.1.1.1.1.1.1,h.1.1.1.1.1.2,h.1.1.1.1.2,h.1.1.1.2,h.1.1.2,h.1.2,h.2⟩
theorem may_lists{f:TFunc}(h:P8 f=true):f.Params.length≤64∧∀ b∈f.Blocks,b.End.To.length≤64∧(∀ p∈b.Phis,p.From.length≤64∧p.Args.length≤64)∧∀ o∈b.Ops,o.Args.length≤64:=by
 obtain⟨_,_,h3,_,_,_,h7⟩:=R9 h;refine⟨by omega,fun b hb=>?_⟩;obtain⟨q1,q2,q3⟩:=blockB_iff.1 (h7 b hb);simp only[endB,Bool.and_eq_true]at q3;refine⟨(listB_iff.1 q3.2).2,fun p hp=>?_,fun o ho=>?_⟩
 ·have:=q1 p hp;simp only[Xd,Bool.and_eq_true]at this;exact⟨(listB_iff.1 this.1.2).2,(listB_iff.1 this.2).2⟩
 ·have:=q2 o ho;simp only[opB,Bool.and_eq_true]at this;exact(listB_iff.1 this.2).2
theorem may_ok{f:TFunc}(hf:InF f)(h:P8 f=true)(hs:entF f≤20000):OkF f∧L7 f≤512:=by
 obtain⟨h1,h2,h3,h4,h5,h6,h7⟩:=R9 h
 have hle:L7 f≤entF f:=by
  have:L7 f≤(f.Blocks.map entB).sum:=sum_mono _ _ _ fun b hb=>by
   have q1:b.Phis.length≤(b.Phis.map entP).sum:=Vc _ _ fun p hp=>by simp only[entP];omega
   have q2:b.Ops.length≤(b.Ops.map entO).sum:=Vc _ _ fun p hp=>by simp only[entO];omega
   simp only[sizeB,entB];omega
  simp only[entF];omega
 have hw:sizeW f=L7 f:=Uj (by omega)
 have h512:L7 f≤512:=by omega
 refine⟨⟨h4,h3,h5,h2,fun b hb=>?_⟩,h512⟩;have hb512:sizeB b≤L7 f:=mem_le_sum sizeB hb;simp only[sizeB]at hb512;exact⟨h7 b hb,by omega,by omega,fun o ho=>(hf.op b hb o ho).2⟩
theorem small_parts(f:TFunc)(hf:InF f):∃ sm,Bq f=some sm∧(sm=true→P8 f=true→OkF f∧L7 f≤512∧1≤f.Blocks.length):=by
 obtain⟨sm,h⟩:=Wc f hf;refine⟨sm,h,fun h1 h2=>?_⟩;obtain⟨q1,q2⟩:=may_lists h2;rw[small_eq f hf q1 q2]at h;subst h1;obtain⟨r1,r2⟩:=may_ok hf h2 (by simpa using OI h);exact⟨r1,r2,(R9 h2).1⟩
def Ua(l:Int):Int:=bif l==0 then 17 else bif l==1 then 20 else 22
def E1(l:Int)(o:D4):Bool:=Hu o&&!decide (Ua l<o.Kind)&&!(decide (l<2)&&decide (1<o.Lanes))
def Eu(l:Int)(b:Ab):Bool:=(b.Phis.all fun p=>D2 p.Bits)&&b.Ops.all (E1 l)
def Hr(f:TFunc)(l:Int):Bool:=f.Params.all D2&&f.Blocks.all (Eu l)&&D2 f.Ret
theorem opOk{f:TFunc}(hf:OkF f){b:Ab}(hb:b∈f.Blocks){o:D4}(ho:o∈b.Ops):OpOk o:=by
 have h1:=hf.block b hb;have h2:=(blockB_iff.1 h1.may).2.1 o ho;simp only[opB,Bool.and_eq_true]at h2;exact⟨⟨(h1.imm o ho).1,(h1.imm o ho).2⟩,by have:=(listB_iff.1 h2.2).2;omega⟩
theorem room_is:room=1099511627776:=rfl
theorem H9{β:Type}(C:Nat)(E:Nat→List β):∀ l:List Nat,(∀ i∈l,(E i).length≤C)→(l.flatMap E).length≤l.length*C
 | [],_=>by simp
 | a::l,h=>by
  have h1:=h a (by simp);have h2:=H9 C E l (fun i hi=>h i (by simp[hi]));rw[List.flatMap_cons,List.length_append,List.length_cons,Nat.add_mul];omega
def Ih(l:List Gy)(v:Int):Int:=match l.findIdx? (fun d=>d.V==v) with|some i=>(i:Int)|none=>-1
def Ju(o:D4):Int×Int:=bif Hu o then R3 o.Kind o.Bits o.Lanes else(0,0)
def Gh(o:D4):List (Int×Int):=bif Hu o then Qf o else[]
def Jg(f:TFunc):List Gy:=(List.range f.Params.length).flatMap fun(i:Nat)=>[⟨(i:Int)+1,-1,0,(f.Params.getD i 0,1)⟩]
def Qp(b:Ab)(i:Nat):List Gy:=(List.range b.Phis.length).flatMap fun(k:Nat)=>[⟨(b.Phis.getD k default).Dst,i,-1,((b.Phis.getD k default).Bits,1)⟩]
def Y4(b:Ab)(i:Nat):List Gy:=(List.range b.Ops.length).flatMap fun(k:Nat)=>bif decide (0<(Ju (b.Ops.getD k default)).1) then[⟨(b.Ops.getD k default).Dst,i,k,Ju (b.Ops.getD k default)⟩] else[]
def Jx(b:Ab)(i:Nat):List Gy:=Qp b i++Y4 b i
def A0(f:TFunc):List Gy:=Jg f++(List.range f.Blocks.length).flatMap fun i=>Jx (f.Blocks.getD i default) i
theorem Xq(f:TFunc):(Jg f).length=f.Params.length:=by
 have h:∀ l:List Nat,(l.map fun _=>1).sum=l.length:=fun l=>by induction l with|nil=>rfl|cons a l ih=>simp[ih];omega
 simp[Jg,List.length_flatMap,h]
def Jr(p:Dx):List Lw:=(List.range p.Args.length).flatMap fun(j:Nat)=>[⟨p.Args.getD j 0,p.From.getD j 0,1000,(p.Bits,1)⟩]
def Pc(b:Ab):List Lw:=(List.range b.Phis.length).flatMap fun(k:Nat)=>Jr (b.Phis.getD k default)
def Lc(o:D4)(i k:Nat):List Lw:=(List.range (Gh o).length).flatMap fun(j:Nat)=>[⟨o.Args.getD j 0,i,k,(Gh o).getD j (0,0)⟩]
def Wk(b:Ab)(i:Nat):List Lw:=(List.range b.Ops.length).flatMap fun(k:Nat)=>Lc (b.Ops.getD k default) i k
def Rr(f:TFunc)(b:Ab)(i:Nat):List Lw:=(bif b.End.Kind==0 then[⟨b.End.Arg,i,1000,(f.Ret,1)⟩] else[])++(bif b.End.Kind==2 then[⟨b.End.Arg,i,1000,(1,1)⟩] else[])
def Wj(f:TFunc)(b:Ab)(i:Nat):List Lw:=Pc b++Wk b i++Rr f b i
def Ff(f:TFunc):List Lw:=(List.range f.Blocks.length).flatMap fun(i:Nat)=>Wj f (f.Blocks.getD i default) i
theorem We{o:D4}(h:o.Args.length≤64):(Gh o).length≤64∧(Gh o).length≤o.Args.length:=by
 unfold Gh
 cases hm:Hu o with
 | false=>simp
 | true=>
  simp only[cond_true]
  have:((o.Args.length:Int)==Kl o.Kind o.Lanes)=true:=by
   simp only[Hu,Bool.and_eq_true]at hm;exact hm.1.2.2
  have h2:(o.Args.length:Int)=Kl o.Kind o.Lanes:=by simpa using this
  have h3:(Qf o).length=o.Args.length:=by rw[Qf,List.length_map,List.length_range,← h2,Int.toNat_natCast]
  omega
theorem ok_phi{f:TFunc}(hf:OkF f){b:Ab}(hb:b∈f.Blocks){p:Dx}(hp:p∈b.Phis):p.From.length≤64∧p.Args.length≤64:=by
 have:=(blockB_iff.1 (hf.block b hb).may).1 p hp;simp only[Xd,Bool.and_eq_true]at this;exact⟨(listB_iff.1 this.1.2).2,(listB_iff.1 this.2).2⟩
theorem ok_op{f:TFunc}(hf:OkF f){b:Ab}(hb:b∈f.Blocks){o:D4}(ho:o∈b.Ops):o.Args.length≤64:=by
 have:=(blockB_iff.1 (hf.block b hb).may).2.1 o ho;simp only[opB,Bool.and_eq_true]at this;exact(listB_iff.1 this.2).2
theorem Zy(p:Dx):(Jr p).length≤p.Args.length:=by
 have:=H9 1 (fun(j:Nat)=>[(⟨p.Args.getD j 0,p.From.getD j 0,1000,(p.Bits,1)⟩:Lw)]) (List.range p.Args.length) (fun _ _=>Nat.le_refl _)
 simpa [Jr] using this
theorem usesOp1_len(o:D4)(i k:Nat):(Lc o i k).length≤(Gh o).length:=by
 have:=H9 1 (fun(j:Nat)=>[(⟨o.Args.getD j 0,i,k,(Gh o).getD j (0,0)⟩:Lw)]) (List.range (Gh o).length) (fun _ _=>Nat.le_refl _)
 simpa [Lc] using this
theorem usesPhi_len{f:TFunc}(hf:OkF f){b:Ab}(hb:b∈f.Blocks):(Pc b).length≤32768:=by
 have:=H9 64 (fun(k:Nat)=>Jr (b.Phis.getD k default)) (List.range b.Phis.length) (fun k hk=>by
  have h1:=Zy (b.Phis.getD k default);have h2:=(ok_phi hf hb (A3 (d:=(default:Dx)) (by simpa using hk))).2
  omega)
 have h3:=(hf.block b hb).phis;rw[List.length_range]at this;have h4:b.Phis.length*64≤512*64:=Nat.mul_le_mul_right _ h3;rw[Pc];omega
theorem usesOp_len{f:TFunc}(hf:OkF f){b:Ab}(hb:b∈f.Blocks)(i:Nat):(Wk b i).length≤32768:=by
 have:=H9 64 (fun(k:Nat)=>Lc (b.Ops.getD k default) i k) (List.range b.Ops.length) (fun k hk=>by
  have h1:=usesOp1_len (b.Ops.getD k default) i k;have h2:=(We (ok_op hf hb (A3 (d:=(default:D4)) (by simpa using hk)))).1
  omega)
 have h3:=(hf.block b hb).ops;rw[List.length_range]at this;have h4:b.Ops.length*64≤512*64:=Nat.mul_le_mul_right _ h3;rw[Wk];omega
theorem usesEnd_len(f:TFunc)(b:Ab)(i:Nat):(Rr f b i).length≤2:=by
 unfold Rr
 cases b.End.Kind==0<;>cases b.End.Kind==2<;>simp
theorem usesB_len{f:TFunc}(hf:OkF f){i:Nat}(hi:i<f.Blocks.length):(Wj f (f.Blocks.getD i default) i).length≤70000:=by
 have hmem:=A3 (d:=(default:Ab)) hi;have h1:=usesPhi_len hf hmem;have h2:=usesOp_len hf hmem i;have h3:=usesEnd_len f (f.Blocks.getD i default) i;rw[Wj,List.length_append,List.length_append];omega
theorem Yl{f:TFunc}(hf:OkF f):(Ff f).length≤4480000:=by
 have h1:=H9 70000 (fun(i:Nat)=>Wj f (f.Blocks.getD i default) i) (List.range f.Blocks.length) (fun i hi=>usesB_len hf (by simpa using hi));have h4:=hf.blocks;rw[List.length_range]at h1;have:f.Blocks.length*70000≤64*70000:=Nat.mul_le_mul_right _ h4;rw[Ff];omega
def phisFit(f:TFunc):Prop:=∀ b∈f.Blocks,∀ p∈b.Phis,p.Args.length≤p.From.length
theorem Qw{S X:Type}(f:S→Option (LR S X))(T:Nat→S)(x:X):∀(n:Nat),(∀ i,i<n→f (T i)=some (.next (T (i+1))))→f (T n)=some (.done x)→Ak f (T 0)=some x:=by
 suffices h:∀(k i n:Nat),i+k=n→(∀ j,i≤j→j<n→f (T j)=some (.next (T (j+1))))→f (T n)=some (.done x)→Ak f (T i)=some x from
  fun n h1 h2=>h n 0 n (by omega) (fun j _ hj=>h1 j hj) h2
 intro k
 induction k with
 | zero=>
  intro i n hi _ h2
  have hin:n=i:=by omega
  subst hin;exact Am h2
 | succ k ih=>intro i n hi h1 h2;rw[Ar (h1 i (Nat.le_refl _) (by omega))];exact ih (i+1) n (by omega) (fun j hj hj'=>h1 j (by omega) hj') h2
theorem Wx{S X:Type}(f:S→Option (LR S X))(T:Nat→S):∀(n:Nat),(∀ i,i<n→f (T i)=some (.next (T (i+1))))→Ak f (T 0)=Ak f (T n):=by
 intro n
 induction n with
 | zero=>intro _;rfl
 | succ n ih=>intro h;rw[ih (fun i hi=>h i (by omega)),Ar (h n (by omega))]
theorem J8{S X:Type}(f:S→Option (LR S X))(T:Nat→S)(p:Nat→Bool)(yes no:X)(n:Nat)(hn:∀ i,i<n→p i=true→f (T i)=some (.next (T (i+1))))(hf:∀ i,i<n→p i=false→f (T i)=some (.done no))
  (he:f (T n)=some (.done yes)):Ak f (T 0)=some (bif (List.range n).all p then yes else no):=by
 cases hall:(List.range n).all p with
 | true=>
  rw[cond_true];exact Qw f T yes n (fun i hi=>hn i hi (List.all_eq_true.1 hall i (List.mem_range.2 hi))) he
 | false=>
  rw[cond_false]
  have hex:∃ i,i<n∧p i=false:=by
   have:¬ ∀ i∈List.range n,p i=true:=fun h=>by rw[List.all_eq_true.2 h]at hall;cases hall
   simpa using this
  let P:Nat→Prop:=fun m=>m<n∧p m=false
  obtain⟨m,hm⟩:=hex
  have key:∀ m,m<n→p m=false→∃ k,k<n∧p k=false∧∀ j,j<k→p j=true:=by
   intro m
   induction m using Nat.strongRecOn with
   | ind m ih=>
    intro h1 h2
    by_cases h:∃ j,j<m∧p j=false
    ·obtain⟨j,hj,hpj⟩:=h;exact ih j hj (by omega) hpj
    ·refine⟨m,h1,h2,fun j hj=>?_⟩
     cases hpj:p j with
     | true=>rfl
     | false=>exact(h ⟨j,hj,hpj⟩).elim
  obtain⟨k,hk,hpk,hlt⟩:=key m hm.1 hm.2;rw[Wx f T k (fun i hi=>hn i (by omega) (hlt i hi))];exact Am (hf k hk hpk)
theorem all_range{n:Nat}{p:Nat→Bool}:(List.range n).all p=true↔∀ i,i<n→p i=true:=by
 rw[List.all_eq_true];exact⟨fun h i hi=>h i (List.mem_range.2 hi),fun h i hi=>h i (List.mem_range.1 hi)⟩
theorem A6(i:Nat):((i:Int)).toNat=i:=Int.toNat_natCast i
theorem w1{i:Nat}(h:i<4611686018427387904):A8 ((i:Int)+1)=((i+1:Nat):Int):=by rw[Gx (by omega) (by omega)];omega
theorem Gi{i n:Nat}(h:i<n):decide (((i:Nat):Int)<((n:Nat):Int))=true:=by simpa using h
theorem K4{n:Nat}:decide (((n:Nat):Int)<((n:Nat):Int))=false:=by simp
theorem Id{i n:Nat}(h:i<n):Cg ((i:Nat):Int) n:=Ay h
theorem inbz{x:Int}{n:Nat}(h0:0≤x)(h1:x<n):Cg x n:=⟨h0,h1⟩
def okAt(n:Nat)(l:List Int)(i:Nat):Bool:=decide ((if i=0 then(-1:Int) else l.getD (i-1) 0)<l.getD i 0)&&(decide (0≤l.getD i 0)&&decide (l.getD i 0<n))
def okL(n:Nat)(l:List Int):Bool:=(List.range l.length).all (okAt n l)
def Jm(L:List (List Int)):Bool:=decide (1≤L.length)&&decide (L.length≤64)&&(List.range L.length).all fun i=>okL L.length (L.getD i [])
def Sz(L:List (List Int))(k i:Nat):Bool:=(L.getD k []).contains (i:Int)
def H6(L:List (List Int))(m i:Nat):List Int:=((List.range m).filter fun k=>Sz L k i).map Int.ofNat
def Ex(L:List (List Int)):List (List Int):=(List.range L.length).map (H6 L L.length)
theorem Lz(a n:Int):Ew a n=some (decide (0≤a)&&decide (a<n)):=by
 unfold Ew
 cases decide ((0:Int)≤a)<;>rfl
theorem X1(n:Nat):Fj (n:Int)=some (decide (1≤n)&&decide (n≤64)):=by
 unfold Fj
 have h1:decide ((1:Int)≤(n:Int))=decide (1≤n):=by apply decide_eq_decide.2;omega
 have h2:decide ((n:Int)≤(64:Int))=decide (n≤64):=by apply decide_eq_decide.2;omega
 rw[h1,h2]
 cases decide (1≤n)<;>rfl
theorem Wd(L:List (List Int))(i:Nat)(hl:(L.getD i []).length<4611686018427387904) :
  Ak (Bv L (i:Int)) ((-1:Int),(0:Int))=some (bif okL L.length (L.getD i []) then .inl () else .inr false):=by
 refine J8 (Bv L (i:Int)) (fun j=>((if j=0 then(-1:Int) else(L.getD i []).getD (j-1) 0),((j:Nat):Int))) (okAt L.length (L.getD i [])) (.inl ()) (.inr false) _ (fun j hj hp=>?_) (fun j hj hp=>?_) ?_
 ·unfold okAt at hp;simp only[Bool.and_eq_true,decide_eq_true_eq]at hp;obtain⟨h1,h2,h3⟩:=hp
  show Bv L (i:Int) (_,_)=_
  unfold Bv;simp only[A6,Gi hj,cond_true,Lz];rw[Ai (Id hj)]
  have e1:decide ((L.getD i []).getD j 0≤(if j=0 then(-1:Int) else(L.getD i []).getD (j-1) 0))=false:=by simpa using h1
  simp only[e1,decide_eq_true h2,decide_eq_true h3,Bool.and_self,beq_self_eq_true,cond_true,cond_false,Option.bind_some,Bool.not_true];rw[w1 (show j<4611686018427387904 by omega)]
  simp
 ·show Bv L (i:Int) (_,_)=_
  unfold Bv;simp only[A6,Gi hj,cond_true,Lz];rw[Ai (Id hj)]
  cases h1:decide ((L.getD i []).getD j 0≤(if j=0 then(-1:Int) else(L.getD i []).getD (j-1) 0)) with
  | true=>simp only[cond_true,show((true==false)=false) from rfl,cond_false,Option.bind_some]
  | false=>
   have h1':decide ((if j=0 then(-1:Int) else(L.getD i []).getD (j-1) 0)<(L.getD i []).getD j 0)=true:=by simpa using h1
   unfold okAt at hp;rw[h1',Bool.true_and]at hp;simp only[beq_self_eq_true,cond_true,cond_false,Option.bind_some,hp,Bool.not_false]
 ·show Bv L (i:Int) (_,_)=_
  unfold Bv;simp only[A6,K4,cond_false]
def Fits(L:List (List Int)):Prop:=L.length<4611686018427387904∧∀ l∈L,l.length<4611686018427387904
theorem Fits.at{L:List (List Int)}(h:Fits L)(i:Nat):(L.getD i []).length<4611686018427387904:=by
 by_cases hi:i<L.length
 ·exact h.2 _ (A3 hi)
 ·rw[List.getD_eq_getElem?_getD,List.getElem?_eq_none (by omega)];simp
theorem m_succMay(L:List (List Int))(h:Fits L):Gq L=some (Jm L):=by
 unfold Gq;rw[X1,Option.bind_some];unfold Jm
 cases hc:(decide (1≤L.length)&&decide (L.length≤64)) with
 | false=>rfl
 | true=>
  simp only[Bool.not_true,cond_false,Bool.true_and];have:=J8 (Bw L) (fun j=>((j:Nat):Int)) (fun i=>okL L.length (L.getD i [])) (.inl ()) (.inr false) L.length (fun j hj hp=>?_) (fun j hj hp=>?_) ?_
  ·rw[show Ak (Bw L) (0:Int)=_ from this]
   cases(List.range L.length).all fun i=>okL L.length (L.getD i [])<;>rfl
  ·show Bw L (j:Int)=_
   unfold Bw;simp only[Gi hj,cond_true];rw[Ai (Id hj),Wd L j (h.at j),hp];simp only[cond_true,Option.bind_some,w1 (show j<4611686018427387904 by have:=h.1;omega)]
  ·show Bw L (j:Int)=_
   unfold Bw;simp only[Gi hj,cond_true];rw[Ai (Id hj),Wd L j (h.at j),hp]
   rfl
  ·show Bw L _=_
   unfold Bw;simp only[K4,cond_false]
theorem Oy{α:Type}{n i:Nat}{g:Nat→α}{d:α}(h:i<n):((List.range n).map g).getD i d=g i:=by simp[List.getD,h]
theorem Zx{α:Type}{n i:Nat}{g:Nat→α}{x:α}:((List.range n).map g).set i x=(List.range n).map fun j=>if j=i then x else g j:=by
 apply List.ext_getElem?
 intro j;rw[List.getElem?_set]
 by_cases hj:j<n
 ·by_cases hij:i=j
  ·subst hij;simp[hj]
  ·simp[hij,hj,Ne.symm hij]
 ·simp[hj];intro h;omega
theorem L0{α:Type}{n:Nat}{g h:Nat→α}(H:∀ i,i<n→g i=h i):(List.range n).map g=(List.range n).map h:=List.map_congr_left fun i hi=>H i (List.mem_range.1 hi)
theorem mayS_iff{L:List (List Int)}:Jm L=true↔1≤L.length∧L.length≤64∧∀ i,i<L.length→okL L.length (L.getD i [])=true:=by
 unfold Jm;rw[Bool.and_eq_true,Bool.and_eq_true,all_range];simp only[decide_eq_true_eq];exact⟨fun⟨⟨a,b⟩,c⟩=>⟨a,b,c⟩,fun⟨a,b,c⟩=>⟨⟨a,b⟩,c⟩⟩
theorem okL_iff{n:Nat}{l:List Int}:okL n l=true↔∀ i,i<l.length→(0≤l.getD i 0∧l.getD i 0<n)∧(0<i→l.getD (i-1) 0<l.getD i 0):=by
 unfold okL;rw[all_range];unfold okAt;simp only[Bool.and_eq_true,decide_eq_true_eq]
 constructor
 ·intro h i hi;obtain⟨h1,h2,h3⟩:=h i hi;refine⟨⟨h2,h3⟩,fun hp=>?_⟩;rwa[if_neg (by omega)]at h1
 ·intro h i hi;obtain⟨⟨h2,h3⟩,h1⟩:=h i hi;refine⟨?_,h2,h3⟩
  by_cases hz:i=0
  ·rw[if_pos hz];omega
  ·rw[if_neg hz];exact h1 (by omega)
section
variable {n:Nat} {l:List Int} (h:okL n l=true)
include h
theorem Sf{i:Nat}(hi:i<l.length):0≤l.getD i 0∧l.getD i 0<n:=(okL_iff.1 h i hi).1
theorem okL_lt{i j:Nat}(hij:i<j)(hj:j<l.length):l.getD i 0<l.getD j 0:=by
 induction j with
 | zero=>omega
 | succ j ih=>
  have h1:=(okL_iff.1 h (j+1) hj).2 (by omega);rw[show j+1-1=j by omega]at h1
  by_cases he:i=j
  ·rw[he];exact h1
  ·exact Int.lt_trans (ih (by omega) (by omega)) h1
theorem okL_ge{i:Nat}(hi:i<l.length):(i:Int)≤l.getD i 0:=by
 induction i with
 | zero=>exact(Sf h hi).1
 | succ i ih=>
  have:=okL_lt h (show i<i+1 by omega) hi;have:=ih (by omega);omega
theorem Ud:l.length≤n:=by
 by_cases hz:l.length=0
 ·omega
 ·have h1:=okL_ge h (show l.length-1<l.length by omega);have h2:=(Sf h (show l.length-1<l.length by omega)).2;omega
theorem okL_mem{x:Int}(hx:x∈l):0≤x∧x<n:=by
 obtain⟨i,hi,rfl⟩:=List.getElem_of_mem hx;have:=Sf h hi;rwa[Ad _ _ _ hi]at this
end
theorem okL_of{n:Nat}{l:List Int}(h1:∀ x∈l,0≤x∧x<n)(h2:l.Pairwise (·<·)):okL n l=true:=by
 rw[okL_iff];intro i hi;rw[Ad _ _ _ hi];refine⟨h1 _ (List.getElem_mem hi),fun hp=>?_⟩;rw[Ad _ _ _ (show i-1<l.length by omega)];exact(List.pairwise_iff_getElem.1 h2) _ _ _ _ (by omega)
theorem R8{L:List (List Int)}(h:Jm L=true):L.length≤64∧∀ l∈L,l.length≤64:=by
 obtain⟨h1,h2,h3⟩:=mayS_iff.1 h;refine⟨h2,fun l hl=>?_⟩;obtain⟨i,hi,rfl⟩:=List.getElem_of_mem hl;have:=Ud (h3 i hi);rw[Ad _ _ _ hi]at this;omega
theorem fits_of{L:List (List Int)}(h:L.length≤1000∧∀ l∈L,l.length≤1000):Fits L:=⟨by omega,fun l hl=>by have:=h.2 l hl;omega⟩
theorem predAt_succ(L:List (List Int))(k i:Nat):H6 L (k+1) i=H6 L k i++(if Sz L k i=true then[(k:Int)] else[]):=by
 unfold H6;rw[List.range_succ,List.filter_append,List.map_append]
 congr 1
 cases hg:Sz L k i<;>simp[hg]
theorem Qb(L:List (List Int))(k i:Nat):(H6 L k i).length≤k:=by
 unfold H6;rw[List.length_map];have:=List.length_filter_le (fun k=>Sz L k i) (List.range k)
 simpa using this
theorem Xv{l:List Int}{j:Nat}(hj:j<l.length):l.take (j+1)=l.take j++[l.getD j 0]:=by
 rw[Ad _ _ _ hj,List.take_succ_eq_append_getElem hj]
def Lg(L:List (List Int))(k j i:Nat):Bool:=((L.getD k []).take j).contains (i:Int)
def Hc(L:List (List Int))(k j:Nat):List (List Int):=(List.range L.length).map fun i=>H6 L k i++(if Lg L k j i=true then[(k:Int)] else[])
theorem comers_step(L:List (List Int))(h:Jm L=true)(k j:Nat)(hk:k<L.length)(hj:j<(L.getD k []).length) :
  (Hc L k j).set ((L.getD k []).getD j 0).toNat ((Hc L k j).getD ((L.getD k []).getD j 0).toNat []++[(k:Int)])=Hc L k (j+1):=by
 obtain⟨h1,h2,h3⟩:=mayS_iff.1 h;have hok:=h3 k hk;obtain⟨a0,a1⟩:=Sf hok hj;unfold Hc;rw[Oy (by omega),Zx]
 apply L0
 intro i hi
 have hnot:Lg L k j ((L.getD k []).getD j 0).toNat=false:=by
  unfold Lg;rw[Int.toNat_of_nonneg a0]
  cases hc:((L.getD k []).take j).contains ((L.getD k []).getD j 0) with
  | false=>rfl
  | true=>
   rw[List.contains_iff_mem]at hc;obtain⟨m,hm,he⟩:=List.getElem_of_mem hc
   have hm':m<j:=by simp at hm;omega
   rw[List.getElem_take]at he;have:=okL_lt hok hm' hj;rw[Ad _ _ _ (show m<(L.getD k []).length by omega),he]at this;omega
 by_cases hi2:i=((L.getD k []).getD j 0).toNat
 ·rw[if_pos hi2,hnot]
  have:Lg L k (j+1) i=true:=by
   unfold Lg;rw[Xv hj,List.contains_iff_mem,hi2,Int.toNat_of_nonneg a0]
   simp
  rw[this,hi2]
  simp
 ·rw[if_neg hi2]
  have:Lg L k (j+1) i=Lg L k j i:=by
   unfold Lg;rw[Xv hj,Bool.eq_iff_iff,List.contains_iff_mem,List.contains_iff_mem,List.mem_append]
   constructor
   ·rintro(hm|hm)
    ·exact hm
    ·simp only[List.mem_singleton]at hm;exact(hi2 (by omega)).elim
   ·exact .inl
  rw[this]
theorem m_comers(L:List (List Int))(h:Jm L=true):F3 L=some (Ex L):=by
 obtain⟨h1,h2,h3⟩:=mayS_iff.1 h
 have hroom:(1000:Nat)≤room:=by decide
 unfold F3;rw[Ai ⟨by omega,Int.le_refl _,by omega⟩,A6]
 have inner:∀ k,k<L.length→Ak (C9 L (k:Int)) ((0:Int),Hc L k 0)=some (Hc L k (L.getD k []).length):=fun k hk=>by
  have hok:=h3 k hk;refine Qw (C9 L (k:Int)) (fun j=>(((j:Nat):Int),Hc L k j)) (Hc L k (L.getD k []).length) (L.getD k []).length (fun j hj=>?_) ?_
  ·obtain⟨a0,a1⟩:=Sf hok hj
   have hlen:(Hc L k j).length=L.length:=by simp[Hc]
   have hl64:=Ud hok
   show C9 L (k:Int) (_,_)=_
   unfold C9;simp only[A6,Gi hj,cond_true];have hb:Cg ((L.getD k []).getD j 0) (Hc L k j).length:=⟨a0,by rw[hlen];exact a1⟩
   have hrow:((Hc L k j).getD ((L.getD k []).getD j 0).toNat []).length≤k+1:=by
    unfold Hc;rw[Oy (by omega),List.length_append];have:=Qb L k ((L.getD k []).getD j 0).toNat
    split
    ·rw[List.length_singleton];omega
    ·rw[List.length_nil];omega
   rw[Ai (Id hj),Ai hb,Ai hb,Ai (by simp only[List.length_singleton];omega),Ai hb,comers_step L h k j hk hj,w1 (by omega)]
  ·show C9 L (k:Int) (_,_)=_
   unfold C9;simp only[A6,K4,cond_false]
 have r0:∀ k,Hc L k 0=(List.range L.length).map (H6 L k):=fun k=>by
  unfold Hc
  apply L0
  intro i _;simp[Lg]
 have r1:∀ k,Hc L k (L.getD k []).length=(List.range L.length).map (H6 L (k+1)):=fun k=>by
  unfold Hc
  apply L0
  intro i _;rw[predAt_succ];unfold Lg Sz;rw[List.take_length]
 have:Ak (Da L) ((0:Int),(List.range L.length).map (H6 L 0))=some (Ex L):=Qw (Da L) (fun k=>(((k:Nat):Int),(List.range L.length).map (H6 L k))) (Ex L) L.length (fun k hk=>?_) ?_
 ·have e0:(List.replicate L.length ([]:List Int))=(List.range L.length).map (H6 L 0):=by
   apply List.ext_getElem?
   intro i
   by_cases hi:i<L.length<;>simp[hi,List.getElem?_replicate,H6]
  rw[e0,this];rfl
 ·show Da L (_,_)=_
  unfold Da;simp only[Gi hk,cond_true];rw[Ai (Id hk),← r0,inner k hk,r1,w1 (by omega)]
  rfl
 ·show Da L (_,_)=_
  unfold Da;simp only[K4,cond_false]
  rfl
theorem S4{α:Type}[DecidableEq α]{a b:List α}{d:α}(h:a.length=b.length):((List.range a.length).all fun i=>decide (a.getD i d=b.getD i d))=decide (a=b):=by
 rw[Bool.eq_iff_iff,all_range,decide_eq_true_eq]
 constructor
 ·intro hall
  apply List.ext_getElem h
  intro i h1 h2;have:=of_decide_eq_true (hall i h1);rwa[Ad _ _ _ h1,Ad _ _ _ h2]at this
 ·rintro rfl i _
  simp
theorem lens_ne{a b:Nat}:(((a:Nat):Int)!=(b:Int))=decide (a≠b):=by
 rw[Bool.eq_iff_iff,bne_iff_ne,decide_eq_true_eq];omega
theorem int_ne{a b:Int}:(a !=b) = !decide (a=b):=by
 rw[Bool.eq_iff_iff]
 simp
theorem Zd(a b:List Int)(hb:b.length<4611686018427387904):C5 a b=some (decide (a=b)):=by
 unfold C5;rw[lens_ne]
 by_cases hl:a.length=b.length
 ·rw[decide_eq_false (by simpa using hl),cond_false];have:Ak (A2 a b) (0:Int)=_:=J8 (A2 a b) (fun j=>((j:Nat):Int)) (fun i=>decide (a.getD i 0=b.getD i 0)) (.inl ()) (.inr false) a.length (fun j hj hp=>?_) (fun j hj hp=>?_) ?_
  ·rw[this,S4 hl]
   cases decide (a=b)<;>rfl
  ·show A2 a b (j:Int)=_
   unfold A2;simp only[A6,Gi hj,cond_true];rw[Ai (Id hj),Ai (Id (by omega)),int_ne,hp,w1 (by omega)]
   rfl
  ·show A2 a b (j:Int)=_
   unfold A2;simp only[A6,Gi hj,cond_true];rw[Ai (Id hj),Ai (Id (by omega)),int_ne,hp]
   rfl
  ·show A2 a b _=_
   unfold A2;simp only[K4,cond_false]
 ·rw[decide_eq_true (by simpa using hl),cond_true,decide_eq_false (fun h=>hl (by rw[h]))]
theorem m_equalFunc(a b:List (List Int))(hb:Fits b):Bo a b=some (decide (a=b)):=by
 unfold Bo;rw[lens_ne]
 by_cases hl:a.length=b.length
 ·rw[decide_eq_false (by simpa using hl),cond_false];have hb1:=hb.1;have:Ak (Aq a b) (0:Int)=_:=J8 (Aq a b) (fun j=>((j:Nat):Int)) (fun i=>decide (a.getD i []=b.getD i [])) (.inl ()) (.inr false) a.length (fun j hj hp=>?_) (fun j hj hp=>?_) ?_
  ·rw[this,S4 hl]
   cases decide (a=b)<;>rfl
  ·show Aq a b (j:Int)=_
   unfold Aq;simp only[A6,Gi hj,cond_true];rw[Ai (Id hj),Ai (Id (by omega)),Zd _ _ (hb.at j),hp,w1 (by omega)]
   rfl
  ·show Aq a b (j:Int)=_
   unfold Aq;simp only[A6,Gi hj,cond_true];rw[Ai (Id hj),Ai (Id (by omega)),Zd _ _ (hb.at j),hp]
   rfl
  ·show Aq a b _=_
   unfold Aq;simp only[K4,cond_false]
 ·rw[decide_eq_true (by simpa using hl),cond_true,decide_eq_false (fun h=>hl (by rw[h]))]
theorem Kp(L:List (List Int)):(Ex L).length=L.length:=by simp[Ex]
theorem Ye{L:List (List Int)}{i:Nat}(hi:i<L.length):(Ex L).getD i []=H6 L L.length i:=by unfold Ex;rw[Oy hi]
theorem My{L:List (List Int)}(h:Jm L=true):(Ex L).length≤64∧∀ l∈Ex L,l.length≤64:=by
 obtain⟨h1,_⟩:=R8 h;refine⟨by rw[Kp];exact h1,fun l hl=>?_⟩;obtain⟨i,hi,rfl⟩:=List.mem_map.1 hl;have:=Qb L L.length i;omega
theorem Qe{L:List (List Int)}(h:L.length≤64∧∀ l∈L,l.length≤64):Fits L:=fits_of ⟨by omega,fun l hl=>by have:=h.2 l hl;omega⟩
def R7(g:B2):Bool:=Jm g.Succ&&decide (g.Pred=Ex g.Succ)
theorem m_may(g:B2)(h:Fits g.Succ):Jl g=some (R7 g):=by
 unfold Jl R7;rw[m_succMay _ h,Option.bind_some]
 cases hm:Jm g.Succ with
 | false=>rfl
 | true=>
  simp only[beq_self_eq_true,cond_true,m_comers _ hm,Option.bind_some,m_equalFunc _ _ (Qe (My hm)),Bool.true_and]
def Ru(L:List (List Int)):B2:=⟨L,Ex L⟩
def g0:B2:=⟨[],[]⟩
theorem mayG_gOf{L:List (List Int)}(h:Jm L=true):R7 (Ru L)=true:=by simp[R7,Ru,h]
theorem gOf_fits{L:List (List Int)}(h:Jm L=true):Fits (Ru L).Succ∧Fits (Ru L).Pred:=⟨Qe (R8 h),Qe (My h)⟩
noncomputable section
def upd(s:Nat→Bool)(y:Nat):Nat→Bool:=fun z=>decide (z=y) || s z
theorem upd_true{s:Nat→Bool}{y z:Nat}:upd s y z=true↔z=y∨s z=true:=by simp[upd]
theorem upd_false{s:Nat→Bool}{y z:Nat}:upd s y z=false↔z≠y∧s z=false:=by simp[upd]
inductive VL (S:Nat→List Nat):(Nat→Bool)→List Nat→(Nat→Bool)→List Nat→Prop
 | nil (s:Nat→Bool):VL S s [] s []
 | skip {s s':Nat→Bool} {y:Nat} {l o:List Nat} (h:s y=true) (t:VL S s l s' o):VL S s (y::l) s' o
 | step {s s1 s2:Nat→Bool} {y:Nat} {l o1 o2:List Nat} (h:s y=false) (a:VL S (upd s y) (S y) s1 o1) (b:VL S s1 l s2 o2):VL S s (y::l) s2 (o1++y::o2)
inductive Rch (S:Nat→List Nat):Nat→Nat→Prop
 | refl (x:Nat):Rch S x x
 | head {x y z:Nat} (h:y∈S x) (t:Rch S y z):Rch S x z
theorem Rch.tail{S:Nat→List Nat}{x y z:Nat}(h:Rch S x y)(hz:z∈S y):Rch S x z:=by
 induction h with
 | refl x=>exact .head hz (.refl _)
 | head h _ ih=>exact .head h (ih hz)
theorem Rch.trans{S:Nat→List Nat}{x y z:Nat}(h:Rch S x y)(k:Rch S y z):Rch S x z:=by
 induction h with
 | refl x=>exact k
 | head h _ ih=>exact .head h (ih k)
variable {S:Nat→List Nat} {s s':Nat→Bool} {l o:List Nat}
theorem VL.seen(h:VL S s l s' o)(z:Nat):s' z=true↔s z=true∨z∈o:=by
 induction h with
 | nil s=>simp
 | skip h _ ih=>exact ih
 | @step s s1 s2 y l o1 o2 h a b iha ihb=>
  rw[ihb,iha,upd_true];simp only[List.mem_append,List.mem_cons]
  constructor
  ·rintro((( rfl|h1)|h1)|h1)
   ·exact .inr (.inr (.inl rfl))
   ·exact .inl h1
   ·exact .inr (.inl h1)
   ·exact .inr (.inr (.inr h1))
  ·rintro(h1|h1|rfl|h1)
   ·exact .inl (.inl (.inr h1))
   ·exact .inl (.inr h1)
   ·exact .inl (.inl (.inl rfl))
   ·exact .inr h1
theorem VL.fresh(h:VL S s l s' o){z:Nat}(hz:z∈o):s z=false:=by
 induction h with
 | nil s=>cases hz
 | skip h _ ih=>exact ih hz
 | @step s s1 s2 y l o1 o2 h a b iha ihb=>
  rcases List.mem_append.1 hz with h1|h1
  ·exact(upd_false.1 (iha h1)).2
  ·rcases List.mem_cons.1 h1 with rfl|h1
   ·exact h
   ·have:=ihb h1
    cases hs:s z with
    | false=>rfl
    | true=>rw[(a.seen z).2 (.inl (upd_true.2 (.inr hs)))]at this;cases this
theorem VL.nodup(h:VL S s l s' o):o.Nodup:=by
 induction h with
 | nil s=>exact List.nodup_nil
 | skip h _ ih=>exact ih
 | @step s s1 s2 y l o1 o2 h a b iha ihb=>
  rw[List.nodup_append];refine⟨iha,List.nodup_cons.2 ⟨fun hy=>?_,ihb⟩,fun u hu v hv=>?_⟩
  ·have:=b.fresh hy;rw[(a.seen y).2 (.inl (upd_true.2 (.inl rfl)))]at this
   cases this
  ·rintro rfl;rcases List.mem_cons.1 hv with rfl|hv
   ·have:=a.fresh hu;rw[upd_true.2 (.inl rfl)]at this
    cases this
   ·have:=b.fresh hv;rw[(a.seen u).2 (.inr hu)]at this
    cases this
theorem VL.rch(h:VL S s l s' o){z:Nat}(hz:z∈o):∃ y∈l,Rch S y z:=by
 induction h with
 | nil s=>cases hz
 | skip h _ ih=>obtain⟨y,hy,hr⟩:=ih hz;exact⟨y,List.mem_cons_of_mem _ hy,hr⟩
 | @step s s1 s2 y l o1 o2 h a b iha ihb=>
  rcases List.mem_append.1 hz with h1|h1
  ·obtain⟨u,hu,hr⟩:=iha h1;exact⟨y,List.mem_cons_self ..,.head hu hr⟩
  ·rcases List.mem_cons.1 h1 with rfl|h1
   ·exact⟨z,List.mem_cons_self ..,.refl z⟩
   ·obtain⟨u,hu,hr⟩:=ihb h1;exact⟨u,List.mem_cons_of_mem _ hu,hr⟩
theorem VL.closed(h:VL S s l s' o):(∀ y∈l,s' y=true)∧∀ z∈o,∀ y∈S z,s' y=true:=by
 induction h with
 | nil s=>exact⟨(fun _ h=>by cases h),(fun _ h=>by cases h)⟩
 | @skip s s' y l o h t ih=>
  refine⟨fun u hu=>?_,ih.2⟩;rcases List.mem_cons.1 hu with rfl|hu
  ·exact(t.seen u).2 (.inl h)
  ·exact ih.1 u hu
 | @step s s1 s2 y l o1 o2 h a b iha ihb=>
  refine⟨fun u hu=>?_,fun z hz u hu=>?_⟩
  ·rcases List.mem_cons.1 hu with rfl|hu
   ·exact(b.seen u).2 (.inl ((a.seen u).2 (.inl (upd_true.2 (.inl rfl)))))
   ·exact ihb.1 u hu
  ·rcases List.mem_append.1 hz with h1|h1
   ·exact(b.seen u).2 (.inl (iha.2 z h1 u hu))
   ·rcases List.mem_cons.1 h1 with rfl|h1
    ·exact(b.seen u).2 (.inl (iha.1 u hu))
    ·exact ihb.2 z h1 u hu
theorem VL.above(h:VL S s l s' o)(hf:∀ z,∀ y∈S z,z<y){b:Nat}(hb:∀ y∈l,b<y):∀ z∈o,b<z:=by
 induction h generalizing b with
 | nil s=>intro z hz;cases hz
 | skip h _ ih=>exact ih (fun y hy=>hb y (List.mem_cons_of_mem _ hy))
 | @step s s1 s2 y l o1 o2 h a c iha ihb=>
  intro z hz;have hy:=hb y (List.mem_cons_self ..);rcases List.mem_append.1 hz with h1|h1
  ·exact iha (fun u hu=>Nat.lt_trans hy (hf y u hu)) z h1
  ·rcases List.mem_cons.1 h1 with rfl|h1
   ·exact hy
   ·exact ihb (fun u hu=>hb u (List.mem_cons_of_mem _ hu)) z h1
theorem VL.ahead(h:VL S s l s' o)(hf:∀ z,∀ y∈S z,z<y):∀ z∈o,∀ y∈S z,s y=true∨∃ A B,o=A++z::B∧y∈A:=by
 induction h with
 | nil s=>intro z hz;cases hz
 | skip h _ ih=>exact ih
 | @step s s1 s2 y l o1 o2 h a c iha ihb=>
  intro z hz u hu;rcases List.mem_append.1 hz with h1|h1
  ·have hzy:y<z:=a.above hf (fun v hv=>hf y v hv) z h1;have hzu:=hf z u hu;rcases iha z h1 u hu with h2|⟨A,B,rfl,hA⟩
   ·rcases upd_true.1 h2 with rfl|h2
    ·omega
    ·exact .inl h2
   ·exact .inr ⟨A,B++y::o2,by simp,hA⟩
  ·rcases List.mem_cons.1 h1 with rfl|h1z
   ·have hzu:=hf z u hu;rcases(a.seen u).1 (a.closed.1 u hu) with h2|h2
    ·rcases upd_true.1 h2 with rfl|h2
     ·omega
     ·exact .inl h2
    ·exact .inr ⟨o1,o2,rfl,h2⟩
   ·rcases ihb z h1z u hu with h2|⟨A,B,rfl,hA⟩
    ·rcases(a.seen u).1 h2 with h3|h3
     ·rcases upd_true.1 h3 with rfl|h3
      ·obtain⟨P,Q,rfl⟩:=List.append_of_mem h1z;exact .inr ⟨o1++u::P,Q,by simp,by simp⟩
      ·exact .inl h3
     ·obtain⟨P,Q,rfl⟩:=List.append_of_mem h1z;exact .inr ⟨o1++y::P,Q,by simp,by simp[h3]⟩
    ·exact .inr ⟨o1++y::A,B,by simp,by simp[hA]⟩
def cnt(n:Nat)(s:Nat→Bool):Nat:=((List.range n).filter fun z=>!s z).length
theorem Ox{n:Nat}{s:Nat→Bool}{y:Nat}(hy:y<n)(h:s y=false):cnt n (upd s y)+1=cnt n s:=by
 unfold cnt
 induction n with
 | zero=>omega
 | succ n ih=>
  rw[List.range_succ,List.filter_append,List.filter_append,List.length_append,List.length_append]
  by_cases hyn:y=n
  ·subst hyn
   have e:(List.range y).filter (fun z=>!upd s y z)=(List.range y).filter (fun z=>!s z):=by
    apply List.filter_congr
    intro z hz;have:=List.mem_range.1 hz;simp[upd,show z≠y by omega]
   rw[e];simp[upd,h]
  ·have:=ih (by omega)
   have e:([n].filter fun z=>!upd s y z).length=([n].filter fun z=>!s z).length:=by
    simp only[List.filter_cons,List.filter_nil,upd];simp[Ne.symm hyn]
   omega
theorem cnt_mono{n:Nat}{s s':Nat→Bool}(h:∀ z,s z=true→s' z=true):cnt n s'≤cnt n s:=by
 unfold cnt
 apply List.Sublist.length_le
 have:(List.range n).filter (fun z=>!s' z)=((List.range n).filter fun z=>!s z).filter fun z=>!s' z:=by
  rw[List.filter_filter]
  apply List.filter_congr
  intro z _
  cases hs:s z with
  | false=>simp
  | true=>simp[h z hs]
 rw[this];exact List.filter_sublist
theorem VL.exist{n:Nat}(hS:∀ z,z<n→∀ y∈S z,y<n):∀(m:Nat) (s:Nat→Bool),cnt n s≤m→∀ l:List Nat,(∀ y∈l,y<n)→∃ s' o,VL S s l s' o:=by
 intro m
 induction m with
 | zero=>
  intro s hm l
  induction l with
  | nil=>intro _;exact⟨s,[],.nil s⟩
  | cons y l ih=>
   intro hl;obtain⟨s',o,h⟩:=ih (fun z hz=>hl z (List.mem_cons_of_mem _ hz))
   cases hy:s y with
   | true=>exact⟨s',o,.skip hy h⟩
   | false=>have:=Ox (hl y (List.mem_cons_self ..)) hy;omega
 | succ m ih=>
  intro s hm l
  induction l generalizing s with
  | nil=>intro _;exact⟨s,[],.nil s⟩
  | cons y l ihl=>
   intro hl
   cases hy:s y with
   | true=>
    obtain⟨s',o,h⟩:=ihl s hm (fun z hz=>hl z (List.mem_cons_of_mem _ hz));exact⟨s',o,.skip hy h⟩
   | false=>
    have hyn:=hl y (List.mem_cons_self ..);have:=Ox hyn hy;obtain⟨s1,o1,h1⟩:=ih (upd s y) (by omega) (S y) (hS y hyn);have h2:cnt n s1≤cnt n s:=cnt_mono fun z hz=>(h1.seen z).2 (.inl (upd_true.2 (.inr hz)));obtain⟨s2,o2,h3⟩:=ihl s1 (by omega) (fun z hz=>hl z (List.mem_cons_of_mem _ hz));exact⟨s2,_,.step hy h1 h3⟩
def one(r:Nat):Nat→Bool:=fun z=>decide (z=r)
def Ord(S:Nat→List Nat)(r:Nat)(L:List Nat):Prop:=∃ s' o,VL S (one r) (S r) s' o∧L=r::o.reverse
theorem Ord.exist{n:Nat}(hS:∀ z,z<n→∀ y∈S z,y<n){r:Nat}(hr:r<n):∃ L,Ord S r L:=by
 obtain⟨s',o,h⟩:=VL.exist hS _ (one r) (Nat.le_refl _) (S r) (hS r hr);exact⟨_,s',o,h,rfl⟩
theorem Ord.mem{r:Nat}{L:List Nat}(h:Ord S r L)(z:Nat):z∈L↔Rch S r z:=by
 obtain⟨s',o,h,rfl⟩:=h
 have hs:∀ z,s' z=true↔z=r∨z∈o:=fun z=>by rw[h.seen];simp[one]
 have hc:∀ x,s' x=true→∀ y∈S x,s' y=true:=fun x hx y hy=>by
  rcases(hs x).1 hx with rfl|hx
  ·exact h.closed.1 y hy
  ·exact h.closed.2 x hx y hy
 simp only[List.mem_cons,List.mem_reverse];rw[← hs z]
 constructor
 ·intro hz;rcases(hs z).1 hz with rfl|hz
  ·exact .refl _
  ·obtain⟨y,hy,hr⟩:=h.rch hz;exact .head hy hr
 ·intro hr
  have key:∀ x z,Rch S x z→s' x=true→s' z=true:=by
   intro x z hxz
   induction hxz with
   | refl x=>exact id
   | head hy _ ih=>exact fun hx=>ih (hc _ hx _ hy)
  exact key r z hr ((hs r).2 (.inl rfl))
theorem Ord.nodup{r:Nat}{L:List Nat}(h:Ord S r L):L.Nodup:=by
 obtain⟨s',o,h,rfl⟩:=h;refine List.nodup_cons.2 ⟨fun hr=>?_,(List.reverse_perm o).nodup_iff.2 h.nodup⟩;have:=h.fresh (List.mem_reverse.1 hr);simp[one]at this
theorem Ord.fwd{r:Nat}{L:List Nat}(h:Ord S r L)(hf:∀ z,∀ y∈S z,z<y):∀ z∈L,∀ y∈S z,∃ A B,L=A++z::B∧y∈B:=by
 obtain⟨s',o,h,rfl⟩:=h;intro z hz y hy;have hzy:=hf z y hy;rcases List.mem_cons.1 hz with rfl|hz
 ·refine⟨[],o.reverse,rfl,?_⟩;rcases(h.seen y).1 (h.closed.1 y hy) with h1|h1
  ·simp[one]at h1;omega
  ·exact List.mem_reverse.2 h1
 ·have hz:=List.mem_reverse.1 hz;have hrz:r<z:=h.above hf (fun v hv=>hf r v hv) z hz;rcases h.ahead hf z hz y hy with h1|⟨A,B,rfl,hA⟩
  ·simp[one]at h1;omega
  ·exact⟨r::B.reverse,A.reverse,by simp,List.mem_reverse.2 hA⟩
end
theorem m_reverse(l:List Int)(hl:l.length<4611686018427387904):Cq l=some l.reverse:=by
 unfold Cq
 by_cases h0:l.length=0
 ·obtain rfl:l=[]:=List.length_eq_zero_iff.1 h0
  have:Ak Az ((0:Int),(A8 ((([]:List Int).length:Int)-1)),([]:List Int))=some []:=by
   apply Am
   unfold Az;rw[Gx (by simp) (by simp)]
   rfl
  rw[this];rfl
 ·have hw:A8 ((l.length:Int)-1)=((l.length-1:Nat):Int):=by rw[Gx (by omega) (by omega)];omega
  rw[hw]
  let C:Nat→List Int:=fun k=>(List.range l.length).map fun i=>if i<k∨l.length-1-k<i then l.getD (l.length-1-i) 0 else l.getD i 0
  have hC:∀ k i,i<l.length→(C k).getD i 0=if i<k∨l.length-1-k<i then l.getD (l.length-1-i) 0 else l.getD i 0:=fun k i hi=>by simp only[C];rw[Oy hi]
  have hlen:∀ k,(C k).length=l.length:=fun k=>by simp[C]
  have:=Qw Az (fun k=>(((k:Nat):Int),((l.length-1-k:Nat):Int),C k)) l.reverse (l.length / 2) (fun k hk=>?_) ?_
  ·have e0:C 0=l:=by
    apply List.ext_getElem (by simp[C])
    intro i h1 h2;have:=hC 0 i h2;rw[Ad _ _ _ h1,Ad _ _ _ h2]at this;rw[this,if_neg (by omega)]
   have this':Ak Az ((0:Int),((l.length-1:Nat):Int),l)=some l.reverse:=by
    have h2:=this;simp only[e0]at h2;exact h2
   rw[this'];rfl
  ·show Az (_,_,_)=_
   unfold Az
   have hlt:k<l.length-1-k:=by omega
   simp only[Gi hlt,cond_true,A6];rw[Ai (Id (by rw[hlen];omega)),Ai (Id (by rw[hlen];omega)),Ai (Id (by rw[hlen];omega)),Ai (Id (by rw[hlen];omega))];rw[w1 (by omega),show A8 (((l.length-1-k:Nat):Int)-1)=((l.length-1-(k+1):Nat):Int) by rw[Gx (by omega) (by omega)];omega]
   congr 4
   rw[hC k _ (by omega),hC k _ (by omega),if_neg (by omega),if_neg (by omega)];simp only[C];rw[Zx,Zx]
   apply L0
   intro i hi
   by_cases h1:i=k
   ·subst h1;rw[if_neg (by omega),if_pos rfl,if_pos (by omega)]
   ·by_cases h2:i=l.length-1-k
    ·subst h2;rw[if_pos rfl,if_pos (by omega)]
     congr 1;omega
    ·rw[if_neg h2,if_neg h1]
     by_cases h3:i<k∨l.length-1-k<i
     ·rw[if_pos h3,if_pos (by omega)]
     ·rw[if_neg h3,if_neg (by omega)]
  ·show Az (_,_,_)=_
   unfold Az;have hd:decide (((l.length / 2:Nat):Int)<((l.length-1-l.length / 2:Nat):Int))=false:=decide_eq_false (by omega);simp only[hd,cond_false]
   congr 2
   apply List.ext_getElem (by simp[C])
   intro i h1 h2
   have h3:i<l.length:=by simpa [C] using h1
   have:=hC (l.length / 2) i h3;rw[Ad _ _ _ h1]at this;rw[this,List.getElem_reverse]
   split
   ·rw[Ad _ _ _ (by omega)]
   ·rw[Ad _ _ _ h3]
    congr 1;omega
theorem top{st:List Int}{a:Int}(h:st.length<4611686018427387904):(st++[a]).getD (A8 (((st++[a]).length:Int)-1)).toNat 0=a:=by
 have:A8 (((st++[a]).length:Int)-1)=((st.length:Nat):Int):=by rw[List.length_append,List.length_singleton,Gx (by omega) (by omega)];omega
 rw[this,A6];simp[List.getD]
theorem topi{st:List Int}{a:Int}(h:st.length<4611686018427387904):A8 (((st++[a]).length:Int)-1)=((st.length:Nat):Int):=by
 rw[List.length_append,List.length_singleton,Gx (by omega) (by omega)];omega
theorem L2_done{g:B2}{R:List Bool}{st T:List Int}{a:Nat}(hst:st.length<64)(ha:a<g.Succ.length)(h64:g.Succ.length≤64)(ht:T.getD a 0=((g.Succ.getD a []).length:Int)) :
  Ee g R (st++[(a:Int)]) T=some (.done (.inl T)):=by
 unfold Ee;simp only[top (st:=st) (a:=(a:Int)) (by omega),A6];rw[Ai (Id (by omega)),Ai (Id ha),ht,K4,cond_false]
theorem L2_step{g:B2}{R:List Bool}{st T:List Int}{a t y:Nat}(hst:st.length<64)(ha:a<g.Succ.length)(h64:g.Succ.length≤64)(ht:T.getD a 0=(t:Int))(htl:t<(g.Succ.getD a []).length)(htm:t<64)
  (hy:(g.Succ.getD a []).getD t 0=(y:Int)) (hyn:y<g.Succ.length) :
  Ee g R (st++[(a:Int)]) T=bif R.getD y false then some (.next (H7 64 (0:Int) T a ((t+1:Nat):Int))) else some (.done (.inr (H7 64 false R y true,H7 64 (0:Int) T a ((t+1:Nat):Int),(st++[(a:Int)])++[(y:Int)]))):=by
 have hroom:(1000:Nat)≤room:=by decide
 unfold Ee;simp only[top (st:=st) (a:=(a:Int)) (by omega),A6,ht,hy];rw[Ai (Id (by omega)),Ai (Id ha),Gi htl,cond_true,Ai (Id ha),Ai (Id (by omega)),Ai (Id htl),Ai (Id (by omega)),Ai (Id (by omega)),Ai (Id (by omega)),w1 (by omega)]
 cases R.getD y false with
 | true=>rfl
 | false=>
  simp only[Bool.not_false,cond_true,cond_false];rw[Ai (Id (by omega)),Ai (by rw[List.length_append,List.length_singleton,List.length_singleton];omega)]
theorem F3_eq{g:B2}{R:List Bool}{st T Lf:List Int}{a:Nat}(hst:st.length<64)(hLf:Lf.length<64) :
  Cd g (R,T,st++[(a:Int)],Lf)=(Ak (Ee g R (st++[(a:Int)])) T).bind fun x=>match x with
   | .inl T'=>if st=[] then some (.done (Lf++[(a:Int)]).reverse) else some (.next (R,T',st,Lf++[(a:Int)]))
   | .inr (R',T',st')=>some (.next (R',T',st',Lf)):=by
 have hroom:(1000:Nat)≤room:=by decide
 unfold Cd;simp only
 have hb:Cg (A8 (((st++[(a:Int)]).length:Int)-1)) (st++[(a:Int)]).length:=by rw[topi (by omega)];exact Id (by simp)
 rw[Ai hb]
 congr 1
 funext x
 cases x with
 | inr y=>obtain⟨R',T',st'⟩:=y;rfl
 | inl T'=>
  simp only[top (st:=st) (a:=(a:Int)) (by omega)];rw[topi (by omega),A6,Ai (by rw[List.length_singleton];omega),Ai ⟨by omega,by simp⟩];have e:(st++[(a:Int)]).take st.length=st:=List.take_left' rfl;rw[e]
  cases st with
  | nil=>
   rw[if_pos rfl]
   have:decide ((0:Int)<(([]:List Int).length:Int))=false:=by decide
   rw[this,cond_false,m_reverse _ (by simp;omega)];simp only[Option.bind_some];rw[Ai (by simp)]
  | cons b st'=>
   rw[if_neg (by simp)];have:decide ((0:Int)<((b::st').length:Int))=true:=decide_eq_true (by simp<;>omega);rw[this,cond_true]
theorem loopO_from{S X:Type}{f:S→Option (LR S X)}{a b:S}(h:f a=f b):Ak f a=Ak f b:=by
 cases hb:f b with
 | none=>rw[P7 (h.trans hb),P7 hb]
 | some r=>cases r with
  | done x=>rw[Am (h.trans hb),Am hb]
  | next s=>rw[Ar (h.trans hb),Ar hb]
theorem Tg{S X:Type}{f:S→Option (LR S X)}{s:S}:Lt (f s) f=Ak f s:=by
 unfold Lt
 cases hb:f s with
 | none=>rw[P7 hb];rfl
 | some r=>cases r with
  | done x=>rw[Am hb];rfl
  | next s'=>rw[Ar hb];rfl
def sN(L:List (List Int))(k:Nat):List Nat:=(L.getD k []).map Int.toNat
def RelS(R:List Bool)(s:Nat→Bool):Prop:=∀ z,z<64→R.getD z false=s z
theorem J4{α:Type}{d:α}{l:List α}{i:Nat}{x:α}{k:Nat}(hk:k<64):(H7 64 d l i x).getD k d=if k=i then x else l.getD k d:=by
 rw[Yj hk]
 by_cases h:k=i
 ·subst h;simp
 ·have:Nat.beq k i=false:=by cases hb:Nat.beq k i with|false=>rfl|true=>exact absurd (Nat.eq_of_beq_eq_true hb) h
  rw[this,if_neg h];rfl
theorem RelS.set{R:List Bool}{s:Nat→Bool}(h:RelS R s){y:Nat}:RelS (H7 64 false R y true) (upd s y):=fun z hz=>by
 rw[J4 hz,h z hz]
 by_cases hzy:z=y
 ·simp[upd,hzy]
 ·simp[upd,hzy]
def Lj(o:List Nat):List Int:=o.map Int.ofNat
theorem order_main{g:B2}(hm:Jm g.Succ=true){s s':Nat→Bool}{l o:List Nat}(hv:VL (sN g.Succ) s l s' o) :
  ∀(R:List Bool) (T st Lf:List Int) (a t:Nat),RelS R s→a<g.Succ.length→l=(sN g.Succ a).drop t→T.getD a 0=(t:Int)→t≤(sN g.Succ a).length→s a=true→(∀ z,z<64→s z=false→T.getD z 0=0)→
   Lf.length+cnt 64 s+st.length+1≤64→
   ∃(R':List Bool) (T':List Int),RelS R' s'∧(∀ z,z<64→s' z=false→T'.getD z 0=0)∧(∀ z,z<64→s z=true→z≠a→T'.getD z 0=T.getD z 0)∧Lf.length+o.length+cnt 64 s'+st.length+1≤64 ∧
    Ak (Cd g) (R,T,st++[(a:Int)],Lf)=if st=[] then some (Lf++Lj o++[(a:Int)]).reverse else Ak (Cd g) (R',T',st,Lf++Lj o++[(a:Int)]):=by
 obtain⟨hL1,hL64,hLok⟩:=mayS_iff.1 hm
 have hlenS:∀ a,(sN g.Succ a).length=(g.Succ.getD a []).length:=fun a=>by simp[sN]
 have hdrop:∀(a t y:Nat) (l':List Nat),a<g.Succ.length→y::l'=(sN g.Succ a).drop t→t<(g.Succ.getD a []).length∧(g.Succ.getD a []).getD t 0=(y:Int)∧y<g.Succ.length∧l'=(sN g.Succ a).drop (t+1):=fun a t y l' ha he=>by
  have ht:t<(sN g.Succ a).length:=by
   rcases Nat.lt_or_ge t (sN g.Succ a).length with h|h
   ·exact h
   ·rw[List.drop_eq_nil_of_le h]at he;cases he
  rw[List.drop_eq_getElem_cons ht]at he;simp only[List.cons.injEq]at he;obtain⟨h1,h2⟩:=he
  have ht':t<(g.Succ.getD a []).length:=by rw[← hlenS];exact ht
  obtain⟨b0,b1⟩:=Sf (hLok a ha) ht'
  have h3:(sN g.Succ a)[t]=((g.Succ.getD a []).getD t 0).toNat:=by rw[Ad _ _ _ ht'];simp[sN]
  exact⟨ht',by omega,by omega,h2⟩
 induction hv with
 | nil s=>
  intro R T st Lf a t hR ha hl hT htl hsa hz hc
  have ht:t=(g.Succ.getD a []).length:=by
   have:=congrArg List.length hl;simp at this;rw[hlenS]at htl this;omega
  refine⟨R,T,hR,hz,fun _ _ _ _=>rfl,by simpa using hc,?_⟩
  have hF:Cd g (R,T,st++[(a:Int)],Lf)=if st=[] then some (.done (Lf++[(a:Int)]).reverse) else some (.next (R,T,st,Lf++[(a:Int)])):=by
   rw[F3_eq (by omega) (by omega),Am (L2_done (by omega) ha hL64 (by rw[hT,ht]))]
   rfl
  by_cases hst:st=[]
  ·rw[if_pos hst]at hF ⊢;rw[Am hF];simp[Lj]
  ·rw[if_neg hst]at hF ⊢;rw[Ar hF];simp[Lj]
 | @skip s s' y l o h tl ih=>
  intro R T st Lf a t hR ha hl hT htl hsa hz hc;obtain⟨h1,h2,h3,h4⟩:=hdrop a t y l ha hl;have hb:=Ud (hLok a ha);have hs:=L2_step (g:=g) (R:=R) (st:=st) (T:=T) (a:=a) (t:=t) (y:=y) (by omega) ha hL64 hT h1 (by omega) h2 h3;rw[hR y (by omega),h,cond_true]at hs;obtain⟨R',T',a1,a2,a3,a4,a5⟩:=ih R (H7 64 (0:Int) T a ((t+1:Nat):Int)) st Lf a (t+1) hR ha h4 (by rw[J4 (by omega),if_pos rfl]) (by rw[hlenS];omega) hsa
   (fun z hz1 hz2=>by rw[J4 hz1,if_neg (by rintro rfl;rw[hsa]at hz2;cases hz2)];exact hz z hz1 hz2) hc
  refine⟨R',T',a1,a2,fun z hz1 hz2 hz3=>by rw[a3 z hz1 hz2 hz3,J4 hz1,if_neg hz3],a4,?_⟩;rw[← a5]
  apply loopO_from
  rw[F3_eq (by omega) (by omega),F3_eq (by omega) (by omega),Ar hs]
 | @step s s1 s2 y l o1 o2 h tl tr ih1 ih2=>
  intro R T st Lf a t hR ha hl hT htl hsa hz hc;obtain⟨h1,h2,h3,h4⟩:=hdrop a t y l ha hl;have hb:=Ud (hLok a ha)
  have hay:y≠a:=by rintro rfl;rw[hsa]at h;cases h
  have hs:=L2_step (g:=g) (R:=R) (st:=st) (T:=T) (a:=a) (t:=t) (y:=y) (by omega) ha hL64 hT h1 (by omega) h2 h3;rw[hR y (by omega),h,cond_false]at hs;have hcu:=Ox (n:=64) (show y<64 by omega) h
  have hF:Cd g (R,T,st++[(a:Int)],Lf)=some (.next (H7 64 false R y true,H7 64 (0:Int) T a ((t+1:Nat):Int),(st++[(a:Int)])++[(y:Int)],Lf)):=by
   rw[F3_eq (by omega) (by omega),Am hs]
   rfl
  obtain⟨R1,T1,b1,b2,b3,b4,b5⟩:=ih1 (H7 64 false R y true) (H7 64 (0:Int) T a ((t+1:Nat):Int)) (st++[(a:Int)]) Lf y 0 hR.set h3 (by simp)
   (by rw[J4 (by omega),if_neg hay];exact hz y (by omega) h) (Nat.zero_le _) (upd_true.2 (.inl rfl))
   (fun z hz1 hz2=>by
    obtain⟨c1,c2⟩:=upd_false.1 hz2;rw[J4 hz1,if_neg (by rintro rfl;rw[hsa]at c2;cases c2)]
    exact hz z hz1 c2) (by rw[List.length_append,List.length_singleton];omega)
  rw[if_neg (by simp)]at b5
  have hTa:T1.getD a 0=((t+1:Nat):Int):=by rw[b3 a (by omega) (upd_true.2 (.inr hsa)) (Ne.symm hay),J4 (by omega),if_pos rfl]
  rw[List.length_append,List.length_singleton]at b4;obtain⟨R2,T2,c1,c2,c3,c4,c5⟩:=ih2 R1 T1 st (Lf++Lj o1++[(y:Int)]) a (t+1) b1 ha h4 hTa (by rw[hlenS];omega) ((tl.seen a).2 (.inl (upd_true.2 (.inr hsa)))) b2
   (by simp only[List.length_append,List.length_singleton,Lj,List.length_map];omega)
  refine⟨R2,T2,c1,c2,fun z hz1 hz2 hz3=>?_,?_,?_⟩
  ·rw[c3 z hz1 ((tl.seen z).2 (.inl (upd_true.2 (.inr hz2)))) hz3,b3 z hz1 (upd_true.2 (.inr hz2)) (by rintro rfl;rw[h]at hz2;cases hz2),J4 hz1,if_neg hz3]
  ·simp only[List.length_append,List.length_singleton,Lj,List.length_map,List.length_cons]at c4 ⊢;omega
  ·rw[Ar hF,b5,c5]
   have e:Lf++Lj o1++[(y:Int)]++Lj o2++[(a:Int)]=Lf++Lj (o1++y::o2)++[(a:Int)]:=by simp[Lj]
   rw[e]
theorem Py{L:List (List Int)}(h:Jm L=true):∀ z,z<L.length→∀ y∈sN L z,y<L.length:=fun z hz y hy=>by
 obtain⟨_,_,h3⟩:=mayS_iff.1 h;obtain⟨x,hx,rfl⟩:=List.mem_map.1 hy;have:=okL_mem (h3 z hz) hx;omega
theorem cnt_one{r:Nat}(hr:r<64):cnt 64 (one r)=63:=by
 have h:=Ox (n:=64) (s:=fun _=>false) hr rfl
 have e:upd (fun _=>false) r=one r:=by funext z;simp[upd,one]
 rw[e]at h
 have:cnt 64 (fun _=>false)=64:=by decide
 omega
theorem Kq{α:Type}{n z:Nat}{d:α}:(List.replicate n d).getD z d=d:=by rw[List.getD_eq_getElem?_getD,List.getElem?_replicate];split<;>rfl
theorem Ze(g:B2)(h:Fits g.Succ)(hP:True)(r:Int) :
  (R7 g=true→0≤r→r<(g.Succ.length:Int)→∀ L,Ord (sN g.Succ) r.toNat L→E3 g r=some (Lj L)) ∧
  ((R7 g&&(decide (0≤r)&&decide (r<(g.Succ.length:Int))))=false→E3 g r=some []):=by
 refine⟨fun hm h0 h1 L hL=>?_,fun hf=>?_⟩
 ·have hms:Jm g.Succ=true:=by unfold R7 at hm;exact(Bool.and_eq_true _ _▸hm).1
  obtain⟨hL1,hL64,hLok⟩:=mayS_iff.1 hms;obtain⟨s',o,hv,rfl⟩:=hL;have hrn:((r.toNat:Nat):Int)=r:=Int.toNat_of_nonneg h0
  have hr:r.toNat<g.Succ.length:=by omega
  obtain⟨R',T',_,_,_,_,hmain⟩:=order_main hms hv (H7 64 false (List.replicate 64 false) r.toNat true) (List.replicate 64 (0:Int)) [] [] r.toNat 0
   (fun z hz=>by rw[J4 hz,Kq];by_cases hzr:z=r.toNat<;>simp[one,hzr]) hr (by simp) Kq (Nat.zero_le _) (by simp[one])
   (fun z hz _=>Kq) (by rw[cnt_one (by omega)];simp)
  rw[if_pos rfl,hrn]at hmain;unfold E3;rw[m_may _ h,hm,Option.bind_some];simp only[Bool.not_true,beq_self_eq_true,cond_true,cond_false,Lz,decide_eq_true h0,decide_eq_true h1,Bool.and_self,Option.bind_some];rw[Ai ⟨h0,by omega⟩];have hF:∀ X,Ak (Cd g) (H7 64 false (List.replicate 64 false) r.toNat true,List.replicate 64 (0:Int),[]++[r],[])=some X→
    (Lt (Cd g (H7 64 false (List.replicate 64 false) r.toNat true,List.replicate 64 (0:Int),[r],[])) (Cd g)).bind (fun x=>some x)=some X:=fun X hX=>by
   rw[Tg];rw[List.nil_append]at hX;rw[hX];rfl
  refine(hF _ hmain).trans ?_;simp only[List.nil_append,List.reverse_append,Lj,List.map_cons,List.map_reverse,List.reverse_cons,List.reverse_nil]
  simp
  omega
 ·unfold E3;rw[m_may _ h,Option.bind_some]
  cases hm:R7 g with
  | false=>rfl
  | true=>
   rw[hm,Bool.true_and]at hf;simp only[Bool.not_true,beq_self_eq_true,cond_true,cond_false,Lz,hf,Option.bind_some,Bool.not_false]
   rfl
def RelN(n:Nat)(R:List Bool)(s:Nat→Bool):Prop:=R.length=n∧∀ z,z<n→R.getD z false=s z
theorem RelN.set{n:Nat}{R:List Bool}{s:Nat→Bool}(h:RelN n R s){y:Nat}(hy:y<n):RelN n (R.set y true) (upd s y):=by
 refine⟨by rw[List.length_set];exact h.1,fun z hz=>?_⟩;rw[List.getD_eq_getElem?_getD,List.getElem?_set]
 by_cases hzy:y=z
 ·subst hzy;simp[upd,h.1,hy]
 ·rw[if_neg hzy,← List.getD_eq_getElem?_getD,h.2 z hz];simp[upd,Ne.symm hzy]
theorem I6:∀(n:Nat) (l:List Nat),l.Nodup→(∀ x∈l,x<n)→l.length≤n
 | 0,l,_,h=>by
  cases l with
  | nil=>simp
  | cons x l=>have:=h x (List.mem_cons_self ..);omega
 | n+1,l,hd,h=>by
  by_cases hn:n∈l
  ·have h1:=I6 n (l.erase n) (hd.erase n) fun x hx=>by
    have h2:=(hd.mem_erase_iff).1 hx;have:=h x h2.2;have:=h2.1;omega
   rw[List.length_erase_of_mem hn]at h1;omega
  ·have h1:=I6 n l hd fun x hx=>by
    have:=h x hx
    have:x≠n:=by rintro rfl;exact hn hx
    omega
   omega
theorem mem_filt{p:Nat→Bool}{n:Nat}{x:Int}:x∈((List.range n).filter p).map Int.ofNat↔∃ k:Nat,x=(k:Int)∧k<n∧p k=true:=by
 simp only[List.mem_map,List.mem_filter,List.mem_range]
 constructor
 ·rintro⟨k,⟨h1,h2⟩,rfl⟩;exact⟨k,rfl,h1,h2⟩
 ·rintro⟨k,rfl,h1,h2⟩;exact⟨k,⟨h1,h2⟩,rfl⟩
theorem goes_iff{L:List (List Int)}{k i:Nat}:Sz L k i=true↔(i:Int)∈L.getD k []:=by unfold Sz;rw[List.contains_iff_mem]
def mk(o:List Bool)(l:List Nat):List Bool:=l.foldl (fun o y=>o.set y true) o
theorem mk_len(l:List Nat):∀ o:List Bool,(mk o l).length=o.length:=by
 induction l with
 | nil=>intro o;rfl
 | cons y l ih=>intro o;show(mk (o.set y true) l).length=_;rw[ih,List.length_set]
theorem mk_at{n:Nat}(l:List Nat):∀(o:List Bool),o.length=n→(∀ y∈l,y<n)→∀ z,(mk o l).getD z false=true↔o.getD z false=true∨z∈l:=by
 induction l with
 | nil=>intro o _ _ z;simp[mk]
 | cons y l ih=>
  intro o ho hl z
  show(mk (o.set y true) l).getD z false=true↔_
  rw[ih (o.set y true) (by rw[List.length_set];exact ho) (fun u hu=>hl u (List.mem_cons_of_mem _ hu)) z];have hy:=hl y (List.mem_cons_self ..)
  have e:(o.set y true).getD z false=true↔o.getD z false=true∨z=y:=by
   rw[List.getD_eq_getElem?_getD,List.getElem?_set,List.getD_eq_getElem?_getD]
   by_cases h:y=z
   ·subst h;simp[ho,hy]
   ·simp[h,Ne.symm h]
  rw[e,List.mem_cons]
  constructor
  ·rintro((h|h)|h)
   ·exact .inl h
   ·exact .inr (.inl h)
   ·exact .inr (.inr h)
  ·rintro(h|h|h)
   ·exact .inl (.inl h)
   ·exact .inl (.inr h)
   ·exact .inr h
def sw(S:Nat→List Nat)(o:List Bool):Nat→List Bool
 | 0=>o
 | i+1=>if(sw S o i).getD i false=true then mk (sw S o i) (S i) else sw S o i
def Yf(S:Nat→List Nat)(n:Nat)(o:List Bool):Nat→List Bool
 | 0=>o
 | j+1=>sw S (Yf S n o j) n
section
variable {S:Nat→List Nat} {n:Nat} (hS:∀ z,z<n→∀ y∈S z,y<n)
theorem Sr(o:List Bool):∀ i,(sw S o i).length=o.length:=by
 intro i
 induction i with
 | zero=>rfl
 | succ i ih=>unfold sw;split;rw[mk_len,ih];exact ih
theorem rds_len(o:List Bool):∀ j,(Yf S n o j).length=o.length:=by
 intro j
 induction j with
 | zero=>rfl
 | succ j ih=>unfold Yf;rw[Sr,ih]
include hS
theorem Ui{o:List Bool}(ho:o.length=n):∀ i,i≤n→∀ z,o.getD z false=true→(sw S o i).getD z false=true:=by
 intro i
 induction i with
 | zero=>intro _ z h;exact h
 | succ i ih=>
  intro hi z h;unfold sw
  split
  ·exact(mk_at (n:=n) _ _ (by rw[Sr];exact ho) (hS i (by omega)) z).2 (.inl (ih (by omega) z h))
  ·exact ih (by omega) z h
theorem sw_sound{o:List Bool}{r:Nat}(ho:o.length=n)(h:∀ z,o.getD z false=true→Rch S r z):∀ i,i≤n→∀ z,(sw S o i).getD z false=true→Rch S r z:=by
 intro i
 induction i with
 | zero=>intro _ z hz;exact h z hz
 | succ i ih=>
  intro hi z hz;unfold sw at hz
  split at hz
  ·rename_i hsi
   rcases(mk_at (n:=n) _ _ (by rw[Sr];exact ho) (hS i (by omega)) z).1 hz with h1|h1
   ·exact ih (by omega) z h1
   ·exact(ih (by omega) i hsi).tail h1
  ·exact ih (by omega) z hz
theorem sw_step{o:List Bool}(ho:o.length=n):∀ i,i≤n→∀ j,j<i→o.getD j false=true→∀ y∈S j,(sw S o i).getD y false=true:=by
 intro i
 induction i with
 | zero=>intro _ j hj;omega
 | succ i ih=>
  intro hi j hj hoj y hy;unfold sw
  by_cases hji:j=i
  ·subst hji;have h1:=Ui hS ho j (by omega) j hoj;rw[if_pos h1];exact(mk_at (n:=n) _ _ (by rw[Sr];exact ho) (hS j (by omega)) y).2 (.inr hy)
  ·have h1:=ih (by omega) j (by omega) hoj y hy
   split
   ·exact(mk_at (n:=n) _ _ (by rw[Sr];exact ho) (hS i (by omega)) y).2 (.inl h1)
   ·exact h1
theorem sw_closed{o:List Bool}(ho:o.length=n)(hc:∀ j,j<n→o.getD j false=true→∀ y∈S j,o.getD y false=true):∀ i,i≤n→∀ z,(sw S o i).getD z false=true→o.getD z false=true:=by
 intro i
 induction i with
 | zero=>intro _ z h;exact h
 | succ i ih=>
  intro hi z hz;unfold sw at hz
  split at hz
  ·rename_i hsi
   rcases(mk_at (n:=n) _ _ (by rw[Sr];exact ho) (hS i (by omega)) z).1 hz with h1|h1
   ·exact ih (by omega) z h1
   ·exact hc i (by omega) (ih (by omega) i hsi) z h1
  ·exact ih (by omega) z hz
theorem Rj{r:Nat}(hr:r<n)(z:Nat):(Yf S n ((List.replicate n false).set r true) n).getD z false=true↔Rch S r z:=by
 let o0:=(List.replicate n false).set r true
 have ho0:o0.length=n:=by simp[o0]
 have hat0:∀ z,o0.getD z false=true↔z=r:=fun z=>by
  show((List.replicate n false).set r true).getD z false=true↔z=r
  rw[List.getD_eq_getElem?_getD,List.getElem?_set]
  by_cases h:r=z
  ·subst h;simp[hr]
  ·rw[if_neg h,← List.getD_eq_getElem?_getD,Kq];simp[Ne.symm h]
 have hlen:∀ j,(Yf S n o0 j).length=n:=fun j=>by rw[rds_len,ho0]
 have hsound:∀ j z,(Yf S n o0 j).getD z false=true→Rch S r z:=by
  intro j
  induction j with
  | zero=>intro z hz;rw[(hat0 z).1 hz];exact .refl _
  | succ j ih=>intro z hz;exact sw_sound hS (hlen j) ih n (Nat.le_refl _) z hz
 have hmono:∀ j,∀ z,o0.getD z false=true→(Yf S n o0 j).getD z false=true:=by
  intro j
  induction j with
  | zero=>intro z h;exact h
  | succ j ih=>intro z h;exact Ui hS (hlen j) n (Nat.le_refl _) z (ih z h)
 let C:Nat→Prop:=fun j=>∀ i,i<n→(Yf S n o0 j).getD i false=true→∀ y∈S i,(Yf S n o0 j).getD y false=true
 have key:∀ j,C j∨cnt n (fun z=>(Yf S n o0 j).getD z false)+j+1≤n:=by
  intro j
  induction j with
  | zero=>
   refine .inr ?_;have h1:=Ox (n:=n) (s:=fun _=>false) hr rfl
   have e:upd (fun _=>false) r=fun z=>(Yf S n o0 0).getD z false:=by
    funext z
    rw[Bool.eq_iff_iff,upd_true]
    show _↔o0.getD z false=true
    rw[hat0]
    simp
   rw[e]at h1
   have hcl:cnt n (fun _=>false)=n:=by
    unfold cnt;rw[List.filter_eq_self.2 (by simp)]
    simp
   omega
  | succ j ih=>
   by_cases hc:C j
   ·refine .inl fun i hi h y hy=>?_;have h1:=sw_closed hS (hlen j) hc n (Nat.le_refl _) i h;exact Ui hS (hlen j) n (Nat.le_refl _) y (hc i hi h1 y hy)
   ·rcases ih with ih|ih
    ·exact(hc ih).elim
    ·refine .inr ?_
     have hex:∃ i,i<n∧(Yf S n o0 j).getD i false=true∧∃ y,y∈S i∧(Yf S n o0 j).getD y false=false:=by
      simp only[C]at hc;simp only[Classical.not_forall]at hc;obtain⟨i,hi,h1,y,hy,h2⟩:=hc;exact⟨i,hi,h1,y,hy,by simpa using h2⟩
     obtain⟨i,hi,h1,y,hy,h2⟩:=hex;have h3:=sw_step hS (hlen j) n (Nat.le_refl _) i hi h1 y hy;have hyn:=hS i hi y hy;have h4:=Ox (n:=n) (s:=fun z=>(Yf S n o0 j).getD z false) hyn h2
     have h5:cnt n (fun z=>(Yf S n o0 (j+1)).getD z false)≤cnt n (upd (fun z=>(Yf S n o0 j).getD z false) y):=cnt_mono fun z hz=>by
      rcases upd_true.1 hz with rfl|hz
      ·exact h3
      ·exact Ui hS (hlen j) n (Nat.le_refl _) z hz
     omega
 have hC:C n:=by
  rcases key n with h|h
  ·exact h
  ·omega
 constructor
 ·exact hsound n z
 ·intro hrch
  have hlt:∀ x z,Rch S x z→x<n→z<n∧((Yf S n o0 n).getD x false=true→(Yf S n o0 n).getD z false=true):=by
   intro x z hxz
   induction hxz with
   | refl x=>exact fun hx=>⟨hx,id⟩
   | @head x y z hy _ ih=>
    intro hx;have:=ih (hS x hx y hy);exact⟨this.1,fun h=>this.2 (hC x hx h y hy)⟩
  exact(hlt r z hrch hr).2 (hmono n r ((hat0 r).2 rfl))
end
def pos:List Nat→Nat→Nat
 | [],_=>0
 | x::l,z=>if x=z then 0 else pos l z+1
theorem Vx(x:Nat)(l:List Nat)(z:Nat):pos (x::l) z=if x=z then 0 else pos l z+1:=rfl
theorem pos_app{A l:List Nat}{z:Nat}(h:z∉A):pos (A++l) z=A.length+pos l z:=by
 induction A with
 | nil=>simp
 | cons x A ih=>
  have h1:x≠z:=fun e=>h (by rw[e];exact List.mem_cons_self ..);have h2:z∉A:=fun e=>h (List.mem_cons_of_mem _ e);rw[List.cons_append,Vx,if_neg h1,ih h2,List.length_cons];omega
theorem Uf{P:List Nat}(hd:P.Nodup){i:Nat}(hi:i<P.length):P[i]∉P.take i∧pos P P[i]=i:=by
 have e:P=P.take i++P[i]::P.drop (i+1):=by rw[← List.drop_eq_getElem_cons hi,List.take_append_drop]
 have hn:P[i]∉P.take i:=by
  rw[e]at hd;have:=(List.nodup_append.1 hd).2.2;exact fun hm=>this _ hm _ (List.mem_cons_self ..) rfl
 refine⟨hn,?_⟩
 have h2:pos (P.take i++P[i]::P.drop (i+1)) P[i]=i:=by
  rw[pos_app hn]
  have:pos (P[i]::P.drop (i+1)) P[i]=0:=by rw[Vx,if_pos rfl]
  rw[this,List.length_take];omega
 rw[← e]at h2;exact h2
theorem compact_inv(d:Array Int)(hs:∀ i j,i≤j→j<d.size→d[i]!≤d[j]!):∀ m,m≤d.size→(∀ x∈Lib.compactUpTo d m,∃ j,j<m∧x=d[j]!)∧(∀ j,j<m→d[j]!∈Lib.compactUpTo d m)∧(Lib.compactUpTo d m).Pairwise (·<·):=by
 intro m
 induction m with
 | zero=>intro _;exact⟨(fun x hx=>by simp[Lib.compactUpTo]at hx),(fun j hj=>by omega),by simp[Lib.compactUpTo]⟩
 | succ m ih=>
  intro hm;obtain⟨h1,h2,h3⟩:=ih (by omega);rw[Lib.compactUpTo_succ]
  cases hk:Lib.keeps d m with
  | true=>
   rw[if_pos rfl];refine⟨fun x hx=>?_,fun j hj=>?_,?_⟩
   ·rcases List.mem_append.1 hx with h|h
    ·obtain⟨j,hj,he⟩:=h1 x h;exact⟨j,by omega,he⟩
    ·exact⟨m,by omega,by simpa using h⟩
   ·by_cases hjm:j=m
    ·subst hjm;simp
    ·exact List.mem_append.2 (.inl (h2 j (by omega)))
   ·rw[List.pairwise_append];refine⟨h3,List.pairwise_singleton _ _,fun x hx y hy=>?_⟩;obtain⟨j,hj,rfl⟩:=h1 x hx
    have hy':y=d[m]!:=by simpa using hy
    subst hy'
    have hk':m=0∨d[m]!≠d[m-1]!:=by simpa [Lib.keeps] using hk
    rcases hk' with h0|h0
    ·omega
    ·have a1:=hs j (m-1) (by omega) (by omega);have a2:=hs (m-1) m (by omega) (by omega);omega
  | false=>
   have hk':m≠0∧d[m]! = d[m-1]!:=by
    have:¬ (m=0∨d[m]!≠d[m-1]!):=by
     intro h
     have:Lib.keeps d m=true:=by simpa [Lib.keeps] using h
     rw[hk]at this;cases this
    exact⟨fun h=>this (.inl h),Classical.not_not.1 fun h=>this (.inr h)⟩
   simp only[Bool.false_eq_true,if_false,List.append_nil];refine⟨fun x hx=>by obtain⟨j,hj,he⟩:=h1 x hx;exact⟨j,by omega,he⟩,fun j hj=>?_,h3⟩
   by_cases hjm:j=m
   ·subst hjm;rw[hk'.2];exact h2 _ (by omega)
   ·exact h2 j (by omega)
def V6(l:List Int):List Int:=Lib.compact (l.mergeSort fun x y=>decide (x≤y))
theorem rise_spec(l:List Int):(V6 l).Pairwise (·<·)∧∀ x,x∈V6 l↔x∈l:=by
 unfold V6 Lib.compact;have hp:(l.mergeSort fun x y=>decide (x≤y)).Pairwise (fun a b=>decide (a≤b)=true):=List.pairwise_mergeSort (fun a b c h1 h2=>by simp at *;omega) (fun a b=>by simp;omega) l;have hm:∀ x,x∈(l.mergeSort fun x y=>decide (x≤y))↔x∈l:=fun x=>List.mem_mergeSort
 generalize l.mergeSort (fun x y=>decide (x≤y))=z at hp hm ⊢
 have hz:∀ j,j<z.length→z.toArray[j]! = z.getD j 0:=fun j hj=>by simp[List.getD,hj]
 obtain⟨h1,h2,h3⟩:=compact_inv z.toArray (fun i j hij hj=>by
  have hj':j<z.length:=by simpa using hj
  rw[hz i (by omega),hz j hj']
  by_cases he:i=j
  ·rw[he];exact Int.le_refl _
  ·have:=(List.pairwise_iff_getElem.1 hp) i j (by omega) hj' (by omega);rw[Ad _ _ _ (by omega),Ad _ _ _ hj']
   simpa using this) z.length (by simp)
 refine⟨h3,fun x=>?_⟩;rw[← hm x]
 constructor
 ·intro hx;obtain⟨j,hj,rfl⟩:=h1 x hx;rw[hz j hj];exact A3 hj
 ·intro hx;obtain⟨j,hj,rfl⟩:=List.getElem_of_mem hx;have:=h2 j hj;rwa[hz j hj,Ad _ _ _ hj]at this
def toB(n:Nat)(l:List Int):Bool:=(List.range l.length).all fun i=>decide (0<l.getD i 0)&&decide (l.getD i 0<(n:Int))
def wantK(k:Int):Int:=([0,1,2,0]:List Int).getD k.toNat 0
def kindB(e:Eo):Bool:=(decide (0≤e.Kind)&&decide (e.Kind≤3))&&decide ((e.To.length:Int)=wantK e.Kind)
def Kb(e:Eo)(n:Nat):Bool:=kindB e&&toB n e.To
theorem toB_iff{n:Nat}{l:List Int}:toB n l=true↔∀ x∈l,0<x∧x<n:=by
 unfold toB;rw[all_range];simp only[Bool.and_eq_true,decide_eq_true_eq]
 constructor
 ·intro h x hx;obtain⟨i,hi,rfl⟩:=List.getElem_of_mem hx;have:=h i hi;rwa[Ad _ _ _ hi]at this
 ·intro h i hi;exact h _ (A3 hi)
theorem end_loop(e:Eo)(n:Nat)(hl:e.To.length<4611686018427387904):Ak (Bn e (n:Int)) (0:Int)=some (bif toB n e.To then .inl () else .inr false):=by
 have step:∀ j:Nat,j<e.To.length→Bn e (n:Int) (j:Int)=bif (decide (0<e.To.getD j 0)&&decide (e.To.getD j 0<(n:Int))) then some (.next (((j+1:Nat):Int))) else some (.done (.inr false)):=fun j hj=>by
  unfold Bn;simp only[A6,Gi hj,cond_true,Lz,w1 (show j<4611686018427387904 by omega)];rw[Ai (Id hj)]
  by_cases h0:e.To.getD j 0=0
  ·rw[h0];rfl
  ·have:(e.To.getD j 0==0)=false:=by rw[beq_eq_false_iff_ne];exact h0
   rw[this];simp only[beq_self_eq_true,cond_true,cond_false,Option.bind_some]
   have e1:decide (0<e.To.getD j 0)=decide (0≤e.To.getD j 0):=by apply decide_eq_decide.2;omega
   rw[e1]
   cases(decide (0≤e.To.getD j 0)&&decide (e.To.getD j 0<(n:Int)))<;>rfl
 have:=J8 (Bn e (n:Int)) (fun j=>((j:Nat):Int)) (fun i=>decide (0<e.To.getD i 0)&&decide (e.To.getD i 0<(n:Int))) (.inl ()) (.inr false) e.To.length (fun j hj hp=>?_) (fun j hj hp=>?_) ?_
 ·exact this
 ·show Bn e (n:Int) (j:Int)=_
  rw[step j hj,hp];rfl
 ·show Bn e (n:Int) (j:Int)=_
  rw[step j hj,hp];rfl
 ·show Bn e (n:Int) _=_
  unfold Bn;simp only[K4,cond_false]
theorem Qr(e:Eo)(n:Nat)(w:Int)(hw:0≤w∧w≤2) :
  (bif ((e.To.length:Int)!=w) then(some false) else((Ak (Bn e (n:Int)) (0:Int)).bind (fun x10=>(match x10 with|(.inl _)=>(some true)|(.inr r12)=>(some r12)))))=some (decide ((e.To.length:Int)=w)&&toB n e.To):=by
 by_cases h:(e.To.length:Int)=w
 ·rw[show((e.To.length:Int)!=w)=false by simpa using h,cond_false,end_loop e n (by omega),decide_eq_true h]
  cases toB n e.To<;>rfl
 ·rw[show((e.To.length:Int)!=w)=true by simpa using h,cond_true,decide_eq_false h];rfl
theorem m_endFits(e:Eo)(n:Nat):Gp e (n:Int)=some (Kb e n):=by
 unfold Gp Kb kindB
 by_cases h0:e.Kind=0
 ·rw[h0];exact Qr e n 0 (by omega)
 by_cases h1:e.Kind=1
 ·rw[h1];exact Qr e n 1 (by omega)
 by_cases h2:e.Kind=2
 ·rw[h2];exact Qr e n 2 (by omega)
 by_cases h3:e.Kind=3
 ·rw[h3];exact Qr e n 0 (by omega)
 have e0:(e.Kind==0)=false:=by rw[beq_eq_false_iff_ne];exact h0
 have e1:(e.Kind==1)=false:=by rw[beq_eq_false_iff_ne];exact h1
 have e2:(e.Kind==2)=false:=by rw[beq_eq_false_iff_ne];exact h2
 have e3:(e.Kind==3)=false:=by rw[beq_eq_false_iff_ne];exact h3
 rw[e0,e1,e2,e3]
 have:(decide (0≤e.Kind)&&decide (e.Kind≤3))=false:=by
  by_cases h:0≤e.Kind
  ·rw[decide_eq_false (show ¬ e.Kind≤3 by omega)];simp
  ·rw[decide_eq_false h];rfl
 rw[this]
 rfl
theorem fits_len{e:Eo}{n:Nat}(h:Kb e n=true):e.To.length≤2:=by
 unfold Kb kindB at h;simp only[Bool.and_eq_true,decide_eq_true_eq]at h;obtain⟨⟨⟨h0,h1⟩,h2⟩,_⟩:=h
 have:wantK e.Kind≤2:=by
  have:e.Kind=0∨e.Kind=1∨e.Kind=2∨e.Kind=3:=by omega
  rcases this with h|h|h|h<;>rw[h]<;>decide
 omega
theorem fits_to{e:Eo}{n:Nat}(h:Kb e n=true):toB n e.To=true:=by unfold Kb at h;exact(Bool.and_eq_true _ _▸h).2
def Ka(f:TFunc)(i:Nat):Eo:=(f.Blocks.getD i (default:Ab)).End
def Eh(f:TFunc):List (List Int):=(List.range f.Blocks.length).map fun i=>V6 (Ka f i).To
def Ku(f:TFunc):Bool:=(decide (1≤f.Blocks.length)&&decide (f.Blocks.length≤64))&&(List.range f.Blocks.length).all fun i=>Kb (Ka f i) f.Blocks.length
theorem shape_iff{f:TFunc}:Ku f=true↔(1≤f.Blocks.length∧f.Blocks.length≤64)∧∀ i,i<f.Blocks.length→Kb (Ka f i) f.Blocks.length=true:=by
 unfold Ku;rw[Bool.and_eq_true,Bool.and_eq_true,all_range];simp only[decide_eq_true_eq]
theorem rise_ok{f:TFunc}{i:Nat}(h:Kb (Ka f i) f.Blocks.length=true):okL f.Blocks.length (V6 (Ka f i).To)=true:=by
 obtain⟨h1,h2⟩:=rise_spec (Ka f i).To;exact okL_of (fun x hx=>by have:=(toB_iff.1 (fits_to h)) x ((h2 x).1 hx);omega) h1
theorem Oi{f:TFunc}(h:Ku f=true):Jm (Eh f)=true:=by
 obtain⟨⟨h1,h2⟩,h3⟩:=shape_iff.1 h
 have hl:(Eh f).length=f.Blocks.length:=by simp[Eh]
 refine mayS_iff.2 ⟨by omega,by omega,fun i hi=>?_⟩;rw[hl]at hi ⊢;unfold Eh;rw[Oy hi];exact rise_ok (h3 i hi)
theorem m_of(f:TFunc)(hf:f.Blocks.length≤maxLen):Kj f=some (bif Ku f then(Ru (Eh f),0) else(g0,5)):=by
 have hroom:(1000:Nat)≤room:=by decide
 unfold Kj;rw[X1,Option.bind_some];have hsh:Ku f=((decide (1≤f.Blocks.length)&&decide (f.Blocks.length≤64))&&(List.range f.Blocks.length).all fun i=>Kb (Ka f i) f.Blocks.length):=rfl
 cases hc:(decide (1≤f.Blocks.length)&&decide (f.Blocks.length≤64)) with
 | false=>rw[hsh,hc];rfl
 | true=>
  have hc':=hc;simp only[Bool.and_eq_true,decide_eq_true_eq]at hc';simp only[Bool.not_true,cond_false];rw[Ai ⟨by omega,Int.le_refl _,by omega⟩,A6]
  let U:Nat→List (List Int):=fun i=>(List.range f.Blocks.length).map fun j=>if j<i then V6 (Ka f j).To else[]
  have e0:List.replicate f.Blocks.length ([]:List Int)=U 0:=by
   simp only[U]
   apply List.ext_getElem?
   intro j
   by_cases hj:j<f.Blocks.length<;>simp[hj,List.getElem?_replicate]
  have eN:U f.Blocks.length=Eh f:=by
   simp only[U,Eh]
   apply L0
   intro j hj;rw[if_pos hj]
  rw[e0]
  have hstep:∀ i:Nat,i<f.Blocks.length→Dw f ((i:Int),U i)=bif Kb (Ka f i) f.Blocks.length then some (.next (((i+1:Nat):Int),U (i+1))) else some (.done (.inr (g0,5))):=fun i hi=>by
   unfold Dw;simp only[Gi hi,cond_true,A6];rw[Ai (Id hi)];have he:(⟨(f.Blocks.getD i (default:Ab)).End.Kind,(f.Blocks.getD i (default:Ab)).End.Arg,(f.Blocks.getD i (default:Ab)).End.To⟩:Eo)=Ka f i:=rfl;rw[he,m_endFits,Option.bind_some]
   cases hfit:Kb (Ka f i) f.Blocks.length with
   | false=>rfl
   | true=>
    have hl2:=fits_len hfit;simp only[Bool.not_true,cond_false,cond_true]
    have hx:Rs (f.Blocks.getD i (default:Ab)).End.To=some (V6 (Ka f i).To):=by
     unfold Rs;rw[Ai (by show(Ka f i).To.length≤_;omega)]
     rfl
    rw[hx,Option.bind_some,Ai (Id (by simp[U];omega)),w1 (by omega)]
    congr 3
    simp only[U];rw[Zx]
    apply L0
    intro j hj
    by_cases h1:j=i
    ·subst h1;rw[if_pos rfl,if_pos (by omega)]
    ·rw[if_neg h1]
     by_cases h2:j<i
     ·rw[if_pos h2,if_pos (by omega)]
     ·rw[if_neg h2,if_neg (by omega)]
  have:=J8 (Dw f) (fun i=>(((i:Nat):Int),U i)) (fun i=>Kb (Ka f i) f.Blocks.length) (.inl (U f.Blocks.length)) (.inr (g0,5)) f.Blocks.length (fun i hi hp=>?_) (fun i hi hp=>?_) ?_
  ·rw[show Ak (Dw f) ((0:Int),U 0)=_ from this,hsh,hc,eN,Bool.true_and]
   cases hall:(List.range f.Blocks.length).all fun i=>Kb (Ka f i) f.Blocks.length with
   | false=>rfl
   | true=>
    simp only[cond_true,Option.bind_some];rw[m_comers _ (Oi (by rw[hsh,hc,hall];rfl))]
    rfl
  ·show Dw f (_,_)=_
   rw[hstep i hi,hp];rfl
  ·show Dw f (_,_)=_
   rw[hstep i hi,hp];rfl
  ·show Dw f (_,_)=_
   unfold Dw;simp only[K4,cond_false]
inductive Rc (S:Nat→List Nat) (r:Nat):Nat→Prop
 | root:Rc S r r
 | step {x y:Nat} (h:Rc S r x) (hy:y∈S x):Rc S r y
inductive Av (S:Nat→List Nat) (r z:Nat):Nat→Prop
 | root (h:r≠z):Av S r z r
 | step {x y:Nat} (h:Av S r z x) (hy:y∈S x) (hz:y≠z):Av S r z y
inductive AvN (S:Nat→List Nat) (r z:Nat):Nat→Nat→Prop
 | root (h:r≠z) (k:Nat):AvN S r z k r
 | step {k x y:Nat} (h:AvN S r z k x) (hy:y∈S x) (hz:y≠z):AvN S r z (k+1) y
section
variable {S:Nat→List Nat} {r:Nat}
theorem rc_iff{x:Nat}:Rc S r x↔Rch S r x:=by
 constructor
 ·intro h
  induction h with
  | root=>exact .refl _
  | step _ hy ih=>exact ih.tail hy
 ·intro h
  have key:∀ a b,Rch S a b→Rc S r a→Rc S r b:=by
   intro a b hab
   induction hab with
   | refl x=>exact id
   | head hy _ ih=>exact fun ha=>ih (.step ha hy)
  exact key _ _ h .root
def wo(S:Nat→List Nat)(z:Nat):Nat→List Nat:=fun x=>(S x).filter fun y=>decide (y≠z)
theorem av_iff{z x:Nat}:Av S r z x↔r≠z∧Rch (wo S z) r x:=by
 constructor
 ·intro h
  induction h with
  | root h=>exact⟨h,.refl _⟩
  | step _ hy hz ih=>exact⟨ih.1,ih.2.tail (List.mem_filter.2 ⟨hy,by simpa using hz⟩)⟩
 ·rintro⟨hr,h⟩
  have key:∀ a b,Rch (wo S z) a b→Av S r z a→Av S r z b:=by
   intro a b hab
   induction hab with
   | refl x=>exact id
   | head hy _ ih=>
    obtain⟨h1,h2⟩:=List.mem_filter.1 hy;exact fun ha=>ih (.step ha h1 (by simpa using h2))
  exact key _ _ h (.root hr)
theorem Av.rc{z x:Nat}(h:Av S r z x):Rc S r x:=by
 induction h with
 | root _=>exact .root
 | step _ hy _ ih=>exact .step ih hy
theorem Av.ne{z x:Nat}(h:Av S r z x):x≠z:=by
 cases h with
 | root h=>exact h
 | step _ _ hz=>exact hz
theorem AvN.av{z k x:Nat}(h:AvN S r z k x):Av S r z x:=by
 induction h with
 | root h=>exact .root h
 | step _ hy hz ih=>exact .step ih hy hz
theorem AvN.up{z k x:Nat}(h:AvN S r z k x):AvN S r z (k+1) x:=by
 induction h with
 | root h k=>exact .root h _
 | step _ hy hz ih=>exact .step ih hy hz
theorem AvN.mono{z k m x:Nat}(h:AvN S r z k x)(hm:k≤m):AvN S r z m x:=by
 obtain⟨d,rfl⟩:=Nat.exists_eq_add_of_le hm;clear hm
 induction d with
 | zero=>exact h
 | succ d ih=>exact ih.up
theorem Av.avn{z x:Nat}(h:Av S r z x):∃ k,AvN S r z k x:=by
 induction h with
 | root h=>exact⟨0,.root h 0⟩
 | step _ hy hz ih=>obtain⟨k,hk⟩:=ih;exact⟨k+1,.step hk hy hz⟩
theorem AvN.via {z k x : Nat} (h : AvN S r z k x) (y : Nat) : AvN S r y k x ∨ AvN S r z k y := by
  induction h with
  | root h k => by_cases hy : r = y
                · subst hy; exact .inr (.root h _)
                · exact .inl (.root hy _)
  | @step k x w h hy hz ih =>
    rcases ih with h1 | h1
    · by_cases hw : w = y
      · subst hw; exact .inr (.step h hy hz)
      · exact .inl (.step h1 hy hw)
    · exact .inr h1.up
theorem avn_bound(n:Nat):∃ K,∀ z,z<n→∀ x,x<n→Av S r z x→AvN S r z K x:=by
 have one:∀ z m,∃ K,∀ x,x<m→Av S r z x→AvN S r z K x:=by
  intro z m
  induction m with
  | zero=>exact⟨0,fun x hx=>absurd hx (Nat.not_lt_zero x)⟩
  | succ m ih=>
   obtain⟨K,hK⟩:=ih
   by_cases h:Av S r z m
   ·obtain⟨k,hk⟩:=h.avn;refine⟨max K k,fun x hx ha=>?_⟩;rcases Nat.lt_succ_iff_lt_or_eq.1 hx with h1|rfl
    ·exact(hK x h1 ha).mono (Nat.le_max_left ..)
    ·exact hk.mono (Nat.le_max_right ..)
   ·refine⟨K,fun x hx ha=>?_⟩;rcases Nat.lt_succ_iff_lt_or_eq.1 hx with h1|rfl
    ·exact hK x h1 ha
    ·exact absurd ha h
 have two:∀ m,∃ K,∀ z,z<m→∀ x,x<n→Av S r z x→AvN S r z K x:=by
  intro m
  induction m with
  | zero=>exact⟨0,fun x hx=>absurd hx (Nat.not_lt_zero x)⟩
  | succ m ih=>
   obtain⟨K,hK⟩:=ih;obtain⟨k,hk⟩:=one m n;refine⟨max K k,fun z hz x hx ha=>?_⟩;rcases Nat.lt_succ_iff_lt_or_eq.1 hz with h1|rfl
   ·exact(hK z h1 x hx ha).mono (Nat.le_max_left ..)
   ·exact(hk x hx ha).mono (Nat.le_max_right ..)
 exact two n
end
inductive UpTo (par:Nat→Int):Nat→Nat→Prop
 | refl (x:Nat):UpTo par x x
 | up {x y z:Nat} (h:par x=(y:Int)) (t:UpTo par y z):UpTo par x z
inductive Fw (S:Nat→List Nat) (at_:Nat→Nat) (u:Nat):Nat→Prop
 | refl:Fw S at_ u u
 | step {v w:Nat} (h:Fw S at_ u v) (hw:w∈S v) (hl:at_ v<at_ w):Fw S at_ u w
section
variable {S:Nat→List Nat} {at_:Nat→Nat} {par:Nat→Int}
theorem Fw.le{u w:Nat}(h:Fw S at_ u w):at_ u≤at_ w:=by
 induction h with
 | refl=>exact Nat.le_refl _
 | step _ _ hl ih=>omega
theorem Fw.trans{u v w:Nat}(h:Fw S at_ u v)(k:Fw S at_ v w):Fw S at_ u w:=by
 induction k with
 | refl=>exact h
 | step _ hw hl ih=>exact .step ih hw hl
theorem Fw.av{r d u w:Nat}(h:Fw S at_ u w)(ha:Av S r d u)(hd:at_ d<at_ u):Av S r d w:=by
 induction h with
 | refl=>exact ha
 | @step v w h hw hl ih=>exact .step ih hw (by rintro rfl;have:=h.le;omega)
theorem UpTo.trans{x y z:Nat}(h:UpTo par x y)(k:UpTo par y z):UpTo par x z:=by
 induction h with
 | refl x=>exact k
 | up h _ ih=>exact .up h (ih k)
theorem anc_up{x p z:Nat}(h:par x=(p:Int)):UpTo par x z↔z=x∨UpTo par p z:=by
 constructor
 ·intro k
  cases k with
  | refl=>exact .inl rfl
  | up h' t=>rw[h]at h';cases Int.ofNat.inj h';exact .inr t
 ·rintro(rfl|k)
  ·exact .refl _
  ·exact .up h k
theorem T3{x z:Nat}(h:∀ p:Nat,par x≠(p:Int)):UpTo par x z↔z=x:=by
 constructor
 ·intro k
  cases k with
  | refl=>rfl
  | up h' t=>exact absurd h' (h _)
 ·rintro rfl;exact .refl _
structure Inv(S:Nat→List Nat)(r n:Nat)(at_:Nat→Nat)(par:Nat→Int):Prop where
 top:par r = -1
 kind:∀ x,x<n→par x = -2∨x=r∨∃ z:Nat,par x=(z:Int)
 up:∀ x,x<n→∀ z:Nat,par x=(z:Int)→z<n∧par z≠-2∧at_ z<at_ x∧Fw S at_ z x
 rc:∀ x,x<n→par x≠-2→Rc S r x
 all:∀ x,x<n→par x≠-2→∀ d,¬ UpTo par x d→Av S r d x
end
section
variable {S:Nat→List Nat} {at_:Nat→Nat} {par:Nat→Int} {r n:Nat}
theorem Inv.anc(h:Inv S r n at_ par){x z:Nat}(k:UpTo par x z)(hx:x<n)(hp:par x≠-2):z<n∧par z≠-2∧at_ z≤at_ x∧Fw S at_ z x:=by
 induction k with
 | refl x=>exact⟨hx,hp,Nat.le_refl _,.refl⟩
 | @up x y z hxy t ih=>
  obtain⟨h1,h2,h3,h4⟩:=h.up x hx y hxy;obtain⟨i1,i2,i3,i4⟩:=ih h1 h2;exact⟨i1,i2,by omega,i4.trans h4⟩
theorem Inv.root_anc(h:Inv S r n at_ par){z:Nat}:UpTo par r z↔z=r:=T3 fun p hp=>by rw[h.top]at hp;omega
theorem Inv.strict(h:Inv S r n at_ par){x z:Nat}(k:UpTo par x z)(hx:x<n)(hp:par x≠-2):z=x∨at_ z<at_ x:=by
 cases k with
 | refl=>exact .inl rfl
 | up hxy t=>
  obtain⟨h1,h2,h3,h4⟩:=h.up x hx _ hxy;obtain⟨i1,i2,i3,i4⟩:=h.anc t h1 h2;exact .inr (by omega)
theorem Inv.antisymm(h:Inv S r n at_ par){x z:Nat}(k:UpTo par x z)(m:UpTo par z x)(hx:x<n)(hp:par x≠-2):z=x:=by
 rcases h.strict k hx hp with rfl|h1
 ·rfl
 ·obtain⟨i1,i2,i3,i4⟩:=h.anc k hx hp;have:=(h.anc m i1 i2).2.2.1;omega
def MeetAt(par:Nat→Int)(a b m:Nat):Prop:=∀ w,UpTo par m w↔UpTo par a w∧UpTo par b w
theorem X2{a:Nat}:MeetAt par a a a:=fun w=>by simp
theorem meet_swap{a b m:Nat}(h:MeetAt par a b m):MeetAt par b a m:=fun w=>by rw[h w];exact And.comm
theorem Inv.meet_left(h:Inv S r n at_ par)(hinj:∀ x y,x<n→y<n→par x≠-2→par y≠-2→at_ x=at_ y→x=y){a b p m:Nat}(ha:a<n)(hpa:par a≠-2)(hb:b<n)(hpb:par b≠-2)(hab:a≠b)(hl:at_ b≤at_ a)(hp:par a=(p:Int))(k:MeetAt par p b m):MeetAt par a b m:=fun w=>by
 rw[k w]
 constructor
 ·rintro⟨h1,h2⟩;exact⟨.up hp h1,h2⟩
 ·rintro⟨h1,h2⟩;rcases(anc_up hp).1 h1 with rfl|h1
  ·exfalso
   rcases h.strict h2 hb hpb with h3|h3
   ·exact hab h3
   ·omega
  ·exact⟨h1,h2⟩
end
section
variable {S:Nat→List Nat} {at_:Nat→Nat} {par:Nat→Int} {r n:Nat}
def Is(par:Nat→Int)(y:Nat)(v:Int):Nat→Int:=fun x=>if x=y then v else par x
def Best(S:Nat→List Nat)(n:Nat)(par:Nat→Int)(y z:Nat):Prop:=∀ w,UpTo par z w↔∀ p,p<n→y∈S p→par p≠-2→UpTo par p w
theorem Sv{y:Nat}{v:Int}{x z:Nat}(k:UpTo par x z)(hy:¬ UpTo par x y):UpTo (Is par y v) x z:=by
 induction k with
 | refl x=>exact .refl _
 | @up x q z h t ih=>
  have hxy:x≠y:=by rintro rfl;exact hy (.refl _)
  refine .up (y:=q) ?_ (ih fun k=>hy (.up h k));unfold Is;rw[if_neg hxy];exact h
theorem anc_upd_low{y:Nat}{v:Int}{x:Nat}(k:UpTo par x y):UpTo (Is par y v) x y:=by
 induction k with
 | refl x=>exact .refl _
 | @up x q z h t ih=>
  by_cases hxy:x=z
  ·subst hxy;exact .refl _
  ·refine .up (y:=q) ?_ ih;unfold Is;rw[if_neg hxy];exact h
theorem anc_upd_inv{y:Nat}{v:Int}{x w:Nat}(k:UpTo (Is par y v) x w):UpTo par x w∨(UpTo par x y∧UpTo (Is par y v) y w):=by
 induction k with
 | refl x=>exact .inl (.refl _)
 | @up x q w h t ih=>
  by_cases hxy:x=y
  ·subst hxy;exact .inr ⟨.refl _,.up h t⟩
  ·unfold Is at h;rw[if_neg hxy]at h;rcases ih with h1|⟨h1,h2⟩
   ·exact .inl (.up h h1)
   ·exact .inr ⟨.up h h1,h2⟩
theorem low_or{y:Nat}{v:Int}{x d:Nat}(k:UpTo par x y)(hd:UpTo par x d):UpTo par y d∨UpTo (Is par y v) x d:=by
 induction k with
 | refl x=>exact .inl hd
 | @up x q y hq t ih=>
  by_cases e:x=y
  ·subst e;exact .inl hd
  ·rcases(anc_up hq).1 hd with rfl|k
   ·exact .inr (.refl _)
   ·rcases ih k with h1|h1
    ·exact .inl h1
    ·exact .inr (.up (y:=q) (by unfold Is;rw[if_neg e];exact hq) h1)
structure Better(S:Nat→List Nat)(r n:Nat)(at_:Nat→Nat)(par:Nat→Int)(y z:Nat):Prop where
 inv:Inv S r n at_ par
 hy:y<n
 hr:y≠r
 hz:z<n
 best:Best S n par y z
 fwd:∃ p,p<n∧y∈S p∧par p≠-2∧at_ p<at_ y
variable {y z:Nat}
theorem Better.zlt(h:Better S r n at_ par y z):UpTo par z z∧par z≠-2∧at_ z<at_ y∧Fw S at_ z y:=by
 obtain⟨p,hp,hyp,hpp,hl⟩:=h.fwd;obtain⟨h1,h2,h3,h4⟩:=h.inv.anc ((h.best z).1 (.refl _) p hp hyp hpp) hp hpp;exact⟨.refl _,h2,by omega,.step h4 hyp hl⟩
theorem Better.above(h:Better S r n at_ par y z){w:Nat}:UpTo (Is par y z) z w↔UpTo par z w:=by
 obtain⟨_,h2,h3,_⟩:=h.zlt
 have hn:¬ UpTo par z y:=fun k=>by have:=(h.inv.anc k h.hz h2).2.2.1;omega
 constructor
 ·intro k;rcases anc_upd_inv k with h1|⟨h1,_⟩
  ·exact h1
  ·exact absurd h1 hn
 ·intro k;exact Sv k hn
theorem Better.here(h:Better S r n at_ par y z){w:Nat}:UpTo (Is par y z) y w↔w=y∨UpTo par z w:=by
 rw[anc_up (p:=z) (by simp[Is]),h.above]
theorem Better.av_here(h:Better S r n at_ par y z){d:Nat}(hd:¬ UpTo (Is par y z) y d):Av S r d y:=by
 rw[h.here]at hd;have h1:¬ ∀ p,p<n→y∈S p→par p≠-2→UpTo par p d:=fun hh=>hd (.inr ((h.best d).2 hh));simp only[Classical.not_forall]at h1;obtain⟨p,hp,hyp,hpp,hnp⟩:=h1;exact .step (h.inv.all p hp hpp d hnp) hyp fun e=>hd (.inl e.symm)
theorem Better.inv'(h:Better S r n at_ par y z):Inv S r n at_ (Is par y z):=by
 obtain⟨hzz,hz2,hzl,hzf⟩:=h.zlt;obtain⟨p,hp,hyp,hpp,hl⟩:=h.fwd
 have hne:∀ x,Is par y z x≠-2→x=y∨par x≠-2:=fun x hx=>by
  by_cases e:x=y
  ·exact .inl e
  ·unfold Is at hx;rw[if_neg e]at hx;exact .inr hx
 have hyv:Is par y z y=(z:Int):=by simp[Is]
 have hyo:∀ x,x≠y→Is par y z x=par x:=fun x e=>by unfold Is;rw[if_neg e]
 refine⟨by rw[hyo _ (Ne.symm h.hr)];exact h.inv.top,fun x hx=>?_,fun x hx w hw=>?_,fun x hx hxp=>?_,fun x hx hxp d hd=>?_⟩
 ·by_cases e:x=y
  ·subst e;exact .inr (.inr ⟨z,hyv⟩)
  ·rw[hyo x e];exact h.inv.kind x hx
 ·have hzn:∀ w,par w≠-2→Is par y z w≠-2:=fun w hw=>by
   by_cases e:w=y
   ·subst e;rw[hyv];omega
   ·rw[hyo w e];exact hw
  by_cases e:x=y
  ·subst e;rw[hyv]at hw
   cases Int.ofNat.inj hw
   exact⟨h.hz,hzn _ hz2,hzl,hzf⟩
  ·rw[hyo x e]at hw;obtain⟨h1,h2,h3,h4⟩:=h.inv.up x hx w hw;exact⟨h1,hzn _ h2,h3,h4⟩
 ·rcases hne x hxp with rfl|h1
  ·exact .step (h.inv.rc p hp hpp) hyp
  ·exact h.inv.rc x hx h1
 ·by_cases e:x=y
  ·subst e;exact h.av_here hd
  ·rw[hyo x e]at hxp
   by_cases hxd:UpTo par x d
   ·
    by_cases hxy:UpTo par x y
    ·have hyd:¬ UpTo (Is par y z) y d:=fun k=>hd ((anc_upd_low hxy).trans k);have hav:=h.av_here hyd;have hf:=(h.inv.anc hxy hx hxp).2.2.2
     have hdy:UpTo par y d:=by
      rcases low_or (v:=(z:Int)) hxy hxd with h1|h1
      ·exact h1
      ·exact absurd h1 hd
     by_cases hpy:par y = -2
     ·
      have:d=y:=by
       refine(T3 (par:=par) fun p hp=>?_).1 hdy;rw[hpy]at hp;omega
      subst this;exact absurd (.refl _) hyd
     ·rcases h.inv.strict hdy h.hy hpy with rfl|hlt
      ·exact absurd (.refl _) hyd
      ·exact hf.av hav hlt
    ·exact absurd (Sv hxd hxy) hd
   ·exact h.inv.all x hx hxp d hxd
end
section
variable {S:Nat→List Nat} {at_:Nat→Nat} {par:Nat→Int} {r n:Nat}
def QB(S:Nat→List Nat)(r n:Nat)(par:Nat→Int)(b:Nat→Nat):Prop:=∀ x,x<n→par x≠-2→∀ z,AvN S r z (b x) x→¬ UpTo par x z
def Full(S:Nat→List Nat)(r n:Nat)(par:Nat→Int):Prop:=∀ x,x<n→Rc S r x→par x≠-2
def Exact(S:Nat→List Nat)(r n:Nat)(par:Nat→Int):Prop:=∀ x,x<n→par x≠-2→∀ d,UpTo par x d↔¬ Av S r d x
theorem qb_zero(h:Inv S r n at_ par):QB S r n par fun _=>0:=fun x hx hp z hz k=>by
 cases hz with
 | root hr _=>exact hr (h.root_anc.1 k).symm
theorem rc_lt(hS:∀ x,x<n→∀ w∈S x,w<n)(hr:r<n){x:Nat}(h:Rc S r x):x<n:=by
 induction h with
 | root=>exact hr
 | step _ hy ih=>exact hS _ ih _ hy
theorem Better.qb{y z k:Nat}{b:Nat→Nat}(h:Better S r n at_ par y z)(hS:∀ x,x<n→∀ w∈S x,w<n)(hrn:r<n)(full:Full S r n par)(hb:∀ x,x<n→k≤b x∧b x≤k+1)(q:QB S r n par b) :
  QB S r n (Is par y z) fun x=>if x=y then k+1 else b x:=by
 have here:∀ w,AvN S r w (k+1) y→¬ UpTo (Is par y z) y w:=fun w hw hu=>by
  rcases h.here.1 hu with rfl|hu
  ·exact hw.av.ne rfl
  ·cases hw with
   | root hr _=>exact h.hr rfl
   | @step _ p _ hp hyp hne=>
    have hpn:=rc_lt hS hrn hp.av.rc;have hpp:=full p hpn hp.av.rc;exact q p hpn hpp w (hp.mono (hb p hpn).1) ((h.best w).1 hu p hpn hyp hpp)
 intro x hx hxp w hw hu
 dsimp only at hw
 by_cases e:x=y
 ·subst e;rw[if_pos rfl]at hw;exact here w hw hu
 ·rw[if_neg e]at hw;unfold Is at hxp;rw[if_neg e]at hxp;rcases anc_upd_inv hu with h1|⟨h1,h2⟩
  ·exact q x hx hxp w hw h1
  ·rcases hw.via y with h3|h3
   ·exact q x hx hxp y h3 h1
   ·exact here w (h3.mono (hb x hx).2) h2
theorem exact_of(h:Inv S r n at_ par){K:Nat}(hK:∀ z,z<n→∀ x,x<n→Av S r z x→AvN S r z K x)(q:QB S r n par fun _=>K):Exact S r n par:=fun x hx hp d=>by
 constructor
 ·intro hu ha;exact q x hx hp d (hK d (h.anc hu hx hp).1 x hx ha) hu
 ·intro ha;exact Classical.byContradiction fun hn=>ha (h.all x hx hp d hn)
theorem Better.same{y z:Nat}(h:Better S r n at_ par y z)(hS:∀ x,x<n→∀ w∈S x,w<n)(hrn:r<n)(full:Full S r n par)(hy2:par y≠-2)(ex:Exact S r n par):par y=(z:Int):=by
 obtain⟨hzz,hz2,hzl,hzf⟩:=h.zlt;rcases h.inv.kind y h.hy with h1|h1|⟨q,hq⟩
 ·exact absurd h1 hy2
 ·exact absurd h1 h.hr
 ·obtain⟨q1,q2,q3,q4⟩:=h.inv.up y h.hy q hq
  have key:∀ w,UpTo par z w↔UpTo par q w:=fun w=>by
   rw[h.best w]
   constructor
   ·intro hall
    have hwy:¬ Av S r w y:=fun ha=>by
     cases ha with
     | root _=>exact h.hr rfl
     | @step p _ hp hyp hne=>
      have hpn:=rc_lt hS hrn hp.rc;have hpp:=full p hpn hp.rc;exact(ex p hpn hpp w).1 (hall p hpn hyp hpp) hp
    rcases(anc_up hq).1 ((ex y h.hy hy2 w).2 hwy) with rfl|hu
    ·have:=(h.inv.anc ((h.best _).2 hall) h.hz hz2).2.2.1;omega
    ·exact hu
   ·intro hu p hp hyp hpp;have hwy:UpTo par y w:=.up hq hu;refine(ex p hp hpp w).2 fun ha=>?_
    have hne:y≠w:=by rintro rfl;have:=(h.inv.anc hu q1 q2).2.2.1;omega
    exact(ex y h.hy hy2 w).1 hwy (.step ha hyp hne)
  have:=h.inv.antisymm ((key q).2 (.refl _)) ((key z).1 (.refl _)) h.hz hz2;rw[hq,this]
theorem exact_fix(h:Inv S r n at_ par)(hS:∀ x,x<n→∀ w∈S x,w<n)(hrn:r<n)(full:Full S r n par)(fix:∀ y,y<n→y≠r→Rc S r y→∃ z:Nat,par y=(z:Int)∧Best S n par y z):Exact S r n par:=fun x hx hp d=>by
 constructor
 ·intro hu ha
  induction ha with
  | root hne=>exact hne (h.root_anc.1 hu).symm
  | @step p y hp' hyp hne ih=>
   have hpn:=rc_lt hS hrn hp'.rc;have hpp:=full p hpn hp'.rc
   by_cases e:y=r
   ·subst e;exact hne (h.root_anc.1 hu).symm
   ·obtain⟨z,hz,hb⟩:=fix y hx e (.step hp'.rc hyp);rcases(anc_up hz).1 hu with rfl|hu
    ·exact hne rfl
    ·exact ih hpn hpp ((hb d).1 hu p hpn hyp hpp)
 ·intro ha;exact Classical.byContradiction fun hn=>ha (h.all x hx hp d hn)
end
def A7(t:List Int):Nat→Int:=fun x=>t.getD x 0
theorem parL_set{t:List Int}{y:Nat}{v:Int}(hy:y<t.length):A7 (t.set y v)=Is (A7 t) y v:=by
 funext x
 unfold A7 Is
 by_cases e:x=y
 ·subst e;simp[List.getD,hy]
 ·simp[List.getD,e,Ne.symm e]
open Classical in
def H3(S:Nat→List Nat)(n:Nat)(t:List Int)(y:Nat):Nat:=if h:∃ z,z<n∧Best S n (A7 t) y z then Classical.choose h else 0
def Nq(S:Nat→List Nat)(n:Nat)(P:List Nat)(t:List Int):Nat→List Int
 | 0=>t
 | i+1=>(Nq S n P t i).set (P.getD i 0) (H3 S n (Nq S n P t i) (P.getD i 0):Int)
def Ug(S:Nat→List Nat)(n:Nat)(P:List Nat)(t:List Int):Nat→List Int
 | 0=>t
 | j+1=>Nq S n P (Ug S n P t j) P.length
def Ei(n r:Nat):List Int:=(List.replicate n (-2:Int)).set r (-1)
structure Ordered(S:Nat→List Nat)(r n:Nat)(P:List Nat):Prop where
 hr:r<n
 hS:∀ x,x<n→∀ w∈S x,w<n
 nodup:(r::P).Nodup
 mem:∀ x,x∈r::P↔Rc S r x
 fwd:∀ i,i<P.length→∃ p,p∈r::P.take i∧P.getD i 0∈S p
section
variable {S:Nat→List Nat} {r n:Nat} {P:List Nat}
theorem Ordered.lt(o:Ordered S r n P){x:Nat}(h:x∈r::P):x<n:=rc_lt o.hS o.hr ((o.mem x).1 h)
theorem J7{i:Nat}(hi:i<P.length):P.getD i 0∈P:=by rw[Ad _ _ _ hi];exact List.getElem_mem hi
theorem Ordered.at_lt(o:Ordered S r n P){i:Nat}(hi:i<P.length){p:Nat}(hp:p∈r::P.take i):pos (r::P) p<pos (r::P) (P.getD i 0):=by
 have hd:=o.nodup
 have h1:pos (r::P) (P.getD i 0)=i+1:=by
  have:=(Uf hd (i:=i+1) (by simpa using hi)).2;rw[Ad _ _ _ hi]
  simpa using this
 rw[h1];obtain⟨j,hj,rfl⟩:=List.getElem_of_mem hp
 have hj':j<i+1:=by simp at hj;omega
 have hjl:j<(r::P).length:=by simp;omega
 have e:(r::P.take i)[j]=(r::P)[j]:=by
  cases j with
  | zero=>rfl
  | succ j=>simp
 rw[e,(Uf hd hjl).2];exact hj'
theorem inv0(o:Ordered S r n P):Inv S r n (pos (r::P)) (A7 (Ei n r))∧(Ei n r).length=n∧A7 (Ei n r) r≠-2:=by
 have hlen:(Ei n r).length=n:=by simp[Ei]
 have hr:=o.hr
 have at_:∀ x,x<n→A7 (Ei n r) x=if x=r then -1 else -2:=fun x hx=>by
  unfold A7 Ei
  by_cases e:x=r
  ·subst e;simp[List.getD,hx]
  ·simp[List.getD,hx,e,Ne.symm e]
 have hno:∀ x,x<n→∀ p:Nat,A7 (Ei n r) x≠(p:Int):=fun x hx p hp=>by rw[at_ x hx]at hp;split at hp<;>omega
 refine⟨⟨by rw[at_ r hr,if_pos rfl],fun x hx=>?_,fun x hx z hz=>absurd hz (hno x hx z),fun x hx hp=>?_,fun x hx hp d hd=>?_⟩,hlen,by rw[at_ r hr,if_pos rfl];omega⟩
 ·by_cases e:x=r
  ·exact .inr (.inl e)
  ·exact .inl (by rw[at_ x hx,if_neg e])
 ·by_cases e:x=r
  ·subst e;exact .root
  ·exact absurd (by rw[at_ x hx,if_neg e]) hp
 ·by_cases e:x=r
  ·subst e;exact .root (fun e=>hd (by rw[e];exact .refl _))
  ·exact absurd (by rw[at_ x hx,if_neg e]) hp
structure Ready(S:Nat→List Nat)(r n:Nat)(P:List Nat)(t:List Int)(i:Nat):Prop where
 inv:Inv S r n (pos (r::P)) (A7 t)
 len:t.length=n
 done:∀ x∈r::P.take i,A7 t x≠-2
theorem Inv.meets{at_:Nat→Nat}{par:Nat→Int}(h:Inv S r n at_ par)(hinj:∀ x y,x<n→y<n→par x≠-2→par y≠-2→at_ x=at_ y→x=y)(hr:at_ r=0):∀ m a b,at_ a+at_ b≤m→a<n→b<n→par a≠-2→par b≠-2→∃ c,MeetAt par a b c∧c<n∧par c≠-2:=by
 intro m
 induction m with
 | zero=>
  intro a b hm ha hb hpa hpb;have:a=b:=hinj a b ha hb hpa hpb (by omega);subst this;exact⟨a,X2,ha,hpa⟩
 | succ m ih=>
  have go:∀ a b,at_ a+at_ b≤m+1→a<n→b<n→par a≠-2→par b≠-2→at_ b≤at_ a→∃ c,MeetAt par a b c∧c<n∧par c≠-2:=fun a b hm ha hb hpa hpb hl=>by
   by_cases e:a=b
   ·subst e;exact⟨a,X2,ha,hpa⟩
   ·rcases h.kind a ha with h1|h1|⟨p,hp⟩
    ·exact absurd h1 hpa
    ·subst h1;exact absurd (hinj a b ha hb hpa hpb (by omega)) e
    ·obtain⟨p1,p2,p3,p4⟩:=h.up a ha p hp;obtain⟨c,hc,hc2⟩:=ih p b (by omega) p1 hb p2 hpb;exact⟨c,h.meet_left hinj ha hpa hb hpb e hl hp hc,hc2⟩
  intro a b hm ha hb hpa hpb;rcases Nat.le_total (at_ b) (at_ a) with hl|hl
  ·exact go a b hm ha hb hpa hpb hl
  ·obtain⟨c,hc,hc2⟩:=go b a (by omega) hb ha hpb hpa hl;exact⟨c,meet_swap hc,hc2⟩
theorem Ready.inj(o:Ordered S r n P){t:List Int}{i:Nat}(h:Ready S r n P t i):∀ x y,x<n→y<n→A7 t x≠-2→A7 t y≠-2→pos (r::P) x=pos (r::P) y→x=y:=fun x y hx hy hpx hpy he=>by
 have hm:∀ x,x<n→A7 t x≠-2→x∈r::P:=fun x hx hp=>(o.mem x).2 (h.inv.rc x hx hp)
 have back:∀ x∈r::P,(r::P).getD (pos (r::P) x) 0=x:=fun x hx=>by
  obtain⟨j,hj,rfl⟩:=List.getElem_of_mem hx;rw[(Uf o.nodup hj).2,Ad _ _ _ hj]
 rw[← back x (hm x hx hpx),← back y (hm y hy hpy),he]
theorem pos_root:pos (r::P) r=0:=by rw[Vx,if_pos rfl]
theorem Ready.meetAll(o:Ordered S r n P){t:List Int}{i:Nat}(h:Ready S r n P t i):∀ l:List Nat,(∀ p∈l,p<n∧A7 t p≠-2)→l≠[]→∃ z,z<n∧A7 t z≠-2∧∀ w,UpTo (A7 t) z w↔∀ p∈l,UpTo (A7 t) p w:=by
 intro l
 induction l with
 | nil=>intro _ hn;exact absurd rfl hn
 | cons p l ih=>
  intro hl _;obtain⟨hp1,hp2⟩:=hl p (List.mem_cons_self ..)
  by_cases hl0:l=[]
  ·subst hl0;exact⟨p,hp1,hp2,fun w=>by simp⟩
  ·obtain⟨z,hz1,hz2,hz3⟩:=ih (fun q hq=>hl q (List.mem_cons_of_mem _ hq)) hl0;obtain⟨c,hc1,hc2,hc3⟩:=h.inv.meets (h.inj o) pos_root _ p z (Nat.le_refl _) hp1 hz1 hp2 hz2;exact⟨c,hc2,hc3,fun w=>by rw[hc1 w,hz3 w];simp⟩
theorem Ready.best(o:Ordered S r n P){t:List Int}{i:Nat}(h:Ready S r n P t i)(hi:i<P.length):Better S r n (pos (r::P)) (A7 t) (P.getD i 0) (H3 S n t (P.getD i 0)):=by
 have hy:=J7 hi;have hyr:P.getD i 0≠r:=fun e=>(List.nodup_cons.1 o.nodup).1 (e▸hy);have hyn:=o.lt (List.mem_cons_of_mem _ hy);obtain⟨p,hp,hyp⟩:=o.fwd i hi;have hp2:=h.done p hp
 have hpP:p∈r::P:=by
  rcases List.mem_cons.1 hp with rfl|hp
  ·exact List.mem_cons_self ..
  ·exact List.mem_cons_of_mem _ (List.mem_of_mem_take hp)
 have hpn:=o.lt hpP
 have hex:∃ z,z<n∧Best S n (A7 t) (P.getD i 0) z:=by
  classical
  obtain⟨z,hz1,hz2,hz3⟩:=h.meetAll o ((List.range n).filter fun p=>decide (P.getD i 0∈S p∧A7 t p≠-2)) (fun p hp=>by
   obtain⟨h1,h2⟩:=List.mem_filter.1 hp
   exact⟨List.mem_range.1 h1,(of_decide_eq_true h2).2⟩) (fun e=>by
   have:p∈(List.range n).filter fun p=>decide (P.getD i 0∈S p∧A7 t p≠-2):=List.mem_filter.2 ⟨List.mem_range.2 hpn,decide_eq_true ⟨hyp,hp2⟩⟩
   rw[e]at this;cases this)
  refine⟨z,hz1,fun w=>?_⟩;rw[hz3 w]
  constructor
  ·intro k p hp hyp hpp;exact k p (List.mem_filter.2 ⟨List.mem_range.2 hp,decide_eq_true ⟨hyp,hpp⟩⟩)
  ·intro k p hp;obtain⟨h1,h2⟩:=List.mem_filter.1 hp;exact k p (List.mem_range.1 h1) (of_decide_eq_true h2).1 (of_decide_eq_true h2).2
 have hb:H3 S n t (P.getD i 0)<n∧Best S n (A7 t) (P.getD i 0) (H3 S n t (P.getD i 0)):=by
  unfold H3;rw[dif_pos hex];exact Classical.choose_spec hex
 exact⟨h.inv,hyn,hyr,hb.1,hb.2,p,hpn,hyp,hp2,o.at_lt hi hp⟩
theorem Ready.best_eq(o:Ordered S r n P){t:List Int}{i:Nat}(h:Ready S r n P t i)(hi:i<P.length){z:Nat}(hz:z<n)(hz2:A7 t z≠-2)(hb:Best S n (A7 t) (P.getD i 0) z):z=H3 S n t (P.getD i 0):=by
 have b:=h.best o hi;exact(h.inv.antisymm ((hb _).2 ((b.best _).1 (.refl _))) ((b.best _).2 ((hb _).1 (.refl _))) hz hz2).symm
theorem Ready.next(o:Ordered S r n P){t:List Int}{i:Nat}(h:Ready S r n P t i)(hi:i<P.length):Ready S r n P (t.set (P.getD i 0) (H3 S n t (P.getD i 0):Int)) (i+1):=by
 have b:=h.best o hi;have e:=parL_set (t:=t) (y:=P.getD i 0) (v:=(H3 S n t (P.getD i 0):Int)) (by rw[h.len];exact b.hy);refine⟨by rw[e];exact b.inv',by rw[List.length_set];exact h.len,fun x hx=>?_⟩;rw[e];unfold Is
 split
 ·omega
 ·rename_i hne
  refine h.done x ?_;rcases List.mem_cons.1 hx with rfl|hx
  ·exact List.mem_cons_self ..
  ·rw[List.take_succ_eq_append_getElem hi]at hx;rcases List.mem_append.1 hx with hx|hx
   ·exact List.mem_cons_of_mem _ hx
   ·rw[List.mem_singleton,← Ad _ _ 0 hi]at hx;exact absurd hx hne
theorem Ready.more(o:Ordered S r n P){t:List Int}(h:Ready S r n P t P.length)(i:Nat):Ready S r n P t i:=
 ⟨h.inv,h.len,fun x hx=>h.done x (by
  rw[List.take_length];rcases List.mem_cons.1 hx with rfl|hx
  ·exact List.mem_cons_self ..
  ·exact List.mem_cons_of_mem _ (List.mem_of_mem_take hx))⟩
theorem Ready.full(o:Ordered S r n P){t:List Int}(h:Ready S r n P t P.length):Full S r n (A7 t):=fun x hx hr=>h.done x (by rw[List.take_length];exact(o.mem x).2 hr)
theorem Ready.round(o:Ordered S r n P){t:List Int}(h:Ready S r n P t 0):∀ i,i≤P.length→Ready S r n P (Nq S n P t i) i:=by
 intro i
 induction i with
 | zero=>intro _;exact h
 | succ i ih=>intro hi;exact(ih (by omega)).next o (by omega)
theorem ready0(o:Ordered S r n P):Ready S r n P (Ei n r) 0:=by
 obtain⟨h1,h2,h3⟩:=inv0 o;exact⟨h1,h2,fun x hx=>by simp at hx;subst hx;exact h3⟩
theorem Ready.rounds(o:Ordered S r n P):∀ j,Ready S r n P (Ug S n P (Ei n r) j) 0:=by
 intro j
 induction j with
 | zero=>exact ready0 o
 | succ j ih=>exact((ih.round o) P.length (Nat.le_refl _)).more o 0
theorem Ready.rounds'(o:Ordered S r n P)(j:Nat):Ready S r n P (Ug S n P (Ei n r) (j+1)) P.length:=(Ready.rounds o j).round o P.length (Nat.le_refl _)
theorem qb_round(o:Ordered S r n P){t:List Int}{k:Nat}(h:Ready S r n P t P.length)(q:QB S r n (A7 t) fun _=>k):QB S r n (A7 (Nq S n P t P.length)) fun _=>k+1:=by
 have key:∀ i,i≤P.length→QB S r n (A7 (Nq S n P t i)) (fun x=>if x∈P.take i then k+1 else k)∧Full S r n (A7 (Nq S n P t i)):=by
  intro i
  induction i with
  | zero=>intro _;exact⟨by simpa [Nq] using q,h.full o⟩
  | succ i ih=>
   intro hi;obtain⟨q1,f1⟩:=ih (by omega);have rd:=(h.more o 0).round o i (by omega);have b:=rd.best o (by omega);have e:=parL_set (t:=Nq S n P t i) (y:=P.getD i 0) (v:=(H3 S n (Nq S n P t i) (P.getD i 0):Int)) (by rw[rd.len];exact b.hy)
   constructor
   ·show QB S r n (A7 ((Nq S n P t i).set _ _)) _
    rw[e];have:=b.qb (k:=k) o.hS o.hr f1 (fun x _=>by split<;>omega) q1;intro x hx hp z hz;refine this x hx hp z ?_
    dsimp only at hz ⊢
    rw[List.take_succ_eq_append_getElem (by omega:i<P.length)]at hz
    by_cases e1:x=P.getD i 0
    ·rw[if_pos e1];rwa[if_pos (List.mem_append.2 (.inr (List.mem_singleton.2 (by rw[e1,Ad _ _ _ (by omega:i<P.length)]))))]at hz
    ·rw[if_neg e1]
     by_cases e2:x∈P.take i
     ·rw[if_pos e2];rwa[if_pos (List.mem_append.2 (.inl e2))]at hz
     ·rw[if_neg e2]
      rwa[if_neg (fun hm=>by
       rcases List.mem_append.1 hm with hm|hm
       ·exact e2 hm
       ·rw[List.mem_singleton,← Ad _ _ 0 (by omega:i<P.length)]at hm;exact e1 hm)]at hz
   ·show Full S r n (A7 ((Nq S n P t i).set _ _))
    rw[e];intro x hx hr;unfold Is
    split
    ·omega
    ·exact f1 x hx hr
 have q1:=(key P.length (Nat.le_refl _)).1;rw[List.take_length]at q1;have rd:=(h.more o 0).round o P.length (Nat.le_refl _);intro x hx hp z hz;refine q1 x hx hp z ?_
 dsimp only at hz ⊢
 by_cases e:x∈P
 ·rw[if_pos e];exact hz
 ·rw[if_neg e]
  have hxr:x=r:=by
   rcases List.mem_cons.1 ((o.mem x).2 (rd.inv.rc x hx hp)) with h1|h1
   ·exact h1
   ·exact absurd h1 e
  subst hxr;exact .root hz.av.ne k
def M5(S:Nat→List Nat)(n:Nat)(P:List Nat)(t:List Int):Prop:=∀ i,i<P.length→A7 t (P.getD i 0)=(H3 S n t (P.getD i 0):Int)
theorem Oo{t:List Int}(o:Ordered S r n P)(hl:t.length=n)(h:M5 S n P t):∀ i,i≤P.length→Nq S n P t i=t:=by
 intro i
 induction i with
 | zero=>intro _;rfl
 | succ i ih=>
  intro hi;unfold Nq;rw[ih (by omega),← h i (by omega)]
  have hlt:P.getD i 0<t.length:=by rw[hl];exact o.lt (List.mem_cons_of_mem _ (J7 (by omega)))
  unfold A7;rw[Ad _ _ _ hlt];exact List.set_getElem_self hlt
theorem stops(o:Ordered S r n P):∃ J,(∀ j,j<J→¬ M5 S n P (Ug S n P (Ei n r) j))∧M5 S n P (Ug S n P (Ei n r) J):=by
 obtain⟨K,hK⟩:=avn_bound (S:=S) (r:=r) n
 have hq:∀ k,QB S r n (A7 (Ug S n P (Ei n r) (k+1))) fun _=>k:=by
  intro k
  induction k with
  | zero=>exact qb_zero (Ready.rounds' o 0).inv
  | succ k ih=>exact qb_round o (Ready.rounds' o k) ih
 have hst:M5 S n P (Ug S n P (Ei n r) (K+1)):=fun i hi=>by
  have rd:=Ready.rounds' o K;exact((rd.more o i).best o hi).same o.hS o.hr (rd.full o) (rd.done _ (List.mem_cons_of_mem _ (by rw[List.take_length];exact J7 hi))) (exact_of rd.inv hK (hq K))
 have key:∀ m,(∃ J,J≤m∧M5 S n P (Ug S n P (Ei n r) J))→∃ J,(∀ j,j<J→¬ M5 S n P (Ug S n P (Ei n r) j))∧M5 S n P (Ug S n P (Ei n r) J):=by
  intro m
  induction m with
  | zero=>rintro⟨J,hJ,h⟩;exact⟨J,fun j hj=>by omega,h⟩
  | succ m ih=>
   rintro⟨J,hJ,h⟩
   by_cases hm:∃ J,J≤m∧M5 S n P (Ug S n P (Ei n r) J)
   ·exact ih hm
   ·exact⟨J,fun j hj hs=>hm ⟨j,by omega,hs⟩,h⟩
 exact key (K+1) ⟨K+1,Nat.le_refl _,hst⟩
structure DomTree(S:Nat→List Nat)(r n:Nat)(P:List Nat)(t:List Int):Prop where
 inv:Inv S r n (pos (r::P)) (A7 t)
 len:t.length=n
 full:Full S r n (A7 t)
 exact_:Exact S r n (A7 t)
theorem Ti(o:Ordered S r n P){j:Nat}(h:M5 S n P (Ug S n P (Ei n r) j)):DomTree S r n P (Ug S n P (Ei n r) j):=by
 have rd:=Ready.rounds o j
 have hall:Ready S r n P (Ug S n P (Ei n r) j) P.length:=by
  have:=rd.round o P.length (Nat.le_refl _);rwa[Oo o rd.len h P.length (Nat.le_refl _)]at this
 refine⟨rd.inv,rd.len,hall.full o,exact_fix rd.inv o.hS o.hr (hall.full o) fun y hy hne hr=>?_⟩
 have hm:y∈P:=by
  rcases List.mem_cons.1 ((o.mem y).2 hr) with h1|h1
  ·exact absurd h1 hne
  ·exact h1
 obtain⟨i,hi,rfl⟩:=List.getElem_of_mem hm;have b:=(hall.more o i).best o hi;rw[Ad _ _ _ hi]at b;have hs:=h i hi;rw[Ad _ _ _ hi]at hs;exact⟨_,hs,b.best⟩
end
section
variable {S:Nat→List Nat} {s s':Nat→Bool} {l o:List Nat}
theorem VL.before(h:VL S s l s' o):∀ A z B,o=A++z::B→z∈l∨∃ p∈B,z∈S p:=by
 induction h with
 | nil s=>intro A z B e;simp at e
 | skip h _ ih=>
  intro A z B e;rcases ih A z B e with h1|h1
  ·exact .inl (List.mem_cons_of_mem _ h1)
  ·exact .inr h1
 | @step s s1 s2 y l o1 o2 h a b iha ihb=>
  intro A z B e;rcases List.append_eq_append_iff.1 e with⟨C,hC1,hC2⟩|⟨C,hC1,hC2⟩
  ·
   cases C with
   | nil=>
    simp at hC2;obtain⟨rfl,rfl⟩:=hC2;exact .inl (List.mem_cons_self ..)
   | cons c C=>
    simp at hC2;obtain⟨rfl,hC2⟩:=hC2;rcases ihb C z B hC2 with h1|h1
    ·exact .inl (List.mem_cons_of_mem _ h1)
    ·exact .inr h1
  ·cases C with
   | nil=>
    simp at hC2;obtain⟨rfl,rfl⟩:=hC2;exact .inl (List.mem_cons_self ..)
   | cons c C=>
    simp at hC2;obtain⟨rfl,rfl⟩:=hC2;rcases iha A z C hC1 with h1|⟨p,hp,hz⟩
    ·exact .inr ⟨y,by simp,h1⟩
    ·exact .inr ⟨p,by simp[hp],hz⟩
theorem Ord.ordered{n r:Nat}{L:List Nat}(hr:r<n)(hS:∀ x,x<n→∀ w∈S x,w<n)(h:Ord S r L):∃ P,L=r::P∧Ordered S r n P:=by
 have h1:=h.nodup;have h2:=h.mem;obtain⟨s',o,hv,rfl⟩:=h;refine⟨o.reverse,rfl,hr,hS,h1,fun x=>by rw[h2 x,rc_iff],fun i hi=>?_⟩
 have hi':i<o.length:=by simpa using hi
 have e:o.reverse=o.reverse.take i++o.reverse[i]::o.reverse.drop (i+1):=by rw[← List.drop_eq_getElem_cons hi,List.take_append_drop]
 have e2:o=(o.reverse.drop (i+1)).reverse++o.reverse[i]::(o.reverse.take i).reverse:=by
  have:=congrArg List.reverse e;rw[List.reverse_reverse]at this;rw[List.reverse_append,List.reverse_cons]at this
  simpa using this
 rw[Ad _ _ _ hi];rcases hv.before _ _ _ e2 with h3|⟨p,hp,hz⟩
 ·exact⟨r,List.mem_cons_self ..,h3⟩
 ·exact⟨p,List.mem_cons_of_mem _ (List.mem_reverse.1 hp),hz⟩
end
def woI(S:Nat→List Nat)(w:Int):Nat→List Nat:=fun x=>(S x).filter fun y=>decide ((y:Int)≠w)
theorem woI_none(S:Nat→List Nat):woI S (-1)=S:=by
 funext x
 unfold woI;exact List.filter_eq_self.2 fun y _=>decide_eq_true (by omega)
theorem woI_nat(S:Nat→List Nat)(z:Nat):woI S (z:Int)=wo S z:=by
 funext x
 unfold woI wo
 congr 1
 funext y
 exact decide_eq_decide.2 ⟨fun h e=>h (by rw[e]),fun h e=>h (Int.ofNat.inj e)⟩
def Sq(L:List (List Int))(r:Nat)(w:Int):List Bool:=if(r:Int)=w then List.replicate L.length false else Yf (woI (sN L) w) L.length ((List.replicate L.length false).set r true) L.length
theorem reach_at{L:List (List Int)}(hm:Jm L=true){r:Nat}(hr:r<L.length){b:Nat}:(Sq L r (-1)).getD b false=true↔Rc (sN L) r b:=by
 unfold Sq;rw[if_neg (by omega),woI_none,Rj (Py hm) hr b,rc_iff]
theorem reachWo_at{L:List (List Int)}(hm:Jm L=true){r:Nat}(hr:r<L.length){a b:Nat}(hb:b<L.length):(Sq L r (a:Int)).getD b false=true↔Av (sN L) r a b:=by
 unfold Sq;rw[av_iff]
 by_cases h:r=a
 ·subst h;rw[if_pos rfl,Kq]
  simp
 ·rw[if_neg (by omega),woI_nat,Rj (S:=wo (sN L) a) (fun z hz y hy=>Py hm z hz y (List.mem_filter.1 hy).1) hr b];simp[h]
def Of(L:List (List Int))(r a b:Nat):Bool:=(Sq L r (-1)).getD b false&&!(Sq L r (a:Int)).getD b false
theorem over_iff{L:List (List Int)}(hm:Jm L=true){r a b:Nat}(hr:r<L.length)(hb:b<L.length):Of L r a b=true↔Rc (sN L) r b∧¬ Av (sN L) r a b:=by
 unfold Of;rw[Bool.and_eq_true,Bool.not_eq_true',← Bool.not_eq_true,reach_at hm hr,reachWo_at hm hr hb]
def nearB(L:List (List Int))(r a b:Nat):Bool:=(List.range L.length).all fun c=>decide (c=b) || !Of L r c b || Of L r c a
def pickD(L:List (List Int))(r b:Nat):Nat→Int
 | 0=>-2
 | a+1=>if a≠b∧Of L r a b=true∧nearB L r a b=true then(a:Int) else pickD L r b a
def treeAt(L:List (List Int))(r b:Nat):Int:=if b=r then -1 else pickD L r b L.length
def Rq(L:List (List Int))(r:Nat):List Int:=(List.range L.length).map (treeAt L r)
theorem Yk(L:List (List Int))(r:Nat):(Rq L r).length=L.length:=by simp[Rq]
theorem treeD_at{L:List (List Int)}{r b:Nat}(hb:b<L.length):(Rq L r).getD b 0=treeAt L r b:=by unfold Rq;rw[Oy hb]
theorem pick_cases(L:List (List Int))(r b:Nat):∀ m,(pickD L r b m = -2∧∀ a,a<m→¬ (a≠b∧Of L r a b=true∧nearB L r a b=true))∨∃ a,a<m∧pickD L r b m=(a:Int)∧a≠b∧Of L r a b=true∧nearB L r a b=true:=by
 intro m
 induction m with
 | zero=>exact .inl ⟨rfl,fun a ha=>absurd ha (Nat.not_lt_zero a)⟩
 | succ m ih=>
  unfold pickD
  by_cases h:m≠b∧Of L r m b=true∧nearB L r m b=true
  ·rw[if_pos h];exact .inr ⟨m,by omega,rfl,h⟩
  ·rw[if_neg h];rcases ih with⟨h1,h2⟩|⟨a,h1,h2⟩
   ·refine .inl ⟨h1,fun a ha=>?_⟩;rcases Nat.lt_succ_iff_lt_or_eq.1 ha with h3|rfl
    ·exact h2 a h3
    ·exact h
   ·exact .inr ⟨a,by omega,h2⟩
theorem DomTree.eq{L:List (List Int)}(hm:Jm L=true){r:Nat}(hr:r<L.length){P t:List _}(o:Ordered (sN L) r L.length P)(h:DomTree (sN L) r L.length P t):t=Rq L r:=by
 refine List.ext_getElem (by rw[h.len,Yk]) fun b h1 h2=>?_
 have hb:b<L.length:=by rw[← h.len];exact h1
 rw[← Ad _ _ 0 h1,← Ad _ _ 0 h2,treeD_at hb]
 show A7 t b=_
 have hov:∀ a b,b<L.length→A7 t b≠-2→(Of L r a b=true↔UpTo (A7 t) b a):=fun a b hb hp=>by
  rw[over_iff hm hr hb,h.exact_ b hb hp];exact⟨fun k=>k.2,fun k=>⟨h.inv.rc b hb hp,k⟩⟩
 unfold treeAt
 by_cases hbr:b=r
 ·subst hbr;rw[if_pos rfl];exact h.inv.top
 ·rw[if_neg hbr];rcases h.inv.kind b hb with hk|hk|⟨z,hz⟩
  ·
   have hn:¬ Rc (sN L) r b:=fun k=>h.full b hb k hk;rcases pick_cases L r b L.length with⟨h3,_⟩|⟨a,_,_,_,h6,_⟩
   ·rw[hk,h3]
   ·exact absurd ((over_iff hm hr hb).1 h6).1 hn
  ·exact absurd hk hbr
  ·obtain⟨z1,z2,z3,z4⟩:=h.inv.up b hb z hz
   have hp:A7 t b≠-2:=by omega
   have hzo:Of L r z b=true:=(hov z b hb hp).2 (.up hz (.refl _))
   have hzb:z≠b:=by rintro rfl;omega
   have hnear:nearB L r z b=true:=all_range.2 fun c hc=>by
    by_cases e:c=b
    ·simp[e]
    ·cases ho:Of L r c b with
     | false=>simp
     | true=>
      have:=(hov c b hb hp).1 ho;rcases(anc_up hz).1 this with h3|h3
      ·exact absurd h3 e
      ·rw[(hov c z z1 z2).2 h3];simp
   rcases pick_cases L r b L.length with⟨_,h3⟩|⟨a,h3,h4,h5,h6,h7⟩
   ·exact absurd ⟨hzb,hzo,hnear⟩ (h3 z z1)
   ·rw[h4,hz];have haU:=(hov a b hb hp).1 h6
    have ha1:UpTo (A7 t) z a:=by
     rcases(anc_up hz).1 haU with h8|h8
     ·exact absurd h8 h5
     ·exact h8
    have hap:=(h.inv.anc ha1 z1 z2).2.1
    have hza:UpTo (A7 t) a z:=by
     have:=all_range.1 h7 z z1;simp only[hzo,hzb,decide_false,Bool.not_true,Bool.false_or]at this;exact(hov z a h3 hap).1 this
    rw[h.inv.antisymm ha1 hza z1 z2]
theorem mayG_eq{g:B2}(h:R7 g=true):Jm g.Succ=true∧g=Ru g.Succ:=by
 unfold R7 at h;rw[Bool.and_eq_true]at h;refine⟨h.1,?_⟩;obtain⟨s,p⟩:=g;have:=of_decide_eq_true h.2;simp only at this;unfold Ru;rw[this]
section
variable {L:List (List Int)} (hm:Jm L=true) {r:Nat} (hr:r<L.length)
include hm hr
omit hr in
omit hr in
omit hm hr in
omit hm hr in
omit hm hr in
omit hr in
omit hr in
end
def treeG(g:B2)(r:Int):List Int:=if R7 g=true∧0≤r∧r<(g.Succ.length:Int) then Rq g.Succ r.toNat else[]
def upD(t:List Int):Nat→Int→Option (List Int)
 | 0,_=>none
 | k+1,a=>if 0≤a∧a<(t.length:Int) then(if t.getD a.toNat 0 = -1 then some [a] else(upD t k (t.getD a.toNat 0)).map fun l=>a::l) else none
def Gb(t:List Int)(a:Int):List Int:=(upD t t.length a).getD []
theorem upD_len(t:List Int):∀ k a q,upD t k a=some q→q.length≤k∧1≤q.length:=by
 intro k
 induction k with
 | zero=>intro a q h;cases h
 | succ k ih=>
  intro a q h;unfold upD at h
  split at h
  ·split at h
   ·cases h;simp
   ·cases hu:upD t k (t.getD a.toNat 0) with
    | none=>rw[hu]at h;cases h
    | some q'=>rw[hu]at h;cases h;have:=ih _ _ hu;simp;omega
  ·cases h
theorem pathD_nil{t:List Int}{a:Int}:Gb t a=[]↔upD t t.length a=none:=by
 unfold Gb
 cases h:upD t t.length a with
 | none=>simp
 | some q=>have:=(upD_len t _ _ _ h).2;simp;intro e;subst e;simp at this
def Rp(t:List Int)(k:Nat):Nat:=((List.range k).filter fun a=>decide (t.getD a 0 = -1)).length
def okR(t:List Int)(a:Nat):Bool:=decide (t.getD a 0 = -2) || !decide (Gb t (a:Int)=[])
def Hb(t:List Int):Bool:=(List.range t.length).all (okR t)&&decide (Rp t t.length=1)
theorem Wg(t:List Int)(k:Nat):Rp t (k+1)=Rp t k+if t.getD k 0 = -1 then 1 else 0:=by
 unfold Rp;rw[List.range_succ,List.filter_append,List.length_append]
 by_cases h:t.getD k 0 = -1
 ·rw[if_pos h]
  have:List.filter (fun a=>decide (t.getD a 0 = -1)) [k]=[k]:=by rw[List.filter_cons,if_pos (decide_eq_true h)];rfl
  rw[this];rfl
 ·rw[if_neg h]
  have:List.filter (fun a=>decide (t.getD a 0 = -1)) [k]=[]:=by rw[List.filter_cons,if_neg (by simpa using h)];rfl
  rw[this];rfl
def Jz(t:List Int)(a b:Int):Int:=if Hb t=true then((Gb t a).find? fun x=>(Gb t b).contains x).getD (-2) else -2
def Pv(t:List Int)(a b:Int):Bool:=Jz t a b==a&&Jz t a b !=-2
section
variable {S:Nat→List Nat} {r n:Nat} {P:List Nat} {t:List Int}
theorem DomTree.up(h:DomTree S r n P t):∀ k x,x<n→A7 t x≠-2→pos (r::P) x<k→∃ q,upD t k (x:Int)=some q∧(∀ w:Int,w∈q↔∃ z:Nat,w=(z:Int)∧UpTo (A7 t) x z) ∧
  ∀ p:Int→Bool,(q.find? p=none∧∀ z:Nat,UpTo (A7 t) x z→p (z:Int)=false)∨∃ f:Nat,q.find? p=some (f:Int)∧UpTo (A7 t) x f∧p (f:Int)=true∧∀ z:Nat,UpTo (A7 t) x z→p (z:Int)=true→UpTo (A7 t) f z:=by
 intro k
 induction k with
 | zero=>intro x _ _ hk;exact absurd hk (Nat.not_lt_zero _)
 | succ k ih=>
  intro x hx hp hk
  have hxt:(0:Int)≤(x:Int)∧(x:Int)<(t.length:Int):=by rw[h.len];omega
  unfold upD;rw[if_pos hxt,A6];have hpx:t.getD x 0=A7 t x:=rfl;rw[hpx];rcases h.inv.kind x hx with h1|rfl|⟨z,hz⟩
  ·exact absurd h1 hp
  ·rw[if_pos h.inv.top];refine⟨_,rfl,fun w=>?_,fun p=>?_⟩
   ·rw[List.mem_singleton]
    constructor
    ·rintro rfl;exact⟨x,rfl,.refl _⟩
    ·rintro⟨z,rfl,hz⟩;rw[h.inv.root_anc.1 hz]
   ·cases hpp:p (x:Int) with
    | false=>exact .inl ⟨by simp[List.find?,hpp],fun z hz=>by rw[h.inv.root_anc.1 hz];exact hpp⟩
    | true=>exact .inr ⟨x,by simp[List.find?,hpp],.refl _,hpp,fun z hz _=>hz⟩
  ·obtain⟨z1,z2,z3,z4⟩:=h.inv.up x hx z hz;rw[hz,if_neg (by omega)];obtain⟨q,hq1,hq2,hq3⟩:=ih z z1 z2 (by omega);rw[hq1];refine⟨(x:Int)::q,rfl,fun w=>?_,fun p=>?_⟩
   ·rw[List.mem_cons,hq2 w]
    constructor
    ·rintro(rfl|⟨y,rfl,hy⟩)
     ·exact⟨x,rfl,.refl _⟩
     ·exact⟨y,rfl,.up hz hy⟩
    ·rintro⟨y,rfl,hy⟩;rcases(anc_up hz).1 hy with rfl|hy
     ·exact .inl rfl
     ·exact .inr ⟨y,rfl,hy⟩
   ·cases hpp:p (x:Int) with
    | true=>exact .inr ⟨x,by simp[List.find?,hpp],.refl _,hpp,fun y hy _=>hy⟩
    | false=>
     have hf:((x:Int)::q).find? p=q.find? p:=by simp[List.find?,hpp]
     rw[hf];rcases hq3 p with⟨e1,e2⟩|⟨f,e1,e2,e3,e4⟩
     ·refine .inl ⟨e1,fun y hy=>?_⟩;rcases(anc_up hz).1 hy with rfl|hy
      ·exact hpp
      ·exact e2 y hy
     ·refine .inr ⟨f,e1,.up hz e2,e3,fun y hy hpy=>?_⟩;rcases(anc_up hz).1 hy with rfl|hy
      ·rw[hpp]at hpy;cases hpy
      ·exact e4 y hy hpy
theorem Ordered.pos_lt(o:Ordered S r n P){x:Nat}(hx:x∈r::P):pos (r::P) x<n:=by
 obtain⟨j,hj,rfl⟩:=List.getElem_of_mem hx;rw[(Uf o.nodup hj).2];have:=I6 n (r::P) o.nodup fun y hy=>o.lt hy;omega
theorem DomTree.path(h:DomTree S r n P t)(o:Ordered S r n P){x:Nat}(hx:x<n)(hp:A7 t x≠-2):Gb t (x:Int)≠[]∧(∀ w:Int,w∈Gb t (x:Int)↔∃ z:Nat,w=(z:Int)∧UpTo (A7 t) x z) ∧
  ∀ p:Int→Bool,((Gb t (x:Int)).find? p=none∧∀ z:Nat,UpTo (A7 t) x z→p (z:Int)=false)∨∃ f:Nat,(Gb t (x:Int)).find? p=some (f:Int)∧UpTo (A7 t) x f∧p (f:Int)=true∧∀ z:Nat,UpTo (A7 t) x z→p (z:Int)=true→UpTo (A7 t) f z:=by
 have hm:=(o.mem x).2 (h.inv.rc x hx hp);obtain⟨q,h1,h2,h3⟩:=h.up n x hx hp (o.pos_lt hm)
 have e:Gb t (x:Int)=q:=by unfold Gb;rw[h.len,h1];rfl
 rw[e];refine⟨fun e=>?_,h2,h3⟩;have:=(h2 (x:Int)).2 ⟨x,rfl,.refl _⟩;rw[e]at this
 cases this
theorem DomTree.nopath(h:DomTree S r n P t){x:Nat}(hx:x<n)(hp:A7 t x = -2):Gb t (x:Int)=[]:=by
 rw[pathD_nil]
 cases hl:t.length with
 | zero=>rfl
 | succ k=>
  unfold upD;rw[if_pos ⟨by omega,by rw[h.len];omega⟩,A6,show t.getD x 0=A7 t x from rfl,hp,if_neg (by omega)]
  cases k with
  | zero=>rfl
  | succ k=>unfold upD;rw[if_neg (by omega)];rfl
theorem DomTree.right(h:DomTree S r n P t)(o:Ordered S r n P):Hb t=true:=by
 unfold Hb;rw[Bool.and_eq_true]
 constructor
 ·refine all_range.2 fun x hx=>?_;rw[h.len]at hx;unfold okR
  by_cases hp:A7 t x = -2
  ·rw[show t.getD x 0=A7 t x from rfl,hp];rfl
  ·rw[decide_eq_false (h.path o hx hp).1];simp
 ·apply decide_eq_true
  have key:∀ k,k≤n→Rp t k=if r<k then 1 else 0:=by
   intro k
   induction k with
   | zero=>intro _;rfl
   | succ k ih=>
    intro hk;rw[Wg,ih (by omega)]
    have hr:t.getD k 0 = -1↔k=r:=by
     constructor
     ·intro he;rcases h.inv.kind k (by omega) with h1|h1|⟨z,hz⟩
      ·rw[show t.getD k 0=A7 t k from rfl,h1]at he;omega
      ·exact h1
      ·rw[show t.getD k 0=A7 t k from rfl,hz]at he;omega
     ·rintro rfl;exact h.inv.top
    by_cases hkr:k=r
    ·subst hkr;rw[if_neg (by omega),if_pos (hr.2 rfl),if_pos (by omega)]
    ·rw[if_neg (fun e=>hkr (hr.1 e))]
     by_cases h2:r<k
     ·rw[if_pos h2,if_pos (by omega)]
     ·rw[if_neg h2,if_neg (by omega)]
  rw[h.len,key n (Nat.le_refl _),if_pos o.hr]
theorem DomTree.meet(h:DomTree S r n P t)(o:Ordered S r n P){a b:Nat}(ha:a<n)(hb:b<n)(hpa:A7 t a≠-2)(hpb:A7 t b≠-2):∃ m:Nat,Jz t (a:Int) (b:Int)=(m:Int)∧MeetAt (A7 t) a b m∧m<n∧A7 t m≠-2:=by
 have rd:Ready S r n P t P.length:=⟨h.inv,h.len,fun x hx=>by rw[List.take_length]at hx;exact h.full x (o.lt hx) ((o.mem x).1 hx)⟩;obtain⟨c,hc1,hc2,hc3⟩:=h.inv.meets (rd.inj o) pos_root _ a b (Nat.le_refl _) ha hb hpa hpb;refine⟨c,?_,hc1,hc2,hc3⟩;unfold Jz;rw[if_pos (h.right o)];obtain⟨hca,hcb⟩:=(hc1 c).1 (.refl _)
 have hin:∀ z:Nat,(Gb t (b:Int)).contains (z:Int)=true↔UpTo (A7 t) b z:=fun z=>by
  rw[List.contains_iff_mem,(h.path o hb hpb).2.1]
  constructor
  ·rintro⟨y,hy,hu⟩;cases Int.ofNat.inj hy;exact hu
  ·intro hu;exact⟨z,rfl,hu⟩
 rcases(h.path o ha hpa).2.2 fun x=>(Gb t (b:Int)).contains x with⟨_,h2⟩|⟨f,h1,h2,h3,h4⟩
 ·have:=h2 c hca;rw[(hin c).2 hcb]at this
  cases this
 ·rw[h1];have hfc:=h4 c hca ((hin c).2 hcb);have hcf:=(hc1 f).2 ⟨h2,(hin f).1 h3⟩;rw[h.inv.antisymm hcf hfc hc2 hc3]
  rfl
theorem DomTree.meet_none(h:DomTree S r n P t)(o:Ordered S r n P){a b:Nat}(ha:a<n)(hb:b<n)(hp:A7 t a = -2∨A7 t b = -2):Jz t (a:Int) (b:Int) = -2:=by
 unfold Jz;rw[if_pos (h.right o)];rcases hp with hp|hp
 ·rw[h.nopath ha hp];rfl
 ·rw[h.nopath hb hp]
  have:(Gb t (a:Int)).find? (fun x=>([]:List Int).contains x)=none:=List.find?_eq_none.2 fun x _=>by simp
  rw[this];rfl
theorem DomTree.over(h:DomTree S r n P t)(o:Ordered S r n P){a b:Nat}(ha:a<n)(hb:b<n):Pv t (a:Int) (b:Int)=true↔A7 t b≠-2∧UpTo (A7 t) b a:=by
 unfold Pv;rw[Bool.and_eq_true,beq_iff_eq,bne_iff_ne]
 by_cases hpa:A7 t a = -2
 ·rw[h.meet_none o ha hb (.inl hpa)]
  constructor
  ·rintro⟨h1,_⟩;omega
  ·rintro⟨h1,h2⟩;exact absurd hpa (h.inv.anc h2 hb h1).2.1
 ·by_cases hpb:A7 t b = -2
  ·rw[h.meet_none o ha hb (.inr hpb)]
   constructor
   ·rintro⟨h1,_⟩;omega
   ·rintro⟨h1,_⟩;exact absurd hpb h1
  ·obtain⟨m,hm1,hm2,hm3,hm4⟩:=h.meet o ha hb hpa hpb;rw[hm1]
   constructor
   ·rintro⟨h1,_⟩;have h1:=Int.ofNat.inj h1;subst h1;exact⟨hpb,((hm2 _).1 (.refl _)).2⟩
   ·rintro⟨_,h2⟩;have:=(hm2 a).2 ⟨.refl _,h2⟩;have h3:=((hm2 m).1 (.refl _)).1;rw[h.inv.antisymm h3 this ha hpa];exact⟨rfl,by omega⟩
theorem DomTree.over_dom(h:DomTree S r n P t)(o:Ordered S r n P){a b:Nat}(ha:a<n)(hb:b<n):Pv t (a:Int) (b:Int)=true↔Rc S r b∧¬ Av S r a b:=by
 rw[h.over o ha hb]
 constructor
 ·rintro⟨h1,h2⟩;exact⟨h.inv.rc b hb h1,(h.exact_ b hb h1 a).1 h2⟩
 ·rintro⟨h1,h2⟩;have:=h.full b hb h1;exact⟨this,(h.exact_ b hb this a).2 h2⟩
end
section
variable {L:List (List Int)} (hm:Jm L=true) {r:Nat} (hr:r<L.length)
include hm hr
theorem treeD_dom:∃ P,Ord (sN L) r (r::P)∧Ordered (sN L) r L.length P∧DomTree (sN L) r L.length P (Rq L r):=by
 obtain⟨O,hO⟩:=Ord.exist (Py hm) hr;obtain⟨P,rfl,o⟩:=hO.ordered hr (Py hm);obtain⟨J,_,hJ⟩:=stops o;have hd:=Ti o hJ;refine⟨P,hO,o,?_⟩;rw[← hd.eq hm hr o];exact hd
end
theorem loop_allN{X:Type}(n:Nat)(p:Nat→Bool)(f:Int→Option (LR Int X))(yes no:X)(hn:∀ i:Nat,i<n→p i=true→f (i:Int)=some (.next ((i:Int)+1)))
  (hf:∀ i:Nat,i<n→p i=false→f (i:Int)=some (.done no)) (he:f (n:Int)=some (.done yes)):Ak f (0:Int)=some (bif (List.range n).all p then yes else no):=by
 have hg:∀ i,i<(List.range n).length→(List.range n).getD i 0=i:=fun i hi=>by rw[Ad _ _ _ hi];simp
 have:=N5 (List.range n) 0 p f yes no (fun i hi hp=>by rw[hg i hi]at hp;exact hn i (by simpa using hi) hp) (fun i hi hp=>by rw[hg i hi]at hp;exact hf i (by simpa using hi) hp) (by simpa using he) n 0 (by simp);rw[show(0:Int)=((0:Nat):Int) from rfl,this,List.drop_zero]
theorem allN{n:Nat}{p:Nat→Bool}(h:(List.range n).all p=true):∀ i,i<n→p i=true:=fun i hi=>List.all_eq_true.1 h i (by simpa using hi)
def Mz(L:List (List Int)):List Bool:=Yf (sN L) L.length ((List.replicate L.length false).set 0 true) L.length
def F9(l:List Int)(p:Dx):Bool:=decide (p.From=l)&&((p.Args.length:Int)==(l.length:Int))
def Md(L:List (List Int))(b:Ab)(i:Nat):Bool:=(Mz L).getD i false&&!((b.End.Kind==1 || b.End.Kind==3)&&(b.End.Arg !=0))&&b.Phis.all (F9 ((Ex L).getD i []))
def Fx(f:TFunc):Bool:=Ku f&&(List.range f.Blocks.length).all fun i=>Md (Eh f) (f.Blocks.getD i default) i
theorem Rl(f:TFunc):(Eh f).length=f.Blocks.length:=by simp[Eh]
theorem shape_fit{f:TFunc}(h:Fx f=true):phisFit f:=fun b hb p hp=>by
 simp only[Fx,Bool.and_eq_true]at h;obtain⟨i,hi,rfl⟩:=List.getElem_of_mem hb;have h1:=allN h.2 i hi;rw[Ad _ _ _ hi]at h1;simp only[Md,Bool.and_eq_true]at h1;have h2:=List.all_eq_true.1 h1.2 p hp;simp only[F9,Bool.and_eq_true,decide_eq_true_eq,beq_iff_eq]at h2;rw[h2.1];omega
def Iu(l:List Gy)(i:Nat):Bool:=valS (l.getD i default).V&&(Ih l (l.getD i default).V==(i:Int))
def J0(l:List Gy)(u:Lw):Bool:=!decide (Ih l u.V<0)
def defOf(l:List Gy)(v:Int):Gy:=l.getD (Ih l v).toNat default
def Vi(l:List Gy)(u:Lw):Bool:=((defOf l u.V).Shape.1==u.Shape.1)&&(((defOf l u.V).Shape.2==u.Shape.2)&&true)
def S7(l:List Gy)(t:List Int)(u:Lw):Bool:=
 (decide ((defOf l u.V).Block<0) || ((defOf l u.V).Block==u.Block&&decide ((defOf l u.V).At<u.At))) || (!((defOf l u.V).Block==u.Block)&&!(Jz t (defOf l u.V).Block u.Block !=(defOf l u.V).Block))
def Cn(f:TFunc):List Int:=treeG (Ru (Eh f)) 0
def Zz(f:TFunc)(l:Int):Int:=
 bif !Fx f then 5 else bif !Hr f l then 6 else bif !(List.range (A0 f).length).all (Iu (A0 f)) then 7 else bif !(Ff f).all (J0 (A0 f)) then 7 else
 bif !(Ff f).all (Vi (A0 f)) then 6 else bif !(Ff f).all (S7 (A0 f) (Cn f)) then 7 else 0
def Cl(f:TFunc)(l:Int):Int:=bif decide (l<0) || decide (2<l) then 1 else bif !P8 f then 4 else Zz f l
theorem findD_in{l:List Gy}{v:Int}(h:¬ Ih l v<0):Cg (Ih l v) l.length:=by
 unfold Ih at h ⊢
 cases hx:l.findIdx? (fun d=>d.V==v) with
 | none=>rw[hx]at h;exact absurd (by decide) h
 | some i=>
  obtain⟨hi,_⟩:=List.findIdx?_eq_some_iff_getElem.1 hx;exact Ay hi
theorem tree_len{f:TFunc}(h:Ku f=true):(Cn f).length≤1000:=by
 have h1:=(R8 (Oi h)).1;unfold Cn treeG
 split
 ·rw[Yk];show(Eh f).length≤1000;omega
 ·simp
theorem X0{α S:Type}(l:List α)(d:α)(g:S→α→S)(f:S×Int→Option (LR (S×Int) S))(hn:∀(s:S) (i:Nat),i<l.length→f (s,(i:Int))=some (.next (g s (l.getD i d),(i:Int)+1)))
  (hd:∀ s:S,f (s,(l.length:Int))=some (.done s)):∀(k i:Nat) (s:S),i+k=l.length→Ak f (s,(i:Int))=some ((l.drop i).foldl g s)
 | 0,i,s,h=>by
  obtain rfl:i=l.length:=by omega
  rw[Am (hd s)]
  simp
 | k+1,i,s,h=>by
  have hi:i<l.length:=by omega
  have hdr:l.drop i=l.getD i d::l.drop (i+1):=by rw[List.drop_eq_getElem_cons hi,Ad _ _ _ hi]
  rw[Ar (hn s i hi),show((i:Int)+1)=((i+1:Nat):Int) by omega,X0 l d g f hn hd k (i+1) _ (by omega),hdr,List.foldl_cons]
theorem Kf{α S:Type}(l:List α)(d:α)(g:S→α→S)(f:S×Int→Option (LR (S×Int) S))(hn:∀(s:S) (i:Nat),i<l.length→f (s,(i:Int))=some (.next (g s (l.getD i d),(i:Int)+1)))
  (hd:∀ s:S,f (s,(l.length:Int))=some (.done s)) (s:S):Ak f (s,(0:Int))=some (l.foldl g s):=by
 have:=X0 l d g f hn hd l.length 0 s (by omega);rw[List.drop_zero]at this;exact this
def grow(n d:Int):Int:=bif decide (n<d) then d else n
def lastD(f:TFunc):Int:=f.Blocks.foldl (fun n b=>b.Ops.foldl (fun n o=>grow n o.Dst) (b.Phis.foldl (fun n p=>grow n p.Dst) n)) (f.Params.length:Int)
theorem Wm{i n:Nat}(h:i<n)(hn:n≤maxLen):A8 ((i:Int)+1)=(i:Int)+1:=D1 h (by rw[O5]at hn;omega)
def Sm(f:TFunc):Prop:=InF f∧Bq f=some true
theorem sm_ok{f:TFunc}(h:Sm f)(hm:P8 f=true):OkF f:=by
 obtain⟨sm,h1,h2⟩:=small_parts f h.1;rw[h.2]at h1;exact(h2 (OI h1).symm hm).1
theorem m_small11{f:TFunc}(hf:InF f):∃ b,Ea f=some b∧(b=true→Sm f):=by
 obtain⟨x,hx⟩:∃ x,Ak (Cp f) ((0:Int),(0:Int))=some x:=by
  refine Kg f.Blocks.length (Cp f) (fun n i hi=>.inl ?_) (fun n=>?_) f.Blocks.length 0 0 (by omega)
  ·unfold Cp
   have hd:decide ((i:Int)<(f.Blocks.length:Int))=true:=by simpa using hi
   simp only[hd,cond_true,Ao (Ay hi),Gv hi hf.blocks];exact⟨_,rfl⟩
  ·unfold Cp;exact⟨n,by simp⟩
 obtain⟨sm,h1⟩:=Wc f hf;unfold Ea;rw[hx,Option.bind_some,h1,Option.bind_some];refine⟨_,rfl,fun hb=>⟨hf,?_⟩⟩
 cases sm with
 | true=>exact h1
 | false=>cases hb
structure ShapesOf(f:TFunc)(s:List (Int×(Int×Int))):Prop where
 none:Cl f 2≠0→s.length=0
 len:Cl f 2=0→s.length=(A0 f).length
 get:Cl f 2=0→∀ d∈A0 f,Dh ((0:Int),(0:Int)) s d.V=d.Shape
 has:Cl f 2=0→∀ v,D6 s v=true→∃ d∈A0 f,d.V=v
structure Ys:Prop where
 check:∀ f l,Sm f→Ci f l=some (Cl f l)
 last:∀ f,Sm f→Gd f=some (lastD f)
 shapes:∀ f,Sm f→∃ s,Fa f=some s∧ShapesOf f s
def aw(arg:Int):TFunc:=⟨[8],8,[⟨[],[⟨1,8,1,2,[1,1],0⟩],⟨0,arg,[]⟩⟩]⟩
theorem aw_defs(arg:Int):A0 (aw arg)=[⟨1,-1,0,(8,1)⟩,⟨2,0,0,(8,1)⟩]:=by rfl
theorem aw2:Cl (aw 2) 0=0:=by decide +kernel
theorem aw22:Cl (aw 2) 2=0:=by decide +kernel
theorem aw3:Cl (aw 3) 0=7:=by decide +kernel
theorem aw33:Cl (aw 3) 3=1:=by decide +kernel
theorem awl:lastD (aw 2)=2:=by decide +kernel
theorem sm_of{f:TFunc}(hf:InF f)(h0:f.Params.length≤64)(hb:∀ b∈f.Blocks,b.End.To.length≤64∧(∀ p∈b.Phis,p.From.length≤64∧p.Args.length≤64)∧∀ o∈b.Ops,o.Args.length≤64)(he:entF f≤20000):Sm f:=
 ⟨hf,by rw[small_eq f hf h0 hb,decide_eq_true he]⟩
theorem aw_in(a:Int):InF (aw a):=by
 have hb:∀ b∈(aw a).Blocks,b=⟨[],[⟨1,8,1,2,[1,1],0⟩],⟨0,a,[]⟩⟩:=fun b hb=>by simpa [aw] using hb
 have hM:(2:Nat)≤maxLen:=by decide
 refine⟨by show 1≤maxLen;omega,by show 1≤maxLen;omega,fun b h=>?_,fun b h p hp=>?_,fun b h o ho=>?_⟩
 ·rw[hb b h];exact⟨Nat.zero_le _,by show 1≤maxLen;omega,Nat.zero_le _⟩
 ·rw[hb b h]at hp;cases hp
 ·rw[hb b h]at ho
  obtain rfl:o=_:=by simpa using ho
  exact⟨hM,by decide,by decide⟩
theorem sm_aw(a:Int):Sm (aw a):=by
 have hb:∀ b∈(aw a).Blocks,b=⟨[],[⟨1,8,1,2,[1,1],0⟩],⟨0,a,[]⟩⟩:=fun b hb=>by simpa [aw] using hb
 refine sm_of (aw_in a) (by show 1≤64;omega) (fun b h=>?_) (by show 5≤20000;omega);rw[hb b h];refine⟨Nat.zero_le _,(fun p hp=>by cases hp),fun o ho=>?_⟩
 obtain rfl:o=_:=by simpa using ho
 exact(by decide:(2:Nat)≤64)
theorem m_awake11(F:Ys):m_locksteplaw11_awake=some true:=by
 obtain⟨s,hs,hS⟩:=F.shapes (aw 2) (sm_aw 2)
 have hlen:s.length=2:=by rw[hS.len aw22,aw_defs];rfl
 have hg:=hS.get aw22 ⟨2,0,0,(8,1)⟩ (by rw[aw_defs];simp);have hg:Dh ((0:Int),(0:Int)) s 2=(8,1):=hg;unfold m_locksteplaw11_awake
 show((Ci (aw 2) (0:Int)).bind fun x1=>((Gd (aw 2)).bind fun x2=>((Fa (aw 2)).bind fun x3=>(Cs (Cg (0:Int) (aw 2).Blocks.length) ((Ci (aw 3) (0:Int)).bind fun x5=>((bif ((bif (bif (bif (bif ((x1:Int)==(0:Int)) then((x2:Int)==(2:Int)) else false) then(((x3.length:Int):Int)==(2:Int)) else false) then((((Dh ((0:Int),(0:Int)) x3 (2:Int)).1:Int)==(8:Int))&&((((Dh ((0:Int),(0:Int)) x3 (2:Int)).2:Int)==(1:Int))&&true)) else false) then((x5:Int)==(7:Int)) else false)==true) then Ci (aw 3) (3:Int) else some (0:Int)).bind fun x6=>(some (bif (bif (bif (bif (bif ((x1:Int)==(0:Int)) then((x2:Int)==(2:Int)) else false) then(((x3.length:Int):Int)==(2:Int)) else false) then((((Dh ((0:Int),(0:Int)) x3 (2:Int)).1:Int)==(8:Int))&&((((Dh ((0:Int),(0:Int)) x3 (2:Int)).2:Int)==(1:Int))&&true)) else false) then((x5:Int)==(7:Int)) else false) then((x6:Int)==(1:Int)) else false))))))))=_
 rw[F.check _ _ (sm_aw 2),F.last _ (sm_aw 2),hs,F.check _ _ (sm_aw 3),aw2,awl,aw3];simp only[Option.bind_some];rw[Ao (show Cg (0:Int) (aw 2).Blocks.length from Ay (n:=1) (i:=0) (by omega)),F.check _ _ (sm_aw 3),aw33,hlen,hg]
 rfl
def restD(f:TFunc):Int:=
 bif !(List.range (A0 f).length).all (Iu (A0 f)) then 7 else bif !(Ff f).all (J0 (A0 f)) then 7 else
 bif !(Ff f).all (Vi (A0 f)) then 6 else bif !(Ff f).all (S7 (A0 f) (Cn f)) then 7 else 0
theorem Mf{f:TFunc}{l:Int}(h0:0≤l)(h2:l≤2):Cl f l=0↔P8 f=true∧Fx f=true∧Hr f l=true∧restD f=0:=by
 unfold Cl Zz;rw[decide_eq_false (show ¬ l<0 by omega),decide_eq_false (show ¬ 2<l by omega)]
 show _↔_∧_∧_∧restD f=0
 have e:(bif !(List.range (A0 f).length).all (Iu (A0 f)) then(7:Int) else bif !(Ff f).all (J0 (A0 f)) then 7 else
  bif !(Ff f).all (Vi (A0 f)) then 6 else bif !(Ff f).all (S7 (A0 f) (Cn f)) then 7 else 0)=restD f:=rfl
 rw[e]
 cases P8 f<;>cases Fx f<;>cases Hr f l<;>simp
theorem lanes_of{o:D4}(h:Hu o=true):1≤o.Lanes:=by
 simp only[Hu,Bool.and_eq_true]at h;have:=Lb h.1.1;omega
theorem Wh{f:TFunc}{a b:Int}(h:∀ o,E1 a o=true→E1 b o=true)(ht:Hr f a=true):Hr f b=true:=by
 simp only[Hr,Eu,Bool.and_eq_true,List.all_eq_true]at ht ⊢;exact⟨⟨ht.1.1,fun x hx=>⟨(ht.1.2 x hx).1,fun o ho=>h o ((ht.1.2 x hx).2 o ho)⟩⟩,ht.2⟩
theorem Ic{l m:Int}(hm:Ua l=m)(o:D4):E1 l o=true↔Hu o=true∧o.Kind≤m∧(l<2→o.Lanes≤1):=by
 unfold E1;rw[hm]
 by_cases a:m<o.Kind<;>by_cases b:l<2<;>by_cases c:1<o.Lanes<;>cases Hu o<;>simp[a,b,c]<;>omega
theorem op01(o:D4)(h:E1 0 o=true):E1 1 o=true:=by
 rw[Ic (m:=17) rfl]at h;rw[Ic (m:=20) rfl];exact⟨h.1,by omega,fun _=>h.2.2 (by omega)⟩
theorem op12(o:D4)(h:E1 1 o=true):E1 2 o=true:=by
 rw[Ic (m:=20) rfl]at h;rw[Ic (m:=22) rfl];exact⟨h.1,by omega,fun h=>absurd h (by omega)⟩
def Lr(o:D4):Bool:=(o.Lanes==1)&&decide (o.Kind≤17)
def Qa(f:TFunc):Bool:=f.Blocks.all fun b=>b.Ops.all Lr
theorem op02(o:D4)(h:E1 2 o=true):E1 0 o=Lr o:=by
 have hm:Hu o=true:=by simp only[E1,Bool.and_eq_true]at h;exact h.1.1
 have hl:=lanes_of hm
 cases h0:Lr o with
 | true=>
  simp only[Lr,Bool.and_eq_true,beq_iff_eq,decide_eq_true_eq]at h0;rw[Ic (m:=17) rfl];exact⟨hm,h0.2,fun _=>by omega⟩
 | false=>
  cases h1:E1 0 o with
  | false=>rfl
  | true=>
   rw[Ic (m:=17) rfl]at h1
   have:Lr o=true:=by
    simp only[Lr,Bool.and_eq_true,beq_iff_eq,decide_eq_true_eq];have:=h1.2.2 (by omega);exact⟨by omega,h1.2.1⟩
   rw[this]at h0;cases h0
theorem typed02{f:TFunc}(h:Hr f 2=true):Hr f 0=Qa f:=by
 simp only[Hr,Eu,Bool.and_eq_true,List.all_eq_true]at h
 cases hp:Qa f with
 | true=>
  simp only[Qa,List.all_eq_true]at hp;simp only[Hr,Eu,Bool.and_eq_true,List.all_eq_true];exact⟨⟨h.1.1,fun x hx=>⟨(h.1.2 x hx).1,fun o ho=>by rw[op02 o ((h.1.2 x hx).2 o ho)];exact hp x hx o ho⟩⟩,h.2⟩
 | false=>
  cases ht:Hr f 0 with
  | false=>rfl
  | true=>
   have:Qa f=true:=by
    simp only[Hr,Eu,Bool.and_eq_true,List.all_eq_true]at ht;simp only[Qa,List.all_eq_true]
    exact fun x hx o ho=>by rw[← op02 o ((h.1.2 x hx).2 o ho)];exact(ht.1.2 x hx).2 o ho
   rw[this]at hp;cases hp
theorem U0{α:Type}(p:α→Bool):∀(l:List α) (b:Bool),l.foldl (fun b x=>b&&p x) b=(b&&l.all p)
 | [],b=>by simp
 | a::l,b=>by rw[List.foldl_cons,U0 p l,List.all_cons,Bool.and_assoc]
theorem levels11(F:Ys)(f:TFunc)(hf:InF f):Dt f=some true:=by
 unfold Dt;rw[m_awake11 F,Option.bind_some,Bool.not_true,cond_false];obtain⟨b,hb,hsm⟩:=m_small11 hf;rw[hb,Option.bind_some]
 cases b with
 | false=>rfl
 | true=>
 have hs:=hsm rfl;simp only[Bool.not_true,cond_false,F.check f _ hs,Option.bind_some];have z0:=Mf (f:=f) (l:=0) (by omega) (by omega);have z1:=Mf (f:=f) (l:=1) (by omega) (by omega);have z2:=Mf (f:=f) (l:=2) (by omega) (by omega)
 have m01:Cl f 0=0→Cl f 1=0:=fun h=>by rw[z0]at h;rw[z1];exact⟨h.1,h.2.1,Wh op01 h.2.2.1,h.2.2.2⟩
 have m12:Cl f 1=0→Cl f 2=0:=fun h=>by rw[z1]at h;rw[z2];exact⟨h.1,h.2.1,Wh op12 h.2.2.1,h.2.2.2⟩
 have hc:(bif (bif (Cl f 0==0) then(Cl f 1 !=0) else false) then true else(bif (Cl f 1==0) then(Cl f 2 !=0) else false))=false:=by
  by_cases h0:Cl f 0=0
  ·rw[h0,m01 h0,m12 (m01 h0)];rfl
  ·rw[show(Cl f 0==0)=false by simpa using h0]
   by_cases h1:Cl f 1=0
   ·rw[h1,m12 h1];rfl
   ·rw[show(Cl f 1==0)=false by simpa using h1];rfl
 rw[hc,cond_false]
 have hin:∀(i:Nat),i<f.Blocks.length→∀ b:Bool,Ak (Ce f (i:Int)) (b,(0:Int))=some ((f.Blocks.getD i default).Ops.foldl (fun b o=>b&&Lr o) b):=fun i hi b=>by
  have hB:=hf.block _ (A3 (d:=(default:Ab)) hi);refine Kf (f.Blocks.getD i default).Ops (default:D4) _ _ (fun s j hj=>?_) (fun s=>?_) b
  ·unfold Ce Lr
   have hd:decide ((j:Int)<((f.Blocks.getD i default).Ops.length:Int))=true:=by simpa using hj
   simp only[Ao (Ay hi),Int.toNat_natCast,hd,cond_true,Ao (Ay hj),Wm hj hB.2.1]
   cases s<;>cases(((f.Blocks.getD i default).Ops.getD j default).Lanes==1)<;>rfl
  ·unfold Ce;simp[Ao (Ay hi)]
 rw[Kf f.Blocks (default:Ab) (fun b x=>b&&x.Ops.all Lr) (Cf f) (fun s i hi=>by
  unfold Cf
  have hd:decide ((i:Int)<(f.Blocks.length:Int))=true:=by simpa using hi
  simp only[hd,cond_true,hin i hi,Option.bind_some,Wm hi hf.blocks,U0]) (fun s=>by unfold Cf;simp),Option.bind_some,U0]
 have hpl:(true&&f.Blocks.all fun x=>x.Ops.all Lr)=Qa f:=by rw[Bool.true_and];rfl
 rw[hpl]
 by_cases h2:Cl f 2=0
 ·have ht:=typed02 (z2.1 h2).2.2.1
  have e:(Cl f 0==0)=Qa f:=by
   rw[← ht]
   cases h0:Hr f 0 with
   | true=>have:=z0.2 ⟨(z2.1 h2).1,(z2.1 h2).2.1,h0,(z2.1 h2).2.2.2⟩;simp[this]
   | false=>
    have:Cl f 0≠0:=fun h=>by have:=(z0.1 h).2.2.1;rw[h0]at this;cases this
    simpa using this
  rw[h2,e]
  simp
 ·rw[show(Cl f 2 !=0)=true by simpa using h2];rfl
end
end Go.Proofs.YtggpeloimmlkgaaGreat
