/-
  The machine, the program's functions and the laws' arithmetic: part 4 of 6.
-/
import Derived.Test.YtmkiepobhjiabaaGreatPk3
set_option linter.unusedVariables false
set_option linter.unusedSimpArgs false
namespace Go.Proofs.YtmkiepobhjiabaaGreat
noncomputable section
open Go Go.RowKit
set_option maxRecDepth 100000
set_option maxHeartbeats 2000000
def Db(aa1:Int)(aO:Ah):(Int×List Int×Int×List Ah×Int×List Int×List Aq×List (Int×Aj))->Option (LR (Int×List Int×Int×List Ah×Int×List Int×List Aq×List (Int×Aj)) ((List Int×Int×List Ah×Int×List Int×List Aq×List (Int×Aj)) ⊕ (Bool×TFunc×Int×List Int×List Aq×List (Int×Aj)))):=
 fun((i1,l2,i3,l4,i5,l6,l7,l8):(Int×List Int×Int×List Ah×Int×List Int×List Aq×List (Int×Aj)))=>(bif (decide (i1<(aO.Phis.length:Int))) then(A7 (A5 i1 aO.Phis.length) ((Ef ((aO.Phis.getD i1.toNat default).Bits)).bind fun x17=>((Fm ((aO.Phis.getD i1.toNat default).Dst) x17 (⟨aa1,(-1:Int)⟩:I6) (⟨l2,i3,l4⟩:TFunc) i5 l6 l8 l7).bind fun x18=>(bif (!x18.1) then(some (.done (.inr (false,x18.2.1,x18.2.2.1,x18.2.2.2.1,x18.2.2.2.2.1,x18.2.2.2.2.2)))) else(some (.next ((w64 (i1+1)),x18.2.1.Params,x18.2.1.Ret,x18.2.1.Blocks,x18.2.2.1,x18.2.2.2.1,x18.2.2.2.2.1,x18.2.2.2.2.2))))))) else(some (.done (.inl (l2,i3,l4,i5,l6,l7,l8)))))
def Ce(aa1:Int)(aO:Ah):(Int×List Int×Int×List Ah×Int×List Int×List Aq×List (Int×Aj))->Option (LR (Int×List Int×Int×List Ah×Int×List Int×List Aq×List (Int×Aj)) ((List Int×Int×List Ah×Int×List Int×List Aq×List (Int×Aj)) ⊕ (Bool×TFunc×Int×List Int×List Aq×List (Int×Aj)))):=
 fun((i21,l22,i23,l24,i25,l26,l27,l28):(Int×List Int×Int×List Ah×Int×List Int×List Aq×List (Int×Aj)))=>(bif (decide (i21<(aO.Ops.length:Int))) then(A7 (A5 i21 aO.Ops.length) ((Mx (aO.Ops.getD i21.toNat default)).bind fun x37=>((bif ((decide (((0:Int):Int)<x37.1))==true) then Fm ((aO.Ops.getD i21.toNat default).Dst) (x37.1,x37.2) (⟨aa1,i21⟩:I6) (⟨l22,i23,l24⟩:TFunc) i25 l26 l28 l27 else some (false,(default:TFunc),(0:Int),[],[],[])).bind fun x38=>(bif (bif (decide (((0:Int):Int)<x37.1)) then(!x38.1) else false) then(some (.done (.inr (false,(⟨(bif ((decide (((0:Int):Int)<x37.1))==true) then x38.2.1.Params else l22),(bif ((decide (((0:Int):Int)<x37.1))==true) then x38.2.1.Ret else i23),(bif ((decide (((0:Int):Int)<x37.1))==true) then x38.2.1.Blocks else l24)⟩:TFunc),(bif ((decide (((0:Int):Int)<x37.1))==true) then x38.2.2.1 else i25),(bif ((decide (((0:Int):Int)<x37.1))==true) then x38.2.2.2.1 else l26),(bif ((decide (((0:Int):Int)<x37.1))==true) then x38.2.2.2.2.1 else l27),(bif ((decide (((0:Int):Int)<x37.1))==true) then x38.2.2.2.2.2 else l28))))) else(some (.next ((w64 (i21+1)),(bif ((decide (((0:Int):Int)<x37.1))==true) then x38.2.1.Params else l22),(bif ((decide (((0:Int):Int)<x37.1))==true) then x38.2.1.Ret else i23),(bif ((decide (((0:Int):Int)<x37.1))==true) then x38.2.1.Blocks else l24),(bif ((decide (((0:Int):Int)<x37.1))==true) then x38.2.2.1 else i25),(bif ((decide (((0:Int):Int)<x37.1))==true) then x38.2.2.2.1 else l26),(bif ((decide (((0:Int):Int)<x37.1))==true) then x38.2.2.2.2.1 else l27),(bif ((decide (((0:Int):Int)<x37.1))==true) then x38.2.2.2.2.2 else l28)))))))) else(some (.done (.inl (l22,i23,l24,i25,l26,l27,l28)))))
def M8(Γ:Ix)(aa1:Int)(aO:Ah)(a4:TFunc)(a9:Int)(aA:List Int)(a8:List (Int×Aj))(a7:List Aq)(r:(Bool×TFunc×Int×List Int×List Aq×List (Int×Aj))):Exit->St->Prop:=fK Tryz.prog Γ Tryz.f113.results.toList [(Z1 a4.Params a4.Ret a4.Blocks a9 aA 9100005 a7),(L7 37006 149 a7.length),(9100005,.obj (.map true .i64 (En (fun(v_:Aj)=>((Ug v_):AV)) a8)))] (.bool r.1) [(Z1 r.2.1.Params r.2.1.Ret r.2.1.Blocks r.2.2.1 r.2.2.2.1 9100005 r.2.2.2.2.1),(L7 37006 149 r.2.2.2.2.1.length),(9100005,.obj (.map true .i64 (En (fun(v_:Aj)=>((Ug v_):AV)) r.2.2.2.2.2)))]
def Q84(x37:(Int×Int)):=((decide (((0:Int):Int)<x37.1))==true)
def Q85:=(fun(v_:Aj)=>((Ug v_):AV))
def Q88(x37:(Int×Int))(x38:(Bool×TFunc×Int×List Int×List Aq×List (Int×Aj)))(l26:List Int):AV:=(Z15 (Q84 x37) x38.2.2.2.1 l26)
def Q89(x37:(Int×Int))(x38:(Bool×TFunc×Int×List Int×List Aq×List (Int×Aj)))(l24:List Ah):AV:=(Z53 (Q84 x37) x38.2.1.Blocks l24)
def Q87(x37:(Int×Int))(x38:(Bool×TFunc×Int×List Int×List Aq×List (Int×Aj)))(l22:List Int):AV:=(Z15 (Q84 x37) x38.2.1.Params l22)
def Ft(aa1:Int)(aO:Ah)(a4:TFunc)(a9:Int)(aA:List Int)(a8:List (Int×Aj))(a7:List Aq):Option (Bool×TFunc×Int×List Int×List Aq×List (Int×Aj)):=
 ((Ag (Db aa1 aO) ((0:Int),a4.Params,a4.Ret,a4.Blocks,a9,aA,a7,a8)).bind (fun x19=>(match x19 with|(.inl (l9,i10,l11,i12,l13,l14,l15))=>((Ag (Ce aa1 aO) ((0:Int),l9,i10,l11,i12,l13,l14,l15)).bind (fun x39=>(match x39 with|(.inl (l29,i30,l31,i32,l33,l34,l35))=>(some (true,(⟨l29,i30,l31⟩:TFunc),i32,l33,l34,l35))|(.inr r41)=>(some r41))))|(.inr r42)=>(some r42))))
theorem Rr(aa1:Int)(aO:Ah)(a4:TFunc)(a9:Int)(aA:List Int)(a8:List (Int×Aj))(a7:List Aq)(r:(Bool×TFunc×Int×List Int×List Aq×List (Int×Aj)))(h:Ft aa1 aO a4 a9 aA a8 a7=some r):Spec Tryz.prog 113 [Z57,(Z7 aa1),(.agg (Ip aO))] [(Z1 a4.Params a4.Ret a4.Blocks a9 aA 9100005 a7),(L7 37006 149 a7.length),(9100005,.obj (.map true .i64 (En (fun(v_:Aj)=>((Ug v_):AV)) a8)))] (.bool r.1) [(Z1 r.2.1.Params r.2.1.Ret r.2.1.Blocks r.2.2.1 r.2.2.2.1 9100005 r.2.2.2.2.1),(L7 37006 149 r.2.2.2.2.1.length),(9100005,.obj (.map true .i64 (En (fun(v_:Aj)=>((Ug v_):AV)) r.2.2.2.2.2)))]:=by
 refine Ab mix Tryz.func113 (fun Γ hq=>?_);unfold Ft at h;refine Ae hq Og zzN23 ?_;refine Ae hq zzN122 zzN23 ?_;obtain⟨x19,hx19,h⟩:=bind_some h;refine gL hq hx19 zzN122 zzN23 (fun u (i1,l2,i3,l4,i5,l6,l7,l8)=>(Ew u [(16,(Z7 i1))] [(Z1 l2 i3 l4 i5 l6 9100005 l7),(L7 37006 149 l7.length),(9100005,.obj (.map true .i64 (En Q85 l8)))])) (fun u x_=>match x_ with|(.inl (l9,i10,l11,i12,l13,l14,l15))=>aG Γ (.exit 0) (Pa Og zzN23 u [] [(Z1 l9 i10 l11 i12 l13 9100005 l14),(L7 37006 149 l14.length),(9100005,.obj (.map true .i64 (En Q85 l15)))])|(.inr r_)=>aR (M8 Γ aa1 aO a4 a9 aA a8 a7 r_)) ?_ ?_
 ·rintro⟨i1,l2,i3,l4,i5,l6,l7,l8⟩ y h;unfold Db at h;refine Ae hq [0,1,5,14,15,16,17] zzN23 ?_;refine gC h ?_ ?_<;>intro h
  ·obtain⟨hc16,h⟩:=Aa h;refine gR hq [0,1,5,8,14,15,16] [5,8,30000,37006,9100005] [] [] (c1 hc16) ?_;obtain⟨x17,hx17,h⟩:=bind_some h;obtain⟨x18,hx18,h⟩:=bind_some h;refine gR hq [0,1,5,14,15,16,29] zzN23 [] [(Z70 x17),⟨Zn,[],(.bool x18.1),[(Z1 x18.2.1.Params x18.2.1.Ret x18.2.1.Blocks x18.2.2.1 x18.2.2.2.1 9100005 x18.2.2.2.2.1),(L7 37006 149 x18.2.2.2.2.1.length),(9100005,.obj (.map true .i64 (En Q85 x18.2.2.2.2.2)))],[],[]⟩] (ci (Lu ((aO.Phis.getD i1.toNat default).Bits) x17 hx17) (c1 (Od ((aO.Phis.getD i1.toNat default).Dst) x17 (⟨aa1,(-1:Int)⟩:I6) (⟨l2,i3,l4⟩:TFunc) i5 l6 l8 l7 x18 hx18))) ?_;refine gC h ?_ ?_<;>intro h
   ·refine Ae hq [6] Iw ?_;cases h;exact gO (L8 (Kf Zn (Le.refl _ _)))
   ·refine Ae hq zzN122 zzN23 ?_;cases h;exact gN C1
  ·cases h;exact gO (Bm (B7 Og zzN23 hq))
 ·clear hx19;rcases x19 with⟨l9,i10,l11,i12,l13,l14,l15⟩|r42
  ·refine gA ?_;refine Ae hq zzN142 Iw ?_;obtain⟨x39,hx39,h⟩:=bind_some h;refine gL hq hx39 zzN142 Iw (fun u (i21,l22,i23,l24,i25,l26,l27,l28)=>(Ew u [(34,(Z7 i21))] [(Z1 l22 i23 l24 i25 l26 9100005 l27),(L7 37006 149 l27.length),(9100005,.obj (.map true .i64 (En Q85 l28)))])) (fun u x_=>match x_ with|(.inl (l29,i30,l31,i32,l33,l34,l35))=>aG Γ (.exit 2) (⟨[],[(Z1 l29 i30 l31 i32 l33 9100005 l34),(L7 37006 149 l34.length),(9100005,.obj (.map true .i64 (En Q85 l35)))],[]⟩:St)|(.inr r_)=>aR (M8 Γ aa1 aO a4 a9 aA a8 a7 r_)) ?_ ?_
   ·rintro⟨i21,l22,i23,l24,i25,l26,l27,l28⟩ y h;unfold Ce at h;refine Ae hq [0,1,32,33,34,35] Iw ?_;refine gC h ?_ ?_<;>intro h
    ·obtain⟨hc36,h⟩:=Aa h;refine gR hq [0,1,9,10,32,33,34] zzN143 [] [] (c1 hc36) ?_;obtain⟨x37,hx37,h⟩:=bind_some h;refine gR hq [0,1,9,10,11,12,32,33,34] zzN143 [] [(Z76 x37.1 x37.2)] (c1 (ok_kind_Gives (aO.Ops.getD i21.toNat default) x37 hx37)) ?_;obtain⟨x38,hx38,h⟩:=bind_some h;refine gR hq [0,1,32,33,34,58] Iw [] [⟨Zn,[],(.bool x38.1),[(Z1 x38.2.1.Params x38.2.1.Ret x38.2.1.Blocks x38.2.2.1 x38.2.2.2.1 9100005 x38.2.2.2.2.1),(L7 37006 149 x38.2.2.2.2.1.length),(9100005,.obj (.map true .i64 (En Q85 x38.2.2.2.2.2)))],[],[]⟩] (ci (gI (Q84 x37)) (ci (gI (Q84 x37)) (ci (gI (Q84 x37)) (ci (gI (Q84 x37)) (ci (gI (Q84 x37)) (ci (gI (Q84 x37)) (ci (gI (Q84 x37)) (ci (gI (Q84 x37)) (ci (gI (Q84 x37)) (ci (fun(hg:(Q84 x37)=true)=>(Od ((aO.Ops.getD i21.toNat default).Dst) (x37.1,x37.2) (⟨aa1,i21⟩:I6) (⟨l22,i23,l24⟩:TFunc) i25 l26 l28 l27 x38 (Bh hg hx38))) (ci (gI (Q84 x37)) (c1 (Nb (decide (((0:Int):Int)<x37.1))))))))))))))) ?_;refine Oi (Le.trans (Wh (fun(k_:List (Int×AV)) u=>Ew u [] [(9100005,.obj (.map true .i64 k_))]) (show(bif (Q84 x37) then(En Q85 x38.2.2.2.2.2) else(En Q85 l28))=(En Q85 (bif (Q84 x37) then x38.2.2.2.2.2 else l28)) from(bif_mapE rfl rfl))) (Le.trans (leB (fun g_ u=>(Ew u [] [(30000,.row 103 [(Q87 x37 x38 l22),(Z65 (Q84 x37) x38.2.1.Ret i23),(Q89 x37 x38 l24),(Z65 (Q84 x37) x38.2.2.1 i25),(Q88 x37 x38 l26),(.omap 9100005),(Z31 g_ x38.2.2.2.2.1 l27)]),(37006,.tok 5 149 (bif g_ then x38.2.2.2.2.1.length else l27.length))])) (fun g_ u=>(Ew u [] [(30000,.row 103 [(Q87 x37 x38 l22),(Z65 (Q84 x37) x38.2.1.Ret i23),(Q89 x37 x38 l24),(Z65 (Q84 x37) x38.2.2.1 i25),(Q88 x37 x38 l26),(.omap 9100005),(AV.list 5 M9 default (bif g_ then x38.2.2.2.2.1 else l27) (.own 37006))]),(37006,.tok 5 149 ((bif g_ then x38.2.2.2.2.1 else l27).length))])) (Q84 x37)) (Le.trans (leC 30000 0 (show AVle (Q87 x37 x38 l22) (AV.list 1 As 0 (bif (Q84 x37) then x38.2.1.Params else l22) .none) from J4)) (Le.trans (leC 30000 2 (show AVle (Q89 x37 x38 l24) (AV.list 5 Ip default (bif (Q84 x37) then x38.2.1.Blocks else l24) .none) from J4)) (leC 30000 4 (show AVle (Q88 x37 x38 l26) (AV.list 1 As 0 (bif (Q84 x37) then x38.2.2.2.1 else l26) .none) from J4)))))) ?_;refine gC h ?_ ?_<;>intro h
     ·refine Ae hq [6] Iw ?_;cases h;exact gO (L8 (Kf Zn (Le.refl _ _)))
     ·refine Ae hq zzN142 Iw ?_;cases h;exact gN C1
    ·cases h;exact gO (Bm (B7 [] Iw hq))
   ·clear hx39;rcases x39 with⟨l29,i30,l31,i32,l33,l34,l35⟩|r41
    ·refine gA ?_;refine Ae hq [6] Iw ?_;cases h;exact Cu Zn
    ·refine Ol (fun st' hk=>?_);obtain rfl:=OI h;exact gK hk
  ·refine Ol (fun st' hk=>?_);obtain rfl:=OI h;exact gK hk
def Fc(a4:TFunc):(Int×List (Int×Aj))->Option (LR (Int×List (Int×Aj)) (List (Int×Aj))):=
 fun((i1,l2):(Int×List (Int×Aj)))=>(bif (decide (i1<(a4.Params.length:Int))) then(A7 (A5 i1 a4.Params.length) ((Ef (a4.Params.getD i1.toNat 0)).bind fun x5=>(some (.next ((w64 (i1+1)),(Mj l2 (w64 (i1+1)) (⟨x5,(⟨(0:Int),(-1:Int)⟩:I6)⟩:Aj))))))) else(some (.done l2)))
def Dw(a4:TFunc):(Int×List (Int×Aj)×List Int×Int×List Ah×Int×List Int×List Aq)->Option (LR (Int×List (Int×Aj)×List Int×Int×List Ah×Int×List Int×List Aq) ((List (Int×Aj)×List Int×Int×List Ah×Int×List Int×List Aq) ⊕ (Int×TFunc×Int×List Int×List Aq×List (Int×Aj)))):=
 fun((i8,l9,l10,i11,l12,i13,l14,l15):(Int×List (Int×Aj)×List Int×Int×List Ah×Int×List Int×List Aq))=>(bif (decide (i8<(a4.Blocks.length:Int))) then(A7 (A5 i8 a4.Blocks.length) ((Ft i8 (a4.Blocks.getD i8.toNat default) (⟨l10,i11,l12⟩:TFunc) i13 l14 l9 l15).bind fun x24=>(bif (!x24.1) then(some (.done (.inr ((7:Int),x24.2.1,x24.2.2.1,x24.2.2.2.1,x24.2.2.2.2.1,x24.2.2.2.2.2)))) else(some (.next ((w64 (i8+1)),x24.2.2.2.2.2,x24.2.1.Params,x24.2.1.Ret,x24.2.1.Blocks,x24.2.2.1,x24.2.2.2.1,x24.2.2.2.2.1)))))) else(some (.done (.inl (l9,l10,i11,l12,i13,l14,l15)))))
def Tk(Γ:Ix)(a4:TFunc)(a9:Int)(aA:List Int)(a7:List Aq)(r:(Int×TFunc×Int×List Int×List Aq×List (Int×Aj))):Exit->St->Prop:=fK Tryz.prog Γ Tryz.f92.results.toList (Z3 a4.Params a4.Ret a4.Blocks a9 aA a7 a7.length) (Z7 r.1) [(Z1 r.2.1.Params r.2.1.Ret r.2.1.Blocks r.2.2.1 r.2.2.2.1 9200005 r.2.2.2.2.1),(L7 37006 149 r.2.2.2.2.1.length),(9200005,.obj (.map false .i64 (En (fun(v_:Aj)=>((Ug v_):AV)) r.2.2.2.2.2)))]
def Q90:=(fun(v_:Aj)=>((Ug v_):AV))
def Q91(l16:List (Int×Aj))(l17:List Int)(i18:Int)(l19:List Ah)(i20:Int)(l21:List Int)(l22:List Aq):List (Nat×Own):=[(8,.obj (.map true .i64 (En Q90 l16))),(Z23 l17 i18 l19 i20 l21 l22),(L7 37006 149 l22.length)]
def Gi(a4:TFunc)(a9:Int)(aA:List Int)(a7:List Aq):Option (Int×TFunc×Int×List Int×List Aq×List (Int×Aj)):=
 ((Ag (Fc a4) ((0:Int),([]:List (Int×Aj)))).bind (fun x6=>((Ag (Dw a4) ((0:Int),x6,a4.Params,a4.Ret,a4.Blocks,a9,aA,a7)).bind (fun x25=>(match x25 with|(.inl (l16,l17,i18,l19,i20,l21,l22))=>(some ((0:Int),(⟨l17,i18,l19⟩:TFunc),i20,l21,l22,l16))|(.inr r27)=>(some r27))))))
theorem S6(a4:TFunc)(a9:Int)(aA:List Int)(a7:List Aq)(r:(Int×TFunc×Int×List Int×List Aq×List (Int×Aj)))(h:Gi a4 a9 aA a7=some r):Spec Tryz.prog 92 [Z57] (Z3 a4.Params a4.Ret a4.Blocks a9 aA a7 a7.length) (Z7 r.1) [(Z1 r.2.1.Params r.2.1.Ret r.2.1.Blocks r.2.2.1 r.2.2.2.1 9200005 r.2.2.2.2.1),(L7 37006 149 r.2.2.2.2.1.length),(9200005,.obj (.map false .i64 (En (fun(v_:Aj)=>((Ug v_):AV)) r.2.2.2.2.2)))]:=by
 refine Ab mix Tryz.func92 (fun Γ hq=>?_);unfold Gi at h;refine Ae hq [0] I5 ?_;refine Ae hq [0] O9 ?_;refine Oi (Wh (fun(k_:List (Int×AV)) u=>Ew u [] [(8,.obj (.map true .i64 k_))]) (show[]=(En Q90 ([]:List (Int×Aj))) from rfl)) ?_;refine Ae hq zzN129 O9 ?_;obtain⟨x6,hx6,h⟩:=bind_some h;refine gL hq hx6 zzN129 O9 (fun u (i1,l2)=>(Ew u [(17,(Z7 i1))] [(8,.obj (.map true .i64 (En Q90 l2)))])) (fun u l3=>aG Γ (.exit 0) (Pa [0] O9 u [] [(8,.obj (.map true .i64 (En Q90 l3)))])) ?_ ?_
 ·rintro⟨i1,l2⟩ y h;unfold Fc at h;refine Ae hq [0,15,16,17,18] O9 ?_;refine gC h ?_ ?_<;>intro h
  ·obtain⟨hc4,h⟩:=Aa h;refine gR hq [0,3,4,15,16,17] O9 [] [] (c1 hc4) ?_;obtain⟨x5,hx5,h⟩:=bind_some h;refine gR hq zzN129 O9 [] [(Z70 x5)] (c1 (Lu (a4.Params.getD i1.toNat 0) x5 hx5)) ?_;refine Oi (Wh (fun(k_:List (Int×AV)) u=>Ew u [] [(8,.obj (.map true .i64 k_))]) (show(Mj (En Q90 l2) (w64 (i1+1)) (.agg [(Z7 x5.1),(Z7 x5.2),Qs,(.int .i64 (-1:Int))]))=(En Q90 (Mj l2 (w64 (i1+1)) (⟨x5,(⟨(0:Int),(-1:Int)⟩:I6)⟩:Aj))) from(mset_eq (f:=Q90) (l:=l2) (v:=(⟨x5,(⟨(0:Int),(-1:Int)⟩:I6)⟩:Aj)) rfl rfl))) ?_;refine Ae hq zzN129 O9 ?_;cases h;exact gN C1
  ·cases h;exact gO (Bm (B7 [0] O9 hq))
 ·clear hx6;refine gA ?_;refine Ae hq zzN165 O9 ?_;obtain⟨x25,hx25,h⟩:=bind_some h;refine gL hq hx25 zzN165 O9 (fun u (i8,l9,l10,i11,l12,i13,l14,l15)=>(Ew u [(39,(Z7 i8))] [(8,.obj (.map true .i64 (En Q90 l9))),(Z23 l10 i11 l12 i13 l14 l15),(L7 37006 149 l15.length)])) (fun u x_=>match x_ with|(.inl (l16,l17,i18,l19,i20,l21,l22))=>aG Γ (.exit 2) (⟨[],(Q91 l16 l17 i18 l19 i20 l21 l22),[]⟩:St)|(.inr r_)=>aR (Tk Γ a4 a9 aA a7 r_)) ?_ ?_
  ·rintro⟨i8,l9,l10,i11,l12,i13,l14,l15⟩ y h;unfold Dw at h;refine Ae hq [0,37,38,39,40] O9 ?_;refine gC h ?_ ?_<;>intro h
   ·obtain⟨hc23,h⟩:=Aa h;refine gR hq [0,5,6,37,38,39] [6,8,30000,37006] [] [] (c1 hc23) ?_;obtain⟨x24,hx24,h⟩:=bind_some h;refine gR hq [0,37,38,39,48] O9 [] [⟨[(30000,30000),(37006,37006),(8,9100005)],[],(.bool x24.1),[(Z1 x24.2.1.Params x24.2.1.Ret x24.2.1.Blocks x24.2.2.1 x24.2.2.2.1 9100005 x24.2.2.2.2.1),(L7 37006 149 x24.2.2.2.2.1.length),(9100005,.obj (.map true .i64 (En Q90 x24.2.2.2.2.2)))],[],[]⟩] (c1 (Rr i8 (a4.Blocks.getD i8.toNat default) (⟨l10,i11,l12⟩:TFunc) i13 l14 l9 l15 x24 hx24)) ?_;refine gC h ?_ ?_<;>intro h
    ·refine Ae hq [2] O9 ?_;refine Qk (⟨[(2,(.int .i64 (7:Int)))],[(8,.obj (.map true .i64 (En Q90 x24.2.2.2.2.2))),(Z23 x24.2.1.Params x24.2.1.Ret x24.2.1.Blocks x24.2.2.1 x24.2.2.2.1 x24.2.2.2.2.1),(L7 37006 149 x24.2.2.2.2.1.length)],[]⟩:St) ?_;cases h;exact gO (L8 (Kf zzN82 (Le.trans (le_obj (nm:=8) (.map false .i64 (En Q90 x24.2.2.2.2.2)) rfl (fun _ _ _ _ h_=>objAt_nn h_)) (B7 (st':=⟨[(2,(.int .i64 (7:Int)))],[(8,.obj (.map false .i64 (En Q90 x24.2.2.2.2.2))),(Z23 x24.2.1.Params x24.2.1.Ret x24.2.1.Blocks x24.2.2.1 x24.2.2.2.1 x24.2.2.2.2.1),(L7 37006 149 x24.2.2.2.2.1.length)],[]⟩) [2] O9 hq))))
    ·refine Ae hq zzN165 O9 ?_;cases h;exact gN C1
   ·cases h;exact gO (Bm (B7 [] O9 hq))
  ·clear hx25;rcases x25 with⟨l16,l17,i18,l19,i20,l21,l22⟩|r27
   ·refine gA ?_;refine Ae hq [2] O9 ?_;refine Qk (⟨[(2,Qs)],(Q91 l16 l17 i18 l19 i20 l21 l22),[]⟩:St) ?_;cases h;exact gK (e:=.ret) (Kf zzN82 (Le.trans (le_obj (nm:=8) (.map false .i64 (En Q90 l16)) rfl (fun _ _ _ _ h_=>objAt_nn h_)) (B7 (st':=⟨[(2,Qs)],[(8,.obj (.map false .i64 (En Q90 l16))),(Z23 l17 i18 l19 i20 l21 l22),(L7 37006 149 l22.length)],[]⟩) [2] O9 hq)))
   ·refine Ol (fun st' hk=>?_);obtain rfl:=OI h;exact gK hk
def Fv(aa1:Int)(a4:TFunc)(a9:Int)(aA:List Int)(a8:List (Int×Aj))(a7:List Aq):Option (I6×TFunc×Int×List Int×List Aq):=
 (A7 (A5 aa1 a4.Blocks.length) (some ((⟨aa1,(((a4.Blocks.getD aa1.toNat default).Ops).length:Int)⟩:I6),a4,a9,aA,a7)))
theorem Ml(aa1:Int)(a4:TFunc)(a9:Int)(aA:List Int)(a8:List (Int×Aj))(a7:List Aq)(r:(I6×TFunc×Int×List Int×List Aq))(h:Fv aa1 a4 a9 aA a8 a7=some r):Spec Tryz.prog 146 [Z57,(Z7 aa1)] [(Z1 a4.Params a4.Ret a4.Blocks a9 aA 9100005 a7),(L7 37006 149 a7.length),(9100005,.obj (.map false .i64 (En (fun(v_:Aj)=>((Ug v_):AV)) a8)))] (.agg (eTplace r.1)) [(Z1 r.2.1.Params r.2.1.Ret r.2.1.Blocks r.2.2.1 r.2.2.2.1 9100005 r.2.2.2.2),(L7 37006 149 r.2.2.2.2.length),(9100005,.obj (.map false .i64 (En (fun(v_:Aj)=>((Ug v_):AV)) a8)))]:=by
 refine Ab mix Tryz.func146 (fun Γ hq=>?_);unfold Fv at h;refine Ae hq [0,1,4] zzN148 ?_;obtain⟨hc1,h⟩:=Aa h;refine gR hq [4] zzN148 [] [] (c1 hc1) ?_;cases h;exact Cu Zn
def Ep(aC:Int)(aa2:(Int×Int))(aE:I6)(a4:TFunc)(a9:Int)(aA:List Int)(a8:List (Int×Aj))(a7:List Aq):Option (TFunc×Int×List Int×List Aq):=
 (A7 (a7.length+([(⟨aC,aa2,aE⟩:Aq)]:List Aq).length<=room) (some (a4,a9,aA,(a7++([(⟨aC,aa2,aE⟩:Aq)]:List Aq)))))
theorem Ka(aC:Int)(aa2:(Int×Int))(aE:I6)(a4:TFunc)(a9:Int)(aA:List Int)(a8:List (Int×Aj))(a7:List Aq)(r:(TFunc×Int×List Int×List Aq))(h:Ep aC aa2 aE a4 a9 aA a8 a7=some r):Spec Tryz.prog 145 [Z57,(Z7 aC),(.agg (Bn aa2)),(.agg (eTplace aE))] [(Z1 a4.Params a4.Ret a4.Blocks a9 aA 9100005 a7),(L7 37006 149 a7.length),(9100005,.obj (.map false .i64 (En (fun(v_:Aj)=>((Ug v_):AV)) a8)))] (.tuple []) [(Z1 r.1.Params r.1.Ret r.1.Blocks r.2.1 r.2.2.1 9100005 r.2.2.2),(L7 37006 149 r.2.2.2.length),(9100005,.obj (.map false .i64 (En (fun(v_:Aj)=>((Ug v_):AV)) a8)))]:=by
 refine Ab mix Tryz.func145 (fun Γ hq=>?_);unfold Ep at h;refine Ae hq [0,1,6,7] zzN61 ?_;obtain⟨hc1,h⟩:=Aa h;refine gR hq [] Iw [(17,(AV.list 5 M9 default ([(⟨aC,aa2,aE⟩:Aq)]:List Aq) .exact)),(18,(AV.list 5 M9 default (a7++([(⟨aC,aa2,aE⟩:Aq)]:List Aq)) (.own 37006)))] [] (ci (Bu 5 M9 (default:Aq) ([(⟨aC,aa2,aE⟩:Aq)]:List Aq)) (ci (Eq.refl a7.length) (ci hc1 (ci (Jr 5 37006 M9 (default:Aq) a7 ([(⟨aC,aa2,aE⟩:Aq)]:List Aq)) (c1 (Fz a7 ([(⟨aC,aa2,aE⟩:Aq)]:List Aq))))))) ?_;cases h;exact gK (e:=.normal) (Kf Zn (Le.refl _ _))
def Q92:List (Nat×AV):=[(2,Z33)]
def My(a1:Dp):Option (List (Int×Int)):=
 ((N9 a1).bind fun x1=>(bif (!x1) then(some ([]:List (Int×Int))) else((M0 a1).bind fun x2=>(some x2))))
theorem ok_kind_Takes(a1:Dp)(r:List ((Int×Int)))(h:My a1=some r):Spec Tryz.prog 147 (Z66 a1) [] (Z5 r) []:=by
 refine Ab mix Tryz.func147 (fun Γ hq=>?_);unfold My at h;refine gR hq [1] [1] Q92 [] (c1 (Do 2 Bn ((0:Int),(0:Int)))) ?_;obtain⟨x1,hx1,h⟩:=bind_some h;refine gR hq [1,5] [1] [] [(Z2 x1)] (c1 (Xx a1 x1 hx1)) ?_;refine gC h ?_ ?_<;>intro h
 ·refine gR hq [2] [] Q92 [] (c1 (Do 2 Bn ((0:Int),(0:Int)))) ?_;refine Qk (⟨Q92,[],[]⟩:St) ?_;cases h;exact gK (e:=.ret) (Kf [] (show Le Γ _ (⟨[(2,(AV.list 2 Bn ((0:Int),(0:Int)) ([]:List (Int×Int)) .none))],[],[]⟩:St) from Le.trans (B7 (st':=⟨Q92,[],[]⟩) [2] [] hq) (Jg (.cons AVle.untag .nil) .nil)))
 ·obtain⟨x2,hx2,h⟩:=bind_some h;refine gR hq [2] [] [] [(Z43 x2)] (c1 (Zy a1 x2 hx2)) ?_;obtain rfl:=OI h;exact Cu []
def Dr(a4:TFunc)(a8:List (Int×Aj))(i1:Int)(i21:Int):(Int×List Int×Int×List Ah×Int×List Int×List Aq)->Option (LR (Int×List Int×Int×List Ah×Int×List Int×List Aq) (List Int×Int×List Ah×Int×List Int×List Aq)):=
 fun((i35,l36,i37,l38,i39,l40,l41):(Int×List Int×Int×List Ah×Int×List Int×List Aq))=>(bif (decide (i35<(((((a4.Blocks.getD i1.toNat default).Phis).getD i21.toNat default).Args).length:Int))) then(A7 (A5 i35 ((((a4.Blocks.getD i1.toNat default).Phis).getD i21.toNat default).Args).length) ((Ef ((((a4.Blocks.getD i1.toNat default).Phis).getD i21.toNat default).Bits)).bind fun x49=>(A7 (A5 i35 ((((a4.Blocks.getD i1.toNat default).Phis).getD i21.toNat default).From).length) ((Fv (((((a4.Blocks.getD i1.toNat default).Phis).getD i21.toNat default).From).getD i35.toNat 0) (⟨l36,i37,l38⟩:TFunc) i39 l40 a8 l41).bind fun x51=>((Ep (((((a4.Blocks.getD i1.toNat default).Phis).getD i21.toNat default).Args).getD i35.toNat 0) x49 x51.1 x51.2.1 x51.2.2.1 x51.2.2.2.1 a8 x51.2.2.2.2).bind fun x52=>(some (.next ((w64 (i35+1)),x52.1.Params,x52.1.Ret,x52.1.Blocks,x52.2.1,x52.2.2.1,x52.2.2.2)))))))) else(some (.done (l36,i37,l38,i39,l40,l41))))
def Ds(a4:TFunc)(a8:List (Int×Aj))(i1:Int):(Int×List Int×Int×List Ah×Int×List Int×List Aq)->Option (LR (Int×List Int×Int×List Ah×Int×List Int×List Aq) (List Int×Int×List Ah×Int×List Int×List Aq)):=
 fun((i21,l22,i23,l24,i25,l26,l27):(Int×List Int×Int×List Ah×Int×List Int×List Aq))=>(bif (decide (i21<(((a4.Blocks.getD i1.toNat default).Phis).length:Int))) then(A7 (A5 i21 ((a4.Blocks.getD i1.toNat default).Phis).length) ((Ag (Dr a4 a8 i1 i21) ((0:Int),l22,i23,l24,i25,l26,l27)).bind (fun(l42,i43,l44,i45,l46,l47)=>(some (.next ((w64 (i21+1)),l42,i43,l44,i45,l46,l47)))))) else(some (.done (l22,i23,l24,i25,l26,l27))))
def Dt(a4:TFunc)(a8:List (Int×Aj))(i1:Int)(i57:Int)(x71:List ((Int×Int))):(Int×List Int×Int×List Ah×Int×List Int×List Aq)->Option (LR (Int×List Int×Int×List Ah×Int×List Int×List Aq) (List Int×Int×List Ah×Int×List Int×List Aq)):=
 fun((i72,l73,i74,l75,i76,l77,l78):(Int×List Int×Int×List Ah×Int×List Int×List Aq))=>(bif (decide (i72<(x71.length:Int))) then(A7 (A5 i72 x71.length) (A7 (A5 i72 ((((a4.Blocks.getD i1.toNat default).Ops).getD i57.toNat default).Args).length) ((Ep (((((a4.Blocks.getD i1.toNat default).Ops).getD i57.toNat default).Args).getD i72.toNat 0) (x71.getD i72.toNat ((0:Int),(0:Int))) (⟨i1,i57⟩:I6) (⟨l73,i74,l75⟩:TFunc) i76 l77 a8 l78).bind fun x87=>(some (.next ((w64 (i72+1)),x87.1.Params,x87.1.Ret,x87.1.Blocks,x87.2.1,x87.2.2.1,x87.2.2.2)))))) else(some (.done (l73,i74,l75,i76,l77,l78))))
def Du(a4:TFunc)(a8:List (Int×Aj))(i1:Int):(Int×List Int×Int×List Ah×Int×List Int×List Aq)->Option (LR (Int×List Int×Int×List Ah×Int×List Int×List Aq) (List Int×Int×List Ah×Int×List Int×List Aq)):=
 fun((i57,l58,i59,l60,i61,l62,l63):(Int×List Int×Int×List Ah×Int×List Int×List Aq))=>(bif (decide (i57<(((a4.Blocks.getD i1.toNat default).Ops).length:Int))) then(A7 (A5 i57 ((a4.Blocks.getD i1.toNat default).Ops).length) ((My (((a4.Blocks.getD i1.toNat default).Ops).getD i57.toNat default)).bind fun x71=>((Ag (Dt a4 a8 i1 i57 x71) ((0:Int),l58,i59,l60,i61,l62,l63)).bind (fun(l79,i80,l81,i82,l83,l84)=>(some (.next ((w64 (i57+1)),l79,i80,l81,i82,l83,l84))))))) else(some (.done (l58,i59,l60,i61,l62,l63))))
def Dv(a4:TFunc)(a8:List (Int×Aj)):(Int×List Int×Int×List Ah×Int×List Int×List Aq)->Option (LR (Int×List Int×Int×List Ah×Int×List Int×List Aq) (List Int×Int×List Ah×Int×List Int×List Aq)):=
 fun((i1,l2,i3,l4,i5,l6,l7):(Int×List Int×Int×List Ah×Int×List Int×List Aq))=>(bif (decide (i1<(a4.Blocks.length:Int))) then(Option.bind (α:=(List Int×Int×List Ah×Int×List Int×List Aq)) (A7 (A5 i1 a4.Blocks.length) ((Ag (Ds a4 a8 i1) ((0:Int),l2,i3,l4,i5,l6,l7)).bind (fun x55=>(match x55 with|(l28,i29,l30,i31,l32,l33)=>((Ag (Du a4 a8 i1) ((0:Int),l28,i29,l30,i31,l32,l33)).bind (fun x90=>(match x90 with|(l64,i65,l66,i67,l68,l69)=>(bif (((a4.Blocks.getD i1.toNat default).End.Kind:Int)==0) then((Ef i65).bind fun x92=>((Fv i1 (⟨l64,i65,l66⟩:TFunc) i67 l68 a8 l69).bind fun x93=>((Ep ((a4.Blocks.getD i1.toNat default).End.Arg) x92 x93.1 x93.2.1 x93.2.2.1 x93.2.2.2.1 a8 x93.2.2.2.2).bind fun x94=>(some (x94.1.Params,x94.1.Ret,x94.1.Blocks,x94.2.1,x94.2.2.1,x94.2.2.2))))) else(bif (((a4.Blocks.getD i1.toNat default).End.Kind:Int)==2) then((Ef (1:Int)).bind fun x95=>((Fv i1 (⟨l64,i65,l66⟩:TFunc) i67 l68 a8 l69).bind fun x96=>((Ep ((a4.Blocks.getD i1.toNat default).End.Arg) x95 x96.1 x96.2.1 x96.2.2.1 x96.2.2.2.1 a8 x96.2.2.2.2).bind fun x97=>(some (x97.1.Params,x97.1.Ret,x97.1.Blocks,x97.2.1,x97.2.2.1,x97.2.2.2))))) else(some (l64,i65,l66,i67,l68,l69))))))))))) (fun x98=>(match x98 with|(l14,i15,l16,i17,l18,l19)=>(some (.next ((w64 (i1+1)),l14,i15,l16,i17,l18,l19)))))) else(some (.done (l2,i3,l4,i5,l6,l7))))
def Q94(a4:TFunc)(i1:Int):=(a4.Blocks.getD i1.toNat default)
def Q93(a8:List (Int×Aj)):=(En (fun(v_:Aj)=>((Ug v_):AV)) a8)
def Gh(a4:TFunc)(a9:Int)(aA:List Int)(a8:List (Int×Aj))(a7:List Aq):Option (TFunc×Int×List Int×List Aq):=
 ((Ag (Dv a4 a8) ((0:Int),a4.Params,a4.Ret,a4.Blocks,a9,aA,a7)).bind (fun(l8,i9,l10,i11,l12,l13)=>(some ((⟨l8,i9,l10⟩:TFunc),i11,l12,l13))))
theorem S5(a4:TFunc)(a9:Int)(aA:List Int)(a8:List (Int×Aj))(a7:List Aq)(r:(TFunc×Int×List Int×List Aq))(h:Gh a4 a9 aA a8 a7=some r):Spec Tryz.prog 114 [Z57] [(Z1 a4.Params a4.Ret a4.Blocks a9 aA 9100005 a7),(L7 37006 149 a7.length),(9100005,.obj (.map false .i64 (En (fun(v_:Aj)=>((Ug v_):AV)) a8)))] (.tuple []) [(Z1 r.1.Params r.1.Ret r.1.Blocks r.2.1 r.2.2.1 9100005 r.2.2.2),(L7 37006 149 r.2.2.2.length),(9100005,.obj (.map false .i64 (En (fun(v_:Aj)=>((Ug v_):AV)) a8)))]:=by
 refine Ab mix Tryz.func114 (fun Γ hq=>?_);unfold Gh at h;refine Ae hq zzN86 Iw ?_;obtain⟨x100,hx100,h⟩:=bind_some h;refine gL hq hx100 zzN86 Iw (fun u (i1,l2,i3,l4,i5,l6,l7)=>(Ew u [(18,(Z7 i1))] (Z14 l2 i3 l4 i5 l6 l7 l7.length))) (fun u (l8,i9,l10,i11,l12,l13)=>aG Γ (.exit 0) (Pa [] Iw u [] (Z14 l8 i9 l10 i11 l12 l13 l13.length))) ?_ ?_
 ·rintro⟨i1,l2,i3,l4,i5,l6,l7⟩ y h;unfold Dv at h;refine Ae hq [0,16,17,18,19] Iw ?_;refine gC h ?_ ?_<;>intro h
  ·obtain⟨x98,hx98,h⟩:=bind_some h;refine gJ hx98 (fun(l14,i15,l16,i17,l18,l19)=>aG Γ .normal (⟨[(0,Z57),(16,(Z16 a4.Blocks)),(17,(Z52 a4.Blocks.length)),(18,(Z7 i1))],(Z9 l14 i15 l16 i17 l18 l19 l19.length (Q93 a8)),[]⟩:St)) ?_ ?_
   ·clear h hx98;intro y h;obtain⟨hc20,h⟩:=Aa h;refine gR hq zzN72 Qj [] [] (c1 hc20) ?_;refine Ae hq zzN36 Qj ?_;obtain⟨x55,hx55,h⟩:=bind_some h;refine gL hq hx55 zzN36 Qj (fun u (i21,l22,i23,l24,i25,l26,l27)=>(Ew u [(26,(Z7 i21))] (Z14 l22 i23 l24 i25 l26 l27 l27.length))) (fun u (l28,i29,l30,i31,l32,l33)=>aG Γ (.exit 2) (Pa zzN72 Qj u [] (Z14 l28 i29 l30 i31 l32 l33 l33.length))) ?_ ?_
    ·rintro⟨i21,l22,i23,l24,i25,l26,l27⟩ y h;unfold Ds at h;refine Ae hq [0,2,3,16,17,18,24,25,26,27] Qj ?_;refine gC h ?_ ?_<;>intro h
     ·obtain⟨hc34,h⟩:=Aa h;refine gR hq [0,2,3,5,16,17,18,24,25,26] zzN15 [] [] (c1 hc34) ?_;refine Ae hq zzN25 zzN15 ?_;obtain⟨x53,hx53,h⟩:=bind_some h;refine gL hq hx53 zzN25 zzN15 (fun u (i35,l36,i37,l38,i39,l40,l41)=>(Ew u [(33,(Z7 i35))] (Z14 l36 i37 l38 i39 l40 l41 l41.length))) (fun u (l42,i43,l44,i45,l46,l47)=>aG Γ (.exit 4) (Pa zzN36 Qj u [] (Z14 l42 i43 l44 i45 l46 l47 l47.length))) ?_ ?_
      ·rintro⟨i35,l36,i37,l38,i39,l40,l41⟩ y h;unfold Dr at h;refine Ae hq [0,2,3,5,16,17,18,24,25,26,31,32,33,34] zzN15 ?_;refine gC h ?_ ?_<;>intro h
       ·obtain⟨hc48,h⟩:=Aa h;refine gR hq [0,2,3,5,6,7,16,17,18,24,25,26,31,32,33] zzN15 [] [] (c1 hc48) ?_;obtain⟨x49,hx49,h⟩:=bind_some h;obtain⟨hc50,h⟩:=Aa h;obtain⟨x51,hx51,h⟩:=bind_some h;obtain⟨x52,hx52,h⟩:=bind_some h;refine gR hq zzN25 zzN15 [] [(Z70 x49),(Z54 x51.1 x51.2.1.Params x51.2.1.Ret x51.2.1.Blocks x51.2.2.1 x51.2.2.2.1 x51.2.2.2.2 x51.2.2.2.2.length (Q93 a8)),(Z26 x52.1.Params x52.1.Ret x52.1.Blocks x52.2.1 x52.2.2.1 x52.2.2.2 x52.2.2.2.length (Q93 a8))] (ci (Lu ((((Q94 a4 i1).Phis).getD i21.toNat default).Bits) x49 hx49) (ci hc50 (ci (Ml (((((Q94 a4 i1).Phis).getD i21.toNat default).From).getD i35.toNat 0) (⟨l36,i37,l38⟩:TFunc) i39 l40 a8 l41 x51 hx51) (c1 (Ka (((((Q94 a4 i1).Phis).getD i21.toNat default).Args).getD i35.toNat 0) x49 x51.1 x51.2.1 x51.2.2.1 x51.2.2.2.1 a8 x51.2.2.2.2 x52 hx52))))) ?_;refine Ae hq zzN25 zzN15 ?_;cases h;exact gN C1
       ·cases h;exact gO (Bm (B7 zzN36 Qj hq))
      ·clear hx53;rcases x53 with⟨l42,i43,l44,i45,l46,l47⟩;refine gA ?_;refine Ae hq zzN36 Qj ?_;cases h;exact gN C1
     ·cases h;exact gO (Bm (B7 zzN72 Qj hq))
    ·clear hx55;rcases x55 with⟨l28,i29,l30,i31,l32,l33⟩;refine gA ?_;refine Ae hq zzN37 Qj ?_;obtain⟨x90,hx90,h⟩:=bind_some h;refine gL hq hx90 zzN37 Qj (fun u (i57,l58,i59,l60,i61,l62,l63)=>(Ew u [(56,(Z7 i57))] (Z14 l58 i59 l60 i61 l62 l63 l63.length))) (fun u (l64,i65,l66,i67,l68,l69)=>aG Γ (.exit 6) (Pa zzN72 Qj u [] (Z14 l64 i65 l66 i67 l68 l69 l69.length))) ?_ ?_
     ·rintro⟨i57,l58,i59,l60,i61,l62,l63⟩ y h;unfold Du at h;refine Ae hq [0,2,3,16,17,18,54,55,56,57] Qj ?_;refine gC h ?_ ?_<;>intro h
      ·obtain⟨hc70,h⟩:=Aa h;refine gR hq [0,2,3,8,9,16,17,18,54,55,56] zzN34 [] [] (c1 hc70) ?_;obtain⟨x71,hx71,h⟩:=bind_some h;refine gR hq zzN24 zzN34 [] [(Z43 x71)] (c1 (ok_kind_Takes (((Q94 a4 i1).Ops).getD i57.toNat default) x71 hx71)) ?_;obtain⟨x88,hx88,h⟩:=bind_some h;refine gL hq hx88 zzN24 zzN34 (fun u (i72,l73,i74,l75,i76,l77,l78)=>(Ew u [(64,(Z7 i72))] (Z14 l73 i74 l75 i76 l77 l78 l78.length))) (fun u (l79,i80,l81,i82,l83,l84)=>aG Γ (.exit 8) (Pa zzN37 Qj u [] (Z14 l79 i80 l81 i82 l83 l84 l84.length))) ?_ ?_
       ·rintro⟨i72,l73,i74,l75,i76,l77,l78⟩ y h;unfold Dt at h;refine Ae hq [0,2,3,8,9,16,17,18,54,55,56,62,63,64,65] zzN34 ?_;refine gC h ?_ ?_<;>intro h
        ·obtain⟨hc85,h⟩:=Aa h;refine gR hq [0,2,3,8,9,10,11,16,17,18,54,55,56,62,63,64] [3,9,11,30000,37006,9100005] [] [] (c1 hc85) ?_;obtain⟨hc86,h⟩:=Aa h;obtain⟨x87,hx87,h⟩:=bind_some h;refine gR hq zzN24 zzN34 [] [(Z26 x87.1.Params x87.1.Ret x87.1.Blocks x87.2.1 x87.2.2.1 x87.2.2.2 x87.2.2.2.length (Q93 a8))] (ci hc86 (c1 (Ka (((((Q94 a4 i1).Ops).getD i57.toNat default).Args).getD i72.toNat 0) (x71.getD i72.toNat ((0:Int),(0:Int))) (⟨i1,i57⟩:I6) (⟨l73,i74,l75⟩:TFunc) i76 l77 a8 l78 x87 hx87))) ?_;refine Ae hq zzN24 zzN34 ?_;cases h;exact gN C1
        ·cases h;exact gO (Bm (B7 zzN37 Qj hq))
       ·clear hx88;rcases x88 with⟨l79,i80,l81,i82,l83,l84⟩;refine gA ?_;refine Ae hq zzN37 Qj ?_;cases h;exact gN C1
      ·cases h;exact gO (Bm (B7 zzN72 Qj hq))
     ·clear hx90;rcases x90 with⟨l64,i65,l66,i67,l68,l69⟩;refine gA ?_;refine Ae hq [0,2,3,16,17,18,84] Qj ?_;refine Ae hq [0,2,3,16,17,18,84,85] Qj ?_;refine gC h ?_ ?_<;>intro h
      ·obtain⟨x92,hx92,h⟩:=bind_some h;obtain⟨x93,hx93,h⟩:=bind_some h;obtain⟨x94,hx94,h⟩:=bind_some h;refine gR hq zzN86 Iw [] [(Z70 x92),(Z54 x93.1 x93.2.1.Params x93.2.1.Ret x93.2.1.Blocks x93.2.2.1 x93.2.2.2.1 x93.2.2.2.2 x93.2.2.2.2.length (Q93 a8)),(Z26 x94.1.Params x94.1.Ret x94.1.Blocks x94.2.1 x94.2.2.1 x94.2.2.2 x94.2.2.2.length (Q93 a8))] (ci (Lu i65 x92 hx92) (ci (Ml i1 (⟨l64,i65,l66⟩:TFunc) i67 l68 a8 l69 x93 hx93) (c1 (Ka ((Q94 a4 i1).End.Arg) x92 x93.1 x93.2.1 x93.2.2.1 x93.2.2.2.1 a8 x93.2.2.2.2 x94 hx94)))) ?_;cases h;exact gK (Bm C1)
      ·refine Ae hq [0,2,3,16,17,18,101] Qj ?_;refine gC h ?_ ?_<;>intro h
       ·obtain⟨x95,hx95,h⟩:=bind_some h;obtain⟨x96,hx96,h⟩:=bind_some h;obtain⟨x97,hx97,h⟩:=bind_some h;refine gR hq zzN86 Iw [] [(Z70 x95),(Z54 x96.1 x96.2.1.Params x96.2.1.Ret x96.2.1.Blocks x96.2.2.1 x96.2.2.2.1 x96.2.2.2.2 x96.2.2.2.2.length (Q93 a8)),(Z26 x97.1.Params x97.1.Ret x97.1.Blocks x97.2.1 x97.2.2.1 x97.2.2.2 x97.2.2.2.length (Q93 a8))] (ci (Lu (1:Int) x95 hx95) (ci (Ml i1 (⟨l64,i65,l66⟩:TFunc) i67 l68 a8 l69 x96 hx96) (c1 (Ka ((Q94 a4 i1).End.Arg) x95 x96.1 x96.2.1 x96.2.2.1 x96.2.2.2.1 a8 x96.2.2.2.2 x97 hx97)))) ?_;cases h;exact gK (Bm C1)
       ·cases h;exact gK (Bm (B7 zzN86 Iw hq))
   ·clear hx98;rcases x98 with⟨l14,i15,l16,i17,l18,l19⟩;refine gA ?_;refine Ae hq zzN86 Iw ?_;cases h;exact gN C1
  ·cases h;exact gO (Bm (B7 [] Iw hq))
 ·clear hx100;rcases x100 with⟨l8,i9,l10,i11,l12,l13⟩;refine gA' (fun st' hl101=>?_);cases h;exact gK (e:=.normal) (Kf Zn hl101)
def Ir(aQ:Aq)(a4:TFunc)(a9:Int)(aA:List Int)(a8:List (Int×Aj))(a7:List Aq):Option (Bool×TFunc×Int×List Int×List Aq):=
 (some ((Gb a8 aQ.v),a4,a9,aA,a7))
theorem S8(aQ:Aq)(a4:TFunc)(a9:Int)(aA:List Int)(a8:List (Int×Aj))(a7:List Aq)(r:(Bool×TFunc×Int×List Int×List Aq))(h:Ir aQ a4 a9 aA a8 a7=some r):Spec Tryz.prog 115 [Z57,(.agg (M9 aQ))] [(Z1 a4.Params a4.Ret a4.Blocks a9 aA 9100005 a7),(L7 37006 149 a7.length),(9100005,.obj (.map false .i64 (En (fun(v_:Aj)=>((Ug v_):AV)) a8)))] (.bool r.1) [(Z1 r.2.1.Params r.2.1.Ret r.2.1.Blocks r.2.2.1 r.2.2.2.1 9100005 r.2.2.2.2),(L7 37006 149 r.2.2.2.2.length),(9100005,.obj (.map false .i64 (En (fun(v_:Aj)=>((Ug v_):AV)) a8)))]:=by
 refine Ab mix Tryz.func115 (fun Γ hq=>?_);unfold Ir at h;refine Ae hq Qr Qj ?_;refine gR hq [6] Iw [(14,(.tuple [(Z34 a8 aQ.v),(.bool (Gb a8 aQ.v))]))] [] (c1 (show(AVle (.tuple [Hy (.agg [Qs,Qs,Qs,Qs]) (En (fun(v_:Aj)=>((Ug v_):AV)) a8) aQ.v,.bool (Gb (En (fun(v_:Aj)=>((Ug v_):AV)) a8) aQ.v)]) (.tuple [(Z34 a8 aQ.v),(.bool (Gb a8 aQ.v))])) from(mlook_le (f:=(fun(v_:Aj)=>((Ug v_):AV))) (l:=a8) (AVle.refl _) rfl))) ?_;refine Ae hq [4] Iw ?_;cases h;exact Cu Zn
def J7(aQ:Aq)(a4:TFunc)(a9:Int)(aA:List Int)(a8:List (Int×Aj))(a7:List Aq):Option (Bool×TFunc×Int×List Int×List Aq):=
 (some (((((Hy (default:Aj) a8 aQ.v).shape.1:Int)==aQ.shape.1)&&((((Hy (default:Aj) a8 aQ.v).shape.2:Int)==aQ.shape.2)&&true)),a4,a9,aA,a7))
theorem Wj(aQ:Aq)(a4:TFunc)(a9:Int)(aA:List Int)(a8:List (Int×Aj))(a7:List Aq)(r:(Bool×TFunc×Int×List Int×List Aq))(h:J7 aQ a4 a9 aA a8 a7=some r):Spec Tryz.prog 116 [Z57,(.agg (M9 aQ))] [(Z1 a4.Params a4.Ret a4.Blocks a9 aA 9100005 a7),(L7 37006 149 a7.length),(9100005,.obj (.map false .i64 (En (fun(v_:Aj)=>((Ug v_):AV)) a8)))] (.bool r.1) [(Z1 r.2.1.Params r.2.1.Ret r.2.1.Blocks r.2.2.1 r.2.2.2.1 9100005 r.2.2.2.2),(L7 37006 149 r.2.2.2.2.length),(9100005,.obj (.map false .i64 (En (fun(v_:Aj)=>((Ug v_):AV)) a8)))]:=by
 refine Ab mix Tryz.func116 (fun Γ hq=>?_);unfold J7 at h;refine Ae hq Qr Qj ?_;refine gR hq [4] Iw [(11,(Z34 a8 aQ.v))] [] (c1 (show(AVle (Hy (.agg [Qs,Qs,Qs,Qs]) (En (fun(v_:Aj)=>((Ug v_):AV)) a8) aQ.v) (Z34 a8 aQ.v)) from(mget_le (f:=(fun(v_:Aj)=>((Ug v_):AV))) (l:=a8) (AVle.refl _) rfl))) ?_;cases h;exact Cu Zn
def Cf(aL:List Int)(aC:Int):Int->Option (LR Int (Unit ⊕ Int)):=
 fun(i1:Int)=>(bif (decide (i1<(aL.length:Int))) then(A7 (A5 i1 aL.length) (bif (aC==(aL.getD i1.toNat 0)) then(some (.done (.inr i1))) else(some (.next (w64 (i1+1)))))) else(some (.done (.inl ()))))
def Ue(Γ:Ix)(aL:List Int)(aC:Int)(r:Int):Exit->St->Prop:=fK Tryz.prog Γ Tryz.f131.results.toList [] (.int .i64 r) []
def Fs(aL:List Int)(aC:Int):Option Int:=
 ((Ag (Cf aL aC) (0:Int)).bind (fun x3=>(match x3 with|(.inl _)=>(some (-1:Int))|(.inr r5)=>(some r5))))
theorem Ty(aL:List Int)(aC:Int)(r:Int)(h:Fs aL aC=some r):Spec Tryz.prog 131 [(Z8 aL),(Z7 aC)] [] (.int .i64 r) []:=by
 refine Ab mix Tryz.func131 (fun Γ hq=>?_);unfold Fs at h;refine Ae hq Jo [] ?_;refine Ae hq zzN108 [] ?_;obtain⟨x3,hx3,h⟩:=bind_some h;refine gL hq hx3 zzN108 [] (fun u i1=>(Ew u [(8,(Z7 i1))] [])) (fun u x_=>match x_ with|(.inl _)=>aG Γ (.exit 0) (⟨[],[],[]⟩:St)|(.inr r_)=>aR (Ue Γ aL aC r_)) ?_ ?_
 ·intro i1 y h;unfold Cf at h;refine Ae hq [0,1,7,8,9] [] ?_;refine gC h ?_ ?_<;>intro h
  ·refine Ae hq [0,1,5,7,8] [] ?_;obtain⟨hc2,h⟩:=Aa h;refine gR hq [0,1,5,7,8,16] [] [] [] (c1 hc2) ?_;refine gC h ?_ ?_<;>intro h
   ·refine Ae hq [4] [] ?_;cases h;exact gO (L8 (Kf [] (Le.refl _ _)))
   ·refine Ae hq zzN108 [] ?_;cases h;exact gN C1
  ·cases h;exact gO (Bm (B7 [] [] hq))
 ·clear hx3;rcases x3 with _|r5
  ·refine gA ?_;refine Ae hq [4] [] ?_;cases h;exact Cu []
  ·refine Ol (fun st' hk=>?_);obtain rfl:=OI h;exact gK hk
def Kg(a6:List Int)(aE:Int):Option Bool:=
 (some (bif (decide (((0:Int):Int)<=aE)) then(decide (aE<(a6.length:Int))) else false))
theorem Xs(a6:List Int)(aE:Int)(r:Bool)(h:Kg a6 aE=some r):Spec Tryz.prog 133 [(Z8 a6),(Z7 aE)] [] (.bool r) []:=by
 refine Ab mix Tryz.func133 (fun Γ hq=>?_);unfold Kg at h;refine Ae hq Jo [] ?_;refine gR hq [4] [] [] [] (ci (gI ((decide (((0:Int):Int)<=aE))==true)) (ci (gI ((decide (((0:Int):Int)<=aE))==true)) (ci (gI ((decide (((0:Int):Int)<=aE))==true)) (c1 (Nb (decide (((0:Int):Int)<=aE))))))) ?_;cases h;exact Cu []
def D0(a6:List Int)(aa6:Int)(aZ:Int):(Int×List Int)->Option (LR (Int×List Int) (List Int ⊕ (Bool×List Int))):=
 fun((i1,l2):(Int×List Int))=>(bif (i1 !=aZ) then(A7 (A5 i1 l2.length) (bif (((l2.getD i1.toNat 0):Int)!=0) then(A7 (A5 i1 l2.length) (some (.done (.inr ((((l2.getD i1.toNat 0):Int)!=(w64 (aa6+1))),l2))))) else(A7 (A5 i1 a6.length) ((Kg a6 (a6.getD i1.toNat 0)).bind fun x7=>(bif (!x7) then(some (.done (.inr (false,l2)))) else(A7 (A5 i1 l2.length) (A7 (A5 i1 a6.length) (some (.next ((a6.getD i1.toNat 0),(l2.set i1.toNat (w64 (aa6+1))))))))))))) else(some (.done (.inl l2))))
def K_dom_leads(Γ:Ix)(a6:List Int)(aaI:List Int)(aa6:Int)(aZ:Int)(r:(Bool×List Int)):Exit->St->Prop:=fK Tryz.prog Γ Tryz.f132.results.toList [(Z4 34001 aaI)] (.bool r.1) [(Z4 34001 r.2)]
def P6(a6:List Int)(aaI:List Int)(aa6:Int)(aZ:Int):Option (Bool×List Int):=
 ((Ag (D0 a6 aa6 aZ) (aa6,aaI)).bind (fun x10=>(match x10 with|(.inl l3)=>(some (true,l3))|(.inr r12)=>(some r12))))
theorem ok_dom_leads(a6:List Int)(aaI:List Int)(aa6:Int)(aZ:Int)(r:(Bool×List Int))(h:P6 a6 aaI aa6 aZ=some r):Spec Tryz.prog 132 [(Z8 a6),(.vsl 34001 aaI.length),(Z7 aa6),(Z7 aZ)] [(Z4 34001 aaI)] (.bool r.1) [(Z4 34001 r.2)]:=by
 refine Ab mix Tryz.func132 (fun Γ hq=>?_);unfold P6 at h;refine Ae hq [0,1,2,3] [34001] ?_;refine Ae hq [0,1,2,3,9] [34001] ?_;refine Ae hq zzN120 [34001] ?_;obtain⟨x10,hx10,h⟩:=bind_some h;refine gL hq hx10 zzN120 [34001] (fun u (i1,l2)=>(Ew u [(1,(.vsl 34001 l2.length)),(10,(Z7 i1))] [(Z4 34001 l2)])) (fun u x_=>match x_ with|(.inl l3)=>aG Γ (.exit 0) (⟨[],[(Z4 34001 l3)],[]⟩:St)|(.inr r_)=>aR (K_dom_leads Γ a6 aaI aa6 aZ r_)) ?_ ?_
 ·rintro⟨i1,l2⟩ y h;unfold D0 at h;refine Ae hq [0,1,3,9,10,16] [34001] ?_;refine gC h ?_ ?_<;>intro h
  ·obtain⟨hc4,h⟩:=Aa h;refine gR hq [0,1,3,9,10,25] [34001] [] [] (ci hc4 (c1 (Eq.refl l2.length))) ?_;refine gC h ?_ ?_<;>intro h
   ·obtain⟨hc5,h⟩:=Aa h;refine gR hq [8] [34001] [] [] (ci hc5 (c1 (Eq.refl l2.length))) ?_;cases h;exact gO (L8 (Kf zzN154 (Le.refl _ _)))
   ·obtain⟨hc6,h⟩:=Aa h;obtain⟨x7,hx7,h⟩:=bind_some h;refine gR hq [0,1,3,9,10,38] [34001] [] [(Z2 x7)] (ci hc6 (c1 (Xs a6 (a6.getD i1.toNat 0) x7 hx7))) ?_;refine gC h ?_ ?_<;>intro h
    ·refine Ae hq [8] [34001] ?_;cases h;exact gO (L8 (Kf zzN154 (Le.refl _ _)))
    ·obtain⟨hc8,h⟩:=Aa h;refine gR hq zzN120 [34001] [] [] (ci hc8 (c1 (Eq.refl l2.length))) ?_;refine Oi (Le.trans (Wg 34001 (show ∀ k_,k_<l2.length->AVleL ((fun i_=>AV.eraseAll (fun n_=>D2 n_ [34001]) ((Gx (fun i=>As (l2.getD i 0)) i1.toNat 0 [(.int .i64 (w64 (aa6+1)))]) i_)) k_) ((fun i=>As ((l2.set i1.toNat (w64 (aa6+1))).getD i 0)) k_) from(Ci (G2 ..).symm (fun k_ hk_=>(Cl (AV.eraseAll (fun n_=>D2 n_ [34001])) ((Kb (fun _ _=>rfl) (L1 hc8) rfl) k_ hk_)).trans rfl)))) (Wh (fun(k_:Nat) u=>(Ew u [(1,(.vsl 34001 k_))] [(34001,.arr 1 3 k_ (fun i=>As ((l2.set i1.toNat (w64 (aa6+1))).getD i 0)))])) (show l2.length=(l2.set i1.toNat (w64 (aa6+1))).length from(G2 ..).symm))) ?_;obtain⟨hc9,h⟩:=Aa h;refine gR hq zzN120 [34001] [] [] (c1 hc9) ?_;cases h;exact gN C1
  ·cases h;exact gO (Bm (B7 [] [34001] hq))
 ·clear hx10;rcases x10 with l3|r12
  ·refine gA ?_;refine Ae hq [8] [34001] ?_;cases h;exact Cu zzN154
  ·refine Ol (fun st' hk=>?_);obtain rfl:=OI h;exact gK hk
def F9(a6:List Int)(x1:Int):(Int×List Int)->Option (LR (Int×List Int) (Unit ⊕ Bool)):=
 fun((i3,l4):(Int×List Int))=>(bif (decide (i3<(a6.length:Int))) then(A7 (A5 i3 a6.length) ((bif ((((a6.getD i3.toNat 0):Int)!=-2)==true) then P6 a6 l4 i3 x1 else some (false,[])).bind fun x6=>(A7 (((((a6.getD i3.toNat 0):Int)!=-2)==true)=true->(l4.length=x6.2.length)) (bif (bif (((a6.getD i3.toNat 0):Int)!=-2) then(!x6.1) else false) then(some (.done (.inr false))) else(some (.next ((w64 (i3+1)),(bif ((((a6.getD i3.toNat 0):Int)!=-2)==true) then x6.2 else l4)))))))) else(some (.done (.inl ()))))
def K_dom_isTree(Γ:Ix)(a6:List Int)(r:Bool):Exit->St->Prop:=fK Tryz.prog Γ Tryz.f98.results.toList [] (.bool r) []
def Q97(a6:List Int)(i3:Int):=((((a6.getD i3.toNat 0):Int)!=-2)==true)
def Ow(a6:List Int):Option Bool:=
 ((Fs a6 (-1:Int)).bind fun x1=>(bif (decide (x1<0)) then(some false) else(A7 (0<=(a6.length:Int)/\(a6.length:Int)<=(a6.length:Int)/\(a6.length:Int)<=(room:Int)) ((Ag (F9 a6 x1) ((0:Int),(List.replicate (a6.length:Int).toNat (0:Int)))).bind (fun x8=>(match x8 with|(.inl _)=>(some true)|(.inr r10)=>(some r10)))))))
theorem ok_dom_isTree(a6:List Int)(r:Bool)(h:Ow a6=some r):Spec Tryz.prog 98 [(Z8 a6)] [] (.bool r) []:=by
 refine Ab mix Tryz.func98 (fun Γ hq=>?_);unfold Ow at h;refine Ae hq [0] [] ?_;obtain⟨x1,hx1,h⟩:=bind_some h;refine gR hq Qr [] [] [(Z19 x1)] (c1 (Ty a6 (-1:Int) x1 hx1)) ?_;refine Ae hq [0,3,9] [] ?_;refine gC h ?_ ?_<;>intro h
 ·refine Ae hq [2] [] ?_;obtain rfl:=OI h;exact Cu []
 ·obtain⟨hc2,h⟩:=Aa h;refine gR hq zzN121 [12] [] [] (c1 hc2) ?_;refine Oi (Le.trans (Wg 12 (show ∀ k_,k_<((a6.length:Int).toNat)->AVleL ((fun i_=>AV.eraseAll (fun n_=>D2 n_ [12]) ((fun _=>[Qs]) i_)) k_) ((fun i=>As ((List.replicate (a6.length:Int).toNat (0:Int)).getD i 0)) k_) from(fun k hk=>Qv (e:=As) (d:=(0:Int)) (.cons (AVle.refl _) .nil) _ k (Qx hk)))) (Wh (fun(k_:Nat) u=>(Ew u [(4,(.vsl 12 k_))] [(12,.arr 1 3 k_ (fun i=>As ((List.replicate (a6.length:Int).toNat (0:Int)).getD i 0)))])) (show(a6.length:Int).toNat=(List.replicate (a6.length:Int).toNat (0:Int)).length from(Qm ..).symm))) ?_;refine Ae hq zzN149 [12] ?_;obtain⟨x8,hx8,h⟩:=bind_some h;refine gL hq hx8 zzN149 [12] (fun u (i3,l4)=>(Ew u [(4,(.vsl 12 l4.length)),(15,(Z7 i3))] [(Z4 12 l4)])) (fun u x_=>match x_ with|(.inl _)=>aG Γ (.exit 0) (⟨[],[],[]⟩:St)|(.inr r_)=>aR (K_dom_isTree Γ a6 r_)) ?_ ?_
  ·rintro⟨i3,l4⟩ y h;unfold F9 at h;refine Ae hq [0,3,4,14,15,16] [12] ?_;refine gC h ?_ ?_<;>intro h
   ·refine Ae hq [0,3,4,5,14,15] [12] ?_;obtain⟨hc5,h⟩:=Aa h;obtain⟨x6,hx6,h⟩:=bind_some h;obtain⟨hc7,h⟩:=Aa h;refine gR hq [0,3,4,14,15,30] [12] [] [⟨[(12,34001)],[],(.bool x6.1),[(Z4 34001 x6.2)],[],[]⟩] (ci hc5 (ci (gI (Q97 a6 i3)) (ci (gI (Q97 a6 i3)) (ci (gI (Q97 a6 i3)) (ci (gI (Q97 a6 i3)) (ci (fun(hg:(Q97 a6 i3)=true)=>(ok_dom_leads a6 l4 i3 x1 x6 (Bh hg hx6))) (ci (gI (Q97 a6 i3)) (c1 (Nb (((a6.getD i3.toNat 0):Int)!=-2)))))))))) ?_;refine Oi (Le.trans (Wg 12 (show ∀ k_,k_<(bif (Q97 a6 i3) then x6.2.length else l4.length)->AVleL ((fun i_=>AV.eraseAll (fun n_=>D2 n_ [12]) ((fun i=>bif (Q97 a6 i3) then(fun i=>As (x6.2.getD i 0)) i else(fun i=>As (l4.getD i 0)) i) i_)) k_) ((fun i=>As ((bif (Q97 a6 i3) then x6.2 else l4).getD i 0)) k_) from(Ci bif_len (fun k_ hk_=>(Cl (AV.eraseAll (fun n_=>D2 n_ [12])) ((fun _ _=>bif_row) k_ hk_)).trans rfl)))) (Le.trans (Wh (fun(k_:Nat) u=>(Ew u [] [(12,.arr 1 3 k_ (fun i=>As ((bif (Q97 a6 i3) then x6.2 else l4).getD i 0)))])) (show(bif (Q97 a6 i3) then x6.2.length else l4.length)=(bif (Q97 a6 i3) then x6.2 else l4).length from bif_len)) (Wh (fun(k_:Nat) u=>(Ew u [(4,(.vsl 12 k_))] [])) (show l4.length=(bif (Q97 a6 i3) then x6.2 else l4).length from(bif_was hc7))))) ?_;refine gC h ?_ ?_<;>intro h
    ·refine Ae hq [2] [] ?_;cases h;exact gO (L8 (Kf [] (Le.refl _ _)))
    ·refine Ae hq zzN149 [12] ?_;cases h;exact gN C1
   ·cases h;exact gO (Bm (B7 [] [] hq))
  ·clear hx8;rcases x8 with _|r10
   ·refine gA ?_;refine Ae hq [2] [] ?_;obtain rfl:=OI h;exact Cu []
   ·refine Ol (fun st' hk=>?_);obtain rfl:=OI h;exact gK hk
def Ku(a6:List Int)(aE:Int):Option Bool:=
 ((Kg a6 aE).bind fun x1=>(A7 ((x1==true)=true->(A5 aE a6.length)) (some (bif x1 then(((a6.getD aE.toNat 0):Int)!=-2) else false))))
theorem Vw(a6:List Int)(aE:Int)(r:Bool)(h:Ku a6 aE=some r):Spec Tryz.prog 99 [(Z8 a6),(Z7 aE)] [] (.bool r) []:=by
 refine Ab mix Tryz.func99 (fun Γ hq=>?_);unfold Ku at h;refine Ae hq Jo [] ?_;obtain⟨x1,hx1,h⟩:=bind_some h;obtain⟨hc2,h⟩:=Aa h;refine gR hq [4] [] [] [(Z2 x1)] (ci (Xs a6 aE x1 hx1) (ci (gI (x1==true)) (ci (gI (x1==true)) (ci hc2 (ci (gI (x1==true)) (ci (gI (x1==true)) (c1 (Nb x1)))))))) ?_;cases h;exact Cu []
def P5(a6:List Int)(aH:Int)(aJ:Int):Option Bool:=
 ((Ow a6).bind fun x1=>((bif (x1==true) then Ku a6 aH else some false).bind fun x2=>((bif ((bif x1 then x2 else false)==true) then Ku a6 aJ else some false).bind fun x3=>(some (bif (bif x1 then x2 else false) then x3 else false)))))
theorem ok_dom_areIn(a6:List Int)(aH:Int)(aJ:Int)(r:Bool)(h:P5 a6 aH aJ=some r):Spec Tryz.prog 76 [(Z8 a6),(Z7 aH),(Z7 aJ)] [] (.bool r) []:=by
 refine Ab mix Tryz.func76 (fun Γ hq=>?_);unfold P5 at h;refine Ae hq zzN161 [] ?_;obtain⟨x1,hx1,h⟩:=bind_some h;obtain⟨x2,hx2,h⟩:=bind_some h;obtain⟨x3,hx3,h⟩:=bind_some h;refine gR hq [6] [] [] [(Z2 x1),(Z2 x2),(Z2 x3)] (ci (ok_dom_isTree a6 x1 hx1) (ci (gI (x1==true)) (ci (gI (x1==true)) (ci (fun(hg:(x1==true)=true)=>(Vw a6 aH x2 (Bh hg hx2))) (ci (Nb x1) (ci (gI ((bif x1 then x2 else false)==true)) (ci (gI ((bif x1 then x2 else false)==true)) (ci (fun(hg:((bif x1 then x2 else false)==true)=true)=>(Vw a6 aJ x3 (Bh hg hx3))) (c1 (Nb (bif x1 then x2 else false))))))))))) ?_;cases h;exact Cu []
def Pl(a6:List Int)(aH:Int)(aJ:Int):Option Bool:=
 ((P5 a6 aH aJ).bind fun x1=>((bif (x1==true) then N7 a6 aH aJ else some (0:Int)).bind fun x2=>(some (bif x1 then(x2==aH) else false))))
theorem ok_dom_Over(a6:List Int)(aH:Int)(aJ:Int)(r:Bool)(h:Pl a6 aH aJ=some r):Spec Tryz.prog 45 [(Z8 a6),(Z7 aH),(Z7 aJ)] [] (.bool r) []:=by
 refine Ab mix Tryz.func45 (fun Γ hq=>?_);unfold Pl at h;refine Ae hq zzN161 [] ?_;obtain⟨x1,hx1,h⟩:=bind_some h;obtain⟨x2,hx2,h⟩:=bind_some h;refine gR hq [6] [] [] [(Z2 x1),(Z19 x2)] (ci (ok_dom_areIn a6 aH aJ x1 hx1) (ci (gI (x1==true)) (ci (gI (x1==true)) (ci (gI (x1==true)) (ci (fun(hg:(x1==true)=true)=>(ok_dom_meet a6 aH aJ x2 (Bh hg hx2))) (ci (gI (x1==true)) (ci (gI (x1==true)) (c1 (Nb x1))))))))) ?_;cases h;exact Cu []
def Gj(aQ:Aq)(a4:TFunc)(a9:Int)(aA:List Int)(a8:List (Int×Aj))(a7:List Aq):Option (Bool×TFunc×Int×List Int×List Aq):=
 (bif (((Hy (default:Aj) a8 aQ.v).place.block:Int)==aQ.place.block) then(some ((decide (((Hy (default:Aj) a8 aQ.v).place.at_:Int)<aQ.place.at_)),a4,a9,aA,a7)) else((Pl aA ((Hy (default:Aj) a8 aQ.v).place.block) aQ.place.block).bind fun x1=>(some (x1,a4,a9,aA,a7))))
theorem S7(aQ:Aq)(a4:TFunc)(a9:Int)(aA:List Int)(a8:List (Int×Aj))(a7:List Aq)(r:(Bool×TFunc×Int×List Int×List Aq))(h:Gj aQ a4 a9 aA a8 a7=some r):Spec Tryz.prog 117 [Z57,(.agg (M9 aQ))] [(Z1 a4.Params a4.Ret a4.Blocks a9 aA 9100005 a7),(L7 37006 149 a7.length),(9100005,.obj (.map false .i64 (En (fun(v_:Aj)=>((Ug v_):AV)) a8)))] (.bool r.1) [(Z1 r.2.1.Params r.2.1.Ret r.2.1.Blocks r.2.2.1 r.2.2.2.1 9100005 r.2.2.2.2),(L7 37006 149 r.2.2.2.2.length),(9100005,.obj (.map false .i64 (En (fun(v_:Aj)=>((Ug v_):AV)) a8)))]:=by
 refine Ab mix Tryz.func117 (fun Γ hq=>?_);unfold Gj at h;refine Ae hq Qr Qj ?_;refine gR hq [0,3,5] zzN15 [(12,(Z34 a8 aQ.v))] [] (c1 (show(AVle (Hy (.agg [Qs,Qs,Qs,Qs]) (En (fun(v_:Aj)=>((Ug v_):AV)) a8) aQ.v) (Z34 a8 aQ.v)) from(mget_le (f:=(fun(v_:Aj)=>((Ug v_):AV))) (l:=a8) (AVle.refl _) rfl))) ?_;refine Ae hq [0,3,5,19] zzN15 ?_;refine gC h ?_ ?_<;>intro h
 ·refine Ae hq [4] Iw ?_;cases h;exact Cu Zn
 ·obtain⟨x1,hx1,h⟩:=bind_some h;refine gR hq [4] Iw [] [(Z2 x1)] (c1 (ok_dom_Over aA ((Hy (default:Aj) a8 aQ.v).place.block) aQ.place.block x1 hx1)) ?_;cases h;exact Cu Zn
def Dx(a8:List (Int×Aj))(x8:(TFunc×Int×List Int×List Aq)):(Int×List Int×Int×List Ah×Int×List Int×List Aq)->Option (LR (Int×List Int×Int×List Ah×Int×List Int×List Aq) ((List Int×Int×List Ah×Int×List Int×List Aq) ⊕ (List Int×Int×List Ah×Int×List Int×List Aq))):=
 fun((i9,l10,i11,l12,i13,l14,l15):(Int×List Int×Int×List Ah×Int×List Int×List Aq))=>(bif (decide (i9<(x8.2.2.2.length:Int))) then(A7 (A5 i9 x8.2.2.2.length) ((Ir (x8.2.2.2.getD i9.toNat default) (⟨l10,i11,l12⟩:TFunc) i13 l14 a8 l15).bind fun x29=>(bif (!x29.1) then(some (.done (.inr (x29.2.1.Params,x29.2.1.Ret,x29.2.1.Blocks,x29.2.2.1,x29.2.2.2.1,x29.2.2.2.2)))) else(some (.next ((w64 (i9+1)),x29.2.1.Params,x29.2.1.Ret,x29.2.1.Blocks,x29.2.2.1,x29.2.2.2.1,x29.2.2.2.2)))))) else(some (.done (.inl (l10,i11,l12,i13,l14,l15)))))
def Dy(a8:List (Int×Aj))(l21:List Aq):(Int×List Int×Int×List Ah×Int×List Int×List Aq)->Option (LR (Int×List Int×Int×List Ah×Int×List Int×List Aq) ((List Int×Int×List Ah×Int×List Int×List Aq) ⊕ (List Int×Int×List Ah×Int×List Int×List Aq))):=
 fun((i32,l33,i34,l35,i36,l37,l38):(Int×List Int×Int×List Ah×Int×List Int×List Aq))=>(bif (decide (i32<(l21.length:Int))) then(A7 (A5 i32 l21.length) ((J7 (l21.getD i32.toNat default) (⟨l33,i34,l35⟩:TFunc) i36 l37 a8 l38).bind fun x52=>(bif (!x52.1) then(some (.done (.inr (x52.2.1.Params,x52.2.1.Ret,x52.2.1.Blocks,x52.2.2.1,x52.2.2.2.1,x52.2.2.2.2)))) else(some (.next ((w64 (i32+1)),x52.2.1.Params,x52.2.1.Ret,x52.2.1.Blocks,x52.2.2.1,x52.2.2.2.1,x52.2.2.2.2)))))) else(some (.done (.inl (l33,i34,l35,i36,l37,l38)))))
def Dz(a8:List (Int×Aj))(l44:List Aq):(Int×List Int×Int×List Ah×Int×List Int×List Aq)->Option (LR (Int×List Int×Int×List Ah×Int×List Int×List Aq) ((List Int×Int×List Ah×Int×List Int×List Aq) ⊕ (List Int×Int×List Ah×Int×List Int×List Aq))):=
 fun((i55,l56,i57,l58,i59,l60,l61):(Int×List Int×Int×List Ah×Int×List Int×List Aq))=>(bif (decide (i55<(l44.length:Int))) then(A7 (A5 i55 l44.length) ((Gj (l44.getD i55.toNat default) (⟨l56,i57,l58⟩:TFunc) i59 l60 a8 l61).bind fun x75=>(bif (!x75.1) then(some (.done (.inr (x75.2.1.Params,x75.2.1.Ret,x75.2.1.Blocks,x75.2.2.1,x75.2.2.2.1,x75.2.2.2.2)))) else(some (.next ((w64 (i55+1)),x75.2.1.Params,x75.2.1.Ret,x75.2.1.Blocks,x75.2.2.1,x75.2.2.2.1,x75.2.2.2.2)))))) else(some (.done (.inl (l56,i57,l58,i59,l60,l61)))))
def Kr :(Int×List Int×Int×List Ah×Int×List Int×List Aq)->Option (LR (Int×List Int×Int×List Ah×Int×List Int×List Aq) (Int×TFunc×Int×List Int×List Aq)):=
 fun(s_:(Int×List Int×Int×List Ah×Int×List Int×List Aq))=>match s_ with|(i1,l2,i3,l4,i5,l6,l7)=>(some (.done (i1,(⟨l2,i3,l4⟩:TFunc),i5,l6,l7)))
def Wz(Γ:Ix)(a4:TFunc)(a9:Int)(aA:List Int)(a8:List (Int×Aj))(a7:List Aq)(r:(Int×TFunc×Int×List Int×List Aq)):Exit->St->Prop:=fK Tryz.prog Γ Tryz.f93.results.toList [(Z1 a4.Params a4.Ret a4.Blocks a9 aA 9100005 a7),(L7 37006 149 a7.length),(9100005,.obj (.map false .i64 (En (fun(v_:Aj)=>((Ug v_):AV)) a8)))] (Z7 r.1) [(Z1 r.2.1.Params r.2.1.Ret r.2.1.Blocks r.2.2.1 r.2.2.2.1 9100005 r.2.2.2.2),(L7 37006 149 r.2.2.2.2.length),(9100005,.obj (.map false .i64 (En (fun(v_:Aj)=>((Ug v_):AV)) a8)))]
def Q98(a8:List (Int×Aj)):=(En (fun(v_:Aj)=>((Ug v_):AV)) a8)
def H9(a4:TFunc)(a9:Int)(aA:List Int)(a8:List (Int×Aj))(a7:List Aq):Option (Int×TFunc×Int×List Int×List Aq):=
 ((Pq (S:=(Int×List Int×Int×List Ah×Int×List Int×List Aq)) (X:=(Int×TFunc×Int×List Int×List Aq)) ((Gh a4 a9 aA a8 a7).bind fun x8=>((Ag (Dx a8 x8) ((0:Int),x8.1.Params,x8.1.Ret,x8.1.Blocks,x8.2.1,x8.2.2.1,x8.2.2.2)).bind (fun x30=>(match x30 with|(.inl (l16,i17,l18,i19,l20,l21))=>((Ag (Dy a8 l21) ((0:Int),l16,i17,l18,i19,l20,l21)).bind (fun x53=>(match x53 with|(.inl (l39,i40,l41,i42,l43,l44))=>((Ag (Dz a8 l44) ((0:Int),l39,i40,l41,i42,l43,l44)).bind (fun x76=>(match x76 with|(.inl (l62,i63,l64,i65,l66,l67))=>(some (.done ((0:Int),(⟨l62,i63,l64⟩:TFunc),i65,l66,l67)))|(.inr (l68,i69,l70,i71,l72,l73))=>(some (.next ((7:Int),l68,i69,l70,i71,l72,l73))))))|(.inr (l45,i46,l47,i48,l49,l50))=>(some (.next ((6:Int),l45,i46,l47,i48,l49,l50))))))|(.inr (l22,i23,l24,i25,l26,l27))=>(some (.next ((7:Int),l22,i23,l24,i25,l26,l27))))))) Kr).bind (fun x81=>(some x81)))
theorem Wl(a4:TFunc)(a9:Int)(aA:List Int)(a8:List (Int×Aj))(a7:List Aq)(r:(Int×TFunc×Int×List Int×List Aq))(h:H9 a4 a9 aA a8 a7=some r):Spec Tryz.prog 93 [Z57] [(Z1 a4.Params a4.Ret a4.Blocks a9 aA 9100005 a7),(L7 37006 149 a7.length),(9100005,.obj (.map false .i64 (En (fun(v_:Aj)=>((Ug v_):AV)) a8)))] (Z7 r.1) [(Z1 r.2.1.Params r.2.1.Ret r.2.1.Blocks r.2.2.1 r.2.2.2.1 9100005 r.2.2.2.2),(L7 37006 149 r.2.2.2.2.length),(9100005,.obj (.map false .i64 (En (fun(v_:Aj)=>((Ug v_):AV)) a8)))]:=by
 refine Ab mix Tryz.func93 (fun Γ hq=>?_);unfold H9 at h;refine Ae hq [0] Iw ?_;obtain⟨x81,hx81,h⟩:=bind_some h;refine gS hx81 (fun(s_:(Int×List Int×Int×List Ah×Int×List Int×List Aq))=>match s_ with|(i1,l2,i3,l4,i5,l6,l7)=>0) (fun(s_:(Int×List Int×Int×List Ah×Int×List Int×List Aq))=>match s_ with|(i1,l2,i3,l4,i5,l6,l7)=>(⟨[(4,(Z7 i1))],(Z9 l2 i3 l4 i5 l6 l7 l7.length (Q98 a8)),[]⟩:St)) (fun r_=>aR (Wz Γ a4 a9 aA a8 a7 r_)) ?_ ?_ ?_
 ·clear h hx81;intro y h;obtain⟨x8,hx8,h⟩:=bind_some h;refine gR hq [0] Iw [] [(Z26 x8.1.Params x8.1.Ret x8.1.Blocks x8.2.1 x8.2.2.1 x8.2.2.2 x8.2.2.2.length (Q98 a8))] (c1 (S5 a4 a9 aA a8 a7 x8 hx8)) ?_;refine Ae hq Qr Qj ?_;refine Ae hq Qr Qj ?_;refine Ae hq Aai Iw ?_;refine gU 3 ?_;refine Ae hq zzN130 Iw ?_;refine gCt true ?_;refine gR hq zzN171 Tj [] [] (c1 (show(A5 (0:Int) 3) from(by decide))) ?_;refine Ae hq zzN150 Tj ?_;refine Ae hq zzN16 Tj ?_;obtain⟨x30,hx30,h⟩:=bind_some h;refine gL hq hx30 zzN16 Tj (fun u (i9,l10,i11,l12,i13,l14,l15)=>(Ew u [(32,(Z7 i9))] (Z14 l10 i11 l12 i13 l14 l15 l15.length))) (fun u x_=>match x_ with|(.inl (l16,i17,l18,i19,l20,l21))=>aG Γ (.exit 2) (Pa Aai Iw u [] (Z14 l16 i17 l18 i19 l20 l21 l21.length))|(.inr (l22,i23,l24,i25,l26,l27))=>aG Γ (.goto 0) (Pa [4] Iw u [] (Z14 l22 i23 l24 i25 l26 l27 l27.length))) ?_ ?_
  ·rintro⟨i9,l10,i11,l12,i13,l14,l15⟩ y h;unfold Dx at h;refine Ae hq zzN74 Tj ?_;refine gC h ?_ ?_<;>intro h
   ·obtain⟨hc28,h⟩:=Aa h;refine gR hq zzN78 zzN91 [] [] (c1 hc28) ?_;obtain⟨x29,hx29,h⟩:=bind_some h;refine gR hq zzN75 Tj [] [(Z68 x29.1 x29.2.1.Params x29.2.1.Ret x29.2.1.Blocks x29.2.2.1 x29.2.2.2.1 x29.2.2.2.2 x29.2.2.2.2.length (Q98 a8))] (c1 (S8 (x8.2.2.2.getD i9.toNat default) (⟨l10,i11,l12⟩:TFunc) i13 l14 a8 l15 x29 hx29)) ?_;refine gC h ?_ ?_<;>intro h
    ·cases h;exact gO (Bm (B7 [4] Iw hq))
    ·refine Ae hq zzN16 Tj ?_;cases h;exact gN C1
   ·cases h;exact gO (Bm (B7 Aai Iw hq))
  ·clear hx30;rcases x30 with⟨l16,i17,l18,i19,l20,l21⟩|⟨l22,i23,l24,i25,l26,l27⟩
   ·refine gA ?_;refine Ae hq Aai Iw ?_;refine Ae hq zzN130 Iw ?_;refine gCt true ?_;refine gR hq zzN171 Tj [] [] (c1 (show(A5 (1:Int) 3) from(by decide))) ?_;refine Ae hq zzN150 Tj ?_;refine Ae hq zzN16 Tj ?_;obtain⟨x53,hx53,h⟩:=bind_some h;refine gL hq hx53 zzN16 Tj (fun u (i32,l33,i34,l35,i36,l37,l38)=>(Ew u [(32,(Z7 i32))] (Z14 l33 i34 l35 i36 l37 l38 l38.length))) (fun u x_=>match x_ with|(.inl (l39,i40,l41,i42,l43,l44))=>aG Γ (.exit 2) (Pa Aai Iw u [] (Z14 l39 i40 l41 i42 l43 l44 l44.length))|(.inr (l45,i46,l47,i48,l49,l50))=>aG Γ (.goto 0) (Pa [4] Iw u [] (Z14 l45 i46 l47 i48 l49 l50 l50.length))) ?_ ?_
    ·rintro⟨i32,l33,i34,l35,i36,l37,l38⟩ y h;unfold Dy at h;refine Ae hq zzN74 Tj ?_;refine gC h ?_ ?_<;>intro h
     ·obtain⟨hc51,h⟩:=Aa h;refine gR hq zzN78 zzN91 [] [] (c1 hc51) ?_;obtain⟨x52,hx52,h⟩:=bind_some h;refine gR hq zzN75 Tj [] [(Z68 x52.1 x52.2.1.Params x52.2.1.Ret x52.2.1.Blocks x52.2.2.1 x52.2.2.2.1 x52.2.2.2.2 x52.2.2.2.2.length (Q98 a8))] (c1 (Wj (l21.getD i32.toNat default) (⟨l33,i34,l35⟩:TFunc) i36 l37 a8 l38 x52 hx52)) ?_;refine gC h ?_ ?_<;>intro h
      ·cases h;exact gO (Bm (B7 [4] Iw hq))
      ·refine Ae hq zzN16 Tj ?_;cases h;exact gN C1
     ·cases h;exact gO (Bm (B7 Aai Iw hq))
    ·clear hx53;rcases x53 with⟨l39,i40,l41,i42,l43,l44⟩|⟨l45,i46,l47,i48,l49,l50⟩
     ·refine gA ?_;refine Ae hq Aai Iw ?_;refine Ae hq zzN130 Iw ?_;refine gCt true ?_;refine gR hq zzN171 Tj [] [] (c1 (show(A5 (2:Int) 3) from(by decide))) ?_;refine Ae hq zzN150 Tj ?_;refine Ae hq zzN16 Tj ?_;obtain⟨x76,hx76,h⟩:=bind_some h;refine gL hq hx76 zzN16 Tj (fun u (i55,l56,i57,l58,i59,l60,l61)=>(Ew u [(32,(Z7 i55))] (Z14 l56 i57 l58 i59 l60 l61 l61.length))) (fun u x_=>match x_ with|(.inl (l62,i63,l64,i65,l66,l67))=>aG Γ (.exit 2) (Pa Aai Iw u [] (Z14 l62 i63 l64 i65 l66 l67 l67.length))|(.inr (l68,i69,l70,i71,l72,l73))=>aG Γ (.goto 0) (Pa [4] Iw u [] (Z14 l68 i69 l70 i71 l72 l73 l73.length))) ?_ ?_
      ·rintro⟨i55,l56,i57,l58,i59,l60,l61⟩ y h;unfold Dz at h;refine Ae hq zzN74 Tj ?_;refine gC h ?_ ?_<;>intro h
       ·obtain⟨hc74,h⟩:=Aa h;refine gR hq zzN78 zzN91 [] [] (c1 hc74) ?_;obtain⟨x75,hx75,h⟩:=bind_some h;refine gR hq zzN75 Tj [] [(Z68 x75.1 x75.2.1.Params x75.2.1.Ret x75.2.1.Blocks x75.2.2.1 x75.2.2.2.1 x75.2.2.2.2 x75.2.2.2.2.length (Q98 a8))] (c1 (S7 (l44.getD i55.toNat default) (⟨l56,i57,l58⟩:TFunc) i59 l60 a8 l61 x75 hx75)) ?_;refine gC h ?_ ?_<;>intro h
        ·cases h;exact gO (Bm (B7 [4] Iw hq))
        ·refine Ae hq zzN16 Tj ?_;cases h;exact gN C1
       ·cases h;exact gO (Bm (B7 Aai Iw hq))
      ·clear hx76;rcases x76 with⟨l62,i63,l64,i65,l66,l67⟩|⟨l68,i69,l70,i71,l72,l73⟩
       ·refine gA ?_;refine Ae hq Aai Iw ?_;refine Ae hq zzN130 Iw ?_;refine gCt false ?_;refine Ae hq [2] Iw ?_;cases h;exact gJo (L8 (Kf Zn (Le.refl _ _)))
       ·refine gA' (fun st' hl78=>?_);cases h;exact gJn (Le.trans hl78 C1)
     ·refine gA' (fun st' hl79=>?_);cases h;exact gJn (Le.trans hl79 C1)
   ·refine gA' (fun st' hl80=>?_);cases h;exact gJn (Le.trans hl80 C1)
 ·clear h hx81;rintro⟨i1,l2,i3,l4,i5,l6,l7⟩ y h;unfold Kr at h;refine Ae hq [2] Iw ?_;cases h;exact gJo (L8 (Kf Zn (Le.refl _ _)))
 ·clear hx81;refine Ol (fun st' hk=>?_);obtain rfl:=OI h;exact gK hk
def Q104:=(fun(v_:Aj)=>((Ug v_):AV))
def Q101(x1:(Int×TFunc×Int×List Int×List Aq)):List (Nat×Own):=(Z3 x1.2.1.Params x1.2.1.Ret x1.2.1.Blocks x1.2.2.1 x1.2.2.2.1 x1.2.2.2.2 x1.2.2.2.2.length)
def Q102(x2:(Int×TFunc×Int×List Int×List Aq)):List (Nat×Own):=(Z3 x2.2.1.Params x2.2.1.Ret x2.2.1.Blocks x2.2.2.1 x2.2.2.2.1 x2.2.2.2.2 x2.2.2.2.2.length)
def Q103(x3:(Int×TFunc×Int×List Int×List Aq)):List (Nat×Own):=(Z3 x3.2.1.Params x3.2.1.Ret x3.2.1.Blocks x3.2.2.1 x3.2.2.2.1 x3.2.2.2.2 x3.2.2.2.2.length)
def Hg(a4:TFunc)(a9:Int)(aA:List Int)(a7:List Aq):Option (Int×TFunc×Int×List Int×List Aq×List (Int×Aj)):=
 ((H8 a4 a9 aA a7).bind fun x1=>(bif (x1.1 !=0) then(some (x1.1,x1.2.1,x1.2.2.1,x1.2.2.2.1,x1.2.2.2.2,([]:List (Int×Aj)))) else((G1 x1.2.1 x1.2.2.1 x1.2.2.2.1 x1.2.2.2.2).bind fun x2=>(bif (x2.1 !=0) then(some (x2.1,x2.2.1,x2.2.2.1,x2.2.2.2.1,x2.2.2.2.2,([]:List (Int×Aj)))) else((He x2.2.1 x2.2.2.1 x2.2.2.2.1 x2.2.2.2.2).bind fun x3=>(bif (x3.1 !=0) then(some (x3.1,x3.2.1,x3.2.2.1,x3.2.2.2.1,x3.2.2.2.2,([]:List (Int×Aj)))) else((Gi x3.2.1 x3.2.2.1 x3.2.2.2.1 x3.2.2.2.2).bind fun x4=>(bif (x4.1 !=0) then(some (x4.1,x4.2.1,x4.2.2.1,x4.2.2.2.1,x4.2.2.2.2.1,x4.2.2.2.2.2)) else((H9 x4.2.1 x4.2.2.1 x4.2.2.2.1 x4.2.2.2.2.2 x4.2.2.2.2.1).bind fun x5=>(bif (x5.1 !=0) then(some (x5.1,x5.2.1,x5.2.2.1,x5.2.2.2.1,x5.2.2.2.2,x4.2.2.2.2.2)) else(some ((0:Int),x5.2.1,x5.2.2.1,x5.2.2.2.1,x5.2.2.2.2,x4.2.2.2.2.2))))))))))))
theorem U0(a4:TFunc)(a9:Int)(aA:List Int)(a7:List Aq)(r:(Int×TFunc×Int×List Int×List Aq×List (Int×Aj)))(h:Hg a4 a9 aA a7=some r):Spec Tryz.prog 59 [Z57] (Z3 a4.Params a4.Ret a4.Blocks a9 aA a7 a7.length) (Z7 r.1) [(Z1 r.2.1.Params r.2.1.Ret r.2.1.Blocks r.2.2.1 r.2.2.2.1 9200005 r.2.2.2.2.1),(L7 37006 149 r.2.2.2.2.1.length),(9200005,.obj (.map false .i64 (En (fun(v_:Aj)=>((Ug v_):AV)) r.2.2.2.2.2)))]:=by
 refine Ab mix Tryz.func59 (fun Γ hq=>?_);unfold Hg at h;refine Ae hq [0] I5 ?_;refine Ae hq [3] zzN92 ?_;refine Ae hq zzN155 I5 ?_;refine gU 5 ?_;refine Ae hq zzN109 I5 ?_;refine gCt true ?_;refine gR hq zzN138 I5 [] [] (c1 (show(A5 (0:Int) 5) from(by decide))) ?_;obtain⟨x1,hx1,h⟩:=bind_some h;refine gR hq zzN139 I5 [] [(Z80 x1.1 (Q101 x1))] (c1 (Wk a4 a9 aA a7 x1 hx1)) ?_;refine Ae hq zzN100 I5 ?_;refine gC h ?_ ?_<;>intro h
 ·refine Ae hq [2] I5 ?_;refine Qk (⟨[(2,(Z7 x1.1))],(Q101 x1),[]⟩:St) ?_;cases h;exact gK (e:=.ret) (Kf zzN40 (Le.trans (Uu (r:=30000) (j:=5) (nm:=9300005) .i64 rfl rfl (nl rfl) rfl) (B7 (st':=⟨[(2,(Z7 x1.1))],[(Z1 x1.2.1.Params x1.2.1.Ret x1.2.1.Blocks x1.2.2.1 x1.2.2.2.1 9300005 x1.2.2.2.2),(L7 37006 149 x1.2.2.2.2.length),(9300005,.obj (.map false .i64 (En Q104 ([]:List (Int×Aj)))))],[]⟩) [2] zzN117 hq)))
 ·refine Ae hq zzN155 I5 ?_;refine Ae hq zzN109 I5 ?_;refine gCt true ?_;refine gR hq zzN138 I5 [] [] (c1 (show(A5 (1:Int) 5) from(by decide))) ?_;obtain⟨x2,hx2,h⟩:=bind_some h;refine gR hq zzN139 I5 [] [(Z80 x2.1 (Q102 x2))] (c1 (Tw x1.2.1 x1.2.2.1 x1.2.2.2.1 x1.2.2.2.2 x2 hx2)) ?_;refine Ae hq zzN100 I5 ?_;refine gC h ?_ ?_<;>intro h
  ·refine Ae hq [2] I5 ?_;refine Qk (⟨[(2,(Z7 x2.1))],(Q102 x2),[]⟩:St) ?_;cases h;exact gK (e:=.ret) (Kf zzN40 (Le.trans (Uu (r:=30000) (j:=5) (nm:=9300005) .i64 rfl rfl (nl rfl) rfl) (B7 (st':=⟨[(2,(Z7 x2.1))],[(Z1 x2.2.1.Params x2.2.1.Ret x2.2.1.Blocks x2.2.2.1 x2.2.2.2.1 9300005 x2.2.2.2.2),(L7 37006 149 x2.2.2.2.2.length),(9300005,.obj (.map false .i64 (En Q104 ([]:List (Int×Aj)))))],[]⟩) [2] zzN117 hq)))
  ·refine Ae hq zzN155 I5 ?_;refine Ae hq zzN109 I5 ?_;refine gCt true ?_;refine gR hq zzN138 I5 [] [] (c1 (show(A5 (2:Int) 5) from(by decide))) ?_;obtain⟨x3,hx3,h⟩:=bind_some h;refine gR hq zzN139 I5 [] [(Z80 x3.1 (Q103 x3))] (c1 (Uz x2.2.1 x2.2.2.1 x2.2.2.2.1 x2.2.2.2.2 x3 hx3)) ?_;refine Ae hq zzN100 I5 ?_;refine gC h ?_ ?_<;>intro h
   ·refine Ae hq [2] I5 ?_;refine Qk (⟨[(2,(Z7 x3.1))],(Q103 x3),[]⟩:St) ?_;cases h;exact gK (e:=.ret) (Kf zzN40 (Le.trans (Uu (r:=30000) (j:=5) (nm:=9300005) .i64 rfl rfl (nl rfl) rfl) (B7 (st':=⟨[(2,(Z7 x3.1))],[(Z1 x3.2.1.Params x3.2.1.Ret x3.2.1.Blocks x3.2.2.1 x3.2.2.2.1 9300005 x3.2.2.2.2),(L7 37006 149 x3.2.2.2.2.length),(9300005,.obj (.map false .i64 (En Q104 ([]:List (Int×Aj)))))],[]⟩) [2] zzN117 hq)))
   ·refine Ae hq zzN155 I5 ?_;refine Ae hq zzN109 I5 ?_;refine gCt true ?_;refine gR hq zzN138 I5 [] [] (c1 (show(A5 (3:Int) 5) from(by decide))) ?_;obtain⟨x4,hx4,h⟩:=bind_some h;refine gR hq zzN139 Wa [] [⟨zzN9,[(9200005,13000005)],(Z7 x4.1),[(Z1 x4.2.1.Params x4.2.1.Ret x4.2.1.Blocks x4.2.2.1 x4.2.2.2.1 9200005 x4.2.2.2.2.1),(L7 37006 149 x4.2.2.2.2.1.length),(9200005,.obj (.map false .i64 (En Q104 x4.2.2.2.2.2)))],[],[]⟩] (c1 (S6 x3.2.1 x3.2.2.1 x3.2.2.2.1 x3.2.2.2.2 x4 hx4)) ?_;refine Ae hq zzN100 Wa ?_;refine gC h ?_ ?_<;>intro h
    ·refine Ae hq [2] Wa ?_;cases h;exact Cu zzN39
    ·refine Ae hq zzN155 Wa ?_;refine Ae hq zzN109 Wa ?_;refine gCt true ?_;refine gR hq zzN138 Wa [] [] (c1 (show(A5 (4:Int) 5) from(by decide))) ?_;obtain⟨x5,hx5,h⟩:=bind_some h;refine gR hq zzN139 Wa [] [⟨[(30000,30000),(37006,37006),(13000005,9100005)],[],(Z7 x5.1),[(Z1 x5.2.1.Params x5.2.1.Ret x5.2.1.Blocks x5.2.2.1 x5.2.2.2.1 9100005 x5.2.2.2.2),(L7 37006 149 x5.2.2.2.2.length),(9100005,.obj (.map false .i64 (En Q104 x4.2.2.2.2.2)))],[],[]⟩] (c1 (Wl x4.2.1 x4.2.2.1 x4.2.2.2.1 x4.2.2.2.2.2 x4.2.2.2.2.1 x5 hx5)) ?_;refine Ae hq zzN100 Wa ?_;refine gC h ?_ ?_<;>intro h
     ·refine Ae hq [2] Wa ?_;cases h;exact Cu zzN39
     ·refine Ae hq zzN155 Wa ?_;refine Ae hq zzN109 Wa ?_;refine gCt false ?_;refine Ae hq [2] Wa ?_;cases h;exact Cu zzN39
def Q107(a0:TFunc)(aV:Int):AV:=(.agg [(Z8 a0.Params),(Z7 a0.Ret),(Z16 a0.Blocks),(Z7 aV),Z24,.nilm,(AV.list 5 M9 default ([]:List Aq) .exact)])
def Q106(a0:TFunc)(aV:Int):=(⟨[Z78],[(5,.row 103 [(Z8 a0.Params),(Z7 a0.Ret),(Z16 a0.Blocks),(Z7 aV),Z24,.nilm,(AV.list 5 M9 default ([]:List Aq) .exact)])],[]⟩:St)
def Q105(a0:TFunc)(aV:Int):=(⟨[Z78],[(5,.row 103 [(Z8 a0.Params),(Z7 a0.Ret),(Z16 a0.Blocks),(Z7 aV),Z24,.nilm,(AV.list 5 M9 default ([]:List Aq) (.own 50506))]),(50506,.tok 5 149 (([]:List Aq).length))],[]⟩:St)
def Nn(a0:TFunc)(aV:Int):Option Int:=
 (bif (bif (decide (aV<0)) then true else(decide (((2:Int):Int)<aV))) then(some (1:Int)) else((Hg a0 aV ([]:List Int) ([]:List Aq)).bind fun x1=>(some x1.1)))
theorem ok_check_Check(a0:TFunc)(aV:Int)(r:Int)(h:Nn a0 aV=some r):Spec Tryz.prog 33 [(Z44 a0),(Z7 aV)] [] (.int .i64 r) []:=by
 refine Ab mix Tryz.func33 (fun Γ hq=>?_);unfold Nn at h;refine Ae hq Mu [2] ?_;refine gR hq [1,2,11] [2] [] [] (ci (gI ((decide (aV<0))==false)) (c1 (Ko (decide (aV<0))))) ?_;refine gC h ?_ ?_<;>intro h
 ·refine Ae hq [4] [] ?_;cases h;exact Cu []
 ·refine gR hq [5] [5] [(14,(Q107 a0 aV))] [] (c1 (show(AVle (.agg [(Z8 a0.Params),(Z7 a0.Ret),(Z16 a0.Blocks),(Z7 aV),Z42,.nilm,Z42]) (Q107 a0 aV)) from(AVle.agg (.cons (AVle.refl _) (.cons (AVle.refl _) (.cons (AVle.refl _) (.cons (AVle.refl _) (.cons G7 (.cons (AVle.refl _) (.cons G7 .nil)))))))))) ?_;refine Qk (Q106 a0 aV) ?_;refine Oi (show Le Γ _ (Q105 a0 aV) from Le.trans (B7 (st':=(Q106 a0 aV)) [5] [5] hq) (Le.trans (le_tag_cell (r:=5) (j:=6) (nm:=50506) (sz':=5) (fun i=>M9 (([]:List Aq).getD i default)) 149 rfl rfl (nl rfl) rfl (.inl ⟨rfl,rfl⟩) (fun h_=>absurd h_ (by decide))) (B7 (st':=(Q105 a0 aV)) [5] [5,50506] hq))) ?_;refine Oi (show Le Γ _ (⟨[Z78],[(5,.row 103 [(Z8 a0.Params),(Z7 a0.Ret),(Z16 a0.Blocks),(Z7 aV),(AV.list 1 As 0 ([]:List Int) .none),.nilm,(AV.list 5 M9 default ([]:List Aq) (.own 50506))]),(50506,.tok 5 149 (([]:List Aq).length))],[]⟩:St) from Le.trans (B7 (st':=(Q105 a0 aV)) [5] [5,50506] hq) (Jg (.cons (AVle.refl _) .nil) (.row (.cons (AVle.refl _) (.cons (AVle.refl _) (.cons (AVle.refl _) (.cons (AVle.refl _) (.cons AVle.untag (.cons (AVle.refl _) (.cons (AVle.refl _) .nil))))))) (.same .nil)))) ?_;obtain⟨x1,hx1,h⟩:=bind_some h;refine gR hq [4] [] [] [⟨[(5,30000),(50506,37006)],[(9200005,10000505)],(Z7 x1.1),[(Z1 x1.2.1.Params x1.2.1.Ret x1.2.1.Blocks x1.2.2.1 x1.2.2.2.1 9200005 x1.2.2.2.2.1),(L7 37006 149 x1.2.2.2.2.1.length),(9200005,.obj (.map false .i64 (En (fun(v_:Aj)=>((Ug v_):AV)) x1.2.2.2.2.2)))],[],[]⟩] (c1 (U0 a0 aV ([]:List Int) ([]:List Aq) x1 hx1)) ?_;cases h;exact Cu []
def Nz(aaK:List Ah)(aaL:List (List Int))(aE:Int):Option Unit:=
 (some ())
theorem ok_hammock_pairs(aaK:List Ah)(aaL:List (List Int))(aE:Int)(r:Unit)(h:Nz aaK aaL aE=some r):Spec Tryz.prog 34 [(Z16 aaK),(Z20 aaL),(Z7 aE)] [] (.agg [(Z6 aaK aaL aE),(Z6 aaK aaL aE),(Z6 aaK aaL aE),(.clo 62 [] []),(.clo 62 [] []),(Z6 aaK aaL aE)]) []:=by
 refine Ab mix Tryz.func34 (fun Γ hq=>?_);unfold Nz at h;refine gR hq [3,4,5,6] [6] [(3,(.rpo [])),(4,(.rpo [])),(5,(.rpo []))] [] trivial ?_;refine Ae hq [6,7] [6] ?_;refine Ae hq [6,7,8] [6] ?_;refine Ae hq [6] [6] ?_;cases h;exact Cu []
def Q109(a3:List Ah)(aP:Int):=((((a3.getD aP.toNat default).End.Kind:Int)!=1)==false)
def Q108(a3:List Ah)(aP:Int):=(bif (((a3.getD aP.toNat default).End.Kind:Int)!=1) then true else(decide (((0:Int):Int)<(((a3.getD aP.toNat default).Phis).length:Int))))
def F2(aP:Int)(a3:List Ah)(aa3:List (List Int))(aaH:Int):Option (Int×Int×Bool):=
 (A7 (A5 aP a3.length) (A7 (((bif (((a3.getD aP.toNat default).End.Kind:Int)!=1) then true else(decide (((0:Int):Int)<(((a3.getD aP.toNat default).Phis).length:Int))))==false)=true->(A5 aP aa3.length)) ((bif ((bif (((a3.getD aP.toNat default).End.Kind:Int)!=1) then true else(decide (((0:Int):Int)<(((a3.getD aP.toNat default).Phis).length:Int))))==false) then Ec (aa3.getD aP.toNat []) ([aaH]:List Int) else some false).bind fun x3=>(bif (bif (bif (((a3.getD aP.toNat default).End.Kind:Int)!=1) then true else(decide (((0:Int):Int)<(((a3.getD aP.toNat default).Phis).length:Int)))) then true else(!x3)) then(some ((-1:Int),(-1:Int),false)) else(A7 (A5 (0:Int) ((a3.getD aP.toNat default).End.To).length) (some (aP,(((a3.getD aP.toNat default).End.To).getD (0:Int).toNat (0:Int)),true)))))))
theorem Lj(aP:Int)(a3:List Ah)(aa3:List (List Int))(aaH:Int)(r:(Int×Int×Bool))(h:F2 aP a3 aa3 aaH=some r):Spec Tryz.prog 60 [(Z7 aP),(.rpo [(Z16 a3)]),(.rpo [(Z20 aa3)]),(.rpo [(Z7 aaH)])] [] (.tuple [(Z7 r.1),(Z7 r.2.1),(.bool r.2.2)]) []:=by
 refine Ab mix Tryz.func60 (fun Γ hq=>?_);unfold F2 at h;refine Ae hq [0,1,2,3] [] ?_;obtain⟨hc1,h⟩:=Aa h;refine gR hq [0,2,3,8] [8] [] [] (c1 hc1) ?_;obtain⟨hc2,h⟩:=Aa h;obtain⟨x3,hx3,h⟩:=bind_some h;refine gR hq [0,8,32] [8] [(29,(Z25 aaH))] [(Z2 x3)] (ci (gI (Q109 a3 aP)) (ci (gI (Q109 a3 aP)) (ci (gI (Q109 a3 aP)) (ci (Ko (((a3.getD aP.toNat default).End.Kind:Int)!=1)) (ci (gI ((Q108 a3 aP)==false)) (ci (gI ((Q108 a3 aP)==false)) (ci hc2 (ci (gI ((Q108 a3 aP)==false)) (ci (gI ((Q108 a3 aP)==false)) (ci (show(((Q108 a3 aP)==false)=true->(AVle (.slice 1 1 (fun i=>([[(Z7 aaH)]]:List (List AV)).getD i []) .exact) (Z25 aaH))) from(fun hg=>@(Bu 1 As (0:Int) ([aaH]:List Int)))) (ci (gI ((Q108 a3 aP)==false)) (ci (gI ((Q108 a3 aP)==false)) (ci (fun(hg:((Q108 a3 aP)==false)=true)=>(Kz (aa3.getD aP.toNat []) ([aaH]:List Int) x3 (Bh hg hx3))) (ci (gI ((Q108 a3 aP)==false)) (c1 (Ko (Q108 a3 aP))))))))))))))))) ?_;refine gC h ?_ ?_<;>intro h
 ·refine Ae hq zzN159 [] ?_;cases h;exact Cu []
 ·obtain⟨hc4,h⟩:=Aa h;refine gR hq zzN159 [] [] [] (c1 hc4) ?_;cases h;exact Cu []
def Q110(x2:(Int×Int×Bool))(x4:(Int×Int×Bool)):=(bif (!x2.2.2) then true else(!x4.2.2))
def J9(aE:Int)(aW:List Int)(aa9:List Ah)(aaA:List (List Int))(aaB:Int)(aaC:List Ah)(aaD:List (List Int))(aaE:Int):Option (THammock×Bool):=
 (A7 (A5 (0:Int) aW.length) ((F2 (aW.getD (0:Int).toNat (0:Int)) aa9 aaA aaB).bind fun x2=>(A7 (A5 (1:Int) aW.length) ((F2 (aW.getD (1:Int).toNat (0:Int)) aaC aaD aaE).bind fun x4=>(bif (bif (bif (bif (!x2.2.2) then true else(!x4.2.2)) then true else(x2.2.1 !=x4.2.1)) then true else(x2.2.1==aE)) then(some ((⟨(0:Int),(0:Int),(0:Int),(0:Int)⟩:THammock),false)) else(some ((⟨aE,x2.1,x4.1,x2.2.1⟩:THammock),true)))))))
theorem ok_hammock_meeting(aE:Int)(aW:List Int)(aa9:List Ah)(aaA:List (List Int))(aaB:Int)(aaC:List Ah)(aaD:List (List Int))(aaE:Int)(r:(THammock×Bool))(h:J9 aE aW aa9 aaA aaB aaC aaD aaE=some r):Spec Tryz.prog 35 [(Z7 aE),(Z8 aW),(.agg [(Z6 aa9 aaA aaB),(Z6 aaC aaD aaE)])] [] (.tuple [(Z69 r.1),(.bool r.2)]) []:=by
 refine Ab mix Tryz.func35 (fun Γ hq=>?_);unfold J9 at h;refine Ae hq zzN153 [5,6] ?_;obtain⟨hc1,h⟩:=Aa h;obtain⟨x2,hx2,h⟩:=bind_some h;refine gR hq zzN118 [5,6] [] [(Z40 x2.1 x2.2.1 x2.2.2)] (ci (show(A5 (0:Int) 2) from(by decide)) (ci hc1 (c1 (Lj (aW.getD (0:Int).toNat (0:Int)) aa9 aaA aaB x2 hx2)))) ?_;obtain⟨hc3,h⟩:=Aa h;obtain⟨x4,hx4,h⟩:=bind_some h;refine gR hq zzN94 [6] [] [(Z40 x4.1 x4.2.1 x4.2.2)] (ci (show(A5 (1:Int) 2) from(by decide)) (ci hc3 (c1 (Lj (aW.getD (1:Int).toNat (0:Int)) aaC aaD aaE x4 hx4)))) ?_;refine gR hq zzN131 [6] [] [] (ci (gI ((!x2.2.2)==false)) (ci (Ko (!x2.2.2)) (ci (gI ((Q110 x2 x4)==false)) (ci (gI ((Q110 x2 x4)==false)) (ci (Ko (Q110 x2 x4)) (ci (gI ((bif (Q110 x2 x4) then true else(x2.2.1 !=x4.2.1))==false)) (ci (gI ((bif (Q110 x2 x4) then true else(x2.2.1 !=x4.2.1))==false)) (c1 (Ko (bif (Q110 x2 x4) then true else(x2.2.1 !=x4.2.1))))))))))) ?_;refine gC h ?_ ?_<;>intro h
 ·refine Ae hq [6,7] [6] ?_;cases h;exact Cu []
 ·refine Ae hq [6,7] [6] ?_;cases h;exact Cu []
def It(aP:Int):Option (Int×Int×Bool):=
 (some ((-1:Int),aP,true))
theorem Rv(aP:Int)(r:(Int×Int×Bool))(h:It aP=some r):Spec Tryz.prog 62 [(Z7 aP)] [] (.tuple [(Z7 r.1),(Z7 r.2.1),(.bool r.2.2)]) []:=by
 refine Ab mix Tryz.func62 (fun Γ hq=>?_);unfold It at h;refine Ae hq [0] [] ?_;refine Ae hq [2,3,4] [] ?_;cases h;exact Cu []
def Q111(x2:(Int×Int×Bool))(x4:(Int×Int×Bool)):=(bif (!x2.2.2) then true else(!x4.2.2))
def Ic(aE:Int)(aW:List Int)(aa9:List Ah)(aaA:List (List Int))(aaB:Int):Option (THammock×Bool):=
 (A7 (A5 (0:Int) aW.length) ((F2 (aW.getD (0:Int).toNat (0:Int)) aa9 aaA aaB).bind fun x2=>(A7 (A5 (1:Int) aW.length) ((It (aW.getD (1:Int).toNat (0:Int))).bind fun x4=>(bif (bif (bif (bif (!x2.2.2) then true else(!x4.2.2)) then true else(x2.2.1 !=x4.2.1)) then true else(x2.2.1==aE)) then(some ((⟨(0:Int),(0:Int),(0:Int),(0:Int)⟩:THammock),false)) else(some ((⟨aE,x2.1,x4.1,x2.2.1⟩:THammock),true)))))))
theorem Wn(aE:Int)(aW:List Int)(aa9:List Ah)(aaA:List (List Int))(aaB:Int)(r:(THammock×Bool))(h:Ic aE aW aa9 aaA aaB=some r):Spec Tryz.prog 35 [(Z7 aE),(Z8 aW),(.agg [(Z6 aa9 aaA aaB),(.clo 62 [] [])])] [] (.tuple [(Z69 r.1),(.bool r.2)]) []:=by
 refine Ab mix Tryz.func35 (fun Γ hq=>?_);unfold Ic at h;refine Ae hq zzN153 [5,6] ?_;obtain⟨hc1,h⟩:=Aa h;obtain⟨x2,hx2,h⟩:=bind_some h;refine gR hq zzN118 [5,6] [] [(Z40 x2.1 x2.2.1 x2.2.2)] (ci (show(A5 (0:Int) 2) from(by decide)) (ci hc1 (c1 (Lj (aW.getD (0:Int).toNat (0:Int)) aa9 aaA aaB x2 hx2)))) ?_;obtain⟨hc3,h⟩:=Aa h;obtain⟨x4,hx4,h⟩:=bind_some h;refine gR hq zzN94 [6] [] [(Z40 x4.1 x4.2.1 x4.2.2)] (ci (show(A5 (1:Int) 2) from(by decide)) (ci hc3 (c1 (Rv (aW.getD (1:Int).toNat (0:Int)) x4 hx4)))) ?_;refine gR hq zzN131 [6] [] [] (ci (gI ((!x2.2.2)==false)) (ci (Ko (!x2.2.2)) (ci (gI ((Q111 x2 x4)==false)) (ci (gI ((Q111 x2 x4)==false)) (ci (Ko (Q111 x2 x4)) (ci (gI ((bif (Q111 x2 x4) then true else(x2.2.1 !=x4.2.1))==false)) (ci (gI ((bif (Q111 x2 x4) then true else(x2.2.1 !=x4.2.1))==false)) (c1 (Ko (bif (Q111 x2 x4) then true else(x2.2.1 !=x4.2.1))))))))))) ?_;refine gC h ?_ ?_<;>intro h
 ·refine Ae hq [6,7] [6] ?_;cases h;exact Cu []
 ·refine Ae hq [6,7] [6] ?_;cases h;exact Cu []
def Q112(x2:(Int×Int×Bool))(x4:(Int×Int×Bool)):=(bif (!x2.2.2) then true else(!x4.2.2))
def Id(aE:Int)(aW:List Int)(aaC:List Ah)(aaD:List (List Int))(aaE:Int):Option (THammock×Bool):=
 (A7 (A5 (0:Int) aW.length) ((It (aW.getD (0:Int).toNat (0:Int))).bind fun x2=>(A7 (A5 (1:Int) aW.length) ((F2 (aW.getD (1:Int).toNat (0:Int)) aaC aaD aaE).bind fun x4=>(bif (bif (bif (bif (!x2.2.2) then true else(!x4.2.2)) then true else(x2.2.1 !=x4.2.1)) then true else(x2.2.1==aE)) then(some ((⟨(0:Int),(0:Int),(0:Int),(0:Int)⟩:THammock),false)) else(some ((⟨aE,x2.1,x4.1,x2.2.1⟩:THammock),true)))))))
theorem Wo(aE:Int)(aW:List Int)(aaC:List Ah)(aaD:List (List Int))(aaE:Int)(r:(THammock×Bool))(h:Id aE aW aaC aaD aaE=some r):Spec Tryz.prog 35 [(Z7 aE),(Z8 aW),(.agg [(.clo 62 [] []),(Z6 aaC aaD aaE)])] [] (.tuple [(Z69 r.1),(.bool r.2)]) []:=by
 refine Ab mix Tryz.func35 (fun Γ hq=>?_);unfold Id at h;refine Ae hq zzN153 [5,6] ?_;obtain⟨hc1,h⟩:=Aa h;obtain⟨x2,hx2,h⟩:=bind_some h;refine gR hq zzN118 [5,6] [] [(Z40 x2.1 x2.2.1 x2.2.2)] (ci (show(A5 (0:Int) 2) from(by decide)) (ci hc1 (c1 (Rv (aW.getD (0:Int).toNat (0:Int)) x2 hx2)))) ?_;obtain⟨hc3,h⟩:=Aa h;obtain⟨x4,hx4,h⟩:=bind_some h;refine gR hq zzN94 [6] [] [(Z40 x4.1 x4.2.1 x4.2.2)] (ci (show(A5 (1:Int) 2) from(by decide)) (ci hc3 (c1 (Lj (aW.getD (1:Int).toNat (0:Int)) aaC aaD aaE x4 hx4)))) ?_;refine gR hq zzN131 [6] [] [] (ci (gI ((!x2.2.2)==false)) (ci (Ko (!x2.2.2)) (ci (gI ((Q112 x2 x4)==false)) (ci (gI ((Q112 x2 x4)==false)) (ci (Ko (Q112 x2 x4)) (ci (gI ((bif (Q112 x2 x4) then true else(x2.2.1 !=x4.2.1))==false)) (ci (gI ((bif (Q112 x2 x4) then true else(x2.2.1 !=x4.2.1))==false)) (c1 (Ko (bif (Q112 x2 x4) then true else(x2.2.1 !=x4.2.1))))))))))) ?_;refine gC h ?_ ?_<;>intro h
 ·refine Ae hq [6,7] [6] ?_;cases h;exact Cu []
 ·refine Ae hq [6,7] [6] ?_;cases h;exact Cu []
def Hu(a0:TFunc)(x2:(TGraph×Int)):(List THammock×Int)->Option (LR (List THammock×Int) (List THammock)):=
 fun((l3,i4):(List THammock×Int))=>(bif (decide (i4<(a0.Blocks.length:Int))) then(Option.bind (α:=List THammock) (A7 (A5 i4 a0.Blocks.length) (A7 (((((a0.Blocks.getD i4.toNat default).End.Kind:Int)!=2)==false)=true->(A5 (0:Int) ((a0.Blocks.getD i4.toNat default).End.To).length)) (A7 (((((a0.Blocks.getD i4.toNat default).End.Kind:Int)!=2)==false)=true->(A5 (1:Int) ((a0.Blocks.getD i4.toNat default).End.To).length)) (bif (bif (((a0.Blocks.getD i4.toNat default).End.Kind:Int)!=2) then true else(((((a0.Blocks.getD i4.toNat default).End.To).getD (0:Int).toNat (0:Int)):Int)==(((a0.Blocks.getD i4.toNat default).End.To).getD (1:Int).toNat (0:Int)))) then(some l3) else((Nz a0.Blocks x2.1.Pred i4).bind fun x10=>((J9 i4 ((a0.Blocks.getD i4.toNat default).End.To) a0.Blocks x2.1.Pred i4 a0.Blocks x2.1.Pred i4).bind fun x11=>(bif x11.2 then(A7 (l3.length+([x11.1]:List THammock).length<=room) (some (l3++([x11.1]:List THammock)))) else((Ic i4 ((a0.Blocks.getD i4.toNat default).End.To) a0.Blocks x2.1.Pred i4).bind fun x13=>(bif x13.2 then(A7 (l3.length+([x13.1]:List THammock).length<=room) (some (l3++([x13.1]:List THammock)))) else((Id i4 ((a0.Blocks.getD i4.toNat default).End.To) a0.Blocks x2.1.Pred i4).bind fun x15=>(bif x15.2 then(A7 (l3.length+([x15.1]:List THammock).length<=room) (some (l3++([x15.1]:List THammock)))) else(some l3)))))))))))) (fun x17=>(some (.next (x17,(w64 (i4+1))))))) else(some (.done l3)))
def m_hammock_All_F2 :Empty->Option (LR Empty (List THammock)):=
 fun(s_:Empty)=>nomatch s_
def K_hammock_All(Γ:Ix)(a0:TFunc)(r:List THammock):Exit->St->Prop:=fK Tryz.prog Γ Tryz.f18.results.toList [] (Z56 r 20000) [(20000,.tok 4 27 r.length)]
def Q119(a0:TFunc):AV:=(Z16 a0.Blocks)
def Q116:AV:=(AV.list 4 eTHammock default ([]:List THammock) .exact)
def Q113(a0:TFunc)(i4:Int):=((((a0.Blocks.getD i4.toNat default).End.Kind:Int)!=2)==false)
def Q117:=(⟨[(2,(AV.list 4 eTHammock default ([]:List THammock) (.own 6002)))],[(6002,.tok 4 27 (([]:List THammock).length))],[]⟩:St)
def Q115(a0:TFunc)(x2:(TGraph×Int))(i4:Int):AV:=(.clo 60 [] [(.rpo [(Q119 a0)]),(.rpo [(Z20 x2.1.Pred)]),(.rpo [(Z7 i4)])])
def Q114(a0:TFunc)(x2:(TGraph×Int)):=(⟨[W9,(3,(.ptr 3 0)),(5,(AV.list 4 eTHammock default ([]:List THammock) (.own 5005))),(21,(Q119 a0)),(22,(Z52 a0.Blocks.length)),(23,Qs)],[(1,.row 25 [(Z8 a0.Params),(Z7 a0.Ret),(Q119 a0)]),(3,.row 41 [(Z20 x2.1.Succ),(Z20 x2.1.Pred)]),(5005,.tok 4 27 (([]:List THammock).length))],[]⟩:St)
def Ja(a0:TFunc):Option (List THammock):=
 ((Pq (S:=Empty) (X:=List THammock) ((Nn a0 (2:Int)).bind fun x1=>(bif (x1 !=0) then(some (.done ([]:List THammock))) else((N8 a0).bind fun x2=>((Ag (Hu a0 x2) (([]:List THammock),(0:Int))).bind (fun x19=>(some (.done x19))))))) m_hammock_All_F2).bind (fun x21=>(some x21)))
theorem Rs(a0:TFunc)(r:List THammock)(h:Ja a0=some r):Spec Tryz.prog 18 [(Z44 a0)] [] (Z56 r 20000) [(20000,.tok 4 27 r.length)]:=by
 refine Ab mix Tryz.func18 (fun Γ hq=>?_);unfold Ja at h;refine gR hq [1] [1] [(2,Q116)] [] (c1 (Do 4 eTHammock (default:THammock))) ?_;obtain⟨x21,hx21,h⟩:=bind_some h;refine gS hx21 (fun(s_:Empty)=>nomatch s_) (fun(s_:Empty)=>nomatch s_) (fun r_=>aR (K_hammock_All Γ a0 r_)) ?_ ?_ ?_
 ·clear h hx21;intro y h;obtain⟨x1,hx1,h⟩:=bind_some h;refine gR hq [1,14] [1] [] [(Z19 x1)] (c1 (ok_check_Check a0 (2:Int) x1 hx1)) ?_;refine gC h ?_ ?_<;>intro h
  ·refine gR hq [2] [] [(2,Q116)] [] (c1 (Do 4 eTHammock (default:THammock))) ?_;refine Qk (⟨[(2,Q116)],[],[]⟩:St) ?_;cases h;exact gJo (L8 (Kf [(6002,20000)] (show Le Γ _ Q117 from Le.trans (B7 (st':=⟨[(2,Q116)],[],[]⟩) [2] [] hq) (Le.trans (N4 (t:=2) (nm:=6002) (sz':=4) (fun i=>eTHammock (([]:List THammock).getD i default)) 27 rfl rfl (.inl ⟨rfl,rfl⟩) (fun h_=>absurd h_ (by decide))) (B7 (st':=Q117) [2] [6002] hq)))))
  ·obtain⟨x2,hx2,h⟩:=bind_some h;refine gR hq Kd Kd [] [(Z35 x2.1 x2.2)] (c1 (Xu a0 x2 hx2)) ?_;refine gR hq zzN123 Kd [(5,Q116)] [] (c1 (Do 4 eTHammock (default:THammock))) ?_;refine Ae hq Aaf Kd ?_;refine Oi (st':=(Q114 a0 x2)) (Le.trans (B7 (st':=⟨[W9,(3,(.ptr 3 0)),(5,Q116),(21,(Q119 a0)),(22,(Z52 a0.Blocks.length)),(23,Qs)],[(1,.row 25 [(Z8 a0.Params),(Z7 a0.Ret),(Q119 a0)]),(3,.row 41 [(Z20 x2.1.Succ),(Z20 x2.1.Pred)])],[]⟩) Aaf Kd hq) (Le.trans (N4 (t:=5) (nm:=5005) (sz':=4) (fun i=>eTHammock (([]:List THammock).getD i default)) 27 rfl rfl (.inl ⟨rfl,rfl⟩) (fun h_=>absurd h_ (by decide))) (B7 (st':=(Q114 a0 x2)) Aaf zzN70 hq))) ?_;obtain⟨x19,hx19,h⟩:=bind_some h;refine gL hq hx19 Aaf zzN70 (fun u (l3,i4)=>(Ew u [(5,(Z56 l3 5005)),(23,(Z7 i4))] [(5005,.tok 4 27 l3.length)])) (fun u l5=>aG Γ (.exit 0) (⟨[(5,(Z56 l5 5005))],[(5005,.tok 4 27 l5.length)],[]⟩:St)) ?_ ?_
   ·rintro⟨l3,i4⟩ y h;unfold Hu at h;refine Ae hq [1,3,5,21,22,23,24] zzN70 ?_;refine gC h ?_ ?_<;>intro h
    ·obtain⟨x17,hx17,h⟩:=bind_some h;refine gJ hx17 (fun l6=>aG Γ .normal (⟨[W9,(3,(.ptr 3 0)),(5,(Z56 l6 5005)),(21,(Q119 a0)),(22,(Z52 a0.Blocks.length)),(23,(Z7 i4))],[(1,.row 25 [(Z8 a0.Params),(Z7 a0.Ret),(Q119 a0)]),(3,.row 41 [(Z20 x2.1.Succ),(Z20 x2.1.Pred)]),(5005,.tok 4 27 l6.length)],[]⟩:St)) ?_ ?_
     ·clear h hx17;intro y h;obtain⟨hc7,h⟩:=Aa h;refine gR hq [1,3,5,6,7,21,22,23] Aah [] [] (c1 hc7) ?_;obtain⟨hc8,h⟩:=Aa h;obtain⟨hc9,h⟩:=Aa h;refine gR hq [1,3,5,6,7,21,22,23,44] Aah [] [] (ci (gI (Q113 a0 i4)) (ci (gI (Q113 a0 i4)) (ci (gI (Q113 a0 i4)) (ci hc8 (ci (gI (Q113 a0 i4)) (ci (gI (Q113 a0 i4)) (ci (gI (Q113 a0 i4)) (ci (gI (Q113 a0 i4)) (ci hc9 (ci (gI (Q113 a0 i4)) (ci (gI (Q113 a0 i4)) (ci (gI (Q113 a0 i4)) (c1 (Ko (((a0.Blocks.getD i4.toNat default).End.Kind:Int)!=2))))))))))))))) ?_;refine gC h ?_ ?_<;>intro h
      ·obtain rfl:=OI h;exact gK (Bm (B7 Aaf zzN70 hq))
      ·obtain⟨x10,hx10,h⟩:=bind_some h;refine gR hq zzN45 Aah [] [⟨[],[],(.agg [(Q115 a0 x2 i4),(Q115 a0 x2 i4),(Q115 a0 x2 i4),(.clo 62 [] []),(.clo 62 [] []),(Q115 a0 x2 i4)]),[],[],[]⟩] (c1 (ok_hammock_pairs a0.Blocks x2.1.Pred i4 x10 hx10)) ?_;refine gU 3 ?_;refine Ae hq zzN41 Aah ?_;refine gCt true ?_;refine gR hq zzN63 zzN144 [] [] (c1 (show(A5 (0:Int) 3) from(by decide))) ?_;obtain⟨x11,hx11,h⟩:=bind_some h;refine gR hq zzN49 zzN64 [] [(Z41 x11.1 x11.2)] (c1 (ok_hammock_meeting i4 ((a0.Blocks.getD i4.toNat default).End.To) a0.Blocks x2.1.Pred i4 a0.Blocks x2.1.Pred i4 x11 hx11)) ?_;refine Ae hq zzN50 zzN64 ?_;refine gC h ?_ ?_<;>intro h
       ·obtain⟨hc12,h⟩:=Aa h;refine gR hq Aaf zzN70 (Z32 x11.1 l3) [] (ci (Bu 4 eTHammock (default:THammock) ([x11.1]:List THammock)) (ci (Eq.refl l3.length) (ci hc12 (ci (Jr 4 5005 eTHammock (default:THammock) l3 ([x11.1]:List THammock)) (c1 (Fz l3 ([x11.1]:List THammock))))))) ?_;cases h;exact gK (Bm C1)
       ·refine Ae hq zzN45 Aah ?_;refine Ae hq zzN41 Aah ?_;refine gCt true ?_;refine gR hq zzN63 zzN144 [] [] (c1 (show(A5 (1:Int) 3) from(by decide))) ?_;obtain⟨x13,hx13,h⟩:=bind_some h;refine gR hq zzN49 zzN64 [] [(Z41 x13.1 x13.2)] (c1 (Wn i4 ((a0.Blocks.getD i4.toNat default).End.To) a0.Blocks x2.1.Pred i4 x13 hx13)) ?_;refine Ae hq zzN50 zzN64 ?_;refine gC h ?_ ?_<;>intro h
        ·obtain⟨hc14,h⟩:=Aa h;refine gR hq Aaf zzN70 (Z32 x13.1 l3) [] (ci (Bu 4 eTHammock (default:THammock) ([x13.1]:List THammock)) (ci (Eq.refl l3.length) (ci hc14 (ci (Jr 4 5005 eTHammock (default:THammock) l3 ([x13.1]:List THammock)) (c1 (Fz l3 ([x13.1]:List THammock))))))) ?_;cases h;exact gK (Bm C1)
        ·refine Ae hq zzN45 Aah ?_;refine Ae hq zzN41 Aah ?_;refine gCt true ?_;refine gR hq zzN63 zzN144 [] [] (c1 (show(A5 (2:Int) 3) from(by decide))) ?_;obtain⟨x15,hx15,h⟩:=bind_some h;refine gR hq zzN49 zzN64 [] [(Z41 x15.1 x15.2)] (c1 (Wo i4 ((a0.Blocks.getD i4.toNat default).End.To) a0.Blocks x2.1.Pred i4 x15 hx15)) ?_;refine Ae hq zzN50 zzN64 ?_;refine gC h ?_ ?_<;>intro h
         ·obtain⟨hc16,h⟩:=Aa h;refine gR hq Aaf zzN70 (Z32 x15.1 l3) [] (ci (Bu 4 eTHammock (default:THammock) ([x15.1]:List THammock)) (ci (Eq.refl l3.length) (ci hc16 (ci (Jr 4 5005 eTHammock (default:THammock) l3 ([x15.1]:List THammock)) (c1 (Fz l3 ([x15.1]:List THammock))))))) ?_;cases h;exact gK (Bm C1)
         ·refine Ae hq zzN45 Aah ?_;refine Ae hq zzN41 Aah ?_;refine gCt false ?_;obtain rfl:=OI h;exact gK (Bm (B7 Aaf zzN70 hq))
     ·clear hx17;refine gA ?_;refine Ae hq Aaf zzN70 ?_;cases h;exact gN C1
    ·cases h;exact gO (Bm (B7 [5] [5005] hq))
   ·clear hx19;refine gA ?_;refine Ae hq [2] [5005] ?_;cases h;exact gJo (L8 (Kf [(5005,20000)] (Le.refl _ _)))
 ·exact nofun
 ·clear hx21;refine Ol (fun st' hk=>?_);obtain rfl:=OI h;exact gK hk
def Sk(aE:Int)(x1:List THammock):Int->Option (LR Int (Unit ⊕ (THammock×Bool))):=
 fun(i2:Int)=>(bif (decide (i2<(x1.length:Int))) then(A7 (A5 i2 x1.length) (bif (((x1.getD i2.toNat default).At:Int)==aE) then(some (.done (.inr ((x1.getD i2.toNat default),true)))) else(some (.next (w64 (i2+1)))))) else(some (.done (.inl ()))))
def K_hammock_Find(Γ:Ix)(a0:TFunc)(aE:Int)(r:(THammock×Bool)):Exit->St->Prop:=fK Tryz.prog Γ Tryz.f10.results.toList [] (.tuple [(Z69 r.1),(.bool r.2)]) []
def Ox(a0:TFunc)(aE:Int):Option (THammock×Bool):=
 ((Ja a0).bind fun x1=>((Ag (Sk aE x1) (0:Int)).bind (fun x4=>(match x4 with|(.inl _)=>(some ((⟨(0:Int),(0:Int),(0:Int),(0:Int)⟩:THammock),false))|(.inr r6)=>(some r6)))))
theorem Vz(a0:TFunc)(aE:Int)(r:(THammock×Bool))(h:Ox a0 aE=some r):Spec Tryz.prog 10 [(Z44 a0),(Z7 aE)] [] (.tuple [(Z69 r.1),(.bool r.2)]) []:=by
 refine Ab mix Tryz.func10 (fun Γ hq=>?_);unfold Ox at h;refine Ae hq [1,2,4] [2,4] ?_;obtain⟨x1,hx1,h⟩:=bind_some h;refine gR hq zzN151 [4,9] [] [⟨[],[(20000,9)],(Z56 x1 20000),[(20000,.tok 4 27 x1.length)],[],[]⟩] (c1 (Rs a0 x1 hx1)) ?_;obtain⟨x4,hx4,h⟩:=bind_some h;refine gL hq hx4 zzN151 [4,9] (fun u i2=>(Ew u [(11,(Z7 i2))] [])) (fun u x_=>match x_ with|(.inl _)=>aG Γ (.exit 0) (Pa [4] [4] u [] [])|(.inr r_)=>aR (K_hammock_Find Γ a0 aE r_)) ?_ ?_
 ·intro i2 y h;unfold Sk at h;refine Ae hq [1,4,9,10,11,12] [4,9] ?_;refine gC h ?_ ?_<;>intro h
  ·obtain⟨hc3,h⟩:=Aa h;refine gR hq [1,4,7,9,10,11] [4,7,9] [] [] (c1 hc3) ?_;refine Ae hq [1,4,7,9,10,11,18] [4,7,9] ?_;refine gC h ?_ ?_<;>intro h
   ·refine Ae hq [4,5] [4] ?_;cases h;exact gO (L8 (Kf [] (Le.refl _ _)))
   ·refine Ae hq zzN151 [4,9] ?_;cases h;exact gN C1
  ·cases h;exact gO (Bm (B7 [4] [4] hq))
 ·clear hx4;rcases x4 with _|r6
  ·refine gA ?_;refine Ae hq [4,5] [4] ?_;cases h;exact Cu []
  ·refine Ol (fun st' hk=>?_);obtain rfl:=OI h;exact gK hk
def m_slices_Index_api_Hammock_api_Hammock_L1(aL:List THammock)(aC:THammock):Int->Option (LR Int (Unit ⊕ Int)):=
 fun(i1:Int)=>(bif (decide (i1<(aL.length:Int))) then(A7 (A5 i1 aL.length) (bif ((aC.At==(aL.getD i1.toNat default).At)&&((aC.Then==(aL.getD i1.toNat default).Then)&&((aC.Else==(aL.getD i1.toNat default).Else)&&((aC.Join==(aL.getD i1.toNat default).Join)&&true)))) then(some (.done (.inr i1))) else(some (.next (w64 (i1+1)))))) else(some (.done (.inl ()))))
def L9(Γ:Ix)(aL:List THammock)(aC:THammock)(r:Int):Exit->St->Prop:=fK Tryz.prog Γ Tryz.f55.results.toList [] (.int .i64 r) []
def Dd(aL:List THammock)(aC:THammock):Option Int:=
 ((Ag (m_slices_Index_api_Hammock_api_Hammock_L1 aL aC) (0:Int)).bind (fun x3=>(match x3 with|(.inl _)=>(some (-1:Int))|(.inr r5)=>(some r5))))
theorem L6(aL:List THammock)(aC:THammock)(r:Int)(h:Dd aL aC=some r):Spec Tryz.prog 55 [(AV.list 4 eTHammock default aL .none),(Z69 aC)] [] (.int .i64 r) []:=by
 refine Ab mix Tryz.func55 (fun Γ hq=>?_);unfold Dd at h;refine Ae hq Qr [3] ?_;refine Ae hq [0,3,7,8] [3] ?_;obtain⟨x3,hx3,h⟩:=bind_some h;refine gL hq hx3 [0,3,7,8] [3] (fun u i1=>(Ew u [(8,(Z7 i1))] [])) (fun u x_=>match x_ with|(.inl _)=>aG Γ (.exit 0) (⟨[],[],[]⟩:St)|(.inr r_)=>aR (L9 Γ aL aC r_)) ?_ ?_
 ·intro i1 y h;unfold m_slices_Index_api_Hammock_api_Hammock_L1 at h;refine Ae hq [0,3,7,8,9] [3] ?_;refine gC h ?_ ?_<;>intro h
  ·refine Ae hq [0,3,5,7,8] [3] ?_;obtain⟨hc2,h⟩:=Aa h;refine gR hq [0,3,5,7,8,16] [3] [] [] (c1 hc2) ?_;refine gC h ?_ ?_<;>intro h
   ·refine Ae hq [4] [] ?_;cases h;exact gO (L8 (Kf [] (Le.refl _ _)))
   ·refine Ae hq [0,3,7,8] [3] ?_;cases h;exact gN C1
  ·cases h;exact gO (Bm (B7 [] [] hq))
 ·clear hx3;rcases x3 with _|r5
  ·refine gA ?_;refine Ae hq [4] [] ?_;cases h;exact Cu []
  ·refine Ol (fun st' hk=>?_);obtain rfl:=OI h;exact gK hk
def Cv(aL:List THammock)(aC:THammock):Option Bool:=
 ((Dd aL aC).bind fun x1=>(some (decide (((0:Int):Int)<=x1))))
theorem Lm(aL:List THammock)(aC:THammock)(r:Bool)(h:Cv aL aC=some r):Spec Tryz.prog 27 [(AV.list 4 eTHammock default aL .none),(Z69 aC)] [] (.bool r) []:=by
 refine Ab mix Tryz.func27 (fun Γ hq=>?_);unfold Cv at h;refine Ae hq Qr [3] ?_;obtain⟨x1,hx1,h⟩:=bind_some h;refine gR hq [4] [] [] [(Z19 x1)] (c1 (L6 aL aC x1 hx1)) ?_;cases h;exact Cu []
def J8(a0:TFunc)(aM:THammock):Option Bool:=
 ((Ja a0).bind fun x1=>((Cv x1 aM).bind fun x2=>(some x2)))
theorem Py(a0:TFunc)(aM:THammock)(r:Bool)(h:J8 a0 aM=some r):Spec Tryz.prog 12 [(Z44 a0),(Z69 aM)] [] (.bool r) []:=by
 refine Ab mix Tryz.func12 (fun Γ hq=>?_);unfold J8 at h;refine Ae hq Fk Fk ?_;obtain⟨x1,hx1,h⟩:=bind_some h;obtain⟨x2,hx2,h⟩:=bind_some h;refine gR hq [4] [] [] [⟨[],[(20000,6)],(Z56 x1 20000),[(20000,.tok 4 27 x1.length)],[],[]⟩,(Z2 x2)] (ci (Rs a0 x1 hx1) (c1 (Lm x1 aM x2 hx2))) ?_;obtain rfl:=OI h;exact Cu []
def D6(a0:TFunc)(aM:THammock):(List Dp×Int)->Option (LR (List Dp×Int) (List Dp)):=
 fun((l2,i3):(List Dp×Int))=>(bif (decide (i3<(([aM.Then,aM.Else]:List Int).length:Int))) then(Option.bind (α:=List Dp) (A7 (A5 i3 ([aM.Then,aM.Else]:List Int).length) (bif (((([aM.Then,aM.Else]:List Int).getD i3.toNat 0):Int)!=-1) then(A7 (A5 (([aM.Then,aM.Else]:List Int).getD i3.toNat 0) a0.Blocks.length) (A7 (l2.length+((a0.Blocks.getD (([aM.Then,aM.Else]:List Int).getD i3.toNat 0).toNat (default:Ah)).Ops).length<=room) (some (l2++(a0.Blocks.getD (([aM.Then,aM.Else]:List Int).getD i3.toNat 0).toNat (default:Ah)).Ops)))) else(some l2))) (fun x9=>(some (.next (x9,(w64 (i3+1))))))) else(some (.done l2)))
def Q124(aM:THammock):=([aM.Then,aM.Else]:List Int)
def Q121:AV:=(AV.list 6 P1 default ([]:List Dp) .exact)
def Q122(a0:TFunc)(aM:THammock)(i3:Int):=(a0.Blocks.getD ((Q124 aM).getD i3.toNat 0).toNat (default:Ah))
def Q125(a0:TFunc):List AV:=[(Z8 a0.Params),(Z7 a0.Ret),(Z16 a0.Blocks)]
def Q123:=(⟨[(4,(AV.list 6 P1 default ([]:List Dp) (.own 6004))),(5,(.bool false))],[(6004,.tok 6 57 (([]:List Dp).length))],[]⟩:St)
def Q120(aM:THammock)(a0:TFunc):=(⟨[Ra,(6,(AV.list 6 P1 default ([]:List Dp) (.own 5006))),(17,(AV.list 1 As 0 (Q124 aM) .exact)),(18,(.int .i64 ((Q124 aM).length:Int))),(19,Qs)],[(Nj 25 (Q125 a0)),(5006,.tok 6 57 (([]:List Dp).length))],[]⟩:St)
def Is(a0:TFunc)(aM:THammock):Option (List Dp×Bool):=
 ((J8 a0 aM).bind fun x1=>(bif (!x1) then(some (([]:List Dp),false)) else((Ag (D6 a0 aM) (([]:List Dp),(0:Int))).bind (fun x11=>(some (x11,true))))))
theorem Ru(a0:TFunc)(aM:THammock)(r:(List Dp×Bool))(h:Is a0 aM=some r):Spec Tryz.prog 30 [(Z44 a0),(Z69 aM)] [] (.tuple [(Z72 r.1 20000),(.bool r.2)]) [(20000,.tok 6 57 r.1.length)]:=by
 refine Ab mix Tryz.func30 (fun Γ hq=>?_);unfold Is at h;refine gR hq Fk Fk [(4,Q121)] [] (c1 (Do 6 P1 (default:Dp))) ?_;obtain⟨x1,hx1,h⟩:=bind_some h;refine gR hq [2,3,12] Fk [] [(Z2 x1)] (c1 (Py a0 aM x1 hx1)) ?_;refine gC h ?_ ?_<;>intro h
 ·refine gR hq [4,5] [] [(4,Q121)] [] (c1 (Do 6 P1 (default:Dp))) ?_;refine Qk (⟨[(4,Q121),(5,(.bool false))],[],[]⟩:St) ?_;cases h;exact gK (e:=.ret) (Kf zzN99 (show Le Γ _ Q123 from Le.trans (B7 (st':=⟨[(4,Q121),(5,(.bool false))],[],[]⟩) [4,5] [] hq) (Le.trans (N4 (t:=4) (nm:=6004) (sz':=6) (fun i=>P1 (([]:List Dp).getD i default)) 57 rfl rfl (.inl ⟨rfl,rfl⟩) (fun h_=>absurd h_ (by decide))) (B7 (st':=Q123) [4,5] [6004] hq))))
 ·refine gR hq [2,3,6] Fk [(6,Q121)] [] (c1 (Do 6 P1 (default:Dp))) ?_;refine gR hq zzN53 [2] [(17,(AV.list 1 As 0 (Q124 aM) .exact))] [] (c1 (Bu 1 As (0:Int) (Q124 aM))) ?_;refine Oi (st':=(Q120 aM a0)) (Le.trans (B7 (st':=⟨[Ra,(6,Q121),(17,(AV.list 1 As 0 (Q124 aM) .exact)),(18,(.int .i64 ((Q124 aM).length:Int))),(19,Qs)],[(Nj 25 (Q125 a0))],[]⟩) zzN53 [2] hq) (Le.trans (N4 (t:=6) (nm:=5006) (sz':=6) (fun i=>P1 (([]:List Dp).getD i default)) 57 rfl rfl (.inl ⟨rfl,rfl⟩) (fun h_=>absurd h_ (by decide))) (B7 (st':=(Q120 aM a0)) zzN53 Yp hq))) ?_;obtain⟨x11,hx11,h⟩:=bind_some h;refine gL hq hx11 zzN53 Yp (fun u (l2,i3)=>(Ew u [(6,(Z72 l2 5006)),(19,(Z7 i3))] [(5006,.tok 6 57 l2.length)])) (fun u l4=>aG Γ (.exit 0) (⟨[(6,(Z72 l4 5006))],[(5006,.tok 6 57 l4.length)],[]⟩:St)) ?_ ?_
  ·rintro⟨l2,i3⟩ y h;unfold D6 at h;refine Ae hq [2,6,17,18,19,20] Yp ?_;refine gC h ?_ ?_<;>intro h
   ·obtain⟨x9,hx9,h⟩:=bind_some h;refine gJ hx9 (fun l5=>aG Γ .normal (⟨[Ra,(6,(Z72 l5 5006)),(17,(AV.list 1 As 0 (Q124 aM) .exact)),(18,(.int .i64 ((Q124 aM).length:Int))),(19,(Z7 i3))],[(Nj 25 (Q125 a0)),(5006,.tok 6 57 l5.length)],[]⟩:St)) ?_ ?_
    ·clear h hx9;intro y h;obtain⟨hc6,h⟩:=Aa h;refine gR hq [2,6,8,17,18,19] Yp [] [] (c1 hc6) ?_;refine Ae hq [2,6,8,17,18,19,24] Yp ?_;refine gC h ?_ ?_<;>intro h
     ·obtain⟨hc7,h⟩:=Aa h;obtain⟨hc8,h⟩:=Aa h;refine gR hq zzN53 Yp [(32,(AV.list 6 P1 default (l2++(Q122 a0 aM i3).Ops) (.own 5006)))] [] (ci hc7 (ci (Eq.refl l2.length) (ci hc8 (ci (Jr 6 5006 P1 (default:Dp) l2 ((Q122 a0 aM i3).Ops)) (c1 (Fz l2 ((Q122 a0 aM i3).Ops))))))) ?_;cases h;exact gK (Bm C1)
     ·obtain rfl:=OI h;exact gK (Bm (B7 zzN53 Yp hq))
    ·clear hx9;refine gA ?_;refine Ae hq zzN53 Yp ?_;cases h;exact gN C1
   ·cases h;exact gO (Bm (B7 [6] [5006] hq))
  ·clear hx11;refine gA ?_;refine Ae hq [4,5] [5006] ?_;cases h;exact Cu [(5006,20000)]
def Kv(a0:TFunc)(aM:THammock):Option Int:=
 ((Is a0 aM).bind fun x1=>(some (x1.1.length:Int)))
theorem Vy(a0:TFunc)(aM:THammock)(r:Int)(h:Kv a0 aM=some r):Spec Tryz.prog 17 [(Z44 a0),(Z69 aM)] [] (.int .i64 r) []:=by
 refine Ab mix Tryz.func17 (fun Γ hq=>?_);unfold Kv at h;refine Ae hq Fk Fk ?_;obtain⟨x1,hx1,h⟩:=bind_some h;refine gR hq [5] [10] [] [⟨[],[(20000,10)],(.tuple [(Z72 x1.1 20000),(.bool x1.2)]),[(20000,.tok 6 57 x1.1.length)],[],[]⟩] (c1 (Ru a0 aM x1 hx1)) ?_;refine Ae hq [4] [] ?_;cases h;exact Cu []
def Jl(a1:Dp):Option Bool:=
 (some (a1.Lanes !=1))
theorem Zm(a1:Dp)(r:Bool)(h:Jl a1=some r):Spec Tryz.prog 32 (Z66 a1) [] (.bool r) []:=by
 refine Ab mix Tryz.func32 (fun Γ hq=>?_);unfold Jl at h;refine Ae hq [1] [1] ?_;refine Ae hq [2] [] ?_;cases h;exact Cu []
def m_slices_IndexFunc_api_Op_api_Op_L1(aL:List Dp):Int->Option (LR Int (Unit ⊕ Int)):=
 fun(i1:Int)=>(bif (decide (i1<(aL.length:Int))) then(A7 (A5 i1 aL.length) ((Jl (aL.getD i1.toNat default)).bind fun x3=>(bif x3 then(some (.done (.inr i1))) else(some (.next (w64 (i1+1))))))) else(some (.done (.inl ()))))
def Om(Γ:Ix)(aL:List Dp)(r:Int):Exit->St->Prop:=fK Tryz.prog Γ Tryz.f58.results.toList [] (.int .i64 r) []
def Eu(aL:List Dp):Option Int:=
 ((Ag (m_slices_IndexFunc_api_Op_api_Op_L1 aL) (0:Int)).bind (fun x4=>(match x4 with|(.inl _)=>(some (-1:Int))|(.inr r6)=>(some r6))))
theorem Oj(aL:List Dp)(r:Int)(h:Eu aL=some r):Spec Tryz.prog 58 [(AV.list 6 P1 default aL .none),(.clo 32 [] [])] [] (.int .i64 r) []:=by
 refine Ab mix Tryz.func58 (fun Γ hq=>?_);unfold Eu at h;refine Ae hq Jo [] ?_;refine Ae hq zzN108 [] ?_;obtain⟨x4,hx4,h⟩:=bind_some h;refine gL hq hx4 zzN108 [] (fun u i1=>(Ew u [(8,(Z7 i1))] [])) (fun u x_=>match x_ with|(.inl _)=>aG Γ (.exit 0) (⟨[],[],[]⟩:St)|(.inr r_)=>aR (Om Γ aL r_)) ?_ ?_
 ·intro i1 y h;unfold m_slices_IndexFunc_api_Op_api_Op_L1 at h;refine Ae hq [0,1,7,8,9] [] ?_;refine gC h ?_ ?_<;>intro h
  ·refine Ae hq [0,1,5,7,8] [] ?_;obtain⟨hc2,h⟩:=Aa h;obtain⟨x3,hx3,h⟩:=bind_some h;refine gR hq [0,1,5,7,8,16] [] [] [(Z2 x3)] (ci hc2 (c1 (Zm (aL.getD i1.toNat default) x3 hx3))) ?_;refine gC h ?_ ?_<;>intro h
   ·refine Ae hq [4] [] ?_;cases h;exact gO (L8 (Kf [] (Le.refl _ _)))
   ·refine Ae hq zzN108 [] ?_;cases h;exact gN C1
  ·cases h;exact gO (Bm (B7 [] [] hq))
 ·clear hx4;rcases x4 with _|r6
  ·refine gA ?_;refine Ae hq [4] [] ?_;cases h;exact Cu []
  ·refine Ol (fun st' hk=>?_);obtain rfl:=OI h;exact gK hk
def Cq(aL:List Dp):Option Bool:=
 ((Eu aL).bind fun x1=>(some (decide (((0:Int):Int)<=x1))))
theorem Ni(aL:List Dp)(r:Bool)(h:Cq aL=some r):Spec Tryz.prog 31 [(AV.list 6 P1 default aL .none),(.clo 32 [] [])] [] (.bool r) []:=by
 refine Ab mix Tryz.func31 (fun Γ hq=>?_);unfold Cq at h;refine Ae hq Jo [] ?_;obtain⟨x1,hx1,h⟩:=bind_some h;refine gR hq [4] [] [] [(Z19 x1)] (c1 (Oj aL x1 hx1)) ?_;cases h;exact Cu []
def Hv(a0:TFunc)(aM:THammock):Option Bool:=
 ((Is a0 aM).bind fun x1=>((bif (x1.2==true) then Cq x1.1 else some false).bind fun x2=>(some (bif x1.2 then(!x2) else false))))
theorem O2(a0:TFunc)(aM:THammock)(r:Bool)(h:Hv a0 aM=some r):Spec Tryz.prog 14 [(Z44 a0),(Z69 aM)] [] (.bool r) []:=by
 refine Ab mix Tryz.func14 (fun Γ hq=>?_);unfold Hv at h;refine Ae hq Fk Fk ?_;obtain⟨x1,hx1,h⟩:=bind_some h;refine gR hq [5,6] [10] [] [⟨[],[(20000,10)],(.tuple [(Z72 x1.1 20000),(.bool x1.2)]),[(20000,.tok 6 57 x1.1.length)],[],[]⟩] (c1 (Ru a0 aM x1 hx1)) ?_;obtain⟨x2,hx2,h⟩:=bind_some h;refine gR hq [4] [] [] [(Z2 x2)] (ci (gI (x1.2==true)) (ci (fun(hg:(x1.2==true)=true)=>(Ni x1.1 x2 (Bh hg hx2))) (ci (gI (x1.2==true)) (c1 (Nb x1.2))))) ?_;cases h;exact Cu []
def Q127(x4:Int):=(x4==1)
def Q128(x6:List THammock):=(((x6.length:Int):Int)==1)
def Q130(x2:(THammock×Bool)):=(bif x2.2 then(((x2.1.At:Int)==0)&&(((x2.1.Then:Int)==1)&&(((x2.1.Else:Int)==2)&&(((x2.1.Join:Int)==3)&&true)))) else false)
def Q126(x2:(THammock×Bool))(x3:(THammock×Bool)):=(bif (Q130 x2) then(!x3.2) else false)
def Q129(x2:(THammock×Bool))(x3:(THammock×Bool))(x4:Int)(x5:Bool):=(bif (bif (Q126 x2 x3) then(Q127 x4) else false) then x5 else false)
def Q131(x2:(THammock×Bool))(x3:(THammock×Bool))(x4:Int)(x5:Bool)(x6:List THammock):=(bif (Q129 x2 x3 x4 x5) then(Q128 x6) else false)
def m_locksteplaw14_awake :Option Bool:=
 (m_locksteplaw14_diamond.bind fun x1=>((Ox x1 (0:Int)).bind fun x2=>((Ox x1 (1:Int)).bind fun x3=>((bif ((bif (bif x2.2 then(((x2.1.At:Int)==0)&&(((x2.1.Then:Int)==1)&&(((x2.1.Else:Int)==2)&&(((x2.1.Join:Int)==3)&&true)))) else false) then(!x3.2) else false)==true) then Kv x1 x2.1 else some (0:Int)).bind fun x4=>((bif ((bif (bif (bif x2.2 then(((x2.1.At:Int)==0)&&(((x2.1.Then:Int)==1)&&(((x2.1.Else:Int)==2)&&(((x2.1.Join:Int)==3)&&true)))) else false) then(!x3.2) else false) then(x4==1) else false)==true) then Hv x1 x2.1 else some false).bind fun x5=>((bif ((bif (bif (bif (bif x2.2 then(((x2.1.At:Int)==0)&&(((x2.1.Then:Int)==1)&&(((x2.1.Else:Int)==2)&&(((x2.1.Join:Int)==3)&&true)))) else false) then(!x3.2) else false) then(x4==1) else false) then x5 else false)==true) then Ja x1 else some []).bind fun x6=>((bif ((bif (bif (bif (bif (bif x2.2 then(((x2.1.At:Int)==0)&&(((x2.1.Then:Int)==1)&&(((x2.1.Else:Int)==2)&&(((x2.1.Join:Int)==3)&&true)))) else false) then(!x3.2) else false) then(x4==1) else false) then x5 else false) then(((x6.length:Int):Int)==1) else false)==true) then J8 x1 x2.1 else some false).bind fun x7=>((bif ((bif (bif (bif (bif (bif (bif x2.2 then(((x2.1.At:Int)==0)&&(((x2.1.Then:Int)==1)&&(((x2.1.Else:Int)==2)&&(((x2.1.Join:Int)==3)&&true)))) else false) then(!x3.2) else false) then(x4==1) else false) then x5 else false) then(((x6.length:Int):Int)==1) else false) then x7 else false)==true) then J8 x1 (⟨(0:Int),(0:Int),(0:Int),(0:Int)⟩:THammock) else some false).bind fun x8=>(some (bif (bif (bif (bif (bif (bif (bif x2.2 then(((x2.1.At:Int)==0)&&(((x2.1.Then:Int)==1)&&(((x2.1.Else:Int)==2)&&(((x2.1.Join:Int)==3)&&true)))) else false) then(!x3.2) else false) then(x4==1) else false) then x5 else false) then(((x6.length:Int):Int)==1) else false) then x7 else false) then(!x8) else false))))))))))
theorem U2  (r:Bool) (h:m_locksteplaw14_awake=some r):Spec Tryz.prog 8 [] [] (.bool r) []:=by
 refine Ab mix Tryz.func8 (fun Γ hq=>?_);unfold m_locksteplaw14_awake at h;refine Ae hq [] [] ?_;obtain⟨x1,hx1,h⟩:=bind_some h;refine gR hq [1] [1] [] [⟨[],[],(Z44 x1),[],[],[]⟩] (c1 (Tb  x1 hx1)) ?_;obtain⟨x2,hx2,h⟩:=bind_some h;refine gR hq [1,2,3] Mu [] [(Z41 x2.1 x2.2)] (c1 (Vz x1 (0:Int) x2 hx2)) ?_;obtain⟨x3,hx3,h⟩:=bind_some h;refine gR hq [1,2,3,5] Mu [] [(Z41 x3.1 x3.2)] (c1 (Vz x1 (1:Int) x3 hx3)) ?_;obtain⟨x4,hx4,h⟩:=bind_some h;obtain⟨x5,hx5,h⟩:=bind_some h;obtain⟨x6,hx6,h⟩:=bind_some h;obtain⟨x7,hx7,h⟩:=bind_some h;obtain⟨x8,hx8,h⟩:=bind_some h;refine gR hq [0] [] [] [(Z19 x4),(Z2 x5),⟨[],[],(AV.list 4 eTHammock default x6 .none),[],[],[]⟩,(Z2 x7),(Z2 x8)] (ci (gI (x2.2==true)) (ci (gI (x2.2==true)) (ci (Nb x2.2) (ci (gI ((Q130 x2)==true)) (ci (Nb (Q130 x2)) (ci (gI ((Q126 x2 x3)==true)) (ci (gI ((Q126 x2 x3)==true)) (ci (fun(hg:((Q126 x2 x3)==true)=true)=>(Vy x1 x2.1 x4 (Bh hg hx4))) (ci (gI ((Q126 x2 x3)==true)) (ci (Nb (Q126 x2 x3)) (ci (gI ((bif (Q126 x2 x3) then(Q127 x4) else false)==true)) (ci (gI ((bif (Q126 x2 x3) then(Q127 x4) else false)==true)) (ci (fun(hg:((bif (Q126 x2 x3) then(Q127 x4) else false)==true)=true)=>(O2 x1 x2.1 x5 (Bh hg hx5))) (ci (Nb (bif (Q126 x2 x3) then(Q127 x4) else false)) (ci (gI ((Q129 x2 x3 x4 x5)==true)) (ci (show(((Q129 x2 x3 x4 x5)==true)=true->(Spec Tryz.prog 18 [(Z44 x1)] [] (AV.list 4 eTHammock default x6 .none) [])) from(fun hg=>(Spec.drop (Rs x1 x6 (Bh hg hx6))))) (ci (gI ((Q129 x2 x3 x4 x5)==true)) (ci (gI ((Q129 x2 x3 x4 x5)==true)) (ci (Nb (Q129 x2 x3 x4 x5)) (ci (gI ((Q131 x2 x3 x4 x5 x6)==true)) (ci (gI ((Q131 x2 x3 x4 x5 x6)==true)) (ci (fun(hg:((Q131 x2 x3 x4 x5 x6)==true)=true)=>(Py x1 x2.1 x7 (Bh hg hx7))) (ci (Nb (Q131 x2 x3 x4 x5 x6)) (ci (gI ((bif (Q131 x2 x3 x4 x5 x6) then x7 else false)==true)) (ci (gI ((bif (Q131 x2 x3 x4 x5 x6) then x7 else false)==true)) (ci (fun(hg:((bif (Q131 x2 x3 x4 x5 x6) then x7 else false)==true)=true)=>(Py x1 (⟨(0:Int),(0:Int),(0:Int),(0:Int)⟩:THammock) x8 (Bh hg hx8))) (ci (gI ((bif (Q131 x2 x3 x4 x5 x6) then x7 else false)==true)) (c1 (Nb (bif (Q131 x2 x3 x4 x5 x6) then x7 else false)))))))))))))))))))))))))))))) ?_;cases h;exact Cu []
def Cn(a0:TFunc)(i2:Int):(Int×Int)->Option (LR (Int×Int) Int):=
 fun((i5,i6):(Int×Int))=>(A7 (A5 i2 a0.Blocks.length) (bif (bif (decide (i6<(((a0.Blocks.getD i2.toNat default).Phis).length:Int))) then(decide (i5<=20000)) else false) then(A7 (A5 i2 a0.Blocks.length) (A7 (A5 i6 ((a0.Blocks.getD i2.toNat default).Phis).length) (A7 (A5 i2 a0.Blocks.length) (A7 (A5 i6 ((a0.Blocks.getD i2.toNat default).Phis).length) (some (.next ((w64 ((w64 ((w64 (i5+1))+(((((a0.Blocks.getD i2.toNat default).Phis).getD i6.toNat default).From).length:Int)))+(((((a0.Blocks.getD i2.toNat default).Phis).getD i6.toNat default).Args).length:Int))),(w64 (i6+1))))))))) else(some (.done i5))))
def Co(a0:TFunc)(i2:Int):(Int×Int)->Option (LR (Int×Int) Int):=
 fun((i15,i16):(Int×Int))=>(A7 (A5 i2 a0.Blocks.length) (bif (bif (decide (i16<(((a0.Blocks.getD i2.toNat default).Ops).length:Int))) then(decide (i15<=20000)) else false) then(A7 (A5 i2 a0.Blocks.length) (A7 (A5 i16 ((a0.Blocks.getD i2.toNat default).Ops).length) (some (.next ((w64 ((w64 (i15+1))+(((((a0.Blocks.getD i2.toNat default).Ops).getD i16.toNat default).Args).length:Int))),(w64 (i16+1))))))) else(some (.done i15))))
def B0(a0:TFunc):(Int×Int)->Option (LR (Int×Int) Int):=
 fun((i1,i2):(Int×Int))=>(bif (bif (decide (i2<(a0.Blocks.length:Int))) then(decide (i1<=20000)) else false) then(A7 (A5 i2 a0.Blocks.length) ((Ag (Cn a0 i2) ((w64 ((w64 (i1+1))+(((a0.Blocks.getD i2.toNat default).End.To).length:Int))),(0:Int))).bind (fun x13=>((Ag (Co a0 i2) (x13,(0:Int))).bind (fun x21=>(some (.next (x21,(w64 (i2+1)))))))))) else(some (.done i1)))
def C2(a0:TFunc):Option Bool:=
 ((Ag (B0 a0) ((a0.Params.length:Int),(0:Int))).bind (fun x23=>(some (decide (x23<=20000)))))
theorem U6(a0:TFunc)(r:Bool)(h:C2 a0=some r):Spec Tryz.prog 26 [(Z44 a0)] [] (.bool r) []:=by
 refine Ab mix Tryz.func26 (fun Γ hq=>?_);unfold C2 at h;refine Ae hq [1] [1] ?_;refine Ae hq Kd [1] ?_;refine Ae hq Ke [1] ?_;obtain⟨x23,hx23,h⟩:=bind_some h;refine gL hq hx23 Ke [1] (fun u (i1,i2)=>(Ew u [(3,(Z7 i1)),(4,(Z7 i2))] [])) (fun u i3=>aG Γ (.exit 0) (⟨[(3,(Z7 i3))],[],[]⟩:St)) ?_ ?_
 ·rintro⟨i1,i2⟩ y h;unfold B0 at h;refine gR hq [1,3,4,18] [1] [] [] (ci (gI ((decide (i2<(a0.Blocks.length:Int)))==true)) (c1 (Nb (decide (i2<(a0.Blocks.length:Int)))))) ?_;refine gC h ?_ ?_<;>intro h
  ·obtain⟨hc4,h⟩:=Aa h;refine gR hq Ke [1] [] [] (c1 hc4) ?_;refine Ae hq Lc [1] ?_;obtain⟨x13,hx13,h⟩:=bind_some h;refine gL hq hx13 Lc [1] (fun u (i5,i6)=>(Ew u [(3,(Z7 i5)),(5,(Z7 i6))] [])) (fun u i7=>aG Γ (.exit 2) (Pa Ke [1] u [(3,(Z7 i7))] [])) ?_ ?_
   ·rintro⟨i5,i6⟩ y h;unfold Cn at h;obtain⟨hc8,h⟩:=Aa h;refine gR hq [1,3,4,5,44] [1] [] [] (ci hc8 (ci (gI ((decide (i6<(((a0.Blocks.getD i2.toNat default).Phis).length:Int)))==true)) (c1 (Nb (decide (i6<(((a0.Blocks.getD i2.toNat default).Phis).length:Int))))))) ?_;refine gC h ?_ ?_<;>intro h
    ·obtain⟨hc9,h⟩:=Aa h;obtain⟨hc10,h⟩:=Aa h;obtain⟨hc11,h⟩:=Aa h;obtain⟨hc12,h⟩:=Aa h;refine gR hq Lc [1] [] [] (ci hc9 (ci hc10 (ci hc11 (c1 hc12)))) ?_;refine Ae hq Lc [1] ?_;cases h;exact gN C1
    ·cases h;exact gO (Bm (B7 Ke [1] hq))
   ·clear hx13;refine gA ?_;refine Ae hq zzN156 [1] ?_;obtain⟨x21,hx21,h⟩:=bind_some h;refine gL hq hx21 zzN156 [1] (fun u (i15,i16)=>(Ew u [(3,(Z7 i15)),(6,(Z7 i16))] [])) (fun u i17=>aG Γ (.exit 4) (Pa Ke [1] u [(3,(Z7 i17))] [])) ?_ ?_
    ·rintro⟨i15,i16⟩ y h;unfold Co at h;obtain⟨hc18,h⟩:=Aa h;refine gR hq [1,3,4,6,85] [1] [] [] (ci hc18 (ci (gI ((decide (i16<(((a0.Blocks.getD i2.toNat default).Ops).length:Int)))==true)) (c1 (Nb (decide (i16<(((a0.Blocks.getD i2.toNat default).Ops).length:Int))))))) ?_;refine gC h ?_ ?_<;>intro h
     ·obtain⟨hc19,h⟩:=Aa h;obtain⟨hc20,h⟩:=Aa h;refine gR hq zzN156 [1] [] [] (ci hc19 (c1 hc20)) ?_;refine Ae hq zzN156 [1] ?_;cases h;exact gN C1
     ·cases h;exact gO (Bm (B7 Ke [1] hq))
    ·clear hx21;refine gA ?_;refine Ae hq Ke [1] ?_;cases h;exact gN C1
  ·cases h;exact gO (Bm (B7 [3] [] hq))
 ·clear hx23;refine gA ?_;refine Ae hq [2] [] ?_;cases h;exact Cu []
def Ei(a0:TFunc):(Int×Int)->Option (LR (Int×Int) Int):=
 fun((i1,i2):(Int×Int))=>(bif (decide (i2<(a0.Blocks.length:Int))) then(A7 (A5 i2 a0.Blocks.length) (A7 (A5 i2 a0.Blocks.length) (some (.next ((w64 ((w64 ((w64 (i1+1))+(((a0.Blocks.getD i2.toNat default).Ops).length:Int)))+(((a0.Blocks.getD i2.toNat default).Phis).length:Int))),(w64 (i2+1))))))) else(some (.done i1)))
def Q132(a0:TFunc)(x6:Int):=(bif (decide (((a0.Blocks.length:Int):Int)<=16)) then(decide (x6<=100)) else false)
def Q133(a0:TFunc)(x6:Int):=(bif (Q132 a0 x6) then true else(decide (((64:Int):Int)<(a0.Blocks.length:Int))))
def Hk(a0:TFunc):Option Bool:=
 ((Ag (Ei a0) ((0:Int),(0:Int))).bind (fun x6=>((C2 a0).bind fun x8=>(some (bif x8 then(bif (bif (bif (decide (((a0.Blocks.length:Int):Int)<=16)) then(decide (x6<=100)) else false) then true else(decide (((64:Int):Int)<(a0.Blocks.length:Int)))) then true else(decide (((512:Int):Int)<x6))) else false)))))
theorem U9(a0:TFunc)(r:Bool)(h:Hk a0=some r):Spec Tryz.prog 9 [(Z44 a0)] [] (.bool r) []:=by
 refine Ab mix Tryz.func9 (fun Γ hq=>?_);unfold Hk at h;refine Ae hq [1] [1] ?_;refine Ae hq Kd [1] ?_;refine Ae hq Ke [1] ?_;obtain⟨x6,hx6,h⟩:=bind_some h;refine gL hq hx6 Ke [1] (fun u (i1,i2)=>(Ew u [(3,(Z7 i1)),(4,(Z7 i2))] [])) (fun u i3=>aG Γ (.exit 0) (Pa Kd [1] u [(3,(Z7 i3))] [])) ?_ ?_
 ·rintro⟨i1,i2⟩ y h;unfold Ei at h;refine Ae hq [1,3,4,9] [1] ?_;refine gC h ?_ ?_<;>intro h
  ·obtain⟨hc4,h⟩:=Aa h;obtain⟨hc5,h⟩:=Aa h;refine gR hq Ke [1] [] [] (ci hc4 (c1 hc5)) ?_;refine Ae hq Ke [1] ?_;cases h;exact gN C1
  ·cases h;exact gO (Bm (B7 Kd [1] hq))
 ·clear hx6;refine gA ?_;obtain⟨x8,hx8,h⟩:=bind_some h;refine gR hq [2] [] [] [(Z2 x8)] (ci (U6 a0 x8 hx8) (ci (gI (x8==true)) (ci (gI (x8==true)) (ci (gI (x8==true)) (ci (gI (x8==true)) (ci (gI ((x8==true)&&((decide (((a0.Blocks.length:Int):Int)<=16))==true))) (ci (gI (x8==true)) (ci (show((x8==true)=true->((decide (((a0.Blocks.length:Int):Int)<=16))=true->((x8==true)&&((decide (((a0.Blocks.length:Int):Int)<=16))==true))=true)) from(fun hg=>(aT hg))) (ci (gI (x8==true)) (ci (gI ((x8==true)&&((Q132 a0 x6)==false))) (ci (gI ((x8==true)&&((Q132 a0 x6)==false))) (ci (gI ((x8==true)&&((Q132 a0 x6)==false))) (ci (gI (x8==true)) (ci (show((x8==true)=true->((Q132 a0 x6)=false->((x8==true)&&((Q132 a0 x6)==false))=true)) from(fun hg=>(aF hg))) (ci (gI (x8==true)) (ci (gI ((x8==true)&&((Q133 a0 x6)==false))) (ci (gI (x8==true)) (ci (show((x8==true)=true->((Q133 a0 x6)=false->((x8==true)&&((Q133 a0 x6)==false))=true)) from(fun hg=>(aF hg))) (c1 (Nb x8)))))))))))))))))))) ?_;cases h;exact Cu []
def Be(aU:Int):Option Bool:=
 (some (bif (decide (((0:Int):Int)<=aU)) then(decide (aU<=2147483647)) else false))
theorem Cr(aU:Int)(r:Bool)(h:Be aU=some r):Spec Tryz.prog 79 [(Z7 aU)] [] (.bool r) []:=by
 refine Ab mix Tryz.func79 (fun Γ hq=>?_);unfold Be at h;refine Ae hq [0] [] ?_;refine gR hq [2] [] [] [] (ci (gI ((decide (((0:Int):Int)<=aU))==true)) (c1 (Nb (decide (((0:Int):Int)<=aU))))) ?_;cases h;exact Cu []
def E0(aS:List Int):Int->Option (LR Int (Unit ⊕ Bool)):=
 fun(i1:Int)=>(bif (decide (i1<(aS.length:Int))) then(A7 (A5 i1 aS.length) ((Be (aS.getD i1.toNat 0)).bind fun x3=>(bif (!x3) then(some (.done (.inr false))) else(some (.next (w64 (i1+1))))))) else(some (.done (.inl ()))))
def W5(Γ:Ix)(aS:List Int)(r:Bool):Exit->St->Prop:=fK Tryz.prog Γ Tryz.f78.results.toList [] (.bool r) []
def Dc(aS:List Int):Option Bool:=
 ((Ag (E0 aS) (0:Int)).bind (fun x4=>(match x4 with|(.inl _)=>(some (decide (((aS.length:Int):Int)<=64)))|(.inr r6)=>(some r6))))
theorem Ho(aS:List Int)(r:Bool)(h:Dc aS=some r):Spec Tryz.prog 78 [(Z8 aS)] [] (.bool r) []:=by
 refine Ab mix Tryz.func78 (fun Γ hq=>?_);unfold Dc at h;refine Ae hq [0] [] ?_;refine Ae hq Qr [] ?_;obtain⟨x4,hx4,h⟩:=bind_some h;refine gL hq hx4 Qr [] (fun u i1=>(Ew u [(3,(Z7 i1))] [])) (fun u x_=>match x_ with|(.inl _)=>aG Γ (.exit 0) (Pa [0] [] u [] [])|(.inr r_)=>aR (W5 Γ aS r_)) ?_ ?_
 ·intro i1 y h;unfold E0 at h;refine Ae hq [0,3,7] [] ?_;refine gC h ?_ ?_<;>intro h
  ·obtain⟨hc2,h⟩:=Aa h;obtain⟨x3,hx3,h⟩:=bind_some h;refine gR hq [0,3,15] [] [] [(Z2 x3)] (ci hc2 (c1 (Cr (aS.getD i1.toNat 0) x3 hx3))) ?_;refine gC h ?_ ?_<;>intro h
   ·refine Ae hq [2] [] ?_;cases h;exact gO (L8 (Kf [] (Le.refl _ _)))
   ·refine Ae hq Qr [] ?_;cases h;exact gN C1
  ·cases h;exact gO (Bm (B7 [0] [] hq))
 ·clear hx4;rcases x4 with _|r6
  ·refine gA ?_;refine Ae hq [2] [] ?_;cases h;exact Cu []
  ·refine Ol (fun st' hk=>?_);obtain rfl:=OI h;exact gK hk
def Gn(a0:TFunc):(Int×Int)->Option (LR (Int×Int) Int):=
 fun((i1,i2):(Int×Int))=>(bif (decide (i2<(a0.Blocks.length:Int))) then(A7 (A5 i2 a0.Blocks.length) (A7 (A5 i2 a0.Blocks.length) (some (.next ((w64 ((w64 ((w64 (i1+(((a0.Blocks.getD i2.toNat default).Phis).length:Int)))+(((a0.Blocks.getD i2.toNat default).Ops).length:Int)))+1)),(w64 (i2+1))))))) else(some (.done i1)))
def Ig(a0:TFunc):Option Int:=
 ((Ag (Gn a0) ((0:Int),(0:Int))).bind (fun x6=>(some x6)))
theorem Wr(a0:TFunc)(r:Int)(h:Ig a0=some r):Spec Tryz.prog 80 [(Z44 a0)] [] (.int .i64 r) []:=by
 refine Ab mix Tryz.func80 (fun Γ hq=>?_);unfold Ig at h;refine Ae hq [1] [1] ?_;refine Ae hq Kd [1] ?_;refine Ae hq Ke [1] ?_;obtain⟨x6,hx6,h⟩:=bind_some h;refine gL hq hx6 Ke [1] (fun u (i1,i2)=>(Ew u [(3,(Z7 i1)),(4,(Z7 i2))] [])) (fun u i3=>aG Γ (.exit 0) (⟨[(3,(Z7 i3))],[],[]⟩:St)) ?_ ?_
 ·rintro⟨i1,i2⟩ y h;unfold Gn at h;refine Ae hq [1,3,4,9] [1] ?_;refine gC h ?_ ?_<;>intro h
  ·obtain⟨hc4,h⟩:=Aa h;obtain⟨hc5,h⟩:=Aa h;refine gR hq Ke [1] [] [] (ci hc4 (c1 hc5)) ?_;refine Ae hq Ke [1] ?_;cases h;exact gN C1
  ·cases h;exact gO (Bm (B7 [3] [] hq))
 ·clear hx6;refine gA ?_;refine Ae hq [2] [] ?_;obtain rfl:=OI h;exact Cu []
def Fp(a0:TFunc)(i4:Int):Int->Option (LR Int (Unit ⊕ Bool)):=
 fun(i6:Int)=>(bif (decide (i6<(((a0.Blocks.getD i4.toNat default).Phis).length:Int))) then(A7 (A5 i6 ((a0.Blocks.getD i4.toNat default).Phis).length) ((Be ((((a0.Blocks.getD i4.toNat default).Phis).getD i6.toNat default).Bits)).bind fun x8=>((bif ((!x8)==false) then Be ((((a0.Blocks.getD i4.toNat default).Phis).getD i6.toNat default).Dst) else some false).bind fun x9=>((bif ((bif (!x8) then true else(!x9))==false) then Dc ((((a0.Blocks.getD i4.toNat default).Phis).getD i6.toNat default).From) else some false).bind fun x10=>((bif ((bif (bif (!x8) then true else(!x9)) then true else(!x10))==false) then Dc ((((a0.Blocks.getD i4.toNat default).Phis).getD i6.toNat default).Args) else some false).bind fun x11=>(bif (bif (bif (bif (!x8) then true else(!x9)) then true else(!x10)) then true else(!x11)) then(some (.done (.inr false))) else(some (.next (w64 (i6+1)))))))))) else(some (.done (.inl ()))))
def Fq(a0:TFunc)(i4:Int):Int->Option (LR Int (Unit ⊕ Bool)):=
 fun(i14:Int)=>(bif (decide (i14<(((a0.Blocks.getD i4.toNat default).Ops).length:Int))) then(A7 (A5 i14 ((a0.Blocks.getD i4.toNat default).Ops).length) ((Be ((((a0.Blocks.getD i4.toNat default).Ops).getD i14.toNat default).Kind)).bind fun x16=>((bif ((!x16)==false) then Be ((((a0.Blocks.getD i4.toNat default).Ops).getD i14.toNat default).Bits) else some false).bind fun x17=>((bif ((bif (!x16) then true else(!x17))==false) then Be ((((a0.Blocks.getD i4.toNat default).Ops).getD i14.toNat default).Lanes) else some false).bind fun x18=>((bif ((bif (bif (!x16) then true else(!x17)) then true else(!x18))==false) then Be ((((a0.Blocks.getD i4.toNat default).Ops).getD i14.toNat default).Dst) else some false).bind fun x19=>((bif ((bif (bif (bif (!x16) then true else(!x17)) then true else(!x18)) then true else(!x19))==false) then Dc ((((a0.Blocks.getD i4.toNat default).Ops).getD i14.toNat default).Args) else some false).bind fun x20=>(bif (bif (bif (bif (bif (!x16) then true else(!x17)) then true else(!x18)) then true else(!x19)) then true else(!x20)) then(some (.done (.inr false))) else(some (.next (w64 (i14+1))))))))))) else(some (.done (.inl ()))))
def Eb(a0:TFunc):Int->Option (LR Int (Unit ⊕ Bool)):=
 fun(i4:Int)=>(bif (decide (i4<(a0.Blocks.length:Int))) then(A7 (A5 i4 a0.Blocks.length) ((Ag (Fp a0 i4) (0:Int)).bind (fun x12=>(match x12 with|(.inl _)=>((Ag (Fq a0 i4) (0:Int)).bind (fun x21=>(match x21 with|(.inl _)=>((Be ((a0.Blocks.getD i4.toNat default).End.Kind)).bind fun x23=>((bif ((!x23)==false) then Be ((a0.Blocks.getD i4.toNat default).End.Arg) else some false).bind fun x24=>((bif ((bif (!x23) then true else(!x24))==false) then Dc ((a0.Blocks.getD i4.toNat default).End.To) else some false).bind fun x25=>(bif (bif (bif (!x23) then true else(!x24)) then true else(!x25)) then(some (.done (.inr false))) else(some (.next (w64 (i4+1))))))))|(.inr r26)=>(some (.done (.inr r26))))))|(.inr r27)=>(some (.done (.inr r27))))))) else(some (.done (.inl ()))))
def Ng(Γ:Ix)(a0:TFunc)(r:Bool):Exit->St->Prop:=fK Tryz.prog Γ Tryz.f46.results.toList [] (.bool r) []
def Q138(x8:Bool)(x9:Bool):=(bif (!x8) then true else(!x9))
def Q142(a0:TFunc):=(((a0.Blocks.length:Int):Int)==0)
def Q134(a0:TFunc):=(bif (bif (Q142 a0) then true else(decide (((64:Int):Int)<(a0.Blocks.length:Int)))) then true else(decide (((16:Int):Int)<(a0.Params.length:Int))))
def Q140(a0:TFunc)(x1:Bool):=(bif (Q134 a0) then true else(!x1))
def Q139(x23:Bool)(x24:Bool):=((bif (!x23) then true else(!x24))==false)
def Q136(a0:TFunc)(i4:Int):=(a0.Blocks.getD i4.toNat default)
def Q141(a0:TFunc)(i4:Int)(i14:Int):=(((Q136 a0 i4).Ops).getD i14.toNat default)
def Q135(x16:Bool)(x17:Bool)(x18:Bool):=(bif (bif (!x16) then true else(!x17)) then true else(!x18))
def Q137(a0:TFunc):=((bif (Q142 a0) then true else(decide (((64:Int):Int)<(a0.Blocks.length:Int))))==false)
def G4(a0:TFunc):Option Bool:=
 ((bif ((bif (bif (((a0.Blocks.length:Int):Int)==0) then true else(decide (((64:Int):Int)<(a0.Blocks.length:Int)))) then true else(decide (((16:Int):Int)<(a0.Params.length:Int))))==false) then Dc a0.Params else some false).bind fun x1=>((bif ((bif (bif (bif (((a0.Blocks.length:Int):Int)==0) then true else(decide (((64:Int):Int)<(a0.Blocks.length:Int)))) then true else(decide (((16:Int):Int)<(a0.Params.length:Int)))) then true else(!x1))==false) then Be a0.Ret else some false).bind fun x2=>((bif ((bif (bif (bif (bif (((a0.Blocks.length:Int):Int)==0) then true else(decide (((64:Int):Int)<(a0.Blocks.length:Int)))) then true else(decide (((16:Int):Int)<(a0.Params.length:Int)))) then true else(!x1)) then true else(!x2))==false) then Ig a0 else some (0:Int)).bind fun x3=>(bif (bif (bif (bif (bif (bif (((a0.Blocks.length:Int):Int)==0) then true else(decide (((64:Int):Int)<(a0.Blocks.length:Int)))) then true else(decide (((16:Int):Int)<(a0.Params.length:Int)))) then true else(!x1)) then true else(!x2)) then true else(decide (((512:Int):Int)<x3))) then(some false) else((Ag (Eb a0) (0:Int)).bind (fun x28=>(match x28 with|(.inl _)=>(some true)|(.inr r30)=>(some r30))))))))
theorem Xz(a0:TFunc)(r:Bool)(h:G4 a0=some r):Spec Tryz.prog 46 [(Z44 a0)] [] (.bool r) []:=by
 refine Ab mix Tryz.func46 (fun Γ hq=>?_);unfold G4 at h;refine Ae hq [1] [1] ?_;obtain⟨x1,hx1,h⟩:=bind_some h;obtain⟨x2,hx2,h⟩:=bind_some h;obtain⟨x3,hx3,h⟩:=bind_some h;refine gR hq [1,41] [1] [] [(Z2 x1),(Z2 x2),(Z19 x3)] (ci (gI ((Q142 a0)==false)) (ci (gI ((Q142 a0)==false)) (ci (gI ((Q142 a0)==false)) (ci (Ko (Q142 a0)) (ci (gI (Q137 a0)) (ci (gI (Q137 a0)) (ci (gI (Q137 a0)) (ci (Ko (bif (Q142 a0) then true else(decide (((64:Int):Int)<(a0.Blocks.length:Int))))) (ci (gI ((Q134 a0)==false)) (ci (gI ((Q134 a0)==false)) (ci (fun(hg:((Q134 a0)==false)=true)=>(Ho a0.Params x1 (Bh hg hx1))) (ci (gI ((Q134 a0)==false)) (ci (Ko (Q134 a0)) (ci (gI ((Q140 a0 x1)==false)) (ci (gI ((Q140 a0 x1)==false)) (ci (fun(hg:((Q140 a0 x1)==false)=true)=>(Cr a0.Ret x2 (Bh hg hx2))) (ci (gI ((Q140 a0 x1)==false)) (ci (Ko (Q140 a0 x1)) (ci (gI ((bif (Q140 a0 x1) then true else(!x2))==false)) (ci (fun(hg:((bif (Q140 a0 x1) then true else(!x2))==false)=true)=>(Wr a0 x3 (Bh hg hx3))) (ci (gI ((bif (Q140 a0 x1) then true else(!x2))==false)) (c1 (Ko (bif (Q140 a0 x1) then true else(!x2))))))))))))))))))))))))) ?_;refine gC h ?_ ?_<;>intro h
 ·refine Ae hq [2] [] ?_;obtain rfl:=OI h;exact Cu []
 ·refine Ae hq Kd [1] ?_;obtain⟨x28,hx28,h⟩:=bind_some h;refine gL hq hx28 Kd [1] (fun u i4=>(Ew u [(3,(Z7 i4))] [])) (fun u x_=>match x_ with|(.inl _)=>aG Γ (.exit 0) (⟨[],[],[]⟩:St)|(.inr r_)=>aR (Ng Γ a0 r_)) ?_ ?_
  ·intro i4 y h;unfold Eb at h;refine Ae hq [1,3,46] [1] ?_;refine gC h ?_ ?_<;>intro h
   ·obtain⟨hc5,h⟩:=Aa h;refine gR hq Ke Pj [] [] (c1 hc5) ?_;refine Ae hq Lc Pj ?_;obtain⟨x12,hx12,h⟩:=bind_some h;refine gL hq hx12 Lc Pj (fun u i6=>(Ew u [(5,(Z7 i6))] [])) (fun u x_=>match x_ with|(.inl _)=>aG Γ (.exit 2) (Pa Ke Pj u [] [])|(.inr r_)=>aR (Ng Γ a0 r_)) ?_ ?_
    ·intro i6 y h;unfold Fp at h;refine Ae hq [1,3,4,5,58] Pj ?_;refine gC h ?_ ?_<;>intro h
     ·obtain⟨hc7,h⟩:=Aa h;refine gR hq Qf [1,4,6] [] [] (c1 hc7) ?_;obtain⟨x8,hx8,h⟩:=bind_some h;obtain⟨x9,hx9,h⟩:=bind_some h;obtain⟨x10,hx10,h⟩:=bind_some h;obtain⟨x11,hx11,h⟩:=bind_some h;refine gR hq [1,3,4,5,87] Pj [] [(Z2 x8),(Z2 x9),(Z2 x10),(Z2 x11)] (ci (Cr ((((Q136 a0 i4).Phis).getD i6.toNat default).Bits) x8 hx8) (ci (gI ((!x8)==false)) (ci (gI ((!x8)==false)) (ci (fun(hg:((!x8)==false)=true)=>(Cr ((((Q136 a0 i4).Phis).getD i6.toNat default).Dst) x9 (Bh hg hx9))) (ci (gI ((!x8)==false)) (ci (Ko (!x8)) (ci (gI ((Q138 x8 x9)==false)) (ci (gI ((Q138 x8 x9)==false)) (ci (fun(hg:((Q138 x8 x9)==false)=true)=>(Ho ((((Q136 a0 i4).Phis).getD i6.toNat default).From) x10 (Bh hg hx10))) (ci (gI ((Q138 x8 x9)==false)) (ci (Ko (Q138 x8 x9)) (ci (gI ((bif (Q138 x8 x9) then true else(!x10))==false)) (ci (gI ((bif (Q138 x8 x9) then true else(!x10))==false)) (ci (fun(hg:((bif (Q138 x8 x9) then true else(!x10))==false)=true)=>(Ho ((((Q136 a0 i4).Phis).getD i6.toNat default).Args) x11 (Bh hg hx11))) (ci (gI ((bif (Q138 x8 x9) then true else(!x10))==false)) (c1 (Ko (bif (Q138 x8 x9) then true else(!x10))))))))))))))))))) ?_;refine gC h ?_ ?_<;>intro h
      ·refine Ae hq [2] [] ?_;cases h;exact gO (L8 (Kf [] (Le.refl _ _)))
      ·refine Ae hq Lc Pj ?_;cases h;exact gN C1
     ·cases h;exact gO (Bm (B7 Ke Pj hq))
    ·clear hx12;rcases x12 with _|r27
     ·refine gA ?_;refine Ae hq [1,3,4,7] Pj ?_;obtain⟨x21,hx21,h⟩:=bind_some h;refine gL hq hx21 [1,3,4,7] Pj (fun u i14=>(Ew u [(7,(Z7 i14))] [])) (fun u x_=>match x_ with|(.inl _)=>aG Γ (.exit 4) (Pa Ke Pj u [] [])|(.inr r_)=>aR (Ng Γ a0 r_)) ?_ ?_
      ·intro i14 y h;unfold Fq at h;refine Ae hq [1,3,4,7,92] Pj ?_;refine gC h ?_ ?_<;>intro h
       ·obtain⟨hc15,h⟩:=Aa h;refine gR hq [1,3,4,7,8] [1,4,8] [] [] (c1 hc15) ?_;obtain⟨x16,hx16,h⟩:=bind_some h;obtain⟨x17,hx17,h⟩:=bind_some h;obtain⟨x18,hx18,h⟩:=bind_some h;obtain⟨x19,hx19,h⟩:=bind_some h;obtain⟨x20,hx20,h⟩:=bind_some h;refine gR hq [1,3,4,7,127] Pj [] [(Z2 x16),(Z2 x17),(Z2 x18),(Z2 x19),(Z2 x20)] (ci (Cr ((Q141 a0 i4 i14).Kind) x16 hx16) (ci (gI ((!x16)==false)) (ci (gI ((!x16)==false)) (ci (fun(hg:((!x16)==false)=true)=>(Cr ((Q141 a0 i4 i14).Bits) x17 (Bh hg hx17))) (ci (gI ((!x16)==false)) (ci (Ko (!x16)) (ci (gI ((bif (!x16) then true else(!x17))==false)) (ci (gI ((bif (!x16) then true else(!x17))==false)) (ci (fun(hg:((bif (!x16) then true else(!x17))==false)=true)=>(Cr ((Q141 a0 i4 i14).Lanes) x18 (Bh hg hx18))) (ci (gI ((bif (!x16) then true else(!x17))==false)) (ci (Ko (bif (!x16) then true else(!x17))) (ci (gI ((Q135 x16 x17 x18)==false)) (ci (gI ((Q135 x16 x17 x18)==false)) (ci (fun(hg:((Q135 x16 x17 x18)==false)=true)=>(Cr ((Q141 a0 i4 i14).Dst) x19 (Bh hg hx19))) (ci (gI ((Q135 x16 x17 x18)==false)) (ci (Ko (Q135 x16 x17 x18)) (ci (gI ((bif (Q135 x16 x17 x18) then true else(!x19))==false)) (ci (gI ((bif (Q135 x16 x17 x18) then true else(!x19))==false)) (ci (fun(hg:((bif (Q135 x16 x17 x18) then true else(!x19))==false)=true)=>(Ho ((Q141 a0 i4 i14).Args) x20 (Bh hg hx20))) (ci (gI ((bif (Q135 x16 x17 x18) then true else(!x19))==false)) (c1 (Ko (bif (Q135 x16 x17 x18) then true else(!x19)))))))))))))))))))))))) ?_;refine gC h ?_ ?_<;>intro h
        ·refine Ae hq [2] [] ?_;cases h;exact gO (L8 (Kf [] (Le.refl _ _)))
        ·refine Ae hq [1,3,4,7] Pj ?_;cases h;exact gN C1
       ·cases h;exact gO (Bm (B7 Ke Pj hq))
      ·clear hx21;rcases x21 with _|r26
       ·refine gA ?_;obtain⟨x23,hx23,h⟩:=bind_some h;obtain⟨x24,hx24,h⟩:=bind_some h;obtain⟨x25,hx25,h⟩:=bind_some h;refine gR hq [1,3,146] [1] [] [(Z2 x23),(Z2 x24),(Z2 x25)] (ci (Cr ((Q136 a0 i4).End.Kind) x23 hx23) (ci (gI ((!x23)==false)) (ci (gI ((!x23)==false)) (ci (gI ((!x23)==false)) (ci (fun(hg:((!x23)==false)=true)=>(Cr ((Q136 a0 i4).End.Arg) x24 (Bh hg hx24))) (ci (gI ((!x23)==false)) (ci (Ko (!x23)) (ci (gI (Q139 x23 x24)) (ci (gI (Q139 x23 x24)) (ci (gI (Q139 x23 x24)) (ci (fun(hg:(Q139 x23 x24)=true)=>(Ho ((Q136 a0 i4).End.To) x25 (Bh hg hx25))) (ci (gI (Q139 x23 x24)) (c1 (Ko (bif (!x23) then true else(!x24)))))))))))))))) ?_;refine gC h ?_ ?_<;>intro h
        ·refine Ae hq [2] [] ?_;cases h;exact gO (L8 (Kf [] (Le.refl _ _)))
        ·refine Ae hq Kd [1] ?_;cases h;exact gN C1
       ·refine Ol (fun st' hk=>?_);cases h;exact gO (L8 hk)
     ·refine Ol (fun st' hk=>?_);cases h;exact gO (L8 hk)
   ·cases h;exact gO (Bm (B7 [] [] hq))
  ·clear hx28;rcases x28 with _|r30
   ·refine gA ?_;refine Ae hq [2] [] ?_;obtain rfl:=OI h;exact Cu []
   ·refine Ol (fun st' hk=>?_);obtain rfl:=OI h;exact gK hk
def B1(aS:List Int)(aK:Int):Int->Option (LR Int (Unit ⊕ Bool)):=
 fun(i1:Int)=>(bif (decide (i1<(aS.length:Int))) then(A7 (A5 i1 aS.length) (bif (((aS.getD i1.toNat 0):Int)==aK) then(some (.done (.inr true))) else(some (.next (w64 (i1+1)))))) else(some (.done (.inl ()))))
def Zh(Γ:Ix)(aS:List Int)(aK:Int)(r:Bool):Exit->St->Prop:=fK Tryz.prog Γ Tryz.f56.results.toList [] (.bool r) []
def Fy(aS:List Int)(aK:Int):Option Bool:=
 ((Ag (B1 aS aK) (0:Int)).bind (fun x3=>(match x3 with|(.inl _)=>(some false)|(.inr r5)=>(some r5))))
theorem Mn(aS:List Int)(aK:Int)(r:Bool)(h:Fy aS aK=some r):Spec Tryz.prog 56 [(Z8 aS),(Z7 aK)] [] (.bool r) []:=by
 refine Ab mix Tryz.func56 (fun Γ hq=>?_);unfold Fy at h;refine Ae hq Jo [] ?_;refine Ae hq Og [] ?_;obtain⟨x3,hx3,h⟩:=bind_some h;refine gL hq hx3 Og [] (fun u i1=>(Ew u [(5,(Z7 i1))] [])) (fun u x_=>match x_ with|(.inl _)=>aG Γ (.exit 0) (⟨[],[],[]⟩:St)|(.inr r_)=>aR (Zh Γ aS aK r_)) ?_ ?_
 ·intro i1 y h;unfold B1 at h;refine Ae hq [0,1,5,9] [] ?_;refine gC h ?_ ?_<;>intro h
  ·obtain⟨hc2,h⟩:=Aa h;refine gR hq [0,1,5,17] [] [] [] (c1 hc2) ?_;refine gC h ?_ ?_<;>intro h
   ·refine Ae hq [4] [] ?_;cases h;exact gO (L8 (Kf [] (Le.refl _ _)))
   ·refine Ae hq Og [] ?_;cases h;exact gN C1
  ·cases h;exact gO (Bm (B7 [] [] hq))
 ·clear hx3;rcases x3 with _|r5
  ·refine gA ?_;refine Ae hq [4] [] ?_;obtain rfl:=OI h;exact Cu []
  ·refine Ol (fun st' hk=>?_);obtain rfl:=OI h;exact gK hk
def Br(a5:List (List Int))(i1:Int):Int->Option (LR Int (Unit ⊕ (TGraph×Int))):=
 fun(i2:Int)=>(A7 (A5 i1 a5.length) (bif (decide (i2<((a5.getD i1.toNat []).length:Int))) then(A7 (A5 i1 a5.length) (A7 (A5 i2 (a5.getD i1.toNat []).length) (A7 (((decide ((((a5.getD i1.toNat []).getD i2.toNat 0):Int)<0))==false)=true->(A5 i1 a5.length)) (A7 (((decide ((((a5.getD i1.toNat []).getD i2.toNat 0):Int)<0))==false)=true->(A5 i2 (a5.getD i1.toNat []).length)) (A7 ((((bif (decide ((((a5.getD i1.toNat []).getD i2.toNat 0):Int)<0)) then true else(decide (((a5.length:Int):Int)<=((a5.getD i1.toNat []).getD i2.toNat 0))))==false)&&((decide (((0:Int):Int)<i2))==true))=true->(A5 i1 a5.length)) (A7 ((((bif (decide ((((a5.getD i1.toNat []).getD i2.toNat 0):Int)<0)) then true else(decide (((a5.length:Int):Int)<=((a5.getD i1.toNat []).getD i2.toNat 0))))==false)&&((decide (((0:Int):Int)<i2))==true))=true->(A5 i2 (a5.getD i1.toNat []).length)) (A7 ((((bif (decide ((((a5.getD i1.toNat []).getD i2.toNat 0):Int)<0)) then true else(decide (((a5.length:Int):Int)<=((a5.getD i1.toNat []).getD i2.toNat 0))))==false)&&((decide (((0:Int):Int)<i2))==true))=true->(A5 i1 a5.length)) (A7 ((((bif (decide ((((a5.getD i1.toNat []).getD i2.toNat 0):Int)<0)) then true else(decide (((a5.length:Int):Int)<=((a5.getD i1.toNat []).getD i2.toNat 0))))==false)&&((decide (((0:Int):Int)<i2))==true))=true->(A5 (w64 (i2-1)) (a5.getD i1.toNat []).length)) (bif (bif (bif (decide ((((a5.getD i1.toNat []).getD i2.toNat 0):Int)<0)) then true else(decide (((a5.length:Int):Int)<=((a5.getD i1.toNat []).getD i2.toNat 0)))) then true else(bif (decide (((0:Int):Int)<i2)) then(decide ((((a5.getD i1.toNat []).getD i2.toNat 0):Int)<=((a5.getD i1.toNat []).getD (w64 (i2-1)).toNat (0:Int)))) else false)) then(some (.done (.inr ((⟨([]:List (List Int)),([]:List (List Int))⟩:TGraph),(5:Int))))) else(some (.next (w64 (i2+1))))))))))))) else(some (.done (.inl ())))))
def Bs(a5:List (List Int)):Int->Option (LR Int (Unit ⊕ (TGraph×Int))):=
 fun(i1:Int)=>(bif (decide (i1<(a5.length:Int))) then((Ag (Br a5 i1) (0:Int)).bind (fun x12=>(match x12 with|(.inl _)=>(some (.next (w64 (i1+1))))|(.inr r14)=>(some (.done (.inr r14)))))) else(some (.done (.inl ()))))
def C4(a5:List (List Int))(i18:Int):(Int×List (List Int))->Option (LR (Int×List (List Int)) (List (List Int))):=
 fun((i21,l22):(Int×List (List Int)))=>(bif (decide (i21<(a5.length:Int))) then(Option.bind (α:=List (List Int)) (A7 (A5 i21 a5.length) ((Fy (a5.getD i21.toNat []) i18).bind fun x26=>(bif x26 then(A7 (A5 i18 l22.length) (A7 (A5 i18 l22.length) (A7 ((l22.getD i18.toNat []).length+([i21]:List Int).length<=room) (A7 (A5 i18 l22.length) (some (l22.set i18.toNat ((l22.getD i18.toNat [])++([i21]:List Int)))))))) else(some l22)))) (fun x31=>(some (.next ((w64 (i21+1)),x31))))) else(some (.done l22)))
def B8(a5:List (List Int)):(Int×List (List Int))->Option (LR (Int×List (List Int)) (List (List Int))):=
 fun((i18,l19):(Int×List (List Int)))=>(bif (decide (i18<(a5.length:Int))) then((Ag (C4 a5 i18) ((0:Int),l19)).bind (fun x33=>(some (.next ((w64 (i18+1)),x33))))) else(some (.done l19)))
def Pz(Γ:Ix)(a5:List (List Int))(r:(TGraph×Int)):Exit->St->Prop:=fK Tryz.prog Γ Tryz.f57.results.toList [] (.tuple (Z61 r.1 r.2)) []
def Tm(a5:List (List Int)):AV:=(Z20 a5)
def Q151(a5:List (List Int)):AV:=(Z52 a5.length)
def Q143(a5:List (List Int))(i1:Int)(i2:Int):=((bif (decide ((((a5.getD i1.toNat []).getD i2.toNat 0):Int)<0)) then true else(decide (((a5.length:Int):Int)<=((a5.getD i1.toNat []).getD i2.toNat 0))))==false)
def Q148(i2:Int):=((decide (((0:Int):Int)<i2))==true)
def Zi(a5:List (List Int))(i1:Int)(i2:Int):=((Q143 a5 i1 i2)&&(Q148 i2))
def Q152:List (Nat×AV):=[Ra,(3,(.int .i64 (5:Int)))]
def Q149(l22:List (List Int))(i18:Int)(i21:Int):=((l22.getD i18.toNat [])++([i21]:List Int))
def Q153:AV:=Z67
def Q150(a5:List (List Int)):=(List.replicate (a5.length:Int).toNat ([]:List Int))
def Q145:List AV:=[Z42,Z42]
def Q156(a5:List (List Int)):List (Nat×AV):=[(0,(Tm a5)),Ra,(4,(Q151 a5)),(7,(.ptr 7 0))]
def Q147(a5:List (List Int))(i1:Int)(i2:Int):=((decide ((((a5.getD i1.toNat []).getD i2.toNat 0):Int)<0))==false)
def Q144:List AV:=[Z39,Z39]
def Q155(a5:List (List Int))(i18:Int)(i21:Int):List (Nat×AV):=[(0,(Tm a5)),Ra,(4,(Q151 a5)),(7,(.ptr 7 0)),(8,(Z7 i18)),(9,(Z7 i21))]
def Gp(a5:List (List Int)):Option (TGraph×Int):=
 (bif (bif (((a5.length:Int):Int)==0) then true else(decide (((64:Int):Int)<(a5.length:Int)))) then(some ((⟨([]:List (List Int)),([]:List (List Int))⟩:TGraph),(5:Int))) else((Ag (Bs a5) (0:Int)).bind (fun x15=>(match x15 with|(.inl _)=>(A7 (0<=(a5.length:Int)/\(a5.length:Int)<=(a5.length:Int)/\(a5.length:Int)<=(room:Int)) ((Ag (B8 a5) ((0:Int),(List.replicate (a5.length:Int).toNat ([]:List Int)))).bind (fun x35=>(some ((⟨a5,x35⟩:TGraph),(0:Int))))))|(.inr r37)=>(some r37)))))
theorem Pd(a5:List (List Int))(r:(TGraph×Int))(h:Gp a5=some r):Spec Tryz.prog 57 [(Z20 a5)] [] (.tuple (Z61 r.1 r.2)) []:=by
 refine Ab mix Tryz.func57 (fun Γ hq=>?_);have hΓ:=hq.own;unfold Gp at h;refine Ae hq [0,2] [2] ?_;refine Ae hq [0,2,4] [2] ?_;refine gR hq [0,2,4,17] [2] [] [] (ci (gI ((((a5.length:Int):Int)==0)==false)) (c1 (Ko (((a5.length:Int):Int)==0)))) ?_;refine gC h ?_ ?_<;>intro h
 ·refine gR hq Fk [2] [(18,(.agg Q144))] [] (c1 (show(AVle (.agg Q145) (.agg Q144)) from(AVle.agg (.cons G7 (.cons G7 .nil))))) ?_;refine Qk (⟨Q152,[(Nj 41 Q144)],[]⟩:St) ?_;cases h;exact gK (e:=.ret) (Kf [] (show Le Γ _ (⟨Q152,[(Z64 Q153)],[]⟩:St) from Le.trans (B7 (st':=⟨Q152,[(Nj 41 Q144)],[]⟩) Fk [2] hq) (Jg (.cons (AVle.refl _) (.cons (AVle.refl _) .nil)) (.row (.cons AVle.untag (.cons AVle.untag .nil)) .nil))))
 ·refine Ae hq zzN132 [2] ?_;obtain⟨x15,hx15,h⟩:=bind_some h;refine gL hq hx15 zzN132 [2] (fun u i1=>(Ew u [(5,(Z7 i1))] [])) (fun u x_=>match x_ with|(.inl _)=>aG Γ (.exit 0) (Pa [0,2,4] [2] u [] [])|(.inr r_)=>aR (Pz Γ a5 r_)) ?_ ?_
  ·intro i1 y h;unfold Bs at h;refine Ae hq [0,2,4,5,21] [2] ?_;refine gC h ?_ ?_<;>intro h
   ·refine Ae hq zzN166 [2] ?_;obtain⟨x12,hx12,h⟩:=bind_some h;refine gL hq hx12 zzN166 [2] (fun u i2=>(Ew u [(6,(Z7 i2))] [])) (fun u x_=>match x_ with|(.inl _)=>aG Γ (.exit 2) (Pa zzN132 [2] u [] [])|(.inr r_)=>aR (Pz Γ a5 r_)) ?_ ?_
    ·intro i2 y h;unfold Br at h;obtain⟨hc3,h⟩:=Aa h;refine gR hq [0,2,4,5,6,30] [2] [] [] (c1 hc3) ?_;refine gC h ?_ ?_<;>intro h
     ·obtain⟨hc4,h⟩:=Aa h;obtain⟨hc5,h⟩:=Aa h;obtain⟨hc6,h⟩:=Aa h;obtain⟨hc7,h⟩:=Aa h;obtain⟨hc8,h⟩:=Aa h;obtain⟨hc9,h⟩:=Aa h;obtain⟨hc10,h⟩:=Aa h;obtain⟨hc11,h⟩:=Aa h;refine gR hq [0,2,4,5,6,73] [2] [] [] (ci hc4 (ci hc5 (ci (gI (Q147 a5 i1 i2)) (ci (gI (Q147 a5 i1 i2)) (ci hc6 (ci (gI (Q147 a5 i1 i2)) (ci (gI (Q147 a5 i1 i2)) (ci (gI (Q147 a5 i1 i2)) (ci hc7 (ci (gI (Q147 a5 i1 i2)) (ci (gI (Q147 a5 i1 i2)) (ci (gI (Q147 a5 i1 i2)) (ci (Ko (decide ((((a5.getD i1.toNat []).getD i2.toNat 0):Int)<0))) (ci (gI (Q143 a5 i1 i2)) (ci (gI (Q143 a5 i1 i2)) (ci (gI (Zi a5 i1 i2)) (ci (gI (Zi a5 i1 i2)) (ci hc8 (ci (gI (Zi a5 i1 i2)) (ci (gI (Zi a5 i1 i2)) (ci (gI (Zi a5 i1 i2)) (ci hc9 (ci (gI (Zi a5 i1 i2)) (ci (gI (Zi a5 i1 i2)) (ci (gI (Zi a5 i1 i2)) (ci hc10 (ci (gI (Zi a5 i1 i2)) (ci (gI (Zi a5 i1 i2)) (ci (gI (Zi a5 i1 i2)) (ci (gI (Zi a5 i1 i2)) (ci hc11 (ci (gI (Zi a5 i1 i2)) (ci (gI (Zi a5 i1 i2)) (ci (gI (Zi a5 i1 i2)) (ci (gI (Q143 a5 i1 i2)) (ci (show((Q143 a5 i1 i2)=true->((decide (((0:Int):Int)<i2))=true->(Zi a5 i1 i2)=true)) from(fun hg=>(aT hg))) (c1 (Ko (bif (decide ((((a5.getD i1.toNat []).getD i2.toNat 0):Int)<0)) then true else(decide (((a5.length:Int):Int)<=((a5.getD i1.toNat []).getD i2.toNat 0)))))))))))))))))))))))))))))))))))))))))) ?_;refine gC h ?_ ?_<;>intro h
      ·refine gR hq Fk [2] [(74,(.agg Q144))] [] (c1 (show(AVle (.agg Q145) (.agg Q144)) from(AVle.agg (.cons G7 (.cons G7 .nil))))) ?_;refine Qk (⟨Q152,[(Nj 41 Q144)],[]⟩:St) ?_;cases h;exact gO (L8 (Kf [] (show Le Γ _ (⟨Q152,[(Z64 Q153)],[]⟩:St) from Le.trans (B7 (st':=⟨Q152,[(Nj 41 Q144)],[]⟩) Fk [2] hq) (Jg (.cons (AVle.refl _) (.cons (AVle.refl _) .nil)) (.row (.cons AVle.untag (.cons AVle.untag .nil)) .nil)))))
      ·refine Ae hq zzN166 [2] ?_;cases h;exact gN C1
     ·cases h;exact gO (Bm (B7 zzN132 [2] hq))
    ·clear hx12;rcases x12 with _|r14
     ·refine gA ?_;refine Ae hq zzN132 [2] ?_;cases h;exact gN C1
     ·refine Ol (fun st' hk=>?_);cases h;exact gO (L8 hk)
   ·cases h;exact gO (Bm (B7 [0,2,4] [2] hq))
  ·clear hx15;rcases x15 with _|r37
   ·refine gA ?_;obtain⟨hc17,h⟩:=Aa h;refine gR hq [0,2,4,7] [2,7,77] [] [] (c1 hc17) ?_;refine Qk (⟨(Q156 a5),[(Nj 41 Q145),(7,.row 41 [(Tm a5),(.vsl 77 (a5.length:Int).toNat)]),(77,.arr 1 22 ((a5.length:Int).toNat) (fun i_=>AV.eraseAll (fun n_=>D2 n_ [2,7,77]) ((fun _=>[Z42]) i_)))],[]⟩:St) ?_;refine Oi (Le.trans (Jg (st':=⟨(Q156 a5),[(Nj 41 Q145),(7,.row 41 [(Tm a5),(.vsl 77 (a5.length:Int).toNat)]),(77,.arr 1 22 ((a5.length:Int).toNat) (Mq 1 As (0:Int) (Q150 a5) (fun _=>.exact)))],[]⟩) (TmpsLe.refl _) (.same (.same (.arr fam_zero .nil)))) (Le.trans (Le.trans (le_birth (r:=77) (b:=70077) As (0:Int) (Q150 a5) 3 rfl rfl (Qm ..).symm (fun h_=>absurd h_ (by decide))) (Ju (st':=⟨(Q156 a5),[(Nj 41 Q145),(7,.row 41 [(Tm a5),(.vsl 77 (a5.length:Int).toNat)]),(77,.arr 1 22 ((a5.length:Int).toNat) (Mq 1 As (0:Int) (Q150 a5) (Tag.fam 70077)))],[(70077,⟨1,3,L5 (Q150 a5)⟩)]⟩) (by kernel_rfl))) (Ju (Cl (fun k_:Nat=>(⟨(Q156 a5),[(Nj 41 Q145),(Z51 (Tm a5) k_),(Z10 77 k_ (Q150 a5) 70077)],[(70077,⟨1,3,L5 (Q150 a5)⟩)]⟩:St)) (show(a5.length:Int).toNat=(Q150 a5).length from(Qm ..).symm))))) ?_;refine Ae hq zzN101 Sy ?_;obtain⟨x35,hx35,h⟩:=bind_some h;refine gL hq hx35 zzN101 Sy (fun u (i18,l19)=>(Ew u [(8,(Z7 i18))] [(Z51 (Tm a5) l19.length),(Z10 77 l19.length l19 70077)] [(70077,⟨1,3,L5 l19⟩)])) (fun u l20=>aG Γ (.exit 4) (Pa [2,7] Sy u [] [(Z51 (Tm a5) l20.length),(Z10 77 l20.length l20 70077)] [(70077,⟨1,3,L5 l20⟩)])) ?_ ?_
    ·rintro⟨i18,l19⟩ y h;unfold B8 at h;refine Ae hq [0,2,4,7,8,81] Sy ?_;refine gC h ?_ ?_<;>intro h
     ·refine Ae hq zzN87 Sy ?_;obtain⟨x33,hx33,h⟩:=bind_some h;refine gL hq hx33 zzN87 Sy (fun u (i21,l22)=>(Ew u [(9,(Z7 i21))] [(Z51 (Tm a5) l22.length),(Z10 77 l22.length l22 70077)] [(70077,⟨1,3,L5 l22⟩)])) (fun u l23=>aG Γ (.exit 6) (Pa zzN101 Sy u [] [(Z51 (Tm a5) l23.length),(Z10 77 l23.length l23 70077)] [(70077,⟨1,3,L5 l23⟩)])) ?_ ?_
      ·rintro⟨i21,l22⟩ y h;unfold C4 at h;refine Ae hq [0,2,4,7,8,9,86] Sy ?_;refine gC h ?_ ?_<;>intro h
       ·obtain⟨x31,hx31,h⟩:=bind_some h;refine gJ hx31 (fun l24=>aG Γ .normal (⟨(Q155 a5 i18 i21),[(Nj 41 Q145),(Z51 (Tm a5) l24.length),(Z10 77 l24.length l24 70077)],[(70077,⟨1,3,L5 l24⟩)]⟩:St)) ?_ ?_
        ·clear h hx31;intro y h;obtain⟨hc25,h⟩:=Aa h;obtain⟨x26,hx26,h⟩:=bind_some h;refine gR hq [0,2,4,7,8,9,94] Sy [] [(Z2 x26)] (ci hc25 (c1 (Mn (a5.getD i21.toNat []) i18 x26 hx26))) ?_;refine gC h ?_ ?_<;>intro h
         ·refine Qk (⟨[(0,(Tm a5)),Ra,(4,(Q151 a5)),(7,(.ptr 7 0)),(8,(Z7 i18)),(9,(Z7 i21)),(94,(.bool x26))],[(Nj 41 Q145),(Z51 (Tm a5) l22.length),(Z10 77 l22.length l22 70077)],[(70077,⟨1,3,L5 l22⟩)]⟩:St) ?_;obtain⟨hc27,h⟩:=Aa h;obtain⟨hc28,h⟩:=Aa h;obtain⟨hc29,h⟩:=Aa h;obtain⟨hc30,h⟩:=Aa h;refine Oi (Le.trans (le_take (r:=77) (b:=70077) (k:=60077) As (0:Int) l22 i18.toNat 3 rfl rfl rfl rfl (Ou hc27) (by kernel_rfl) (.row (by kernel_rfl) (.row (by kernel_rfl) (.here .nil)))) (Ju (st':=⟨[(0,(Tm a5)),Ra,(4,(Q151 a5)),(7,(.ptr 7 0)),(8,(Z7 i18)),(9,(Z7 i21)),(94,(.bool x26))],[(Nj 41 Q145),(Z51 (Tm a5) l22.length),(77,.arr 1 22 l22.length (Mq 1 As (0:Int) l22 (Hs 70077 i18.toNat 60077))),(60077,.tok 1 3 ((l22.getD i18.toNat []).length))],[(70077,⟨1,3,Xm l22 i18.toNat⟩)]⟩) (by kernel_rfl))) ?_;refine gR hq zzN87 zzN157 [(102,(AV.list 1 As 0 (l22.getD i18.toNat []) (.own 60077))),(104,(Z25 i21)),(105,(Z13 (Q149 l22 i18 i21) 60077))] [] (ci hc28 (ci (Eq.refl l22.length) (ci (show(AVle (((Mq 1 As (0:Int) l22 (Hs 70077 i18.toNat 60077)) i18.toNat).getD 0 .any) (AV.list 1 As 0 (l22.getD i18.toNat []) (.own 60077))) from av_famtag) (ci (Bu 1 As (0:Int) ([i21]:List Int)) (ci (Eq.refl ((l22.getD i18.toNat []).length)) (ci hc29 (ci (Jr 1 60077 As (0:Int) (l22.getD i18.toNat []) ([i21]:List Int)) (ci (Fz (l22.getD i18.toNat []) ([i21]:List Int)) (ci hc30 (c1 (Eq.refl l22.length))))))))))) ?_;refine Qk (⟨(Q155 a5 i18 i21),[(Nj 41 Q145),(Z51 (Tm a5) l22.length),(77,.arr 1 22 l22.length (fun i_=>AV.eraseAll (fun n_=>D2 n_ zzN157) ((Gx (Mq 1 As (0:Int) l22 (Hs 70077 i18.toNat 60077)) i18.toNat 0 [(Z13 (Q149 l22 i18 i21) 60077)]) i_))),(60077,.tok 1 3 ((Q149 l22 i18 i21).length))],[(70077,⟨1,3,Xm l22 i18.toNat⟩)]⟩:St) ?_;cases h;exact gK (Bm (Le.trans (Le.trans (Le.trans (le_put (r:=77) (b:=70077) (k:=60077) As (0:Int) l22 i18.toNat (Q149 l22 i18 i21) 3 rfl (putF_fam (Ou hc27) rfl rfl) rfl rfl rfl rfl (Ou hc27) (by kernel_rfl) (.row (by kernel_rfl) (.row (by kernel_rfl) (.here (.tok .nil)))) (by rw[hΓ];rfl)) (Ju (st':=⟨(Q155 a5 i18 i21),[(Nj 41 Q145),(Z51 (Tm a5) l22.length),(77,.arr 1 22 l22.length (Mq 1 As (0:Int) (l22.set i18.toNat (Q149 l22 i18 i21)) (Tag.fam 70077)))],[(70077,⟨1,3,L5 (l22.set i18.toNat (Q149 l22 i18 i21))⟩)]⟩) (by kernel_rfl))) (Ju (Cl (fun k_:Nat=>(⟨(Q155 a5 i18 i21),[(Nj 41 Q145),(Z51 (Tm a5) k_),(77,.arr 1 22 k_ (Mq 1 As (0:Int) (l22.set i18.toNat (Q149 l22 i18 i21)) (Tag.fam 70077)))],[(70077,⟨1,3,L5 (l22.set i18.toNat (Q149 l22 i18 i21))⟩)]⟩:St)) (show l22.length=(l22.set i18.toNat (Q149 l22 i18 i21)).length from(G2 ..).symm)))) C1))
         ·obtain rfl:=OI h;exact gK (Bm (B7 zzN87 Sy hq))
        ·clear hx31;refine gA ?_;refine Ae hq zzN87 Sy ?_;cases h;exact gN C1
       ·cases h;exact gO (Bm (B7 zzN101 Sy hq))
      ·clear hx33;refine gA ?_;refine Ae hq zzN101 Sy ?_;cases h;exact gN C1
     ·cases h;exact gO (Bm (B7 [2,7] Sy hq))
    ·clear hx35;refine gA ?_;refine Ae hq Fk [2,77,70077] ?_;refine Qk (⟨[Ra,(3,Qs)],[(2,.row 41 [(Tm a5),(.vsl 77 x35.length)]),(Z10 77 x35.length x35 70077)],[(70077,⟨1,3,L5 x35⟩)]⟩:St) ?_;cases h;exact gK (e:=.ret) (Kf [] (Le.trans (Jz (nm:=77) (sz:=1) (n:=x35.length) (e:=22) (f:=(Mq 1 As (0:Int) x35 (Tag.fam 70077))) (g:=(fun i=>J6 (x35.getD i []))) rfl ⟨rfl,trivial⟩ (fun _ _=>rfl) (by rw[hΓ];rfl)) (B7 (st':=⟨[Ra,(3,Qs)],[(2,.row 41 [(Tm a5),(Z47 x35 77)]),(77,.tok 1 22 x35.length)],[]⟩) Fk [2,77] hq)))
   ·refine Ol (fun st' hk=>?_);obtain rfl:=OI h;exact gK hk
def Cb(a0:TFunc)(i2:Int):Int->Option (LR Int (Unit ⊕ (TGraph×Int))):=
 fun(i6:Int)=>(bif (decide (i6<(((a0.Blocks.getD i2.toNat default).End.To).length:Int))) then(A7 (A5 i6 ((a0.Blocks.getD i2.toNat default).End.To).length) (A7 (((decide (((((a0.Blocks.getD i2.toNat default).End.To).getD i6.toNat 0):Int)<=0))==false)=true->(A5 i6 ((a0.Blocks.getD i2.toNat default).End.To).length)) (bif (bif (decide (((((a0.Blocks.getD i2.toNat default).End.To).getD i6.toNat 0):Int)<=0)) then true else(decide (((a0.Blocks.length:Int):Int)<=(((a0.Blocks.getD i2.toNat default).End.To).getD i6.toNat 0)))) then(some (.done (.inr ((⟨([]:List (List Int)),([]:List (List Int))⟩:TGraph),(5:Int))))) else(some (.next (w64 (i6+1))))))) else(some (.done (.inl ()))))
def Cc(a0:TFunc)(i2:Int):(List Int×Int)->Option (LR (List Int×Int) (List Int)):=
 fun((l11,i12):(List Int×Int))=>(bif (decide (i12<(a0.Blocks.length:Int))) then(Option.bind (α:=List Int) ((Fy ((a0.Blocks.getD i2.toNat default).End.To) i12).bind fun x15=>(bif x15 then(A7 (l11.length+([i12]:List Int).length<=room) (some (l11++([i12]:List Int)))) else(some l11))) (fun x17=>(some (.next (x17,(w64 (i12+1))))))) else(some (.done l11)))
def Cd(a0:TFunc):(List (List Int)×Int)->Option (LR (List (List Int)×Int) (List (List Int) ⊕ (TGraph×Int))):=
 fun((l1,i2):(List (List Int)×Int))=>(bif (decide (i2<(a0.Blocks.length:Int))) then(A7 (A5 i2 a0.Blocks.length) (A7 (((bif (decide (((a0.Blocks.getD i2.toNat default).End.Kind:Int)<0)) then true else(decide (((3:Int):Int)<(a0.Blocks.getD i2.toNat default).End.Kind)))==false)=true->(A5 (a0.Blocks.getD i2.toNat default).End.Kind ([(0:Int),(1:Int),(2:Int),(0:Int)]:List Int).length)) (bif (bif (bif (decide (((a0.Blocks.getD i2.toNat default).End.Kind:Int)<0)) then true else(decide (((3:Int):Int)<(a0.Blocks.getD i2.toNat default).End.Kind))) then true else(((((a0.Blocks.getD i2.toNat default).End.To).length:Int):Int)!=(([(0:Int),(1:Int),(2:Int),(0:Int)]:List Int).getD ((a0.Blocks.getD i2.toNat default).End.Kind).toNat (0:Int)))) then(some (.done (.inr ((⟨([]:List (List Int)),([]:List (List Int))⟩:TGraph),(5:Int))))) else((Ag (Cb a0 i2) (0:Int)).bind (fun x9=>(match x9 with|(.inl _)=>((Ag (Cc a0 i2) (([]:List Int),(1:Int))).bind (fun x19=>(A7 (l1.length+([x19]:List (List Int)).length<=room) (some (.next ((l1++([x19]:List (List Int))),(w64 (i2+1))))))))|(.inr r22)=>(some (.done (.inr r22))))))))) else(some (.done (.inl l1))))
def Rg(Γ:Ix)(a0:TFunc)(r:(TGraph×Int)):Exit->St->Prop:=fK Tryz.prog Γ Tryz.f28.results.toList [] (.tuple (Z61 r.1 r.2)) []
def Q167:AV:=Z42
def Zj(a0:TFunc)(i2:Int):=(a0.Blocks.getD i2.toNat default)
def Aal:AV:=Z39
def Q163:AV:=(.agg [Q167,Q167])
def Q164:=(⟨[Ra,(3,(.int .i64 (5:Int)))],[(Z64 Aal)],[]⟩:St)
def Q160(a0:TFunc)(i2:Int)(i6:Int):=(decide (((((Zj a0 i2).End.To).getD i6.toNat 0):Int)<=0))
def Q166(a0:TFunc):List AV:=[(Z8 a0.Params),(Z7 a0.Ret),(Z16 a0.Blocks)]
def Q162:=(⟨[Ra,(3,(.int .i64 (5:Int)))],[(2,.row 41 [Z67,Z67])],[]⟩:St)
def Q157(a0:TFunc)(i2:Int):=(bif (decide (((Zj a0 i2).End.Kind:Int)<0)) then true else(decide (((3:Int):Int)<(Zj a0 i2).End.Kind)))
def Q161(a0:TFunc):=(⟨[W9,Ra,(4,(Z52 a0.Blocks.length)),(5,(AV.list 1 J6 [] ([]:List (List Int)) (.own 5005))),(6,Qs)],[(1,.row 25 (Q166 a0)),(Z64 Q167),(5005,.tok 1 22 (([]:List (List Int)).length))],[]⟩:St)
def Q159(a0:TFunc)(l1:List (List Int))(i2:Int):=(⟨[W9,Ra,(4,(Z52 a0.Blocks.length)),(5,(Z47 l1 5005)),(6,(Z7 i2)),(7,(.ptr 7 0)),(8,(AV.list 1 As 0 ([]:List Int) (.own 5008))),(10,Z75)],[(1,.row 25 (Q166 a0)),(Z64 Q167),(7,.row 51 [(.int .i64 (Zj a0 i2).End.Kind),(.int .i64 (Zj a0 i2).End.Arg),(AV.list 1 As 0 (Zj a0 i2).End.To .none)]),(5005,.tok 1 22 l1.length),(5008,.tok 1 3 (([]:List Int).length))],[]⟩:St)
def Hx(a0:TFunc):Option (TGraph×Int):=
 (bif (bif (((a0.Blocks.length:Int):Int)==0) then true else(decide (((64:Int):Int)<(a0.Blocks.length:Int)))) then(some ((⟨([]:List (List Int)),([]:List (List Int))⟩:TGraph),(5:Int))) else((Ag (Cd a0) (([]:List (List Int)),(0:Int))).bind (fun x23=>(match x23 with|(.inl l3)=>((Gp l3).bind fun x25=>(some (x25.1,x25.2)))|(.inr r26)=>(some r26)))))
theorem Ql(a0:TFunc)(r:(TGraph×Int))(h:Hx a0=some r):Spec Tryz.prog 28 [(Z44 a0)] [] (.tuple (Z61 r.1 r.2)) []:=by
 refine Ab mix Tryz.func28 (fun Γ hq=>?_);unfold Hx at h;refine Ae hq Mu Mu ?_;refine Ae hq [1,2,4] Mu ?_;refine gR hq [1,2,4,19] Mu [] [] (ci (gI ((((a0.Blocks.length:Int):Int)==0)==false)) (c1 (Ko (((a0.Blocks.length:Int):Int)==0)))) ?_;refine gC h ?_ ?_<;>intro h
 ·refine gR hq Fk [2] [(20,(.agg [Aal,Aal]))] [] (c1 (show(AVle Q163 (.agg [Aal,Aal])) from(AVle.agg (.cons G7 (.cons G7 .nil))))) ?_;refine Qk Q164 ?_;cases h;exact gK (e:=.ret) (Kf [] (show Le Γ _ Q162 from Le.trans (B7 (st':=Q164) Fk [2] hq) (Jg (.cons (AVle.refl _) (.cons (AVle.refl _) .nil)) (.row (.cons AVle.untag (.cons AVle.untag .nil)) .nil))))
 ·refine gR hq [1,2,4,5] Mu [(5,Aal)] [] (c1 (Do 1 J6 [])) ?_;refine Ae hq zzN88 Mu ?_;refine Oi (st':=(Q161 a0)) (Le.trans (B7 (st':=⟨[W9,Ra,(4,(Z52 a0.Blocks.length)),(5,Aal),(6,Qs)],[(1,.row 25 (Q166 a0)),(Z64 Q167)],[]⟩) zzN88 Mu hq) (Le.trans (N4 (t:=5) (nm:=5005) (sz':=1) (fun i=>J6 (([]:List (List Int)).getD i [])) 22 rfl rfl (.inl ⟨rfl,rfl⟩) (fun h_=>absurd h_ (by decide))) (B7 (st':=(Q161 a0)) zzN88 zzN133 hq))) ?_;obtain⟨x23,hx23,h⟩:=bind_some h;refine gL hq hx23 zzN88 zzN133 (fun u (l1,i2)=>(Ew u [(5,(Z47 l1 5005)),(6,(Z7 i2))] [(5005,.tok 1 22 l1.length)])) (fun u x_=>match x_ with|(.inl l3)=>aG Γ (.exit 0) (Pa Ti [2,5005] u [(5,(Z47 l3 5005))] [(5005,.tok 1 22 l3.length)])|(.inr r_)=>aR (Rg Γ a0 r_)) ?_ ?_
  ·rintro⟨l1,i2⟩ y h;unfold Cd at h;refine Ae hq [1,2,4,5,6,23] zzN133 ?_;refine gC h ?_ ?_<;>intro h
   ·obtain⟨hc4,h⟩:=Aa h;refine gR hq [1,2,4,5,6,7] Wb [] [] (c1 hc4) ?_;obtain⟨hc5,h⟩:=Aa h;refine gR hq [1,2,4,5,6,7,50] Wb [(44,(AV.list 1 As 0 ([(0:Int),(1:Int),(2:Int),(0:Int)]:List Int) .exact))] [] (ci (gI ((decide (((Zj a0 i2).End.Kind:Int)<0))==false)) (ci (gI ((decide (((Zj a0 i2).End.Kind:Int)<0))==false)) (ci (Ko (decide (((Zj a0 i2).End.Kind:Int)<0))) (ci (gI ((Q157 a0 i2)==false)) (ci (gI ((Q157 a0 i2)==false)) (ci (show(((Q157 a0 i2)==false)=true->(AVle (.slice 1 4 (fun i=>([[Qs],[Z75],[(.int .i64 (2:Int))],[Qs]]:List (List AV)).getD i []) .exact) (AV.list 1 As 0 ([(0:Int),(1:Int),(2:Int),(0:Int)]:List Int) .exact))) from(fun hg=>@(Bu 1 As (0:Int) ([(0:Int),(1:Int),(2:Int),(0:Int)]:List Int)))) (ci (gI ((Q157 a0 i2)==false)) (ci (gI ((Q157 a0 i2)==false)) (ci (gI ((Q157 a0 i2)==false)) (ci hc5 (ci (gI ((Q157 a0 i2)==false)) (ci (gI ((Q157 a0 i2)==false)) (ci (gI ((Q157 a0 i2)==false)) (c1 (Ko (Q157 a0 i2)))))))))))))))) ?_;refine gC h ?_ ?_<;>intro h
    ·refine gR hq Fk [2] [(51,(.agg [Aal,Aal]))] [] (c1 (show(AVle Q163 (.agg [Aal,Aal])) from(AVle.agg (.cons G7 (.cons G7 .nil))))) ?_;refine Qk Q164 ?_;cases h;exact gO (L8 (Kf [] (show Le Γ _ Q162 from Le.trans (B7 (st':=Q164) Fk [2] hq) (Jg (.cons (AVle.refl _) (.cons (AVle.refl _) .nil)) (.row (.cons AVle.untag (.cons AVle.untag .nil)) .nil)))))
    ·refine gR hq zzN124 Wb [(8,Z24)] [] (c1 (Do 1 As (0:Int))) ?_;refine Ae hq zzN111 Wb ?_;obtain⟨x9,hx9,h⟩:=bind_some h;refine gL hq hx9 zzN111 Wb (fun u i6=>(Ew u [(9,(Z7 i6))] [])) (fun u x_=>match x_ with|(.inl _)=>aG Γ (.exit 2) (Pa zzN124 Wb u [] [])|(.inr r_)=>aR (Rg Γ a0 r_)) ?_ ?_
     ·intro i6 y h;unfold Cb at h;refine Ae hq [1,2,4,5,6,7,8,9,56] Wb ?_;refine gC h ?_ ?_<;>intro h
      ·obtain⟨hc7,h⟩:=Aa h;obtain⟨hc8,h⟩:=Aa h;refine gR hq [1,2,4,5,6,7,8,9,73] Wb [] [] (ci hc7 (ci (gI ((Q160 a0 i2 i6)==false)) (ci (gI ((Q160 a0 i2 i6)==false)) (ci (gI ((Q160 a0 i2 i6)==false)) (ci hc8 (ci (gI ((Q160 a0 i2 i6)==false)) (ci (gI ((Q160 a0 i2 i6)==false)) (ci (gI ((Q160 a0 i2 i6)==false)) (c1 (Ko (Q160 a0 i2 i6))))))))))) ?_;refine gC h ?_ ?_<;>intro h
       ·refine gR hq Fk [2] [(74,(.agg [Aal,Aal]))] [] (c1 (show(AVle Q163 (.agg [Aal,Aal])) from(AVle.agg (.cons G7 (.cons G7 .nil))))) ?_;refine Qk Q164 ?_;cases h;exact gO (L8 (Kf [] (show Le Γ _ Q162 from Le.trans (B7 (st':=Q164) Fk [2] hq) (Jg (.cons (AVle.refl _) (.cons (AVle.refl _) .nil)) (.row (.cons AVle.untag (.cons AVle.untag .nil)) .nil)))))
       ·refine Ae hq zzN111 Wb ?_;cases h;exact gN C1
      ·cases h;exact gO (Bm (B7 zzN124 Wb hq))
     ·clear hx9;rcases x9 with _|r22
      ·refine gA ?_;refine Ae hq zzN32 Wb ?_;refine Oi (st':=(Q159 a0 l1 i2)) (Le.trans (B7 (st':=⟨[W9,Ra,(4,(Z52 a0.Blocks.length)),(5,(Z47 l1 5005)),(6,(Z7 i2)),(7,(.ptr 7 0)),(8,Z24),(10,Z75)],[(1,.row 25 (Q166 a0)),(Z64 Q167),(7,.row 51 [(.int .i64 (Zj a0 i2).End.Kind),(.int .i64 (Zj a0 i2).End.Arg),(AV.list 1 As 0 (Zj a0 i2).End.To .none)]),(5005,.tok 1 22 l1.length)],[]⟩) zzN32 Wb hq) (Le.trans (N4 (t:=8) (nm:=5008) (sz':=1) (fun i=>As (([]:List Int).getD i 0)) 3 rfl rfl (.inl ⟨rfl,rfl⟩) (fun h_=>absurd h_ (by decide))) (B7 (st':=(Q159 a0 l1 i2)) zzN32 zzN44 hq))) ?_;obtain⟨x19,hx19,h⟩:=bind_some h;refine gL hq hx19 zzN32 zzN44 (fun u (l11,i12)=>(Ew u [(8,(Z13 l11 5008)),(10,(Z7 i12))] [(5008,.tok 1 3 l11.length)])) (fun u l13=>aG Γ (.exit 4) (Pa [1,2,4,5,6,8] [1,2,5005,5008] u [(8,(Z13 l13 5008))] [(5008,.tok 1 3 l13.length)])) ?_ ?_
       ·rintro⟨l11,i12⟩ y h;unfold Cc at h;refine Ae hq [1,2,4,5,6,7,8,10,77] zzN44 ?_;refine gC h ?_ ?_<;>intro h
        ·obtain⟨x17,hx17,h⟩:=bind_some h;refine gJ hx17 (fun l14=>aG Γ .normal (⟨[W9,Ra,(4,(Z52 a0.Blocks.length)),(5,(Z47 l1 5005)),(6,(Z7 i2)),(7,(.ptr 7 0)),(8,(Z13 l14 5008)),(10,(Z7 i12))],[(1,.row 25 (Q166 a0)),(Z64 Q167),(7,.row 51 [(.int .i64 (Zj a0 i2).End.Kind),(.int .i64 (Zj a0 i2).End.Arg),(AV.list 1 As 0 (Zj a0 i2).End.To .none)]),(5005,.tok 1 22 l1.length),(5008,.tok 1 3 l14.length)],[]⟩:St)) ?_ ?_
         ·clear h hx17;intro y h;obtain⟨x15,hx15,h⟩:=bind_some h;refine gR hq [1,2,4,5,6,7,8,10,83] zzN44 [] [(Z2 x15)] (c1 (Mn ((Zj a0 i2).End.To) i12 x15 hx15)) ?_;refine gC h ?_ ?_<;>intro h
          ·obtain⟨hc16,h⟩:=Aa h;refine gR hq zzN32 zzN44 [(86,(Z25 i12)),(87,(AV.list 1 As 0 (l11++([i12]:List Int)) (.own 5008)))] [] (ci (Bu 1 As (0:Int) ([i12]:List Int)) (ci (Eq.refl l11.length) (ci hc16 (ci (Jr 1 5008 As (0:Int) l11 ([i12]:List Int)) (c1 (Fz l11 ([i12]:List Int))))))) ?_;cases h;exact gK (Bm C1)
          ·obtain rfl:=OI h;exact gK (Bm (B7 zzN32 zzN44 hq))
         ·clear hx17;refine gA ?_;refine Ae hq zzN32 zzN44 ?_;cases h;exact gN C1
        ·cases h;exact gO (Bm (B7 [1,2,4,5,6,8] [1,2,5005,5008] hq))
       ·clear hx19;refine gA ?_;obtain⟨hc21,h⟩:=Aa h;refine gR hq zzN88 zzN133 [(90,(AV.list 1 J6 [] ([x19]:List (List Int)) .exact)),(91,(AV.list 1 J6 [] (l1++([x19]:List (List Int))) (.own 5005)))] [] (ci (Bu 1 J6 [] ([x19]:List (List Int))) (ci (Eq.refl l1.length) (ci hc21 (ci (Jr 1 5005 J6 [] l1 ([x19]:List (List Int))) (c1 (Fz l1 ([x19]:List (List Int)))))))) ?_;refine Ae hq zzN88 zzN133 ?_;cases h;exact gN C1
      ·refine Ol (fun st' hk=>?_);cases h;exact gO (L8 hk)
   ·cases h;exact gO (Bm (B7 Ti [2,5005] hq))
  ·clear hx23;rcases x23 with l3|r26
   ·refine gA ?_;obtain⟨x25,hx25,h⟩:=bind_some h;refine gR hq Fk [2] [] [(Z35 x25.1 x25.2)] (c1 (Pd l3 x25 hx25)) ?_;cases h;exact Cu []
   ·refine Ol (fun st' hk=>?_);obtain rfl:=OI h;exact gK hk
def A1(a2:TGraph)(aa3:Int)(i6:Int):(Int×List Bool)->Option (LR (Int×List Bool) (List Bool)):=
 fun((i9,l10):(Int×List Bool))=>(A7 (A5 i6 l10.length) (A7 (((l10.getD i6.toNat false)==true)=true->(A5 i6 a2.Succ.length)) (bif (bif (l10.getD i6.toNat false) then(decide (i9<((a2.Succ.getD i6.toNat []).length:Int))) else false) then(Option.bind (α:=List Bool) (A7 (A5 i6 a2.Succ.length) (A7 (A5 i9 (a2.Succ.getD i6.toNat []).length) (bif ((((a2.Succ.getD i6.toNat []).getD i9.toNat 0):Int)!=aa3) then(A7 (A5 i6 a2.Succ.length) (A7 (A5 i9 (a2.Succ.getD i6.toNat []).length) (A7 (A5 ((a2.Succ.getD i6.toNat []).getD i9.toNat 0) l10.length) (some (l10.set ((a2.Succ.getD i6.toNat []).getD i9.toNat 0).toNat true))))) else(some l10)))) (fun x20=>(some (.next ((w64 (i9+1)),x20))))) else(some (.done l10)))))
def A3(a2:TGraph)(aa3:Int):(Int×List Bool)->Option (LR (Int×List Bool) (List Bool)):=
 fun((i6,l7):(Int×List Bool))=>(bif (decide (i6<(l7.length:Int))) then((Ag (A1 a2 aa3 i6) ((0:Int),l7)).bind (fun x22=>(some (.next ((w64 (i6+1)),x22))))) else(some (.done l7)))
def A4(a2:TGraph)(aa3:Int):(Int×List Bool)->Option (LR (Int×List Bool) (List Bool)):=
 fun((i3,l4):(Int×List Bool))=>(bif (decide (i3<(l4.length:Int))) then((Ag (A3 a2 aa3) ((0:Int),l4)).bind (fun x24=>(some (.next ((w64 (i3+1)),x24))))) else(some (.done l4)))
def Q169(l10:List Bool)(i6:Int):=((l10.getD i6.toNat false)==true)
def Q168(a2:TGraph):=(List.replicate (a2.Succ.length:Int).toNat false)
def Q171(a2:TGraph):=(fun i=>eB ((Q168 a2).getD i false))
def Q170(a2:TGraph)(i6:Int)(i9:Int):=((a2.Succ.getD i6.toNat []).getD i9.toNat 0)
def C3(a2:TGraph)(a3:Int)(aa3:Int):Option (List Bool):=
 (A7 (0<=(a2.Succ.length:Int)/\(a2.Succ.length:Int)<=(a2.Succ.length:Int)/\(a2.Succ.length:Int)<=(room:Int)) (bif (a3==aa3) then(some (List.replicate (a2.Succ.length:Int).toNat false)) else(A7 (A5 a3 (List.replicate (a2.Succ.length:Int).toNat false).length) ((Ag (A4 a2 aa3) ((0:Int),((List.replicate (a2.Succ.length:Int).toNat false).set a3.toNat true))).bind (fun x26=>(some x26))))))
theorem Ll(a2:TGraph)(a3:Int)(aa3:Int)(r:List Bool)(h:C3 a2 a3 aa3=some r):Spec Tryz.prog 23 [(.agg (Sh a2)),(Z7 a3),(Z7 aa3)] [] (Z21 r 20000) [(Pt 20000 r.length)]:=by
 refine Ab mix Tryz.func23 (fun Γ hq=>?_);have hΓ:=hq.own;unfold C3 at h;refine gR hq [1,2,3] [3] [(6,(AV.list 1 eB false ([]:List Bool) .exact))] [] (c1 (Do 1 eB false)) ?_;obtain⟨hc1,h⟩:=Aa h;refine gR hq [1,2,3,7] K7 [] [] (c1 hc1) ?_;refine Oi (Le.trans (Wg 14 (show ∀ k_,k_<((a2.Succ.length:Int).toNat)->AVleL ((fun i_=>AV.eraseAll (fun n_=>D2 n_ K7) ((fun _=>[(.bool false)]) i_)) k_) ((Q171 a2) k_) from(fun k hk=>Qv (e:=eB) (d:=false) (.cons (AVle.refl _) .nil) _ k (Qx hk)))) (Wh (fun(k_:Nat) u=>(Ew u [(S0 14 k_)] [(14,.arr 1 4 k_ (Q171 a2))])) (show(a2.Succ.length:Int).toNat=(Q168 a2).length from(Qm ..).symm))) ?_;refine Ae hq [1,2,3,7,17] K7 ?_;refine gC h ?_ ?_<;>intro h
 ·refine Ae hq [6] [14] ?_;refine Qk (⟨[(6,(.vsl 14 (Q168 a2).length))],[(14,.arr 1 4 ((Q168 a2).length) (Q171 a2))],[]⟩:St) ?_;cases h;exact gK (e:=.ret) (Kf [(14,20000)] (Le.trans (Jz (nm:=14) (sz:=1) (n:=((Q168 a2).length)) (e:=4) (f:=(Q171 a2)) (g:=(Q171 a2)) rfl ⟨rfl,trivial⟩ (fun _ _=>rfl) (by rw[hΓ];rfl)) (Ju (st':=⟨[(6,(Z21 (Q168 a2) 14))],[(14,.tok 1 4 ((Q168 a2).length))],[]⟩) (by kernel_rfl))))
 ·obtain⟨hc2,h⟩:=Aa h;refine gR hq [2,3,7] K7 [] [] (ci hc2 (c1 (Eq.refl ((Q168 a2).length)))) ?_;refine Oi (Le.trans (Wg 14 (show ∀ k_,k_<((Q168 a2).length)->AVleL ((fun i_=>AV.eraseAll (fun n_=>D2 n_ K7) ((Gx (Q171 a2) a3.toNat 0 [(.bool true)]) i_)) k_) ((fun i=>eB (((Q168 a2).set a3.toNat true).getD i false)) k_) from(Ci (G2 ..).symm (fun k_ hk_=>(Cl (AV.eraseAll (fun n_=>D2 n_ K7)) ((Kb (fun _ _=>rfl) (L1 hc2) rfl) k_ hk_)).trans rfl)))) (Wh (fun(k_:Nat) u=>(Ew u [(S0 14 k_)] [(14,.arr 1 4 k_ (fun i=>eB (((Q168 a2).set a3.toNat true).getD i false)))])) (show(Q168 a2).length=((Q168 a2).set a3.toNat true).length from(G2 ..).symm))) ?_;refine Ae hq zzN134 K7 ?_;obtain⟨x26,hx26,h⟩:=bind_some h;refine gL hq hx26 zzN134 K7 (fun u (i3,l4)=>(Ew u [(S0 14 l4.length),(8,(Z7 i3))] [(Z11 14 l4)])) (fun u l5=>aG Γ (.exit 0) (⟨[(S0 14 l5.length)],[(Z11 14 l5)],[]⟩:St)) ?_ ?_
  ·rintro⟨i3,l4⟩ y h;unfold A4 at h;refine Ae hq [2,3,7,8,25] K7 ?_;refine gC h ?_ ?_<;>intro h
   ·refine Ae hq zzN102 K7 ?_;obtain⟨x24,hx24,h⟩:=bind_some h;refine gL hq hx24 zzN102 K7 (fun u (i6,l7)=>(Ew u [(S0 14 l7.length),(9,(Z7 i6))] [(Z11 14 l7)])) (fun u l8=>aG Γ (.exit 2) (Pa zzN134 K7 u [(S0 14 l8.length)] [(Z11 14 l8)])) ?_ ?_
    ·rintro⟨i6,l7⟩ y h;unfold A3 at h;refine Ae hq [2,3,7,8,9,31] K7 ?_;refine gC h ?_ ?_<;>intro h
     ·refine Ae hq zzN80 K7 ?_;obtain⟨x22,hx22,h⟩:=bind_some h;refine gL hq hx22 zzN80 K7 (fun u (i9,l10)=>(Ew u [(S0 14 l10.length),(10,(Z7 i9))] [(Z11 14 l10)])) (fun u l11=>aG Γ (.exit 4) (Pa zzN102 K7 u [(S0 14 l11.length)] [(Z11 14 l11)])) ?_ ?_
      ·rintro⟨i9,l10⟩ y h;unfold A1 at h;obtain⟨hc12,h⟩:=Aa h;obtain⟨hc13,h⟩:=Aa h;refine gR hq [2,3,7,8,9,10,47] K7 [] [] (ci hc12 (ci (Eq.refl l10.length) (ci (gI (Q169 l10 i6)) (ci (gI (Q169 l10 i6)) (ci (gI (Q169 l10 i6)) (ci hc13 (ci (gI (Q169 l10 i6)) (ci (gI (Q169 l10 i6)) (ci (gI (Q169 l10 i6)) (ci (gI (Q169 l10 i6)) (c1 (Nb (l10.getD i6.toNat false))))))))))))) ?_;refine gC h ?_ ?_<;>intro h
       ·obtain⟨x20,hx20,h⟩:=bind_some h;refine gJ hx20 (fun l14=>aG Γ .normal (⟨[(2,(Z7 aa3)),(3,(.ptr 3 0)),(S0 14 l14.length),(8,(Z7 i3)),(9,(Z7 i6)),(10,(Z7 i9))],[(3,.row 41 [(Z20 a2.Succ),(Z20 a2.Pred)]),(Z11 14 l14)],[]⟩:St)) ?_ ?_
        ·clear h hx20;intro y h;obtain⟨hc15,h⟩:=Aa h;obtain⟨hc16,h⟩:=Aa h;refine gR hq [2,3,7,8,9,10,59] K7 [] [] (ci hc15 (c1 hc16)) ?_;refine gC h ?_ ?_<;>intro h
         ·obtain⟨hc17,h⟩:=Aa h;obtain⟨hc18,h⟩:=Aa h;obtain⟨hc19,h⟩:=Aa h;refine gR hq zzN80 K7 [] [] (ci hc17 (ci hc18 (ci hc19 (c1 (Eq.refl l10.length))))) ?_;cases h;exact gK (Bm (Le.trans (Le.trans (Wg 14 (show ∀ k_,k_<l10.length->AVleL ((fun i_=>AV.eraseAll (fun n_=>D2 n_ K7) ((Gx (fun i=>eB (l10.getD i false)) (Q170 a2 i6 i9).toNat 0 [(.bool true)]) i_)) k_) ((fun i=>eB ((l10.set (Q170 a2 i6 i9).toNat true).getD i false)) k_) from(Ci (G2 ..).symm (fun k_ hk_=>(Cl (AV.eraseAll (fun n_=>D2 n_ K7)) ((Kb (fun _ _=>rfl) (L1 hc19) rfl) k_ hk_)).trans rfl)))) (Wh (fun(k_:Nat) u=>(Ew u [(S0 14 k_)] [(14,.arr 1 4 k_ (fun i=>eB ((l10.set (Q170 a2 i6 i9).toNat true).getD i false)))])) (show l10.length=(l10.set (Q170 a2 i6 i9).toNat true).length from(G2 ..).symm))) C1))
         ·obtain rfl:=OI h;exact gK (Bm (B7 zzN80 K7 hq))
        ·clear hx20;refine gA ?_;refine Ae hq zzN80 K7 ?_;cases h;exact gN C1
       ·cases h;exact gO (Bm (B7 zzN102 K7 hq))
      ·clear hx22;refine gA ?_;refine Ae hq zzN102 K7 ?_;cases h;exact gN C1
     ·cases h;exact gO (Bm (B7 zzN134 K7 hq))
    ·clear hx24;refine gA ?_;refine Ae hq zzN134 K7 ?_;cases h;exact gN C1
   ·cases h;exact gO (Bm (B7 [7] [14] hq))
  ·clear hx26;refine gA ?_;refine Ae hq [6] [14] ?_;refine Qk (⟨[(6,(.vsl 14 x26.length))],[(Z11 14 x26)],[]⟩:St) ?_;obtain rfl:=OI h;exact gK (e:=.ret) (Kf [(14,20000)] (Le.trans (Jz (nm:=14) (sz:=1) (n:=x26.length) (e:=4) (f:=(fun i=>eB (x26.getD i false))) (g:=(fun i=>eB (x26.getD i false))) rfl ⟨rfl,trivial⟩ (fun _ _=>rfl) (by rw[hΓ];rfl)) (Ju (st':=⟨[(6,(Z21 x26 14))],[(Pt 14 x26.length)],[]⟩) (by kernel_rfl))))
def Bq(aH:List Int)(aJ:List Int):Int->Option (LR Int (Unit ⊕ Bool)):=
 fun(i1:Int)=>(bif (decide (i1<(aH.length:Int))) then(A7 (A5 i1 aH.length) (A7 (A5 i1 aJ.length) (bif (((aH.getD i1.toNat 0):Int)!=(aJ.getD i1.toNat 0)) then(some (.done (.inr false))) else(some (.next (w64 (i1+1))))))) else(some (.done (.inl ()))))
def W1(Γ:Ix)(aH:List Int)(aJ:List Int)(r:Bool):Exit->St->Prop:=fK Tryz.prog Γ Tryz.f81.results.toList [] (.bool r) []
def D7(aH:List Int)(aJ:List Int):Option Bool:=
 (bif (((aH.length:Int):Int)!=(aJ.length:Int)) then(some false) else((Ag (Bq aH aJ) (0:Int)).bind (fun x4=>(match x4 with|(.inl _)=>(some true)|(.inr r6)=>(some r6)))))
theorem Ly(aH:List Int)(aJ:List Int)(r:Bool)(h:D7 aH aJ=some r):Spec Tryz.prog 81 [(Z8 aH),(Z8 aJ)] [] (.bool r) []:=by
 refine Ab mix Tryz.func81 (fun Γ hq=>?_);unfold D7 at h;refine Ae hq Jo [] ?_;refine Ae hq zzN96 [] ?_;refine gC h ?_ ?_<;>intro h
 ·refine Ae hq [4] [] ?_;obtain rfl:=OI h;exact Cu []
 ·refine Ae hq Og [] ?_;obtain⟨x4,hx4,h⟩:=bind_some h;refine gL hq hx4 Og [] (fun u i1=>(Ew u [(5,(Z7 i1))] [])) (fun u x_=>match x_ with|(.inl _)=>aG Γ (.exit 0) (⟨[],[],[]⟩:St)|(.inr r_)=>aR (W1 Γ aH aJ r_)) ?_ ?_
  ·intro i1 y h;unfold Bq at h;refine Ae hq [0,1,5,14] [] ?_;refine gC h ?_ ?_<;>intro h
   ·obtain⟨hc2,h⟩:=Aa h;obtain⟨hc3,h⟩:=Aa h;refine gR hq [0,1,5,25] [] [] [] (ci hc2 (c1 hc3)) ?_;refine gC h ?_ ?_<;>intro h
    ·refine Ae hq [4] [] ?_;cases h;exact gO (L8 (Kf [] (Le.refl _ _)))
    ·refine Ae hq Og [] ?_;cases h;exact gN C1
   ·cases h;exact gO (Bm (B7 [] [] hq))
  ·clear hx4;rcases x4 with _|r6
   ·refine gA ?_;refine Ae hq [4] [] ?_;obtain rfl:=OI h;exact Cu []
   ·refine Ol (fun st' hk=>?_);obtain rfl:=OI h;exact gK hk
def Dl(a0:TFunc)(x1:(TGraph×Int))(i3:Int):Int->Option (LR Int (Unit ⊕ Bool)):=
 fun(i6:Int)=>(bif (decide (i6<(((a0.Blocks.getD i3.toNat default).Phis).length:Int))) then(A7 (A5 i6 ((a0.Blocks.getD i3.toNat default).Phis).length) (A7 (A5 i3 x1.1.Pred.length) ((D7 ((((a0.Blocks.getD i3.toNat default).Phis).getD i6.toNat default).From) (x1.1.Pred.getD i3.toNat [])).bind fun x9=>(A7 (((!x9)==false)=true->(A5 i6 ((a0.Blocks.getD i3.toNat default).Phis).length)) (A7 (((!x9)==false)=true->(A5 i3 x1.1.Pred.length)) (bif (bif (!x9) then true else(((((((a0.Blocks.getD i3.toNat default).Phis).getD i6.toNat default).Args).length:Int):Int)!=((x1.1.Pred.getD i3.toNat []).length:Int))) then(some (.done (.inr false))) else(some (.next (w64 (i6+1)))))))))) else(some (.done (.inl ()))))
def Ej(a0:TFunc)(x1:(TGraph×Int))(x2:List Bool):Int->Option (LR Int (Unit ⊕ Bool)):=
 fun(i3:Int)=>(bif (decide (i3<(a0.Blocks.length:Int))) then(A7 (A5 i3 a0.Blocks.length) (A7 (A5 i3 x2.length) (bif (bif (!(x2.getD i3.toNat false)) then true else(bif (bif (((a0.Blocks.getD i3.toNat default).End.Kind:Int)==1) then true else(((a0.Blocks.getD i3.toNat default).End.Kind:Int)==3)) then(((a0.Blocks.getD i3.toNat default).End.Arg:Int)!=0) else false)) then(some (.done (.inr false))) else((Ag (Dl a0 x1 i3) (0:Int)).bind (fun x12=>(match x12 with|(.inl _)=>(some (.next (w64 (i3+1))))|(.inr r14)=>(some (.done (.inr r14))))))))) else(some (.done (.inl ()))))
def Pb(Γ:Ix)(a0:TFunc)(r:Bool):Exit->St->Prop:=fK Tryz.prog Γ Tryz.f47.results.toList [] (.bool r) []
def Q173(x2:List Bool)(i3:Int):=((!(x2.getD i3.toNat false))==false)
def Q172(a0:TFunc)(i3:Int):=((a0.Blocks.getD i3.toNat default).End.Kind:Int)
def Q174(x2:List Bool)(i3:Int)(a0:TFunc):=((Q173 x2 i3)&&((bif ((Q172 a0 i3)==1) then true else((Q172 a0 i3)==3))==true))
def Hl(a0:TFunc):Option Bool:=
 ((Hx a0).bind fun x1=>(bif (x1.2 !=0) then(some false) else((C3 x1.1 (0:Int) (-1:Int)).bind fun x2=>((Ag (Ej a0 x1 x2) (0:Int)).bind (fun x15=>(match x15 with|(.inl _)=>(some true)|(.inr r17)=>(some r17)))))))
theorem Va(a0:TFunc)(r:Bool)(h:Hl a0=some r):Spec Tryz.prog 47 [(Z44 a0)] [] (.bool r) []:=by
 refine Ab mix Tryz.func47 (fun Γ hq=>?_);unfold Hl at h;refine Ae hq [1] [1] ?_;obtain⟨x1,hx1,h⟩:=bind_some h;refine gR hq Ke Kd [] [(Z35 x1.1 x1.2)] (c1 (Ql a0 x1 hx1)) ?_;refine Ae hq [1,3,15] Kd ?_;refine gC h ?_ ?_<;>intro h
 ·refine Ae hq [2] [] ?_;obtain rfl:=OI h;exact Cu []
 ·obtain⟨x2,hx2,h⟩:=bind_some h;refine gR hq zzN123 zzN115 [] [⟨[],[(20000,17)],(Z21 x2 20000),[(Pt 20000 x2.length)],[],[]⟩] (c1 (Ll x1.1 (0:Int) (-1:Int) x2 hx2)) ?_;refine Ae hq zzN69 zzN115 ?_;obtain⟨x15,hx15,h⟩:=bind_some h;refine gL hq hx15 zzN69 zzN115 (fun u i3=>(Ew u [(6,(Z7 i3))] [])) (fun u x_=>match x_ with|(.inl _)=>aG Γ (.exit 0) (⟨[],[],[]⟩:St)|(.inr r_)=>aR (Pb Γ a0 r_)) ?_ ?_
  ·intro i3 y h;unfold Ej at h;refine Ae hq [1,3,5,6,22] zzN115 ?_;refine gC h ?_ ?_<;>intro h
   ·obtain⟨hc4,h⟩:=Aa h;refine gR hq zzN103 zzN84 [] [] (c1 hc4) ?_;obtain⟨hc5,h⟩:=Aa h;refine gR hq [1,3,5,6,7,52] zzN84 [] [] (ci hc5 (ci (gI (Q173 x2 i3)) (ci (gI (Q173 x2 i3)) (ci (gI (Q173 x2 i3)) (ci (gI (Q173 x2 i3)) (ci (gI ((Q173 x2 i3)&&(((Q172 a0 i3)==1)==false))) (ci (gI ((Q173 x2 i3)&&(((Q172 a0 i3)==1)==false))) (ci (gI ((Q173 x2 i3)&&(((Q172 a0 i3)==1)==false))) (ci (gI (Q173 x2 i3)) (ci (show((Q173 x2 i3)=true->(((Q172 a0 i3)==1)=false->((Q173 x2 i3)&&(((Q172 a0 i3)==1)==false))=true)) from(fun hg=>(aF hg))) (ci (gI (Q173 x2 i3)) (ci (gI (Q174 x2 i3 a0)) (ci (gI (Q174 x2 i3 a0)) (ci (gI (Q174 x2 i3 a0)) (ci (gI (Q173 x2 i3)) (ci (show((Q173 x2 i3)=true->((bif ((Q172 a0 i3)==1) then true else((Q172 a0 i3)==3))=true->(Q174 x2 i3 a0)=true)) from(fun hg=>(aT hg))) (c1 (Ko (!(x2.getD i3.toNat false)))))))))))))))))))) ?_;refine gC h ?_ ?_<;>intro h
    ·refine Ae hq [2] [] ?_;cases h;exact gO (L8 (Kf [] (Le.refl _ _)))
    ·refine Ae hq zzN145 zzN84 ?_;obtain⟨x12,hx12,h⟩:=bind_some h;refine gL hq hx12 zzN145 zzN84 (fun u i6=>(Ew u [(8,(Z7 i6))] [])) (fun u x_=>match x_ with|(.inl _)=>aG Γ (.exit 2) (Pa zzN69 zzN115 u [] [])|(.inr r_)=>aR (Pb Γ a0 r_)) ?_ ?_
     ·intro i6 y h;unfold Dl at h;refine Ae hq [1,3,5,6,7,8,57] zzN84 ?_;refine gC h ?_ ?_<;>intro h
      ·obtain⟨hc7,h⟩:=Aa h;obtain⟨hc8,h⟩:=Aa h;obtain⟨x9,hx9,h⟩:=bind_some h;obtain⟨hc10,h⟩:=Aa h;obtain⟨hc11,h⟩:=Aa h;refine gR hq [1,3,5,6,7,8,88] zzN84 [] [(Z2 x9)] (ci hc7 (ci hc8 (ci (Ly ((((a0.Blocks.getD i3.toNat default).Phis).getD i6.toNat default).From) (x1.1.Pred.getD i3.toNat []) x9 hx9) (ci (gI ((!x9)==false)) (ci (gI ((!x9)==false)) (ci (gI ((!x9)==false)) (ci hc10 (ci (gI ((!x9)==false)) (ci (gI ((!x9)==false)) (ci (gI ((!x9)==false)) (ci (gI ((!x9)==false)) (ci (gI ((!x9)==false)) (ci (gI ((!x9)==false)) (ci hc11 (ci (gI ((!x9)==false)) (ci (gI ((!x9)==false)) (ci (gI ((!x9)==false)) (ci (gI ((!x9)==false)) (c1 (Ko (!x9))))))))))))))))))))) ?_;refine gC h ?_ ?_<;>intro h
       ·refine Ae hq [2] [] ?_;cases h;exact gO (L8 (Kf [] (Le.refl _ _)))
       ·refine Ae hq zzN145 zzN84 ?_;cases h;exact gN C1
      ·cases h;exact gO (Bm (B7 zzN69 zzN115 hq))
     ·clear hx12;rcases x12 with _|r14
      ·refine gA ?_;refine Ae hq zzN69 zzN115 ?_;cases h;exact gN C1
      ·refine Ol (fun st' hk=>?_);cases h;exact gO (L8 hk)
   ·cases h;exact gO (Bm (B7 [] [] hq))
  ·clear hx15;rcases x15 with _|r17
   ·refine gA ?_;refine Ae hq [2] [] ?_;obtain rfl:=OI h;exact Cu []
   ·refine Ol (fun st' hk=>?_);obtain rfl:=OI h;exact gK hk
def Q175(aD:Int):=(bif (bif (aD==1) then true else(aD==8)) then true else(aD==16))
def Ch(aD:Int):Option Bool:=
 (some (bif (bif (bif (bif (aD==1) then true else(aD==8)) then true else(aD==16)) then true else(aD==32)) then true else(aD==64)))
theorem Fg(aD:Int)(r:Bool)(h:Ch aD=some r):Spec Tryz.prog 82 [(Z7 aD)] [] (.bool r) []:=by
 refine Ab mix Tryz.func82 (fun Γ hq=>?_);unfold Ch at h;refine Ae hq [0] [] ?_;refine gR hq [2] [] [] [] (ci (gI ((aD==1)==false)) (ci (Ko (aD==1)) (ci (gI ((bif (aD==1) then true else(aD==8))==false)) (ci (Ko (bif (aD==1) then true else(aD==8))) (ci (gI ((Q175 aD)==false)) (ci (Ko (Q175 aD)) (ci (gI ((bif (Q175 aD) then true else(aD==32))==false)) (c1 (Ko (bif (Q175 aD) then true else(aD==32))))))))))) ?_;cases h;exact Cu []
def Q177(aN:Int):=(bif (aN==2) then true else(aN==4))
def Q176(aN:Int):=(bif (bif (Q177 aN) then true else(aN==8)) then true else(aN==16))
def Q178(aN:Int)(aD:Int):=(bif (Q176 aN) then(decide (((1:Int):Int)<aD)) else false)
def Hi(aD:Int)(aN:Int):Option Bool:=
 ((Ch aD).bind fun x1=>(bif (!x1) then(some false) else(bif (aN==1) then(some true) else(some (bif (bif (bif (bif (bif (aN==2) then true else(aN==4)) then true else(aN==8)) then true else(aN==16)) then(decide (((1:Int):Int)<aD)) else false) then(decide (((w64 (aD*aN)):Int)<=128)) else false)))))
theorem U4(aD:Int)(aN:Int)(r:Bool)(h:Hi aD aN=some r):Spec Tryz.prog 100 [(Z7 aD),(Z7 aN)] [] (.bool r) []:=by
 refine Ab mix Tryz.func100 (fun Γ hq=>?_);unfold Hi at h;refine Ae hq Jo [] ?_;obtain⟨x1,hx1,h⟩:=bind_some h;refine gR hq [0,1,7] [] [] [(Z2 x1)] (c1 (Fg aD x1 hx1)) ?_;refine gC h ?_ ?_<;>intro h
 ·refine Ae hq [4] [] ?_;obtain rfl:=OI h;exact Cu []
 ·refine Ae hq [0,1,9] [] ?_;refine gC h ?_ ?_<;>intro h
  ·refine Ae hq [4] [] ?_;obtain rfl:=OI h;exact Cu []
  ·refine gR hq [4] [] [] [] (ci (gI ((aN==2)==false)) (ci (Ko (aN==2)) (ci (gI ((Q177 aN)==false)) (ci (Ko (Q177 aN)) (ci (gI ((bif (Q177 aN) then true else(aN==8))==false)) (ci (Ko (bif (Q177 aN) then true else(aN==8))) (ci (gI ((Q176 aN)==true)) (ci (Nb (Q176 aN)) (ci (gI ((Q178 aN aD)==true)) (ci (gI ((Q178 aN aD)==true)) (ci (gI ((Q178 aN aD)==true)) (c1 (Nb (Q178 aN aD)))))))))))))) ?_;cases h;exact Cu []
def Q179(a1:Dp):List (Nat×Own):=[(Z48 a1.Kind a1.Bits a1.Lanes a1.Dst a1.Args a1.Imm)]
def Ie(a1:Dp):Option Int:=
 (bif (a1.Kind==0) then(some (0:Int)) else(Option.bind (α:=Bool) (bif (a1.Kind==1) then(some (a1.Kind==1)) else(bif (a1.Kind==2) then(some (a1.Kind==2)) else(bif (a1.Kind==3) then(some (a1.Kind==3)) else(bif (a1.Kind==4) then(some (a1.Kind==4)) else(bif (a1.Kind==5) then(some (a1.Kind==5)) else(bif (a1.Kind==6) then(some (a1.Kind==6)) else(bif (a1.Kind==7) then(some (a1.Kind==7)) else(bif (a1.Kind==8) then(some (a1.Kind==8)) else(bif (a1.Kind==9) then(some (a1.Kind==9)) else(bif (a1.Kind==10) then(some (a1.Kind==10)) else(bif (a1.Kind==11) then(some (a1.Kind==11)) else(bif (a1.Kind==12) then(some (a1.Kind==12)) else(some (a1.Kind==17)))))))))))))) (fun x2=>(bif x2 then(some (2:Int)) else(Option.bind (α:=Bool) (bif (a1.Kind==13) then(some (a1.Kind==13)) else(bif (a1.Kind==18) then(some (a1.Kind==18)) else(some (a1.Kind==19)))) (fun x5=>(bif x5 then(some (3:Int)) else(Option.bind (α:=Bool) (bif (a1.Kind==14) then(some (a1.Kind==14)) else(bif (a1.Kind==15) then(some (a1.Kind==15)) else(bif (a1.Kind==16) then(some (a1.Kind==16)) else(some (a1.Kind==22))))) (fun x8=>(bif x8 then(some (1:Int)) else(bif (a1.Kind==20) then(some (4:Int)) else(bif (a1.Kind==21) then(some a1.Lanes) else(some (-1:Int))))))))))))))
theorem Wp(a1:Dp)(r:Int)(h:Ie a1=some r):Spec Tryz.prog 101 (Z66 a1) [] (.int .i64 r) []:=by
 refine Ab mix Tryz.func101 (fun Γ hq=>?_);unfold Ie at h;refine Ae hq [1] [1] ?_;refine Ae hq Pj [1] ?_;refine Ae hq [1,4,5] [1] ?_;refine gC h ?_ ?_<;>intro h
 ·refine Ae hq [2] [] ?_;cases h;exact Cu []
 ·obtain⟨x2,hx2,h⟩:=bind_some h;refine gJ hx2 (fun b1=>aG Γ .normal (⟨[W9,(4,(Z7 a1.Kind)),(7,(.bool b1))],(Q179 a1),[]⟩:St)) ?_ ?_
  ·clear h hx2;intro y h;refine Ae hq Ub [1] ?_;refine gC h ?_ ?_<;>intro h
   ·cases h;exact gK (Bm C1)
   ·refine Ae hq Ub [1] ?_;refine gC h ?_ ?_<;>intro h
    ·cases h;exact gK (Bm C1)
    ·refine Ae hq Ub [1] ?_;refine gC h ?_ ?_<;>intro h
     ·cases h;exact gK (Bm C1)
     ·refine Ae hq Ub [1] ?_;refine gC h ?_ ?_<;>intro h
      ·cases h;exact gK (Bm C1)
      ·refine Ae hq Ub [1] ?_;refine gC h ?_ ?_<;>intro h
       ·cases h;exact gK (Bm C1)
       ·refine Ae hq Ub [1] ?_;refine gC h ?_ ?_<;>intro h
        ·cases h;exact gK (Bm C1)
        ·refine Ae hq Ub [1] ?_;refine gC h ?_ ?_<;>intro h
         ·cases h;exact gK (Bm C1)
         ·refine Ae hq Ub [1] ?_;refine gC h ?_ ?_<;>intro h
          ·cases h;exact gK (Bm C1)
          ·refine Ae hq Ub [1] ?_;refine gC h ?_ ?_<;>intro h
           ·cases h;exact gK (Bm C1)
           ·refine Ae hq Ub [1] ?_;refine gC h ?_ ?_<;>intro h
            ·cases h;exact gK (Bm C1)
            ·refine Ae hq Ub [1] ?_;refine gC h ?_ ?_<;>intro h
             ·cases h;exact gK (Bm C1)
             ·refine Ae hq Ub [1] ?_;refine gC h ?_ ?_<;>intro h
              ·cases h;exact gK (Bm C1)
              ·refine Ae hq Ub [1] ?_;cases h;exact gK (Bm C1)
  ·clear hx2;refine gA ?_;refine gC h ?_ ?_<;>intro h
   ·refine Ae hq [2] [] ?_;cases h;exact Cu []
   ·obtain⟨x5,hx5,h⟩:=bind_some h;refine gJ hx5 (fun b4=>aG Γ .normal (⟨[W9,(4,(Z7 a1.Kind)),(21,(.bool b4))],(Q179 a1),[]⟩:St)) ?_ ?_
    ·clear h hx5;intro y h;refine Ae hq [1,4,21] [1] ?_;refine gC h ?_ ?_<;>intro h
     ·cases h;exact gK (Bm C1)
     ·refine Ae hq [1,4,21] [1] ?_;refine gC h ?_ ?_<;>intro h
      ·cases h;exact gK (Bm C1)
      ·refine Ae hq [1,4,21] [1] ?_;cases h;exact gK (Bm C1)
    ·clear hx5;refine gA ?_;refine gC h ?_ ?_<;>intro h
     ·refine Ae hq [2] [] ?_;cases h;exact Cu []
     ·obtain⟨x8,hx8,h⟩:=bind_some h;refine gJ hx8 (fun b7=>aG Γ .normal (⟨[W9,(4,(Z7 a1.Kind)),(25,(.bool b7))],(Q179 a1),[]⟩:St)) ?_ ?_
      ·clear h hx8;intro y h;refine Ae hq [1,4,25] [1] ?_;refine gC h ?_ ?_<;>intro h
       ·cases h;exact gK (Bm C1)
       ·refine Ae hq [1,4,25] [1] ?_;refine gC h ?_ ?_<;>intro h
        ·cases h;exact gK (Bm C1)
        ·refine Ae hq [1,4,25] [1] ?_;refine gC h ?_ ?_<;>intro h
         ·cases h;exact gK (Bm C1)
         ·refine Ae hq [1,4,25] [1] ?_;cases h;exact gK (Bm C1)
      ·clear hx8;refine gA ?_;refine gC h ?_ ?_<;>intro h
       ·refine Ae hq [2] [] ?_;cases h;exact Cu []
       ·refine Ae hq [1,4,30] [1] ?_;refine gC h ?_ ?_<;>intro h
        ·refine Ae hq [2] [] ?_;cases h;exact Cu []
        ·refine Ae hq [1,32] [1] ?_;refine gC h ?_ ?_<;>intro h
         ·refine Ae hq [2] [] ?_;cases h;exact Cu []
         ·refine Ae hq [2] [] ?_;cases h;exact Cu []
def Iz(aC:Int)(aD:Int):Option Int:=
 ((Ch aD).bind fun x1=>(bif (!x1) then(some (0:Int)) else(bif (aD==64) then(some aC) else(A7 (0<=(Io aD)) (A7 ((shlV .u64 (1:Int) (Io aD))≠0) (some (Int.tmod aC (shlV .u64 (1:Int) (Io aD)))))))))
theorem Xy(aC:Int)(aD:Int)(r:Int)(h:Iz aC aD=some r):Spec Tryz.prog 134 [(.int .u64 aC),(Z7 aD)] [] (.int .u64 r) []:=by
 refine Ab mix Tryz.func134 (fun Γ hq=>?_);unfold Iz at h;refine Ae hq Jo [] ?_;obtain⟨x1,hx1,h⟩:=bind_some h;refine gR hq [0,1,7] [] [] [(Z2 x1)] (c1 (Fg aD x1 hx1)) ?_;refine gC h ?_ ?_<;>intro h
 ·refine Ae hq [4] [] ?_;cases h;exact Cu []
 ·refine Ae hq [0,1,9] [] ?_;refine gC h ?_ ?_<;>intro h
  ·refine Ae hq [4] [] ?_;obtain rfl:=OI h;exact Cu []
  ·obtain⟨hc2,h⟩:=Aa h;obtain⟨hc3,h⟩:=Aa h;refine gR hq [4] [] [] [] (ci hc2 (c1 hc3)) ?_;cases h;exact Cu []
def W4(Γ:Ix)(a1:Dp)(r:Bool):Exit->St->Prop:=fK Tryz.prog Γ Tryz.f102.results.toList [] (.bool r) []
def Q184(a1:Dp):=(a1.Kind==15)
def Q183(a1:Dp):=((a1.Kind==4)==false)
def Q185(a1:Dp):=(decide (a1.Imm<(Io a1.Bits)))
def Q188(a1:Dp):=(bif (a1.Kind==4) then true else(bif (decide (((10:Int):Int)<=a1.Kind)) then(decide (a1.Kind<=12)) else false))
def Q180(a1:Dp):=(bif (Q188 a1) then true else(a1.Kind==14))
def Q186(a1:Dp):=((bif (Q180 a1) then true else(Q184 a1))==false)
def Q187(a1:Dp):=(bif (decide (((16:Int):Int)<=a1.Kind)) then(decide (a1.Kind<=19)) else false)
def Q181(a1:Dp):=(bif (Q187 a1) then(decide (a1.Bits<8)) else false)
def Q189(a1:Dp):=(((Q181 a1)==false)&&((decide (((21:Int):Int)<=a1.Kind))==true))
def Q182(a1:Dp):=(bif (decide (((Io a1.Bits):Int)<a1.Imm)) then(decide (a1.Imm<=64)) else false)
def Fe(a1:Dp):Option Bool:=
 (Option.bind (α:=(Unit ⊕ Bool)) (bif (bif (bif (bif (bif (a1.Kind==4) then true else(bif (decide (((10:Int):Int)<=a1.Kind)) then(decide (a1.Kind<=12)) else false)) then true else(a1.Kind==14)) then true else(a1.Kind==15)) then true else(bif (decide (((18:Int):Int)<=a1.Kind)) then(decide (a1.Kind<=20)) else false)) then(bif (a1.Lanes !=1) then(some (.inr false)) else(some (.inl ()))) else(some (.inl ()))) (fun x1=>(match x1 with|(.inl _)=>(bif (bif (bif (bif (decide (((16:Int):Int)<=a1.Kind)) then(decide (a1.Kind<=19)) else false) then(decide (a1.Bits<8)) else false) then true else(bif (decide (((21:Int):Int)<=a1.Kind)) then(decide (a1.Lanes<2)) else false)) then(some false) else(bif (a1.Kind==0) then((Iz a1.Imm a1.Bits).bind fun x3=>(some (x3==a1.Imm))) else(bif (a1.Kind==14) then((bif ((decide (a1.Imm<(Io a1.Bits)))==true) then Ch (w64 a1.Imm) else some false).bind fun x4=>(some (bif (decide (a1.Imm<(Io a1.Bits))) then x4 else false))) else(bif (a1.Kind==15) then((bif ((bif (decide (((Io a1.Bits):Int)<a1.Imm)) then(decide (a1.Imm<=64)) else false)==true) then Ch (w64 a1.Imm) else some false).bind fun x5=>(some (bif (bif (decide (((Io a1.Bits):Int)<a1.Imm)) then(decide (a1.Imm<=64)) else false) then x5 else false))) else(bif (a1.Kind==22) then(some (decide (a1.Imm<(Io a1.Lanes)))) else(some (a1.Imm==0)))))))|(.inr r6)=>(some r6))))
theorem Wq(a1:Dp)(r:Bool)(h:Fe a1=some r):Spec Tryz.prog 102 (Z66 a1) [] (.bool r) []:=by
 refine Ab mix Tryz.func102 (fun Γ hq=>?_);unfold Fe at h;refine Ae hq [1] [1] ?_;refine Ae hq Kd [1] ?_;obtain⟨x1,hx1,h⟩:=bind_some h;refine gJ hx1 (fun x_=>match x_ with|(.inl _)=>aG Γ .normal (⟨[W9,(3,(Z7 a1.Kind))],[(Z48 a1.Kind a1.Bits a1.Lanes a1.Dst a1.Args a1.Imm)],[]⟩:St)|(.inr r_)=>aR (W4 Γ a1 r_)) ?_ ?_
 ·clear h hx1;intro y h;refine gR hq [1,3,31] [1] [] [] (ci (gI (Q183 a1)) (ci (gI (Q183 a1)) (ci (gI ((Q183 a1)&&((decide (((10:Int):Int)<=a1.Kind))==true))) (ci (gI (Q183 a1)) (ci (show((Q183 a1)=true->((decide (((10:Int):Int)<=a1.Kind))=true->((Q183 a1)&&((decide (((10:Int):Int)<=a1.Kind))==true))=true)) from(fun hg=>(aT hg))) (ci (Ko (a1.Kind==4)) (ci (gI ((Q188 a1)==false)) (ci (Ko (Q188 a1)) (ci (gI ((Q180 a1)==false)) (ci (Ko (Q180 a1)) (ci (gI (Q186 a1)) (ci (gI (Q186 a1)) (ci (gI ((Q186 a1)&&((decide (((18:Int):Int)<=a1.Kind))==true))) (ci (gI (Q186 a1)) (ci (show((Q186 a1)=true->((decide (((18:Int):Int)<=a1.Kind))=true->((Q186 a1)&&((decide (((18:Int):Int)<=a1.Kind))==true))=true)) from(fun hg=>(aT hg))) (c1 (Ko (bif (Q180 a1) then true else(Q184 a1))))))))))))))))))) ?_;refine gC h ?_ ?_<;>intro h
  ·refine Ae hq [1,3,34] [1] ?_;refine gC h ?_ ?_<;>intro h
   ·refine Ae hq [2] [] ?_;cases h;exact gK (L8 (Kf [] (Le.refl _ _)))
   ·cases h;exact gK (Bm (B7 Kd [1] hq))
  ·cases h;exact gK (Bm (B7 Kd [1] hq))
 ·clear hx1;rcases x1 with _|r6
  ·refine gA ?_;refine gR hq [1,3,54] [1] [] [] (ci (gI ((decide (((16:Int):Int)<=a1.Kind))==true)) (ci (Nb (decide (((16:Int):Int)<=a1.Kind))) (ci (gI ((Q187 a1)==true)) (ci (gI ((Q187 a1)==true)) (ci (Nb (Q187 a1)) (ci (gI ((Q181 a1)==false)) (ci (gI ((Q181 a1)==false)) (ci (gI (Q189 a1)) (ci (gI (Q189 a1)) (ci (gI ((Q181 a1)==false)) (ci (show(((Q181 a1)==false)=true->((decide (((21:Int):Int)<=a1.Kind))=true->(Q189 a1)=true)) from(fun hg=>(aT hg))) (c1 (Ko (Q181 a1)))))))))))))) ?_;refine gC h ?_ ?_<;>intro h
   ·refine Ae hq [2] [] ?_;obtain rfl:=OI h;exact Cu []
   ·refine Ae hq [1,55] [1] ?_;refine Ae hq [1,55,56] [1] ?_;refine gC h ?_ ?_<;>intro h
    ·obtain⟨x3,hx3,h⟩:=bind_some h;refine gR hq [2] [] [] [⟨[],[],(.int .u64 x3),[],[],[]⟩] (c1 (Xy a1.Imm a1.Bits x3 hx3)) ?_;cases h;exact Cu []
    ·refine Ae hq [1,55,66] [1] ?_;refine gC h ?_ ?_<;>intro h
     ·obtain⟨x4,hx4,h⟩:=bind_some h;refine gR hq [2] [] [] [(Z2 x4)] (ci (gI ((Q185 a1)==true)) (ci (gI ((Q185 a1)==true)) (ci (gI ((Q185 a1)==true)) (ci (fun(hg:((Q185 a1)==true)=true)=>(Fg (w64 a1.Imm) x4 (Bh hg hx4))) (c1 (Nb (Q185 a1))))))) ?_;cases h;exact Cu []
     ·refine Ae hq [1,55,80] [1] ?_;refine gC h ?_ ?_<;>intro h
      ·obtain⟨x5,hx5,h⟩:=bind_some h;refine gR hq [2] [] [] [(Z2 x5)] (ci (gI ((decide (((Io a1.Bits):Int)<a1.Imm))==true)) (ci (gI ((decide (((Io a1.Bits):Int)<a1.Imm))==true)) (ci (Nb (decide (((Io a1.Bits):Int)<a1.Imm))) (ci (gI ((Q182 a1)==true)) (ci (gI ((Q182 a1)==true)) (ci (gI ((Q182 a1)==true)) (ci (fun(hg:((Q182 a1)==true)=true)=>(Fg (w64 a1.Imm) x5 (Bh hg hx5))) (c1 (Nb (Q182 a1)))))))))) ?_;cases h;exact Cu []
      ·refine Ae hq [1,99] [1] ?_;refine gC h ?_ ?_<;>intro h
       ·refine Ae hq [2] [] ?_;cases h;exact Cu []
       ·refine Ae hq [2] [] ?_;cases h;exact Cu []
  ·refine Ol (fun st' hk=>?_);obtain rfl:=OI h;exact gK hk
def Es(aC:Int):Option Bool:=
 (some (bif (decide (((0:Int):Int)<aC)) then(decide (aC<1024)) else false))
theorem Lk(aC:Int)(r:Bool)(h:Es aC=some r):Spec Tryz.prog 50 [(Z7 aC)] [] (.bool r) []:=by
 refine Ab mix Tryz.func50 (fun Γ hq=>?_);unfold Es at h;refine Ae hq [0] [] ?_;refine gR hq [2] [] [] [] (ci (gI ((decide (((0:Int):Int)<aC))==true)) (c1 (Nb (decide (((0:Int):Int)<aC))))) ?_;cases h;exact Cu []
def Fo(a1:Dp):Int->Option (LR Int (Unit ⊕ Bool)):=
 fun(i4:Int)=>(bif (decide (i4<(a1.Args.length:Int))) then(A7 (A5 i4 a1.Args.length) ((Es (a1.Args.getD i4.toNat 0)).bind fun x6=>(bif (!x6) then(some (.done (.inr false))) else(some (.next (w64 (i4+1))))))) else(some (.done (.inl ()))))
def Zg(Γ:Ix)(a1:Dp)(r:Bool):Exit->St->Prop:=fK Tryz.prog Γ Tryz.f83.results.toList [] (.bool r) []
def Q190(x1:Bool)(x2:Int)(a1:Dp):=(bif (!x1) then true else(x2 !=(a1.Args.length:Int)))
def Fx(a1:Dp):Option Bool:=
 ((Hi a1.Bits a1.Lanes).bind fun x1=>((bif ((!x1)==false) then Ie a1 else some (0:Int)).bind fun x2=>((bif ((bif (!x1) then true else(x2 !=(a1.Args.length:Int)))==false) then Fe a1 else some false).bind fun x3=>(bif (bif (bif (!x1) then true else(x2 !=(a1.Args.length:Int))) then true else(!x3)) then(some false) else((Ag (Fo a1) (0:Int)).bind (fun x7=>(match x7 with|(.inl _)=>(bif (bif (a1.Kind==17) then true else(a1.Kind==19)) then(some (a1.Dst==0)) else((Es a1.Dst).bind fun x9=>(some x9)))|(.inr r10)=>(some r10))))))))
theorem Mm(a1:Dp)(r:Bool)(h:Fx a1=some r):Spec Tryz.prog 83 (Z66 a1) [] (.bool r) []:=by
 refine Ab mix Tryz.func83 (fun Γ hq=>?_);unfold Fx at h;refine Ae hq [1] [1] ?_;obtain⟨x1,hx1,h⟩:=bind_some h;obtain⟨x2,hx2,h⟩:=bind_some h;obtain⟨x3,hx3,h⟩:=bind_some h;refine gR hq [1,22] [1] [] [(Z2 x1),(Z19 x2),(Z2 x3)] (ci (U4 a1.Bits a1.Lanes x1 hx1) (ci (gI ((!x1)==false)) (ci (fun(hg:((!x1)==false)=true)=>(Wp a1 x2 (Bh hg hx2))) (ci (gI ((!x1)==false)) (ci (gI ((!x1)==false)) (ci (gI ((!x1)==false)) (ci (gI ((!x1)==false)) (ci (Ko (!x1)) (ci (gI ((Q190 x1 x2 a1)==false)) (ci (fun(hg:((Q190 x1 x2 a1)==false)=true)=>(Wq a1 x3 (Bh hg hx3))) (ci (gI ((Q190 x1 x2 a1)==false)) (c1 (Ko (Q190 x1 x2 a1)))))))))))))) ?_;refine gC h ?_ ?_<;>intro h
 ·refine Ae hq [2] [] ?_;obtain rfl:=OI h;exact Cu []
 ·refine Ae hq Kd [1] ?_;obtain⟨x7,hx7,h⟩:=bind_some h;refine gL hq hx7 Kd [1] (fun u i4=>(Ew u [(3,(Z7 i4))] [])) (fun u x_=>match x_ with|(.inl _)=>aG Γ (.exit 0) (Pa [1] [1] u [] [])|(.inr r_)=>aR (Zg Γ a1 r_)) ?_ ?_
  ·intro i4 y h;unfold Fo at h;refine Ae hq [1,3,27] [1] ?_;refine gC h ?_ ?_<;>intro h
   ·obtain⟨hc5,h⟩:=Aa h;obtain⟨x6,hx6,h⟩:=bind_some h;refine gR hq [1,3,36] [1] [] [(Z2 x6)] (ci hc5 (c1 (Lk (a1.Args.getD i4.toNat 0) x6 hx6))) ?_;refine gC h ?_ ?_<;>intro h
    ·refine Ae hq [2] [] ?_;cases h;exact gO (L8 (Kf [] (Le.refl _ _)))
    ·refine Ae hq Kd [1] ?_;cases h;exact gN C1
   ·cases h;exact gO (Bm (B7 [1] [1] hq))
  ·clear hx7;rcases x7 with _|r10
   ·refine gA ?_;refine gR hq [1,44] [1] [] [] (ci (gI ((a1.Kind==17)==false)) (ci (gI ((a1.Kind==17)==false)) (c1 (Ko (a1.Kind==17))))) ?_;refine gC h ?_ ?_<;>intro h
    ·refine Ae hq [2] [] ?_;cases h;exact Cu []
    ·obtain⟨x9,hx9,h⟩:=bind_some h;refine gR hq [2] [] [] [(Z2 x9)] (c1 (Lk a1.Dst x9 hx9)) ?_;obtain rfl:=OI h;exact Cu []
   ·refine Ol (fun st' hk=>?_);obtain rfl:=OI h;exact gK hk
def Ek(a0:TFunc):Int->Option (LR Int (Unit ⊕ Bool)):=
 fun(i1:Int)=>(bif (decide (i1<(a0.Params.length:Int))) then(A7 (A5 i1 a0.Params.length) ((Ch (a0.Params.getD i1.toNat 0)).bind fun x3=>(bif (!x3) then(some (.done (.inr false))) else(some (.next (w64 (i1+1))))))) else(some (.done (.inl ()))))
def Dm(a0:TFunc)(i6:Int):Int->Option (LR Int (Unit ⊕ Bool)):=
 fun(i7:Int)=>(A7 (A5 i6 a0.Blocks.length) (bif (decide (i7<(((a0.Blocks.getD i6.toNat default).Phis).length:Int))) then(A7 (A5 i6 a0.Blocks.length) (A7 (A5 i7 ((a0.Blocks.getD i6.toNat default).Phis).length) ((Ch ((((a0.Blocks.getD i6.toNat default).Phis).getD i7.toNat default).Bits)).bind fun x11=>(bif (!x11) then(some (.done (.inr false))) else(some (.next (w64 (i7+1)))))))) else(some (.done (.inl ())))))
def Dn(a0:TFunc)(a3:Int)(i6:Int):Int->Option (LR Int (Unit ⊕ Bool)):=
 fun(i14:Int)=>(A7 (A5 i6 a0.Blocks.length) (bif (decide (i14<(((a0.Blocks.getD i6.toNat default).Ops).length:Int))) then(A7 (A5 i6 a0.Blocks.length) (A7 (A5 i14 ((a0.Blocks.getD i6.toNat default).Ops).length) (Option.bind (α:=Int) (bif (a3==1) then(some (20:Int)) else(some (22:Int))) (fun x19=>(Option.bind (α:=Int) (bif (a3==0) then(some (17:Int)) else(some x19)) (fun x22=>((Fx (((a0.Blocks.getD i6.toNat default).Ops).getD i14.toNat default)).bind fun x24=>(bif (bif (bif (!x24) then true else(decide (x22<(((a0.Blocks.getD i6.toNat default).Ops).getD i14.toNat default).Kind))) then true else(bif (decide (a3<2)) then(decide (((1:Int):Int)<(((a0.Blocks.getD i6.toNat default).Ops).getD i14.toNat default).Lanes)) else false)) then(some (.done (.inr false))) else(some (.next (w64 (i14+1)))))))))))) else(some (.done (.inl ())))))
def El(a0:TFunc)(a3:Int):Int->Option (LR Int (Unit ⊕ Bool)):=
 fun(i6:Int)=>(bif (decide (i6<(a0.Blocks.length:Int))) then((Ag (Dm a0 i6) (0:Int)).bind (fun x12=>(match x12 with|(.inl _)=>((Ag (Dn a0 a3 i6) (0:Int)).bind (fun x25=>(match x25 with|(.inl _)=>(some (.next (w64 (i6+1))))|(.inr r27)=>(some (.done (.inr r27))))))|(.inr r28)=>(some (.done (.inr r28)))))) else(some (.done (.inl ()))))
def Jq(Γ:Ix)(a0:TFunc)(a3:Int)(r:Bool):Exit->St->Prop:=fK Tryz.prog Γ Tryz.f48.results.toList [] (.bool r) []
def Q191(a0:TFunc)(i6:Int)(i14:Int):=(((a0.Blocks.getD i6.toNat default).Ops).getD i14.toNat default)
def Q193(x24:Bool)(x22:Int)(a0:TFunc)(i6:Int)(i14:Int):=(bif (!x24) then true else(decide (x22<(Q191 a0 i6 i14).Kind)))
def Q192(a0:TFunc):List AV:=[(Z8 a0.Params),(Z7 a0.Ret),(Z16 a0.Blocks)]
def Q194(a0:TFunc)(i6:Int)(i14:Int):List (Nat×Own):=[(Nj 25 (Q192 a0)),(9,.row 57 [(.int .i64 (Q191 a0 i6 i14).Kind),(.int .i64 (Q191 a0 i6 i14).Bits),(.int .i64 (Q191 a0 i6 i14).Lanes),(.int .i64 (Q191 a0 i6 i14).Dst),(AV.list 1 As 0 (Q191 a0 i6 i14).Args .none),(.int .u64 (Q191 a0 i6 i14).Imm)])]
def Hm(a0:TFunc)(a3:Int):Option Bool:=
 ((Ag (Ek a0) (0:Int)).bind (fun x4=>(match x4 with|(.inl _)=>((Ag (El a0 a3) (0:Int)).bind (fun x29=>(match x29 with|(.inl _)=>((Ch a0.Ret).bind fun x31=>(some x31))|(.inr r32)=>(some r32))))|(.inr r33)=>(some r33))))
theorem Vb(a0:TFunc)(a3:Int)(r:Bool)(h:Hm a0 a3=some r):Spec Tryz.prog 48 [(Z44 a0),(Z7 a3)] [] (.bool r) []:=by
 refine Ab mix Tryz.func48 (fun Γ hq=>?_);unfold Hm at h;refine Ae hq Mu [2] ?_;refine Ae hq Aaj [2] ?_;obtain⟨x4,hx4,h⟩:=bind_some h;refine gL hq hx4 Aaj [2] (fun u i1=>(Ew u [(5,(Z7 i1))] [])) (fun u x_=>match x_ with|(.inl _)=>aG Γ (.exit 0) (Pa Mu [2] u [] [])|(.inr r_)=>aR (Jq Γ a0 a3 r_)) ?_ ?_
 ·intro i1 y h;unfold Ek at h;refine Ae hq [1,2,5,15] [2] ?_;refine gC h ?_ ?_<;>intro h
  ·obtain⟨hc2,h⟩:=Aa h;obtain⟨x3,hx3,h⟩:=bind_some h;refine gR hq [1,2,5,24] [2] [] [(Z2 x3)] (ci hc2 (c1 (Fg (a0.Params.getD i1.toNat 0) x3 hx3))) ?_;refine gC h ?_ ?_<;>intro h
   ·refine Ae hq [4] [] ?_;cases h;exact gO (L8 (Kf [] (Le.refl _ _)))
   ·refine Ae hq Aaj [2] ?_;cases h;exact gN C1
  ·cases h;exact gO (Bm (B7 Mu [2] hq))
 ·clear hx4;rcases x4 with _|r33
  ·refine gA ?_;refine Ae hq zzN125 [2] ?_;obtain⟨x29,hx29,h⟩:=bind_some h;refine gL hq hx29 zzN125 [2] (fun u i6=>(Ew u [(6,(Z7 i6))] [])) (fun u x_=>match x_ with|(.inl _)=>aG Γ (.exit 2) (Pa [2] [2] u [] [])|(.inr r_)=>aR (Jq Γ a0 a3 r_)) ?_ ?_
   ·intro i6 y h;unfold El at h;refine Ae hq [1,2,6,29] [2] ?_;refine gC h ?_ ?_<;>intro h
    ·refine Ae hq [1,2,6,7] [2] ?_;obtain⟨x12,hx12,h⟩:=bind_some h;refine gL hq hx12 [1,2,6,7] [2] (fun u i7=>(Ew u [(7,(Z7 i7))] [])) (fun u x_=>match x_ with|(.inl _)=>aG Γ (.exit 4) (Pa zzN125 [2] u [] [])|(.inr r_)=>aR (Jq Γ a0 a3 r_)) ?_ ?_
     ·intro i7 y h;unfold Dm at h;obtain⟨hc8,h⟩:=Aa h;refine gR hq [1,2,6,7,40] [2] [] [] (c1 hc8) ?_;refine gC h ?_ ?_<;>intro h
      ·obtain⟨hc9,h⟩:=Aa h;obtain⟨hc10,h⟩:=Aa h;obtain⟨x11,hx11,h⟩:=bind_some h;refine gR hq [1,2,6,7,54] [2] [] [(Z2 x11)] (ci hc9 (ci hc10 (c1 (Fg ((((a0.Blocks.getD i6.toNat default).Phis).getD i7.toNat default).Bits) x11 hx11)))) ?_;refine gC h ?_ ?_<;>intro h
       ·refine Ae hq [4] [] ?_;cases h;exact gO (L8 (Kf [] (Le.refl _ _)))
       ·refine Ae hq [1,2,6,7] [2] ?_;cases h;exact gN C1
      ·cases h;exact gO (Bm (B7 zzN125 [2] hq))
     ·clear hx12;rcases x12 with _|r28
      ·refine gA ?_;refine Ae hq [1,2,6,8] [2] ?_;obtain⟨x25,hx25,h⟩:=bind_some h;refine gL hq hx25 [1,2,6,8] [2] (fun u i14=>(Ew u [(8,(Z7 i14))] [])) (fun u x_=>match x_ with|(.inl _)=>aG Γ (.exit 6) (Pa zzN125 [2] u [] [])|(.inr r_)=>aR (Jq Γ a0 a3 r_)) ?_ ?_
       ·intro i14 y h;unfold Dn at h;obtain⟨hc15,h⟩:=Aa h;refine gR hq [1,2,6,8,63] [2] [] [] (c1 hc15) ?_;refine gC h ?_ ?_<;>intro h
        ·obtain⟨hc16,h⟩:=Aa h;obtain⟨hc17,h⟩:=Aa h;refine gR hq [1,2,6,8,9] [2,9] [] [] (ci hc16 (c1 hc17)) ?_;refine Ae hq zzN81 [2,9] ?_;obtain⟨x19,hx19,h⟩:=bind_some h;refine gJ hx19 (fun i18=>aG Γ .normal (⟨[(1,(Z7 a3)),Ra,(6,(Z7 i6)),(8,(Z7 i14)),(9,(.ptr 9 0)),(10,(Z7 i18))],(Q194 a0 i6 i14),[]⟩:St)) ?_ ?_
         ·clear h hx19;intro y h;refine Ae hq [1,2,6,8,9,10,76] [2,9] ?_;refine gC h ?_ ?_<;>intro h
          ·refine Ae hq zzN81 [2,9] ?_;cases h;exact gK (Bm C1)
          ·cases h;exact gK (Bm (B7 zzN81 [2,9] hq))
         ·clear hx19;refine gA ?_;obtain⟨x22,hx22,h⟩:=bind_some h;refine gJ hx22 (fun i21=>aG Γ .normal (⟨[(1,(Z7 a3)),Ra,(6,(Z7 i6)),(8,(Z7 i14)),(9,(.ptr 9 0)),(10,(Z7 i21))],(Q194 a0 i6 i14),[]⟩:St)) ?_ ?_
          ·clear h hx22;intro y h;refine Ae hq [1,2,6,8,9,10,78] [2,9] ?_;refine gC h ?_ ?_<;>intro h
           ·refine Ae hq zzN81 [2,9] ?_;cases h;exact gK (Bm C1)
           ·obtain rfl:=OI h;exact gK (Bm (B7 zzN81 [2,9] hq))
          ·clear hx22;refine gA ?_;obtain⟨x24,hx24,h⟩:=bind_some h;refine gR hq [1,2,6,8,96] [2] [] [(Z2 x24)] (ci (Mm (Q191 a0 i6 i14) x24 hx24) (ci (gI ((!x24)==false)) (ci (gI ((!x24)==false)) (ci (gI ((!x24)==false)) (ci (Ko (!x24)) (ci (gI ((Q193 x24 x22 a0 i6 i14)==false)) (ci (gI ((Q193 x24 x22 a0 i6 i14)==false)) (ci (gI (((Q193 x24 x22 a0 i6 i14)==false)&&((decide (a3<2))==true))) (ci (gI (((Q193 x24 x22 a0 i6 i14)==false)&&((decide (a3<2))==true))) (ci (gI ((Q193 x24 x22 a0 i6 i14)==false)) (ci (show(((Q193 x24 x22 a0 i6 i14)==false)=true->((decide (a3<2))=true->(((Q193 x24 x22 a0 i6 i14)==false)&&((decide (a3<2))==true))=true)) from(fun hg=>(aT hg))) (c1 (Ko (Q193 x24 x22 a0 i6 i14)))))))))))))) ?_;refine gC h ?_ ?_<;>intro h
           ·refine Ae hq [4] [] ?_;cases h;exact gO (L8 (Kf [] (Le.refl _ _)))
           ·refine Ae hq [1,2,6,8] [2] ?_;cases h;exact gN C1
        ·cases h;exact gO (Bm (B7 zzN125 [2] hq))
       ·clear hx25;rcases x25 with _|r27
        ·refine gA ?_;refine Ae hq zzN125 [2] ?_;cases h;exact gN C1
        ·refine Ol (fun st' hk=>?_);cases h;exact gO (L8 hk)
      ·refine Ol (fun st' hk=>?_);cases h;exact gO (L8 hk)
    ·cases h;exact gO (Bm (B7 [2] [2] hq))
   ·clear hx29;rcases x29 with _|r32
    ·refine gA ?_;obtain⟨x31,hx31,h⟩:=bind_some h;refine gR hq [4] [] [] [(Z2 x31)] (c1 (Fg a0.Ret x31 hx31)) ?_;obtain rfl:=OI h;exact Cu []
    ·refine Ol (fun st' hk=>?_);obtain rfl:=OI h;exact gK hk
  ·refine Ol (fun st' hk=>?_);obtain rfl:=OI h;exact gK hk
def F4(a1:Dp):Option (Int×Int):=
 ((Fx a1).bind fun x1=>(bif (bif (bif (!x1) then true else(a1.Kind==17)) then true else(a1.Kind==19)) then(some ((0:Int),(0:Int))) else(bif (bif (decide (((10:Int):Int)<=a1.Kind)) then(decide (a1.Kind<=12)) else false) then(some ((1:Int),(1:Int))) else(bif (a1.Kind==22) then(some (a1.Bits,(1:Int))) else(some (a1.Bits,a1.Lanes))))))
theorem U3(a1:Dp)(r:(Int×Int))(h:F4 a1=some r):Spec Tryz.prog 84 (Z66 a1) [] (.tuple [(Z7 r.1),(Z7 r.2)]) []:=by
 refine Ab mix Tryz.func84 (fun Γ hq=>?_);unfold F4 at h;refine Ae hq [1] [1] ?_;obtain⟨x1,hx1,h⟩:=bind_some h;refine gR hq [1,16] [1] [] [(Z2 x1)] (ci (Mm a1 x1 hx1) (ci (gI ((!x1)==false)) (ci (gI ((!x1)==false)) (ci (Ko (!x1)) (ci (gI ((bif (!x1) then true else(a1.Kind==17))==false)) (ci (gI ((bif (!x1) then true else(a1.Kind==17))==false)) (c1 (Ko (bif (!x1) then true else(a1.Kind==17)))))))))) ?_;refine gC h ?_ ?_<;>intro h
 ·refine Ae hq Fk [] ?_;cases h;exact Cu []
 ·refine gR hq [1,24] [1] [] [] (ci (gI ((decide (((10:Int):Int)<=a1.Kind))==true)) (ci (gI ((decide (((10:Int):Int)<=a1.Kind))==true)) (c1 (Nb (decide (((10:Int):Int)<=a1.Kind)))))) ?_;refine gC h ?_ ?_<;>intro h
  ·refine Ae hq Fk [] ?_;cases h;exact Cu []
  ·refine Ae hq [1,27] [1] ?_;refine gC h ?_ ?_<;>intro h
   ·refine Ae hq Fk [] ?_;cases h;exact Cu []
   ·refine Ae hq Fk [] ?_;cases h;exact Cu []
def Gs(a0:TFunc):(List Bv×Int)->Option (LR (List Bv×Int) (List Bv)):=
 fun((l1,i2):(List Bv×Int))=>(bif (decide (i2<(a0.Params.length:Int))) then(A7 (A5 i2 a0.Params.length) (A7 (l1.length+([(⟨(w64 (i2+1)),(-1:Int),(0:Int),((a0.Params.getD i2.toNat 0),(1:Int))⟩:Bv)]:List Bv).length<=room) (some (.next ((l1++([(⟨(w64 (i2+1)),(-1:Int),(0:Int),((a0.Params.getD i2.toNat 0),(1:Int))⟩:Bv)]:List Bv)),(w64 (i2+1))))))) else(some (.done l1)))
def E1(a0:TFunc)(i9:Int):(List Bv×Int)->Option (LR (List Bv×Int) (List Bv)):=
 fun((l12,i13):(List Bv×Int))=>(bif (decide (i13<(((a0.Blocks.getD i9.toNat default).Phis).length:Int))) then(A7 (A5 i13 ((a0.Blocks.getD i9.toNat default).Phis).length) (A7 (A5 i13 ((a0.Blocks.getD i9.toNat default).Phis).length) (A7 (l12.length+([(⟨(((a0.Blocks.getD i9.toNat default).Phis).getD i13.toNat default).Dst,i9,(-1:Int),((((a0.Blocks.getD i9.toNat default).Phis).getD i13.toNat default).Bits,(1:Int))⟩:Bv)]:List Bv).length<=room) (some (.next ((l12++([(⟨(((a0.Blocks.getD i9.toNat default).Phis).getD i13.toNat default).Dst,i9,(-1:Int),((((a0.Blocks.getD i9.toNat default).Phis).getD i13.toNat default).Bits,(1:Int))⟩:Bv)]:List Bv)),(w64 (i13+1)))))))) else(some (.done l12)))
def E2(a0:TFunc)(i9:Int):(List Bv×Int)->Option (LR (List Bv×Int) (List Bv)):=
 fun((l20,i21):(List Bv×Int))=>(bif (decide (i21<(((a0.Blocks.getD i9.toNat default).Ops).length:Int))) then(Option.bind (α:=List Bv) (A7 (A5 i21 ((a0.Blocks.getD i9.toNat default).Ops).length) ((F4 (((a0.Blocks.getD i9.toNat default).Ops).getD i21.toNat default)).bind fun x25=>(bif (decide (((0:Int):Int)<x25.1)) then(A7 (A5 i21 ((a0.Blocks.getD i9.toNat default).Ops).length) (A7 (l20.length+([(⟨(((a0.Blocks.getD i9.toNat default).Ops).getD i21.toNat default).Dst,i9,i21,(x25.1,x25.2)⟩:Bv)]:List Bv).length<=room) (some (l20++([(⟨(((a0.Blocks.getD i9.toNat default).Ops).getD i21.toNat default).Dst,i9,i21,(x25.1,x25.2)⟩:Bv)]:List Bv))))) else(some l20)))) (fun x28=>(some (.next (x28,(w64 (i21+1))))))) else(some (.done l20)))
def Gt(a0:TFunc):(List Bv×Int)->Option (LR (List Bv×Int) (List Bv)):=
 fun((l8,i9):(List Bv×Int))=>(bif (decide (i9<(a0.Blocks.length:Int))) then(A7 (A5 i9 a0.Blocks.length) ((Ag (E1 a0 i9) (l8,(0:Int))).bind (fun x18=>((Ag (E2 a0 i9) (x18,(0:Int))).bind (fun x30=>(some (.next (x30,(w64 (i9+1)))))))))) else(some (.done l8)))
def Q200(a0:TFunc)(i9:Int):=(a0.Blocks.getD i9.toNat default)
def Q198(a0:TFunc):List AV:=[(Z8 a0.Params),(Z7 a0.Ret),(Z16 a0.Blocks)]
def Q197(i2:Int)(a0:TFunc):=([(⟨(w64 (i2+1)),(-1:Int),(0:Int),((a0.Params.getD i2.toNat 0),(1:Int))⟩:Bv)]:List Bv)
def Q196(a0:TFunc)(i9:Int)(i21:Int)(x25:(Int×Int)):=([(⟨(((Q200 a0 i9).Ops).getD i21.toNat default).Dst,i9,i21,(x25.1,x25.2)⟩:Bv)]:List Bv)
def Q201(a0:TFunc):=(⟨[W9,(3,(AV.list 5 Oc default ([]:List Bv) (.own 5003))),(4,Qs)],[(1,.row 25 (Q198 a0)),(5003,.tok 5 90 (([]:List Bv).length))],[]⟩:St)
def Q195(a0:TFunc)(i9:Int)(i13:Int):=([(⟨(((Q200 a0 i9).Phis).getD i13.toNat default).Dst,i9,(-1:Int),((((Q200 a0 i9).Phis).getD i13.toNat default).Bits,(1:Int))⟩:Bv)]:List Bv)
def Ik(a0:TFunc):Option (List Bv):=
 ((Ag (Gs a0) (([]:List Bv),(0:Int))).bind (fun x6=>((Ag (Gt a0) (x6,(0:Int))).bind (fun x32=>(some x32)))))
theorem Wv(a0:TFunc)(r:List Bv)(h:Ik a0=some r):Spec Tryz.prog 49 [(Z44 a0)] [] (AV.list 5 Oc default r (.own 20000)) [(L7 20000 90 r.length)]:=by
 refine Ab mix Tryz.func49 (fun Γ hq=>?_);unfold Ik at h;refine gR hq [1] [1] [(2,(AV.list 5 Oc default ([]:List Bv) .exact))] [] (c1 (Do 5 Oc (default:Bv))) ?_;refine gR hq Kd [1] [(3,(AV.list 5 Oc default ([]:List Bv) .exact))] [] (c1 (Do 5 Oc (default:Bv))) ?_;refine Ae hq Ke [1] ?_;refine Oi (st':=(Q201 a0)) (Le.trans (B7 (st':=⟨[W9,(3,(AV.list 5 Oc default ([]:List Bv) .exact)),(4,Qs)],[(1,.row 25 (Q198 a0))],[]⟩) Ke [1] hq) (Le.trans (N4 (t:=3) (nm:=5003) (sz':=5) (fun i=>Oc (([]:List Bv).getD i default)) 90 rfl rfl (.inl ⟨rfl,rfl⟩) (fun h_=>absurd h_ (by decide))) (B7 (st':=(Q201 a0)) Ke L4 hq))) ?_;obtain⟨x6,hx6,h⟩:=bind_some h;refine gL hq hx6 Ke L4 (fun u (l1,i2)=>(Ew u [(Z36 l1),(4,(Z7 i2))] [(L7 5003 90 l1.length)])) (fun u l3=>aG Γ (.exit 0) (Pa Kd L4 u [(Z36 l3)] [(L7 5003 90 l3.length)])) ?_ ?_
 ·rintro⟨l1,i2⟩ y h;unfold Gs at h;refine Ae hq [1,3,4,15] L4 ?_;refine gC h ?_ ?_<;>intro h
  ·obtain⟨hc4,h⟩:=Aa h;obtain⟨hc5,h⟩:=Aa h;refine gR hq Ke L4 (Z46 28 (Q197 i2 a0) 29 l1) [] (ci hc4 (ci (Bu 5 Oc (default:Bv) (Q197 i2 a0)) (ci (Eq.refl l1.length) (ci hc5 (ci (Jr 5 5003 Oc (default:Bv) l1 (Q197 i2 a0)) (c1 (Fz l1 (Q197 i2 a0)))))))) ?_;refine Ae hq Ke L4 ?_;cases h;exact gN C1
  ·cases h;exact gO (Bm (B7 Kd L4 hq))
 ·clear hx6;refine gA ?_;refine Ae hq zzN123 L4 ?_;obtain⟨x32,hx32,h⟩:=bind_some h;refine gL hq hx32 zzN123 L4 (fun u (l8,i9)=>(Ew u [(Z36 l8),(5,(Z7 i9))] [(L7 5003 90 l8.length)])) (fun u l10=>aG Γ (.exit 2) (⟨[(Z36 l10)],[(L7 5003 90 l10.length)],[]⟩:St)) ?_ ?_
  ·rintro⟨l8,i9⟩ y h;unfold Gt at h;refine Ae hq [1,3,5,34] L4 ?_;refine gC h ?_ ?_<;>intro h
   ·obtain⟨hc11,h⟩:=Aa h;refine gR hq zzN69 Qq [] [] (c1 hc11) ?_;refine Ae hq zzN103 Qq ?_;obtain⟨x18,hx18,h⟩:=bind_some h;refine gL hq hx18 zzN103 Qq (fun u (l12,i13)=>(Ew u [(Z36 l12),(7,(Z7 i13))] [(L7 5003 90 l12.length)])) (fun u l14=>aG Γ (.exit 4) (Pa zzN69 Qq u [(Z36 l14)] [(L7 5003 90 l14.length)])) ?_ ?_
    ·rintro⟨l12,i13⟩ y h;unfold E1 at h;refine Ae hq [1,3,5,6,7,46] Qq ?_;refine gC h ?_ ?_<;>intro h
     ·obtain⟨hc15,h⟩:=Aa h;obtain⟨hc16,h⟩:=Aa h;obtain⟨hc17,h⟩:=Aa h;refine gR hq zzN103 Qq (Z46 65 (Q195 a0 i9 i13) 66 l12) [] (ci hc15 (ci hc16 (ci (Bu 5 Oc (default:Bv) (Q195 a0 i9 i13)) (ci (Eq.refl l12.length) (ci hc17 (ci (Jr 5 5003 Oc (default:Bv) l12 (Q195 a0 i9 i13)) (c1 (Fz l12 (Q195 a0 i9 i13))))))))) ?_;refine Ae hq zzN103 Qq ?_;cases h;exact gN C1
     ·cases h;exact gO (Bm (B7 zzN69 Qq hq))
    ·clear hx18;refine gA ?_;refine Ae hq zzN104 Qq ?_;obtain⟨x30,hx30,h⟩:=bind_some h;refine gL hq hx30 zzN104 Qq (fun u (l20,i21)=>(Ew u [(Z36 l20),(8,(Z7 i21))] [(L7 5003 90 l20.length)])) (fun u l22=>aG Γ (.exit 6) (Pa zzN123 L4 u [(Z36 l22)] [(L7 5003 90 l22.length)])) ?_ ?_
     ·rintro⟨l20,i21⟩ y h;unfold E2 at h;refine Ae hq [1,3,5,6,8,71] Qq ?_;refine gC h ?_ ?_<;>intro h
      ·obtain⟨x28,hx28,h⟩:=bind_some h;refine gJ hx28 (fun l23=>aG Γ .normal (⟨[W9,(Z36 l23),(5,(Z7 i9)),(6,(.ptr 6 0)),(8,(Z7 i21))],[(1,.row 25 (Q198 a0)),(6,.row 53 [(AV.list 4 Xe default (Q200 a0 i9).Phis .none),(AV.list 6 P1 default (Q200 a0 i9).Ops .none),(.int .i64 (Q200 a0 i9).End.Kind),(.int .i64 (Q200 a0 i9).End.Arg),(AV.list 1 As 0 (Q200 a0 i9).End.To .none)]),(L7 5003 90 l23.length)],[]⟩:St)) ?_ ?_
       ·clear h hx28;intro y h;obtain⟨hc24,h⟩:=Aa h;obtain⟨x25,hx25,h⟩:=bind_some h;refine gR hq [1,3,5,6,8,9,10] Qq [] [(Z76 x25.1 x25.2)] (ci hc24 (c1 (U3 (((Q200 a0 i9).Ops).getD i21.toNat default) x25 hx25))) ?_;refine Ae hq [1,3,5,6,8,9,10,84] Qq ?_;refine gC h ?_ ?_<;>intro h
        ·obtain⟨hc26,h⟩:=Aa h;obtain⟨hc27,h⟩:=Aa h;refine gR hq zzN104 Qq (Z46 98 (Q196 a0 i9 i21 x25) 99 l20) [] (ci hc26 (ci (Bu 5 Oc (default:Bv) (Q196 a0 i9 i21 x25)) (ci (Eq.refl l20.length) (ci hc27 (ci (Jr 5 5003 Oc (default:Bv) l20 (Q196 a0 i9 i21 x25)) (c1 (Fz l20 (Q196 a0 i9 i21 x25)))))))) ?_;cases h;exact gK (Bm C1)
        ·obtain rfl:=OI h;exact gK (Bm (B7 zzN104 Qq hq))
       ·clear hx28;refine gA ?_;refine Ae hq zzN104 Qq ?_;cases h;exact gN C1
      ·cases h;exact gO (Bm (B7 zzN123 L4 hq))
     ·clear hx30;refine gA ?_;refine Ae hq zzN123 L4 ?_;cases h;exact gN C1
   ·cases h;exact gO (Bm (B7 [3] [5003] hq))
  ·clear hx32;refine gA ?_;refine Ae hq [2] [5003] ?_;obtain rfl:=OI h;exact Cu zzN167
def E3(aS:List Bv)(aC:Int):Int->Option (LR Int (Unit ⊕ Int)):=
 fun(i1:Int)=>(bif (decide (i1<(aS.length:Int))) then(A7 (A5 i1 aS.length) (bif (((aS.getD i1.toNat default).V:Int)==aC) then(some (.done (.inr i1))) else(some (.next (w64 (i1+1)))))) else(some (.done (.inl ()))))
def W8(Γ:Ix)(aS:List Bv)(aC:Int)(r:Int):Exit->St->Prop:=fK Tryz.prog Γ Tryz.f51.results.toList [] (.int .i64 r) []
def D8(aS:List Bv)(aC:Int):Option Int:=
 ((Ag (E3 aS aC) (0:Int)).bind (fun x3=>(match x3 with|(.inl _)=>(some (-1:Int))|(.inr r5)=>(some r5))))
theorem Js(aS:List Bv)(aC:Int)(r:Int)(h:D8 aS aC=some r):Spec Tryz.prog 51 [(AV.list 5 Oc default aS .none),(Z7 aC)] [] (.int .i64 r) []:=by
 refine Ab mix Tryz.func51 (fun Γ hq=>?_);unfold D8 at h;refine Ae hq Jo [] ?_;refine Ae hq Og [] ?_;obtain⟨x3,hx3,h⟩:=bind_some h;refine gL hq hx3 Og [] (fun u i1=>(Ew u [(5,(Z7 i1))] [])) (fun u x_=>match x_ with|(.inl _)=>aG Γ (.exit 0) (⟨[],[],[]⟩:St)|(.inr r_)=>aR (W8 Γ aS aC r_)) ?_ ?_
 ·intro i1 y h;unfold E3 at h;refine Ae hq [0,1,5,9] [] ?_;refine gC h ?_ ?_<;>intro h
  ·obtain⟨hc2,h⟩:=Aa h;refine gR hq [0,1,5,18] [] [] [] (c1 hc2) ?_;refine gC h ?_ ?_<;>intro h
   ·refine Ae hq [4] [] ?_;cases h;exact gO (L8 (Kf [] (Le.refl _ _)))
   ·refine Ae hq Og [] ?_;cases h;exact gN C1
  ·cases h;exact gO (Bm (B7 [] [] hq))
 ·clear hx3;rcases x3 with _|r5
  ·refine gA ?_;refine Ae hq [4] [] ?_;cases h;exact Cu []
  ·refine Ol (fun st' hk=>?_);obtain rfl:=OI h;exact gK hk
def F7(a1:Dp):(List (Int×Int)×Int)->Option (LR (List (Int×Int)×Int) (List (Int×Int))):=
 fun((l2,i3):(List (Int×Int)×Int))=>(bif (decide (i3<(a1.Args.length:Int))) then(Option.bind (α:=(Int×Int)) (Option.bind (α:=Bool) (bif (a1.Kind==13) then(some (a1.Kind==13)) else(some (a1.Kind==20))) (fun x8=>(bif x8 then(bif (i3==0) then(some ((1:Int),(1:Int))) else(some (a1.Bits,a1.Lanes))) else(Option.bind (α:=Bool) (bif (a1.Kind==14) then(some (a1.Kind==14)) else(some (a1.Kind==15))) (fun x11=>(bif x11 then(some ((w64 a1.Imm),(1:Int))) else(Option.bind (α:=Bool) (bif (a1.Kind==16) then(some (a1.Kind==16)) else(some (a1.Kind==17))) (fun x14=>(bif x14 then(bif (i3==0) then(some ((64:Int),(1:Int))) else(some (a1.Bits,a1.Lanes))) else(Option.bind (α:=Bool) (bif (a1.Kind==18) then(some (a1.Kind==18)) else(some (a1.Kind==19))) (fun x17=>(bif x17 then(Option.bind (α:=(Int×Int)) (bif (i3==0) then(some ((1:Int),(1:Int))) else(some (a1.Bits,a1.Lanes))) (fun x21=>(match x21 with|(i19,i20)=>(bif (i3==1) then(some ((64:Int),(1:Int))) else(some (i19,i20)))))) else(bif (a1.Kind==21) then(some (a1.Bits,(1:Int))) else(some (a1.Bits,a1.Lanes))))))))))))))) (fun x23=>(match x23 with|(i5,i6)=>(A7 (l2.length+([(i5,i6)]:List (Int×Int)).length<=room) (some (.next ((l2++([(i5,i6)]:List (Int×Int))),(w64 (i3+1))))))))) else(some (.done l2)))
def Q206(a1:Dp):List AV:=[(Z7 a1.Bits),(Z7 a1.Lanes)]
def Q204(l2:List ((Int×Int))):AV:=(Z38 l2 5003)
def Q203:AV:=Z33
def Q202(a1:Dp):List AV:=[(Z7 a1.Kind),(Z7 a1.Bits),(Z7 a1.Lanes),(Z7 a1.Dst),(Z8 a1.Args),(.int .u64 a1.Imm)]
def Q207(a1:Dp)(l2:List ((Int×Int))):List (Nat×Own):=[(1,.row 57 (Q202 a1)),(5,.row 88 (Q206 a1)),(5003,.tok 2 88 l2.length)]
def Q205:List (Nat×AV):=[W9,(3,(AV.list 2 Bn ((0:Int),(0:Int)) ([]:List (Int×Int)) (.own 5003))),(4,Qs)]
def F5(a1:Dp):Option (List (Int×Int)):=
 ((Fx a1).bind fun x1=>(bif (!x1) then(some ([]:List (Int×Int))) else((Ag (F7 a1) (([]:List (Int×Int)),(0:Int))).bind (fun x26=>(some x26)))))
theorem U5(a1:Dp)(r:List ((Int×Int)))(h:F5 a1=some r):Spec Tryz.prog 85 (Z66 a1) [] (Z38 r 20000) [(20000,.tok 2 88 r.length)]:=by
 refine Ab mix Tryz.func85 (fun Γ hq=>?_);unfold F5 at h;refine gR hq [1] [1] [(2,Q203)] [] (c1 (Do 2 Bn ((0:Int),(0:Int)))) ?_;refine gR hq Kd [1] [(3,Q203)] [] (c1 (Do 2 Bn ((0:Int),(0:Int)))) ?_;obtain⟨x1,hx1,h⟩:=bind_some h;refine gR hq [1,3,8] [1] [] [(Z2 x1)] (c1 (Mm a1 x1 hx1)) ?_;refine gC h ?_ ?_<;>intro h
 ·refine gR hq [2] [] [(2,Q203)] [] (c1 (Do 2 Bn ((0:Int),(0:Int)))) ?_;refine Qk (⟨[(2,Q203)],[],[]⟩:St) ?_;cases h;exact gK (e:=.ret) (Kf [(6002,20000)] (show Le Γ _ (Z60:St) from Le.trans (B7 (st':=⟨[(2,Q203)],[],[]⟩) [2] [] hq) (Le.trans (N4 (t:=2) (nm:=6002) (sz':=2) (fun i=>Bn (([]:List (Int×Int)).getD i ((0:Int),(0:Int)))) 88 rfl rfl (.inl ⟨rfl,rfl⟩) (fun h_=>absurd h_ (by decide))) (B7 (st':=Z60) [2] [6002] hq))))
 ·refine Ae hq Ke [1] ?_;refine Oi (st':=⟨Q205,[(1,.row 57 (Q202 a1)),(5003,.tok 2 88 (([]:List (Int×Int)).length))],[]⟩) (Le.trans (B7 (st':=⟨[W9,(3,Q203),(4,Qs)],[(1,.row 57 (Q202 a1))],[]⟩) Ke [1] hq) (Le.trans (N4 (t:=3) (nm:=5003) (sz':=2) (fun i=>Bn (([]:List (Int×Int)).getD i ((0:Int),(0:Int)))) 88 rfl rfl (.inl ⟨rfl,rfl⟩) (fun h_=>absurd h_ (by decide))) (B7 (st':=⟨Q205,[(1,.row 57 (Q202 a1)),(5003,.tok 2 88 (([]:List (Int×Int)).length))],[]⟩) Ke L4 hq))) ?_;obtain⟨x26,hx26,h⟩:=bind_some h;refine gL hq hx26 Ke L4 (fun u (l2,i3)=>(Ew u [(3,(Q204 l2)),(4,(Z7 i3))] [(5003,.tok 2 88 l2.length)])) (fun u l4=>aG Γ (.exit 0) (⟨[(3,(Z38 l4 5003))],[(5003,.tok 2 88 l4.length)],[]⟩:St)) ?_ ?_
  ·rintro⟨l2,i3⟩ y h;unfold F7 at h;refine Ae hq [1,3,4,13] L4 ?_;refine gC h ?_ ?_<;>intro h
   ·refine Ae hq Lc Jp ?_;obtain⟨x23,hx23,h⟩:=bind_some h;refine gJ hx23 (fun(i5,i6)=>aG Γ .normal (⟨[W9,(3,(Q204 l2)),(4,(Z7 i3)),Z78],[(1,.row 57 (Q202 a1)),(5,.row 88 [(Z7 i5),(Z7 i6)]),(5003,.tok 2 88 l2.length)],[]⟩:St)) ?_ ?_
    ·clear h hx23;intro y h;refine Ae hq [1,3,4,5,22] Jp ?_;obtain⟨x8,hx8,h⟩:=bind_some h;refine gJ hx8 (fun b7=>aG Γ .normal (⟨[W9,(3,(Q204 l2)),(4,(Z7 i3)),Z78,(22,(Z7 a1.Kind)),(23,(.bool b7))],(Q207 a1 l2),[]⟩:St)) ?_ ?_
     ·clear h hx8;intro y h;refine Ae hq [1,3,4,5,22,23] Jp ?_;refine gC h ?_ ?_<;>intro h
      ·cases h;exact gK (Bm C1)
      ·refine Ae hq [1,3,4,5,22,23] Jp ?_;cases h;exact gK (Bm C1)
     ·clear hx8;refine gA ?_;refine gC h ?_ ?_<;>intro h
      ·refine Ae hq [1,3,4,5,27] Jp ?_;refine gC h ?_ ?_<;>intro h
       ·refine Ae hq Lc Jp ?_;cases h;exact gK (Bm C1)
       ·cases h;exact gK (Bm (B7 Lc Jp hq))
      ·obtain⟨x11,hx11,h⟩:=bind_some h;refine gJ hx11 (fun b10=>aG Γ .normal (⟨[W9,(3,(Q204 l2)),(4,(Z7 i3)),Z78,(22,(Z7 a1.Kind)),(29,(.bool b10))],(Q207 a1 l2),[]⟩:St)) ?_ ?_
       ·clear h hx11;intro y h;refine Ae hq [1,3,4,5,22,29] Jp ?_;refine gC h ?_ ?_<;>intro h
        ·cases h;exact gK (Bm C1)
        ·refine Ae hq [1,3,4,5,22,29] Jp ?_;cases h;exact gK (Bm C1)
       ·clear hx11;refine gA ?_;refine gC h ?_ ?_<;>intro h
        ·refine Ae hq Lc Jp ?_;cases h;exact gK (Bm C1)
        ·obtain⟨x14,hx14,h⟩:=bind_some h;refine gJ hx14 (fun b13=>aG Γ .normal (⟨[W9,(3,(Q204 l2)),(4,(Z7 i3)),Z78,(22,(Z7 a1.Kind)),(36,(.bool b13))],(Q207 a1 l2),[]⟩:St)) ?_ ?_
         ·clear h hx14;intro y h;refine Ae hq [1,3,4,5,22,36] Jp ?_;refine gC h ?_ ?_<;>intro h
          ·cases h;exact gK (Bm C1)
          ·refine Ae hq [1,3,4,5,22,36] Jp ?_;cases h;exact gK (Bm C1)
         ·clear hx14;refine gA ?_;refine gC h ?_ ?_<;>intro h
          ·refine Ae hq [1,3,4,5,40] Jp ?_;refine gC h ?_ ?_<;>intro h
           ·refine Ae hq Lc Jp ?_;cases h;exact gK (Bm C1)
           ·cases h;exact gK (Bm (B7 Lc Jp hq))
          ·obtain⟨x17,hx17,h⟩:=bind_some h;refine gJ hx17 (fun b16=>aG Γ .normal (⟨[W9,(3,(Q204 l2)),(4,(Z7 i3)),Z78,(22,(Z7 a1.Kind)),(42,(.bool b16))],(Q207 a1 l2),[]⟩:St)) ?_ ?_
           ·clear h hx17;intro y h;refine Ae hq [1,3,4,5,22,42] Jp ?_;refine gC h ?_ ?_<;>intro h
            ·cases h;exact gK (Bm C1)
            ·refine Ae hq [1,3,4,5,22,42] Jp ?_;cases h;exact gK (Bm C1)
           ·clear hx17;refine gA ?_;refine gC h ?_ ?_<;>intro h
            ·obtain⟨x21,hx21,h⟩:=bind_some h;refine gJ hx21 (fun(i19,i20)=>aG Γ .normal (⟨[W9,(3,(Q204 l2)),(4,(Z7 i3)),Z78],[(1,.row 57 (Q202 a1)),(5,.row 88 [(Z7 i19),(Z7 i20)]),(5003,.tok 2 88 l2.length)],[]⟩:St)) ?_ ?_
             ·clear h hx21;intro y h;refine Ae hq [1,3,4,5,46] Jp ?_;refine gC h ?_ ?_<;>intro h
              ·refine Ae hq Lc Jp ?_;cases h;exact gK (Bm C1)
              ·cases h;exact gK (Bm (B7 Lc Jp hq))
             ·clear hx21;rcases x21 with⟨i19,i20⟩;refine gA ?_;refine Ae hq [1,3,4,5,49] Jp ?_;refine gC h ?_ ?_<;>intro h
              ·refine Ae hq Lc Jp ?_;cases h;exact gK (Bm C1)
              ·cases h;exact gK (Bm (B7 Lc Jp hq))
            ·refine Ae hq [1,3,4,5,51] Jp ?_;refine gC h ?_ ?_<;>intro h
             ·refine Ae hq Lc Jp ?_;cases h;exact gK (Bm C1)
             ·cases h;exact gK (Bm (B7 Lc Jp hq))
    ·clear hx23;rcases x23 with⟨i5,i6⟩;refine gA ?_;obtain⟨hc25,h⟩:=Aa h;refine gR hq Ke L4 [(58,(AV.list 2 Bn ((0:Int),(0:Int)) ([(i5,i6)]:List (Int×Int)) .exact)),(59,(AV.list 2 Bn ((0:Int),(0:Int)) (l2++([(i5,i6)]:List (Int×Int))) (.own 5003)))] [] (ci (Bu 2 Bn ((0:Int),(0:Int)) ([(i5,i6)]:List (Int×Int))) (ci (Eq.refl l2.length) (ci hc25 (ci (Jr 2 5003 Bn ((0:Int),(0:Int)) l2 ([(i5,i6)]:List (Int×Int))) (c1 (Fz l2 ([(i5,i6)]:List (Int×Int)))))))) ?_;refine Ae hq Ke L4 ?_;cases h;exact gN C1
   ·cases h;exact gO (Bm (B7 [3] [5003] hq))
  ·clear hx26;refine gA ?_;refine Ae hq [2] [5003] ?_;obtain rfl:=OI h;exact Cu zzN167
def E4(a0:TFunc)(i2:Int)(i7:Int):(List Ck×Int)->Option (LR (List Ck×Int) (List Ck)):=
 fun((l10,i11):(List Ck×Int))=>(bif (decide (i11<(((((a0.Blocks.getD i2.toNat default).Phis).getD i7.toNat default).Args).length:Int))) then(A7 (A5 i11 ((((a0.Blocks.getD i2.toNat default).Phis).getD i7.toNat default).Args).length) (A7 (A5 i11 ((((a0.Blocks.getD i2.toNat default).Phis).getD i7.toNat default).From).length) (A7 (l10.length+([(⟨(((((a0.Blocks.getD i2.toNat default).Phis).getD i7.toNat default).Args).getD i11.toNat 0),(((((a0.Blocks.getD i2.toNat default).Phis).getD i7.toNat default).From).getD i11.toNat 0),(1000:Int),((((a0.Blocks.getD i2.toNat default).Phis).getD i7.toNat default).Bits,(1:Int))⟩:Ck)]:List Ck).length<=room) (some (.next ((l10++([(⟨(((((a0.Blocks.getD i2.toNat default).Phis).getD i7.toNat default).Args).getD i11.toNat 0),(((((a0.Blocks.getD i2.toNat default).Phis).getD i7.toNat default).From).getD i11.toNat 0),(1000:Int),((((a0.Blocks.getD i2.toNat default).Phis).getD i7.toNat default).Bits,(1:Int))⟩:Ck)]:List Ck)),(w64 (i11+1)))))))) else(some (.done l10)))
def E5(a0:TFunc)(i2:Int):(List Ck×Int)->Option (LR (List Ck×Int) (List Ck)):=
 fun((l6,i7):(List Ck×Int))=>(bif (decide (i7<(((a0.Blocks.getD i2.toNat default).Phis).length:Int))) then(A7 (A5 i7 ((a0.Blocks.getD i2.toNat default).Phis).length) ((Ag (E4 a0 i2 i7) (l6,(0:Int))).bind (fun x16=>(some (.next (x16,(w64 (i7+1)))))))) else(some (.done l6)))
def E6(a0:TFunc)(i2:Int)(i21:Int)(x24:List ((Int×Int))):(List Ck×Int)->Option (LR (List Ck×Int) (List Ck)):=
 fun((l25,i26):(List Ck×Int))=>(bif (decide (i26<(x24.length:Int))) then(A7 (A5 i21 ((a0.Blocks.getD i2.toNat default).Ops).length) (A7 (A5 i26 ((((a0.Blocks.getD i2.toNat default).Ops).getD i21.toNat default).Args).length) (A7 (A5 i26 x24.length) (A7 (l25.length+([(⟨(((((a0.Blocks.getD i2.toNat default).Ops).getD i21.toNat default).Args).getD i26.toNat 0),i2,i21,(x24.getD i26.toNat ((0:Int),(0:Int)))⟩:Ck)]:List Ck).length<=room) (some (.next ((l25++([(⟨(((((a0.Blocks.getD i2.toNat default).Ops).getD i21.toNat default).Args).getD i26.toNat 0),i2,i21,(x24.getD i26.toNat ((0:Int),(0:Int)))⟩:Ck)]:List Ck)),(w64 (i26+1))))))))) else(some (.done l25)))
def E7(a0:TFunc)(i2:Int):(List Ck×Int)->Option (LR (List Ck×Int) (List Ck)):=
 fun((l20,i21):(List Ck×Int))=>(bif (decide (i21<(((a0.Blocks.getD i2.toNat default).Ops).length:Int))) then(A7 (A5 i21 ((a0.Blocks.getD i2.toNat default).Ops).length) ((F5 (((a0.Blocks.getD i2.toNat default).Ops).getD i21.toNat default)).bind fun x24=>((Ag (E6 a0 i2 i21 x24) (l20,(0:Int))).bind (fun x32=>(some (.next (x32,(w64 (i21+1))))))))) else(some (.done l20)))
def Gu(a0:TFunc):(List Ck×Int)->Option (LR (List Ck×Int) (List Ck)):=
 fun((l1,i2):(List Ck×Int))=>(bif (decide (i2<(a0.Blocks.length:Int))) then(Option.bind (α:=List Ck) (A7 (A5 i2 a0.Blocks.length) ((Ag (E5 a0 i2) (l1,(0:Int))).bind (fun x18=>((Ag (E7 a0 i2) (x18,(0:Int))).bind (fun x34=>(Option.bind (α:=List Ck) (bif (((a0.Blocks.getD i2.toNat default).End.Kind:Int)==0) then(A7 (x34.length+([(⟨(a0.Blocks.getD i2.toNat default).End.Arg,i2,(1000:Int),(a0.Ret,(1:Int))⟩:Ck)]:List Ck).length<=room) (some (x34++([(⟨(a0.Blocks.getD i2.toNat default).End.Arg,i2,(1000:Int),(a0.Ret,(1:Int))⟩:Ck)]:List Ck)))) else(some x34)) (fun x38=>(bif (((a0.Blocks.getD i2.toNat default).End.Kind:Int)==2) then(A7 (x38.length+([(⟨(a0.Blocks.getD i2.toNat default).End.Arg,i2,(1000:Int),((1:Int),(1:Int))⟩:Ck)]:List Ck).length<=room) (some (x38++([(⟨(a0.Blocks.getD i2.toNat default).End.Arg,i2,(1000:Int),((1:Int),(1:Int))⟩:Ck)]:List Ck)))) else(some x38))))))))) (fun x41=>(some (.next (x41,(w64 (i2+1))))))) else(some (.done l1)))
def Q214(a0:TFunc)(i2:Int):=(a0.Blocks.getD i2.toNat default)
def Q212(a0:TFunc):List AV:=[(Z8 a0.Params),(Z7 a0.Ret),(Z16 a0.Blocks)]
def Q211(a0:TFunc)(i2:Int):=([(⟨(Q214 a0 i2).End.Arg,i2,(1000:Int),(a0.Ret,(1:Int))⟩:Ck)]:List Ck)
def Q210(a0:TFunc)(i2:Int):=([(⟨(Q214 a0 i2).End.Arg,i2,(1000:Int),((1:Int),(1:Int))⟩:Ck)]:List Ck)
def Q215(a0:TFunc):=(⟨[W9,(3,(AV.list 5 Nm default ([]:List Ck) (.own 5003))),(4,Qs)],[(1,.row 25 (Q212 a0)),(5003,.tok 5 94 (([]:List Ck).length))],[]⟩:St)
def Q209(a0:TFunc)(i2:Int)(i21:Int)(i26:Int)(x24:List ((Int×Int))):=([(⟨(((((Q214 a0 i2).Ops).getD i21.toNat default).Args).getD i26.toNat 0),i2,i21,(x24.getD i26.toNat ((0:Int),(0:Int)))⟩:Ck)]:List Ck)
def Q208(a0:TFunc)(i2:Int)(i7:Int)(i11:Int):=([(⟨(((((Q214 a0 i2).Phis).getD i7.toNat default).Args).getD i11.toNat 0),(((((Q214 a0 i2).Phis).getD i7.toNat default).From).getD i11.toNat 0),(1000:Int),((((Q214 a0 i2).Phis).getD i7.toNat default).Bits,(1:Int))⟩:Ck)]:List Ck)
def Il(a0:TFunc):Option (List Ck):=
 ((Ag (Gu a0) (([]:List Ck),(0:Int))).bind (fun x43=>(some x43)))
theorem Ww(a0:TFunc)(r:List Ck)(h:Il a0=some r):Spec Tryz.prog 52 [(Z44 a0)] [] (AV.list 5 Nm default r (.own 20000)) [(L7 20000 94 r.length)]:=by
 refine Ab mix Tryz.func52 (fun Γ hq=>?_);unfold Il at h;refine gR hq [1] [1] [(2,(AV.list 5 Nm default ([]:List Ck) .exact))] [] (c1 (Do 5 Nm (default:Ck))) ?_;refine gR hq Kd [1] [(3,(AV.list 5 Nm default ([]:List Ck) .exact))] [] (c1 (Do 5 Nm (default:Ck))) ?_;refine Ae hq Ke [1] ?_;refine Oi (st':=(Q215 a0)) (Le.trans (B7 (st':=⟨[W9,(3,(AV.list 5 Nm default ([]:List Ck) .exact)),(4,Qs)],[(1,.row 25 (Q212 a0))],[]⟩) Ke [1] hq) (Le.trans (N4 (t:=3) (nm:=5003) (sz':=5) (fun i=>Nm (([]:List Ck).getD i default)) 94 rfl rfl (.inl ⟨rfl,rfl⟩) (fun h_=>absurd h_ (by decide))) (B7 (st':=(Q215 a0)) Ke L4 hq))) ?_;obtain⟨x43,hx43,h⟩:=bind_some h;refine gL hq hx43 Ke L4 (fun u (l1,i2)=>(Ew u [(Z18 l1),(4,(Z7 i2))] [(L7 5003 94 l1.length)])) (fun u l3=>aG Γ (.exit 0) (⟨[(Z18 l3)],[(L7 5003 94 l3.length)],[]⟩:St)) ?_ ?_
 ·rintro⟨l1,i2⟩ y h;unfold Gu at h;refine Ae hq [1,3,4,16] L4 ?_;refine gC h ?_ ?_<;>intro h
  ·obtain⟨x41,hx41,h⟩:=bind_some h;refine gJ hx41 (fun l4=>aG Γ .normal (⟨[W9,(Z18 l4),(4,(Z7 i2))],[(1,.row 25 (Q212 a0)),(L7 5003 94 l4.length)],[]⟩:St)) ?_ ?_
   ·clear h hx41;intro y h;obtain⟨hc5,h⟩:=Aa h;refine gR hq Lc Jp [] [] (c1 hc5) ?_;refine Ae hq Qf Jp ?_;obtain⟨x18,hx18,h⟩:=bind_some h;refine gL hq hx18 Qf Jp (fun u (l6,i7)=>(Ew u [(Z18 l6),(6,(Z7 i7))] [(L7 5003 94 l6.length)])) (fun u l8=>aG Γ (.exit 2) (Pa Lc Jp u [(Z18 l8)] [(L7 5003 94 l8.length)])) ?_ ?_
    ·rintro⟨l6,i7⟩ y h;unfold E5 at h;refine Ae hq [1,3,4,5,6,28] Jp ?_;refine gC h ?_ ?_<;>intro h
     ·obtain⟨hc9,h⟩:=Aa h;refine gR hq [1,3,4,5,6,7] zzN89 [] [] (c1 hc9) ?_;refine Ae hq zzN95 zzN89 ?_;obtain⟨x16,hx16,h⟩:=bind_some h;refine gL hq hx16 zzN95 zzN89 (fun u (l10,i11)=>(Ew u [(Z18 l10),(8,(Z7 i11))] [(L7 5003 94 l10.length)])) (fun u l12=>aG Γ (.exit 4) (Pa Qf Jp u [(Z18 l12)] [(L7 5003 94 l12.length)])) ?_ ?_
      ·rintro⟨l10,i11⟩ y h;unfold E4 at h;refine Ae hq [1,3,4,5,6,7,8,40] zzN89 ?_;refine gC h ?_ ?_<;>intro h
       ·obtain⟨hc13,h⟩:=Aa h;obtain⟨hc14,h⟩:=Aa h;obtain⟨hc15,h⟩:=Aa h;refine gR hq zzN95 zzN89 (Z28 58 (Q208 a0 i2 i7 i11) 59 l10) [] (ci hc13 (ci hc14 (ci (Bu 5 Nm (default:Ck) (Q208 a0 i2 i7 i11)) (ci (Eq.refl l10.length) (ci hc15 (ci (Jr 5 5003 Nm (default:Ck) l10 (Q208 a0 i2 i7 i11)) (c1 (Fz l10 (Q208 a0 i2 i7 i11))))))))) ?_;refine Ae hq zzN95 zzN89 ?_;cases h;exact gN C1
       ·cases h;exact gO (Bm (B7 Qf Jp hq))
      ·clear hx16;refine gA ?_;refine Ae hq Qf Jp ?_;cases h;exact gN C1
     ·cases h;exact gO (Bm (B7 Lc Jp hq))
    ·clear hx18;refine gA ?_;refine Ae hq zzN105 Jp ?_;obtain⟨x34,hx34,h⟩:=bind_some h;refine gL hq hx34 zzN105 Jp (fun u (l20,i21)=>(Ew u [(Z18 l20),(9,(Z7 i21))] [(L7 5003 94 l20.length)])) (fun u l22=>aG Γ (.exit 6) (Pa Lc Jp u [(Z18 l22)] [(L7 5003 94 l22.length)])) ?_ ?_
     ·rintro⟨l20,i21⟩ y h;unfold E7 at h;refine Ae hq [1,3,4,5,9,64] Jp ?_;refine gC h ?_ ?_<;>intro h
      ·obtain⟨hc23,h⟩:=Aa h;obtain⟨x24,hx24,h⟩:=bind_some h;refine gR hq [1,3,4,5,9,10] zzN79 [] [⟨[],[(20000,72)],(Z38 x24 20000),[(20000,.tok 2 88 x24.length)],[],[]⟩] (ci hc23 (c1 (U5 (((Q214 a0 i2).Ops).getD i21.toNat default) x24 hx24))) ?_;refine Ae hq zzN83 zzN79 ?_;obtain⟨x32,hx32,h⟩:=bind_some h;refine gL hq hx32 zzN83 zzN79 (fun u (l25,i26)=>(Ew u [(Z18 l25),(11,(Z7 i26))] [(L7 5003 94 l25.length)])) (fun u l27=>aG Γ (.exit 8) (Pa zzN105 Jp u [(Z18 l27)] [(L7 5003 94 l27.length)])) ?_ ?_
       ·rintro⟨l25,i26⟩ y h;unfold E6 at h;refine Ae hq [1,3,4,5,9,10,11,76] zzN79 ?_;refine gC h ?_ ?_<;>intro h
        ·obtain⟨hc28,h⟩:=Aa h;obtain⟨hc29,h⟩:=Aa h;obtain⟨hc30,h⟩:=Aa h;obtain⟨hc31,h⟩:=Aa h;refine gR hq zzN83 zzN79 (Z28 96 (Q209 a0 i2 i21 i26 x24) 97 l25) [] (ci hc28 (ci hc29 (ci hc30 (ci (Bu 5 Nm (default:Ck) (Q209 a0 i2 i21 i26 x24)) (ci (Eq.refl l25.length) (ci hc31 (ci (Jr 5 5003 Nm (default:Ck) l25 (Q209 a0 i2 i21 i26 x24)) (c1 (Fz l25 (Q209 a0 i2 i21 i26 x24)))))))))) ?_;refine Ae hq zzN83 zzN79 ?_;cases h;exact gN C1
        ·cases h;exact gO (Bm (B7 zzN105 Jp hq))
       ·clear hx32;refine gA ?_;refine Ae hq zzN105 Jp ?_;cases h;exact gN C1
      ·cases h;exact gO (Bm (B7 Lc Jp hq))
     ·clear hx34;refine gA ?_;obtain⟨x38,hx38,h⟩:=bind_some h;refine gJ hx38 (fun l36=>aG Γ .normal (⟨[W9,(Z18 l36),(4,(Z7 i2)),Z78],[(1,.row 25 (Q212 a0)),(5,.row 53 [(AV.list 4 Xe default (Q214 a0 i2).Phis .none),(AV.list 6 P1 default (Q214 a0 i2).Ops .none),(.int .i64 (Q214 a0 i2).End.Kind),(.int .i64 (Q214 a0 i2).End.Arg),(AV.list 1 As 0 (Q214 a0 i2).End.To .none)]),(L7 5003 94 l36.length)],[]⟩:St)) ?_ ?_
      ·clear h hx38;intro y h;refine Ae hq [1,3,4,5,101] Jp ?_;refine gC h ?_ ?_<;>intro h
       ·obtain⟨hc37,h⟩:=Aa h;refine gR hq Lc Jp (Z28 111 (Q211 a0 i2) 112 x34) [] (ci (Bu 5 Nm (default:Ck) (Q211 a0 i2)) (ci (Eq.refl x34.length) (ci hc37 (ci (Jr 5 5003 Nm (default:Ck) x34 (Q211 a0 i2)) (c1 (Fz x34 (Q211 a0 i2))))))) ?_;cases h;exact gK (Bm C1)
       ·obtain rfl:=OI h;exact gK (Bm (B7 Lc Jp hq))
      ·clear hx38;refine gA ?_;refine Ae hq [1,3,4,5,116] Jp ?_;refine gC h ?_ ?_<;>intro h
       ·obtain⟨hc40,h⟩:=Aa h;refine gR hq Ke L4 (Z28 124 (Q210 a0 i2) 125 x38) [] (ci (Bu 5 Nm (default:Ck) (Q210 a0 i2)) (ci (Eq.refl x38.length) (ci hc40 (ci (Jr 5 5003 Nm (default:Ck) x38 (Q210 a0 i2)) (c1 (Fz x38 (Q210 a0 i2))))))) ?_;cases h;exact gK (Bm C1)
       ·obtain rfl:=OI h;exact gK (Bm (B7 Ke L4 hq))
   ·clear hx41;refine gA ?_;refine Ae hq Ke L4 ?_;cases h;exact gN C1
  ·cases h;exact gO (Bm (B7 [3] [5003] hq))
 ·clear hx43;refine gA ?_;refine Ae hq [2] [5003] ?_;obtain rfl:=OI h;exact Cu zzN167
def Gq(aH:TGraph)(aJ:TGraph):Int->Option (LR Int (Unit ⊕ Bool)):=
 fun(i1:Int)=>(bif (decide (i1<(aH.Succ.length:Int))) then(A7 (A5 i1 aH.Succ.length) (A7 (A5 i1 aJ.Succ.length) ((D7 (aH.Succ.getD i1.toNat []) (aJ.Succ.getD i1.toNat [])).bind fun x4=>(bif (!x4) then(some (.done (.inr false))) else(some (.next (w64 (i1+1)))))))) else(some (.done (.inl ()))))
def Gr(aH:TGraph)(aJ:TGraph):Int->Option (LR Int (Unit ⊕ Bool)):=
 fun(i7:Int)=>(bif (decide (i7<(aH.Pred.length:Int))) then(A7 (A5 i7 aH.Pred.length) (A7 (A5 i7 aJ.Pred.length) ((D7 (aH.Pred.getD i7.toNat []) (aJ.Pred.getD i7.toNat [])).bind fun x10=>(bif (!x10) then(some (.done (.inr false))) else(some (.next (w64 (i7+1)))))))) else(some (.done (.inl ()))))
def P0(Γ:Ix)(aH:TGraph)(aJ:TGraph)(r:Bool):Exit->St->Prop:=fK Tryz.prog Γ Tryz.f103.results.toList [] (.bool r) []
def Q216(aH:TGraph)(aJ:TGraph):=((((aH.Succ.length:Int):Int)!=(aJ.Succ.length:Int))==false)
def Ih(aH:TGraph)(aJ:TGraph):Option Bool:=
 (bif (bif (((aH.Succ.length:Int):Int)!=(aJ.Succ.length:Int)) then true else(((aH.Pred.length:Int):Int)!=(aJ.Pred.length:Int))) then(some false) else((Ag (Gq aH aJ) (0:Int)).bind (fun x5=>(match x5 with|(.inl _)=>((Ag (Gr aH aJ) (0:Int)).bind (fun x11=>(match x11 with|(.inl _)=>(some true)|(.inr r13)=>(some r13))))|(.inr r14)=>(some r14)))))
theorem Ws(aH:TGraph)(aJ:TGraph)(r:Bool)(h:Ih aH aJ=some r):Spec Tryz.prog 103 [(.agg (Sh aH)),(.agg (Sh aJ))] [] (.bool r) []:=by
 refine Ab mix Tryz.func103 (fun Γ hq=>?_);unfold Ih at h;refine Ae hq Fk Fk ?_;refine gR hq [2,3,22] Fk [] [] (ci (gI (Q216 aH aJ)) (ci (gI (Q216 aH aJ)) (ci (gI (Q216 aH aJ)) (ci (gI (Q216 aH aJ)) (ci (gI (Q216 aH aJ)) (ci (gI (Q216 aH aJ)) (c1 (Ko (((aH.Succ.length:Int):Int)!=(aJ.Succ.length:Int)))))))))) ?_;refine gC h ?_ ?_<;>intro h
 ·refine Ae hq [4] [] ?_;obtain rfl:=OI h;exact Cu []
 ·refine Ae hq [2,3,5] Fk ?_;obtain⟨x5,hx5,h⟩:=bind_some h;refine gL hq hx5 [2,3,5] Fk (fun u i1=>(Ew u [(5,(Z7 i1))] [])) (fun u x_=>match x_ with|(.inl _)=>aG Γ (.exit 0) (Pa Fk Fk u [] [])|(.inr r_)=>aR (P0 Γ aH aJ r_)) ?_ ?_
  ·intro i1 y h;unfold Gq at h;refine Ae hq [2,3,5,27] Fk ?_;refine gC h ?_ ?_<;>intro h
   ·obtain⟨hc2,h⟩:=Aa h;obtain⟨hc3,h⟩:=Aa h;obtain⟨x4,hx4,h⟩:=bind_some h;refine gR hq [2,3,5,41] Fk [] [(Z2 x4)] (ci hc2 (ci hc3 (c1 (Ly (aH.Succ.getD i1.toNat []) (aJ.Succ.getD i1.toNat []) x4 hx4)))) ?_;refine gC h ?_ ?_<;>intro h
    ·refine Ae hq [4] [] ?_;cases h;exact gO (L8 (Kf [] (Le.refl _ _)))
    ·refine Ae hq [2,3,5] Fk ?_;cases h;exact gN C1
   ·cases h;exact gO (Bm (B7 Fk Fk hq))
  ·clear hx5;rcases x5 with _|r14
   ·refine gA ?_;refine Ae hq [2,3,6] Fk ?_;obtain⟨x11,hx11,h⟩:=bind_some h;refine gL hq hx11 [2,3,6] Fk (fun u i7=>(Ew u [(6,(Z7 i7))] [])) (fun u x_=>match x_ with|(.inl _)=>aG Γ (.exit 2) (⟨[],[],[]⟩:St)|(.inr r_)=>aR (P0 Γ aH aJ r_)) ?_ ?_
    ·intro i7 y h;unfold Gr at h;refine Ae hq [2,3,6,46] Fk ?_;refine gC h ?_ ?_<;>intro h
     ·obtain⟨hc8,h⟩:=Aa h;obtain⟨hc9,h⟩:=Aa h;obtain⟨x10,hx10,h⟩:=bind_some h;refine gR hq [2,3,6,60] Fk [] [(Z2 x10)] (ci hc8 (ci hc9 (c1 (Ly (aH.Pred.getD i7.toNat []) (aJ.Pred.getD i7.toNat []) x10 hx10)))) ?_;refine gC h ?_ ?_<;>intro h
      ·refine Ae hq [4] [] ?_;cases h;exact gO (L8 (Kf [] (Le.refl _ _)))
      ·refine Ae hq [2,3,6] Fk ?_;cases h;exact gN C1
     ·cases h;exact gO (Bm (B7 [] [] hq))
    ·clear hx11;rcases x11 with _|r13
     ·refine gA ?_;refine Ae hq [4] [] ?_;obtain rfl:=OI h;exact Cu []
     ·refine Ol (fun st' hk=>?_);obtain rfl:=OI h;exact gK hk
   ·refine Ol (fun st' hk=>?_);obtain rfl:=OI h;exact gK hk
def I4(a2:TGraph):Option Bool:=
 ((Gp a2.Succ).bind fun x1=>((bif ((x1.2==0)==true) then Ih x1.1 a2 else some false).bind fun x2=>(some (bif (x1.2==0) then x2 else false))))
theorem X0(a2:TGraph)(r:Bool)(h:I4 a2=some r):Spec Tryz.prog 86 [(.agg (Sh a2))] [] (.bool r) []:=by
 refine Ab mix Tryz.func86 (fun Γ hq=>?_);unfold I4 at h;refine Ae hq [1] [1] ?_;obtain⟨x1,hx1,h⟩:=bind_some h;refine gR hq Ke Kd [] [(Z35 x1.1 x1.2)] (c1 (Pd a2.Succ x1 hx1)) ?_;obtain⟨x2,hx2,h⟩:=bind_some h;refine gR hq [2] [] [] [(Z2 x2)] (ci (gI ((x1.2==0)==true)) (ci (gI ((x1.2==0)==true)) (ci (fun(hg:((x1.2==0)==true)=true)=>(Ws x1.1 a2 x2 (Bh hg hx2))) (c1 (Nb (x1.2==0)))))) ?_;cases h;exact Cu []
def C5(a2:TGraph)(x2:List Bool)(i4:Int)(l5:List (List Bool))(x9:List Bool):(Int×List Bool)->Option (LR (Int×List Bool) (List Bool)):=
 fun((i10,l11):(Int×List Bool))=>(bif (decide (i10<(a2.Succ.length:Int))) then(A7 (A5 i4 l5.length) (A7 (A5 i10 x2.length) (A7 (((x2.getD i10.toNat false)==true)=true->(A5 i10 x9.length)) (A7 (A5 i10 l11.length) (some (.next ((w64 (i10+1)),(l11.set i10.toNat (bif (x2.getD i10.toNat false) then(!(x9.getD i10.toNat false)) else false))))))))) else(some (.done l11)))
def C6(a2:TGraph)(a3:Int)(x2:List Bool):(Int×List (List Bool))->Option (LR (Int×List (List Bool)) (List (List Bool))):=
 fun((i4,l5):(Int×List (List Bool)))=>(bif (decide (i4<(a2.Succ.length:Int))) then(A7 (0<=(a2.Succ.length:Int)/\(a2.Succ.length:Int)<=(a2.Succ.length:Int)/\(a2.Succ.length:Int)<=(room:Int)) (A7 (A5 i4 l5.length) ((C3 a2 a3 i4).bind fun x9=>((Ag (C5 a2 x2 i4 l5 x9) ((0:Int),(List.replicate (a2.Succ.length:Int).toNat false))).bind (fun x17=>(some (.next ((w64 (i4+1)),(l5.set i4.toNat x17))))))))) else(some (.done l5)))
def C7(a2:TGraph)(l6:List (List Bool))(i22:Int)(i30:Int):(Bool×Int)->Option (LR (Bool×Int) Bool):=
 fun((b36,i37):(Bool×Int))=>(bif (decide (i37<(a2.Succ.length:Int))) then(A7 (((b36==true)&&((i37==i22)==false))=true->(A5 i37 l6.length)) (A7 (((b36==true)&&((i37==i22)==false))=true->(A5 i22 (l6.getD i37.toNat []).length)) (A7 (((b36==true)&&((bif (i37==i22) then true else(!((l6.getD i37.toNat []).getD i22.toNat false)))==false))=true->(A5 i37 l6.length)) (A7 (((b36==true)&&((bif (i37==i22) then true else(!((l6.getD i37.toNat []).getD i22.toNat false)))==false))=true->(A5 i30 (l6.getD i37.toNat []).length)) (some (.next ((bif b36 then(bif (bif (i37==i22) then true else(!((l6.getD i37.toNat []).getD i22.toNat false))) then true else((l6.getD i37.toNat []).getD i30.toNat false)) else false),(w64 (i37+1))))))))) else(some (.done b36)))
def Bt(a2:TGraph)(a3:Int)(l6:List (List Bool))(i22:Int):(Int×List Int)->Option (LR (Int×List Int) (List Int)):=
 fun((i30,l31):(Int×List Int))=>(bif (bif (decide (i30<(a2.Succ.length:Int))) then(i22 !=a3) else false) then(Option.bind (α:=List Int) (A7 (((i30==i22)==false)=true->(A5 i30 l6.length)) (A7 (((i30==i22)==false)=true->(A5 i22 (l6.getD i30.toNat []).length)) (bif (bif (i30==i22) then true else(!((l6.getD i30.toNat []).getD i22.toNat false))) then(some l31) else((Ag (C7 a2 l6 i22 i30) (true,(0:Int))).bind (fun x43=>(bif x43 then(A7 (A5 i22 l31.length) (some (l31.set i22.toNat i30))) else(some l31))))))) (fun x46=>(some (.next ((w64 (i30+1)),x46))))) else(some (.done l31)))
def C8(a2:TGraph)(a3:Int)(l6:List (List Bool)):(Int×List Int)->Option (LR (Int×List Int) (List Int)):=
 fun((i22,l23):(Int×List Int))=>(bif (decide (i22<(a2.Succ.length:Int))) then(A7 (A5 i22 l23.length) (Option.bind (α:=List Int) (bif (i22==a3) then(A7 (A5 i22 (l23.set i22.toNat (-2:Int)).length) (some ((l23.set i22.toNat (-2:Int)).set i22.toNat (-1:Int)))) else(some (l23.set i22.toNat (-2:Int)))) (fun x28=>((Ag (Bt a2 a3 l6 i22) ((0:Int),x28)).bind (fun x48=>(some (.next ((w64 (i22+1)),x48)))))))) else(some (.done l23)))
def N1(a2:TGraph):=(a2.Succ.length:Int)
def Q239:=(fun n_=>D2 n_ [37,75])
def Oh(l5:List (List Bool)):=(fun i=>eLB (l5.getD i []))
def Q219(a2:TGraph):=(List.replicate (N1 a2).toNat false)
def Q235(a2:TGraph):List AV:=[(.vsl 46 (Q219 a2).length)]
def Q234(i30:Int)(i22:Int):=((i30==i22)==false)
def Q233(l23:List Int)(i22:Int):=(l23.set i22.toNat (-2:Int))
def Q238(l11:List Bool):=(fun i=>eB (l11.getD i false))
def Q237:=(fun n_=>D2 n_ [2,35,37,46])
def Q228:=(fun n_=>D2 n_ [2,35,37,46,51])
def Q230(a2:TGraph):=(fun i=>eB ((Q219 a2).getD i false))
def Q218(l11:List Bool)(i10:Int)(x2:List Bool)(x9:List Bool):=(l11.set i10.toNat (bif (x2.getD i10.toNat false) then(!(x9.getD i10.toNat false)) else false))
def Q231(l11:List Bool)(i10:Int)(x2:List Bool)(x9:List Bool):=(fun i=>eB ((Q218 l11 i10 x2 x9).getD i false))
def Q227(b36:Bool)(i37:Int)(i22:Int):=((b36==true)&&((i37==i22)==false))
def Q236:List (Nat×AV):=[(4,Z24)]
def Q232(x1:Bool)(a3:Int):=(bif (!x1) then true else(decide (a3<0)))
def On(a2:TGraph):List AV:=[(Z20 a2.Succ),(Z20 a2.Pred)]
def Q240:=(Z27:St)
def Q222(b36:Bool)(i37:Int)(i22:Int)(x19:List (List Bool)):=((b36==true)&&((bif (i37==i22) then true else(!((x19.getD i37.toNat []).getD i22.toNat false)))==false))
def Q220(a3:Int)(a2:TGraph)(x2:List Bool)(l5:List (List Bool))(i4:Int):List (Nat×AV):=[(1,(Z7 a3)),Ra,(5,(Z7 (N1 a2))),(6,(Z21 x2 35)),(S0 37 l5.length),(8,(Z7 i4))]
def Q226(a3:Int)(a2:TGraph)(x2:List Bool)(l5:List (List Bool))(i4:Int):List (Nat×AV):=[(1,(Z7 a3)),Ra,(5,(Z7 (N1 a2))),(6,(Z21 x2 35)),(S0 37 l5.length),(8,(.int .i64 (w64 (i4+1))))]
def Q224(a3:Int)(a2:TGraph)(x2:List Bool)(l5:List (List Bool))(i4:Int)(x9:List Bool)(i10:Int):List (Nat×AV):=[(1,(Z7 a3)),Ra,(5,(Z7 (N1 a2))),(6,(Z21 x2 35)),(S0 37 l5.length),(8,(Z7 i4)),(9,(Z21 x9 51)),(10,(Z7 i10))]
def Q221(a3:Int)(a2:TGraph)(x2:List Bool)(l5:List (List Bool))(i4:Int)(x9:List Bool):List (Nat×AV):=[(1,(Z7 a3)),Ra,(5,(Z7 (N1 a2))),(6,(Z21 x2 35)),(S0 37 l5.length),(8,(Z7 i4)),(9,(Z21 x9 51)),(10,Qs)]
def Q223(a3:Int)(a2:TGraph)(x2:List Bool)(l5:List (List Bool))(i4:Int)(x9:List Bool)(i10:Int):List (Nat×AV):=[(1,(Z7 a3)),Ra,(5,(Z7 (N1 a2))),(6,(Z21 x2 35)),(S0 37 l5.length),(8,(Z7 i4)),(9,(Z21 x9 51)),(10,(.int .i64 (w64 (i10+1))))]
def Q241(a3:Int)(a2:TGraph)(x2:List Bool)(l5:List (List Bool))(i4:Int)(x9:List Bool)(i10:Int):List (Nat×AV):=[(1,(Z7 a3)),Ra,(5,(Z7 (N1 a2))),(6,(Z21 x2 35)),(S0 37 l5.length),(8,(Z7 i4)),(9,(Z21 x9 51)),(10,(Z7 i10)),(54,(.bool (decide (i10<(N1 a2)))))]
def Ij(a2:TGraph)(a3:Int):Option (List Int):=
 ((I4 a2).bind fun x1=>(bif (bif (bif (!x1) then true else(decide (a3<0))) then true else(decide (((a2.Succ.length:Int):Int)<=a3))) then(some ([]:List Int)) else((C3 a2 a3 (-1:Int)).bind fun x2=>(A7 (0<=(a2.Succ.length:Int)/\(a2.Succ.length:Int)<=(a2.Succ.length:Int)/\(a2.Succ.length:Int)<=(room:Int)) ((Ag (C6 a2 a3 x2) ((0:Int),(List.replicate (a2.Succ.length:Int).toNat ([]:List Bool)))).bind (fun x19=>(A7 (0<=(a2.Succ.length:Int)/\(a2.Succ.length:Int)<=(a2.Succ.length:Int)/\(a2.Succ.length:Int)<=(room:Int)) ((Ag (C8 a2 a3 x19) ((0:Int),(List.replicate (a2.Succ.length:Int).toNat (0:Int)))).bind (fun x50=>(some x50))))))))))
theorem Wu(a2:TGraph)(a3:Int)(r:List Int)(h:Ij a2 a3=some r):Spec Tryz.prog 53 (Z61 a2 a3) [] (Z13 r 20000) [(20000,.tok 1 3 r.length)]:=by
 refine Ab mix Tryz.func53 (fun Γ hq=>?_);have hΓ:=hq.own;unfold Ij at h;refine gR hq Mu [2] Q236 [] (c1 (Do 1 As (0:Int))) ?_;obtain⟨x1,hx1,h⟩:=bind_some h;refine gR hq [1,2,29] [2] [] [(Z2 x1)] (ci (X0 a2 x1 hx1) (ci (gI ((!x1)==false)) (ci (Ko (!x1)) (ci (gI ((Q232 x1 a3)==false)) (ci (gI ((Q232 x1 a3)==false)) (ci (gI ((Q232 x1 a3)==false)) (ci (gI ((Q232 x1 a3)==false)) (c1 (Ko (Q232 x1 a3)))))))))) ?_;refine gC h ?_ ?_<;>intro h
 ·refine gR hq [4] [] Q236 [] (c1 (Do 1 As (0:Int))) ?_;refine Qk (⟨Q236,[],[]⟩:St) ?_;cases h;exact gK (e:=.ret) (Kf zzN99 (show Le Γ _ Q240 from Le.trans (B7 (st':=⟨Q236,[],[]⟩) [4] [] hq) (Le.trans (N4 (t:=4) (nm:=6004) (sz':=1) (fun i=>As (([]:List Int).getD i 0)) 3 rfl rfl (.inl ⟨rfl,rfl⟩) (fun h_=>absurd h_ (by decide))) (B7 (st':=Q240) [4] [6004] hq))))
 ·refine Ae hq Aaj [2] ?_;obtain⟨x2,hx2,h⟩:=bind_some h;refine gR hq [1,2,5,6] [2,35] [] [⟨[],[(20000,35)],(Z21 x2 20000),[(Pt 20000 x2.length)],[],[]⟩] (c1 (Ll a2 a3 (-1:Int) x2 hx2)) ?_;obtain⟨hc3,h⟩:=Aa h;refine gR hq zzN162 zzN119 [] [] (c1 hc3) ?_;refine Oi (Le.trans (Wg 37 (show ∀ k_,k_<((N1 a2).toNat)->AVleL ((fun i_=>AV.eraseAll (fun n_=>D2 n_ zzN119) ((fun _=>[Z42]) i_)) k_) ((fun i=>eLB ((List.replicate (N1 a2).toNat ([]:List Bool)).getD i [])) k_) from(fun k hk=>Qv (e:=eLB) (d:=[]) (.cons (fun _ _ _ _ _ hh=>AVle.untag _ _ _ _ _ (G7 _ _ _ _ _ hh)) .nil) _ k (Qx hk)))) (Wh (fun(k_:Nat) u=>(Ew u [(S0 37 k_)] [(37,.arr 1 47 k_ (fun i=>eLB ((List.replicate (N1 a2).toNat ([]:List Bool)).getD i [])))])) (show(N1 a2).toNat=(List.replicate (N1 a2).toNat ([]:List Bool)).length from(Qm ..).symm))) ?_;refine Ae hq zzN71 zzN119 ?_;obtain⟨x19,hx19,h⟩:=bind_some h;refine gL hq hx19 zzN71 zzN119 (fun u (i4,l5)=>(Ew u [(S0 37 l5.length),(8,(Z7 i4))] [(37,.arr 1 47 l5.length (Oh l5))])) (fun u l6=>aG Γ (.exit 0) (Pa [1,5,7] [37] u [(S0 37 l6.length)] [(37,.arr 1 47 l6.length (fun i=>eLB (l6.getD i [])))])) ?_ ?_
  ·rintro⟨i4,l5⟩ y h;unfold C6 at h;refine Ae hq [1,2,5,6,7,8,40] zzN119 ?_;refine gC h ?_ ?_<;>intro h
   ·obtain⟨hc7,h⟩:=Aa h;obtain⟨hc8,h⟩:=Aa h;refine gR hq zzN71 zzN168 [] [] (ci hc7 (ci hc8 (c1 (Eq.refl l5.length)))) ?_;refine Qk (⟨(Q220 a3 a2 x2 l5 i4),[(Nj 41 (On a2)),(Pt 35 x2.length),(37,.arr 1 47 l5.length (fun i_=>AV.eraseAll Q237 ((Gx (Oh l5) i4.toNat 0 [(.vsl 46 (N1 a2).toNat)]) i_))),(46,.arr 1 4 ((N1 a2).toNat) (fun i_=>AV.eraseAll Q237 ((fun _=>[(.bool false)]) i_)))],[]⟩:St) ?_;refine Oi (Le.trans (Le.trans (Jg (st':=⟨(Q220 a3 a2 x2 l5 i4),[(Nj 41 (On a2)),(Pt 35 x2.length),(37,.arr 1 47 l5.length (fun i_=>AV.eraseAll Q237 ((Gx (Oh l5) i4.toNat 0 [(.vsl 46 (N1 a2).toNat)]) i_))),(46,.arr 1 4 ((N1 a2).toNat) (Q230 a2))],[]⟩) (TmpsLe.refl _) (.same (.same (.same (.arr (fun k hk=>Qv (e:=eB) (d:=false) (.cons (AVle.refl _) .nil) _ k (Qx hk)) .nil))))) (Ju (Cl (fun k_:Nat=>(⟨(Q220 a3 a2 x2 l5 i4),[(Nj 41 (On a2)),(Pt 35 x2.length),(Z29 l5.length Q237 (Oh l5) i4.toNat k_),(46,.arr 1 4 k_ (Q230 a2))],[]⟩:St)) (show(N1 a2).toNat=(Q219 a2).length from(Qm ..).symm)))) (Jg (st':=⟨(Q220 a3 a2 x2 l5 i4),[(Nj 41 (On a2)),(Pt 35 x2.length),(37,.arr 1 47 l5.length (Gx (Oh l5) i4.toNat 0 (Q235 a2))),(46,.arr 1 4 ((Q219 a2).length) (Q230 a2))],[]⟩) (TmpsLe.refl _) (.same (.same (.arr (Lx (fun _=>rfl) rfl) (.same .nil)))))) ?_;obtain⟨x9,hx9,h⟩:=bind_some h;refine gR hq [1,2,5,6,7,8,9] zzN48 [] [⟨[],[(20000,51)],(Z21 x9 20000),[(Pt 20000 x9.length)],[],[]⟩] (c1 (Ll a2 a3 i4 x9 hx9)) ?_;refine Qk (⟨[(1,(Z7 a3)),Ra,(5,(Z7 (N1 a2))),(6,(Z21 x2 35)),(S0 37 l5.length),(8,(Z7 i4)),(9,(Z21 x9 51))],[(Nj 41 (On a2)),(Pt 35 x2.length),(37,.arr 1 47 l5.length (fun i_=>AV.eraseAll Q228 ((Gx (Oh l5) i4.toNat 0 (Q235 a2)) i_))),(46,.arr 1 4 ((Q219 a2).length) (Q230 a2)),(Pt 51 x9.length)],[]⟩:St) ?_;refine Oi (Jg (st':=⟨[(1,(Z7 a3)),Ra,(5,(Z7 (N1 a2))),(6,(Z21 x2 35)),(S0 37 l5.length),(8,(Z7 i4)),(9,(Z21 x9 51))],[(Nj 41 (On a2)),(Pt 35 x2.length),(37,.arr 1 47 l5.length (Gx (Oh l5) i4.toNat 0 (Q235 a2))),(46,.arr 1 4 ((Q219 a2).length) (Q230 a2)),(Pt 51 x9.length)],[]⟩) (TmpsLe.refl _) (.same (.same (.arr (Lx (fun _=>rfl) rfl) (.same (.same .nil)))))) ?_;refine Ae hq zzN55 zzN48 ?_;refine Qk (⟨(Q221 a3 a2 x2 l5 i4 x9),[(Nj 41 (On a2)),(Pt 35 x2.length),(37,.arr 1 47 l5.length (fun i_=>AV.eraseAll Q228 ((Gx (Oh l5) i4.toNat 0 (Q235 a2)) i_))),(46,.arr 1 4 ((Q219 a2).length) (Q230 a2)),(Pt 51 x9.length)],[]⟩:St) ?_;refine Oi (Jg (st':=⟨(Q221 a3 a2 x2 l5 i4 x9),[(Nj 41 (On a2)),(Pt 35 x2.length),(37,.arr 1 47 l5.length (Gx (Oh l5) i4.toNat 0 (Q235 a2))),(46,.arr 1 4 ((Q219 a2).length) (Q230 a2)),(Pt 51 x9.length)],[]⟩) (TmpsLe.refl _) (.same (.same (.arr (Lx (fun _=>rfl) rfl) (.same (.same .nil)))))) ?_;refine Oi (st':=⟨(Q221 a3 a2 x2 l5 i4 x9),[(Nj 41 (On a2)),(Pt 35 x2.length),(37,.arr 1 47 l5.length (Gx (Oh l5) i4.toNat 0 (Q235 a2))),(46,.arr 1 4 ((Q219 a2).length) (Q230 a2)),(Pt 51 x9.length)],[]⟩) (Le.trans (Le.trans (B7 (st':=⟨(Q221 a3 a2 x2 l5 i4 x9),[(Nj 41 (On a2)),(Pt 35 x2.length),(37,.arr 1 47 l5.length (fun i_=>AV.eraseAll Q228 ((Gx (Oh l5) i4.toNat 0 (Q235 a2)) i_))),(46,.arr 1 4 ((Q219 a2).length) (Q230 a2)),(Pt 51 x9.length)],[]⟩) zzN55 zzN48 hq) (Jg (st':=⟨(Q221 a3 a2 x2 l5 i4 x9),[(Nj 41 (On a2)),(Pt 35 x2.length),(37,.arr 1 47 l5.length (Gx (Oh l5) i4.toNat 0 (Q235 a2))),(46,.arr 1 4 ((Q219 a2).length) (Q230 a2)),(Pt 51 x9.length)],[]⟩) (TmpsLe.refl _) (.same (.same (.arr (Lx (fun _=>rfl) rfl) (.same (.same .nil))))))) (Ju (by kernel_rfl))) ?_;obtain⟨x17,hx17,h⟩:=bind_some h;refine gL0 hx17 (fun u (i10,l11)=>(Ew u [(10,(Z7 i10))] [(Z77 l5.length (Oh l5) i4.toNat l11.length),(46,.arr 1 4 l11.length (Q238 l11))])) (fun u l12=>aG Γ (.exit 2) (⟨(Q220 a3 a2 x2 l5 i4),[(Nj 41 (On a2)),(Pt 35 x2.length),(Z77 l5.length (Oh l5) i4.toNat l12.length),(Z11 46 l12)],[]⟩:St)) ?_ ?_
    ·rintro⟨i10,l11⟩ y h;unfold C5 at h;refine Ae hq [1,2,5,6,7,8,9,10,54] zzN48 ?_;refine Qk (⟨(Q241 a3 a2 x2 l5 i4 x9 i10),[(Nj 41 (On a2)),(Pt 35 x2.length),(Z29 l5.length Q228 (Oh l5) i4.toNat l11.length),(46,.arr 1 4 l11.length (Q238 l11)),(Pt 51 x9.length)],[]⟩:St) ?_;refine Oi (Jg (st':=⟨(Q241 a3 a2 x2 l5 i4 x9 i10),[(Nj 41 (On a2)),(Pt 35 x2.length),(Z77 l5.length (Oh l5) i4.toNat l11.length),(46,.arr 1 4 l11.length (Q238 l11)),(Pt 51 x9.length)],[]⟩) (TmpsLe.refl _) (.same (.same (.arr (Lx (fun _=>rfl) rfl) (.same (.same .nil)))))) ?_;refine gC h ?_ ?_<;>intro h
     ·obtain⟨hc13,h⟩:=Aa h;obtain⟨hc14,h⟩:=Aa h;obtain⟨hc15,h⟩:=Aa h;obtain⟨hc16,h⟩:=Aa h;refine gR hq zzN55 zzN48 [(60,(.vsl 46 l11.length))] [] (ci hc13 (ci (Eq.refl l5.length) (ci (show(AVle (((Gx (Oh l5) i4.toNat 0 [(.vsl 46 l11.length)]) i4.toNat).getD 0 .any) (.vsl 46 l11.length)) from lent_load) (ci hc14 (ci (gI ((x2.getD i10.toNat false)==true)) (ci (gI ((x2.getD i10.toNat false)==true)) (ci hc15 (ci (gI ((x2.getD i10.toNat false)==true)) (ci (gI ((x2.getD i10.toNat false)==true)) (ci (Nb (x2.getD i10.toNat false)) (ci hc16 (c1 (Eq.refl l11.length))))))))))))) ?_;refine Qk (⟨(Q224 a3 a2 x2 l5 i4 x9 i10),[(Nj 41 (On a2)),(Pt 35 x2.length),(Z29 l5.length Q228 (Oh l5) i4.toNat l11.length),(46,.arr 1 4 l11.length (fun i_=>AV.eraseAll Q228 ((Gx (Q238 l11) i10.toNat 0 [(.bool (bif (x2.getD i10.toNat false) then(!(x9.getD i10.toNat false)) else false))]) i_))),(Pt 51 x9.length)],[]⟩:St) ?_;refine Oi (Le.trans (Le.trans (Jg (st':=⟨(Q224 a3 a2 x2 l5 i4 x9 i10),[(Nj 41 (On a2)),(Pt 35 x2.length),(Z29 l5.length Q228 (Oh l5) i4.toNat l11.length),(46,.arr 1 4 l11.length (Q231 l11 i10 x2 x9)),(Pt 51 x9.length)],[]⟩) (TmpsLe.refl _) (.same (.same (.same (.arr (Ci (G2 ..).symm (fun k_ hk_=>(Cl (AV.eraseAll Q228) ((Kb (fun _ _=>rfl) (L1 hc16) rfl) k_ hk_)).trans rfl)) (.same .nil)))))) (Ju (Cl (fun k_:Nat=>(⟨(Q224 a3 a2 x2 l5 i4 x9 i10),[(Nj 41 (On a2)),(Pt 35 x2.length),(Z29 l5.length Q228 (Oh l5) i4.toNat k_),(46,.arr 1 4 k_ (Q231 l11 i10 x2 x9)),(Pt 51 x9.length)],[]⟩:St)) (show l11.length=(Q218 l11 i10 x2 x9).length from(G2 ..).symm)))) (Jg (st':=⟨(Q224 a3 a2 x2 l5 i4 x9 i10),[(Nj 41 (On a2)),(Pt 35 x2.length),(37,.arr 1 47 l5.length (Gx (Oh l5) i4.toNat 0 [(.vsl 46 (Q218 l11 i10 x2 x9).length)])),(46,.arr 1 4 ((Q218 l11 i10 x2 x9).length) (Q231 l11 i10 x2 x9)),(Pt 51 x9.length)],[]⟩) (TmpsLe.refl _) (.same (.same (.arr (Lx (fun _=>rfl) rfl) (.same (.same .nil))))))) ?_;refine Ae hq zzN55 zzN48 ?_;refine Qk (⟨(Q223 a3 a2 x2 l5 i4 x9 i10),[(Nj 41 (On a2)),(Pt 35 x2.length),(37,.arr 1 47 l5.length (fun i_=>AV.eraseAll Q228 ((Gx (Oh l5) i4.toNat 0 [(.vsl 46 (Q218 l11 i10 x2 x9).length)]) i_))),(46,.arr 1 4 ((Q218 l11 i10 x2 x9).length) (Q231 l11 i10 x2 x9)),(Pt 51 x9.length)],[]⟩:St) ?_;cases h;exact gN (Le.trans (Jg (st':=⟨(Q223 a3 a2 x2 l5 i4 x9 i10),[(Nj 41 (On a2)),(Pt 35 x2.length),(37,.arr 1 47 l5.length (Gx (Oh l5) i4.toNat 0 [(.vsl 46 (Q218 l11 i10 x2 x9).length)])),(46,.arr 1 4 ((Q218 l11 i10 x2 x9).length) (Q231 l11 i10 x2 x9)),(Pt 51 x9.length)],[]⟩) (TmpsLe.refl _) (.same (.same (.arr (Lx (fun _=>rfl) rfl) (.same (.same .nil)))))) (Le.trans (Le.trans (B7 (st':=⟨(Q223 a3 a2 x2 l5 i4 x9 i10),[(Nj 41 (On a2)),(Pt 35 x2.length),(37,.arr 1 47 l5.length (fun i_=>AV.eraseAll Q228 ((Gx (Oh l5) i4.toNat 0 [(.vsl 46 (Q218 l11 i10 x2 x9).length)]) i_))),(46,.arr 1 4 ((Q218 l11 i10 x2 x9).length) (Q231 l11 i10 x2 x9)),(Pt 51 x9.length)],[]⟩) zzN55 zzN48 hq) (Jg (st':=⟨(Q223 a3 a2 x2 l5 i4 x9 i10),[(Nj 41 (On a2)),(Pt 35 x2.length),(37,.arr 1 47 l5.length (Gx (Oh l5) i4.toNat 0 [(.vsl 46 (Q218 l11 i10 x2 x9).length)])),(46,.arr 1 4 ((Q218 l11 i10 x2 x9).length) (Q231 l11 i10 x2 x9)),(Pt 51 x9.length)],[]⟩) (TmpsLe.refl _) (.same (.same (.arr (Lx (fun _=>rfl) rfl) (.same (.same .nil))))))) (Ju (by kernel_rfl))))
     ·cases h;exact gO (Bm (Le.trans (Le.trans (B7 (st':=⟨(Q220 a3 a2 x2 l5 i4),[(Nj 41 (On a2)),(Pt 35 x2.length),(Z29 l5.length Q237 (Oh l5) i4.toNat l11.length),(46,.arr 1 4 l11.length (Q238 l11))],[]⟩) zzN71 zzN168 hq) (Jg (st':=⟨(Q220 a3 a2 x2 l5 i4),[(Nj 41 (On a2)),(Pt 35 x2.length),(Z77 l5.length (Oh l5) i4.toNat l11.length),(46,.arr 1 4 l11.length (Q238 l11))],[]⟩) (TmpsLe.refl _) (.same (.same (.arr (Lx (fun _=>rfl) rfl) (.same .nil)))))) (Ju (by kernel_rfl))))
    ·clear hx17;refine gA ?_;refine Ae hq zzN71 zzN168 ?_;refine Qk (⟨(Q226 a3 a2 x2 l5 i4),[(Nj 41 (On a2)),(Pt 35 x2.length),(Z29 l5.length Q237 (Oh l5) i4.toNat x17.length),(Z11 46 x17)],[]⟩:St) ?_;cases h;exact gN (Le.trans (Le.trans (Jg (st':=⟨(Q226 a3 a2 x2 l5 i4),[(Nj 41 (On a2)),(Pt 35 x2.length),(Z77 l5.length (Oh l5) i4.toNat x17.length),(Z11 46 x17)],[]⟩) (TmpsLe.refl _) (.same (.same (.arr (Lx (fun _=>rfl) rfl) (.same .nil))))) (Le.trans (Le.trans (Le.trans (Jz (nm:=46) (sz:=1) (n:=x17.length) (e:=4) (f:=(fun i=>eB (x17.getD i false))) (g:=(fun i=>eB (x17.getD i false))) rfl trivial (fun _ _=>rfl) (by rw[hΓ];rfl)) (Ju (st':=⟨(Q226 a3 a2 x2 l5 i4),[(Nj 41 (On a2)),(Pt 35 x2.length),(37,.arr 1 47 l5.length (fun i_=>AV.frwAll 46 1 x17.length (fun i=>eB (x17.getD i false)) ((Gx (Oh l5) i4.toNat 0 [(.vsl 46 x17.length)]) i_))),(Pt 46 x17.length)],[]⟩) (by kernel_rfl))) (Jg (st':=⟨(Q226 a3 a2 x2 l5 i4),[(Nj 41 (On a2)),(Pt 35 x2.length),(37,.arr 1 47 l5.length (fun i=>eLB ((l5.set i4.toNat x17).getD i []))),(Pt 46 x17.length)],[]⟩) (TmpsLe.refl _) (.same (.same (.arr (lent_put (fun _=>rfl) (fun _=>rfl) rfl) (.same .nil)))))) (Ju (Cl (fun k_:Nat=>(⟨[(1,(Z7 a3)),Ra,(5,(Z7 (N1 a2))),(6,(Z21 x2 35)),(S0 37 k_),(8,(.int .i64 (w64 (i4+1))))],[(Nj 41 (On a2)),(Pt 35 x2.length),(37,.arr 1 47 k_ (fun i=>eLB ((l5.set i4.toNat x17).getD i []))),(Pt 46 x17.length)],[]⟩:St)) (show l5.length=(l5.set i4.toNat x17).length from(G2 ..).symm))))) (B7 zzN71 zzN119 hq))
   ·cases h;exact gO (Bm (B7 [1,5,7] [37] hq))
  ·clear hx19;refine gA ?_;obtain⟨hc21,h⟩:=Aa h;refine gR hq [1,5,7,11] Kl [] [] (c1 hc21) ?_;refine Oi (Le.trans (Wg 75 (show ∀ k_,k_<((N1 a2).toNat)->AVleL ((fun i_=>AV.eraseAll Q239 ((fun _=>[Qs]) i_)) k_) ((fun i=>As ((List.replicate (N1 a2).toNat (0:Int)).getD i 0)) k_) from(fun k hk=>Qv (e:=As) (d:=(0:Int)) (.cons (AVle.refl _) .nil) _ k (Qx hk)))) (Wh (fun(k_:Nat) u=>(Ew u [(11,(.vsl 75 k_))] [(75,.arr 1 3 k_ (fun i=>As ((List.replicate (N1 a2).toNat (0:Int)).getD i 0)))])) (show(N1 a2).toNat=(List.replicate (N1 a2).toNat (0:Int)).length from(Qm ..).symm))) ?_;refine Ae hq zzN47 Kl ?_;obtain⟨x50,hx50,h⟩:=bind_some h;refine gL hq hx50 zzN47 Kl (fun u (i22,l23)=>(Ew u [(11,(.vsl 75 l23.length)),(12,(Z7 i22))] [(Z4 75 l23)])) (fun u l24=>aG Γ (.exit 4) (⟨[(11,(.vsl 75 l24.length))],[(Z4 75 l24)],[]⟩:St)) ?_ ?_
   ·rintro⟨i22,l23⟩ y h;unfold C8 at h;refine Ae hq [1,5,7,11,12,78] Kl ?_;refine gC h ?_ ?_<;>intro h
    ·obtain⟨hc25,h⟩:=Aa h;refine gR hq zzN47 Kl [] [] (ci hc25 (c1 (Eq.refl l23.length))) ?_;refine Oi (Le.trans (Wg 75 (show ∀ k_,k_<l23.length->AVleL ((fun i_=>AV.eraseAll Q239 ((Gx (fun i=>As (l23.getD i 0)) i22.toNat 0 [(.int .i64 (-2:Int))]) i_)) k_) ((fun i=>As ((Q233 l23 i22).getD i 0)) k_) from(Ci (G2 ..).symm (fun k_ hk_=>(Cl (AV.eraseAll Q239) ((Kb (fun _ _=>rfl) (L1 hc25) rfl) k_ hk_)).trans rfl)))) (Wh (fun(k_:Nat) u=>(Ew u [(11,(.vsl 75 k_))] [(75,.arr 1 3 k_ (fun i=>As ((Q233 l23 i22).getD i 0)))])) (show l23.length=(Q233 l23 i22).length from(G2 ..).symm))) ?_;obtain⟨x28,hx28,h⟩:=bind_some h;refine gJ hx28 (fun l26=>aG Γ .normal (⟨[(1,(Z7 a3)),(5,(Z7 (N1 a2))),(S0 37 x19.length),(11,(.vsl 75 l26.length)),(12,(Z7 i22))],[(37,.arr 1 47 x19.length (fun i=>eLB (x19.getD i []))),(Z4 75 l26)],[]⟩:St)) ?_ ?_
     ·clear h hx28;intro y h;refine Ae hq [1,5,7,11,12,86] Kl ?_;refine gC h ?_ ?_<;>intro h
      ·obtain⟨hc27,h⟩:=Aa h;refine gR hq zzN47 Kl [] [] (ci hc27 (c1 (Eq.refl ((Q233 l23 i22).length)))) ?_;cases h;exact gK (Bm (Le.trans (Le.trans (Wg 75 (show ∀ k_,k_<((Q233 l23 i22).length)->AVleL ((fun i_=>AV.eraseAll Q239 ((Gx (fun i=>As ((Q233 l23 i22).getD i 0)) i22.toNat 0 [(.int .i64 (-1:Int))]) i_)) k_) ((fun i=>As (((Q233 l23 i22).set i22.toNat (-1:Int)).getD i 0)) k_) from(Ci (G2 ..).symm (fun k_ hk_=>(Cl (AV.eraseAll Q239) ((Kb (fun _ _=>rfl) (L1 hc27) rfl) k_ hk_)).trans rfl)))) (Wh (fun(k_:Nat) u=>(Ew u [(11,(.vsl 75 k_))] [(75,.arr 1 3 k_ (fun i=>As (((Q233 l23 i22).set i22.toNat (-1:Int)).getD i 0)))])) (show(Q233 l23 i22).length=((Q233 l23 i22).set i22.toNat (-1:Int)).length from(G2 ..).symm))) C1))
      ·cases h;exact gK (Bm (B7 zzN47 Kl hq))
     ·clear hx28;refine gA ?_;refine Ae hq zzN54 Kl ?_;obtain⟨x48,hx48,h⟩:=bind_some h;refine gL hq hx48 zzN54 Kl (fun u (i30,l31)=>(Ew u [(11,(.vsl 75 l31.length)),(13,(Z7 i30))] [(Z4 75 l31)])) (fun u l32=>aG Γ (.exit 6) (Pa zzN47 Kl u [(11,(.vsl 75 l32.length))] [(Z4 75 l32)])) ?_ ?_
      ·rintro⟨i30,l31⟩ y h;unfold Bt at h;refine gR hq [1,5,7,11,12,13,97] Kl [] [] (ci (gI ((decide (i30<(N1 a2)))==true)) (ci (gI ((decide (i30<(N1 a2)))==true)) (c1 (Nb (decide (i30<(N1 a2))))))) ?_;refine gC h ?_ ?_<;>intro h
       ·obtain⟨x46,hx46,h⟩:=bind_some h;refine gJ hx46 (fun l33=>aG Γ .normal (⟨[(1,(Z7 a3)),(5,(Z7 (N1 a2))),(S0 37 x19.length),(11,(.vsl 75 l33.length)),(12,(Z7 i22)),(13,(Z7 i30))],[(37,.arr 1 47 x19.length (fun i=>eLB (x19.getD i []))),(Z4 75 l33)],[]⟩:St)) ?_ ?_
        ·clear h hx46;intro y h;obtain⟨hc34,h⟩:=Aa h;obtain⟨hc35,h⟩:=Aa h;refine gR hq [1,5,7,11,12,13,112] Kl [] [] (ci (gI (Q234 i30 i22)) (ci (gI (Q234 i30 i22)) (ci hc34 (ci (gI (Q234 i30 i22)) (ci (show((Q234 i30 i22)=true->(x19.length=x19.length)) from(fun hg=>rfl)) (ci (gI (Q234 i30 i22)) (ci (gI (Q234 i30 i22)) (ci hc35 (ci (gI (Q234 i30 i22)) (ci (gI (Q234 i30 i22)) (c1 (Ko (i30==i22))))))))))))) ?_;refine gC h ?_ ?_<;>intro h
         ·obtain rfl:=OI h;exact gK (Bm (B7 zzN54 Kl hq))
         ·refine Ae hq zzN106 Kl ?_;refine Ae hq zzN62 Kl ?_;obtain⟨x43,hx43,h⟩:=bind_some h;refine gL hq hx43 zzN62 Kl (fun u (b36,i37)=>(Ew u [(14,(.bool b36)),(15,(Z7 i37))] [])) (fun u b38=>aG Γ (.exit 8) (Pa zzN106 Kl u [(14,(.bool b38))] [])) ?_ ?_
          ·rintro⟨b36,i37⟩ y h;unfold C7 at h;refine Ae hq [1,5,7,11,12,13,14,15,115] Kl ?_;refine gC h ?_ ?_<;>intro h
           ·obtain⟨hc39,h⟩:=Aa h;obtain⟨hc40,h⟩:=Aa h;obtain⟨hc41,h⟩:=Aa h;obtain⟨hc42,h⟩:=Aa h;refine gR hq zzN62 Kl [] [] (ci (gI (b36==true)) (ci (gI (b36==true)) (ci (gI (b36==true)) (ci (gI (Q227 b36 i37 i22)) (ci (gI (Q227 b36 i37 i22)) (ci hc39 (ci (gI (Q227 b36 i37 i22)) (ci (show((Q227 b36 i37 i22)=true->(x19.length=x19.length)) from(fun hg=>rfl)) (ci (gI (Q227 b36 i37 i22)) (ci (gI (Q227 b36 i37 i22)) (ci hc40 (ci (gI (Q227 b36 i37 i22)) (ci (gI (Q227 b36 i37 i22)) (ci (gI (b36==true)) (ci (show((b36==true)=true->((i37==i22)=false->(Q227 b36 i37 i22)=true)) from(fun hg=>(aF hg))) (ci (gI (b36==true)) (ci (gI (Q222 b36 i37 i22 x19)) (ci (gI (Q222 b36 i37 i22 x19)) (ci hc41 (ci (gI (Q222 b36 i37 i22 x19)) (ci (show((Q222 b36 i37 i22 x19)=true->(x19.length=x19.length)) from(fun hg=>rfl)) (ci (gI (Q222 b36 i37 i22 x19)) (ci (gI (Q222 b36 i37 i22 x19)) (ci hc42 (ci (gI (Q222 b36 i37 i22 x19)) (ci (gI (b36==true)) (ci (show((b36==true)=true->((bif (i37==i22) then true else(!((x19.getD i37.toNat []).getD i22.toNat false)))=false->(Q222 b36 i37 i22 x19)=true)) from(fun hg=>(aF hg))) (c1 (Nb b36))))))))))))))))))))))))))))) ?_;refine Ae hq zzN62 Kl ?_;cases h;exact gN C1
           ·cases h;exact gO (Bm (B7 zzN106 Kl hq))
          ·clear hx43;refine gA ?_;refine Ae hq [1,5,7,11,12,13,143] Kl ?_;refine gC h ?_ ?_<;>intro h
           ·obtain⟨hc45,h⟩:=Aa h;refine gR hq zzN54 Kl [] [] (ci hc45 (c1 (Eq.refl l31.length))) ?_;cases h;exact gK (Bm (Le.trans (Le.trans (Wg 75 (show ∀ k_,k_<l31.length->AVleL ((fun i_=>AV.eraseAll Q239 ((Gx (fun i=>As (l31.getD i 0)) i22.toNat 0 [(Z7 i30)]) i_)) k_) ((fun i=>As ((l31.set i22.toNat i30).getD i 0)) k_) from(Ci (G2 ..).symm (fun k_ hk_=>(Cl (AV.eraseAll Q239) ((Kb (fun _ _=>rfl) (L1 hc45) rfl) k_ hk_)).trans rfl)))) (Wh (fun(k_:Nat) u=>(Ew u [(11,(.vsl 75 k_))] [(75,.arr 1 3 k_ (fun i=>As ((l31.set i22.toNat i30).getD i 0)))])) (show l31.length=(l31.set i22.toNat i30).length from(G2 ..).symm))) C1))
           ·obtain rfl:=OI h;exact gK (Bm (B7 zzN54 Kl hq))
        ·clear hx46;refine gA ?_;refine Ae hq zzN54 Kl ?_;cases h;exact gN C1
       ·cases h;exact gO (Bm (B7 zzN47 Kl hq))
      ·clear hx48;refine gA ?_;refine Ae hq zzN47 Kl ?_;cases h;exact gN C1
    ·cases h;exact gO (Bm (B7 [11] [75] hq))
   ·clear hx50;refine gA ?_;refine Ae hq [4] [75] ?_;refine Qk (⟨[(4,(.vsl 75 x50.length))],[(Z4 75 x50)],[]⟩:St) ?_;obtain rfl:=OI h;exact gK (e:=.ret) (Kf [(75,20000)] (Le.trans (Jz (nm:=75) (sz:=1) (n:=x50.length) (e:=3) (f:=(fun i=>As (x50.getD i 0))) (g:=(fun i=>As (x50.getD i 0))) rfl ⟨rfl,trivial⟩ (fun _ _=>rfl) (by rw[hΓ];rfl)) (Ju (st':=(Z73 x50 75 x50.length)) (by kernel_rfl))))
def B9(a6:List Int):(Int×List Int)->Option (LR (Int×List Int) (Unit ⊕ List Int)):=
 fun((i1,l2):(Int×List Int))=>(bif (bif (bif (decide (((l2.length:Int):Int)<(a6.length:Int))) then(decide (((0:Int):Int)<=i1)) else false) then(decide (i1<(a6.length:Int))) else false) then(A7 (l2.length+([i1]:List Int).length<=room) (A7 (A5 i1 a6.length) (bif (((a6.getD i1.toNat 0):Int)==-1) then(some (.done (.inr (l2++([i1]:List Int))))) else(A7 (A5 i1 a6.length) (some (.next ((a6.getD i1.toNat 0),(l2++([i1]:List Int))))))))) else(some (.done (.inl ()))))
def W7(Γ:Ix)(a6:List Int)(aH:Int)(r:List Int):Exit->St->Prop:=fK Tryz.prog Γ Tryz.f88.results.toList [] (Z13 r 20000) [(20000,.tok 1 3 r.length)]
def Q243:AV:=Z24
def Q242(l2:List Int)(a6:List Int)(i1:Int):=(bif (decide (((l2.length:Int):Int)<(a6.length:Int))) then(decide (((0:Int):Int)<=i1)) else false)
def Q245:=(Z27:St)
def Q244(a6:List Int)(aH:Int):=(⟨[(0,(Z8 a6)),(1,(Z7 aH)),(5,(AV.list 1 As 0 ([]:List Int) (.own 5005)))],[(5005,.tok 1 3 (([]:List Int).length))],[]⟩:St)
def Ff(a6:List Int)(aH:Int):Option (List Int):=
 ((Ag (B9 a6) (aH,([]:List Int))).bind (fun x6=>(match x6 with|(.inl _)=>(some ([]:List Int))|(.inr r8)=>(some r8))))
theorem Lz(a6:List Int)(aH:Int)(r:List Int)(h:Ff a6 aH=some r):Spec Tryz.prog 88 [(Z8 a6),(Z7 aH)] [] (Z13 r 20000) [(20000,.tok 1 3 r.length)]:=by
 refine Ab mix Tryz.func88 (fun Γ hq=>?_);unfold Ff at h;refine gR hq Jo [] [(4,Q243)] [] (c1 (Do 1 As (0:Int))) ?_;refine gR hq Og [] [(5,Q243)] [] (c1 (Do 1 As (0:Int))) ?_;refine Oi (st':=(Q244 a6 aH)) (Le.trans (B7 (st':=⟨[(0,(Z8 a6)),(1,(Z7 aH)),(5,Q243)],[],[]⟩) Og [] hq) (Le.trans (N4 (t:=5) (nm:=5005) (sz':=1) (fun i=>As (([]:List Int).getD i 0)) 3 rfl rfl (.inl ⟨rfl,rfl⟩) (fun h_=>absurd h_ (by decide))) (B7 (st':=(Q244 a6 aH)) Og [5005] hq))) ?_;obtain⟨x6,hx6,h⟩:=bind_some h;refine gL hq hx6 Og [5005] (fun u (i1,l2)=>(Ew u [(1,(Z7 i1)),(5,(Z13 l2 5005))] [(5005,.tok 1 3 l2.length)])) (fun u x_=>match x_ with|(.inl _)=>aG Γ (.exit 0) (⟨[],[],[]⟩:St)|(.inr r_)=>aR (W7 Γ a6 aH r_)) ?_ ?_
 ·rintro⟨i1,l2⟩ y h;unfold B9 at h;refine gR hq [0,1,5,20] [5005] [] [] (ci (gI ((decide (((l2.length:Int):Int)<(a6.length:Int)))==true)) (ci (Nb (decide (((l2.length:Int):Int)<(a6.length:Int)))) (ci (gI ((Q242 l2 a6 i1)==true)) (ci (gI ((Q242 l2 a6 i1)==true)) (ci (gI ((Q242 l2 a6 i1)==true)) (c1 (Nb (Q242 l2 a6 i1)))))))) ?_;refine gC h ?_ ?_<;>intro h
  ·obtain⟨hc3,h⟩:=Aa h;refine gR hq Og [5005] [(23,(Z25 i1)),(24,(AV.list 1 As 0 (l2++([i1]:List Int)) (.own 5005)))] [] (ci (Bu 1 As (0:Int) ([i1]:List Int)) (ci (Eq.refl l2.length) (ci hc3 (ci (Jr 1 5005 As (0:Int) l2 ([i1]:List Int)) (c1 (Fz l2 ([i1]:List Int))))))) ?_;obtain⟨hc4,h⟩:=Aa h;refine gR hq [0,1,5,29] [5005] [] [] (c1 hc4) ?_;refine gC h ?_ ?_<;>intro h
   ·refine Ae hq [4] [5005] ?_;cases h;exact gO (L8 (Kf [(5005,20000)] (Le.refl _ _)))
   ·obtain⟨hc5,h⟩:=Aa h;refine gR hq Og [5005] [] [] (c1 hc5) ?_;cases h;exact gN C1
  ·cases h;exact gO (Bm (B7 [] [] hq))
 ·clear hx6;rcases x6 with _|r8
  ·refine gA ?_;refine gR hq [4] [] [(4,Q243)] [] (c1 (Do 1 As (0:Int))) ?_;refine Qk (⟨[(4,Q243)],[],[]⟩:St) ?_;cases h;exact gK (e:=.ret) (Kf zzN99 (show Le Γ _ Q245 from Le.trans (B7 (st':=⟨[(4,Q243)],[],[]⟩) [4] [] hq) (Le.trans (N4 (t:=4) (nm:=6004) (sz':=1) (fun i=>As (([]:List Int).getD i 0)) 3 rfl rfl (.inl ⟨rfl,rfl⟩) (fun h_=>absurd h_ (by decide))) (B7 (st':=Q245) [4] [6004] hq))))
  ·refine Ol (fun st' hk=>?_);obtain rfl:=OI h;exact gK hk
def Bj(a6:List Int):(Int×Int)->Option (LR (Int×Int) (Int ⊕ Bool)):=
 fun((i1,i2):(Int×Int))=>(bif (decide (i2<(a6.length:Int))) then(Option.bind (α:=Int) (A7 (A5 i2 a6.length) (bif (((a6.getD i2.toNat 0):Int)==-1) then(some (w64 (i1+1))) else(some i1))) (fun x6=>(A7 (A5 i2 a6.length) ((bif ((((a6.getD i2.toNat 0):Int)!=-2)==true) then Ff a6 i2 else some []).bind fun x9=>(bif (bif (((a6.getD i2.toNat 0):Int)!=-2) then(((x9.length:Int):Int)==0) else false) then(some (.done (.inr false))) else(some (.next (x6,(w64 (i2+1)))))))))) else(some (.done (.inl i1))))
def We(Γ:Ix)(a6:List Int)(r:Bool):Exit->St->Prop:=fK Tryz.prog Γ Tryz.f87.results.toList [] (.bool r) []
def Q246(a6:List Int)(i2:Int):=(((a6.getD i2.toNat 0):Int)!=-2)
def Hj(a6:List Int):Option Bool:=
 ((Ag (Bj a6) ((0:Int),(0:Int))).bind (fun x10=>(match x10 with|(.inl i3)=>(some (i3==1))|(.inr r12)=>(some r12))))
theorem U7(a6:List Int)(r:Bool)(h:Hj a6=some r):Spec Tryz.prog 87 [(Z8 a6)] [] (.bool r) []:=by
 refine Ab mix Tryz.func87 (fun Γ hq=>?_);unfold Hj at h;refine Ae hq [0] [] ?_;refine Ae hq Qr [] ?_;refine Ae hq zzN121 [] ?_;obtain⟨x10,hx10,h⟩:=bind_some h;refine gL hq hx10 zzN121 [] (fun u (i1,i2)=>(Ew u [(3,(Z7 i1)),(4,(Z7 i2))] [])) (fun u x_=>match x_ with|(.inl i3)=>aG Γ (.exit 0) (⟨[(3,(Z7 i3))],[],[]⟩:St)|(.inr r_)=>aR (We Γ a6 r_)) ?_ ?_
 ·rintro⟨i1,i2⟩ y h;unfold Bj at h;refine Ae hq [0,3,4,8] [] ?_;refine gC h ?_ ?_<;>intro h
  ·obtain⟨x6,hx6,h⟩:=bind_some h;refine gJ hx6 (fun i4=>aG Γ .normal (⟨[(0,(Z8 a6)),(3,(Z7 i4)),(4,(Z7 i2))],[],[]⟩:St)) ?_ ?_
   ·clear h hx6;intro y h;obtain⟨hc5,h⟩:=Aa h;refine gR hq [0,3,4,15] [] [] [] (c1 hc5) ?_;refine gC h ?_ ?_<;>intro h
    ·refine Ae hq zzN121 [] ?_;cases h;exact gK (Bm C1)
    ·obtain rfl:=OI h;exact gK (Bm (B7 zzN121 [] hq))
   ·clear hx6;refine gA ?_;obtain⟨hc8,h⟩:=Aa h;obtain⟨x9,hx9,h⟩:=bind_some h;refine gR hq [0,3,4,29] [] [] [⟨[],[],(Z8 x9),[],[],[]⟩] (ci hc8 (ci (gI ((Q246 a6 i2)==true)) (ci (gI ((Q246 a6 i2)==true)) (ci (show(((Q246 a6 i2)==true)=true->(Spec Tryz.prog 88 [(Z8 a6),(Z7 i2)] [] (Z8 x9) [])) from(fun hg=>(Spec.drop (Lz a6 i2 x9 (Bh hg hx9))))) (ci (gI ((Q246 a6 i2)==true)) (ci (gI ((Q246 a6 i2)==true)) (c1 (Nb (Q246 a6 i2))))))))) ?_;refine gC h ?_ ?_<;>intro h
    ·refine Ae hq [2] [] ?_;cases h;exact gO (L8 (Kf [] (Le.refl _ _)))
    ·refine Ae hq zzN121 [] ?_;cases h;exact gN C1
  ·cases h;exact gO (Bm (B7 [3] [] hq))
 ·clear hx10;rcases x10 with i3|r12
  ·refine gA ?_;refine Ae hq [2] [] ?_;cases h;exact Cu []
  ·refine Ol (fun st' hk=>?_);obtain rfl:=OI h;exact gK hk
def Ba(x2:List Int)(x3:List Int):Int->Option (LR Int (Unit ⊕ Int)):=
 fun(i4:Int)=>(bif (decide (i4<(x2.length:Int))) then(A7 (A5 i4 x2.length) ((Fy x3 (x2.getD i4.toNat 0)).bind fun x6=>(bif x6 then(A7 (A5 i4 x2.length) (some (.done (.inr (x2.getD i4.toNat 0))))) else(some (.next (w64 (i4+1))))))) else(some (.done (.inl ()))))
def W6(Γ:Ix)(a6:List Int)(aH:Int)(aJ:Int)(r:Int):Exit->St->Prop:=fK Tryz.prog Γ Tryz.f54.results.toList [] (.int .i64 r) []
def Ii(a6:List Int)(aH:Int)(aJ:Int):Option Int:=
 ((Hj a6).bind fun x1=>(bif (!x1) then(some (-2:Int)) else((Ff a6 aH).bind fun x2=>((Ff a6 aJ).bind fun x3=>((Ag (Ba x2 x3) (0:Int)).bind (fun x8=>(match x8 with|(.inl _)=>(some (-2:Int))|(.inr r10)=>(some r10))))))))
theorem Wt(a6:List Int)(aH:Int)(aJ:Int)(r:Int)(h:Ii a6 aH aJ=some r):Spec Tryz.prog 54 [(Z8 a6),(Z7 aH),(Z7 aJ)] [] (.int .i64 r) []:=by
 refine Ab mix Tryz.func54 (fun Γ hq=>?_);unfold Ii at h;refine Ae hq zzN161 [] ?_;obtain⟨x1,hx1,h⟩:=bind_some h;refine gR hq [0,1,2,12] [] [] [(Z2 x1)] (c1 (U7 a6 x1 hx1)) ?_;refine gC h ?_ ?_<;>intro h
 ·refine Ae hq [6] [] ?_;cases h;exact Cu []
 ·obtain⟨x2,hx2,h⟩:=bind_some h;refine gR hq zzN163 [15] [] [(Z45 15 x2 x2.length)] (c1 (Lz a6 aH x2 hx2)) ?_;obtain⟨x3,hx3,h⟩:=bind_some h;refine gR hq [7,8] zzN158 [] [(Z45 18 x3 x3.length)] (c1 (Lz a6 aJ x3 hx3)) ?_;refine Ae hq [7,8,9] zzN158 ?_;obtain⟨x8,hx8,h⟩:=bind_some h;refine gL hq hx8 [7,8,9] zzN158 (fun u i4=>(Ew u [(9,(Z7 i4))] [])) (fun u x_=>match x_ with|(.inl _)=>aG Γ (.exit 0) (⟨[],[],[]⟩:St)|(.inr r_)=>aR (W6 Γ a6 aH aJ r_)) ?_ ?_
  ·intro i4 y h;unfold Ba at h;refine Ae hq [7,8,9,22] zzN158 ?_;refine gC h ?_ ?_<;>intro h
   ·obtain⟨hc5,h⟩:=Aa h;obtain⟨x6,hx6,h⟩:=bind_some h;refine gR hq [7,8,9,30] zzN158 [] [(Z2 x6)] (ci hc5 (c1 (Mn x3 (x2.getD i4.toNat 0) x6 hx6))) ?_;refine gC h ?_ ?_<;>intro h
    ·obtain⟨hc7,h⟩:=Aa h;refine gR hq [6] [] [] [] (c1 hc7) ?_;cases h;exact gO (L8 (Kf [] (Le.refl _ _)))
    ·refine Ae hq [7,8,9] zzN158 ?_;cases h;exact gN C1
   ·cases h;exact gO (Bm (B7 [] [] hq))
  ·clear hx8;rcases x8 with _|r10
   ·refine gA ?_;refine Ae hq [6] [] ?_;cases h;exact Cu []
   ·refine Ol (fun st' hk=>?_);obtain rfl:=OI h;exact gK hk
def Eh(x4:List Bv):Int->Option (LR Int (Unit ⊕ Int)):=
 fun(i5:Int)=>(bif (decide (i5<(x4.length:Int))) then(A7 (A5 i5 x4.length) ((Es ((x4.getD i5.toNat default).V)).bind fun x7=>(A7 (((!x7)==false)=true->(A5 i5 x4.length)) ((bif ((!x7)==false) then D8 x4 ((x4.getD i5.toNat default).V) else some (0:Int)).bind fun x9=>(bif (bif (!x7) then true else(x9 !=i5)) then(some (.done (.inr (7:Int)))) else(some (.next (w64 (i5+1))))))))) else(some (.done (.inl ()))))
def Dj(x4:List Bv)(x12:List Ck):Int->Option (LR Int (Unit ⊕ Int)):=
 fun(i13:Int)=>(bif (decide (i13<(x12.length:Int))) then(A7 (A5 i13 x12.length) ((D8 x4 ((x12.getD i13.toNat default).V)).bind fun x15=>(bif (decide (x15<0)) then(some (.done (.inr (7:Int)))) else(some (.next (w64 (i13+1))))))) else(some (.done (.inl ()))))
def Dk(x4:List Bv)(x12:List Ck):Int->Option (LR Int (Unit ⊕ Int)):=
 fun(i18:Int)=>(bif (decide (i18<(x12.length:Int))) then(A7 (A5 i18 x12.length) ((D8 x4 ((x12.getD i18.toNat default).V)).bind fun x20=>(A7 (A5 x20 x4.length) (A7 (A5 i18 x12.length) (bif (!((((x4.getD x20.toNat default).Shape.1:Int)==(x12.getD i18.toNat default).Shape.1)&&((((x4.getD x20.toNat default).Shape.2:Int)==(x12.getD i18.toNat default).Shape.2)&&true))) then(some (.done (.inr (6:Int)))) else(some (.next (w64 (i18+1))))))))) else(some (.done (.inl ()))))
def Cp(x4:List Bv)(x12:List Ck)(x26:List Int):Int->Option (LR Int (Unit ⊕ Int)):=
 fun(i27:Int)=>(bif (decide (i27<(x12.length:Int))) then(Option.bind (α:=(Unit ⊕ Int)) (A7 (A5 i27 x12.length) ((D8 x4 ((x12.getD i27.toNat default).V)).bind fun x29=>(A7 (A5 x29 x4.length) (bif (bif (decide (((x4.getD x29.toNat default).Block:Int)<0)) then true else(bif (((x4.getD x29.toNat default).Block:Int)==(x12.getD i27.toNat default).Block) then(decide (((x4.getD x29.toNat default).At:Int)<(x12.getD i27.toNat default).At)) else false)) then(some (.inl ())) else((bif ((((x4.getD x29.toNat default).Block:Int)==(x12.getD i27.toNat default).Block)==false) then Ii x26 ((x4.getD x29.toNat default).Block) ((x12.getD i27.toNat default).Block) else some (0:Int)).bind fun x31=>(bif (bif (((x4.getD x29.toNat default).Block:Int)==(x12.getD i27.toNat default).Block) then true else(x31 !=(x4.getD x29.toNat default).Block)) then(some (.inr (7:Int))) else(some (.inl ())))))))) (fun x32=>(match x32 with|(.inl _)=>(some (.next (w64 (i27+1))))|(.inr r34)=>(some (.done (.inr r34)))))) else(some (.done (.inl ()))))
def Hb(Γ:Ix)(a0:TFunc)(a3:Int)(r:Int):Exit->St->Prop:=fK Tryz.prog Γ Tryz.f24.results.toList [] (.int .i64 r) []
def Q248(x4:List Bv)(x29:Int):=((decide (((x4.getD x29.toNat default).Block:Int)<0))==false)
def Zk(x4:List Bv)(x29:Int)(x12:List Ck)(i27:Int):=(((x4.getD x29.toNat default).Block:Int)==(x12.getD i27.toNat default).Block)
def Et(a0:TFunc)(a3:Int):Option Int:=
 (bif (bif (decide (a3<0)) then true else(decide (((2:Int):Int)<a3))) then(some (1:Int)) else((G4 a0).bind fun x1=>(bif (!x1) then(some (4:Int)) else((Hl a0).bind fun x2=>(bif (!x2) then(some (5:Int)) else((Hm a0 a3).bind fun x3=>(bif (!x3) then(some (6:Int)) else((Ik a0).bind fun x4=>((Ag (Eh x4) (0:Int)).bind (fun x10=>(match x10 with|(.inl _)=>((Il a0).bind fun x12=>((Ag (Dj x4 x12) (0:Int)).bind (fun x16=>(match x16 with|(.inl _)=>((Ag (Dk x4 x12) (0:Int)).bind (fun x23=>(match x23 with|(.inl _)=>((Hx a0).bind fun x25=>((Ij x25.1 (0:Int)).bind fun x26=>((Ag (Cp x4 x12 x26) (0:Int)).bind (fun x35=>(match x35 with|(.inl _)=>(some (0:Int))|(.inr r37)=>(some r37))))))|(.inr r38)=>(some r38))))|(.inr r39)=>(some r39)))))|(.inr r40)=>(some r40))))))))))))
theorem U8(a0:TFunc)(a3:Int)(r:Int)(h:Et a0 a3=some r):Spec Tryz.prog 24 [(Z44 a0),(Z7 a3)] [] (.int .i64 r) []:=by
 refine Ab mix Tryz.func24 (fun Γ hq=>?_);unfold Et at h;refine Ae hq Mu [2] ?_;refine gR hq [1,2,21] [2] [] [] (ci (gI ((decide (a3<0))==false)) (c1 (Ko (decide (a3<0))))) ?_;refine gC h ?_ ?_<;>intro h
 ·refine Ae hq [4] [] ?_;cases h;exact Cu []
 ·obtain⟨x1,hx1,h⟩:=bind_some h;refine gR hq [1,2,24] [2] [] [(Z2 x1)] (c1 (Xz a0 x1 hx1)) ?_;refine gC h ?_ ?_<;>intro h
  ·refine Ae hq [4] [] ?_;cases h;exact Cu []
  ·obtain⟨x2,hx2,h⟩:=bind_some h;refine gR hq [1,2,27] [2] [] [(Z2 x2)] (c1 (Va a0 x2 hx2)) ?_;refine gC h ?_ ?_<;>intro h
   ·refine Ae hq [4] [] ?_;cases h;exact Cu []
   ·obtain⟨x3,hx3,h⟩:=bind_some h;refine gR hq [2,31] [2] [] [(Z2 x3)] (c1 (Vb a0 a3 x3 hx3)) ?_;refine gC h ?_ ?_<;>intro h
    ·refine Ae hq [4] [] ?_;cases h;exact Cu []
    ·obtain⟨x4,hx4,h⟩:=bind_some h;refine gR hq Ti Yq [] [⟨[],[(20000,33)],(AV.list 5 Oc default x4 (.own 20000)),[(L7 20000 90 x4.length)],[],[]⟩] (c1 (Wv a0 x4 hx4)) ?_;refine Ae hq Ua Yq ?_;obtain⟨x10,hx10,h⟩:=bind_some h;refine gL hq hx10 Ua Yq (fun u i5=>(Ew u [(6,(Z7 i5))] [])) (fun u x_=>match x_ with|(.inl _)=>aG Γ (.exit 0) (Pa Ti Yq u [] [])|(.inr r_)=>aR (Hb Γ a0 a3 r_)) ?_ ?_
     ·intro i5 y h;unfold Eh at h;refine Ae hq [2,5,6,37] Yq ?_;refine gC h ?_ ?_<;>intro h
      ·obtain⟨hc6,h⟩:=Aa h;obtain⟨x7,hx7,h⟩:=bind_some h;obtain⟨hc8,h⟩:=Aa h;obtain⟨x9,hx9,h⟩:=bind_some h;refine gR hq [2,5,6,57] Yq [] [(Z2 x7),(Z19 x9)] (ci hc6 (ci (Lk ((x4.getD i5.toNat default).V) x7 hx7) (ci (gI ((!x7)==false)) (ci (gI ((!x7)==false)) (ci hc8 (ci (gI ((!x7)==false)) (ci (gI ((!x7)==false)) (ci (gI ((!x7)==false)) (ci (gI ((!x7)==false)) (ci (fun(hg:((!x7)==false)=true)=>(Js x4 ((x4.getD i5.toNat default).V) x9 (Bh hg hx9))) (ci (gI ((!x7)==false)) (ci (gI ((!x7)==false)) (c1 (Ko (!x7))))))))))))))) ?_;refine gC h ?_ ?_<;>intro h
       ·refine Ae hq [4] [] ?_;cases h;exact gO (L8 (Kf [] (Le.refl _ _)))
       ·refine Ae hq Ua Yq ?_;cases h;exact gN C1
      ·cases h;exact gO (Bm (B7 Ti Yq hq))
     ·clear hx10;rcases x10 with _|r40
      ·refine gA ?_;obtain⟨x12,hx12,h⟩:=bind_some h;refine gR hq zzN169 Sb [] [⟨[],[(20000,59)],(AV.list 5 Nm default x12 (.own 20000)),[(L7 20000 94 x12.length)],[],[]⟩] (c1 (Ww a0 x12 hx12)) ?_;refine Ae hq [2,5,7,8] Sb ?_;obtain⟨x16,hx16,h⟩:=bind_some h;refine gL hq hx16 [2,5,7,8] Sb (fun u i13=>(Ew u [(8,(Z7 i13))] [])) (fun u x_=>match x_ with|(.inl _)=>aG Γ (.exit 2) (Pa zzN169 Sb u [] [])|(.inr r_)=>aR (Hb Γ a0 a3 r_)) ?_ ?_
       ·intro i13 y h;unfold Dj at h;refine Ae hq [2,5,7,8,63] Sb ?_;refine gC h ?_ ?_<;>intro h
        ·obtain⟨hc14,h⟩:=Aa h;obtain⟨x15,hx15,h⟩:=bind_some h;refine gR hq [2,5,7,8,73] Sb [] [(Z19 x15)] (ci hc14 (c1 (Js x4 ((x12.getD i13.toNat default).V) x15 hx15))) ?_;refine gC h ?_ ?_<;>intro h
         ·refine Ae hq [4] [] ?_;cases h;exact gO (L8 (Kf [] (Le.refl _ _)))
         ·refine Ae hq [2,5,7,8] Sb ?_;cases h;exact gN C1
        ·cases h;exact gO (Bm (B7 zzN169 Sb hq))
       ·clear hx16;rcases x16 with _|r39
        ·refine gA ?_;refine Ae hq [2,5,7,9] Sb ?_;obtain⟨x23,hx23,h⟩:=bind_some h;refine gL hq hx23 [2,5,7,9] Sb (fun u i18=>(Ew u [(9,(Z7 i18))] [])) (fun u x_=>match x_ with|(.inl _)=>aG Γ (.exit 4) (Pa zzN169 Sb u [] [])|(.inr r_)=>aR (Hb Γ a0 a3 r_)) ?_ ?_
         ·intro i18 y h;unfold Dk at h;refine Ae hq [2,5,7,9,77] Sb ?_;refine gC h ?_ ?_<;>intro h
          ·obtain⟨hc19,h⟩:=Aa h;obtain⟨x20,hx20,h⟩:=bind_some h;obtain⟨hc21,h⟩:=Aa h;obtain⟨hc22,h⟩:=Aa h;refine gR hq [2,5,7,9,96] Sb [] [(Z19 x20)] (ci hc19 (ci (Js x4 ((x12.getD i18.toNat default).V) x20 hx20) (ci hc21 (c1 hc22)))) ?_;refine gC h ?_ ?_<;>intro h
           ·refine Ae hq [4] [] ?_;cases h;exact gO (L8 (Kf [] (Le.refl _ _)))
           ·refine Ae hq [2,5,7,9] Sb ?_;cases h;exact gN C1
          ·cases h;exact gO (Bm (B7 zzN169 Sb hq))
         ·clear hx23;rcases x23 with _|r38
          ·refine gA ?_;obtain⟨x25,hx25,h⟩:=bind_some h;refine gR hq [5,7,10] [10,33,59] [] [(Z35 x25.1 x25.2)] (c1 (Ql a0 x25 hx25)) ?_;obtain⟨x26,hx26,h⟩:=bind_some h;refine gR hq [5,7,12] zzN73 [] [(Z45 103 x26 x26.length)] (c1 (Wu x25.1 (0:Int) x26 hx26)) ?_;refine Ae hq zzN116 zzN73 ?_;obtain⟨x35,hx35,h⟩:=bind_some h;refine gL hq hx35 zzN116 zzN73 (fun u i27=>(Ew u [(13,(Z7 i27))] [])) (fun u x_=>match x_ with|(.inl _)=>aG Γ (.exit 6) (⟨[],[],[]⟩:St)|(.inr r_)=>aR (Hb Γ a0 a3 r_)) ?_ ?_
           ·intro i27 y h;unfold Cp at h;refine Ae hq [5,7,12,13,107] zzN73 ?_;refine gC h ?_ ?_<;>intro h
            ·obtain⟨x32,hx32,h⟩:=bind_some h;refine gJ hx32 (fun x_=>match x_ with|(.inl _)=>aG Γ .normal (⟨[(5,(AV.list 5 Oc default x4 (.own 33))),(7,(AV.list 5 Nm default x12 (.own 59))),(12,(Z13 x26 103)),(13,(Z7 i27))],[(L7 33 90 x4.length),(L7 59 94 x12.length),(103,.tok 1 3 x26.length)],[]⟩:St)|(.inr r_)=>aR (Hb Γ a0 a3 r_)) ?_ ?_
             ·clear h hx32;intro y h;obtain⟨hc28,h⟩:=Aa h;refine gR hq [5,7,12,13,14] [14,33,59,103] [] [] (c1 hc28) ?_;obtain⟨x29,hx29,h⟩:=bind_some h;obtain⟨hc30,h⟩:=Aa h;refine gR hq [5,7,12,13,14,15] [14,15,33,59,103] [] [(Z19 x29)] (ci (Js x4 ((x12.getD i27.toNat default).V) x29 hx29) (c1 hc30)) ?_;refine gR hq [5,7,12,13,14,15,137] [14,15,33,59,103] [] [] (ci (gI (Q248 x4 x29)) (ci (gI (Q248 x4 x29)) (ci (gI (Q248 x4 x29)) (ci (gI (Q248 x4 x29)) (ci (gI (Q248 x4 x29)) (ci (gI ((Q248 x4 x29)&&((Zk x4 x29 x12 i27)==true))) (ci (gI ((Q248 x4 x29)&&((Zk x4 x29 x12 i27)==true))) (ci (gI ((Q248 x4 x29)&&((Zk x4 x29 x12 i27)==true))) (ci (gI ((Q248 x4 x29)&&((Zk x4 x29 x12 i27)==true))) (ci (gI (Q248 x4 x29)) (ci (show((Q248 x4 x29)=true->((Zk x4 x29 x12 i27)=true->((Q248 x4 x29)&&((Zk x4 x29 x12 i27)==true))=true)) from(fun hg=>(aT hg))) (c1 (Ko (decide (((x4.getD x29.toNat default).Block:Int)<0))))))))))))))) ?_;refine gC h ?_ ?_<;>intro h
              ·cases h;exact gK (Bm (B7 zzN116 zzN73 hq))
              ·obtain⟨x31,hx31,h⟩:=bind_some h;refine gR hq [5,7,12,13,153] zzN73 [] [(Z19 x31)] (ci (gI ((Zk x4 x29 x12 i27)==false)) (ci (gI ((Zk x4 x29 x12 i27)==false)) (ci (gI ((Zk x4 x29 x12 i27)==false)) (ci (gI ((Zk x4 x29 x12 i27)==false)) (ci (gI ((Zk x4 x29 x12 i27)==false)) (ci (fun(hg:((Zk x4 x29 x12 i27)==false)=true)=>(Wt x26 ((x4.getD x29.toNat default).Block) ((x12.getD i27.toNat default).Block) x31 (Bh hg hx31))) (ci (gI ((Zk x4 x29 x12 i27)==false)) (ci (gI ((Zk x4 x29 x12 i27)==false)) (ci (gI ((Zk x4 x29 x12 i27)==false)) (c1 (Ko (Zk x4 x29 x12 i27)))))))))))) ?_;refine gC h ?_ ?_<;>intro h
               ·refine Ae hq [4] [] ?_;cases h;exact gK (L8 (Kf [] (Le.refl _ _)))
               ·cases h;exact gK (Bm (B7 zzN116 zzN73 hq))
             ·clear hx32;rcases x32 with _|r34
              ·refine gA ?_;refine Ae hq zzN116 zzN73 ?_;cases h;exact gN C1
              ·refine Ol (fun st' hk=>?_);cases h;exact gO (L8 hk)
            ·cases h;exact gO (Bm (B7 [] [] hq))
           ·clear hx35;rcases x35 with _|r37
            ·refine gA ?_;refine Ae hq [4] [] ?_;cases h;exact Cu []
            ·refine Ol (fun st' hk=>?_);obtain rfl:=OI h;exact gK hk
          ·refine Ol (fun st' hk=>?_);obtain rfl:=OI h;exact gK hk
        ·refine Ol (fun st' hk=>?_);obtain rfl:=OI h;exact gK hk
      ·refine Ol (fun st' hk=>?_);obtain rfl:=OI h;exact gK hk
def O0(aL:List Int):Option (List Int):=
 (A7 (([]:List Int).length+aL.length<=room) (some (([]:List Int)++aL)))
def m_graph_copied_L1(aaG:List (List Int)):(Int×List (List Int))->Option (LR (Int×List (List Int)) (List (List Int))):=
 fun((i2,l3):(Int×List (List Int)))=>(bif (decide (i2<(aaG.length:Int))) then(A7 (A5 i2 aaG.length) ((O0 (aaG.getD i2.toNat [])).bind fun x6=>(A7 (A5 i2 l3.length) (some (.next ((w64 (i2+1)),(l3.set i2.toNat x6))))))) else(some (.done l3)))
def Rm(aaG:List (List Int)):Option (List (List Int)):=
 (A7 (0<=(aaG.length:Int)/\(aaG.length:Int)<=(aaG.length:Int)/\(aaG.length:Int)<=(room:Int)) ((Ag (m_graph_copied_L1 aaG) ((0:Int),(List.replicate (aaG.length:Int).toNat ([]:List Int)))).bind (fun x8=>(some x8))))
def Rl(a2:TGraph):Option TGraph:=
 ((Lb a2).bind fun x1=>(bif (!x1) then(some (⟨([]:List (List Int)),([]:List (List Int))⟩:TGraph)) else((Rm a2.Pred).bind fun x2=>((Rm a2.Succ).bind fun x3=>(some (⟨x2,x3⟩:TGraph))))))
def Xo(x1:List Int):(Int×List Bool)->Option (LR (Int×List Bool) (List Bool)):=
 fun((i2,l3):(Int×List Bool))=>(bif (decide (i2<(x1.length:Int))) then(A7 (A5 i2 x1.length) (A7 (A5 (x1.getD i2.toNat 0) 64) (some (.next ((w64 (i2+1)),(Nv 64 false l3 (x1.getD i2.toNat 0).toNat true)))))) else(some (.done l3)))
def Oz(aaO:List Bool)(aaP:TGraph)(aE:Int):Option (List Bool):=
 ((H5 aaP aE).bind fun x1=>((Ag (Xo x1) ((0:Int),aaO)).bind (fun x7=>(some x7))))
def Xn(a2:TGraph)(x1:TGraph):(Int×List Bool)->Option (LR (Int×List Bool) (List Bool)):=
 fun((i2,l3):(Int×List Bool))=>(bif (decide (i2<(a2.Succ.length:Int))) then(Option.bind (α:=List Bool) (A7 (A5 i2 a2.Succ.length) (bif ((((a2.Succ.getD i2.toNat []).length:Int):Int)==0) then((Oz l3 x1 i2).bind fun x7=>(some x7)) else(some l3))) (fun x8=>(some (.next ((w64 (i2+1)),x8))))) else(some (.done l3)))
def Sl(a2:TGraph):Option (List Bool):=
 ((Rl a2).bind fun x1=>((Ag (Xn a2 x1) ((0:Int),(List.replicate 64 false))).bind (fun x10=>(some x10))))
def Qu(aL:List Bool)(aC:Bool):Int->Option (LR Int (Unit ⊕ Int)):=
 fun(i1:Int)=>(bif (decide (i1<(aL.length:Int))) then(A7 (A5 i1 aL.length) (bif (aC==(aL.getD i1.toNat false)) then(some (.done (.inr i1))) else(some (.next (w64 (i1+1)))))) else(some (.done (.inl ()))))
def Nr(aL:List Bool)(aC:Bool):Option Int:=
 ((Ag (Qu aL aC) (0:Int)).bind (fun x3=>(match x3 with|(.inl _)=>(some (-1:Int))|(.inr r5)=>(some r5))))
def m_graph_Make(a5:List (List Int)):Option (TGraph×Int):=
 ((J3 a5).bind fun x1=>(bif (!x1) then(some ((⟨([]:List (List Int)),([]:List (List Int))⟩:TGraph),(5:Int))) else((Rm a5).bind fun x2=>((Jk a5).bind fun x3=>(some ((⟨x2,x3⟩:TGraph),(0:Int)))))))
def m_pdom_Exit_L1(a2:TGraph):(Int×List (List Int))->Option (LR (Int×List (List Int)) (List (List Int))):=
 fun((i7,l8):(Int×List (List Int)))=>(bif (decide (i7<(a2.Succ.length:Int))) then(Option.bind (α:=List (List Int)) (A7 (A5 i7 a2.Succ.length) (A7 (A5 i7 l8.length) ((O0 (a2.Succ.getD i7.toNat [])).bind fun x13=>(A7 (A5 i7 l8.length) (bif ((((a2.Succ.getD i7.toNat []).length:Int):Int)==0) then(A7 (A5 i7 (l8.set i7.toNat x13).length) (A7 (A5 i7 (l8.set i7.toNat x13).length) (some ((l8.set i7.toNat x13).set i7.toNat ([(a2.Succ.length:Int)]:List Int))))) else(some (l8.set i7.toNat x13))))))) (fun x17=>(some (.next ((w64 (i7+1)),x17))))) else(some (.done l8)))
def m_pdom_Exit_F2(a2:TGraph):(List Bool×List (List Int)×List (List Int)×List (List Int))->Option (LR (List Bool×List (List Int)×List (List Int)×List (List Int)) (TGraph×Int)):=
 fun(s_:(List Bool×List (List Int)×List (List Int)×List (List Int)))=>match s_ with|(l1,l2,l3,l4)=>(A7 (0<=(a2.Succ.length:Int)/\0+(a2.Succ.length:Int).toNat<=64) ((Nr (subN false l1 0 ((0+(a2.Succ.length:Int).toNat)-0)) false).bind fun x32=>(bif (decide (((0:Int):Int)<=x32)) then(A7 (A5 x32 l4.length) (A7 (A5 x32 l4.length) (A7 ((l4.getD x32.toNat []).length+([(a2.Succ.length:Int)]:List Int).length<=room) (A7 (A5 x32 l4.length) ((Oz l1 (⟨l2,l3⟩:TGraph) x32).bind fun x37=>(some (.next (x37,l2,l3,(l4.set x32.toNat ((l4.getD x32.toNat [])++([(a2.Succ.length:Int)]:List Int))))))))))) else((m_graph_Make l4).bind fun x38=>(some (.done (x38.1,x38.2)))))))
def m_pdom_Exit(a2:TGraph):Option (TGraph×Int):=
 ((Pq (S:=(List Bool×List (List Int)×List (List Int)×List (List Int))) (X:=(TGraph×Int)) ((Lb a2).bind fun x5=>(bif (bif (!x5) then true else(((a2.Succ.length:Int):Int)==64)) then(some (.done ((⟨([]:List (List Int)),([]:List (List Int))⟩:TGraph),(5:Int)))) else(A7 (0<=(w64 ((a2.Succ.length:Int)+1))/\(w64 ((a2.Succ.length:Int)+1))<=(w64 ((a2.Succ.length:Int)+1))/\(w64 ((a2.Succ.length:Int)+1))<=(room:Int)) ((Ag (m_pdom_Exit_L1 a2) ((0:Int),(List.replicate (w64 ((a2.Succ.length:Int)+1)).toNat ([]:List Int)))).bind (fun x19=>((Sl a2).bind fun x21=>((Rl a2).bind fun x22=>(A7 (0<=(a2.Succ.length:Int)/\0+(a2.Succ.length:Int).toNat<=64) ((Nr (subN false x21 0 ((0+(a2.Succ.length:Int).toNat)-0)) false).bind fun x24=>(bif (decide (((0:Int):Int)<=x24)) then(A7 (A5 x24 x19.length) (A7 (A5 x24 x19.length) (A7 ((x19.getD x24.toNat []).length+([(a2.Succ.length:Int)]:List Int).length<=room) (A7 (A5 x24 x19.length) ((Oz x21 x22 x24).bind fun x29=>(some (.next (x29,x22.Succ,x22.Pred,(x19.set x24.toNat ((x19.getD x24.toNat [])++([(a2.Succ.length:Int)]:List Int))))))))))) else((m_graph_Make x19).bind fun x30=>(some (.done (x30.1,x30.2)))))))))))))) (m_pdom_Exit_F2 a2)).bind (fun x39=>(some x39)))
def m_pdom_Tree(a2:TGraph):Option (List Int):=
 ((m_pdom_Exit a2).bind fun x1=>(bif (x1.2 !=0) then(some ([]:List Int)) else((Rl x1.1).bind fun x2=>((N6 x2 (a2.Succ.length:Int)).bind fun x3=>(some x3)))))
def m_pdom_Shut_L1(a2:TGraph)(x2:List Bool):(List Int×Int)->Option (LR (List Int×Int) (List Int)):=
 fun((l3,i4):(List Int×Int))=>(bif (decide (i4<(a2.Succ.length:Int))) then(Option.bind (α:=List Int) (A7 (A5 i4 64) (bif (!(x2.getD i4.toNat false)) then(A7 (l3.length+([i4]:List Int).length<=room) (some (l3++([i4]:List Int)))) else(some l3))) (fun x9=>(some (.next (x9,(w64 (i4+1))))))) else(some (.done l3)))
def m_pdom_Shut(a2:TGraph):Option (List Int):=
 ((Lb a2).bind fun x1=>(bif (!x1) then(some ([]:List Int)) else((Sl a2).bind fun x2=>((Ag (m_pdom_Shut_L1 a2 x2) (([]:List Int),(0:Int))).bind (fun x11=>(some x11))))))
def m_pdom_Over(a6:List Int)(aH:Int)(aJ:Int):Option Bool:=
 ((Pl a6 aH aJ).bind fun x1=>(some x1))
def Q326(x12:Bool)(x3:Bool):=((bif x12 then(!x3) else false)==false)
def Q327(x3:Bool)(x14:(TGraph×Int)):=(bif (!x3) then true else(x14.2==0))
def Q324(x3:Bool)(x14:(TGraph×Int))(x15:Int):=(((Q327 x3 x14)==true)&&((!(x15==0))==false))
def Q325(a0:TFunc)(a3:THammock):List (Nat×Own):=[(2,.row 25 [(Z8 a0.Params),(Z7 a0.Ret),(Z16 a0.Blocks)]),(3,.row 27 [(Z7 a3.At),(Z7 a3.Then),(Z7 a3.Else),(Z7 a3.Join)])]
def Ga(a0:TFunc)(a3:THammock):Option Bool:=
 (m_locksteplaw14_awake.bind fun x1=>(bif (!x1) then(some false) else((Hk a0).bind fun x2=>(bif (!x2) then(some true) else((J8 a0 a3).bind fun x3=>(Option.bind (α:=Int) (bif (bif x3 then(decide (((0:Int):Int)<=a3.Then)) else false) then(A7 (A5 a3.Then a0.Blocks.length) (some (w64 ((0:Int)+(((a0.Blocks.getD (a3.Then).toNat (default:Ah)).Ops).length:Int))))) else(some (0:Int))) (fun x6=>(Option.bind (α:=Int) (bif (bif x3 then(decide (((0:Int):Int)<=a3.Else)) else false) then(A7 (A5 a3.Else a0.Blocks.length) (some (w64 (x6+(((a0.Blocks.getD (a3.Else).toNat (default:Ah)).Ops).length:Int))))) else(some x6)) (fun x10=>((Hv a0 a3).bind fun x12=>((bif ((bif x12 then(!x3) else false)==false) then Kv a0 a3 else some (0:Int)).bind fun x13=>(bif (bif (bif x12 then(!x3) else false) then true else(x13 !=x10)) then(some false) else((N8 a0).bind fun x14=>((Et a0 (1:Int)).bind fun x15=>((bif (((bif (!x3) then true else(x14.2==0))==true)&&((!(x15==0))==false)) then Hv a0 a3 else some false).bind fun x16=>(some (bif (bif (!x3) then true else(x14.2==0)) then(bif (!(x15==0)) then true else(x16==x3)) else false)))))))))))))))))
theorem ok_locksteplaw14_HammockCosts(a0:TFunc)(a3:THammock)(r:Bool)(h:Ga a0 a3=some r):Spec Tryz.prog 6 [(Z44 a0),(Z69 a3)] [] (.bool r) []:=by
 refine Ab mix Tryz.func6 (fun Γ hq=>?_);unfold Ga at h;refine Ae hq Fk Fk ?_;obtain⟨x1,hx1,h⟩:=bind_some h;refine gR hq [2,3,11] Fk [] [(Z2 x1)] (c1 (U2  x1 hx1)) ?_;refine gC h ?_ ?_<;>intro h
 ·refine Ae hq [4] [] ?_;obtain rfl:=OI h;exact Cu []
 ·obtain⟨x2,hx2,h⟩:=bind_some h;refine gR hq [2,3,14] Fk [] [(Z2 x2)] (c1 (U9 a0 x2 hx2)) ?_;refine gC h ?_ ?_<;>intro h
  ·refine Ae hq [4] [] ?_;obtain rfl:=OI h;exact Cu []
  ·obtain⟨x3,hx3,h⟩:=bind_some h;refine gR hq [2,3,5] Fk [] [(Z2 x3)] (c1 (Py a0 a3 x3 hx3)) ?_;refine Ae hq zzN135 Fk ?_;obtain⟨x6,hx6,h⟩:=bind_some h;refine gJ hx6 (fun i4=>aG Γ .normal (⟨[Ra,(3,(.ptr 3 0)),(5,(.bool x3)),(6,(Z7 i4))],(Q325 a0 a3),[]⟩:St)) ?_ ?_
   ·clear h hx6;intro y h;refine gR hq [2,3,5,6,23] Fk [] [] (ci (gI (x3==true)) (ci (gI (x3==true)) (c1 (Nb x3)))) ?_;refine gC h ?_ ?_<;>intro h
    ·obtain⟨hc5,h⟩:=Aa h;refine gR hq zzN135 Fk [] [] (c1 hc5) ?_;cases h;exact gK (Bm C1)
    ·cases h;exact gK (Bm (B7 zzN135 Fk hq))
   ·clear hx6;refine gA ?_;obtain⟨x10,hx10,h⟩:=bind_some h;refine gJ hx10 (fun i8=>aG Γ .normal (⟨[Ra,(3,(.ptr 3 0)),(5,(.bool x3)),(6,(Z7 i8))],(Q325 a0 a3),[]⟩:St)) ?_ ?_
    ·clear h hx10;intro y h;refine gR hq [2,3,5,6,39] Fk [] [] (ci (gI (x3==true)) (ci (gI (x3==true)) (c1 (Nb x3)))) ?_;refine gC h ?_ ?_<;>intro h
     ·obtain⟨hc9,h⟩:=Aa h;refine gR hq zzN135 Fk [] [] (c1 hc9) ?_;cases h;exact gK (Bm C1)
     ·obtain rfl:=OI h;exact gK (Bm (B7 zzN135 Fk hq))
    ·clear hx10;refine gA ?_;obtain⟨x12,hx12,h⟩:=bind_some h;obtain⟨x13,hx13,h⟩:=bind_some h;refine gR hq [2,3,5,63] Fk [] [(Z2 x12),(Z19 x13)] (ci (O2 a0 a3 x12 hx12) (ci (gI (x12==true)) (ci (Nb x12) (ci (gI (Q326 x12 x3)) (ci (gI (Q326 x12 x3)) (ci (fun(hg:(Q326 x12 x3)=true)=>(Vy a0 a3 x13 (Bh hg hx13))) (ci (gI (Q326 x12 x3)) (ci (gI (Q326 x12 x3)) (c1 (Ko (bif x12 then(!x3) else false))))))))))) ?_;refine gC h ?_ ?_<;>intro h
     ·refine Ae hq [4] [] ?_;obtain rfl:=OI h;exact Cu []
     ·obtain⟨x14,hx14,h⟩:=bind_some h;refine gR hq [2,3,5,8] Fk [] [(Z35 x14.1 x14.2)] (c1 (Xu a0 x14 hx14)) ?_;obtain⟨x15,hx15,h⟩:=bind_some h;refine gR hq [2,3,5,8,9] Fk [] [(Z19 x15)] (c1 (U8 a0 (1:Int) x15 hx15)) ?_;obtain⟨x16,hx16,h⟩:=bind_some h;refine gR hq [4] [] [] [(Z2 x16)] (ci (gI ((!x3)==false)) (ci (Ko (!x3)) (ci (gI ((Q327 x3 x14)==true)) (ci (gI ((Q327 x3 x14)==true)) (ci (gI (Q324 x3 x14 x15)) (ci (gI (Q324 x3 x14 x15)) (ci (fun(hg:(Q324 x3 x14 x15)=true)=>(O2 a0 a3 x16 (Bh hg hx16))) (ci (gI (Q324 x3 x14 x15)) (ci (gI (Q324 x3 x14 x15)) (ci (gI ((Q327 x3 x14)==true)) (ci (show(((Q327 x3 x14)==true)=true->((!(x15==0))=false->(Q324 x3 x14 x15)=true)) from(fun hg=>(aF hg))) (c1 (Nb (Q327 x3 x14)))))))))))))) ?_;cases h;exact Cu []
theorem Jy{n:Int}(h:-9223372036854775808<=n)(h':n<9223372036854775808):w64 n=n:=by
 show IntKind.i64.wrap n=n
 simp only[IntKind.wrap,IntKind.bits,IntKind.signed]
 simp
 split<;>omega
theorem wu64_of{n:Int}(h:0<=n)(h':n<18446744073709551616):Io n=n:=by
 show IntKind.u64.wrap n=n
 simp[IntKind.wrap,IntKind.bits,IntKind.signed];omega
theorem wu64_mod(n:Int):Io n=n % 18446744073709551616:=by
 show IntKind.u64.wrap n=_
 simp[IntKind.wrap,IntKind.bits,IntKind.signed]
theorem Ac{R:Type}{p:Prop}[Decidable p]{k:Option R}(h:p):A7 p k=k:=if_pos h
theorem fdiv_pow{x:Int}(j:Nat):x.fdiv (2 ^ j)=x / 2 ^ j:=by rw[Int.fdiv_eq_ediv_of_nonneg _ (by exact Int.le_of_lt (Int.pow_pos (by decide)))]
theorem Ai{α:Type}(l:List α)(i:Nat)(d:α)(h:i<l.length):l.getD i d=l[i]:=by simp[List.getD,h]
end
end Go.Proofs.YtmkiepobhjiabaaGreat
