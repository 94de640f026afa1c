/-
  The machine, the program's functions and the laws' arithmetic: part 4 of 6.
-/
import Derived.Test.YtmkiepobhjiabaaGreatPk3
set_option linter.unusedVariables false
set_option linter.unusedSimpArgs false
namespace Go.Proofs.YtmkiepobhjiabaaGreat
noncomputable section
open Go Go.RowKit
set_option maxRecDepth 100000
set_option maxHeartbeats 2000000
def Dg(aa3:Int)(aQ:Ad):(Int×List Int×Int×List Ad×Int×List Int×List Ar×List (Int×Aj))->Option (LR (Int×List Int×Int×List Ad×Int×List Int×List Ar×List (Int×Aj)) ((List Int×Int×List Ad×Int×List Int×List Ar×List (Int×Aj)) ⊕ (Bool×TFunc×Int×List Int×List Ar×List (Int×Aj)))):=
 fun((i1,l2,i3,l4,i5,l6,l7,l8):(Int×List Int×Int×List Ad×Int×List Int×List Ar×List (Int×Aj)))=>(bif (decide (i1<(aQ.Phis.length:Int))) then(A6 (A2 i1 aQ.Phis.length) ((Ej ((aQ.Phis.getD i1.toNat default).Bits)).bind fun x17=>((Fq ((aQ.Phis.getD i1.toNat default).Dst) x17 (⟨aa3,(-1:Int)⟩:Jf) (⟨l2,i3,l4⟩:TFunc) i5 l6 l8 l7).bind fun x18=>(bif (!x18.1) then(some (.done (.inr (false,x18.2.1,x18.2.2.1,x18.2.2.2.1,x18.2.2.2.2.1,x18.2.2.2.2.2)))) else(some (.next ((w64 (i1+1)),x18.2.1.Params,x18.2.1.Ret,x18.2.1.Blocks,x18.2.2.1,x18.2.2.2.1,x18.2.2.2.2.1,x18.2.2.2.2.2))))))) else(some (.done (.inl (l2,i3,l4,i5,l6,l7,l8)))))
def Cg(aa3:Int)(aQ:Ad):(Int×List Int×Int×List Ad×Int×List Int×List Ar×List (Int×Aj))->Option (LR (Int×List Int×Int×List Ad×Int×List Int×List Ar×List (Int×Aj)) ((List Int×Int×List Ad×Int×List Int×List Ar×List (Int×Aj)) ⊕ (Bool×TFunc×Int×List Int×List Ar×List (Int×Aj)))):=
 fun((i21,l22,i23,l24,i25,l26,l27,l28):(Int×List Int×Int×List Ad×Int×List Int×List Ar×List (Int×Aj)))=>(bif (decide (i21<(aQ.Ops.length:Int))) then(A6 (A2 i21 aQ.Ops.length) ((Na (aQ.Ops.getD i21.toNat default)).bind fun x37=>((bif ((decide (((0:Int):Int)<x37.1))==true) then Fq ((aQ.Ops.getD i21.toNat default).Dst) (x37.1,x37.2) (⟨aa3,i21⟩:Jf) (⟨l22,i23,l24⟩:TFunc) i25 l26 l28 l27 else some (false,(default:TFunc),(0:Int),[],[],[])).bind fun x38=>(bif (bif (decide (((0:Int):Int)<x37.1)) then(!x38.1) else false) then(some (.done (.inr (false,(⟨(bif ((decide (((0:Int):Int)<x37.1))==true) then x38.2.1.Params else l22),(bif ((decide (((0:Int):Int)<x37.1))==true) then x38.2.1.Ret else i23),(bif ((decide (((0:Int):Int)<x37.1))==true) then x38.2.1.Blocks else l24)⟩:TFunc),(bif ((decide (((0:Int):Int)<x37.1))==true) then x38.2.2.1 else i25),(bif ((decide (((0:Int):Int)<x37.1))==true) then x38.2.2.2.1 else l26),(bif ((decide (((0:Int):Int)<x37.1))==true) then x38.2.2.2.2.1 else l27),(bif ((decide (((0:Int):Int)<x37.1))==true) then x38.2.2.2.2.2 else l28))))) else(some (.next ((w64 (i21+1)),(bif ((decide (((0:Int):Int)<x37.1))==true) then x38.2.1.Params else l22),(bif ((decide (((0:Int):Int)<x37.1))==true) then x38.2.1.Ret else i23),(bif ((decide (((0:Int):Int)<x37.1))==true) then x38.2.1.Blocks else l24),(bif ((decide (((0:Int):Int)<x37.1))==true) then x38.2.2.1 else i25),(bif ((decide (((0:Int):Int)<x37.1))==true) then x38.2.2.2.1 else l26),(bif ((decide (((0:Int):Int)<x37.1))==true) then x38.2.2.2.2.1 else l27),(bif ((decide (((0:Int):Int)<x37.1))==true) then x38.2.2.2.2.2 else l28)))))))) else(some (.done (.inl (l22,i23,l24,i25,l26,l27,l28)))))
def Nm(Γ:Iw)(aa3:Int)(aQ:Ad)(a4:TFunc)(a9:Int)(aA:List Int)(a8:List (Int×Aj))(a7:List Ar)(r:(Bool×TFunc×Int×List Int×List Ar×List (Int×Aj))):Exit->St->Prop:=fK Tryz.prog Γ Tryz.f113.results.toList [(Z1 a4.Params a4.Ret a4.Blocks a9 aA 9100005 a7),(Mj 37006 149 a7.length),(9100005,.obj (.map true .i64 (Et (fun(v_:Aj)=>((U1 v_):AV)) a8)))] (.bool r.1) [(Z1 r.2.1.Params r.2.1.Ret r.2.1.Blocks r.2.2.1 r.2.2.2.1 9100005 r.2.2.2.2.1),(Mj 37006 149 r.2.2.2.2.1.length),(9100005,.obj (.map true .i64 (Et (fun(v_:Aj)=>((U1 v_):AV)) r.2.2.2.2.2)))]
def Q84(x37:(Int×Int)):=((decide (((0:Int):Int)<x37.1))==true)
def Q85:=(fun(v_:Aj)=>((U1 v_):AV))
def Q88(x37:(Int×Int))(x38:(Bool×TFunc×Int×List Int×List Ar×List (Int×Aj)))(l26:List Int):AV:=(Z15 (Q84 x37) x38.2.2.2.1 l26)
def Q89(x37:(Int×Int))(x38:(Bool×TFunc×Int×List Int×List Ar×List (Int×Aj)))(l24:List Ad):AV:=(Z56 (Q84 x37) x38.2.1.Blocks l24)
def Q87(x37:(Int×Int))(x38:(Bool×TFunc×Int×List Int×List Ar×List (Int×Aj)))(l22:List Int):AV:=(Z15 (Q84 x37) x38.2.1.Params l22)
def Fz(aa3:Int)(aQ:Ad)(a4:TFunc)(a9:Int)(aA:List Int)(a8:List (Int×Aj))(a7:List Ar):Option (Bool×TFunc×Int×List Int×List Ar×List (Int×Aj)):=
 ((Ah (Dg aa3 aQ) ((0:Int),a4.Params,a4.Ret,a4.Blocks,a9,aA,a7,a8)).bind (fun x19=>(match x19 with|(.inl (l9,i10,l11,i12,l13,l14,l15))=>((Ah (Cg aa3 aQ) ((0:Int),l9,i10,l11,i12,l13,l14,l15)).bind (fun x39=>(match x39 with|(.inl (l29,i30,l31,i32,l33,l34,l35))=>(some (true,(⟨l29,i30,l31⟩:TFunc),i32,l33,l34,l35))|(.inr r41)=>(some r41))))|(.inr r42)=>(some r42))))
theorem Sd(aa3:Int)(aQ:Ad)(a4:TFunc)(a9:Int)(aA:List Int)(a8:List (Int×Aj))(a7:List Ar)(r:(Bool×TFunc×Int×List Int×List Ar×List (Int×Aj)))(h:Fz aa3 aQ a4 a9 aA a8 a7=some r):Spec Tryz.prog 113 [Z60,(Z7 aa3),(.agg (Iy aQ))] [(Z1 a4.Params a4.Ret a4.Blocks a9 aA 9100005 a7),(Mj 37006 149 a7.length),(9100005,.obj (.map true .i64 (Et (fun(v_:Aj)=>((U1 v_):AV)) a8)))] (.bool r.1) [(Z1 r.2.1.Params r.2.1.Ret r.2.1.Blocks r.2.2.1 r.2.2.2.1 9100005 r.2.2.2.2.1),(Mj 37006 149 r.2.2.2.2.1.length),(9100005,.obj (.map true .i64 (Et (fun(v_:Aj)=>((U1 v_):AV)) r.2.2.2.2.2)))]:=by
 refine Ac mix Tryz.func113 (fun Γ hq=>?_);unfold Fz at h;refine Af hq Ow zzN23 ?_;refine Af hq zzN131 zzN23 ?_;obtain⟨x19,hx19,h⟩:=bind_some h;refine gL hq hx19 zzN131 zzN23 (fun u (i1,l2,i3,l4,i5,l6,l7,l8)=>(Eu u [(16,(Z7 i1))] [(Z1 l2 i3 l4 i5 l6 9100005 l7),(Mj 37006 149 l7.length),(9100005,.obj (.map true .i64 (Et Q85 l8)))])) (fun u x_=>match x_ with|(.inl (l9,i10,l11,i12,l13,l14,l15))=>aG Γ (.exit 0) (Oz Ow zzN23 u [] [(Z1 l9 i10 l11 i12 l13 9100005 l14),(Mj 37006 149 l14.length),(9100005,.obj (.map true .i64 (Et Q85 l15)))])|(.inr r_)=>aR (Nm Γ aa3 aQ a4 a9 aA a8 a7 r_)) ?_ ?_
 ·rintro⟨i1,l2,i3,l4,i5,l6,l7,l8⟩ y h;unfold Dg at h;refine Af hq [0,1,5,14,15,16,17] zzN23 ?_;refine gC h ?_ ?_<;>intro h
  ·obtain⟨hc16,h⟩:=Aa h;refine gR hq [0,1,5,8,14,15,16] [5,8,30000,37006,9100005] [] [] (c1 hc16) ?_;obtain⟨x17,hx17,h⟩:=bind_some h;obtain⟨x18,hx18,h⟩:=bind_some h;refine gR hq [0,1,5,14,15,16,29] zzN23 [] [(Z72 x17),⟨Aaj,[],(.bool x18.1),[(Z1 x18.2.1.Params x18.2.1.Ret x18.2.1.Blocks x18.2.2.1 x18.2.2.2.1 9100005 x18.2.2.2.2.1),(Mj 37006 149 x18.2.2.2.2.1.length),(9100005,.obj (.map true .i64 (Et Q85 x18.2.2.2.2.2)))],[],[]⟩] (ci (L5 ((aQ.Phis.getD i1.toNat default).Bits) x17 hx17) (c1 (Ot ((aQ.Phis.getD i1.toNat default).Dst) x17 (⟨aa3,(-1:Int)⟩:Jf) (⟨l2,i3,l4⟩:TFunc) i5 l6 l8 l7 x18 hx18))) ?_;refine gC h ?_ ?_<;>intro h
   ·refine Af hq [6] I9 ?_;cases h;exact gO (L0 (J7 Aaj (Le.refl _ _)))
   ·refine Af hq zzN131 zzN23 ?_;cases h;exact gN Cr
  ·cases h;exact gO (Bk (B2 Ow zzN23 hq))
 ·clear hx19;rcases x19 with⟨l9,i10,l11,i12,l13,l14,l15⟩|r42
  ·refine gA ?_;refine Af hq zzN154 I9 ?_;obtain⟨x39,hx39,h⟩:=bind_some h;refine gL hq hx39 zzN154 I9 (fun u (i21,l22,i23,l24,i25,l26,l27,l28)=>(Eu u [(34,(Z7 i21))] [(Z1 l22 i23 l24 i25 l26 9100005 l27),(Mj 37006 149 l27.length),(9100005,.obj (.map true .i64 (Et Q85 l28)))])) (fun u x_=>match x_ with|(.inl (l29,i30,l31,i32,l33,l34,l35))=>aG Γ (.exit 2) (⟨[],[(Z1 l29 i30 l31 i32 l33 9100005 l34),(Mj 37006 149 l34.length),(9100005,.obj (.map true .i64 (Et Q85 l35)))],[]⟩:St)|(.inr r_)=>aR (Nm Γ aa3 aQ a4 a9 aA a8 a7 r_)) ?_ ?_
   ·rintro⟨i21,l22,i23,l24,i25,l26,l27,l28⟩ y h;unfold Cg at h;refine Af hq [0,1,32,33,34,35] I9 ?_;refine gC h ?_ ?_<;>intro h
    ·obtain⟨hc36,h⟩:=Aa h;refine gR hq [0,1,9,10,32,33,34] zzN155 [] [] (c1 hc36) ?_;obtain⟨x37,hx37,h⟩:=bind_some h;refine gR hq [0,1,9,10,11,12,32,33,34] zzN155 [] [(Z77 x37.1 x37.2)] (c1 (ok_kind_Gives (aQ.Ops.getD i21.toNat default) x37 hx37)) ?_;obtain⟨x38,hx38,h⟩:=bind_some h;refine gR hq [0,1,32,33,34,58] I9 [] [⟨Aaj,[],(.bool x38.1),[(Z1 x38.2.1.Params x38.2.1.Ret x38.2.1.Blocks x38.2.2.1 x38.2.2.2.1 9100005 x38.2.2.2.2.1),(Mj 37006 149 x38.2.2.2.2.1.length),(9100005,.obj (.map true .i64 (Et Q85 x38.2.2.2.2.2)))],[],[]⟩] (ci (gI (Q84 x37)) (ci (gI (Q84 x37)) (ci (gI (Q84 x37)) (ci (gI (Q84 x37)) (ci (gI (Q84 x37)) (ci (gI (Q84 x37)) (ci (gI (Q84 x37)) (ci (gI (Q84 x37)) (ci (gI (Q84 x37)) (ci (fun(hg:(Q84 x37)=true)=>(Ot ((aQ.Ops.getD i21.toNat default).Dst) (x37.1,x37.2) (⟨aa3,i21⟩:Jf) (⟨l22,i23,l24⟩:TFunc) i25 l26 l28 l27 x38 (Bg hg hx38))) (ci (gI (Q84 x37)) (c1 (M7 (decide (((0:Int):Int)<x37.1))))))))))))))) ?_;refine Or (Le.trans (Ww (fun(k_:List (Int×AV)) u=>Eu u [] [(9100005,.obj (.map true .i64 k_))]) (show(bif (Q84 x37) then(Et Q85 x38.2.2.2.2.2) else(Et Q85 l28))=(Et Q85 (bif (Q84 x37) then x38.2.2.2.2.2 else l28)) from(bif_mapE rfl rfl))) (Le.trans (leB (fun g_ u=>(Eu u [] [(30000,.row 103 [(Q87 x37 x38 l22),(Z68 (Q84 x37) x38.2.1.Ret i23),(Q89 x37 x38 l24),(Z68 (Q84 x37) x38.2.2.1 i25),(Q88 x37 x38 l26),(.omap 9100005),(Z32 g_ x38.2.2.2.2.1 l27)]),(37006,.tok 5 149 (bif g_ then x38.2.2.2.2.1.length else l27.length))])) (fun g_ u=>(Eu u [] [(30000,.row 103 [(Q87 x37 x38 l22),(Z68 (Q84 x37) x38.2.1.Ret i23),(Q89 x37 x38 l24),(Z68 (Q84 x37) x38.2.2.1 i25),(Q88 x37 x38 l26),(.omap 9100005),(AV.list 5 Nn default (bif g_ then x38.2.2.2.2.1 else l27) (.own 37006))]),(37006,.tok 5 149 ((bif g_ then x38.2.2.2.2.1 else l27).length))])) (Q84 x37)) (Le.trans (leC 30000 0 (show AVle (Q87 x37 x38 l22) (AV.list 1 Au 0 (bif (Q84 x37) then x38.2.1.Params else l22) .none) from Ke)) (Le.trans (leC 30000 2 (show AVle (Q89 x37 x38 l24) (AV.list 5 Iy default (bif (Q84 x37) then x38.2.1.Blocks else l24) .none) from Ke)) (leC 30000 4 (show AVle (Q88 x37 x38 l26) (AV.list 1 Au 0 (bif (Q84 x37) then x38.2.2.2.1 else l26) .none) from Ke)))))) ?_;refine gC h ?_ ?_<;>intro h
     ·refine Af hq [6] I9 ?_;cases h;exact gO (L0 (J7 Aaj (Le.refl _ _)))
     ·refine Af hq zzN154 I9 ?_;cases h;exact gN Cr
    ·cases h;exact gO (Bk (B2 [] I9 hq))
   ·clear hx39;rcases x39 with⟨l29,i30,l31,i32,l33,l34,l35⟩|r41
    ·refine gA ?_;refine Af hq [6] I9 ?_;cases h;exact Cf Aaj
    ·refine N2 (fun st' hk=>?_);obtain rfl:=OI h;exact gK hk
  ·refine N2 (fun st' hk=>?_);obtain rfl:=OI h;exact gK hk
def Fg(a4:TFunc):(Int×List (Int×Aj))->Option (LR (Int×List (Int×Aj)) (List (Int×Aj))):=
 fun((i1,l2):(Int×List (Int×Aj)))=>(bif (decide (i1<(a4.Params.length:Int))) then(A6 (A2 i1 a4.Params.length) ((Ej (a4.Params.getD i1.toNat 0)).bind fun x5=>(some (.next ((w64 (i1+1)),(Mu l2 (w64 (i1+1)) (⟨x5,(⟨(0:Int),(-1:Int)⟩:Jf)⟩:Aj))))))) else(some (.done l2)))
def Dz(a4:TFunc):(Int×List (Int×Aj)×List Int×Int×List Ad×Int×List Int×List Ar)->Option (LR (Int×List (Int×Aj)×List Int×Int×List Ad×Int×List Int×List Ar) ((List (Int×Aj)×List Int×Int×List Ad×Int×List Int×List Ar) ⊕ (Int×TFunc×Int×List Int×List Ar×List (Int×Aj)))):=
 fun((i8,l9,l10,i11,l12,i13,l14,l15):(Int×List (Int×Aj)×List Int×Int×List Ad×Int×List Int×List Ar))=>(bif (decide (i8<(a4.Blocks.length:Int))) then(A6 (A2 i8 a4.Blocks.length) ((Fz i8 (a4.Blocks.getD i8.toNat default) (⟨l10,i11,l12⟩:TFunc) i13 l14 l9 l15).bind fun x24=>(bif (!x24.1) then(some (.done (.inr ((7:Int),x24.2.1,x24.2.2.1,x24.2.2.2.1,x24.2.2.2.2.1,x24.2.2.2.2.2)))) else(some (.next ((w64 (i8+1)),x24.2.2.2.2.2,x24.2.1.Params,x24.2.1.Ret,x24.2.1.Blocks,x24.2.2.1,x24.2.2.2.1,x24.2.2.2.2.1)))))) else(some (.done (.inl (l9,l10,i11,l12,i13,l14,l15)))))
def T8(Γ:Iw)(a4:TFunc)(a9:Int)(aA:List Int)(a7:List Ar)(r:(Int×TFunc×Int×List Int×List Ar×List (Int×Aj))):Exit->St->Prop:=fK Tryz.prog Γ Tryz.f92.results.toList (Z3 a4.Params a4.Ret a4.Blocks a9 aA a7 a7.length) (Z7 r.1) [(Z1 r.2.1.Params r.2.1.Ret r.2.1.Blocks r.2.2.1 r.2.2.2.1 9200005 r.2.2.2.2.1),(Mj 37006 149 r.2.2.2.2.1.length),(9200005,.obj (.map false .i64 (Et (fun(v_:Aj)=>((U1 v_):AV)) r.2.2.2.2.2)))]
def Q90:=(fun(v_:Aj)=>((U1 v_):AV))
def Q91(l16:List (Int×Aj))(l17:List Int)(i18:Int)(l19:List Ad)(i20:Int)(l21:List Int)(l22:List Ar):List (Nat×Own):=[(8,.obj (.map true .i64 (Et Q90 l16))),(Z24 l17 i18 l19 i20 l21 l22),(Mj 37006 149 l22.length)]
def Gq(a4:TFunc)(a9:Int)(aA:List Int)(a7:List Ar):Option (Int×TFunc×Int×List Int×List Ar×List (Int×Aj)):=
 ((Ah (Fg a4) ((0:Int),([]:List (Int×Aj)))).bind (fun x6=>((Ah (Dz a4) ((0:Int),x6,a4.Params,a4.Ret,a4.Blocks,a9,aA,a7)).bind (fun x25=>(match x25 with|(.inl (l16,l17,i18,l19,i20,l21,l22))=>(some ((0:Int),(⟨l17,i18,l19⟩:TFunc),i20,l21,l22,l16))|(.inr r27)=>(some r27))))))
theorem Tq(a4:TFunc)(a9:Int)(aA:List Int)(a7:List Ar)(r:(Int×TFunc×Int×List Int×List Ar×List (Int×Aj)))(h:Gq a4 a9 aA a7=some r):Spec Tryz.prog 92 [Z60] (Z3 a4.Params a4.Ret a4.Blocks a9 aA a7 a7.length) (Z7 r.1) [(Z1 r.2.1.Params r.2.1.Ret r.2.1.Blocks r.2.2.1 r.2.2.2.1 9200005 r.2.2.2.2.1),(Mj 37006 149 r.2.2.2.2.1.length),(9200005,.obj (.map false .i64 (Et (fun(v_:Aj)=>((U1 v_):AV)) r.2.2.2.2.2)))]:=by
 refine Ac mix Tryz.func92 (fun Γ hq=>?_);unfold Gq at h;refine Af hq [0] Je ?_;refine Af hq [0] Pp ?_;refine Or (Ww (fun(k_:List (Int×AV)) u=>Eu u [] [(8,.obj (.map true .i64 k_))]) (show[]=(Et Q90 ([]:List (Int×Aj))) from rfl)) ?_;refine Af hq zzN139 Pp ?_;obtain⟨x6,hx6,h⟩:=bind_some h;refine gL hq hx6 zzN139 Pp (fun u (i1,l2)=>(Eu u [(17,(Z7 i1))] [(8,.obj (.map true .i64 (Et Q90 l2)))])) (fun u l3=>aG Γ (.exit 0) (Oz [0] Pp u [] [(8,.obj (.map true .i64 (Et Q90 l3)))])) ?_ ?_
 ·rintro⟨i1,l2⟩ y h;unfold Fg at h;refine Af hq [0,15,16,17,18] Pp ?_;refine gC h ?_ ?_<;>intro h
  ·obtain⟨hc4,h⟩:=Aa h;refine gR hq [0,3,4,15,16,17] Pp [] [] (c1 hc4) ?_;obtain⟨x5,hx5,h⟩:=bind_some h;refine gR hq zzN139 Pp [] [(Z72 x5)] (c1 (L5 (a4.Params.getD i1.toNat 0) x5 hx5)) ?_;refine Or (Ww (fun(k_:List (Int×AV)) u=>Eu u [] [(8,.obj (.map true .i64 k_))]) (show(Mu (Et Q90 l2) (w64 (i1+1)) (.agg [(Z7 x5.1),(Z7 x5.2),Pq,(.int .i64 (-1:Int))]))=(Et Q90 (Mu l2 (w64 (i1+1)) (⟨x5,(⟨(0:Int),(-1:Int)⟩:Jf)⟩:Aj))) from(mset_eq (f:=Q90) (l:=l2) (v:=(⟨x5,(⟨(0:Int),(-1:Int)⟩:Jf)⟩:Aj)) rfl rfl))) ?_;refine Af hq zzN139 Pp ?_;cases h;exact gN Cr
  ·cases h;exact gO (Bk (B2 [0] Pp hq))
 ·clear hx6;refine gA ?_;refine Af hq zzN178 Pp ?_;obtain⟨x25,hx25,h⟩:=bind_some h;refine gL hq hx25 zzN178 Pp (fun u (i8,l9,l10,i11,l12,i13,l14,l15)=>(Eu u [(39,(Z7 i8))] [(8,.obj (.map true .i64 (Et Q90 l9))),(Z24 l10 i11 l12 i13 l14 l15),(Mj 37006 149 l15.length)])) (fun u x_=>match x_ with|(.inl (l16,l17,i18,l19,i20,l21,l22))=>aG Γ (.exit 2) (⟨[],(Q91 l16 l17 i18 l19 i20 l21 l22),[]⟩:St)|(.inr r_)=>aR (T8 Γ a4 a9 aA a7 r_)) ?_ ?_
  ·rintro⟨i8,l9,l10,i11,l12,i13,l14,l15⟩ y h;unfold Dz at h;refine Af hq [0,37,38,39,40] Pp ?_;refine gC h ?_ ?_<;>intro h
   ·obtain⟨hc23,h⟩:=Aa h;refine gR hq [0,5,6,37,38,39] [6,8,30000,37006] [] [] (c1 hc23) ?_;obtain⟨x24,hx24,h⟩:=bind_some h;refine gR hq [0,37,38,39,48] Pp [] [⟨[(30000,30000),(37006,37006),(8,9100005)],[],(.bool x24.1),[(Z1 x24.2.1.Params x24.2.1.Ret x24.2.1.Blocks x24.2.2.1 x24.2.2.2.1 9100005 x24.2.2.2.2.1),(Mj 37006 149 x24.2.2.2.2.1.length),(9100005,.obj (.map true .i64 (Et Q90 x24.2.2.2.2.2)))],[],[]⟩] (c1 (Sd i8 (a4.Blocks.getD i8.toNat default) (⟨l10,i11,l12⟩:TFunc) i13 l14 l9 l15 x24 hx24)) ?_;refine gC h ?_ ?_<;>intro h
    ·refine Af hq [2] Pp ?_;refine Ri (⟨[(2,(.int .i64 (7:Int)))],[(8,.obj (.map true .i64 (Et Q90 x24.2.2.2.2.2))),(Z24 x24.2.1.Params x24.2.1.Ret x24.2.1.Blocks x24.2.2.1 x24.2.2.2.1 x24.2.2.2.2.1),(Mj 37006 149 x24.2.2.2.2.1.length)],[]⟩:St) ?_;cases h;exact gO (L0 (J7 zzN85 (Le.trans (le_obj (nm:=8) (.map false .i64 (Et Q90 x24.2.2.2.2.2)) rfl (fun _ _ _ _ h_=>objAt_nn h_)) (B2 (st':=⟨[(2,(.int .i64 (7:Int)))],[(8,.obj (.map false .i64 (Et Q90 x24.2.2.2.2.2))),(Z24 x24.2.1.Params x24.2.1.Ret x24.2.1.Blocks x24.2.2.1 x24.2.2.2.1 x24.2.2.2.2.1),(Mj 37006 149 x24.2.2.2.2.1.length)],[]⟩) [2] Pp hq))))
    ·refine Af hq zzN178 Pp ?_;cases h;exact gN Cr
   ·cases h;exact gO (Bk (B2 [] Pp hq))
  ·clear hx25;rcases x25 with⟨l16,l17,i18,l19,i20,l21,l22⟩|r27
   ·refine gA ?_;refine Af hq [2] Pp ?_;refine Ri (⟨[(2,Pq)],(Q91 l16 l17 i18 l19 i20 l21 l22),[]⟩:St) ?_;cases h;exact gK (e:=.ret) (J7 zzN85 (Le.trans (le_obj (nm:=8) (.map false .i64 (Et Q90 l16)) rfl (fun _ _ _ _ h_=>objAt_nn h_)) (B2 (st':=⟨[(2,Pq)],[(8,.obj (.map false .i64 (Et Q90 l16))),(Z24 l17 i18 l19 i20 l21 l22),(Mj 37006 149 l22.length)],[]⟩) [2] Pp hq)))
   ·refine N2 (fun st' hk=>?_);obtain rfl:=OI h;exact gK hk
def F1(aa3:Int)(a4:TFunc)(a9:Int)(aA:List Int)(a8:List (Int×Aj))(a7:List Ar):Option (Jf×TFunc×Int×List Int×List Ar):=
 (A6 (A2 aa3 a4.Blocks.length) (some ((⟨aa3,(((a4.Blocks.getD aa3.toNat default).Ops).length:Int)⟩:Jf),a4,a9,aA,a7)))
theorem Mw(aa3:Int)(a4:TFunc)(a9:Int)(aA:List Int)(a8:List (Int×Aj))(a7:List Ar)(r:(Jf×TFunc×Int×List Int×List Ar))(h:F1 aa3 a4 a9 aA a8 a7=some r):Spec Tryz.prog 146 [Z60,(Z7 aa3)] [(Z1 a4.Params a4.Ret a4.Blocks a9 aA 9100005 a7),(Mj 37006 149 a7.length),(9100005,.obj (.map false .i64 (Et (fun(v_:Aj)=>((U1 v_):AV)) a8)))] (.agg (eTplace r.1)) [(Z1 r.2.1.Params r.2.1.Ret r.2.1.Blocks r.2.2.1 r.2.2.2.1 9100005 r.2.2.2.2),(Mj 37006 149 r.2.2.2.2.length),(9100005,.obj (.map false .i64 (Et (fun(v_:Aj)=>((U1 v_):AV)) a8)))]:=by
 refine Ac mix Tryz.func146 (fun Γ hq=>?_);unfold F1 at h;refine Af hq [0,1,4] zzN161 ?_;obtain⟨hc1,h⟩:=Aa h;refine gR hq [4] zzN161 [] [] (c1 hc1) ?_;cases h;exact Cf Aaj
def Ex(aC:Int)(aa4:(Int×Int))(aH:Jf)(a4:TFunc)(a9:Int)(aA:List Int)(a8:List (Int×Aj))(a7:List Ar):Option (TFunc×Int×List Int×List Ar):=
 (A6 (a7.length+([(⟨aC,aa4,aH⟩:Ar)]:List Ar).length<=room) (some (a4,a9,aA,(a7++([(⟨aC,aa4,aH⟩:Ar)]:List Ar)))))
theorem Kk(aC:Int)(aa4:(Int×Int))(aH:Jf)(a4:TFunc)(a9:Int)(aA:List Int)(a8:List (Int×Aj))(a7:List Ar)(r:(TFunc×Int×List Int×List Ar))(h:Ex aC aa4 aH a4 a9 aA a8 a7=some r):Spec Tryz.prog 145 [Z60,(Z7 aC),(.agg (Bp aa4)),(.agg (eTplace aH))] [(Z1 a4.Params a4.Ret a4.Blocks a9 aA 9100005 a7),(Mj 37006 149 a7.length),(9100005,.obj (.map false .i64 (Et (fun(v_:Aj)=>((U1 v_):AV)) a8)))] (.tuple []) [(Z1 r.1.Params r.1.Ret r.1.Blocks r.2.1 r.2.2.1 9100005 r.2.2.2),(Mj 37006 149 r.2.2.2.length),(9100005,.obj (.map false .i64 (Et (fun(v_:Aj)=>((U1 v_):AV)) a8)))]:=by
 refine Ac mix Tryz.func145 (fun Γ hq=>?_);unfold Ex at h;refine Af hq [0,1,6,7] zzN61 ?_;obtain⟨hc1,h⟩:=Aa h;refine gR hq [] I9 [(17,(AV.list 5 Nn default ([(⟨aC,aa4,aH⟩:Ar)]:List Ar) .exact)),(18,(AV.list 5 Nn default (a7++([(⟨aC,aa4,aH⟩:Ar)]:List Ar)) (.own 37006)))] [] (ci (Bx 5 Nn (default:Ar) ([(⟨aC,aa4,aH⟩:Ar)]:List Ar)) (ci (Eq.refl a7.length) (ci hc1 (ci (Ix 5 37006 Nn (default:Ar) a7 ([(⟨aC,aa4,aH⟩:Ar)]:List Ar)) (c1 (Fe a7 ([(⟨aC,aa4,aH⟩:Ar)]:List Ar))))))) ?_;cases h;exact gK (e:=.normal) (J7 Aaj (Le.refl _ _))
def Q92:List (Nat×AV):=[(2,Z34)]
def Nb(a1:C1):Option (List (Int×Int)):=
 ((Ol a1).bind fun x1=>(bif (!x1) then(some ([]:List (Int×Int))) else((Nd a1).bind fun x2=>(some x2))))
theorem ok_kind_Takes(a1:C1)(r:List ((Int×Int)))(h:Nb a1=some r):Spec Tryz.prog 147 (Z69 a1) [] (Z5 r) []:=by
 refine Ac mix Tryz.func147 (fun Γ hq=>?_);unfold Nb at h;refine gR hq [1] [1] Q92 [] (c1 (Dh 2 Bp ((0:Int),(0:Int)))) ?_;obtain⟨x1,hx1,h⟩:=bind_some h;refine gR hq [1,5] [1] [] [(Z2 x1)] (c1 (Yc a1 x1 hx1)) ?_;refine gC h ?_ ?_<;>intro h
 ·refine gR hq [2] [] Q92 [] (c1 (Dh 2 Bp ((0:Int),(0:Int)))) ?_;refine Ri (⟨Q92,[],[]⟩:St) ?_;cases h;exact gK (e:=.ret) (J7 [] (show Le Γ _ (⟨[(2,(AV.list 2 Bp ((0:Int),(0:Int)) ([]:List (Int×Int)) .none))],[],[]⟩:St) from Le.trans (B2 (st':=⟨Q92,[],[]⟩) [2] [] hq) (Jo (.cons AVle.untag .nil) .nil)))
 ·obtain⟨x2,hx2,h⟩:=bind_some h;refine gR hq [2] [] [] [(Z44 x2)] (c1 (ok_kind_takes a1 x2 hx2)) ?_;obtain rfl:=OI h;exact Cf []
def Du(a4:TFunc)(a8:List (Int×Aj))(i1:Int)(i21:Int):(Int×List Int×Int×List Ad×Int×List Int×List Ar)->Option (LR (Int×List Int×Int×List Ad×Int×List Int×List Ar) (List Int×Int×List Ad×Int×List Int×List Ar)):=
 fun((i35,l36,i37,l38,i39,l40,l41):(Int×List Int×Int×List Ad×Int×List Int×List Ar))=>(bif (decide (i35<(((((a4.Blocks.getD i1.toNat default).Phis).getD i21.toNat default).Args).length:Int))) then(A6 (A2 i35 ((((a4.Blocks.getD i1.toNat default).Phis).getD i21.toNat default).Args).length) ((Ej ((((a4.Blocks.getD i1.toNat default).Phis).getD i21.toNat default).Bits)).bind fun x49=>(A6 (A2 i35 ((((a4.Blocks.getD i1.toNat default).Phis).getD i21.toNat default).From).length) ((F1 (((((a4.Blocks.getD i1.toNat default).Phis).getD i21.toNat default).From).getD i35.toNat 0) (⟨l36,i37,l38⟩:TFunc) i39 l40 a8 l41).bind fun x51=>((Ex (((((a4.Blocks.getD i1.toNat default).Phis).getD i21.toNat default).Args).getD i35.toNat 0) x49 x51.1 x51.2.1 x51.2.2.1 x51.2.2.2.1 a8 x51.2.2.2.2).bind fun x52=>(some (.next ((w64 (i35+1)),x52.1.Params,x52.1.Ret,x52.1.Blocks,x52.2.1,x52.2.2.1,x52.2.2.2)))))))) else(some (.done (l36,i37,l38,i39,l40,l41))))
def Dv(a4:TFunc)(a8:List (Int×Aj))(i1:Int):(Int×List Int×Int×List Ad×Int×List Int×List Ar)->Option (LR (Int×List Int×Int×List Ad×Int×List Int×List Ar) (List Int×Int×List Ad×Int×List Int×List Ar)):=
 fun((i21,l22,i23,l24,i25,l26,l27):(Int×List Int×Int×List Ad×Int×List Int×List Ar))=>(bif (decide (i21<(((a4.Blocks.getD i1.toNat default).Phis).length:Int))) then(A6 (A2 i21 ((a4.Blocks.getD i1.toNat default).Phis).length) ((Ah (Du a4 a8 i1 i21) ((0:Int),l22,i23,l24,i25,l26,l27)).bind (fun(l42,i43,l44,i45,l46,l47)=>(some (.next ((w64 (i21+1)),l42,i43,l44,i45,l46,l47)))))) else(some (.done (l22,i23,l24,i25,l26,l27))))
def Dw(a4:TFunc)(a8:List (Int×Aj))(i1:Int)(i57:Int)(x71:List ((Int×Int))):(Int×List Int×Int×List Ad×Int×List Int×List Ar)->Option (LR (Int×List Int×Int×List Ad×Int×List Int×List Ar) (List Int×Int×List Ad×Int×List Int×List Ar)):=
 fun((i72,l73,i74,l75,i76,l77,l78):(Int×List Int×Int×List Ad×Int×List Int×List Ar))=>(bif (decide (i72<(x71.length:Int))) then(A6 (A2 i72 x71.length) (A6 (A2 i72 ((((a4.Blocks.getD i1.toNat default).Ops).getD i57.toNat default).Args).length) ((Ex (((((a4.Blocks.getD i1.toNat default).Ops).getD i57.toNat default).Args).getD i72.toNat 0) (x71.getD i72.toNat ((0:Int),(0:Int))) (⟨i1,i57⟩:Jf) (⟨l73,i74,l75⟩:TFunc) i76 l77 a8 l78).bind fun x87=>(some (.next ((w64 (i72+1)),x87.1.Params,x87.1.Ret,x87.1.Blocks,x87.2.1,x87.2.2.1,x87.2.2.2)))))) else(some (.done (l73,i74,l75,i76,l77,l78))))
def Dx(a4:TFunc)(a8:List (Int×Aj))(i1:Int):(Int×List Int×Int×List Ad×Int×List Int×List Ar)->Option (LR (Int×List Int×Int×List Ad×Int×List Int×List Ar) (List Int×Int×List Ad×Int×List Int×List Ar)):=
 fun((i57,l58,i59,l60,i61,l62,l63):(Int×List Int×Int×List Ad×Int×List Int×List Ar))=>(bif (decide (i57<(((a4.Blocks.getD i1.toNat default).Ops).length:Int))) then(A6 (A2 i57 ((a4.Blocks.getD i1.toNat default).Ops).length) ((Nb (((a4.Blocks.getD i1.toNat default).Ops).getD i57.toNat default)).bind fun x71=>((Ah (Dw a4 a8 i1 i57 x71) ((0:Int),l58,i59,l60,i61,l62,l63)).bind (fun(l79,i80,l81,i82,l83,l84)=>(some (.next ((w64 (i57+1)),l79,i80,l81,i82,l83,l84))))))) else(some (.done (l58,i59,l60,i61,l62,l63))))
def Dy(a4:TFunc)(a8:List (Int×Aj)):(Int×List Int×Int×List Ad×Int×List Int×List Ar)->Option (LR (Int×List Int×Int×List Ad×Int×List Int×List Ar) (List Int×Int×List Ad×Int×List Int×List Ar)):=
 fun((i1,l2,i3,l4,i5,l6,l7):(Int×List Int×Int×List Ad×Int×List Int×List Ar))=>(bif (decide (i1<(a4.Blocks.length:Int))) then(Option.bind (α:=(List Int×Int×List Ad×Int×List Int×List Ar)) (A6 (A2 i1 a4.Blocks.length) ((Ah (Dv a4 a8 i1) ((0:Int),l2,i3,l4,i5,l6,l7)).bind (fun x55=>(match x55 with|(l28,i29,l30,i31,l32,l33)=>((Ah (Dx a4 a8 i1) ((0:Int),l28,i29,l30,i31,l32,l33)).bind (fun x90=>(match x90 with|(l64,i65,l66,i67,l68,l69)=>(bif (((a4.Blocks.getD i1.toNat default).End.Kind:Int)==0) then((Ej i65).bind fun x92=>((F1 i1 (⟨l64,i65,l66⟩:TFunc) i67 l68 a8 l69).bind fun x93=>((Ex ((a4.Blocks.getD i1.toNat default).End.Arg) x92 x93.1 x93.2.1 x93.2.2.1 x93.2.2.2.1 a8 x93.2.2.2.2).bind fun x94=>(some (x94.1.Params,x94.1.Ret,x94.1.Blocks,x94.2.1,x94.2.2.1,x94.2.2.2))))) else(bif (((a4.Blocks.getD i1.toNat default).End.Kind:Int)==2) then((Ej (1:Int)).bind fun x95=>((F1 i1 (⟨l64,i65,l66⟩:TFunc) i67 l68 a8 l69).bind fun x96=>((Ex ((a4.Blocks.getD i1.toNat default).End.Arg) x95 x96.1 x96.2.1 x96.2.2.1 x96.2.2.2.1 a8 x96.2.2.2.2).bind fun x97=>(some (x97.1.Params,x97.1.Ret,x97.1.Blocks,x97.2.1,x97.2.2.1,x97.2.2.2))))) else(some (l64,i65,l66,i67,l68,l69))))))))))) (fun x98=>(match x98 with|(l14,i15,l16,i17,l18,l19)=>(some (.next ((w64 (i1+1)),l14,i15,l16,i17,l18,l19)))))) else(some (.done (l2,i3,l4,i5,l6,l7))))
def Q94(a4:TFunc)(i1:Int):=(a4.Blocks.getD i1.toNat default)
def Q93(a8:List (Int×Aj)):=(Et (fun(v_:Aj)=>((U1 v_):AV)) a8)
def Gp(a4:TFunc)(a9:Int)(aA:List Int)(a8:List (Int×Aj))(a7:List Ar):Option (TFunc×Int×List Int×List Ar):=
 ((Ah (Dy a4 a8) ((0:Int),a4.Params,a4.Ret,a4.Blocks,a9,aA,a7)).bind (fun(l8,i9,l10,i11,l12,l13)=>(some ((⟨l8,i9,l10⟩:TFunc),i11,l12,l13))))
theorem Tn(a4:TFunc)(a9:Int)(aA:List Int)(a8:List (Int×Aj))(a7:List Ar)(r:(TFunc×Int×List Int×List Ar))(h:Gp a4 a9 aA a8 a7=some r):Spec Tryz.prog 114 [Z60] [(Z1 a4.Params a4.Ret a4.Blocks a9 aA 9100005 a7),(Mj 37006 149 a7.length),(9100005,.obj (.map false .i64 (Et (fun(v_:Aj)=>((U1 v_):AV)) a8)))] (.tuple []) [(Z1 r.1.Params r.1.Ret r.1.Blocks r.2.1 r.2.2.1 9100005 r.2.2.2),(Mj 37006 149 r.2.2.2.length),(9100005,.obj (.map false .i64 (Et (fun(v_:Aj)=>((U1 v_):AV)) a8)))]:=by
 refine Ac mix Tryz.func114 (fun Γ hq=>?_);unfold Gp at h;refine Af hq zzN89 I9 ?_;obtain⟨x100,hx100,h⟩:=bind_some h;refine gL hq hx100 zzN89 I9 (fun u (i1,l2,i3,l4,i5,l6,l7)=>(Eu u [(18,(Z7 i1))] (Z14 l2 i3 l4 i5 l6 l7 l7.length))) (fun u (l8,i9,l10,i11,l12,l13)=>aG Γ (.exit 0) (Oz [] I9 u [] (Z14 l8 i9 l10 i11 l12 l13 l13.length))) ?_ ?_
 ·rintro⟨i1,l2,i3,l4,i5,l6,l7⟩ y h;unfold Dy at h;refine Af hq [0,16,17,18,19] I9 ?_;refine gC h ?_ ?_<;>intro h
  ·obtain⟨x98,hx98,h⟩:=bind_some h;refine gJ hx98 (fun(l14,i15,l16,i17,l18,l19)=>aG Γ .normal (⟨[(0,Z60),(16,(Z16 a4.Blocks)),(17,(Z54 a4.Blocks.length)),(18,(Z7 i1))],(Z9 l14 i15 l16 i17 l18 l19 l19.length (Q93 a8)),[]⟩:St)) ?_ ?_
   ·clear h hx98;intro y h;obtain⟨hc20,h⟩:=Aa h;refine gR hq zzN72 Rh [] [] (c1 hc20) ?_;refine Af hq zzN36 Rh ?_;obtain⟨x55,hx55,h⟩:=bind_some h;refine gL hq hx55 zzN36 Rh (fun u (i21,l22,i23,l24,i25,l26,l27)=>(Eu u [(26,(Z7 i21))] (Z14 l22 i23 l24 i25 l26 l27 l27.length))) (fun u (l28,i29,l30,i31,l32,l33)=>aG Γ (.exit 2) (Oz zzN72 Rh u [] (Z14 l28 i29 l30 i31 l32 l33 l33.length))) ?_ ?_
    ·rintro⟨i21,l22,i23,l24,i25,l26,l27⟩ y h;unfold Dv at h;refine Af hq [0,2,3,16,17,18,24,25,26,27] Rh ?_;refine gC h ?_ ?_<;>intro h
     ·obtain⟨hc34,h⟩:=Aa h;refine gR hq [0,2,3,5,16,17,18,24,25,26] zzN15 [] [] (c1 hc34) ?_;refine Af hq zzN25 zzN15 ?_;obtain⟨x53,hx53,h⟩:=bind_some h;refine gL hq hx53 zzN25 zzN15 (fun u (i35,l36,i37,l38,i39,l40,l41)=>(Eu u [(33,(Z7 i35))] (Z14 l36 i37 l38 i39 l40 l41 l41.length))) (fun u (l42,i43,l44,i45,l46,l47)=>aG Γ (.exit 4) (Oz zzN36 Rh u [] (Z14 l42 i43 l44 i45 l46 l47 l47.length))) ?_ ?_
      ·rintro⟨i35,l36,i37,l38,i39,l40,l41⟩ y h;unfold Du at h;refine Af hq [0,2,3,5,16,17,18,24,25,26,31,32,33,34] zzN15 ?_;refine gC h ?_ ?_<;>intro h
       ·obtain⟨hc48,h⟩:=Aa h;refine gR hq [0,2,3,5,6,7,16,17,18,24,25,26,31,32,33] zzN15 [] [] (c1 hc48) ?_;obtain⟨x49,hx49,h⟩:=bind_some h;obtain⟨hc50,h⟩:=Aa h;obtain⟨x51,hx51,h⟩:=bind_some h;obtain⟨x52,hx52,h⟩:=bind_some h;refine gR hq zzN25 zzN15 [] [(Z72 x49),(Z57 x51.1 x51.2.1.Params x51.2.1.Ret x51.2.1.Blocks x51.2.2.1 x51.2.2.2.1 x51.2.2.2.2 x51.2.2.2.2.length (Q93 a8)),(Z27 x52.1.Params x52.1.Ret x52.1.Blocks x52.2.1 x52.2.2.1 x52.2.2.2 x52.2.2.2.length (Q93 a8))] (ci (L5 ((((Q94 a4 i1).Phis).getD i21.toNat default).Bits) x49 hx49) (ci hc50 (ci (Mw (((((Q94 a4 i1).Phis).getD i21.toNat default).From).getD i35.toNat 0) (⟨l36,i37,l38⟩:TFunc) i39 l40 a8 l41 x51 hx51) (c1 (Kk (((((Q94 a4 i1).Phis).getD i21.toNat default).Args).getD i35.toNat 0) x49 x51.1 x51.2.1 x51.2.2.1 x51.2.2.2.1 a8 x51.2.2.2.2 x52 hx52))))) ?_;refine Af hq zzN25 zzN15 ?_;cases h;exact gN Cr
       ·cases h;exact gO (Bk (B2 zzN36 Rh hq))
      ·clear hx53;rcases x53 with⟨l42,i43,l44,i45,l46,l47⟩;refine gA ?_;refine Af hq zzN36 Rh ?_;cases h;exact gN Cr
     ·cases h;exact gO (Bk (B2 zzN72 Rh hq))
    ·clear hx55;rcases x55 with⟨l28,i29,l30,i31,l32,l33⟩;refine gA ?_;refine Af hq zzN37 Rh ?_;obtain⟨x90,hx90,h⟩:=bind_some h;refine gL hq hx90 zzN37 Rh (fun u (i57,l58,i59,l60,i61,l62,l63)=>(Eu u [(56,(Z7 i57))] (Z14 l58 i59 l60 i61 l62 l63 l63.length))) (fun u (l64,i65,l66,i67,l68,l69)=>aG Γ (.exit 6) (Oz zzN72 Rh u [] (Z14 l64 i65 l66 i67 l68 l69 l69.length))) ?_ ?_
     ·rintro⟨i57,l58,i59,l60,i61,l62,l63⟩ y h;unfold Dx at h;refine Af hq [0,2,3,16,17,18,54,55,56,57] Rh ?_;refine gC h ?_ ?_<;>intro h
      ·obtain⟨hc70,h⟩:=Aa h;refine gR hq [0,2,3,8,9,16,17,18,54,55,56] zzN34 [] [] (c1 hc70) ?_;obtain⟨x71,hx71,h⟩:=bind_some h;refine gR hq zzN24 zzN34 [] [(Z44 x71)] (c1 (ok_kind_Takes (((Q94 a4 i1).Ops).getD i57.toNat default) x71 hx71)) ?_;obtain⟨x88,hx88,h⟩:=bind_some h;refine gL hq hx88 zzN24 zzN34 (fun u (i72,l73,i74,l75,i76,l77,l78)=>(Eu u [(64,(Z7 i72))] (Z14 l73 i74 l75 i76 l77 l78 l78.length))) (fun u (l79,i80,l81,i82,l83,l84)=>aG Γ (.exit 8) (Oz zzN37 Rh u [] (Z14 l79 i80 l81 i82 l83 l84 l84.length))) ?_ ?_
       ·rintro⟨i72,l73,i74,l75,i76,l77,l78⟩ y h;unfold Dw at h;refine Af hq [0,2,3,8,9,16,17,18,54,55,56,62,63,64,65] zzN34 ?_;refine gC h ?_ ?_<;>intro h
        ·obtain⟨hc85,h⟩:=Aa h;refine gR hq [0,2,3,8,9,10,11,16,17,18,54,55,56,62,63,64] [3,9,11,30000,37006,9100005] [] [] (c1 hc85) ?_;obtain⟨hc86,h⟩:=Aa h;obtain⟨x87,hx87,h⟩:=bind_some h;refine gR hq zzN24 zzN34 [] [(Z27 x87.1.Params x87.1.Ret x87.1.Blocks x87.2.1 x87.2.2.1 x87.2.2.2 x87.2.2.2.length (Q93 a8))] (ci hc86 (c1 (Kk (((((Q94 a4 i1).Ops).getD i57.toNat default).Args).getD i72.toNat 0) (x71.getD i72.toNat ((0:Int),(0:Int))) (⟨i1,i57⟩:Jf) (⟨l73,i74,l75⟩:TFunc) i76 l77 a8 l78 x87 hx87))) ?_;refine Af hq zzN24 zzN34 ?_;cases h;exact gN Cr
        ·cases h;exact gO (Bk (B2 zzN37 Rh hq))
       ·clear hx88;rcases x88 with⟨l79,i80,l81,i82,l83,l84⟩;refine gA ?_;refine Af hq zzN37 Rh ?_;cases h;exact gN Cr
      ·cases h;exact gO (Bk (B2 zzN72 Rh hq))
     ·clear hx90;rcases x90 with⟨l64,i65,l66,i67,l68,l69⟩;refine gA ?_;refine Af hq [0,2,3,16,17,18,84] Rh ?_;refine Af hq [0,2,3,16,17,18,84,85] Rh ?_;refine gC h ?_ ?_<;>intro h
      ·obtain⟨x92,hx92,h⟩:=bind_some h;obtain⟨x93,hx93,h⟩:=bind_some h;obtain⟨x94,hx94,h⟩:=bind_some h;refine gR hq zzN89 I9 [] [(Z72 x92),(Z57 x93.1 x93.2.1.Params x93.2.1.Ret x93.2.1.Blocks x93.2.2.1 x93.2.2.2.1 x93.2.2.2.2 x93.2.2.2.2.length (Q93 a8)),(Z27 x94.1.Params x94.1.Ret x94.1.Blocks x94.2.1 x94.2.2.1 x94.2.2.2 x94.2.2.2.length (Q93 a8))] (ci (L5 i65 x92 hx92) (ci (Mw i1 (⟨l64,i65,l66⟩:TFunc) i67 l68 a8 l69 x93 hx93) (c1 (Kk ((Q94 a4 i1).End.Arg) x92 x93.1 x93.2.1 x93.2.2.1 x93.2.2.2.1 a8 x93.2.2.2.2 x94 hx94)))) ?_;cases h;exact gK (Bk Cr)
      ·refine Af hq [0,2,3,16,17,18,101] Rh ?_;refine gC h ?_ ?_<;>intro h
       ·obtain⟨x95,hx95,h⟩:=bind_some h;obtain⟨x96,hx96,h⟩:=bind_some h;obtain⟨x97,hx97,h⟩:=bind_some h;refine gR hq zzN89 I9 [] [(Z72 x95),(Z57 x96.1 x96.2.1.Params x96.2.1.Ret x96.2.1.Blocks x96.2.2.1 x96.2.2.2.1 x96.2.2.2.2 x96.2.2.2.2.length (Q93 a8)),(Z27 x97.1.Params x97.1.Ret x97.1.Blocks x97.2.1 x97.2.2.1 x97.2.2.2 x97.2.2.2.length (Q93 a8))] (ci (L5 (1:Int) x95 hx95) (ci (Mw i1 (⟨l64,i65,l66⟩:TFunc) i67 l68 a8 l69 x96 hx96) (c1 (Kk ((Q94 a4 i1).End.Arg) x95 x96.1 x96.2.1 x96.2.2.1 x96.2.2.2.1 a8 x96.2.2.2.2 x97 hx97)))) ?_;cases h;exact gK (Bk Cr)
       ·cases h;exact gK (Bk (B2 zzN89 I9 hq))
   ·clear hx98;rcases x98 with⟨l14,i15,l16,i17,l18,l19⟩;refine gA ?_;refine Af hq zzN89 I9 ?_;cases h;exact gN Cr
  ·cases h;exact gO (Bk (B2 [] I9 hq))
 ·clear hx100;rcases x100 with⟨l8,i9,l10,i11,l12,l13⟩;refine gA' (fun st' hl101=>?_);cases h;exact gK (e:=.normal) (J7 Aaj hl101)
def I4(aU:Ar)(a4:TFunc)(a9:Int)(aA:List Int)(a8:List (Int×Aj))(a7:List Ar):Option (Bool×TFunc×Int×List Int×List Ar):=
 (some ((Gi a8 aU.v),a4,a9,aA,a7))
theorem Tt(aU:Ar)(a4:TFunc)(a9:Int)(aA:List Int)(a8:List (Int×Aj))(a7:List Ar)(r:(Bool×TFunc×Int×List Int×List Ar))(h:I4 aU a4 a9 aA a8 a7=some r):Spec Tryz.prog 115 [Z60,(.agg (Nn aU))] [(Z1 a4.Params a4.Ret a4.Blocks a9 aA 9100005 a7),(Mj 37006 149 a7.length),(9100005,.obj (.map false .i64 (Et (fun(v_:Aj)=>((U1 v_):AV)) a8)))] (.bool r.1) [(Z1 r.2.1.Params r.2.1.Ret r.2.1.Blocks r.2.2.1 r.2.2.2.1 9100005 r.2.2.2.2),(Mj 37006 149 r.2.2.2.2.length),(9100005,.obj (.map false .i64 (Et (fun(v_:Aj)=>((U1 v_):AV)) a8)))]:=by
 refine Ac mix Tryz.func115 (fun Γ hq=>?_);unfold I4 at h;refine Af hq Rp Rh ?_;refine gR hq [6] I9 [(14,(.tuple [(Z40 a8 aU.v),(.bool (Gi a8 aU.v))]))] [] (c1 (show(AVle (.tuple [H4 (.agg [Pq,Pq,Pq,Pq]) (Et (fun(v_:Aj)=>((U1 v_):AV)) a8) aU.v,.bool (Gi (Et (fun(v_:Aj)=>((U1 v_):AV)) a8) aU.v)]) (.tuple [(Z40 a8 aU.v),(.bool (Gi a8 aU.v))])) from(mlook_le (f:=(fun(v_:Aj)=>((U1 v_):AV))) (l:=a8) (AVle.refl _) rfl))) ?_;refine Af hq [4] I9 ?_;cases h;exact Cf Aaj
def Kh(aU:Ar)(a4:TFunc)(a9:Int)(aA:List Int)(a8:List (Int×Aj))(a7:List Ar):Option (Bool×TFunc×Int×List Int×List Ar):=
 (some (((((H4 (default:Aj) a8 aU.v).shape.1:Int)==aU.shape.1)&&((((H4 (default:Aj) a8 aU.v).shape.2:Int)==aU.shape.2)&&true)),a4,a9,aA,a7))
theorem Wy(aU:Ar)(a4:TFunc)(a9:Int)(aA:List Int)(a8:List (Int×Aj))(a7:List Ar)(r:(Bool×TFunc×Int×List Int×List Ar))(h:Kh aU a4 a9 aA a8 a7=some r):Spec Tryz.prog 116 [Z60,(.agg (Nn aU))] [(Z1 a4.Params a4.Ret a4.Blocks a9 aA 9100005 a7),(Mj 37006 149 a7.length),(9100005,.obj (.map false .i64 (Et (fun(v_:Aj)=>((U1 v_):AV)) a8)))] (.bool r.1) [(Z1 r.2.1.Params r.2.1.Ret r.2.1.Blocks r.2.2.1 r.2.2.2.1 9100005 r.2.2.2.2),(Mj 37006 149 r.2.2.2.2.length),(9100005,.obj (.map false .i64 (Et (fun(v_:Aj)=>((U1 v_):AV)) a8)))]:=by
 refine Ac mix Tryz.func116 (fun Γ hq=>?_);unfold Kh at h;refine Af hq Rp Rh ?_;refine gR hq [4] I9 [(11,(Z40 a8 aU.v))] [] (c1 (show(AVle (H4 (.agg [Pq,Pq,Pq,Pq]) (Et (fun(v_:Aj)=>((U1 v_):AV)) a8) aU.v) (Z40 a8 aU.v)) from(mget_le (f:=(fun(v_:Aj)=>((U1 v_):AV))) (l:=a8) (AVle.refl _) rfl))) ?_;cases h;exact Cf Aaj
def Ci(aM:List Int)(aC:Int):Int->Option (LR Int (Unit ⊕ Int)):=
 fun(i1:Int)=>(bif (decide (i1<(aM.length:Int))) then(A6 (A2 i1 aM.length) (bif (aC==(aM.getD i1.toNat 0)) then(some (.done (.inr i1))) else(some (.next (w64 (i1+1)))))) else(some (.done (.inl ()))))
def Uz(Γ:Iw)(aM:List Int)(aC:Int)(r:Int):Exit->St->Prop:=fK Tryz.prog Γ Tryz.f131.results.toList [] (.int .i64 r) []
def Fx(aM:List Int)(aC:Int):Option Int:=
 ((Ah (Ci aM aC) (0:Int)).bind (fun x3=>(match x3 with|(.inl _)=>(some (-1:Int))|(.inr r5)=>(some r5))))
theorem Uk(aM:List Int)(aC:Int)(r:Int)(h:Fx aM aC=some r):Spec Tryz.prog 131 [(Z8 aM),(Z7 aC)] [] (.int .i64 r) []:=by
 refine Ac mix Tryz.func131 (fun Γ hq=>?_);unfold Fx at h;refine Af hq Jy [] ?_;refine Af hq zzN115 [] ?_;obtain⟨x3,hx3,h⟩:=bind_some h;refine gL hq hx3 zzN115 [] (fun u i1=>(Eu u [(8,(Z7 i1))] [])) (fun u x_=>match x_ with|(.inl _)=>aG Γ (.exit 0) (⟨[],[],[]⟩:St)|(.inr r_)=>aR (Uz Γ aM aC r_)) ?_ ?_
 ·intro i1 y h;unfold Ci at h;refine Af hq [0,1,7,8,9] [] ?_;refine gC h ?_ ?_<;>intro h
  ·refine Af hq [0,1,5,7,8] [] ?_;obtain⟨hc2,h⟩:=Aa h;refine gR hq [0,1,5,7,8,16] [] [] [] (c1 hc2) ?_;refine gC h ?_ ?_<;>intro h
   ·refine Af hq [4] [] ?_;cases h;exact gO (L0 (J7 [] (Le.refl _ _)))
   ·refine Af hq zzN115 [] ?_;cases h;exact gN Cr
  ·cases h;exact gO (Bk (B2 [] [] hq))
 ·clear hx3;rcases x3 with _|r5
  ·refine gA ?_;refine Af hq [4] [] ?_;cases h;exact Cf []
  ·refine N2 (fun st' hk=>?_);obtain rfl:=OI h;exact gK hk
def Kp(a6:List Int)(aH:Int):Option Bool:=
 (some (bif (decide (((0:Int):Int)<=aH)) then(decide (aH<(a6.length:Int))) else false))
theorem X8(a6:List Int)(aH:Int)(r:Bool)(h:Kp a6 aH=some r):Spec Tryz.prog 133 [(Z8 a6),(Z7 aH)] [] (.bool r) []:=by
 refine Ac mix Tryz.func133 (fun Γ hq=>?_);unfold Kp at h;refine Af hq Jy [] ?_;refine gR hq [4] [] [] [] (ci (gI ((decide (((0:Int):Int)<=aH))==true)) (ci (gI ((decide (((0:Int):Int)<=aH))==true)) (ci (gI ((decide (((0:Int):Int)<=aH))==true)) (c1 (M7 (decide (((0:Int):Int)<=aH))))))) ?_;cases h;exact Cf []
def D3(a6:List Int)(aa8:Int)(aa1:Int):(Int×List Int)->Option (LR (Int×List Int) (List Int ⊕ (Bool×List Int))):=
 fun((i1,l2):(Int×List Int))=>(bif (i1 !=aa1) then(A6 (A2 i1 l2.length) (bif (((l2.getD i1.toNat 0):Int)!=0) then(A6 (A2 i1 l2.length) (some (.done (.inr ((((l2.getD i1.toNat 0):Int)!=(w64 (aa8+1))),l2))))) else(A6 (A2 i1 a6.length) ((Kp a6 (a6.getD i1.toNat 0)).bind fun x7=>(bif (!x7) then(some (.done (.inr (false,l2)))) else(A6 (A2 i1 l2.length) (A6 (A2 i1 a6.length) (some (.next ((a6.getD i1.toNat 0),(l2.set i1.toNat (w64 (aa8+1))))))))))))) else(some (.done (.inl l2))))
def K_dom_leads(Γ:Iw)(a6:List Int)(aaJ:List Int)(aa8:Int)(aa1:Int)(r:(Bool×List Int)):Exit->St->Prop:=fK Tryz.prog Γ Tryz.f132.results.toList [(Z4 34001 aaJ)] (.bool r.1) [(Z4 34001 r.2)]
def Qq(a6:List Int)(aaJ:List Int)(aa8:Int)(aa1:Int):Option (Bool×List Int):=
 ((Ah (D3 a6 aa8 aa1) (aa8,aaJ)).bind (fun x10=>(match x10 with|(.inl l3)=>(some (true,l3))|(.inr r12)=>(some r12))))
theorem ok_dom_leads(a6:List Int)(aaJ:List Int)(aa8:Int)(aa1:Int)(r:(Bool×List Int))(h:Qq a6 aaJ aa8 aa1=some r):Spec Tryz.prog 132 [(Z8 a6),(.vsl 34001 aaJ.length),(Z7 aa8),(Z7 aa1)] [(Z4 34001 aaJ)] (.bool r.1) [(Z4 34001 r.2)]:=by
 refine Ac mix Tryz.func132 (fun Γ hq=>?_);unfold Qq at h;refine Af hq [0,1,2,3] [34001] ?_;refine Af hq [0,1,2,3,9] [34001] ?_;refine Af hq zzN129 [34001] ?_;obtain⟨x10,hx10,h⟩:=bind_some h;refine gL hq hx10 zzN129 [34001] (fun u (i1,l2)=>(Eu u [(1,(.vsl 34001 l2.length)),(10,(Z7 i1))] [(Z4 34001 l2)])) (fun u x_=>match x_ with|(.inl l3)=>aG Γ (.exit 0) (⟨[],[(Z4 34001 l3)],[]⟩:St)|(.inr r_)=>aR (K_dom_leads Γ a6 aaJ aa8 aa1 r_)) ?_ ?_
 ·rintro⟨i1,l2⟩ y h;unfold D3 at h;refine Af hq [0,1,3,9,10,16] [34001] ?_;refine gC h ?_ ?_<;>intro h
  ·obtain⟨hc4,h⟩:=Aa h;refine gR hq [0,1,3,9,10,25] [34001] [] [] (ci hc4 (c1 (Eq.refl l2.length))) ?_;refine gC h ?_ ?_<;>intro h
   ·obtain⟨hc5,h⟩:=Aa h;refine gR hq [8] [34001] [] [] (ci hc5 (c1 (Eq.refl l2.length))) ?_;cases h;exact gO (L0 (J7 zzN167 (Le.refl _ _)))
   ·obtain⟨hc6,h⟩:=Aa h;obtain⟨x7,hx7,h⟩:=bind_some h;refine gR hq [0,1,3,9,10,38] [34001] [] [(Z2 x7)] (ci hc6 (c1 (X8 a6 (a6.getD i1.toNat 0) x7 hx7))) ?_;refine gC h ?_ ?_<;>intro h
    ·refine Af hq [8] [34001] ?_;cases h;exact gO (L0 (J7 zzN167 (Le.refl _ _)))
    ·obtain⟨hc8,h⟩:=Aa h;refine gR hq zzN129 [34001] [] [] (ci hc8 (c1 (Eq.refl l2.length))) ?_;refine Or (Le.trans (Wv 34001 (show ∀ k_,k_<l2.length->AVleL ((fun i_=>AV.eraseAll (fun n_=>D5 n_ [34001]) ((G5 (fun i=>Au (l2.getD i 0)) i1.toNat 0 [(.int .i64 (w64 (aa8+1)))]) i_)) k_) ((fun i=>Au ((l2.set i1.toNat (w64 (aa8+1))).getD i 0)) k_) from(Cn (Hb ..).symm (fun k_ hk_=>(Cq (AV.eraseAll (fun n_=>D5 n_ [34001])) ((Kl (fun _ _=>rfl) (Md hc8) rfl) k_ hk_)).trans rfl)))) (Ww (fun(k_:Nat) u=>(Eu u [(1,(.vsl 34001 k_))] [(34001,.arr 1 3 k_ (fun i=>Au ((l2.set i1.toNat (w64 (aa8+1))).getD i 0)))])) (show l2.length=(l2.set i1.toNat (w64 (aa8+1))).length from(Hb ..).symm))) ?_;obtain⟨hc9,h⟩:=Aa h;refine gR hq zzN129 [34001] [] [] (c1 hc9) ?_;cases h;exact gN Cr
  ·cases h;exact gO (Bk (B2 [] [34001] hq))
 ·clear hx10;rcases x10 with l3|r12
  ·refine gA ?_;refine Af hq [8] [34001] ?_;cases h;exact Cf zzN167
  ·refine N2 (fun st' hk=>?_);obtain rfl:=OI h;exact gK hk
def Gg(a6:List Int)(x1:Int):(Int×List Int)->Option (LR (Int×List Int) (Unit ⊕ Bool)):=
 fun((i3,l4):(Int×List Int))=>(bif (decide (i3<(a6.length:Int))) then(A6 (A2 i3 a6.length) ((bif ((((a6.getD i3.toNat 0):Int)!=-2)==true) then Qq a6 l4 i3 x1 else some (false,[])).bind fun x6=>(A6 (((((a6.getD i3.toNat 0):Int)!=-2)==true)=true->(l4.length=x6.2.length)) (bif (bif (((a6.getD i3.toNat 0):Int)!=-2) then(!x6.1) else false) then(some (.done (.inr false))) else(some (.next ((w64 (i3+1)),(bif ((((a6.getD i3.toNat 0):Int)!=-2)==true) then x6.2 else l4)))))))) else(some (.done (.inl ()))))
def K_dom_isTree(Γ:Iw)(a6:List Int)(r:Bool):Exit->St->Prop:=fK Tryz.prog Γ Tryz.f98.results.toList [] (.bool r) []
def Q97(a6:List Int)(i3:Int):=((((a6.getD i3.toNat 0):Int)!=-2)==true)
def Pa(a6:List Int):Option Bool:=
 ((Fx a6 (-1:Int)).bind fun x1=>(bif (decide (x1<0)) then(some false) else(A6 (0<=(a6.length:Int)/\(a6.length:Int)<=(a6.length:Int)/\(a6.length:Int)<=(room:Int)) ((Ah (Gg a6 x1) ((0:Int),(List.replicate (a6.length:Int).toNat (0:Int)))).bind (fun x8=>(match x8 with|(.inl _)=>(some true)|(.inr r10)=>(some r10)))))))
theorem ok_dom_isTree(a6:List Int)(r:Bool)(h:Pa a6=some r):Spec Tryz.prog 98 [(Z8 a6)] [] (.bool r) []:=by
 refine Ac mix Tryz.func98 (fun Γ hq=>?_);unfold Pa at h;refine Af hq [0] [] ?_;obtain⟨x1,hx1,h⟩:=bind_some h;refine gR hq Rp [] [] [(Z19 x1)] (c1 (Uk a6 (-1:Int) x1 hx1)) ?_;refine Af hq [0,3,9] [] ?_;refine gC h ?_ ?_<;>intro h
 ·refine Af hq [2] [] ?_;obtain rfl:=OI h;exact Cf []
 ·obtain⟨hc2,h⟩:=Aa h;refine gR hq zzN130 [12] [] [] (c1 hc2) ?_;refine Or (Le.trans (Wv 12 (show ∀ k_,k_<((a6.length:Int).toNat)->AVleL ((fun i_=>AV.eraseAll (fun n_=>D5 n_ [12]) ((fun _=>[Pq]) i_)) k_) ((fun i=>Au ((List.replicate (a6.length:Int).toNat (0:Int)).getD i 0)) k_) from(fun k hk=>Rr (e:=Au) (d:=(0:Int)) (.cons (AVle.refl _) .nil) _ k (Ru hk)))) (Ww (fun(k_:Nat) u=>(Eu u [(4,(.vsl 12 k_))] [(12,.arr 1 3 k_ (fun i=>Au ((List.replicate (a6.length:Int).toNat (0:Int)).getD i 0)))])) (show(a6.length:Int).toNat=(List.replicate (a6.length:Int).toNat (0:Int)).length from(Rj ..).symm))) ?_;refine Af hq zzN162 [12] ?_;obtain⟨x8,hx8,h⟩:=bind_some h;refine gL hq hx8 zzN162 [12] (fun u (i3,l4)=>(Eu u [(4,(.vsl 12 l4.length)),(15,(Z7 i3))] [(Z4 12 l4)])) (fun u x_=>match x_ with|(.inl _)=>aG Γ (.exit 0) (⟨[],[],[]⟩:St)|(.inr r_)=>aR (K_dom_isTree Γ a6 r_)) ?_ ?_
  ·rintro⟨i3,l4⟩ y h;unfold Gg at h;refine Af hq [0,3,4,14,15,16] [12] ?_;refine gC h ?_ ?_<;>intro h
   ·refine Af hq [0,3,4,5,14,15] [12] ?_;obtain⟨hc5,h⟩:=Aa h;obtain⟨x6,hx6,h⟩:=bind_some h;obtain⟨hc7,h⟩:=Aa h;refine gR hq [0,3,4,14,15,30] [12] [] [⟨[(12,34001)],[],(.bool x6.1),[(Z4 34001 x6.2)],[],[]⟩] (ci hc5 (ci (gI (Q97 a6 i3)) (ci (gI (Q97 a6 i3)) (ci (gI (Q97 a6 i3)) (ci (gI (Q97 a6 i3)) (ci (fun(hg:(Q97 a6 i3)=true)=>(ok_dom_leads a6 l4 i3 x1 x6 (Bg hg hx6))) (ci (gI (Q97 a6 i3)) (c1 (M7 (((a6.getD i3.toNat 0):Int)!=-2)))))))))) ?_;refine Or (Le.trans (Wv 12 (show ∀ k_,k_<(bif (Q97 a6 i3) then x6.2.length else l4.length)->AVleL ((fun i_=>AV.eraseAll (fun n_=>D5 n_ [12]) ((fun i=>bif (Q97 a6 i3) then(fun i=>Au (x6.2.getD i 0)) i else(fun i=>Au (l4.getD i 0)) i) i_)) k_) ((fun i=>Au ((bif (Q97 a6 i3) then x6.2 else l4).getD i 0)) k_) from(Cn bif_len (fun k_ hk_=>(Cq (AV.eraseAll (fun n_=>D5 n_ [12])) ((fun _ _=>bif_row) k_ hk_)).trans rfl)))) (Le.trans (Ww (fun(k_:Nat) u=>(Eu u [] [(12,.arr 1 3 k_ (fun i=>Au ((bif (Q97 a6 i3) then x6.2 else l4).getD i 0)))])) (show(bif (Q97 a6 i3) then x6.2.length else l4.length)=(bif (Q97 a6 i3) then x6.2 else l4).length from bif_len)) (Ww (fun(k_:Nat) u=>(Eu u [(4,(.vsl 12 k_))] [])) (show l4.length=(bif (Q97 a6 i3) then x6.2 else l4).length from(bif_was hc7))))) ?_;refine gC h ?_ ?_<;>intro h
    ·refine Af hq [2] [] ?_;cases h;exact gO (L0 (J7 [] (Le.refl _ _)))
    ·refine Af hq zzN162 [12] ?_;cases h;exact gN Cr
   ·cases h;exact gO (Bk (B2 [] [] hq))
  ·clear hx8;rcases x8 with _|r10
   ·refine gA ?_;refine Af hq [2] [] ?_;obtain rfl:=OI h;exact Cf []
   ·refine N2 (fun st' hk=>?_);obtain rfl:=OI h;exact gK hk
def K5(a6:List Int)(aH:Int):Option Bool:=
 ((Kp a6 aH).bind fun x1=>(A6 ((x1==true)=true->(A2 aH a6.length)) (some (bif x1 then(((a6.getD aH.toNat 0):Int)!=-2) else false))))
theorem We(a6:List Int)(aH:Int)(r:Bool)(h:K5 a6 aH=some r):Spec Tryz.prog 99 [(Z8 a6),(Z7 aH)] [] (.bool r) []:=by
 refine Ac mix Tryz.func99 (fun Γ hq=>?_);unfold K5 at h;refine Af hq Jy [] ?_;obtain⟨x1,hx1,h⟩:=bind_some h;obtain⟨hc2,h⟩:=Aa h;refine gR hq [4] [] [] [(Z2 x1)] (ci (X8 a6 aH x1 hx1) (ci (gI (x1==true)) (ci (gI (x1==true)) (ci hc2 (ci (gI (x1==true)) (ci (gI (x1==true)) (c1 (M7 x1)))))))) ?_;cases h;exact Cf []
def Qp(a6:List Int)(aI:Int)(aK:Int):Option Bool:=
 ((Pa a6).bind fun x1=>((bif (x1==true) then K5 a6 aI else some false).bind fun x2=>((bif ((bif x1 then x2 else false)==true) then K5 a6 aK else some false).bind fun x3=>(some (bif (bif x1 then x2 else false) then x3 else false)))))
theorem ok_dom_areIn(a6:List Int)(aI:Int)(aK:Int)(r:Bool)(h:Qp a6 aI aK=some r):Spec Tryz.prog 76 [(Z8 a6),(Z7 aI),(Z7 aK)] [] (.bool r) []:=by
 refine Ac mix Tryz.func76 (fun Γ hq=>?_);unfold Qp at h;refine Af hq zzN174 [] ?_;obtain⟨x1,hx1,h⟩:=bind_some h;obtain⟨x2,hx2,h⟩:=bind_some h;obtain⟨x3,hx3,h⟩:=bind_some h;refine gR hq [6] [] [] [(Z2 x1),(Z2 x2),(Z2 x3)] (ci (ok_dom_isTree a6 x1 hx1) (ci (gI (x1==true)) (ci (gI (x1==true)) (ci (fun(hg:(x1==true)=true)=>(We a6 aI x2 (Bg hg hx2))) (ci (M7 x1) (ci (gI ((bif x1 then x2 else false)==true)) (ci (gI ((bif x1 then x2 else false)==true)) (ci (fun(hg:((bif x1 then x2 else false)==true)=true)=>(We a6 aK x3 (Bg hg hx3))) (c1 (M7 (bif x1 then x2 else false))))))))))) ?_;cases h;exact Cf []
def P3(a6:List Int)(aI:Int)(aK:Int):Option Bool:=
 ((Qp a6 aI aK).bind fun x1=>((bif (x1==true) then Ok a6 aI aK else some (0:Int)).bind fun x2=>(some (bif x1 then(x2==aI) else false))))
theorem ok_dom_Over(a6:List Int)(aI:Int)(aK:Int)(r:Bool)(h:P3 a6 aI aK=some r):Spec Tryz.prog 45 [(Z8 a6),(Z7 aI),(Z7 aK)] [] (.bool r) []:=by
 refine Ac mix Tryz.func45 (fun Γ hq=>?_);unfold P3 at h;refine Af hq zzN174 [] ?_;obtain⟨x1,hx1,h⟩:=bind_some h;obtain⟨x2,hx2,h⟩:=bind_some h;refine gR hq [6] [] [] [(Z2 x1),(Z19 x2)] (ci (ok_dom_areIn a6 aI aK x1 hx1) (ci (gI (x1==true)) (ci (gI (x1==true)) (ci (gI (x1==true)) (ci (fun(hg:(x1==true)=true)=>(ok_dom_meet a6 aI aK x2 (Bg hg hx2))) (ci (gI (x1==true)) (ci (gI (x1==true)) (c1 (M7 x1))))))))) ?_;cases h;exact Cf []
def Gr(aU:Ar)(a4:TFunc)(a9:Int)(aA:List Int)(a8:List (Int×Aj))(a7:List Ar):Option (Bool×TFunc×Int×List Int×List Ar):=
 (bif (((H4 (default:Aj) a8 aU.v).place.block:Int)==aU.place.block) then(some ((decide (((H4 (default:Aj) a8 aU.v).place.at_:Int)<aU.place.at_)),a4,a9,aA,a7)) else((P3 aA ((H4 (default:Aj) a8 aU.v).place.block) aU.place.block).bind fun x1=>(some (x1,a4,a9,aA,a7))))
theorem Ts(aU:Ar)(a4:TFunc)(a9:Int)(aA:List Int)(a8:List (Int×Aj))(a7:List Ar)(r:(Bool×TFunc×Int×List Int×List Ar))(h:Gr aU a4 a9 aA a8 a7=some r):Spec Tryz.prog 117 [Z60,(.agg (Nn aU))] [(Z1 a4.Params a4.Ret a4.Blocks a9 aA 9100005 a7),(Mj 37006 149 a7.length),(9100005,.obj (.map false .i64 (Et (fun(v_:Aj)=>((U1 v_):AV)) a8)))] (.bool r.1) [(Z1 r.2.1.Params r.2.1.Ret r.2.1.Blocks r.2.2.1 r.2.2.2.1 9100005 r.2.2.2.2),(Mj 37006 149 r.2.2.2.2.length),(9100005,.obj (.map false .i64 (Et (fun(v_:Aj)=>((U1 v_):AV)) a8)))]:=by
 refine Ac mix Tryz.func117 (fun Γ hq=>?_);unfold Gr at h;refine Af hq Rp Rh ?_;refine gR hq [0,3,5] zzN15 [(12,(Z40 a8 aU.v))] [] (c1 (show(AVle (H4 (.agg [Pq,Pq,Pq,Pq]) (Et (fun(v_:Aj)=>((U1 v_):AV)) a8) aU.v) (Z40 a8 aU.v)) from(mget_le (f:=(fun(v_:Aj)=>((U1 v_):AV))) (l:=a8) (AVle.refl _) rfl))) ?_;refine Af hq [0,3,5,19] zzN15 ?_;refine gC h ?_ ?_<;>intro h
 ·refine Af hq [4] I9 ?_;cases h;exact Cf Aaj
 ·obtain⟨x1,hx1,h⟩:=bind_some h;refine gR hq [4] I9 [] [(Z2 x1)] (c1 (ok_dom_Over aA ((H4 (default:Aj) a8 aU.v).place.block) aU.place.block x1 hx1)) ?_;cases h;exact Cf Aaj
def D0(a8:List (Int×Aj))(x8:(TFunc×Int×List Int×List Ar)):(Int×List Int×Int×List Ad×Int×List Int×List Ar)->Option (LR (Int×List Int×Int×List Ad×Int×List Int×List Ar) ((List Int×Int×List Ad×Int×List Int×List Ar) ⊕ (List Int×Int×List Ad×Int×List Int×List Ar))):=
 fun((i9,l10,i11,l12,i13,l14,l15):(Int×List Int×Int×List Ad×Int×List Int×List Ar))=>(bif (decide (i9<(x8.2.2.2.length:Int))) then(A6 (A2 i9 x8.2.2.2.length) ((I4 (x8.2.2.2.getD i9.toNat default) (⟨l10,i11,l12⟩:TFunc) i13 l14 a8 l15).bind fun x29=>(bif (!x29.1) then(some (.done (.inr (x29.2.1.Params,x29.2.1.Ret,x29.2.1.Blocks,x29.2.2.1,x29.2.2.2.1,x29.2.2.2.2)))) else(some (.next ((w64 (i9+1)),x29.2.1.Params,x29.2.1.Ret,x29.2.1.Blocks,x29.2.2.1,x29.2.2.2.1,x29.2.2.2.2)))))) else(some (.done (.inl (l10,i11,l12,i13,l14,l15)))))
def D1(a8:List (Int×Aj))(l21:List Ar):(Int×List Int×Int×List Ad×Int×List Int×List Ar)->Option (LR (Int×List Int×Int×List Ad×Int×List Int×List Ar) ((List Int×Int×List Ad×Int×List Int×List Ar) ⊕ (List Int×Int×List Ad×Int×List Int×List Ar))):=
 fun((i32,l33,i34,l35,i36,l37,l38):(Int×List Int×Int×List Ad×Int×List Int×List Ar))=>(bif (decide (i32<(l21.length:Int))) then(A6 (A2 i32 l21.length) ((Kh (l21.getD i32.toNat default) (⟨l33,i34,l35⟩:TFunc) i36 l37 a8 l38).bind fun x52=>(bif (!x52.1) then(some (.done (.inr (x52.2.1.Params,x52.2.1.Ret,x52.2.1.Blocks,x52.2.2.1,x52.2.2.2.1,x52.2.2.2.2)))) else(some (.next ((w64 (i32+1)),x52.2.1.Params,x52.2.1.Ret,x52.2.1.Blocks,x52.2.2.1,x52.2.2.2.1,x52.2.2.2.2)))))) else(some (.done (.inl (l33,i34,l35,i36,l37,l38)))))
def D2(a8:List (Int×Aj))(l44:List Ar):(Int×List Int×Int×List Ad×Int×List Int×List Ar)->Option (LR (Int×List Int×Int×List Ad×Int×List Int×List Ar) ((List Int×Int×List Ad×Int×List Int×List Ar) ⊕ (List Int×Int×List Ad×Int×List Int×List Ar))):=
 fun((i55,l56,i57,l58,i59,l60,l61):(Int×List Int×Int×List Ad×Int×List Int×List Ar))=>(bif (decide (i55<(l44.length:Int))) then(A6 (A2 i55 l44.length) ((Gr (l44.getD i55.toNat default) (⟨l56,i57,l58⟩:TFunc) i59 l60 a8 l61).bind fun x75=>(bif (!x75.1) then(some (.done (.inr (x75.2.1.Params,x75.2.1.Ret,x75.2.1.Blocks,x75.2.2.1,x75.2.2.2.1,x75.2.2.2.2)))) else(some (.next ((w64 (i55+1)),x75.2.1.Params,x75.2.1.Ret,x75.2.1.Blocks,x75.2.2.1,x75.2.2.2.1,x75.2.2.2.2)))))) else(some (.done (.inl (l56,i57,l58,i59,l60,l61)))))
def K2 :(Int×List Int×Int×List Ad×Int×List Int×List Ar)->Option (LR (Int×List Int×Int×List Ad×Int×List Int×List Ar) (Int×TFunc×Int×List Int×List Ar)):=
 fun(s_:(Int×List Int×Int×List Ad×Int×List Int×List Ar))=>match s_ with|(i1,l2,i3,l4,i5,l6,l7)=>(some (.done (i1,(⟨l2,i3,l4⟩:TFunc),i5,l6,l7)))
def Xg(Γ:Iw)(a4:TFunc)(a9:Int)(aA:List Int)(a8:List (Int×Aj))(a7:List Ar)(r:(Int×TFunc×Int×List Int×List Ar)):Exit->St->Prop:=fK Tryz.prog Γ Tryz.f93.results.toList [(Z1 a4.Params a4.Ret a4.Blocks a9 aA 9100005 a7),(Mj 37006 149 a7.length),(9100005,.obj (.map false .i64 (Et (fun(v_:Aj)=>((U1 v_):AV)) a8)))] (Z7 r.1) [(Z1 r.2.1.Params r.2.1.Ret r.2.1.Blocks r.2.2.1 r.2.2.2.1 9100005 r.2.2.2.2),(Mj 37006 149 r.2.2.2.2.length),(9100005,.obj (.map false .i64 (Et (fun(v_:Aj)=>((U1 v_):AV)) a8)))]
def Q98(a8:List (Int×Aj)):=(Et (fun(v_:Aj)=>((U1 v_):AV)) a8)
def Ig(a4:TFunc)(a9:Int)(aA:List Int)(a8:List (Int×Aj))(a7:List Ar):Option (Int×TFunc×Int×List Int×List Ar):=
 ((P9 (S:=(Int×List Int×Int×List Ad×Int×List Int×List Ar)) (X:=(Int×TFunc×Int×List Int×List Ar)) ((Gp a4 a9 aA a8 a7).bind fun x8=>((Ah (D0 a8 x8) ((0:Int),x8.1.Params,x8.1.Ret,x8.1.Blocks,x8.2.1,x8.2.2.1,x8.2.2.2)).bind (fun x30=>(match x30 with|(.inl (l16,i17,l18,i19,l20,l21))=>((Ah (D1 a8 l21) ((0:Int),l16,i17,l18,i19,l20,l21)).bind (fun x53=>(match x53 with|(.inl (l39,i40,l41,i42,l43,l44))=>((Ah (D2 a8 l44) ((0:Int),l39,i40,l41,i42,l43,l44)).bind (fun x76=>(match x76 with|(.inl (l62,i63,l64,i65,l66,l67))=>(some (.done ((0:Int),(⟨l62,i63,l64⟩:TFunc),i65,l66,l67)))|(.inr (l68,i69,l70,i71,l72,l73))=>(some (.next ((7:Int),l68,i69,l70,i71,l72,l73))))))|(.inr (l45,i46,l47,i48,l49,l50))=>(some (.next ((6:Int),l45,i46,l47,i48,l49,l50))))))|(.inr (l22,i23,l24,i25,l26,l27))=>(some (.next ((7:Int),l22,i23,l24,i25,l26,l27))))))) K2).bind (fun x81=>(some x81)))
theorem W0(a4:TFunc)(a9:Int)(aA:List Int)(a8:List (Int×Aj))(a7:List Ar)(r:(Int×TFunc×Int×List Int×List Ar))(h:Ig a4 a9 aA a8 a7=some r):Spec Tryz.prog 93 [Z60] [(Z1 a4.Params a4.Ret a4.Blocks a9 aA 9100005 a7),(Mj 37006 149 a7.length),(9100005,.obj (.map false .i64 (Et (fun(v_:Aj)=>((U1 v_):AV)) a8)))] (Z7 r.1) [(Z1 r.2.1.Params r.2.1.Ret r.2.1.Blocks r.2.2.1 r.2.2.2.1 9100005 r.2.2.2.2),(Mj 37006 149 r.2.2.2.2.length),(9100005,.obj (.map false .i64 (Et (fun(v_:Aj)=>((U1 v_):AV)) a8)))]:=by
 refine Ac mix Tryz.func93 (fun Γ hq=>?_);unfold Ig at h;refine Af hq [0] I9 ?_;obtain⟨x81,hx81,h⟩:=bind_some h;refine gS hx81 (fun(s_:(Int×List Int×Int×List Ad×Int×List Int×List Ar))=>match s_ with|(i1,l2,i3,l4,i5,l6,l7)=>0) (fun(s_:(Int×List Int×Int×List Ad×Int×List Int×List Ar))=>match s_ with|(i1,l2,i3,l4,i5,l6,l7)=>(⟨[(4,(Z7 i1))],(Z9 l2 i3 l4 i5 l6 l7 l7.length (Q98 a8)),[]⟩:St)) (fun r_=>aR (Xg Γ a4 a9 aA a8 a7 r_)) ?_ ?_ ?_
 ·clear h hx81;intro y h;obtain⟨x8,hx8,h⟩:=bind_some h;refine gR hq [0] I9 [] [(Z27 x8.1.Params x8.1.Ret x8.1.Blocks x8.2.1 x8.2.2.1 x8.2.2.2 x8.2.2.2.length (Q98 a8))] (c1 (Tn a4 a9 aA a8 a7 x8 hx8)) ?_;refine Af hq Rp Rh ?_;refine Af hq Rp Rh ?_;refine Af hq zzN66 I9 ?_;refine gU 3 ?_;refine Af hq zzN140 I9 ?_;refine gCt true ?_;refine gR hq zzN184 T7 [] [] (c1 (show(A2 (0:Int) 3) from(by decide))) ?_;refine Af hq zzN163 T7 ?_;refine Af hq zzN16 T7 ?_;obtain⟨x30,hx30,h⟩:=bind_some h;refine gL hq hx30 zzN16 T7 (fun u (i9,l10,i11,l12,i13,l14,l15)=>(Eu u [(32,(Z7 i9))] (Z14 l10 i11 l12 i13 l14 l15 l15.length))) (fun u x_=>match x_ with|(.inl (l16,i17,l18,i19,l20,l21))=>aG Γ (.exit 2) (Oz zzN66 I9 u [] (Z14 l16 i17 l18 i19 l20 l21 l21.length))|(.inr (l22,i23,l24,i25,l26,l27))=>aG Γ (.goto 0) (Oz [4] I9 u [] (Z14 l22 i23 l24 i25 l26 l27 l27.length))) ?_ ?_
  ·rintro⟨i9,l10,i11,l12,i13,l14,l15⟩ y h;unfold D0 at h;refine Af hq zzN75 T7 ?_;refine gC h ?_ ?_<;>intro h
   ·obtain⟨hc28,h⟩:=Aa h;refine gR hq zzN80 zzN94 [] [] (c1 hc28) ?_;obtain⟨x29,hx29,h⟩:=bind_some h;refine gR hq zzN76 T7 [] [(Z71 x29.1 x29.2.1.Params x29.2.1.Ret x29.2.1.Blocks x29.2.2.1 x29.2.2.2.1 x29.2.2.2.2 x29.2.2.2.2.length (Q98 a8))] (c1 (Tt (x8.2.2.2.getD i9.toNat default) (⟨l10,i11,l12⟩:TFunc) i13 l14 a8 l15 x29 hx29)) ?_;refine gC h ?_ ?_<;>intro h
    ·cases h;exact gO (Bk (B2 [4] I9 hq))
    ·refine Af hq zzN16 T7 ?_;cases h;exact gN Cr
   ·cases h;exact gO (Bk (B2 zzN66 I9 hq))
  ·clear hx30;rcases x30 with⟨l16,i17,l18,i19,l20,l21⟩|⟨l22,i23,l24,i25,l26,l27⟩
   ·refine gA ?_;refine Af hq zzN66 I9 ?_;refine Af hq zzN140 I9 ?_;refine gCt true ?_;refine gR hq zzN184 T7 [] [] (c1 (show(A2 (1:Int) 3) from(by decide))) ?_;refine Af hq zzN163 T7 ?_;refine Af hq zzN16 T7 ?_;obtain⟨x53,hx53,h⟩:=bind_some h;refine gL hq hx53 zzN16 T7 (fun u (i32,l33,i34,l35,i36,l37,l38)=>(Eu u [(32,(Z7 i32))] (Z14 l33 i34 l35 i36 l37 l38 l38.length))) (fun u x_=>match x_ with|(.inl (l39,i40,l41,i42,l43,l44))=>aG Γ (.exit 2) (Oz zzN66 I9 u [] (Z14 l39 i40 l41 i42 l43 l44 l44.length))|(.inr (l45,i46,l47,i48,l49,l50))=>aG Γ (.goto 0) (Oz [4] I9 u [] (Z14 l45 i46 l47 i48 l49 l50 l50.length))) ?_ ?_
    ·rintro⟨i32,l33,i34,l35,i36,l37,l38⟩ y h;unfold D1 at h;refine Af hq zzN75 T7 ?_;refine gC h ?_ ?_<;>intro h
     ·obtain⟨hc51,h⟩:=Aa h;refine gR hq zzN80 zzN94 [] [] (c1 hc51) ?_;obtain⟨x52,hx52,h⟩:=bind_some h;refine gR hq zzN76 T7 [] [(Z71 x52.1 x52.2.1.Params x52.2.1.Ret x52.2.1.Blocks x52.2.2.1 x52.2.2.2.1 x52.2.2.2.2 x52.2.2.2.2.length (Q98 a8))] (c1 (Wy (l21.getD i32.toNat default) (⟨l33,i34,l35⟩:TFunc) i36 l37 a8 l38 x52 hx52)) ?_;refine gC h ?_ ?_<;>intro h
      ·cases h;exact gO (Bk (B2 [4] I9 hq))
      ·refine Af hq zzN16 T7 ?_;cases h;exact gN Cr
     ·cases h;exact gO (Bk (B2 zzN66 I9 hq))
    ·clear hx53;rcases x53 with⟨l39,i40,l41,i42,l43,l44⟩|⟨l45,i46,l47,i48,l49,l50⟩
     ·refine gA ?_;refine Af hq zzN66 I9 ?_;refine Af hq zzN140 I9 ?_;refine gCt true ?_;refine gR hq zzN184 T7 [] [] (c1 (show(A2 (2:Int) 3) from(by decide))) ?_;refine Af hq zzN163 T7 ?_;refine Af hq zzN16 T7 ?_;obtain⟨x76,hx76,h⟩:=bind_some h;refine gL hq hx76 zzN16 T7 (fun u (i55,l56,i57,l58,i59,l60,l61)=>(Eu u [(32,(Z7 i55))] (Z14 l56 i57 l58 i59 l60 l61 l61.length))) (fun u x_=>match x_ with|(.inl (l62,i63,l64,i65,l66,l67))=>aG Γ (.exit 2) (Oz zzN66 I9 u [] (Z14 l62 i63 l64 i65 l66 l67 l67.length))|(.inr (l68,i69,l70,i71,l72,l73))=>aG Γ (.goto 0) (Oz [4] I9 u [] (Z14 l68 i69 l70 i71 l72 l73 l73.length))) ?_ ?_
      ·rintro⟨i55,l56,i57,l58,i59,l60,l61⟩ y h;unfold D2 at h;refine Af hq zzN75 T7 ?_;refine gC h ?_ ?_<;>intro h
       ·obtain⟨hc74,h⟩:=Aa h;refine gR hq zzN80 zzN94 [] [] (c1 hc74) ?_;obtain⟨x75,hx75,h⟩:=bind_some h;refine gR hq zzN76 T7 [] [(Z71 x75.1 x75.2.1.Params x75.2.1.Ret x75.2.1.Blocks x75.2.2.1 x75.2.2.2.1 x75.2.2.2.2 x75.2.2.2.2.length (Q98 a8))] (c1 (Ts (l44.getD i55.toNat default) (⟨l56,i57,l58⟩:TFunc) i59 l60 a8 l61 x75 hx75)) ?_;refine gC h ?_ ?_<;>intro h
        ·cases h;exact gO (Bk (B2 [4] I9 hq))
        ·refine Af hq zzN16 T7 ?_;cases h;exact gN Cr
       ·cases h;exact gO (Bk (B2 zzN66 I9 hq))
      ·clear hx76;rcases x76 with⟨l62,i63,l64,i65,l66,l67⟩|⟨l68,i69,l70,i71,l72,l73⟩
       ·refine gA ?_;refine Af hq zzN66 I9 ?_;refine Af hq zzN140 I9 ?_;refine gCt false ?_;refine Af hq [2] I9 ?_;cases h;exact gJo (L0 (J7 Aaj (Le.refl _ _)))
       ·refine gA' (fun st' hl78=>?_);cases h;exact gJn (Le.trans hl78 Cr)
     ·refine gA' (fun st' hl79=>?_);cases h;exact gJn (Le.trans hl79 Cr)
   ·refine gA' (fun st' hl80=>?_);cases h;exact gJn (Le.trans hl80 Cr)
 ·clear h hx81;rintro⟨i1,l2,i3,l4,i5,l6,l7⟩ y h;unfold K2 at h;refine Af hq [2] I9 ?_;cases h;exact gJo (L0 (J7 Aaj (Le.refl _ _)))
 ·clear hx81;refine N2 (fun st' hk=>?_);obtain rfl:=OI h;exact gK hk
def Q104:=(fun(v_:Aj)=>((U1 v_):AV))
def Q101(x1:(Int×TFunc×Int×List Int×List Ar)):List (Nat×Own):=(Z3 x1.2.1.Params x1.2.1.Ret x1.2.1.Blocks x1.2.2.1 x1.2.2.2.1 x1.2.2.2.2 x1.2.2.2.2.length)
def Q102(x2:(Int×TFunc×Int×List Int×List Ar)):List (Nat×Own):=(Z3 x2.2.1.Params x2.2.1.Ret x2.2.1.Blocks x2.2.2.1 x2.2.2.2.1 x2.2.2.2.2 x2.2.2.2.2.length)
def Q103(x3:(Int×TFunc×Int×List Int×List Ar)):List (Nat×Own):=(Z3 x3.2.1.Params x3.2.1.Ret x3.2.1.Blocks x3.2.2.1 x3.2.2.2.1 x3.2.2.2.2 x3.2.2.2.2.length)
def Ho(a4:TFunc)(a9:Int)(aA:List Int)(a7:List Ar):Option (Int×TFunc×Int×List Int×List Ar×List (Int×Aj)):=
 ((Ie a4 a9 aA a7).bind fun x1=>(bif (x1.1 !=0) then(some (x1.1,x1.2.1,x1.2.2.1,x1.2.2.2.1,x1.2.2.2.2,([]:List (Int×Aj)))) else((G9 x1.2.1 x1.2.2.1 x1.2.2.2.1 x1.2.2.2.2).bind fun x2=>(bif (x2.1 !=0) then(some (x2.1,x2.2.1,x2.2.2.1,x2.2.2.2.1,x2.2.2.2.2,([]:List (Int×Aj)))) else((Hn x2.2.1 x2.2.2.1 x2.2.2.2.1 x2.2.2.2.2).bind fun x3=>(bif (x3.1 !=0) then(some (x3.1,x3.2.1,x3.2.2.1,x3.2.2.2.1,x3.2.2.2.2,([]:List (Int×Aj)))) else((Gq x3.2.1 x3.2.2.1 x3.2.2.2.1 x3.2.2.2.2).bind fun x4=>(bif (x4.1 !=0) then(some (x4.1,x4.2.1,x4.2.2.1,x4.2.2.2.1,x4.2.2.2.2.1,x4.2.2.2.2.2)) else((Ig x4.2.1 x4.2.2.1 x4.2.2.2.1 x4.2.2.2.2.2 x4.2.2.2.2.1).bind fun x5=>(bif (x5.1 !=0) then(some (x5.1,x5.2.1,x5.2.2.1,x5.2.2.2.1,x5.2.2.2.2,x4.2.2.2.2.2)) else(some ((0:Int),x5.2.1,x5.2.2.1,x5.2.2.2.1,x5.2.2.2.2,x4.2.2.2.2.2))))))))))))
theorem Vk(a4:TFunc)(a9:Int)(aA:List Int)(a7:List Ar)(r:(Int×TFunc×Int×List Int×List Ar×List (Int×Aj)))(h:Ho a4 a9 aA a7=some r):Spec Tryz.prog 59 [Z60] (Z3 a4.Params a4.Ret a4.Blocks a9 aA a7 a7.length) (Z7 r.1) [(Z1 r.2.1.Params r.2.1.Ret r.2.1.Blocks r.2.2.1 r.2.2.2.1 9200005 r.2.2.2.2.1),(Mj 37006 149 r.2.2.2.2.1.length),(9200005,.obj (.map false .i64 (Et (fun(v_:Aj)=>((U1 v_):AV)) r.2.2.2.2.2)))]:=by
 refine Ac mix Tryz.func59 (fun Γ hq=>?_);unfold Ho at h;refine Af hq [0] Je ?_;refine Af hq [3] zzN95 ?_;refine Af hq zzN168 Je ?_;refine gU 5 ?_;refine Af hq zzN116 Je ?_;refine gCt true ?_;refine gR hq zzN150 Je [] [] (c1 (show(A2 (0:Int) 5) from(by decide))) ?_;obtain⟨x1,hx1,h⟩:=bind_some h;refine gR hq zzN151 Je [] [(Z81 x1.1 (Q101 x1))] (c1 (Wz a4 a9 aA a7 x1 hx1)) ?_;refine Af hq zzN104 Je ?_;refine gC h ?_ ?_<;>intro h
 ·refine Af hq [2] Je ?_;refine Ri (⟨[(2,(Z7 x1.1))],(Q101 x1),[]⟩:St) ?_;cases h;exact gK (e:=.ret) (J7 zzN40 (Le.trans (Ve (r:=30000) (j:=5) (nm:=9300005) .i64 rfl rfl (nl rfl) rfl) (B2 (st':=⟨[(2,(Z7 x1.1))],[(Z1 x1.2.1.Params x1.2.1.Ret x1.2.1.Blocks x1.2.2.1 x1.2.2.2.1 9300005 x1.2.2.2.2),(Mj 37006 149 x1.2.2.2.2.length),(9300005,.obj (.map false .i64 (Et Q104 ([]:List (Int×Aj)))))],[]⟩) [2] zzN125 hq)))
 ·refine Af hq zzN168 Je ?_;refine Af hq zzN116 Je ?_;refine gCt true ?_;refine gR hq zzN150 Je [] [] (c1 (show(A2 (1:Int) 5) from(by decide))) ?_;obtain⟨x2,hx2,h⟩:=bind_some h;refine gR hq zzN151 Je [] [(Z81 x2.1 (Q102 x2))] (c1 (Uh x1.2.1 x1.2.2.1 x1.2.2.2.1 x1.2.2.2.2 x2 hx2)) ?_;refine Af hq zzN104 Je ?_;refine gC h ?_ ?_<;>intro h
  ·refine Af hq [2] Je ?_;refine Ri (⟨[(2,(Z7 x2.1))],(Q102 x2),[]⟩:St) ?_;cases h;exact gK (e:=.ret) (J7 zzN40 (Le.trans (Ve (r:=30000) (j:=5) (nm:=9300005) .i64 rfl rfl (nl rfl) rfl) (B2 (st':=⟨[(2,(Z7 x2.1))],[(Z1 x2.2.1.Params x2.2.1.Ret x2.2.1.Blocks x2.2.2.1 x2.2.2.2.1 9300005 x2.2.2.2.2),(Mj 37006 149 x2.2.2.2.2.length),(9300005,.obj (.map false .i64 (Et Q104 ([]:List (Int×Aj)))))],[]⟩) [2] zzN125 hq)))
  ·refine Af hq zzN168 Je ?_;refine Af hq zzN116 Je ?_;refine gCt true ?_;refine gR hq zzN150 Je [] [] (c1 (show(A2 (2:Int) 5) from(by decide))) ?_;obtain⟨x3,hx3,h⟩:=bind_some h;refine gR hq zzN151 Je [] [(Z81 x3.1 (Q103 x3))] (c1 (Vj x2.2.1 x2.2.2.1 x2.2.2.2.1 x2.2.2.2.2 x3 hx3)) ?_;refine Af hq zzN104 Je ?_;refine gC h ?_ ?_<;>intro h
   ·refine Af hq [2] Je ?_;refine Ri (⟨[(2,(Z7 x3.1))],(Q103 x3),[]⟩:St) ?_;cases h;exact gK (e:=.ret) (J7 zzN40 (Le.trans (Ve (r:=30000) (j:=5) (nm:=9300005) .i64 rfl rfl (nl rfl) rfl) (B2 (st':=⟨[(2,(Z7 x3.1))],[(Z1 x3.2.1.Params x3.2.1.Ret x3.2.1.Blocks x3.2.2.1 x3.2.2.2.1 9300005 x3.2.2.2.2),(Mj 37006 149 x3.2.2.2.2.length),(9300005,.obj (.map false .i64 (Et Q104 ([]:List (Int×Aj)))))],[]⟩) [2] zzN125 hq)))
   ·refine Af hq zzN168 Je ?_;refine Af hq zzN116 Je ?_;refine gCt true ?_;refine gR hq zzN150 Je [] [] (c1 (show(A2 (3:Int) 5) from(by decide))) ?_;obtain⟨x4,hx4,h⟩:=bind_some h;refine gR hq zzN151 Wq [] [⟨zzN9,[(9200005,13000005)],(Z7 x4.1),[(Z1 x4.2.1.Params x4.2.1.Ret x4.2.1.Blocks x4.2.2.1 x4.2.2.2.1 9200005 x4.2.2.2.2.1),(Mj 37006 149 x4.2.2.2.2.1.length),(9200005,.obj (.map false .i64 (Et Q104 x4.2.2.2.2.2)))],[],[]⟩] (c1 (Tq x3.2.1 x3.2.2.1 x3.2.2.2.1 x3.2.2.2.2 x4 hx4)) ?_;refine Af hq zzN104 Wq ?_;refine gC h ?_ ?_<;>intro h
    ·refine Af hq [2] Wq ?_;cases h;exact Cf zzN39
    ·refine Af hq zzN168 Wq ?_;refine Af hq zzN116 Wq ?_;refine gCt true ?_;refine gR hq zzN150 Wq [] [] (c1 (show(A2 (4:Int) 5) from(by decide))) ?_;obtain⟨x5,hx5,h⟩:=bind_some h;refine gR hq zzN151 Wq [] [⟨[(30000,30000),(37006,37006),(13000005,9100005)],[],(Z7 x5.1),[(Z1 x5.2.1.Params x5.2.1.Ret x5.2.1.Blocks x5.2.2.1 x5.2.2.2.1 9100005 x5.2.2.2.2),(Mj 37006 149 x5.2.2.2.2.length),(9100005,.obj (.map false .i64 (Et Q104 x4.2.2.2.2.2)))],[],[]⟩] (c1 (W0 x4.2.1 x4.2.2.1 x4.2.2.2.1 x4.2.2.2.2.2 x4.2.2.2.2.1 x5 hx5)) ?_;refine Af hq zzN104 Wq ?_;refine gC h ?_ ?_<;>intro h
     ·refine Af hq [2] Wq ?_;cases h;exact Cf zzN39
     ·refine Af hq zzN168 Wq ?_;refine Af hq zzN116 Wq ?_;refine gCt false ?_;refine Af hq [2] Wq ?_;cases h;exact Cf zzN39
def Q107(a0:TFunc)(aX:Int):AV:=(.agg [(Z8 a0.Params),(Z7 a0.Ret),(Z16 a0.Blocks),(Z7 aX),Z25,.nilm,(AV.list 5 Nn default ([]:List Ar) .exact)])
def Q106(a0:TFunc)(aX:Int):=(⟨[Z79],[(5,.row 103 [(Z8 a0.Params),(Z7 a0.Ret),(Z16 a0.Blocks),(Z7 aX),Z25,.nilm,(AV.list 5 Nn default ([]:List Ar) .exact)])],[]⟩:St)
def Q105(a0:TFunc)(aX:Int):=(⟨[Z79],[(5,.row 103 [(Z8 a0.Params),(Z7 a0.Ret),(Z16 a0.Blocks),(Z7 aX),Z25,.nilm,(AV.list 5 Nn default ([]:List Ar) (.own 50506))]),(50506,.tok 5 149 (([]:List Ar).length))],[]⟩:St)
def N3(a0:TFunc)(aX:Int):Option Int:=
 (bif (bif (decide (aX<0)) then true else(decide (((2:Int):Int)<aX))) then(some (1:Int)) else((Ho a0 aX ([]:List Int) ([]:List Ar)).bind fun x1=>(some x1.1)))
theorem ok_check_Check(a0:TFunc)(aX:Int)(r:Int)(h:N3 a0 aX=some r):Spec Tryz.prog 33 [(Z35 a0),(Z7 aX)] [] (.int .i64 r) []:=by
 refine Ac mix Tryz.func33 (fun Γ hq=>?_);unfold N3 at h;refine Af hq M5 [2] ?_;refine gR hq [1,2,11] [2] [] [] (ci (gI ((decide (aX<0))==false)) (c1 (J1 (decide (aX<0))))) ?_;refine gC h ?_ ?_<;>intro h
 ·refine Af hq [4] [] ?_;cases h;exact Cf []
 ·refine gR hq [5] [5] [(14,(Q107 a0 aX))] [] (c1 (show(AVle (.agg [(Z8 a0.Params),(Z7 a0.Ret),(Z16 a0.Blocks),(Z7 aX),Z43,.nilm,Z43]) (Q107 a0 aX)) from(AVle.agg (.cons (AVle.refl _) (.cons (AVle.refl _) (.cons (AVle.refl _) (.cons (AVle.refl _) (.cons Hg (.cons (AVle.refl _) (.cons Hg .nil)))))))))) ?_;refine Ri (Q106 a0 aX) ?_;refine Or (show Le Γ _ (Q105 a0 aX) from Le.trans (B2 (st':=(Q106 a0 aX)) [5] [5] hq) (Le.trans (le_tag_cell (r:=5) (j:=6) (nm:=50506) (sz':=5) (fun i=>Nn (([]:List Ar).getD i default)) 149 rfl rfl (nl rfl) rfl (.inl ⟨rfl,rfl⟩) (fun h_=>absurd h_ (by decide))) (B2 (st':=(Q105 a0 aX)) [5] [5,50506] hq))) ?_;refine Or (show Le Γ _ (⟨[Z79],[(5,.row 103 [(Z8 a0.Params),(Z7 a0.Ret),(Z16 a0.Blocks),(Z7 aX),(AV.list 1 Au 0 ([]:List Int) .none),.nilm,(AV.list 5 Nn default ([]:List Ar) (.own 50506))]),(50506,.tok 5 149 (([]:List Ar).length))],[]⟩:St) from Le.trans (B2 (st':=(Q105 a0 aX)) [5] [5,50506] hq) (Jo (.cons (AVle.refl _) .nil) (.row (.cons (AVle.refl _) (.cons (AVle.refl _) (.cons (AVle.refl _) (.cons (AVle.refl _) (.cons AVle.untag (.cons (AVle.refl _) (.cons (AVle.refl _) .nil))))))) (.same .nil)))) ?_;obtain⟨x1,hx1,h⟩:=bind_some h;refine gR hq [4] [] [] [⟨[(5,30000),(50506,37006)],[(9200005,10000505)],(Z7 x1.1),[(Z1 x1.2.1.Params x1.2.1.Ret x1.2.1.Blocks x1.2.2.1 x1.2.2.2.1 9200005 x1.2.2.2.2.1),(Mj 37006 149 x1.2.2.2.2.1.length),(9200005,.obj (.map false .i64 (Et (fun(v_:Aj)=>((U1 v_):AV)) x1.2.2.2.2.2)))],[],[]⟩] (c1 (Vk a0 aX ([]:List Int) ([]:List Ar) x1 hx1)) ?_;cases h;exact Cf []
def Od(aaL:List Ad)(aaM:List (List Int))(aH:Int):Option Unit:=
 (some ())
theorem ok_hammock_pairs(aaL:List Ad)(aaM:List (List Int))(aH:Int)(r:Unit)(h:Od aaL aaM aH=some r):Spec Tryz.prog 34 [(Z16 aaL),(Z20 aaM),(Z7 aH)] [] (.agg [(Z6 aaL aaM aH),(Z6 aaL aaM aH),(Z6 aaL aaM aH),(.clo 62 [] []),(.clo 62 [] []),(Z6 aaL aaM aH)]) []:=by
 refine Ac mix Tryz.func34 (fun Γ hq=>?_);unfold Od at h;refine gR hq [3,4,5,6] [6] [(3,(.rpo [])),(4,(.rpo [])),(5,(.rpo []))] [] trivial ?_;refine Af hq T5 [6] ?_;refine Af hq [6,7,8] [6] ?_;refine Af hq [6] [6] ?_;cases h;exact Cf []
def Q109(a2:List Ad)(aS:Int):=((((a2.getD aS.toNat default).End.Kind:Int)!=1)==false)
def Q108(a2:List Ad)(aS:Int):=(bif (((a2.getD aS.toNat default).End.Kind:Int)!=1) then true else(decide (((0:Int):Int)<(((a2.getD aS.toNat default).Phis).length:Int))))
def F8(aS:Int)(a2:List Ad)(aO:List (List Int))(aa7:Int):Option (Int×Int×Bool):=
 (A6 (A2 aS a2.length) (A6 (((bif (((a2.getD aS.toNat default).End.Kind:Int)!=1) then true else(decide (((0:Int):Int)<(((a2.getD aS.toNat default).Phis).length:Int))))==false)=true->(A2 aS aO.length)) ((bif ((bif (((a2.getD aS.toNat default).End.Kind:Int)!=1) then true else(decide (((0:Int):Int)<(((a2.getD aS.toNat default).Phis).length:Int))))==false) then Eg (aO.getD aS.toNat []) ([aa7]:List Int) else some false).bind fun x3=>(bif (bif (bif (((a2.getD aS.toNat default).End.Kind:Int)!=1) then true else(decide (((0:Int):Int)<(((a2.getD aS.toNat default).Phis).length:Int)))) then true else(!x3)) then(some ((-1:Int),(-1:Int),false)) else(A6 (A2 (0:Int) ((a2.getD aS.toNat default).End.To).length) (some (aS,(((a2.getD aS.toNat default).End.To).getD (0:Int).toNat (0:Int)),true)))))))
theorem Lt(aS:Int)(a2:List Ad)(aO:List (List Int))(aa7:Int)(r:(Int×Int×Bool))(h:F8 aS a2 aO aa7=some r):Spec Tryz.prog 60 [(Z7 aS),(.rpo [(Z16 a2)]),(.rpo [(Z20 aO)]),(.rpo [(Z7 aa7)])] [] (.tuple [(Z7 r.1),(Z7 r.2.1),(.bool r.2.2)]) []:=by
 refine Ac mix Tryz.func60 (fun Γ hq=>?_);unfold F8 at h;refine Af hq [0,1,2,3] [] ?_;obtain⟨hc1,h⟩:=Aa h;refine gR hq [0,2,3,8] [8] [] [] (c1 hc1) ?_;obtain⟨hc2,h⟩:=Aa h;obtain⟨x3,hx3,h⟩:=bind_some h;refine gR hq [0,8,32] [8] [(29,(Z26 aa7))] [(Z2 x3)] (ci (gI (Q109 a2 aS)) (ci (gI (Q109 a2 aS)) (ci (gI (Q109 a2 aS)) (ci (J1 (((a2.getD aS.toNat default).End.Kind:Int)!=1)) (ci (gI ((Q108 a2 aS)==false)) (ci (gI ((Q108 a2 aS)==false)) (ci hc2 (ci (gI ((Q108 a2 aS)==false)) (ci (gI ((Q108 a2 aS)==false)) (ci (show(((Q108 a2 aS)==false)=true->(AVle (.slice 1 1 (fun i=>([[(Z7 aa7)]]:List (List AV)).getD i []) .exact) (Z26 aa7))) from(fun hg=>@(Bx 1 Au (0:Int) ([aa7]:List Int)))) (ci (gI ((Q108 a2 aS)==false)) (ci (gI ((Q108 a2 aS)==false)) (ci (fun(hg:((Q108 a2 aS)==false)=true)=>(La (aO.getD aS.toNat []) ([aa7]:List Int) x3 (Bg hg hx3))) (ci (gI ((Q108 a2 aS)==false)) (c1 (J1 (Q108 a2 aS))))))))))))))))) ?_;refine gC h ?_ ?_<;>intro h
 ·refine Af hq zzN172 [] ?_;cases h;exact Cf []
 ·obtain⟨hc4,h⟩:=Aa h;refine gR hq zzN172 [] [] [] (c1 hc4) ?_;cases h;exact Cf []
def Q110(x2:(Int×Int×Bool))(x4:(Int×Int×Bool)):=(bif (!x2.2.2) then true else(!x4.2.2))
def Kj(aH:Int)(aY:List Int)(aaB:List Ad)(aaC:List (List Int))(aaD:Int)(aaE:List Ad)(aaF:List (List Int))(aaG:Int):Option (THammock×Bool):=
 (A6 (A2 (0:Int) aY.length) ((F8 (aY.getD (0:Int).toNat (0:Int)) aaB aaC aaD).bind fun x2=>(A6 (A2 (1:Int) aY.length) ((F8 (aY.getD (1:Int).toNat (0:Int)) aaE aaF aaG).bind fun x4=>(bif (bif (bif (bif (!x2.2.2) then true else(!x4.2.2)) then true else(x2.2.1 !=x4.2.1)) then true else(x2.2.1==aH)) then(some ((⟨(0:Int),(0:Int),(0:Int),(0:Int)⟩:THammock),false)) else(some ((⟨aH,x2.1,x4.1,x2.2.1⟩:THammock),true)))))))
theorem ok_hammock_meeting(aH:Int)(aY:List Int)(aaB:List Ad)(aaC:List (List Int))(aaD:Int)(aaE:List Ad)(aaF:List (List Int))(aaG:Int)(r:(THammock×Bool))(h:Kj aH aY aaB aaC aaD aaE aaF aaG=some r):Spec Tryz.prog 35 [(Z7 aH),(Z8 aY),(.agg [(Z6 aaB aaC aaD),(Z6 aaE aaF aaG)])] [] (.tuple [(Z49 r.1),(.bool r.2)]) []:=by
 refine Ac mix Tryz.func35 (fun Γ hq=>?_);unfold Kj at h;refine Af hq zzN166 T6 ?_;obtain⟨hc1,h⟩:=Aa h;obtain⟨x2,hx2,h⟩:=bind_some h;refine gR hq zzN127 T6 [] [(Z46 x2.1 x2.2.1 x2.2.2)] (ci (show(A2 (0:Int) 2) from(by decide)) (ci hc1 (c1 (Lt (aY.getD (0:Int).toNat (0:Int)) aaB aaC aaD x2 hx2)))) ?_;obtain⟨hc3,h⟩:=Aa h;obtain⟨x4,hx4,h⟩:=bind_some h;refine gR hq zzN97 [6] [] [(Z46 x4.1 x4.2.1 x4.2.2)] (ci (show(A2 (1:Int) 2) from(by decide)) (ci hc3 (c1 (Lt (aY.getD (1:Int).toNat (0:Int)) aaE aaF aaG x4 hx4)))) ?_;refine gR hq zzN143 [6] [] [] (ci (gI ((!x2.2.2)==false)) (ci (J1 (!x2.2.2)) (ci (gI ((Q110 x2 x4)==false)) (ci (gI ((Q110 x2 x4)==false)) (ci (J1 (Q110 x2 x4)) (ci (gI ((bif (Q110 x2 x4) then true else(x2.2.1 !=x4.2.1))==false)) (ci (gI ((bif (Q110 x2 x4) then true else(x2.2.1 !=x4.2.1))==false)) (c1 (J1 (bif (Q110 x2 x4) then true else(x2.2.1 !=x4.2.1))))))))))) ?_;refine gC h ?_ ?_<;>intro h
 ·refine Af hq T5 [6] ?_;cases h;exact Cf []
 ·refine Af hq T5 [6] ?_;cases h;exact Cf []
def I6(aS:Int):Option (Int×Int×Bool):=
 (some ((-1:Int),aS,true))
theorem Sf(aS:Int)(r:(Int×Int×Bool))(h:I6 aS=some r):Spec Tryz.prog 62 [(Z7 aS)] [] (.tuple [(Z7 r.1),(Z7 r.2.1),(.bool r.2.2)]) []:=by
 refine Ac mix Tryz.func62 (fun Γ hq=>?_);unfold I6 at h;refine Af hq [0] [] ?_;refine Af hq [2,3,4] [] ?_;cases h;exact Cf []
def Q111(x2:(Int×Int×Bool))(x4:(Int×Int×Bool)):=(bif (!x2.2.2) then true else(!x4.2.2))
def Ij(aH:Int)(aY:List Int)(aaB:List Ad)(aaC:List (List Int))(aaD:Int):Option (THammock×Bool):=
 (A6 (A2 (0:Int) aY.length) ((F8 (aY.getD (0:Int).toNat (0:Int)) aaB aaC aaD).bind fun x2=>(A6 (A2 (1:Int) aY.length) ((I6 (aY.getD (1:Int).toNat (0:Int))).bind fun x4=>(bif (bif (bif (bif (!x2.2.2) then true else(!x4.2.2)) then true else(x2.2.1 !=x4.2.1)) then true else(x2.2.1==aH)) then(some ((⟨(0:Int),(0:Int),(0:Int),(0:Int)⟩:THammock),false)) else(some ((⟨aH,x2.1,x4.1,x2.2.1⟩:THammock),true)))))))
theorem W4(aH:Int)(aY:List Int)(aaB:List Ad)(aaC:List (List Int))(aaD:Int)(r:(THammock×Bool))(h:Ij aH aY aaB aaC aaD=some r):Spec Tryz.prog 35 [(Z7 aH),(Z8 aY),(.agg [(Z6 aaB aaC aaD),(.clo 62 [] [])])] [] (.tuple [(Z49 r.1),(.bool r.2)]) []:=by
 refine Ac mix Tryz.func35 (fun Γ hq=>?_);unfold Ij at h;refine Af hq zzN166 T6 ?_;obtain⟨hc1,h⟩:=Aa h;obtain⟨x2,hx2,h⟩:=bind_some h;refine gR hq zzN127 T6 [] [(Z46 x2.1 x2.2.1 x2.2.2)] (ci (show(A2 (0:Int) 2) from(by decide)) (ci hc1 (c1 (Lt (aY.getD (0:Int).toNat (0:Int)) aaB aaC aaD x2 hx2)))) ?_;obtain⟨hc3,h⟩:=Aa h;obtain⟨x4,hx4,h⟩:=bind_some h;refine gR hq zzN97 [6] [] [(Z46 x4.1 x4.2.1 x4.2.2)] (ci (show(A2 (1:Int) 2) from(by decide)) (ci hc3 (c1 (Sf (aY.getD (1:Int).toNat (0:Int)) x4 hx4)))) ?_;refine gR hq zzN143 [6] [] [] (ci (gI ((!x2.2.2)==false)) (ci (J1 (!x2.2.2)) (ci (gI ((Q111 x2 x4)==false)) (ci (gI ((Q111 x2 x4)==false)) (ci (J1 (Q111 x2 x4)) (ci (gI ((bif (Q111 x2 x4) then true else(x2.2.1 !=x4.2.1))==false)) (ci (gI ((bif (Q111 x2 x4) then true else(x2.2.1 !=x4.2.1))==false)) (c1 (J1 (bif (Q111 x2 x4) then true else(x2.2.1 !=x4.2.1))))))))))) ?_;refine gC h ?_ ?_<;>intro h
 ·refine Af hq T5 [6] ?_;cases h;exact Cf []
 ·refine Af hq T5 [6] ?_;cases h;exact Cf []
def Q112(x2:(Int×Int×Bool))(x4:(Int×Int×Bool)):=(bif (!x2.2.2) then true else(!x4.2.2))
def Ik(aH:Int)(aY:List Int)(aaE:List Ad)(aaF:List (List Int))(aaG:Int):Option (THammock×Bool):=
 (A6 (A2 (0:Int) aY.length) ((I6 (aY.getD (0:Int).toNat (0:Int))).bind fun x2=>(A6 (A2 (1:Int) aY.length) ((F8 (aY.getD (1:Int).toNat (0:Int)) aaE aaF aaG).bind fun x4=>(bif (bif (bif (bif (!x2.2.2) then true else(!x4.2.2)) then true else(x2.2.1 !=x4.2.1)) then true else(x2.2.1==aH)) then(some ((⟨(0:Int),(0:Int),(0:Int),(0:Int)⟩:THammock),false)) else(some ((⟨aH,x2.1,x4.1,x2.2.1⟩:THammock),true)))))))
theorem W5(aH:Int)(aY:List Int)(aaE:List Ad)(aaF:List (List Int))(aaG:Int)(r:(THammock×Bool))(h:Ik aH aY aaE aaF aaG=some r):Spec Tryz.prog 35 [(Z7 aH),(Z8 aY),(.agg [(.clo 62 [] []),(Z6 aaE aaF aaG)])] [] (.tuple [(Z49 r.1),(.bool r.2)]) []:=by
 refine Ac mix Tryz.func35 (fun Γ hq=>?_);unfold Ik at h;refine Af hq zzN166 T6 ?_;obtain⟨hc1,h⟩:=Aa h;obtain⟨x2,hx2,h⟩:=bind_some h;refine gR hq zzN127 T6 [] [(Z46 x2.1 x2.2.1 x2.2.2)] (ci (show(A2 (0:Int) 2) from(by decide)) (ci hc1 (c1 (Sf (aY.getD (0:Int).toNat (0:Int)) x2 hx2)))) ?_;obtain⟨hc3,h⟩:=Aa h;obtain⟨x4,hx4,h⟩:=bind_some h;refine gR hq zzN97 [6] [] [(Z46 x4.1 x4.2.1 x4.2.2)] (ci (show(A2 (1:Int) 2) from(by decide)) (ci hc3 (c1 (Lt (aY.getD (1:Int).toNat (0:Int)) aaE aaF aaG x4 hx4)))) ?_;refine gR hq zzN143 [6] [] [] (ci (gI ((!x2.2.2)==false)) (ci (J1 (!x2.2.2)) (ci (gI ((Q112 x2 x4)==false)) (ci (gI ((Q112 x2 x4)==false)) (ci (J1 (Q112 x2 x4)) (ci (gI ((bif (Q112 x2 x4) then true else(x2.2.1 !=x4.2.1))==false)) (ci (gI ((bif (Q112 x2 x4) then true else(x2.2.1 !=x4.2.1))==false)) (c1 (J1 (bif (Q112 x2 x4) then true else(x2.2.1 !=x4.2.1))))))))))) ?_;refine gC h ?_ ?_<;>intro h
 ·refine Af hq T5 [6] ?_;cases h;exact Cf []
 ·refine Af hq T5 [6] ?_;cases h;exact Cf []
def H2(a0:TFunc)(x2:(TGraph×Int)):(List THammock×Int)->Option (LR (List THammock×Int) (List THammock)):=
 fun((l3,i4):(List THammock×Int))=>(bif (decide (i4<(a0.Blocks.length:Int))) then(Option.bind (α:=List THammock) (A6 (A2 i4 a0.Blocks.length) (A6 (((((a0.Blocks.getD i4.toNat default).End.Kind:Int)!=2)==false)=true->(A2 (0:Int) ((a0.Blocks.getD i4.toNat default).End.To).length)) (A6 (((((a0.Blocks.getD i4.toNat default).End.Kind:Int)!=2)==false)=true->(A2 (1:Int) ((a0.Blocks.getD i4.toNat default).End.To).length)) (bif (bif (((a0.Blocks.getD i4.toNat default).End.Kind:Int)!=2) then true else(((((a0.Blocks.getD i4.toNat default).End.To).getD (0:Int).toNat (0:Int)):Int)==(((a0.Blocks.getD i4.toNat default).End.To).getD (1:Int).toNat (0:Int)))) then(some l3) else((Od a0.Blocks x2.1.Pred i4).bind fun x10=>((Kj i4 ((a0.Blocks.getD i4.toNat default).End.To) a0.Blocks x2.1.Pred i4 a0.Blocks x2.1.Pred i4).bind fun x11=>(bif x11.2 then(A6 (l3.length+([x11.1]:List THammock).length<=room) (some (l3++([x11.1]:List THammock)))) else((Ij i4 ((a0.Blocks.getD i4.toNat default).End.To) a0.Blocks x2.1.Pred i4).bind fun x13=>(bif x13.2 then(A6 (l3.length+([x13.1]:List THammock).length<=room) (some (l3++([x13.1]:List THammock)))) else((Ik i4 ((a0.Blocks.getD i4.toNat default).End.To) a0.Blocks x2.1.Pred i4).bind fun x15=>(bif x15.2 then(A6 (l3.length+([x15.1]:List THammock).length<=room) (some (l3++([x15.1]:List THammock)))) else(some l3)))))))))))) (fun x17=>(some (.next (x17,(w64 (i4+1))))))) else(some (.done l3)))
def m_hammock_All_F2 :Empty->Option (LR Empty (List THammock)):=
 fun(s_:Empty)=>nomatch s_
def K_hammock_All(Γ:Iw)(a0:TFunc)(r:List THammock):Exit->St->Prop:=fK Tryz.prog Γ Tryz.f18.results.toList [] (Z45 r 20000) [(20000,.tok 4 27 r.length)]
def Q119(a0:TFunc):AV:=(Z16 a0.Blocks)
def Q116:AV:=(AV.list 4 eTHammock default ([]:List THammock) .exact)
def Q113(a0:TFunc)(i4:Int):=((((a0.Blocks.getD i4.toNat default).End.Kind:Int)!=2)==false)
def Q117:=(⟨[(2,(AV.list 4 eTHammock default ([]:List THammock) (.own 6002)))],[(6002,.tok 4 27 (([]:List THammock).length))],[]⟩:St)
def Q115(a0:TFunc)(x2:(TGraph×Int))(i4:Int):AV:=(.clo 60 [] [(.rpo [(Q119 a0)]),(.rpo [(Z20 x2.1.Pred)]),(.rpo [(Z7 i4)])])
def Q114(a0:TFunc)(x2:(TGraph×Int)):=(⟨[Xo,(3,(.ptr 3 0)),(5,(AV.list 4 eTHammock default ([]:List THammock) (.own 5005))),(21,(Q119 a0)),(22,(Z54 a0.Blocks.length)),(23,Pq)],[(1,.row 25 [(Z8 a0.Params),(Z7 a0.Ret),(Q119 a0)]),(3,.row 41 [(Z20 x2.1.Succ),(Z20 x2.1.Pred)]),(5005,.tok 4 27 (([]:List THammock).length))],[]⟩:St)
def Ic(a0:TFunc):Option (List THammock):=
 ((P9 (S:=Empty) (X:=List THammock) ((N3 a0 (2:Int)).bind fun x1=>(bif (x1 !=0) then(some (.done ([]:List THammock))) else((P4 a0).bind fun x2=>((Ah (H2 a0 x2) (([]:List THammock),(0:Int))).bind (fun x19=>(some (.done x19))))))) m_hammock_All_F2).bind (fun x21=>(some x21)))
theorem Pf(a0:TFunc)(r:List THammock)(h:Ic a0=some r):Spec Tryz.prog 18 [(Z35 a0)] [] (Z45 r 20000) [(20000,.tok 4 27 r.length)]:=by
 refine Ac mix Tryz.func18 (fun Γ hq=>?_);unfold Ic at h;refine gR hq [1] [1] [(2,Q116)] [] (c1 (Dh 4 eTHammock (default:THammock))) ?_;obtain⟨x21,hx21,h⟩:=bind_some h;refine gS hx21 (fun(s_:Empty)=>nomatch s_) (fun(s_:Empty)=>nomatch s_) (fun r_=>aR (K_hammock_All Γ a0 r_)) ?_ ?_ ?_
 ·clear h hx21;intro y h;obtain⟨x1,hx1,h⟩:=bind_some h;refine gR hq [1,14] [1] [] [(Z19 x1)] (c1 (ok_check_Check a0 (2:Int) x1 hx1)) ?_;refine gC h ?_ ?_<;>intro h
  ·refine gR hq [2] [] [(2,Q116)] [] (c1 (Dh 4 eTHammock (default:THammock))) ?_;refine Ri (⟨[(2,Q116)],[],[]⟩:St) ?_;cases h;exact gJo (L0 (J7 [(6002,20000)] (show Le Γ _ Q117 from Le.trans (B2 (st':=⟨[(2,Q116)],[],[]⟩) [2] [] hq) (Le.trans (Nw (t:=2) (nm:=6002) (sz':=4) (fun i=>eTHammock (([]:List THammock).getD i default)) 27 rfl rfl (.inl ⟨rfl,rfl⟩) (fun h_=>absurd h_ (by decide))) (B2 (st':=Q117) [2] [6002] hq)))))
  ·obtain⟨x2,hx2,h⟩:=bind_some h;refine gR hq Kn Kn [] [(Z36 x2.1 x2.2)] (c1 (ok_graph_Of a0 x2 hx2)) ?_;refine gR hq zzN132 Kn [(5,Q116)] [] (c1 (Dh 4 eTHammock (default:THammock))) ?_;refine Af hq zzN22 Kn ?_;refine Or (st':=(Q114 a0 x2)) (Le.trans (B2 (st':=⟨[Xo,(3,(.ptr 3 0)),(5,Q116),(21,(Q119 a0)),(22,(Z54 a0.Blocks.length)),(23,Pq)],[(1,.row 25 [(Z8 a0.Params),(Z7 a0.Ret),(Q119 a0)]),(3,.row 41 [(Z20 x2.1.Succ),(Z20 x2.1.Pred)])],[]⟩) zzN22 Kn hq) (Le.trans (Nw (t:=5) (nm:=5005) (sz':=4) (fun i=>eTHammock (([]:List THammock).getD i default)) 27 rfl rfl (.inl ⟨rfl,rfl⟩) (fun h_=>absurd h_ (by decide))) (B2 (st':=(Q114 a0 x2)) zzN22 zzN70 hq))) ?_;obtain⟨x19,hx19,h⟩:=bind_some h;refine gL hq hx19 zzN22 zzN70 (fun u (l3,i4)=>(Eu u [(5,(Z45 l3 5005)),(23,(Z7 i4))] [(5005,.tok 4 27 l3.length)])) (fun u l5=>aG Γ (.exit 0) (⟨[(5,(Z45 l5 5005))],[(5005,.tok 4 27 l5.length)],[]⟩:St)) ?_ ?_
   ·rintro⟨l3,i4⟩ y h;unfold H2 at h;refine Af hq [1,3,5,21,22,23,24] zzN70 ?_;refine gC h ?_ ?_<;>intro h
    ·obtain⟨x17,hx17,h⟩:=bind_some h;refine gJ hx17 (fun l6=>aG Γ .normal (⟨[Xo,(3,(.ptr 3 0)),(5,(Z45 l6 5005)),(21,(Q119 a0)),(22,(Z54 a0.Blocks.length)),(23,(Z7 i4))],[(1,.row 25 [(Z8 a0.Params),(Z7 a0.Ret),(Q119 a0)]),(3,.row 41 [(Z20 x2.1.Succ),(Z20 x2.1.Pred)]),(5005,.tok 4 27 l6.length)],[]⟩:St)) ?_ ?_
     ·clear h hx17;intro y h;obtain⟨hc7,h⟩:=Aa h;refine gR hq [1,3,5,6,7,21,22,23] zzN43 [] [] (c1 hc7) ?_;obtain⟨hc8,h⟩:=Aa h;obtain⟨hc9,h⟩:=Aa h;refine gR hq [1,3,5,6,7,21,22,23,44] zzN43 [] [] (ci (gI (Q113 a0 i4)) (ci (gI (Q113 a0 i4)) (ci (gI (Q113 a0 i4)) (ci hc8 (ci (gI (Q113 a0 i4)) (ci (gI (Q113 a0 i4)) (ci (gI (Q113 a0 i4)) (ci (gI (Q113 a0 i4)) (ci hc9 (ci (gI (Q113 a0 i4)) (ci (gI (Q113 a0 i4)) (ci (gI (Q113 a0 i4)) (c1 (J1 (((a0.Blocks.getD i4.toNat default).End.Kind:Int)!=2))))))))))))))) ?_;refine gC h ?_ ?_<;>intro h
      ·obtain rfl:=OI h;exact gK (Bk (B2 zzN22 zzN70 hq))
      ·obtain⟨x10,hx10,h⟩:=bind_some h;refine gR hq zzN45 zzN43 [] [⟨[],[],(.agg [(Q115 a0 x2 i4),(Q115 a0 x2 i4),(Q115 a0 x2 i4),(.clo 62 [] []),(.clo 62 [] []),(Q115 a0 x2 i4)]),[],[],[]⟩] (c1 (ok_hammock_pairs a0.Blocks x2.1.Pred i4 x10 hx10)) ?_;refine gU 3 ?_;refine Af hq zzN41 zzN43 ?_;refine gCt true ?_;refine gR hq zzN63 zzN156 [] [] (c1 (show(A2 (0:Int) 3) from(by decide))) ?_;obtain⟨x11,hx11,h⟩:=bind_some h;refine gR hq zzN49 zzN64 [] [(Z23 x11.1 x11.2)] (c1 (ok_hammock_meeting i4 ((a0.Blocks.getD i4.toNat default).End.To) a0.Blocks x2.1.Pred i4 a0.Blocks x2.1.Pred i4 x11 hx11)) ?_;refine Af hq zzN50 zzN64 ?_;refine gC h ?_ ?_<;>intro h
       ·obtain⟨hc12,h⟩:=Aa h;refine gR hq zzN22 zzN70 (Z33 x11.1 l3) [] (ci (Bx 4 eTHammock (default:THammock) ([x11.1]:List THammock)) (ci (Eq.refl l3.length) (ci hc12 (ci (Ix 4 5005 eTHammock (default:THammock) l3 ([x11.1]:List THammock)) (c1 (Fe l3 ([x11.1]:List THammock))))))) ?_;cases h;exact gK (Bk Cr)
       ·refine Af hq zzN45 zzN43 ?_;refine Af hq zzN41 zzN43 ?_;refine gCt true ?_;refine gR hq zzN63 zzN156 [] [] (c1 (show(A2 (1:Int) 3) from(by decide))) ?_;obtain⟨x13,hx13,h⟩:=bind_some h;refine gR hq zzN49 zzN64 [] [(Z23 x13.1 x13.2)] (c1 (W4 i4 ((a0.Blocks.getD i4.toNat default).End.To) a0.Blocks x2.1.Pred i4 x13 hx13)) ?_;refine Af hq zzN50 zzN64 ?_;refine gC h ?_ ?_<;>intro h
        ·obtain⟨hc14,h⟩:=Aa h;refine gR hq zzN22 zzN70 (Z33 x13.1 l3) [] (ci (Bx 4 eTHammock (default:THammock) ([x13.1]:List THammock)) (ci (Eq.refl l3.length) (ci hc14 (ci (Ix 4 5005 eTHammock (default:THammock) l3 ([x13.1]:List THammock)) (c1 (Fe l3 ([x13.1]:List THammock))))))) ?_;cases h;exact gK (Bk Cr)
        ·refine Af hq zzN45 zzN43 ?_;refine Af hq zzN41 zzN43 ?_;refine gCt true ?_;refine gR hq zzN63 zzN156 [] [] (c1 (show(A2 (2:Int) 3) from(by decide))) ?_;obtain⟨x15,hx15,h⟩:=bind_some h;refine gR hq zzN49 zzN64 [] [(Z23 x15.1 x15.2)] (c1 (W5 i4 ((a0.Blocks.getD i4.toNat default).End.To) a0.Blocks x2.1.Pred i4 x15 hx15)) ?_;refine Af hq zzN50 zzN64 ?_;refine gC h ?_ ?_<;>intro h
         ·obtain⟨hc16,h⟩:=Aa h;refine gR hq zzN22 zzN70 (Z33 x15.1 l3) [] (ci (Bx 4 eTHammock (default:THammock) ([x15.1]:List THammock)) (ci (Eq.refl l3.length) (ci hc16 (ci (Ix 4 5005 eTHammock (default:THammock) l3 ([x15.1]:List THammock)) (c1 (Fe l3 ([x15.1]:List THammock))))))) ?_;cases h;exact gK (Bk Cr)
         ·refine Af hq zzN45 zzN43 ?_;refine Af hq zzN41 zzN43 ?_;refine gCt false ?_;obtain rfl:=OI h;exact gK (Bk (B2 zzN22 zzN70 hq))
     ·clear hx17;refine gA ?_;refine Af hq zzN22 zzN70 ?_;cases h;exact gN Cr
    ·cases h;exact gO (Bk (B2 [5] [5005] hq))
   ·clear hx19;refine gA ?_;refine Af hq [2] [5005] ?_;cases h;exact gJo (L0 (J7 [(5005,20000)] (Le.refl _ _)))
 ·exact nofun
 ·clear hx21;refine N2 (fun st' hk=>?_);obtain rfl:=OI h;exact gK hk
def m_hammock_Find_L1(aH:Int)(x1:List THammock):Int->Option (LR Int (Unit ⊕ (THammock×Bool))):=
 fun(i2:Int)=>(bif (decide (i2<(x1.length:Int))) then(A6 (A2 i2 x1.length) (bif (((x1.getD i2.toNat default).At:Int)==aH) then(some (.done (.inr ((x1.getD i2.toNat default),true)))) else(some (.next (w64 (i2+1)))))) else(some (.done (.inl ()))))
def K_hammock_Find(Γ:Iw)(a0:TFunc)(aH:Int)(r:(THammock×Bool)):Exit->St->Prop:=fK Tryz.prog Γ Tryz.f10.results.toList [] (.tuple [(Z49 r.1),(.bool r.2)]) []
def Jt(a0:TFunc)(aH:Int):Option (THammock×Bool):=
 ((Ic a0).bind fun x1=>((Ah (m_hammock_Find_L1 aH x1) (0:Int)).bind (fun x4=>(match x4 with|(.inl _)=>(some ((⟨(0:Int),(0:Int),(0:Int),(0:Int)⟩:THammock),false))|(.inr r6)=>(some r6)))))
theorem Rd(a0:TFunc)(aH:Int)(r:(THammock×Bool))(h:Jt a0 aH=some r):Spec Tryz.prog 10 [(Z35 a0),(Z7 aH)] [] (.tuple [(Z49 r.1),(.bool r.2)]) []:=by
 refine Ac mix Tryz.func10 (fun Γ hq=>?_);unfold Jt at h;refine Af hq [1,2,4] [2,4] ?_;obtain⟨x1,hx1,h⟩:=bind_some h;refine gR hq zzN164 [4,9] [] [⟨[],[(20000,9)],(Z45 x1 20000),[(20000,.tok 4 27 x1.length)],[],[]⟩] (c1 (Pf a0 x1 hx1)) ?_;obtain⟨x4,hx4,h⟩:=bind_some h;refine gL hq hx4 zzN164 [4,9] (fun u i2=>(Eu u [(11,(Z7 i2))] [])) (fun u x_=>match x_ with|(.inl _)=>aG Γ (.exit 0) (Oz [4] [4] u [] [])|(.inr r_)=>aR (K_hammock_Find Γ a0 aH r_)) ?_ ?_
 ·intro i2 y h;unfold m_hammock_Find_L1 at h;refine Af hq [1,4,9,10,11,12] [4,9] ?_;refine gC h ?_ ?_<;>intro h
  ·obtain⟨hc3,h⟩:=Aa h;refine gR hq [1,4,7,9,10,11] [4,7,9] [] [] (c1 hc3) ?_;refine Af hq [1,4,7,9,10,11,18] [4,7,9] ?_;refine gC h ?_ ?_<;>intro h
   ·refine Af hq Sv [4] ?_;cases h;exact gO (L0 (J7 [] (Le.refl _ _)))
   ·refine Af hq zzN164 [4,9] ?_;cases h;exact gN Cr
  ·cases h;exact gO (Bk (B2 [4] [4] hq))
 ·clear hx4;rcases x4 with _|r6
  ·refine gA ?_;refine Af hq Sv [4] ?_;cases h;exact Cf []
  ·refine N2 (fun st' hk=>?_);obtain rfl:=OI h;exact gK hk
def m_slices_Index_api_Hammock_api_Hammock_L1(aM:List THammock)(aC:THammock):Int->Option (LR Int (Unit ⊕ Int)):=
 fun(i1:Int)=>(bif (decide (i1<(aM.length:Int))) then(A6 (A2 i1 aM.length) (bif ((aC.At==(aM.getD i1.toNat default).At)&&((aC.Then==(aM.getD i1.toNat default).Then)&&((aC.Else==(aM.getD i1.toNat default).Else)&&((aC.Join==(aM.getD i1.toNat default).Join)&&true)))) then(some (.done (.inr i1))) else(some (.next (w64 (i1+1)))))) else(some (.done (.inl ()))))
def Mk(Γ:Iw)(aM:List THammock)(aC:THammock)(r:Int):Exit->St->Prop:=fK Tryz.prog Γ Tryz.f55.results.toList [] (.int .i64 r) []
def Dj(aM:List THammock)(aC:THammock):Option Int:=
 ((Ah (m_slices_Index_api_Hammock_api_Hammock_L1 aM aC) (0:Int)).bind (fun x3=>(match x3 with|(.inl _)=>(some (-1:Int))|(.inr r5)=>(some r5))))
theorem Mi(aM:List THammock)(aC:THammock)(r:Int)(h:Dj aM aC=some r):Spec Tryz.prog 55 [(AV.list 4 eTHammock default aM .none),(Z49 aC)] [] (.int .i64 r) []:=by
 refine Ac mix Tryz.func55 (fun Γ hq=>?_);unfold Dj at h;refine Af hq Rp [3] ?_;refine Af hq [0,3,7,8] [3] ?_;obtain⟨x3,hx3,h⟩:=bind_some h;refine gL hq hx3 [0,3,7,8] [3] (fun u i1=>(Eu u [(8,(Z7 i1))] [])) (fun u x_=>match x_ with|(.inl _)=>aG Γ (.exit 0) (⟨[],[],[]⟩:St)|(.inr r_)=>aR (Mk Γ aM aC r_)) ?_ ?_
 ·intro i1 y h;unfold m_slices_Index_api_Hammock_api_Hammock_L1 at h;refine Af hq [0,3,7,8,9] [3] ?_;refine gC h ?_ ?_<;>intro h
  ·refine Af hq [0,3,5,7,8] [3] ?_;obtain⟨hc2,h⟩:=Aa h;refine gR hq [0,3,5,7,8,16] [3] [] [] (c1 hc2) ?_;refine gC h ?_ ?_<;>intro h
   ·refine Af hq [4] [] ?_;cases h;exact gO (L0 (J7 [] (Le.refl _ _)))
   ·refine Af hq [0,3,7,8] [3] ?_;cases h;exact gN Cr
  ·cases h;exact gO (Bk (B2 [] [] hq))
 ·clear hx3;rcases x3 with _|r5
  ·refine gA ?_;refine Af hq [4] [] ?_;cases h;exact Cf []
  ·refine N2 (fun st' hk=>?_);obtain rfl:=OI h;exact gK hk
def Cz(aM:List THammock)(aC:THammock):Option Bool:=
 ((Dj aM aC).bind fun x1=>(some (decide (((0:Int):Int)<=x1))))
theorem Lw(aM:List THammock)(aC:THammock)(r:Bool)(h:Cz aM aC=some r):Spec Tryz.prog 27 [(AV.list 4 eTHammock default aM .none),(Z49 aC)] [] (.bool r) []:=by
 refine Ac mix Tryz.func27 (fun Γ hq=>?_);unfold Cz at h;refine Af hq Rp [3] ?_;obtain⟨x1,hx1,h⟩:=bind_some h;refine gR hq [4] [] [] [(Z19 x1)] (c1 (Mi aM aC x1 hx1)) ?_;cases h;exact Cf []
def Ki(a0:TFunc)(aD:THammock):Option Bool:=
 ((Ic a0).bind fun x1=>((Cz x1 aD).bind fun x2=>(some x2)))
theorem Qi(a0:TFunc)(aD:THammock)(r:Bool)(h:Ki a0 aD=some r):Spec Tryz.prog 12 [(Z35 a0),(Z49 aD)] [] (.bool r) []:=by
 refine Ac mix Tryz.func12 (fun Γ hq=>?_);unfold Ki at h;refine Af hq F5 F5 ?_;obtain⟨x1,hx1,h⟩:=bind_some h;obtain⟨x2,hx2,h⟩:=bind_some h;refine gR hq [4] [] [] [⟨[],[(20000,6)],(Z45 x1 20000),[(20000,.tok 4 27 x1.length)],[],[]⟩,(Z2 x2)] (ci (Pf a0 x1 hx1) (c1 (Lw x1 aD x2 hx2))) ?_;obtain rfl:=OI h;exact Cf []
def D9(a0:TFunc)(aD:THammock):(List C1×Int)->Option (LR (List C1×Int) (List C1)):=
 fun((l2,i3):(List C1×Int))=>(bif (decide (i3<(([aD.Then,aD.Else]:List Int).length:Int))) then(Option.bind (α:=List C1) (A6 (A2 i3 ([aD.Then,aD.Else]:List Int).length) (bif (((([aD.Then,aD.Else]:List Int).getD i3.toNat 0):Int)!=-1) then(A6 (A2 (([aD.Then,aD.Else]:List Int).getD i3.toNat 0) a0.Blocks.length) (A6 (l2.length+((a0.Blocks.getD (([aD.Then,aD.Else]:List Int).getD i3.toNat 0).toNat (default:Ad)).Ops).length<=room) (some (l2++(a0.Blocks.getD (([aD.Then,aD.Else]:List Int).getD i3.toNat 0).toNat (default:Ad)).Ops)))) else(some l2))) (fun x9=>(some (.next (x9,(w64 (i3+1))))))) else(some (.done l2)))
def Q124(aD:THammock):=([aD.Then,aD.Else]:List Int)
def Q121:AV:=Z55
def Q122(a0:TFunc)(aD:THammock)(i3:Int):=(a0.Blocks.getD ((Q124 aD).getD i3.toNat 0).toNat (default:Ad))
def Q125(a0:TFunc):List AV:=[(Z8 a0.Params),(Z7 a0.Ret),(Z16 a0.Blocks)]
def Q123:=(⟨[(4,(AV.list 6 Nv default ([]:List C1) (.own 6004))),(5,(.bool false))],[(6004,.tok 6 57 (([]:List C1).length))],[]⟩:St)
def Q120(aD:THammock)(a0:TFunc):=(⟨[Ra,(6,(AV.list 6 Nv default ([]:List C1) (.own 5006))),(17,(AV.list 1 Au 0 (Q124 aD) .exact)),(18,(.int .i64 ((Q124 aD).length:Int))),(19,Pq)],[(M6 25 (Q125 a0)),(5006,.tok 6 57 (([]:List C1).length))],[]⟩:St)
def I5(a0:TFunc)(aD:THammock):Option (List C1×Bool):=
 ((Ki a0 aD).bind fun x1=>(bif (!x1) then(some (([]:List C1),false)) else((Ah (D9 a0 aD) (([]:List C1),(0:Int))).bind (fun x11=>(some (x11,true))))))
theorem Se(a0:TFunc)(aD:THammock)(r:(List C1×Bool))(h:I5 a0 aD=some r):Spec Tryz.prog 30 [(Z35 a0),(Z49 aD)] [] (.tuple [(Z41 r.1 20000),(.bool r.2)]) [(20000,.tok 6 57 r.1.length)]:=by
 refine Ac mix Tryz.func30 (fun Γ hq=>?_);unfold I5 at h;refine gR hq F5 F5 [(4,Q121)] [] (c1 (Dh 6 Nv (default:C1))) ?_;obtain⟨x1,hx1,h⟩:=bind_some h;refine gR hq [2,3,12] F5 [] [(Z2 x1)] (c1 (Qi a0 aD x1 hx1)) ?_;refine gC h ?_ ?_<;>intro h
 ·refine gR hq Sv [] [(4,Q121)] [] (c1 (Dh 6 Nv (default:C1))) ?_;refine Ri (⟨[(4,Q121),(5,(.bool false))],[],[]⟩:St) ?_;cases h;exact gK (e:=.ret) (J7 zzN103 (show Le Γ _ Q123 from Le.trans (B2 (st':=⟨[(4,Q121),(5,(.bool false))],[],[]⟩) Sv [] hq) (Le.trans (Nw (t:=4) (nm:=6004) (sz':=6) (fun i=>Nv (([]:List C1).getD i default)) 57 rfl rfl (.inl ⟨rfl,rfl⟩) (fun h_=>absurd h_ (by decide))) (B2 (st':=Q123) Sv [6004] hq))))
 ·refine gR hq zzN133 F5 [(6,Q121)] [] (c1 (Dh 6 Nv (default:C1))) ?_;refine gR hq zzN53 [2] [(17,(AV.list 1 Au 0 (Q124 aD) .exact))] [] (c1 (Bx 1 Au (0:Int) (Q124 aD))) ?_;refine Or (st':=(Q120 aD a0)) (Le.trans (B2 (st':=⟨[Ra,(6,Q121),(17,(AV.list 1 Au 0 (Q124 aD) .exact)),(18,(.int .i64 ((Q124 aD).length:Int))),(19,Pq)],[(M6 25 (Q125 a0))],[]⟩) zzN53 [2] hq) (Le.trans (Nw (t:=6) (nm:=5006) (sz':=6) (fun i=>Nv (([]:List C1).getD i default)) 57 rfl rfl (.inl ⟨rfl,rfl⟩) (fun h_=>absurd h_ (by decide))) (B2 (st':=(Q120 aD a0)) zzN53 Zb hq))) ?_;obtain⟨x11,hx11,h⟩:=bind_some h;refine gL hq hx11 zzN53 Zb (fun u (l2,i3)=>(Eu u [(6,(Z41 l2 5006)),(19,(Z7 i3))] [(5006,.tok 6 57 l2.length)])) (fun u l4=>aG Γ (.exit 0) (⟨[(6,(Z41 l4 5006))],[(5006,.tok 6 57 l4.length)],[]⟩:St)) ?_ ?_
  ·rintro⟨l2,i3⟩ y h;unfold D9 at h;refine Af hq [2,6,17,18,19,20] Zb ?_;refine gC h ?_ ?_<;>intro h
   ·obtain⟨x9,hx9,h⟩:=bind_some h;refine gJ hx9 (fun l5=>aG Γ .normal (⟨[Ra,(6,(Z41 l5 5006)),(17,(AV.list 1 Au 0 (Q124 aD) .exact)),(18,(.int .i64 ((Q124 aD).length:Int))),(19,(Z7 i3))],[(M6 25 (Q125 a0)),(5006,.tok 6 57 l5.length)],[]⟩:St)) ?_ ?_
    ·clear h hx9;intro y h;obtain⟨hc6,h⟩:=Aa h;refine gR hq [2,6,8,17,18,19] Zb [] [] (c1 hc6) ?_;refine Af hq [2,6,8,17,18,19,24] Zb ?_;refine gC h ?_ ?_<;>intro h
     ·obtain⟨hc7,h⟩:=Aa h;obtain⟨hc8,h⟩:=Aa h;refine gR hq zzN53 Zb [(32,(AV.list 6 Nv default (l2++(Q122 a0 aD i3).Ops) (.own 5006)))] [] (ci hc7 (ci (Eq.refl l2.length) (ci hc8 (ci (Ix 6 5006 Nv (default:C1) l2 ((Q122 a0 aD i3).Ops)) (c1 (Fe l2 ((Q122 a0 aD i3).Ops))))))) ?_;cases h;exact gK (Bk Cr)
     ·obtain rfl:=OI h;exact gK (Bk (B2 zzN53 Zb hq))
    ·clear hx9;refine gA ?_;refine Af hq zzN53 Zb ?_;cases h;exact gN Cr
   ·cases h;exact gO (Bk (B2 [6] [5006] hq))
  ·clear hx11;refine gA ?_;refine Af hq Sv [5006] ?_;cases h;exact Cf [(5006,20000)]
def K6(a0:TFunc)(aD:THammock):Option Int:=
 ((I5 a0 aD).bind fun x1=>(some (x1.1.length:Int)))
theorem Wg(a0:TFunc)(aD:THammock)(r:Int)(h:K6 a0 aD=some r):Spec Tryz.prog 17 [(Z35 a0),(Z49 aD)] [] (.int .i64 r) []:=by
 refine Ac mix Tryz.func17 (fun Γ hq=>?_);unfold K6 at h;refine Af hq F5 F5 ?_;obtain⟨x1,hx1,h⟩:=bind_some h;refine gR hq [5] [10] [] [⟨[],[(20000,10)],(.tuple [(Z41 x1.1 20000),(.bool x1.2)]),[(20000,.tok 6 57 x1.1.length)],[],[]⟩] (c1 (Se a0 aD x1 hx1)) ?_;refine Af hq [4] [] ?_;cases h;exact Cf []
def Ju(a1:C1):Option Bool:=
 (some (a1.Lanes !=1))
theorem Aai(a1:C1)(r:Bool)(h:Ju a1=some r):Spec Tryz.prog 32 (Z69 a1) [] (.bool r) []:=by
 refine Ac mix Tryz.func32 (fun Γ hq=>?_);unfold Ju at h;refine Af hq [1] [1] ?_;refine Af hq [2] [] ?_;cases h;exact Cf []
def m_slices_IndexFunc_api_Op_api_Op_L1(aM:List C1):Int->Option (LR Int (Unit ⊕ Int)):=
 fun(i1:Int)=>(bif (decide (i1<(aM.length:Int))) then(A6 (A2 i1 aM.length) ((Ju (aM.getD i1.toNat default)).bind fun x3=>(bif x3 then(some (.done (.inr i1))) else(some (.next (w64 (i1+1))))))) else(some (.done (.inl ()))))
def O1(Γ:Iw)(aM:List C1)(r:Int):Exit->St->Prop:=fK Tryz.prog Γ Tryz.f58.results.toList [] (.int .i64 r) []
def Ez(aM:List C1):Option Int:=
 ((Ah (m_slices_IndexFunc_api_Op_api_Op_L1 aM) (0:Int)).bind (fun x4=>(match x4 with|(.inl _)=>(some (-1:Int))|(.inr r6)=>(some r6))))
theorem Oy(aM:List C1)(r:Int)(h:Ez aM=some r):Spec Tryz.prog 58 [(AV.list 6 Nv default aM .none),(.clo 32 [] [])] [] (.int .i64 r) []:=by
 refine Ac mix Tryz.func58 (fun Γ hq=>?_);unfold Ez at h;refine Af hq Jy [] ?_;refine Af hq zzN115 [] ?_;obtain⟨x4,hx4,h⟩:=bind_some h;refine gL hq hx4 zzN115 [] (fun u i1=>(Eu u [(8,(Z7 i1))] [])) (fun u x_=>match x_ with|(.inl _)=>aG Γ (.exit 0) (⟨[],[],[]⟩:St)|(.inr r_)=>aR (O1 Γ aM r_)) ?_ ?_
 ·intro i1 y h;unfold m_slices_IndexFunc_api_Op_api_Op_L1 at h;refine Af hq [0,1,7,8,9] [] ?_;refine gC h ?_ ?_<;>intro h
  ·refine Af hq [0,1,5,7,8] [] ?_;obtain⟨hc2,h⟩:=Aa h;obtain⟨x3,hx3,h⟩:=bind_some h;refine gR hq [0,1,5,7,8,16] [] [] [(Z2 x3)] (ci hc2 (c1 (Aai (aM.getD i1.toNat default) x3 hx3))) ?_;refine gC h ?_ ?_<;>intro h
   ·refine Af hq [4] [] ?_;cases h;exact gO (L0 (J7 [] (Le.refl _ _)))
   ·refine Af hq zzN115 [] ?_;cases h;exact gN Cr
  ·cases h;exact gO (Bk (B2 [] [] hq))
 ·clear hx4;rcases x4 with _|r6
  ·refine gA ?_;refine Af hq [4] [] ?_;cases h;exact Cf []
  ·refine N2 (fun st' hk=>?_);obtain rfl:=OI h;exact gK hk
def Cv(aM:List C1):Option Bool:=
 ((Ez aM).bind fun x1=>(some (decide (((0:Int):Int)<=x1))))
theorem Ny(aM:List C1)(r:Bool)(h:Cv aM=some r):Spec Tryz.prog 31 [(AV.list 6 Nv default aM .none),(.clo 32 [] [])] [] (.bool r) []:=by
 refine Ac mix Tryz.func31 (fun Γ hq=>?_);unfold Cv at h;refine Af hq Jy [] ?_;obtain⟨x1,hx1,h⟩:=bind_some h;refine gR hq [4] [] [] [(Z19 x1)] (c1 (Oy aM x1 hx1)) ?_;cases h;exact Cf []
def Jl(a0:TFunc)(aD:THammock):Option Bool:=
 ((I5 a0 aD).bind fun x1=>((bif (x1.2==true) then Cv x1.1 else some false).bind fun x2=>(some (bif x1.2 then(!x2) else false))))
theorem S7(a0:TFunc)(aD:THammock)(r:Bool)(h:Jl a0 aD=some r):Spec Tryz.prog 14 [(Z35 a0),(Z49 aD)] [] (.bool r) []:=by
 refine Ac mix Tryz.func14 (fun Γ hq=>?_);unfold Jl at h;refine Af hq F5 F5 ?_;obtain⟨x1,hx1,h⟩:=bind_some h;refine gR hq T6 [10] [] [⟨[],[(20000,10)],(.tuple [(Z41 x1.1 20000),(.bool x1.2)]),[(20000,.tok 6 57 x1.1.length)],[],[]⟩] (c1 (Se a0 aD x1 hx1)) ?_;obtain⟨x2,hx2,h⟩:=bind_some h;refine gR hq [4] [] [] [(Z2 x2)] (ci (gI (x1.2==true)) (ci (fun(hg:(x1.2==true)=true)=>(Ny x1.1 x2 (Bg hg hx2))) (ci (gI (x1.2==true)) (c1 (M7 x1.2))))) ?_;cases h;exact Cf []
def Q127(x4:Int):=(x4==1)
def Q128(x6:List THammock):=(((x6.length:Int):Int)==1)
def Q130(x2:(THammock×Bool)):=(bif x2.2 then(((x2.1.At:Int)==0)&&(((x2.1.Then:Int)==1)&&(((x2.1.Else:Int)==2)&&(((x2.1.Join:Int)==3)&&true)))) else false)
def Q126(x2:(THammock×Bool))(x3:(THammock×Bool)):=(bif (Q130 x2) then(!x3.2) else false)
def Q129(x2:(THammock×Bool))(x3:(THammock×Bool))(x4:Int)(x5:Bool):=(bif (bif (Q126 x2 x3) then(Q127 x4) else false) then x5 else false)
def Q131(x2:(THammock×Bool))(x3:(THammock×Bool))(x4:Int)(x5:Bool)(x6:List THammock):=(bif (Q129 x2 x3 x4 x5) then(Q128 x6) else false)
def m_locksteplaw14_awake :Option Bool:=
 (m_locksteplaw14_diamond.bind fun x1=>((Jt x1 (0:Int)).bind fun x2=>((Jt x1 (1:Int)).bind fun x3=>((bif ((bif (bif x2.2 then(((x2.1.At:Int)==0)&&(((x2.1.Then:Int)==1)&&(((x2.1.Else:Int)==2)&&(((x2.1.Join:Int)==3)&&true)))) else false) then(!x3.2) else false)==true) then K6 x1 x2.1 else some (0:Int)).bind fun x4=>((bif ((bif (bif (bif x2.2 then(((x2.1.At:Int)==0)&&(((x2.1.Then:Int)==1)&&(((x2.1.Else:Int)==2)&&(((x2.1.Join:Int)==3)&&true)))) else false) then(!x3.2) else false) then(x4==1) else false)==true) then Jl x1 x2.1 else some false).bind fun x5=>((bif ((bif (bif (bif (bif x2.2 then(((x2.1.At:Int)==0)&&(((x2.1.Then:Int)==1)&&(((x2.1.Else:Int)==2)&&(((x2.1.Join:Int)==3)&&true)))) else false) then(!x3.2) else false) then(x4==1) else false) then x5 else false)==true) then Ic x1 else some []).bind fun x6=>((bif ((bif (bif (bif (bif (bif x2.2 then(((x2.1.At:Int)==0)&&(((x2.1.Then:Int)==1)&&(((x2.1.Else:Int)==2)&&(((x2.1.Join:Int)==3)&&true)))) else false) then(!x3.2) else false) then(x4==1) else false) then x5 else false) then(((x6.length:Int):Int)==1) else false)==true) then Ki x1 x2.1 else some false).bind fun x7=>((bif ((bif (bif (bif (bif (bif (bif x2.2 then(((x2.1.At:Int)==0)&&(((x2.1.Then:Int)==1)&&(((x2.1.Else:Int)==2)&&(((x2.1.Join:Int)==3)&&true)))) else false) then(!x3.2) else false) then(x4==1) else false) then x5 else false) then(((x6.length:Int):Int)==1) else false) then x7 else false)==true) then Ki x1 (⟨(0:Int),(0:Int),(0:Int),(0:Int)⟩:THammock) else some false).bind fun x8=>(some (bif (bif (bif (bif (bif (bif (bif x2.2 then(((x2.1.At:Int)==0)&&(((x2.1.Then:Int)==1)&&(((x2.1.Else:Int)==2)&&(((x2.1.Join:Int)==3)&&true)))) else false) then(!x3.2) else false) then(x4==1) else false) then x5 else false) then(((x6.length:Int):Int)==1) else false) then x7 else false) then(!x8) else false))))))))))
theorem Vm  (r:Bool) (h:m_locksteplaw14_awake=some r):Spec Tryz.prog 8 [] [] (.bool r) []:=by
 refine Ac mix Tryz.func8 (fun Γ hq=>?_);unfold m_locksteplaw14_awake at h;refine Af hq [] [] ?_;obtain⟨x1,hx1,h⟩:=bind_some h;refine gR hq [1] [1] [] [⟨[],[],(Z35 x1),[],[],[]⟩] (c1 (Tw  x1 hx1)) ?_;obtain⟨x2,hx2,h⟩:=bind_some h;refine gR hq [1,2,3] M5 [] [(Z23 x2.1 x2.2)] (c1 (Rd x1 (0:Int) x2 hx2)) ?_;obtain⟨x3,hx3,h⟩:=bind_some h;refine gR hq [1,2,3,5] M5 [] [(Z23 x3.1 x3.2)] (c1 (Rd x1 (1:Int) x3 hx3)) ?_;obtain⟨x4,hx4,h⟩:=bind_some h;obtain⟨x5,hx5,h⟩:=bind_some h;obtain⟨x6,hx6,h⟩:=bind_some h;obtain⟨x7,hx7,h⟩:=bind_some h;obtain⟨x8,hx8,h⟩:=bind_some h;refine gR hq [0] [] [] [(Z19 x4),(Z2 x5),⟨[],[],(AV.list 4 eTHammock default x6 .none),[],[],[]⟩,(Z2 x7),(Z2 x8)] (ci (gI (x2.2==true)) (ci (gI (x2.2==true)) (ci (M7 x2.2) (ci (gI ((Q130 x2)==true)) (ci (M7 (Q130 x2)) (ci (gI ((Q126 x2 x3)==true)) (ci (gI ((Q126 x2 x3)==true)) (ci (fun(hg:((Q126 x2 x3)==true)=true)=>(Wg x1 x2.1 x4 (Bg hg hx4))) (ci (gI ((Q126 x2 x3)==true)) (ci (M7 (Q126 x2 x3)) (ci (gI ((bif (Q126 x2 x3) then(Q127 x4) else false)==true)) (ci (gI ((bif (Q126 x2 x3) then(Q127 x4) else false)==true)) (ci (fun(hg:((bif (Q126 x2 x3) then(Q127 x4) else false)==true)=true)=>(S7 x1 x2.1 x5 (Bg hg hx5))) (ci (M7 (bif (Q126 x2 x3) then(Q127 x4) else false)) (ci (gI ((Q129 x2 x3 x4 x5)==true)) (ci (show(((Q129 x2 x3 x4 x5)==true)=true->(Spec Tryz.prog 18 [(Z35 x1)] [] (AV.list 4 eTHammock default x6 .none) [])) from(fun hg=>(Spec.drop (Pf x1 x6 (Bg hg hx6))))) (ci (gI ((Q129 x2 x3 x4 x5)==true)) (ci (gI ((Q129 x2 x3 x4 x5)==true)) (ci (M7 (Q129 x2 x3 x4 x5)) (ci (gI ((Q131 x2 x3 x4 x5 x6)==true)) (ci (gI ((Q131 x2 x3 x4 x5 x6)==true)) (ci (fun(hg:((Q131 x2 x3 x4 x5 x6)==true)=true)=>(Qi x1 x2.1 x7 (Bg hg hx7))) (ci (M7 (Q131 x2 x3 x4 x5 x6)) (ci (gI ((bif (Q131 x2 x3 x4 x5 x6) then x7 else false)==true)) (ci (gI ((bif (Q131 x2 x3 x4 x5 x6) then x7 else false)==true)) (ci (fun(hg:((bif (Q131 x2 x3 x4 x5 x6) then x7 else false)==true)=true)=>(Qi x1 (⟨(0:Int),(0:Int),(0:Int),(0:Int)⟩:THammock) x8 (Bg hg hx8))) (ci (gI ((bif (Q131 x2 x3 x4 x5 x6) then x7 else false)==true)) (c1 (M7 (bif (Q131 x2 x3 x4 x5 x6) then x7 else false)))))))))))))))))))))))))))))) ?_;cases h;exact Cf []
def Cs(a0:TFunc)(i2:Int):(Int×Int)->Option (LR (Int×Int) Int):=
 fun((i5,i6):(Int×Int))=>(A6 (A2 i2 a0.Blocks.length) (bif (bif (decide (i6<(((a0.Blocks.getD i2.toNat default).Phis).length:Int))) then(decide (i5<=20000)) else false) then(A6 (A2 i2 a0.Blocks.length) (A6 (A2 i6 ((a0.Blocks.getD i2.toNat default).Phis).length) (A6 (A2 i2 a0.Blocks.length) (A6 (A2 i6 ((a0.Blocks.getD i2.toNat default).Phis).length) (some (.next ((w64 ((w64 ((w64 (i5+1))+(((((a0.Blocks.getD i2.toNat default).Phis).getD i6.toNat default).From).length:Int)))+(((((a0.Blocks.getD i2.toNat default).Phis).getD i6.toNat default).Args).length:Int))),(w64 (i6+1))))))))) else(some (.done i5))))
def Ct(a0:TFunc)(i2:Int):(Int×Int)->Option (LR (Int×Int) Int):=
 fun((i15,i16):(Int×Int))=>(A6 (A2 i2 a0.Blocks.length) (bif (bif (decide (i16<(((a0.Blocks.getD i2.toNat default).Ops).length:Int))) then(decide (i15<=20000)) else false) then(A6 (A2 i2 a0.Blocks.length) (A6 (A2 i16 ((a0.Blocks.getD i2.toNat default).Ops).length) (some (.next ((w64 ((w64 (i15+1))+(((((a0.Blocks.getD i2.toNat default).Ops).getD i16.toNat default).Args).length:Int))),(w64 (i16+1))))))) else(some (.done i15))))
def B4(a0:TFunc):(Int×Int)->Option (LR (Int×Int) Int):=
 fun((i1,i2):(Int×Int))=>(bif (bif (decide (i2<(a0.Blocks.length:Int))) then(decide (i1<=20000)) else false) then(A6 (A2 i2 a0.Blocks.length) ((Ah (Cs a0 i2) ((w64 ((w64 (i1+1))+(((a0.Blocks.getD i2.toNat default).End.To).length:Int))),(0:Int))).bind (fun x13=>((Ah (Ct a0 i2) (x13,(0:Int))).bind (fun x21=>(some (.next (x21,(w64 (i2+1)))))))))) else(some (.done i1)))
def C5(a0:TFunc):Option Bool:=
 ((Ah (B4 a0) ((a0.Params.length:Int),(0:Int))).bind (fun x23=>(some (decide (x23<=20000)))))
theorem Vq(a0:TFunc)(r:Bool)(h:C5 a0=some r):Spec Tryz.prog 26 [(Z35 a0)] [] (.bool r) []:=by
 refine Ac mix Tryz.func26 (fun Γ hq=>?_);unfold C5 at h;refine Af hq [1] [1] ?_;refine Af hq Kn [1] ?_;refine Af hq Ko [1] ?_;obtain⟨x23,hx23,h⟩:=bind_some h;refine gL hq hx23 Ko [1] (fun u (i1,i2)=>(Eu u [(3,(Z7 i1)),(4,(Z7 i2))] [])) (fun u i3=>aG Γ (.exit 0) (⟨[(3,(Z7 i3))],[],[]⟩:St)) ?_ ?_
 ·rintro⟨i1,i2⟩ y h;unfold B4 at h;refine gR hq [1,3,4,18] [1] [] [] (ci (gI ((decide (i2<(a0.Blocks.length:Int)))==true)) (c1 (M7 (decide (i2<(a0.Blocks.length:Int)))))) ?_;refine gC h ?_ ?_<;>intro h
  ·obtain⟨hc4,h⟩:=Aa h;refine gR hq Ko [1] [] [] (c1 hc4) ?_;refine Af hq Ln [1] ?_;obtain⟨x13,hx13,h⟩:=bind_some h;refine gL hq hx13 Ln [1] (fun u (i5,i6)=>(Eu u [(3,(Z7 i5)),(5,(Z7 i6))] [])) (fun u i7=>aG Γ (.exit 2) (Oz Ko [1] u [(3,(Z7 i7))] [])) ?_ ?_
   ·rintro⟨i5,i6⟩ y h;unfold Cs at h;obtain⟨hc8,h⟩:=Aa h;refine gR hq [1,3,4,5,44] [1] [] [] (ci hc8 (ci (gI ((decide (i6<(((a0.Blocks.getD i2.toNat default).Phis).length:Int)))==true)) (c1 (M7 (decide (i6<(((a0.Blocks.getD i2.toNat default).Phis).length:Int))))))) ?_;refine gC h ?_ ?_<;>intro h
    ·obtain⟨hc9,h⟩:=Aa h;obtain⟨hc10,h⟩:=Aa h;obtain⟨hc11,h⟩:=Aa h;obtain⟨hc12,h⟩:=Aa h;refine gR hq Ln [1] [] [] (ci hc9 (ci hc10 (ci hc11 (c1 hc12)))) ?_;refine Af hq Ln [1] ?_;cases h;exact gN Cr
    ·cases h;exact gO (Bk (B2 Ko [1] hq))
   ·clear hx13;refine gA ?_;refine Af hq zzN169 [1] ?_;obtain⟨x21,hx21,h⟩:=bind_some h;refine gL hq hx21 zzN169 [1] (fun u (i15,i16)=>(Eu u [(3,(Z7 i15)),(6,(Z7 i16))] [])) (fun u i17=>aG Γ (.exit 4) (Oz Ko [1] u [(3,(Z7 i17))] [])) ?_ ?_
    ·rintro⟨i15,i16⟩ y h;unfold Ct at h;obtain⟨hc18,h⟩:=Aa h;refine gR hq [1,3,4,6,85] [1] [] [] (ci hc18 (ci (gI ((decide (i16<(((a0.Blocks.getD i2.toNat default).Ops).length:Int)))==true)) (c1 (M7 (decide (i16<(((a0.Blocks.getD i2.toNat default).Ops).length:Int))))))) ?_;refine gC h ?_ ?_<;>intro h
     ·obtain⟨hc19,h⟩:=Aa h;obtain⟨hc20,h⟩:=Aa h;refine gR hq zzN169 [1] [] [] (ci hc19 (c1 hc20)) ?_;refine Af hq zzN169 [1] ?_;cases h;exact gN Cr
     ·cases h;exact gO (Bk (B2 Ko [1] hq))
    ·clear hx21;refine gA ?_;refine Af hq Ko [1] ?_;cases h;exact gN Cr
  ·cases h;exact gO (Bk (B2 [3] [] hq))
 ·clear hx23;refine gA ?_;refine Af hq [2] [] ?_;cases h;exact Cf []
def En(a0:TFunc):(Int×Int)->Option (LR (Int×Int) Int):=
 fun((i1,i2):(Int×Int))=>(bif (decide (i2<(a0.Blocks.length:Int))) then(A6 (A2 i2 a0.Blocks.length) (A6 (A2 i2 a0.Blocks.length) (some (.next ((w64 ((w64 ((w64 (i1+1))+(((a0.Blocks.getD i2.toNat default).Ops).length:Int)))+(((a0.Blocks.getD i2.toNat default).Phis).length:Int))),(w64 (i2+1))))))) else(some (.done i1)))
def Q132(a0:TFunc)(x6:Int):=(bif (decide (((a0.Blocks.length:Int):Int)<=16)) then(decide (x6<=100)) else false)
def Q133(a0:TFunc)(x6:Int):=(bif (Q132 a0 x6) then true else(decide (((64:Int):Int)<(a0.Blocks.length:Int))))
def Hs(a0:TFunc):Option Bool:=
 ((Ah (En a0) ((0:Int),(0:Int))).bind (fun x6=>((C5 a0).bind fun x8=>(some (bif x8 then(bif (bif (bif (decide (((a0.Blocks.length:Int):Int)<=16)) then(decide (x6<=100)) else false) then true else(decide (((64:Int):Int)<(a0.Blocks.length:Int)))) then true else(decide (((512:Int):Int)<x6))) else false)))))
theorem Vs(a0:TFunc)(r:Bool)(h:Hs a0=some r):Spec Tryz.prog 9 [(Z35 a0)] [] (.bool r) []:=by
 refine Ac mix Tryz.func9 (fun Γ hq=>?_);unfold Hs at h;refine Af hq [1] [1] ?_;refine Af hq Kn [1] ?_;refine Af hq Ko [1] ?_;obtain⟨x6,hx6,h⟩:=bind_some h;refine gL hq hx6 Ko [1] (fun u (i1,i2)=>(Eu u [(3,(Z7 i1)),(4,(Z7 i2))] [])) (fun u i3=>aG Γ (.exit 0) (Oz Kn [1] u [(3,(Z7 i3))] [])) ?_ ?_
 ·rintro⟨i1,i2⟩ y h;unfold En at h;refine Af hq [1,3,4,9] [1] ?_;refine gC h ?_ ?_<;>intro h
  ·obtain⟨hc4,h⟩:=Aa h;obtain⟨hc5,h⟩:=Aa h;refine gR hq Ko [1] [] [] (ci hc4 (c1 hc5)) ?_;refine Af hq Ko [1] ?_;cases h;exact gN Cr
  ·cases h;exact gO (Bk (B2 Kn [1] hq))
 ·clear hx6;refine gA ?_;obtain⟨x8,hx8,h⟩:=bind_some h;refine gR hq [2] [] [] [(Z2 x8)] (ci (Vq a0 x8 hx8) (ci (gI (x8==true)) (ci (gI (x8==true)) (ci (gI (x8==true)) (ci (gI (x8==true)) (ci (gI ((x8==true)&&((decide (((a0.Blocks.length:Int):Int)<=16))==true))) (ci (gI (x8==true)) (ci (show((x8==true)=true->((decide (((a0.Blocks.length:Int):Int)<=16))=true->((x8==true)&&((decide (((a0.Blocks.length:Int):Int)<=16))==true))=true)) from(fun hg=>(aT hg))) (ci (gI (x8==true)) (ci (gI ((x8==true)&&((Q132 a0 x6)==false))) (ci (gI ((x8==true)&&((Q132 a0 x6)==false))) (ci (gI ((x8==true)&&((Q132 a0 x6)==false))) (ci (gI (x8==true)) (ci (show((x8==true)=true->((Q132 a0 x6)=false->((x8==true)&&((Q132 a0 x6)==false))=true)) from(fun hg=>(aF hg))) (ci (gI (x8==true)) (ci (gI ((x8==true)&&((Q133 a0 x6)==false))) (ci (gI (x8==true)) (ci (show((x8==true)=true->((Q133 a0 x6)=false->((x8==true)&&((Q133 a0 x6)==false))=true)) from(fun hg=>(aF hg))) (c1 (M7 x8)))))))))))))))))))) ?_;cases h;exact Cf []
def Bh(aW:Int):Option Bool:=
 (some (bif (decide (((0:Int):Int)<=aW)) then(decide (aW<=2147483647)) else false))
theorem Cw(aW:Int)(r:Bool)(h:Bh aW=some r):Spec Tryz.prog 79 [(Z7 aW)] [] (.bool r) []:=by
 refine Ac mix Tryz.func79 (fun Γ hq=>?_);unfold Bh at h;refine Af hq [0] [] ?_;refine gR hq [2] [] [] [] (ci (gI ((decide (((0:Int):Int)<=aW))==true)) (c1 (M7 (decide (((0:Int):Int)<=aW))))) ?_;cases h;exact Cf []
def E2(aV:List Int):Int->Option (LR Int (Unit ⊕ Bool)):=
 fun(i1:Int)=>(bif (decide (i1<(aV.length:Int))) then(A6 (A2 i1 aV.length) ((Bh (aV.getD i1.toNat 0)).bind fun x3=>(bif (!x3) then(some (.done (.inr false))) else(some (.next (w64 (i1+1))))))) else(some (.done (.inl ()))))
def Xk(Γ:Iw)(aV:List Int)(r:Bool):Exit->St->Prop:=fK Tryz.prog Γ Tryz.f78.results.toList [] (.bool r) []
def Di(aV:List Int):Option Bool:=
 ((Ah (E2 aV) (0:Int)).bind (fun x4=>(match x4 with|(.inl _)=>(some (decide (((aV.length:Int):Int)<=64)))|(.inr r6)=>(some r6))))
theorem Hw(aV:List Int)(r:Bool)(h:Di aV=some r):Spec Tryz.prog 78 [(Z8 aV)] [] (.bool r) []:=by
 refine Ac mix Tryz.func78 (fun Γ hq=>?_);unfold Di at h;refine Af hq [0] [] ?_;refine Af hq Rp [] ?_;obtain⟨x4,hx4,h⟩:=bind_some h;refine gL hq hx4 Rp [] (fun u i1=>(Eu u [(3,(Z7 i1))] [])) (fun u x_=>match x_ with|(.inl _)=>aG Γ (.exit 0) (Oz [0] [] u [] [])|(.inr r_)=>aR (Xk Γ aV r_)) ?_ ?_
 ·intro i1 y h;unfold E2 at h;refine Af hq [0,3,7] [] ?_;refine gC h ?_ ?_<;>intro h
  ·obtain⟨hc2,h⟩:=Aa h;obtain⟨x3,hx3,h⟩:=bind_some h;refine gR hq [0,3,15] [] [] [(Z2 x3)] (ci hc2 (c1 (Cw (aV.getD i1.toNat 0) x3 hx3))) ?_;refine gC h ?_ ?_<;>intro h
   ·refine Af hq [2] [] ?_;cases h;exact gO (L0 (J7 [] (Le.refl _ _)))
   ·refine Af hq Rp [] ?_;cases h;exact gN Cr
  ·cases h;exact gO (Bk (B2 [0] [] hq))
 ·clear hx4;rcases x4 with _|r6
  ·refine gA ?_;refine Af hq [2] [] ?_;cases h;exact Cf []
  ·refine N2 (fun st' hk=>?_);obtain rfl:=OI h;exact gK hk
def Gv(a0:TFunc):(Int×Int)->Option (LR (Int×Int) Int):=
 fun((i1,i2):(Int×Int))=>(bif (decide (i2<(a0.Blocks.length:Int))) then(A6 (A2 i2 a0.Blocks.length) (A6 (A2 i2 a0.Blocks.length) (some (.next ((w64 ((w64 ((w64 (i1+(((a0.Blocks.getD i2.toNat default).Phis).length:Int)))+(((a0.Blocks.getD i2.toNat default).Ops).length:Int)))+1)),(w64 (i2+1))))))) else(some (.done i1)))
def Im(a0:TFunc):Option Int:=
 ((Ah (Gv a0) ((0:Int),(0:Int))).bind (fun x6=>(some x6)))
theorem W8(a0:TFunc)(r:Int)(h:Im a0=some r):Spec Tryz.prog 80 [(Z35 a0)] [] (.int .i64 r) []:=by
 refine Ac mix Tryz.func80 (fun Γ hq=>?_);unfold Im at h;refine Af hq [1] [1] ?_;refine Af hq Kn [1] ?_;refine Af hq Ko [1] ?_;obtain⟨x6,hx6,h⟩:=bind_some h;refine gL hq hx6 Ko [1] (fun u (i1,i2)=>(Eu u [(3,(Z7 i1)),(4,(Z7 i2))] [])) (fun u i3=>aG Γ (.exit 0) (⟨[(3,(Z7 i3))],[],[]⟩:St)) ?_ ?_
 ·rintro⟨i1,i2⟩ y h;unfold Gv at h;refine Af hq [1,3,4,9] [1] ?_;refine gC h ?_ ?_<;>intro h
  ·obtain⟨hc4,h⟩:=Aa h;obtain⟨hc5,h⟩:=Aa h;refine gR hq Ko [1] [] [] (ci hc4 (c1 hc5)) ?_;refine Af hq Ko [1] ?_;cases h;exact gN Cr
  ·cases h;exact gO (Bk (B2 [3] [] hq))
 ·clear hx6;refine gA ?_;refine Af hq [2] [] ?_;obtain rfl:=OI h;exact Cf []
def Fu(a0:TFunc)(i4:Int):Int->Option (LR Int (Unit ⊕ Bool)):=
 fun(i6:Int)=>(bif (decide (i6<(((a0.Blocks.getD i4.toNat default).Phis).length:Int))) then(A6 (A2 i6 ((a0.Blocks.getD i4.toNat default).Phis).length) ((Bh ((((a0.Blocks.getD i4.toNat default).Phis).getD i6.toNat default).Bits)).bind fun x8=>((bif ((!x8)==false) then Bh ((((a0.Blocks.getD i4.toNat default).Phis).getD i6.toNat default).Dst) else some false).bind fun x9=>((bif ((bif (!x8) then true else(!x9))==false) then Di ((((a0.Blocks.getD i4.toNat default).Phis).getD i6.toNat default).From) else some false).bind fun x10=>((bif ((bif (bif (!x8) then true else(!x9)) then true else(!x10))==false) then Di ((((a0.Blocks.getD i4.toNat default).Phis).getD i6.toNat default).Args) else some false).bind fun x11=>(bif (bif (bif (bif (!x8) then true else(!x9)) then true else(!x10)) then true else(!x11)) then(some (.done (.inr false))) else(some (.next (w64 (i6+1)))))))))) else(some (.done (.inl ()))))
def Fv(a0:TFunc)(i4:Int):Int->Option (LR Int (Unit ⊕ Bool)):=
 fun(i14:Int)=>(bif (decide (i14<(((a0.Blocks.getD i4.toNat default).Ops).length:Int))) then(A6 (A2 i14 ((a0.Blocks.getD i4.toNat default).Ops).length) ((Bh ((((a0.Blocks.getD i4.toNat default).Ops).getD i14.toNat default).Kind)).bind fun x16=>((bif ((!x16)==false) then Bh ((((a0.Blocks.getD i4.toNat default).Ops).getD i14.toNat default).Bits) else some false).bind fun x17=>((bif ((bif (!x16) then true else(!x17))==false) then Bh ((((a0.Blocks.getD i4.toNat default).Ops).getD i14.toNat default).Lanes) else some false).bind fun x18=>((bif ((bif (bif (!x16) then true else(!x17)) then true else(!x18))==false) then Bh ((((a0.Blocks.getD i4.toNat default).Ops).getD i14.toNat default).Dst) else some false).bind fun x19=>((bif ((bif (bif (bif (!x16) then true else(!x17)) then true else(!x18)) then true else(!x19))==false) then Di ((((a0.Blocks.getD i4.toNat default).Ops).getD i14.toNat default).Args) else some false).bind fun x20=>(bif (bif (bif (bif (bif (!x16) then true else(!x17)) then true else(!x18)) then true else(!x19)) then true else(!x20)) then(some (.done (.inr false))) else(some (.next (w64 (i14+1))))))))))) else(some (.done (.inl ()))))
def Ee(a0:TFunc):Int->Option (LR Int (Unit ⊕ Bool)):=
 fun(i4:Int)=>(bif (decide (i4<(a0.Blocks.length:Int))) then(A6 (A2 i4 a0.Blocks.length) ((Ah (Fu a0 i4) (0:Int)).bind (fun x12=>(match x12 with|(.inl _)=>((Ah (Fv a0 i4) (0:Int)).bind (fun x21=>(match x21 with|(.inl _)=>((Bh ((a0.Blocks.getD i4.toNat default).End.Kind)).bind fun x23=>((bif ((!x23)==false) then Bh ((a0.Blocks.getD i4.toNat default).End.Arg) else some false).bind fun x24=>((bif ((bif (!x23) then true else(!x24))==false) then Di ((a0.Blocks.getD i4.toNat default).End.To) else some false).bind fun x25=>(bif (bif (bif (!x23) then true else(!x24)) then true else(!x25)) then(some (.done (.inr false))) else(some (.next (w64 (i4+1))))))))|(.inr r26)=>(some (.done (.inr r26))))))|(.inr r27)=>(some (.done (.inr r27))))))) else(some (.done (.inl ()))))
def Nt(Γ:Iw)(a0:TFunc)(r:Bool):Exit->St->Prop:=fK Tryz.prog Γ Tryz.f46.results.toList [] (.bool r) []
def Q138(x8:Bool)(x9:Bool):=(bif (!x8) then true else(!x9))
def Q142(a0:TFunc):=(((a0.Blocks.length:Int):Int)==0)
def Q134(a0:TFunc):=(bif (bif (Q142 a0) then true else(decide (((64:Int):Int)<(a0.Blocks.length:Int)))) then true else(decide (((16:Int):Int)<(a0.Params.length:Int))))
def Q140(a0:TFunc)(x1:Bool):=(bif (Q134 a0) then true else(!x1))
def Q139(x23:Bool)(x24:Bool):=((bif (!x23) then true else(!x24))==false)
def Q136(a0:TFunc)(i4:Int):=(a0.Blocks.getD i4.toNat default)
def Q141(a0:TFunc)(i4:Int)(i14:Int):=(((Q136 a0 i4).Ops).getD i14.toNat default)
def Q135(x16:Bool)(x17:Bool)(x18:Bool):=(bif (bif (!x16) then true else(!x17)) then true else(!x18))
def Q137(a0:TFunc):=((bif (Q142 a0) then true else(decide (((64:Int):Int)<(a0.Blocks.length:Int))))==false)
def Hc(a0:TFunc):Option Bool:=
 ((bif ((bif (bif (((a0.Blocks.length:Int):Int)==0) then true else(decide (((64:Int):Int)<(a0.Blocks.length:Int)))) then true else(decide (((16:Int):Int)<(a0.Params.length:Int))))==false) then Di a0.Params else some false).bind fun x1=>((bif ((bif (bif (bif (((a0.Blocks.length:Int):Int)==0) then true else(decide (((64:Int):Int)<(a0.Blocks.length:Int)))) then true else(decide (((16:Int):Int)<(a0.Params.length:Int)))) then true else(!x1))==false) then Bh a0.Ret else some false).bind fun x2=>((bif ((bif (bif (bif (bif (((a0.Blocks.length:Int):Int)==0) then true else(decide (((64:Int):Int)<(a0.Blocks.length:Int)))) then true else(decide (((16:Int):Int)<(a0.Params.length:Int)))) then true else(!x1)) then true else(!x2))==false) then Im a0 else some (0:Int)).bind fun x3=>(bif (bif (bif (bif (bif (bif (((a0.Blocks.length:Int):Int)==0) then true else(decide (((64:Int):Int)<(a0.Blocks.length:Int)))) then true else(decide (((16:Int):Int)<(a0.Params.length:Int)))) then true else(!x1)) then true else(!x2)) then true else(decide (((512:Int):Int)<x3))) then(some false) else((Ah (Ee a0) (0:Int)).bind (fun x28=>(match x28 with|(.inl _)=>(some true)|(.inr r30)=>(some r30))))))))
theorem Ye(a0:TFunc)(r:Bool)(h:Hc a0=some r):Spec Tryz.prog 46 [(Z35 a0)] [] (.bool r) []:=by
 refine Ac mix Tryz.func46 (fun Γ hq=>?_);unfold Hc at h;refine Af hq [1] [1] ?_;obtain⟨x1,hx1,h⟩:=bind_some h;obtain⟨x2,hx2,h⟩:=bind_some h;obtain⟨x3,hx3,h⟩:=bind_some h;refine gR hq [1,41] [1] [] [(Z2 x1),(Z2 x2),(Z19 x3)] (ci (gI ((Q142 a0)==false)) (ci (gI ((Q142 a0)==false)) (ci (gI ((Q142 a0)==false)) (ci (J1 (Q142 a0)) (ci (gI (Q137 a0)) (ci (gI (Q137 a0)) (ci (gI (Q137 a0)) (ci (J1 (bif (Q142 a0) then true else(decide (((64:Int):Int)<(a0.Blocks.length:Int))))) (ci (gI ((Q134 a0)==false)) (ci (gI ((Q134 a0)==false)) (ci (fun(hg:((Q134 a0)==false)=true)=>(Hw a0.Params x1 (Bg hg hx1))) (ci (gI ((Q134 a0)==false)) (ci (J1 (Q134 a0)) (ci (gI ((Q140 a0 x1)==false)) (ci (gI ((Q140 a0 x1)==false)) (ci (fun(hg:((Q140 a0 x1)==false)=true)=>(Cw a0.Ret x2 (Bg hg hx2))) (ci (gI ((Q140 a0 x1)==false)) (ci (J1 (Q140 a0 x1)) (ci (gI ((bif (Q140 a0 x1) then true else(!x2))==false)) (ci (fun(hg:((bif (Q140 a0 x1) then true else(!x2))==false)=true)=>(W8 a0 x3 (Bg hg hx3))) (ci (gI ((bif (Q140 a0 x1) then true else(!x2))==false)) (c1 (J1 (bif (Q140 a0 x1) then true else(!x2))))))))))))))))))))))))) ?_;refine gC h ?_ ?_<;>intro h
 ·refine Af hq [2] [] ?_;obtain rfl:=OI h;exact Cf []
 ·refine Af hq Kn [1] ?_;obtain⟨x28,hx28,h⟩:=bind_some h;refine gL hq hx28 Kn [1] (fun u i4=>(Eu u [(3,(Z7 i4))] [])) (fun u x_=>match x_ with|(.inl _)=>aG Γ (.exit 0) (⟨[],[],[]⟩:St)|(.inr r_)=>aR (Nt Γ a0 r_)) ?_ ?_
  ·intro i4 y h;unfold Ee at h;refine Af hq [1,3,46] [1] ?_;refine gC h ?_ ?_<;>intro h
   ·obtain⟨hc5,h⟩:=Aa h;refine gR hq Ko P1 [] [] (c1 hc5) ?_;refine Af hq Ln P1 ?_;obtain⟨x12,hx12,h⟩:=bind_some h;refine gL hq hx12 Ln P1 (fun u i6=>(Eu u [(5,(Z7 i6))] [])) (fun u x_=>match x_ with|(.inl _)=>aG Γ (.exit 2) (Oz Ko P1 u [] [])|(.inr r_)=>aR (Nt Γ a0 r_)) ?_ ?_
    ·intro i6 y h;unfold Fu at h;refine Af hq [1,3,4,5,58] P1 ?_;refine gC h ?_ ?_<;>intro h
     ·obtain⟨hc7,h⟩:=Aa h;refine gR hq Qz [1,4,6] [] [] (c1 hc7) ?_;obtain⟨x8,hx8,h⟩:=bind_some h;obtain⟨x9,hx9,h⟩:=bind_some h;obtain⟨x10,hx10,h⟩:=bind_some h;obtain⟨x11,hx11,h⟩:=bind_some h;refine gR hq [1,3,4,5,87] P1 [] [(Z2 x8),(Z2 x9),(Z2 x10),(Z2 x11)] (ci (Cw ((((Q136 a0 i4).Phis).getD i6.toNat default).Bits) x8 hx8) (ci (gI ((!x8)==false)) (ci (gI ((!x8)==false)) (ci (fun(hg:((!x8)==false)=true)=>(Cw ((((Q136 a0 i4).Phis).getD i6.toNat default).Dst) x9 (Bg hg hx9))) (ci (gI ((!x8)==false)) (ci (J1 (!x8)) (ci (gI ((Q138 x8 x9)==false)) (ci (gI ((Q138 x8 x9)==false)) (ci (fun(hg:((Q138 x8 x9)==false)=true)=>(Hw ((((Q136 a0 i4).Phis).getD i6.toNat default).From) x10 (Bg hg hx10))) (ci (gI ((Q138 x8 x9)==false)) (ci (J1 (Q138 x8 x9)) (ci (gI ((bif (Q138 x8 x9) then true else(!x10))==false)) (ci (gI ((bif (Q138 x8 x9) then true else(!x10))==false)) (ci (fun(hg:((bif (Q138 x8 x9) then true else(!x10))==false)=true)=>(Hw ((((Q136 a0 i4).Phis).getD i6.toNat default).Args) x11 (Bg hg hx11))) (ci (gI ((bif (Q138 x8 x9) then true else(!x10))==false)) (c1 (J1 (bif (Q138 x8 x9) then true else(!x10))))))))))))))))))) ?_;refine gC h ?_ ?_<;>intro h
      ·refine Af hq [2] [] ?_;cases h;exact gO (L0 (J7 [] (Le.refl _ _)))
      ·refine Af hq Ln P1 ?_;cases h;exact gN Cr
     ·cases h;exact gO (Bk (B2 Ko P1 hq))
    ·clear hx12;rcases x12 with _|r27
     ·refine gA ?_;refine Af hq [1,3,4,7] P1 ?_;obtain⟨x21,hx21,h⟩:=bind_some h;refine gL hq hx21 [1,3,4,7] P1 (fun u i14=>(Eu u [(7,(Z7 i14))] [])) (fun u x_=>match x_ with|(.inl _)=>aG Γ (.exit 4) (Oz Ko P1 u [] [])|(.inr r_)=>aR (Nt Γ a0 r_)) ?_ ?_
      ·intro i14 y h;unfold Fv at h;refine Af hq [1,3,4,7,92] P1 ?_;refine gC h ?_ ?_<;>intro h
       ·obtain⟨hc15,h⟩:=Aa h;refine gR hq [1,3,4,7,8] [1,4,8] [] [] (c1 hc15) ?_;obtain⟨x16,hx16,h⟩:=bind_some h;obtain⟨x17,hx17,h⟩:=bind_some h;obtain⟨x18,hx18,h⟩:=bind_some h;obtain⟨x19,hx19,h⟩:=bind_some h;obtain⟨x20,hx20,h⟩:=bind_some h;refine gR hq [1,3,4,7,127] P1 [] [(Z2 x16),(Z2 x17),(Z2 x18),(Z2 x19),(Z2 x20)] (ci (Cw ((Q141 a0 i4 i14).Kind) x16 hx16) (ci (gI ((!x16)==false)) (ci (gI ((!x16)==false)) (ci (fun(hg:((!x16)==false)=true)=>(Cw ((Q141 a0 i4 i14).Bits) x17 (Bg hg hx17))) (ci (gI ((!x16)==false)) (ci (J1 (!x16)) (ci (gI ((bif (!x16) then true else(!x17))==false)) (ci (gI ((bif (!x16) then true else(!x17))==false)) (ci (fun(hg:((bif (!x16) then true else(!x17))==false)=true)=>(Cw ((Q141 a0 i4 i14).Lanes) x18 (Bg hg hx18))) (ci (gI ((bif (!x16) then true else(!x17))==false)) (ci (J1 (bif (!x16) then true else(!x17))) (ci (gI ((Q135 x16 x17 x18)==false)) (ci (gI ((Q135 x16 x17 x18)==false)) (ci (fun(hg:((Q135 x16 x17 x18)==false)=true)=>(Cw ((Q141 a0 i4 i14).Dst) x19 (Bg hg hx19))) (ci (gI ((Q135 x16 x17 x18)==false)) (ci (J1 (Q135 x16 x17 x18)) (ci (gI ((bif (Q135 x16 x17 x18) then true else(!x19))==false)) (ci (gI ((bif (Q135 x16 x17 x18) then true else(!x19))==false)) (ci (fun(hg:((bif (Q135 x16 x17 x18) then true else(!x19))==false)=true)=>(Hw ((Q141 a0 i4 i14).Args) x20 (Bg hg hx20))) (ci (gI ((bif (Q135 x16 x17 x18) then true else(!x19))==false)) (c1 (J1 (bif (Q135 x16 x17 x18) then true else(!x19)))))))))))))))))))))))) ?_;refine gC h ?_ ?_<;>intro h
        ·refine Af hq [2] [] ?_;cases h;exact gO (L0 (J7 [] (Le.refl _ _)))
        ·refine Af hq [1,3,4,7] P1 ?_;cases h;exact gN Cr
       ·cases h;exact gO (Bk (B2 Ko P1 hq))
      ·clear hx21;rcases x21 with _|r26
       ·refine gA ?_;obtain⟨x23,hx23,h⟩:=bind_some h;obtain⟨x24,hx24,h⟩:=bind_some h;obtain⟨x25,hx25,h⟩:=bind_some h;refine gR hq [1,3,146] [1] [] [(Z2 x23),(Z2 x24),(Z2 x25)] (ci (Cw ((Q136 a0 i4).End.Kind) x23 hx23) (ci (gI ((!x23)==false)) (ci (gI ((!x23)==false)) (ci (gI ((!x23)==false)) (ci (fun(hg:((!x23)==false)=true)=>(Cw ((Q136 a0 i4).End.Arg) x24 (Bg hg hx24))) (ci (gI ((!x23)==false)) (ci (J1 (!x23)) (ci (gI (Q139 x23 x24)) (ci (gI (Q139 x23 x24)) (ci (gI (Q139 x23 x24)) (ci (fun(hg:(Q139 x23 x24)=true)=>(Hw ((Q136 a0 i4).End.To) x25 (Bg hg hx25))) (ci (gI (Q139 x23 x24)) (c1 (J1 (bif (!x23) then true else(!x24)))))))))))))))) ?_;refine gC h ?_ ?_<;>intro h
        ·refine Af hq [2] [] ?_;cases h;exact gO (L0 (J7 [] (Le.refl _ _)))
        ·refine Af hq Kn [1] ?_;cases h;exact gN Cr
       ·refine N2 (fun st' hk=>?_);cases h;exact gO (L0 hk)
     ·refine N2 (fun st' hk=>?_);cases h;exact gO (L0 hk)
   ·cases h;exact gO (Bk (B2 [] [] hq))
  ·clear hx28;rcases x28 with _|r30
   ·refine gA ?_;refine Af hq [2] [] ?_;obtain rfl:=OI h;exact Cf []
   ·refine N2 (fun st' hk=>?_);obtain rfl:=OI h;exact gK hk
def B5(aV:List Int)(aL:Int):Int->Option (LR Int (Unit ⊕ Bool)):=
 fun(i1:Int)=>(bif (decide (i1<(aV.length:Int))) then(A6 (A2 i1 aV.length) (bif (((aV.getD i1.toNat 0):Int)==aL) then(some (.done (.inr true))) else(some (.next (w64 (i1+1)))))) else(some (.done (.inl ()))))
def Aad(Γ:Iw)(aV:List Int)(aL:Int)(r:Bool):Exit->St->Prop:=fK Tryz.prog Γ Tryz.f56.results.toList [] (.bool r) []
def F3(aV:List Int)(aL:Int):Option Bool:=
 ((Ah (B5 aV aL) (0:Int)).bind (fun x3=>(match x3 with|(.inl _)=>(some false)|(.inr r5)=>(some r5))))
theorem My(aV:List Int)(aL:Int)(r:Bool)(h:F3 aV aL=some r):Spec Tryz.prog 56 [(Z8 aV),(Z7 aL)] [] (.bool r) []:=by
 refine Ac mix Tryz.func56 (fun Γ hq=>?_);unfold F3 at h;refine Af hq Jy [] ?_;refine Af hq Ow [] ?_;obtain⟨x3,hx3,h⟩:=bind_some h;refine gL hq hx3 Ow [] (fun u i1=>(Eu u [(5,(Z7 i1))] [])) (fun u x_=>match x_ with|(.inl _)=>aG Γ (.exit 0) (⟨[],[],[]⟩:St)|(.inr r_)=>aR (Aad Γ aV aL r_)) ?_ ?_
 ·intro i1 y h;unfold B5 at h;refine Af hq [0,1,5,9] [] ?_;refine gC h ?_ ?_<;>intro h
  ·obtain⟨hc2,h⟩:=Aa h;refine gR hq [0,1,5,17] [] [] [] (c1 hc2) ?_;refine gC h ?_ ?_<;>intro h
   ·refine Af hq [4] [] ?_;cases h;exact gO (L0 (J7 [] (Le.refl _ _)))
   ·refine Af hq Ow [] ?_;cases h;exact gN Cr
  ·cases h;exact gO (Bk (B2 [] [] hq))
 ·clear hx3;rcases x3 with _|r5
  ·refine gA ?_;refine Af hq [4] [] ?_;obtain rfl:=OI h;exact Cf []
  ·refine N2 (fun st' hk=>?_);obtain rfl:=OI h;exact gK hk
def Bu(a5:List (List Int))(i1:Int):Int->Option (LR Int (Unit ⊕ (TGraph×Int))):=
 fun(i2:Int)=>(A6 (A2 i1 a5.length) (bif (decide (i2<((a5.getD i1.toNat []).length:Int))) then(A6 (A2 i1 a5.length) (A6 (A2 i2 (a5.getD i1.toNat []).length) (A6 (((decide ((((a5.getD i1.toNat []).getD i2.toNat 0):Int)<0))==false)=true->(A2 i1 a5.length)) (A6 (((decide ((((a5.getD i1.toNat []).getD i2.toNat 0):Int)<0))==false)=true->(A2 i2 (a5.getD i1.toNat []).length)) (A6 ((((bif (decide ((((a5.getD i1.toNat []).getD i2.toNat 0):Int)<0)) then true else(decide (((a5.length:Int):Int)<=((a5.getD i1.toNat []).getD i2.toNat 0))))==false)&&((decide (((0:Int):Int)<i2))==true))=true->(A2 i1 a5.length)) (A6 ((((bif (decide ((((a5.getD i1.toNat []).getD i2.toNat 0):Int)<0)) then true else(decide (((a5.length:Int):Int)<=((a5.getD i1.toNat []).getD i2.toNat 0))))==false)&&((decide (((0:Int):Int)<i2))==true))=true->(A2 i2 (a5.getD i1.toNat []).length)) (A6 ((((bif (decide ((((a5.getD i1.toNat []).getD i2.toNat 0):Int)<0)) then true else(decide (((a5.length:Int):Int)<=((a5.getD i1.toNat []).getD i2.toNat 0))))==false)&&((decide (((0:Int):Int)<i2))==true))=true->(A2 i1 a5.length)) (A6 ((((bif (decide ((((a5.getD i1.toNat []).getD i2.toNat 0):Int)<0)) then true else(decide (((a5.length:Int):Int)<=((a5.getD i1.toNat []).getD i2.toNat 0))))==false)&&((decide (((0:Int):Int)<i2))==true))=true->(A2 (w64 (i2-1)) (a5.getD i1.toNat []).length)) (bif (bif (bif (decide ((((a5.getD i1.toNat []).getD i2.toNat 0):Int)<0)) then true else(decide (((a5.length:Int):Int)<=((a5.getD i1.toNat []).getD i2.toNat 0)))) then true else(bif (decide (((0:Int):Int)<i2)) then(decide ((((a5.getD i1.toNat []).getD i2.toNat 0):Int)<=((a5.getD i1.toNat []).getD (w64 (i2-1)).toNat (0:Int)))) else false)) then(some (.done (.inr ((⟨([]:List (List Int)),([]:List (List Int))⟩:TGraph),(5:Int))))) else(some (.next (w64 (i2+1))))))))))))) else(some (.done (.inl ())))))
def Bv(a5:List (List Int)):Int->Option (LR Int (Unit ⊕ (TGraph×Int))):=
 fun(i1:Int)=>(bif (decide (i1<(a5.length:Int))) then((Ah (Bu a5 i1) (0:Int)).bind (fun x12=>(match x12 with|(.inl _)=>(some (.next (w64 (i1+1))))|(.inr r14)=>(some (.done (.inr r14)))))) else(some (.done (.inl ()))))
def C8(a5:List (List Int))(i18:Int):(Int×List (List Int))->Option (LR (Int×List (List Int)) (List (List Int))):=
 fun((i21,l22):(Int×List (List Int)))=>(bif (decide (i21<(a5.length:Int))) then(Option.bind (α:=List (List Int)) (A6 (A2 i21 a5.length) ((F3 (a5.getD i21.toNat []) i18).bind fun x26=>(bif x26 then(A6 (A2 i18 l22.length) (A6 (A2 i18 l22.length) (A6 ((l22.getD i18.toNat []).length+([i21]:List Int).length<=room) (A6 (A2 i18 l22.length) (some (l22.set i18.toNat ((l22.getD i18.toNat [])++([i21]:List Int)))))))) else(some l22)))) (fun x31=>(some (.next ((w64 (i21+1)),x31))))) else(some (.done l22)))
def B8(a5:List (List Int)):(Int×List (List Int))->Option (LR (Int×List (List Int)) (List (List Int))):=
 fun((i18,l19):(Int×List (List Int)))=>(bif (decide (i18<(a5.length:Int))) then((Ah (C8 a5 i18) ((0:Int),l19)).bind (fun x33=>(some (.next ((w64 (i18+1)),x33))))) else(some (.done l19)))
def Qj(Γ:Iw)(a5:List (List Int))(r:(TGraph×Int)):Exit->St->Prop:=fK Tryz.prog Γ Tryz.f57.results.toList [] (.tuple [(Z61 r.1),(Z7 r.2)]) []
def Ua(a5:List (List Int)):AV:=(Z20 a5)
def Q151(a5:List (List Int)):AV:=(Z54 a5.length)
def Q143(a5:List (List Int))(i1:Int)(i2:Int):=((bif (decide ((((a5.getD i1.toNat []).getD i2.toNat 0):Int)<0)) then true else(decide (((a5.length:Int):Int)<=((a5.getD i1.toNat []).getD i2.toNat 0))))==false)
def Q148(i2:Int):=((decide (((0:Int):Int)<i2))==true)
def Aae(a5:List (List Int))(i1:Int)(i2:Int):=((Q143 a5 i1 i2)&&(Q148 i2))
def Q152:List (Nat×AV):=[Ra,(3,(.int .i64 (5:Int)))]
def Q149(l22:List (List Int))(i18:Int)(i21:Int):=((l22.getD i18.toNat [])++([i21]:List Int))
def Q153:AV:=Z70
def Q150(a5:List (List Int)):=(List.replicate (a5.length:Int).toNat ([]:List Int))
def Q145:List AV:=[Z43,Z43]
def Q156(a5:List (List Int)):List (Nat×AV):=[(0,(Ua a5)),Ra,(4,(Q151 a5)),(7,(.ptr 7 0))]
def Q147(a5:List (List Int))(i1:Int)(i2:Int):=((decide ((((a5.getD i1.toNat []).getD i2.toNat 0):Int)<0))==false)
def Q144:List AV:=[Z42,Z42]
def Q155(a5:List (List Int))(i18:Int)(i21:Int):List (Nat×AV):=[(0,(Ua a5)),Ra,(4,(Q151 a5)),(7,(.ptr 7 0)),(8,(Z7 i18)),(9,(Z7 i21))]
def Gw(a5:List (List Int)):Option (TGraph×Int):=
 (bif (bif (((a5.length:Int):Int)==0) then true else(decide (((64:Int):Int)<(a5.length:Int)))) then(some ((⟨([]:List (List Int)),([]:List (List Int))⟩:TGraph),(5:Int))) else((Ah (Bv a5) (0:Int)).bind (fun x15=>(match x15 with|(.inl _)=>(A6 (0<=(a5.length:Int)/\(a5.length:Int)<=(a5.length:Int)/\(a5.length:Int)<=(room:Int)) ((Ah (B8 a5) ((0:Int),(List.replicate (a5.length:Int).toNat ([]:List Int)))).bind (fun x35=>(some ((⟨a5,x35⟩:TGraph),(0:Int))))))|(.inr r37)=>(some r37)))))
theorem Pt(a5:List (List Int))(r:(TGraph×Int))(h:Gw a5=some r):Spec Tryz.prog 57 [(Z20 a5)] [] (.tuple [(Z61 r.1),(Z7 r.2)]) []:=by
 refine Ac mix Tryz.func57 (fun Γ hq=>?_);have hΓ:=hq.own;unfold Gw at h;refine Af hq [0,2] [2] ?_;refine Af hq [0,2,4] [2] ?_;refine gR hq [0,2,4,17] [2] [] [] (ci (gI ((((a5.length:Int):Int)==0)==false)) (c1 (J1 (((a5.length:Int):Int)==0)))) ?_;refine gC h ?_ ?_<;>intro h
 ·refine gR hq F5 [2] [(18,(.agg Q144))] [] (c1 (show(AVle (.agg Q145) (.agg Q144)) from(AVle.agg (.cons Hg (.cons Hg .nil))))) ?_;refine Ri (⟨Q152,[(M6 41 Q144)],[]⟩:St) ?_;cases h;exact gK (e:=.ret) (J7 [] (show Le Γ _ (⟨Q152,[(Z66 Q153)],[]⟩:St) from Le.trans (B2 (st':=⟨Q152,[(M6 41 Q144)],[]⟩) F5 [2] hq) (Jo (.cons (AVle.refl _) (.cons (AVle.refl _) .nil)) (.row (.cons AVle.untag (.cons AVle.untag .nil)) .nil))))
 ·refine Af hq zzN144 [2] ?_;obtain⟨x15,hx15,h⟩:=bind_some h;refine gL hq hx15 zzN144 [2] (fun u i1=>(Eu u [(5,(Z7 i1))] [])) (fun u x_=>match x_ with|(.inl _)=>aG Γ (.exit 0) (Oz [0,2,4] [2] u [] [])|(.inr r_)=>aR (Qj Γ a5 r_)) ?_ ?_
  ·intro i1 y h;unfold Bv at h;refine Af hq [0,2,4,5,21] [2] ?_;refine gC h ?_ ?_<;>intro h
   ·refine Af hq zzN179 [2] ?_;obtain⟨x12,hx12,h⟩:=bind_some h;refine gL hq hx12 zzN179 [2] (fun u i2=>(Eu u [(6,(Z7 i2))] [])) (fun u x_=>match x_ with|(.inl _)=>aG Γ (.exit 2) (Oz zzN144 [2] u [] [])|(.inr r_)=>aR (Qj Γ a5 r_)) ?_ ?_
    ·intro i2 y h;unfold Bu at h;obtain⟨hc3,h⟩:=Aa h;refine gR hq [0,2,4,5,6,30] [2] [] [] (c1 hc3) ?_;refine gC h ?_ ?_<;>intro h
     ·obtain⟨hc4,h⟩:=Aa h;obtain⟨hc5,h⟩:=Aa h;obtain⟨hc6,h⟩:=Aa h;obtain⟨hc7,h⟩:=Aa h;obtain⟨hc8,h⟩:=Aa h;obtain⟨hc9,h⟩:=Aa h;obtain⟨hc10,h⟩:=Aa h;obtain⟨hc11,h⟩:=Aa h;refine gR hq [0,2,4,5,6,73] [2] [] [] (ci hc4 (ci hc5 (ci (gI (Q147 a5 i1 i2)) (ci (gI (Q147 a5 i1 i2)) (ci hc6 (ci (gI (Q147 a5 i1 i2)) (ci (gI (Q147 a5 i1 i2)) (ci (gI (Q147 a5 i1 i2)) (ci hc7 (ci (gI (Q147 a5 i1 i2)) (ci (gI (Q147 a5 i1 i2)) (ci (gI (Q147 a5 i1 i2)) (ci (J1 (decide ((((a5.getD i1.toNat []).getD i2.toNat 0):Int)<0))) (ci (gI (Q143 a5 i1 i2)) (ci (gI (Q143 a5 i1 i2)) (ci (gI (Aae a5 i1 i2)) (ci (gI (Aae a5 i1 i2)) (ci hc8 (ci (gI (Aae a5 i1 i2)) (ci (gI (Aae a5 i1 i2)) (ci (gI (Aae a5 i1 i2)) (ci hc9 (ci (gI (Aae a5 i1 i2)) (ci (gI (Aae a5 i1 i2)) (ci (gI (Aae a5 i1 i2)) (ci hc10 (ci (gI (Aae a5 i1 i2)) (ci (gI (Aae a5 i1 i2)) (ci (gI (Aae a5 i1 i2)) (ci (gI (Aae a5 i1 i2)) (ci hc11 (ci (gI (Aae a5 i1 i2)) (ci (gI (Aae a5 i1 i2)) (ci (gI (Aae a5 i1 i2)) (ci (gI (Q143 a5 i1 i2)) (ci (show((Q143 a5 i1 i2)=true->((decide (((0:Int):Int)<i2))=true->(Aae a5 i1 i2)=true)) from(fun hg=>(aT hg))) (c1 (J1 (bif (decide ((((a5.getD i1.toNat []).getD i2.toNat 0):Int)<0)) then true else(decide (((a5.length:Int):Int)<=((a5.getD i1.toNat []).getD i2.toNat 0)))))))))))))))))))))))))))))))))))))))))) ?_;refine gC h ?_ ?_<;>intro h
      ·refine gR hq F5 [2] [(74,(.agg Q144))] [] (c1 (show(AVle (.agg Q145) (.agg Q144)) from(AVle.agg (.cons Hg (.cons Hg .nil))))) ?_;refine Ri (⟨Q152,[(M6 41 Q144)],[]⟩:St) ?_;cases h;exact gO (L0 (J7 [] (show Le Γ _ (⟨Q152,[(Z66 Q153)],[]⟩:St) from Le.trans (B2 (st':=⟨Q152,[(M6 41 Q144)],[]⟩) F5 [2] hq) (Jo (.cons (AVle.refl _) (.cons (AVle.refl _) .nil)) (.row (.cons AVle.untag (.cons AVle.untag .nil)) .nil)))))
      ·refine Af hq zzN179 [2] ?_;cases h;exact gN Cr
     ·cases h;exact gO (Bk (B2 zzN144 [2] hq))
    ·clear hx12;rcases x12 with _|r14
     ·refine gA ?_;refine Af hq zzN144 [2] ?_;cases h;exact gN Cr
     ·refine N2 (fun st' hk=>?_);cases h;exact gO (L0 hk)
   ·cases h;exact gO (Bk (B2 [0,2,4] [2] hq))
  ·clear hx15;rcases x15 with _|r37
   ·refine gA ?_;obtain⟨hc17,h⟩:=Aa h;refine gR hq [0,2,4,7] [2,7,77] [] [] (c1 hc17) ?_;refine Ri (⟨(Q156 a5),[(M6 41 Q145),(7,.row 41 [(Ua a5),(.vsl 77 (a5.length:Int).toNat)]),(77,.arr 1 22 ((a5.length:Int).toNat) (fun i_=>AV.eraseAll (fun n_=>D5 n_ [2,7,77]) ((fun _=>[Z43]) i_)))],[]⟩:St) ?_;refine Or (Le.trans (Jo (st':=⟨(Q156 a5),[(M6 41 Q145),(7,.row 41 [(Ua a5),(.vsl 77 (a5.length:Int).toNat)]),(77,.arr 1 22 ((a5.length:Int).toNat) (M1 1 Au (0:Int) (Q150 a5) (fun _=>.exact)))],[]⟩) (TmpsLe.refl _) (.same (.same (.arr fam_zero .nil)))) (Le.trans (Le.trans (le_birth (r:=77) (b:=70077) Au (0:Int) (Q150 a5) 3 rfl rfl (Rj ..).symm (fun h_=>absurd h_ (by decide))) (J5 (st':=⟨(Q156 a5),[(M6 41 Q145),(7,.row 41 [(Ua a5),(.vsl 77 (a5.length:Int).toNat)]),(77,.arr 1 22 ((a5.length:Int).toNat) (M1 1 Au (0:Int) (Q150 a5) (Tag.fam 70077)))],[(70077,⟨1,3,Mh (Q150 a5)⟩)]⟩) (by kernel_rfl))) (J5 (Cq (fun k_:Nat=>(⟨(Q156 a5),[(M6 41 Q145),(Z53 (Ua a5) k_),(Z10 77 k_ (Q150 a5) 70077)],[(70077,⟨1,3,Mh (Q150 a5)⟩)]⟩:St)) (show(a5.length:Int).toNat=(Q150 a5).length from(Rj ..).symm))))) ?_;refine Af hq zzN105 Tg ?_;obtain⟨x35,hx35,h⟩:=bind_some h;refine gL hq hx35 zzN105 Tg (fun u (i18,l19)=>(Eu u [(8,(Z7 i18))] [(Z53 (Ua a5) l19.length),(Z10 77 l19.length l19 70077)] [(70077,⟨1,3,Mh l19⟩)])) (fun u l20=>aG Γ (.exit 4) (Oz [2,7] Tg u [] [(Z53 (Ua a5) l20.length),(Z10 77 l20.length l20 70077)] [(70077,⟨1,3,Mh l20⟩)])) ?_ ?_
    ·rintro⟨i18,l19⟩ y h;unfold B8 at h;refine Af hq [0,2,4,7,8,81] Tg ?_;refine gC h ?_ ?_<;>intro h
     ·refine Af hq zzN90 Tg ?_;obtain⟨x33,hx33,h⟩:=bind_some h;refine gL hq hx33 zzN90 Tg (fun u (i21,l22)=>(Eu u [(9,(Z7 i21))] [(Z53 (Ua a5) l22.length),(Z10 77 l22.length l22 70077)] [(70077,⟨1,3,Mh l22⟩)])) (fun u l23=>aG Γ (.exit 6) (Oz zzN105 Tg u [] [(Z53 (Ua a5) l23.length),(Z10 77 l23.length l23 70077)] [(70077,⟨1,3,Mh l23⟩)])) ?_ ?_
      ·rintro⟨i21,l22⟩ y h;unfold C8 at h;refine Af hq [0,2,4,7,8,9,86] Tg ?_;refine gC h ?_ ?_<;>intro h
       ·obtain⟨x31,hx31,h⟩:=bind_some h;refine gJ hx31 (fun l24=>aG Γ .normal (⟨(Q155 a5 i18 i21),[(M6 41 Q145),(Z53 (Ua a5) l24.length),(Z10 77 l24.length l24 70077)],[(70077,⟨1,3,Mh l24⟩)]⟩:St)) ?_ ?_
        ·clear h hx31;intro y h;obtain⟨hc25,h⟩:=Aa h;obtain⟨x26,hx26,h⟩:=bind_some h;refine gR hq [0,2,4,7,8,9,94] Tg [] [(Z2 x26)] (ci hc25 (c1 (My (a5.getD i21.toNat []) i18 x26 hx26))) ?_;refine gC h ?_ ?_<;>intro h
         ·refine Ri (⟨[(0,(Ua a5)),Ra,(4,(Q151 a5)),(7,(.ptr 7 0)),(8,(Z7 i18)),(9,(Z7 i21)),(94,(.bool x26))],[(M6 41 Q145),(Z53 (Ua a5) l22.length),(Z10 77 l22.length l22 70077)],[(70077,⟨1,3,Mh l22⟩)]⟩:St) ?_;obtain⟨hc27,h⟩:=Aa h;obtain⟨hc28,h⟩:=Aa h;obtain⟨hc29,h⟩:=Aa h;obtain⟨hc30,h⟩:=Aa h;refine Or (Le.trans (le_take (r:=77) (b:=70077) (k:=60077) Au (0:Int) l22 i18.toNat 3 rfl rfl rfl rfl (O8 hc27) (by kernel_rfl) (.row (by kernel_rfl) (.row (by kernel_rfl) (.here .nil)))) (J5 (st':=⟨[(0,(Ua a5)),Ra,(4,(Q151 a5)),(7,(.ptr 7 0)),(8,(Z7 i18)),(9,(Z7 i21)),(94,(.bool x26))],[(M6 41 Q145),(Z53 (Ua a5) l22.length),(77,.arr 1 22 l22.length (M1 1 Au (0:Int) l22 (H0 70077 i18.toNat 60077))),(60077,.tok 1 3 ((l22.getD i18.toNat []).length))],[(70077,⟨1,3,X2 l22 i18.toNat⟩)]⟩) (by kernel_rfl))) ?_;refine gR hq zzN90 zzN170 [(102,(AV.list 1 Au 0 (l22.getD i18.toNat []) (.own 60077))),(104,(Z26 i21)),(105,(Z13 (Q149 l22 i18 i21) 60077))] [] (ci hc28 (ci (Eq.refl l22.length) (ci (show(AVle (((M1 1 Au (0:Int) l22 (H0 70077 i18.toNat 60077)) i18.toNat).getD 0 .any) (AV.list 1 Au 0 (l22.getD i18.toNat []) (.own 60077))) from av_famtag) (ci (Bx 1 Au (0:Int) ([i21]:List Int)) (ci (Eq.refl ((l22.getD i18.toNat []).length)) (ci hc29 (ci (Ix 1 60077 Au (0:Int) (l22.getD i18.toNat []) ([i21]:List Int)) (ci (Fe (l22.getD i18.toNat []) ([i21]:List Int)) (ci hc30 (c1 (Eq.refl l22.length))))))))))) ?_;refine Ri (⟨(Q155 a5 i18 i21),[(M6 41 Q145),(Z53 (Ua a5) l22.length),(77,.arr 1 22 l22.length (fun i_=>AV.eraseAll (fun n_=>D5 n_ zzN170) ((G5 (M1 1 Au (0:Int) l22 (H0 70077 i18.toNat 60077)) i18.toNat 0 [(Z13 (Q149 l22 i18 i21) 60077)]) i_))),(60077,.tok 1 3 ((Q149 l22 i18 i21).length))],[(70077,⟨1,3,X2 l22 i18.toNat⟩)]⟩:St) ?_;cases h;exact gK (Bk (Le.trans (Le.trans (Le.trans (le_put (r:=77) (b:=70077) (k:=60077) Au (0:Int) l22 i18.toNat (Q149 l22 i18 i21) 3 rfl (putF_fam (O8 hc27) rfl rfl) rfl rfl rfl rfl (O8 hc27) (by kernel_rfl) (.row (by kernel_rfl) (.row (by kernel_rfl) (.here (.tok .nil)))) (by rw[hΓ];rfl)) (J5 (st':=⟨(Q155 a5 i18 i21),[(M6 41 Q145),(Z53 (Ua a5) l22.length),(77,.arr 1 22 l22.length (M1 1 Au (0:Int) (l22.set i18.toNat (Q149 l22 i18 i21)) (Tag.fam 70077)))],[(70077,⟨1,3,Mh (l22.set i18.toNat (Q149 l22 i18 i21))⟩)]⟩) (by kernel_rfl))) (J5 (Cq (fun k_:Nat=>(⟨(Q155 a5 i18 i21),[(M6 41 Q145),(Z53 (Ua a5) k_),(77,.arr 1 22 k_ (M1 1 Au (0:Int) (l22.set i18.toNat (Q149 l22 i18 i21)) (Tag.fam 70077)))],[(70077,⟨1,3,Mh (l22.set i18.toNat (Q149 l22 i18 i21))⟩)]⟩:St)) (show l22.length=(l22.set i18.toNat (Q149 l22 i18 i21)).length from(Hb ..).symm)))) Cr))
         ·obtain rfl:=OI h;exact gK (Bk (B2 zzN90 Tg hq))
        ·clear hx31;refine gA ?_;refine Af hq zzN90 Tg ?_;cases h;exact gN Cr
       ·cases h;exact gO (Bk (B2 zzN105 Tg hq))
      ·clear hx33;refine gA ?_;refine Af hq zzN105 Tg ?_;cases h;exact gN Cr
     ·cases h;exact gO (Bk (B2 [2,7] Tg hq))
    ·clear hx35;refine gA ?_;refine Af hq F5 [2,77,70077] ?_;refine Ri (⟨[Ra,(3,Pq)],[(2,.row 41 [(Ua a5),(.vsl 77 x35.length)]),(Z10 77 x35.length x35 70077)],[(70077,⟨1,3,Mh x35⟩)]⟩:St) ?_;cases h;exact gK (e:=.ret) (J7 [] (Le.trans (J9 (nm:=77) (sz:=1) (n:=x35.length) (e:=22) (f:=(M1 1 Au (0:Int) x35 (Tag.fam 70077))) (g:=(fun i=>Kg (x35.getD i []))) rfl ⟨rfl,trivial⟩ (fun _ _=>rfl) (by rw[hΓ];rfl)) (B2 (st':=⟨[Ra,(3,Pq)],[(2,.row 41 [(Ua a5),(Z50 x35 77)]),(77,.tok 1 22 x35.length)],[]⟩) F5 [2,77] hq)))
   ·refine N2 (fun st' hk=>?_);obtain rfl:=OI h;exact gK hk
def Cc(a0:TFunc)(i2:Int):Int->Option (LR Int (Unit ⊕ (TGraph×Int))):=
 fun(i6:Int)=>(bif (decide (i6<(((a0.Blocks.getD i2.toNat default).End.To).length:Int))) then(A6 (A2 i6 ((a0.Blocks.getD i2.toNat default).End.To).length) (A6 (((decide (((((a0.Blocks.getD i2.toNat default).End.To).getD i6.toNat 0):Int)<=0))==false)=true->(A2 i6 ((a0.Blocks.getD i2.toNat default).End.To).length)) (bif (bif (decide (((((a0.Blocks.getD i2.toNat default).End.To).getD i6.toNat 0):Int)<=0)) then true else(decide (((a0.Blocks.length:Int):Int)<=(((a0.Blocks.getD i2.toNat default).End.To).getD i6.toNat 0)))) then(some (.done (.inr ((⟨([]:List (List Int)),([]:List (List Int))⟩:TGraph),(5:Int))))) else(some (.next (w64 (i6+1))))))) else(some (.done (.inl ()))))
def Cd(a0:TFunc)(i2:Int):(List Int×Int)->Option (LR (List Int×Int) (List Int)):=
 fun((l11,i12):(List Int×Int))=>(bif (decide (i12<(a0.Blocks.length:Int))) then(Option.bind (α:=List Int) ((F3 ((a0.Blocks.getD i2.toNat default).End.To) i12).bind fun x15=>(bif x15 then(A6 (l11.length+([i12]:List Int).length<=room) (some (l11++([i12]:List Int)))) else(some l11))) (fun x17=>(some (.next (x17,(w64 (i12+1))))))) else(some (.done l11)))
def Ce(a0:TFunc):(List (List Int)×Int)->Option (LR (List (List Int)×Int) (List (List Int) ⊕ (TGraph×Int))):=
 fun((l1,i2):(List (List Int)×Int))=>(bif (decide (i2<(a0.Blocks.length:Int))) then(A6 (A2 i2 a0.Blocks.length) (A6 (((bif (decide (((a0.Blocks.getD i2.toNat default).End.Kind:Int)<0)) then true else(decide (((3:Int):Int)<(a0.Blocks.getD i2.toNat default).End.Kind)))==false)=true->(A2 (a0.Blocks.getD i2.toNat default).End.Kind ([(0:Int),(1:Int),(2:Int),(0:Int)]:List Int).length)) (bif (bif (bif (decide (((a0.Blocks.getD i2.toNat default).End.Kind:Int)<0)) then true else(decide (((3:Int):Int)<(a0.Blocks.getD i2.toNat default).End.Kind))) then true else(((((a0.Blocks.getD i2.toNat default).End.To).length:Int):Int)!=(([(0:Int),(1:Int),(2:Int),(0:Int)]:List Int).getD ((a0.Blocks.getD i2.toNat default).End.Kind).toNat (0:Int)))) then(some (.done (.inr ((⟨([]:List (List Int)),([]:List (List Int))⟩:TGraph),(5:Int))))) else((Ah (Cc a0 i2) (0:Int)).bind (fun x9=>(match x9 with|(.inl _)=>((Ah (Cd a0 i2) (([]:List Int),(1:Int))).bind (fun x19=>(A6 (l1.length+([x19]:List (List Int)).length<=room) (some (.next ((l1++([x19]:List (List Int))),(w64 (i2+1))))))))|(.inr r22)=>(some (.done (.inr r22))))))))) else(some (.done (.inl l1))))
def R4(Γ:Iw)(a0:TFunc)(r:(TGraph×Int)):Exit->St->Prop:=fK Tryz.prog Γ Tryz.f28.results.toList [] (.tuple [(Z61 r.1),(Z7 r.2)]) []
def Q167:AV:=Z43
def Aaf(a0:TFunc)(i2:Int):=(a0.Blocks.getD i2.toNat default)
def Q158:AV:=Z42
def Q163:AV:=(.agg [Q167,Q167])
def Q164:=(⟨[Ra,(3,(.int .i64 (5:Int)))],[(Z66 Q158)],[]⟩:St)
def Q160(a0:TFunc)(i2:Int)(i6:Int):=(decide (((((Aaf a0 i2).End.To).getD i6.toNat 0):Int)<=0))
def Q166(a0:TFunc):List AV:=[(Z8 a0.Params),(Z7 a0.Ret),(Z16 a0.Blocks)]
def Q162:=(⟨[Ra,(3,(.int .i64 (5:Int)))],[(2,.row 41 [Z70,Z70])],[]⟩:St)
def Q157(a0:TFunc)(i2:Int):=(bif (decide (((Aaf a0 i2).End.Kind:Int)<0)) then true else(decide (((3:Int):Int)<(Aaf a0 i2).End.Kind)))
def Q161(a0:TFunc):=(⟨[Xo,Ra,(4,(Z54 a0.Blocks.length)),(5,(AV.list 1 Kg [] ([]:List (List Int)) (.own 5005))),(6,Pq)],[(1,.row 25 (Q166 a0)),(Z66 Q167),(5005,.tok 1 22 (([]:List (List Int)).length))],[]⟩:St)
def Q159(a0:TFunc)(l1:List (List Int))(i2:Int):=(⟨[Xo,Ra,(4,(Z54 a0.Blocks.length)),(5,(Z50 l1 5005)),(6,(Z7 i2)),(7,(.ptr 7 0)),(8,(AV.list 1 Au 0 ([]:List Int) (.own 5008))),(10,Z76)],[(1,.row 25 (Q166 a0)),(Z66 Q167),(7,.row 51 [(.int .i64 (Aaf a0 i2).End.Kind),(.int .i64 (Aaf a0 i2).End.Arg),(AV.list 1 Au 0 (Aaf a0 i2).End.To .none)]),(5005,.tok 1 22 l1.length),(5008,.tok 1 3 (([]:List Int).length))],[]⟩:St)
def Gn(a0:TFunc):Option (TGraph×Int):=
 (bif (bif (((a0.Blocks.length:Int):Int)==0) then true else(decide (((64:Int):Int)<(a0.Blocks.length:Int)))) then(some ((⟨([]:List (List Int)),([]:List (List Int))⟩:TGraph),(5:Int))) else((Ah (Ce a0) (([]:List (List Int)),(0:Int))).bind (fun x23=>(match x23 with|(.inl l3)=>((Gw l3).bind fun x25=>(some (x25.1,x25.2)))|(.inr r26)=>(some r26)))))
theorem Nx(a0:TFunc)(r:(TGraph×Int))(h:Gn a0=some r):Spec Tryz.prog 28 [(Z35 a0)] [] (.tuple [(Z61 r.1),(Z7 r.2)]) []:=by
 refine Ac mix Tryz.func28 (fun Γ hq=>?_);unfold Gn at h;refine Af hq M5 M5 ?_;refine Af hq [1,2,4] M5 ?_;refine gR hq [1,2,4,19] M5 [] [] (ci (gI ((((a0.Blocks.length:Int):Int)==0)==false)) (c1 (J1 (((a0.Blocks.length:Int):Int)==0)))) ?_;refine gC h ?_ ?_<;>intro h
 ·refine gR hq F5 [2] [(20,(.agg [Q158,Q158]))] [] (c1 (show(AVle Q163 (.agg [Q158,Q158])) from(AVle.agg (.cons Hg (.cons Hg .nil))))) ?_;refine Ri Q164 ?_;cases h;exact gK (e:=.ret) (J7 [] (show Le Γ _ Q162 from Le.trans (B2 (st':=Q164) F5 [2] hq) (Jo (.cons (AVle.refl _) (.cons (AVle.refl _) .nil)) (.row (.cons AVle.untag (.cons AVle.untag .nil)) .nil))))
 ·refine gR hq [1,2,4,5] M5 [(5,Q158)] [] (c1 (Dh 1 Kg [])) ?_;refine Af hq zzN91 M5 ?_;refine Or (st':=(Q161 a0)) (Le.trans (B2 (st':=⟨[Xo,Ra,(4,(Z54 a0.Blocks.length)),(5,Q158),(6,Pq)],[(1,.row 25 (Q166 a0)),(Z66 Q167)],[]⟩) zzN91 M5 hq) (Le.trans (Nw (t:=5) (nm:=5005) (sz':=1) (fun i=>Kg (([]:List (List Int)).getD i [])) 22 rfl rfl (.inl ⟨rfl,rfl⟩) (fun h_=>absurd h_ (by decide))) (B2 (st':=(Q161 a0)) zzN91 zzN145 hq))) ?_;obtain⟨x23,hx23,h⟩:=bind_some h;refine gL hq hx23 zzN91 zzN145 (fun u (l1,i2)=>(Eu u [(5,(Z50 l1 5005)),(6,(Z7 i2))] [(5005,.tok 1 22 l1.length)])) (fun u x_=>match x_ with|(.inl l3)=>aG Γ (.exit 0) (Oz T4 [2,5005] u [(5,(Z50 l3 5005))] [(5005,.tok 1 22 l3.length)])|(.inr r_)=>aR (R4 Γ a0 r_)) ?_ ?_
  ·rintro⟨l1,i2⟩ y h;unfold Ce at h;refine Af hq [1,2,4,5,6,23] zzN145 ?_;refine gC h ?_ ?_<;>intro h
   ·obtain⟨hc4,h⟩:=Aa h;refine gR hq [1,2,4,5,6,7] Wr [] [] (c1 hc4) ?_;obtain⟨hc5,h⟩:=Aa h;refine gR hq [1,2,4,5,6,7,50] Wr [(44,(AV.list 1 Au 0 ([(0:Int),(1:Int),(2:Int),(0:Int)]:List Int) .exact))] [] (ci (gI ((decide (((Aaf a0 i2).End.Kind:Int)<0))==false)) (ci (gI ((decide (((Aaf a0 i2).End.Kind:Int)<0))==false)) (ci (J1 (decide (((Aaf a0 i2).End.Kind:Int)<0))) (ci (gI ((Q157 a0 i2)==false)) (ci (gI ((Q157 a0 i2)==false)) (ci (show(((Q157 a0 i2)==false)=true->(AVle (.slice 1 4 (fun i=>([[Pq],[Z76],[(.int .i64 (2:Int))],[Pq]]:List (List AV)).getD i []) .exact) (AV.list 1 Au 0 ([(0:Int),(1:Int),(2:Int),(0:Int)]:List Int) .exact))) from(fun hg=>@(Bx 1 Au (0:Int) ([(0:Int),(1:Int),(2:Int),(0:Int)]:List Int)))) (ci (gI ((Q157 a0 i2)==false)) (ci (gI ((Q157 a0 i2)==false)) (ci (gI ((Q157 a0 i2)==false)) (ci hc5 (ci (gI ((Q157 a0 i2)==false)) (ci (gI ((Q157 a0 i2)==false)) (ci (gI ((Q157 a0 i2)==false)) (c1 (J1 (Q157 a0 i2)))))))))))))))) ?_;refine gC h ?_ ?_<;>intro h
    ·refine gR hq F5 [2] [(51,(.agg [Q158,Q158]))] [] (c1 (show(AVle Q163 (.agg [Q158,Q158])) from(AVle.agg (.cons Hg (.cons Hg .nil))))) ?_;refine Ri Q164 ?_;cases h;exact gO (L0 (J7 [] (show Le Γ _ Q162 from Le.trans (B2 (st':=Q164) F5 [2] hq) (Jo (.cons (AVle.refl _) (.cons (AVle.refl _) .nil)) (.row (.cons AVle.untag (.cons AVle.untag .nil)) .nil)))))
    ·refine gR hq zzN134 Wr [(8,Z25)] [] (c1 (Dh 1 Au (0:Int))) ?_;refine Af hq zzN118 Wr ?_;obtain⟨x9,hx9,h⟩:=bind_some h;refine gL hq hx9 zzN118 Wr (fun u i6=>(Eu u [(9,(Z7 i6))] [])) (fun u x_=>match x_ with|(.inl _)=>aG Γ (.exit 2) (Oz zzN134 Wr u [] [])|(.inr r_)=>aR (R4 Γ a0 r_)) ?_ ?_
     ·intro i6 y h;unfold Cc at h;refine Af hq [1,2,4,5,6,7,8,9,56] Wr ?_;refine gC h ?_ ?_<;>intro h
      ·obtain⟨hc7,h⟩:=Aa h;obtain⟨hc8,h⟩:=Aa h;refine gR hq [1,2,4,5,6,7,8,9,73] Wr [] [] (ci hc7 (ci (gI ((Q160 a0 i2 i6)==false)) (ci (gI ((Q160 a0 i2 i6)==false)) (ci (gI ((Q160 a0 i2 i6)==false)) (ci hc8 (ci (gI ((Q160 a0 i2 i6)==false)) (ci (gI ((Q160 a0 i2 i6)==false)) (ci (gI ((Q160 a0 i2 i6)==false)) (c1 (J1 (Q160 a0 i2 i6))))))))))) ?_;refine gC h ?_ ?_<;>intro h
       ·refine gR hq F5 [2] [(74,(.agg [Q158,Q158]))] [] (c1 (show(AVle Q163 (.agg [Q158,Q158])) from(AVle.agg (.cons Hg (.cons Hg .nil))))) ?_;refine Ri Q164 ?_;cases h;exact gO (L0 (J7 [] (show Le Γ _ Q162 from Le.trans (B2 (st':=Q164) F5 [2] hq) (Jo (.cons (AVle.refl _) (.cons (AVle.refl _) .nil)) (.row (.cons AVle.untag (.cons AVle.untag .nil)) .nil)))))
       ·refine Af hq zzN118 Wr ?_;cases h;exact gN Cr
      ·cases h;exact gO (Bk (B2 zzN134 Wr hq))
     ·clear hx9;rcases x9 with _|r22
      ·refine gA ?_;refine Af hq zzN32 Wr ?_;refine Or (st':=(Q159 a0 l1 i2)) (Le.trans (B2 (st':=⟨[Xo,Ra,(4,(Z54 a0.Blocks.length)),(5,(Z50 l1 5005)),(6,(Z7 i2)),(7,(.ptr 7 0)),(8,Z25),(10,Z76)],[(1,.row 25 (Q166 a0)),(Z66 Q167),(7,.row 51 [(.int .i64 (Aaf a0 i2).End.Kind),(.int .i64 (Aaf a0 i2).End.Arg),(AV.list 1 Au 0 (Aaf a0 i2).End.To .none)]),(5005,.tok 1 22 l1.length)],[]⟩) zzN32 Wr hq) (Le.trans (Nw (t:=8) (nm:=5008) (sz':=1) (fun i=>Au (([]:List Int).getD i 0)) 3 rfl rfl (.inl ⟨rfl,rfl⟩) (fun h_=>absurd h_ (by decide))) (B2 (st':=(Q159 a0 l1 i2)) zzN32 zzN44 hq))) ?_;obtain⟨x19,hx19,h⟩:=bind_some h;refine gL hq hx19 zzN32 zzN44 (fun u (l11,i12)=>(Eu u [(8,(Z13 l11 5008)),(10,(Z7 i12))] [(5008,.tok 1 3 l11.length)])) (fun u l13=>aG Γ (.exit 4) (Oz [1,2,4,5,6,8] [1,2,5005,5008] u [(8,(Z13 l13 5008))] [(5008,.tok 1 3 l13.length)])) ?_ ?_
       ·rintro⟨l11,i12⟩ y h;unfold Cd at h;refine Af hq [1,2,4,5,6,7,8,10,77] zzN44 ?_;refine gC h ?_ ?_<;>intro h
        ·obtain⟨x17,hx17,h⟩:=bind_some h;refine gJ hx17 (fun l14=>aG Γ .normal (⟨[Xo,Ra,(4,(Z54 a0.Blocks.length)),(5,(Z50 l1 5005)),(6,(Z7 i2)),(7,(.ptr 7 0)),(8,(Z13 l14 5008)),(10,(Z7 i12))],[(1,.row 25 (Q166 a0)),(Z66 Q167),(7,.row 51 [(.int .i64 (Aaf a0 i2).End.Kind),(.int .i64 (Aaf a0 i2).End.Arg),(AV.list 1 Au 0 (Aaf a0 i2).End.To .none)]),(5005,.tok 1 22 l1.length),(5008,.tok 1 3 l14.length)],[]⟩:St)) ?_ ?_
         ·clear h hx17;intro y h;obtain⟨x15,hx15,h⟩:=bind_some h;refine gR hq [1,2,4,5,6,7,8,10,83] zzN44 [] [(Z2 x15)] (c1 (My ((Aaf a0 i2).End.To) i12 x15 hx15)) ?_;refine gC h ?_ ?_<;>intro h
          ·obtain⟨hc16,h⟩:=Aa h;refine gR hq zzN32 zzN44 [(86,(Z26 i12)),(87,(AV.list 1 Au 0 (l11++([i12]:List Int)) (.own 5008)))] [] (ci (Bx 1 Au (0:Int) ([i12]:List Int)) (ci (Eq.refl l11.length) (ci hc16 (ci (Ix 1 5008 Au (0:Int) l11 ([i12]:List Int)) (c1 (Fe l11 ([i12]:List Int))))))) ?_;cases h;exact gK (Bk Cr)
          ·obtain rfl:=OI h;exact gK (Bk (B2 zzN32 zzN44 hq))
         ·clear hx17;refine gA ?_;refine Af hq zzN32 zzN44 ?_;cases h;exact gN Cr
        ·cases h;exact gO (Bk (B2 [1,2,4,5,6,8] [1,2,5005,5008] hq))
       ·clear hx19;refine gA ?_;obtain⟨hc21,h⟩:=Aa h;refine gR hq zzN91 zzN145 [(90,(AV.list 1 Kg [] ([x19]:List (List Int)) .exact)),(91,(AV.list 1 Kg [] (l1++([x19]:List (List Int))) (.own 5005)))] [] (ci (Bx 1 Kg [] ([x19]:List (List Int))) (ci (Eq.refl l1.length) (ci hc21 (ci (Ix 1 5005 Kg [] l1 ([x19]:List (List Int))) (c1 (Fe l1 ([x19]:List (List Int)))))))) ?_;refine Af hq zzN91 zzN145 ?_;cases h;exact gN Cr
      ·refine N2 (fun st' hk=>?_);cases h;exact gO (L0 hk)
   ·cases h;exact gO (Bk (B2 T4 [2,5005] hq))
  ·clear hx23;rcases x23 with l3|r26
   ·refine gA ?_;obtain⟨x25,hx25,h⟩:=bind_some h;refine gR hq F5 [2] [] [(Z36 x25.1 x25.2)] (c1 (Pt l3 x25 hx25)) ?_;cases h;exact Cf []
   ·refine N2 (fun st' hk=>?_);obtain rfl:=OI h;exact gK hk
def A1(a3:TGraph)(aO:Int)(i6:Int):(Int×List Bool)->Option (LR (Int×List Bool) (List Bool)):=
 fun((i9,l10):(Int×List Bool))=>(A6 (A2 i6 l10.length) (A6 (((l10.getD i6.toNat false)==true)=true->(A2 i6 a3.Succ.length)) (bif (bif (l10.getD i6.toNat false) then(decide (i9<((a3.Succ.getD i6.toNat []).length:Int))) else false) then(Option.bind (α:=List Bool) (A6 (A2 i6 a3.Succ.length) (A6 (A2 i9 (a3.Succ.getD i6.toNat []).length) (bif ((((a3.Succ.getD i6.toNat []).getD i9.toNat 0):Int)!=aO) then(A6 (A2 i6 a3.Succ.length) (A6 (A2 i9 (a3.Succ.getD i6.toNat []).length) (A6 (A2 ((a3.Succ.getD i6.toNat []).getD i9.toNat 0) l10.length) (some (l10.set ((a3.Succ.getD i6.toNat []).getD i9.toNat 0).toNat true))))) else(some l10)))) (fun x20=>(some (.next ((w64 (i9+1)),x20))))) else(some (.done l10)))))
def A4(a3:TGraph)(aO:Int):(Int×List Bool)->Option (LR (Int×List Bool) (List Bool)):=
 fun((i6,l7):(Int×List Bool))=>(bif (decide (i6<(l7.length:Int))) then((Ah (A1 a3 aO i6) ((0:Int),l7)).bind (fun x22=>(some (.next ((w64 (i6+1)),x22))))) else(some (.done l7)))
def A5(a3:TGraph)(aO:Int):(Int×List Bool)->Option (LR (Int×List Bool) (List Bool)):=
 fun((i3,l4):(Int×List Bool))=>(bif (decide (i3<(l4.length:Int))) then((Ah (A4 a3 aO) ((0:Int),l4)).bind (fun x24=>(some (.next ((w64 (i3+1)),x24))))) else(some (.done l4)))
def Q169(l10:List Bool)(i6:Int):=((l10.getD i6.toNat false)==true)
def Q168(a3:TGraph):=(List.replicate (a3.Succ.length:Int).toNat false)
def Q171(a3:TGraph):=(fun i=>eB ((Q168 a3).getD i false))
def Q170(a3:TGraph)(i6:Int)(i9:Int):=((a3.Succ.getD i6.toNat []).getD i9.toNat 0)
def C6(a3:TGraph)(a2:Int)(aO:Int):Option (List Bool):=
 (A6 (0<=(a3.Succ.length:Int)/\(a3.Succ.length:Int)<=(a3.Succ.length:Int)/\(a3.Succ.length:Int)<=(room:Int)) (bif (a2==aO) then(some (List.replicate (a3.Succ.length:Int).toNat false)) else(A6 (A2 a2 (List.replicate (a3.Succ.length:Int).toNat false).length) ((Ah (A5 a3 aO) ((0:Int),((List.replicate (a3.Succ.length:Int).toNat false).set a2.toNat true))).bind (fun x26=>(some x26))))))
theorem Lv(a3:TGraph)(a2:Int)(aO:Int)(r:List Bool)(h:C6 a3 a2 aO=some r):Spec Tryz.prog 23 [(Z61 a3),(Z7 a2),(Z7 aO)] [] (Z21 r 20000) [(Qc 20000 r.length)]:=by
 refine Ac mix Tryz.func23 (fun Γ hq=>?_);have hΓ:=hq.own;unfold C6 at h;refine gR hq [1,2,3] [3] [(6,(AV.list 1 eB false ([]:List Bool) .exact))] [] (c1 (Dh 1 eB false)) ?_;obtain⟨hc1,h⟩:=Aa h;refine gR hq [1,2,3,7] Li [] [] (c1 hc1) ?_;refine Or (Le.trans (Wv 14 (show ∀ k_,k_<((a3.Succ.length:Int).toNat)->AVleL ((fun i_=>AV.eraseAll (fun n_=>D5 n_ Li) ((fun _=>[(.bool false)]) i_)) k_) ((Q171 a3) k_) from(fun k hk=>Rr (e:=eB) (d:=false) (.cons (AVle.refl _) .nil) _ k (Ru hk)))) (Ww (fun(k_:Nat) u=>(Eu u [(Ti 14 k_)] [(14,.arr 1 4 k_ (Q171 a3))])) (show(a3.Succ.length:Int).toNat=(Q168 a3).length from(Rj ..).symm))) ?_;refine Af hq [1,2,3,7,17] Li ?_;refine gC h ?_ ?_<;>intro h
 ·refine Af hq [6] [14] ?_;refine Ri (⟨[(6,(.vsl 14 (Q168 a3).length))],[(14,.arr 1 4 ((Q168 a3).length) (Q171 a3))],[]⟩:St) ?_;cases h;exact gK (e:=.ret) (J7 [(14,20000)] (Le.trans (J9 (nm:=14) (sz:=1) (n:=((Q168 a3).length)) (e:=4) (f:=(Q171 a3)) (g:=(Q171 a3)) rfl ⟨rfl,trivial⟩ (fun _ _=>rfl) (by rw[hΓ];rfl)) (J5 (st':=⟨[(6,(Z21 (Q168 a3) 14))],[(14,.tok 1 4 ((Q168 a3).length))],[]⟩) (by kernel_rfl))))
 ·obtain⟨hc2,h⟩:=Aa h;refine gR hq [2,3,7] Li [] [] (ci hc2 (c1 (Eq.refl ((Q168 a3).length)))) ?_;refine Or (Le.trans (Wv 14 (show ∀ k_,k_<((Q168 a3).length)->AVleL ((fun i_=>AV.eraseAll (fun n_=>D5 n_ Li) ((G5 (Q171 a3) a2.toNat 0 [(.bool true)]) i_)) k_) ((fun i=>eB (((Q168 a3).set a2.toNat true).getD i false)) k_) from(Cn (Hb ..).symm (fun k_ hk_=>(Cq (AV.eraseAll (fun n_=>D5 n_ Li)) ((Kl (fun _ _=>rfl) (Md hc2) rfl) k_ hk_)).trans rfl)))) (Ww (fun(k_:Nat) u=>(Eu u [(Ti 14 k_)] [(14,.arr 1 4 k_ (fun i=>eB (((Q168 a3).set a2.toNat true).getD i false)))])) (show(Q168 a3).length=((Q168 a3).set a2.toNat true).length from(Hb ..).symm))) ?_;refine Af hq zzN146 Li ?_;obtain⟨x26,hx26,h⟩:=bind_some h;refine gL hq hx26 zzN146 Li (fun u (i3,l4)=>(Eu u [(Ti 14 l4.length),(8,(Z7 i3))] [(Z11 14 l4)])) (fun u l5=>aG Γ (.exit 0) (⟨[(Ti 14 l5.length)],[(Z11 14 l5)],[]⟩:St)) ?_ ?_
  ·rintro⟨i3,l4⟩ y h;unfold A5 at h;refine Af hq [2,3,7,8,25] Li ?_;refine gC h ?_ ?_<;>intro h
   ·refine Af hq zzN106 Li ?_;obtain⟨x24,hx24,h⟩:=bind_some h;refine gL hq hx24 zzN106 Li (fun u (i6,l7)=>(Eu u [(Ti 14 l7.length),(9,(Z7 i6))] [(Z11 14 l7)])) (fun u l8=>aG Γ (.exit 2) (Oz zzN146 Li u [(Ti 14 l8.length)] [(Z11 14 l8)])) ?_ ?_
    ·rintro⟨i6,l7⟩ y h;unfold A4 at h;refine Af hq [2,3,7,8,9,31] Li ?_;refine gC h ?_ ?_<;>intro h
     ·refine Af hq zzN83 Li ?_;obtain⟨x22,hx22,h⟩:=bind_some h;refine gL hq hx22 zzN83 Li (fun u (i9,l10)=>(Eu u [(Ti 14 l10.length),(10,(Z7 i9))] [(Z11 14 l10)])) (fun u l11=>aG Γ (.exit 4) (Oz zzN106 Li u [(Ti 14 l11.length)] [(Z11 14 l11)])) ?_ ?_
      ·rintro⟨i9,l10⟩ y h;unfold A1 at h;obtain⟨hc12,h⟩:=Aa h;obtain⟨hc13,h⟩:=Aa h;refine gR hq [2,3,7,8,9,10,47] Li [] [] (ci hc12 (ci (Eq.refl l10.length) (ci (gI (Q169 l10 i6)) (ci (gI (Q169 l10 i6)) (ci (gI (Q169 l10 i6)) (ci hc13 (ci (gI (Q169 l10 i6)) (ci (gI (Q169 l10 i6)) (ci (gI (Q169 l10 i6)) (ci (gI (Q169 l10 i6)) (c1 (M7 (l10.getD i6.toNat false))))))))))))) ?_;refine gC h ?_ ?_<;>intro h
       ·obtain⟨x20,hx20,h⟩:=bind_some h;refine gJ hx20 (fun l14=>aG Γ .normal (⟨[(2,(Z7 aO)),(3,(.ptr 3 0)),(Ti 14 l14.length),(8,(Z7 i3)),(9,(Z7 i6)),(10,(Z7 i9))],[(3,.row 41 [(Z20 a3.Succ),(Z20 a3.Pred)]),(Z11 14 l14)],[]⟩:St)) ?_ ?_
        ·clear h hx20;intro y h;obtain⟨hc15,h⟩:=Aa h;obtain⟨hc16,h⟩:=Aa h;refine gR hq [2,3,7,8,9,10,59] Li [] [] (ci hc15 (c1 hc16)) ?_;refine gC h ?_ ?_<;>intro h
         ·obtain⟨hc17,h⟩:=Aa h;obtain⟨hc18,h⟩:=Aa h;obtain⟨hc19,h⟩:=Aa h;refine gR hq zzN83 Li [] [] (ci hc17 (ci hc18 (ci hc19 (c1 (Eq.refl l10.length))))) ?_;cases h;exact gK (Bk (Le.trans (Le.trans (Wv 14 (show ∀ k_,k_<l10.length->AVleL ((fun i_=>AV.eraseAll (fun n_=>D5 n_ Li) ((G5 (fun i=>eB (l10.getD i false)) (Q170 a3 i6 i9).toNat 0 [(.bool true)]) i_)) k_) ((fun i=>eB ((l10.set (Q170 a3 i6 i9).toNat true).getD i false)) k_) from(Cn (Hb ..).symm (fun k_ hk_=>(Cq (AV.eraseAll (fun n_=>D5 n_ Li)) ((Kl (fun _ _=>rfl) (Md hc19) rfl) k_ hk_)).trans rfl)))) (Ww (fun(k_:Nat) u=>(Eu u [(Ti 14 k_)] [(14,.arr 1 4 k_ (fun i=>eB ((l10.set (Q170 a3 i6 i9).toNat true).getD i false)))])) (show l10.length=(l10.set (Q170 a3 i6 i9).toNat true).length from(Hb ..).symm))) Cr))
         ·obtain rfl:=OI h;exact gK (Bk (B2 zzN83 Li hq))
        ·clear hx20;refine gA ?_;refine Af hq zzN83 Li ?_;cases h;exact gN Cr
       ·cases h;exact gO (Bk (B2 zzN106 Li hq))
      ·clear hx22;refine gA ?_;refine Af hq zzN106 Li ?_;cases h;exact gN Cr
     ·cases h;exact gO (Bk (B2 zzN146 Li hq))
    ·clear hx24;refine gA ?_;refine Af hq zzN146 Li ?_;cases h;exact gN Cr
   ·cases h;exact gO (Bk (B2 [7] [14] hq))
  ·clear hx26;refine gA ?_;refine Af hq [6] [14] ?_;refine Ri (⟨[(6,(.vsl 14 x26.length))],[(Z11 14 x26)],[]⟩:St) ?_;obtain rfl:=OI h;exact gK (e:=.ret) (J7 [(14,20000)] (Le.trans (J9 (nm:=14) (sz:=1) (n:=x26.length) (e:=4) (f:=(fun i=>eB (x26.getD i false))) (g:=(fun i=>eB (x26.getD i false))) rfl ⟨rfl,trivial⟩ (fun _ _=>rfl) (by rw[hΓ];rfl)) (J5 (st':=⟨[(6,(Z21 x26 14))],[(Qc 14 x26.length)],[]⟩) (by kernel_rfl))))
def Bt(aI:List Int)(aK:List Int):Int->Option (LR Int (Unit ⊕ Bool)):=
 fun(i1:Int)=>(bif (decide (i1<(aI.length:Int))) then(A6 (A2 i1 aI.length) (A6 (A2 i1 aK.length) (bif (((aI.getD i1.toNat 0):Int)!=(aK.getD i1.toNat 0)) then(some (.done (.inr false))) else(some (.next (w64 (i1+1))))))) else(some (.done (.inl ()))))
def Xi(Γ:Iw)(aI:List Int)(aK:List Int)(r:Bool):Exit->St->Prop:=fK Tryz.prog Γ Tryz.f81.results.toList [] (.bool r) []
def Ea(aI:List Int)(aK:List Int):Option Bool:=
 (bif (((aI.length:Int):Int)!=(aK.length:Int)) then(some false) else((Ah (Bt aI aK) (0:Int)).bind (fun x4=>(match x4 with|(.inl _)=>(some true)|(.inr r6)=>(some r6)))))
theorem Ma(aI:List Int)(aK:List Int)(r:Bool)(h:Ea aI aK=some r):Spec Tryz.prog 81 [(Z8 aI),(Z8 aK)] [] (.bool r) []:=by
 refine Ac mix Tryz.func81 (fun Γ hq=>?_);unfold Ea at h;refine Af hq Jy [] ?_;refine Af hq Za [] ?_;refine gC h ?_ ?_<;>intro h
 ·refine Af hq [4] [] ?_;obtain rfl:=OI h;exact Cf []
 ·refine Af hq Ow [] ?_;obtain⟨x4,hx4,h⟩:=bind_some h;refine gL hq hx4 Ow [] (fun u i1=>(Eu u [(5,(Z7 i1))] [])) (fun u x_=>match x_ with|(.inl _)=>aG Γ (.exit 0) (⟨[],[],[]⟩:St)|(.inr r_)=>aR (Xi Γ aI aK r_)) ?_ ?_
  ·intro i1 y h;unfold Bt at h;refine Af hq [0,1,5,14] [] ?_;refine gC h ?_ ?_<;>intro h
   ·obtain⟨hc2,h⟩:=Aa h;obtain⟨hc3,h⟩:=Aa h;refine gR hq [0,1,5,25] [] [] [] (ci hc2 (c1 hc3)) ?_;refine gC h ?_ ?_<;>intro h
    ·refine Af hq [4] [] ?_;cases h;exact gO (L0 (J7 [] (Le.refl _ _)))
    ·refine Af hq Ow [] ?_;cases h;exact gN Cr
   ·cases h;exact gO (Bk (B2 [] [] hq))
  ·clear hx4;rcases x4 with _|r6
   ·refine gA ?_;refine Af hq [4] [] ?_;obtain rfl:=OI h;exact Cf []
   ·refine N2 (fun st' hk=>?_);obtain rfl:=OI h;exact gK hk
def Dp(a0:TFunc)(x1:(TGraph×Int))(i3:Int):Int->Option (LR Int (Unit ⊕ Bool)):=
 fun(i6:Int)=>(bif (decide (i6<(((a0.Blocks.getD i3.toNat default).Phis).length:Int))) then(A6 (A2 i6 ((a0.Blocks.getD i3.toNat default).Phis).length) (A6 (A2 i3 x1.1.Pred.length) ((Ea ((((a0.Blocks.getD i3.toNat default).Phis).getD i6.toNat default).From) (x1.1.Pred.getD i3.toNat [])).bind fun x9=>(A6 (((!x9)==false)=true->(A2 i6 ((a0.Blocks.getD i3.toNat default).Phis).length)) (A6 (((!x9)==false)=true->(A2 i3 x1.1.Pred.length)) (bif (bif (!x9) then true else(((((((a0.Blocks.getD i3.toNat default).Phis).getD i6.toNat default).Args).length:Int):Int)!=((x1.1.Pred.getD i3.toNat []).length:Int))) then(some (.done (.inr false))) else(some (.next (w64 (i6+1)))))))))) else(some (.done (.inl ()))))
def Eo(a0:TFunc)(x1:(TGraph×Int))(x2:List Bool):Int->Option (LR Int (Unit ⊕ Bool)):=
 fun(i3:Int)=>(bif (decide (i3<(a0.Blocks.length:Int))) then(A6 (A2 i3 a0.Blocks.length) (A6 (A2 i3 x2.length) (bif (bif (!(x2.getD i3.toNat false)) then true else(bif (bif (((a0.Blocks.getD i3.toNat default).End.Kind:Int)==1) then true else(((a0.Blocks.getD i3.toNat default).End.Kind:Int)==3)) then(((a0.Blocks.getD i3.toNat default).End.Arg:Int)!=0) else false)) then(some (.done (.inr false))) else((Ah (Dp a0 x1 i3) (0:Int)).bind (fun x12=>(match x12 with|(.inl _)=>(some (.next (w64 (i3+1))))|(.inr r14)=>(some (.done (.inr r14))))))))) else(some (.done (.inl ()))))
def Pr(Γ:Iw)(a0:TFunc)(r:Bool):Exit->St->Prop:=fK Tryz.prog Γ Tryz.f47.results.toList [] (.bool r) []
def Q173(x2:List Bool)(i3:Int):=((!(x2.getD i3.toNat false))==false)
def Q172(a0:TFunc)(i3:Int):=((a0.Blocks.getD i3.toNat default).End.Kind:Int)
def Q174(x2:List Bool)(i3:Int)(a0:TFunc):=((Q173 x2 i3)&&((bif ((Q172 a0 i3)==1) then true else((Q172 a0 i3)==3))==true))
def Ht(a0:TFunc):Option Bool:=
 ((Gn a0).bind fun x1=>(bif (x1.2 !=0) then(some false) else((C6 x1.1 (0:Int) (-1:Int)).bind fun x2=>((Ah (Eo a0 x1 x2) (0:Int)).bind (fun x15=>(match x15 with|(.inl _)=>(some true)|(.inr r17)=>(some r17)))))))
theorem Vt(a0:TFunc)(r:Bool)(h:Ht a0=some r):Spec Tryz.prog 47 [(Z35 a0)] [] (.bool r) []:=by
 refine Ac mix Tryz.func47 (fun Γ hq=>?_);unfold Ht at h;refine Af hq [1] [1] ?_;obtain⟨x1,hx1,h⟩:=bind_some h;refine gR hq Ko Kn [] [(Z36 x1.1 x1.2)] (c1 (Nx a0 x1 hx1)) ?_;refine Af hq [1,3,15] Kn ?_;refine gC h ?_ ?_<;>intro h
 ·refine Af hq [2] [] ?_;obtain rfl:=OI h;exact Cf []
 ·obtain⟨x2,hx2,h⟩:=bind_some h;refine gR hq zzN132 zzN122 [] [⟨[],[(20000,17)],(Z21 x2 20000),[(Qc 20000 x2.length)],[],[]⟩] (c1 (Lv x1.1 (0:Int) (-1:Int) x2 hx2)) ?_;refine Af hq zzN69 zzN122 ?_;obtain⟨x15,hx15,h⟩:=bind_some h;refine gL hq hx15 zzN69 zzN122 (fun u i3=>(Eu u [(6,(Z7 i3))] [])) (fun u x_=>match x_ with|(.inl _)=>aG Γ (.exit 0) (⟨[],[],[]⟩:St)|(.inr r_)=>aR (Pr Γ a0 r_)) ?_ ?_
  ·intro i3 y h;unfold Eo at h;refine Af hq [1,3,5,6,22] zzN122 ?_;refine gC h ?_ ?_<;>intro h
   ·obtain⟨hc4,h⟩:=Aa h;refine gR hq zzN107 zzN87 [] [] (c1 hc4) ?_;obtain⟨hc5,h⟩:=Aa h;refine gR hq [1,3,5,6,7,52] zzN87 [] [] (ci hc5 (ci (gI (Q173 x2 i3)) (ci (gI (Q173 x2 i3)) (ci (gI (Q173 x2 i3)) (ci (gI (Q173 x2 i3)) (ci (gI ((Q173 x2 i3)&&(((Q172 a0 i3)==1)==false))) (ci (gI ((Q173 x2 i3)&&(((Q172 a0 i3)==1)==false))) (ci (gI ((Q173 x2 i3)&&(((Q172 a0 i3)==1)==false))) (ci (gI (Q173 x2 i3)) (ci (show((Q173 x2 i3)=true->(((Q172 a0 i3)==1)=false->((Q173 x2 i3)&&(((Q172 a0 i3)==1)==false))=true)) from(fun hg=>(aF hg))) (ci (gI (Q173 x2 i3)) (ci (gI (Q174 x2 i3 a0)) (ci (gI (Q174 x2 i3 a0)) (ci (gI (Q174 x2 i3 a0)) (ci (gI (Q173 x2 i3)) (ci (show((Q173 x2 i3)=true->((bif ((Q172 a0 i3)==1) then true else((Q172 a0 i3)==3))=true->(Q174 x2 i3 a0)=true)) from(fun hg=>(aT hg))) (c1 (J1 (!(x2.getD i3.toNat false)))))))))))))))))))) ?_;refine gC h ?_ ?_<;>intro h
    ·refine Af hq [2] [] ?_;cases h;exact gO (L0 (J7 [] (Le.refl _ _)))
    ·refine Af hq zzN157 zzN87 ?_;obtain⟨x12,hx12,h⟩:=bind_some h;refine gL hq hx12 zzN157 zzN87 (fun u i6=>(Eu u [(8,(Z7 i6))] [])) (fun u x_=>match x_ with|(.inl _)=>aG Γ (.exit 2) (Oz zzN69 zzN122 u [] [])|(.inr r_)=>aR (Pr Γ a0 r_)) ?_ ?_
     ·intro i6 y h;unfold Dp at h;refine Af hq [1,3,5,6,7,8,57] zzN87 ?_;refine gC h ?_ ?_<;>intro h
      ·obtain⟨hc7,h⟩:=Aa h;obtain⟨hc8,h⟩:=Aa h;obtain⟨x9,hx9,h⟩:=bind_some h;obtain⟨hc10,h⟩:=Aa h;obtain⟨hc11,h⟩:=Aa h;refine gR hq [1,3,5,6,7,8,88] zzN87 [] [(Z2 x9)] (ci hc7 (ci hc8 (ci (Ma ((((a0.Blocks.getD i3.toNat default).Phis).getD i6.toNat default).From) (x1.1.Pred.getD i3.toNat []) x9 hx9) (ci (gI ((!x9)==false)) (ci (gI ((!x9)==false)) (ci (gI ((!x9)==false)) (ci hc10 (ci (gI ((!x9)==false)) (ci (gI ((!x9)==false)) (ci (gI ((!x9)==false)) (ci (gI ((!x9)==false)) (ci (gI ((!x9)==false)) (ci (gI ((!x9)==false)) (ci hc11 (ci (gI ((!x9)==false)) (ci (gI ((!x9)==false)) (ci (gI ((!x9)==false)) (ci (gI ((!x9)==false)) (c1 (J1 (!x9))))))))))))))))))))) ?_;refine gC h ?_ ?_<;>intro h
       ·refine Af hq [2] [] ?_;cases h;exact gO (L0 (J7 [] (Le.refl _ _)))
       ·refine Af hq zzN157 zzN87 ?_;cases h;exact gN Cr
      ·cases h;exact gO (Bk (B2 zzN69 zzN122 hq))
     ·clear hx12;rcases x12 with _|r14
      ·refine gA ?_;refine Af hq zzN69 zzN122 ?_;cases h;exact gN Cr
      ·refine N2 (fun st' hk=>?_);cases h;exact gO (L0 hk)
   ·cases h;exact gO (Bk (B2 [] [] hq))
  ·clear hx15;rcases x15 with _|r17
   ·refine gA ?_;refine Af hq [2] [] ?_;obtain rfl:=OI h;exact Cf []
   ·refine N2 (fun st' hk=>?_);obtain rfl:=OI h;exact gK hk
def Q175(aE:Int):=(bif (bif (aE==1) then true else(aE==8)) then true else(aE==16))
def Cm(aE:Int):Option Bool:=
 (some (bif (bif (bif (bif (aE==1) then true else(aE==8)) then true else(aE==16)) then true else(aE==32)) then true else(aE==64)))
theorem Fl(aE:Int)(r:Bool)(h:Cm aE=some r):Spec Tryz.prog 82 [(Z7 aE)] [] (.bool r) []:=by
 refine Ac mix Tryz.func82 (fun Γ hq=>?_);unfold Cm at h;refine Af hq [0] [] ?_;refine gR hq [2] [] [] [] (ci (gI ((aE==1)==false)) (ci (J1 (aE==1)) (ci (gI ((bif (aE==1) then true else(aE==8))==false)) (ci (J1 (bif (aE==1) then true else(aE==8))) (ci (gI ((Q175 aE)==false)) (ci (J1 (Q175 aE)) (ci (gI ((bif (Q175 aE) then true else(aE==32))==false)) (c1 (J1 (bif (Q175 aE) then true else(aE==32))))))))))) ?_;cases h;exact Cf []
def Q177(aP:Int):=(bif (aP==2) then true else(aP==4))
def Q176(aP:Int):=(bif (bif (Q177 aP) then true else(aP==8)) then true else(aP==16))
def Q178(aP:Int)(aE:Int):=(bif (Q176 aP) then(decide (((1:Int):Int)<aE)) else false)
def Hq(aE:Int)(aP:Int):Option Bool:=
 ((Cm aE).bind fun x1=>(bif (!x1) then(some false) else(bif (aP==1) then(some true) else(some (bif (bif (bif (bif (bif (aP==2) then true else(aP==4)) then true else(aP==8)) then true else(aP==16)) then(decide (((1:Int):Int)<aE)) else false) then(decide (((w64 (aE*aP)):Int)<=128)) else false)))))
theorem Vo(aE:Int)(aP:Int)(r:Bool)(h:Hq aE aP=some r):Spec Tryz.prog 100 [(Z7 aE),(Z7 aP)] [] (.bool r) []:=by
 refine Ac mix Tryz.func100 (fun Γ hq=>?_);unfold Hq at h;refine Af hq Jy [] ?_;obtain⟨x1,hx1,h⟩:=bind_some h;refine gR hq [0,1,7] [] [] [(Z2 x1)] (c1 (Fl aE x1 hx1)) ?_;refine gC h ?_ ?_<;>intro h
 ·refine Af hq [4] [] ?_;obtain rfl:=OI h;exact Cf []
 ·refine Af hq [0,1,9] [] ?_;refine gC h ?_ ?_<;>intro h
  ·refine Af hq [4] [] ?_;obtain rfl:=OI h;exact Cf []
  ·refine gR hq [4] [] [] [] (ci (gI ((aP==2)==false)) (ci (J1 (aP==2)) (ci (gI ((Q177 aP)==false)) (ci (J1 (Q177 aP)) (ci (gI ((bif (Q177 aP) then true else(aP==8))==false)) (ci (J1 (bif (Q177 aP) then true else(aP==8))) (ci (gI ((Q176 aP)==true)) (ci (M7 (Q176 aP)) (ci (gI ((Q178 aP aE)==true)) (ci (gI ((Q178 aP aE)==true)) (ci (gI ((Q178 aP aE)==true)) (c1 (M7 (Q178 aP aE)))))))))))))) ?_;cases h;exact Cf []
def Q179(a1:C1):List (Nat×Own):=[(Z59 a1.Kind a1.Bits a1.Lanes a1.Dst a1.Args a1.Imm)]
def Il(a1:C1):Option Int:=
 (bif (a1.Kind==0) then(some (0:Int)) else(Option.bind (α:=Bool) (bif (a1.Kind==1) then(some (a1.Kind==1)) else(bif (a1.Kind==2) then(some (a1.Kind==2)) else(bif (a1.Kind==3) then(some (a1.Kind==3)) else(bif (a1.Kind==4) then(some (a1.Kind==4)) else(bif (a1.Kind==5) then(some (a1.Kind==5)) else(bif (a1.Kind==6) then(some (a1.Kind==6)) else(bif (a1.Kind==7) then(some (a1.Kind==7)) else(bif (a1.Kind==8) then(some (a1.Kind==8)) else(bif (a1.Kind==9) then(some (a1.Kind==9)) else(bif (a1.Kind==10) then(some (a1.Kind==10)) else(bif (a1.Kind==11) then(some (a1.Kind==11)) else(bif (a1.Kind==12) then(some (a1.Kind==12)) else(some (a1.Kind==17)))))))))))))) (fun x2=>(bif x2 then(some (2:Int)) else(Option.bind (α:=Bool) (bif (a1.Kind==13) then(some (a1.Kind==13)) else(bif (a1.Kind==18) then(some (a1.Kind==18)) else(some (a1.Kind==19)))) (fun x5=>(bif x5 then(some (3:Int)) else(Option.bind (α:=Bool) (bif (a1.Kind==14) then(some (a1.Kind==14)) else(bif (a1.Kind==15) then(some (a1.Kind==15)) else(bif (a1.Kind==16) then(some (a1.Kind==16)) else(some (a1.Kind==22))))) (fun x8=>(bif x8 then(some (1:Int)) else(bif (a1.Kind==20) then(some (4:Int)) else(bif (a1.Kind==21) then(some a1.Lanes) else(some (-1:Int))))))))))))))
theorem W6(a1:C1)(r:Int)(h:Il a1=some r):Spec Tryz.prog 101 (Z69 a1) [] (.int .i64 r) []:=by
 refine Ac mix Tryz.func101 (fun Γ hq=>?_);unfold Il at h;refine Af hq [1] [1] ?_;refine Af hq P1 [1] ?_;refine Af hq [1,4,5] [1] ?_;refine gC h ?_ ?_<;>intro h
 ·refine Af hq [2] [] ?_;cases h;exact Cf []
 ·obtain⟨x2,hx2,h⟩:=bind_some h;refine gJ hx2 (fun b1=>aG Γ .normal (⟨[Xo,(4,(Z7 a1.Kind)),(7,(.bool b1))],(Q179 a1),[]⟩:St)) ?_ ?_
  ·clear h hx2;intro y h;refine Af hq Uv [1] ?_;refine gC h ?_ ?_<;>intro h
   ·cases h;exact gK (Bk Cr)
   ·refine Af hq Uv [1] ?_;refine gC h ?_ ?_<;>intro h
    ·cases h;exact gK (Bk Cr)
    ·refine Af hq Uv [1] ?_;refine gC h ?_ ?_<;>intro h
     ·cases h;exact gK (Bk Cr)
     ·refine Af hq Uv [1] ?_;refine gC h ?_ ?_<;>intro h
      ·cases h;exact gK (Bk Cr)
      ·refine Af hq Uv [1] ?_;refine gC h ?_ ?_<;>intro h
       ·cases h;exact gK (Bk Cr)
       ·refine Af hq Uv [1] ?_;refine gC h ?_ ?_<;>intro h
        ·cases h;exact gK (Bk Cr)
        ·refine Af hq Uv [1] ?_;refine gC h ?_ ?_<;>intro h
         ·cases h;exact gK (Bk Cr)
         ·refine Af hq Uv [1] ?_;refine gC h ?_ ?_<;>intro h
          ·cases h;exact gK (Bk Cr)
          ·refine Af hq Uv [1] ?_;refine gC h ?_ ?_<;>intro h
           ·cases h;exact gK (Bk Cr)
           ·refine Af hq Uv [1] ?_;refine gC h ?_ ?_<;>intro h
            ·cases h;exact gK (Bk Cr)
            ·refine Af hq Uv [1] ?_;refine gC h ?_ ?_<;>intro h
             ·cases h;exact gK (Bk Cr)
             ·refine Af hq Uv [1] ?_;refine gC h ?_ ?_<;>intro h
              ·cases h;exact gK (Bk Cr)
              ·refine Af hq Uv [1] ?_;cases h;exact gK (Bk Cr)
  ·clear hx2;refine gA ?_;refine gC h ?_ ?_<;>intro h
   ·refine Af hq [2] [] ?_;cases h;exact Cf []
   ·obtain⟨x5,hx5,h⟩:=bind_some h;refine gJ hx5 (fun b4=>aG Γ .normal (⟨[Xo,(4,(Z7 a1.Kind)),(21,(.bool b4))],(Q179 a1),[]⟩:St)) ?_ ?_
    ·clear h hx5;intro y h;refine Af hq [1,4,21] [1] ?_;refine gC h ?_ ?_<;>intro h
     ·cases h;exact gK (Bk Cr)
     ·refine Af hq [1,4,21] [1] ?_;refine gC h ?_ ?_<;>intro h
      ·cases h;exact gK (Bk Cr)
      ·refine Af hq [1,4,21] [1] ?_;cases h;exact gK (Bk Cr)
    ·clear hx5;refine gA ?_;refine gC h ?_ ?_<;>intro h
     ·refine Af hq [2] [] ?_;cases h;exact Cf []
     ·obtain⟨x8,hx8,h⟩:=bind_some h;refine gJ hx8 (fun b7=>aG Γ .normal (⟨[Xo,(4,(Z7 a1.Kind)),(25,(.bool b7))],(Q179 a1),[]⟩:St)) ?_ ?_
      ·clear h hx8;intro y h;refine Af hq [1,4,25] [1] ?_;refine gC h ?_ ?_<;>intro h
       ·cases h;exact gK (Bk Cr)
       ·refine Af hq [1,4,25] [1] ?_;refine gC h ?_ ?_<;>intro h
        ·cases h;exact gK (Bk Cr)
        ·refine Af hq [1,4,25] [1] ?_;refine gC h ?_ ?_<;>intro h
         ·cases h;exact gK (Bk Cr)
         ·refine Af hq [1,4,25] [1] ?_;cases h;exact gK (Bk Cr)
      ·clear hx8;refine gA ?_;refine gC h ?_ ?_<;>intro h
       ·refine Af hq [2] [] ?_;cases h;exact Cf []
       ·refine Af hq [1,4,30] [1] ?_;refine gC h ?_ ?_<;>intro h
        ·refine Af hq [2] [] ?_;cases h;exact Cf []
        ·refine Af hq [1,32] [1] ?_;refine gC h ?_ ?_<;>intro h
         ·refine Af hq [2] [] ?_;cases h;exact Cf []
         ·refine Af hq [2] [] ?_;cases h;exact Cf []
def Jc(aC:Int)(aE:Int):Option Int:=
 ((Cm aE).bind fun x1=>(bif (!x1) then(some (0:Int)) else(bif (aE==64) then(some aC) else(A6 (0<=(Iv aE)) (A6 ((shlV .u64 (1:Int) (Iv aE))≠0) (some (Int.tmod aC (shlV .u64 (1:Int) (Iv aE)))))))))
theorem Yd(aC:Int)(aE:Int)(r:Int)(h:Jc aC aE=some r):Spec Tryz.prog 134 [(.int .u64 aC),(Z7 aE)] [] (.int .u64 r) []:=by
 refine Ac mix Tryz.func134 (fun Γ hq=>?_);unfold Jc at h;refine Af hq Jy [] ?_;obtain⟨x1,hx1,h⟩:=bind_some h;refine gR hq [0,1,7] [] [] [(Z2 x1)] (c1 (Fl aE x1 hx1)) ?_;refine gC h ?_ ?_<;>intro h
 ·refine Af hq [4] [] ?_;cases h;exact Cf []
 ·refine Af hq [0,1,9] [] ?_;refine gC h ?_ ?_<;>intro h
  ·refine Af hq [4] [] ?_;obtain rfl:=OI h;exact Cf []
  ·obtain⟨hc2,h⟩:=Aa h;obtain⟨hc3,h⟩:=Aa h;refine gR hq [4] [] [] [] (ci hc2 (c1 hc3)) ?_;cases h;exact Cf []
def Xj(Γ:Iw)(a1:C1)(r:Bool):Exit->St->Prop:=fK Tryz.prog Γ Tryz.f102.results.toList [] (.bool r) []
def Q184(a1:C1):=(a1.Kind==15)
def Q183(a1:C1):=((a1.Kind==4)==false)
def Q185(a1:C1):=(decide (a1.Imm<(Iv a1.Bits)))
def Q188(a1:C1):=(bif (a1.Kind==4) then true else(bif (decide (((10:Int):Int)<=a1.Kind)) then(decide (a1.Kind<=12)) else false))
def Q180(a1:C1):=(bif (Q188 a1) then true else(a1.Kind==14))
def Q186(a1:C1):=((bif (Q180 a1) then true else(Q184 a1))==false)
def Q187(a1:C1):=(bif (decide (((16:Int):Int)<=a1.Kind)) then(decide (a1.Kind<=19)) else false)
def Q181(a1:C1):=(bif (Q187 a1) then(decide (a1.Bits<8)) else false)
def Q189(a1:C1):=(((Q181 a1)==false)&&((decide (((21:Int):Int)<=a1.Kind))==true))
def Q182(a1:C1):=(bif (decide (((Iv a1.Bits):Int)<a1.Imm)) then(decide (a1.Imm<=64)) else false)
def Fi(a1:C1):Option Bool:=
 (Option.bind (α:=(Unit ⊕ Bool)) (bif (bif (bif (bif (bif (a1.Kind==4) then true else(bif (decide (((10:Int):Int)<=a1.Kind)) then(decide (a1.Kind<=12)) else false)) then true else(a1.Kind==14)) then true else(a1.Kind==15)) then true else(bif (decide (((18:Int):Int)<=a1.Kind)) then(decide (a1.Kind<=20)) else false)) then(bif (a1.Lanes !=1) then(some (.inr false)) else(some (.inl ()))) else(some (.inl ()))) (fun x1=>(match x1 with|(.inl _)=>(bif (bif (bif (bif (decide (((16:Int):Int)<=a1.Kind)) then(decide (a1.Kind<=19)) else false) then(decide (a1.Bits<8)) else false) then true else(bif (decide (((21:Int):Int)<=a1.Kind)) then(decide (a1.Lanes<2)) else false)) then(some false) else(bif (a1.Kind==0) then((Jc a1.Imm a1.Bits).bind fun x3=>(some (x3==a1.Imm))) else(bif (a1.Kind==14) then((bif ((decide (a1.Imm<(Iv a1.Bits)))==true) then Cm (w64 a1.Imm) else some false).bind fun x4=>(some (bif (decide (a1.Imm<(Iv a1.Bits))) then x4 else false))) else(bif (a1.Kind==15) then((bif ((bif (decide (((Iv a1.Bits):Int)<a1.Imm)) then(decide (a1.Imm<=64)) else false)==true) then Cm (w64 a1.Imm) else some false).bind fun x5=>(some (bif (bif (decide (((Iv a1.Bits):Int)<a1.Imm)) then(decide (a1.Imm<=64)) else false) then x5 else false))) else(bif (a1.Kind==22) then(some (decide (a1.Imm<(Iv a1.Lanes)))) else(some (a1.Imm==0)))))))|(.inr r6)=>(some r6))))
theorem W7(a1:C1)(r:Bool)(h:Fi a1=some r):Spec Tryz.prog 102 (Z69 a1) [] (.bool r) []:=by
 refine Ac mix Tryz.func102 (fun Γ hq=>?_);unfold Fi at h;refine Af hq [1] [1] ?_;refine Af hq Kn [1] ?_;obtain⟨x1,hx1,h⟩:=bind_some h;refine gJ hx1 (fun x_=>match x_ with|(.inl _)=>aG Γ .normal (⟨[Xo,(3,(Z7 a1.Kind))],[(Z59 a1.Kind a1.Bits a1.Lanes a1.Dst a1.Args a1.Imm)],[]⟩:St)|(.inr r_)=>aR (Xj Γ a1 r_)) ?_ ?_
 ·clear h hx1;intro y h;refine gR hq [1,3,31] [1] [] [] (ci (gI (Q183 a1)) (ci (gI (Q183 a1)) (ci (gI ((Q183 a1)&&((decide (((10:Int):Int)<=a1.Kind))==true))) (ci (gI (Q183 a1)) (ci (show((Q183 a1)=true->((decide (((10:Int):Int)<=a1.Kind))=true->((Q183 a1)&&((decide (((10:Int):Int)<=a1.Kind))==true))=true)) from(fun hg=>(aT hg))) (ci (J1 (a1.Kind==4)) (ci (gI ((Q188 a1)==false)) (ci (J1 (Q188 a1)) (ci (gI ((Q180 a1)==false)) (ci (J1 (Q180 a1)) (ci (gI (Q186 a1)) (ci (gI (Q186 a1)) (ci (gI ((Q186 a1)&&((decide (((18:Int):Int)<=a1.Kind))==true))) (ci (gI (Q186 a1)) (ci (show((Q186 a1)=true->((decide (((18:Int):Int)<=a1.Kind))=true->((Q186 a1)&&((decide (((18:Int):Int)<=a1.Kind))==true))=true)) from(fun hg=>(aT hg))) (c1 (J1 (bif (Q180 a1) then true else(Q184 a1))))))))))))))))))) ?_;refine gC h ?_ ?_<;>intro h
  ·refine Af hq [1,3,34] [1] ?_;refine gC h ?_ ?_<;>intro h
   ·refine Af hq [2] [] ?_;cases h;exact gK (L0 (J7 [] (Le.refl _ _)))
   ·cases h;exact gK (Bk (B2 Kn [1] hq))
  ·cases h;exact gK (Bk (B2 Kn [1] hq))
 ·clear hx1;rcases x1 with _|r6
  ·refine gA ?_;refine gR hq [1,3,54] [1] [] [] (ci (gI ((decide (((16:Int):Int)<=a1.Kind))==true)) (ci (M7 (decide (((16:Int):Int)<=a1.Kind))) (ci (gI ((Q187 a1)==true)) (ci (gI ((Q187 a1)==true)) (ci (M7 (Q187 a1)) (ci (gI ((Q181 a1)==false)) (ci (gI ((Q181 a1)==false)) (ci (gI (Q189 a1)) (ci (gI (Q189 a1)) (ci (gI ((Q181 a1)==false)) (ci (show(((Q181 a1)==false)=true->((decide (((21:Int):Int)<=a1.Kind))=true->(Q189 a1)=true)) from(fun hg=>(aT hg))) (c1 (J1 (Q181 a1)))))))))))))) ?_;refine gC h ?_ ?_<;>intro h
   ·refine Af hq [2] [] ?_;obtain rfl:=OI h;exact Cf []
   ·refine Af hq [1,55] [1] ?_;refine Af hq [1,55,56] [1] ?_;refine gC h ?_ ?_<;>intro h
    ·obtain⟨x3,hx3,h⟩:=bind_some h;refine gR hq [2] [] [] [⟨[],[],(.int .u64 x3),[],[],[]⟩] (c1 (Yd a1.Imm a1.Bits x3 hx3)) ?_;cases h;exact Cf []
    ·refine Af hq [1,55,66] [1] ?_;refine gC h ?_ ?_<;>intro h
     ·obtain⟨x4,hx4,h⟩:=bind_some h;refine gR hq [2] [] [] [(Z2 x4)] (ci (gI ((Q185 a1)==true)) (ci (gI ((Q185 a1)==true)) (ci (gI ((Q185 a1)==true)) (ci (fun(hg:((Q185 a1)==true)=true)=>(Fl (w64 a1.Imm) x4 (Bg hg hx4))) (c1 (M7 (Q185 a1))))))) ?_;cases h;exact Cf []
     ·refine Af hq [1,55,80] [1] ?_;refine gC h ?_ ?_<;>intro h
      ·obtain⟨x5,hx5,h⟩:=bind_some h;refine gR hq [2] [] [] [(Z2 x5)] (ci (gI ((decide (((Iv a1.Bits):Int)<a1.Imm))==true)) (ci (gI ((decide (((Iv a1.Bits):Int)<a1.Imm))==true)) (ci (M7 (decide (((Iv a1.Bits):Int)<a1.Imm))) (ci (gI ((Q182 a1)==true)) (ci (gI ((Q182 a1)==true)) (ci (gI ((Q182 a1)==true)) (ci (fun(hg:((Q182 a1)==true)=true)=>(Fl (w64 a1.Imm) x5 (Bg hg hx5))) (c1 (M7 (Q182 a1)))))))))) ?_;cases h;exact Cf []
      ·refine Af hq [1,99] [1] ?_;refine gC h ?_ ?_<;>intro h
       ·refine Af hq [2] [] ?_;cases h;exact Cf []
       ·refine Af hq [2] [] ?_;cases h;exact Cf []
  ·refine N2 (fun st' hk=>?_);obtain rfl:=OI h;exact gK hk
def Ey(aC:Int):Option Bool:=
 (some (bif (decide (((0:Int):Int)<aC)) then(decide (aC<1024)) else false))
theorem Lu(aC:Int)(r:Bool)(h:Ey aC=some r):Spec Tryz.prog 50 [(Z7 aC)] [] (.bool r) []:=by
 refine Ac mix Tryz.func50 (fun Γ hq=>?_);unfold Ey at h;refine Af hq [0] [] ?_;refine gR hq [2] [] [] [] (ci (gI ((decide (((0:Int):Int)<aC))==true)) (c1 (M7 (decide (((0:Int):Int)<aC))))) ?_;cases h;exact Cf []
def Ft(a1:C1):Int->Option (LR Int (Unit ⊕ Bool)):=
 fun(i4:Int)=>(bif (decide (i4<(a1.Args.length:Int))) then(A6 (A2 i4 a1.Args.length) ((Ey (a1.Args.getD i4.toNat 0)).bind fun x6=>(bif (!x6) then(some (.done (.inr false))) else(some (.next (w64 (i4+1))))))) else(some (.done (.inl ()))))
def Aac(Γ:Iw)(a1:C1)(r:Bool):Exit->St->Prop:=fK Tryz.prog Γ Tryz.f83.results.toList [] (.bool r) []
def Q190(x1:Bool)(x2:Int)(a1:C1):=(bif (!x1) then true else(x2 !=(a1.Args.length:Int)))
def F2(a1:C1):Option Bool:=
 ((Hq a1.Bits a1.Lanes).bind fun x1=>((bif ((!x1)==false) then Il a1 else some (0:Int)).bind fun x2=>((bif ((bif (!x1) then true else(x2 !=(a1.Args.length:Int)))==false) then Fi a1 else some false).bind fun x3=>(bif (bif (bif (!x1) then true else(x2 !=(a1.Args.length:Int))) then true else(!x3)) then(some false) else((Ah (Ft a1) (0:Int)).bind (fun x7=>(match x7 with|(.inl _)=>(bif (bif (a1.Kind==17) then true else(a1.Kind==19)) then(some (a1.Dst==0)) else((Ey a1.Dst).bind fun x9=>(some x9)))|(.inr r10)=>(some r10))))))))
theorem Mx(a1:C1)(r:Bool)(h:F2 a1=some r):Spec Tryz.prog 83 (Z69 a1) [] (.bool r) []:=by
 refine Ac mix Tryz.func83 (fun Γ hq=>?_);unfold F2 at h;refine Af hq [1] [1] ?_;obtain⟨x1,hx1,h⟩:=bind_some h;obtain⟨x2,hx2,h⟩:=bind_some h;obtain⟨x3,hx3,h⟩:=bind_some h;refine gR hq [1,22] [1] [] [(Z2 x1),(Z19 x2),(Z2 x3)] (ci (Vo a1.Bits a1.Lanes x1 hx1) (ci (gI ((!x1)==false)) (ci (fun(hg:((!x1)==false)=true)=>(W6 a1 x2 (Bg hg hx2))) (ci (gI ((!x1)==false)) (ci (gI ((!x1)==false)) (ci (gI ((!x1)==false)) (ci (gI ((!x1)==false)) (ci (J1 (!x1)) (ci (gI ((Q190 x1 x2 a1)==false)) (ci (fun(hg:((Q190 x1 x2 a1)==false)=true)=>(W7 a1 x3 (Bg hg hx3))) (ci (gI ((Q190 x1 x2 a1)==false)) (c1 (J1 (Q190 x1 x2 a1)))))))))))))) ?_;refine gC h ?_ ?_<;>intro h
 ·refine Af hq [2] [] ?_;obtain rfl:=OI h;exact Cf []
 ·refine Af hq Kn [1] ?_;obtain⟨x7,hx7,h⟩:=bind_some h;refine gL hq hx7 Kn [1] (fun u i4=>(Eu u [(3,(Z7 i4))] [])) (fun u x_=>match x_ with|(.inl _)=>aG Γ (.exit 0) (Oz [1] [1] u [] [])|(.inr r_)=>aR (Aac Γ a1 r_)) ?_ ?_
  ·intro i4 y h;unfold Ft at h;refine Af hq [1,3,27] [1] ?_;refine gC h ?_ ?_<;>intro h
   ·obtain⟨hc5,h⟩:=Aa h;obtain⟨x6,hx6,h⟩:=bind_some h;refine gR hq [1,3,36] [1] [] [(Z2 x6)] (ci hc5 (c1 (Lu (a1.Args.getD i4.toNat 0) x6 hx6))) ?_;refine gC h ?_ ?_<;>intro h
    ·refine Af hq [2] [] ?_;cases h;exact gO (L0 (J7 [] (Le.refl _ _)))
    ·refine Af hq Kn [1] ?_;cases h;exact gN Cr
   ·cases h;exact gO (Bk (B2 [1] [1] hq))
  ·clear hx7;rcases x7 with _|r10
   ·refine gA ?_;refine gR hq [1,44] [1] [] [] (ci (gI ((a1.Kind==17)==false)) (ci (gI ((a1.Kind==17)==false)) (c1 (J1 (a1.Kind==17))))) ?_;refine gC h ?_ ?_<;>intro h
    ·refine Af hq [2] [] ?_;cases h;exact Cf []
    ·obtain⟨x9,hx9,h⟩:=bind_some h;refine gR hq [2] [] [] [(Z2 x9)] (c1 (Lu a1.Dst x9 hx9)) ?_;obtain rfl:=OI h;exact Cf []
   ·refine N2 (fun st' hk=>?_);obtain rfl:=OI h;exact gK hk
def Ep(a0:TFunc):Int->Option (LR Int (Unit ⊕ Bool)):=
 fun(i1:Int)=>(bif (decide (i1<(a0.Params.length:Int))) then(A6 (A2 i1 a0.Params.length) ((Cm (a0.Params.getD i1.toNat 0)).bind fun x3=>(bif (!x3) then(some (.done (.inr false))) else(some (.next (w64 (i1+1))))))) else(some (.done (.inl ()))))
def Dq(a0:TFunc)(i6:Int):Int->Option (LR Int (Unit ⊕ Bool)):=
 fun(i7:Int)=>(A6 (A2 i6 a0.Blocks.length) (bif (decide (i7<(((a0.Blocks.getD i6.toNat default).Phis).length:Int))) then(A6 (A2 i6 a0.Blocks.length) (A6 (A2 i7 ((a0.Blocks.getD i6.toNat default).Phis).length) ((Cm ((((a0.Blocks.getD i6.toNat default).Phis).getD i7.toNat default).Bits)).bind fun x11=>(bif (!x11) then(some (.done (.inr false))) else(some (.next (w64 (i7+1)))))))) else(some (.done (.inl ())))))
def Dr(a0:TFunc)(a2:Int)(i6:Int):Int->Option (LR Int (Unit ⊕ Bool)):=
 fun(i14:Int)=>(A6 (A2 i6 a0.Blocks.length) (bif (decide (i14<(((a0.Blocks.getD i6.toNat default).Ops).length:Int))) then(A6 (A2 i6 a0.Blocks.length) (A6 (A2 i14 ((a0.Blocks.getD i6.toNat default).Ops).length) (Option.bind (α:=Int) (bif (a2==1) then(some (20:Int)) else(some (22:Int))) (fun x19=>(Option.bind (α:=Int) (bif (a2==0) then(some (17:Int)) else(some x19)) (fun x22=>((F2 (((a0.Blocks.getD i6.toNat default).Ops).getD i14.toNat default)).bind fun x24=>(bif (bif (bif (!x24) then true else(decide (x22<(((a0.Blocks.getD i6.toNat default).Ops).getD i14.toNat default).Kind))) then true else(bif (decide (a2<2)) then(decide (((1:Int):Int)<(((a0.Blocks.getD i6.toNat default).Ops).getD i14.toNat default).Lanes)) else false)) then(some (.done (.inr false))) else(some (.next (w64 (i14+1)))))))))))) else(some (.done (.inl ())))))
def Er(a0:TFunc)(a2:Int):Int->Option (LR Int (Unit ⊕ Bool)):=
 fun(i6:Int)=>(bif (decide (i6<(a0.Blocks.length:Int))) then((Ah (Dq a0 i6) (0:Int)).bind (fun x12=>(match x12 with|(.inl _)=>((Ah (Dr a0 a2 i6) (0:Int)).bind (fun x25=>(match x25 with|(.inl _)=>(some (.next (w64 (i6+1))))|(.inr r27)=>(some (.done (.inr r27))))))|(.inr r28)=>(some (.done (.inr r28)))))) else(some (.done (.inl ()))))
def J0(Γ:Iw)(a0:TFunc)(a2:Int)(r:Bool):Exit->St->Prop:=fK Tryz.prog Γ Tryz.f48.results.toList [] (.bool r) []
def Q191(a0:TFunc)(i6:Int)(i14:Int):=(((a0.Blocks.getD i6.toNat default).Ops).getD i14.toNat default)
def Q193(x24:Bool)(x22:Int)(a0:TFunc)(i6:Int)(i14:Int):=(bif (!x24) then true else(decide (x22<(Q191 a0 i6 i14).Kind)))
def Q192(a0:TFunc):List AV:=[(Z8 a0.Params),(Z7 a0.Ret),(Z16 a0.Blocks)]
def Q194(a0:TFunc)(i6:Int)(i14:Int):List (Nat×Own):=[(M6 25 (Q192 a0)),(9,.row 57 [(.int .i64 (Q191 a0 i6 i14).Kind),(.int .i64 (Q191 a0 i6 i14).Bits),(.int .i64 (Q191 a0 i6 i14).Lanes),(.int .i64 (Q191 a0 i6 i14).Dst),(AV.list 1 Au 0 (Q191 a0 i6 i14).Args .none),(.int .u64 (Q191 a0 i6 i14).Imm)])]
def Hu(a0:TFunc)(a2:Int):Option Bool:=
 ((Ah (Ep a0) (0:Int)).bind (fun x4=>(match x4 with|(.inl _)=>((Ah (Er a0 a2) (0:Int)).bind (fun x29=>(match x29 with|(.inl _)=>((Cm a0.Ret).bind fun x31=>(some x31))|(.inr r32)=>(some r32))))|(.inr r33)=>(some r33))))
theorem Vu(a0:TFunc)(a2:Int)(r:Bool)(h:Hu a0 a2=some r):Spec Tryz.prog 48 [(Z35 a0),(Z7 a2)] [] (.bool r) []:=by
 refine Ac mix Tryz.func48 (fun Γ hq=>?_);unfold Hu at h;refine Af hq M5 [2] ?_;refine Af hq zzN88 [2] ?_;obtain⟨x4,hx4,h⟩:=bind_some h;refine gL hq hx4 zzN88 [2] (fun u i1=>(Eu u [(5,(Z7 i1))] [])) (fun u x_=>match x_ with|(.inl _)=>aG Γ (.exit 0) (Oz M5 [2] u [] [])|(.inr r_)=>aR (J0 Γ a0 a2 r_)) ?_ ?_
 ·intro i1 y h;unfold Ep at h;refine Af hq [1,2,5,15] [2] ?_;refine gC h ?_ ?_<;>intro h
  ·obtain⟨hc2,h⟩:=Aa h;obtain⟨x3,hx3,h⟩:=bind_some h;refine gR hq [1,2,5,24] [2] [] [(Z2 x3)] (ci hc2 (c1 (Fl (a0.Params.getD i1.toNat 0) x3 hx3))) ?_;refine gC h ?_ ?_<;>intro h
   ·refine Af hq [4] [] ?_;cases h;exact gO (L0 (J7 [] (Le.refl _ _)))
   ·refine Af hq zzN88 [2] ?_;cases h;exact gN Cr
  ·cases h;exact gO (Bk (B2 M5 [2] hq))
 ·clear hx4;rcases x4 with _|r33
  ·refine gA ?_;refine Af hq zzN135 [2] ?_;obtain⟨x29,hx29,h⟩:=bind_some h;refine gL hq hx29 zzN135 [2] (fun u i6=>(Eu u [(6,(Z7 i6))] [])) (fun u x_=>match x_ with|(.inl _)=>aG Γ (.exit 2) (Oz [2] [2] u [] [])|(.inr r_)=>aR (J0 Γ a0 a2 r_)) ?_ ?_
   ·intro i6 y h;unfold Er at h;refine Af hq [1,2,6,29] [2] ?_;refine gC h ?_ ?_<;>intro h
    ·refine Af hq [1,2,6,7] [2] ?_;obtain⟨x12,hx12,h⟩:=bind_some h;refine gL hq hx12 [1,2,6,7] [2] (fun u i7=>(Eu u [(7,(Z7 i7))] [])) (fun u x_=>match x_ with|(.inl _)=>aG Γ (.exit 4) (Oz zzN135 [2] u [] [])|(.inr r_)=>aR (J0 Γ a0 a2 r_)) ?_ ?_
     ·intro i7 y h;unfold Dq at h;obtain⟨hc8,h⟩:=Aa h;refine gR hq [1,2,6,7,40] [2] [] [] (c1 hc8) ?_;refine gC h ?_ ?_<;>intro h
      ·obtain⟨hc9,h⟩:=Aa h;obtain⟨hc10,h⟩:=Aa h;obtain⟨x11,hx11,h⟩:=bind_some h;refine gR hq [1,2,6,7,54] [2] [] [(Z2 x11)] (ci hc9 (ci hc10 (c1 (Fl ((((a0.Blocks.getD i6.toNat default).Phis).getD i7.toNat default).Bits) x11 hx11)))) ?_;refine gC h ?_ ?_<;>intro h
       ·refine Af hq [4] [] ?_;cases h;exact gO (L0 (J7 [] (Le.refl _ _)))
       ·refine Af hq [1,2,6,7] [2] ?_;cases h;exact gN Cr
      ·cases h;exact gO (Bk (B2 zzN135 [2] hq))
     ·clear hx12;rcases x12 with _|r28
      ·refine gA ?_;refine Af hq [1,2,6,8] [2] ?_;obtain⟨x25,hx25,h⟩:=bind_some h;refine gL hq hx25 [1,2,6,8] [2] (fun u i14=>(Eu u [(8,(Z7 i14))] [])) (fun u x_=>match x_ with|(.inl _)=>aG Γ (.exit 6) (Oz zzN135 [2] u [] [])|(.inr r_)=>aR (J0 Γ a0 a2 r_)) ?_ ?_
       ·intro i14 y h;unfold Dr at h;obtain⟨hc15,h⟩:=Aa h;refine gR hq [1,2,6,8,63] [2] [] [] (c1 hc15) ?_;refine gC h ?_ ?_<;>intro h
        ·obtain⟨hc16,h⟩:=Aa h;obtain⟨hc17,h⟩:=Aa h;refine gR hq [1,2,6,8,9] [2,9] [] [] (ci hc16 (c1 hc17)) ?_;refine Af hq zzN84 [2,9] ?_;obtain⟨x19,hx19,h⟩:=bind_some h;refine gJ hx19 (fun i18=>aG Γ .normal (⟨[(1,(Z7 a2)),Ra,(6,(Z7 i6)),(8,(Z7 i14)),(9,(.ptr 9 0)),(10,(Z7 i18))],(Q194 a0 i6 i14),[]⟩:St)) ?_ ?_
         ·clear h hx19;intro y h;refine Af hq [1,2,6,8,9,10,76] [2,9] ?_;refine gC h ?_ ?_<;>intro h
          ·refine Af hq zzN84 [2,9] ?_;cases h;exact gK (Bk Cr)
          ·cases h;exact gK (Bk (B2 zzN84 [2,9] hq))
         ·clear hx19;refine gA ?_;obtain⟨x22,hx22,h⟩:=bind_some h;refine gJ hx22 (fun i21=>aG Γ .normal (⟨[(1,(Z7 a2)),Ra,(6,(Z7 i6)),(8,(Z7 i14)),(9,(.ptr 9 0)),(10,(Z7 i21))],(Q194 a0 i6 i14),[]⟩:St)) ?_ ?_
          ·clear h hx22;intro y h;refine Af hq [1,2,6,8,9,10,78] [2,9] ?_;refine gC h ?_ ?_<;>intro h
           ·refine Af hq zzN84 [2,9] ?_;cases h;exact gK (Bk Cr)
           ·obtain rfl:=OI h;exact gK (Bk (B2 zzN84 [2,9] hq))
          ·clear hx22;refine gA ?_;obtain⟨x24,hx24,h⟩:=bind_some h;refine gR hq [1,2,6,8,96] [2] [] [(Z2 x24)] (ci (Mx (Q191 a0 i6 i14) x24 hx24) (ci (gI ((!x24)==false)) (ci (gI ((!x24)==false)) (ci (gI ((!x24)==false)) (ci (J1 (!x24)) (ci (gI ((Q193 x24 x22 a0 i6 i14)==false)) (ci (gI ((Q193 x24 x22 a0 i6 i14)==false)) (ci (gI (((Q193 x24 x22 a0 i6 i14)==false)&&((decide (a2<2))==true))) (ci (gI (((Q193 x24 x22 a0 i6 i14)==false)&&((decide (a2<2))==true))) (ci (gI ((Q193 x24 x22 a0 i6 i14)==false)) (ci (show(((Q193 x24 x22 a0 i6 i14)==false)=true->((decide (a2<2))=true->(((Q193 x24 x22 a0 i6 i14)==false)&&((decide (a2<2))==true))=true)) from(fun hg=>(aT hg))) (c1 (J1 (Q193 x24 x22 a0 i6 i14)))))))))))))) ?_;refine gC h ?_ ?_<;>intro h
           ·refine Af hq [4] [] ?_;cases h;exact gO (L0 (J7 [] (Le.refl _ _)))
           ·refine Af hq [1,2,6,8] [2] ?_;cases h;exact gN Cr
        ·cases h;exact gO (Bk (B2 zzN135 [2] hq))
       ·clear hx25;rcases x25 with _|r27
        ·refine gA ?_;refine Af hq zzN135 [2] ?_;cases h;exact gN Cr
        ·refine N2 (fun st' hk=>?_);cases h;exact gO (L0 hk)
      ·refine N2 (fun st' hk=>?_);cases h;exact gO (L0 hk)
    ·cases h;exact gO (Bk (B2 [2] [2] hq))
   ·clear hx29;rcases x29 with _|r32
    ·refine gA ?_;obtain⟨x31,hx31,h⟩:=bind_some h;refine gR hq [4] [] [] [(Z2 x31)] (c1 (Fl a0.Ret x31 hx31)) ?_;obtain rfl:=OI h;exact Cf []
    ·refine N2 (fun st' hk=>?_);obtain rfl:=OI h;exact gK hk
  ·refine N2 (fun st' hk=>?_);obtain rfl:=OI h;exact gK hk
def Gc(a1:C1):Option (Int×Int):=
 ((F2 a1).bind fun x1=>(bif (bif (bif (!x1) then true else(a1.Kind==17)) then true else(a1.Kind==19)) then(some ((0:Int),(0:Int))) else(bif (bif (decide (((10:Int):Int)<=a1.Kind)) then(decide (a1.Kind<=12)) else false) then(some ((1:Int),(1:Int))) else(bif (a1.Kind==22) then(some (a1.Bits,(1:Int))) else(some (a1.Bits,a1.Lanes))))))
theorem Vn(a1:C1)(r:(Int×Int))(h:Gc a1=some r):Spec Tryz.prog 84 (Z69 a1) [] (.tuple [(Z7 r.1),(Z7 r.2)]) []:=by
 refine Ac mix Tryz.func84 (fun Γ hq=>?_);unfold Gc at h;refine Af hq [1] [1] ?_;obtain⟨x1,hx1,h⟩:=bind_some h;refine gR hq [1,16] [1] [] [(Z2 x1)] (ci (Mx a1 x1 hx1) (ci (gI ((!x1)==false)) (ci (gI ((!x1)==false)) (ci (J1 (!x1)) (ci (gI ((bif (!x1) then true else(a1.Kind==17))==false)) (ci (gI ((bif (!x1) then true else(a1.Kind==17))==false)) (c1 (J1 (bif (!x1) then true else(a1.Kind==17)))))))))) ?_;refine gC h ?_ ?_<;>intro h
 ·refine Af hq F5 [] ?_;cases h;exact Cf []
 ·refine gR hq [1,24] [1] [] [] (ci (gI ((decide (((10:Int):Int)<=a1.Kind))==true)) (ci (gI ((decide (((10:Int):Int)<=a1.Kind))==true)) (c1 (M7 (decide (((10:Int):Int)<=a1.Kind)))))) ?_;refine gC h ?_ ?_<;>intro h
  ·refine Af hq F5 [] ?_;cases h;exact Cf []
  ·refine Af hq [1,27] [1] ?_;refine gC h ?_ ?_<;>intro h
   ·refine Af hq F5 [] ?_;cases h;exact Cf []
   ·refine Af hq F5 [] ?_;cases h;exact Cf []
def Gz(a0:TFunc):(List Bz×Int)->Option (LR (List Bz×Int) (List Bz)):=
 fun((l1,i2):(List Bz×Int))=>(bif (decide (i2<(a0.Params.length:Int))) then(A6 (A2 i2 a0.Params.length) (A6 (l1.length+([(⟨(w64 (i2+1)),(-1:Int),(0:Int),((a0.Params.getD i2.toNat 0),(1:Int))⟩:Bz)]:List Bz).length<=room) (some (.next ((l1++([(⟨(w64 (i2+1)),(-1:Int),(0:Int),((a0.Params.getD i2.toNat 0),(1:Int))⟩:Bz)]:List Bz)),(w64 (i2+1))))))) else(some (.done l1)))
def E3(a0:TFunc)(i9:Int):(List Bz×Int)->Option (LR (List Bz×Int) (List Bz)):=
 fun((l12,i13):(List Bz×Int))=>(bif (decide (i13<(((a0.Blocks.getD i9.toNat default).Phis).length:Int))) then(A6 (A2 i13 ((a0.Blocks.getD i9.toNat default).Phis).length) (A6 (A2 i13 ((a0.Blocks.getD i9.toNat default).Phis).length) (A6 (l12.length+([(⟨(((a0.Blocks.getD i9.toNat default).Phis).getD i13.toNat default).Dst,i9,(-1:Int),((((a0.Blocks.getD i9.toNat default).Phis).getD i13.toNat default).Bits,(1:Int))⟩:Bz)]:List Bz).length<=room) (some (.next ((l12++([(⟨(((a0.Blocks.getD i9.toNat default).Phis).getD i13.toNat default).Dst,i9,(-1:Int),((((a0.Blocks.getD i9.toNat default).Phis).getD i13.toNat default).Bits,(1:Int))⟩:Bz)]:List Bz)),(w64 (i13+1)))))))) else(some (.done l12)))
def E4(a0:TFunc)(i9:Int):(List Bz×Int)->Option (LR (List Bz×Int) (List Bz)):=
 fun((l20,i21):(List Bz×Int))=>(bif (decide (i21<(((a0.Blocks.getD i9.toNat default).Ops).length:Int))) then(Option.bind (α:=List Bz) (A6 (A2 i21 ((a0.Blocks.getD i9.toNat default).Ops).length) ((Gc (((a0.Blocks.getD i9.toNat default).Ops).getD i21.toNat default)).bind fun x25=>(bif (decide (((0:Int):Int)<x25.1)) then(A6 (A2 i21 ((a0.Blocks.getD i9.toNat default).Ops).length) (A6 (l20.length+([(⟨(((a0.Blocks.getD i9.toNat default).Ops).getD i21.toNat default).Dst,i9,i21,(x25.1,x25.2)⟩:Bz)]:List Bz).length<=room) (some (l20++([(⟨(((a0.Blocks.getD i9.toNat default).Ops).getD i21.toNat default).Dst,i9,i21,(x25.1,x25.2)⟩:Bz)]:List Bz))))) else(some l20)))) (fun x28=>(some (.next (x28,(w64 (i21+1))))))) else(some (.done l20)))
def G0(a0:TFunc):(List Bz×Int)->Option (LR (List Bz×Int) (List Bz)):=
 fun((l8,i9):(List Bz×Int))=>(bif (decide (i9<(a0.Blocks.length:Int))) then(A6 (A2 i9 a0.Blocks.length) ((Ah (E3 a0 i9) (l8,(0:Int))).bind (fun x18=>((Ah (E4 a0 i9) (x18,(0:Int))).bind (fun x30=>(some (.next (x30,(w64 (i9+1)))))))))) else(some (.done l8)))
def Q200(a0:TFunc)(i9:Int):=(a0.Blocks.getD i9.toNat default)
def Q198(a0:TFunc):List AV:=[(Z8 a0.Params),(Z7 a0.Ret),(Z16 a0.Blocks)]
def Q197(i2:Int)(a0:TFunc):=([(⟨(w64 (i2+1)),(-1:Int),(0:Int),((a0.Params.getD i2.toNat 0),(1:Int))⟩:Bz)]:List Bz)
def Q196(a0:TFunc)(i9:Int)(i21:Int)(x25:(Int×Int)):=([(⟨(((Q200 a0 i9).Ops).getD i21.toNat default).Dst,i9,i21,(x25.1,x25.2)⟩:Bz)]:List Bz)
def Q201(a0:TFunc):=(⟨[Xo,(3,(AV.list 5 Oq default ([]:List Bz) (.own 5003))),(4,Pq)],[(1,.row 25 (Q198 a0)),(5003,.tok 5 90 (([]:List Bz).length))],[]⟩:St)
def Q195(a0:TFunc)(i9:Int)(i13:Int):=([(⟨(((Q200 a0 i9).Phis).getD i13.toNat default).Dst,i9,(-1:Int),((((Q200 a0 i9).Phis).getD i13.toNat default).Bits,(1:Int))⟩:Bz)]:List Bz)
def Iq(a0:TFunc):Option (List Bz):=
 ((Ah (Gz a0) (([]:List Bz),(0:Int))).bind (fun x6=>((Ah (G0 a0) (x6,(0:Int))).bind (fun x32=>(some x32)))))
theorem Xc(a0:TFunc)(r:List Bz)(h:Iq a0=some r):Spec Tryz.prog 49 [(Z35 a0)] [] (AV.list 5 Oq default r (.own 20000)) [(Mj 20000 90 r.length)]:=by
 refine Ac mix Tryz.func49 (fun Γ hq=>?_);unfold Iq at h;refine gR hq [1] [1] [(2,(AV.list 5 Oq default ([]:List Bz) .exact))] [] (c1 (Dh 5 Oq (default:Bz))) ?_;refine gR hq Kn [1] [(3,(AV.list 5 Oq default ([]:List Bz) .exact))] [] (c1 (Dh 5 Oq (default:Bz))) ?_;refine Af hq Ko [1] ?_;refine Or (st':=(Q201 a0)) (Le.trans (B2 (st':=⟨[Xo,(3,(AV.list 5 Oq default ([]:List Bz) .exact)),(4,Pq)],[(1,.row 25 (Q198 a0))],[]⟩) Ko [1] hq) (Le.trans (Nw (t:=3) (nm:=5003) (sz':=5) (fun i=>Oq (([]:List Bz).getD i default)) 90 rfl rfl (.inl ⟨rfl,rfl⟩) (fun h_=>absurd h_ (by decide))) (B2 (st':=(Q201 a0)) Ko Mg hq))) ?_;obtain⟨x6,hx6,h⟩:=bind_some h;refine gL hq hx6 Ko Mg (fun u (l1,i2)=>(Eu u [(Z37 l1),(4,(Z7 i2))] [(Mj 5003 90 l1.length)])) (fun u l3=>aG Γ (.exit 0) (Oz Kn Mg u [(Z37 l3)] [(Mj 5003 90 l3.length)])) ?_ ?_
 ·rintro⟨l1,i2⟩ y h;unfold Gz at h;refine Af hq [1,3,4,15] Mg ?_;refine gC h ?_ ?_<;>intro h
  ·obtain⟨hc4,h⟩:=Aa h;obtain⟨hc5,h⟩:=Aa h;refine gR hq Ko Mg (Z48 28 (Q197 i2 a0) 29 l1) [] (ci hc4 (ci (Bx 5 Oq (default:Bz) (Q197 i2 a0)) (ci (Eq.refl l1.length) (ci hc5 (ci (Ix 5 5003 Oq (default:Bz) l1 (Q197 i2 a0)) (c1 (Fe l1 (Q197 i2 a0)))))))) ?_;refine Af hq Ko Mg ?_;cases h;exact gN Cr
  ·cases h;exact gO (Bk (B2 Kn Mg hq))
 ·clear hx6;refine gA ?_;refine Af hq zzN132 Mg ?_;obtain⟨x32,hx32,h⟩:=bind_some h;refine gL hq hx32 zzN132 Mg (fun u (l8,i9)=>(Eu u [(Z37 l8),(5,(Z7 i9))] [(Mj 5003 90 l8.length)])) (fun u l10=>aG Γ (.exit 2) (⟨[(Z37 l10)],[(Mj 5003 90 l10.length)],[]⟩:St)) ?_ ?_
  ·rintro⟨l8,i9⟩ y h;unfold G0 at h;refine Af hq [1,3,5,34] Mg ?_;refine gC h ?_ ?_<;>intro h
   ·obtain⟨hc11,h⟩:=Aa h;refine gR hq zzN69 Ro [] [] (c1 hc11) ?_;refine Af hq zzN107 Ro ?_;obtain⟨x18,hx18,h⟩:=bind_some h;refine gL hq hx18 zzN107 Ro (fun u (l12,i13)=>(Eu u [(Z37 l12),(7,(Z7 i13))] [(Mj 5003 90 l12.length)])) (fun u l14=>aG Γ (.exit 4) (Oz zzN69 Ro u [(Z37 l14)] [(Mj 5003 90 l14.length)])) ?_ ?_
    ·rintro⟨l12,i13⟩ y h;unfold E3 at h;refine Af hq [1,3,5,6,7,46] Ro ?_;refine gC h ?_ ?_<;>intro h
     ·obtain⟨hc15,h⟩:=Aa h;obtain⟨hc16,h⟩:=Aa h;obtain⟨hc17,h⟩:=Aa h;refine gR hq zzN107 Ro (Z48 65 (Q195 a0 i9 i13) 66 l12) [] (ci hc15 (ci hc16 (ci (Bx 5 Oq (default:Bz) (Q195 a0 i9 i13)) (ci (Eq.refl l12.length) (ci hc17 (ci (Ix 5 5003 Oq (default:Bz) l12 (Q195 a0 i9 i13)) (c1 (Fe l12 (Q195 a0 i9 i13))))))))) ?_;refine Af hq zzN107 Ro ?_;cases h;exact gN Cr
     ·cases h;exact gO (Bk (B2 zzN69 Ro hq))
    ·clear hx18;refine gA ?_;refine Af hq zzN108 Ro ?_;obtain⟨x30,hx30,h⟩:=bind_some h;refine gL hq hx30 zzN108 Ro (fun u (l20,i21)=>(Eu u [(Z37 l20),(8,(Z7 i21))] [(Mj 5003 90 l20.length)])) (fun u l22=>aG Γ (.exit 6) (Oz zzN132 Mg u [(Z37 l22)] [(Mj 5003 90 l22.length)])) ?_ ?_
     ·rintro⟨l20,i21⟩ y h;unfold E4 at h;refine Af hq [1,3,5,6,8,71] Ro ?_;refine gC h ?_ ?_<;>intro h
      ·obtain⟨x28,hx28,h⟩:=bind_some h;refine gJ hx28 (fun l23=>aG Γ .normal (⟨[Xo,(Z37 l23),(5,(Z7 i9)),(6,(.ptr 6 0)),(8,(Z7 i21))],[(1,.row 25 (Q198 a0)),(6,.row 53 [(AV.list 4 Xt default (Q200 a0 i9).Phis .none),(AV.list 6 Nv default (Q200 a0 i9).Ops .none),(.int .i64 (Q200 a0 i9).End.Kind),(.int .i64 (Q200 a0 i9).End.Arg),(AV.list 1 Au 0 (Q200 a0 i9).End.To .none)]),(Mj 5003 90 l23.length)],[]⟩:St)) ?_ ?_
       ·clear h hx28;intro y h;obtain⟨hc24,h⟩:=Aa h;obtain⟨x25,hx25,h⟩:=bind_some h;refine gR hq [1,3,5,6,8,9,10] Ro [] [(Z77 x25.1 x25.2)] (ci hc24 (c1 (Vn (((Q200 a0 i9).Ops).getD i21.toNat default) x25 hx25))) ?_;refine Af hq [1,3,5,6,8,9,10,84] Ro ?_;refine gC h ?_ ?_<;>intro h
        ·obtain⟨hc26,h⟩:=Aa h;obtain⟨hc27,h⟩:=Aa h;refine gR hq zzN108 Ro (Z48 98 (Q196 a0 i9 i21 x25) 99 l20) [] (ci hc26 (ci (Bx 5 Oq (default:Bz) (Q196 a0 i9 i21 x25)) (ci (Eq.refl l20.length) (ci hc27 (ci (Ix 5 5003 Oq (default:Bz) l20 (Q196 a0 i9 i21 x25)) (c1 (Fe l20 (Q196 a0 i9 i21 x25)))))))) ?_;cases h;exact gK (Bk Cr)
        ·obtain rfl:=OI h;exact gK (Bk (B2 zzN108 Ro hq))
       ·clear hx28;refine gA ?_;refine Af hq zzN108 Ro ?_;cases h;exact gN Cr
      ·cases h;exact gO (Bk (B2 zzN132 Mg hq))
     ·clear hx30;refine gA ?_;refine Af hq zzN132 Mg ?_;cases h;exact gN Cr
   ·cases h;exact gO (Bk (B2 [3] [5003] hq))
  ·clear hx32;refine gA ?_;refine Af hq [2] [5003] ?_;obtain rfl:=OI h;exact Cf zzN180
def E5(aV:List Bz)(aC:Int):Int->Option (LR Int (Unit ⊕ Int)):=
 fun(i1:Int)=>(bif (decide (i1<(aV.length:Int))) then(A6 (A2 i1 aV.length) (bif (((aV.getD i1.toNat default).V:Int)==aC) then(some (.done (.inr i1))) else(some (.next (w64 (i1+1)))))) else(some (.done (.inl ()))))
def Xn(Γ:Iw)(aV:List Bz)(aC:Int)(r:Int):Exit->St->Prop:=fK Tryz.prog Γ Tryz.f51.results.toList [] (.int .i64 r) []
def Eb(aV:List Bz)(aC:Int):Option Int:=
 ((Ah (E5 aV aC) (0:Int)).bind (fun x3=>(match x3 with|(.inl _)=>(some (-1:Int))|(.inr r5)=>(some r5))))
theorem J2(aV:List Bz)(aC:Int)(r:Int)(h:Eb aV aC=some r):Spec Tryz.prog 51 [(AV.list 5 Oq default aV .none),(Z7 aC)] [] (.int .i64 r) []:=by
 refine Ac mix Tryz.func51 (fun Γ hq=>?_);unfold Eb at h;refine Af hq Jy [] ?_;refine Af hq Ow [] ?_;obtain⟨x3,hx3,h⟩:=bind_some h;refine gL hq hx3 Ow [] (fun u i1=>(Eu u [(5,(Z7 i1))] [])) (fun u x_=>match x_ with|(.inl _)=>aG Γ (.exit 0) (⟨[],[],[]⟩:St)|(.inr r_)=>aR (Xn Γ aV aC r_)) ?_ ?_
 ·intro i1 y h;unfold E5 at h;refine Af hq [0,1,5,9] [] ?_;refine gC h ?_ ?_<;>intro h
  ·obtain⟨hc2,h⟩:=Aa h;refine gR hq [0,1,5,18] [] [] [] (c1 hc2) ?_;refine gC h ?_ ?_<;>intro h
   ·refine Af hq [4] [] ?_;cases h;exact gO (L0 (J7 [] (Le.refl _ _)))
   ·refine Af hq Ow [] ?_;cases h;exact gN Cr
  ·cases h;exact gO (Bk (B2 [] [] hq))
 ·clear hx3;rcases x3 with _|r5
  ·refine gA ?_;refine Af hq [4] [] ?_;cases h;exact Cf []
  ·refine N2 (fun st' hk=>?_);obtain rfl:=OI h;exact gK hk
def Gf(a1:C1):(List (Int×Int)×Int)->Option (LR (List (Int×Int)×Int) (List (Int×Int))):=
 fun((l2,i3):(List (Int×Int)×Int))=>(bif (decide (i3<(a1.Args.length:Int))) then(Option.bind (α:=(Int×Int)) (Option.bind (α:=Bool) (bif (a1.Kind==13) then(some (a1.Kind==13)) else(some (a1.Kind==20))) (fun x8=>(bif x8 then(bif (i3==0) then(some ((1:Int),(1:Int))) else(some (a1.Bits,a1.Lanes))) else(Option.bind (α:=Bool) (bif (a1.Kind==14) then(some (a1.Kind==14)) else(some (a1.Kind==15))) (fun x11=>(bif x11 then(some ((w64 a1.Imm),(1:Int))) else(Option.bind (α:=Bool) (bif (a1.Kind==16) then(some (a1.Kind==16)) else(some (a1.Kind==17))) (fun x14=>(bif x14 then(bif (i3==0) then(some ((64:Int),(1:Int))) else(some (a1.Bits,a1.Lanes))) else(Option.bind (α:=Bool) (bif (a1.Kind==18) then(some (a1.Kind==18)) else(some (a1.Kind==19))) (fun x17=>(bif x17 then(Option.bind (α:=(Int×Int)) (bif (i3==0) then(some ((1:Int),(1:Int))) else(some (a1.Bits,a1.Lanes))) (fun x21=>(match x21 with|(i19,i20)=>(bif (i3==1) then(some ((64:Int),(1:Int))) else(some (i19,i20)))))) else(bif (a1.Kind==21) then(some (a1.Bits,(1:Int))) else(some (a1.Bits,a1.Lanes))))))))))))))) (fun x23=>(match x23 with|(i5,i6)=>(A6 (l2.length+([(i5,i6)]:List (Int×Int)).length<=room) (some (.next ((l2++([(i5,i6)]:List (Int×Int))),(w64 (i3+1))))))))) else(some (.done l2)))
def Q206(a1:C1):List AV:=[(Z7 a1.Bits),(Z7 a1.Lanes)]
def Q204(l2:List ((Int×Int))):AV:=(Z39 l2 5003)
def Q203:AV:=Z34
def Q202(a1:C1):List AV:=[(Z7 a1.Kind),(Z7 a1.Bits),(Z7 a1.Lanes),(Z7 a1.Dst),(Z8 a1.Args),(.int .u64 a1.Imm)]
def Q207(a1:C1)(l2:List ((Int×Int))):List (Nat×Own):=[(1,.row 57 (Q202 a1)),(5,.row 88 (Q206 a1)),(5003,.tok 2 88 l2.length)]
def Q205:List (Nat×AV):=[Xo,(3,(AV.list 2 Bp ((0:Int),(0:Int)) ([]:List (Int×Int)) (.own 5003))),(4,Pq)]
def Gd(a1:C1):Option (List (Int×Int)):=
 ((F2 a1).bind fun x1=>(bif (!x1) then(some ([]:List (Int×Int))) else((Ah (Gf a1) (([]:List (Int×Int)),(0:Int))).bind (fun x26=>(some x26)))))
theorem Vp(a1:C1)(r:List ((Int×Int)))(h:Gd a1=some r):Spec Tryz.prog 85 (Z69 a1) [] (Z39 r 20000) [(20000,.tok 2 88 r.length)]:=by
 refine Ac mix Tryz.func85 (fun Γ hq=>?_);unfold Gd at h;refine gR hq [1] [1] [(2,Q203)] [] (c1 (Dh 2 Bp ((0:Int),(0:Int)))) ?_;refine gR hq Kn [1] [(3,Q203)] [] (c1 (Dh 2 Bp ((0:Int),(0:Int)))) ?_;obtain⟨x1,hx1,h⟩:=bind_some h;refine gR hq [1,3,8] [1] [] [(Z2 x1)] (c1 (Mx a1 x1 hx1)) ?_;refine gC h ?_ ?_<;>intro h
 ·refine gR hq [2] [] [(2,Q203)] [] (c1 (Dh 2 Bp ((0:Int),(0:Int)))) ?_;refine Ri (⟨[(2,Q203)],[],[]⟩:St) ?_;cases h;exact gK (e:=.ret) (J7 [(6002,20000)] (show Le Γ _ (Z64:St) from Le.trans (B2 (st':=⟨[(2,Q203)],[],[]⟩) [2] [] hq) (Le.trans (Nw (t:=2) (nm:=6002) (sz':=2) (fun i=>Bp (([]:List (Int×Int)).getD i ((0:Int),(0:Int)))) 88 rfl rfl (.inl ⟨rfl,rfl⟩) (fun h_=>absurd h_ (by decide))) (B2 (st':=Z64) [2] [6002] hq))))
 ·refine Af hq Ko [1] ?_;refine Or (st':=⟨Q205,[(1,.row 57 (Q202 a1)),(5003,.tok 2 88 (([]:List (Int×Int)).length))],[]⟩) (Le.trans (B2 (st':=⟨[Xo,(3,Q203),(4,Pq)],[(1,.row 57 (Q202 a1))],[]⟩) Ko [1] hq) (Le.trans (Nw (t:=3) (nm:=5003) (sz':=2) (fun i=>Bp (([]:List (Int×Int)).getD i ((0:Int),(0:Int)))) 88 rfl rfl (.inl ⟨rfl,rfl⟩) (fun h_=>absurd h_ (by decide))) (B2 (st':=⟨Q205,[(1,.row 57 (Q202 a1)),(5003,.tok 2 88 (([]:List (Int×Int)).length))],[]⟩) Ko Mg hq))) ?_;obtain⟨x26,hx26,h⟩:=bind_some h;refine gL hq hx26 Ko Mg (fun u (l2,i3)=>(Eu u [(3,(Q204 l2)),(4,(Z7 i3))] [(5003,.tok 2 88 l2.length)])) (fun u l4=>aG Γ (.exit 0) (⟨[(3,(Z39 l4 5003))],[(5003,.tok 2 88 l4.length)],[]⟩:St)) ?_ ?_
  ·rintro⟨l2,i3⟩ y h;unfold Gf at h;refine Af hq [1,3,4,13] Mg ?_;refine gC h ?_ ?_<;>intro h
   ·refine Af hq Ln Jz ?_;obtain⟨x23,hx23,h⟩:=bind_some h;refine gJ hx23 (fun(i5,i6)=>aG Γ .normal (⟨[Xo,(3,(Q204 l2)),(4,(Z7 i3)),Z79],[(1,.row 57 (Q202 a1)),(5,.row 88 [(Z7 i5),(Z7 i6)]),(5003,.tok 2 88 l2.length)],[]⟩:St)) ?_ ?_
    ·clear h hx23;intro y h;refine Af hq [1,3,4,5,22] Jz ?_;obtain⟨x8,hx8,h⟩:=bind_some h;refine gJ hx8 (fun b7=>aG Γ .normal (⟨[Xo,(3,(Q204 l2)),(4,(Z7 i3)),Z79,(22,(Z7 a1.Kind)),(23,(.bool b7))],(Q207 a1 l2),[]⟩:St)) ?_ ?_
     ·clear h hx8;intro y h;refine Af hq [1,3,4,5,22,23] Jz ?_;refine gC h ?_ ?_<;>intro h
      ·cases h;exact gK (Bk Cr)
      ·refine Af hq [1,3,4,5,22,23] Jz ?_;cases h;exact gK (Bk Cr)
     ·clear hx8;refine gA ?_;refine gC h ?_ ?_<;>intro h
      ·refine Af hq [1,3,4,5,27] Jz ?_;refine gC h ?_ ?_<;>intro h
       ·refine Af hq Ln Jz ?_;cases h;exact gK (Bk Cr)
       ·cases h;exact gK (Bk (B2 Ln Jz hq))
      ·obtain⟨x11,hx11,h⟩:=bind_some h;refine gJ hx11 (fun b10=>aG Γ .normal (⟨[Xo,(3,(Q204 l2)),(4,(Z7 i3)),Z79,(22,(Z7 a1.Kind)),(29,(.bool b10))],(Q207 a1 l2),[]⟩:St)) ?_ ?_
       ·clear h hx11;intro y h;refine Af hq [1,3,4,5,22,29] Jz ?_;refine gC h ?_ ?_<;>intro h
        ·cases h;exact gK (Bk Cr)
        ·refine Af hq [1,3,4,5,22,29] Jz ?_;cases h;exact gK (Bk Cr)
       ·clear hx11;refine gA ?_;refine gC h ?_ ?_<;>intro h
        ·refine Af hq Ln Jz ?_;cases h;exact gK (Bk Cr)
        ·obtain⟨x14,hx14,h⟩:=bind_some h;refine gJ hx14 (fun b13=>aG Γ .normal (⟨[Xo,(3,(Q204 l2)),(4,(Z7 i3)),Z79,(22,(Z7 a1.Kind)),(36,(.bool b13))],(Q207 a1 l2),[]⟩:St)) ?_ ?_
         ·clear h hx14;intro y h;refine Af hq [1,3,4,5,22,36] Jz ?_;refine gC h ?_ ?_<;>intro h
          ·cases h;exact gK (Bk Cr)
          ·refine Af hq [1,3,4,5,22,36] Jz ?_;cases h;exact gK (Bk Cr)
         ·clear hx14;refine gA ?_;refine gC h ?_ ?_<;>intro h
          ·refine Af hq [1,3,4,5,40] Jz ?_;refine gC h ?_ ?_<;>intro h
           ·refine Af hq Ln Jz ?_;cases h;exact gK (Bk Cr)
           ·cases h;exact gK (Bk (B2 Ln Jz hq))
          ·obtain⟨x17,hx17,h⟩:=bind_some h;refine gJ hx17 (fun b16=>aG Γ .normal (⟨[Xo,(3,(Q204 l2)),(4,(Z7 i3)),Z79,(22,(Z7 a1.Kind)),(42,(.bool b16))],(Q207 a1 l2),[]⟩:St)) ?_ ?_
           ·clear h hx17;intro y h;refine Af hq [1,3,4,5,22,42] Jz ?_;refine gC h ?_ ?_<;>intro h
            ·cases h;exact gK (Bk Cr)
            ·refine Af hq [1,3,4,5,22,42] Jz ?_;cases h;exact gK (Bk Cr)
           ·clear hx17;refine gA ?_;refine gC h ?_ ?_<;>intro h
            ·obtain⟨x21,hx21,h⟩:=bind_some h;refine gJ hx21 (fun(i19,i20)=>aG Γ .normal (⟨[Xo,(3,(Q204 l2)),(4,(Z7 i3)),Z79],[(1,.row 57 (Q202 a1)),(5,.row 88 [(Z7 i19),(Z7 i20)]),(5003,.tok 2 88 l2.length)],[]⟩:St)) ?_ ?_
             ·clear h hx21;intro y h;refine Af hq [1,3,4,5,46] Jz ?_;refine gC h ?_ ?_<;>intro h
              ·refine Af hq Ln Jz ?_;cases h;exact gK (Bk Cr)
              ·cases h;exact gK (Bk (B2 Ln Jz hq))
             ·clear hx21;rcases x21 with⟨i19,i20⟩;refine gA ?_;refine Af hq [1,3,4,5,49] Jz ?_;refine gC h ?_ ?_<;>intro h
              ·refine Af hq Ln Jz ?_;cases h;exact gK (Bk Cr)
              ·cases h;exact gK (Bk (B2 Ln Jz hq))
            ·refine Af hq [1,3,4,5,51] Jz ?_;refine gC h ?_ ?_<;>intro h
             ·refine Af hq Ln Jz ?_;cases h;exact gK (Bk Cr)
             ·cases h;exact gK (Bk (B2 Ln Jz hq))
    ·clear hx23;rcases x23 with⟨i5,i6⟩;refine gA ?_;obtain⟨hc25,h⟩:=Aa h;refine gR hq Ko Mg [(58,(AV.list 2 Bp ((0:Int),(0:Int)) ([(i5,i6)]:List (Int×Int)) .exact)),(59,(AV.list 2 Bp ((0:Int),(0:Int)) (l2++([(i5,i6)]:List (Int×Int))) (.own 5003)))] [] (ci (Bx 2 Bp ((0:Int),(0:Int)) ([(i5,i6)]:List (Int×Int))) (ci (Eq.refl l2.length) (ci hc25 (ci (Ix 2 5003 Bp ((0:Int),(0:Int)) l2 ([(i5,i6)]:List (Int×Int))) (c1 (Fe l2 ([(i5,i6)]:List (Int×Int)))))))) ?_;refine Af hq Ko Mg ?_;cases h;exact gN Cr
   ·cases h;exact gO (Bk (B2 [3] [5003] hq))
  ·clear hx26;refine gA ?_;refine Af hq [2] [5003] ?_;obtain rfl:=OI h;exact Cf zzN180
end
end Go.Proofs.YtmkiepobhjiabaaGreat
