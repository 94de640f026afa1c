/-
  The machine, the program's functions and the laws' arithmetic: part 5 of 5.
-/
import Derived.Test.YtemgdalocjcbhaaGreatPk4
import Derived.OpenShut
import Derived.ShutString
set_option linter.unusedVariables false
set_option linter.unusedSimpArgs false
namespace Go.Proofs.YtemgdalocjcbhaaGreat
noncomputable section
open Go Go.RowKit
set_option maxRecDepth 100000
set_option maxHeartbeats 2000000
def B9(aB:List TOp):(Int×Int×Int×List Ab×List (List Int)×List Int)→Option (LR (Int×Int×Int×List Ab×List (List Int)×List Int) ((Int×Int×List Ab×List (List Int)×List Int) ⊕ (Int×Int×Int×List Ab×List (List Int)×List Int))):=
 fun((i1,i2,i3,l4,l5,l6):(Int×Int×Int×List Ab×List (List Int)×List Int))=>(bif (decide (i1<(aB.length:Int))) then((Ch l5 i2 i3 l6 l4).bind fun x12=>(Av (l5.length=x12.2.2.2.2.1.length) (Av (l6.length=x12.2.2.2.2.2.length) (bif (!x12.1) then(some (.done (.inr ((9:Int),x12.2.1,x12.2.2.1,x12.2.2.2.1,x12.2.2.2.2.1,x12.2.2.2.2.2)))) else(Option.bind (α:=(List Int×Int×Int×Int×List Ab×List (List Int)×List Int)) (Av (A4 i1 aB.length) (bif (decide ((aB.getD i1.toNat default).Kind=(0:Int))) then(Av (A4 i1 aB.length) ((Fj (aB.getD i1.toNat default)).bind fun x25=>(some (x25.1,x25.2,x12.2.1,x12.2.2.1,x12.2.2.2.1,x12.2.2.2.2.1,x12.2.2.2.2.2)))) else(bif (decide ((aB.getD i1.toNat default).Kind=(13:Int))) then(Av (A4 i1 aB.length) ((D4 (aB.getD i1.toNat default) x12.2.2.2.2.1 x12.2.1 x12.2.2.1 x12.2.2.2.2.2 x12.2.2.2.1).bind fun x28=>(some (x28.1,x28.2,x12.2.1,x12.2.2.1,x12.2.2.2.1,x12.2.2.2.2.1,x12.2.2.2.2.2)))) else(bif (decide ((aB.getD i1.toNat default).Kind=(14:Int))) then(Av (A4 i1 aB.length) ((C6 (aB.getD i1.toNat default) x12.2.2.2.2.1 x12.2.1 x12.2.2.1 x12.2.2.2.2.2 x12.2.2.2.1).bind fun x31=>(some (x31.1,x31.2,x12.2.1,x12.2.2.1,x12.2.2.2.1,x12.2.2.2.2.1,x12.2.2.2.2.2)))) else(bif (decide ((aB.getD i1.toNat default).Kind=(15:Int))) then(Av (A4 i1 aB.length) ((Cv (aB.getD i1.toNat default) x12.2.2.2.2.1 x12.2.1 x12.2.2.1 x12.2.2.2.2.2 x12.2.2.2.1).bind fun x34=>(some (x34.1,x34.2,x12.2.1,x12.2.2.1,x12.2.2.2.1,x12.2.2.2.2.1,x12.2.2.2.2.2)))) else(bif (decide ((aB.getD i1.toNat default).Kind=(16:Int))) then(Av (A4 i1 aB.length) ((Dk (aB.getD i1.toNat default) x12.2.2.2.2.1 x12.2.1 x12.2.2.1 x12.2.2.2.2.2 x12.2.2.2.1).bind fun x37=>(Av (x12.2.2.2.2.1.length=x37.2.2.2.2.2.1.length) (Av (x12.2.2.2.2.2.length=x37.2.2.2.2.2.2.length) (some (x37.1,x37.2.1,x37.2.2.1,x37.2.2.2.1,x37.2.2.2.2.1,x37.2.2.2.2.2.1,x37.2.2.2.2.2.2)))))) else(bif (decide ((aB.getD i1.toNat default).Kind=(17:Int))) then(Av (A4 i1 aB.length) ((Cd (aB.getD i1.toNat default) x12.2.2.2.2.1 x12.2.1 x12.2.2.1 x12.2.2.2.2.2 x12.2.2.2.1).bind fun x42=>(Av (x12.2.2.2.2.1.length=x42.2.2.2.2.2.1.length) (Av (x12.2.2.2.2.2.length=x42.2.2.2.2.2.2.length) (some (x42.1,x42.2.1,x42.2.2.1,x42.2.2.2.1,x42.2.2.2.2.1,x42.2.2.2.2.2.1,x42.2.2.2.2.2.2)))))) else(bif (decide ((aB.getD i1.toNat default).Kind=(18:Int))) then(Av (A4 i1 aB.length) ((C5 (aB.getD i1.toNat default) x12.2.2.2.2.1 x12.2.1 x12.2.2.1 x12.2.2.2.2.2 x12.2.2.2.1).bind fun x47=>(Av (x12.2.2.2.2.1.length=x47.2.2.2.2.2.1.length) (Av (x12.2.2.2.2.2.length=x47.2.2.2.2.2.2.length) (some (x47.1,x47.2.1,x47.2.2.1,x47.2.2.2.1,x47.2.2.2.2.1,x47.2.2.2.2.2.1,x47.2.2.2.2.2.2)))))) else(bif (decide ((aB.getD i1.toNat default).Kind=(19:Int))) then(Av (A4 i1 aB.length) ((Ct (aB.getD i1.toNat default) x12.2.2.2.2.1 x12.2.1 x12.2.2.1 x12.2.2.2.2.2 x12.2.2.2.1).bind fun x52=>(Av (x12.2.2.2.2.1.length=x52.2.2.2.2.2.1.length) (Av (x12.2.2.2.2.2.length=x52.2.2.2.2.2.2.length) (some (x52.1,x52.2.1,x52.2.2.1,x52.2.2.2.1,x52.2.2.2.2.1,x52.2.2.2.2.2.1,x52.2.2.2.2.2.2)))))) else(bif (decide ((aB.getD i1.toNat default).Kind=(20:Int))) then(Av (A4 i1 aB.length) ((Cu (aB.getD i1.toNat default) (4:Int) x12.2.2.2.2.1 x12.2.1 x12.2.2.1 x12.2.2.2.2.2 x12.2.2.2.1).bind fun x57=>(some (x57.1,x57.2,x12.2.1,x12.2.2.1,x12.2.2.2.1,x12.2.2.2.2.1,x12.2.2.2.2.2)))) else(bif (decide ((aB.getD i1.toNat default).Kind=(21:Int))) then(Av (A4 i1 aB.length) ((Es (aB.getD i1.toNat default) x12.2.2.2.2.1 x12.2.1 x12.2.2.1 x12.2.2.2.2.2 x12.2.2.2.1).bind fun x60=>(some (x60.1,x60.2,x12.2.1,x12.2.2.1,x12.2.2.2.1,x12.2.2.2.2.1,x12.2.2.2.2.2)))) else(bif (decide ((aB.getD i1.toNat default).Kind=(22:Int))) then(Av (A4 i1 aB.length) ((Fb (aB.getD i1.toNat default) x12.2.2.2.2.1 x12.2.1 x12.2.2.1 x12.2.2.2.2.2 x12.2.2.2.1).bind fun x63=>(some (x63.1,x63.2,x12.2.1,x12.2.2.1,x12.2.2.2.1,x12.2.2.2.2.1,x12.2.2.2.2.2)))) else(bif (decide ((aB.getD i1.toNat default).Kind=(1:Int))) then(Av (A4 i1 aB.length) ((Ah (aB.getD i1.toNat default) (1:Int) x12.2.2.2.2.1 x12.2.1 x12.2.2.1 x12.2.2.2.2.2 x12.2.2.2.1).bind fun x66=>(some (x66.1,x66.2,x12.2.1,x12.2.2.1,x12.2.2.2.1,x12.2.2.2.2.1,x12.2.2.2.2.2)))) else(bif (decide ((aB.getD i1.toNat default).Kind=(2:Int))) then(Av (A4 i1 aB.length) ((Ah (aB.getD i1.toNat default) (2:Int) x12.2.2.2.2.1 x12.2.1 x12.2.2.1 x12.2.2.2.2.2 x12.2.2.2.1).bind fun x69=>(some (x69.1,x69.2,x12.2.1,x12.2.2.1,x12.2.2.2.1,x12.2.2.2.2.1,x12.2.2.2.2.2)))) else(bif (decide ((aB.getD i1.toNat default).Kind=(3:Int))) then(Av (A4 i1 aB.length) ((Ah (aB.getD i1.toNat default) (3:Int) x12.2.2.2.2.1 x12.2.1 x12.2.2.1 x12.2.2.2.2.2 x12.2.2.2.1).bind fun x72=>(some (x72.1,x72.2,x12.2.1,x12.2.2.1,x12.2.2.2.1,x12.2.2.2.2.1,x12.2.2.2.2.2)))) else(bif (decide ((aB.getD i1.toNat default).Kind=(4:Int))) then(Av (A4 i1 aB.length) ((Ah (aB.getD i1.toNat default) (4:Int) x12.2.2.2.2.1 x12.2.1 x12.2.2.1 x12.2.2.2.2.2 x12.2.2.2.1).bind fun x75=>(some (x75.1,x75.2,x12.2.1,x12.2.2.1,x12.2.2.2.1,x12.2.2.2.2.1,x12.2.2.2.2.2)))) else(bif (decide ((aB.getD i1.toNat default).Kind=(5:Int))) then(Av (A4 i1 aB.length) ((Ah (aB.getD i1.toNat default) (5:Int) x12.2.2.2.2.1 x12.2.1 x12.2.2.1 x12.2.2.2.2.2 x12.2.2.2.1).bind fun x78=>(some (x78.1,x78.2,x12.2.1,x12.2.2.1,x12.2.2.2.1,x12.2.2.2.2.1,x12.2.2.2.2.2)))) else(bif (decide ((aB.getD i1.toNat default).Kind=(6:Int))) then(Av (A4 i1 aB.length) ((Ah (aB.getD i1.toNat default) (6:Int) x12.2.2.2.2.1 x12.2.1 x12.2.2.1 x12.2.2.2.2.2 x12.2.2.2.1).bind fun x81=>(some (x81.1,x81.2,x12.2.1,x12.2.2.1,x12.2.2.2.1,x12.2.2.2.2.1,x12.2.2.2.2.2)))) else(bif (decide ((aB.getD i1.toNat default).Kind=(7:Int))) then(Av (A4 i1 aB.length) ((Ah (aB.getD i1.toNat default) (7:Int) x12.2.2.2.2.1 x12.2.1 x12.2.2.1 x12.2.2.2.2.2 x12.2.2.2.1).bind fun x84=>(some (x84.1,x84.2,x12.2.1,x12.2.2.1,x12.2.2.2.1,x12.2.2.2.2.1,x12.2.2.2.2.2)))) else(bif (decide ((aB.getD i1.toNat default).Kind=(8:Int))) then(Av (A4 i1 aB.length) ((Ah (aB.getD i1.toNat default) (8:Int) x12.2.2.2.2.1 x12.2.1 x12.2.2.1 x12.2.2.2.2.2 x12.2.2.2.1).bind fun x87=>(some (x87.1,x87.2,x12.2.1,x12.2.2.1,x12.2.2.2.1,x12.2.2.2.2.1,x12.2.2.2.2.2)))) else(bif (decide ((aB.getD i1.toNat default).Kind=(9:Int))) then(Av (A4 i1 aB.length) ((Ah (aB.getD i1.toNat default) (9:Int) x12.2.2.2.2.1 x12.2.1 x12.2.2.1 x12.2.2.2.2.2 x12.2.2.2.1).bind fun x90=>(some (x90.1,x90.2,x12.2.1,x12.2.2.1,x12.2.2.2.1,x12.2.2.2.2.1,x12.2.2.2.2.2)))) else(bif (decide ((aB.getD i1.toNat default).Kind=(10:Int))) then(Av (A4 i1 aB.length) ((Ah (aB.getD i1.toNat default) (10:Int) x12.2.2.2.2.1 x12.2.1 x12.2.2.1 x12.2.2.2.2.2 x12.2.2.2.1).bind fun x93=>(some (x93.1,x93.2,x12.2.1,x12.2.2.1,x12.2.2.2.1,x12.2.2.2.2.1,x12.2.2.2.2.2)))) else(bif (decide ((aB.getD i1.toNat default).Kind=(11:Int))) then(Av (A4 i1 aB.length) ((Ah (aB.getD i1.toNat default) (11:Int) x12.2.2.2.2.1 x12.2.1 x12.2.2.1 x12.2.2.2.2.2 x12.2.2.2.1).bind fun x96=>(some (x96.1,x96.2,x12.2.1,x12.2.2.1,x12.2.2.2.1,x12.2.2.2.2.1,x12.2.2.2.2.2)))) else(bif (decide ((aB.getD i1.toNat default).Kind=(12:Int))) then(Av (A4 i1 aB.length) ((Ah (aB.getD i1.toNat default) (12:Int) x12.2.2.2.2.1 x12.2.1 x12.2.2.1 x12.2.2.2.2.2 x12.2.2.2.1).bind fun x99=>(some (x99.1,x99.2,x12.2.1,x12.2.2.1,x12.2.2.2.1,x12.2.2.2.2.1,x12.2.2.2.2.2)))) else none)))))))))))))))))))))))) (fun(l15,i16,i17,i18,l19,l20,l21)=>(bif (i16 !=0) then(some (.done (.inr (i16,i17,i18,l19,l20,l21)))) else(Av (A4 i1 aB.length) (Av (A4 (aB.getD i1.toNat default).Dst l20.length) (some (.next ((Az (i1+1)),i17,i18,l19,(l20.set ((aB.getD i1.toNat default).Dst).toNat l15),l21)))))))))))) else(some (.done (.inl (i2,i3,l4,l5,l6)))))
def Pb(Γ:Eo)(aB:List TOp)(a0:List (List Int))(a3:Int)(a2:Int)(a4:List Int)(a6:List Ab)(r:(Int×Int×Int×List Ab×List (List Int)×List Int)):Exit→St→Prop:=fK Tryz.prog Γ Tryz.f70.results.toList (Z1 a0 a3 a2 a4 a6 a6.length) (Bc r.1) (Z1 r.2.2.2.2.1 r.2.1 r.2.2.1 r.2.2.2.2.2 r.2.2.2.1 r.2.2.2.1.length)
def Oo(x12:(Bool×Int×Int×List Ab×List (List Int)×List Int)):List AV:=(Z4 35100 x12.2.2.2.2.2.length x12.2.2.2.1 37101)
def Oy(x12:(Bool×Int×Int×List Ab×List (List Int)×List Int)):Own:=(.row 93 (Oo x12))
def O0(x12:(Bool×Int×Int×List Ab×List (List Int)×List Int)):AV:=(Bc x12.2.2.1)
def Ov:Own:=(.obj (.tab .i64 Ho))
def Ou(x12:(Bool×Int×Int×List Ab×List (List Int)×List Int)):Own:=(.tok 3 49 x12.2.2.2.1.length)
def Iq(aB:List TOp)(i1:Int):=(aB.getD i1.toNat default)
def Kg(aB:List TOp)(i1:Int):AV:=(.int .i64 (Iq aB i1).Kind)
def Oz(x12:(Bool×Int×Int×List Ab×List (List Int)×List Int)):AV:=(.vsl 35002 x12.2.2.2.2.1.length)
def Ot(x12:(Bool×Int×Int×List Ab×List (List Int)×List Int)):=(fun i=>Aw (x12.2.2.2.2.1.getD i []))
def Or(x12:(Bool×Int×Int×List Ab×List (List Int)×List Int)):=(fun i=>eU8 (x12.2.2.2.2.2.getD i 0))
def Ox(x12:(Bool×Int×Int×List Ab×List (List Int)×List Int)):Own:=(.arr 1 5 x12.2.2.2.2.2.length (Or x12))
def Ow(x12:(Bool×Int×Int×List Ab×List (List Int)×List Int)):Own:=(.arr 1 26 x12.2.2.2.2.1.length (Ot x12))
def Oq(x12:(Bool×Int×Int×List Ab×List (List Int)×List Int)):Own:=(.row 99 [(.ptr 30001 0),(.omap 9100001),(Oz x12),(Bc x12.2.1),(O0 x12)])
def Q141(x12:(Bool×Int×Int×List Ab×List (List Int)×List Int)):List (Nat×Own):=[(30000,.row 99 [(.ptr 30001 0),(.omap 9100001),(Oz x12),(Bc x12.2.1),(O0 x12)]),(30001,.row 93 (Oo x12)),(S6 37101 x12.2.2.2.1.length),(35002,.arr 1 26 x12.2.2.2.2.1.length (Ot x12)),(35100,.arr 1 5 x12.2.2.2.2.2.length (Or x12)),(Z54 9100001)]
def Cq(aB:List TOp)(a0:List (List Int))(a3:Int)(a2:Int)(a4:List Int)(a6:List Ab):Option (Int×Int×Int×List Ab×List (List Int)×List Int):=
 ((A0 (B9 aB) ((0:Int),a3,a2,a6,a0,a4)).bind (fun x104=>(match x104 with|(.inl (i7,i8,l9,l10,l11))=>(some ((0:Int),i7,i8,l9,l10,l11))|(.inr r106)=>(some r106))))
theorem It(aB:List TOp)(a0:List (List Int))(a3:Int)(a2:Int)(a4:List Int)(a6:List Ab)(r:(Int×Int×Int×List Ab×List (List Int)×List Int))(h:Cq aB a0 a3 a2 a4 a6=some r):Spec Tryz.prog 70 [(.ptr 30000 0),(AV.list 6 F6 default aB .none)] [(30000,.row 99 [(.ptr 30001 0),(.omap 9100001),(.vsl 35002 a0.length),(.int .i64 a3),(.int .i64 a2)]),(30001,.row 93 [(.vsl 35100 a4.length),(AV.list 3 Am default a6 (.own 37101))]),(37101,.tok 3 49 a6.length),(35002,.arr 1 26 a0.length (fun i=>Aw (a0.getD i []))),(35100,.arr 1 5 a4.length (fun i=>eU8 (a4.getD i 0))),(9100001,.obj (.tab .i64 Ho))] (.int .i64 r.1) [(30000,.row 99 [(.ptr 30001 0),(.omap 9100001),(.vsl 35002 r.2.2.2.2.1.length),(.int .i64 r.2.1),(.int .i64 r.2.2.1)]),(30001,.row 93 [(.vsl 35100 r.2.2.2.2.2.length),(AV.list 3 Am default r.2.2.2.1 (.own 37101))]),(37101,.tok 3 49 r.2.2.2.1.length),(35002,.arr 1 26 r.2.2.2.2.1.length (fun i=>Aw (r.2.2.2.2.1.getD i []))),(35100,.arr 1 5 r.2.2.2.2.2.length (fun i=>eU8 (r.2.2.2.2.2.getD i 0))),(9100001,.obj (.tab .i64 Ho))]:=by
 refine Ac mix Tryz.func70 (fun Γ hq=>?_);unfold Cq at h;refine Af hq [0,1] [30000,30001,35002,35100,37101,9100001] ?_;refine Af hq [0,1,9,10] [30000,30001,35002,35100,37101,9100001] ?_;obtain⟨x104,hx104,h⟩:=bind_some h;refine gL hq hx104 [0,1,9,10] [30000,30001,35002,35100,37101,9100001] (fun u (i1,i2,i3,l4,l5,l6)=>(Cz u [(Jg 10 i1)] [(X0 l5.length i2 i3),(X1 30001 35100 l6.length l4 37101),(W7 35002 l5),(Z9 35100 l6),(S6 37101 l4.length)])) (fun u x_=>match x_ with|(.inl (i7,i8,l9,l10,l11))=>aG Γ (.exit 0) (⟨[],(Z28 l10.length i7 i8 l11.length l9 l10 l11 l9.length),[]⟩:St)|(.inr r_)=>aR (Pb Γ aB a0 a3 a2 a4 a6 r_)) ?_ ?_
 ·rintro⟨i1,i2,i3,l4,l5,l6⟩ y h;unfold B9 at h;refine Af hq [0,1,9,10,11] [30000,30001,35002,35100,37101,9100001] ?_;refine gC h (fun h=>?_) (fun h=>?_)
  ·refine Af hq [0,1,5,9,10] [30000,30001,35002,35100,37101,9100001] ?_;obtain⟨x12,hx12,h⟩:=bind_some h;obtain⟨hc13,h⟩:=Aa h;obtain⟨hc14,h⟩:=Aa h;refine gR hq [0,1,5,9,10,15] [30000,30001,35002,35100,37101,9100001] [] [⟨[(30000,30000),(30001,30001),(37101,37101),(35002,35002),(35100,35100),(9100001,9100001)],[],(.bool x12.1),(Q141 x12),[],[]⟩] (c1 (Gq l5 i2 i3 l6 l4 x12 hx12)) ?_;refine gC h (fun h=>?_) (fun h=>?_)
   ·refine Af hq [4] [30000,30001,35002,35100,37101,9100001] ?_;cases h;exact gO (J6 (Fw [(30000,30000),(30001,30001),(37101,37101),(35002,35002),(35100,35100),(9100001,9100001)] (Le.refl _ _)))
   ·obtain⟨x100,hx100,h⟩:=bind_some h;refine gJR hx100 (fun(l15,i16,i17,i18,l19,l20,l21)=>aG Γ .normal (⟨[(0,(.ptr 30000 0)),(1,(AV.list 6 F6 default aB .none)),(5,(Bc i1)),(6,(Z55 l15)),(7,(Bc i16)),(9,(Mi aB.length)),(Jg 10 i1)],(Z28 l20.length i17 i18 l21.length l19 l20 l21 l19.length),[]⟩:St)) ?_ ?_
    ·clear h hx100;intro y h;obtain⟨hc22,h⟩:=Aa h;refine gB h (fun hs23 h=>?_) (fun hs23 h=>?_)
     ·obtain⟨hc24,h⟩:=Aa h;obtain⟨x25,hx25,h⟩:=bind_some h;refine gR hq [0,1,5,6,7,9,10] [31,30000,30001,35002,35100,37101,9100001] [(25,Ki)] [⟨[],[(20000,31)],(.tuple (Uq x25.1 x25.2)),[(20000,.tok 1 37 x25.1.length)],[],[]⟩] (ci hc22 (ci (show(AVle (Kg aB i1) Ki) from(Bn hs23)) (ci hc24 (c1 (Tj (Iq aB i1) x25 hx25))))) ?_;cases h;exact gK (B5 (B3 [0,1,5,6,7,9,10] [30000,30001,35002,35100,37101,9100001] hq))
     ·refine gB h (fun hs26 h=>?_) (fun hs26 h=>?_)
      ·obtain⟨hc27,h⟩:=Aa h;obtain⟨x28,hx28,h⟩:=bind_some h;refine gR hq [0,1,5,6,7,9,10] [30000,30001,35002,35100,37101,9100001] [(25,(Mi 13))] [⟨[(30000,30000),(30001,30001),(37101,37101),(35002,35002),(35100,35100),(9100001,9100001)],[],(.tuple [(Z55 x28.1),(Bc x28.2)]),(Q141 x12),[],[30000,30001,37101,35002,35100,9100001]⟩] (ci hc22 (ci (show(AVle (Kg aB i1) (Mi 13)) from(Bn hs26)) (ci hc27 (ci (Nv (Iq aB i1) x12.2.2.2.2.1 x12.2.1 x12.2.2.1 x12.2.2.2.2.2 x12.2.2.2.1 x28 hx28) (ci (rk (Oq x12)) (ci (rk (Oy x12)) (ci (rk (Ou x12)) (ci (rk (Ow x12)) (ci (rk (Ox x12)) (c1 (rk Ov))))))))))) ?_;cases h;exact gK (B5 Db)
      ·refine gB h (fun hs29 h=>?_) (fun hs29 h=>?_)
       ·obtain⟨hc30,h⟩:=Aa h;obtain⟨x31,hx31,h⟩:=bind_some h;refine gR hq [0,1,5,6,7,9,10] [31,30000,30001,35002,35100,37101,9100001] [(25,(Mi 14))] [⟨[(30000,30000),(30001,30001),(37101,37101),(35002,35002),(35100,35100),(9100001,9100001)],[(20000,31)],(.tuple (Uq x31.1 x31.2)),(Z5 (Oz x12) x12.2.1 (O0 x12) (Oo x12) x12.2.2.2.1.length x12.2.2.2.2.1.length (Ot x12) x12.2.2.2.2.2.length (Or x12) x31.1.length),[],[30000,30001,37101,35002,35100,9100001]⟩] (ci hc22 (ci (show(AVle (Kg aB i1) (Mi 14)) from(Bn hs29)) (ci hc30 (ci (Lm (Iq aB i1) x12.2.2.2.2.1 x12.2.1 x12.2.2.1 x12.2.2.2.2.2 x12.2.2.2.1 x31 hx31) (ci (rk (Oq x12)) (ci (rk (Oy x12)) (ci (rk (Ou x12)) (ci (rk (Ow x12)) (ci (rk (Ox x12)) (c1 (rk Ov))))))))))) ?_;cases h;exact gK (B5 (B3 [0,1,5,6,7,9,10] [30000,30001,35002,35100,37101,9100001] hq))
       ·refine gB h (fun hs32 h=>?_) (fun hs32 h=>?_)
        ·obtain⟨hc33,h⟩:=Aa h;obtain⟨x34,hx34,h⟩:=bind_some h;refine gR hq [0,1,5,6,7,9,10] [31,30000,30001,35002,35100,37101,9100001] [(25,(Mi 15))] [⟨[(30000,30000),(30001,30001),(37101,37101),(35002,35002),(35100,35100),(9100001,9100001)],[(20000,31)],(.tuple (Uq x34.1 x34.2)),(Z5 (Oz x12) x12.2.1 (O0 x12) (Oo x12) x12.2.2.2.1.length x12.2.2.2.2.1.length (Ot x12) x12.2.2.2.2.2.length (Or x12) x34.1.length),[],[30000,30001,37101,35002,35100,9100001]⟩] (ci hc22 (ci (show(AVle (Kg aB i1) (Mi 15)) from(Bn hs32)) (ci hc33 (ci (J2 (Iq aB i1) x12.2.2.2.2.1 x12.2.1 x12.2.2.1 x12.2.2.2.2.2 x12.2.2.2.1 x34 hx34) (ci (rk (Oq x12)) (ci (rk (Oy x12)) (ci (rk (Ou x12)) (ci (rk (Ow x12)) (ci (rk (Ox x12)) (c1 (rk Ov))))))))))) ?_;cases h;exact gK (B5 (B3 [0,1,5,6,7,9,10] [30000,30001,35002,35100,37101,9100001] hq))
        ·refine gB h (fun hs35 h=>?_) (fun hs35 h=>?_)
         ·obtain⟨hc36,h⟩:=Aa h;obtain⟨x37,hx37,h⟩:=bind_some h;obtain⟨hc38,h⟩:=Aa h;obtain⟨hc39,h⟩:=Aa h;refine gR hq [0,1,5,6,7,9,10] [31,30000,30001,35002,35100,37101,9100001] [(25,(Mi 16))] [⟨[(30000,30000),(30001,30001),(37101,37101),(35002,35002),(35100,35100),(9100001,9100001)],[(20000,31)],(.tuple (Uq x37.1 x37.2.1)),(Z20 x37.2.2.2.2.2.1.length x37.2.2.1 x37.2.2.2.1 x37.2.2.2.2.2.2.length x37.2.2.2.2.1 x37.2.2.2.2.1.length x37.2.2.2.2.2.1 x37.2.2.2.2.2.2 x37.1.length),[],[]⟩] (ci hc22 (ci (show(AVle (Kg aB i1) (Mi 16)) from(Bn hs35)) (ci hc36 (c1 (Jo (Iq aB i1) x12.2.2.2.2.1 x12.2.1 x12.2.2.1 x12.2.2.2.2.2 x12.2.2.2.1 x37 hx37))))) ?_;cases h;exact gK (B5 (B3 [0,1,5,6,7,9,10] [30000,30001,35002,35100,37101,9100001] hq))
         ·refine gB h (fun hs40 h=>?_) (fun hs40 h=>?_)
          ·obtain⟨hc41,h⟩:=Aa h;obtain⟨x42,hx42,h⟩:=bind_some h;obtain⟨hc43,h⟩:=Aa h;obtain⟨hc44,h⟩:=Aa h;refine gR hq [0,1,5,6,7,9,10] [31,30000,30001,35002,35100,37101,9100001] [(25,(Mi 17))] [⟨[(30000,30000),(30001,30001),(37101,37101),(35002,35002),(35100,35100),(9100001,9100001)],[(20000,31)],(.tuple (Uq x42.1 x42.2.1)),(Z20 x42.2.2.2.2.2.1.length x42.2.2.1 x42.2.2.2.1 x42.2.2.2.2.2.2.length x42.2.2.2.2.1 x42.2.2.2.2.1.length x42.2.2.2.2.2.1 x42.2.2.2.2.2.2 x42.1.length),[],[]⟩] (ci hc22 (ci (show(AVle (Kg aB i1) (Mi 17)) from(Bn hs40)) (ci hc41 (c1 (Iu (Iq aB i1) x12.2.2.2.2.1 x12.2.1 x12.2.2.1 x12.2.2.2.2.2 x12.2.2.2.1 x42 hx42))))) ?_;cases h;exact gK (B5 (B3 [0,1,5,6,7,9,10] [30000,30001,35002,35100,37101,9100001] hq))
          ·refine gB h (fun hs45 h=>?_) (fun hs45 h=>?_)
           ·obtain⟨hc46,h⟩:=Aa h;obtain⟨x47,hx47,h⟩:=bind_some h;obtain⟨hc48,h⟩:=Aa h;obtain⟨hc49,h⟩:=Aa h;refine gR hq [0,1,5,6,7,9,10] [30000,30001,35002,35100,37101,9100001] [(25,(Mi 18))] [⟨[(30000,30000),(30001,30001),(37101,37101),(35002,35002),(35100,35100),(9100001,9100001)],[],(.tuple [(Z55 x47.1),(Bc x47.2.1)]),(Z1 x47.2.2.2.2.2.1 x47.2.2.1 x47.2.2.2.1 x47.2.2.2.2.2.2 x47.2.2.2.2.1 x47.2.2.2.2.1.length),[],[]⟩] (ci hc22 (ci (show(AVle (Kg aB i1) (Mi 18)) from(Bn hs45)) (ci hc46 (c1 (Ll (Iq aB i1) x12.2.2.2.2.1 x12.2.1 x12.2.2.1 x12.2.2.2.2.2 x12.2.2.2.1 x47 hx47))))) ?_;cases h;exact gK (B5 Db)
           ·refine gB h (fun hs50 h=>?_) (fun hs50 h=>?_)
            ·obtain⟨hc51,h⟩:=Aa h;obtain⟨x52,hx52,h⟩:=bind_some h;obtain⟨hc53,h⟩:=Aa h;obtain⟨hc54,h⟩:=Aa h;refine gR hq [0,1,5,6,7,9,10] [30000,30001,35002,35100,37101,9100001] [(25,(Mi 19))] [⟨[(30000,30000),(30001,30001),(37101,37101),(35002,35002),(35100,35100),(9100001,9100001)],[],(.tuple [(Z55 x52.1),(Bc x52.2.1)]),(Z1 x52.2.2.2.2.2.1 x52.2.2.1 x52.2.2.2.1 x52.2.2.2.2.2.2 x52.2.2.2.2.1 x52.2.2.2.2.1.length),[],[]⟩] (ci hc22 (ci (show(AVle (Kg aB i1) (Mi 19)) from(Bn hs50)) (ci hc51 (c1 (J0 (Iq aB i1) x12.2.2.2.2.1 x12.2.1 x12.2.2.1 x12.2.2.2.2.2 x12.2.2.2.1 x52 hx52))))) ?_;cases h;exact gK (B5 Db)
            ·refine gB h (fun hs55 h=>?_) (fun hs55 h=>?_)
             ·obtain⟨hc56,h⟩:=Aa h;obtain⟨x57,hx57,h⟩:=bind_some h;refine gR hq [0,1,5,6,7,9,10] [30000,30001,35002,35100,37101,9100001] [(25,(Mi 20))] [⟨[(30000,30000),(30001,30001),(37101,37101),(35002,35002),(35100,35100),(9100001,9100001)],[],(.tuple [(Z55 x57.1),(Bc x57.2)]),(Q141 x12),[],[30000,30001,37101,35002,35100,9100001]⟩] (ci hc22 (ci (show(AVle (Kg aB i1) (Mi 20)) from(Bn hs55)) (ci hc56 (ci (J1 (Iq aB i1) (4:Int) x12.2.2.2.2.1 x12.2.1 x12.2.2.1 x12.2.2.2.2.2 x12.2.2.2.1 x57 hx57) (ci (rk (Oq x12)) (ci (rk (Oy x12)) (ci (rk (Ou x12)) (ci (rk (Ow x12)) (ci (rk (Ox x12)) (c1 (rk Ov))))))))))) ?_;cases h;exact gK (B5 Db)
             ·refine gB h (fun hs58 h=>?_) (fun hs58 h=>?_)
              ·obtain⟨hc59,h⟩:=Aa h;obtain⟨x60,hx60,h⟩:=bind_some h;refine gR hq [0,1,5,6,7,9,10] [31,30000,30001,35002,35100,37101,9100001] [(25,(Mi 21))] [⟨[(30000,30000),(30001,30001),(37101,37101),(35002,35002),(35100,35100),(9100001,9100001)],[(20000,31)],(.tuple (Uq x60.1 x60.2)),(Z5 (Oz x12) x12.2.1 (O0 x12) (Oo x12) x12.2.2.2.1.length x12.2.2.2.2.1.length (Ot x12) x12.2.2.2.2.2.length (Or x12) x60.1.length),[],[30000,30001,37101,35002,35100,9100001]⟩] (ci hc22 (ci (show(AVle (Kg aB i1) (Mi 21)) from(Bn hs58)) (ci hc59 (ci (Pz (Iq aB i1) x12.2.2.2.2.1 x12.2.1 x12.2.2.1 x12.2.2.2.2.2 x12.2.2.2.1 x60 hx60) (ci (rk (Oq x12)) (ci (rk (Oy x12)) (ci (rk (Ou x12)) (ci (rk (Ow x12)) (ci (rk (Ox x12)) (c1 (rk Ov))))))))))) ?_;cases h;exact gK (B5 (B3 [0,1,5,6,7,9,10] [30000,30001,35002,35100,37101,9100001] hq))
              ·refine gB h (fun hs61 h=>?_) (fun hs61 h=>?_)
               ·obtain⟨hc62,h⟩:=Aa h;obtain⟨x63,hx63,h⟩:=bind_some h;refine gR hq [0,1,5,6,7,9,10] [31,30000,30001,35002,35100,37101,9100001] [(25,(Mi 22))] [⟨[(30000,30000),(30001,30001),(37101,37101),(35002,35002),(35100,35100),(9100001,9100001)],[(20000,31)],(.tuple (Uq x63.1 x63.2)),(Z5 (Oz x12) x12.2.1 (O0 x12) (Oo x12) x12.2.2.2.1.length x12.2.2.2.2.1.length (Ot x12) x12.2.2.2.2.2.length (Or x12) x63.1.length),[],[30000,30001,37101,35002,35100,9100001]⟩] (ci hc22 (ci (show(AVle (Kg aB i1) (Mi 22)) from(Bn hs61)) (ci hc62 (ci (Q1 (Iq aB i1) x12.2.2.2.2.1 x12.2.1 x12.2.2.1 x12.2.2.2.2.2 x12.2.2.2.1 x63 hx63) (ci (rk (Oq x12)) (ci (rk (Oy x12)) (ci (rk (Ou x12)) (ci (rk (Ow x12)) (ci (rk (Ox x12)) (c1 (rk Ov))))))))))) ?_;cases h;exact gK (B5 (B3 [0,1,5,6,7,9,10] [30000,30001,35002,35100,37101,9100001] hq))
               ·refine gB h (fun hs64 h=>?_) (fun hs64 h=>?_)
                ·obtain⟨hc65,h⟩:=Aa h;obtain⟨x66,hx66,h⟩:=bind_some h;refine gR hq [0,1,5,6,7,9,10] [31,30000,30001,35002,35100,37101,9100001] [(25,Vn)] [⟨[(30000,30000),(30001,30001),(37101,37101),(35002,35002),(35100,35100),(9100001,9100001)],[(20000,31)],(.tuple (Uq x66.1 x66.2)),(Z5 (Oz x12) x12.2.1 (O0 x12) (Oo x12) x12.2.2.2.1.length x12.2.2.2.2.1.length (Ot x12) x12.2.2.2.2.2.length (Or x12) x66.1.length),[],[30000,30001,37101,35002,35100,9100001]⟩] (ci hc22 (ci (show(AVle (Kg aB i1) Vn) from(Bn hs64)) (ci hc65 (ci (A1 (Iq aB i1) (1:Int) x12.2.2.2.2.1 x12.2.1 x12.2.2.1 x12.2.2.2.2.2 x12.2.2.2.1 x66 hx66) (ci (rk (Oq x12)) (ci (rk (Oy x12)) (ci (rk (Ou x12)) (ci (rk (Ow x12)) (ci (rk (Ox x12)) (c1 (rk Ov))))))))))) ?_;cases h;exact gK (B5 (B3 [0,1,5,6,7,9,10] [30000,30001,35002,35100,37101,9100001] hq))
                ·refine gB h (fun hs67 h=>?_) (fun hs67 h=>?_)
                 ·obtain⟨hc68,h⟩:=Aa h;obtain⟨x69,hx69,h⟩:=bind_some h;refine gR hq [0,1,5,6,7,9,10] [31,30000,30001,35002,35100,37101,9100001] [(25,Z64)] [⟨[(30000,30000),(30001,30001),(37101,37101),(35002,35002),(35100,35100),(9100001,9100001)],[(20000,31)],(.tuple (Uq x69.1 x69.2)),(Z5 (Oz x12) x12.2.1 (O0 x12) (Oo x12) x12.2.2.2.1.length x12.2.2.2.2.1.length (Ot x12) x12.2.2.2.2.2.length (Or x12) x69.1.length),[],[30000,30001,37101,35002,35100,9100001]⟩] (ci hc22 (ci (show(AVle (Kg aB i1) Z64) from(Bn hs67)) (ci hc68 (ci (A1 (Iq aB i1) (2:Int) x12.2.2.2.2.1 x12.2.1 x12.2.2.1 x12.2.2.2.2.2 x12.2.2.2.1 x69 hx69) (ci (rk (Oq x12)) (ci (rk (Oy x12)) (ci (rk (Ou x12)) (ci (rk (Ow x12)) (ci (rk (Ox x12)) (c1 (rk Ov))))))))))) ?_;cases h;exact gK (B5 (B3 [0,1,5,6,7,9,10] [30000,30001,35002,35100,37101,9100001] hq))
                 ·refine gB h (fun hs70 h=>?_) (fun hs70 h=>?_)
                  ·obtain⟨hc71,h⟩:=Aa h;obtain⟨x72,hx72,h⟩:=bind_some h;refine gR hq [0,1,5,6,7,9,10] [31,30000,30001,35002,35100,37101,9100001] [(25,W9)] [⟨[(30000,30000),(30001,30001),(37101,37101),(35002,35002),(35100,35100),(9100001,9100001)],[(20000,31)],(.tuple (Uq x72.1 x72.2)),(Z5 (Oz x12) x12.2.1 (O0 x12) (Oo x12) x12.2.2.2.1.length x12.2.2.2.2.1.length (Ot x12) x12.2.2.2.2.2.length (Or x12) x72.1.length),[],[30000,30001,37101,35002,35100,9100001]⟩] (ci hc22 (ci (show(AVle (Kg aB i1) W9) from(Bn hs70)) (ci hc71 (ci (A1 (Iq aB i1) (3:Int) x12.2.2.2.2.1 x12.2.1 x12.2.2.1 x12.2.2.2.2.2 x12.2.2.2.1 x72 hx72) (ci (rk (Oq x12)) (ci (rk (Oy x12)) (ci (rk (Ou x12)) (ci (rk (Ow x12)) (ci (rk (Ox x12)) (c1 (rk Ov))))))))))) ?_;cases h;exact gK (B5 (B3 [0,1,5,6,7,9,10] [30000,30001,35002,35100,37101,9100001] hq))
                  ·refine gB h (fun hs73 h=>?_) (fun hs73 h=>?_)
                   ·obtain⟨hc74,h⟩:=Aa h;obtain⟨x75,hx75,h⟩:=bind_some h;refine gR hq [0,1,5,6,7,9,10] [31,30000,30001,35002,35100,37101,9100001] [(25,Z46)] [⟨[(30000,30000),(30001,30001),(37101,37101),(35002,35002),(35100,35100),(9100001,9100001)],[(20000,31)],(.tuple (Uq x75.1 x75.2)),(Z5 (Oz x12) x12.2.1 (O0 x12) (Oo x12) x12.2.2.2.1.length x12.2.2.2.2.1.length (Ot x12) x12.2.2.2.2.2.length (Or x12) x75.1.length),[],[30000,30001,37101,35002,35100,9100001]⟩] (ci hc22 (ci (show(AVle (Kg aB i1) Z46) from(Bn hs73)) (ci hc74 (ci (A1 (Iq aB i1) (4:Int) x12.2.2.2.2.1 x12.2.1 x12.2.2.1 x12.2.2.2.2.2 x12.2.2.2.1 x75 hx75) (ci (rk (Oq x12)) (ci (rk (Oy x12)) (ci (rk (Ou x12)) (ci (rk (Ow x12)) (ci (rk (Ox x12)) (c1 (rk Ov))))))))))) ?_;cases h;exact gK (B5 (B3 [0,1,5,6,7,9,10] [30000,30001,35002,35100,37101,9100001] hq))
                   ·refine gB h (fun hs76 h=>?_) (fun hs76 h=>?_)
                    ·obtain⟨hc77,h⟩:=Aa h;obtain⟨x78,hx78,h⟩:=bind_some h;refine gR hq [0,1,5,6,7,9,10] [31,30000,30001,35002,35100,37101,9100001] [(25,Z60)] [⟨[(30000,30000),(30001,30001),(37101,37101),(35002,35002),(35100,35100),(9100001,9100001)],[(20000,31)],(.tuple (Uq x78.1 x78.2)),(Z5 (Oz x12) x12.2.1 (O0 x12) (Oo x12) x12.2.2.2.1.length x12.2.2.2.2.1.length (Ot x12) x12.2.2.2.2.2.length (Or x12) x78.1.length),[],[30000,30001,37101,35002,35100,9100001]⟩] (ci hc22 (ci (show(AVle (Kg aB i1) Z60) from(Bn hs76)) (ci hc77 (ci (A1 (Iq aB i1) (5:Int) x12.2.2.2.2.1 x12.2.1 x12.2.2.1 x12.2.2.2.2.2 x12.2.2.2.1 x78 hx78) (ci (rk (Oq x12)) (ci (rk (Oy x12)) (ci (rk (Ou x12)) (ci (rk (Ow x12)) (ci (rk (Ox x12)) (c1 (rk Ov))))))))))) ?_;cases h;exact gK (B5 (B3 [0,1,5,6,7,9,10] [30000,30001,35002,35100,37101,9100001] hq))
                    ·refine gB h (fun hs79 h=>?_) (fun hs79 h=>?_)
                     ·obtain⟨hc80,h⟩:=Aa h;obtain⟨x81,hx81,h⟩:=bind_some h;refine gR hq [0,1,5,6,7,9,10] [31,30000,30001,35002,35100,37101,9100001] [(25,(.int .i64 (6:Int)))] [⟨[(30000,30000),(30001,30001),(37101,37101),(35002,35002),(35100,35100),(9100001,9100001)],[(20000,31)],(.tuple (Uq x81.1 x81.2)),(Z5 (Oz x12) x12.2.1 (O0 x12) (Oo x12) x12.2.2.2.1.length x12.2.2.2.2.1.length (Ot x12) x12.2.2.2.2.2.length (Or x12) x81.1.length),[],[30000,30001,37101,35002,35100,9100001]⟩] (ci hc22 (ci (show(AVle (Kg aB i1) (.int .i64 (6:Int))) from(Bn hs79)) (ci hc80 (ci (A1 (Iq aB i1) (6:Int) x12.2.2.2.2.1 x12.2.1 x12.2.2.1 x12.2.2.2.2.2 x12.2.2.2.1 x81 hx81) (ci (rk (Oq x12)) (ci (rk (Oy x12)) (ci (rk (Ou x12)) (ci (rk (Ow x12)) (ci (rk (Ox x12)) (c1 (rk Ov))))))))))) ?_;cases h;exact gK (B5 (B3 [0,1,5,6,7,9,10] [30000,30001,35002,35100,37101,9100001] hq))
                     ·refine gB h (fun hs82 h=>?_) (fun hs82 h=>?_)
                      ·obtain⟨hc83,h⟩:=Aa h;obtain⟨x84,hx84,h⟩:=bind_some h;refine gR hq [0,1,5,6,7,9,10] [31,30000,30001,35002,35100,37101,9100001] [(25,(.int .i64 (7:Int)))] [⟨[(30000,30000),(30001,30001),(37101,37101),(35002,35002),(35100,35100),(9100001,9100001)],[(20000,31)],(.tuple (Uq x84.1 x84.2)),(Z5 (Oz x12) x12.2.1 (O0 x12) (Oo x12) x12.2.2.2.1.length x12.2.2.2.2.1.length (Ot x12) x12.2.2.2.2.2.length (Or x12) x84.1.length),[],[30000,30001,37101,35002,35100,9100001]⟩] (ci hc22 (ci (show(AVle (Kg aB i1) (.int .i64 (7:Int))) from(Bn hs82)) (ci hc83 (ci (A1 (Iq aB i1) (7:Int) x12.2.2.2.2.1 x12.2.1 x12.2.2.1 x12.2.2.2.2.2 x12.2.2.2.1 x84 hx84) (ci (rk (Oq x12)) (ci (rk (Oy x12)) (ci (rk (Ou x12)) (ci (rk (Ow x12)) (ci (rk (Ox x12)) (c1 (rk Ov))))))))))) ?_;cases h;exact gK (B5 (B3 [0,1,5,6,7,9,10] [30000,30001,35002,35100,37101,9100001] hq))
                      ·refine gB h (fun hs85 h=>?_) (fun hs85 h=>?_)
                       ·obtain⟨hc86,h⟩:=Aa h;obtain⟨x87,hx87,h⟩:=bind_some h;refine gR hq [0,1,5,6,7,9,10] [31,30000,30001,35002,35100,37101,9100001] [(25,Z52)] [⟨[(30000,30000),(30001,30001),(37101,37101),(35002,35002),(35100,35100),(9100001,9100001)],[(20000,31)],(.tuple (Uq x87.1 x87.2)),(Z5 (Oz x12) x12.2.1 (O0 x12) (Oo x12) x12.2.2.2.1.length x12.2.2.2.2.1.length (Ot x12) x12.2.2.2.2.2.length (Or x12) x87.1.length),[],[30000,30001,37101,35002,35100,9100001]⟩] (ci hc22 (ci (show(AVle (Kg aB i1) Z52) from(Bn hs85)) (ci hc86 (ci (A1 (Iq aB i1) (8:Int) x12.2.2.2.2.1 x12.2.1 x12.2.2.1 x12.2.2.2.2.2 x12.2.2.2.1 x87 hx87) (ci (rk (Oq x12)) (ci (rk (Oy x12)) (ci (rk (Ou x12)) (ci (rk (Ow x12)) (ci (rk (Ox x12)) (c1 (rk Ov))))))))))) ?_;cases h;exact gK (B5 (B3 [0,1,5,6,7,9,10] [30000,30001,35002,35100,37101,9100001] hq))
                       ·refine gB h (fun hs88 h=>?_) (fun hs88 h=>?_)
                        ·obtain⟨hc89,h⟩:=Aa h;obtain⟨x90,hx90,h⟩:=bind_some h;refine gR hq [0,1,5,6,7,9,10] [31,30000,30001,35002,35100,37101,9100001] [(25,(.int .i64 (9:Int)))] [⟨[(30000,30000),(30001,30001),(37101,37101),(35002,35002),(35100,35100),(9100001,9100001)],[(20000,31)],(.tuple (Uq x90.1 x90.2)),(Z5 (Oz x12) x12.2.1 (O0 x12) (Oo x12) x12.2.2.2.1.length x12.2.2.2.2.1.length (Ot x12) x12.2.2.2.2.2.length (Or x12) x90.1.length),[],[30000,30001,37101,35002,35100,9100001]⟩] (ci hc22 (ci (show(AVle (Kg aB i1) (.int .i64 (9:Int))) from(Bn hs88)) (ci hc89 (ci (A1 (Iq aB i1) (9:Int) x12.2.2.2.2.1 x12.2.1 x12.2.2.1 x12.2.2.2.2.2 x12.2.2.2.1 x90 hx90) (ci (rk (Oq x12)) (ci (rk (Oy x12)) (ci (rk (Ou x12)) (ci (rk (Ow x12)) (ci (rk (Ox x12)) (c1 (rk Ov))))))))))) ?_;cases h;exact gK (B5 (B3 [0,1,5,6,7,9,10] [30000,30001,35002,35100,37101,9100001] hq))
                        ·refine gB h (fun hs91 h=>?_) (fun hs91 h=>?_)
                         ·obtain⟨hc92,h⟩:=Aa h;obtain⟨x93,hx93,h⟩:=bind_some h;refine gR hq [0,1,5,6,7,9,10] [31,30000,30001,35002,35100,37101,9100001] [(25,(Mi 10))] [⟨[(30000,30000),(30001,30001),(37101,37101),(35002,35002),(35100,35100),(9100001,9100001)],[(20000,31)],(.tuple (Uq x93.1 x93.2)),(Z5 (Oz x12) x12.2.1 (O0 x12) (Oo x12) x12.2.2.2.1.length x12.2.2.2.2.1.length (Ot x12) x12.2.2.2.2.2.length (Or x12) x93.1.length),[],[30000,30001,37101,35002,35100,9100001]⟩] (ci hc22 (ci (show(AVle (Kg aB i1) (Mi 10)) from(Bn hs91)) (ci hc92 (ci (A1 (Iq aB i1) (10:Int) x12.2.2.2.2.1 x12.2.1 x12.2.2.1 x12.2.2.2.2.2 x12.2.2.2.1 x93 hx93) (ci (rk (Oq x12)) (ci (rk (Oy x12)) (ci (rk (Ou x12)) (ci (rk (Ow x12)) (ci (rk (Ox x12)) (c1 (rk Ov))))))))))) ?_;cases h;exact gK (B5 (B3 [0,1,5,6,7,9,10] [30000,30001,35002,35100,37101,9100001] hq))
                         ·refine gB h (fun hs94 h=>?_) (fun hs94 h=>?_)
                          ·obtain⟨hc95,h⟩:=Aa h;obtain⟨x96,hx96,h⟩:=bind_some h;refine gR hq [0,1,5,6,7,9,10] [31,30000,30001,35002,35100,37101,9100001] [(25,(Mi 11))] [⟨[(30000,30000),(30001,30001),(37101,37101),(35002,35002),(35100,35100),(9100001,9100001)],[(20000,31)],(.tuple (Uq x96.1 x96.2)),(Z5 (Oz x12) x12.2.1 (O0 x12) (Oo x12) x12.2.2.2.1.length x12.2.2.2.2.1.length (Ot x12) x12.2.2.2.2.2.length (Or x12) x96.1.length),[],[30000,30001,37101,35002,35100,9100001]⟩] (ci hc22 (ci (show(AVle (Kg aB i1) (Mi 11)) from(Bn hs94)) (ci hc95 (ci (A1 (Iq aB i1) (11:Int) x12.2.2.2.2.1 x12.2.1 x12.2.2.1 x12.2.2.2.2.2 x12.2.2.2.1 x96 hx96) (ci (rk (Oq x12)) (ci (rk (Oy x12)) (ci (rk (Ou x12)) (ci (rk (Ow x12)) (ci (rk (Ox x12)) (c1 (rk Ov))))))))))) ?_;cases h;exact gK (B5 (B3 [0,1,5,6,7,9,10] [30000,30001,35002,35100,37101,9100001] hq))
                          ·refine gB h (fun hs97 h=>?_) (fun hs97 h=>?_)
                           ·obtain⟨hc98,h⟩:=Aa h;obtain⟨x99,hx99,h⟩:=bind_some h;refine gR hq [0,1,5,6,7,9,10] [31,30000,30001,35002,35100,37101,9100001] [(25,(Mi 12))] [⟨[(30000,30000),(30001,30001),(37101,37101),(35002,35002),(35100,35100),(9100001,9100001)],[(20000,31)],(.tuple (Uq x99.1 x99.2)),(Z5 (Oz x12) x12.2.1 (O0 x12) (Oo x12) x12.2.2.2.1.length x12.2.2.2.2.1.length (Ot x12) x12.2.2.2.2.2.length (Or x12) x99.1.length),[],[30000,30001,37101,35002,35100,9100001]⟩] (ci hc22 (ci (show(AVle (Kg aB i1) (Mi 12)) from(Bn hs97)) (ci hc98 (ci (A1 (Iq aB i1) (12:Int) x12.2.2.2.2.1 x12.2.1 x12.2.2.1 x12.2.2.2.2.2 x12.2.2.2.1 x99 hx99) (ci (rk (Oq x12)) (ci (rk (Oy x12)) (ci (rk (Ou x12)) (ci (rk (Ow x12)) (ci (rk (Ox x12)) (c1 (rk Ov))))))))))) ?_;cases h;exact gK (B5 (B3 [0,1,5,6,7,9,10] [30000,30001,35002,35100,37101,9100001] hq))
                           ·cases h
    ·clear hx100;rcases x100 with⟨l15,i16,i17,i18,l19,l20,l21⟩;refine gA ?_;refine Af hq [0,1,5,6,7,9,10,35] [30000,30001,35002,35100,37101,9100001] ?_;refine gC h (fun h=>?_) (fun h=>?_)
     ·refine Af hq [4] [30000,30001,35002,35100,37101,9100001] ?_;cases h;exact gO (J6 (Fw [(30000,30000),(30001,30001),(37101,37101),(35002,35002),(35100,35100),(9100001,9100001)] (Le.refl _ _)))
     ·obtain⟨hc102,h⟩:=Aa h;obtain⟨hc103,h⟩:=Aa h;refine gR hq [0,1,9,10] [30000,30001,35002,35100,37101,9100001] [] [] (ci hc102 (ci hc103 (c1 (Eq.refl l20.length)))) ?_;refine Ir (Le.trans (Lj 35002 (show ∀ k_,k_<l20.length→AVleL ((fun i_=>AV.eraseAll (fun n_=>Bl n_ [30000,30001,35002,35100,37101,9100001]) ((F1 (fun i=>Aw (l20.getD i [])) ((Iq aB i1).Dst).toNat 0 [(Z55 l15)]) i_)) k_) ((fun i=>Aw ((l20.set ((Iq aB i1).Dst).toNat l15).getD i [])) k_) from(A5 (List.length_set ..).symm (fun k_ hk_=>(congrArg (AV.eraseAll (fun n_=>Bl n_ [30000,30001,35002,35100,37101,9100001])) ((D2 (fun _ _=>rfl) (Ei hc103) rfl) k_ hk_)).trans rfl)))) (Lk (fun(k_:Nat) u=>(Cz u [] [(X0 k_ i17 i18),(35002,.arr 1 26 k_ (fun i=>Aw ((l20.set ((Iq aB i1).Dst).toNat l15).getD i [])))])) (show l20.length=(l20.set ((Iq aB i1).Dst).toNat l15).length from(List.length_set ..).symm))) ?_;refine Af hq [0,1,9,10] [30000,30001,35002,35100,37101,9100001] ?_;cases h;exact gN Db
  ·cases h;exact gO (B5 (B3 [] [30000,30001,35002,35100,37101,9100001] hq))
 ·clear hx104;rcases x104 with⟨i7,i8,l9,l10,l11⟩|r106
  ·refine gA ?_;refine Af hq [4] [30000,30001,35002,35100,37101,9100001] ?_;cases h;exact Bf [(30000,30000),(30001,30001),(37101,37101),(35002,35002),(35100,35100),(9100001,9100001)]
  ·refine Rf (fun st' hk=>?_);obtain rfl:=OI h;exact gK hk
def B1(aK:Int)(a0:List (List Int))(a3:Int)(a2:Int)(a4:List Int)(a6:List Ab):Option Fv:=
 (some (⟨aK,(0:Int),a2⟩:Fv))
theorem Cr(aK:Int)(a0:List (List Int))(a3:Int)(a2:Int)(a4:List Int)(a6:List Ab)(r:Fv)(h:B1 aK a0 a3 a2 a4 a6=some r):Spec Tryz.prog 71 [(.ptr 30000 0),(.int .i64 aK)] [(30000,.row 99 [(.ptr 30001 0),(.omap 9100001),(.vsl 35002 a0.length),(.int .i64 a3),(.int .i64 a2)]),(30001,.row 93 [(.vsl 35100 a4.length),(AV.list 3 Am default a6 (.own 37101))]),(37101,.tok 3 49 a6.length),(35002,.arr 1 26 a0.length (fun i=>Aw (a0.getD i []))),(35100,.arr 1 5 a4.length (fun i=>eU8 (a4.getD i 0))),(9100001,.obj (.tab .i64 Ho))] (.agg (eTRun r)) [(30000,.row 99 [(.ptr 30001 0),(.omap 9100001),(.vsl 35002 a0.length),(.int .i64 a3),(.int .i64 a2)]),(30001,.row 93 [(.vsl 35100 a4.length),(AV.list 3 Am default a6 (.own 37101))]),(37101,.tok 3 49 a6.length),(35002,.arr 1 26 a0.length (fun i=>Aw (a0.getD i []))),(35100,.arr 1 5 a4.length (fun i=>eU8 (a4.getD i 0))),(9100001,.obj (.tab .i64 Ho))]:=by
 refine Ac mix Tryz.func71 (fun Γ hq=>?_);unfold B1 at h;refine Af hq [0,1,4] [4,30000,30001,35002,35100,37101,9100001] ?_;refine Af hq [4] [4,30000,30001,35002,35100,37101,9100001] ?_;cases h;exact Bf [(30000,30000),(30001,30001),(37101,37101),(35002,35002),(35100,35100),(9100001,9100001)]
def Q148(a0:List (List Int))(a3:Int)(a2:Int)(a4:List Int)(a6:List Ab):List (Nat×Own):=(Z1 a0 a3 a2 a4 a6 a6.length)
def Dz(aK:Ha)(a0:List (List Int))(a3:Int)(a2:Int)(a4:List Int)(a6:List Ab):Option Int:=
 (bif (aK.Kind==2) then((Cg aK.Arg a0 a3 a2 a4 a6).bind fun x2=>(bif (!x2) then(Av (A4 (1:Int) aK.To.length) (some (aK.To.getD (1:Int).toNat (0:Int)))) else(Av (A4 (0:Int) aK.To.length) (some (aK.To.getD (0:Int).toNat (0:Int)))))) else(Av (A4 (0:Int) aK.To.length) (some (aK.To.getD (0:Int).toNat (0:Int)))))
theorem J8(aK:Ha)(a0:List (List Int))(a3:Int)(a2:Int)(a4:List Int)(a6:List Ab)(r:Int)(h:Dz aK a0 a3 a2 a4 a6=some r):Spec Tryz.prog 74 [(.ptr 30000 0),(.agg (eTEnd aK))] [(30000,.row 99 [(.ptr 30001 0),(.omap 9100001),(.vsl 35002 a0.length),(.int .i64 a3),(.int .i64 a2)]),(30001,.row 93 [(.vsl 35100 a4.length),(AV.list 3 Am default a6 (.own 37101))]),(37101,.tok 3 49 a6.length),(35002,.arr 1 26 a0.length (fun i=>Aw (a0.getD i []))),(35100,.arr 1 5 a4.length (fun i=>eU8 (a4.getD i 0))),(9100001,.obj (.tab .i64 Ho))] (.int .i64 r) [(30000,.row 99 [(.ptr 30001 0),(.omap 9100001),(.vsl 35002 a0.length),(.int .i64 a3),(.int .i64 a2)]),(30001,.row 93 [(.vsl 35100 a4.length),(AV.list 3 Am default a6 (.own 37101))]),(37101,.tok 3 49 a6.length),(35002,.arr 1 26 a0.length (fun i=>Aw (a0.getD i []))),(35100,.arr 1 5 a4.length (fun i=>eU8 (a4.getD i 0))),(9100001,.obj (.tab .i64 Ho))]:=by
 refine Ac mix Tryz.func74 (fun Γ hq=>?_);unfold Dz at h;refine Af hq [0,3] [3,30000,30001,35002,35100,37101,9100001] ?_;refine gB h (fun hs1 h=>?_) (fun hs1 h=>?_)
 ·obtain⟨x2,hx2,h⟩:=bind_some h;refine gR hq [3,14] [3,30000,30001,35002,35100,37101,9100001] [(8,(.bool true))] [⟨[(30000,30000),(30001,30001),(37101,37101),(35002,35002),(35100,35100),(9100001,9100001)],[],(.bool x2),(Q148 a0 a3 a2 a4 a6),[],[30000,30001,37101,35002,35100,9100001]⟩] (ci (show(AVle (.bool (aK.Kind==2)) (.bool true)) from(Kj hs1)) (ci (show((true==true)=true→(true==true)=true) from(fun _=>rfl)) (ci (show((true==true)=true→(true==true)=true) from(fun _=>rfl)) (ci (show((true==true)=true→(true==true)=true) from(fun _=>rfl)) (ci (show((true==true)=true→(Spec Tryz.prog 86 [(.ptr 30000 0),(Bc aK.Arg)] (Q148 a0 a3 a2 a4 a6) (.bool x2) (Q148 a0 a3 a2 a4 a6))) from(fun _=>(Dd aK.Arg a0 a3 a2 a4 a6 x2 hx2))) (ci (show((true==true)=true→(some (.row 99 (Z6 a0.length a3 a2):Own)=some (.row 99 (Z6 a0.length a3 a2):Own))) from(fun _=>@(rk (.row 99 (Z6 a0.length a3 a2))))) (ci (show((true==true)=true→(some (.row 93 (Z4 35100 a4.length a6 37101):Own)=some (.row 93 (Z4 35100 a4.length a6 37101):Own))) from(fun _=>@(rk (.row 93 (Z4 35100 a4.length a6 37101))))) (ci (show((true==true)=true→(some (.tok 3 49 a6.length:Own)=some (.tok 3 49 a6.length:Own))) from(fun _=>@(rk (.tok 3 49 a6.length)))) (ci (show((true==true)=true→(some (.arr 1 26 a0.length (fun i=>Aw (a0.getD i [])):Own)=some (.arr 1 26 a0.length (fun i=>Aw (a0.getD i [])):Own))) from(fun _=>@(rk (.arr 1 26 a0.length (fun i=>Aw (a0.getD i [])))))) (ci (show((true==true)=true→(some (.arr 1 5 a4.length (fun i=>eU8 (a4.getD i 0)):Own)=some (.arr 1 5 a4.length (fun i=>eU8 (a4.getD i 0)):Own))) from(fun _=>@(rk (.arr 1 5 a4.length (fun i=>eU8 (a4.getD i 0)))))) (ci (show((true==true)=true→(some (.obj (.tab .i64 Ho):Own)=some (.obj (.tab .i64 Ho):Own))) from(fun _=>@(rk (.obj (.tab .i64 Ho))))) (ci (show((true==true)=true→(true==true)=true) from(fun _=>rfl)) (c1 (show(true=true→(true==true)=true) from(fun _=>rfl))))))))))))))) ?_;refine gC h (fun h=>?_) (fun h=>?_)
  ·obtain⟨hc3,h⟩:=Aa h;refine gR hq [4] [30000,30001,35002,35100,37101,9100001] [] [] (c1 hc3) ?_;cases h;exact Bf [(30000,30000),(30001,30001),(37101,37101),(35002,35002),(35100,35100),(9100001,9100001)]
  ·obtain⟨hc4,h⟩:=Aa h;refine gR hq [4] [30000,30001,35002,35100,37101,9100001] [] [] (c1 hc4) ?_;cases h;exact Bf [(30000,30000),(30001,30001),(37101,37101),(35002,35002),(35100,35100),(9100001,9100001)]
 ·refine gR hq [3,14] [3,30000,30001,35002,35100,37101,9100001] [(8,(.bool false))] [⟨[],[],(.bool false),[],[],[]⟩] (ci (show(AVle (.bool (aK.Kind==2)) (.bool false)) from(Kj hs1)) (ci (show((false==true)=true→(false==true)=true) from Li) (ci (show((false==true)=true→(false==true)=true) from Li) (ci (show((false==true)=true→(false==true)=true) from Li) (ci (show((false==true)=true→(Spec Tryz.prog 86 [.any,(Bc aK.Arg)] [] (.bool false) [])) from Li) (ci (show((false==true)=true→(false==true)=true) from Li) (c1 (show(false=true→(false==true)=true) from Li)))))))) ?_;refine Qy false ?_;obtain⟨hc5,h⟩:=Aa h;refine gR hq [4] [30000,30001,35002,35100,37101,9100001] [] [] (c1 hc5) ?_;cases h;exact Bf [(30000,30000),(30001,30001),(37101,37101),(35002,35002),(35100,35100),(9100001,9100001)]
def Ic(aP:List Gv)(aT:Int)(a0:List (List Int)):(Int×List (List Int))→Option (LR (Int×List (List Int)) (List (List Int))):=
 fun((i2,l3):(Int×List (List Int)))=>(bif (decide (i2<(aP.length:Int))) then(Av (A4 i2 aP.length) ((Dp ((aP.getD i2.toNat default).From) aT).bind fun x6=>(Av (A4 x6 ((aP.getD i2.toNat default).Args).length) (Av (A4 (((aP.getD i2.toNat default).Args).getD x6.toNat 0) a0.length) (Av (A4 i2 l3.length) (some (.next ((Az (i2+1)),(l3.set i2.toNat (a0.getD (((aP.getD i2.toNat default).Args).getD x6.toNat 0).toNat [])))))))))) else(some (.done l3)))
def Id(aP:List Gv)(l4:List (List Int)):(Int×List (List Int))→Option (LR (Int×List (List Int)) (List (List Int))):=
 fun((i12,l13):(Int×List (List Int)))=>(bif (decide (i12<(aP.length:Int))) then(Av (A4 i12 aP.length) (Av (A4 i12 l4.length) (Av (A4 (aP.getD i12.toNat default).Dst l13.length) (some (.next ((Az (i12+1)),(l13.set ((aP.getD i12.toNat default).Dst).toNat (l4.getD i12.toNat [])))))))) else(some (.done l13)))
def Q150:=(fun n_=>Bl n_ [13,30000,30001,35002,35100,37101,9100001])
def Q149(a0:List (List Int))(aP:List Gv)(i2:Int)(x6:Int):=(a0.getD (((aP.getD i2.toNat default).Args).getD x6.toNat 0).toNat [])
def Dj(aP:List Gv)(aT:Int)(a0:List (List Int))(a3:Int)(a2:Int)(a4:List Int)(a6:List Ab):Option (Int×Int×List Ab×List (List Int)×List Int):=
 (Av (0≤(aP.length:Int)∧(aP.length:Int)≤(aP.length:Int)∧(aP.length:Int)≤(room:Int)) ((A0 (Ic aP aT a0) ((0:Int),(List.replicate (aP.length:Int).toNat ([]:List Int)))).bind (fun x10=>((A0 (Id aP x10) ((0:Int),a0)).bind (fun x18=>(some (a3,a2,a6,x18,a4)))))))
theorem Jn(aP:List Gv)(aT:Int)(a0:List (List Int))(a3:Int)(a2:Int)(a4:List Int)(a6:List Ab)(r:(Int×Int×List Ab×List (List Int)×List Int))(h:Dj aP aT a0 a3 a2 a4 a6=some r):Spec Tryz.prog 75 [(.ptr 30000 0),(AV.list 4 Rd default aP .none),(.int .i64 aT)] [(30000,.row 99 [(.ptr 30001 0),(.omap 9100001),(.vsl 35002 a0.length),(.int .i64 a3),(.int .i64 a2)]),(30001,.row 93 [(.vsl 35100 a4.length),(AV.list 3 Am default a6 (.own 37101))]),(37101,.tok 3 49 a6.length),(35002,.arr 1 26 a0.length (fun i=>Aw (a0.getD i []))),(35100,.arr 1 5 a4.length (fun i=>eU8 (a4.getD i 0))),(9100001,.obj (.tab .i64 Ho))] (.tuple []) [(30000,.row 99 [(.ptr 30001 0),(.omap 9100001),(.vsl 35002 r.2.2.2.1.length),(.int .i64 r.1),(.int .i64 r.2.1)]),(30001,.row 93 [(.vsl 35100 r.2.2.2.2.length),(AV.list 3 Am default r.2.2.1 (.own 37101))]),(37101,.tok 3 49 r.2.2.1.length),(35002,.arr 1 26 r.2.2.2.1.length (fun i=>Aw (r.2.2.2.1.getD i []))),(35100,.arr 1 5 r.2.2.2.2.length (fun i=>eU8 (r.2.2.2.2.getD i 0))),(9100001,.obj (.tab .i64 Ho))]:=by
 refine Ac mix Tryz.func75 (fun Γ hq=>?_);unfold Dj at h;obtain⟨hc1,h⟩:=Aa h;refine gR hq [0,1,2,6] [13,30000,30001,35002,35100,37101,9100001] [] [] (c1 hc1) ?_;refine Ir (Le.trans (Lj 13 (show ∀ k_,k_<((aP.length:Int).toNat)→AVleL ((fun i_=>AV.eraseAll Q150 ((fun _=>[Z24]) i_)) k_) ((fun i=>Aw ((List.replicate (aP.length:Int).toNat ([]:List Int)).getD i [])) k_) from(fun k hk=>Ik (e:=Aw) (d:=[]) (.cons (fun _ _ _ _ _ hh=>AVle.untag _ _ _ _ _ (D5 _ _ _ _ _ hh)) .nil) _ k (Il hk)))) (Lk (fun(k_:Nat) u=>(Cz u [(6,(.vsl 13 k_))] [(13,.arr 1 26 k_ (fun i=>Aw ((List.replicate (aP.length:Int).toNat ([]:List Int)).getD i [])))])) (show(aP.length:Int).toNat=(List.replicate (aP.length:Int).toNat ([]:List Int)).length from(List.length_replicate ..).symm))) ?_;refine Af hq [0,1,2,6,14,15,16] [13,30000,30001,35002,35100,37101,9100001] ?_;obtain⟨x10,hx10,h⟩:=bind_some h;refine gL hq hx10 [0,1,2,6,14,15,16] [13,30000,30001,35002,35100,37101,9100001] (fun u (i2,l3)=>(Cz u [(6,(.vsl 13 l3.length)),(Jg 16 i2)] [(W7 13 l3)])) (fun u l4=>aG Γ (.exit 0) (R9 [0,1,6] [13,30000,30001,35002,35100,37101,9100001] u [(6,(.vsl 13 l4.length))] [(W7 13 l4)])) ?_ ?_
 ·rintro⟨i2,l3⟩ y h;unfold Ic at h;refine Af hq [0,1,2,6,14,15,16,17] [13,30000,30001,35002,35100,37101,9100001] ?_;refine gC h (fun h=>?_) (fun h=>?_)
  ·obtain⟨hc5,h⟩:=Aa h;refine gR hq [0,1,2,6,7,8,14,15,16] [8,13,30000,30001,35002,35100,37101,9100001] [] [] (c1 hc5) ?_;obtain⟨x6,hx6,h⟩:=bind_some h;obtain⟨hc7,h⟩:=Aa h;obtain⟨hc8,h⟩:=Aa h;obtain⟨hc9,h⟩:=Aa h;refine gR hq [0,1,2,6,14,15,16] [13,30000,30001,35002,35100,37101,9100001] [] [⟨[],[],(Bc x6),[],[],[]⟩] (ci (H0 ((aP.getD i2.toNat default).From) aT x6 hx6) (ci hc7 (ci hc8 (ci (Eq.refl a0.length) (ci hc9 (c1 (Eq.refl l3.length))))))) ?_;refine Ir (Le.trans (Lj 13 (show ∀ k_,k_<l3.length→AVleL ((fun i_=>AV.eraseAll Q150 ((F1 (fun i=>Aw (l3.getD i [])) i2.toNat 0 [(Z55 (Q149 a0 aP i2 x6))]) i_)) k_) ((fun i=>Aw ((l3.set i2.toNat (Q149 a0 aP i2 x6)).getD i [])) k_) from(A5 (List.length_set ..).symm (fun k_ hk_=>(congrArg (AV.eraseAll Q150) ((D2 (fun _ _=>rfl) (Ei hc9) rfl) k_ hk_)).trans rfl)))) (Lk (fun(k_:Nat) u=>(Cz u [(6,(.vsl 13 k_))] [(13,.arr 1 26 k_ (fun i=>Aw ((l3.set i2.toNat (Q149 a0 aP i2 x6)).getD i [])))])) (show l3.length=(l3.set i2.toNat (Q149 a0 aP i2 x6)).length from(List.length_set ..).symm))) ?_;refine Af hq [0,1,2,6,14,15,16] [13,30000,30001,35002,35100,37101,9100001] ?_;cases h;exact gN Db
  ·cases h;exact gO (B5 (B3 [0,1,6] [13,30000,30001,35002,35100,37101,9100001] hq))
 ·clear hx10;refine gA ?_;refine Af hq [0,6,39,40,41] [13,30000,30001,35002,35100,37101,9100001] ?_;obtain⟨x18,hx18,h⟩:=bind_some h;refine gL hq hx18 [0,6,39,40,41] [13,30000,30001,35002,35100,37101,9100001] (fun u (i12,l13)=>(Cz u [(Jg 41 i12)] [(X0 l13.length a3 a2),(W7 35002 l13)])) (fun u l14=>aG Γ (.exit 2) (R9 [] [30000,30001,35002,35100,37101,9100001] u [] [(X0 l14.length a3 a2),(W7 35002 l14)])) ?_ ?_
  ·rintro⟨i12,l13⟩ y h;unfold Id at h;refine Af hq [0,6,39,40,41,42] [13,30000,30001,35002,35100,37101,9100001] ?_;refine gC h (fun h=>?_) (fun h=>?_)
   ·obtain⟨hc15,h⟩:=Aa h;refine gR hq [0,6,9,10,39,40,41] [10,13,30000,30001,35002,35100,37101,9100001] [] [] (c1 hc15) ?_;obtain⟨hc16,h⟩:=Aa h;obtain⟨hc17,h⟩:=Aa h;refine gR hq [0,6,39,40,41] [13,30000,30001,35002,35100,37101,9100001] [] [] (ci hc16 (ci (Eq.refl x10.length) (ci hc17 (c1 (Eq.refl l13.length))))) ?_;refine Ir (Le.trans (Lj 35002 (show ∀ k_,k_<l13.length→AVleL ((fun i_=>AV.eraseAll Q150 ((F1 (fun i=>Aw (l13.getD i [])) ((aP.getD i12.toNat default).Dst).toNat 0 [(AV.list 1 Bh 0 (x10.getD i12.toNat []) .none)]) i_)) k_) ((fun i=>Aw ((l13.set ((aP.getD i12.toNat default).Dst).toNat (x10.getD i12.toNat [])).getD i [])) k_) from(A5 (List.length_set ..).symm (fun k_ hk_=>(congrArg (AV.eraseAll Q150) ((D2 (fun _ _=>rfl) (Ei hc17) rfl) k_ hk_)).trans rfl)))) (Lk (fun(k_:Nat) u=>(Cz u [] [(X0 k_ a3 a2),(35002,.arr 1 26 k_ (fun i=>Aw ((l13.set ((aP.getD i12.toNat default).Dst).toNat (x10.getD i12.toNat [])).getD i [])))])) (show l13.length=(l13.set ((aP.getD i12.toNat default).Dst).toNat (x10.getD i12.toNat [])).length from(List.length_set ..).symm))) ?_;refine Af hq [0,6,39,40,41] [13,30000,30001,35002,35100,37101,9100001] ?_;cases h;exact gN Db
   ·cases h;exact gO (B5 (B3 [] [30000,30001,35002,35100,37101,9100001] hq))
  ·clear hx18;refine gA' (fun st' hl19=>?_);cases h;exact gK (e:=.normal) (Fw [(30000,30000),(30001,30001),(37101,37101),(35002,35002),(35100,35100),(9100001,9100001)] hl19)
def Be(aS:List Aj):(Int×Int×Int×List Ab×List (List Int)×List Int)→Option (LR (Int×Int×Int×List Ab×List (List Int)×List Int) (Fv×Int×Int×List Ab×List (List Int)×List Int)):=
 fun(s_:(Int×Int×Int×List Ab×List (List Int)×List Int))=>match s_ with|(i1,i2,i3,l4,l5,l6)=>(Av (A4 i1 aS.length) (Av (A4 i1 aS.length) ((Cq ((aS.getD i1.toNat default).Ops) l5 i2 i3 l6 l4).bind fun x26=>(Av (l5.length=x26.2.2.2.2.1.length) (Av (l6.length=x26.2.2.2.2.2.length) (bif (x26.1 !=0) then((B1 x26.1 x26.2.2.2.2.1 x26.2.1 x26.2.2.1 x26.2.2.2.2.2 x26.2.2.2.1).bind fun x29=>(some (.done (x29,x26.2.1,x26.2.2.1,x26.2.2.2.1,x26.2.2.2.2.1,x26.2.2.2.2.2)))) else((Ch x26.2.2.2.2.1 x26.2.1 x26.2.2.1 x26.2.2.2.2.2 x26.2.2.2.1).bind fun x30=>(Av (x26.2.2.2.2.1.length=x30.2.2.2.2.1.length) (Av (x26.2.2.2.2.2.length=x30.2.2.2.2.2.length) (bif (!x30.1) then((B1 (9:Int) x30.2.2.2.2.1 x30.2.1 x30.2.2.1 x30.2.2.2.2.2 x30.2.2.2.1).bind fun x33=>(some (.done (x33,x30.2.1,x30.2.2.1,x30.2.2.2.1,x30.2.2.2.2.1,x30.2.2.2.2.2)))) else(bif (((aS.getD i1.toNat default).End.Kind:Int)==0) then((Au ((aS.getD i1.toNat default).End.Arg) x30.2.2.2.2.1 x30.2.1 x30.2.2.1 x30.2.2.2.2.2 x30.2.2.2.1).bind fun x34=>(some (.done ((⟨(0:Int),x34,x30.2.2.1⟩:Fv),x30.2.1,x30.2.2.1,x30.2.2.2.1,x30.2.2.2.2.1,x30.2.2.2.2.2)))) else(bif (((aS.getD i1.toNat default).End.Kind:Int)==3) then((B1 (8:Int) x30.2.2.2.2.1 x30.2.1 x30.2.2.1 x30.2.2.2.2.2 x30.2.2.2.1).bind fun x35=>(some (.done (x35,x30.2.1,x30.2.2.1,x30.2.2.2.1,x30.2.2.2.2.1,x30.2.2.2.2.2)))) else((Dz (⟨(aS.getD i1.toNat default).End.Kind,(aS.getD i1.toNat default).End.Arg,(aS.getD i1.toNat default).End.To⟩:Ha) x30.2.2.2.2.1 x30.2.1 x30.2.2.1 x30.2.2.2.2.2 x30.2.2.2.1).bind fun x36=>(Av (A4 x36 aS.length) ((Dj ((aS.getD x36.toNat default).Phis) i1 x30.2.2.2.2.1 x30.2.1 x30.2.2.1 x30.2.2.2.2.2 x30.2.2.2.1).bind fun x38=>(Av (x30.2.2.2.2.1.length=x38.2.2.2.1.length) (Av (x30.2.2.2.2.2.length=x38.2.2.2.2.length) (some (.next (x36,x38.1,x38.2.1,x38.2.2.1,x38.2.2.2.1,x38.2.2.2.2))))))))))))))))))))
def Rw(Γ:Eo)(aS:List Aj)(a0:List (List Int))(a3:Int)(a2:Int)(a4:List Int)(a6:List Ab)(r:(Fv×Int×Int×List Ab×List (List Int)×List Int)):Exit→St→Prop:=fK Tryz.prog Γ Tryz.f36.results.toList (Z1 a0 a3 a2 a4 a6 a6.length) (Z67 r.1) (Z1 r.2.2.2.2.1 r.2.1 r.2.2.1 r.2.2.2.2.2 r.2.2.2.1 r.2.2.2.1.length)
def W5:Own:=(.obj (.tab .i64 Ho))
def Q163(aS:List Aj):=(aS.getD (0:Int).toNat (default:Aj))
def Q161(x13:(Bool×Int×Int×List Ab×List (List Int)×List Int)):Own:=(.arr 1 26 x13.2.2.2.2.1.length (fun i=>Aw (x13.2.2.2.2.1.getD i [])))
def Q162(x30:(Bool×Int×Int×List Ab×List (List Int)×List Int)):Own:=(.arr 1 26 x30.2.2.2.2.1.length (fun i=>Aw (x30.2.2.2.2.1.getD i [])))
def Q159(x13:(Bool×Int×Int×List Ab×List (List Int)×List Int)):Own:=(.arr 1 5 x13.2.2.2.2.2.length (fun i=>eU8 (x13.2.2.2.2.2.getD i 0)))
def Q160(x30:(Bool×Int×Int×List Ab×List (List Int)×List Int)):Own:=(.arr 1 5 x30.2.2.2.2.2.length (fun i=>eU8 (x30.2.2.2.2.2.getD i 0)))
def Q157(x13:(Bool×Int×Int×List Ab×List (List Int)×List Int)):Own:=(.row 93 (Z4 35100 x13.2.2.2.2.2.length x13.2.2.2.1 37101))
def Q158(x30:(Bool×Int×Int×List Ab×List (List Int)×List Int)):Own:=(.row 93 (Z4 35100 x30.2.2.2.2.2.length x30.2.2.2.1 37101))
def Q155(x13:(Bool×Int×Int×List Ab×List (List Int)×List Int)):Own:=(.row 99 (Z6 x13.2.2.2.2.1.length x13.2.1 x13.2.2.1))
def Q156(x30:(Bool×Int×Int×List Ab×List (List Int)×List Int)):Own:=(.row 99 (Z6 x30.2.2.2.2.1.length x30.2.1 x30.2.2.1))
def Q154(x9:(Int×Int×Int×List Ab×List (List Int)×List Int)):List (Nat×Own):=(Z1 x9.2.2.2.2.1 x9.2.1 x9.2.2.1 x9.2.2.2.2.2 x9.2.2.2.1 x9.2.2.2.1.length)
def Q151(x13:(Bool×Int×Int×List Ab×List (List Int)×List Int)):List (Nat×Own):=(Z1 x13.2.2.2.2.1 x13.2.1 x13.2.2.1 x13.2.2.2.2.2 x13.2.2.2.1 x13.2.2.2.1.length)
def Q152(x30:(Bool×Int×Int×List Ab×List (List Int)×List Int)):List (Nat×Own):=(Z1 x30.2.2.2.2.1 x30.2.1 x30.2.2.1 x30.2.2.2.2.2 x30.2.2.2.1 x30.2.2.2.1.length)
def Q153(x26:(Int×Int×Int×List Ab×List (List Int)×List Int)):List (Nat×Own):=(Z1 x26.2.2.2.2.1 x26.2.1 x26.2.2.1 x26.2.2.2.2.2 x26.2.2.2.1 x26.2.2.2.1.length)
def Dy(aS:List Aj)(a0:List (List Int))(a3:Int)(a2:Int)(a4:List Int)(a6:List Ab):Option (Fv×Int×Int×List Ab×List (List Int)×List Int):=
 ((Io (S:=(Int×Int×Int×List Ab×List (List Int)×List Int)) (X:=(Fv×Int×Int×List Ab×List (List Int)×List Int)) (Av (A4 (0:Int) aS.length) (Av (A4 (0:Int) aS.length) ((Cq ((aS.getD (0:Int).toNat (default:Aj)).Ops) a0 a3 a2 a4 a6).bind fun x9=>(Av (a0.length=x9.2.2.2.2.1.length) (Av (a4.length=x9.2.2.2.2.2.length) (bif (x9.1 !=0) then((B1 x9.1 x9.2.2.2.2.1 x9.2.1 x9.2.2.1 x9.2.2.2.2.2 x9.2.2.2.1).bind fun x12=>(some (.done (x12,x9.2.1,x9.2.2.1,x9.2.2.2.1,x9.2.2.2.2.1,x9.2.2.2.2.2)))) else((Ch x9.2.2.2.2.1 x9.2.1 x9.2.2.1 x9.2.2.2.2.2 x9.2.2.2.1).bind fun x13=>(Av (x9.2.2.2.2.1.length=x13.2.2.2.2.1.length) (Av (x9.2.2.2.2.2.length=x13.2.2.2.2.2.length) (bif (!x13.1) then((B1 (9:Int) x13.2.2.2.2.1 x13.2.1 x13.2.2.1 x13.2.2.2.2.2 x13.2.2.2.1).bind fun x16=>(some (.done (x16,x13.2.1,x13.2.2.1,x13.2.2.2.1,x13.2.2.2.2.1,x13.2.2.2.2.2)))) else(bif (((aS.getD (0:Int).toNat (default:Aj)).End.Kind:Int)==0) then((Au ((aS.getD (0:Int).toNat (default:Aj)).End.Arg) x13.2.2.2.2.1 x13.2.1 x13.2.2.1 x13.2.2.2.2.2 x13.2.2.2.1).bind fun x17=>(some (.done ((⟨(0:Int),x17,x13.2.2.1⟩:Fv),x13.2.1,x13.2.2.1,x13.2.2.2.1,x13.2.2.2.2.1,x13.2.2.2.2.2)))) else(bif (((aS.getD (0:Int).toNat (default:Aj)).End.Kind:Int)==3) then((B1 (8:Int) x13.2.2.2.2.1 x13.2.1 x13.2.2.1 x13.2.2.2.2.2 x13.2.2.2.1).bind fun x18=>(some (.done (x18,x13.2.1,x13.2.2.1,x13.2.2.2.1,x13.2.2.2.2.1,x13.2.2.2.2.2)))) else((Dz (⟨(aS.getD (0:Int).toNat (default:Aj)).End.Kind,(aS.getD (0:Int).toNat (default:Aj)).End.Arg,(aS.getD (0:Int).toNat (default:Aj)).End.To⟩:Ha) x13.2.2.2.2.1 x13.2.1 x13.2.2.1 x13.2.2.2.2.2 x13.2.2.2.1).bind fun x19=>(Av (A4 x19 aS.length) ((Dj ((aS.getD x19.toNat default).Phis) (0:Int) x13.2.2.2.2.1 x13.2.1 x13.2.2.1 x13.2.2.2.2.2 x13.2.2.2.1).bind fun x21=>(Av (x13.2.2.2.2.1.length=x21.2.2.2.1.length) (Av (x13.2.2.2.2.2.length=x21.2.2.2.2.length) (some (.next (x19,x21.1,x21.2.1,x21.2.2.1,x21.2.2.2.1,x21.2.2.2.2)))))))))))))))))))) (Be aS)).bind (fun x41=>(some x41)))
theorem Q2(aS:List Aj)(a0:List (List Int))(a3:Int)(a2:Int)(a4:List Int)(a6:List Ab)(r:(Fv×Int×Int×List Ab×List (List Int)×List Int))(h:Dy aS a0 a3 a2 a4 a6=some r):Spec Tryz.prog 36 [(.ptr 30000 0),(AV.list 5 As default aS .none)] [(30000,.row 99 [(.ptr 30001 0),(.omap 9100001),(.vsl 35002 a0.length),(.int .i64 a3),(.int .i64 a2)]),(30001,.row 93 [(.vsl 35100 a4.length),(AV.list 3 Am default a6 (.own 37101))]),(37101,.tok 3 49 a6.length),(35002,.arr 1 26 a0.length (fun i=>Aw (a0.getD i []))),(35100,.arr 1 5 a4.length (fun i=>eU8 (a4.getD i 0))),(9100001,.obj (.tab .i64 Ho))] (.agg (eTRun r.1)) [(30000,.row 99 [(.ptr 30001 0),(.omap 9100001),(.vsl 35002 r.2.2.2.2.1.length),(.int .i64 r.2.1),(.int .i64 r.2.2.1)]),(30001,.row 93 [(.vsl 35100 r.2.2.2.2.2.length),(AV.list 3 Am default r.2.2.2.1 (.own 37101))]),(37101,.tok 3 49 r.2.2.2.1.length),(35002,.arr 1 26 r.2.2.2.2.1.length (fun i=>Aw (r.2.2.2.2.1.getD i []))),(35100,.arr 1 5 r.2.2.2.2.2.length (fun i=>eU8 (r.2.2.2.2.2.getD i 0))),(9100001,.obj (.tab .i64 Ho))]:=by
 refine Ac mix Tryz.func36 (fun Γ hq=>?_);unfold Dy at h;refine Af hq [0,1,4] [4,30000,30001,35002,35100,37101,9100001] ?_;obtain⟨x41,hx41,h⟩:=bind_some h;refine gS hx41 (fun(s_:(Int×Int×Int×List Ab×List (List Int)×List Int))=>match s_ with|(i1,i2,i3,l4,l5,l6)=>0) (fun(s_:(Int×Int×Int×List Ab×List (List Int)×List Int))=>match s_ with|(i1,i2,i3,l4,l5,l6)=>(⟨[(0,(.ptr 30000 0)),(1,(Z40 aS)),(4,(.ptr 4 0)),(5,(Bc i1))],[(4,.row 39 [Ki,Z68,Ki]),(X0 l5.length i2 i3),(X1 30001 35100 l6.length l4 37101),(W7 35002 l5),(Z9 35100 l6),(S6 37101 l4.length),(Z54 9100001)],[]⟩:St)) (fun r_=>aR (Rw Γ aS a0 a3 a2 a4 a6 r_)) ?_ ?_ ?_
 ·clear h hx41;intro y h;refine Af hq [0,1,4,5] [4,30000,30001,35002,35100,37101,9100001] ?_;obtain⟨hc7,h⟩:=Aa h;refine gR hq [0,1,4,5,6] [4,6,30000,30001,35002,35100,37101,9100001] [] [] (c1 hc7) ?_;obtain⟨hc8,h⟩:=Aa h;obtain⟨x9,hx9,h⟩:=bind_some h;obtain⟨hc10,h⟩:=Aa h;obtain⟨hc11,h⟩:=Aa h;refine gR hq [0,1,4,5,6,7] [4,6,30000,30001,35002,35100,37101,9100001] [] [⟨[(30000,30000),(30001,30001),(37101,37101),(35002,35002),(35100,35100),(9100001,9100001)],[],(Bc x9.1),(Q154 x9),[],[]⟩] (ci hc8 (c1 (It ((Q163 aS).Ops) a0 a3 a2 a4 a6 x9 hx9))) ?_;refine Af hq [0,1,4,5,6,7,22] [4,6,30000,30001,35002,35100,37101,9100001] ?_;refine gC h (fun h=>?_) (fun h=>?_)
  ·obtain⟨x12,hx12,h⟩:=bind_some h;refine gR hq [4] [4,30000,30001,35002,35100,37101,9100001] [] [⟨[(30000,30000),(30001,30001),(37101,37101),(35002,35002),(35100,35100),(9100001,9100001)],[],(Z67 x12),(Q154 x9),[],[30000,30001,37101,35002,35100,9100001]⟩] (ci (Cr x9.1 x9.2.2.2.2.1 x9.2.1 x9.2.2.1 x9.2.2.2.2.2 x9.2.2.2.1 x12 hx12) (ci (rk (.row 99 (Z6 x9.2.2.2.2.1.length x9.2.1 x9.2.2.1))) (ci (rk (.row 93 (Z4 35100 x9.2.2.2.2.2.length x9.2.2.2.1 37101))) (ci (rk (.tok 3 49 x9.2.2.2.1.length)) (ci (rk (.arr 1 26 x9.2.2.2.2.1.length (fun i=>Aw (x9.2.2.2.2.1.getD i [])))) (ci (rk (.arr 1 5 x9.2.2.2.2.2.length (fun i=>eU8 (x9.2.2.2.2.2.getD i 0)))) (c1 (rk W5)))))))) ?_;cases h;exact W1 (J6 (Fw [(30000,30000),(30001,30001),(37101,37101),(35002,35002),(35100,35100),(9100001,9100001)] (Le.refl _ _)))
  ·obtain⟨x13,hx13,h⟩:=bind_some h;obtain⟨hc14,h⟩:=Aa h;obtain⟨hc15,h⟩:=Aa h;refine gR hq [0,1,4,5,6,28] [4,6,30000,30001,35002,35100,37101,9100001] [] [⟨[(30000,30000),(30001,30001),(37101,37101),(35002,35002),(35100,35100),(9100001,9100001)],[],(.bool x13.1),(Q151 x13),[],[]⟩] (c1 (Gq x9.2.2.2.2.1 x9.2.1 x9.2.2.1 x9.2.2.2.2.2 x9.2.2.2.1 x13 hx13)) ?_;refine gC h (fun h=>?_) (fun h=>?_)
   ·obtain⟨x16,hx16,h⟩:=bind_some h;refine gR hq [4] [4,30000,30001,35002,35100,37101,9100001] [] [⟨[(30000,30000),(30001,30001),(37101,37101),(35002,35002),(35100,35100),(9100001,9100001)],[],(Z67 x16),(Q151 x13),[],[30000,30001,37101,35002,35100,9100001]⟩] (ci (Cr (9:Int) x13.2.2.2.2.1 x13.2.1 x13.2.2.1 x13.2.2.2.2.2 x13.2.2.2.1 x16 hx16) (ci (rk (Q155 x13)) (ci (rk (Q157 x13)) (ci (rk (.tok 3 49 x13.2.2.2.1.length)) (ci (rk (Q161 x13)) (ci (rk (Q159 x13)) (c1 (rk W5)))))))) ?_;cases h;exact W1 (J6 (Fw [(30000,30000),(30001,30001),(37101,37101),(35002,35002),(35100,35100),(9100001,9100001)] (Le.refl _ _)))
   ·refine Af hq [0,1,4,5,6,32] [4,6,30000,30001,35002,35100,37101,9100001] ?_;refine Af hq [0,1,4,5,6,32,33] [4,6,30000,30001,35002,35100,37101,9100001] ?_;refine gC h (fun h=>?_) (fun h=>?_)
    ·obtain⟨x17,hx17,h⟩:=bind_some h;refine gR hq [4] [4,30000,30001,35002,35100,37101,9100001] [] [⟨[(30000,30000),(30001,30001),(37101,37101),(35002,35002),(35100,35100),(9100001,9100001)],[],(H3 x17),(Q151 x13),[],[30000,30001,37101,35002,35100,9100001]⟩] (ci (Bo ((Q163 aS).End.Arg) x13.2.2.2.2.1 x13.2.1 x13.2.2.1 x13.2.2.2.2.2 x13.2.2.2.1 x17 hx17) (ci (rk (Q155 x13)) (ci (rk (Q157 x13)) (ci (rk (.tok 3 49 x13.2.2.2.1.length)) (ci (rk (Q161 x13)) (ci (rk (Q159 x13)) (c1 (rk W5)))))))) ?_;cases h;exact W1 (J6 (Fw [(30000,30000),(30001,30001),(37101,37101),(35002,35002),(35100,35100),(9100001,9100001)] (Le.refl _ _)))
    ·refine Af hq [0,1,4,5,6,44] [4,6,30000,30001,35002,35100,37101,9100001] ?_;refine gC h (fun h=>?_) (fun h=>?_)
     ·obtain⟨x18,hx18,h⟩:=bind_some h;refine gR hq [4] [4,30000,30001,35002,35100,37101,9100001] [] [⟨[(30000,30000),(30001,30001),(37101,37101),(35002,35002),(35100,35100),(9100001,9100001)],[],(Z67 x18),(Q151 x13),[],[30000,30001,37101,35002,35100,9100001]⟩] (ci (Cr (8:Int) x13.2.2.2.2.1 x13.2.1 x13.2.2.1 x13.2.2.2.2.2 x13.2.2.2.1 x18 hx18) (ci (rk (Q155 x13)) (ci (rk (Q157 x13)) (ci (rk (.tok 3 49 x13.2.2.2.1.length)) (ci (rk (Q161 x13)) (ci (rk (Q159 x13)) (c1 (rk W5)))))))) ?_;cases h;exact W1 (J6 (Fw [(30000,30000),(30001,30001),(37101,37101),(35002,35002),(35100,35100),(9100001,9100001)] (Le.refl _ _)))
     ·obtain⟨x19,hx19,h⟩:=bind_some h;refine gR hq [0,1,4,5,8] [4,30000,30001,35002,35100,37101,9100001] [] [⟨[(30000,30000),(30001,30001),(37101,37101),(35002,35002),(35100,35100),(9100001,9100001)],[],(Bc x19),(Q151 x13),[],[30000,30001,37101,35002,35100,9100001]⟩] (ci (J8 (⟨(Q163 aS).End.Kind,(Q163 aS).End.Arg,(Q163 aS).End.To⟩:Ha) x13.2.2.2.2.1 x13.2.1 x13.2.2.1 x13.2.2.2.2.2 x13.2.2.2.1 x19 hx19) (ci (rk (Q155 x13)) (ci (rk (Q157 x13)) (ci (rk (.tok 3 49 x13.2.2.2.1.length)) (ci (rk (Q161 x13)) (ci (rk (Q159 x13)) (c1 (rk W5)))))))) ?_;obtain⟨hc20,h⟩:=Aa h;obtain⟨x21,hx21,h⟩:=bind_some h;obtain⟨hc22,h⟩:=Aa h;obtain⟨hc23,h⟩:=Aa h;refine gR hq [0,1,4,8] [4,30000,30001,35002,35100,37101,9100001] [] [⟨[(30000,30000),(30001,30001),(37101,37101),(35002,35002),(35100,35100),(9100001,9100001)],[],(.tuple []),(Z1 x21.2.2.2.1 x21.1 x21.2.1 x21.2.2.2.2 x21.2.2.1 x21.2.2.1.length),[],[]⟩] (ci hc20 (c1 (Jn ((aS.getD x19.toNat default).Phis) (0:Int) x13.2.2.2.2.1 x13.2.1 x13.2.2.1 x13.2.2.2.2.2 x13.2.2.2.1 x21 hx21))) ?_;refine Af hq [0,1,4,5] [4,30000,30001,35002,35100,37101,9100001] ?_;cases h;exact gJn Db
 ·clear h hx41;rintro⟨i1,i2,i3,l4,l5,l6⟩ y h;unfold Be at h;obtain⟨hc24,h⟩:=Aa h;refine gR hq [0,1,4,5,6] [4,6,30000,30001,35002,35100,37101,9100001] [] [] (c1 hc24) ?_;obtain⟨hc25,h⟩:=Aa h;obtain⟨x26,hx26,h⟩:=bind_some h;obtain⟨hc27,h⟩:=Aa h;obtain⟨hc28,h⟩:=Aa h;refine gR hq [0,1,4,5,6,7] [4,6,30000,30001,35002,35100,37101,9100001] [] [⟨[(30000,30000),(30001,30001),(37101,37101),(35002,35002),(35100,35100),(9100001,9100001)],[],(Bc x26.1),(Q153 x26),[],[]⟩] (ci hc25 (c1 (It ((aS.getD i1.toNat default).Ops) l5 i2 i3 l6 l4 x26 hx26))) ?_;refine Af hq [0,1,4,5,6,7,22] [4,6,30000,30001,35002,35100,37101,9100001] ?_;refine gC h (fun h=>?_) (fun h=>?_)
  ·obtain⟨x29,hx29,h⟩:=bind_some h;refine gR hq [4] [4,30000,30001,35002,35100,37101,9100001] [] [⟨[(30000,30000),(30001,30001),(37101,37101),(35002,35002),(35100,35100),(9100001,9100001)],[],(Z67 x29),(Q153 x26),[],[30000,30001,37101,35002,35100,9100001]⟩] (ci (Cr x26.1 x26.2.2.2.2.1 x26.2.1 x26.2.2.1 x26.2.2.2.2.2 x26.2.2.2.1 x29 hx29) (ci (rk (.row 99 (Z6 x26.2.2.2.2.1.length x26.2.1 x26.2.2.1))) (ci (rk (.row 93 (Z4 35100 x26.2.2.2.2.2.length x26.2.2.2.1 37101))) (ci (rk (.tok 3 49 x26.2.2.2.1.length)) (ci (rk (.arr 1 26 x26.2.2.2.2.1.length (fun i=>Aw (x26.2.2.2.2.1.getD i [])))) (ci (rk (.arr 1 5 x26.2.2.2.2.2.length (fun i=>eU8 (x26.2.2.2.2.2.getD i 0)))) (c1 (rk W5)))))))) ?_;cases h;exact W1 (J6 (Fw [(30000,30000),(30001,30001),(37101,37101),(35002,35002),(35100,35100),(9100001,9100001)] (Le.refl _ _)))
  ·obtain⟨x30,hx30,h⟩:=bind_some h;obtain⟨hc31,h⟩:=Aa h;obtain⟨hc32,h⟩:=Aa h;refine gR hq [0,1,4,5,6,28] [4,6,30000,30001,35002,35100,37101,9100001] [] [⟨[(30000,30000),(30001,30001),(37101,37101),(35002,35002),(35100,35100),(9100001,9100001)],[],(.bool x30.1),(Q152 x30),[],[]⟩] (c1 (Gq x26.2.2.2.2.1 x26.2.1 x26.2.2.1 x26.2.2.2.2.2 x26.2.2.2.1 x30 hx30)) ?_;refine gC h (fun h=>?_) (fun h=>?_)
   ·obtain⟨x33,hx33,h⟩:=bind_some h;refine gR hq [4] [4,30000,30001,35002,35100,37101,9100001] [] [⟨[(30000,30000),(30001,30001),(37101,37101),(35002,35002),(35100,35100),(9100001,9100001)],[],(Z67 x33),(Q152 x30),[],[30000,30001,37101,35002,35100,9100001]⟩] (ci (Cr (9:Int) x30.2.2.2.2.1 x30.2.1 x30.2.2.1 x30.2.2.2.2.2 x30.2.2.2.1 x33 hx33) (ci (rk (Q156 x30)) (ci (rk (Q158 x30)) (ci (rk (.tok 3 49 x30.2.2.2.1.length)) (ci (rk (Q162 x30)) (ci (rk (Q160 x30)) (c1 (rk W5)))))))) ?_;cases h;exact W1 (J6 (Fw [(30000,30000),(30001,30001),(37101,37101),(35002,35002),(35100,35100),(9100001,9100001)] (Le.refl _ _)))
   ·refine Af hq [0,1,4,5,6,32] [4,6,30000,30001,35002,35100,37101,9100001] ?_;refine Af hq [0,1,4,5,6,32,33] [4,6,30000,30001,35002,35100,37101,9100001] ?_;refine gC h (fun h=>?_) (fun h=>?_)
    ·obtain⟨x34,hx34,h⟩:=bind_some h;refine gR hq [4] [4,30000,30001,35002,35100,37101,9100001] [] [⟨[(30000,30000),(30001,30001),(37101,37101),(35002,35002),(35100,35100),(9100001,9100001)],[],(H3 x34),(Q152 x30),[],[30000,30001,37101,35002,35100,9100001]⟩] (ci (Bo ((aS.getD i1.toNat default).End.Arg) x30.2.2.2.2.1 x30.2.1 x30.2.2.1 x30.2.2.2.2.2 x30.2.2.2.1 x34 hx34) (ci (rk (Q156 x30)) (ci (rk (Q158 x30)) (ci (rk (.tok 3 49 x30.2.2.2.1.length)) (ci (rk (Q162 x30)) (ci (rk (Q160 x30)) (c1 (rk W5)))))))) ?_;cases h;exact W1 (J6 (Fw [(30000,30000),(30001,30001),(37101,37101),(35002,35002),(35100,35100),(9100001,9100001)] (Le.refl _ _)))
    ·refine Af hq [0,1,4,5,6,44] [4,6,30000,30001,35002,35100,37101,9100001] ?_;refine gC h (fun h=>?_) (fun h=>?_)
     ·obtain⟨x35,hx35,h⟩:=bind_some h;refine gR hq [4] [4,30000,30001,35002,35100,37101,9100001] [] [⟨[(30000,30000),(30001,30001),(37101,37101),(35002,35002),(35100,35100),(9100001,9100001)],[],(Z67 x35),(Q152 x30),[],[30000,30001,37101,35002,35100,9100001]⟩] (ci (Cr (8:Int) x30.2.2.2.2.1 x30.2.1 x30.2.2.1 x30.2.2.2.2.2 x30.2.2.2.1 x35 hx35) (ci (rk (Q156 x30)) (ci (rk (Q158 x30)) (ci (rk (.tok 3 49 x30.2.2.2.1.length)) (ci (rk (Q162 x30)) (ci (rk (Q160 x30)) (c1 (rk W5)))))))) ?_;cases h;exact W1 (J6 (Fw [(30000,30000),(30001,30001),(37101,37101),(35002,35002),(35100,35100),(9100001,9100001)] (Le.refl _ _)))
     ·obtain⟨x36,hx36,h⟩:=bind_some h;refine gR hq [0,1,4,5,8] [4,30000,30001,35002,35100,37101,9100001] [] [⟨[(30000,30000),(30001,30001),(37101,37101),(35002,35002),(35100,35100),(9100001,9100001)],[],(Bc x36),(Q152 x30),[],[30000,30001,37101,35002,35100,9100001]⟩] (ci (J8 (⟨(aS.getD i1.toNat default).End.Kind,(aS.getD i1.toNat default).End.Arg,(aS.getD i1.toNat default).End.To⟩:Ha) x30.2.2.2.2.1 x30.2.1 x30.2.2.1 x30.2.2.2.2.2 x30.2.2.2.1 x36 hx36) (ci (rk (Q156 x30)) (ci (rk (Q158 x30)) (ci (rk (.tok 3 49 x30.2.2.2.1.length)) (ci (rk (Q162 x30)) (ci (rk (Q160 x30)) (c1 (rk W5)))))))) ?_;obtain⟨hc37,h⟩:=Aa h;obtain⟨x38,hx38,h⟩:=bind_some h;obtain⟨hc39,h⟩:=Aa h;obtain⟨hc40,h⟩:=Aa h;refine gR hq [0,1,4,8] [4,30000,30001,35002,35100,37101,9100001] [] [⟨[(30000,30000),(30001,30001),(37101,37101),(35002,35002),(35100,35100),(9100001,9100001)],[],(.tuple []),(Z1 x38.2.2.2.1 x38.1 x38.2.1 x38.2.2.2.2 x38.2.2.1 x38.2.2.1.length),[],[]⟩] (ci hc37 (c1 (Jn ((aS.getD x36.toNat default).Phis) i1 x30.2.2.2.2.1 x30.2.1 x30.2.2.1 x30.2.2.2.2.2 x30.2.2.2.1 x38 hx38))) ?_;refine Af hq [0,1,4,5] [4,30000,30001,35002,35100,37101,9100001] ?_;cases h;exact gJn Db
 ·clear hx41;refine Rf (fun st' hk=>?_);obtain rfl:=OI h;exact gK hk
def Q167(aX:Int):=((decide (aX<0))==false)
def Vk(x2:Int):=(List.replicate (Az (x2+1)).toNat ([]:List Int))
def Q166(aX:Int)(aa2:List Int)(aA:Ad):=(bif (decide (aX<0)) then true else(((aa2.length:Int):Int)!=(aA.Params.length:Int)))
def Dx(aA:Ad)(aa2:List Int)(aX:Int)(a5:List Int)(a7:List Ab):Option (Fv×Int×List Ab×List Int):=
 ((bif ((bif (decide (aX<0)) then true else(((aa2.length:Int):Int)!=(aA.Params.length:Int)))==false) then Jc aA (2:Int) else some (0:Int)).bind fun x1=>(bif (bif (bif (decide (aX<0)) then true else(((aa2.length:Int):Int)!=(aA.Params.length:Int))) then true else(x1 !=0)) then(some ((⟨(0:Int),(0:Int),(0:Int)⟩:Fv),(1:Int),a7,a5)) else((J9 aA).bind fun x2=>(Av (0≤(Az (x2+1))∧(Az (x2+1))≤(Az (x2+1))∧(Az (x2+1))≤(room:Int)) ((De (List.replicate (Az (x2+1)).toNat ([]:List Int)) aX (0:Int) a5 a7).bind fun x4=>((Dc aA aa2 (List.replicate (Az (x2+1)).toNat ([]:List Int)) aX (0:Int) a5 a7).bind fun x5=>(Av ((List.replicate (Az (x2+1)).toNat ([]:List Int)).length=x5.2.2.2.1.length) (Av (a5.length=x5.2.2.2.2.length) ((Dy aA.Blocks x5.2.2.2.1 x5.1 x5.2.1 x5.2.2.2.2 x5.2.2.1).bind fun x8=>(Av (x5.2.2.2.1.length=x8.2.2.2.2.1.length) (Av (x5.2.2.2.2.length=x8.2.2.2.2.2.length) (some (x8.1,(0:Int),x8.2.2.2.1,x8.2.2.2.2.2)))))))))))))
theorem Jm(aA:Ad)(aa2:List Int)(aX:Int)(a5:List Int)(a7:List Ab)(r:(Fv×Int×List Ab×List Int))(h:Dx aA aa2 aX a5 a7=some r):Spec Tryz.prog 14 [(.agg (R1 aA)),(AV.list 1 Bh 0 aa2 .none),(.ptr 30000 0),(.int .i64 aX)] [(30000,.row 93 [(.vsl 35000 a5.length),(AV.list 3 Am default a7 (.own 37001))]),(37001,.tok 3 49 a7.length),(35000,.arr 1 5 a5.length (fun i=>eU8 (a5.getD i 0)))] (.tuple [(.agg (eTRun r.1)),(.int .i64 r.2.1)]) [(30000,.row 93 [(.vsl 35000 r.2.2.2.length),(AV.list 3 Am default r.2.2.1 (.own 37001))]),(37001,.tok 3 49 r.2.2.1.length),(35000,.arr 1 5 r.2.2.2.length (fun i=>eU8 (r.2.2.2.getD i 0)))]:=by
 refine Ac mix Tryz.func14 (fun Γ hq=>?_);unfold Dx at h;refine Af hq [1,2,3,4,8] [4,8,30000,35000,37001] ?_;obtain⟨x1,hx1,h⟩:=bind_some h;refine gR hq [1,2,3,4,8,25] [4,8,30000,35000,37001] [] [⟨[],[],(Bc x1),[],[],[]⟩] (ci (gI (Q167 aX)) (ci (gI (Q167 aX)) (ci (gI (Q167 aX)) (ci (gI (Q167 aX)) (ci (gI (Q167 aX)) (ci (Nf (decide (aX<0))) (ci (gI ((Q166 aX aa2 aA)==false)) (ci (fun(hg:((Q166 aX aa2 aA)==false)=true)=>(Wa aA (2:Int) x1 (Cc hg hx1))) (ci (gI ((Q166 aX aa2 aA)==false)) (c1 (Nf (Q166 aX aa2 aA)))))))))))) ?_;refine gC h (fun h=>?_) (fun h=>?_)
 ·refine Af hq [8,9] [8,30000,35000,37001] ?_;cases h;exact Bf [(30000,30000),(37001,37001),(35000,35000)]
 ·obtain⟨x2,hx2,h⟩:=bind_some h;obtain⟨hc3,h⟩:=Aa h;refine gR hq [1,4,8,10] [4,8,32,34,30000,35000,37001] [] [⟨[],[],(Bc x2),[],[],[]⟩] (ci (Xl aA x2 hx2) (c1 hc3)) ?_;refine Ir (Le.trans (Lj 32 (show ∀ k_,k_<((Az (x2+1)).toNat)→AVleL ((fun i_=>AV.eraseAll (fun n_=>Bl n_ [4,8,32,34,30000,35000,37001]) ((fun _=>[Z24]) i_)) k_) ((fun i=>Aw ((Vk x2).getD i [])) k_) from(fun k hk=>Ik (e:=Aw) (d:=[]) (.cons (fun _ _ _ _ _ hh=>AVle.untag _ _ _ _ _ (D5 _ _ _ _ _ hh)) .nil) _ k (Il hk)))) (Lk (fun(k_:Nat) u=>(Cz u [] [(32,.arr 1 26 k_ (fun i=>Aw ((Vk x2).getD i []))),(34,.row 99 [(.ptr 30000 0),.nilm,(.vsl 32 k_),(Bc aX),Ki])])) (show(Az (x2+1)).toNat=(Vk x2).length from(List.length_replicate ..).symm))) ?_;obtain⟨x4,hx4,h⟩:=bind_some h;refine gR hq [1,4,8,10] [4,8,32,34,37,30000,35000,37001] [] [⟨[(34,30000),(30000,30001),(37001,37101),(32,35002),(35000,35100)],[(20000,37)],(.omap 20000),[(30000,.row 99 [(.ptr 30001 0),.nilm,(.vsl 35002 (Vk x2).length),(Bc aX),Ki]),(X1 30001 35100 a5.length a7 37101),(S6 37101 a7.length),(35002,.arr 1 26 (Vk x2).length (fun i=>Aw ((Vk x2).getD i []))),(Z9 35100 a5),(Z54 20000)],[],[34,30000,37001,32,35000]⟩] (ci (Mf (Vk x2) aX (0:Int) a5 a7 x4 hx4) (ci (rk (.row 99 [(.ptr 30000 0),.nilm,(.vsl 32 (Vk x2).length),(Bc aX),Ki])) (ci (rk (.row 93 (Z4 35000 a5.length a7 37001))) (ci (rk (.tok 3 49 a7.length)) (ci (rk (.arr 1 26 ((Vk x2).length) (fun i=>Aw ((Vk x2).getD i [])))) (c1 (rk (.arr 1 5 a5.length (fun i=>eU8 (a5.getD i 0)))))))))) ?_;obtain⟨x5,hx5,h⟩:=bind_some h;obtain⟨hc6,h⟩:=Aa h;obtain⟨hc7,h⟩:=Aa h;refine gR hq [4,8,10] [4,8,32,34,37,30000,35000,37001] [] [⟨[(34,30000),(30000,30001),(37001,37101),(32,35002),(35000,35100),(37,9100001)],[],(.tuple []),(Z1 x5.2.2.2.1 x5.1 x5.2.1 x5.2.2.2.2 x5.2.2.1 x5.2.2.1.length),[],[]⟩] (c1 (O6 aA aa2 (Vk x2) aX (0:Int) a5 a7 x5 hx5)) ?_;obtain⟨x8,hx8,h⟩:=bind_some h;obtain⟨hc9,h⟩:=Aa h;obtain⟨hc10,h⟩:=Aa h;refine gR hq [8,9] [8,30000,35000,37001] [] [⟨[(34,30000),(30000,30001),(37001,37101),(32,35002),(35000,35100),(37,9100001)],[],(Z67 x8.1),(Z1 x8.2.2.2.2.1 x8.2.1 x8.2.2.1 x8.2.2.2.2.2 x8.2.2.2.1 x8.2.2.2.1.length),[],[]⟩] (c1 (Q2 aA.Blocks x5.2.2.2.1 x5.1 x5.2.1 x5.2.2.2.2 x5.2.2.1 x8 hx8)) ?_;cases h;exact Bf [(30000,30000),(37001,37001),(35000,35000)]
def B6:List TOp:=([(⟨(0:Int),(8:Int),(1:Int),(1:Int),([]:List Int),(200:Int)⟩:TOp),(⟨(0:Int),(8:Int),(1:Int),(2:Int),([]:List Int),(100:Int)⟩:TOp),(⟨(1:Int),(8:Int),(1:Int),(3:Int),([(1:Int),(2:Int)]:List Int),(0:Int)⟩:TOp)]:List TOp)
def Um:AV:=Ki
def Vm:AV:=Z52
def Q177:AV:=(.slice 0 0 (fun _=>[]) .none)
def Vl:AV:=Z35
def Q169:=([(⟨([]:List Gv),B6,(⟨(0:Int),(3:Int),([]:List Int)⟩:Ha)⟩:Aj)]:List Aj)
def Q179:AV:=(AV.list 5 As default Q169 .exact)
def Q170(x3:(Fv×Int×List Ab×List Int)):=(bif (x3.2.1==0) then(((x3.1.Code:Int)==0)&&(((x3.1.Value:Int)==44)&&(((x3.1.Steps:Int)==4)&&true))) else false)
def Q178(x3:(Fv×Int×List Ab×List Int))(x5:(Fv×Int×List Ab×List Int)):=(bif (Q170 x3) then(x5.2.1==0) else false)
def Q174:AV:=(AV.list 6 F6 default B6 .exact)
def Q171(x3:(Fv×Int×List Ab×List Int)):List (Nat×Own):=(Z14 x3.2.2.2.length x3.2.2.1 x3.2.2.1.length x3.2.2.2)
def Q173(x5:(Fv×Int×List Ab×List Int)):List (Nat×Own):=(Z14 x5.2.2.2.length x5.2.2.1 x5.2.2.1.length x5.2.2.2)
def Q168(x1:((Bool×TMem)×Int)):List (Nat×Own):=(Z7 20000 21000 x1.1.2.bytes x1.1.2.trace 21001 x1.1.2.trace.length)
def m_locksteplaw13_awake :Option Bool:=
 ((Hv ([]:List Int)).bind fun x1=>(bif x1.1.1 then(bif (x1.2 !=0) then(some false) else((Dx (⟨([]:List Int),(8:Int),([(⟨([]:List Gv),B6,(⟨(0:Int),(3:Int),([]:List Int)⟩:Ha)⟩:Aj)]:List Aj)⟩:Ad) ([]:List Int) (4:Int) x1.1.2.bytes x1.1.2.trace).bind fun x3=>(Av (x1.1.2.bytes.length=x3.2.2.2.length) ((Dx (⟨([]:List Int),(8:Int),([(⟨([]:List Gv),B6,(⟨(0:Int),(3:Int),([]:List Int)⟩:Ha)⟩:Aj)]:List Aj)⟩:Ad) ([]:List Int) (3:Int) x3.2.2.2 x3.2.2.1).bind fun x5=>(Av (x3.2.2.2.length=x5.2.2.2.length) ((Dx (⟨([]:List Int),(8:Int),([(⟨([]:List Gv),B6,(⟨(0:Int),(3:Int),([]:List Int)⟩:Ha)⟩:Aj)]:List Aj)⟩:Ad) ([(1:Int)]:List Int) (3:Int) x5.2.2.2 x5.2.2.1).bind fun x7=>(Av (x5.2.2.2.length=x7.2.2.2.length) (some (bif (bif (bif (bif (x3.2.1==0) then(((x3.1.Code:Int)==0)&&(((x3.1.Value:Int)==44)&&(((x3.1.Steps:Int)==4)&&true))) else false) then(x5.2.1==0) else false) then(((x5.1.Code:Int)==9)&&(((x5.1.Value:Int)==0)&&(((x5.1.Steps:Int)==3)&&true))) else false) then(x7.2.1==1) else false))))))))) else(some false)))
theorem Nw  (r:Bool) (h:m_locksteplaw13_awake=some r):Spec Tryz.prog 10 [] [] (.bool r) []:=by
 refine Ac mix Tryz.func10 (fun Γ hq=>?_);unfold m_locksteplaw13_awake at h;refine Af hq [] [] ?_;refine gR hq [1] [1] [(10,(.agg [Um,Vm,Vn,Vn,Vl,(.int .u64 (200:Int))])),(11,(.agg [Um,Vm,Vn,Z64,Vl,(.int .u64 (100:Int))])),(12,(AV.list 1 Ai 0 ([(1:Int),(2:Int)]:List Int) .exact)),(14,Q174),(15,(.agg [Um,W9,Vl])),(16,(.agg [(AV.list 4 Rd default ([]:List Gv) .exact),Q174,Um,W9,Vl])),(17,Q179),(18,(.agg [Vl,Vm,Q179]))] [] (ci (show(AVle (.agg [Um,Vm,Vn,Vn,Z24,(.int .u64 (200:Int))]) (.agg [Um,Vm,Vn,Vn,Vl,(.int .u64 (200:Int))])) from(AVle.agg (.cons (AVle.refl _) (.cons (AVle.refl _) (.cons (AVle.refl _) (.cons (AVle.refl _) (.cons D5 (.cons (AVle.refl _) .nil)))))))) (ci (show(AVle (.agg [Um,Vm,Vn,Z64,Z24,(.int .u64 (100:Int))]) (.agg [Um,Vm,Vn,Z64,Vl,(.int .u64 (100:Int))])) from(AVle.agg (.cons (AVle.refl _) (.cons (AVle.refl _) (.cons (AVle.refl _) (.cons (AVle.refl _) (.cons D5 (.cons (AVle.refl _) .nil)))))))) (ci (Bm 1 Ai (0:Int) ([(1:Int),(2:Int)]:List Int)) (ci (Bm 6 F6 (default:TOp) B6) (ci (show(AVle (.agg [Um,W9,Z24]) (.agg [Um,W9,Vl])) from(AVle.agg (.cons (AVle.refl _) (.cons (AVle.refl _) (.cons D5 .nil))))) (ci (show(AVle (.agg [Z24,Q174,Um,W9,Vl]) (.agg [(AV.list 4 Rd default ([]:List Gv) .exact),Q174,Um,W9,Vl])) from(AVle.agg (.cons D5 (.cons (AVle.refl _) (.cons (AVle.refl _) (.cons (AVle.refl _) (.cons (AVle.refl _) .nil))))))) (ci (Bm 5 As (default:Aj) Q169) (c1 (show(AVle (.agg [Z24,Vm,Q179]) (.agg [Vl,Vm,Q179])) from(AVle.agg (.cons D5 (.cons (AVle.refl _) (.cons (AVle.refl _) .nil))))))))))))) ?_;obtain⟨x1,hx1,h⟩:=bind_some h;refine gB h (fun hs2 h=>?_) (fun hs2 h=>?_)
 ·refine gR hq [1,2,3] [1,20,60020000,60020001] [] [⟨[],[(20000,20),(21000,60020000),(21001,60020001)],(.tuple [(bif true then((.ptr 20000 0):AV) else .nilp),(Bc x1.2)]),(bif true then(Q168 x1) else[]),[],[]⟩] (c1 (show(Spec Tryz.prog 13 [Q177] [] (.tuple [(bif true then((.ptr 20000 0):AV) else .nilp),(Bc x1.2)]) (bif true then(Q168 x1) else[])) from(eqB (fun b_:Bool=>Spec Tryz.prog 13 [Q177] [] (.tuple [(bif b_ then((.ptr 20000 0):AV) else .nilp),(Bc x1.2)]) (bif b_ then(Q168 x1) else[])) hs2 (Spec.args (.cons Sl .nil) (Gr ([]:List Int) x1 hx1))))) ?_;refine gR hq [1,2,28] [1,20,60020000,60020001] [] [] (ci (gI (false==false)) (c1 (Nf false))) ?_;refine gC h (fun h=>?_) (fun h=>?_)
  ·refine Af hq [0] [] ?_;obtain rfl:=OI h;exact Bf []
  ·obtain⟨x3,hx3,h⟩:=bind_some h;obtain⟨hc4,h⟩:=Aa h;refine gR hq [1,2,4,5] [1,4,20,60020000,60020001] [] [⟨[(20,30000),(60020001,37001),(60020000,35000)],[],(.tuple [(Z67 x3.1),(Bc x3.2.1)]),(Q171 x3),[],[]⟩] (c1 (show(Spec Tryz.prog 14 [(.agg [(AV.list 1 Ai 0 ([]:List Int) .none),Vm,(Z40 Q169)]),Q177,(.ptr 30000 0),Z46] (Z14 x1.1.2.bytes.length x1.1.2.trace x1.1.2.trace.length x1.1.2.bytes) (.tuple [(Z67 x3.1),(Bc x3.2.1)]) (Q171 x3)) from(Spec.args (.cons (AVle.refl _) (.cons Sl (.cons (AVle.refl _) (.cons (AVle.refl _) .nil)))) (Jm (⟨([]:List Int),(8:Int),Q169⟩:Ad) ([]:List Int) (4:Int) x1.1.2.bytes x1.1.2.trace x3 hx3)))) ?_;obtain⟨x5,hx5,h⟩:=bind_some h;obtain⟨hc6,h⟩:=Aa h;refine gR hq [1,2,4,5,6,7] [1,4,6,20,60020000,60020001] [] [⟨[(20,30000),(60020001,37001),(60020000,35000)],[],(.tuple [(Z67 x5.1),(Bc x5.2.1)]),(Q173 x5),[],[]⟩] (c1 (show(Spec Tryz.prog 14 [(.agg [(AV.list 1 Ai 0 ([]:List Int) .none),Vm,(Z40 Q169)]),Q177,(.ptr 30000 0),W9] (Q171 x3) (.tuple [(Z67 x5.1),(Bc x5.2.1)]) (Q173 x5)) from(Spec.args (.cons (AVle.refl _) (.cons Sl (.cons (AVle.refl _) (.cons (AVle.refl _) .nil)))) (Jm (⟨([]:List Int),(8:Int),Q169⟩:Ad) ([]:List Int) (3:Int) x3.2.2.2 x3.2.2.1 x5 hx5)))) ?_;obtain⟨x7,hx7,h⟩:=bind_some h;obtain⟨hc8,h⟩:=Aa h;refine gR hq [4,5,6,7,9] [4,6] [(43,(AV.list 1 Bh 0 ([(1:Int)]:List Int) .exact))] [⟨[(20,30000),(60020001,37001),(60020000,35000)],[],(.tuple [(Z67 x7.1),(Bc x7.2.1)]),(Z14 x7.2.2.2.length x7.2.2.1 x7.2.2.1.length x7.2.2.2),[],[]⟩] (ci (Bm 1 Bh (0:Int) ([(1:Int)]:List Int)) (c1 (Jm (⟨([]:List Int),(8:Int),Q169⟩:Ad) ([(1:Int)]:List Int) (3:Int) x5.2.2.2 x5.2.2.1 x7 hx7))) ?_;refine gR hq [0] [] [] [] (ci (gI ((x3.2.1==0)==true)) (ci (gI ((x3.2.1==0)==true)) (ci (J7 (x3.2.1==0)) (ci (gI ((Q170 x3)==true)) (ci (J7 (Q170 x3)) (ci (gI ((Q178 x3 x5)==true)) (ci (gI ((Q178 x3 x5)==true)) (ci (J7 (Q178 x3 x5)) (ci (gI ((bif (Q178 x3 x5) then(((x5.1.Code:Int)==9)&&(((x5.1.Value:Int)==0)&&(((x5.1.Steps:Int)==3)&&true))) else false)==true)) (c1 (J7 (bif (Q178 x3 x5) then(((x5.1.Code:Int)==9)&&(((x5.1.Value:Int)==0)&&(((x5.1.Steps:Int)==3)&&true))) else false)))))))))))) ?_;cases h;exact Bf []
 ·refine gR hq [1,2,3] [1] [] [⟨[],[],(.tuple [(bif false then((.ptr 20000 0):AV) else .nilp),(Bc x1.2)]),(bif false then(Q168 x1) else[]),[],[]⟩] (c1 (show(Spec Tryz.prog 13 [Q177] [] (.tuple [(bif false then((.ptr 20000 0):AV) else .nilp),(Bc x1.2)]) (bif false then(Q168 x1) else[])) from(eqB (fun b_:Bool=>Spec Tryz.prog 13 [Q177] [] (.tuple [(bif b_ then((.ptr 20000 0):AV) else .nilp),(Bc x1.2)]) (bif b_ then(Q168 x1) else[])) hs2 (Spec.args (.cons Sl .nil) (Gr ([]:List Int) x1 hx1))))) ?_;refine gR hq [1,2,28] [1] [] [] (ci (gI (true==false)) (c1 (Nf true))) ?_;refine Qy true ?_;refine Af hq [0] [] ?_;obtain rfl:=OI h;exact Bf []
def Q299(x1:List Int):=(fun i=>eU8 (x1.getD i 0))
def Cy(a5:List Int)(a7:List Ab):Option (List Int×List Ab×List Int):=
 ((Br a5).bind fun x1=>(some (x1,a7,a5)))
theorem G1(a5:List Int)(a7:List Ab)(r:(List Int×List Ab×List Int))(h:Cy a5 a7=some r):Spec Tryz.prog 16 [(.ptr 30000 0)] [(30000,.row 93 [(.vsl 35000 a5.length),(AV.list 3 Am default a7 (.own 37001))]),(37001,.tok 3 49 a7.length),(35000,.arr 1 5 a5.length (fun i=>eU8 (a5.getD i 0)))] (AV.list 1 eU8 0 r.1 (.own 20000)) [(30000,.row 93 [(.vsl 35000 r.2.2.length),(AV.list 3 Am default r.2.1 (.own 37001))]),(37001,.tok 3 49 r.2.1.length),(35000,.arr 1 5 r.2.2.length (fun i=>eU8 (r.2.2.getD i 0))),(20000,.tok 1 5 r.1.length)]:=by
 refine Ac mix Tryz.func16 (fun Γ hq=>?_);have hΓ:=hq.own;unfold Cy at h;refine gR hq [0] [30000,35000,37001] [(2,(AV.list 1 eU8 0 ([]:List Int) .exact))] [] (c1 (Bk 1 eU8 (0:Int))) ?_;refine Af hq [0,4] [30000,35000,37001] ?_;refine Qy false ?_;obtain⟨x1,hx1,h⟩:=bind_some h;refine gR hq [2] [9,30000,35000,37001] [] [⟨[],[(20000,9)],(.vsl 20000 x1.length),[(20000,.arr 1 5 x1.length (Q299 x1))],[35000],[]⟩] (ci (Fp a5 x1 hx1) (ci (show(T3 [(20000,.arr 1 5 x1.length (Q299 x1))]) from⟨(fun _ _=>rfl),trivial⟩) (c1 (Eq.refl a5.length)))) ?_;refine N5 (⟨[(2,(.vsl 9 x1.length))],[(9,.arr 1 5 x1.length (Q299 x1)),(X1 30000 35000 a5.length a7 37001),(Z9 35000 a5),(S6 37001 a7.length)],[]⟩:St) ?_;cases h;exact gK (e:=.ret) (Fw [(30000,30000),(37001,37001),(35000,35000),(9,20000)] (Le.trans (Eb (nm:=9) (sz:=1) (n:=x1.length) (e:=5) (f:=(Q299 x1)) (g:=(Q299 x1)) rfl ⟨rfl,trivial⟩ (fun _ _=>rfl) (by rw[hΓ];rfl)) (Hp (st':=⟨[(2,(AV.list 1 eU8 0 x1 (.own 9)))],[(9,.tok 1 5 x1.length),(X1 30000 35000 a5.length a7 37001),(Z9 35000 a5),(S6 37001 a7.length)],[]⟩) (by kernel_rfl))))
def Q300:AV:=Z69
def Q301:=(⟨[(2,(AV.list 3 Am default ([]:List Ab) (.own 6002)))],[(6002,.tok 3 49 (([]:List Ab).length))],[]⟩:St)
def Bw(aU:List Ab):Option (List Ab):=
 (Av (([]:List Ab).length+aU.length≤room) (some (([]:List Ab)++aU)))
theorem Hg(aU:List Ab)(r:List Ab)(h:Bw aU=some r):Spec Tryz.prog 37 [(AV.list 3 Am default aU .none)] [] (AV.list 3 Am default r (.own 20000)) [(20000,.tok 3 49 r.length)]:=by
 refine Ac mix Tryz.func37 (fun Γ hq=>?_);unfold Bw at h;refine gR hq [0] [] [(2,Q300)] [] (c1 (Bk 3 Am (default:Ab))) ?_;refine Af hq [0,4] [] ?_;refine gNil true aU.length (fun hb=>?_) (fun hb=>?_)
 ·replace h:=nil_at (some ([]:List Ab)) (fun(l2:List Ab)=>(Av (([]:List Ab).length+l2.length≤room) (some (([]:List Ab)++l2)))) h (hb rfl) rfl (fun h0=>by first|exact h0|simpa [Av,room] using h0);clear hb;refine gR hq [2] [] [(2,Q300)] [] (c1 (Bk 3 Am (default:Ab))) ?_;refine N5 (⟨[(2,Q300)],[],[]⟩:St) ?_;cases h;exact gK (e:=.ret) (Fw [(6002,20000)] (show Le Γ _ Q301 from Le.trans (B3 (st':=⟨[(2,Q300)],[],[]⟩) [2] [] hq) (Le.trans (Pm (t:=2) (nm:=6002) (sz':=3) (fun i=>Am (([]:List Ab).getD i default)) 49 rfl rfl (.inl ⟨rfl,rfl⟩) (fun h_=>absurd h_ (by decide))) (B3 (st':=Q301) [2] [6002] hq))))
 ·clear hb;obtain⟨hc1,h⟩:=Aa h;refine gR hq [2] [7] [(5,Q300),(7,(AV.list 3 Am default (([]:List Ab)++aU) (.own 7)))] [] (ci (show(AVle (.slice 3 0 (fun i=>([]:List (List AV)).getD i []) .exact) Q300) from av_lit rfl (fun i hi=>absurd hi (Nat.not_lt_zero i))) (ci hc1 (ci (show(49=Qc→([]:List Ab).length=0∨0<aU.length) from(fun h_=>absurd h_ (by decide))) (ci (Sj 3 7 Am (default:Ab) ([]:List Ab) aU) (c1 (Gy ([]:List Ab) aU)))))) ?_;cases h;exact Bf [(7,20000)]
def Ef(a5:List Int)(a7:List Ab):Option (List Ab×List Ab×List Int):=
 ((Bw a7).bind fun x1=>(some (x1,a7,a5)))
theorem I5(a5:List Int)(a7:List Ab)(r:(List Ab×List Ab×List Int))(h:Ef a5 a7=some r):Spec Tryz.prog 17 [(.ptr 30000 0)] [(30000,.row 93 [(.vsl 35000 a5.length),(AV.list 3 Am default a7 (.own 37001))]),(37001,.tok 3 49 a7.length),(35000,.arr 1 5 a5.length (fun i=>eU8 (a5.getD i 0)))] (AV.list 3 Am default r.1 (.own 20000)) [(30000,.row 93 [(.vsl 35000 r.2.2.length),(AV.list 3 Am default r.2.1 (.own 37001))]),(37001,.tok 3 49 r.2.1.length),(35000,.arr 1 5 r.2.2.length (fun i=>eU8 (r.2.2.getD i 0))),(20000,.tok 3 49 r.1.length)]:=by
 refine Ac mix Tryz.func17 (fun Γ hq=>?_);unfold Ef at h;refine gR hq [0] [30000,35000,37001] [(2,Z69)] [] (c1 (Bk 3 Am (default:Ab))) ?_;refine Af hq [0,4] [30000,35000,37001] ?_;refine Qy false ?_;obtain⟨x1,hx1,h⟩:=bind_some h;refine gR hq [2] [9,30000,35000,37001] [] [⟨[],[(20000,9)],(Z38 x1),[(S6 20000 x1.length)],[],[]⟩] (c1 (Hg a7 x1 hx1)) ?_;cases h;exact Bf [(30000,30000),(37001,37001),(35000,35000),(9,20000)]
def Bj:List Aj:=([(⟨([]:List Gv),([(⟨(17:Int),(8:Int),(1:Int),(0:Int),([(1:Int),(2:Int)]:List Int),(0:Int)⟩:TOp)]:List TOp),(⟨(3:Int),(0:Int),([]:List Int)⟩:Ha)⟩:Aj)]:List Aj)
def B2:List TOp:=([(⟨(17:Int),(8:Int),(1:Int),(0:Int),([(1:Int),(2:Int)]:List Int),(0:Int)⟩:TOp),(⟨(0:Int),(8:Int),(1:Int),(3:Int),([]:List Int),(0:Int)⟩:TOp),(⟨(4:Int),(8:Int),(1:Int),(4:Int),([(2:Int),(3:Int)]:List Int),(0:Int)⟩:TOp)]:List TOp)
def Kh:=(false==false)
def Q434:=((.ptr 20000 0):AV)
def Rx:AV:=Ki
def Q451:=(bif true then Q434 else .nilp)
def Q450:=(bif false then Q434 else .nilp)
def Up(x6:(Fv×Int×List Ab×List Int)):=((x6.1.Steps:Int)==1)
def W6(x6:(Fv×Int×List Ab×List Int)):=((x6.1.Steps:Int)==2)
def Uo(a9:List Int):List AV:=[(AV.list 1 eU8 0 a9 .none)]
def Q441:=([(64:Int),(8:Int)]:List Int)
def Q430:AV:=(AV.list 1 eU8 0 ([]:List Int) .none)
def Un:AV:=Z35
def Q449:AV:=(AV.list 3 Am default ([]:List Ab) .none)
def Q440:AV:=(AV.list 4 Rd default ([]:List Gv) .exact)
def Q423(x6:(Fv×Int×List Ab×List Int))(x8:(Fv×Int×List Ab×List Int)):=(bif (x6.2.1 !=0) then true else(x8.2.1 !=0))
def Q431(x6:(Fv×Int×List Ab×List Int))(x8:(Fv×Int×List Ab×List Int)):=(bif (Q423 x6 x8) then true else((x6.1.Code:Int)!=8))
def Q437:AV:=(AV.list 6 F6 default B2 .exact)
def Q435:=(J5 ([]:List Int).length (fun i=>eU8 (([]:List Int).getD i 0)))
def Q425(x6:(Fv×Int×List Ab×List Int))(x8:(Fv×Int×List Ab×List Int)):=((bif (W6 x6) then((x8.1.Steps:Int)==3) else false)==true)
def Q433:=([(⟨([]:List Gv),B2,(⟨(0:Int),(4:Int),([]:List Int)⟩:Ha)⟩:Aj)]:List Aj)
def Q426:AV:=(AV.list 6 F6 default ([(⟨(17:Int),(8:Int),(1:Int),(0:Int),([(1:Int),(2:Int)]:List Int),(0:Int)⟩:TOp)]:List TOp) .exact)
def Se(x6:(Fv×Int×List Ab×List Int))(x8:(Fv×Int×List Ab×List Int))(x25:(List Int×List Ab×List Int))(a9:List Int):=(bif (bif (W6 x6) then((x8.1.Steps:Int)==3) else false) then(((x25.1.length:Int):Int)==(a9.length:Int)) else false)
def Q448(x11:(List Int×List Ab×List Int)):List (Nat×Own):=(Z14 x11.2.2.length x11.2.1 x11.2.1.length x11.2.2)
def Q446(x6:(Fv×Int×List Ab×List Int)):List (Nat×Own):=(Z14 x6.2.2.2.length x6.2.2.1 x6.2.2.1.length x6.2.2.2)
def Q447(x8:(Fv×Int×List Ab×List Int)):List (Nat×Own):=(Z14 x8.2.2.2.length x8.2.2.1 x8.2.2.1.length x8.2.2.2)
def Q443(x11:(List Int×List Ab×List Int)):List (Nat×Own):=(Z37 x11.2.2.length x11.2.1 x11.2.1.length x11.2.2 x11.1.length)
def Q444(x14:(List Int×List Ab×List Int)):List (Nat×Own):=(Z37 x14.2.2.length x14.2.1 x14.2.1.length x14.2.2 x14.1.length)
def Q445(x21:(List Int×List Ab×List Int)):List (Nat×Own):=(Z37 x21.2.2.length x21.2.1 x21.2.1.length x21.2.2 x21.1.length)
def Q442(x29:(List Ab×List Ab×List Int)):List (Nat×Own):=[(X1 30000 35000 x29.2.2.length x29.2.1 37001),(S6 37001 x29.2.1.length),(Z9 35000 x29.2.2),(S6 20000 x29.1.length)]
def Q421(x2:((Bool×TMem)×Int)):List (Nat×Own):=(Z7 20000 21000 x2.1.2.bytes x2.1.2.trace 21001 x2.1.2.trace.length)
def Q422(x4:((Bool×TMem)×Int)):List (Nat×Own):=(Z7 20000 21000 x4.1.2.bytes x4.1.2.trace 21001 x4.1.2.trace.length)
def Q420(x31:((Bool×TMem)×Int)):List (Nat×Own):=(Z7 20000 21000 x31.1.2.bytes x31.1.2.trace 21001 x31.1.2.trace.length)
def Q424(x18:(List Ab×List Ab×List Int)):List (Nat×Own):=[(X1 30000 35000 x18.2.2.length x18.2.1 37001),(S6 37001 x18.2.1.length),(Z9 35000 x18.2.2),(S6 20000 x18.1.length)]
def C1(a9:List Int)(a8:Int)(aa4:Int):Option Bool:=
 (m_locksteplaw13_awake.bind fun x1=>(bif (!x1) then(some false) else(bif (decide (((100:Int):Int)<(a9.length:Int))) then(some true) else((Hv a9).bind fun x2=>(bif x2.1.1 then((Hv a9).bind fun x4=>(bif x4.1.1 then((Dx (⟨([(64:Int),(8:Int)]:List Int),(8:Int),Bj⟩:Ad) ([(Cp a8),(Cp aa4)]:List Int) (9:Int) x2.1.2.bytes x2.1.2.trace).bind fun x6=>(Av (x2.1.2.bytes.length=x6.2.2.2.length) ((Dx (⟨([(64:Int),(8:Int)]:List Int),(8:Int),([(⟨([]:List Gv),B2,(⟨(0:Int),(4:Int),([]:List Int)⟩:Ha)⟩:Aj)]:List Aj)⟩:Ad) ([(Cp a8),(Cp aa4)]:List Int) (9:Int) x4.1.2.bytes x4.1.2.trace).bind fun x8=>(Av (x4.1.2.bytes.length=x8.2.2.2.length) (bif (bif (bif (bif (x6.2.1 !=0) then true else(x8.2.1 !=0)) then true else((x6.1.Code:Int)!=8)) then true else((x8.1.Code:Int)!=8)) then(some false) else((Cy x6.2.2.2 x6.2.2.1).bind fun x11=>(Av (x6.2.2.2.length=x11.2.2.length) (Av (J5 x11.1.length (fun i=>eU8 (x11.1.getD i 0))) ((Cy x8.2.2.2 x8.2.2.1).bind fun x14=>(Av (x8.2.2.2.length=x14.2.2.length) (Av (J5 x14.1.length (fun i=>eU8 (x14.1.getD i 0))) (bif (!(((H7 x11.1.length (fun i=>eU8 (x11.1.getD i 0))):List Int)==(H7 x14.1.length (fun i=>eU8 (x14.1.getD i 0))))) then(some false) else(bif (decide (((a9.length:Int):Int)≤(Az a8))) then(bif (bif ((x6.1.Steps:Int)==1) then((x8.1.Steps:Int)==1) else false) then((Ef x11.2.2 x11.2.1).bind fun x18=>(Av (x11.2.2.length=x18.2.2.length) (bif (((x18.1.length:Int):Int)==0) then((Cy x18.2.2 x18.2.1).bind fun x21=>(Av (x18.2.2.length=x21.2.2.length) (Av (J5 x21.1.length (fun i=>eU8 (x21.1.getD i 0))) (Av (J5 a9.length (fun i=>eU8 (a9.getD i 0))) (some (((H7 x21.1.length (fun i=>eU8 (x21.1.getD i 0))):List Int)==(H7 a9.length (fun i=>eU8 (a9.getD i 0))))))))) else(some false)))) else(some false)) else((Cy x11.2.2 x11.2.1).bind fun x25=>(Av (x11.2.2.length=x25.2.2.length) (Av (((bif (bif ((x6.1.Steps:Int)==2) then((x8.1.Steps:Int)==3) else false) then(((x25.1.length:Int):Int)==(a9.length:Int)) else false)==true)=true→(A4 a8 x25.1.length)) (bif (bif (bif (bif ((x6.1.Steps:Int)==2) then((x8.1.Steps:Int)==3) else false) then(((x25.1.length:Int):Int)==(a9.length:Int)) else false) then(((x25.1.getD a8.toNat 0):Int)==aa4) else false) then((Ef x25.2.2 x25.2.1).bind fun x29=>(Av (x25.2.2.length=x29.2.2.length) (some (((x29.1.length:Int):Int)==1)))) else(some false)))))))))))))))))) else(some false))) else((Hv a9).bind fun x31=>(bif x31.1.1 then(some false) else(some false))))))))
theorem ok_locksteplaw13_EvalTraps(a9:List Int)(a8:Int)(aa4:Int)(r:Bool)(h:C1 a9 a8 aa4=some r):Spec Tryz.prog 9 [(AV.list 1 eU8 0 a9 .none),(.int .u8 a8),(.int .u8 aa4)] [] (.bool r) []:=by
 refine Ac mix Tryz.func9 (fun Γ hq=>?_);unfold C1 at h;refine Af hq [0,1,2] [] ?_;obtain⟨x1,hx1,h⟩:=bind_some h;refine gR hq [0,1,2,21] [] [] [⟨[],[],(.bool x1),[],[],[]⟩] (c1 (Nw  x1 hx1)) ?_;refine gC h (fun h=>?_) (fun h=>?_)
 ·refine Af hq [6] [] ?_;obtain rfl:=OI h;exact Bf []
 ·refine Af hq [0,1,2,24] [] ?_;refine gC h (fun h=>?_) (fun h=>?_)
  ·refine Af hq [6] [] ?_;obtain rfl:=OI h;exact Bf []
  ·refine gR hq [0,1,2,7] [7] [(25,(AV.list 1 Ai 0 ([(1:Int),(2:Int)]:List Int) .exact))] [] (c1 (Bm 1 Ai (0:Int) ([(1:Int),(2:Int)]:List Int))) ?_;refine gR hq [0,1,2,7,8] [7,8] [(27,(AV.list 1 Ai 0 Q441 .exact)),(29,Q426),(30,(.agg [W9,Rx,Un])),(31,(.agg [Q440,Q426,W9,Rx,Un])),(32,(AV.list 5 As default Bj .exact))] [] (ci (Bm 1 Ai (0:Int) Q441) (ci (Bm 6 F6 (default:TOp) ([(⟨(17:Int),(8:Int),(1:Int),(0:Int),([(1:Int),(2:Int)]:List Int),(0:Int)⟩:TOp)]:List TOp)) (ci (show(AVle (.agg [W9,Rx,Z24]) (.agg [W9,Rx,Un])) from(AVle.agg (.cons (AVle.refl _) (.cons (AVle.refl _) (.cons D5 .nil))))) (ci (show(AVle (.agg [Z24,Q426,W9,Rx,Un]) (.agg [Q440,Q426,W9,Rx,Un])) from(AVle.agg (.cons D5 (.cons (AVle.refl _) (.cons (AVle.refl _) (.cons (AVle.refl _) (.cons (AVle.refl _) .nil))))))) (c1 (Bm 5 As (default:Aj) Bj)))))) ?_;refine gR hq [0,1,2,8,9] [8,9] [(34,(AV.list 1 Ai 0 Q441 .exact)),(36,(.agg [Rx,Z52,Vn,W9,Un,Z68])),(37,(AV.list 1 Ai 0 ([(2:Int),(3:Int)]:List Int) .exact)),(39,Q437),(40,(.agg [Rx,Z46,Un])),(41,(.agg [Q440,Q437,Rx,Z46,Un])),(42,(AV.list 5 As default Q433 .exact))] [] (ci (Bm 1 Ai (0:Int) Q441) (ci (show(AVle (.agg [Rx,Z52,Vn,W9,Z24,Z68]) (.agg [Rx,Z52,Vn,W9,Un,Z68])) from(AVle.agg (.cons (AVle.refl _) (.cons (AVle.refl _) (.cons (AVle.refl _) (.cons (AVle.refl _) (.cons D5 (.cons (AVle.refl _) .nil)))))))) (ci (Bm 1 Ai (0:Int) ([(2:Int),(3:Int)]:List Int)) (ci (Bm 6 F6 (default:TOp) B2) (ci (show(AVle (.agg [Rx,Z46,Z24]) (.agg [Rx,Z46,Un])) from(AVle.agg (.cons (AVle.refl _) (.cons (AVle.refl _) (.cons D5 .nil))))) (ci (show(AVle (.agg [Z24,Q437,Rx,Z46,Un]) (.agg [Q440,Q437,Rx,Z46,Un])) from(AVle.agg (.cons D5 (.cons (AVle.refl _) (.cons (AVle.refl _) (.cons (AVle.refl _) (.cons (AVle.refl _) .nil))))))) (c1 (Bm 5 As (default:Aj) Q433)))))))) ?_;obtain⟨x2,hx2,h⟩:=bind_some h;refine gB h (fun hs3 h=>?_) (fun hs3 h=>?_)
   ·refine gR hq [0,1,2,8,9,10] [8,9,46,60046000,60046001] [] [⟨[],[(20000,46),(21000,60046000),(21001,60046001)],(.tuple [Q451,(Bc x2.2)]),(bif true then(Q421 x2) else[]),[],[]⟩] (c1 (show(Spec Tryz.prog 13 (Uo a9) [] (.tuple [Q451,(Bc x2.2)]) (bif true then(Q421 x2) else[])) from(eqB (fun b_:Bool=>Spec Tryz.prog 13 (Uo a9) [] (.tuple [(bif b_ then Q434 else .nilp),(Bc x2.2)]) (bif b_ then(Q421 x2) else[])) hs3 (Gr a9 x2 hx2)))) ?_;obtain⟨x4,hx4,h⟩:=bind_some h;refine gB h (fun hs5 h=>?_) (fun hs5 h=>?_)
    ·refine gR hq [0,1,2,8,9,10,12] [8,9,46,51,60046000,60046001,60051000,60051001] [] [⟨[],[(20000,51),(21000,60051000),(21001,60051001)],(.tuple [Q451,(Bc x4.2)]),(bif true then(Q422 x4) else[]),[],[]⟩] (c1 (show(Spec Tryz.prog 13 (Uo a9) [] (.tuple [Q451,(Bc x4.2)]) (bif true then(Q422 x4) else[])) from(eqB (fun b_:Bool=>Spec Tryz.prog 13 (Uo a9) [] (.tuple [(bif b_ then Q434 else .nilp),(Bc x4.2)]) (bif b_ then(Q422 x4) else[])) hs5 (Gr a9 x4 hx4)))) ?_;refine gR hq [0,1,2,8,9,10,12,59] [8,9,46,51,60046000,60046001,60051000,60051001] [] [] (ci (show(Kh=true→Kh=true) from(fun _=>rfl)) (c1 (show(false=false→Kh=true) from(fun _=>rfl)))) ?_;refine Qy false ?_;refine gR hq [0,1,2,8,9,10,12,14] [8,9,46,51,60046000,60046001,60051000,60051001] [(64,(AV.list 1 Bh 0 ([(Cp a8),(Cp aa4)]:List Int) .exact))] [] (c1 (Bm 1 Bh (0:Int) ([(Cp a8),(Cp aa4)]:List Int))) ?_;obtain⟨x6,hx6,h⟩:=bind_some h;obtain⟨hc7,h⟩:=Aa h;refine gR hq [0,1,2,9,10,12,14,15,16] [9,15,46,51,60046000,60046001,60051000,60051001] [] [⟨[(46,30000),(60046001,37001),(60046000,35000)],[],(.tuple [(Z67 x6.1),(Bc x6.2.1)]),(Q446 x6),[],[]⟩] (c1 (Jm (⟨Q441,(8:Int),Bj⟩:Ad) ([(Cp a8),(Cp aa4)]:List Int) (9:Int) x2.1.2.bytes x2.1.2.trace x6 hx6)) ?_;obtain⟨x8,hx8,h⟩:=bind_some h;obtain⟨hc9,h⟩:=Aa h;refine gR hq [0,1,2,10,12,15,16,17,18] [15,17,46,51,60046000,60046001,60051000,60051001] [] [⟨[(51,30000),(60051001,37001),(60051000,35000)],[],(.tuple [(Z67 x8.1),(Bc x8.2.1)]),(Q447 x8),[],[]⟩] (c1 (Jm (⟨Q441,(8:Int),Q433⟩:Ad) ([(Cp a8),(Cp aa4)]:List Int) (9:Int) x4.1.2.bytes x4.1.2.trace x8 hx8)) ?_;refine gB h (fun hs10 h=>?_) (fun hs10 h=>?_)
     ·refine gR hq [0,1,2,10,15,17,103] [15,17,46,60046000,60046001] [(95,(.bool true))] [⟨[],[],Q430,[],[],[]⟩,⟨[],[],Q430,[],[],[]⟩] (ci (gI ((x6.2.1 !=0)==false)) (ci (Nf (x6.2.1 !=0)) (ci (gI ((Q423 x6 x8)==false)) (ci (gI ((Q423 x6 x8)==false)) (ci (Nf (Q423 x6 x8)) (ci (gI ((Q431 x6 x8)==false)) (ci (gI ((Q431 x6 x8)==false)) (ci (Nf (Q431 x6 x8)) (ci (show(AVle (.bool (bif (Q431 x6 x8) then true else((x8.1.Code:Int)!=8))) (.bool true)) from(Kj hs10)) (ci (show((true==false)=true→(true==false)=true) from Li) (ci (show((true==false)=true→(Spec Tryz.prog 16 [.any] [] Q430 [])) from Li) (ci (show((true==false)=true→(true==false)=true) from Li) (ci (show((true==false)=true→Q435) from Li) (ci (show((true==false)=true→(true==false)=true) from Li) (ci (show((true==false)=true→(Spec Tryz.prog 16 [.any] [] Q430 [])) from Li) (ci (show((true==false)=true→(true==false)=true) from Li) (ci (show((true==false)=true→Q435) from Li) (ci (show((true==false)=true→(true==false)=true) from Li) (ci (show((true==false)=true→(true==false)=true) from Li) (c1 (show(true=false→(true==false)=true) from gNt))))))))))))))))))))) ?_;refine Qy true ?_;refine Af hq [6] [] ?_;obtain rfl:=OI h;exact Bf []
     ·obtain⟨x11,hx11,h⟩:=bind_some h;obtain⟨hc12,h⟩:=Aa h;obtain⟨hc13,h⟩:=Aa h;obtain⟨x14,hx14,h⟩:=bind_some h;obtain⟨hc15,h⟩:=Aa h;obtain⟨hc16,h⟩:=Aa h;refine gR hq [0,1,2,10,15,17,103] [15,17,46,60046000,60046001] [(95,(.bool false))] [⟨[(46,30000),(60046001,37001),(60046000,35000)],[(20000,97)],(Z51 x11.1),(Q443 x11),[],[]⟩,⟨[(51,30000),(60051001,37001),(60051000,35000)],[(20000,100)],(Z51 x14.1),(Q444 x14),[],[]⟩] (ci (gI ((x6.2.1 !=0)==false)) (ci (Nf (x6.2.1 !=0)) (ci (gI ((Q423 x6 x8)==false)) (ci (gI ((Q423 x6 x8)==false)) (ci (Nf (Q423 x6 x8)) (ci (gI ((Q431 x6 x8)==false)) (ci (gI ((Q431 x6 x8)==false)) (ci (Nf (Q431 x6 x8)) (ci (show(AVle (.bool (bif (Q431 x6 x8) then true else((x8.1.Code:Int)!=8))) (.bool false)) from(Kj hs10)) (ci (show(Kh=true→Kh=true) from(fun _=>rfl)) (ci (show(Kh=true→(Spec Tryz.prog 16 [(.ptr 30000 0)] (Q446 x6) (Z51 x11.1) (Q443 x11))) from(fun _=>(G1 x6.2.2.2 x6.2.2.1 x11 hx11))) (ci (show(Kh=true→Kh=true) from(fun _=>rfl)) (ci (show(Kh=true→(J5 x11.1.length (fun i=>eU8 (x11.1.getD i 0)))) from(fun _=>hc13)) (ci (show(Kh=true→Kh=true) from(fun _=>rfl)) (ci (show(Kh=true→(Spec Tryz.prog 16 [(.ptr 30000 0)] (Q447 x8) (Z51 x14.1) (Q444 x14))) from(fun _=>(G1 x8.2.2.2 x8.2.2.1 x14 hx14))) (ci (show(Kh=true→Kh=true) from(fun _=>rfl)) (ci (show(Kh=true→(J5 x14.1.length (fun i=>eU8 (x14.1.getD i 0)))) from(fun _=>hc16)) (ci (show(Kh=true→Kh=true) from(fun _=>rfl)) (ci (show(Kh=true→Kh=true) from(fun _=>rfl)) (c1 (show(false=false→Kh=true) from(fun _=>rfl)))))))))))))))))))))) ?_;refine gC h (fun h=>?_) (fun h=>?_)
      ·refine Af hq [6] [] ?_;obtain rfl:=OI h;exact Bf []
      ·refine Af hq [0,1,2,10,15,17,108] [15,17,46,60046000,60046001] ?_;refine gC h (fun h=>?_) (fun h=>?_)
       ·refine gB h (fun hs17 h=>?_) (fun hs17 h=>?_)
        ·obtain⟨x18,hx18,h⟩:=bind_some h;obtain⟨hc19,h⟩:=Aa h;refine gB h (fun hs20 h=>?_) (fun hs20 h=>?_)
         ·obtain⟨x21,hx21,h⟩:=bind_some h;obtain⟨hc22,h⟩:=Aa h;obtain⟨hc23,h⟩:=Aa h;obtain⟨hc24,h⟩:=Aa h;refine gR hq [6] [] [(117,(.bool true)),(123,(.bool true))] [⟨[(46,30000),(60046001,37001),(60046000,35000)],[(20000,119)],(Z38 x18.1),(Q424 x18),[],[]⟩,⟨[(46,30000),(60046001,37001),(60046000,35000)],[(20000,125)],(Z51 x21.1),(Q445 x21),[],[]⟩] (ci (gI ((Up x6)==true)) (ci (gI ((Up x6)==true)) (ci (J7 (Up x6)) (ci (show(AVle (.bool (bif (Up x6) then((x8.1.Steps:Int)==1) else false)) (.bool true)) from(Kj hs17)) (ci (show((true==true)=true→(true==true)=true) from(fun _=>rfl)) (ci (show((true==true)=true→(Spec Tryz.prog 17 [(.ptr 30000 0)] (Q448 x11) (Z38 x18.1) (Q424 x18))) from(fun _=>(I5 x11.2.2 x11.2.1 x18 hx18))) (ci (show((true==true)=true→(true==true)=true) from(fun _=>rfl)) (ci (show((true==true)=true→(true==true)=true) from(fun _=>rfl)) (ci (show(true=true→(true==true)=true) from(fun _=>rfl)) (ci (show(AVle (.bool (((x18.1.length:Int):Int)==0)) (.bool true)) from(Kj hs20)) (ci (show((true==true)=true→(true==true)=true) from(fun _=>rfl)) (ci (show((true==true)=true→(Spec Tryz.prog 16 [(.ptr 30000 0)] (Z14 x18.2.2.length x18.2.1 x18.2.1.length x18.2.2) (Z51 x21.1) (Q445 x21))) from(fun _=>(G1 x18.2.2 x18.2.1 x21 hx21))) (ci (show((true==true)=true→(true==true)=true) from(fun _=>rfl)) (ci (show((true==true)=true→(J5 x21.1.length (fun i=>eU8 (x21.1.getD i 0)))) from(fun _=>hc23)) (ci (show((true==true)=true→(true==true)=true) from(fun _=>rfl)) (ci (show((true==true)=true→(J5 a9.length (fun i=>eU8 (a9.getD i 0)))) from(fun _=>hc24)) (ci (show((true==true)=true→(true==true)=true) from(fun _=>rfl)) (ci (show((true==true)=true→(true==true)=true) from(fun _=>rfl)) (c1 (show(true=true→(true==true)=true) from(fun _=>rfl))))))))))))))))))))) ?_;cases h;exact Bf []
         ·refine gR hq [6] [] [(117,(.bool true)),(123,(.bool false))] [⟨[(46,30000),(60046001,37001),(60046000,35000)],[(20000,119)],(Z38 x18.1),(Q424 x18),[],[]⟩,⟨[],[],Q430,[],[],[]⟩] (ci (gI ((Up x6)==true)) (ci (gI ((Up x6)==true)) (ci (J7 (Up x6)) (ci (show(AVle (.bool (bif (Up x6) then((x8.1.Steps:Int)==1) else false)) (.bool true)) from(Kj hs17)) (ci (show((true==true)=true→(true==true)=true) from(fun _=>rfl)) (ci (show((true==true)=true→(Spec Tryz.prog 17 [(.ptr 30000 0)] (Q448 x11) (Z38 x18.1) (Q424 x18))) from(fun _=>(I5 x11.2.2 x11.2.1 x18 hx18))) (ci (show((true==true)=true→(true==true)=true) from(fun _=>rfl)) (ci (show((true==true)=true→(true==true)=true) from(fun _=>rfl)) (ci (show(true=true→(true==true)=true) from(fun _=>rfl)) (ci (show(AVle (.bool (((x18.1.length:Int):Int)==0)) (.bool false)) from(Kj hs20)) (ci (show((false==true)=true→(false==true)=true) from Li) (ci (show((false==true)=true→(Spec Tryz.prog 16 [.any] [] Q430 [])) from Li) (ci (show((false==true)=true→(false==true)=true) from Li) (ci (show((false==true)=true→Q435) from Li) (ci (show((false==true)=true→(false==true)=true) from Li) (ci (show((false==true)=true→(J5 a9.length (fun i=>eU8 (a9.getD i 0)))) from Li) (ci (show((false==true)=true→(false==true)=true) from Li) (ci (show((false==true)=true→(false==true)=true) from Li) (c1 (show(false=true→(false==true)=true) from Li)))))))))))))))))))) ?_;obtain rfl:=OI h;exact Bf []
        ·refine gR hq [6] [] [(117,(.bool false))] [⟨[],[],Q449,[],[],[]⟩,⟨[],[],Q430,[],[],[]⟩] (ci (gI ((Up x6)==true)) (ci (gI ((Up x6)==true)) (ci (J7 (Up x6)) (ci (show(AVle (.bool (bif (Up x6) then((x8.1.Steps:Int)==1) else false)) (.bool false)) from(Kj hs17)) (ci (show((false==true)=true→(false==true)=true) from Li) (ci (show((false==true)=true→(Spec Tryz.prog 17 [.any] [] Q449 [])) from Li) (ci (show((false==true)=true→(false==true)=true) from Li) (ci (show((false==true)=true→(false==true)=true) from Li) (ci (show(false=true→(false==true)=true) from Li) (ci (show((false==true)=true→(false==true)=true) from Li) (ci (show((false==true)=true→(Spec Tryz.prog 16 [.any] [] Q430 [])) from Li) (ci (show((false==true)=true→(false==true)=true) from Li) (ci (show((false==true)=true→Q435) from Li) (ci (show((false==true)=true→(false==true)=true) from Li) (ci (show((false==true)=true→(J5 a9.length (fun i=>eU8 (a9.getD i 0)))) from Li) (ci (show((false==true)=true→(false==true)=true) from Li) (ci (show((false==true)=true→(false==true)=true) from Li) (c1 (show(false=true→(false==true)=true) from Li))))))))))))))))))) ?_;obtain rfl:=OI h;exact Bf []
       ·obtain⟨x25,hx25,h⟩:=bind_some h;obtain⟨hc26,h⟩:=Aa h;refine gR hq [0,1,2,10,15,17,19] [15,17,46,132,60046000,60046001] [] [⟨[(46,30000),(60046001,37001),(60046000,35000)],[(20000,132)],(Z51 x25.1),(Z37 x25.2.2.length x25.2.1 x25.2.1.length x25.2.2 x25.1.length),[],[]⟩] (c1 (G1 x11.2.2 x11.2.1 x25 hx25)) ?_;obtain⟨hc27,h⟩:=Aa h;refine gB h (fun hs28 h=>?_) (fun hs28 h=>?_)
        ·obtain⟨x29,hx29,h⟩:=bind_some h;obtain⟨hc30,h⟩:=Aa h;refine gR hq [6] [] [(156,(.bool true))] [⟨[(46,30000),(60046001,37001),(60046000,35000)],[(20000,158)],(Z38 x29.1),(Q442 x29),[],[]⟩] (ci (gI ((W6 x6)==true)) (ci (gI ((W6 x6)==true)) (ci (J7 (W6 x6)) (ci (gI (Q425 x6 x8)) (ci (gI (Q425 x6 x8)) (ci (gI (Q425 x6 x8)) (ci (gI (Q425 x6 x8)) (ci (J7 (bif (W6 x6) then((x8.1.Steps:Int)==3) else false)) (ci (gI ((Se x6 x8 x25 a9)==true)) (ci (gI ((Se x6 x8 x25 a9)==true)) (ci hc27 (ci (gI ((Se x6 x8 x25 a9)==true)) (ci (gI ((Se x6 x8 x25 a9)==true)) (ci (gI ((Se x6 x8 x25 a9)==true)) (ci (J7 (Se x6 x8 x25 a9)) (ci (show(AVle (.bool (bif (Se x6 x8 x25 a9) then(((x25.1.getD a8.toNat 0):Int)==aa4) else false)) (.bool true)) from(Kj hs28)) (ci (show((true==true)=true→(true==true)=true) from(fun _=>rfl)) (ci (show((true==true)=true→(Spec Tryz.prog 17 [(.ptr 30000 0)] (Z14 x25.2.2.length x25.2.1 x25.2.1.length x25.2.2) (Z38 x29.1) (Q442 x29))) from(fun _=>(I5 x25.2.2 x25.2.1 x29 hx29))) (ci (show((true==true)=true→(true==true)=true) from(fun _=>rfl)) (ci (show((true==true)=true→(true==true)=true) from(fun _=>rfl)) (c1 (show(true=true→(true==true)=true) from(fun _=>rfl))))))))))))))))))))))) ?_;cases h;exact Bf []
        ·refine gR hq [6] [] [(156,(.bool false))] [⟨[],[],Q449,[],[],[]⟩] (ci (gI ((W6 x6)==true)) (ci (gI ((W6 x6)==true)) (ci (J7 (W6 x6)) (ci (gI (Q425 x6 x8)) (ci (gI (Q425 x6 x8)) (ci (gI (Q425 x6 x8)) (ci (gI (Q425 x6 x8)) (ci (J7 (bif (W6 x6) then((x8.1.Steps:Int)==3) else false)) (ci (gI ((Se x6 x8 x25 a9)==true)) (ci (gI ((Se x6 x8 x25 a9)==true)) (ci hc27 (ci (gI ((Se x6 x8 x25 a9)==true)) (ci (gI ((Se x6 x8 x25 a9)==true)) (ci (gI ((Se x6 x8 x25 a9)==true)) (ci (J7 (Se x6 x8 x25 a9)) (ci (show(AVle (.bool (bif (Se x6 x8 x25 a9) then(((x25.1.getD a8.toNat 0):Int)==aa4) else false)) (.bool false)) from(Kj hs28)) (ci (show((false==true)=true→(false==true)=true) from Li) (ci (show((false==true)=true→(Spec Tryz.prog 17 [.any] [] Q449 [])) from Li) (ci (show((false==true)=true→(false==true)=true) from Li) (ci (show((false==true)=true→(false==true)=true) from Li) (c1 (show(false=true→(false==true)=true) from Li)))))))))))))))))))))) ?_;obtain rfl:=OI h;exact Bf []
    ·refine gR hq [0,1,2,8,9,10,12] [8,9,46,60046000,60046001] [] [⟨[],[],(.tuple [Q450,(Bc x4.2)]),(bif false then(Q422 x4) else[]),[],[]⟩] (c1 (show(Spec Tryz.prog 13 (Uo a9) [] (.tuple [Q450,(Bc x4.2)]) (bif false then(Q422 x4) else[])) from(eqB (fun b_:Bool=>Spec Tryz.prog 13 (Uo a9) [] (.tuple [(bif b_ then Q434 else .nilp),(Bc x4.2)]) (bif b_ then(Q422 x4) else[])) hs5 (Gr a9 x4 hx4)))) ?_;refine gR hq [0,1,2,8,9,10,12,59] [8,9,46,60046000,60046001] [] [] (ci (show(Kh=true→Kh=true) from(fun _=>rfl)) (c1 (show(false=false→Kh=true) from(fun _=>rfl)))) ?_;refine Qy true ?_;refine Af hq [6] [] ?_;obtain rfl:=OI h;exact Bf []
   ·refine gR hq [0,1,2,8,9,10] [8,9] [] [⟨[],[],(.tuple [Q450,(Bc x2.2)]),(bif false then(Q421 x2) else[]),[],[]⟩] (c1 (show(Spec Tryz.prog 13 (Uo a9) [] (.tuple [Q450,(Bc x2.2)]) (bif false then(Q421 x2) else[])) from(eqB (fun b_:Bool=>Spec Tryz.prog 13 (Uo a9) [] (.tuple [(bif b_ then Q434 else .nilp),(Bc x2.2)]) (bif b_ then(Q421 x2) else[])) hs3 (Gr a9 x2 hx2)))) ?_;obtain⟨x31,hx31,h⟩:=bind_some h;refine gB h (fun hs32 h=>?_) (fun hs32 h=>?_)
    ·refine gR hq [0,1,2,8,9,10,12] [8,9,51,60051000,60051001] [] [⟨[],[(20000,51),(21000,60051000),(21001,60051001)],(.tuple [Q451,(Bc x31.2)]),(bif true then(Q420 x31) else[]),[],[]⟩] (c1 (show(Spec Tryz.prog 13 (Uo a9) [] (.tuple [Q451,(Bc x31.2)]) (bif true then(Q420 x31) else[])) from(eqB (fun b_:Bool=>Spec Tryz.prog 13 (Uo a9) [] (.tuple [(bif b_ then Q434 else .nilp),(Bc x31.2)]) (bif b_ then(Q420 x31) else[])) hs32 (Gr a9 x31 hx31)))) ?_;refine gR hq [0,1,2,8,9,10,12,59] [8,9,51,60051000,60051001] [] [] (ci (show((true==false)=true→(true==false)=true) from Li) (c1 (show(true=false→(true==false)=true) from gNt))) ?_;refine Qy true ?_;refine Af hq [6] [] ?_;obtain rfl:=OI h;exact Bf []
    ·refine gR hq [0,1,2,8,9,10,12] [8,9] [] [⟨[],[],(.tuple [Q450,(Bc x31.2)]),(bif false then(Q420 x31) else[]),[],[]⟩] (c1 (show(Spec Tryz.prog 13 (Uo a9) [] (.tuple [Q450,(Bc x31.2)]) (bif false then(Q420 x31) else[])) from(eqB (fun b_:Bool=>Spec Tryz.prog 13 (Uo a9) [] (.tuple [(bif b_ then Q434 else .nilp),(Bc x31.2)]) (bif b_ then(Q420 x31) else[])) hs32 (Gr a9 x31 hx31)))) ?_;refine gR hq [0,1,2,8,9,10,12,59] [8,9] [] [] (ci (show((true==false)=true→(true==false)=true) from Li) (c1 (show(true=false→(true==false)=true) from gNt))) ?_;refine Qy true ?_;refine Af hq [6] [] ?_;obtain rfl:=OI h;exact Bf []
theorem w64_of{n:Int}(h:-9223372036854775808≤n)(h':n<9223372036854775808):Az n=n:=by
 show IntKind.i64.wrap n=n
 simp only[IntKind.wrap,IntKind.bits,IntKind.signed]
 simp
 split<;>omega
theorem S5{n:Int}(h:0≤n)(h':n<18446744073709551616):Cp n=n:=by
 show IntKind.u64.wrap n=n
 simp[IntKind.wrap,IntKind.bits,IntKind.signed];omega
theorem wu64_mod(n:Int):Cp n=n % 18446744073709551616:=by
 show IntKind.u64.wrap n=_
 simp[IntKind.wrap,IntKind.bits,IntKind.signed]
theorem wu8_mod(n:Int):wu8 n=n % 256:=by
 show IntKind.u8.wrap n=_
 simp[IntKind.wrap,IntKind.bits,IntKind.signed]
theorem Aq{R:Type}{p:Prop}[Decidable p]{k:Option R}(h:p):Av p k=k:=if_pos h
theorem scopeO_self{S X:Type}(f:S→Option (LR S X))(s:S):Io (f s) f=A0 f s:=by
 unfold Io
 cases h:f s with
 | none=>rw[Option.bind_none,R3 h]
 | some y=>cases y with
  | next s'=>rw[Hl h];rfl
  | done x=>rw[Dg h];rfl
theorem fdiv_pow{x:Int}(j:Nat):x.fdiv (2 ^ j)=x / 2 ^ j:=by rw[Int.fdiv_eq_ediv_of_nonneg _ (by exact Int.le_of_lt (Int.pow_pos (by decide)))]
theorem Ft{α:Type}(l:List α)(i:Nat)(d:α)(h:i<l.length):l.getD i d=l[i]:=by simp[List.getD,h]
theorem bytesF_eq{l:List Int}{f:Nat→List AV}(h:∀ i,f i=[.int .u8 (l.getD i 0)]):H7 l.length f=l:=by
 apply List.ext_getElem (by simp[H7])
 intro i h1 h2;simp only[H7,List.getElem_map,List.getElem_range,h,AV.num];exact Ft _ _ _ h2
theorem byteF_of{l:List Int}{f:Nat→List AV}(h:∀ i,f i=[.int .u8 (l.getD i 0)])(hl:∀ x∈l,0≤x∧x<256):J5 l.length f:=fun i hi=>by
 rw[h i];refine⟨rfl,?_⟩;simp only[AV.num];rw[Ft _ _ _ hi];exact hl _ (List.getElem_mem hi)
theorem Ml{α:Type}{l:List α}{i:Nat}{d:α}(h:i<l.length):l.getD i d∈l:=by rw[Ft _ _ _ h];exact List.getElem_mem h
theorem F3{i n:Nat}(h:i<n):A4 (i:Int) n:=⟨by omega,by exact_mod_cast h⟩
theorem loop_seq{S X:Type}(f:S→Option (LR S X))(T:Nat→S)(x:X):∀(n:Nat),(∀ i,i<n→f (T i)=some (.next (T (i+1))))→f (T n)=some (.done x)→A0 f (T 0)=some x:=by
 suffices h:∀(k i n:Nat),i+k=n→(∀ j,i≤j→j<n→f (T j)=some (.next (T (j+1))))→f (T n)=some (.done x)→A0 f (T i)=some x from
  fun n h1 h2=>h n 0 n (by omega) (fun j _ hj=>h1 j hj) h2
 intro k
 induction k with
 | zero=>
  intro i n hi _ h2
  have hin:n=i:=by omega
  subst hin;exact Dg h2
 | succ k ih=>intro i n hi h1 h2;rw[Hl (h1 i (Nat.le_refl _) (by omega))];exact ih (i+1) n (by omega) (fun j hj hj'=>h1 j (by omega) hj') h2
theorem Xh{S X:Type}(f:S→Option (LR S X))(T:Nat→S):∀(n:Nat),(∀ i,i<n→f (T i)=some (.next (T (i+1))))→A0 f (T 0)=A0 f (T n):=by
 intro n
 induction n with
 | zero=>intro _;rfl
 | succ n ih=>intro h;rw[ih (fun i hi=>h i (by omega)),Hl (h n (by omega))]
theorem loop_find{S X:Type}(f:S→Option (LR S X))(T:Nat→S)(p:Nat→Bool)(yes no:X)(n:Nat)(hn:∀ i,i<n→p i=true→f (T i)=some (.next (T (i+1))))(hf:∀ i,i<n→p i=false→f (T i)=some (.done no))
  (he:f (T n)=some (.done yes)):A0 f (T 0)=some (bif (List.range n).all p then yes else no):=by
 cases hall:(List.range n).all p with
 | true=>
  rw[cond_true];exact loop_seq f T yes n (fun i hi=>hn i hi (List.all_eq_true.1 hall i (List.mem_range.2 hi))) he
 | false=>
  rw[cond_false]
  have hex:∃ i,i<n∧p i=false:=by
   have:¬ ∀ i∈List.range n,p i=true:=fun h=>by rw[List.all_eq_true.2 h]at hall;cases hall
   simpa using this
  let P:Nat→Prop:=fun m=>m<n∧p m=false
  obtain⟨m,hm⟩:=hex
  have key:∀ m,m<n→p m=false→∃ k,k<n∧p k=false∧∀ j,j<k→p j=true:=by
   intro m
   induction m using Nat.strongRecOn with
   | ind m ih=>
    intro h1 h2
    by_cases h:∃ j,j<m∧p j=false
    ·obtain⟨j,hj,hpj⟩:=h;exact ih j hj (by omega) hpj
    ·refine⟨m,h1,h2,fun j hj=>?_⟩
     cases hpj:p j with
     | true=>rfl
     | false=>exact(h ⟨j,hj,hpj⟩).elim
  obtain⟨k,hk,hpk,hlt⟩:=key m hm.1 hm.2;rw[Xh f T k (fun i hi=>hn i (by omega) (hlt i hi))];exact Dg (hf k hk hpk)
theorem Fe(i:Nat):((i:Int)).toNat=i:=Int.toNat_natCast i
theorem w1{i:Nat}(h:i<4611686018427387904):Az ((i:Int)+1)=((i+1:Nat):Int):=by rw[w64_of (by omega) (by omega)];omega
theorem Sp{i n:Nat}(h:i<n):decide (((i:Nat):Int)<((n:Nat):Int))=true:=by simpa using h
theorem Yb{n:Nat}:decide (((n:Nat):Int)<((n:Nat):Int))=false:=by simp
theorem inb{i n:Nat}(h:i<n):A4 ((i:Nat):Int) n:=F3 h
def wdM(w:Int):Prop:=w=1∨w=8∨w=16∨w=32∨w=64
def u64(x:Int):Prop:=0≤x∧x<18446744073709551616
theorem Tv(x:Int):u64 (Cp x):=by rw[wu64_mod];unfold u64;omega
theorem wd_pow{w:Int}(h:wdM w):(0:Int)<2 ^ w.toNat∧(2:Int) ^ w.toNat≤18446744073709551616:=by rcases h with rfl|rfl|rfl|rfl|rfl<;>decide
theorem Zz{w:Int}(h:wdM w)(x:Int):0≤x % 2 ^ w.toNat∧x % 2 ^ w.toNat<2 ^ w.toNat:=by
 have:=(wd_pow h).1;exact⟨Int.emod_nonneg _ (by omega),Int.emod_lt_of_pos _ this⟩
theorem u64_of{w x:Int}(h:wdM w)(h0:0≤x)(h1:x<2 ^ w.toNat):u64 x:=⟨h0,Int.lt_of_lt_of_le h1 (wd_pow h).2⟩
theorem shsh{v:Int}{a:Nat}{p q:Int}(hp:(2:Int) ^ min ((a:Int).toNat) 64=p)(hq:∀ v:Int,v*p % 18446744073709551616 / p=v % q)(h0:0≤p):Hn .u64 (Nz .u64 v (a:Int)) (a:Int)=v % q:=by
 have e1:Nz .u64 v (a:Int)=v*p % 18446744073709551616:=by
  show IntKind.u64.wrap (v*2 ^ min ((a:Int).toNat) 64)=_
  rw[hp];exact wu64_mod _
 have e2:∀ x:Int,Hn .u64 x (a:Int)=x.fdiv p:=fun x=>by
  show x.fdiv (2 ^ min ((a:Int).toNat) 64)=_
  rw[hp]
 rw[e1,e2,Int.fdiv_eq_ediv_of_nonneg _ h0,hq]
theorem c_May{w:Int}(h:wdM w):Ci w=some true:=by rcases h with rfl|rfl|rfl|rfl|rfl<;>rfl
theorem X6{v w:Int}(hw:wdM w)(h:u64 v):Co v w=some (v % 2 ^ w.toNat):=by
 rcases hw with rfl|rfl|rfl|rfl|rfl
 ·rw[show Co v 1=some (Hn .u64 (Nz .u64 v ((63:Nat):Int)) ((63:Nat):Int)) by kernel_rfl,shsh (p:=9223372036854775808) (q:=2) (by decide) (fun v=>by omega) (by decide)];rfl
 ·rw[show Co v 8=some (Hn .u64 (Nz .u64 v ((56:Nat):Int)) ((56:Nat):Int)) by kernel_rfl,shsh (p:=72057594037927936) (q:=256) (by decide) (fun v=>by omega) (by decide)];rfl
 ·rw[show Co v 16=some (Hn .u64 (Nz .u64 v ((48:Nat):Int)) ((48:Nat):Int)) by kernel_rfl,shsh (p:=281474976710656) (q:=65536) (by decide) (fun v=>by omega) (by decide)];rfl
 ·rw[show Co v 32=some (Hn .u64 (Nz .u64 v ((32:Nat):Int)) ((32:Nat):Int)) by kernel_rfl,shsh (p:=4294967296) (q:=4294967296) (by decide) (fun v=>by omega) (by decide)];rfl
 ·rw[show Co v 64=some (Hn .u64 (Nz .u64 v ((0:Nat):Int)) ((0:Nat):Int)) by kernel_rfl,shsh (p:=1) (q:=18446744073709551616) (by decide) (fun v=>by omega) (by decide)];rfl
theorem Vt{op:BinOp}{x y:Int}:u64 (F2 op .u64 x y):=by
 unfold F2
 split<;>first|exact Tv _|exact⟨Int.le_refl _,by decide⟩
theorem shl_u64{x y:Int}:u64 (Nz .u64 x y):=Tv _
theorem shr_u64{x y:Int}(h:u64 x):u64 (Hn .u64 x y):=by
 unfold Hn;have h2:(0:Int)<2 ^ min y.toNat IntKind.u64.bits:=Int.pow_pos (by decide);rw[Int.fdiv_eq_ediv_of_nonneg _ (Int.le_of_lt h2)];exact⟨Int.ediv_nonneg h.1 (Int.le_of_lt h2),Int.lt_of_le_of_lt (Int.ediv_le_self _ h.1) h.2⟩
theorem Tu(b:Bool):∃ z,Ek b=some z∧u64 z:=by cases b<;>exact⟨_,rfl,by unfold u64;decide⟩
theorem c_Signed{v w:Int}(hw:wdM w):∃ z,He v w=some z:=by
 rcases hw with rfl|rfl|rfl|rfl|rfl
 ·exact⟨Hn .i64 (Az (Nz .u64 v 63)) 63,by kernel_rfl⟩
 ·exact⟨Hn .i64 (Az (Nz .u64 v 56)) 56,by kernel_rfl⟩
 ·exact⟨Hn .i64 (Az (Nz .u64 v 48)) 48,by kernel_rfl⟩
 ·exact⟨Hn .i64 (Az (Nz .u64 v 32)) 32,by kernel_rfl⟩
 ·exact⟨Hn .i64 (Az (Nz .u64 v 0)) 0,by kernel_rfl⟩
theorem c_apply{k w x y:Int}(hk:1≤k∧k≤12)(hw:wdM w)(hx:u64 x)(hy:u64 y)(h4:k=4→y≠0):∃ z,C8 k w x y=some z∧u64 z:=by
 obtain⟨k1,k2⟩:=hk
 have hc:k=1∨k=2∨k=3∨k=4∨k=5∨k=6∨k=7∨k=8∨k=9∨k=10∨k=11∨k=12:=by omega
 rcases hc with rfl|rfl|rfl|rfl|rfl|rfl|rfl|rfl|rfl|rfl|rfl|rfl
 ·exact⟨Cp (x+y),by kernel_rfl,Tv _⟩
 ·exact⟨Cp (x-y),by kernel_rfl,Tv _⟩
 ·exact⟨Cp (x*y),by kernel_rfl,Tv _⟩
 ·refine⟨Cp (Int.tdiv x y),?_,Tv _⟩;rw[show C8 4 w x y=(Gl x y).bind fun x2=>some x2 by kernel_rfl];unfold Gl;rw[Gx (h4 rfl)];rfl
 ·exact⟨F2 .and .u64 x y,by kernel_rfl,Vt⟩
 ·exact⟨F2 .or .u64 x y,by kernel_rfl,Vt⟩
 ·exact⟨F2 .xor .u64 x y,by kernel_rfl,Vt⟩
 ·rw[show C8 8 w x y=(Gm x y w).bind fun x2=>some x2.1 by kernel_rfl];unfold Gm;rw[Gx hy.1]
  cases decide (Cp w≤y)
  ·exact⟨_,rfl,shl_u64⟩
  ·exact⟨_,rfl,show u64 0 from⟨Int.le_refl _,by decide⟩⟩
 ·rw[show C8 9 w x y=(Gn x y w).bind fun x2=>some x2.1 by kernel_rfl];unfold Gn;rw[Gx hy.1]
  cases decide (Cp w≤y)
  ·exact⟨_,rfl,shr_u64 hx⟩
  ·exact⟨_,rfl,show u64 0 from⟨Int.le_refl _,by decide⟩⟩
 ·rw[show C8 10 w x y=((Ek ((x:Int)==y)).bind fun x1=>some x1).bind fun x2=>some x2 by kernel_rfl];obtain⟨z,h1,h2⟩:=Tu ((x:Int)==y);rw[h1];exact⟨z,rfl,h2⟩
 ·rw[show C8 11 w x y=((Ek (decide (x<y))).bind fun x1=>some x1).bind fun x2=>some x2 by kernel_rfl];obtain⟨z,h1,h2⟩:=Tu (decide (x<y));rw[h1];exact⟨z,rfl,h2⟩
 ·rw[show C8 12 w x y=(Fm x y w).bind fun x2=>some x2.1 by kernel_rfl];unfold Fm;obtain⟨p,hp⟩:=c_Signed (v:=x) hw;obtain⟨q,hq⟩:=c_Signed (v:=y) hw;rw[hp,hq];obtain⟨z,h1,h2⟩:=Tu (decide (p<q));simp only[Option.bind_some,h1];exact⟨z,rfl,h2⟩
theorem c_Two{k w:Int}(hk:1≤k∧k≤12)(hw:wdM w):K0 k w=some true:=by
 unfold K0;rw[decide_eq_true hk.1,decide_eq_true hk.2,c_May hw]
 rfl
theorem c_Do{k w a b:Int}(hk:1≤k∧k≤12)(hw:wdM w)(ha:u64 a)(hb:u64 b) :
  ∃ v e,Hw k w a b=some (v,e)∧0≤v∧v<2 ^ w.toNat∧(e=0∧(k=4→b % 2 ^ w.toNat≠0)∨e=8∧v=0∧k=4∧b % 2 ^ w.toNat=0):=by
 unfold Hw;rw[c_Two hk hw,X6 hw ha,X6 hw hb];simp only[Option.bind_some,Bool.not_true,cond_false];have hp:=(wd_pow hw).1;obtain⟨x0,x1⟩:=Zz hw a;obtain⟨y0,y1⟩:=Zz hw b
 by_cases h4:k=4∧b % 2 ^ w.toNat=0
 ·rw[h4.1,h4.2];exact⟨0,8,rfl,Int.le_refl _,hp,.inr ⟨rfl,rfl,rfl,rfl⟩⟩
 ·have hg:(bif ((k:Int)==(4:Int)) then((b % 2 ^ w.toNat:Int)==(0:Int)) else false)=false:=by
   cases hk4:((k:Int)==(4:Int)) with
   | false=>rfl
   | true=>
    rw[cond_true,beq_eq_false_iff_ne];exact fun h=>h4 ⟨by simpa using hk4,h⟩
  rw[hg,cond_false];obtain⟨z,h1,h2⟩:=c_apply hk hw (u64_of hw x0 x1) (u64_of hw y0 y1) (fun h h'=>h4 ⟨h,h'⟩);rw[h1,Option.bind_some,X6 hw h2];obtain⟨z0,z1⟩:=Zz hw z;exact⟨_,0,rfl,z0,z1,.inl ⟨rfl,fun h h'=>h4 ⟨h,h'⟩⟩⟩
abbrev Vs:=List (List Int)
abbrev OR:=List Int×Int×Int×Int×List Ab×Vs×List Int
def H1(x:List Int×Int)(V:Vs)(F S:Int)(B:List Int)(T:List Ab):OR:=(x.1,x.2,F,S,T,V,B)
def memR(V:Vs)(B:List Int)(x:OR):Option OR:=Av (V.length=x.2.2.2.2.2.1.length) (Av (B.length=x.2.2.2.2.2.2.length) (some x))
def opM(o:TOp)(V:Vs)(F S:Int)(B:List Int)(T:List Ab):Option OR:=
 bif decide (o.Kind=0) then(Fj o).bind fun x=>some (H1 x V F S B T) else
 bif decide (o.Kind=13) then(D4 o V F S B T).bind fun x=>some (H1 x V F S B T) else
 bif decide (o.Kind=14) then(C6 o V F S B T).bind fun x=>some (H1 x V F S B T) else
 bif decide (o.Kind=15) then(Cv o V F S B T).bind fun x=>some (H1 x V F S B T) else
 bif decide (o.Kind=16) then(Dk o V F S B T).bind (memR V B) else
 bif decide (o.Kind=17) then(Cd o V F S B T).bind (memR V B) else
 bif decide (o.Kind=18) then(C5 o V F S B T).bind (memR V B) else
 bif decide (o.Kind=19) then(Ct o V F S B T).bind (memR V B) else
 bif decide (o.Kind=20) then(Cu o 4 V F S B T).bind fun x=>some (H1 x V F S B T) else
 bif decide (o.Kind=21) then(Es o V F S B T).bind fun x=>some (H1 x V F S B T) else
 bif decide (o.Kind=22) then(Fb o V F S B T).bind fun x=>some (H1 x V F S B T) else
 bif decide (o.Kind=1) then(Ah o 1 V F S B T).bind fun x=>some (H1 x V F S B T) else
 bif decide (o.Kind=2) then(Ah o 2 V F S B T).bind fun x=>some (H1 x V F S B T) else
 bif decide (o.Kind=3) then(Ah o 3 V F S B T).bind fun x=>some (H1 x V F S B T) else
 bif decide (o.Kind=4) then(Ah o 4 V F S B T).bind fun x=>some (H1 x V F S B T) else
 bif decide (o.Kind=5) then(Ah o 5 V F S B T).bind fun x=>some (H1 x V F S B T) else
 bif decide (o.Kind=6) then(Ah o 6 V F S B T).bind fun x=>some (H1 x V F S B T) else
 bif decide (o.Kind=7) then(Ah o 7 V F S B T).bind fun x=>some (H1 x V F S B T) else
 bif decide (o.Kind=8) then(Ah o 8 V F S B T).bind fun x=>some (H1 x V F S B T) else
 bif decide (o.Kind=9) then(Ah o 9 V F S B T).bind fun x=>some (H1 x V F S B T) else
 bif decide (o.Kind=10) then(Ah o 10 V F S B T).bind fun x=>some (H1 x V F S B T) else
 bif decide (o.Kind=11) then(Ah o 11 V F S B T).bind fun x=>some (H1 x V F S B T) else
 bif decide (o.Kind=12) then(Ah o 12 V F S B T).bind fun x=>some (H1 x V F S B T) else none
abbrev DR:=Int×Int×Int×List Ab×Vs×List Int
def doG:List TOp→Vs→Int→Int→List Int→List Ab→Option DR
 | [],V,F,S,B,T=>some (0,F,S,T,V,B)
 | o::l,V,F,S,B,T=>
  bif S==F then some (9,F,S,T,V,B) else
  (opM o V F (Az (S+1)) B T).bind fun x=>
   bif x.2.1 !=0 then some (x.2.1,x.2.2.1,x.2.2.2.1,x.2.2.2.2.1,x.2.2.2.2.2.1,x.2.2.2.2.2.2)
   else Av (A4 o.Dst x.2.2.2.2.2.1.length) (doG l (x.2.2.2.2.2.1.set o.Dst.toNat x.1) x.2.2.1 x.2.2.2.1 x.2.2.2.2.2.2 x.2.2.2.2.1)
theorem chk_T{R:Type}[Decidable True]{k:Option R}:Av True k=k:=if_pos trivial
theorem doL{ops:List TOp}{i:Nat}(hi:i<ops.length)(hn:ops.length<4611686018427387904)(F S:Int)(T:List Ab)(V:Vs)(B:List Int) :
  B9 ops ((i:Int),F,S,T,V,B)=bif S==F then some (.done (.inr (9,F,S,T,V,B))) else
   (opM (ops.getD i default) V F (Az (S+1)) B T).bind fun x=>
    bif x.2.1 !=0 then some (.done (.inr (x.2.1,x.2.2.1,x.2.2.2.1,x.2.2.2.2.1,x.2.2.2.2.2.1,x.2.2.2.2.2.2)))
    else Av (A4 (ops.getD i default).Dst x.2.2.2.2.2.1.length) (some (.next (((i+1:Nat):Int),x.2.2.1,x.2.2.2.1,x.2.2.2.2.1,x.2.2.2.2.2.1.set (ops.getD i default).Dst.toNat x.1,x.2.2.2.2.2.2))):=by
 unfold B9 Ch
 cases hSF:((S:Int)==F) with
 | true=>simp only[hSF,Sp hi,cond_true,Option.bind_some,chk_T,Bool.not_false]
 | false=>
  simp only[hSF,Sp hi,cond_true,cond_false,Option.bind_some,Bool.not_true,Aq (F3 hi),Fe,w1 (Nat.lt_of_lt_of_le hi (Nat.le_of_lt hn))]
  rfl
theorem doAll_go{ops:List TOp}(hn:ops.length<4611686018427387904):∀(k i:Nat) (V:Vs) (F S:Int) (B:List Int) (T:List Ab),i+k=ops.length→
  ((A0 (B9 ops) ((i:Int),F,S,T,V,B)).bind fun x=>match x with | .inl y=>some ((0:Int),y) | .inr r=>some r)=doG (ops.drop i) V F S B T
 | 0,i,V,F,S,B,T,h=>by
  obtain rfl:i=ops.length:=by omega
  rw[List.drop_length,Dg (x:=.inl (F,S,T,V,B)) (by unfold B9;simp only[Yb,cond_false])]
  rfl
 | k+1,i,V,F,S,B,T,h=>by
  have hi:i<ops.length:=by omega
  have hd:ops.drop i=ops.getD i default::ops.drop (i+1):=by rw[List.drop_eq_getElem_cons hi,Ft _ _ _ hi]
  rw[hd,doG];have hs:=doL hi hn F S T V B
  cases hSF:((S:Int)==F) with
  | true=>
   rw[hSF,cond_true]at hs;rw[Dg hs,cond_true];rfl
  | false=>
   rw[hSF,cond_false]at hs;rw[cond_false]
   cases ho:opM (ops.getD i default) V F (Az (S+1)) B T with
   | none=>rw[ho]at hs;rw[R3 hs];rfl
   | some x=>
    rw[ho]at hs;simp only[Option.bind_some]at hs ⊢
    cases he:((x.2.1:Int)!=0) with
    | true=>rw[he,cond_true]at hs;rw[Dg hs,cond_true];rfl
    | false=>
     rw[he,cond_false]at hs;rw[cond_false]
     by_cases hc:A4 (ops.getD i default).Dst x.2.2.2.2.2.1.length
     ·rw[Aq hc]at hs ⊢;rw[Hl hs,doAll_go hn k (i+1) _ _ _ _ _ (by omega)]
     ·rw[Av,if_neg hc]at hs ⊢;rw[R3 hs];rfl
theorem doAll_eq{ops:List TOp}(hn:ops.length<4611686018427387904)(V:Vs)(F S:Int)(B:List Int)(T:List Ab):Cq ops V F S B T=doG ops V F S B T:=by
 have:=doAll_go hn ops.length 0 V F S B T (by omega);rw[List.drop_zero]at this;rw[← this];unfold Cq
 congr 1
 funext x
 rcases x with⟨a,b,c,d,e⟩|r<;>rfl
abbrev RR:=Fv×Int×Int×List Ab×Vs×List Int
abbrev ST:=Int×Int×Int×List Ab×Vs×List Int
def blG(bs:List Aj)(at_:Int)(V:Vs)(F S:Int)(B:List Int)(T:List Ab):Option (LR ST RR):=
 Av (A4 at_ bs.length) ((doG (bs.getD at_.toNat default).Ops V F S B T).bind fun x=>
  Av (V.length=x.2.2.2.2.1.length) (Av (B.length=x.2.2.2.2.2.length) (
  bif x.1 !=0 then some (.done (⟨x.1,0,x.2.2.1⟩,x.2.1,x.2.2.1,x.2.2.2.1,x.2.2.2.2.1,x.2.2.2.2.2))
  else bif x.2.2.1==x.2.1 then some (.done (⟨9,0,x.2.2.1⟩,x.2.1,x.2.2.1,x.2.2.2.1,x.2.2.2.2.1,x.2.2.2.2.2))
  else bif (bs.getD at_.toNat default).End.Kind==0 then
   (Au (bs.getD at_.toNat default).End.Arg x.2.2.2.2.1 x.2.1 (Az (x.2.2.1+1)) x.2.2.2.2.2 x.2.2.2.1).bind fun v=>
    some (.done (⟨0,v,Az (x.2.2.1+1)⟩,x.2.1,Az (x.2.2.1+1),x.2.2.2.1,x.2.2.2.2.1,x.2.2.2.2.2))
  else bif (bs.getD at_.toNat default).End.Kind==3 then some (.done (⟨8,0,Az (x.2.2.1+1)⟩,x.2.1,Az (x.2.2.1+1),x.2.2.2.1,x.2.2.2.2.1,x.2.2.2.2.2))
  else(Dz (bs.getD at_.toNat default).End x.2.2.2.2.1 x.2.1 (Az (x.2.2.1+1)) x.2.2.2.2.2 x.2.2.2.1).bind fun to=>
   Av (A4 to bs.length) ((Dj (bs.getD to.toNat default).Phis at_ x.2.2.2.2.1 x.2.1 (Az (x.2.2.1+1)) x.2.2.2.2.2 x.2.2.2.1).bind fun y=>
    Av (x.2.2.2.2.1.length=y.2.2.2.1.length) (Av (x.2.2.2.2.2.length=y.2.2.2.2.length) (some (.next (to,y.1,y.2.1,y.2.2.1,y.2.2.2.1,y.2.2.2.2))))))))
theorem run_F{bs:List Aj}(hb:∀ b∈bs,b.Ops.length<4611686018427387904)(at_ F S:Int)(T:List Ab)(V:Vs)(B:List Int):Be bs (at_,F,S,T,V,B)=blG bs at_ V F S B T:=by
 unfold Be blG
 by_cases hi:A4 at_ bs.length
 ·have hm:(bs.getD at_.toNat default)∈bs:=Ml (by have:=hi.1;have:=hi.2;omega);simp only[Aq hi,doAll_eq (hb _ hm)]
  congr 1
  funext x
  congr 2
  cases(x.1 !=0)
  ·unfold Ch
   cases(x.2.2.1==x.2.1)
   ·simp only[cond_false,Option.bind_some,Bool.not_true]
    rfl
   ·simp only[cond_false,cond_true,Option.bind_some,Bool.not_false]
    rfl
  ·rfl
 ·simp only[Av,if_neg hi]
theorem run_eq{bs:List Aj}(V:Vs)(F S:Int)(B:List Int)(T:List Ab):Dy bs V F S B T=A0 (Be bs) (0,F,S,T,V,B):=by
 have e:Dy bs V F S B T=(Io (Be bs (0,F,S,T,V,B)) (Be bs)).bind some:=rfl;rw[e,scopeO_self]
 cases A0 (Be bs) (0,F,S,T,V,B)<;>rfl
def Xi(B:List Int):Prop:=∀ x∈B,0≤x∧x<256
def byV:Nat→Int→List Int
 | 0,_=>[]
 | s+1,v=>v % 256::byV s (v / 256)
def tch(w:Bool):Nat→List Int→List Ab
 | _,[]=>[]
 | a,b::l=>⟨w,(a:Int),b⟩::tch w (a+1) l
def Ln:List Int→Nat→List Int→List Int
 | B,_,[]=>B
 | B,a,b::l=>Ln (B.set a b) (a+1) l
theorem byV_len(s:Nat)(v:Int):(byV s v).length=s:=by induction s generalizing v with|zero=>rfl|succ s ih=>simp[byV,ih]
theorem tch_len(w:Bool)(a:Nat)(l:List Int):(tch w a l).length=l.length:=by induction l generalizing a with|nil=>rfl|cons b l ih=>simp[tch,ih]
theorem Jp(B:List Int)(a:Nat)(l:List Int):(Ln B a l).length=B.length:=by induction l generalizing B a with|nil=>rfl|cons b l ih=>simp[Ln,ih]
theorem putB_ok{B:List Int}{a:Nat}{l:List Int}(hB:Xi B)(hl:Xi l):Xi (Ln B a l):=by
 induction l generalizing B a with
 | nil=>exact hB
 | cons b l ih=>
  refine ih (fun x hx=>?_) fun x hx=>hl x (List.mem_cons_of_mem _ hx);rcases List.mem_or_eq_of_mem_set hx with h|h
  ·exact hB x h
  ·rw[h];exact hl b (List.mem_cons_self ..)
def thB(N:Nat)(a n:Int):Bool:=decide (1≤n)&&decide (a+n≤N)
theorem m_there{B:List Int}{T:List Ab}{a n:Int}(ha:0≤a)(hB:B.length<4611686018427387904):Ee a n B T=some (thB B.length a n,T,B):=by
 unfold Ee thB
 by_cases h1:n<1
 ·rw[show decide (n<(1:Int))=true from decide_eq_true (by omega),cond_true,cond_true];rw[show decide (1≤n)=false from decide_eq_false (by omega),Bool.false_and]
 ·rw[show decide (n<(1:Int))=false from decide_eq_false (by omega),cond_false,show decide (1≤n)=true from decide_eq_true (by omega),Bool.true_and]
  by_cases h2:(B.length:Int)<n
  ·rw[show decide ((B.length:Int)<n)=true from decide_eq_true (by omega),cond_true];rw[show decide (a+n≤(B.length:Int))=false from decide_eq_false (by omega)]
  ·rw[show decide ((B.length:Int)<n)=false from decide_eq_false (by omega),cond_false];rw[w64_of (by omega) (by omega),S5 (by omega) (by omega)];rw[show decide (a≤(B.length:Int)-n)=decide (a+n≤(B.length:Int)) from decide_eq_decide.2 (by omega)]
theorem shr8{v:Int}:Hn .u64 v (8:Int)=v / 256:=by
 unfold Hn
 have:min (8:Int).toNat IntKind.u64.bits=8:=by decide
 rw[this,fdiv_pow]
 rfl
theorem wr_loop{s:Nat}(hs:s≤8):∀(k i cur:Nat) (v:Int) (t:List Ab) (B:List Int),i+k=s→cur+k≤B.length→B.length<4611686018427387904→t.length+k≤room→
  A0 (Ck (s:Int)) ((cur:Int),v,(i:Int),t,B)=some (t++tch true cur (byV k v),Ln B cur (byV k v))
 | 0,i,cur,v,t,B,hi,hc,hL,hr=>by
  obtain rfl:i=s:=by omega
  refine Dg ?_;unfold Ck;simp only;rw[Yb,cond_false];simp[byV,tch,Ln]
 | k+1,i,cur,v,t,B,hi,hc,hL,hr=>by
  have step:Ck (s:Int) ((cur:Int),v,(i:Int),t,B)=some (.next (((cur+1:Nat):Int),v / 256,((i+1:Nat):Int),t++[⟨true,(cur:Int),v % 256⟩],B.set cur (v % 256))):=by
   unfold Ck;simp only;rw[Sp (by omega),cond_true,Gx (inb (by omega)),Gx (by simp;omega),Fe,shr8,wu8_mod,w1 (by omega),S5 (by omega) (by omega)]
   rfl
  rw[Hl step,wr_loop hs k (i+1) (cur+1) _ _ _ (by omega) (by simp;omega) (by simpa using hL) (by simp;omega)];simp[byV,tch,Ln]
theorem m_writeOne{B:List Int}{T:List Ab}{v:Int}(hL:B.length<4611686018427387904){s cur:Nat}(hs:s≤8)(hc:cur+s≤B.length)(hr:T.length+s≤room) :
  D1 (cur:Int) (s:Int) v B T=some (T++tch true cur (byV s v),Ln B cur (byV s v)):=by
 unfold D1;have:=wr_loop hs s 0 cur v T B (by omega) hc hL hr;rw[show((0:Nat):Int)=0 from rfl]at this;rw[this]
 rfl
def U6(s:Nat):List Int→Nat→List Int→Bool×List Ab×List Int
 | [],_,B=>(true,[],B)
 | v::l,cur,B=>if cur+s≤B.length then((U6 s l (cur+s) (Ln B cur (byV s v))).1,tch true cur (byV s v)++(U6 s l (cur+s) (Ln B cur (byV s v))).2.1,(U6 s l (cur+s) (Ln B cur (byV s v))).2.2) else(false,[],B)
theorem wrM_len{s:Nat}(l:List Int)(cur:Nat)(B:List Int):(U6 s l cur B).2.1.length≤l.length*s∧(U6 s l cur B).2.2.length=B.length:=by
 induction l generalizing cur B with
 | nil=>simp[U6]
 | cons v l ih=>
  unfold U6
  split
  ·have:=ih (cur+s) (Ln B cur (byV s v));rw[Jp]at this;simp[tch_len,byV_len,Nat.succ_mul];omega
  ·simp
def wdB(bits:Int):Bool:=bits==8 || bits==16 || bits==32 || bits==64
def mayM(bits n:Int):Bool:=wdB bits&&decide (0≤n)&&decide (n≤16)
theorem wdB_cases{bits:Int}(h:wdB bits=true):bits=8∨bits=16∨bits=32∨bits=64:=by
 simp only[wdB,Bool.or_eq_true,beq_iff_eq]at h;omega
theorem m_bytesOf(bits:Int):Fu bits=some (bif wdB bits then bits / 8 else 0):=by
 by_cases h:wdB bits=true
 ·rw[h,cond_true];rcases wdB_cases h with rfl|rfl|rfl|rfl<;>decide
 ·have h':wdB bits=false:=by simpa using h
  rw[h',cond_false];simp only[wdB,Bool.or_eq_false_iff]at h';obtain⟨⟨⟨h1,h2⟩,h3⟩,h4⟩:=h';unfold Fu;rw[h1,cond_false,h2,cond_false,h3,cond_false,h4]
  rfl
theorem wd_s{bits:Int}(h:wdB bits=true):∃ s:Nat,bits / 8=(s:Int)∧1≤s∧s≤8∧bits=8*(s:Int)∧Az (Int.tdiv bits 8)=(s:Int):=by
 rcases wdB_cases h with rfl|rfl|rfl|rfl
 ·exact⟨1,by decide,by decide,by decide,by decide,by decide⟩
 ·exact⟨2,by decide,by decide,by decide,by decide,by decide⟩
 ·exact⟨4,by decide,by decide,by decide,by decide,by decide⟩
 ·exact⟨8,by decide,by decide,by decide,by decide,by decide⟩
theorem thB_nat{N s cur:Nat}(hs:1≤s):thB N (cur:Int) (s:Int)=decide (cur+s≤N):=by
 unfold thB;rw[show decide (1≤(s:Int))=true from decide_eq_true (by omega),Bool.true_and];exact decide_eq_decide.2 (by omega)
theorem may_bad{bits n:Int}:(bif bif (bif wdB bits then bits / 8 else 0)==0 then true else decide (n<0) then true else decide (16<n)) = !mayM bits n:=by
 unfold mayM
 cases h:wdB bits with
 | false=>rfl
 | true=>
  obtain⟨s,h1,h2,h3,_⟩:=wd_s h;rw[cond_true,h1,show((s:Int)==0)=false by simp;omega,cond_false,Bool.true_and]
  by_cases h4:n<0
  ·rw[decide_eq_true h4,cond_true,decide_eq_false (show ¬ (0≤n) by omega)];rfl
  ·rw[decide_eq_false h4,cond_false,decide_eq_true (show 0≤n by omega),Bool.true_and]
   by_cases h5:16<n
   ·rw[decide_eq_true h5,decide_eq_false (show ¬ n≤16 by omega)];rfl
   ·rw[decide_eq_false h5,decide_eq_true (show n≤16 by omega)];rfl
theorem wr_all{s:Nat}(hs:s≤8)(hs1:1≤s){L:List Int}(hN:L.length≤16):∀(k i cur:Nat) (t:List Ab) (B:List Int),i+k=L.length→B.length<4611686018427387904→t.length+k*8≤room→
  A0 (Cm L (s:Int)) ((cur:Int),(i:Int),t,B) =
   some (if(U6 s (L.drop i) cur B).1=true then .inl (t++(U6 s (L.drop i) cur B).2.1,(U6 s (L.drop i) cur B).2.2) else .inr (t++(U6 s (L.drop i) cur B).2.1,(U6 s (L.drop i) cur B).2.2))
 | 0,i,cur,t,B,hi,hL,hr=>by
  obtain rfl:i=L.length:=by omega
  refine Dg ?_;unfold Cm;simp only;rw[Yb,cond_false,List.drop_length];simp[U6]
 | k+1,i,cur,t,B,hi,hL,hr=>by
  have hd:L.drop i=L.getD i 0::L.drop (i+1):=by rw[List.drop_eq_getElem_cons (by omega),Ft _ _ _ (by omega)]
  by_cases hc:cur+s≤B.length
  ·have step:Cm L (s:Int) ((cur:Int),(i:Int),t,B)=some (.next (((cur+s:Nat):Int),((i+1:Nat):Int),t++tch true cur (byV s (L.getD i 0)),Ln B cur (byV s (L.getD i 0)))):=by
    unfold Cm;simp only;rw[Sp (by omega),cond_true,Gx (inb (by omega)),m_there (by omega) hL,Option.bind_some,Gx rfl,thB_nat hs1];simp only;rw[show decide (cur+s≤B.length)=true from decide_eq_true (by omega),Bool.not_true,cond_false,Fe,m_writeOne hL hs hc (by omega),Option.bind_some,Gx (by rw[Jp]),w1 (by omega),S5 (n:=(s:Int)) (by omega) (by omega),S5 (by omega) (by omega)]
    simp
   rw[Hl step,wr_all hs hs1 hN k (i+1) (cur+s) _ _ (by omega) (by rw[Jp];exact hL) (by simp[tch_len,byV_len];omega)];rw[hd,U6,if_pos hc];simp only[List.append_assoc]
  ·rw[hd,U6,if_neg hc];refine Dg ?_;unfold Cm;simp only;rw[Sp (by omega),cond_true,Gx (inb (by omega)),m_there (by omega) hL,Option.bind_some,Gx rfl,thB_nat hs1];simp only;rw[show decide (cur+s≤B.length)=false from decide_eq_false (by omega),Bool.not_false,cond_true]
   simp
def WR(a bits:Int)(L:List Int)(B:List Int)(T:List Ab):Int×List Ab×List Int:=
 if mayM bits L.length=true then(if(U6 (bits / 8).toNat L a.toNat B).1=true then 0 else 8,T++(U6 (bits / 8).toNat L a.toNat B).2.1,(U6 (bits / 8).toNat L a.toNat B).2.2) else(1,T,B)
theorem may_badW{bits:Int}{n:Nat}:(bif (bif wdB bits then bits / 8 else 0)==0 then true else decide (16<(n:Int))) = !mayM bits n:=by
 rw[← may_bad,show decide ((n:Int)<0)=false from decide_eq_false (by omega)]
 cases(bif wdB bits then bits / 8 else 0)==0<;>rfl
theorem m_Write{a bits:Int}{L B:List Int}{T:List Ab}(ha:0≤a)(hL:B.length<4611686018427387904)(hr:T.length+128≤room):Fl a bits L B T=some (WR a bits L B T):=by
 unfold Fl WR;rw[m_bytesOf,Option.bind_some,may_badW]
 cases hm:mayM bits L.length with
 | false=>simp[Io]
 | true=>
  simp only[mayM,Bool.and_eq_true,decide_eq_true_iff]at hm;obtain⟨⟨hw,h0⟩,h1⟩:=hm;obtain⟨s,h2,h3,h4,h5,h6⟩:=wd_s hw;obtain⟨A,rfl⟩:∃ A:Nat,a=A:=⟨a.toNat,by omega⟩;rw[Bool.not_true,cond_false,hw,cond_true,h2,Fe,Fe];have:=wr_all h4 h3 (L:=L) (by omega) L.length 0 A T B (by omega) hL (by omega);rw[List.drop_zero,show((0:Nat):Int)=0 from rfl]at this;rw[this]
  by_cases hk:(U6 s L A B).1=true
  ·rw[if_pos hk,if_pos rfl,if_pos hk];rfl
  ·rw[if_neg hk,if_pos rfl,if_neg hk,Option.bind_some]
   show(Io (some (.next _)) _).bind _=_
   unfold Io;rw[Option.bind_some];simp only;rw[Dg (x:=((8:Int),T++(U6 s L A B).2.1,(U6 s L A B).2.2)) rfl]
   rfl
structure Slot(V:Vs)(v:Int)(l:List Int):Prop where
 lo:0≤v
 hi:v<V.length
 is:V.getD v.toNat []=l
theorem Slot.inb{V:Vs}{v:Int}{l:List Int}(h:Slot V v l):A4 v V.length:=⟨h.lo,h.hi⟩
theorem c_number{V:Vs}{v:Int}{a:Int}{l:List Int}(h:Slot V v (a::l))(F S:Int)(B:List Int)(T:List Ab):Au v V F S B T=some a:=by
 unfold Au;rw[Aq h.inb,h.is,Aq (show A4 (0:Int) (a::l).length from⟨Int.le_refl _,by simp⟩)]
 rfl
def Arg(o:TOp)(i:Nat)(v:Int):Prop:=i<o.Args.length∧o.Args.getD i 0=v
theorem Arg.inb{o:TOp}{i:Nat}{v:Int}(h:Arg o i v):A4 (i:Int) o.Args.length:=F3 h.1
theorem Arg.g{o:TOp}{i:Nat}{v:Int}(h:Arg o i v):o.Args.getD ((i:Nat):Int).toNat 0=v:=by rw[Fe];exact h.2
section
variable {o:TOp} {V:Vs} {F S:Int} {B:List Int} {T:List Ab}
theorem dk{a b:Int}(h:o.Kind=a)(hne:a≠b):decide (o.Kind=b)=false:=decide_eq_false (by rw[h];exact hne)
theorem dk_t{a:Int}(h:o.Kind=a):decide (o.Kind=a)=true:=decide_eq_true h
theorem rep_n{x n:Int}(h:1≤n∧n≤16):Ag [x] n=some (List.replicate n.toNat x):=by
 obtain⟨h1,h2⟩:=h
 have hc:n=1∨n=2∨n=3∨n=4∨n=5∨n=6∨n=7∨n=8∨n=9∨n=10∨n=11∨n=12∨n=13∨n=14∨n=15∨n=16:=by omega
 rcases hc with rfl|rfl|rfl|rfl|rfl|rfl|rfl|rfl|rfl|rfl|rfl|rfl|rfl|rfl|rfl|rfl
 ·exact(show Ag [x] 1=some (List.replicate (Int.toNat 1) x) by kernel_rfl)
 ·exact(show Ag [x] 2=some (List.replicate (Int.toNat 2) x) by kernel_rfl)
 ·exact(show Ag [x] 3=some (List.replicate (Int.toNat 3) x) by kernel_rfl)
 ·exact(show Ag [x] 4=some (List.replicate (Int.toNat 4) x) by kernel_rfl)
 ·exact(show Ag [x] 5=some (List.replicate (Int.toNat 5) x) by kernel_rfl)
 ·exact(show Ag [x] 6=some (List.replicate (Int.toNat 6) x) by kernel_rfl)
 ·exact(show Ag [x] 7=some (List.replicate (Int.toNat 7) x) by kernel_rfl)
 ·exact(show Ag [x] 8=some (List.replicate (Int.toNat 8) x) by kernel_rfl)
 ·exact(show Ag [x] 9=some (List.replicate (Int.toNat 9) x) by kernel_rfl)
 ·exact(show Ag [x] 10=some (List.replicate (Int.toNat 10) x) by kernel_rfl)
 ·exact(show Ag [x] 11=some (List.replicate (Int.toNat 11) x) by kernel_rfl)
 ·exact(show Ag [x] 12=some (List.replicate (Int.toNat 12) x) by kernel_rfl)
 ·exact(show Ag [x] 13=some (List.replicate (Int.toNat 13) x) by kernel_rfl)
 ·exact(show Ag [x] 14=some (List.replicate (Int.toNat 14) x) by kernel_rfl)
 ·exact(show Ag [x] 15=some (List.replicate (Int.toNat 15) x) by kernel_rfl)
 ·exact(show Ag [x] 16=some (List.replicate (Int.toNat 16) x) by kernel_rfl)
theorem op_const(hk:o.Kind=0)(hl:1≤o.Lanes∧o.Lanes≤16):opM o V F S B T=some (List.replicate o.Lanes.toNat o.Imm,0,F,S,T,V,B):=by
 unfold opM;rw[dk_t hk,cond_true];unfold Fj D0;simp only[Option.bind_some,rep_n hl]
 rfl
structure MemOk(B:List Int)(T:List Ab):Prop where
 by_:Xi B
 len:B.length<4611686018427387904
 room:T.length+128≤room
theorem WR_len{a bits:Int}{L B:List Int}{T:List Ab}:(WR a bits L B T).2.2.length=B.length:=by
 unfold WR;split
 ·exact(wrM_len L a.toNat B).2
 ·rfl
theorem c_store{c p a:Int}{l L:List Int}(h0:Arg o 0 c)(h1:Arg o 1 p)(s0:Slot V c (a::l))(s1:Slot V p L)(ha:0≤a)(hm:MemOk B T) :
  Cd o V F S B T=some ([],(WR a o.Bits L B T).1,F,S,(WR a o.Bits L B T).2.1,V,(WR a o.Bits L B T).2.2):=by
 unfold Cd;have e0:=h0.g;have i0:=h0.inb;have e1:=h1.g;have i1:=h1.inb;simp only[Int.cast_ofNat_Int]at e0 i0 e1 i1;rw[Aq i0,e0,c_number s0,Option.bind_some,Aq i1,e1,Aq s1.inb,s1.is,m_Write ha hm.len hm.room,Option.bind_some,Aq WR_len.symm]
theorem memR_ok{l:List Int}{e F' S':Int}{T':List Ab}{V':Vs}{B':List Int}(h1:V.length=V'.length)(h2:B.length=B'.length):memR V B (l,e,F',S',T',V',B')=some (l,e,F',S',T',V',B'):=by unfold memR;rw[Aq h1,Aq h2]
theorem op_store{c p a:Int}{l L:List Int}(hk:o.Kind=17)(h0:Arg o 0 c)(h1:Arg o 1 p)(s0:Slot V c (a::l))(s1:Slot V p L)(ha:0≤a)(hm:MemOk B T) :
  opM o V F S B T=some ([],(WR a o.Bits L B T).1,F,S,(WR a o.Bits L B T).2.1,V,(WR a o.Bits L B T).2.2):=by
 unfold opM;rw[dk hk (by decide),dk hk (by decide),dk hk (by decide),dk hk (by decide),dk hk (by decide),dk_t hk,cond_true];simp only[cond_false];rw[c_store h0 h1 s0 s1 ha hm,Option.bind_some,memR_ok rfl WR_len.symm]
def doD(k w a b:Int):Int×Int:=(Hw k w a b).getD (0,1)
def twoR(k w:Int)(A C:List Int):List Int×Int:=
 bif (List.range A.length).all (fun i=>(doD k w (A.getD i 0) (C.getD i 0)).2==0) then((List.range A.length).map (fun i=>(doD k w (A.getD i 0) (C.getD i 0)).1),0) else([],8)
theorem set_fill{f:Nat→Int}{n i:Nat}(h:i<n):((List.range i).map f++List.replicate (n-i) (0:Int)).set i (f i)=(List.range (i+1)).map f++List.replicate (n-(i+1)) 0:=by
 obtain⟨m,hm⟩:∃ m,n-i=m+1:=⟨n-i-1,by omega⟩
 have hm':n-(i+1)=m:=by omega
 rw[hm,hm',List.replicate_succ,List.set_append_right _ _ (by simp),List.range_succ,List.map_append,List.append_assoc]
 simp
theorem c_two {p q : Int} {A C : List Int} {k : Int} (hk : 1 ≤ k ∧ k ≤ 12) (hw : wdM o.Bits) (h0 : Arg o 0 p) (h1 : Arg o 1 q) (s0 : Slot V p A) (s1 : Slot V q C) (hl : C.length = A.length) (hr : A.length ≤ 64)
    (hA : ∀ x ∈ A, u64 x) (hC : ∀ x ∈ C, u64 x) : Ah o k V F S B T = some (twoR k o.Bits A C) := by
  have e0 := h0.g; have i0 := h0.inb; have e1 := h1.g; have i1 := h1.inb; simp only [Int.cast_ofNat_Int] at e0 i0 e1 i1; unfold Ah
  have hroom : ((A.length : Int)) ≤ (room : Int) := by have : (64 : Nat) ≤ room := by decide
                                                       omega
  rw [Aq i0, e0, Aq s0.inb, Aq i1, e1, Aq s1.inb, s0.is, Aq ⟨by omega, by omega, hroom⟩]
  have hdo : ∀ i, i < A.length → ∃ v e, Hw k o.Bits (A.getD i 0) (C.getD i 0) = some (v, e) ∧ (e = 0 ∨ e = 8) := fun i hi => by
    obtain ⟨v, e, h1, _, _, h2⟩ := c_Do hk hw (hA _ (Ml hi)) (hC _ (Ml (i := i) (by omega))); exact ⟨v, e, h1, by rcases h2 with ⟨h, _⟩ | ⟨h, _⟩ <;> simp [h]⟩
  have hL := loop_find (Bt o k V) (fun i => ((i : Int), (List.range i).map (fun i => (doD k o.Bits (A.getD i 0) (C.getD i 0)).1) ++ List.replicate (A.length - i) (0 : Int)))
    (fun i => (doD k o.Bits (A.getD i 0) (C.getD i 0)).2 == 0) (.inl ((List.range A.length).map (fun i => (doD k o.Bits (A.getD i 0) (C.getD i 0)).1))) (.inr ([], 8)) A.length
    (fun i hi hp => by
      obtain ⟨v, e, hd, he⟩ := hdo i hi
      have hD : doD k o.Bits (A.getD i 0) (C.getD i 0) = (v, e) := by unfold doD; rw [hd]; rfl
      rw [hD] at hp
      have he0 : e = 0 := by simpa using hp
      subst he0; unfold Bt; simp only [e0, e1, s0.is, s1.is, Fe, List.length_replicate, Sp hi, cond_true, Aq (F3 hi), Aq (F3 (show i < C.length by omega)), hd, Option.bind_some, w1 (show i < 4611686018427387904 by omega)]; rw [show ((0 : Int) != 0) = false from rfl, cond_false, Aq (F3 (by simp; omega))]; have := set_fill (f := fun i => (doD k o.Bits (A.getD i 0) (C.getD i 0)).1) hi; simp only [hD] at this
      rw [this])
    (fun i hi hp => by
      obtain ⟨v, e, hd, he⟩ := hdo i hi
      have hD : doD k o.Bits (A.getD i 0) (C.getD i 0) = (v, e) := by unfold doD; rw [hd]; rfl
      rw [hD] at hp
      have he8 : e = 8 := by
        rcases he with rfl | rfl
        · simp at hp
        · rfl
      subst he8; unfold Bt; simp only [e0, e1, s0.is, s1.is, Fe, List.length_replicate, Sp hi, cond_true, Aq (F3 hi), Aq (F3 (show i < C.length by omega)), hd, Option.bind_some]
      rw [show ((8 : Int) != 0) = true from rfl, cond_true])
    (by
      unfold Bt
      simp only [e0, s0.is, Fe, List.length_replicate, Yb, cond_false, Nat.sub_self, List.replicate_zero, List.append_nil])
  simp only [List.range_zero, List.map_nil, List.nil_append, Nat.sub_zero] at hL; have hL' : A0 (Bt o k V) ((0 : Int), List.replicate A.length (0 : Int)) = _ := hL; rw [Fe, hL']; unfold twoR
  cases (List.range A.length).all (fun i => (doD k o.Bits (A.getD i 0) (C.getD i 0)).2 == 0) <;> rfl
theorem op_two{p q:Int}{A C:List Int}(hk:1≤o.Kind∧o.Kind≤12)(hw:wdM o.Bits)(h0:Arg o 0 p)(h1:Arg o 1 q)(s0:Slot V p A)(s1:Slot V q C)(hl:C.length=A.length)(hr:A.length≤64)
  (hA:∀ x∈A,u64 x) (hC:∀ x∈C,u64 x):opM o V F S B T=some (H1 (twoR o.Kind o.Bits A C) V F S B T):=by
 obtain⟨k1,k2⟩:=hk
 have hc:o.Kind=1∨o.Kind=2∨o.Kind=3∨o.Kind=4∨o.Kind=5∨o.Kind=6∨o.Kind=7∨o.Kind=8∨o.Kind=9∨o.Kind=10∨o.Kind=11∨o.Kind=12:=by omega
 have key:=fun k (hk:1≤k∧k≤12)=>c_two (F:=F) (S:=S) (B:=B) (T:=T) hk hw h0 h1 s0 s1 hl hr hA hC;unfold opM;rcases hc with h|h|h|h|h|h|h|h|h|h|h|h<;>rw[h] <;>
  simp only[Int.reduceEq,decide_false,decide_true,cond_false,cond_true]<;>rw[key _ (by decide)]<;>rfl
end
theorem room_is:room=1099511627776:=rfl
theorem m_New_ok{b:List Int}(h:b.length≤4096):Hv b=some ((true,⟨b,[]⟩),0):=by
 unfold Hv Br;rw[decide_eq_false (by omega),cond_false,Gx (by rw[room_is];omega)]
 rfl
theorem Ve{B:List Int}{T:List Ab}(h:B.length≤room):Cy B T=some (B,T,B):=by
 unfold Cy Br;rw[Gx h];rfl
theorem m_Trace{B:List Int}{T:List Ab}(h:T.length≤room):Ef B T=some (T,T,B):=by
 unfold Ef Bw;rw[Gx (by simpa using h)];rfl
section
variable {o:TOp} {V:Vs} {F S:Int} {B:List Int} {T:List Ab}
def tailO(o:TOp):TOp:=⟨o.Kind,o.Bits,o.Lanes,o.Dst,o.Args.drop 1,o.Imm⟩
theorem Arg.tail{i:Nat}{v:Int}(h:Arg o (i+1) v):Arg (tailO o) i v:=by
 obtain⟨h1,h2⟩:=h;refine⟨by simp[tailO];omega,?_⟩;rw[← h2];simp[tailO,List.getD]
end
theorem c_deeds(V:Vs)(F S:Int)(B:List Int)(T:List Ab):De V F S B T=some ():=by kernel_rfl
def Si(ps ags:List Int)(i:Nat):List Int:=[ags.getD i 0 % 2 ^ (ps.getD i 0).toNat]
def Kk(f:Ad)(ags:List Int)(n:Nat):Vs:=
 ((f.Blocks.getD 0 default).Phis).foldl (fun V p=>V.set p.Dst.toNat [0]) ([]::((List.range f.Params.length).map (Si f.Params ags)++List.replicate (n-f.Params.length) []))
theorem set_arg{g:Nat→List Int}{n i:Nat}(h:i<n):(([]:List Int)::((List.range i).map g++List.replicate (n-i) [])).set (i+1) (g i)=[]::((List.range (i+1)).map g++List.replicate (n-(i+1)) []):=by
 obtain⟨m,hm⟩:∃ m,n-i=m+1:=⟨n-i-1,by omega⟩
 have hm':n-(i+1)=m:=by omega
 rw[hm,hm',List.replicate_succ,List.set_cons_succ,List.set_append_right _ _ (by simp),List.range_succ,List.map_append,List.append_assoc]
 simp
theorem Xe{l:List Gv}{V:Vs}:(l.foldl (fun V p=>V.set p.Dst.toNat [0]) V).length=V.length:=by
 induction l generalizing V with
 | nil=>rfl
 | cons p l ih=>rw[List.foldl_cons,ih,List.length_set]
theorem Vr{f:Ad}(hn:((f.Blocks.getD 0 default).Phis).length<4611686018427387904):∀(k i:Nat) (V:Vs),i+k=((f.Blocks.getD 0 default).Phis).length→(∀ p∈(f.Blocks.getD 0 default).Phis,A4 p.Dst V.length)→
  A0 (B8 f) ((i:Int),V)=some ((((f.Blocks.getD 0 default).Phis).drop i).foldl (fun V p=>V.set p.Dst.toNat [0]) V)
 | 0,i,V,h,_=>by
  obtain rfl:i=((f.Blocks.getD 0 default).Phis).length:=by omega
  rw[List.drop_length];refine Dg ?_;unfold B8
  show(bif decide _ then _ else _)=_
  rw[show((0:Int)).toNat=0 from rfl,Yb,cond_false];rfl
 | k+1,i,V,h,hp=>by
  have hi:i<((f.Blocks.getD 0 default).Phis).length:=by omega
  have hd:((f.Blocks.getD 0 default).Phis).drop i=((f.Blocks.getD 0 default).Phis).getD i default::((f.Blocks.getD 0 default).Phis).drop (i+1):=by rw[List.drop_eq_getElem_cons hi,Ft _ _ _ hi]
  rw[hd,List.foldl_cons,← Vr hn k (i+1) _ (by omega) (fun p hpp=>by rw[List.length_set];exact hp p hpp)];refine Hl ?_;unfold B8;simp only[show((0:Int)).toNat=0 from rfl,Sp hi,cond_true,Aq (F3 hi),Fe,D0,Option.bind_some,Aq (hp _ (Ml hi)),w1 (show i<4611686018427387904 by omega)]
theorem c_begin{f:Ad}{ags:List Int}{n:Nat}(F S:Int)(B:List Int)(T:List Ab)(hl:ags.length=f.Params.length)(hw:∀ w∈f.Params,wdM w)(ha:∀ a∈ags,u64 a)(hn:f.Params.length≤n)(hn':n<4000000)(hb:0<f.Blocks.length)
  (hpl:((f.Blocks.getD 0 default).Phis).length<4611686018427387904) (hp:∀ p∈(f.Blocks.getD 0 default).Phis,A4 p.Dst (n+1)) :
  Dc f ags (List.replicate (n+1) []) F S B T=some (F,S,T,Kk f ags n,B):=by
 have hL:=loop_seq (B7 f ags) (fun i=>((i:Int),([]:List Int)::((List.range i).map (Si f.Params ags)++List.replicate (n-i) ([]:List Int)))) (([]:List Int)::((List.range f.Params.length).map (Si f.Params ags)++List.replicate (n-f.Params.length) [])) f.Params.length
  (fun i hi=>by
   unfold B7;simp only[Sp hi,cond_true,Aq (F3 hi),Aq (F3 (show i<ags.length by omega)),Fe,X6 (hw _ (Ml hi)) (ha _ (Ml (show i<ags.length by omega))),D0,Option.bind_some,w1 (show i<4611686018427387904 by omega)];rw[Aq (F3 (by simp;omega))];have:=set_arg (g:=Si f.Params ags) (show i<n by omega);unfold Si at this ⊢
   rw[this])
  (by
   unfold B7
   simp only[Yb,cond_false])
 simp only[List.range_zero,List.map_nil,List.nil_append,Nat.sub_zero]at hL
 have hL':A0 (B7 f ags) ((0:Int),List.replicate (n+1) ([]:List Int))=some (([]:List Int)::((List.range f.Params.length).map (Si f.Params ags)++List.replicate (n-f.Params.length) [])):=by rw[List.replicate_succ];exact hL
 unfold Dc;rw[hL',Option.bind_some,Aq (show A4 (0:Int) f.Blocks.length from⟨Int.le_refl _,by omega⟩)]
 have h2:=Vr hpl ((f.Blocks.getD 0 default).Phis).length 0 (([]:List Int)::((List.range f.Params.length).map (Si f.Params ags)++List.replicate (n-f.Params.length) [])) (by omega) (fun p hpp=>by
  have:=hp p hpp;rw[show(([]:List Int)::((List.range f.Params.length).map (Si f.Params ags)++List.replicate (n-f.Params.length) [])).length=n+1 by simp;omega]
  exact this)
 rw[List.drop_zero]at h2;have h2':A0 (B8 f) ((0:Int),([]:List Int)::((List.range f.Params.length).map (Si f.Params ags)++List.replicate (n-f.Params.length) []))=some (Kk f ags n):=h2;rw[h2'];rfl
def outR(V:Vs)(B:List Int)(x:RR):Option (Fv×Int×List Ab×List Int):=Av (V.length=x.2.2.2.2.1.length) (Av (B.length=x.2.2.2.2.2.length) (some (x.1,0,x.2.2.2.1,x.2.2.2.2.2)))
theorem beginV_len{f:Ad}{ags:List Int}{n:Nat}(hn:f.Params.length≤n):(Kk f ags n).length=n+1:=by
 unfold Kk;rw[Xe]
 simp
 omega
theorem c_Run {f : Ad} {ags : List Int} {n : Nat} {F : Int} {B : List Int} {T : List Ab} (hF : 0 ≤ F) (hc : Jc f 2 = some 0) (hlast : J9 f = some (n : Int)) (hl : ags.length = f.Params.length) (hw : ∀ w ∈ f.Params, wdM w) (ha : ∀ a ∈ ags, u64 a) (hn : f.Params.length ≤ n) (hn' : n < 4000000)
    (hb : 0 < f.Blocks.length) (hpl : ((f.Blocks.getD 0 default).Phis).length < 4611686018427387904) (hp : ∀ p ∈ (f.Blocks.getD 0 default).Phis, A4 p.Dst (n + 1)) :
    Dx f ags F B T = (A0 (Be f.Blocks) (0, F, 0, T, Kk f ags n, B)).bind (outR (Kk f ags n) B) := by
  have hroom : (((n + 1 : Nat) : Int)) ≤ (room : Int) := by have : (4000001 : Nat) ≤ room := by decide
                                                            omega
  have e1 : (decide (F < 0)) = false := decide_eq_false (by omega)
  have e2 : ((ags.length : Int) != (f.Params.length : Int)) = false := by rw [hl]; simp
  unfold Dx; rw [e1, cond_false, e2, show ((false : Bool) == false) = true from rfl, cond_true, hc, Option.bind_some, cond_false, show ((0 : Int) != 0) = false from rfl, cond_false, hlast, Option.bind_some, w1 (show n < 4611686018427387904 by omega), Aq ⟨by omega, by omega, hroom⟩, Fe, c_deeds, Option.bind_some, c_begin F 0 B T hl hw ha hn hn' hb hpl hp, Option.bind_some]; rw [Aq (show (List.replicate (n + 1) ([] : List Int)).length = (Kk f ags n).length by rw [beginV_len hn, List.length_replicate]), Aq rfl]; rw [run_eq]
  rfl
def endG(e:Ha)(F S:Int)(V:Vs)(B:List Int)(T:List Ab):Option Fv:=
 bif S==F then some ⟨9,0,S⟩ else bif e.Kind==0 then(Au e.Arg V F (Az (S+1)) B T).map fun v=>⟨0,v,Az (S+1)⟩ else bif e.Kind==3 then some ⟨8,0,Az (S+1)⟩ else none
theorem Zb{bs:List Aj}{V V':Vs}{F S S' e:Int}{B B':List Int}{T T':List Ab}{i:Nat}(hi:i<bs.length)(hd:doG (bs.getD i default).Ops V F S B T=some (e,F,S',T',V',B'))(he:e≠0)(hv:V.length=V'.length)(hb:B.length=B'.length) :
  blG bs (i:Int) V F S B T=some (.done (⟨e,0,S'⟩,F,S',T',V',B')):=by
 unfold blG;rw[Aq (F3 hi),Fe,hd,Option.bind_some,Aq hv,Aq hb,show(e !=0)=true by simpa using he,cond_true]
theorem bl_end{bs:List Aj}{V V':Vs}{F S S':Int}{B B':List Int}{T T':List Ab}{i:Nat}{r:Fv}(hi:i<bs.length)(hd:doG (bs.getD i default).Ops V F S B T=some (0,F,S',T',V',B'))(hv:V.length=V'.length)(hb:B.length=B'.length)
  (he:endG (bs.getD i default).End F S' V' B' T'=some r):∃ S'',blG bs (i:Int) V F S B T=some (.done (r,F,S'',T',V',B')):=by
 unfold blG;rw[Aq (F3 hi),Fe,hd,Option.bind_some,Aq hv,Aq hb,show((0:Int)!=0)=false from rfl,cond_false];unfold endG at he;simp only
 cases hs:(S'==F) with
 | true=>rw[hs,cond_true]at he;cases he;exact⟨_,rfl⟩
 | false=>
  rw[hs,cond_false]at he
  cases hk:((bs.getD i default).End.Kind==0) with
  | true=>
   rw[hk,cond_true]at he
   cases hm:Au (bs.getD i default).End.Arg V' F (Az (S'+1)) B' T' with
   | none=>rw[hm]at he;cases he
   | some v=>rw[hm]at he;cases he;exact⟨_,rfl⟩
  | false=>
   rw[hk,cond_false]at he
   cases hk3:((bs.getD i default).End.Kind==3) with
   | true=>rw[hk3,cond_true]at he;cases he;exact⟨_,rfl⟩
   | false=>rw[hk3,cond_false]at he;cases he
theorem Vg{bs:List Aj}(hb:∀ b∈bs,b.Ops.length<4611686018427387904){V0 V V':Vs}{F S S'':Int}{B0 B B':List Int}{T T':List Ab}{r:Fv}(h:blG bs 0 V F S B T=some (.done (r,F,S'',T',V',B')))(hv:V0.length=V'.length)(hB:B0.length=B'.length) :
  (A0 (Be bs) (0,F,S,T,V,B)).bind (outR V0 B0)=some (r,0,T',B'):=by
 rw[Dg ((run_F hb 0 F S T V B).trans h),Option.bind_some];unfold outR;rw[Aq hv,Aq hB]
theorem doG_ok{o:TOp}{l:List TOp}{V V':Vs}{F S:Int}{B B':List Int}{T T':List Ab}{L:List Int}(hs:S≠F)(ho:opM o V F (Az (S+1)) B T=some (L,0,F,Az (S+1),T',V',B'))(hd:A4 o.Dst V'.length) :
  doG (o::l) V F S B T=doG l (V'.set o.Dst.toNat L) F (Az (S+1)) B' T':=by
 rw[doG,show(S==F)=false by simpa using hs,cond_false,ho,Option.bind_some]
 show(bif ((0:Int)!=0) then _ else _)=_
 rw[show((0:Int)!=0)=false from rfl,cond_false,Aq hd]
theorem Zd{o:TOp}{l:List TOp}{V V':Vs}{F S e:Int}{B B':List Int}{T T':List Ab}{L:List Int}(hs:S≠F)(ho:opM o V F (Az (S+1)) B T=some (L,e,F,Az (S+1),T',V',B'))(he:e≠0) :
  doG (o::l) V F S B T=some (e,F,Az (S+1),T',V',B'):=by
 rw[doG,show(S==F)=false by simpa using hs,cond_false,ho,Option.bind_some]
 show(bif (e !=0) then _ else _)=_
 rw[show(e !=0)=true by simpa using he,cond_true]
theorem awake13:m_locksteplaw13_awake=some true:=by kernel_rfl
theorem wd8:wdM 8:=.inr (.inl rfl)
theorem byF{B:List Int}(h:Xi B):J5 B.length (fun i=>eU8 (B.getD i (0:Int))):=byteF_of (fun _=>rfl) h
theorem byE{B:List Int}:H7 B.length (fun i=>eU8 (B.getD i (0:Int)))=B:=bytesF_eq fun _=>rfl
theorem Z0{x:Int}(h:0≤x∧x<256):u64 x:=⟨h.1,by omega⟩
theorem wu_u8{x:Int}(h:0≤x∧x<256):Cp x=x:=S5 h.1 (by omega)
theorem w_u8{x:Int}(h:0≤x∧x<256):Az x=x:=w64_of (by omega) (by omega)
theorem wrM_one{B:List Int}{p v:Int}(h:0≤p):WR p 8 [v] B []=if p+1≤B.length then(0,[⟨true,p,v % 256⟩],Ln B p.toNat [v % 256]) else(8,[],B):=by
 obtain⟨n,rfl⟩:=Int.eq_ofNat_of_zero_le h;unfold WR;rw[if_pos (show mayM 8 (([v]:List Int).length)=true from rfl)]
 show(if(U6 1 [v] n B).1=true then 0 else 8,[]++(U6 1 [v] n B).2.1,(U6 1 [v] n B).2.2)=_
 unfold U6
 by_cases hc:n+1≤B.length
 ·rw[if_pos hc,if_pos (show((n:Int))+1≤(B.length:Int) by omega)];rfl
 ·rw[if_neg hc,if_neg (show ¬ ((n:Int))+1≤(B.length:Int) by omega)];rfl
def fT1:Ad:=⟨[64,8],8,Bj⟩
def fT2:Ad:=⟨[64,8],8,[⟨[],B2,⟨0,4,[]⟩⟩]⟩
theorem two_ws:∀ w∈([64,8]:List Int),wdM w:=by intro w hw;simp at hw;rcases hw with rfl|rfl<;>unfold wdM<;>omega
theorem two_args{p v:Int}(hp:0≤p∧p<256)(hv:0≤v∧v<256):∀ a∈([p,v]:List Int),u64 a:=by
 intro a ha;simp at ha;rcases ha with rfl|rfl
 ·exact Z0 hp
 ·exact Z0 hv
theorem begin_T1{p v:Int}(hp:0≤p∧p<256)(hv:0≤v∧v<256):Kk fT1 [p,v] 2=[[],[p],[v]]:=by
 have e:Kk fT1 [p,v] 2=[[],[p % 18446744073709551616],[v % 256]]:=by kernel_rfl
 rw[e,Int.emod_eq_of_lt hp.1 (by omega),Int.emod_eq_of_lt hv.1 hv.2]
theorem begin_T2{p v:Int}(hp:0≤p∧p<256)(hv:0≤v∧v<256):Kk fT2 [p,v] 4=[[],[p],[v],[],[]]:=by
 have e:Kk fT2 [p,v] 4=[[],[p % 18446744073709551616],[v % 256],[],[]]:=by kernel_rfl
 rw[e,Int.emod_eq_of_lt hp.1 (by omega),Int.emod_eq_of_lt hv.1 hv.2]
theorem Qv{bs:List Aj}(h:(bs.all fun b=>decide (b.Ops.length<100))=true):∀ b∈bs,b.Ops.length<4611686018427387904:=fun b hb=>by
 have:=List.all_eq_true.1 h b hb;have:=of_decide_eq_true this;omega
theorem run_T1{B:List Int}{p v:Int}(hB:Xi B)(hL:B.length≤4096)(hp:0≤p∧p<256)(hv:0≤v∧v<256) :
  Dx fT1 [p,v] 9 B []=some (if p+1≤B.length then(⟨8,0,2⟩,0,[⟨true,p,v⟩],Ln B p.toNat [v]) else(⟨8,0,1⟩,0,[],B)):=by
 have hm:MemOk B []:=⟨hB,by omega,by decide⟩;rw[c_Run (f:=fT1) (ags:=[p,v]) (n:=2) (by decide) (by kernel_rfl) (by kernel_rfl) rfl two_ws (two_args hp hv) (by decide) (by decide) (by decide) (by decide) (fun q hq=>by cases hq),begin_T1 hp hv];have hst:=op_store (o:=⟨17,8,1,0,[1,2],0⟩) (V:=[[],[p],[v]]) (F:=9) (S:=Az (0+1)) (c:=1) (p:=2) (L:=[v]) rfl ⟨by decide,rfl⟩ ⟨by decide,rfl⟩ ⟨by decide,by simp,rfl⟩ ⟨by decide,by simp,rfl⟩ hp.1 hm
 dsimp only at hst
 rw[wrM_one hp.1,Int.emod_eq_of_lt hv.1 hv.2]at hst
 by_cases hc:p+1≤B.length
 ·rw[if_pos hc]at hst ⊢
  dsimp only at hst
  obtain⟨S'',h⟩:=bl_end (bs:=Bj) (i:=0) (r:=⟨8,0,2⟩) (by decide) (doG_ok (l:=[]) (by decide) hst ⟨by decide,by simp⟩) (by simp) (Jp ..).symm rfl;exact Vg (Qv rfl) h (by simp) (Jp ..).symm
 ·rw[if_neg hc]at hst ⊢
  dsimp only at hst
  have h:=Zb (bs:=Bj) (i:=0) (by decide) (Zd (l:=[]) (by decide) hst (by decide)) (by decide) rfl rfl;exact Vg (Qv rfl) h rfl rfl
theorem run_T2{B:List Int}{p v:Int}(hB:Xi B)(hL:B.length≤4096)(hp:0≤p∧p<256)(hv:0≤v∧v<256) :
  Dx fT2 [p,v] 9 B []=some (if p+1≤B.length then(⟨8,0,3⟩,0,[⟨true,p,v⟩],Ln B p.toNat [v]) else(⟨8,0,1⟩,0,[],B)):=by
 have hm:MemOk B []:=⟨hB,by omega,by decide⟩;rw[c_Run (f:=fT2) (ags:=[p,v]) (n:=4) (by decide) (by kernel_rfl) (by kernel_rfl) rfl two_ws (two_args hp hv) (by decide) (by decide) (by decide) (by decide) (fun q hq=>by cases hq),begin_T2 hp hv];have hst:=op_store (o:=⟨17,8,1,0,[1,2],0⟩) (V:=[[],[p],[v],[],[]]) (F:=9) (S:=Az (0+1)) (c:=1) (p:=2) (L:=[v]) rfl ⟨by decide,rfl⟩ ⟨by decide,rfl⟩ ⟨by decide,by simp,rfl⟩ ⟨by decide,by simp,rfl⟩ hp.1 hm
 dsimp only at hst
 rw[wrM_one hp.1,Int.emod_eq_of_lt hv.1 hv.2]at hst
 by_cases hc:p+1≤B.length
 ·rw[if_pos hc]at hst ⊢
  dsimp only at hst
  have h1:=doG_ok (l:=[⟨0,8,1,3,[],0⟩,⟨4,8,1,4,[2,3],0⟩]) (by decide) hst ⟨by decide,by simp⟩;have hco:=op_const (o:=⟨0,8,1,3,[],0⟩) (V:=[[],[p],[v],[],[]]) (F:=9) (S:=Az (Az (0+1)+1)) (B:=Ln B p.toNat [v]) (T:=[⟨true,p,v⟩]) rfl (by decide);have h2:=doG_ok (l:=[⟨4,8,1,4,[2,3],0⟩]) (by decide) hco ⟨by decide,by simp⟩;have hdv:=op_two (o:=⟨4,8,1,4,[2,3],0⟩) (V:=[[],[p],[v],[0],[]]) (F:=9) (S:=Az (Az (Az (0+1)+1)+1)) (B:=Ln B p.toNat [v]) (T:=[⟨true,p,v⟩]) (p:=2) (q:=3) (A:=[v]) (C:=[0]) (by decide) wd8 ⟨by decide,rfl⟩ ⟨by decide,rfl⟩ ⟨by decide,by simp,rfl⟩ ⟨by decide,by simp,rfl⟩ rfl (by simp)
   (fun x hx=>by simp at hx;subst hx;exact Z0 hv) (fun x hx=>by simp at hx;subst hx;exact⟨by decide,by decide⟩)
  have hz:twoR 4 8 [v] [0]=([],8):=by
   have hd:doD 4 8 v 0=(0,8):=by
    unfold doD Hw;rw[c_Two (by decide) (by unfold wdM;omega),X6 (by unfold wdM;omega) (Z0 hv),X6 (by unfold wdM;omega) (show u64 0 from⟨by decide,by decide⟩)]
    rfl
   unfold twoR
   show(bif ((doD 4 8 v 0).2==0&&true) then _ else _)=_
   rw[hd];rfl
  rw[show twoR (TOp.mk 4 8 1 4 [2,3] 0).Kind (TOp.mk 4 8 1 4 [2,3] 0).Bits [v] [0]=([],8) from hz]at hdv;have h3:=Zd (l:=[]) (by decide) hdv (by decide);have h:=Zb (bs:=fT2.Blocks) (i:=0) (by decide) (h1.trans (h2.trans h3)) (by decide) rfl (Jp ..).symm;exact Vg (Qv rfl) h rfl (Jp ..).symm
 ·rw[if_neg hc]at hst ⊢
  dsimp only at hst
  have h:=Zb (bs:=fT2.Blocks) (i:=0) (by decide) (Zd (l:=[⟨0,8,1,3,[],0⟩,⟨4,8,1,4,[2,3],0⟩]) (by decide) hst (by decide)) (by decide) rfl rfl;exact Vg (Qv rfl) h rfl rfl
theorem putB_get{B:List Int}{n:Nat}{v:Int}(h:n<B.length):(Ln B n [v]).getD n 0=v:=by
 show(B.set n v).getD n 0=v
 simp[List.getD,h]
theorem traps13(b:List Int)(p v:Int)(hb:Xi b)(hp:0≤p∧p<256)(hv:0≤v∧v<256):C1 b p v=some true:=by
 unfold C1;rw[awake13,Option.bind_some,Bool.not_true,cond_false]
 by_cases h100:(100:Int)<b.length
 ·rw[decide_eq_true h100,cond_true]
 ·have hl:b.length≤100:=by omega
  have hroom:(4096:Nat)≤room:=by decide
  rw[decide_eq_false h100,cond_false,m_New_ok (by omega),Option.bind_some,cond_true,Option.bind_some,cond_true,wu_u8 hp,wu_u8 hv,w_u8 hp];have h1:=run_T1 hb (by omega) hp hv;have h2:=run_T2 hb (by omega) hp hv;unfold fT1 at h1;unfold fT2 at h2;rw[h1,h2];have hpl:(Ln b p.toNat [v]).length=b.length:=Jp ..
  by_cases hc:p+1≤b.length
  ·have hok:Xi (Ln b p.toNat [v]):=putB_ok hb (fun x hx=>by simp at hx;subst hx;exact hv);simp only[if_pos hc,Option.bind_some];rw[Aq hpl.symm,Aq hpl.symm,show((0:Int)!=0)=false from rfl,cond_false,cond_false,show((8:Int)!=8)=false from rfl,cond_false,cond_false];rw[Ve (by rw[hpl];omega),Option.bind_some,Aq rfl,Aq (byF hok),Option.bind_some,Aq rfl,Aq (byF hok),byE,beq_self_eq_true,Bool.not_true,cond_false];rw[decide_eq_false (show ¬ (b.length:Int)≤p by omega),cond_false,Ve (by rw[hpl];omega),Option.bind_some,Aq rfl];have hg:(Ln b p.toNat [v]).getD p.toNat 0=v:=putB_get (by omega);rw[hg,hpl,show((2:Int)==2)=true from rfl,show((3:Int)==3)=true from rfl,cond_true,cond_true];rw[show(((b.length:Int))==(b.length:Int))=true from beq_self_eq_true _,cond_true,show((v:Int)==v)=true from beq_self_eq_true _,cond_true,Aq (fun _=>⟨hp.1,by omega⟩),m_Trace (by simp;omega),Option.bind_some]
   dsimp only
   rw[Aq hpl.symm]
   rfl
  ·simp only[if_neg hc,Option.bind_some];rw[chk_T,chk_T,show((0:Int)!=0)=false from rfl,cond_false,cond_false,show((8:Int)!=8)=false from rfl,cond_false,cond_false];rw[Ve (by omega),Option.bind_some,Aq rfl,Aq (byF hb),Option.bind_some,Aq rfl,Aq (byF hb),byE,beq_self_eq_true,Bool.not_true,cond_false];rw[decide_eq_true (show(b.length:Int)≤p by omega),cond_true,show((1:Int)==1)=true from rfl,cond_true,cond_true,m_Trace (by simp),Option.bind_some,Aq rfl];rw[show(((([]:List Ab).length:Int))==0)=true from rfl,cond_true]
   dsimp only
   rw[Ve (by omega),Option.bind_some,Aq rfl,Aq (byF hb),Aq (byF hb),byE,beq_self_eq_true]
section
variable {B:List Int} {q p u v:Int} (hB:Xi B) (hL:B.length≤4096) (hp:0≤p∧p<256) (hu:0≤u∧u<256) (hv:0≤v∧v<256)
include hB hL hp hu hv
end
inductive OpsRun:Vs→List TOp→Vs→Prop
 | nil {V:Vs}:OpsRun V [] V
 | cons {V V':Vs} {o:TOp} {l:List TOp} {L:List Int} (h:∀ F S,opM o V F S [] []=some (L,0,F,S,[],V,[])) (hd:A4 o.Dst V.length) (t:OpsRun (V.set o.Dst.toNat L) l V'):OpsRun V (o::l) V'
theorem OpsRun.len{V V':Vs}{l:List TOp}(h:OpsRun V l V'):V'.length=V.length:=by
 induction h with
 | nil=>rfl
 | cons _ _ _ ih=>rw[ih,List.length_set]
def Ends(n:Nat)(x:Option RR)(r:Fv):Prop:=∃ F S V,x=some (r,F,S,[],V,[])∧V.length=n
theorem wf_u8{n:Int}(h:(Lit.int .u8 n).wf=true):0≤n∧n<256:=by simp[Lit.wf,IntKind.min,IntKind.max,IntKind.bits,IntKind.signed]at h;omega
abbrev Iall(w:World):Nat→Nat→Prop:=fun b o=>∃ u,w.cell? ⟨b,o,none⟩=some u
structure CRep(w:World)(cs:List Value)(avs:List AV):Prop where
 len:cs.length=avs.length
 one:∀ j,j<avs.length→(cs.getD j undef).oneCell'=true
 rep:∀ j,j<avs.length→RepV (Iall w) w (cs.getD j undef) (avs.getD j .any)
structure Opens(P:Program)(t:TypeId){α:Type}(e:α→List AV)(ok:α→Prop):Prop where
 get:∀{H:Type} {enc:TypeId×Value→H} {w:World} {base:Nat} {spare:Nat→Bool} {held:Bool} {fuel:Nat} {cs:List Value} {x:DataW H×List MemPlace},
  DataW.trod enc P w base spare held fuel t cs=some x→∃ a,ok a∧CRep w cs (e a)
theorem Vx{w:World}{v:Value}{x:AV}(h1:v.oneCell'=true)(h:RepV (Iall w) w v x):CRep w [v] [x]:=
 ⟨rfl,fun j hj=>(by
   have hj0:j=0:=by simpa using hj
   subst hj0
   exact h1),fun j hj=>(by
   have hj0:j=0:=by simpa using hj
   subst hj0
   exact h)⟩
theorem opens_int{P:Program}{t:TypeId}{k:IntKind}{e:Int→List AV}(ht:P.underlying t=some (.int k))(he:∀ n,e n=[.int k n]):Opens P t e (fun n=>(Lit.int k n).wf=true):=by
 refine⟨?_⟩;intro H enc w base spare held fuel cs x h;obtain⟨n,rfl,rfl,hw⟩:=DataW.trod_int ht h;exact⟨n,hw,by rw[he];exact Vx rfl (.int _ _)⟩
theorem cells?_get{w:World}{base:Nat}{a:Addr}{n:Nat}{cs:List Value}(h:w.cells? base a n=some cs):cs.length=n∧∀ i,i<n→w.cell? (a.add i)=some (cs.getD i undef):=by
 unfold World.cells? at h
 split at h
 ·have hl:=mapM_some_length h;simp at hl;refine⟨hl,fun i hi=>?_⟩;have:=mapM_some_get h i i (by simp[hi]);rw[this];simp[List.getD,show i<cs.length by omega]
 ·cases h
theorem opens_slice{P:Program}{t el:TypeId}{α:Type}{e:α→List AV}{ok:α→Prop}{sz:Nat}{d:α}{e':List α→List AV}(ht:P.underlying t=some (.slice el))(hs:P.cellsOf el=sz)(h1:1≤sz)(he:Opens P el e ok)(hlen:∀ a,(e a).length=sz)
  (he':∀ l,e' l=[AV.list sz e d l .none]):Opens P t e' (fun l=>(∀ a∈l,ok a)∧l.length≤maxLen):=by
 refine⟨?_⟩;intro H enc w base spare held fuel cs x h;rcases DataW.trod_slice ht h with⟨rfl,rfl⟩|⟨a,len,cap,elems,rest,n,_,rfl,rfl,hb,hl,hm,hlen2,hel,_⟩
 ·exact⟨[],⟨by simp,by simp⟩,by rw[he'];exact Vx rfl (.slice none 0 0 sz _ (fun _=>undef) (Nat.le_refl _) (by simp) (fun h=>by simp at h) (fun _=>rfl) (fun j hj=>by simp at hj) (fun i hi=>by simp at hi) (fun i c hi=>by simp at hi))⟩
 ·have each:∀ i:Fin len,∃ b,ok b∧∃ cs,w.cells? base (a.add (i.1*sz)) sz=some cs∧CRep w cs (e b):=fun⟨i,hi⟩=>by
   have:=hel i hi;rw[hs,List.getElem?_eq_getElem (by omega),Option.bind_eq_some_iff]at this;obtain⟨cs,hcs,htr⟩:=this;obtain⟨b,hb,hr⟩:=he.get htr;exact⟨b,hb,cs,hcs,hr⟩
  let f:Fin len→α:=fun i=>(each i).choose
  have hf:∀ i,ok (f i)∧∃ cs,w.cells? base (a.add (i.1*sz)) sz=some cs∧CRep w cs (e (f i)):=fun i=>(each i).choose_spec
  have hlf:(List.ofFn f).length=len:=by simp
  refine⟨List.ofFn f,⟨fun b hb=>?_,by simp;omega⟩,?_⟩
  ·obtain⟨i,rfl⟩:=List.mem_ofFn.1 hb;exact(hf i).1
  rw[he'];refine Vx rfl ?_
  have hcell0:∀ i (hi:i<len),∀ c,c<sz→∃ u,w.cell? ((a.add (i*sz)).add c)=some u∧u.oneCell'=true∧RepV (Iall w) w u ((e (f ⟨i,hi⟩)).getD c .any):=fun i hi c hc=>by
   obtain⟨_,cs,hcs,hr⟩:=hf ⟨i,hi⟩;obtain⟨hl,hg⟩:=cells?_get hcs;exact⟨_,hg c hc,hr.one c (by rw[hlen];exact hc),hr.rep c (by rw[hlen];exact hc)⟩
  have hspot:0<len→a.spot=none:=fun hp=>by
   obtain⟨u,hu,_⟩:=hcell0 0 hp 0 h1;have h2:=World.cell?_spot hu
   simpa [Addr.add] using h2
  have hcell:∀ i (hi:i<len),∀ c,c<sz→∃ u,w.cell? ⟨a.block,a.off+(i*sz+c),none⟩=some u∧u.oneCell'=true∧RepV (Iall w) w u ((e (f ⟨i,hi⟩)).getD c .any):=fun i hi c hc=>by
   obtain⟨u,hu,h1,h2⟩:=hcell0 i hi c hc;have hsp:=hspot (by omega);rw[Fg hsp,Addr.add_lit]at hu;exact⟨u,by rw[← Nat.add_assoc];exact hu,h1,h2⟩
  have hdm:∀ j,j<len*sz→∃ i c,i<len∧c<sz∧j=i*sz+c:=fun j hj=>by
   refine⟨j / sz,j % sz,(Nat.div_lt_iff_lt_mul (by omega)).2 hj,Nat.mod_lt _ (by omega),?_⟩;rw[Nat.mul_comm];exact(Nat.div_add_mod j sz).symm
  unfold AV.list;rw[hlf];refine .slice (some a) len cap sz _ (fun j=>(w.cell? ⟨a.block,a.off+j,none⟩).getD undef) hl hm (fun hp=>⟨a,rfl,hspot hp,fun j hj=>?_,fun j hj=>?_⟩) (fun h=>by cases h) (fun j hj=>?_) (fun i hi=>hlen _) (fun i c hi hc=>?_)
  ·obtain⟨i,c,hi,hc,rfl⟩:=hdm j hj;obtain⟨u,hu,_⟩:=hcell i hi c hc;exact⟨u,hu⟩
  ·obtain⟨i,c,hi,hc,rfl⟩:=hdm j hj;obtain⟨u,hu,_⟩:=hcell i hi c hc;rw[hu];rfl
  ·obtain⟨i,c,hi,hc,rfl⟩:=hdm j hj;obtain⟨u,hu,h1,_⟩:=hcell i hi c hc;simp only[hu];exact h1
  ·obtain⟨u,hu,_,h2⟩:=hcell i hi c hc
   have e1:(List.ofFn f).getD i d=f ⟨i,hi⟩:=by simp[List.getD,hi]
   rw[e1,hu];exact h2
structure OpensF(P:Program)(fs:List Field)(off N:Nat){α:Type}(e:α→List AV)(ok:α→Prop):Prop where
 get:∀{H:Type} {enc:TypeId×Value→H} {w:World} {base:Nat} {spare:Nat→Bool} {held:Bool} {n:Nat} {cs:List Value},cs.length=N→
  (∀ f∈fs,∃ x,DataW.trod enc P w base spare held n f.type ((cs.drop f.offset).take (P.cellsOf f.type))=some x)→∃ a,ok a∧CRep w (cs.drop off) (e a)
theorem Opens.to{P:Program}{t:TypeId}{α β:Type}{e:α→List AV}{ok:α→Prop}(h:Opens P t e ok){e':β→List AV}{ok':β→Prop}(g:α→β)(he:∀ a,e' (g a)=e a)(hok:∀ a,ok a→ok' (g a)):Opens P t e' ok':=by
 refine⟨?_⟩;intro H enc w base spare held fuel cs x hx;obtain⟨a,ha,hr⟩:=h.get hx;exact⟨g a,hok a ha,by rw[he];exact hr⟩
theorem arg_one{P:Program}{t:TypeId}{α:Type}{e:α→List AV}{ok:α→Prop}(h:Opens P t e ok){x:α→AV}(he:∀ a,e a=[x a]){H:Type}{enc:TypeId×Value→H}{w:World}{base:Nat}{spare:Nat→Bool}{held:Bool}{v:Value}{d:DataW H}{ps:List MemPlace}
  (hv:v.cells = #[v]) (hd:DataW.Trod enc P w base spare held t v d ps):∃ a,ok a∧RepV (Iall w) w v (x a):=by
 obtain⟨fuel,hf⟩:=hd;obtain⟨a,ha,hr⟩:=h.get hf;refine⟨a,ha,?_⟩;have:=hr.rep 0 (by simp[he])
 simpa [hv,he] using this
def okU8(n:Int):Prop:=(Lit.int .u8 n).wf=true
theorem op_5:Opens Tryz.prog 5 eU8 okU8:=opens_int Tryz.underlying5 (fun _=>rfl)
def okLU8(l:List (Int)):Prop:=(∀ a∈l,okU8 a)∧l.length≤maxLen
theorem op_27:Opens Tryz.prog 27 eLU8 okLU8:=opens_slice (d:=(0:Int)) Tryz.underlying27 (by kernel_rfl) (by decide) op_5 (fun _=>rfl) (fun _=>rfl)
end
end Go.Proofs.YtemgdalocjcbhaaGreat
