/-
  The machine, the program's functions and the laws' arithmetic: part 5 of 5.
-/
import Derived.Test.YtemgdalocjcbhaaGreatPk4
import Derived.OpenShut
import Derived.ShutString
set_option linter.unusedVariables false
set_option linter.unusedSimpArgs false
namespace Go.Proofs.YtemgdalocjcbhaaGreat
noncomputable section
open Go Go.RowKit
set_option maxRecDepth 100000
set_option maxHeartbeats 2000000
def Ce(aB:List Dj):(Int×Int×Int×List Ac×List (List Int)×List Int)→Option (LR (Int×Int×Int×List Ac×List (List Int)×List Int) ((Int×Int×List Ac×List (List Int)×List Int) ⊕ (Int×Int×Int×List Ac×List (List Int)×List Int))):=
 fun((i1,i2,i3,l4,l5,l6):(Int×Int×Int×List Ac×List (List Int)×List Int))=>(bif (decide (i1<(aB.length:Int))) then((Ck l5 i2 i3 l6 l4).bind fun x12=>(Aw (l5.length=x12.2.2.2.2.1.length) (Aw (l6.length=x12.2.2.2.2.2.length) (bif (!x12.1) then(some (.done (.inr ((9:Int),x12.2.1,x12.2.2.1,x12.2.2.2.1,x12.2.2.2.2.1,x12.2.2.2.2.2)))) else(Option.bind (α:=(List Int×Int×Int×Int×List Ac×List (List Int)×List Int)) (Aw (A5 i1 aB.length) (bif (decide ((aB.getD i1.toNat default).Kind=(0:Int))) then(Aw (A5 i1 aB.length) ((He (aB.getD i1.toNat default)).bind fun x25=>(some (x25.1,x25.2,x12.2.1,x12.2.2.1,x12.2.2.2.1,x12.2.2.2.2.1,x12.2.2.2.2.2)))) else(bif (decide ((aB.getD i1.toNat default).Kind=(13:Int))) then(Aw (A5 i1 aB.length) ((Ec (aB.getD i1.toNat default) x12.2.2.2.2.1 x12.2.1 x12.2.2.1 x12.2.2.2.2.2 x12.2.2.2.1).bind fun x28=>(some (x28.1,x28.2,x12.2.1,x12.2.2.1,x12.2.2.2.1,x12.2.2.2.2.1,x12.2.2.2.2.2)))) else(bif (decide ((aB.getD i1.toNat default).Kind=(14:Int))) then(Aw (A5 i1 aB.length) ((Da (aB.getD i1.toNat default) x12.2.2.2.2.1 x12.2.1 x12.2.2.1 x12.2.2.2.2.2 x12.2.2.2.1).bind fun x31=>(some (x31.1,x31.2,x12.2.1,x12.2.2.1,x12.2.2.2.1,x12.2.2.2.2.1,x12.2.2.2.2.2)))) else(bif (decide ((aB.getD i1.toNat default).Kind=(15:Int))) then(Aw (A5 i1 aB.length) ((Cw (aB.getD i1.toNat default) x12.2.2.2.2.1 x12.2.1 x12.2.2.1 x12.2.2.2.2.2 x12.2.2.2.1).bind fun x34=>(some (x34.1,x34.2,x12.2.1,x12.2.2.1,x12.2.2.2.1,x12.2.2.2.2.1,x12.2.2.2.2.2)))) else(bif (decide ((aB.getD i1.toNat default).Kind=(16:Int))) then(Aw (A5 i1 aB.length) ((Dt (aB.getD i1.toNat default) x12.2.2.2.2.1 x12.2.1 x12.2.2.1 x12.2.2.2.2.2 x12.2.2.2.1).bind fun x37=>(Aw (x12.2.2.2.2.1.length=x37.2.2.2.2.2.1.length) (Aw (x12.2.2.2.2.2.length=x37.2.2.2.2.2.2.length) (some (x37.1,x37.2.1,x37.2.2.1,x37.2.2.2.1,x37.2.2.2.2.1,x37.2.2.2.2.2.1,x37.2.2.2.2.2.2)))))) else(bif (decide ((aB.getD i1.toNat default).Kind=(17:Int))) then(Aw (A5 i1 aB.length) ((Df (aB.getD i1.toNat default) x12.2.2.2.2.1 x12.2.1 x12.2.2.1 x12.2.2.2.2.2 x12.2.2.2.1).bind fun x42=>(Aw (x12.2.2.2.2.1.length=x42.2.2.2.2.2.1.length) (Aw (x12.2.2.2.2.2.length=x42.2.2.2.2.2.2.length) (some (x42.1,x42.2.1,x42.2.2.1,x42.2.2.2.1,x42.2.2.2.2.1,x42.2.2.2.2.2.1,x42.2.2.2.2.2.2)))))) else(bif (decide ((aB.getD i1.toNat default).Kind=(18:Int))) then(Aw (A5 i1 aB.length) ((C9 (aB.getD i1.toNat default) x12.2.2.2.2.1 x12.2.1 x12.2.2.1 x12.2.2.2.2.2 x12.2.2.2.1).bind fun x47=>(Aw (x12.2.2.2.2.1.length=x47.2.2.2.2.2.1.length) (Aw (x12.2.2.2.2.2.length=x47.2.2.2.2.2.2.length) (some (x47.1,x47.2.1,x47.2.2.1,x47.2.2.2.1,x47.2.2.2.2.1,x47.2.2.2.2.2.1,x47.2.2.2.2.2.2)))))) else(bif (decide ((aB.getD i1.toNat default).Kind=(19:Int))) then(Aw (A5 i1 aB.length) ((Cu (aB.getD i1.toNat default) x12.2.2.2.2.1 x12.2.1 x12.2.2.1 x12.2.2.2.2.2 x12.2.2.2.1).bind fun x52=>(Aw (x12.2.2.2.2.1.length=x52.2.2.2.2.2.1.length) (Aw (x12.2.2.2.2.2.length=x52.2.2.2.2.2.2.length) (some (x52.1,x52.2.1,x52.2.2.1,x52.2.2.2.1,x52.2.2.2.2.1,x52.2.2.2.2.2.1,x52.2.2.2.2.2.2)))))) else(bif (decide ((aB.getD i1.toNat default).Kind=(20:Int))) then(Aw (A5 i1 aB.length) ((Cv (aB.getD i1.toNat default) (4:Int) x12.2.2.2.2.1 x12.2.1 x12.2.2.1 x12.2.2.2.2.2 x12.2.2.2.1).bind fun x57=>(some (x57.1,x57.2,x12.2.1,x12.2.2.1,x12.2.2.2.1,x12.2.2.2.2.1,x12.2.2.2.2.2)))) else(bif (decide ((aB.getD i1.toNat default).Kind=(21:Int))) then(Aw (A5 i1 aB.length) ((Ey (aB.getD i1.toNat default) x12.2.2.2.2.1 x12.2.1 x12.2.2.1 x12.2.2.2.2.2 x12.2.2.2.1).bind fun x60=>(some (x60.1,x60.2,x12.2.1,x12.2.2.1,x12.2.2.2.1,x12.2.2.2.2.1,x12.2.2.2.2.2)))) else(bif (decide ((aB.getD i1.toNat default).Kind=(22:Int))) then(Aw (A5 i1 aB.length) ((Fj (aB.getD i1.toNat default) x12.2.2.2.2.1 x12.2.1 x12.2.2.1 x12.2.2.2.2.2 x12.2.2.2.1).bind fun x63=>(some (x63.1,x63.2,x12.2.1,x12.2.2.1,x12.2.2.2.1,x12.2.2.2.2.1,x12.2.2.2.2.2)))) else(bif (decide ((aB.getD i1.toNat default).Kind=(1:Int))) then(Aw (A5 i1 aB.length) ((Ah (aB.getD i1.toNat default) (1:Int) x12.2.2.2.2.1 x12.2.1 x12.2.2.1 x12.2.2.2.2.2 x12.2.2.2.1).bind fun x66=>(some (x66.1,x66.2,x12.2.1,x12.2.2.1,x12.2.2.2.1,x12.2.2.2.2.1,x12.2.2.2.2.2)))) else(bif (decide ((aB.getD i1.toNat default).Kind=(2:Int))) then(Aw (A5 i1 aB.length) ((Ah (aB.getD i1.toNat default) (2:Int) x12.2.2.2.2.1 x12.2.1 x12.2.2.1 x12.2.2.2.2.2 x12.2.2.2.1).bind fun x69=>(some (x69.1,x69.2,x12.2.1,x12.2.2.1,x12.2.2.2.1,x12.2.2.2.2.1,x12.2.2.2.2.2)))) else(bif (decide ((aB.getD i1.toNat default).Kind=(3:Int))) then(Aw (A5 i1 aB.length) ((Ah (aB.getD i1.toNat default) (3:Int) x12.2.2.2.2.1 x12.2.1 x12.2.2.1 x12.2.2.2.2.2 x12.2.2.2.1).bind fun x72=>(some (x72.1,x72.2,x12.2.1,x12.2.2.1,x12.2.2.2.1,x12.2.2.2.2.1,x12.2.2.2.2.2)))) else(bif (decide ((aB.getD i1.toNat default).Kind=(4:Int))) then(Aw (A5 i1 aB.length) ((Ah (aB.getD i1.toNat default) (4:Int) x12.2.2.2.2.1 x12.2.1 x12.2.2.1 x12.2.2.2.2.2 x12.2.2.2.1).bind fun x75=>(some (x75.1,x75.2,x12.2.1,x12.2.2.1,x12.2.2.2.1,x12.2.2.2.2.1,x12.2.2.2.2.2)))) else(bif (decide ((aB.getD i1.toNat default).Kind=(5:Int))) then(Aw (A5 i1 aB.length) ((Ah (aB.getD i1.toNat default) (5:Int) x12.2.2.2.2.1 x12.2.1 x12.2.2.1 x12.2.2.2.2.2 x12.2.2.2.1).bind fun x78=>(some (x78.1,x78.2,x12.2.1,x12.2.2.1,x12.2.2.2.1,x12.2.2.2.2.1,x12.2.2.2.2.2)))) else(bif (decide ((aB.getD i1.toNat default).Kind=(6:Int))) then(Aw (A5 i1 aB.length) ((Ah (aB.getD i1.toNat default) (6:Int) x12.2.2.2.2.1 x12.2.1 x12.2.2.1 x12.2.2.2.2.2 x12.2.2.2.1).bind fun x81=>(some (x81.1,x81.2,x12.2.1,x12.2.2.1,x12.2.2.2.1,x12.2.2.2.2.1,x12.2.2.2.2.2)))) else(bif (decide ((aB.getD i1.toNat default).Kind=(7:Int))) then(Aw (A5 i1 aB.length) ((Ah (aB.getD i1.toNat default) (7:Int) x12.2.2.2.2.1 x12.2.1 x12.2.2.1 x12.2.2.2.2.2 x12.2.2.2.1).bind fun x84=>(some (x84.1,x84.2,x12.2.1,x12.2.2.1,x12.2.2.2.1,x12.2.2.2.2.1,x12.2.2.2.2.2)))) else(bif (decide ((aB.getD i1.toNat default).Kind=(8:Int))) then(Aw (A5 i1 aB.length) ((Ah (aB.getD i1.toNat default) (8:Int) x12.2.2.2.2.1 x12.2.1 x12.2.2.1 x12.2.2.2.2.2 x12.2.2.2.1).bind fun x87=>(some (x87.1,x87.2,x12.2.1,x12.2.2.1,x12.2.2.2.1,x12.2.2.2.2.1,x12.2.2.2.2.2)))) else(bif (decide ((aB.getD i1.toNat default).Kind=(9:Int))) then(Aw (A5 i1 aB.length) ((Ah (aB.getD i1.toNat default) (9:Int) x12.2.2.2.2.1 x12.2.1 x12.2.2.1 x12.2.2.2.2.2 x12.2.2.2.1).bind fun x90=>(some (x90.1,x90.2,x12.2.1,x12.2.2.1,x12.2.2.2.1,x12.2.2.2.2.1,x12.2.2.2.2.2)))) else(bif (decide ((aB.getD i1.toNat default).Kind=(10:Int))) then(Aw (A5 i1 aB.length) ((Ah (aB.getD i1.toNat default) (10:Int) x12.2.2.2.2.1 x12.2.1 x12.2.2.1 x12.2.2.2.2.2 x12.2.2.2.1).bind fun x93=>(some (x93.1,x93.2,x12.2.1,x12.2.2.1,x12.2.2.2.1,x12.2.2.2.2.1,x12.2.2.2.2.2)))) else(bif (decide ((aB.getD i1.toNat default).Kind=(11:Int))) then(Aw (A5 i1 aB.length) ((Ah (aB.getD i1.toNat default) (11:Int) x12.2.2.2.2.1 x12.2.1 x12.2.2.1 x12.2.2.2.2.2 x12.2.2.2.1).bind fun x96=>(some (x96.1,x96.2,x12.2.1,x12.2.2.1,x12.2.2.2.1,x12.2.2.2.2.1,x12.2.2.2.2.2)))) else(bif (decide ((aB.getD i1.toNat default).Kind=(12:Int))) then(Aw (A5 i1 aB.length) ((Ah (aB.getD i1.toNat default) (12:Int) x12.2.2.2.2.1 x12.2.1 x12.2.2.1 x12.2.2.2.2.2 x12.2.2.2.1).bind fun x99=>(some (x99.1,x99.2,x12.2.1,x12.2.2.1,x12.2.2.2.1,x12.2.2.2.2.1,x12.2.2.2.2.2)))) else none)))))))))))))))))))))))) (fun(l15,i16,i17,i18,l19,l20,l21)=>(bif (i16 !=0) then(some (.done (.inr (i16,i17,i18,l19,l20,l21)))) else(Aw (A5 i1 aB.length) (Aw (A5 (aB.getD i1.toNat default).Dst l20.length) (some (.next ((Ar (i1+1)),i17,i18,l19,(l20.set ((aB.getD i1.toNat default).Dst).toNat l15),l21)))))))))))) else(some (.done (.inl (i2,i3,l4,l5,l6)))))
def Ph(Γ:Er)(aB:List Dj)(a0:List (List Int))(a3:Int)(a2:Int)(a4:List Int)(a5:List Ac)(r:(Int×Int×Int×List Ac×List (List Int)×List Int)):Exit→St→Prop:=fK Tryz.prog Γ Tryz.f70.results.toList (Z1 a0 a3 a2 a4 a5 a5.length) (Be r.1) (Z1 r.2.2.2.2.1 r.2.1 r.2.2.1 r.2.2.2.2.2 r.2.2.2.1 r.2.2.2.1.length)
def Ov(x12:(Bool×Int×Int×List Ac×List (List Int)×List Int)):List AV:=(Z6 35100 x12.2.2.2.2.2.length x12.2.2.2.1 37101)
def O3(x12:(Bool×Int×Int×List Ac×List (List Int)×List Int)):Own:=(.row 93 (Ov x12))
def O5(x12:(Bool×Int×Int×List Ac×List (List Int)×List Int)):AV:=(Be x12.2.2.1)
def O0:Own:=(.obj (.tab .i64 Hp))
def Oz(x12:(Bool×Int×Int×List Ac×List (List Int)×List Int)):Own:=(.tok 3 49 x12.2.2.2.1.length)
def Iq(aB:List Dj)(i1:Int):=(aB.getD i1.toNat default)
def Kk(aB:List Dj)(i1:Int):AV:=(.int .i64 (Iq aB i1).Kind)
def O4(x12:(Bool×Int×Int×List Ac×List (List Int)×List Int)):AV:=(.vsl 35002 x12.2.2.2.2.1.length)
def Oy(x12:(Bool×Int×Int×List Ac×List (List Int)×List Int)):=(fun i=>Au (x12.2.2.2.2.1.getD i []))
def Ox(x12:(Bool×Int×Int×List Ac×List (List Int)×List Int)):=(fun i=>Dk (x12.2.2.2.2.2.getD i 0))
def O2(x12:(Bool×Int×Int×List Ac×List (List Int)×List Int)):Own:=(.arr 1 5 x12.2.2.2.2.2.length (Ox x12))
def O1(x12:(Bool×Int×Int×List Ac×List (List Int)×List Int)):Own:=(.arr 1 26 x12.2.2.2.2.1.length (Oy x12))
def Ow(x12:(Bool×Int×Int×List Ac×List (List Int)×List Int)):Own:=(.row 99 [(.ptr 30001 0),(.omap 9100001),(O4 x12),(Be x12.2.1),(O5 x12)])
def Q141(x12:(Bool×Int×Int×List Ac×List (List Int)×List Int)):List (Nat×Own):=[(30000,.row 99 [(.ptr 30001 0),(.omap 9100001),(O4 x12),(Be x12.2.1),(O5 x12)]),(30001,.row 93 (Ov x12)),(W8 37101 x12.2.2.2.1.length),(35002,.arr 1 26 x12.2.2.2.2.1.length (Oy x12)),(35100,.arr 1 5 x12.2.2.2.2.2.length (Ox x12)),(Z48 9100001)]
def Cr(aB:List Dj)(a0:List (List Int))(a3:Int)(a2:Int)(a4:List Int)(a5:List Ac):Option (Int×Int×Int×List Ac×List (List Int)×List Int):=
 ((Az (Ce aB) ((0:Int),a3,a2,a5,a0,a4)).bind (fun x104=>(match x104 with|(.inl (i7,i8,l9,l10,l11))=>(some ((0:Int),i7,i8,l9,l10,l11))|(.inr r106)=>(some r106))))
theorem Iu(aB:List Dj)(a0:List (List Int))(a3:Int)(a2:Int)(a4:List Int)(a5:List Ac)(r:(Int×Int×Int×List Ac×List (List Int)×List Int))(h:Cr aB a0 a3 a2 a4 a5=some r):Spec Tryz.prog 70 [(.ptr 30000 0),(AV.list 6 Ga default aB .none)] [(30000,.row 99 [(.ptr 30001 0),(.omap 9100001),(.vsl 35002 a0.length),(.int .i64 a3),(.int .i64 a2)]),(30001,.row 93 [(.vsl 35100 a4.length),(AV.list 3 Ao default a5 (.own 37101))]),(37101,.tok 3 49 a5.length),(35002,.arr 1 26 a0.length (fun i=>Au (a0.getD i []))),(35100,.arr 1 5 a4.length (fun i=>Dk (a4.getD i 0))),(9100001,.obj (.tab .i64 Hp))] (.int .i64 r.1) [(30000,.row 99 [(.ptr 30001 0),(.omap 9100001),(.vsl 35002 r.2.2.2.2.1.length),(.int .i64 r.2.1),(.int .i64 r.2.2.1)]),(30001,.row 93 [(.vsl 35100 r.2.2.2.2.2.length),(AV.list 3 Ao default r.2.2.2.1 (.own 37101))]),(37101,.tok 3 49 r.2.2.2.1.length),(35002,.arr 1 26 r.2.2.2.2.1.length (fun i=>Au (r.2.2.2.2.1.getD i []))),(35100,.arr 1 5 r.2.2.2.2.2.length (fun i=>Dk (r.2.2.2.2.2.getD i 0))),(9100001,.obj (.tab .i64 Hp))]:=by
 refine Ab mix Tryz.func70 (fun Γ hq=>?_);unfold Cr at h;refine Ae hq [0,1] [30000,30001,35002,35100,37101,9100001] ?_;refine Ae hq [0,1,9,10] [30000,30001,35002,35100,37101,9100001] ?_;obtain⟨x104,hx104,h⟩:=bind_some h;refine gL hq hx104 [0,1,9,10] [30000,30001,35002,35100,37101,9100001] (fun u (i1,i2,i3,l4,l5,l6)=>(C4 u [(Iw 10 i1)] [(Xy l5.length i2 i3),(Z57 30001 35100 l6.length l4 37101),(W6 35002 l5),(Z8 35100 l6),(W8 37101 l4.length)])) (fun u x_=>match x_ with|(.inl (i7,i8,l9,l10,l11))=>aG Γ (.exit 0) (⟨[],(Z29 l10.length i7 i8 l11.length l9 l10 l11 l9.length),[]⟩:St)|(.inr r_)=>aR (Ph Γ aB a0 a3 a2 a4 a5 r_)) ?_ ?_
 ·rintro⟨i1,i2,i3,l4,l5,l6⟩ y h;unfold Ce at h;refine Ae hq [0,1,9,10,11] [30000,30001,35002,35100,37101,9100001] ?_;refine gC h (fun h=>?_) (fun h=>?_)
  ·refine Ae hq [0,1,5,9,10] [30000,30001,35002,35100,37101,9100001] ?_;obtain⟨x12,hx12,h⟩:=bind_some h;obtain⟨hc13,h⟩:=Aa h;obtain⟨hc14,h⟩:=Aa h;refine gR hq [0,1,5,9,10,15] [30000,30001,35002,35100,37101,9100001] [] [⟨[(30000,30000),(30001,30001),(37101,37101),(35002,35002),(35100,35100),(9100001,9100001)],[],(.bool x12.1),(Q141 x12),[],[]⟩] (c1 (Gr l5 i2 i3 l6 l4 x12 hx12)) ?_;refine gC h (fun h=>?_) (fun h=>?_)
   ·refine Ae hq [4] [30000,30001,35002,35100,37101,9100001] ?_;cases h;exact gO (Js (F5 [(30000,30000),(30001,30001),(37101,37101),(35002,35002),(35100,35100),(9100001,9100001)] (Le.refl _ _)))
   ·obtain⟨x100,hx100,h⟩:=bind_some h;refine gJR hx100 (fun(l15,i16,i17,i18,l19,l20,l21)=>aG Γ .normal (⟨[(0,(.ptr 30000 0)),(1,(AV.list 6 Ga default aB .none)),(5,(Be i1)),(6,(Z50 l15)),(7,(Be i16)),(9,(Mn aB.length)),(Iw 10 i1)],(Z29 l20.length i17 i18 l21.length l19 l20 l21 l19.length),[]⟩:St)) ?_ ?_
    ·clear h hx100;intro y h;obtain⟨hc22,h⟩:=Aa h;refine gB h (fun hs23 h=>?_) (fun hs23 h=>?_)
     ·obtain⟨hc24,h⟩:=Aa h;obtain⟨x25,hx25,h⟩:=bind_some h;refine gR hq [0,1,5,6,7,9,10] [31,30000,30001,35002,35100,37101,9100001] [(25,Jr)] [⟨[],[(20000,31)],(.tuple (Uu x25.1 x25.2)),[(20000,.tok 1 37 x25.1.length)],[],[]⟩] (ci hc22 (ci (show(AVle (Kk aB i1) Jr) from(Bo hs23)) (ci hc24 (c1 (Tt (Iq aB i1) x25 hx25))))) ?_;cases h;exact gK (Bx (B6 [0,1,5,6,7,9,10] [30000,30001,35002,35100,37101,9100001] hq))
     ·refine gB h (fun hs26 h=>?_) (fun hs26 h=>?_)
      ·obtain⟨hc27,h⟩:=Aa h;obtain⟨x28,hx28,h⟩:=bind_some h;refine gR hq [0,1,5,6,7,9,10] [30000,30001,35002,35100,37101,9100001] [(25,(Mn 13))] [⟨[(30000,30000),(30001,30001),(37101,37101),(35002,35002),(35100,35100),(9100001,9100001)],[],(.tuple [(Z50 x28.1),(Be x28.2)]),(Q141 x12),[],[30000,30001,37101,35002,35100,9100001]⟩] (ci hc22 (ci (show(AVle (Kk aB i1) (Mn 13)) from(Bo hs26)) (ci hc27 (ci (N1 (Iq aB i1) x12.2.2.2.2.1 x12.2.1 x12.2.2.1 x12.2.2.2.2.2 x12.2.2.2.1 x28 hx28) (ci (rk (Ow x12)) (ci (rk (O3 x12)) (ci (rk (Oz x12)) (ci (rk (O1 x12)) (ci (rk (O2 x12)) (c1 (rk O0))))))))))) ?_;cases h;exact gK (Bx Cy)
      ·refine gB h (fun hs29 h=>?_) (fun hs29 h=>?_)
       ·obtain⟨hc30,h⟩:=Aa h;obtain⟨x31,hx31,h⟩:=bind_some h;refine gR hq [0,1,5,6,7,9,10] [31,30000,30001,35002,35100,37101,9100001] [(25,(Mn 14))] [⟨[(30000,30000),(30001,30001),(37101,37101),(35002,35002),(35100,35100),(9100001,9100001)],[(20000,31)],(.tuple (Uu x31.1 x31.2)),(Z5 (O4 x12) x12.2.1 (O5 x12) (Ov x12) x12.2.2.2.1.length x12.2.2.2.2.1.length (Oy x12) x12.2.2.2.2.2.length (Ox x12) x31.1.length),[],[30000,30001,37101,35002,35100,9100001]⟩] (ci hc22 (ci (show(AVle (Kk aB i1) (Mn 14)) from(Bo hs29)) (ci hc30 (ci (Lp (Iq aB i1) x12.2.2.2.2.1 x12.2.1 x12.2.2.1 x12.2.2.2.2.2 x12.2.2.2.1 x31 hx31) (ci (rk (Ow x12)) (ci (rk (O3 x12)) (ci (rk (Oz x12)) (ci (rk (O1 x12)) (ci (rk (O2 x12)) (c1 (rk O0))))))))))) ?_;cases h;exact gK (Bx (B6 [0,1,5,6,7,9,10] [30000,30001,35002,35100,37101,9100001] hq))
       ·refine gB h (fun hs32 h=>?_) (fun hs32 h=>?_)
        ·obtain⟨hc33,h⟩:=Aa h;obtain⟨x34,hx34,h⟩:=bind_some h;refine gR hq [0,1,5,6,7,9,10] [31,30000,30001,35002,35100,37101,9100001] [(25,(Mn 15))] [⟨[(30000,30000),(30001,30001),(37101,37101),(35002,35002),(35100,35100),(9100001,9100001)],[(20000,31)],(.tuple (Uu x34.1 x34.2)),(Z5 (O4 x12) x12.2.1 (O5 x12) (Ov x12) x12.2.2.2.1.length x12.2.2.2.2.1.length (Oy x12) x12.2.2.2.2.2.length (Ox x12) x34.1.length),[],[30000,30001,37101,35002,35100,9100001]⟩] (ci hc22 (ci (show(AVle (Kk aB i1) (Mn 15)) from(Bo hs32)) (ci hc33 (ci (J4 (Iq aB i1) x12.2.2.2.2.1 x12.2.1 x12.2.2.1 x12.2.2.2.2.2 x12.2.2.2.1 x34 hx34) (ci (rk (Ow x12)) (ci (rk (O3 x12)) (ci (rk (Oz x12)) (ci (rk (O1 x12)) (ci (rk (O2 x12)) (c1 (rk O0))))))))))) ?_;cases h;exact gK (Bx (B6 [0,1,5,6,7,9,10] [30000,30001,35002,35100,37101,9100001] hq))
        ·refine gB h (fun hs35 h=>?_) (fun hs35 h=>?_)
         ·obtain⟨hc36,h⟩:=Aa h;obtain⟨x37,hx37,h⟩:=bind_some h;obtain⟨hc38,h⟩:=Aa h;obtain⟨hc39,h⟩:=Aa h;refine gR hq [0,1,5,6,7,9,10] [31,30000,30001,35002,35100,37101,9100001] [(25,(Mn 16))] [⟨[(30000,30000),(30001,30001),(37101,37101),(35002,35002),(35100,35100),(9100001,9100001)],[(20000,31)],(.tuple (Uu x37.1 x37.2.1)),(Z20 x37.2.2.2.2.2.1.length x37.2.2.1 x37.2.2.2.1 x37.2.2.2.2.2.2.length x37.2.2.2.2.1 x37.2.2.2.2.1.length x37.2.2.2.2.2.1 x37.2.2.2.2.2.2 x37.1.length),[],[]⟩] (ci hc22 (ci (show(AVle (Kk aB i1) (Mn 16)) from(Bo hs35)) (ci hc36 (c1 (Jo (Iq aB i1) x12.2.2.2.2.1 x12.2.1 x12.2.2.1 x12.2.2.2.2.2 x12.2.2.2.1 x37 hx37))))) ?_;cases h;exact gK (Bx (B6 [0,1,5,6,7,9,10] [30000,30001,35002,35100,37101,9100001] hq))
         ·refine gB h (fun hs40 h=>?_) (fun hs40 h=>?_)
          ·obtain⟨hc41,h⟩:=Aa h;obtain⟨x42,hx42,h⟩:=bind_some h;obtain⟨hc43,h⟩:=Aa h;obtain⟨hc44,h⟩:=Aa h;refine gR hq [0,1,5,6,7,9,10] [31,30000,30001,35002,35100,37101,9100001] [(25,(Mn 17))] [⟨[(30000,30000),(30001,30001),(37101,37101),(35002,35002),(35100,35100),(9100001,9100001)],[(20000,31)],(.tuple (Uu x42.1 x42.2.1)),(Z20 x42.2.2.2.2.2.1.length x42.2.2.1 x42.2.2.2.1 x42.2.2.2.2.2.2.length x42.2.2.2.2.1 x42.2.2.2.2.1.length x42.2.2.2.2.2.1 x42.2.2.2.2.2.2 x42.1.length),[],[]⟩] (ci hc22 (ci (show(AVle (Kk aB i1) (Mn 17)) from(Bo hs40)) (ci hc41 (c1 (Iv (Iq aB i1) x12.2.2.2.2.1 x12.2.1 x12.2.2.1 x12.2.2.2.2.2 x12.2.2.2.1 x42 hx42))))) ?_;cases h;exact gK (Bx (B6 [0,1,5,6,7,9,10] [30000,30001,35002,35100,37101,9100001] hq))
          ·refine gB h (fun hs45 h=>?_) (fun hs45 h=>?_)
           ·obtain⟨hc46,h⟩:=Aa h;obtain⟨x47,hx47,h⟩:=bind_some h;obtain⟨hc48,h⟩:=Aa h;obtain⟨hc49,h⟩:=Aa h;refine gR hq [0,1,5,6,7,9,10] [30000,30001,35002,35100,37101,9100001] [(25,(Mn 18))] [⟨[(30000,30000),(30001,30001),(37101,37101),(35002,35002),(35100,35100),(9100001,9100001)],[],(.tuple [(Z50 x47.1),(Be x47.2.1)]),(Z1 x47.2.2.2.2.2.1 x47.2.2.1 x47.2.2.2.1 x47.2.2.2.2.2.2 x47.2.2.2.2.1 x47.2.2.2.2.1.length),[],[]⟩] (ci hc22 (ci (show(AVle (Kk aB i1) (Mn 18)) from(Bo hs45)) (ci hc46 (c1 (Lo (Iq aB i1) x12.2.2.2.2.1 x12.2.1 x12.2.2.1 x12.2.2.2.2.2 x12.2.2.2.1 x47 hx47))))) ?_;cases h;exact gK (Bx Cy)
           ·refine gB h (fun hs50 h=>?_) (fun hs50 h=>?_)
            ·obtain⟨hc51,h⟩:=Aa h;obtain⟨x52,hx52,h⟩:=bind_some h;obtain⟨hc53,h⟩:=Aa h;obtain⟨hc54,h⟩:=Aa h;refine gR hq [0,1,5,6,7,9,10] [30000,30001,35002,35100,37101,9100001] [(25,(Mn 19))] [⟨[(30000,30000),(30001,30001),(37101,37101),(35002,35002),(35100,35100),(9100001,9100001)],[],(.tuple [(Z50 x52.1),(Be x52.2.1)]),(Z1 x52.2.2.2.2.2.1 x52.2.2.1 x52.2.2.2.1 x52.2.2.2.2.2.2 x52.2.2.2.2.1 x52.2.2.2.2.1.length),[],[]⟩] (ci hc22 (ci (show(AVle (Kk aB i1) (Mn 19)) from(Bo hs50)) (ci hc51 (c1 (J2 (Iq aB i1) x12.2.2.2.2.1 x12.2.1 x12.2.2.1 x12.2.2.2.2.2 x12.2.2.2.1 x52 hx52))))) ?_;cases h;exact gK (Bx Cy)
            ·refine gB h (fun hs55 h=>?_) (fun hs55 h=>?_)
             ·obtain⟨hc56,h⟩:=Aa h;obtain⟨x57,hx57,h⟩:=bind_some h;refine gR hq [0,1,5,6,7,9,10] [30000,30001,35002,35100,37101,9100001] [(25,(Mn 20))] [⟨[(30000,30000),(30001,30001),(37101,37101),(35002,35002),(35100,35100),(9100001,9100001)],[],(.tuple [(Z50 x57.1),(Be x57.2)]),(Q141 x12),[],[30000,30001,37101,35002,35100,9100001]⟩] (ci hc22 (ci (show(AVle (Kk aB i1) (Mn 20)) from(Bo hs55)) (ci hc56 (ci (J3 (Iq aB i1) (4:Int) x12.2.2.2.2.1 x12.2.1 x12.2.2.1 x12.2.2.2.2.2 x12.2.2.2.1 x57 hx57) (ci (rk (Ow x12)) (ci (rk (O3 x12)) (ci (rk (Oz x12)) (ci (rk (O1 x12)) (ci (rk (O2 x12)) (c1 (rk O0))))))))))) ?_;cases h;exact gK (Bx Cy)
             ·refine gB h (fun hs58 h=>?_) (fun hs58 h=>?_)
              ·obtain⟨hc59,h⟩:=Aa h;obtain⟨x60,hx60,h⟩:=bind_some h;refine gR hq [0,1,5,6,7,9,10] [31,30000,30001,35002,35100,37101,9100001] [(25,(Mn 21))] [⟨[(30000,30000),(30001,30001),(37101,37101),(35002,35002),(35100,35100),(9100001,9100001)],[(20000,31)],(.tuple (Uu x60.1 x60.2)),(Z5 (O4 x12) x12.2.1 (O5 x12) (Ov x12) x12.2.2.2.1.length x12.2.2.2.2.1.length (Oy x12) x12.2.2.2.2.2.length (Ox x12) x60.1.length),[],[30000,30001,37101,35002,35100,9100001]⟩] (ci hc22 (ci (show(AVle (Kk aB i1) (Mn 21)) from(Bo hs58)) (ci hc59 (ci (P5 (Iq aB i1) x12.2.2.2.2.1 x12.2.1 x12.2.2.1 x12.2.2.2.2.2 x12.2.2.2.1 x60 hx60) (ci (rk (Ow x12)) (ci (rk (O3 x12)) (ci (rk (Oz x12)) (ci (rk (O1 x12)) (ci (rk (O2 x12)) (c1 (rk O0))))))))))) ?_;cases h;exact gK (Bx (B6 [0,1,5,6,7,9,10] [30000,30001,35002,35100,37101,9100001] hq))
              ·refine gB h (fun hs61 h=>?_) (fun hs61 h=>?_)
               ·obtain⟨hc62,h⟩:=Aa h;obtain⟨x63,hx63,h⟩:=bind_some h;refine gR hq [0,1,5,6,7,9,10] [31,30000,30001,35002,35100,37101,9100001] [(25,(Mn 22))] [⟨[(30000,30000),(30001,30001),(37101,37101),(35002,35002),(35100,35100),(9100001,9100001)],[(20000,31)],(.tuple (Uu x63.1 x63.2)),(Z5 (O4 x12) x12.2.1 (O5 x12) (Ov x12) x12.2.2.2.1.length x12.2.2.2.2.1.length (Oy x12) x12.2.2.2.2.2.length (Ox x12) x63.1.length),[],[30000,30001,37101,35002,35100,9100001]⟩] (ci hc22 (ci (show(AVle (Kk aB i1) (Mn 22)) from(Bo hs61)) (ci hc62 (ci (Re (Iq aB i1) x12.2.2.2.2.1 x12.2.1 x12.2.2.1 x12.2.2.2.2.2 x12.2.2.2.1 x63 hx63) (ci (rk (Ow x12)) (ci (rk (O3 x12)) (ci (rk (Oz x12)) (ci (rk (O1 x12)) (ci (rk (O2 x12)) (c1 (rk O0))))))))))) ?_;cases h;exact gK (Bx (B6 [0,1,5,6,7,9,10] [30000,30001,35002,35100,37101,9100001] hq))
               ·refine gB h (fun hs64 h=>?_) (fun hs64 h=>?_)
                ·obtain⟨hc65,h⟩:=Aa h;obtain⟨x66,hx66,h⟩:=bind_some h;refine gR hq [0,1,5,6,7,9,10] [31,30000,30001,35002,35100,37101,9100001] [(25,Xz)] [⟨[(30000,30000),(30001,30001),(37101,37101),(35002,35002),(35100,35100),(9100001,9100001)],[(20000,31)],(.tuple (Uu x66.1 x66.2)),(Z5 (O4 x12) x12.2.1 (O5 x12) (Ov x12) x12.2.2.2.1.length x12.2.2.2.2.1.length (Oy x12) x12.2.2.2.2.2.length (Ox x12) x66.1.length),[],[30000,30001,37101,35002,35100,9100001]⟩] (ci hc22 (ci (show(AVle (Kk aB i1) Xz) from(Bo hs64)) (ci hc65 (ci (A1 (Iq aB i1) (1:Int) x12.2.2.2.2.1 x12.2.1 x12.2.2.1 x12.2.2.2.2.2 x12.2.2.2.1 x66 hx66) (ci (rk (Ow x12)) (ci (rk (O3 x12)) (ci (rk (Oz x12)) (ci (rk (O1 x12)) (ci (rk (O2 x12)) (c1 (rk O0))))))))))) ?_;cases h;exact gK (Bx (B6 [0,1,5,6,7,9,10] [30000,30001,35002,35100,37101,9100001] hq))
                ·refine gB h (fun hs67 h=>?_) (fun hs67 h=>?_)
                 ·obtain⟨hc68,h⟩:=Aa h;obtain⟨x69,hx69,h⟩:=bind_some h;refine gR hq [0,1,5,6,7,9,10] [31,30000,30001,35002,35100,37101,9100001] [(25,Z64)] [⟨[(30000,30000),(30001,30001),(37101,37101),(35002,35002),(35100,35100),(9100001,9100001)],[(20000,31)],(.tuple (Uu x69.1 x69.2)),(Z5 (O4 x12) x12.2.1 (O5 x12) (Ov x12) x12.2.2.2.1.length x12.2.2.2.2.1.length (Oy x12) x12.2.2.2.2.2.length (Ox x12) x69.1.length),[],[30000,30001,37101,35002,35100,9100001]⟩] (ci hc22 (ci (show(AVle (Kk aB i1) Z64) from(Bo hs67)) (ci hc68 (ci (A1 (Iq aB i1) (2:Int) x12.2.2.2.2.1 x12.2.1 x12.2.2.1 x12.2.2.2.2.2 x12.2.2.2.1 x69 hx69) (ci (rk (Ow x12)) (ci (rk (O3 x12)) (ci (rk (Oz x12)) (ci (rk (O1 x12)) (ci (rk (O2 x12)) (c1 (rk O0))))))))))) ?_;cases h;exact gK (Bx (B6 [0,1,5,6,7,9,10] [30000,30001,35002,35100,37101,9100001] hq))
                 ·refine gB h (fun hs70 h=>?_) (fun hs70 h=>?_)
                  ·obtain⟨hc71,h⟩:=Aa h;obtain⟨x72,hx72,h⟩:=bind_some h;refine gR hq [0,1,5,6,7,9,10] [31,30000,30001,35002,35100,37101,9100001] [(25,Z35)] [⟨[(30000,30000),(30001,30001),(37101,37101),(35002,35002),(35100,35100),(9100001,9100001)],[(20000,31)],(.tuple (Uu x72.1 x72.2)),(Z5 (O4 x12) x12.2.1 (O5 x12) (Ov x12) x12.2.2.2.1.length x12.2.2.2.2.1.length (Oy x12) x12.2.2.2.2.2.length (Ox x12) x72.1.length),[],[30000,30001,37101,35002,35100,9100001]⟩] (ci hc22 (ci (show(AVle (Kk aB i1) Z35) from(Bo hs70)) (ci hc71 (ci (A1 (Iq aB i1) (3:Int) x12.2.2.2.2.1 x12.2.1 x12.2.2.1 x12.2.2.2.2.2 x12.2.2.2.1 x72 hx72) (ci (rk (Ow x12)) (ci (rk (O3 x12)) (ci (rk (Oz x12)) (ci (rk (O1 x12)) (ci (rk (O2 x12)) (c1 (rk O0))))))))))) ?_;cases h;exact gK (Bx (B6 [0,1,5,6,7,9,10] [30000,30001,35002,35100,37101,9100001] hq))
                  ·refine gB h (fun hs73 h=>?_) (fun hs73 h=>?_)
                   ·obtain⟨hc74,h⟩:=Aa h;obtain⟨x75,hx75,h⟩:=bind_some h;refine gR hq [0,1,5,6,7,9,10] [31,30000,30001,35002,35100,37101,9100001] [(25,Z61)] [⟨[(30000,30000),(30001,30001),(37101,37101),(35002,35002),(35100,35100),(9100001,9100001)],[(20000,31)],(.tuple (Uu x75.1 x75.2)),(Z5 (O4 x12) x12.2.1 (O5 x12) (Ov x12) x12.2.2.2.1.length x12.2.2.2.2.1.length (Oy x12) x12.2.2.2.2.2.length (Ox x12) x75.1.length),[],[30000,30001,37101,35002,35100,9100001]⟩] (ci hc22 (ci (show(AVle (Kk aB i1) Z61) from(Bo hs73)) (ci hc74 (ci (A1 (Iq aB i1) (4:Int) x12.2.2.2.2.1 x12.2.1 x12.2.2.1 x12.2.2.2.2.2 x12.2.2.2.1 x75 hx75) (ci (rk (Ow x12)) (ci (rk (O3 x12)) (ci (rk (Oz x12)) (ci (rk (O1 x12)) (ci (rk (O2 x12)) (c1 (rk O0))))))))))) ?_;cases h;exact gK (Bx (B6 [0,1,5,6,7,9,10] [30000,30001,35002,35100,37101,9100001] hq))
                   ·refine gB h (fun hs76 h=>?_) (fun hs76 h=>?_)
                    ·obtain⟨hc77,h⟩:=Aa h;obtain⟨x78,hx78,h⟩:=bind_some h;refine gR hq [0,1,5,6,7,9,10] [31,30000,30001,35002,35100,37101,9100001] [(25,Z56)] [⟨[(30000,30000),(30001,30001),(37101,37101),(35002,35002),(35100,35100),(9100001,9100001)],[(20000,31)],(.tuple (Uu x78.1 x78.2)),(Z5 (O4 x12) x12.2.1 (O5 x12) (Ov x12) x12.2.2.2.1.length x12.2.2.2.2.1.length (Oy x12) x12.2.2.2.2.2.length (Ox x12) x78.1.length),[],[30000,30001,37101,35002,35100,9100001]⟩] (ci hc22 (ci (show(AVle (Kk aB i1) Z56) from(Bo hs76)) (ci hc77 (ci (A1 (Iq aB i1) (5:Int) x12.2.2.2.2.1 x12.2.1 x12.2.2.1 x12.2.2.2.2.2 x12.2.2.2.1 x78 hx78) (ci (rk (Ow x12)) (ci (rk (O3 x12)) (ci (rk (Oz x12)) (ci (rk (O1 x12)) (ci (rk (O2 x12)) (c1 (rk O0))))))))))) ?_;cases h;exact gK (Bx (B6 [0,1,5,6,7,9,10] [30000,30001,35002,35100,37101,9100001] hq))
                    ·refine gB h (fun hs79 h=>?_) (fun hs79 h=>?_)
                     ·obtain⟨hc80,h⟩:=Aa h;obtain⟨x81,hx81,h⟩:=bind_some h;refine gR hq [0,1,5,6,7,9,10] [31,30000,30001,35002,35100,37101,9100001] [(25,(.int .i64 (6:Int)))] [⟨[(30000,30000),(30001,30001),(37101,37101),(35002,35002),(35100,35100),(9100001,9100001)],[(20000,31)],(.tuple (Uu x81.1 x81.2)),(Z5 (O4 x12) x12.2.1 (O5 x12) (Ov x12) x12.2.2.2.1.length x12.2.2.2.2.1.length (Oy x12) x12.2.2.2.2.2.length (Ox x12) x81.1.length),[],[30000,30001,37101,35002,35100,9100001]⟩] (ci hc22 (ci (show(AVle (Kk aB i1) (.int .i64 (6:Int))) from(Bo hs79)) (ci hc80 (ci (A1 (Iq aB i1) (6:Int) x12.2.2.2.2.1 x12.2.1 x12.2.2.1 x12.2.2.2.2.2 x12.2.2.2.1 x81 hx81) (ci (rk (Ow x12)) (ci (rk (O3 x12)) (ci (rk (Oz x12)) (ci (rk (O1 x12)) (ci (rk (O2 x12)) (c1 (rk O0))))))))))) ?_;cases h;exact gK (Bx (B6 [0,1,5,6,7,9,10] [30000,30001,35002,35100,37101,9100001] hq))
                     ·refine gB h (fun hs82 h=>?_) (fun hs82 h=>?_)
                      ·obtain⟨hc83,h⟩:=Aa h;obtain⟨x84,hx84,h⟩:=bind_some h;refine gR hq [0,1,5,6,7,9,10] [31,30000,30001,35002,35100,37101,9100001] [(25,(.int .i64 (7:Int)))] [⟨[(30000,30000),(30001,30001),(37101,37101),(35002,35002),(35100,35100),(9100001,9100001)],[(20000,31)],(.tuple (Uu x84.1 x84.2)),(Z5 (O4 x12) x12.2.1 (O5 x12) (Ov x12) x12.2.2.2.1.length x12.2.2.2.2.1.length (Oy x12) x12.2.2.2.2.2.length (Ox x12) x84.1.length),[],[30000,30001,37101,35002,35100,9100001]⟩] (ci hc22 (ci (show(AVle (Kk aB i1) (.int .i64 (7:Int))) from(Bo hs82)) (ci hc83 (ci (A1 (Iq aB i1) (7:Int) x12.2.2.2.2.1 x12.2.1 x12.2.2.1 x12.2.2.2.2.2 x12.2.2.2.1 x84 hx84) (ci (rk (Ow x12)) (ci (rk (O3 x12)) (ci (rk (Oz x12)) (ci (rk (O1 x12)) (ci (rk (O2 x12)) (c1 (rk O0))))))))))) ?_;cases h;exact gK (Bx (B6 [0,1,5,6,7,9,10] [30000,30001,35002,35100,37101,9100001] hq))
                      ·refine gB h (fun hs85 h=>?_) (fun hs85 h=>?_)
                       ·obtain⟨hc86,h⟩:=Aa h;obtain⟨x87,hx87,h⟩:=bind_some h;refine gR hq [0,1,5,6,7,9,10] [31,30000,30001,35002,35100,37101,9100001] [(25,Z54)] [⟨[(30000,30000),(30001,30001),(37101,37101),(35002,35002),(35100,35100),(9100001,9100001)],[(20000,31)],(.tuple (Uu x87.1 x87.2)),(Z5 (O4 x12) x12.2.1 (O5 x12) (Ov x12) x12.2.2.2.1.length x12.2.2.2.2.1.length (Oy x12) x12.2.2.2.2.2.length (Ox x12) x87.1.length),[],[30000,30001,37101,35002,35100,9100001]⟩] (ci hc22 (ci (show(AVle (Kk aB i1) Z54) from(Bo hs85)) (ci hc86 (ci (A1 (Iq aB i1) (8:Int) x12.2.2.2.2.1 x12.2.1 x12.2.2.1 x12.2.2.2.2.2 x12.2.2.2.1 x87 hx87) (ci (rk (Ow x12)) (ci (rk (O3 x12)) (ci (rk (Oz x12)) (ci (rk (O1 x12)) (ci (rk (O2 x12)) (c1 (rk O0))))))))))) ?_;cases h;exact gK (Bx (B6 [0,1,5,6,7,9,10] [30000,30001,35002,35100,37101,9100001] hq))
                       ·refine gB h (fun hs88 h=>?_) (fun hs88 h=>?_)
                        ·obtain⟨hc89,h⟩:=Aa h;obtain⟨x90,hx90,h⟩:=bind_some h;refine gR hq [0,1,5,6,7,9,10] [31,30000,30001,35002,35100,37101,9100001] [(25,(.int .i64 (9:Int)))] [⟨[(30000,30000),(30001,30001),(37101,37101),(35002,35002),(35100,35100),(9100001,9100001)],[(20000,31)],(.tuple (Uu x90.1 x90.2)),(Z5 (O4 x12) x12.2.1 (O5 x12) (Ov x12) x12.2.2.2.1.length x12.2.2.2.2.1.length (Oy x12) x12.2.2.2.2.2.length (Ox x12) x90.1.length),[],[30000,30001,37101,35002,35100,9100001]⟩] (ci hc22 (ci (show(AVle (Kk aB i1) (.int .i64 (9:Int))) from(Bo hs88)) (ci hc89 (ci (A1 (Iq aB i1) (9:Int) x12.2.2.2.2.1 x12.2.1 x12.2.2.1 x12.2.2.2.2.2 x12.2.2.2.1 x90 hx90) (ci (rk (Ow x12)) (ci (rk (O3 x12)) (ci (rk (Oz x12)) (ci (rk (O1 x12)) (ci (rk (O2 x12)) (c1 (rk O0))))))))))) ?_;cases h;exact gK (Bx (B6 [0,1,5,6,7,9,10] [30000,30001,35002,35100,37101,9100001] hq))
                        ·refine gB h (fun hs91 h=>?_) (fun hs91 h=>?_)
                         ·obtain⟨hc92,h⟩:=Aa h;obtain⟨x93,hx93,h⟩:=bind_some h;refine gR hq [0,1,5,6,7,9,10] [31,30000,30001,35002,35100,37101,9100001] [(25,(Mn 10))] [⟨[(30000,30000),(30001,30001),(37101,37101),(35002,35002),(35100,35100),(9100001,9100001)],[(20000,31)],(.tuple (Uu x93.1 x93.2)),(Z5 (O4 x12) x12.2.1 (O5 x12) (Ov x12) x12.2.2.2.1.length x12.2.2.2.2.1.length (Oy x12) x12.2.2.2.2.2.length (Ox x12) x93.1.length),[],[30000,30001,37101,35002,35100,9100001]⟩] (ci hc22 (ci (show(AVle (Kk aB i1) (Mn 10)) from(Bo hs91)) (ci hc92 (ci (A1 (Iq aB i1) (10:Int) x12.2.2.2.2.1 x12.2.1 x12.2.2.1 x12.2.2.2.2.2 x12.2.2.2.1 x93 hx93) (ci (rk (Ow x12)) (ci (rk (O3 x12)) (ci (rk (Oz x12)) (ci (rk (O1 x12)) (ci (rk (O2 x12)) (c1 (rk O0))))))))))) ?_;cases h;exact gK (Bx (B6 [0,1,5,6,7,9,10] [30000,30001,35002,35100,37101,9100001] hq))
                         ·refine gB h (fun hs94 h=>?_) (fun hs94 h=>?_)
                          ·obtain⟨hc95,h⟩:=Aa h;obtain⟨x96,hx96,h⟩:=bind_some h;refine gR hq [0,1,5,6,7,9,10] [31,30000,30001,35002,35100,37101,9100001] [(25,(Mn 11))] [⟨[(30000,30000),(30001,30001),(37101,37101),(35002,35002),(35100,35100),(9100001,9100001)],[(20000,31)],(.tuple (Uu x96.1 x96.2)),(Z5 (O4 x12) x12.2.1 (O5 x12) (Ov x12) x12.2.2.2.1.length x12.2.2.2.2.1.length (Oy x12) x12.2.2.2.2.2.length (Ox x12) x96.1.length),[],[30000,30001,37101,35002,35100,9100001]⟩] (ci hc22 (ci (show(AVle (Kk aB i1) (Mn 11)) from(Bo hs94)) (ci hc95 (ci (A1 (Iq aB i1) (11:Int) x12.2.2.2.2.1 x12.2.1 x12.2.2.1 x12.2.2.2.2.2 x12.2.2.2.1 x96 hx96) (ci (rk (Ow x12)) (ci (rk (O3 x12)) (ci (rk (Oz x12)) (ci (rk (O1 x12)) (ci (rk (O2 x12)) (c1 (rk O0))))))))))) ?_;cases h;exact gK (Bx (B6 [0,1,5,6,7,9,10] [30000,30001,35002,35100,37101,9100001] hq))
                          ·refine gB h (fun hs97 h=>?_) (fun hs97 h=>?_)
                           ·obtain⟨hc98,h⟩:=Aa h;obtain⟨x99,hx99,h⟩:=bind_some h;refine gR hq [0,1,5,6,7,9,10] [31,30000,30001,35002,35100,37101,9100001] [(25,(Mn 12))] [⟨[(30000,30000),(30001,30001),(37101,37101),(35002,35002),(35100,35100),(9100001,9100001)],[(20000,31)],(.tuple (Uu x99.1 x99.2)),(Z5 (O4 x12) x12.2.1 (O5 x12) (Ov x12) x12.2.2.2.1.length x12.2.2.2.2.1.length (Oy x12) x12.2.2.2.2.2.length (Ox x12) x99.1.length),[],[30000,30001,37101,35002,35100,9100001]⟩] (ci hc22 (ci (show(AVle (Kk aB i1) (Mn 12)) from(Bo hs97)) (ci hc98 (ci (A1 (Iq aB i1) (12:Int) x12.2.2.2.2.1 x12.2.1 x12.2.2.1 x12.2.2.2.2.2 x12.2.2.2.1 x99 hx99) (ci (rk (Ow x12)) (ci (rk (O3 x12)) (ci (rk (Oz x12)) (ci (rk (O1 x12)) (ci (rk (O2 x12)) (c1 (rk O0))))))))))) ?_;cases h;exact gK (Bx (B6 [0,1,5,6,7,9,10] [30000,30001,35002,35100,37101,9100001] hq))
                           ·cases h
    ·clear hx100;rcases x100 with⟨l15,i16,i17,i18,l19,l20,l21⟩;refine gA ?_;refine Ae hq [0,1,5,6,7,9,10,35] [30000,30001,35002,35100,37101,9100001] ?_;refine gC h (fun h=>?_) (fun h=>?_)
     ·refine Ae hq [4] [30000,30001,35002,35100,37101,9100001] ?_;cases h;exact gO (Js (F5 [(30000,30000),(30001,30001),(37101,37101),(35002,35002),(35100,35100),(9100001,9100001)] (Le.refl _ _)))
     ·obtain⟨hc102,h⟩:=Aa h;obtain⟨hc103,h⟩:=Aa h;refine gR hq [0,1,9,10] [30000,30001,35002,35100,37101,9100001] [] [] (ci hc102 (ci hc103 (c1 (Eq.refl l20.length)))) ?_;refine Ir (Le.trans (Ll 35002 (show ∀ k_,k_<l20.length→AVleL ((fun i_=>AV.eraseAll (fun n_=>Bn n_ [30000,30001,35002,35100,37101,9100001]) ((F3 (fun i=>Au (l20.getD i [])) ((Iq aB i1).Dst).toNat 0 [(Z50 l15)]) i_)) k_) ((fun i=>Au ((l20.set ((Iq aB i1).Dst).toNat l15).getD i [])) k_) from(A6 (List.length_set ..).symm (fun k_ hk_=>(congrArg (AV.eraseAll (fun n_=>Bn n_ [30000,30001,35002,35100,37101,9100001])) ((Ea (fun _ _=>rfl) (Em hc103) rfl) k_ hk_)).trans rfl)))) (Lm (fun(k_:Nat) u=>(C4 u [] [(Xy k_ i17 i18),(35002,.arr 1 26 k_ (fun i=>Au ((l20.set ((Iq aB i1).Dst).toNat l15).getD i [])))])) (show l20.length=(l20.set ((Iq aB i1).Dst).toNat l15).length from(List.length_set ..).symm))) ?_;refine Ae hq [0,1,9,10] [30000,30001,35002,35100,37101,9100001] ?_;cases h;exact gN Cy
  ·cases h;exact gO (Bx (B6 [] [30000,30001,35002,35100,37101,9100001] hq))
 ·clear hx104;rcases x104 with⟨i7,i8,l9,l10,l11⟩|r106
  ·refine gA ?_;refine Ae hq [4] [30000,30001,35002,35100,37101,9100001] ?_;cases h;exact Bg [(30000,30000),(30001,30001),(37101,37101),(35002,35002),(35100,35100),(9100001,9100001)]
  ·refine Rb (fun st' hk=>?_);obtain rfl:=OI h;exact gK hk
def B5(aL:Int)(a0:List (List Int))(a3:Int)(a2:Int)(a4:List Int)(a5:List Ac):Option Ka:=
 (some (⟨aL,(0:Int),a2⟩:Ka))
theorem Cs(aL:Int)(a0:List (List Int))(a3:Int)(a2:Int)(a4:List Int)(a5:List Ac)(r:Ka)(h:B5 aL a0 a3 a2 a4 a5=some r):Spec Tryz.prog 71 [(.ptr 30000 0),(.int .i64 aL)] [(30000,.row 99 [(.ptr 30001 0),(.omap 9100001),(.vsl 35002 a0.length),(.int .i64 a3),(.int .i64 a2)]),(30001,.row 93 [(.vsl 35100 a4.length),(AV.list 3 Ao default a5 (.own 37101))]),(37101,.tok 3 49 a5.length),(35002,.arr 1 26 a0.length (fun i=>Au (a0.getD i []))),(35100,.arr 1 5 a4.length (fun i=>Dk (a4.getD i 0))),(9100001,.obj (.tab .i64 Hp))] (.agg (eTRun r)) [(30000,.row 99 [(.ptr 30001 0),(.omap 9100001),(.vsl 35002 a0.length),(.int .i64 a3),(.int .i64 a2)]),(30001,.row 93 [(.vsl 35100 a4.length),(AV.list 3 Ao default a5 (.own 37101))]),(37101,.tok 3 49 a5.length),(35002,.arr 1 26 a0.length (fun i=>Au (a0.getD i []))),(35100,.arr 1 5 a4.length (fun i=>Dk (a4.getD i 0))),(9100001,.obj (.tab .i64 Hp))]:=by
 refine Ab mix Tryz.func71 (fun Γ hq=>?_);unfold B5 at h;refine Ae hq [0,1,4] [4,30000,30001,35002,35100,37101,9100001] ?_;refine Ae hq [4] [4,30000,30001,35002,35100,37101,9100001] ?_;cases h;exact Bg [(30000,30000),(30001,30001),(37101,37101),(35002,35002),(35100,35100),(9100001,9100001)]
def Q148(a0:List (List Int))(a3:Int)(a2:Int)(a4:List Int)(a5:List Ac):List (Nat×Own):=(Z1 a0 a3 a2 a4 a5 a5.length)
def D8(aL:Hj)(a0:List (List Int))(a3:Int)(a2:Int)(a4:List Int)(a5:List Ac):Option Int:=
 (bif (aL.Kind==2) then((Cj aL.Arg a0 a3 a2 a4 a5).bind fun x2=>(bif (!x2) then(Aw (A5 (1:Int) aL.To.length) (some (aL.To.getD (1:Int).toNat (0:Int)))) else(Aw (A5 (0:Int) aL.To.length) (some (aL.To.getD (0:Int).toNat (0:Int)))))) else(Aw (A5 (0:Int) aL.To.length) (some (aL.To.getD (0:Int).toNat (0:Int)))))
theorem J9(aL:Hj)(a0:List (List Int))(a3:Int)(a2:Int)(a4:List Int)(a5:List Ac)(r:Int)(h:D8 aL a0 a3 a2 a4 a5=some r):Spec Tryz.prog 74 [(.ptr 30000 0),(.agg (eTEnd aL))] [(30000,.row 99 [(.ptr 30001 0),(.omap 9100001),(.vsl 35002 a0.length),(.int .i64 a3),(.int .i64 a2)]),(30001,.row 93 [(.vsl 35100 a4.length),(AV.list 3 Ao default a5 (.own 37101))]),(37101,.tok 3 49 a5.length),(35002,.arr 1 26 a0.length (fun i=>Au (a0.getD i []))),(35100,.arr 1 5 a4.length (fun i=>Dk (a4.getD i 0))),(9100001,.obj (.tab .i64 Hp))] (.int .i64 r) [(30000,.row 99 [(.ptr 30001 0),(.omap 9100001),(.vsl 35002 a0.length),(.int .i64 a3),(.int .i64 a2)]),(30001,.row 93 [(.vsl 35100 a4.length),(AV.list 3 Ao default a5 (.own 37101))]),(37101,.tok 3 49 a5.length),(35002,.arr 1 26 a0.length (fun i=>Au (a0.getD i []))),(35100,.arr 1 5 a4.length (fun i=>Dk (a4.getD i 0))),(9100001,.obj (.tab .i64 Hp))]:=by
 refine Ab mix Tryz.func74 (fun Γ hq=>?_);unfold D8 at h;refine Ae hq [0,3] [3,30000,30001,35002,35100,37101,9100001] ?_;refine gB h (fun hs1 h=>?_) (fun hs1 h=>?_)
 ·obtain⟨x2,hx2,h⟩:=bind_some h;refine gR hq [3,14] [3,30000,30001,35002,35100,37101,9100001] [(8,(.bool true))] [⟨[(30000,30000),(30001,30001),(37101,37101),(35002,35002),(35100,35100),(9100001,9100001)],[],(.bool x2),(Q148 a0 a3 a2 a4 a5),[],[30000,30001,37101,35002,35100,9100001]⟩] (ci (show(AVle (.bool (aL.Kind==2)) (.bool true)) from(av_dec hs1)) (ci (show((true==true)=true→(true==true)=true) from(fun _=>rfl)) (ci (show((true==true)=true→(true==true)=true) from(fun _=>rfl)) (ci (show((true==true)=true→(true==true)=true) from(fun _=>rfl)) (ci (show((true==true)=true→(Spec Tryz.prog 86 [(.ptr 30000 0),(Be aL.Arg)] (Q148 a0 a3 a2 a4 a5) (.bool x2) (Q148 a0 a3 a2 a4 a5))) from(fun _=>(Dh aL.Arg a0 a3 a2 a4 a5 x2 hx2))) (ci (show((true==true)=true→(some (.row 99 (Z4 a0.length a3 a2):Own)=some (.row 99 (Z4 a0.length a3 a2):Own))) from(fun _=>@(rk (.row 99 (Z4 a0.length a3 a2))))) (ci (show((true==true)=true→(some (.row 93 (Z6 35100 a4.length a5 37101):Own)=some (.row 93 (Z6 35100 a4.length a5 37101):Own))) from(fun _=>@(rk (.row 93 (Z6 35100 a4.length a5 37101))))) (ci (show((true==true)=true→(some (.tok 3 49 a5.length:Own)=some (.tok 3 49 a5.length:Own))) from(fun _=>@(rk (.tok 3 49 a5.length)))) (ci (show((true==true)=true→(some (.arr 1 26 a0.length (fun i=>Au (a0.getD i [])):Own)=some (.arr 1 26 a0.length (fun i=>Au (a0.getD i [])):Own))) from(fun _=>@(rk (.arr 1 26 a0.length (fun i=>Au (a0.getD i [])))))) (ci (show((true==true)=true→(some (.arr 1 5 a4.length (fun i=>Dk (a4.getD i 0)):Own)=some (.arr 1 5 a4.length (fun i=>Dk (a4.getD i 0)):Own))) from(fun _=>@(rk (.arr 1 5 a4.length (fun i=>Dk (a4.getD i 0)))))) (ci (show((true==true)=true→(some (.obj (.tab .i64 Hp):Own)=some (.obj (.tab .i64 Hp):Own))) from(fun _=>@(rk (.obj (.tab .i64 Hp))))) (ci (show((true==true)=true→(true==true)=true) from(fun _=>rfl)) (c1 (show(true=true→(true==true)=true) from(fun _=>rfl))))))))))))))) ?_;refine gC h (fun h=>?_) (fun h=>?_)
  ·obtain⟨hc3,h⟩:=Aa h;refine gR hq [4] [30000,30001,35002,35100,37101,9100001] [] [] (c1 hc3) ?_;cases h;exact Bg [(30000,30000),(30001,30001),(37101,37101),(35002,35002),(35100,35100),(9100001,9100001)]
  ·obtain⟨hc4,h⟩:=Aa h;refine gR hq [4] [30000,30001,35002,35100,37101,9100001] [] [] (c1 hc4) ?_;cases h;exact Bg [(30000,30000),(30001,30001),(37101,37101),(35002,35002),(35100,35100),(9100001,9100001)]
 ·refine gR hq [3,14] [3,30000,30001,35002,35100,37101,9100001] [(8,(.bool false))] [⟨[],[],(.bool false),[],[],[]⟩] (ci (show(AVle (.bool (aL.Kind==2)) (.bool false)) from(av_dec hs1)) (ci (show((false==true)=true→(false==true)=true) from gNo) (ci (show((false==true)=true→(false==true)=true) from gNo) (ci (show((false==true)=true→(false==true)=true) from gNo) (ci (show((false==true)=true→(Spec Tryz.prog 86 [.any,(Be aL.Arg)] [] (.bool false) [])) from gNo) (ci (show((false==true)=true→(false==true)=true) from gNo) (c1 (show(false=true→(false==true)=true) from gNo)))))))) ?_;refine Td false ?_;obtain⟨hc5,h⟩:=Aa h;refine gR hq [4] [30000,30001,35002,35100,37101,9100001] [] [] (c1 hc5) ?_;cases h;exact Bg [(30000,30000),(30001,30001),(37101,37101),(35002,35002),(35100,35100),(9100001,9100001)]
def Ic(aP:List G6)(aT:Int)(a0:List (List Int)):(Int×List (List Int))→Option (LR (Int×List (List Int)) (List (List Int))):=
 fun((i2,l3):(Int×List (List Int)))=>(bif (decide (i2<(aP.length:Int))) then(Aw (A5 i2 aP.length) ((Dy ((aP.getD i2.toNat default).From) aT).bind fun x6=>(Aw (A5 x6 ((aP.getD i2.toNat default).Args).length) (Aw (A5 (((aP.getD i2.toNat default).Args).getD x6.toNat 0) a0.length) (Aw (A5 i2 l3.length) (some (.next ((Ar (i2+1)),(l3.set i2.toNat (a0.getD (((aP.getD i2.toNat default).Args).getD x6.toNat 0).toNat [])))))))))) else(some (.done l3)))
def Id(aP:List G6)(l4:List (List Int)):(Int×List (List Int))→Option (LR (Int×List (List Int)) (List (List Int))):=
 fun((i12,l13):(Int×List (List Int)))=>(bif (decide (i12<(aP.length:Int))) then(Aw (A5 i12 aP.length) (Aw (A5 i12 l4.length) (Aw (A5 (aP.getD i12.toNat default).Dst l13.length) (some (.next ((Ar (i12+1)),(l13.set ((aP.getD i12.toNat default).Dst).toNat (l4.getD i12.toNat [])))))))) else(some (.done l13)))
def Q150:=(fun n_=>Bn n_ [13,30000,30001,35002,35100,37101,9100001])
def Q149(a0:List (List Int))(aP:List G6)(i2:Int)(x6:Int):=(a0.getD (((aP.getD i2.toNat default).Args).getD x6.toNat 0).toNat [])
def Ds(aP:List G6)(aT:Int)(a0:List (List Int))(a3:Int)(a2:Int)(a4:List Int)(a5:List Ac):Option (Int×Int×List Ac×List (List Int)×List Int):=
 (Aw (0≤(aP.length:Int)∧(aP.length:Int)≤(aP.length:Int)∧(aP.length:Int)≤(room:Int)) ((Az (Ic aP aT a0) ((0:Int),(List.replicate (aP.length:Int).toNat ([]:List Int)))).bind (fun x10=>((Az (Id aP x10) ((0:Int),a0)).bind (fun x18=>(some (a3,a2,a5,x18,a4)))))))
theorem Jn(aP:List G6)(aT:Int)(a0:List (List Int))(a3:Int)(a2:Int)(a4:List Int)(a5:List Ac)(r:(Int×Int×List Ac×List (List Int)×List Int))(h:Ds aP aT a0 a3 a2 a4 a5=some r):Spec Tryz.prog 75 [(.ptr 30000 0),(AV.list 4 Rl default aP .none),(.int .i64 aT)] [(30000,.row 99 [(.ptr 30001 0),(.omap 9100001),(.vsl 35002 a0.length),(.int .i64 a3),(.int .i64 a2)]),(30001,.row 93 [(.vsl 35100 a4.length),(AV.list 3 Ao default a5 (.own 37101))]),(37101,.tok 3 49 a5.length),(35002,.arr 1 26 a0.length (fun i=>Au (a0.getD i []))),(35100,.arr 1 5 a4.length (fun i=>Dk (a4.getD i 0))),(9100001,.obj (.tab .i64 Hp))] (.tuple []) [(30000,.row 99 [(.ptr 30001 0),(.omap 9100001),(.vsl 35002 r.2.2.2.1.length),(.int .i64 r.1),(.int .i64 r.2.1)]),(30001,.row 93 [(.vsl 35100 r.2.2.2.2.length),(AV.list 3 Ao default r.2.2.1 (.own 37101))]),(37101,.tok 3 49 r.2.2.1.length),(35002,.arr 1 26 r.2.2.2.1.length (fun i=>Au (r.2.2.2.1.getD i []))),(35100,.arr 1 5 r.2.2.2.2.length (fun i=>Dk (r.2.2.2.2.getD i 0))),(9100001,.obj (.tab .i64 Hp))]:=by
 refine Ab mix Tryz.func75 (fun Γ hq=>?_);unfold Ds at h;obtain⟨hc1,h⟩:=Aa h;refine gR hq [0,1,2,6] [13,30000,30001,35002,35100,37101,9100001] [] [] (c1 hc1) ?_;refine Ir (Le.trans (Ll 13 (show ∀ k_,k_<((aP.length:Int).toNat)→AVleL ((fun i_=>AV.eraseAll Q150 ((fun _=>[Z26]) i_)) k_) ((fun i=>Au ((List.replicate (aP.length:Int).toNat ([]:List Int)).getD i [])) k_) from(fun k hk=>Ik (e:=Au) (d:=[]) (.cons (fun _ _ _ _ _ hh=>AVle.untag _ _ _ _ _ (Ff _ _ _ _ _ hh)) .nil) _ k (Im hk)))) (Lm (fun(k_:Nat) u=>(C4 u [(6,(.vsl 13 k_))] [(13,.arr 1 26 k_ (fun i=>Au ((List.replicate (aP.length:Int).toNat ([]:List Int)).getD i [])))])) (show(aP.length:Int).toNat=(List.replicate (aP.length:Int).toNat ([]:List Int)).length from(List.length_replicate ..).symm))) ?_;refine Ae hq [0,1,2,6,14,15,16] [13,30000,30001,35002,35100,37101,9100001] ?_;obtain⟨x10,hx10,h⟩:=bind_some h;refine gL hq hx10 [0,1,2,6,14,15,16] [13,30000,30001,35002,35100,37101,9100001] (fun u (i2,l3)=>(C4 u [(6,(.vsl 13 l3.length)),(Iw 16 i2)] [(W6 13 l3)])) (fun u l4=>aG Γ (.exit 0) (Ri [0,1,6] [13,30000,30001,35002,35100,37101,9100001] u [(6,(.vsl 13 l4.length))] [(W6 13 l4)])) ?_ ?_
 ·rintro⟨i2,l3⟩ y h;unfold Ic at h;refine Ae hq [0,1,2,6,14,15,16,17] [13,30000,30001,35002,35100,37101,9100001] ?_;refine gC h (fun h=>?_) (fun h=>?_)
  ·obtain⟨hc5,h⟩:=Aa h;refine gR hq [0,1,2,6,7,8,14,15,16] [8,13,30000,30001,35002,35100,37101,9100001] [] [] (c1 hc5) ?_;obtain⟨x6,hx6,h⟩:=bind_some h;obtain⟨hc7,h⟩:=Aa h;obtain⟨hc8,h⟩:=Aa h;obtain⟨hc9,h⟩:=Aa h;refine gR hq [0,1,2,6,14,15,16] [13,30000,30001,35002,35100,37101,9100001] [] [⟨[],[],(Be x6),[],[],[]⟩] (ci (H0 ((aP.getD i2.toNat default).From) aT x6 hx6) (ci hc7 (ci hc8 (ci (Eq.refl a0.length) (ci hc9 (c1 (Eq.refl l3.length))))))) ?_;refine Ir (Le.trans (Ll 13 (show ∀ k_,k_<l3.length→AVleL ((fun i_=>AV.eraseAll Q150 ((F3 (fun i=>Au (l3.getD i [])) i2.toNat 0 [(Z50 (Q149 a0 aP i2 x6))]) i_)) k_) ((fun i=>Au ((l3.set i2.toNat (Q149 a0 aP i2 x6)).getD i [])) k_) from(A6 (List.length_set ..).symm (fun k_ hk_=>(congrArg (AV.eraseAll Q150) ((Ea (fun _ _=>rfl) (Em hc9) rfl) k_ hk_)).trans rfl)))) (Lm (fun(k_:Nat) u=>(C4 u [(6,(.vsl 13 k_))] [(13,.arr 1 26 k_ (fun i=>Au ((l3.set i2.toNat (Q149 a0 aP i2 x6)).getD i [])))])) (show l3.length=(l3.set i2.toNat (Q149 a0 aP i2 x6)).length from(List.length_set ..).symm))) ?_;refine Ae hq [0,1,2,6,14,15,16] [13,30000,30001,35002,35100,37101,9100001] ?_;cases h;exact gN Cy
  ·cases h;exact gO (Bx (B6 [0,1,6] [13,30000,30001,35002,35100,37101,9100001] hq))
 ·clear hx10;refine gA ?_;refine Ae hq [0,6,39,40,41] [13,30000,30001,35002,35100,37101,9100001] ?_;obtain⟨x18,hx18,h⟩:=bind_some h;refine gL hq hx18 [0,6,39,40,41] [13,30000,30001,35002,35100,37101,9100001] (fun u (i12,l13)=>(C4 u [(Iw 41 i12)] [(Xy l13.length a3 a2),(W6 35002 l13)])) (fun u l14=>aG Γ (.exit 2) (Ri [] [30000,30001,35002,35100,37101,9100001] u [] [(Xy l14.length a3 a2),(W6 35002 l14)])) ?_ ?_
  ·rintro⟨i12,l13⟩ y h;unfold Id at h;refine Ae hq [0,6,39,40,41,42] [13,30000,30001,35002,35100,37101,9100001] ?_;refine gC h (fun h=>?_) (fun h=>?_)
   ·obtain⟨hc15,h⟩:=Aa h;refine gR hq [0,6,9,10,39,40,41] [10,13,30000,30001,35002,35100,37101,9100001] [] [] (c1 hc15) ?_;obtain⟨hc16,h⟩:=Aa h;obtain⟨hc17,h⟩:=Aa h;refine gR hq [0,6,39,40,41] [13,30000,30001,35002,35100,37101,9100001] [] [] (ci hc16 (ci (Eq.refl x10.length) (ci hc17 (c1 (Eq.refl l13.length))))) ?_;refine Ir (Le.trans (Ll 35002 (show ∀ k_,k_<l13.length→AVleL ((fun i_=>AV.eraseAll Q150 ((F3 (fun i=>Au (l13.getD i [])) ((aP.getD i12.toNat default).Dst).toNat 0 [(AV.list 1 Bh 0 (x10.getD i12.toNat []) .none)]) i_)) k_) ((fun i=>Au ((l13.set ((aP.getD i12.toNat default).Dst).toNat (x10.getD i12.toNat [])).getD i [])) k_) from(A6 (List.length_set ..).symm (fun k_ hk_=>(congrArg (AV.eraseAll Q150) ((Ea (fun _ _=>rfl) (Em hc17) rfl) k_ hk_)).trans rfl)))) (Lm (fun(k_:Nat) u=>(C4 u [] [(Xy k_ a3 a2),(35002,.arr 1 26 k_ (fun i=>Au ((l13.set ((aP.getD i12.toNat default).Dst).toNat (x10.getD i12.toNat [])).getD i [])))])) (show l13.length=(l13.set ((aP.getD i12.toNat default).Dst).toNat (x10.getD i12.toNat [])).length from(List.length_set ..).symm))) ?_;refine Ae hq [0,6,39,40,41] [13,30000,30001,35002,35100,37101,9100001] ?_;cases h;exact gN Cy
   ·cases h;exact gO (Bx (B6 [] [30000,30001,35002,35100,37101,9100001] hq))
  ·clear hx18;refine gA' (fun st' hl19=>?_);cases h;exact gK (e:=.normal) (F5 [(30000,30000),(30001,30001),(37101,37101),(35002,35002),(35100,35100),(9100001,9100001)] hl19)
def Bf(aS:List Aj):(Int×Int×Int×List Ac×List (List Int)×List Int)→Option (LR (Int×Int×Int×List Ac×List (List Int)×List Int) (Ka×Int×Int×List Ac×List (List Int)×List Int)):=
 fun(s_:(Int×Int×Int×List Ac×List (List Int)×List Int))=>match s_ with|(i1,i2,i3,l4,l5,l6)=>(Aw (A5 i1 aS.length) (Aw (A5 i1 aS.length) ((Cr ((aS.getD i1.toNat default).Ops) l5 i2 i3 l6 l4).bind fun x26=>(Aw (l5.length=x26.2.2.2.2.1.length) (Aw (l6.length=x26.2.2.2.2.2.length) (bif (x26.1 !=0) then((B5 x26.1 x26.2.2.2.2.1 x26.2.1 x26.2.2.1 x26.2.2.2.2.2 x26.2.2.2.1).bind fun x29=>(some (.done (x29,x26.2.1,x26.2.2.1,x26.2.2.2.1,x26.2.2.2.2.1,x26.2.2.2.2.2)))) else((Ck x26.2.2.2.2.1 x26.2.1 x26.2.2.1 x26.2.2.2.2.2 x26.2.2.2.1).bind fun x30=>(Aw (x26.2.2.2.2.1.length=x30.2.2.2.2.1.length) (Aw (x26.2.2.2.2.2.length=x30.2.2.2.2.2.length) (bif (!x30.1) then((B5 (9:Int) x30.2.2.2.2.1 x30.2.1 x30.2.2.1 x30.2.2.2.2.2 x30.2.2.2.1).bind fun x33=>(some (.done (x33,x30.2.1,x30.2.2.1,x30.2.2.2.1,x30.2.2.2.2.1,x30.2.2.2.2.2)))) else(bif (((aS.getD i1.toNat default).End.Kind:Int)==0) then((A0 ((aS.getD i1.toNat default).End.Arg) x30.2.2.2.2.1 x30.2.1 x30.2.2.1 x30.2.2.2.2.2 x30.2.2.2.1).bind fun x34=>(some (.done ((⟨(0:Int),x34,x30.2.2.1⟩:Ka),x30.2.1,x30.2.2.1,x30.2.2.2.1,x30.2.2.2.2.1,x30.2.2.2.2.2)))) else(bif (((aS.getD i1.toNat default).End.Kind:Int)==3) then((B5 (8:Int) x30.2.2.2.2.1 x30.2.1 x30.2.2.1 x30.2.2.2.2.2 x30.2.2.2.1).bind fun x35=>(some (.done (x35,x30.2.1,x30.2.2.1,x30.2.2.2.1,x30.2.2.2.2.1,x30.2.2.2.2.2)))) else((D8 (⟨(aS.getD i1.toNat default).End.Kind,(aS.getD i1.toNat default).End.Arg,(aS.getD i1.toNat default).End.To⟩:Hj) x30.2.2.2.2.1 x30.2.1 x30.2.2.1 x30.2.2.2.2.2 x30.2.2.2.1).bind fun x36=>(Aw (A5 x36 aS.length) ((Ds ((aS.getD x36.toNat default).Phis) i1 x30.2.2.2.2.1 x30.2.1 x30.2.2.1 x30.2.2.2.2.2 x30.2.2.2.1).bind fun x38=>(Aw (x30.2.2.2.2.1.length=x38.2.2.2.1.length) (Aw (x30.2.2.2.2.2.length=x38.2.2.2.2.length) (some (.next (x36,x38.1,x38.2.1,x38.2.2.1,x38.2.2.2.1,x38.2.2.2.2))))))))))))))))))))
def R5(Γ:Er)(aS:List Aj)(a0:List (List Int))(a3:Int)(a2:Int)(a4:List Int)(a5:List Ac)(r:(Ka×Int×Int×List Ac×List (List Int)×List Int)):Exit→St→Prop:=fK Tryz.prog Γ Tryz.f36.results.toList (Z1 a0 a3 a2 a4 a5 a5.length) (Z65 r.1) (Z1 r.2.2.2.2.1 r.2.1 r.2.2.1 r.2.2.2.2.2 r.2.2.2.1 r.2.2.2.1.length)
def W5:Own:=(.obj (.tab .i64 Hp))
def Q163(aS:List Aj):=(aS.getD (0:Int).toNat (default:Aj))
def Q161(x13:(Bool×Int×Int×List Ac×List (List Int)×List Int)):Own:=(.arr 1 26 x13.2.2.2.2.1.length (fun i=>Au (x13.2.2.2.2.1.getD i [])))
def Q162(x30:(Bool×Int×Int×List Ac×List (List Int)×List Int)):Own:=(.arr 1 26 x30.2.2.2.2.1.length (fun i=>Au (x30.2.2.2.2.1.getD i [])))
def Q159(x13:(Bool×Int×Int×List Ac×List (List Int)×List Int)):Own:=(.arr 1 5 x13.2.2.2.2.2.length (fun i=>Dk (x13.2.2.2.2.2.getD i 0)))
def Q160(x30:(Bool×Int×Int×List Ac×List (List Int)×List Int)):Own:=(.arr 1 5 x30.2.2.2.2.2.length (fun i=>Dk (x30.2.2.2.2.2.getD i 0)))
def Q157(x13:(Bool×Int×Int×List Ac×List (List Int)×List Int)):Own:=(.row 93 (Z6 35100 x13.2.2.2.2.2.length x13.2.2.2.1 37101))
def Q158(x30:(Bool×Int×Int×List Ac×List (List Int)×List Int)):Own:=(.row 93 (Z6 35100 x30.2.2.2.2.2.length x30.2.2.2.1 37101))
def Q155(x13:(Bool×Int×Int×List Ac×List (List Int)×List Int)):Own:=(.row 99 (Z4 x13.2.2.2.2.1.length x13.2.1 x13.2.2.1))
def Q156(x30:(Bool×Int×Int×List Ac×List (List Int)×List Int)):Own:=(.row 99 (Z4 x30.2.2.2.2.1.length x30.2.1 x30.2.2.1))
def Q154(x9:(Int×Int×Int×List Ac×List (List Int)×List Int)):List (Nat×Own):=(Z1 x9.2.2.2.2.1 x9.2.1 x9.2.2.1 x9.2.2.2.2.2 x9.2.2.2.1 x9.2.2.2.1.length)
def Q151(x13:(Bool×Int×Int×List Ac×List (List Int)×List Int)):List (Nat×Own):=(Z1 x13.2.2.2.2.1 x13.2.1 x13.2.2.1 x13.2.2.2.2.2 x13.2.2.2.1 x13.2.2.2.1.length)
def Q152(x30:(Bool×Int×Int×List Ac×List (List Int)×List Int)):List (Nat×Own):=(Z1 x30.2.2.2.2.1 x30.2.1 x30.2.2.1 x30.2.2.2.2.2 x30.2.2.2.1 x30.2.2.2.1.length)
def Q153(x26:(Int×Int×Int×List Ac×List (List Int)×List Int)):List (Nat×Own):=(Z1 x26.2.2.2.2.1 x26.2.1 x26.2.2.1 x26.2.2.2.2.2 x26.2.2.2.1 x26.2.2.2.1.length)
def D7(aS:List Aj)(a0:List (List Int))(a3:Int)(a2:Int)(a4:List Int)(a5:List Ac):Option (Ka×Int×Int×List Ac×List (List Int)×List Int):=
 ((Li (S:=(Int×Int×Int×List Ac×List (List Int)×List Int)) (X:=(Ka×Int×Int×List Ac×List (List Int)×List Int)) (Aw (A5 (0:Int) aS.length) (Aw (A5 (0:Int) aS.length) ((Cr ((aS.getD (0:Int).toNat (default:Aj)).Ops) a0 a3 a2 a4 a5).bind fun x9=>(Aw (a0.length=x9.2.2.2.2.1.length) (Aw (a4.length=x9.2.2.2.2.2.length) (bif (x9.1 !=0) then((B5 x9.1 x9.2.2.2.2.1 x9.2.1 x9.2.2.1 x9.2.2.2.2.2 x9.2.2.2.1).bind fun x12=>(some (.done (x12,x9.2.1,x9.2.2.1,x9.2.2.2.1,x9.2.2.2.2.1,x9.2.2.2.2.2)))) else((Ck x9.2.2.2.2.1 x9.2.1 x9.2.2.1 x9.2.2.2.2.2 x9.2.2.2.1).bind fun x13=>(Aw (x9.2.2.2.2.1.length=x13.2.2.2.2.1.length) (Aw (x9.2.2.2.2.2.length=x13.2.2.2.2.2.length) (bif (!x13.1) then((B5 (9:Int) x13.2.2.2.2.1 x13.2.1 x13.2.2.1 x13.2.2.2.2.2 x13.2.2.2.1).bind fun x16=>(some (.done (x16,x13.2.1,x13.2.2.1,x13.2.2.2.1,x13.2.2.2.2.1,x13.2.2.2.2.2)))) else(bif (((aS.getD (0:Int).toNat (default:Aj)).End.Kind:Int)==0) then((A0 ((aS.getD (0:Int).toNat (default:Aj)).End.Arg) x13.2.2.2.2.1 x13.2.1 x13.2.2.1 x13.2.2.2.2.2 x13.2.2.2.1).bind fun x17=>(some (.done ((⟨(0:Int),x17,x13.2.2.1⟩:Ka),x13.2.1,x13.2.2.1,x13.2.2.2.1,x13.2.2.2.2.1,x13.2.2.2.2.2)))) else(bif (((aS.getD (0:Int).toNat (default:Aj)).End.Kind:Int)==3) then((B5 (8:Int) x13.2.2.2.2.1 x13.2.1 x13.2.2.1 x13.2.2.2.2.2 x13.2.2.2.1).bind fun x18=>(some (.done (x18,x13.2.1,x13.2.2.1,x13.2.2.2.1,x13.2.2.2.2.1,x13.2.2.2.2.2)))) else((D8 (⟨(aS.getD (0:Int).toNat (default:Aj)).End.Kind,(aS.getD (0:Int).toNat (default:Aj)).End.Arg,(aS.getD (0:Int).toNat (default:Aj)).End.To⟩:Hj) x13.2.2.2.2.1 x13.2.1 x13.2.2.1 x13.2.2.2.2.2 x13.2.2.2.1).bind fun x19=>(Aw (A5 x19 aS.length) ((Ds ((aS.getD x19.toNat default).Phis) (0:Int) x13.2.2.2.2.1 x13.2.1 x13.2.2.1 x13.2.2.2.2.2 x13.2.2.2.1).bind fun x21=>(Aw (x13.2.2.2.2.1.length=x21.2.2.2.1.length) (Aw (x13.2.2.2.2.2.length=x21.2.2.2.2.length) (some (.next (x19,x21.1,x21.2.1,x21.2.2.1,x21.2.2.2.1,x21.2.2.2.2)))))))))))))))))))) (Bf aS)).bind (fun x41=>(some x41)))
theorem Rf(aS:List Aj)(a0:List (List Int))(a3:Int)(a2:Int)(a4:List Int)(a5:List Ac)(r:(Ka×Int×Int×List Ac×List (List Int)×List Int))(h:D7 aS a0 a3 a2 a4 a5=some r):Spec Tryz.prog 36 [(.ptr 30000 0),(AV.list 5 Ax default aS .none)] [(30000,.row 99 [(.ptr 30001 0),(.omap 9100001),(.vsl 35002 a0.length),(.int .i64 a3),(.int .i64 a2)]),(30001,.row 93 [(.vsl 35100 a4.length),(AV.list 3 Ao default a5 (.own 37101))]),(37101,.tok 3 49 a5.length),(35002,.arr 1 26 a0.length (fun i=>Au (a0.getD i []))),(35100,.arr 1 5 a4.length (fun i=>Dk (a4.getD i 0))),(9100001,.obj (.tab .i64 Hp))] (.agg (eTRun r.1)) [(30000,.row 99 [(.ptr 30001 0),(.omap 9100001),(.vsl 35002 r.2.2.2.2.1.length),(.int .i64 r.2.1),(.int .i64 r.2.2.1)]),(30001,.row 93 [(.vsl 35100 r.2.2.2.2.2.length),(AV.list 3 Ao default r.2.2.2.1 (.own 37101))]),(37101,.tok 3 49 r.2.2.2.1.length),(35002,.arr 1 26 r.2.2.2.2.1.length (fun i=>Au (r.2.2.2.2.1.getD i []))),(35100,.arr 1 5 r.2.2.2.2.2.length (fun i=>Dk (r.2.2.2.2.2.getD i 0))),(9100001,.obj (.tab .i64 Hp))]:=by
 refine Ab mix Tryz.func36 (fun Γ hq=>?_);unfold D7 at h;refine Ae hq [0,1,4] [4,30000,30001,35002,35100,37101,9100001] ?_;obtain⟨x41,hx41,h⟩:=bind_some h;refine gS hx41 (fun(s_:(Int×Int×Int×List Ac×List (List Int)×List Int))=>match s_ with|(i1,i2,i3,l4,l5,l6)=>0) (fun(s_:(Int×Int×Int×List Ac×List (List Int)×List Int))=>match s_ with|(i1,i2,i3,l4,l5,l6)=>(⟨[(0,(.ptr 30000 0)),(1,(Z30 aS)),(4,(.ptr 4 0)),(5,(Be i1))],[(4,.row 39 [Jr,(.int .u64 (0:Int)),Jr]),(Xy l5.length i2 i3),(Z57 30001 35100 l6.length l4 37101),(W6 35002 l5),(Z8 35100 l6),(W8 37101 l4.length),(Z48 9100001)],[]⟩:St)) (fun r_=>aR (R5 Γ aS a0 a3 a2 a4 a5 r_)) ?_ ?_ ?_
 ·clear h hx41;intro y h;refine Ae hq [0,1,4,5] [4,30000,30001,35002,35100,37101,9100001] ?_;obtain⟨hc7,h⟩:=Aa h;refine gR hq [0,1,4,5,6] [4,6,30000,30001,35002,35100,37101,9100001] [] [] (c1 hc7) ?_;obtain⟨hc8,h⟩:=Aa h;obtain⟨x9,hx9,h⟩:=bind_some h;obtain⟨hc10,h⟩:=Aa h;obtain⟨hc11,h⟩:=Aa h;refine gR hq [0,1,4,5,6,7] [4,6,30000,30001,35002,35100,37101,9100001] [] [⟨[(30000,30000),(30001,30001),(37101,37101),(35002,35002),(35100,35100),(9100001,9100001)],[],(Be x9.1),(Q154 x9),[],[]⟩] (ci hc8 (c1 (Iu ((Q163 aS).Ops) a0 a3 a2 a4 a5 x9 hx9))) ?_;refine Ae hq [0,1,4,5,6,7,22] [4,6,30000,30001,35002,35100,37101,9100001] ?_;refine gC h (fun h=>?_) (fun h=>?_)
  ·obtain⟨x12,hx12,h⟩:=bind_some h;refine gR hq [4] [4,30000,30001,35002,35100,37101,9100001] [] [⟨[(30000,30000),(30001,30001),(37101,37101),(35002,35002),(35100,35100),(9100001,9100001)],[],(Z65 x12),(Q154 x9),[],[30000,30001,37101,35002,35100,9100001]⟩] (ci (Cs x9.1 x9.2.2.2.2.1 x9.2.1 x9.2.2.1 x9.2.2.2.2.2 x9.2.2.2.1 x12 hx12) (ci (rk (.row 99 (Z4 x9.2.2.2.2.1.length x9.2.1 x9.2.2.1))) (ci (rk (.row 93 (Z6 35100 x9.2.2.2.2.2.length x9.2.2.2.1 37101))) (ci (rk (.tok 3 49 x9.2.2.2.1.length)) (ci (rk (.arr 1 26 x9.2.2.2.2.1.length (fun i=>Au (x9.2.2.2.2.1.getD i [])))) (ci (rk (.arr 1 5 x9.2.2.2.2.2.length (fun i=>Dk (x9.2.2.2.2.2.getD i 0)))) (c1 (rk W5)))))))) ?_;cases h;exact W1 (Js (F5 [(30000,30000),(30001,30001),(37101,37101),(35002,35002),(35100,35100),(9100001,9100001)] (Le.refl _ _)))
  ·obtain⟨x13,hx13,h⟩:=bind_some h;obtain⟨hc14,h⟩:=Aa h;obtain⟨hc15,h⟩:=Aa h;refine gR hq [0,1,4,5,6,28] [4,6,30000,30001,35002,35100,37101,9100001] [] [⟨[(30000,30000),(30001,30001),(37101,37101),(35002,35002),(35100,35100),(9100001,9100001)],[],(.bool x13.1),(Q151 x13),[],[]⟩] (c1 (Gr x9.2.2.2.2.1 x9.2.1 x9.2.2.1 x9.2.2.2.2.2 x9.2.2.2.1 x13 hx13)) ?_;refine gC h (fun h=>?_) (fun h=>?_)
   ·obtain⟨x16,hx16,h⟩:=bind_some h;refine gR hq [4] [4,30000,30001,35002,35100,37101,9100001] [] [⟨[(30000,30000),(30001,30001),(37101,37101),(35002,35002),(35100,35100),(9100001,9100001)],[],(Z65 x16),(Q151 x13),[],[30000,30001,37101,35002,35100,9100001]⟩] (ci (Cs (9:Int) x13.2.2.2.2.1 x13.2.1 x13.2.2.1 x13.2.2.2.2.2 x13.2.2.2.1 x16 hx16) (ci (rk (Q155 x13)) (ci (rk (Q157 x13)) (ci (rk (.tok 3 49 x13.2.2.2.1.length)) (ci (rk (Q161 x13)) (ci (rk (Q159 x13)) (c1 (rk W5)))))))) ?_;cases h;exact W1 (Js (F5 [(30000,30000),(30001,30001),(37101,37101),(35002,35002),(35100,35100),(9100001,9100001)] (Le.refl _ _)))
   ·refine Ae hq [0,1,4,5,6,32] [4,6,30000,30001,35002,35100,37101,9100001] ?_;refine Ae hq [0,1,4,5,6,32,33] [4,6,30000,30001,35002,35100,37101,9100001] ?_;refine gC h (fun h=>?_) (fun h=>?_)
    ·obtain⟨x17,hx17,h⟩:=bind_some h;refine gR hq [4] [4,30000,30001,35002,35100,37101,9100001] [] [⟨[(30000,30000),(30001,30001),(37101,37101),(35002,35002),(35100,35100),(9100001,9100001)],[],(Fo x17),(Q151 x13),[],[30000,30001,37101,35002,35100,9100001]⟩] (ci (Bp ((Q163 aS).End.Arg) x13.2.2.2.2.1 x13.2.1 x13.2.2.1 x13.2.2.2.2.2 x13.2.2.2.1 x17 hx17) (ci (rk (Q155 x13)) (ci (rk (Q157 x13)) (ci (rk (.tok 3 49 x13.2.2.2.1.length)) (ci (rk (Q161 x13)) (ci (rk (Q159 x13)) (c1 (rk W5)))))))) ?_;cases h;exact W1 (Js (F5 [(30000,30000),(30001,30001),(37101,37101),(35002,35002),(35100,35100),(9100001,9100001)] (Le.refl _ _)))
    ·refine Ae hq [0,1,4,5,6,44] [4,6,30000,30001,35002,35100,37101,9100001] ?_;refine gC h (fun h=>?_) (fun h=>?_)
     ·obtain⟨x18,hx18,h⟩:=bind_some h;refine gR hq [4] [4,30000,30001,35002,35100,37101,9100001] [] [⟨[(30000,30000),(30001,30001),(37101,37101),(35002,35002),(35100,35100),(9100001,9100001)],[],(Z65 x18),(Q151 x13),[],[30000,30001,37101,35002,35100,9100001]⟩] (ci (Cs (8:Int) x13.2.2.2.2.1 x13.2.1 x13.2.2.1 x13.2.2.2.2.2 x13.2.2.2.1 x18 hx18) (ci (rk (Q155 x13)) (ci (rk (Q157 x13)) (ci (rk (.tok 3 49 x13.2.2.2.1.length)) (ci (rk (Q161 x13)) (ci (rk (Q159 x13)) (c1 (rk W5)))))))) ?_;cases h;exact W1 (Js (F5 [(30000,30000),(30001,30001),(37101,37101),(35002,35002),(35100,35100),(9100001,9100001)] (Le.refl _ _)))
     ·obtain⟨x19,hx19,h⟩:=bind_some h;refine gR hq [0,1,4,5,8] [4,30000,30001,35002,35100,37101,9100001] [] [⟨[(30000,30000),(30001,30001),(37101,37101),(35002,35002),(35100,35100),(9100001,9100001)],[],(Be x19),(Q151 x13),[],[30000,30001,37101,35002,35100,9100001]⟩] (ci (J9 (⟨(Q163 aS).End.Kind,(Q163 aS).End.Arg,(Q163 aS).End.To⟩:Hj) x13.2.2.2.2.1 x13.2.1 x13.2.2.1 x13.2.2.2.2.2 x13.2.2.2.1 x19 hx19) (ci (rk (Q155 x13)) (ci (rk (Q157 x13)) (ci (rk (.tok 3 49 x13.2.2.2.1.length)) (ci (rk (Q161 x13)) (ci (rk (Q159 x13)) (c1 (rk W5)))))))) ?_;obtain⟨hc20,h⟩:=Aa h;obtain⟨x21,hx21,h⟩:=bind_some h;obtain⟨hc22,h⟩:=Aa h;obtain⟨hc23,h⟩:=Aa h;refine gR hq [0,1,4,8] [4,30000,30001,35002,35100,37101,9100001] [] [⟨[(30000,30000),(30001,30001),(37101,37101),(35002,35002),(35100,35100),(9100001,9100001)],[],(.tuple []),(Z1 x21.2.2.2.1 x21.1 x21.2.1 x21.2.2.2.2 x21.2.2.1 x21.2.2.1.length),[],[]⟩] (ci hc20 (c1 (Jn ((aS.getD x19.toNat default).Phis) (0:Int) x13.2.2.2.2.1 x13.2.1 x13.2.2.1 x13.2.2.2.2.2 x13.2.2.2.1 x21 hx21))) ?_;refine Ae hq [0,1,4,5] [4,30000,30001,35002,35100,37101,9100001] ?_;cases h;exact gJn Cy
 ·clear h hx41;rintro⟨i1,i2,i3,l4,l5,l6⟩ y h;unfold Bf at h;obtain⟨hc24,h⟩:=Aa h;refine gR hq [0,1,4,5,6] [4,6,30000,30001,35002,35100,37101,9100001] [] [] (c1 hc24) ?_;obtain⟨hc25,h⟩:=Aa h;obtain⟨x26,hx26,h⟩:=bind_some h;obtain⟨hc27,h⟩:=Aa h;obtain⟨hc28,h⟩:=Aa h;refine gR hq [0,1,4,5,6,7] [4,6,30000,30001,35002,35100,37101,9100001] [] [⟨[(30000,30000),(30001,30001),(37101,37101),(35002,35002),(35100,35100),(9100001,9100001)],[],(Be x26.1),(Q153 x26),[],[]⟩] (ci hc25 (c1 (Iu ((aS.getD i1.toNat default).Ops) l5 i2 i3 l6 l4 x26 hx26))) ?_;refine Ae hq [0,1,4,5,6,7,22] [4,6,30000,30001,35002,35100,37101,9100001] ?_;refine gC h (fun h=>?_) (fun h=>?_)
  ·obtain⟨x29,hx29,h⟩:=bind_some h;refine gR hq [4] [4,30000,30001,35002,35100,37101,9100001] [] [⟨[(30000,30000),(30001,30001),(37101,37101),(35002,35002),(35100,35100),(9100001,9100001)],[],(Z65 x29),(Q153 x26),[],[30000,30001,37101,35002,35100,9100001]⟩] (ci (Cs x26.1 x26.2.2.2.2.1 x26.2.1 x26.2.2.1 x26.2.2.2.2.2 x26.2.2.2.1 x29 hx29) (ci (rk (.row 99 (Z4 x26.2.2.2.2.1.length x26.2.1 x26.2.2.1))) (ci (rk (.row 93 (Z6 35100 x26.2.2.2.2.2.length x26.2.2.2.1 37101))) (ci (rk (.tok 3 49 x26.2.2.2.1.length)) (ci (rk (.arr 1 26 x26.2.2.2.2.1.length (fun i=>Au (x26.2.2.2.2.1.getD i [])))) (ci (rk (.arr 1 5 x26.2.2.2.2.2.length (fun i=>Dk (x26.2.2.2.2.2.getD i 0)))) (c1 (rk W5)))))))) ?_;cases h;exact W1 (Js (F5 [(30000,30000),(30001,30001),(37101,37101),(35002,35002),(35100,35100),(9100001,9100001)] (Le.refl _ _)))
  ·obtain⟨x30,hx30,h⟩:=bind_some h;obtain⟨hc31,h⟩:=Aa h;obtain⟨hc32,h⟩:=Aa h;refine gR hq [0,1,4,5,6,28] [4,6,30000,30001,35002,35100,37101,9100001] [] [⟨[(30000,30000),(30001,30001),(37101,37101),(35002,35002),(35100,35100),(9100001,9100001)],[],(.bool x30.1),(Q152 x30),[],[]⟩] (c1 (Gr x26.2.2.2.2.1 x26.2.1 x26.2.2.1 x26.2.2.2.2.2 x26.2.2.2.1 x30 hx30)) ?_;refine gC h (fun h=>?_) (fun h=>?_)
   ·obtain⟨x33,hx33,h⟩:=bind_some h;refine gR hq [4] [4,30000,30001,35002,35100,37101,9100001] [] [⟨[(30000,30000),(30001,30001),(37101,37101),(35002,35002),(35100,35100),(9100001,9100001)],[],(Z65 x33),(Q152 x30),[],[30000,30001,37101,35002,35100,9100001]⟩] (ci (Cs (9:Int) x30.2.2.2.2.1 x30.2.1 x30.2.2.1 x30.2.2.2.2.2 x30.2.2.2.1 x33 hx33) (ci (rk (Q156 x30)) (ci (rk (Q158 x30)) (ci (rk (.tok 3 49 x30.2.2.2.1.length)) (ci (rk (Q162 x30)) (ci (rk (Q160 x30)) (c1 (rk W5)))))))) ?_;cases h;exact W1 (Js (F5 [(30000,30000),(30001,30001),(37101,37101),(35002,35002),(35100,35100),(9100001,9100001)] (Le.refl _ _)))
   ·refine Ae hq [0,1,4,5,6,32] [4,6,30000,30001,35002,35100,37101,9100001] ?_;refine Ae hq [0,1,4,5,6,32,33] [4,6,30000,30001,35002,35100,37101,9100001] ?_;refine gC h (fun h=>?_) (fun h=>?_)
    ·obtain⟨x34,hx34,h⟩:=bind_some h;refine gR hq [4] [4,30000,30001,35002,35100,37101,9100001] [] [⟨[(30000,30000),(30001,30001),(37101,37101),(35002,35002),(35100,35100),(9100001,9100001)],[],(Fo x34),(Q152 x30),[],[30000,30001,37101,35002,35100,9100001]⟩] (ci (Bp ((aS.getD i1.toNat default).End.Arg) x30.2.2.2.2.1 x30.2.1 x30.2.2.1 x30.2.2.2.2.2 x30.2.2.2.1 x34 hx34) (ci (rk (Q156 x30)) (ci (rk (Q158 x30)) (ci (rk (.tok 3 49 x30.2.2.2.1.length)) (ci (rk (Q162 x30)) (ci (rk (Q160 x30)) (c1 (rk W5)))))))) ?_;cases h;exact W1 (Js (F5 [(30000,30000),(30001,30001),(37101,37101),(35002,35002),(35100,35100),(9100001,9100001)] (Le.refl _ _)))
    ·refine Ae hq [0,1,4,5,6,44] [4,6,30000,30001,35002,35100,37101,9100001] ?_;refine gC h (fun h=>?_) (fun h=>?_)
     ·obtain⟨x35,hx35,h⟩:=bind_some h;refine gR hq [4] [4,30000,30001,35002,35100,37101,9100001] [] [⟨[(30000,30000),(30001,30001),(37101,37101),(35002,35002),(35100,35100),(9100001,9100001)],[],(Z65 x35),(Q152 x30),[],[30000,30001,37101,35002,35100,9100001]⟩] (ci (Cs (8:Int) x30.2.2.2.2.1 x30.2.1 x30.2.2.1 x30.2.2.2.2.2 x30.2.2.2.1 x35 hx35) (ci (rk (Q156 x30)) (ci (rk (Q158 x30)) (ci (rk (.tok 3 49 x30.2.2.2.1.length)) (ci (rk (Q162 x30)) (ci (rk (Q160 x30)) (c1 (rk W5)))))))) ?_;cases h;exact W1 (Js (F5 [(30000,30000),(30001,30001),(37101,37101),(35002,35002),(35100,35100),(9100001,9100001)] (Le.refl _ _)))
     ·obtain⟨x36,hx36,h⟩:=bind_some h;refine gR hq [0,1,4,5,8] [4,30000,30001,35002,35100,37101,9100001] [] [⟨[(30000,30000),(30001,30001),(37101,37101),(35002,35002),(35100,35100),(9100001,9100001)],[],(Be x36),(Q152 x30),[],[30000,30001,37101,35002,35100,9100001]⟩] (ci (J9 (⟨(aS.getD i1.toNat default).End.Kind,(aS.getD i1.toNat default).End.Arg,(aS.getD i1.toNat default).End.To⟩:Hj) x30.2.2.2.2.1 x30.2.1 x30.2.2.1 x30.2.2.2.2.2 x30.2.2.2.1 x36 hx36) (ci (rk (Q156 x30)) (ci (rk (Q158 x30)) (ci (rk (.tok 3 49 x30.2.2.2.1.length)) (ci (rk (Q162 x30)) (ci (rk (Q160 x30)) (c1 (rk W5)))))))) ?_;obtain⟨hc37,h⟩:=Aa h;obtain⟨x38,hx38,h⟩:=bind_some h;obtain⟨hc39,h⟩:=Aa h;obtain⟨hc40,h⟩:=Aa h;refine gR hq [0,1,4,8] [4,30000,30001,35002,35100,37101,9100001] [] [⟨[(30000,30000),(30001,30001),(37101,37101),(35002,35002),(35100,35100),(9100001,9100001)],[],(.tuple []),(Z1 x38.2.2.2.1 x38.1 x38.2.1 x38.2.2.2.2 x38.2.2.1 x38.2.2.1.length),[],[]⟩] (ci hc37 (c1 (Jn ((aS.getD x36.toNat default).Phis) i1 x30.2.2.2.2.1 x30.2.1 x30.2.2.1 x30.2.2.2.2.2 x30.2.2.2.1 x38 hx38))) ?_;refine Ae hq [0,1,4,5] [4,30000,30001,35002,35100,37101,9100001] ?_;cases h;exact gJn Cy
 ·clear hx41;refine Rb (fun st' hk=>?_);obtain rfl:=OI h;exact gK hk
def Q167(aX:Int):=((decide (aX<0))==false)
def Vm(x2:Int):=(List.replicate (Ar (x2+1)).toNat ([]:List Int))
def Q166(aX:Int)(aa3:List Int)(a9:Ag):=(bif (decide (aX<0)) then true else(((aa3.length:Int):Int)!=(a9.Params.length:Int)))
def Fi(a9:Ag)(aa3:List Int)(aX:Int)(a6:List Int)(a8:List Ac):Option (Ka×Int×List Ac×List Int):=
 ((bif ((bif (decide (aX<0)) then true else(((aa3.length:Int):Int)!=(a9.Params.length:Int)))==false) then Fy a9 (2:Int) else some (0:Int)).bind fun x1=>(bif (bif (bif (decide (aX<0)) then true else(((aa3.length:Int):Int)!=(a9.Params.length:Int))) then true else(x1 !=0)) then(some ((⟨(0:Int),(0:Int),(0:Int)⟩:Ka),(1:Int),a8,a6)) else((Gx a9).bind fun x2=>(Aw (0≤(Ar (x2+1))∧(Ar (x2+1))≤(Ar (x2+1))∧(Ar (x2+1))≤(room:Int)) ((Dl (List.replicate (Ar (x2+1)).toNat ([]:List Int)) aX (0:Int) a6 a8).bind fun x4=>((De a9 aa3 (List.replicate (Ar (x2+1)).toNat ([]:List Int)) aX (0:Int) a6 a8).bind fun x5=>(Aw ((List.replicate (Ar (x2+1)).toNat ([]:List Int)).length=x5.2.2.2.1.length) (Aw (a6.length=x5.2.2.2.2.length) ((D7 a9.Blocks x5.2.2.2.1 x5.1 x5.2.1 x5.2.2.2.2 x5.2.2.1).bind fun x8=>(Aw (x5.2.2.2.1.length=x8.2.2.2.2.1.length) (Aw (x5.2.2.2.2.length=x8.2.2.2.2.2.length) (some (x8.1,(0:Int),x8.2.2.2.1,x8.2.2.2.2.2)))))))))))))
theorem L3(a9:Ag)(aa3:List Int)(aX:Int)(a6:List Int)(a8:List Ac)(r:(Ka×Int×List Ac×List Int))(h:Fi a9 aa3 aX a6 a8=some r):Spec Tryz.prog 14 [(.agg (Sa a9)),(AV.list 1 Bh 0 aa3 .none),(.ptr 30000 0),(.int .i64 aX)] [(30000,.row 93 [(.vsl 35000 a6.length),(AV.list 3 Ao default a8 (.own 37001))]),(37001,.tok 3 49 a8.length),(35000,.arr 1 5 a6.length (fun i=>Dk (a6.getD i 0)))] (.tuple [(.agg (eTRun r.1)),(.int .i64 r.2.1)]) [(30000,.row 93 [(.vsl 35000 r.2.2.2.length),(AV.list 3 Ao default r.2.2.1 (.own 37001))]),(37001,.tok 3 49 r.2.2.1.length),(35000,.arr 1 5 r.2.2.2.length (fun i=>Dk (r.2.2.2.getD i 0)))]:=by
 refine Ab mix Tryz.func14 (fun Γ hq=>?_);unfold Fi at h;refine Ae hq [1,2,3,4,8] [4,8,30000,35000,37001] ?_;obtain⟨x1,hx1,h⟩:=bind_some h;refine gR hq [1,2,3,4,8,25] [4,8,30000,35000,37001] [] [⟨[],[],(Be x1),[],[],[]⟩] (ci (gI (Q167 aX)) (ci (gI (Q167 aX)) (ci (gI (Q167 aX)) (ci (gI (Q167 aX)) (ci (gI (Q167 aX)) (ci (M5 (decide (aX<0))) (ci (gI ((Q166 aX aa3 a9)==false)) (ci (fun(hg:((Q166 aX aa3 a9)==false)=true)=>(Wa a9 (2:Int) x1 (B9 hg hx1))) (ci (gI ((Q166 aX aa3 a9)==false)) (c1 (M5 (Q166 aX aa3 a9)))))))))))) ?_;refine gC h (fun h=>?_) (fun h=>?_)
 ·refine Ae hq [8,9] [8,30000,35000,37001] ?_;cases h;exact Bg [(30000,30000),(37001,37001),(35000,35000)]
 ·obtain⟨x2,hx2,h⟩:=bind_some h;obtain⟨hc3,h⟩:=Aa h;refine gR hq [1,4,8,10] [4,8,32,34,30000,35000,37001] [] [⟨[],[],(Be x2),[],[],[]⟩] (ci (Xj a9 x2 hx2) (c1 hc3)) ?_;refine Ir (Le.trans (Ll 32 (show ∀ k_,k_<((Ar (x2+1)).toNat)→AVleL ((fun i_=>AV.eraseAll (fun n_=>Bn n_ [4,8,32,34,30000,35000,37001]) ((fun _=>[Z26]) i_)) k_) ((fun i=>Au ((Vm x2).getD i [])) k_) from(fun k hk=>Ik (e:=Au) (d:=[]) (.cons (fun _ _ _ _ _ hh=>AVle.untag _ _ _ _ _ (Ff _ _ _ _ _ hh)) .nil) _ k (Im hk)))) (Lm (fun(k_:Nat) u=>(C4 u [] [(32,.arr 1 26 k_ (fun i=>Au ((Vm x2).getD i []))),(34,.row 99 [(.ptr 30000 0),.nilm,(.vsl 32 k_),(Be aX),Jr])])) (show(Ar (x2+1)).toNat=(Vm x2).length from(List.length_replicate ..).symm))) ?_;obtain⟨x4,hx4,h⟩:=bind_some h;refine gR hq [1,4,8,10] [4,8,32,34,37,30000,35000,37001] [] [⟨[(34,30000),(30000,30001),(37001,37101),(32,35002),(35000,35100)],[(20000,37)],(.omap 20000),[(30000,.row 99 [(.ptr 30001 0),.nilm,(.vsl 35002 (Vm x2).length),(Be aX),Jr]),(Z57 30001 35100 a6.length a8 37101),(W8 37101 a8.length),(35002,.arr 1 26 (Vm x2).length (fun i=>Au ((Vm x2).getD i []))),(Z8 35100 a6),(Z48 20000)],[],[34,30000,37001,32,35000]⟩] (ci (Mj (Vm x2) aX (0:Int) a6 a8 x4 hx4) (ci (rk (.row 99 [(.ptr 30000 0),.nilm,(.vsl 32 (Vm x2).length),(Be aX),Jr])) (ci (rk (.row 93 (Z6 35000 a6.length a8 37001))) (ci (rk (.tok 3 49 a8.length)) (ci (rk (.arr 1 26 ((Vm x2).length) (fun i=>Au ((Vm x2).getD i [])))) (c1 (rk (.arr 1 5 a6.length (fun i=>Dk (a6.getD i 0)))))))))) ?_;obtain⟨x5,hx5,h⟩:=bind_some h;obtain⟨hc6,h⟩:=Aa h;obtain⟨hc7,h⟩:=Aa h;refine gR hq [4,8,10] [4,8,32,34,37,30000,35000,37001] [] [⟨[(34,30000),(30000,30001),(37001,37101),(32,35002),(35000,35100),(37,9100001)],[],(.tuple []),(Z1 x5.2.2.2.1 x5.1 x5.2.1 x5.2.2.2.2 x5.2.2.1 x5.2.2.1.length),[],[]⟩] (c1 (Pb a9 aa3 (Vm x2) aX (0:Int) a6 a8 x5 hx5)) ?_;obtain⟨x8,hx8,h⟩:=bind_some h;obtain⟨hc9,h⟩:=Aa h;obtain⟨hc10,h⟩:=Aa h;refine gR hq [8,9] [8,30000,35000,37001] [] [⟨[(34,30000),(30000,30001),(37001,37101),(32,35002),(35000,35100),(37,9100001)],[],(Z65 x8.1),(Z1 x8.2.2.2.2.1 x8.2.1 x8.2.2.1 x8.2.2.2.2.2 x8.2.2.2.1 x8.2.2.2.1.length),[],[]⟩] (c1 (Rf a9.Blocks x5.2.2.2.1 x5.1 x5.2.1 x5.2.2.2.2 x5.2.2.1 x8 hx8)) ?_;cases h;exact Bg [(30000,30000),(37001,37001),(35000,35000)]
def Cb:List Dj:=([(⟨(0:Int),(8:Int),(1:Int),(1:Int),([]:List Int),(200:Int)⟩:Dj),(⟨(0:Int),(8:Int),(1:Int),(2:Int),([]:List Int),(100:Int)⟩:Dj),(⟨(1:Int),(8:Int),(1:Int),(3:Int),([(1:Int),(2:Int)]:List Int),(0:Int)⟩:Dj)]:List Dj)
def Ut:AV:=Jr
def Vo:AV:=Z54
def Q177:AV:=Z53
def Vn:AV:=Z39
def Q169:=([(⟨([]:List G6),Cb,(⟨(0:Int),(3:Int),([]:List Int)⟩:Hj)⟩:Aj)]:List Aj)
def Q179:AV:=(AV.list 5 Ax default Q169 .exact)
def Q170(x3:(Ka×Int×List Ac×List Int)):=(bif (x3.2.1==0) then(((x3.1.Code:Int)==0)&&(((x3.1.Value:Int)==44)&&(((x3.1.Steps:Int)==4)&&true))) else false)
def Q178(x3:(Ka×Int×List Ac×List Int))(x5:(Ka×Int×List Ac×List Int)):=(bif (Q170 x3) then(x5.2.1==0) else false)
def Q174:AV:=(AV.list 6 Ga default Cb .exact)
def Q171(x3:(Ka×Int×List Ac×List Int)):List (Nat×Own):=(Z12 x3.2.2.2.length x3.2.2.1 x3.2.2.1.length x3.2.2.2)
def Q173(x5:(Ka×Int×List Ac×List Int)):List (Nat×Own):=(Z12 x5.2.2.2.length x5.2.2.1 x5.2.2.1.length x5.2.2.2)
def Q168(x1:((Bool×TMem)×Int)):List (Nat×Own):=(Z21 20000 21000 x1.1.2.bytes.length x1.1.2.trace 21001 x1.1.2.bytes x1.1.2.trace.length)
def m_locksteplaw13_awake :Option Bool:=
 ((Ki ([]:List Int)).bind fun x1=>(bif x1.1.1 then(bif (x1.2 !=0) then(some false) else((Fi (⟨([]:List Int),(8:Int),([(⟨([]:List G6),Cb,(⟨(0:Int),(3:Int),([]:List Int)⟩:Hj)⟩:Aj)]:List Aj)⟩:Ag) ([]:List Int) (4:Int) x1.1.2.bytes x1.1.2.trace).bind fun x3=>(Aw (x1.1.2.bytes.length=x3.2.2.2.length) ((Fi (⟨([]:List Int),(8:Int),([(⟨([]:List G6),Cb,(⟨(0:Int),(3:Int),([]:List Int)⟩:Hj)⟩:Aj)]:List Aj)⟩:Ag) ([]:List Int) (3:Int) x3.2.2.2 x3.2.2.1).bind fun x5=>(Aw (x3.2.2.2.length=x5.2.2.2.length) ((Fi (⟨([]:List Int),(8:Int),([(⟨([]:List G6),Cb,(⟨(0:Int),(3:Int),([]:List Int)⟩:Hj)⟩:Aj)]:List Aj)⟩:Ag) ([(1:Int)]:List Int) (3:Int) x5.2.2.2 x5.2.2.1).bind fun x7=>(Aw (x5.2.2.2.length=x7.2.2.2.length) (some (bif (bif (bif (bif (x3.2.1==0) then(((x3.1.Code:Int)==0)&&(((x3.1.Value:Int)==44)&&(((x3.1.Steps:Int)==4)&&true))) else false) then(x5.2.1==0) else false) then(((x5.1.Code:Int)==9)&&(((x5.1.Value:Int)==0)&&(((x5.1.Steps:Int)==3)&&true))) else false) then(x7.2.1==1) else false))))))))) else(some false)))
theorem N2  (r:Bool) (h:m_locksteplaw13_awake=some r):Spec Tryz.prog 10 [] [] (.bool r) []:=by
 refine Ab mix Tryz.func10 (fun Γ hq=>?_);unfold m_locksteplaw13_awake at h;refine Ae hq [] [] ?_;refine gR hq [1] [1] [(10,(.agg [Ut,Vo,Xz,Xz,Vn,(.int .u64 (200:Int))])),(11,(.agg [Ut,Vo,Xz,Z64,Vn,(.int .u64 (100:Int))])),(12,(AV.list 1 Ai 0 ([(1:Int),(2:Int)]:List Int) .exact)),(14,Q174),(15,(.agg [Ut,Z35,Vn])),(16,(.agg [(AV.list 4 Rl default ([]:List G6) .exact),Q174,Ut,Z35,Vn])),(17,Q179),(18,(.agg [Vn,Vo,Q179]))] [] (ci (show(AVle (.agg [Ut,Vo,Xz,Xz,Z26,(.int .u64 (200:Int))]) (.agg [Ut,Vo,Xz,Xz,Vn,(.int .u64 (200:Int))])) from(AVle.agg (.cons (AVle.refl _) (.cons (AVle.refl _) (.cons (AVle.refl _) (.cons (AVle.refl _) (.cons Ff (.cons (AVle.refl _) .nil)))))))) (ci (show(AVle (.agg [Ut,Vo,Xz,Z64,Z26,(.int .u64 (100:Int))]) (.agg [Ut,Vo,Xz,Z64,Vn,(.int .u64 (100:Int))])) from(AVle.agg (.cons (AVle.refl _) (.cons (AVle.refl _) (.cons (AVle.refl _) (.cons (AVle.refl _) (.cons Ff (.cons (AVle.refl _) .nil)))))))) (ci (Bt 1 Ai (0:Int) ([(1:Int),(2:Int)]:List Int)) (ci (Bt 6 Ga (default:Dj) Cb) (ci (show(AVle (.agg [Ut,Z35,Z26]) (.agg [Ut,Z35,Vn])) from(AVle.agg (.cons (AVle.refl _) (.cons (AVle.refl _) (.cons Ff .nil))))) (ci (show(AVle (.agg [Z26,Q174,Ut,Z35,Vn]) (.agg [(AV.list 4 Rl default ([]:List G6) .exact),Q174,Ut,Z35,Vn])) from(AVle.agg (.cons Ff (.cons (AVle.refl _) (.cons (AVle.refl _) (.cons (AVle.refl _) (.cons (AVle.refl _) .nil))))))) (ci (Bt 5 Ax (default:Aj) Q169) (c1 (show(AVle (.agg [Z26,Vo,Q179]) (.agg [Vn,Vo,Q179])) from(AVle.agg (.cons Ff (.cons (AVle.refl _) (.cons (AVle.refl _) .nil))))))))))))) ?_;obtain⟨x1,hx1,h⟩:=bind_some h;refine gB h (fun hs2 h=>?_) (fun hs2 h=>?_)
 ·refine gR hq [1,2,3] [1,20,60020000,60020001] [] [⟨[],[(20000,20),(21000,60020000),(21001,60020001)],(.tuple [(bif true then((.ptr 20000 0):AV) else .nilp),(Be x1.2)]),(bif true then(Q168 x1) else[]),[],[]⟩] (c1 (show(Spec Tryz.prog 13 [Q177] [] (.tuple [(bif true then((.ptr 20000 0):AV) else .nilp),(Be x1.2)]) (bif true then(Q168 x1) else[])) from(eqB (fun b_:Bool=>Spec Tryz.prog 13 [Q177] [] (.tuple [(bif b_ then((.ptr 20000 0):AV) else .nilp),(Be x1.2)]) (bif b_ then(Q168 x1) else[])) hs2 (Spec.args (.cons M9 .nil) (N3 ([]:List Int) x1 hx1))))) ?_;refine gR hq [1,2,28] [1,20,60020000,60020001] [] [] (ci (gI (false==false)) (c1 (M5 false))) ?_;refine gC h (fun h=>?_) (fun h=>?_)
  ·refine Ae hq [0] [] ?_;obtain rfl:=OI h;exact Bg []
  ·obtain⟨x3,hx3,h⟩:=bind_some h;obtain⟨hc4,h⟩:=Aa h;refine gR hq [1,2,4,5] [1,4,20,60020000,60020001] [] [⟨[(20,30000),(60020001,37001),(60020000,35000)],[],(.tuple [(Z65 x3.1),(Be x3.2.1)]),(Q171 x3),[],[]⟩] (c1 (show(Spec Tryz.prog 14 [(.agg [(AV.list 1 Ai 0 ([]:List Int) .none),Vo,(Z30 Q169)]),Q177,(.ptr 30000 0),Z61] (Z12 x1.1.2.bytes.length x1.1.2.trace x1.1.2.trace.length x1.1.2.bytes) (.tuple [(Z65 x3.1),(Be x3.2.1)]) (Q171 x3)) from(Spec.args (.cons (AVle.refl _) (.cons M9 (.cons (AVle.refl _) (.cons (AVle.refl _) .nil)))) (L3 (⟨([]:List Int),(8:Int),Q169⟩:Ag) ([]:List Int) (4:Int) x1.1.2.bytes x1.1.2.trace x3 hx3)))) ?_;obtain⟨x5,hx5,h⟩:=bind_some h;obtain⟨hc6,h⟩:=Aa h;refine gR hq [1,2,4,5,6,7] [1,4,6,20,60020000,60020001] [] [⟨[(20,30000),(60020001,37001),(60020000,35000)],[],(.tuple [(Z65 x5.1),(Be x5.2.1)]),(Q173 x5),[],[]⟩] (c1 (show(Spec Tryz.prog 14 [(.agg [(AV.list 1 Ai 0 ([]:List Int) .none),Vo,(Z30 Q169)]),Q177,(.ptr 30000 0),Z35] (Q171 x3) (.tuple [(Z65 x5.1),(Be x5.2.1)]) (Q173 x5)) from(Spec.args (.cons (AVle.refl _) (.cons M9 (.cons (AVle.refl _) (.cons (AVle.refl _) .nil)))) (L3 (⟨([]:List Int),(8:Int),Q169⟩:Ag) ([]:List Int) (3:Int) x3.2.2.2 x3.2.2.1 x5 hx5)))) ?_;obtain⟨x7,hx7,h⟩:=bind_some h;obtain⟨hc8,h⟩:=Aa h;refine gR hq [4,5,6,7,9] [4,6] [(43,(AV.list 1 Bh 0 ([(1:Int)]:List Int) .exact))] [⟨[(20,30000),(60020001,37001),(60020000,35000)],[],(.tuple [(Z65 x7.1),(Be x7.2.1)]),(Z12 x7.2.2.2.length x7.2.2.1 x7.2.2.1.length x7.2.2.2),[],[]⟩] (ci (Bt 1 Bh (0:Int) ([(1:Int)]:List Int)) (c1 (L3 (⟨([]:List Int),(8:Int),Q169⟩:Ag) ([(1:Int)]:List Int) (3:Int) x5.2.2.2 x5.2.2.1 x7 hx7))) ?_;refine gR hq [0] [] [] [] (ci (gI ((x3.2.1==0)==true)) (ci (gI ((x3.2.1==0)==true)) (ci (Ln (x3.2.1==0)) (ci (gI ((Q170 x3)==true)) (ci (Ln (Q170 x3)) (ci (gI ((Q178 x3 x5)==true)) (ci (gI ((Q178 x3 x5)==true)) (ci (Ln (Q178 x3 x5)) (ci (gI ((bif (Q178 x3 x5) then(((x5.1.Code:Int)==9)&&(((x5.1.Value:Int)==0)&&(((x5.1.Steps:Int)==3)&&true))) else false)==true)) (c1 (Ln (bif (Q178 x3 x5) then(((x5.1.Code:Int)==9)&&(((x5.1.Value:Int)==0)&&(((x5.1.Steps:Int)==3)&&true))) else false)))))))))))) ?_;cases h;exact Bg []
 ·refine gR hq [1,2,3] [1] [] [⟨[],[],(.tuple [(bif false then((.ptr 20000 0):AV) else .nilp),(Be x1.2)]),(bif false then(Q168 x1) else[]),[],[]⟩] (c1 (show(Spec Tryz.prog 13 [Q177] [] (.tuple [(bif false then((.ptr 20000 0):AV) else .nilp),(Be x1.2)]) (bif false then(Q168 x1) else[])) from(eqB (fun b_:Bool=>Spec Tryz.prog 13 [Q177] [] (.tuple [(bif b_ then((.ptr 20000 0):AV) else .nilp),(Be x1.2)]) (bif b_ then(Q168 x1) else[])) hs2 (Spec.args (.cons M9 .nil) (N3 ([]:List Int) x1 hx1))))) ?_;refine gR hq [1,2,28] [1] [] [] (ci (gI (true==false)) (c1 (M5 true))) ?_;refine Td true ?_;refine Ae hq [0] [] ?_;obtain rfl:=OI h;exact Bg []
def Q225(aA:Int):=(bif (bif (aA==1) then true else(aA==8)) then true else(aA==16))
def Bk(aA:Int):Option Bool:=
 (some (bif (bif (bif (bif (aA==1) then true else(aA==8)) then true else(aA==16)) then true else(aA==32)) then true else(aA==64)))
theorem Gs(aA:Int)(r:Bool)(h:Bk aA=some r):Spec Tryz.prog 38 [(.int .i64 aA)] [] (.bool r) []:=by
 refine Ab mix Tryz.func38 (fun Γ hq=>?_);unfold Bk at h;refine Ae hq [0] [] ?_;refine gR hq [2] [] [] [] (ci (gI ((aA==1)==false)) (ci (M5 (aA==1)) (ci (gI ((bif (aA==1) then true else(aA==8))==false)) (ci (M5 (bif (aA==1) then true else(aA==8))) (ci (gI ((Q225 aA)==false)) (ci (M5 (Q225 aA)) (ci (gI ((bif (Q225 aA) then true else(aA==32))==false)) (c1 (M5 (bif (Q225 aA) then true else(aA==32))))))))))) ?_;cases h;exact Bg []
def Ad(aJ:Int)(aA:Int):Option Int:=
 ((Bk aA).bind fun x1=>(bif (!x1) then(some (0:Int)) else(bif (aA==64) then(some aJ) else(Aw (0≤(B3 aA)) (Aw ((Ho .u64 (1:Int) (B3 aA))≠0) (some (Int.tmod aJ (Ho .u64 (1:Int) (B3 aA)))))))))
theorem Di(aJ:Int)(aA:Int)(r:Int)(h:Ad aJ aA=some r):Spec Tryz.prog 39 [(.int .u64 aJ),(.int .i64 aA)] [] (.int .u64 r) []:=by
 refine Ab mix Tryz.func39 (fun Γ hq=>?_);unfold Ad at h;refine Ae hq [0,1] [] ?_;obtain⟨x1,hx1,h⟩:=bind_some h;refine gR hq [0,1,7] [] [] [⟨[],[],(.bool x1),[],[],[]⟩] (c1 (Gs aA x1 hx1)) ?_;refine gC h (fun h=>?_) (fun h=>?_)
 ·refine Ae hq [4] [] ?_;cases h;exact Bg []
 ·refine Ae hq [0,1,9] [] ?_;refine gC h (fun h=>?_) (fun h=>?_)
  ·refine Ae hq [4] [] ?_;obtain rfl:=OI h;exact Bg []
  ·obtain⟨hc2,h⟩:=Aa h;obtain⟨hc3,h⟩:=Aa h;refine gR hq [4] [] [] [] (ci hc2 (c1 hc3)) ?_;cases h;exact Bg []
def A4(aaK:Bool):Option Int:=
 (bif aaK then(some (1:Int)) else(some (0:Int)))
theorem Fn(aaK:Bool)(r:Int)(h:A4 aaK=some r):Spec Tryz.prog 40 [(.bool aaK)] [] (.int .u64 r) []:=by
 refine Ab mix Tryz.func40 (fun Γ hq=>?_);unfold A4 at h;refine Ae hq [0] [] ?_;refine Ae hq [3] [] ?_;refine gC h (fun h=>?_) (fun h=>?_)
 ·refine Ae hq [2] [] ?_;cases h;exact Bg []
 ·refine Ae hq [2] [] ?_;cases h;exact Bg []
def Q345(aA:Int):=((aA==64)==false)
def Aq(aJ:Int)(aA:Int):Option Int:=
 ((Bk aA).bind fun x1=>(bif (!x1) then(some (0:Int)) else((Ad aJ aA).bind fun x2=>(Aw (((aA==64)==false)=true→(0≤(B3 (Ar (aA-1))))) (bif (bif (aA==64) then true else(decide (x2<(Ho .u64 (1:Int) (B3 (Ar (aA-1))))))) then(some (Ar x2)) else(Aw (0≤(B3 aA)) (some (Ar ((Ar x2)-(Ar (Ho .u64 (1:Int) (B3 aA))))))))))))
theorem Hy(aJ:Int)(aA:Int)(r:Int)(h:Aq aJ aA=some r):Spec Tryz.prog 41 [(.int .u64 aJ),(.int .i64 aA)] [] (.int .i64 r) []:=by
 refine Ab mix Tryz.func41 (fun Γ hq=>?_);unfold Aq at h;refine Ae hq [0,1] [] ?_;obtain⟨x1,hx1,h⟩:=bind_some h;refine gR hq [0,1,7] [] [] [⟨[],[],(.bool x1),[],[],[]⟩] (c1 (Gs aA x1 hx1)) ?_;refine gC h (fun h=>?_) (fun h=>?_)
 ·refine Ae hq [4] [] ?_;cases h;exact Bg []
 ·obtain⟨x2,hx2,h⟩:=bind_some h;refine gR hq [0,1] [] [] [⟨[],[],(Fo x2),[],[],[]⟩] (c1 (Di aJ aA x2 hx2)) ?_;obtain⟨hc3,h⟩:=Aa h;refine gR hq [0,1,20] [] [] [] (ci (gI (Q345 aA)) (ci (gI (Q345 aA)) (ci (gI (Q345 aA)) (ci hc3 (ci (gI (Q345 aA)) (ci (gI (Q345 aA)) (c1 (M5 (aA==64))))))))) ?_;refine gC h (fun h=>?_) (fun h=>?_)
  ·refine Ae hq [4] [] ?_;cases h;exact Bg []
  ·obtain⟨hc4,h⟩:=Aa h;refine gR hq [4] [] [] [] (c1 hc4) ?_;cases h;exact Bg []
def B7(a7:Int)(x3:Int):(Int×Int)→Option (LR (Int×Int) Int):=
 fun((i6,i7):(Int×Int))=>(bif (bif (decide (i7<x3)) then(i6 !=0) else false) then((Ad (B3 (i6*2)) a7).bind fun x9=>(some (.next (x9,(B3 (i7+1)))))) else(some (.done i6)))
def B8(x3:Int):(Int×Int)→Option (LR (Int×Int) Int):=
 fun((i12,i13):(Int×Int))=>(bif (bif (decide (i13<x3)) then(i12 !=0) else false) then(some (.next ((B3 (Int.tdiv i12 (2:Int))),(B3 (i13+1))))) else(some (.done i12)))
def R6(Γ:Er)(aH:Int)(a7:Int)(aV:Int)(aaG:Int)(r:(Int×Int)):Exit→St→Prop:=fK Tryz.prog Γ Tryz.f19.results.toList [] (.tuple [(Fo r.1),(Be r.2)]) []
def Q346(aH:Int):=(bif (decide (aH<1)) then true else(decide (((12:Int):Int)<aH)))
def Bs(aH:Int)(a7:Int)(aV:Int)(aaG:Int):Option (Int×Int):=
 ((bif ((bif (decide (aH<1)) then true else(decide (((12:Int):Int)<aH)))==false) then Bk a7 else some false).bind fun x1=>(bif (bif (bif (decide (aH<1)) then true else(decide (((12:Int):Int)<aH))) then true else(!x1)) then(some ((0:Int),(1:Int))) else((Ad aV a7).bind fun x2=>((Ad aaG a7).bind fun x3=>(Option.bind (α:=(Int ⊕ (Int×Int))) (bif (aH==1) then(some (.inl (B3 (x2+x3)))) else(bif (aH==2) then(some (.inl (B3 (x2-x3)))) else(bif (aH==3) then(some (.inl (B3 (x2*x3)))) else(bif (aH==4) then(bif (x3==0) then(some (.inr ((0:Int),(8:Int)))) else(Aw (x3≠0) (some (.inl (B3 (Int.tdiv x2 x3)))))) else(bif (aH==5) then(some (.inl (Dq .and .u64 x2 x3))) else(bif (aH==6) then(some (.inl (Dq .or .u64 x2 x3))) else(bif (aH==7) then(some (.inl (Dq .xor .u64 x2 x3))) else(bif (aH==8) then((Az (B7 a7 x3) (x2,(0:Int))).bind (fun x10=>(some (.inl x10)))) else(bif (aH==9) then((Az (B8 x3) (x2,(0:Int))).bind (fun x15=>(some (.inl x15)))) else(bif (aH==10) then((A4 (x2==x3)).bind fun x17=>(some (.inl x17))) else(bif (aH==11) then((A4 (decide (x2<x3))).bind fun x18=>(some (.inl x18))) else(bif (aH==12) then((Aq x2 a7).bind fun x19=>((Aq x3 a7).bind fun x20=>((A4 (decide (x19<x20))).bind fun x21=>(some (.inl x21))))) else(some (.inl (0:Int))))))))))))))) (fun x22=>(match x22 with|(.inl i4)=>((Ad i4 a7).bind fun x24=>(some (x24,(0:Int))))|(.inr r25)=>(some r25))))))))
theorem Rg(aH:Int)(a7:Int)(aV:Int)(aaG:Int)(r:(Int×Int))(h:Bs aH a7 aV aaG=some r):Spec Tryz.prog 19 [(.int .i64 aH),(.int .i64 a7),(.int .u64 aV),(.int .u64 aaG)] [] (.tuple [(.int .u64 r.1),(.int .i64 r.2)]) []:=by
 refine Ab mix Tryz.func19 (fun Γ hq=>?_);unfold Bs at h;refine Ae hq [0,1,2,3] [] ?_;obtain⟨x1,hx1,h⟩:=bind_some h;refine gR hq [0,1,2,3,23] [] [] [⟨[],[],(.bool x1),[],[],[]⟩] (ci (gI ((decide (aH<1))==false)) (ci (M5 (decide (aH<1))) (ci (gI ((Q346 aH)==false)) (ci (fun(hg:((Q346 aH)==false)=true)=>(Gs a7 x1 (B9 hg hx1))) (ci (gI ((Q346 aH)==false)) (c1 (M5 (Q346 aH)))))))) ?_;refine gC h (fun h=>?_) (fun h=>?_)
 ·refine Ae hq [8,9] [] ?_;cases h;exact Bg []
 ·obtain⟨x2,hx2,h⟩:=bind_some h;refine gR hq [0,1,2,3] [] [] [⟨[],[],(Fo x2),[],[],[]⟩] (c1 (Di aV a7 x2 hx2)) ?_;obtain⟨x3,hx3,h⟩:=bind_some h;refine gR hq [0,1,2,3] [] [] [⟨[],[],(Fo x3),[],[],[]⟩] (c1 (Di aaG a7 x3 hx3)) ?_;refine Ae hq [0,1,2,3,10] [] ?_;obtain⟨x22,hx22,h⟩:=bind_some h;refine gJ hx22 (fun x_=>match x_ with|(.inl i4)=>aG Γ .normal (⟨[(1,(Be a7)),(10,(Fo i4))],[],[]⟩:St)|(.inr r_)=>aR (R6 Γ aH a7 aV aaG r_)) ?_ ?_
  ·clear h hx22;intro y h;refine Ae hq [1,2,3,10,30] [] ?_;refine Ae hq [1,2,3,10,30,31] [] ?_;refine gC h (fun h=>?_) (fun h=>?_)
   ·refine Ae hq [1,10] [] ?_;cases h;exact gK (Bx Cy)
   ·refine Ae hq [1,2,3,10,30,36] [] ?_;refine gC h (fun h=>?_) (fun h=>?_)
    ·refine Ae hq [1,10] [] ?_;cases h;exact gK (Bx Cy)
    ·refine Ae hq [1,2,3,10,30,41] [] ?_;refine gC h (fun h=>?_) (fun h=>?_)
     ·refine Ae hq [1,10] [] ?_;cases h;exact gK (Bx Cy)
     ·refine Ae hq [1,2,3,10,30,46] [] ?_;refine gC h (fun h=>?_) (fun h=>?_)
      ·refine Ae hq [1,2,3,49] [] ?_;refine gC h (fun h=>?_) (fun h=>?_)
       ·refine Ae hq [8,9] [] ?_;cases h;exact gK (Js (F5 [] (Le.refl _ _)))
       ·obtain⟨hc5,h⟩:=Aa h;refine gR hq [1,10] [] [] [] (c1 hc5) ?_;cases h;exact gK (Bx Cy)
      ·refine Ae hq [1,2,3,10,30,53] [] ?_;refine gC h (fun h=>?_) (fun h=>?_)
       ·refine Ae hq [1,10] [] ?_;cases h;exact gK (Bx Cy)
       ·refine Ae hq [1,2,3,10,30,58] [] ?_;refine gC h (fun h=>?_) (fun h=>?_)
        ·refine Ae hq [1,10] [] ?_;cases h;exact gK (Bx Cy)
        ·refine Ae hq [1,2,3,10,30,63] [] ?_;refine gC h (fun h=>?_) (fun h=>?_)
         ·refine Ae hq [1,10] [] ?_;cases h;exact gK (Bx Cy)
         ·refine Ae hq [1,2,3,10,30,68] [] ?_;refine gC h (fun h=>?_) (fun h=>?_)
          ·refine Ae hq [1,3,10] [] ?_;refine Ae hq [1,3,10,11] [] ?_;obtain⟨x10,hx10,h⟩:=bind_some h;refine gL hq hx10 [1,3,10,11] [] (fun u (i6,i7)=>(C4 u [(10,(Fo i6)),(11,(Fo i7))] [])) (fun u i8=>aG Γ (.exit 1) (Ri [1,10] [] u [(10,(Fo i8))] [])) ?_ ?_
           ·rintro⟨i6,i7⟩ y h;unfold B7 at h;refine gR hq [1,3,10,11,77] [] [] [] (ci (gI ((decide (i7<x3))==true)) (c1 (Ln (decide (i7<x3))))) ?_;refine gC h (fun h=>?_) (fun h=>?_)
            ·obtain⟨x9,hx9,h⟩:=bind_some h;refine gR hq [1,3,10,11] [] [] [⟨[],[],(Fo x9),[],[],[]⟩] (c1 (Di (B3 (i6*2)) a7 x9 hx9)) ?_;refine Ae hq [1,3,10,11] [] ?_;cases h;exact gN Cy
            ·cases h;exact gO (Bx (B6 [1,10] [] hq))
           ·clear hx10;refine gA' (fun st' hl11=>?_);cases h;exact gK (Bx (Le.trans hl11 Cy))
          ·refine Ae hq [1,2,3,10,30,84] [] ?_;refine gC h (fun h=>?_) (fun h=>?_)
           ·refine Ae hq [1,3,10] [] ?_;refine Ae hq [1,3,10,12] [] ?_;obtain⟨x15,hx15,h⟩:=bind_some h;refine gL hq hx15 [1,3,10,12] [] (fun u (i12,i13)=>(C4 u [(10,(Fo i12)),(12,(Fo i13))] [])) (fun u i14=>aG Γ (.exit 3) (Ri [1,10] [] u [(10,(Fo i14))] [])) ?_ ?_
            ·rintro⟨i12,i13⟩ y h;unfold B8 at h;refine gR hq [1,3,10,12,93] [] [] [] (ci (gI ((decide (i13<x3))==true)) (c1 (Ln (decide (i13<x3))))) ?_;refine gC h (fun h=>?_) (fun h=>?_)
             ·refine gR hq [1,3,10,12] [] [] [] (c1 (show((2:Int)≠0) from(by decide))) ?_;refine Ae hq [1,3,10,12] [] ?_;cases h;exact gN Cy
             ·cases h;exact gO (Bx (B6 [1,10] [] hq))
            ·clear hx15;refine gA' (fun st' hl16=>?_);cases h;exact gK (Bx (Le.trans hl16 Cy))
           ·refine Ae hq [1,2,3,10,30,98] [] ?_;refine gC h (fun h=>?_) (fun h=>?_)
            ·obtain⟨x17,hx17,h⟩:=bind_some h;refine gR hq [1,10] [] [] [⟨[],[],(Fo x17),[],[],[]⟩] (c1 (Fn (x2==x3) x17 hx17)) ?_;cases h;exact gK (Bx Cy)
            ·refine Ae hq [1,2,3,10,30,104] [] ?_;refine gC h (fun h=>?_) (fun h=>?_)
             ·obtain⟨x18,hx18,h⟩:=bind_some h;refine gR hq [1,10] [] [] [⟨[],[],(Fo x18),[],[],[]⟩] (c1 (Fn (decide (x2<x3)) x18 hx18)) ?_;cases h;exact gK (Bx Cy)
             ·refine Ae hq [1,2,3,10,110] [] ?_;refine gC h (fun h=>?_) (fun h=>?_)
              ·obtain⟨x19,hx19,h⟩:=bind_some h;obtain⟨x20,hx20,h⟩:=bind_some h;obtain⟨x21,hx21,h⟩:=bind_some h;refine gR hq [1,10] [] [] [⟨[],[],(Be x19),[],[],[]⟩,⟨[],[],(Be x20),[],[],[]⟩,⟨[],[],(Fo x21),[],[],[]⟩] (ci (Hy x2 a7 x19 hx19) (ci (Hy x3 a7 x20 hx20) (c1 (Fn (decide (x19<x20)) x21 hx21)))) ?_;cases h;exact gK (Bx Cy)
              ·cases h;exact gK (Bx (B6 [1,10] [] hq))
  ·clear hx22;rcases x22 with i4|r25
   ·refine gA ?_;obtain⟨x24,hx24,h⟩:=bind_some h;refine gR hq [8,9] [] [] [⟨[],[],(Fo x24),[],[],[]⟩] (c1 (Di i4 a7 x24 hx24)) ?_;cases h;exact Bg []
   ·refine Rb (fun st' hk=>?_);obtain rfl:=OI h;exact gK hk
def Q350:AV:=Z39
def Q352:=([(1:Int),(8:Int),(16:Int),(32:Int),(64:Int)]:List Int)
def Q347(aH:Int)(a7:Int):=([(⟨(Ar ((1:Int)+(Int.tmod (Ar aH) (12:Int)))),(Q352.getD (Int.tmod (Ar a7) (5:Int)).toNat (0:Int)),(1:Int),(3:Int),([(1:Int),(2:Int)]:List Int),(0:Int)⟩:Dj)]:List Dj)
def Q351(aH:Int)(a7:Int):=([(⟨([]:List G6),(Q347 aH a7),(⟨(0:Int),(3:Int),([]:List Int)⟩:Hj)⟩:Aj)]:List Aj)
def Q353(aH:Int)(a7:Int):AV:=(.agg [(AV.list 4 Rl default ([]:List G6) .exact),(AV.list 6 Ga default (Q347 aH a7) .exact),Jr,Z35,Q350])
def Q348(x6:((Bool×TMem)×Int)):List (Nat×Own):=(Z21 20000 21000 x6.1.2.bytes.length x6.1.2.trace 21001 x6.1.2.bytes x6.1.2.trace.length)
def Q349(a7:Int):=([(Q352.getD (Int.tmod (Ar a7) (5:Int)).toNat (0:Int)),(Q352.getD (Int.tmod (Ar a7) (5:Int)).toNat (0:Int))]:List Int)
def Dm(aH:Int)(a7:Int)(aV:(Int×Int)):Option Bool:=
 (m_locksteplaw13_awake.bind fun x1=>(bif (!x1) then(some false) else(Aw (A5 (Int.tmod (Ar a7) (5:Int)) ([(1:Int),(8:Int),(16:Int),(32:Int),(64:Int)]:List Int).length) (Option.bind (α:=Int) (bif (decide (((10:Int):Int)≤(Ar ((1:Int)+(Int.tmod (Ar aH) (12:Int)))))) then(some (1:Int)) else(some (([(1:Int),(8:Int),(16:Int),(32:Int),(64:Int)]:List Int).getD (Int.tmod (Ar a7) (5:Int)).toNat (0:Int)))) (fun x4=>((Ki ([]:List Int)).bind fun x6=>(bif x6.1.1 then((Fi (⟨([(([(1:Int),(8:Int),(16:Int),(32:Int),(64:Int)]:List Int).getD (Int.tmod (Ar a7) (5:Int)).toNat (0:Int)),(([(1:Int),(8:Int),(16:Int),(32:Int),(64:Int)]:List Int).getD (Int.tmod (Ar a7) (5:Int)).toNat (0:Int))]:List Int),x4,([(⟨([]:List G6),([(⟨(Ar ((1:Int)+(Int.tmod (Ar aH) (12:Int)))),(([(1:Int),(8:Int),(16:Int),(32:Int),(64:Int)]:List Int).getD (Int.tmod (Ar a7) (5:Int)).toNat (0:Int)),(1:Int),(3:Int),([(1:Int),(2:Int)]:List Int),(0:Int)⟩:Dj)]:List Dj),(⟨(0:Int),(3:Int),([]:List Int)⟩:Hj)⟩:Aj)]:List Aj)⟩:Ag) ([aV.1,aV.2]:List Int) (9:Int) x6.1.2.bytes x6.1.2.trace).bind fun x8=>(Aw (x6.1.2.bytes.length=x8.2.2.2.length) ((Bs (Ar ((1:Int)+(Int.tmod (Ar aH) (12:Int)))) (([(1:Int),(8:Int),(16:Int),(32:Int),(64:Int)]:List Int).getD (Int.tmod (Ar a7) (5:Int)).toNat (0:Int)) aV.1 aV.2).bind fun x10=>(bif (x10.2 !=0) then(some (bif (x8.2.1==0) then(((x8.1.Code:Int)==8)&&(((x8.1.Value:Int)==0)&&(((x8.1.Steps:Int)==1)&&true))) else false)) else(some (bif (x8.2.1==0) then(((x8.1.Code:Int)==0)&&(((x8.1.Value:Int)==x10.1)&&(((x8.1.Steps:Int)==2)&&true))) else false)))))) else(some false))))))))
theorem ok_locksteplaw13_EvalTwo(aH:Int)(a7:Int)(aV:(Int×Int))(r:Bool)(h:Dm aH a7 aV=some r):Spec Tryz.prog 5 [(.int .u8 aH),(.int .u8 a7),(.agg (eA2U64 aV))] [] (.bool r) []:=by
 refine Ab mix Tryz.func5 (fun Γ hq=>?_);unfold Dm at h;refine Ae hq [0,1,5] [5] ?_;obtain⟨x1,hx1,h⟩:=bind_some h;refine gR hq [0,1,5,18] [5] [] [⟨[],[],(.bool x1),[],[],[]⟩] (c1 (N2  x1 hx1)) ?_;refine gC h (fun h=>?_) (fun h=>?_)
 ·refine Ae hq [6] [] ?_;obtain rfl:=OI h;exact Bg []
 ·refine gR hq [1,5,7] [5] [] [] (c1 (show((12:Int)≠0) from(by decide))) ?_;obtain⟨hc2,h⟩:=Aa h;refine gR hq [5,7,8] [5] [(23,(AV.list 1 Ai 0 Q352 .exact))] [] (ci (Bt 1 Ai (0:Int) Q352) (ci (show((5:Int)≠0) from(by decide)) (c1 hc2))) ?_;refine Ae hq [5,7,8,9] [5] ?_;obtain⟨x4,hx4,h⟩:=bind_some h;refine gJ hx4 (fun i3=>aG Γ .normal (⟨[(5,(.ptr 5 0)),(7,(.int .i64 (Ar ((1:Int)+(Int.tmod (Ar aH) (12:Int)))))),(8,(.int .i64 (Q352.getD (Int.tmod (Ar a7) (5:Int)).toNat (0:Int)))),(9,(Be i3))],[(5,.row 50 [(Fo aV.1),(Fo aV.2)])],[]⟩:St)) ?_ ?_
  ·clear h hx4;intro y h;refine Ae hq [5,7,8,9,31] [5] ?_;refine gC h (fun h=>?_) (fun h=>?_)
   ·refine Ae hq [5,7,8,9] [5] ?_;cases h;exact gK (Bx Cy)
   ·cases h;exact gK (Bx (B6 [5,7,8,9] [5] hq))
  ·clear hx4;refine gA ?_;refine gR hq [5,7,8,10] [5,10] [(34,(AV.list 1 Ai 0 (Q349 a7) .exact)),(38,(AV.list 1 Ai 0 ([(1:Int),(2:Int)]:List Int) .exact)),(40,(AV.list 6 Ga default (Q347 aH a7) .exact)),(41,(.agg [Jr,Z35,Q350])),(42,(Q353 aH a7)),(43,(AV.list 5 Ax default (Q351 aH a7) .exact))] [] (ci (Bt 1 Ai (0:Int) (Q349 a7)) (ci (Bt 1 Ai (0:Int) ([(1:Int),(2:Int)]:List Int)) (ci (Bt 6 Ga (default:Dj) (Q347 aH a7)) (ci (show(AVle (.agg [Jr,Z35,Z26]) (.agg [Jr,Z35,Q350])) from(AVle.agg (.cons (AVle.refl _) (.cons (AVle.refl _) (.cons Ff .nil))))) (ci (show(AVle (.agg [Z26,(AV.list 6 Ga default (Q347 aH a7) .exact),Jr,Z35,Q350]) (Q353 aH a7)) from(AVle.agg (.cons Ff (.cons (AVle.refl _) (.cons (AVle.refl _) (.cons (AVle.refl _) (.cons (AVle.refl _) .nil))))))) (c1 (Bt 5 Ax (default:Aj) (Q351 aH a7)))))))) ?_;obtain⟨x6,hx6,h⟩:=bind_some h;refine gB h (fun hs7 h=>?_) (fun hs7 h=>?_)
   ·refine gR hq [5,7,8,10,11] [5,10,46,60046000,60046001] [] [⟨[],[(20000,46),(21000,60046000),(21001,60046001)],(.tuple [(bif true then((.ptr 20000 0):AV) else .nilp),(Be x6.2)]),(bif true then(Q348 x6) else[]),[],[]⟩] (c1 (show(Spec Tryz.prog 13 [Z53] [] (.tuple [(bif true then((.ptr 20000 0):AV) else .nilp),(Be x6.2)]) (bif true then(Q348 x6) else[])) from(eqB (fun b_:Bool=>Spec Tryz.prog 13 [Z53] [] (.tuple [(bif b_ then((.ptr 20000 0):AV) else .nilp),(Be x6.2)]) (bif b_ then(Q348 x6) else[])) hs7 (Spec.args (.cons M9 .nil) (N3 ([]:List Int) x6 hx6))))) ?_;refine Ae hq [5,7,8,10,11,50] [5,10,46,60046000,60046001] ?_;refine Td false ?_;obtain⟨x8,hx8,h⟩:=bind_some h;obtain⟨hc9,h⟩:=Aa h;refine gR hq [5,7,8,13,14] [5,13] [(57,(AV.list 1 Bh 0 ([aV.1,aV.2]:List Int) .exact))] [⟨[(46,30000),(60046001,37001),(60046000,35000)],[],(.tuple [(Z65 x8.1),(Be x8.2.1)]),(Z12 x8.2.2.2.length x8.2.2.1 x8.2.2.1.length x8.2.2.2),[],[]⟩] (ci (show(A5 (0:Int) 2) from(by decide)) (ci (show(A5 (1:Int) 2) from(by decide)) (ci (Bt 1 Bh (0:Int) ([aV.1,aV.2]:List Int)) (c1 (L3 (⟨(Q349 a7),x4,(Q351 aH a7)⟩:Ag) ([aV.1,aV.2]:List Int) (9:Int) x6.1.2.bytes x6.1.2.trace x8 hx8))))) ?_;obtain⟨x10,hx10,h⟩:=bind_some h;refine gR hq [13,14,15,16] [13] [] [⟨[],[],(.tuple [(Fo x10.1),(Be x10.2)]),[],[],[]⟩] (ci (show(A5 (0:Int) 2) from(by decide)) (ci (show(A5 (1:Int) 2) from(by decide)) (c1 (Rg (Ar ((1:Int)+(Int.tmod (Ar aH) (12:Int)))) (Q352.getD (Int.tmod (Ar a7) (5:Int)).toNat (0:Int)) aV.1 aV.2 x10 hx10)))) ?_;refine Ae hq [13,14,15,73] [13] ?_;refine gC h (fun h=>?_) (fun h=>?_)
    ·refine gR hq [6] [] [] [] (ci (gI ((x8.2.1==0)==true)) (ci (gI ((x8.2.1==0)==true)) (c1 (Ln (x8.2.1==0))))) ?_;cases h;exact Bg []
    ·refine gR hq [6] [] [] [] (ci (gI ((x8.2.1==0)==true)) (ci (gI ((x8.2.1==0)==true)) (ci (gI ((x8.2.1==0)==true)) (c1 (Ln (x8.2.1==0)))))) ?_;cases h;exact Bg []
   ·refine gR hq [5,7,8,10,11] [5,10] [] [⟨[],[],(.tuple [(bif false then((.ptr 20000 0):AV) else .nilp),(Be x6.2)]),(bif false then(Q348 x6) else[]),[],[]⟩] (c1 (show(Spec Tryz.prog 13 [Z53] [] (.tuple [(bif false then((.ptr 20000 0):AV) else .nilp),(Be x6.2)]) (bif false then(Q348 x6) else[])) from(eqB (fun b_:Bool=>Spec Tryz.prog 13 [Z53] [] (.tuple [(bif b_ then((.ptr 20000 0):AV) else .nilp),(Be x6.2)]) (bif b_ then(Q348 x6) else[])) hs7 (Spec.args (.cons M9 .nil) (N3 ([]:List Int) x6 hx6))))) ?_;refine Ae hq [5,7,8,10,11,50] [5,10] ?_;refine Td true ?_;refine Ae hq [6] [] ?_;obtain rfl:=OI h;exact Bg []
theorem w64_of{n:Int}(h:-9223372036854775808≤n)(h':n<9223372036854775808):Ar n=n:=by
 show IntKind.i64.wrap n=n
 simp only[IntKind.wrap,IntKind.bits,IntKind.signed]
 simp
 split<;>omega
theorem Zz{n:Int}(h:0≤n)(h':n<18446744073709551616):B3 n=n:=by
 show IntKind.u64.wrap n=n
 simp[IntKind.wrap,IntKind.bits,IntKind.signed];omega
theorem Ql(n:Int):B3 n=n % 18446744073709551616:=by
 show IntKind.u64.wrap n=_
 simp[IntKind.wrap,IntKind.bits,IntKind.signed]
theorem Bj{R:Type}{p:Prop}[Decidable p]{k:Option R}(h:p):Aw p k=k:=if_pos h
theorem scopeO_self{S X:Type}(f:S→Option (LR S X))(s:S):Li (f s) f=Az f s:=by
 unfold Li
 cases h:f s with
 | none=>rw[Option.bind_none,Sd h]
 | some y=>cases y with
  | next s'=>rw[Hl h];rfl
  | done x=>rw[Es h];rfl
theorem L8{α:Type}(l:List α)(i:Nat)(d:α)(h:i<l.length):l.getD i d=l[i]:=by simp[List.getD,h]
theorem Km{α:Type}{l:List α}{i:Nat}{d:α}(h:i<l.length):l.getD i d∈l:=by rw[L8 _ _ _ h];exact List.getElem_mem h
theorem F6{i n:Nat}(h:i<n):A5 (i:Int) n:=⟨by omega,by exact_mod_cast h⟩
theorem loop_seq{S X:Type}(f:S→Option (LR S X))(T:Nat→S)(x:X):∀(n:Nat),(∀ i,i<n→f (T i)=some (.next (T (i+1))))→f (T n)=some (.done x)→Az f (T 0)=some x:=by
 suffices h:∀(k i n:Nat),i+k=n→(∀ j,i≤j→j<n→f (T j)=some (.next (T (j+1))))→f (T n)=some (.done x)→Az f (T i)=some x from
  fun n h1 h2=>h n 0 n (by omega) (fun j _ hj=>h1 j hj) h2
 intro k
 induction k with
 | zero=>
  intro i n hi _ h2
  have hin:n=i:=by omega
  subst hin;exact Es h2
 | succ k ih=>intro i n hi h1 h2;rw[Hl (h1 i (Nat.le_refl _) (by omega))];exact ih (i+1) n (by omega) (fun j hj hj'=>h1 j (by omega) hj') h2
theorem Xg{S X:Type}(f:S→Option (LR S X))(T:Nat→S):∀(n:Nat),(∀ i,i<n→f (T i)=some (.next (T (i+1))))→Az f (T 0)=Az f (T n):=by
 intro n
 induction n with
 | zero=>intro _;rfl
 | succ n ih=>intro h;rw[ih (fun i hi=>h i (by omega)),Hl (h n (by omega))]
theorem loop_find{S X:Type}(f:S→Option (LR S X))(T:Nat→S)(p:Nat→Bool)(yes no:X)(n:Nat)(hn:∀ i,i<n→p i=true→f (T i)=some (.next (T (i+1))))(hf:∀ i,i<n→p i=false→f (T i)=some (.done no))
  (he:f (T n)=some (.done yes)):Az f (T 0)=some (bif (List.range n).all p then yes else no):=by
 cases hall:(List.range n).all p with
 | true=>
  rw[cond_true];exact loop_seq f T yes n (fun i hi=>hn i hi (List.all_eq_true.1 hall i (List.mem_range.2 hi))) he
 | false=>
  rw[cond_false]
  have hex:∃ i,i<n∧p i=false:=by
   have:¬ ∀ i∈List.range n,p i=true:=fun h=>by rw[List.all_eq_true.2 h]at hall;cases hall
   simpa using this
  let P:Nat→Prop:=fun m=>m<n∧p m=false
  obtain⟨m,hm⟩:=hex
  have key:∀ m,m<n→p m=false→∃ k,k<n∧p k=false∧∀ j,j<k→p j=true:=by
   intro m
   induction m using Nat.strongRecOn with
   | ind m ih=>
    intro h1 h2
    by_cases h:∃ j,j<m∧p j=false
    ·obtain⟨j,hj,hpj⟩:=h;exact ih j hj (by omega) hpj
    ·refine⟨m,h1,h2,fun j hj=>?_⟩
     cases hpj:p j with
     | true=>rfl
     | false=>exact(h ⟨j,hj,hpj⟩).elim
  obtain⟨k,hk,hpk,hlt⟩:=key m hm.1 hm.2;rw[Xg f T k (fun i hi=>hn i (by omega) (hlt i hi))];exact Es (hf k hk hpk)
theorem Il(i:Nat):((i:Int)).toNat=i:=Int.toNat_natCast i
theorem w1{i:Nat}(h:i<4611686018427387904):Ar ((i:Int)+1)=((i+1:Nat):Int):=by rw[w64_of (by omega) (by omega)];omega
theorem T8{i n:Nat}(h:i<n):decide (((i:Nat):Int)<((n:Nat):Int))=true:=by simpa using h
theorem X8{n:Nat}:decide (((n:Nat):Int)<((n:Nat):Int))=false:=by simp
theorem inb{i n:Nat}(h:i<n):A5 ((i:Nat):Int) n:=F6 h
def R3(w:Int):Prop:=w=1∨w=8∨w=16∨w=32∨w=64
def u64(x:Int):Prop:=0≤x∧x<18446744073709551616
theorem Hq(x:Int):u64 (B3 x):=by rw[Ql];unfold u64;omega
theorem wd_pow{w:Int}(h:R3 w):(0:Int)<2 ^ w.toNat∧(2:Int) ^ w.toNat≤18446744073709551616:=by rcases h with rfl|rfl|rfl|rfl|rfl<;>decide
theorem Kg{w:Int}(h:R3 w)(x:Int):0≤x % 2 ^ w.toNat∧x % 2 ^ w.toNat<2 ^ w.toNat:=by
 have:=(wd_pow h).1;exact⟨Int.emod_nonneg _ (by omega),Int.emod_lt_of_pos _ this⟩
theorem Mm{w x:Int}(h:R3 w)(h0:0≤x)(h1:x<2 ^ w.toNat):u64 x:=⟨h0,Int.lt_of_lt_of_le h1 (wd_pow h).2⟩
theorem shsh{v:Int}{a:Nat}{p q:Int}(hp:(2:Int) ^ min ((a:Int).toNat) 64=p)(hq:∀ v:Int,v*p % 18446744073709551616 / p=v % q)(h0:0≤p):F4 .u64 (Ho .u64 v (a:Int)) (a:Int)=v % q:=by
 have e1:Ho .u64 v (a:Int)=v*p % 18446744073709551616:=by
  show IntKind.u64.wrap (v*2 ^ min ((a:Int).toNat) 64)=_
  rw[hp];exact Ql _
 have e2:∀ x:Int,F4 .u64 x (a:Int)=x.fdiv p:=fun x=>by
  show x.fdiv (2 ^ min ((a:Int).toNat) 64)=_
  rw[hp]
 rw[e1,e2,Int.fdiv_eq_ediv_of_nonneg _ h0,hq]
theorem c_May{w:Int}(h:R3 w):Cl w=some true:=by rcases h with rfl|rfl|rfl|rfl|rfl<;>rfl
theorem Mq{v w:Int}(hw:R3 w)(h:u64 v):Cq v w=some (v % 2 ^ w.toNat):=by
 rcases hw with rfl|rfl|rfl|rfl|rfl
 ·rw[show Cq v 1=some (F4 .u64 (Ho .u64 v ((63:Nat):Int)) ((63:Nat):Int)) by kernel_rfl,shsh (p:=9223372036854775808) (q:=2) (by decide) (fun v=>by omega) (by decide)];rfl
 ·rw[show Cq v 8=some (F4 .u64 (Ho .u64 v ((56:Nat):Int)) ((56:Nat):Int)) by kernel_rfl,shsh (p:=72057594037927936) (q:=256) (by decide) (fun v=>by omega) (by decide)];rfl
 ·rw[show Cq v 16=some (F4 .u64 (Ho .u64 v ((48:Nat):Int)) ((48:Nat):Int)) by kernel_rfl,shsh (p:=281474976710656) (q:=65536) (by decide) (fun v=>by omega) (by decide)];rfl
 ·rw[show Cq v 32=some (F4 .u64 (Ho .u64 v ((32:Nat):Int)) ((32:Nat):Int)) by kernel_rfl,shsh (p:=4294967296) (q:=4294967296) (by decide) (fun v=>by omega) (by decide)];rfl
 ·rw[show Cq v 64=some (F4 .u64 (Ho .u64 v ((0:Nat):Int)) ((0:Nat):Int)) by kernel_rfl,shsh (p:=1) (q:=18446744073709551616) (by decide) (fun v=>by omega) (by decide)];rfl
theorem H6{op:BinOp}{x y:Int}:u64 (Dq op .u64 x y):=by
 unfold Dq
 split<;>first|exact Hq _|exact⟨Int.le_refl _,by decide⟩
theorem shl_u64{x y:Int}:u64 (Ho .u64 x y):=Hq _
theorem shr_u64{x y:Int}(h:u64 x):u64 (F4 .u64 x y):=by
 unfold F4;have h2:(0:Int)<2 ^ min y.toNat IntKind.u64.bits:=Int.pow_pos (by decide);rw[Int.fdiv_eq_ediv_of_nonneg _ (Int.le_of_lt h2)];exact⟨Int.ediv_nonneg h.1 (Int.le_of_lt h2),Int.lt_of_le_of_lt (Int.ediv_le_self _ h.1) h.2⟩
theorem Kj(b:Bool):∃ z,C2 b=some z∧u64 z:=by cases b<;>exact⟨_,rfl,by unfold u64;decide⟩
theorem Sv{v w:Int}(hw:R3 w):∃ z,Cn v w=some z:=by
 rcases hw with rfl|rfl|rfl|rfl|rfl
 ·exact⟨F4 .i64 (Ar (Ho .u64 v 63)) 63,by kernel_rfl⟩
 ·exact⟨F4 .i64 (Ar (Ho .u64 v 56)) 56,by kernel_rfl⟩
 ·exact⟨F4 .i64 (Ar (Ho .u64 v 48)) 48,by kernel_rfl⟩
 ·exact⟨F4 .i64 (Ar (Ho .u64 v 32)) 32,by kernel_rfl⟩
 ·exact⟨F4 .i64 (Ar (Ho .u64 v 0)) 0,by kernel_rfl⟩
theorem wu_wd{w:Int}(h:R3 w):B3 w=w:=by rcases h with rfl|rfl|rfl|rfl|rfl<;>rfl
theorem c_apply{k w x y:Int}(hk:1≤k∧k≤12)(hw:R3 w)(hx:u64 x)(hy:u64 y)(h4:k=4→y≠0):∃ z,Bm k w x y=some z∧u64 z:=by
 obtain⟨k1,k2⟩:=hk
 have hc:k=1∨k=2∨k=3∨k=4∨k=5∨k=6∨k=7∨k=8∨k=9∨k=10∨k=11∨k=12:=by omega
 rcases hc with rfl|rfl|rfl|rfl|rfl|rfl|rfl|rfl|rfl|rfl|rfl|rfl
 ·exact⟨B3 (x+y),by kernel_rfl,Hq _⟩
 ·exact⟨B3 (x-y),by kernel_rfl,Hq _⟩
 ·exact⟨B3 (x*y),by kernel_rfl,Hq _⟩
 ·refine⟨B3 (Int.tdiv x y),?_,Hq _⟩;rw[show Bm 4 w x y=(D9 x y).bind fun x2=>some x2 by kernel_rfl];unfold D9;rw[Jd (h4 rfl)];rfl
 ·exact⟨Dq .and .u64 x y,by kernel_rfl,H6⟩
 ·exact⟨Dq .or .u64 x y,by kernel_rfl,H6⟩
 ·exact⟨Dq .xor .u64 x y,by kernel_rfl,H6⟩
 ·rw[show Bm 8 w x y=(C0 x y w).bind fun x2=>some x2.1 by kernel_rfl];unfold C0;rw[Jd hy.1]
  cases decide (B3 w≤y)
  ·exact⟨_,rfl,shl_u64⟩
  ·exact⟨_,rfl,show u64 0 from⟨Int.le_refl _,by decide⟩⟩
 ·rw[show Bm 9 w x y=(C1 x y w).bind fun x2=>some x2.1 by kernel_rfl];unfold C1;rw[Jd hy.1]
  cases decide (B3 w≤y)
  ·exact⟨_,rfl,shr_u64 hx⟩
  ·exact⟨_,rfl,show u64 0 from⟨Int.le_refl _,by decide⟩⟩
 ·rw[show Bm 10 w x y=((C2 ((x:Int)==y)).bind fun x1=>some x1).bind fun x2=>some x2 by kernel_rfl];obtain⟨z,h1,h2⟩:=Kj ((x:Int)==y);rw[h1];exact⟨z,rfl,h2⟩
 ·rw[show Bm 11 w x y=((C2 (decide (x<y))).bind fun x1=>some x1).bind fun x2=>some x2 by kernel_rfl];obtain⟨z,h1,h2⟩:=Kj (decide (x<y));rw[h1];exact⟨z,rfl,h2⟩
 ·rw[show Bm 12 w x y=(Dp x y w).bind fun x2=>some x2.1 by kernel_rfl];unfold Dp;obtain⟨p,hp⟩:=Sv (v:=x) hw;obtain⟨q,hq⟩:=Sv (v:=y) hw;rw[hp,hq];obtain⟨z,h1,h2⟩:=Kj (decide (p<q));simp only[Option.bind_some,h1];exact⟨z,rfl,h2⟩
theorem c_Two{k w:Int}(hk:1≤k∧k≤12)(hw:R3 w):K2 k w=some true:=by
 unfold K2;rw[decide_eq_true hk.1,decide_eq_true hk.2,c_May hw]
 rfl
theorem c_Do{k w a b:Int}(hk:1≤k∧k≤12)(hw:R3 w)(ha:u64 a)(hb:u64 b) :
  ∃ v e,D4 k w a b=some (v,e)∧0≤v∧v<2 ^ w.toNat∧(e=0∧(k=4→b % 2 ^ w.toNat≠0)∨e=8∧v=0∧k=4∧b % 2 ^ w.toNat=0):=by
 unfold D4;rw[c_Two hk hw,Mq hw ha,Mq hw hb];simp only[Option.bind_some,Bool.not_true,cond_false];have hp:=(wd_pow hw).1;obtain⟨x0,x1⟩:=Kg hw a;obtain⟨y0,y1⟩:=Kg hw b
 by_cases h4:k=4∧b % 2 ^ w.toNat=0
 ·rw[h4.1,h4.2];exact⟨0,8,rfl,Int.le_refl _,hp,.inr ⟨rfl,rfl,rfl,rfl⟩⟩
 ·have hg:(bif ((k:Int)==(4:Int)) then((b % 2 ^ w.toNat:Int)==(0:Int)) else false)=false:=by
   cases hk4:((k:Int)==(4:Int)) with
   | false=>rfl
   | true=>
    rw[cond_true,beq_eq_false_iff_ne];exact fun h=>h4 ⟨by simpa using hk4,h⟩
  rw[hg,cond_false];obtain⟨z,h1,h2⟩:=c_apply hk hw (Mm hw x0 x1) (Mm hw y0 y1) (fun h h'=>h4 ⟨h,h'⟩);rw[h1,Option.bind_some,Mq hw h2];obtain⟨z0,z1⟩:=Kg hw z;exact⟨_,0,rfl,z0,z1,.inl ⟨rfl,fun h h'=>h4 ⟨h,h'⟩⟩⟩
abbrev Vs:=List (List Int)
abbrev OR:=List Int×Int×Int×Int×List Ac×Vs×List Int
def H1(x:List Int×Int)(V:Vs)(F S:Int)(B:List Int)(T:List Ac):OR:=(x.1,x.2,F,S,T,V,B)
def memR(V:Vs)(B:List Int)(x:OR):Option OR:=Aw (V.length=x.2.2.2.2.2.1.length) (Aw (B.length=x.2.2.2.2.2.2.length) (some x))
def opM(o:Dj)(V:Vs)(F S:Int)(B:List Int)(T:List Ac):Option OR:=
 bif decide (o.Kind=0) then(He o).bind fun x=>some (H1 x V F S B T) else
 bif decide (o.Kind=13) then(Ec o V F S B T).bind fun x=>some (H1 x V F S B T) else
 bif decide (o.Kind=14) then(Da o V F S B T).bind fun x=>some (H1 x V F S B T) else
 bif decide (o.Kind=15) then(Cw o V F S B T).bind fun x=>some (H1 x V F S B T) else
 bif decide (o.Kind=16) then(Dt o V F S B T).bind (memR V B) else
 bif decide (o.Kind=17) then(Df o V F S B T).bind (memR V B) else
 bif decide (o.Kind=18) then(C9 o V F S B T).bind (memR V B) else
 bif decide (o.Kind=19) then(Cu o V F S B T).bind (memR V B) else
 bif decide (o.Kind=20) then(Cv o 4 V F S B T).bind fun x=>some (H1 x V F S B T) else
 bif decide (o.Kind=21) then(Ey o V F S B T).bind fun x=>some (H1 x V F S B T) else
 bif decide (o.Kind=22) then(Fj o V F S B T).bind fun x=>some (H1 x V F S B T) else
 bif decide (o.Kind=1) then(Ah o 1 V F S B T).bind fun x=>some (H1 x V F S B T) else
 bif decide (o.Kind=2) then(Ah o 2 V F S B T).bind fun x=>some (H1 x V F S B T) else
 bif decide (o.Kind=3) then(Ah o 3 V F S B T).bind fun x=>some (H1 x V F S B T) else
 bif decide (o.Kind=4) then(Ah o 4 V F S B T).bind fun x=>some (H1 x V F S B T) else
 bif decide (o.Kind=5) then(Ah o 5 V F S B T).bind fun x=>some (H1 x V F S B T) else
 bif decide (o.Kind=6) then(Ah o 6 V F S B T).bind fun x=>some (H1 x V F S B T) else
 bif decide (o.Kind=7) then(Ah o 7 V F S B T).bind fun x=>some (H1 x V F S B T) else
 bif decide (o.Kind=8) then(Ah o 8 V F S B T).bind fun x=>some (H1 x V F S B T) else
 bif decide (o.Kind=9) then(Ah o 9 V F S B T).bind fun x=>some (H1 x V F S B T) else
 bif decide (o.Kind=10) then(Ah o 10 V F S B T).bind fun x=>some (H1 x V F S B T) else
 bif decide (o.Kind=11) then(Ah o 11 V F S B T).bind fun x=>some (H1 x V F S B T) else
 bif decide (o.Kind=12) then(Ah o 12 V F S B T).bind fun x=>some (H1 x V F S B T) else none
abbrev DR:=Int×Int×Int×List Ac×Vs×List Int
def doG:List Dj→Vs→Int→Int→List Int→List Ac→Option DR
 | [],V,F,S,B,T=>some (0,F,S,T,V,B)
 | o::l,V,F,S,B,T=>
  bif S==F then some (9,F,S,T,V,B) else
  (opM o V F (Ar (S+1)) B T).bind fun x=>
   bif x.2.1 !=0 then some (x.2.1,x.2.2.1,x.2.2.2.1,x.2.2.2.2.1,x.2.2.2.2.2.1,x.2.2.2.2.2.2)
   else Aw (A5 o.Dst x.2.2.2.2.2.1.length) (doG l (x.2.2.2.2.2.1.set o.Dst.toNat x.1) x.2.2.1 x.2.2.2.1 x.2.2.2.2.2.2 x.2.2.2.2.1)
theorem chk_T{R:Type}[Decidable True]{k:Option R}:Aw True k=k:=if_pos trivial
theorem doL{ops:List Dj}{i:Nat}(hi:i<ops.length)(hn:ops.length<4611686018427387904)(F S:Int)(T:List Ac)(V:Vs)(B:List Int) :
  Ce ops ((i:Int),F,S,T,V,B)=bif S==F then some (.done (.inr (9,F,S,T,V,B))) else
   (opM (ops.getD i default) V F (Ar (S+1)) B T).bind fun x=>
    bif x.2.1 !=0 then some (.done (.inr (x.2.1,x.2.2.1,x.2.2.2.1,x.2.2.2.2.1,x.2.2.2.2.2.1,x.2.2.2.2.2.2)))
    else Aw (A5 (ops.getD i default).Dst x.2.2.2.2.2.1.length) (some (.next (((i+1:Nat):Int),x.2.2.1,x.2.2.2.1,x.2.2.2.2.1,x.2.2.2.2.2.1.set (ops.getD i default).Dst.toNat x.1,x.2.2.2.2.2.2))):=by
 unfold Ce Ck
 cases hSF:((S:Int)==F) with
 | true=>simp only[hSF,T8 hi,cond_true,Option.bind_some,chk_T,Bool.not_false]
 | false=>
  simp only[hSF,T8 hi,cond_true,cond_false,Option.bind_some,Bool.not_true,Bj (F6 hi),Il,w1 (Nat.lt_of_lt_of_le hi (Nat.le_of_lt hn))]
  rfl
theorem doAll_go{ops:List Dj}(hn:ops.length<4611686018427387904):∀(k i:Nat) (V:Vs) (F S:Int) (B:List Int) (T:List Ac),i+k=ops.length→
  ((Az (Ce ops) ((i:Int),F,S,T,V,B)).bind fun x=>match x with | .inl y=>some ((0:Int),y) | .inr r=>some r)=doG (ops.drop i) V F S B T
 | 0,i,V,F,S,B,T,h=>by
  obtain rfl:i=ops.length:=by omega
  rw[List.drop_length,Es (x:=.inl (F,S,T,V,B)) (by unfold Ce;simp only[X8,cond_false])]
  rfl
 | k+1,i,V,F,S,B,T,h=>by
  have hi:i<ops.length:=by omega
  have hd:ops.drop i=ops.getD i default::ops.drop (i+1):=by rw[List.drop_eq_getElem_cons hi,L8 _ _ _ hi]
  rw[hd,doG];have hs:=doL hi hn F S T V B
  cases hSF:((S:Int)==F) with
  | true=>
   rw[hSF,cond_true]at hs;rw[Es hs,cond_true];rfl
  | false=>
   rw[hSF,cond_false]at hs;rw[cond_false]
   cases ho:opM (ops.getD i default) V F (Ar (S+1)) B T with
   | none=>rw[ho]at hs;rw[Sd hs];rfl
   | some x=>
    rw[ho]at hs;simp only[Option.bind_some]at hs ⊢
    cases he:((x.2.1:Int)!=0) with
    | true=>rw[he,cond_true]at hs;rw[Es hs,cond_true];rfl
    | false=>
     rw[he,cond_false]at hs;rw[cond_false]
     by_cases hc:A5 (ops.getD i default).Dst x.2.2.2.2.2.1.length
     ·rw[Bj hc]at hs ⊢;rw[Hl hs,doAll_go hn k (i+1) _ _ _ _ _ (by omega)]
     ·rw[Aw,if_neg hc]at hs ⊢;rw[Sd hs];rfl
theorem doAll_eq{ops:List Dj}(hn:ops.length<4611686018427387904)(V:Vs)(F S:Int)(B:List Int)(T:List Ac):Cr ops V F S B T=doG ops V F S B T:=by
 have:=doAll_go hn ops.length 0 V F S B T (by omega);rw[List.drop_zero]at this;rw[← this];unfold Cr
 congr 1
 funext x
 rcases x with⟨a,b,c,d,e⟩|r<;>rfl
abbrev RR:=Ka×Int×Int×List Ac×Vs×List Int
abbrev ST:=Int×Int×Int×List Ac×Vs×List Int
def blG(bs:List Aj)(at_:Int)(V:Vs)(F S:Int)(B:List Int)(T:List Ac):Option (LR ST RR):=
 Aw (A5 at_ bs.length) ((doG (bs.getD at_.toNat default).Ops V F S B T).bind fun x=>
  Aw (V.length=x.2.2.2.2.1.length) (Aw (B.length=x.2.2.2.2.2.length) (
  bif x.1 !=0 then some (.done (⟨x.1,0,x.2.2.1⟩,x.2.1,x.2.2.1,x.2.2.2.1,x.2.2.2.2.1,x.2.2.2.2.2))
  else bif x.2.2.1==x.2.1 then some (.done (⟨9,0,x.2.2.1⟩,x.2.1,x.2.2.1,x.2.2.2.1,x.2.2.2.2.1,x.2.2.2.2.2))
  else bif (bs.getD at_.toNat default).End.Kind==0 then
   (A0 (bs.getD at_.toNat default).End.Arg x.2.2.2.2.1 x.2.1 (Ar (x.2.2.1+1)) x.2.2.2.2.2 x.2.2.2.1).bind fun v=>
    some (.done (⟨0,v,Ar (x.2.2.1+1)⟩,x.2.1,Ar (x.2.2.1+1),x.2.2.2.1,x.2.2.2.2.1,x.2.2.2.2.2))
  else bif (bs.getD at_.toNat default).End.Kind==3 then some (.done (⟨8,0,Ar (x.2.2.1+1)⟩,x.2.1,Ar (x.2.2.1+1),x.2.2.2.1,x.2.2.2.2.1,x.2.2.2.2.2))
  else(D8 (bs.getD at_.toNat default).End x.2.2.2.2.1 x.2.1 (Ar (x.2.2.1+1)) x.2.2.2.2.2 x.2.2.2.1).bind fun to=>
   Aw (A5 to bs.length) ((Ds (bs.getD to.toNat default).Phis at_ x.2.2.2.2.1 x.2.1 (Ar (x.2.2.1+1)) x.2.2.2.2.2 x.2.2.2.1).bind fun y=>
    Aw (x.2.2.2.2.1.length=y.2.2.2.1.length) (Aw (x.2.2.2.2.2.length=y.2.2.2.2.length) (some (.next (to,y.1,y.2.1,y.2.2.1,y.2.2.2.1,y.2.2.2.2))))))))
theorem run_F{bs:List Aj}(hb:∀ b∈bs,b.Ops.length<4611686018427387904)(at_ F S:Int)(T:List Ac)(V:Vs)(B:List Int):Bf bs (at_,F,S,T,V,B)=blG bs at_ V F S B T:=by
 unfold Bf blG
 by_cases hi:A5 at_ bs.length
 ·have hm:(bs.getD at_.toNat default)∈bs:=Km (by have:=hi.1;have:=hi.2;omega);simp only[Bj hi,doAll_eq (hb _ hm)]
  congr 1
  funext x
  congr 2
  cases(x.1 !=0)
  ·unfold Ck
   cases(x.2.2.1==x.2.1)
   ·simp only[cond_false,Option.bind_some,Bool.not_true]
    rfl
   ·simp only[cond_false,cond_true,Option.bind_some,Bool.not_false]
    rfl
  ·rfl
 ·simp only[Aw,if_neg hi]
theorem run_eq{bs:List Aj}(V:Vs)(F S:Int)(B:List Int)(T:List Ac):D7 bs V F S B T=Az (Bf bs) (0,F,S,T,V,B):=by
 have e:D7 bs V F S B T=(Li (Bf bs (0,F,S,T,V,B)) (Bf bs)).bind some:=rfl;rw[e,scopeO_self]
 cases Az (Bf bs) (0,F,S,T,V,B)<;>rfl
def okBy(B:List Int):Prop:=∀ x∈B,0≤x∧x<256
structure Slot(V:Vs)(v:Int)(l:List Int):Prop where
 lo:0≤v
 hi:v<V.length
 is:V.getD v.toNat []=l
theorem Slot.inb{V:Vs}{v:Int}{l:List Int}(h:Slot V v l):A5 v V.length:=⟨h.lo,h.hi⟩
def Arg(o:Dj)(i:Nat)(v:Int):Prop:=i<o.Args.length∧o.Args.getD i 0=v
theorem Arg.inb{o:Dj}{i:Nat}{v:Int}(h:Arg o i v):A5 (i:Int) o.Args.length:=F6 h.1
theorem Arg.g{o:Dj}{i:Nat}{v:Int}(h:Arg o i v):o.Args.getD ((i:Nat):Int).toNat 0=v:=by rw[Il];exact h.2
section
variable {o:Dj} {V:Vs} {F S:Int} {B:List Int} {T:List Ac}
structure MemOk(B:List Int)(T:List Ac):Prop where
 by_:okBy B
 len:B.length<4611686018427387904
 room:T.length+128≤room
def Zb(k w a b:Int):Int×Int:=(D4 k w a b).getD (0,1)
def twoR(k w:Int)(A C:List Int):List Int×Int:=
 bif (List.range A.length).all (fun i=>(Zb k w (A.getD i 0) (C.getD i 0)).2==0) then((List.range A.length).map (fun i=>(Zb k w (A.getD i 0) (C.getD i 0)).1),0) else([],8)
theorem set_fill{f:Nat→Int}{n i:Nat}(h:i<n):((List.range i).map f++List.replicate (n-i) (0:Int)).set i (f i)=(List.range (i+1)).map f++List.replicate (n-(i+1)) 0:=by
 obtain⟨m,hm⟩:∃ m,n-i=m+1:=⟨n-i-1,by omega⟩
 have hm':n-(i+1)=m:=by omega
 rw[hm,hm',List.replicate_succ,List.set_append_right _ _ (by simp),List.range_succ,List.map_append,List.append_assoc]
 simp
theorem c_two {p q : Int} {A C : List Int} {k : Int} (hk : 1 ≤ k ∧ k ≤ 12) (hw : R3 o.Bits) (h0 : Arg o 0 p) (h1 : Arg o 1 q) (s0 : Slot V p A) (s1 : Slot V q C) (hl : C.length = A.length) (hr : A.length ≤ 64)
    (hA : ∀ x ∈ A, u64 x) (hC : ∀ x ∈ C, u64 x) : Ah o k V F S B T = some (twoR k o.Bits A C) := by
  have e0 := h0.g; have i0 := h0.inb; have e1 := h1.g; have i1 := h1.inb; simp only [Int.cast_ofNat_Int] at e0 i0 e1 i1; unfold Ah
  have hroom : ((A.length : Int)) ≤ (room : Int) := by have : (64 : Nat) ≤ room := by decide
                                                       omega
  rw [Bj i0, e0, Bj s0.inb, Bj i1, e1, Bj s1.inb, s0.is, Bj ⟨by omega, by omega, hroom⟩]
  have hdo : ∀ i, i < A.length → ∃ v e, D4 k o.Bits (A.getD i 0) (C.getD i 0) = some (v, e) ∧ (e = 0 ∨ e = 8) := fun i hi => by
    obtain ⟨v, e, h1, _, _, h2⟩ := c_Do hk hw (hA _ (Km hi)) (hC _ (Km (i := i) (by omega))); exact ⟨v, e, h1, by rcases h2 with ⟨h, _⟩ | ⟨h, _⟩ <;> simp [h]⟩
  have hL := loop_find (Bw o k V) (fun i => ((i : Int), (List.range i).map (fun i => (Zb k o.Bits (A.getD i 0) (C.getD i 0)).1) ++ List.replicate (A.length - i) (0 : Int)))
    (fun i => (Zb k o.Bits (A.getD i 0) (C.getD i 0)).2 == 0) (.inl ((List.range A.length).map (fun i => (Zb k o.Bits (A.getD i 0) (C.getD i 0)).1))) (.inr ([], 8)) A.length
    (fun i hi hp => by
      obtain ⟨v, e, hd, he⟩ := hdo i hi
      have hD : Zb k o.Bits (A.getD i 0) (C.getD i 0) = (v, e) := by unfold Zb; rw [hd]; rfl
      rw [hD] at hp
      have he0 : e = 0 := by simpa using hp
      subst he0; unfold Bw; simp only [e0, e1, s0.is, s1.is, Il, List.length_replicate, T8 hi, cond_true, Bj (F6 hi), Bj (F6 (show i < C.length by omega)), hd, Option.bind_some, w1 (show i < 4611686018427387904 by omega)]; rw [show ((0 : Int) != 0) = false from rfl, cond_false, Bj (F6 (by simp; omega))]; have := set_fill (f := fun i => (Zb k o.Bits (A.getD i 0) (C.getD i 0)).1) hi; simp only [hD] at this
      rw [this])
    (fun i hi hp => by
      obtain ⟨v, e, hd, he⟩ := hdo i hi
      have hD : Zb k o.Bits (A.getD i 0) (C.getD i 0) = (v, e) := by unfold Zb; rw [hd]; rfl
      rw [hD] at hp
      have he8 : e = 8 := by
        rcases he with rfl | rfl
        · simp at hp
        · rfl
      subst he8; unfold Bw; simp only [e0, e1, s0.is, s1.is, Il, List.length_replicate, T8 hi, cond_true, Bj (F6 hi), Bj (F6 (show i < C.length by omega)), hd, Option.bind_some]
      rw [show ((8 : Int) != 0) = true from rfl, cond_true])
    (by
      unfold Bw
      simp only [e0, s0.is, Il, List.length_replicate, X8, cond_false, Nat.sub_self, List.replicate_zero, List.append_nil])
  simp only [List.range_zero, List.map_nil, List.nil_append, Nat.sub_zero] at hL; have hL' : Az (Bw o k V) ((0 : Int), List.replicate A.length (0 : Int)) = _ := hL; rw [Il, hL']; unfold twoR
  cases (List.range A.length).all (fun i => (Zb k o.Bits (A.getD i 0) (C.getD i 0)).2 == 0) <;> rfl
theorem op_two{p q:Int}{A C:List Int}(hk:1≤o.Kind∧o.Kind≤12)(hw:R3 o.Bits)(h0:Arg o 0 p)(h1:Arg o 1 q)(s0:Slot V p A)(s1:Slot V q C)(hl:C.length=A.length)(hr:A.length≤64)
  (hA:∀ x∈A,u64 x) (hC:∀ x∈C,u64 x):opM o V F S B T=some (H1 (twoR o.Kind o.Bits A C) V F S B T):=by
 obtain⟨k1,k2⟩:=hk
 have hc:o.Kind=1∨o.Kind=2∨o.Kind=3∨o.Kind=4∨o.Kind=5∨o.Kind=6∨o.Kind=7∨o.Kind=8∨o.Kind=9∨o.Kind=10∨o.Kind=11∨o.Kind=12:=by omega
 have key:=fun k (hk:1≤k∧k≤12)=>c_two (F:=F) (S:=S) (B:=B) (T:=T) hk hw h0 h1 s0 s1 hl hr hA hC;unfold opM;rcases hc with h|h|h|h|h|h|h|h|h|h|h|h<;>rw[h] <;>
  simp only[Int.reduceEq,decide_false,decide_true,cond_false,cond_true]<;>rw[key _ (by decide)]<;>rfl
end
theorem room_is:room=1099511627776:=rfl
theorem m_New_ok{b:List Int}(h:b.length≤4096):Ki b=some ((true,⟨b,[]⟩),0):=by
 unfold Ki Cx;rw[decide_eq_false (by omega),cond_false,Jd (by rw[room_is];omega)]
 rfl
section
variable {o:Dj} {V:Vs} {F S:Int} {B:List Int} {T:List Ac}
def tailO(o:Dj):Dj:=⟨o.Kind,o.Bits,o.Lanes,o.Dst,o.Args.drop 1,o.Imm⟩
theorem Arg.tail{i:Nat}{v:Int}(h:Arg o (i+1) v):Arg (tailO o) i v:=by
 obtain⟨h1,h2⟩:=h;refine⟨by simp[tailO];omega,?_⟩;rw[← h2];simp[tailO,List.getD]
end
theorem c_deeds(V:Vs)(F S:Int)(B:List Int)(T:List Ac):Dl V F S B T=some ():=by kernel_rfl
def Sq(ps ags:List Int)(i:Nat):List Int:=[ags.getD i 0 % 2 ^ (ps.getD i 0).toNat]
def Pl(f:Ag)(ags:List Int)(n:Nat):Vs:=
 ((f.Blocks.getD 0 default).Phis).foldl (fun V p=>V.set p.Dst.toNat [0]) ([]::((List.range f.Params.length).map (Sq f.Params ags)++List.replicate (n-f.Params.length) []))
theorem set_arg{g:Nat→List Int}{n i:Nat}(h:i<n):(([]:List Int)::((List.range i).map g++List.replicate (n-i) [])).set (i+1) (g i)=[]::((List.range (i+1)).map g++List.replicate (n-(i+1)) []):=by
 obtain⟨m,hm⟩:∃ m,n-i=m+1:=⟨n-i-1,by omega⟩
 have hm':n-(i+1)=m:=by omega
 rw[hm,hm',List.replicate_succ,List.set_cons_succ,List.set_append_right _ _ (by simp),List.range_succ,List.map_append,List.append_assoc]
 simp
theorem Xd{l:List G6}{V:Vs}:(l.foldl (fun V p=>V.set p.Dst.toNat [0]) V).length=V.length:=by
 induction l generalizing V with
 | nil=>rfl
 | cons p l ih=>rw[List.foldl_cons,ih,List.length_set]
theorem Vt{f:Ag}(hn:((f.Blocks.getD 0 default).Phis).length<4611686018427387904):∀(k i:Nat) (V:Vs),i+k=((f.Blocks.getD 0 default).Phis).length→(∀ p∈(f.Blocks.getD 0 default).Phis,A5 p.Dst V.length)→
  Az (Cd f) ((i:Int),V)=some ((((f.Blocks.getD 0 default).Phis).drop i).foldl (fun V p=>V.set p.Dst.toNat [0]) V)
 | 0,i,V,h,_=>by
  obtain rfl:i=((f.Blocks.getD 0 default).Phis).length:=by omega
  rw[List.drop_length];refine Es ?_;unfold Cd
  show(bif decide _ then _ else _)=_
  rw[show((0:Int)).toNat=0 from rfl,X8,cond_false];rfl
 | k+1,i,V,h,hp=>by
  have hi:i<((f.Blocks.getD 0 default).Phis).length:=by omega
  have hd:((f.Blocks.getD 0 default).Phis).drop i=((f.Blocks.getD 0 default).Phis).getD i default::((f.Blocks.getD 0 default).Phis).drop (i+1):=by rw[List.drop_eq_getElem_cons hi,L8 _ _ _ hi]
  rw[hd,List.foldl_cons,← Vt hn k (i+1) _ (by omega) (fun p hpp=>by rw[List.length_set];exact hp p hpp)];refine Hl ?_;unfold Cd;simp only[show((0:Int)).toNat=0 from rfl,T8 hi,cond_true,Bj (F6 hi),Il,Et,Option.bind_some,Bj (hp _ (Km hi)),w1 (show i<4611686018427387904 by omega)]
theorem c_begin{f:Ag}{ags:List Int}{n:Nat}(F S:Int)(B:List Int)(T:List Ac)(hl:ags.length=f.Params.length)(hw:∀ w∈f.Params,R3 w)(ha:∀ a∈ags,u64 a)(hn:f.Params.length≤n)(hn':n<4000000)(hb:0<f.Blocks.length)
  (hpl:((f.Blocks.getD 0 default).Phis).length<4611686018427387904) (hp:∀ p∈(f.Blocks.getD 0 default).Phis,A5 p.Dst (n+1)) :
  De f ags (List.replicate (n+1) []) F S B T=some (F,S,T,Pl f ags n,B):=by
 have hL:=loop_seq (Cc f ags) (fun i=>((i:Int),([]:List Int)::((List.range i).map (Sq f.Params ags)++List.replicate (n-i) ([]:List Int)))) (([]:List Int)::((List.range f.Params.length).map (Sq f.Params ags)++List.replicate (n-f.Params.length) [])) f.Params.length
  (fun i hi=>by
   unfold Cc;simp only[T8 hi,cond_true,Bj (F6 hi),Bj (F6 (show i<ags.length by omega)),Il,Mq (hw _ (Km hi)) (ha _ (Km (show i<ags.length by omega))),Et,Option.bind_some,w1 (show i<4611686018427387904 by omega)];rw[Bj (F6 (by simp;omega))];have:=set_arg (g:=Sq f.Params ags) (show i<n by omega);unfold Sq at this ⊢
   rw[this])
  (by
   unfold Cc
   simp only[X8,cond_false])
 simp only[List.range_zero,List.map_nil,List.nil_append,Nat.sub_zero]at hL
 have hL':Az (Cc f ags) ((0:Int),List.replicate (n+1) ([]:List Int))=some (([]:List Int)::((List.range f.Params.length).map (Sq f.Params ags)++List.replicate (n-f.Params.length) [])):=by rw[List.replicate_succ];exact hL
 unfold De;rw[hL',Option.bind_some,Bj (show A5 (0:Int) f.Blocks.length from⟨Int.le_refl _,by omega⟩)]
 have h2:=Vt hpl ((f.Blocks.getD 0 default).Phis).length 0 (([]:List Int)::((List.range f.Params.length).map (Sq f.Params ags)++List.replicate (n-f.Params.length) [])) (by omega) (fun p hpp=>by
  have:=hp p hpp;rw[show(([]:List Int)::((List.range f.Params.length).map (Sq f.Params ags)++List.replicate (n-f.Params.length) [])).length=n+1 by simp;omega]
  exact this)
 rw[List.drop_zero]at h2;have h2':Az (Cd f) ((0:Int),([]:List Int)::((List.range f.Params.length).map (Sq f.Params ags)++List.replicate (n-f.Params.length) []))=some (Pl f ags n):=h2;rw[h2'];rfl
def outR(V:Vs)(B:List Int)(x:RR):Option (Ka×Int×List Ac×List Int):=Aw (V.length=x.2.2.2.2.1.length) (Aw (B.length=x.2.2.2.2.2.length) (some (x.1,0,x.2.2.2.1,x.2.2.2.2.2)))
theorem beginV_len{f:Ag}{ags:List Int}{n:Nat}(hn:f.Params.length≤n):(Pl f ags n).length=n+1:=by
 unfold Pl;rw[Xd]
 simp
 omega
theorem c_Run {f : Ag} {ags : List Int} {n : Nat} {F : Int} {B : List Int} {T : List Ac} (hF : 0 ≤ F) (hc : Fy f 2 = some 0) (hlast : Gx f = some (n : Int)) (hl : ags.length = f.Params.length) (hw : ∀ w ∈ f.Params, R3 w) (ha : ∀ a ∈ ags, u64 a) (hn : f.Params.length ≤ n) (hn' : n < 4000000)
    (hb : 0 < f.Blocks.length) (hpl : ((f.Blocks.getD 0 default).Phis).length < 4611686018427387904) (hp : ∀ p ∈ (f.Blocks.getD 0 default).Phis, A5 p.Dst (n + 1)) :
    Fi f ags F B T = (Az (Bf f.Blocks) (0, F, 0, T, Pl f ags n, B)).bind (outR (Pl f ags n) B) := by
  have hroom : (((n + 1 : Nat) : Int)) ≤ (room : Int) := by have : (4000001 : Nat) ≤ room := by decide
                                                            omega
  have e1 : (decide (F < 0)) = false := decide_eq_false (by omega)
  have e2 : ((ags.length : Int) != (f.Params.length : Int)) = false := by rw [hl]; simp
  unfold Fi; rw [e1, cond_false, e2, show ((false : Bool) == false) = true from rfl, cond_true, hc, Option.bind_some, cond_false, show ((0 : Int) != 0) = false from rfl, cond_false, hlast, Option.bind_some, w1 (show n < 4611686018427387904 by omega), Bj ⟨by omega, by omega, hroom⟩, Il, c_deeds, Option.bind_some, c_begin F 0 B T hl hw ha hn hn' hb hpl hp, Option.bind_some]; rw [Bj (show (List.replicate (n + 1) ([] : List Int)).length = (Pl f ags n).length by rw [beginV_len hn, List.length_replicate]), Bj rfl]; rw [run_eq]
  rfl
def endG(e:Hj)(F S:Int)(V:Vs)(B:List Int)(T:List Ac):Option Ka:=
 bif S==F then some ⟨9,0,S⟩ else bif e.Kind==0 then(A0 e.Arg V F (Ar (S+1)) B T).map fun v=>⟨0,v,Ar (S+1)⟩ else bif e.Kind==3 then some ⟨8,0,Ar (S+1)⟩ else none
theorem bl_trap{bs:List Aj}{V V':Vs}{F S S' e:Int}{B B':List Int}{T T':List Ac}{i:Nat}(hi:i<bs.length)(hd:doG (bs.getD i default).Ops V F S B T=some (e,F,S',T',V',B'))(he:e≠0)(hv:V.length=V'.length)(hb:B.length=B'.length) :
  blG bs (i:Int) V F S B T=some (.done (⟨e,0,S'⟩,F,S',T',V',B')):=by
 unfold blG;rw[Bj (F6 hi),Il,hd,Option.bind_some,Bj hv,Bj hb,show(e !=0)=true by simpa using he,cond_true]
theorem bl_end{bs:List Aj}{V V':Vs}{F S S':Int}{B B':List Int}{T T':List Ac}{i:Nat}{r:Ka}(hi:i<bs.length)(hd:doG (bs.getD i default).Ops V F S B T=some (0,F,S',T',V',B'))(hv:V.length=V'.length)(hb:B.length=B'.length)
  (he:endG (bs.getD i default).End F S' V' B' T'=some r):∃ S'',blG bs (i:Int) V F S B T=some (.done (r,F,S'',T',V',B')):=by
 unfold blG;rw[Bj (F6 hi),Il,hd,Option.bind_some,Bj hv,Bj hb,show((0:Int)!=0)=false from rfl,cond_false];unfold endG at he;simp only
 cases hs:(S'==F) with
 | true=>rw[hs,cond_true]at he;cases he;exact⟨_,rfl⟩
 | false=>
  rw[hs,cond_false]at he
  cases hk:((bs.getD i default).End.Kind==0) with
  | true=>
   rw[hk,cond_true]at he
   cases hm:A0 (bs.getD i default).End.Arg V' F (Ar (S'+1)) B' T' with
   | none=>rw[hm]at he;cases he
   | some v=>rw[hm]at he;cases he;exact⟨_,rfl⟩
  | false=>
   rw[hk,cond_false]at he
   cases hk3:((bs.getD i default).End.Kind==3) with
   | true=>rw[hk3,cond_true]at he;cases he;exact⟨_,rfl⟩
   | false=>rw[hk3,cond_false]at he;cases he
theorem run_one{bs:List Aj}(hb:∀ b∈bs,b.Ops.length<4611686018427387904){V0 V V':Vs}{F S S'':Int}{B0 B B':List Int}{T T':List Ac}{r:Ka}(h:blG bs 0 V F S B T=some (.done (r,F,S'',T',V',B')))(hv:V0.length=V'.length)(hB:B0.length=B'.length) :
  (Az (Bf bs) (0,F,S,T,V,B)).bind (outR V0 B0)=some (r,0,T',B'):=by
 rw[Es ((run_F hb 0 F S T V B).trans h),Option.bind_some];unfold outR;rw[Bj hv,Bj hB]
theorem doG_ok{o:Dj}{l:List Dj}{V V':Vs}{F S:Int}{B B':List Int}{T T':List Ac}{L:List Int}(hs:S≠F)(ho:opM o V F (Ar (S+1)) B T=some (L,0,F,Ar (S+1),T',V',B'))(hd:A5 o.Dst V'.length) :
  doG (o::l) V F S B T=doG l (V'.set o.Dst.toNat L) F (Ar (S+1)) B' T':=by
 rw[doG,show(S==F)=false by simpa using hs,cond_false,ho,Option.bind_some]
 show(bif ((0:Int)!=0) then _ else _)=_
 rw[show((0:Int)!=0)=false from rfl,cond_false,Bj hd]
theorem doG_bad{o:Dj}{l:List Dj}{V V':Vs}{F S e:Int}{B B':List Int}{T T':List Ac}{L:List Int}(hs:S≠F)(ho:opM o V F (Ar (S+1)) B T=some (L,e,F,Ar (S+1),T',V',B'))(he:e≠0) :
  doG (o::l) V F S B T=some (e,F,Ar (S+1),T',V',B'):=by
 rw[doG,show(S==F)=false by simpa using hs,cond_false,ho,Option.bind_some]
 show(bif (e !=0) then _ else _)=_
 rw[show(e !=0)=true by simpa using he,cond_true]
theorem awake13:m_locksteplaw13_awake=some true:=by kernel_rfl
theorem w_u8{x:Int}(h:0≤x∧x<256):Ar x=x:=w64_of (by omega) (by omega)
theorem Yv{bs:List Aj}(h:(bs.all fun b=>decide (b.Ops.length<100))=true):∀ b∈bs,b.Ops.length<4611686018427387904:=fun b hb=>by
 have:=List.all_eq_true.1 h b hb;have:=of_decide_eq_true this;omega
theorem twoR_one{k w x v z e:Int}(h:Zb k w x v=(z,e))(he:e=0∨e=8):twoR k w [x] [v]=if e=0 then([z],0) else([],8):=by
 unfold twoR
 show(bif ((Zb k w x v).2==0&&true) then([(Zb k w x v).1],(0:Int)) else([],8))=_
 rw[h];rcases he with rfl|rfl<;>rfl
section
variable {B:List Int} {q p u v:Int} (hB:okBy B) (hL:B.length≤4096) (hp:0≤p∧p<256) (hu:0≤u∧u<256) (hv:0≤v∧v<256)
include hB hL hp hu hv
end
theorem r_May{w:Int}(h:R3 w):Bk w=some true:=by rcases h with rfl|rfl|rfl|rfl|rfl<;>rfl
theorem S8{v w:Int}(hw:R3 w)(h:u64 v):Ad v w=some (v % 2 ^ w.toNat):=by
 rcases hw with rfl|rfl|rfl|rfl|rfl
 ·rw[show Ad v 1=some (Int.tmod v 2) by kernel_rfl,Int.tmod_eq_emod_of_nonneg h.1];rfl
 ·rw[show Ad v 8=some (Int.tmod v 256) by kernel_rfl,Int.tmod_eq_emod_of_nonneg h.1];rfl
 ·rw[show Ad v 16=some (Int.tmod v 65536) by kernel_rfl,Int.tmod_eq_emod_of_nonneg h.1];rfl
 ·rw[show Ad v 32=some (Int.tmod v 4294967296) by kernel_rfl,Int.tmod_eq_emod_of_nonneg h.1];rfl
 ·rw[show Ad v 64=some v by kernel_rfl,show((2:Int) ^ (64:Int).toNat)=18446744073709551616 from rfl,Int.emod_eq_of_lt h.1 h.2]
theorem T1{a b:Nat}(h:a≤b):(2:Int) ^ b=2 ^ a*2 ^ (b-a):=by rw[← Int.pow_add];congr 1;omega
theorem shl_loop{w x:Int}{W Y:Nat}(hw:R3 w)(hW:w.toNat=W)(hx:0≤x∧x<2 ^ W)(hY:(Y:Int)<18446744073709551616):∀(m i:Nat),i+m=W→i≤Y→
  Az (B7 w (Y:Int)) (x*2 ^ i % 2 ^ W,(i:Int))=some (x*2 ^ Y % 2 ^ W):=by
 have hp:(0:Int)<2 ^ W:=Int.pow_pos (by decide)
 have zero:∀ i,i≤Y→x*2 ^ i % 2 ^ W=0→x*2 ^ Y % 2 ^ W=0:=fun i hi h=>by
  rw[T1 hi,← Int.mul_assoc,Int.mul_emod,h];simp
 have stop:∀ i,i≤Y→(i=Y∨x*2 ^ i % 2 ^ W=0)→Az (B7 w (Y:Int)) (x*2 ^ i % 2 ^ W,(i:Int))=some (x*2 ^ Y % 2 ^ W):=fun i hi h=>by
  have e:x*2 ^ i % 2 ^ W=x*2 ^ Y % 2 ^ W:=by
   rcases h with rfl|h
   ·rfl
   ·rw[h,zero i hi h]
  rw[← e];refine Es ?_;unfold B7;rcases h with rfl|h
  ·simp only[X8,cond_false]
  ·simp only[h,show((0:Int)!=0)=false from rfl]
   cases decide ((i:Int)<(Y:Int))<;>rfl
 intro m
 induction m with
 | zero=>
  intro i hi hY';refine stop i hY' (.inr ?_)
  obtain rfl:i=W:=by omega
  exact Int.mul_emod_left _ _
 | succ m ih=>
  intro i hi hY'
  by_cases h:i=Y∨x*2 ^ i % 2 ^ W=0
  ·exact stop i hY' h
  ·have h1:i<Y:=by omega
   have h2:x*2 ^ i % 2 ^ W≠0:=fun hh=>h (.inr hh);rw[← ih (i+1) (by omega) (by omega)];refine Hl ?_;unfold B7;have hv0:0≤x*2 ^ i % 2 ^ W:=Int.emod_nonneg _ (by omega);have hv1:x*2 ^ i % 2 ^ W<2 ^ W:=Int.emod_lt_of_pos _ hp
   have hcut:Ad (B3 (x*2 ^ i % 2 ^ W*2)) w=some (x*2 ^ (i+1) % 2 ^ W):=by
    rw[S8 hw (Hq _),hW,Ql]
    have hdvd:(2:Int) ^ W ∣ 18446744073709551616:=by
     rcases hw with rfl|rfl|rfl|rfl|rfl<;>(subst hW;decide)
    rw[Int.emod_emod_of_dvd _ hdvd,Int.pow_succ,← Int.mul_assoc,Int.mul_emod (x*2 ^ i) 2,Int.mul_emod (x*2 ^ i % 2 ^ W) 2,Int.emod_emod]
   simp only[T8 h1,cond_true,show((x*2 ^ i % 2 ^ W:Int)!=0)=true by simpa using h2,hcut,Option.bind_some];rw[Zz (by omega) (by omega)]
   rfl
theorem shr_loop{x:Int}{Y:Nat}(hx:0≤x∧x<18446744073709551616)(hY:(Y:Int)<18446744073709551616):∀(m i:Nat),i+m=64→i≤Y→
  Az (B8 (Y:Int)) (x / 2 ^ i,(i:Int))=some (x / 2 ^ Y):=by
 have zero:∀ i,i≤Y→x / 2 ^ i=0→x / 2 ^ Y=0:=fun i hi h=>by
  rw[T1 hi,← Int.ediv_ediv_of_nonneg (Int.le_of_lt (Int.pow_pos (by decide))),h];simp
 have stop:∀ i,i≤Y→(i=Y∨x / 2 ^ i=0)→Az (B8 (Y:Int)) (x / 2 ^ i,(i:Int))=some (x / 2 ^ Y):=fun i hi h=>by
  have e:x / 2 ^ i=x / 2 ^ Y:=by
   rcases h with rfl|h
   ·rfl
   ·rw[h,zero i hi h]
  rw[← e];refine Es ?_;unfold B8;rcases h with rfl|h
  ·simp only[X8,cond_false]
  ·simp only[h,show((0:Int)!=0)=false from rfl]
   cases decide ((i:Int)<(Y:Int))<;>rfl
 intro m
 induction m with
 | zero=>
  intro i hi hY';refine stop i hY' (.inr ?_)
  obtain rfl:i=64:=by omega
  exact Int.ediv_eq_zero_of_lt hx.1 hx.2
 | succ m ih=>
  intro i hi hY'
  by_cases h:i=Y∨x / 2 ^ i=0
  ·exact stop i hY' h
  ·have h1:i<Y:=by omega
   have h2:x / 2 ^ i≠0:=fun hh=>h (.inr hh);rw[← ih (i+1) (by omega) (by omega)];refine Hl ?_;unfold B8;have hp:(0:Int)<2 ^ i:=Int.pow_pos (by decide);have hv0:0≤x / 2 ^ i:=Int.ediv_nonneg hx.1 (Int.le_of_lt hp);have hv1:x / 2 ^ i≤x:=Int.ediv_le_self _ hx.1
   have e:B3 (Int.tdiv (x / 2 ^ i) 2)=x / 2 ^ (i+1):=by
    rw[Int.tdiv_eq_ediv_of_nonneg hv0,Int.pow_succ,← Int.ediv_ediv_of_nonneg (Int.le_of_lt hp),Zz (by omega) (by omega)]
   simp only[T8 h1,cond_true,show((x / 2 ^ i:Int)!=0)=true by simpa using h2,e];rw[Zz (by omega) (by omega)]
   rfl
theorem Qk(n:Int):Ar n=if n % 18446744073709551616<9223372036854775808 then n % 18446744073709551616 else n % 18446744073709551616-18446744073709551616:=by
 show IntKind.i64.wrap n=_
 simp only[IntKind.wrap,IntKind.bits,IntKind.signed]
 simp
 split<;>split<;>omega
theorem sgn_eq{v w:Int}(hw:R3 w)(h0:0≤v)(h1:v<2 ^ w.toNat):Aq v w=Cn v w:=by
 have sh:∀(x:Int) (a:Nat) (p:Int),(2:Int) ^ min ((a:Int).toNat) 64=p→Ho .u64 x (a:Int)=x*p % 18446744073709551616:=fun x a p hp=>by
  show IntKind.u64.wrap (x*2 ^ min ((a:Int).toNat) 64)=_
  rw[hp];exact Ql _
 have sr:∀(x:Int) (a:Nat) (p:Int),(2:Int) ^ min ((a:Int).toNat) 64=p→0≤p→F4 .i64 x (a:Int)=x / p:=fun x a p hp h0=>by
  show x.fdiv (2 ^ min ((a:Int).toNat) 64)=_
  rw[hp,Int.fdiv_eq_ediv_of_nonneg _ h0]
 rcases hw with rfl|rfl|rfl|rfl|rfl
 ·have h1:v<2:=h1
  rw[show Cn v 1=some (F4 .i64 (Ar (Ho .u64 v ((63:Nat):Int))) ((63:Nat):Int)) by kernel_rfl,sh v 63 9223372036854775808 (by decide),sr _ 63 9223372036854775808 (by decide) (by decide),
   show Aq v 1=(Ad v 1).bind fun x2=>bif decide (x2<1) then some (Ar x2) else some (Ar (Ar x2-Ar 2)) by kernel_rfl,S8 (by unfold R3;omega) ⟨h0,by omega⟩,show((2:Int) ^ (1:Int).toNat)=2 from rfl,Int.emod_eq_of_lt h0 h1,Option.bind_some]
  by_cases hc:v<1
  ·rw[decide_eq_true hc,cond_true];congr 1;simp only[Qk];split<;>split<;>omega
  ·rw[decide_eq_false hc,cond_false];congr 1;simp only[Qk];repeat' split<;>omega
 ·have h1:v<256:=h1
  rw[show Cn v 8=some (F4 .i64 (Ar (Ho .u64 v ((56:Nat):Int))) ((56:Nat):Int)) by kernel_rfl,sh v 56 72057594037927936 (by decide),sr _ 56 72057594037927936 (by decide) (by decide),
   show Aq v 8=(Ad v 8).bind fun x2=>bif decide (x2<128) then some (Ar x2) else some (Ar (Ar x2-Ar 256)) by kernel_rfl,S8 (by unfold R3;omega) ⟨h0,by omega⟩,show((2:Int) ^ (8:Int).toNat)=256 from rfl,Int.emod_eq_of_lt h0 h1,Option.bind_some]
  by_cases hc:v<128
  ·rw[decide_eq_true hc,cond_true];congr 1;simp only[Qk];repeat' split<;>omega
  ·rw[decide_eq_false hc,cond_false];congr 1;simp only[Qk];repeat' split<;>omega
 ·have h1:v<65536:=h1
  rw[show Cn v 16=some (F4 .i64 (Ar (Ho .u64 v ((48:Nat):Int))) ((48:Nat):Int)) by kernel_rfl,sh v 48 281474976710656 (by decide),sr _ 48 281474976710656 (by decide) (by decide),
   show Aq v 16=(Ad v 16).bind fun x2=>bif decide (x2<32768) then some (Ar x2) else some (Ar (Ar x2-Ar 65536)) by kernel_rfl,S8 (by unfold R3;omega) ⟨h0,by omega⟩,show((2:Int) ^ (16:Int).toNat)=65536 from rfl,Int.emod_eq_of_lt h0 h1,Option.bind_some]
  by_cases hc:v<32768
  ·rw[decide_eq_true hc,cond_true];congr 1;simp only[Qk];repeat' split<;>omega
  ·rw[decide_eq_false hc,cond_false];congr 1;simp only[Qk];repeat' split<;>omega
 ·have h1:v<4294967296:=h1
  rw[show Cn v 32=some (F4 .i64 (Ar (Ho .u64 v ((32:Nat):Int))) ((32:Nat):Int)) by kernel_rfl,sh v 32 4294967296 (by decide),sr _ 32 4294967296 (by decide) (by decide),
   show Aq v 32=(Ad v 32).bind fun x2=>bif decide (x2<2147483648) then some (Ar x2) else some (Ar (Ar x2-Ar 4294967296)) by kernel_rfl,S8 (by unfold R3;omega) ⟨h0,by omega⟩,show((2:Int) ^ (32:Int).toNat)=4294967296 from rfl,Int.emod_eq_of_lt h0 h1,Option.bind_some]
  by_cases hc:v<2147483648
  ·rw[decide_eq_true hc,cond_true];congr 1;simp only[Qk];repeat' split<;>omega
  ·rw[decide_eq_false hc,cond_false];congr 1;simp only[Qk];repeat' split<;>omega
 ·have h1:v<18446744073709551616:=h1
  rw[show Cn v 64=some (F4 .i64 (Ar (Ho .u64 v ((0:Nat):Int))) ((0:Nat):Int)) by kernel_rfl,sh v 0 1 (by decide),sr _ 0 1 (by decide) (by decide),
   show Aq v 64=(Ad v 64).bind fun x2=>some (Ar x2) by kernel_rfl,S8 (by unfold R3;omega) ⟨h0,h1⟩,show((2:Int) ^ (64:Int).toNat)=18446744073709551616 from rfl,Int.emod_eq_of_lt h0 h1,Option.bind_some]
  congr 1;rw[Int.ediv_one,Int.mul_one,Int.emod_eq_of_lt h0 h1]
def ksL:List Int:=[1,2,3,5,6,7,8,9]
def isO(x:Option Int)(n:Int):Bool:=match x with|some y=>y==n|none=>false
theorem isO_eq{x:Option Int}{n:Int}(h:isO x n=true):x=some n:=by
 cases x with
 | none=>cases h
 | some y=>simp[isO]at h;rw[h]
section
variable {w k:Int} {i:Nat} {ags:List Int} (hw:w∈([8,16,32]:List Int)) (hk:k∈ksL) (hi:i<4) (hal:ags.length=8) (ha:∀ x∈ags,u64 x)
include hw hk hi hal ha
end
theorem Tc{k w a b z:Int}(hk:1≤k∧k≤12)(hw:R3 w)(ha:u64 a)(hb:u64 b)(h4:k=4→b % 2 ^ w.toNat≠0)(hz:Bm k w (a % 2 ^ w.toNat) (b % 2 ^ w.toNat)=some z)(hu:u64 z) :
  D4 k w a b=some (z % 2 ^ w.toNat,0):=by
 unfold D4;rw[c_Two hk hw,Mq hw ha,Mq hw hb];simp only[Option.bind_some,Bool.not_true,cond_false]
 have hg:(bif ((k:Int)==(4:Int)) then((b % 2 ^ w.toNat:Int)==(0:Int)) else false)=false:=by
  cases hk4:((k:Int)==(4:Int)) with
  | false=>rfl
  | true=>
   rw[cond_true,beq_eq_false_iff_ne];exact h4 (by simpa using hk4)
 rw[hg,cond_false,hz,Option.bind_some,Mq hw hu];rfl
theorem J7{k w a b:Int}{T:Int→Int→Option (Int×Int)}(hw:R3 w)(ha:u64 a)(hb:u64 b)
  (e:Bs k w a b=(Bk w).bind fun x1=>bif !x1 then some (0,1) else(Ad a w).bind fun x2=>(Ad b w).bind fun x3=>T x2 x3) :
  Bs k w a b=T (a % 2 ^ w.toNat) (b % 2 ^ w.toNat):=by
 rw[e,r_May hw,Option.bind_some,Bool.not_true,cond_false,S8 hw ha,Option.bind_some,S8 hw hb,Option.bind_some]
theorem Fu{α β:Type}{o:Option α}{f g:α→Option β}(h:∀ x,f x=g x):o.bind f=o.bind g:=by rw[funext h]
theorem Zw(c:Bool):A4 c=C2 c:=rfl
theorem shl_is{x:Int}{y:Nat}(h:y<64):Ho .u64 x (y:Int)=x*2 ^ y % 18446744073709551616:=by
 show IntKind.u64.wrap (x*2 ^ min ((y:Int).toNat) 64)=_
 rw[Int.toNat_natCast,Nat.min_eq_left (by omega)];exact Ql _
theorem shr_is{x:Int}{y:Nat}(h:y<64):F4 .u64 x (y:Int)=x / 2 ^ y:=by
 show x.fdiv (2 ^ min ((y:Int).toNat) 64)=_
 rw[Int.toNat_natCast,Nat.min_eq_left (by omega),Int.fdiv_eq_ediv_of_nonneg _ (Int.le_of_lt (Int.pow_pos (by decide)))]
theorem wd_nat{w:Int}(h:R3 w):∃ W:Nat,w.toNat=W∧w=W∧W≤64∧(2:Int) ^ W ∣ 18446744073709551616:=by
 rcases h with rfl|rfl|rfl|rfl|rfl
 ·exact⟨1,rfl,rfl,by decide,by decide⟩
 ·exact⟨8,rfl,rfl,by decide,by decide⟩
 ·exact⟨16,rfl,rfl,by decide,by decide⟩
 ·exact⟨32,rfl,rfl,by decide,by decide⟩
 ·exact⟨64,rfl,rfl,by decide,by decide⟩
theorem r_Do{k w a b:Int}(hk:1≤k∧k≤12)(hw:R3 w)(ha:u64 a)(hb:u64 b):Bs k w a b=D4 k w a b:=by
 have hk0:=hk;obtain⟨k1,k2⟩:=hk0;obtain⟨x0,x1⟩:=Kg hw a;obtain⟨y0,y1⟩:=Kg hw b;have ux:=Mm hw x0 x1;have uy:=Mm hw y0 y1
 have fin:∀ z,u64 z→((Ad z w).bind fun x24=>some (x24,(0:Int)))=some (z % 2 ^ w.toNat,0):=fun z hz=>by rw[S8 hw hz];rfl
 have hc:k=1∨k=2∨k=3∨k=4∨k=5∨k=6∨k=7∨k=8∨k=9∨k=10∨k=11∨k=12:=by omega
 rcases hc with rfl|rfl|rfl|rfl|rfl|rfl|rfl|rfl|rfl|rfl|rfl|rfl
 ·rw[J7 (T:=fun x y=>(Ad (B3 (x+y)) w).bind fun x24=>some (x24,(0:Int))) hw ha hb (by kernel_rfl),Tc hk hw ha hb (fun h=>absurd h (by decide)) (show _=some (B3 (a % 2 ^ w.toNat+b % 2 ^ w.toNat)) by kernel_rfl) (Hq _)];exact fin _ (Hq _)
 ·rw[J7 (T:=fun x y=>(Ad (B3 (x-y)) w).bind fun x24=>some (x24,(0:Int))) hw ha hb (by kernel_rfl),Tc hk hw ha hb (fun h=>absurd h (by decide)) (show _=some (B3 (a % 2 ^ w.toNat-b % 2 ^ w.toNat)) by kernel_rfl) (Hq _)];exact fin _ (Hq _)
 ·rw[J7 (T:=fun x y=>(Ad (B3 (x*y)) w).bind fun x24=>some (x24,(0:Int))) hw ha hb (by kernel_rfl),Tc hk hw ha hb (fun h=>absurd h (by decide)) (show _=some (B3 (a % 2 ^ w.toNat*(b % 2 ^ w.toNat))) by kernel_rfl) (Hq _)];exact fin _ (Hq _)
 ·rw[J7 (T:=fun x y=>bif (y==0) then some ((0:Int),(8:Int)) else(Aw (y≠0) (some (B3 (Int.tdiv x y)))).bind fun z=>(Ad z w).bind fun x24=>some (x24,(0:Int))) hw ha hb (by
   rw[show Bs 4 w a b=((Bk w).bind fun x1=>bif !x1 then some (0,1) else(Ad a w).bind fun x2=>(Ad b w).bind fun x3=>
    (Option.bind (α:=(Int ⊕ (Int×Int))) (bif ((x3:Int)==(0:Int)) then(some ((.inr ((0:Int),(8:Int))))) else(Aw (x3≠0) (some ((.inl (B3 (Int.tdiv x2 x3))))))) (fun x22=>(match x22 with|(.inl i4)=>((Ad i4 w).bind fun x24=>(some (x24,(0:Int))))|(.inr r25)=>(some r25))))) by kernel_rfl]
   refine Fu fun x1=>?_
   cases x1
   ·rfl
   simp only[Bool.not_true,cond_false];refine Fu fun x2=>Fu fun x3=>?_
   by_cases h:x3=0
   ·rw[show(x3==0)=true by simpa using h];rfl
   ·rw[show(x3==0)=false by simpa using h,cond_false,cond_false,Jd h,Jd h];rfl)]
  by_cases h:b % 2 ^ w.toNat=0
  ·unfold D4;rw[c_Two hk hw,Mq hw ha,Mq hw hb];simp only[Option.bind_some,Bool.not_true,cond_false,h]
   rfl
  ·simp only[show(b % 2 ^ w.toNat==0)=false by simpa using h,cond_false]
   rw[Jd h,Tc hk hw ha hb (fun _=>h) (z:=B3 (Int.tdiv (a % 2 ^ w.toNat) (b % 2 ^ w.toNat))) (by
    rw[show Bm 4 w (a % 2 ^ w.toNat) (b % 2 ^ w.toNat)=(D9 (a % 2 ^ w.toNat) (b % 2 ^ w.toNat)).bind fun x2=>some x2 by kernel_rfl];unfold D9
    rw[Jd h];rfl) (Hq _)]
   exact fin _ (Hq _)
 ·rw[J7 (T:=fun x y=>(Ad (Dq .and .u64 x y) w).bind fun x24=>some (x24,(0:Int))) hw ha hb (by kernel_rfl),Tc hk hw ha hb (fun h=>absurd h (by decide)) (show _=some (Dq .and .u64 (a % 2 ^ w.toNat) (b % 2 ^ w.toNat)) by kernel_rfl) H6];exact fin _ H6
 ·rw[J7 (T:=fun x y=>(Ad (Dq .or .u64 x y) w).bind fun x24=>some (x24,(0:Int))) hw ha hb (by kernel_rfl),Tc hk hw ha hb (fun h=>absurd h (by decide)) (show _=some (Dq .or .u64 (a % 2 ^ w.toNat) (b % 2 ^ w.toNat)) by kernel_rfl) H6];exact fin _ H6
 ·rw[J7 (T:=fun x y=>(Ad (Dq .xor .u64 x y) w).bind fun x24=>some (x24,(0:Int))) hw ha hb (by kernel_rfl),Tc hk hw ha hb (fun h=>absurd h (by decide)) (show _=some (Dq .xor .u64 (a % 2 ^ w.toNat) (b % 2 ^ w.toNat)) by kernel_rfl) H6];exact fin _ H6
 ·rw[J7 (T:=fun x y=>(Option.bind (α:=(Int ⊕ (Int×Int))) ((Az (S:=(Int×Int)) (X:=Int) (B7 w y) (x,(0:Int))).bind (fun x10=>((some ((.inl x10)))))) (fun x22=>(match x22 with|(.inl i4)=>((Ad i4 w).bind fun x24=>(some (x24,(0:Int))))|(.inr r25)=>(some r25))))) hw ha hb (by kernel_rfl)]
  generalize ex:a % 2 ^ w.toNat=x at *
  generalize ey:b % 2 ^ w.toNat=y at *
  obtain⟨Y,rfl⟩:=Int.eq_ofNat_of_zero_le y0;obtain⟨W,hW,hWi,hW64,hdvd⟩:=wd_nat hw;rw[hW]at x1;have hl:=shl_loop (W:=W) (Y:=Y) hw hW ⟨x0,x1⟩ uy.2 W 0 (by omega) (by omega);rw[Int.pow_zero,Int.mul_one,Int.emod_eq_of_lt x0 x1]at hl;rw[show((0:Nat):Int)=0 from rfl]at hl;rw[hl];have hp:(0:Int)<2 ^ W:=Int.pow_pos (by decide);have hz0:0≤x*2 ^ Y % 2 ^ W:=Int.emod_nonneg _ (by omega);have hz1:x*2 ^ Y % 2 ^ W<2 ^ W:=Int.emod_lt_of_pos _ hp;have uz:u64 (x*2 ^ Y % 2 ^ W):=Mm hw hz0 (by rw[hW];exact hz1)
  show((Ad (x*2 ^ Y % 2 ^ W) w).bind fun x24=>(some (x24,(0:Int))))=_
  rw[fin _ uz,hW,Int.emod_emod]
  by_cases h:w≤(Y:Int)
  ·rw[Tc hk hw ha hb (fun h=>absurd h (by decide)) (z:=0) (by
    rw[ex,ey,show Bm 8 w x (Y:Int)=(C0 x (Y:Int) w).bind fun x2=>some x2.1 by kernel_rfl];unfold C0
    rw[wu_wd hw,decide_eq_true h];rfl) ⟨by decide,by decide⟩]
   rw[T1 (show W≤Y by omega),← Int.mul_assoc,Int.mul_right_comm,Int.mul_emod_left];simp
  ·rw[Tc hk hw ha hb (fun h=>absurd h (by decide)) (z:=Ho .u64 x (Y:Int)) (by
    rw[ex,ey,show Bm 8 w x (Y:Int)=(C0 x (Y:Int) w).bind fun x2=>some x2.1 by kernel_rfl];unfold C0
    rw[wu_wd hw,decide_eq_false h,cond_false,Jd uy.1];rfl) shl_u64]
   rw[shl_is (by omega),hW,Int.emod_emod_of_dvd _ hdvd]
 ·rw[J7 (T:=fun x y=>(Option.bind (α:=(Int ⊕ (Int×Int))) ((Az (S:=(Int×Int)) (X:=Int) (B8 y) (x,(0:Int))).bind (fun x10=>((some ((.inl x10)))))) (fun x22=>(match x22 with|(.inl i4)=>((Ad i4 w).bind fun x24=>(some (x24,(0:Int))))|(.inr r25)=>(some r25))))) hw ha hb (by kernel_rfl)]
  generalize ex:a % 2 ^ w.toNat=x at *
  generalize ey:b % 2 ^ w.toNat=y at *
  obtain⟨Y,rfl⟩:=Int.eq_ofNat_of_zero_le y0;obtain⟨W,hW,hWi,hW64,hdvd⟩:=wd_nat hw;rw[hW]at x1;have hl:=shr_loop (Y:=Y) ux uy.2 64 0 (by omega) (by omega);rw[Int.pow_zero,Int.ediv_one]at hl;rw[show((0:Nat):Int)=0 from rfl]at hl;rw[hl];have hp:(0:Int)<2 ^ Y:=Int.pow_pos (by decide);have hz0:0≤x / 2 ^ Y:=Int.ediv_nonneg x0 (Int.le_of_lt hp);have hz1:x / 2 ^ Y≤x:=Int.ediv_le_self _ x0;have uz:u64 (x / 2 ^ Y):=⟨hz0,Int.lt_of_le_of_lt hz1 ux.2⟩
  show((Ad (x / 2 ^ Y) w).bind fun x24=>(some (x24,(0:Int))))=_
  rw[fin _ uz]
  by_cases h:w≤(Y:Int)
  ·rw[Tc hk hw ha hb (fun h=>absurd h (by decide)) (z:=0) (by
    rw[ex,ey,show Bm 9 w x (Y:Int)=(C1 x (Y:Int) w).bind fun x2=>some x2.1 by kernel_rfl];unfold C1
    rw[wu_wd hw,decide_eq_true h];rfl) ⟨by decide,by decide⟩]
   have:x / 2 ^ Y=0:=Int.ediv_eq_zero_of_lt x0 (Int.lt_of_lt_of_le x1 (by
    have:=Nat.pow_le_pow_right (n:=2) (by decide) (show W≤Y by omega)
    exact_mod_cast this))
   rw[this]
  ·rw[Tc hk hw ha hb (fun h=>absurd h (by decide)) (z:=F4 .u64 x (Y:Int)) (by
    rw[ex,ey,show Bm 9 w x (Y:Int)=(C1 x (Y:Int) w).bind fun x2=>some x2.1 by kernel_rfl];unfold C1
    rw[wu_wd hw,decide_eq_false h,cond_false,Jd uy.1];rfl) (shr_u64 ux)]
   rw[shr_is (by omega)]
 ·rw[J7 (T:=fun x y=>(A4 (x==y)).bind fun z=>(Ad z w).bind fun x24=>some (x24,(0:Int))) hw ha hb (by
   rw[show Bs 10 w a b=((Bk w).bind fun x1=>bif !x1 then some (0,1) else(Ad a w).bind fun x2=>(Ad b w).bind fun x3=>
    (Option.bind (α:=(Int ⊕ (Int×Int))) ((A4 ((x2:Int)==x3)).bind fun x17=>(some ((.inl x17)))) (fun x22=>(match x22 with|(.inl i4)=>((Ad i4 w).bind fun x24=>(some (x24,(0:Int))))|(.inr r25)=>(some r25))))) by kernel_rfl]
   refine Fu fun x1=>?_
   cases x1
   ·rfl
   simp only[Bool.not_true,cond_false];refine Fu fun x2=>Fu fun x3=>?_
   cases(x2==x3)<;>rfl)]
  obtain⟨z,h1,h2⟩:=Kj ((a % 2 ^ w.toNat:Int)==b % 2 ^ w.toNat);simp only[Zw,h1,Option.bind_some]
  rw[Tc hk hw ha hb (fun h=>absurd h (by decide)) (z:=z) (by
   rw[show Bm 10 w (a % 2 ^ w.toNat) (b % 2 ^ w.toNat)=((C2 ((a % 2 ^ w.toNat:Int)==b % 2 ^ w.toNat)).bind fun x1=>some x1).bind fun x2=>some x2 by kernel_rfl,h1];rfl) h2]
  exact fin _ h2
 ·rw[J7 (T:=fun x y=>(A4 (decide (x<y))).bind fun z=>(Ad z w).bind fun x24=>some (x24,(0:Int))) hw ha hb (by
   rw[show Bs 11 w a b=((Bk w).bind fun x1=>bif !x1 then some (0,1) else(Ad a w).bind fun x2=>(Ad b w).bind fun x3=>
    (Option.bind (α:=(Int ⊕ (Int×Int))) ((A4 (decide (x2<x3))).bind fun x17=>(some ((.inl x17)))) (fun x22=>(match x22 with|(.inl i4)=>((Ad i4 w).bind fun x24=>(some (x24,(0:Int))))|(.inr r25)=>(some r25))))) by kernel_rfl]
   refine Fu fun x1=>?_
   cases x1
   ·rfl
   simp only[Bool.not_true,cond_false];refine Fu fun x2=>Fu fun x3=>?_
   cases(decide (x2<x3))<;>rfl)]
  obtain⟨z,h1,h2⟩:=Kj (decide (a % 2 ^ w.toNat<b % 2 ^ w.toNat));simp only[Zw,h1,Option.bind_some]
  rw[Tc hk hw ha hb (fun h=>absurd h (by decide)) (z:=z) (by
   rw[show Bm 11 w (a % 2 ^ w.toNat) (b % 2 ^ w.toNat)=((C2 (decide (a % 2 ^ w.toNat<b % 2 ^ w.toNat))).bind fun x1=>some x1).bind fun x2=>some x2 by kernel_rfl,h1];rfl) h2]
  exact fin _ h2
 ·rw[J7 (T:=fun x y=>(Aq x w).bind fun p=>(Aq y w).bind fun q=>(A4 (decide (p<q))).bind fun z=>(Ad z w).bind fun x24=>some (x24,(0:Int))) hw ha hb (by
   rw[show Bs 12 w a b=((Bk w).bind fun x1=>bif !x1 then some (0,1) else(Ad a w).bind fun x2=>(Ad b w).bind fun x3=>
    (Option.bind (α:=(Int ⊕ (Int×Int))) ((Aq x2 w).bind fun x19=>((Aq x3 w).bind fun x20=>((A4 (decide ((x19:Int)<x20))).bind fun x21=>(some ((.inl x21)))))) (fun x22=>(match x22 with|(.inl i4)=>((Ad i4 w).bind fun x24=>(some (x24,(0:Int))))|(.inr r25)=>(some r25))))) by kernel_rfl]
   refine Fu fun x1=>?_
   cases x1
   ·rfl
   simp only[Bool.not_true,cond_false];refine Fu fun x2=>Fu fun x3=>?_
   cases Aq x2 w with
   | none=>rfl
   | some p=>
    cases Aq x3 w with
    | none=>rfl
    | some q=>
     simp only[Option.bind_some]
     cases(decide (p<q))<;>rfl)]
  obtain⟨p,hp⟩:=Sv (v:=a % 2 ^ w.toNat) hw;obtain⟨q,hq⟩:=Sv (v:=b % 2 ^ w.toNat) hw;obtain⟨z,h1,h2⟩:=Kj (decide (p<q));simp only[sgn_eq hw x0 x1,sgn_eq hw y0 y1,hp,hq,Option.bind_some,Zw,h1]
  rw[Tc hk hw ha hb (fun h=>absurd h (by decide)) (z:=z) (by
   rw[show Bm 12 w (a % 2 ^ w.toNat) (b % 2 ^ w.toNat)=(Dp (a % 2 ^ w.toNat) (b % 2 ^ w.toNat) w).bind fun x2=>some x2.1 by kernel_rfl];unfold Dp;rw[hp,hq]
   simp only[Option.bind_some,h1]) h2]
  exact fin _ h2
def retT(w k:Int):Int:=if 10≤k then 1 else w
def tL(w k:Int):Ag:=⟨[w,w],retT w k,[⟨[],[⟨k,w,1,3,[1,2],0⟩],⟨0,3,[]⟩⟩]⟩
def okT(w k:Int):Bool:=isO (Fy (tL w k) 2) 0&&isO (Gx (tL w k)) 3
theorem okT_all:([1,8,16,32,64].all fun w=>(List.range 12).all fun k=>okT w (1+(k:Int)))=true:=by kernel_rfl
theorem okT_of{w k:Int}(hw:R3 w)(hk:1≤k∧k≤12):Fy (tL w k) 2=some 0∧Gx (tL w k)=some 3:=by
 obtain⟨j,hj⟩:=Int.eq_ofNat_of_zero_le (show 0≤k-1 by omega)
 have hw':w∈([1,8,16,32,64]:List Int):=by rcases hw with rfl|rfl|rfl|rfl|rfl<;>simp
 have h:=List.all_eq_true.1 (List.all_eq_true.1 okT_all w hw') j (List.mem_range.2 (by omega));rw[show 1+(j:Int)=k by omega]at h;unfold okT at h;simp only[Bool.and_eq_true]at h;exact⟨isO_eq h.1,isO_eq h.2⟩
theorem doD_cut{k w a b:Int}(hk:1≤k∧k≤12)(hw:R3 w)(ha:u64 a)(hb:u64 b):Zb k w (a % 2 ^ w.toNat) (b % 2 ^ w.toNat)=Zb k w a b:=by
 obtain⟨x0,x1⟩:=Kg hw a;obtain⟨y0,y1⟩:=Kg hw b;unfold Zb D4;rw[Mq hw ha,Mq hw hb,Mq hw (Mm hw x0 x1),Mq hw (Mm hw y0 y1),Int.emod_emod,Int.emod_emod]
theorem run_tL{k w a b v e:Int}(hk:1≤k∧k≤12)(hw:R3 w)(ha:u64 a)(hb:u64 b)(hd:D4 k w a b=some (v,e))(he:e=0∨e=8)(hv:u64 v) :
  Fi (tL w k) [a,b] 9 [] []=some (if e=0 then⟨0,v,2⟩ else⟨8,0,1⟩,0,[],[]):=by
 obtain⟨h1,h2⟩:=okT_of hw hk;rw[c_Run (f:=tL w k) (ags:=[a,b]) (n:=3) (by decide) h1 h2 rfl (fun x hx=>by simp[tL]at hx;subst hx;exact hw) (fun x hx=>by simp at hx;rcases hx with rfl|rfl<;>assumption) (by simp[tL]) (by decide) (by simp[tL]) (by simp[tL]) (fun q hq=>by cases hq)]
 have eb:Pl (tL w k) [a,b] 3=[[],[a % 2 ^ w.toNat],[b % 2 ^ w.toNat],[]]:=by kernel_rfl
 rw[eb];obtain⟨x0,x1⟩:=Kg hw a;obtain⟨y0,y1⟩:=Kg hw b
 have hdd:Zb k w (a % 2 ^ w.toNat) (b % 2 ^ w.toNat)=(v,e):=by rw[doD_cut hk hw ha hb];unfold Zb;rw[hd];rfl
 have p:=op_two (o:=⟨k,w,1,3,[1,2],0⟩) (V:=[[],[a % 2 ^ w.toNat],[b % 2 ^ w.toNat],[]]) (F:=9) (S:=Ar (0+1)) (B:=[]) (T:=[]) (p:=1) (q:=2) (A:=[a % 2 ^ w.toNat]) (C:=[b % 2 ^ w.toNat]) hk hw ⟨by simp,rfl⟩ ⟨by simp,rfl⟩ ⟨by decide,by simp,rfl⟩ ⟨by decide,by simp,rfl⟩ rfl (by simp)
  (fun x hx=>by rw[List.mem_singleton.1 hx];exact Mm hw x0 x1) (fun x hx=>by rw[List.mem_singleton.1 hx];exact Mm hw y0 y1)
 dsimp only at p
 rw[twoR_one hdd he]at p;rcases he with rfl|rfl
 ·rw[if_pos rfl]at p;have d:=doG_ok (l:=[]) (by decide) p ⟨by simp,by simp⟩;obtain⟨S'',h⟩:=bl_end (bs:=(tL w k).Blocks) (i:=0) (r:=⟨0,v,2⟩) (by simp[tL]) d (by simp) rfl rfl;exact run_one (Yv rfl) h (by simp) rfl
 ·rw[if_neg (show ¬ (8:Int)=0 by decide)]at p;have d:=doG_bad (l:=[]) (by decide) p (by decide);have h:=bl_trap (bs:=(tL w k).Blocks) (i:=0) (by simp[tL]) d (by decide) (by simp) rfl;exact run_one (Yv rfl) h (by simp) rfl
theorem two13(kd bs:Int)(ab:Int×Int)(hk:0≤kd∧kd<256)(hb:0≤bs∧bs<256)(h1:u64 ab.1)(h2:u64 ab.2):Dm kd bs ab=some true:=by
 have e1:Ar (1+Int.tmod (Ar kd) 12)=1+kd % 12:=by rw[w_u8 hk,Int.tmod_eq_emod_of_nonneg hk.1,w64_of (by omega) (by omega)]
 have e2:Int.tmod (Ar bs) 5=bs % 5:=by rw[w_u8 hb,Int.tmod_eq_emod_of_nonneg hb.1]
 have q1:A5 (bs % 5) ([1,8,16,32,64]:List Int).length:=⟨by omega,by simp;omega⟩;have m1:([1,8,16,32,64]:List Int).getD (bs % 5).toNat 0∈([1,8,16,32,64]:List Int):=Km (show(bs % 5).toNat<5 by omega);unfold Dm;rw[awake13,Option.bind_some,Bool.not_true,cond_false,e1,e2,Bj q1]
 generalize ([1,8,16,32,64]:List Int).getD (bs % 5).toNat 0=w at *
 have hk1:1≤1+kd % 12∧1+kd % 12≤12:=by omega
 generalize 1+kd % 12=k at *
 have hw:R3 w:=by simp at m1;unfold R3;omega
 have er:(bif decide (10≤k) then(some (1:Int)) else some w)=some (retT w k):=by
  unfold retT
  by_cases h:10≤k
  ·rw[decide_eq_true h,if_pos h];rfl
  ·rw[decide_eq_false h,if_neg h];rfl
 rw[er,Option.bind_some,m_New_ok (by simp),Option.bind_some,cond_true];obtain⟨v,e,hd,hv0,hv1,he⟩:=c_Do hk1 hw h1 h2
 have he':e=0∨e=8:=by
  rcases he with⟨h,_⟩|⟨h,_⟩
  ·exact .inl h
  ·exact .inr h
 have r:=run_tL hk1 hw h1 h2 hd he' (Mm hw hv0 hv1);unfold tL at r
 dsimp only
 rw[r,Option.bind_some,Bj rfl,r_Do hk1 hw h1 h2,hd,Option.bind_some];rcases he' with rfl|rfl
 ·simp
 ·simp
theorem wf_u64{n:Int}(h:(Lit.int .u64 n).wf=true):0≤n∧n<18446744073709551616:=by simp[Lit.wf,IntKind.min,IntKind.max,IntKind.bits,IntKind.signed]at h;omega
theorem wf_u8{n:Int}(h:(Lit.int .u8 n).wf=true):0≤n∧n<256:=by simp[Lit.wf,IntKind.min,IntKind.max,IntKind.bits,IntKind.signed]at h;omega
theorem okWide_array{P:Program}{w:World}{r:Reach}{base:Nat}{t:TypeId}{v:Value}{n:Nat}{e:TypeId}(ht:P.underlying t=some (.array n e))(h:Value.okWide P w r base t v):∃ cs,v = .agg cs∧True:=by
 simp only[Value.okWide,ht]at h;obtain⟨cs,h1,_⟩:=h;exact⟨cs,h1,trivial⟩
abbrev Iall(w:World):Nat→Nat→Prop:=fun b o=>∃ u,w.cell? ⟨b,o,none⟩=some u
structure CRep(w:World)(cs:List Value)(avs:List AV):Prop where
 len:cs.length=avs.length
 one:∀ j,j<avs.length→(cs.getD j undef).oneCell'=true
 rep:∀ j,j<avs.length→RepV (Iall w) w (cs.getD j undef) (avs.getD j .any)
structure Opens(P:Program)(t:TypeId){α:Type}(e:α→List AV)(ok:α→Prop):Prop where
 get:∀{H:Type} {enc:TypeId×Value→H} {w:World} {base:Nat} {spare:Nat→Bool} {held:Bool} {fuel:Nat} {cs:List Value} {x:DataW H×List MemPlace},
  DataW.trod enc P w base spare held fuel t cs=some x→∃ a,ok a∧CRep w cs (e a)
theorem crep_one{w:World}{v:Value}{x:AV}(h1:v.oneCell'=true)(h:RepV (Iall w) w v x):CRep w [v] [x]:=
 ⟨rfl,fun j hj=>(by
   have hj0:j=0:=by simpa using hj
   subst hj0
   exact h1),fun j hj=>(by
   have hj0:j=0:=by simpa using hj
   subst hj0
   exact h)⟩
theorem Yo{P:Program}{t:TypeId}{k:IntKind}{e:Int→List AV}(ht:P.underlying t=some (.int k))(he:∀ n,e n=[.int k n]):Opens P t e (fun n=>(Lit.int k n).wf=true):=by
 refine⟨?_⟩;intro H enc w base spare held fuel cs x h;obtain⟨n,rfl,rfl,hw⟩:=DataW.trod_int ht h;exact⟨n,hw,by rw[he];exact crep_one rfl (.int _ _)⟩
theorem crep_two{w:World}{c d:Value}{l m:List AV}(h:CRep w [c] l)(k:CRep w [d] m):CRep w [c,d] (l++m):=by
 have h1:l.length=1:=h.len.symm;have k1:m.length=1:=k.len.symm;refine⟨by simp[h1,k1],fun j hj=>?_,fun j hj=>?_⟩
 ·have hj':j<2:=by simp[h1,k1]at hj;omega
  by_cases h0:j=0
  ·subst h0;exact h.one 0 (by omega)
  ·obtain rfl:j=1:=by omega
   exact k.one 0 (by omega)
 ·have hj':j<2:=by simp[h1,k1]at hj;omega
  by_cases h0:j=0
  ·subst h0;have:=h.rep 0 (by omega);rwa[List.getD_eq_getElem?_getD (l:=l++m),List.getElem?_append_left (by omega),← List.getD_eq_getElem?_getD]
  ·obtain rfl:j=1:=by omega
   have:=k.rep 0 (by omega);rw[List.getD_eq_getElem?_getD (l:=l++m),List.getElem?_append_right (by omega),h1,← List.getD_eq_getElem?_getD];exact this
theorem Zt{P:Program}{t el:TypeId}{α:Type}{e:α→List AV}{ok:α→Prop}{e':α×α→List AV}(ht:P.underlying t=some (.array 2 el))(htc:P.cellsOf t=2)(hs:P.cellsOf el=1)(he:Opens P el e ok)(he':∀ p,e' p=e p.1++e p.2) :
  Opens P t e' (fun p=>ok p.1∧ok p.2):=by
 refine⟨?_⟩;intro H enc w base spare held fuel cs x h;obtain⟨xs,n,_,_,hcl,hxl,hall⟩:=DataW.trod_array ht h;rw[htc]at hcl
 match cs,hcl,hall with
 | [c0,c1],_,hall=>
  have h0:=hall 0 (by omega);have h1:=hall 1 (by omega);rw[hs,List.getElem?_eq_getElem (by omega)]at h0 h1;obtain⟨a,ha,hra⟩:=he.get h0;obtain⟨b,hb,hrb⟩:=he.get h1;exact⟨(a,b),⟨ha,hb⟩,by rw[he'];exact crep_two hra hrb⟩
structure OpensF(P:Program)(fs:List Field)(off N:Nat){α:Type}(e:α→List AV)(ok:α→Prop):Prop where
 get:∀{H:Type} {enc:TypeId×Value→H} {w:World} {base:Nat} {spare:Nat→Bool} {held:Bool} {n:Nat} {cs:List Value},cs.length=N→
  (∀ f∈fs,∃ x,DataW.trod enc P w base spare held n f.type ((cs.drop f.offset).take (P.cellsOf f.type))=some x)→∃ a,ok a∧CRep w (cs.drop off) (e a)
theorem Opens.to{P:Program}{t:TypeId}{α β:Type}{e:α→List AV}{ok:α→Prop}(h:Opens P t e ok){e':β→List AV}{ok':β→Prop}(g:α→β)(he:∀ a,e' (g a)=e a)(hok:∀ a,ok a→ok' (g a)):Opens P t e' ok':=by
 refine⟨?_⟩;intro H enc w base spare held fuel cs x hx;obtain⟨a,ha,hr⟩:=h.get hx;exact⟨g a,hok a ha,by rw[he];exact hr⟩
theorem arg_one{P:Program}{t:TypeId}{α:Type}{e:α→List AV}{ok:α→Prop}(h:Opens P t e ok){x:α→AV}(he:∀ a,e a=[x a]){H:Type}{enc:TypeId×Value→H}{w:World}{base:Nat}{spare:Nat→Bool}{held:Bool}{v:Value}{d:DataW H}{ps:List MemPlace}
  (hv:v.cells = #[v]) (hd:DataW.Trod enc P w base spare held t v d ps):∃ a,ok a∧RepV (Iall w) w v (x a):=by
 obtain⟨fuel,hf⟩:=hd;obtain⟨a,ha,hr⟩:=h.get hf;refine⟨a,ha,?_⟩;have:=hr.rep 0 (by simp[he])
 simpa [hv,he] using this
theorem arg_agg{P:Program}{t:TypeId}{α:Type}{e:α→List AV}{ok:α→Prop}(h:Opens P t e ok){H:Type}{enc:TypeId×Value→H}{w:World}{base:Nat}{spare:Nat→Bool}{held:Bool}{cs:Array Value}{d:DataW H}{ps:List MemPlace}
  (hd:DataW.Trod enc P w base spare held t (.agg cs) d ps):∃ a,ok a∧RepV (Iall w) w (.agg cs) (.agg (e a)):=by
 obtain⟨fuel,hf⟩:=hd;obtain⟨a,ha,hr⟩:=h.get hf;have e1:(Value.agg cs).cells.toList=cs.toList:=rfl;rw[e1]at hr
 have e2:∀ j,cs.toList.getD j undef=cs.getD j undef:=fun j=>by simp[Array.getD_eq_getD_getElem?,List.getD]
 refine⟨a,ha,.agg _ _ (by simpa using hr.len) (fun j hj=>?_) (fun j hj=>?_)⟩
 ·rw[← e2];exact hr.one j hj
 ·rw[← e2];exact hr.rep j hj
def okU8(n:Int):Prop:=(Lit.int .u8 n).wf=true
theorem op_5:Opens Tryz.prog 5 Dk okU8:=Yo Tryz.underlying5 (fun _=>rfl)
def okU64(n:Int):Prop:=(Lit.int .u64 n).wf=true
theorem op_37:Opens Tryz.prog 37 Bh okU64:=Yo Tryz.underlying37 (fun _=>rfl)
def okA2U64(p:(Int×Int)):Prop:=okU64 p.1∧okU64 p.2
theorem op_50:Opens Tryz.prog 50 eA2U64 okA2U64:=Zt Tryz.underlying50 (by kernel_rfl) (by kernel_rfl) op_37 (fun _=>rfl)
end
end Go.Proofs.YtemgdalocjcbhaaGreat
