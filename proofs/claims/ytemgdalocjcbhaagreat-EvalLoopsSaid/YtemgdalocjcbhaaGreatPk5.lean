/-
  The machine, the program's functions and the laws' arithmetic: part 5 of 5.
-/
import Derived.Test.YtemgdalocjcbhaaGreatPk4
import Derived.OpenShut
import Derived.ShutString
set_option linter.unusedVariables false
set_option linter.unusedSimpArgs false
namespace Go.Proofs.YtemgdalocjcbhaaGreat
noncomputable section
open Go Go.RowKit
set_option maxRecDepth 100000
set_option maxHeartbeats 2000000
def B6(aA:List Cs):(Int×Int×Int×List Ab×List (List Int)×List Int)→Option (LR (Int×Int×Int×List Ab×List (List Int)×List Int) ((Int×Int×List Ab×List (List Int)×List Int) ⊕ (Int×Int×Int×List Ab×List (List Int)×List Int))):=
 fun((i1,i2,i3,l4,l5,l6):(Int×Int×Int×List Ab×List (List Int)×List Int))=>(bif (decide (i1<(aA.length:Int))) then((Cf l5 i2 i3 l6 l4).bind fun x12=>(Aw (l5.length=x12.2.2.2.2.1.length) (Aw (l6.length=x12.2.2.2.2.2.length) (bif (!x12.1) then(some (.done (.inr ((9:Int),x12.2.1,x12.2.2.1,x12.2.2.2.1,x12.2.2.2.2.1,x12.2.2.2.2.2)))) else(Option.bind (α:=(List Int×Int×Int×Int×List Ab×List (List Int)×List Int)) (Aw (A5 i1 aA.length) (bif (decide ((aA.getD i1.toNat default).Kind=(0:Int))) then(Aw (A5 i1 aA.length) ((Ff (aA.getD i1.toNat default)).bind fun x25=>(some (x25.1,x25.2,x12.2.1,x12.2.2.1,x12.2.2.2.1,x12.2.2.2.2.1,x12.2.2.2.2.2)))) else(bif (decide ((aA.getD i1.toNat default).Kind=(13:Int))) then(Aw (A5 i1 aA.length) ((D3 (aA.getD i1.toNat default) x12.2.2.2.2.1 x12.2.1 x12.2.2.1 x12.2.2.2.2.2 x12.2.2.2.1).bind fun x28=>(some (x28.1,x28.2,x12.2.1,x12.2.2.1,x12.2.2.2.1,x12.2.2.2.2.1,x12.2.2.2.2.2)))) else(bif (decide ((aA.getD i1.toNat default).Kind=(14:Int))) then(Aw (A5 i1 aA.length) ((C5 (aA.getD i1.toNat default) x12.2.2.2.2.1 x12.2.1 x12.2.2.1 x12.2.2.2.2.2 x12.2.2.2.1).bind fun x31=>(some (x31.1,x31.2,x12.2.1,x12.2.2.1,x12.2.2.2.1,x12.2.2.2.2.1,x12.2.2.2.2.2)))) else(bif (decide ((aA.getD i1.toNat default).Kind=(15:Int))) then(Aw (A5 i1 aA.length) ((Cq (aA.getD i1.toNat default) x12.2.2.2.2.1 x12.2.1 x12.2.2.1 x12.2.2.2.2.2 x12.2.2.2.1).bind fun x34=>(some (x34.1,x34.2,x12.2.1,x12.2.2.1,x12.2.2.2.1,x12.2.2.2.2.1,x12.2.2.2.2.2)))) else(bif (decide ((aA.getD i1.toNat default).Kind=(16:Int))) then(Aw (A5 i1 aA.length) ((Di (aA.getD i1.toNat default) x12.2.2.2.2.1 x12.2.1 x12.2.2.1 x12.2.2.2.2.2 x12.2.2.2.1).bind fun x37=>(Aw (x12.2.2.2.2.1.length=x37.2.2.2.2.2.1.length) (Aw (x12.2.2.2.2.2.length=x37.2.2.2.2.2.2.length) (some (x37.1,x37.2.1,x37.2.2.1,x37.2.2.2.1,x37.2.2.2.2.1,x37.2.2.2.2.2.1,x37.2.2.2.2.2.2)))))) else(bif (decide ((aA.getD i1.toNat default).Kind=(17:Int))) then(Aw (A5 i1 aA.length) ((Db (aA.getD i1.toNat default) x12.2.2.2.2.1 x12.2.1 x12.2.2.1 x12.2.2.2.2.2 x12.2.2.2.1).bind fun x42=>(Aw (x12.2.2.2.2.1.length=x42.2.2.2.2.2.1.length) (Aw (x12.2.2.2.2.2.length=x42.2.2.2.2.2.2.length) (some (x42.1,x42.2.1,x42.2.2.1,x42.2.2.2.1,x42.2.2.2.2.1,x42.2.2.2.2.2.1,x42.2.2.2.2.2.2)))))) else(bif (decide ((aA.getD i1.toNat default).Kind=(18:Int))) then(Aw (A5 i1 aA.length) ((C4 (aA.getD i1.toNat default) x12.2.2.2.2.1 x12.2.1 x12.2.2.1 x12.2.2.2.2.2 x12.2.2.2.1).bind fun x47=>(Aw (x12.2.2.2.2.1.length=x47.2.2.2.2.2.1.length) (Aw (x12.2.2.2.2.2.length=x47.2.2.2.2.2.2.length) (some (x47.1,x47.2.1,x47.2.2.1,x47.2.2.2.1,x47.2.2.2.2.1,x47.2.2.2.2.2.1,x47.2.2.2.2.2.2)))))) else(bif (decide ((aA.getD i1.toNat default).Kind=(19:Int))) then(Aw (A5 i1 aA.length) ((Co (aA.getD i1.toNat default) x12.2.2.2.2.1 x12.2.1 x12.2.2.1 x12.2.2.2.2.2 x12.2.2.2.1).bind fun x52=>(Aw (x12.2.2.2.2.1.length=x52.2.2.2.2.2.1.length) (Aw (x12.2.2.2.2.2.length=x52.2.2.2.2.2.2.length) (some (x52.1,x52.2.1,x52.2.2.1,x52.2.2.2.1,x52.2.2.2.2.1,x52.2.2.2.2.2.1,x52.2.2.2.2.2.2)))))) else(bif (decide ((aA.getD i1.toNat default).Kind=(20:Int))) then(Aw (A5 i1 aA.length) ((Cp (aA.getD i1.toNat default) (4:Int) x12.2.2.2.2.1 x12.2.1 x12.2.2.1 x12.2.2.2.2.2 x12.2.2.2.1).bind fun x57=>(some (x57.1,x57.2,x12.2.1,x12.2.2.1,x12.2.2.2.1,x12.2.2.2.2.1,x12.2.2.2.2.2)))) else(bif (decide ((aA.getD i1.toNat default).Kind=(21:Int))) then(Aw (A5 i1 aA.length) ((En (aA.getD i1.toNat default) x12.2.2.2.2.1 x12.2.1 x12.2.2.1 x12.2.2.2.2.2 x12.2.2.2.1).bind fun x60=>(some (x60.1,x60.2,x12.2.1,x12.2.2.1,x12.2.2.2.1,x12.2.2.2.2.1,x12.2.2.2.2.2)))) else(bif (decide ((aA.getD i1.toNat default).Kind=(22:Int))) then(Aw (A5 i1 aA.length) ((E8 (aA.getD i1.toNat default) x12.2.2.2.2.1 x12.2.1 x12.2.2.1 x12.2.2.2.2.2 x12.2.2.2.1).bind fun x63=>(some (x63.1,x63.2,x12.2.1,x12.2.2.1,x12.2.2.2.1,x12.2.2.2.2.1,x12.2.2.2.2.2)))) else(bif (decide ((aA.getD i1.toNat default).Kind=(1:Int))) then(Aw (A5 i1 aA.length) ((Ai (aA.getD i1.toNat default) (1:Int) x12.2.2.2.2.1 x12.2.1 x12.2.2.1 x12.2.2.2.2.2 x12.2.2.2.1).bind fun x66=>(some (x66.1,x66.2,x12.2.1,x12.2.2.1,x12.2.2.2.1,x12.2.2.2.2.1,x12.2.2.2.2.2)))) else(bif (decide ((aA.getD i1.toNat default).Kind=(2:Int))) then(Aw (A5 i1 aA.length) ((Ai (aA.getD i1.toNat default) (2:Int) x12.2.2.2.2.1 x12.2.1 x12.2.2.1 x12.2.2.2.2.2 x12.2.2.2.1).bind fun x69=>(some (x69.1,x69.2,x12.2.1,x12.2.2.1,x12.2.2.2.1,x12.2.2.2.2.1,x12.2.2.2.2.2)))) else(bif (decide ((aA.getD i1.toNat default).Kind=(3:Int))) then(Aw (A5 i1 aA.length) ((Ai (aA.getD i1.toNat default) (3:Int) x12.2.2.2.2.1 x12.2.1 x12.2.2.1 x12.2.2.2.2.2 x12.2.2.2.1).bind fun x72=>(some (x72.1,x72.2,x12.2.1,x12.2.2.1,x12.2.2.2.1,x12.2.2.2.2.1,x12.2.2.2.2.2)))) else(bif (decide ((aA.getD i1.toNat default).Kind=(4:Int))) then(Aw (A5 i1 aA.length) ((Ai (aA.getD i1.toNat default) (4:Int) x12.2.2.2.2.1 x12.2.1 x12.2.2.1 x12.2.2.2.2.2 x12.2.2.2.1).bind fun x75=>(some (x75.1,x75.2,x12.2.1,x12.2.2.1,x12.2.2.2.1,x12.2.2.2.2.1,x12.2.2.2.2.2)))) else(bif (decide ((aA.getD i1.toNat default).Kind=(5:Int))) then(Aw (A5 i1 aA.length) ((Ai (aA.getD i1.toNat default) (5:Int) x12.2.2.2.2.1 x12.2.1 x12.2.2.1 x12.2.2.2.2.2 x12.2.2.2.1).bind fun x78=>(some (x78.1,x78.2,x12.2.1,x12.2.2.1,x12.2.2.2.1,x12.2.2.2.2.1,x12.2.2.2.2.2)))) else(bif (decide ((aA.getD i1.toNat default).Kind=(6:Int))) then(Aw (A5 i1 aA.length) ((Ai (aA.getD i1.toNat default) (6:Int) x12.2.2.2.2.1 x12.2.1 x12.2.2.1 x12.2.2.2.2.2 x12.2.2.2.1).bind fun x81=>(some (x81.1,x81.2,x12.2.1,x12.2.2.1,x12.2.2.2.1,x12.2.2.2.2.1,x12.2.2.2.2.2)))) else(bif (decide ((aA.getD i1.toNat default).Kind=(7:Int))) then(Aw (A5 i1 aA.length) ((Ai (aA.getD i1.toNat default) (7:Int) x12.2.2.2.2.1 x12.2.1 x12.2.2.1 x12.2.2.2.2.2 x12.2.2.2.1).bind fun x84=>(some (x84.1,x84.2,x12.2.1,x12.2.2.1,x12.2.2.2.1,x12.2.2.2.2.1,x12.2.2.2.2.2)))) else(bif (decide ((aA.getD i1.toNat default).Kind=(8:Int))) then(Aw (A5 i1 aA.length) ((Ai (aA.getD i1.toNat default) (8:Int) x12.2.2.2.2.1 x12.2.1 x12.2.2.1 x12.2.2.2.2.2 x12.2.2.2.1).bind fun x87=>(some (x87.1,x87.2,x12.2.1,x12.2.2.1,x12.2.2.2.1,x12.2.2.2.2.1,x12.2.2.2.2.2)))) else(bif (decide ((aA.getD i1.toNat default).Kind=(9:Int))) then(Aw (A5 i1 aA.length) ((Ai (aA.getD i1.toNat default) (9:Int) x12.2.2.2.2.1 x12.2.1 x12.2.2.1 x12.2.2.2.2.2 x12.2.2.2.1).bind fun x90=>(some (x90.1,x90.2,x12.2.1,x12.2.2.1,x12.2.2.2.1,x12.2.2.2.2.1,x12.2.2.2.2.2)))) else(bif (decide ((aA.getD i1.toNat default).Kind=(10:Int))) then(Aw (A5 i1 aA.length) ((Ai (aA.getD i1.toNat default) (10:Int) x12.2.2.2.2.1 x12.2.1 x12.2.2.1 x12.2.2.2.2.2 x12.2.2.2.1).bind fun x93=>(some (x93.1,x93.2,x12.2.1,x12.2.2.1,x12.2.2.2.1,x12.2.2.2.2.1,x12.2.2.2.2.2)))) else(bif (decide ((aA.getD i1.toNat default).Kind=(11:Int))) then(Aw (A5 i1 aA.length) ((Ai (aA.getD i1.toNat default) (11:Int) x12.2.2.2.2.1 x12.2.1 x12.2.2.1 x12.2.2.2.2.2 x12.2.2.2.1).bind fun x96=>(some (x96.1,x96.2,x12.2.1,x12.2.2.1,x12.2.2.2.1,x12.2.2.2.2.1,x12.2.2.2.2.2)))) else(bif (decide ((aA.getD i1.toNat default).Kind=(12:Int))) then(Aw (A5 i1 aA.length) ((Ai (aA.getD i1.toNat default) (12:Int) x12.2.2.2.2.1 x12.2.1 x12.2.2.1 x12.2.2.2.2.2 x12.2.2.2.1).bind fun x99=>(some (x99.1,x99.2,x12.2.1,x12.2.2.1,x12.2.2.2.1,x12.2.2.2.2.1,x12.2.2.2.2.2)))) else none)))))))))))))))))))))))) (fun(l15,i16,i17,i18,l19,l20,l21)=>(bif (i16 !=0) then(some (.done (.inr (i16,i17,i18,l19,l20,l21)))) else(Aw (A5 i1 aA.length) (Aw (A5 (aA.getD i1.toNat default).Dst l20.length) (some (.next ((Aq (i1+1)),i17,i18,l19,(l20.set ((aA.getD i1.toNat default).Dst).toNat l15),l21)))))))))))) else(some (.done (.inl (i2,i3,l4,l5,l6)))))
def O1(Γ:Ek)(aA:List Cs)(a0:List (List Int))(a3:Int)(a2:Int)(a4:List Int)(a5:List Ab)(r:(Int×Int×Int×List Ab×List (List Int)×List Int)):Exit→St→Prop:=fK Tryz.prog Γ Tryz.f70.results.toList (Z1 a0 a3 a2 a4 a5 a5.length) (Bi r.1) (Z1 r.2.2.2.2.1 r.2.1 r.2.2.1 r.2.2.2.2.2 r.2.2.2.1 r.2.2.2.1.length)
def Od(x12:(Bool×Int×Int×List Ab×List (List Int)×List Int)):List AV:=(Z6 35100 x12.2.2.2.2.2.length x12.2.2.2.1 37101)
def Ol(x12:(Bool×Int×Int×List Ab×List (List Int)×List Int)):Own:=(.row 93 (Od x12))
def On(x12:(Bool×Int×Int×List Ab×List (List Int)×List Int)):AV:=(Bi x12.2.2.1)
def Oi:Own:=(.obj (.tab .i64 Hc))
def Oh(x12:(Bool×Int×Int×List Ab×List (List Int)×List Int)):Own:=(.tok 3 49 x12.2.2.2.1.length)
def Ib(aA:List Cs)(i1:Int):=(aA.getD i1.toNat default)
def J6(aA:List Cs)(i1:Int):AV:=(.int .i64 (Ib aA i1).Kind)
def Om(x12:(Bool×Int×Int×List Ab×List (List Int)×List Int)):AV:=(.vsl 35002 x12.2.2.2.2.1.length)
def Og(x12:(Bool×Int×Int×List Ab×List (List Int)×List Int)):=(fun i=>As (x12.2.2.2.2.1.getD i []))
def Of(x12:(Bool×Int×Int×List Ab×List (List Int)×List Int)):=(fun i=>Dd (x12.2.2.2.2.2.getD i 0))
def Ok(x12:(Bool×Int×Int×List Ab×List (List Int)×List Int)):Own:=(.arr 1 5 x12.2.2.2.2.2.length (Of x12))
def Oj(x12:(Bool×Int×Int×List Ab×List (List Int)×List Int)):Own:=(.arr 1 26 x12.2.2.2.2.1.length (Og x12))
def Oe(x12:(Bool×Int×Int×List Ab×List (List Int)×List Int)):Own:=(.row 99 [(.ptr 30001 0),(.omap 9100001),(Om x12),(Bi x12.2.1),(On x12)])
def Q141(x12:(Bool×Int×Int×List Ab×List (List Int)×List Int)):List (Nat×Own):=[(30000,.row 99 [(.ptr 30001 0),(.omap 9100001),(Om x12),(Bi x12.2.1),(On x12)]),(30001,.row 93 (Od x12)),(Ws 37101 x12.2.2.2.1.length),(35002,.arr 1 26 x12.2.2.2.2.1.length (Og x12)),(35100,.arr 1 5 x12.2.2.2.2.2.length (Of x12)),(Z51 9100001)]
def Ck(aA:List Cs)(a0:List (List Int))(a3:Int)(a2:Int)(a4:List Int)(a5:List Ab):Option (Int×Int×Int×List Ab×List (List Int)×List Int):=
 ((Az (B6 aA) ((0:Int),a3,a2,a5,a0,a4)).bind (fun x104=>(match x104 with|(.inl (i7,i8,l9,l10,l11))=>(some ((0:Int),i7,i8,l9,l10,l11))|(.inr r106)=>(some r106))))
theorem Ii(aA:List Cs)(a0:List (List Int))(a3:Int)(a2:Int)(a4:List Int)(a5:List Ab)(r:(Int×Int×Int×List Ab×List (List Int)×List Int))(h:Ck aA a0 a3 a2 a4 a5=some r):Spec Tryz.prog 70 [(.ptr 30000 0),(AV.list 6 Fc default aA .none)] [(30000,.row 99 [(.ptr 30001 0),(.omap 9100001),(.vsl 35002 a0.length),(.int .i64 a3),(.int .i64 a2)]),(30001,.row 93 [(.vsl 35100 a4.length),(AV.list 3 Ao default a5 (.own 37101))]),(37101,.tok 3 49 a5.length),(35002,.arr 1 26 a0.length (fun i=>As (a0.getD i []))),(35100,.arr 1 5 a4.length (fun i=>Dd (a4.getD i 0))),(9100001,.obj (.tab .i64 Hc))] (.int .i64 r.1) [(30000,.row 99 [(.ptr 30001 0),(.omap 9100001),(.vsl 35002 r.2.2.2.2.1.length),(.int .i64 r.2.1),(.int .i64 r.2.2.1)]),(30001,.row 93 [(.vsl 35100 r.2.2.2.2.2.length),(AV.list 3 Ao default r.2.2.2.1 (.own 37101))]),(37101,.tok 3 49 r.2.2.2.1.length),(35002,.arr 1 26 r.2.2.2.2.1.length (fun i=>As (r.2.2.2.2.1.getD i []))),(35100,.arr 1 5 r.2.2.2.2.2.length (fun i=>Dd (r.2.2.2.2.2.getD i 0))),(9100001,.obj (.tab .i64 Hc))]:=by
 refine Ac mix Tryz.func70 (fun Γ hq=>?_);unfold Ck at h;refine Af hq [0,1] [30000,30001,35002,35100,37101,9100001] ?_;refine Af hq [0,1,9,10] [30000,30001,35002,35100,37101,9100001] ?_;obtain⟨x104,hx104,h⟩:=bind_some h;refine gL hq hx104 [0,1,9,10] [30000,30001,35002,35100,37101,9100001] (fun u (i1,i2,i3,l4,l5,l6)=>(Cx u [(I5 10 i1)] [(Xk l5.length i2 i3),(Z57 30001 35100 l6.length l4 37101),(Wq 35002 l5),(Z8 35100 l6),(Ws 37101 l4.length)])) (fun u x_=>match x_ with|(.inl (i7,i8,l9,l10,l11))=>aG Γ (.exit 0) (⟨[],(Z23 l10.length i7 i8 l11.length l9 l10 l11 l9.length),[]⟩:St)|(.inr r_)=>aR (O1 Γ aA a0 a3 a2 a4 a5 r_)) ?_ ?_
 ·rintro⟨i1,i2,i3,l4,l5,l6⟩ y h;unfold B6 at h;refine Af hq [0,1,9,10,11] [30000,30001,35002,35100,37101,9100001] ?_;refine gC h (fun h=>?_) (fun h=>?_)
  ·refine Af hq [0,1,5,9,10] [30000,30001,35002,35100,37101,9100001] ?_;obtain⟨x12,hx12,h⟩:=bind_some h;obtain⟨hc13,h⟩:=Aa h;obtain⟨hc14,h⟩:=Aa h;refine gR hq [0,1,5,9,10,15] [30000,30001,35002,35100,37101,9100001] [] [⟨[(30000,30000),(30001,30001),(37101,37101),(35002,35002),(35100,35100),(9100001,9100001)],[],(.bool x12.1),(Q141 x12),[],[]⟩] (c1 (Gj l5 i2 i3 l6 l4 x12 hx12)) ?_;refine gC h (fun h=>?_) (fun h=>?_)
   ·refine Af hq [4] [30000,30001,35002,35100,37101,9100001] ?_;cases h;exact gO (Jw (Fx [(30000,30000),(30001,30001),(37101,37101),(35002,35002),(35100,35100),(9100001,9100001)] (Le.refl _ _)))
   ·obtain⟨x100,hx100,h⟩:=bind_some h;refine gJR hx100 (fun(l15,i16,i17,i18,l19,l20,l21)=>aG Γ .normal (⟨[(0,(.ptr 30000 0)),(1,(AV.list 6 Fc default aA .none)),(5,(Bi i1)),(6,(Z48 l15)),(7,(Bi i16)),(9,(K5 aA.length)),(I5 10 i1)],(Z23 l20.length i17 i18 l21.length l19 l20 l21 l19.length),[]⟩:St)) ?_ ?_
    ·clear h hx100;intro y h;obtain⟨hc22,h⟩:=Aa h;refine gB h (fun hs23 h=>?_) (fun hs23 h=>?_)
     ·obtain⟨hc24,h⟩:=Aa h;obtain⟨x25,hx25,h⟩:=bind_some h;refine gR hq [0,1,5,6,7,9,10] [31,30000,30001,35002,35100,37101,9100001] [(25,Id)] [⟨[],[(20000,31)],(.tuple (T9 x25.1 x25.2)),[(20000,.tok 1 37 x25.1.length)],[],[]⟩] (ci hc22 (ci (show(AVle (J6 aA i1) Id) from(Bm hs23)) (ci hc24 (c1 (S6 (Ib aA i1) x25 hx25))))) ?_;cases h;exact gK (B2 (B0 [0,1,5,6,7,9,10] [30000,30001,35002,35100,37101,9100001] hq))
     ·refine gB h (fun hs26 h=>?_) (fun hs26 h=>?_)
      ·obtain⟨hc27,h⟩:=Aa h;obtain⟨x28,hx28,h⟩:=bind_some h;refine gR hq [0,1,5,6,7,9,10] [30000,30001,35002,35100,37101,9100001] [(25,(K5 13))] [⟨[(30000,30000),(30001,30001),(37101,37101),(35002,35002),(35100,35100),(9100001,9100001)],[],(.tuple [(Z48 x28.1),(Bi x28.2)]),(Q141 x12),[],[30000,30001,37101,35002,35100,9100001]⟩] (ci hc22 (ci (show(AVle (J6 aA i1) (K5 13)) from(Bm hs26)) (ci hc27 (ci (Nj (Ib aA i1) x12.2.2.2.2.1 x12.2.1 x12.2.2.1 x12.2.2.2.2.2 x12.2.2.2.1 x28 hx28) (ci (rk (Oe x12)) (ci (rk (Ol x12)) (ci (rk (Oh x12)) (ci (rk (Oj x12)) (ci (rk (Ok x12)) (c1 (rk Oi))))))))))) ?_;cases h;exact gK (B2 C9)
      ·refine gB h (fun hs29 h=>?_) (fun hs29 h=>?_)
       ·obtain⟨hc30,h⟩:=Aa h;obtain⟨x31,hx31,h⟩:=bind_some h;refine gR hq [0,1,5,6,7,9,10] [31,30000,30001,35002,35100,37101,9100001] [(25,(K5 14))] [⟨[(30000,30000),(30001,30001),(37101,37101),(35002,35002),(35100,35100),(9100001,9100001)],[(20000,31)],(.tuple (T9 x31.1 x31.2)),(Z5 (Om x12) x12.2.1 (On x12) (Od x12) x12.2.2.2.1.length x12.2.2.2.2.1.length (Og x12) x12.2.2.2.2.2.length (Of x12) x31.1.length),[],[30000,30001,37101,35002,35100,9100001]⟩] (ci hc22 (ci (show(AVle (J6 aA i1) (K5 14)) from(Bm hs29)) (ci hc30 (ci (K9 (Ib aA i1) x12.2.2.2.2.1 x12.2.1 x12.2.2.1 x12.2.2.2.2.2 x12.2.2.2.1 x31 hx31) (ci (rk (Oe x12)) (ci (rk (Ol x12)) (ci (rk (Oh x12)) (ci (rk (Oj x12)) (ci (rk (Ok x12)) (c1 (rk Oi))))))))))) ?_;cases h;exact gK (B2 (B0 [0,1,5,6,7,9,10] [30000,30001,35002,35100,37101,9100001] hq))
       ·refine gB h (fun hs32 h=>?_) (fun hs32 h=>?_)
        ·obtain⟨hc33,h⟩:=Aa h;obtain⟨x34,hx34,h⟩:=bind_some h;refine gR hq [0,1,5,6,7,9,10] [31,30000,30001,35002,35100,37101,9100001] [(25,(K5 15))] [⟨[(30000,30000),(30001,30001),(37101,37101),(35002,35002),(35100,35100),(9100001,9100001)],[(20000,31)],(.tuple (T9 x34.1 x34.2)),(Z5 (Om x12) x12.2.1 (On x12) (Od x12) x12.2.2.2.1.length x12.2.2.2.2.1.length (Og x12) x12.2.2.2.2.2.length (Of x12) x34.1.length),[],[30000,30001,37101,35002,35100,9100001]⟩] (ci hc22 (ci (show(AVle (J6 aA i1) (K5 15)) from(Bm hs32)) (ci hc33 (ci (Jr (Ib aA i1) x12.2.2.2.2.1 x12.2.1 x12.2.2.1 x12.2.2.2.2.2 x12.2.2.2.1 x34 hx34) (ci (rk (Oe x12)) (ci (rk (Ol x12)) (ci (rk (Oh x12)) (ci (rk (Oj x12)) (ci (rk (Ok x12)) (c1 (rk Oi))))))))))) ?_;cases h;exact gK (B2 (B0 [0,1,5,6,7,9,10] [30000,30001,35002,35100,37101,9100001] hq))
        ·refine gB h (fun hs35 h=>?_) (fun hs35 h=>?_)
         ·obtain⟨hc36,h⟩:=Aa h;obtain⟨x37,hx37,h⟩:=bind_some h;obtain⟨hc38,h⟩:=Aa h;obtain⟨hc39,h⟩:=Aa h;refine gR hq [0,1,5,6,7,9,10] [31,30000,30001,35002,35100,37101,9100001] [(25,(K5 16))] [⟨[(30000,30000),(30001,30001),(37101,37101),(35002,35002),(35100,35100),(9100001,9100001)],[(20000,31)],(.tuple (T9 x37.1 x37.2.1)),(Z17 x37.2.2.2.2.2.1.length x37.2.2.1 x37.2.2.2.1 x37.2.2.2.2.2.2.length x37.2.2.2.2.1 x37.2.2.2.2.1.length x37.2.2.2.2.2.1 x37.2.2.2.2.2.2 x37.1.length),[],[]⟩] (ci hc22 (ci (show(AVle (J6 aA i1) (K5 16)) from(Bm hs35)) (ci hc36 (c1 (Jd (Ib aA i1) x12.2.2.2.2.1 x12.2.1 x12.2.2.1 x12.2.2.2.2.2 x12.2.2.2.1 x37 hx37))))) ?_;cases h;exact gK (B2 (B0 [0,1,5,6,7,9,10] [30000,30001,35002,35100,37101,9100001] hq))
         ·refine gB h (fun hs40 h=>?_) (fun hs40 h=>?_)
          ·obtain⟨hc41,h⟩:=Aa h;obtain⟨x42,hx42,h⟩:=bind_some h;obtain⟨hc43,h⟩:=Aa h;obtain⟨hc44,h⟩:=Aa h;refine gR hq [0,1,5,6,7,9,10] [31,30000,30001,35002,35100,37101,9100001] [(25,(K5 17))] [⟨[(30000,30000),(30001,30001),(37101,37101),(35002,35002),(35100,35100),(9100001,9100001)],[(20000,31)],(.tuple (T9 x42.1 x42.2.1)),(Z17 x42.2.2.2.2.2.1.length x42.2.2.1 x42.2.2.2.1 x42.2.2.2.2.2.2.length x42.2.2.2.2.1 x42.2.2.2.2.1.length x42.2.2.2.2.2.1 x42.2.2.2.2.2.2 x42.1.length),[],[]⟩] (ci hc22 (ci (show(AVle (J6 aA i1) (K5 17)) from(Bm hs40)) (ci hc41 (c1 (Ij (Ib aA i1) x12.2.2.2.2.1 x12.2.1 x12.2.2.1 x12.2.2.2.2.2 x12.2.2.2.1 x42 hx42))))) ?_;cases h;exact gK (B2 (B0 [0,1,5,6,7,9,10] [30000,30001,35002,35100,37101,9100001] hq))
          ·refine gB h (fun hs45 h=>?_) (fun hs45 h=>?_)
           ·obtain⟨hc46,h⟩:=Aa h;obtain⟨x47,hx47,h⟩:=bind_some h;obtain⟨hc48,h⟩:=Aa h;obtain⟨hc49,h⟩:=Aa h;refine gR hq [0,1,5,6,7,9,10] [30000,30001,35002,35100,37101,9100001] [(25,(K5 18))] [⟨[(30000,30000),(30001,30001),(37101,37101),(35002,35002),(35100,35100),(9100001,9100001)],[],(.tuple [(Z48 x47.1),(Bi x47.2.1)]),(Z1 x47.2.2.2.2.2.1 x47.2.2.1 x47.2.2.2.1 x47.2.2.2.2.2.2 x47.2.2.2.2.1 x47.2.2.2.2.1.length),[],[]⟩] (ci hc22 (ci (show(AVle (J6 aA i1) (K5 18)) from(Bm hs45)) (ci hc46 (c1 (K8 (Ib aA i1) x12.2.2.2.2.1 x12.2.1 x12.2.2.1 x12.2.2.2.2.2 x12.2.2.2.1 x47 hx47))))) ?_;cases h;exact gK (B2 C9)
           ·refine gB h (fun hs50 h=>?_) (fun hs50 h=>?_)
            ·obtain⟨hc51,h⟩:=Aa h;obtain⟨x52,hx52,h⟩:=bind_some h;obtain⟨hc53,h⟩:=Aa h;obtain⟨hc54,h⟩:=Aa h;refine gR hq [0,1,5,6,7,9,10] [30000,30001,35002,35100,37101,9100001] [(25,(K5 19))] [⟨[(30000,30000),(30001,30001),(37101,37101),(35002,35002),(35100,35100),(9100001,9100001)],[],(.tuple [(Z48 x52.1),(Bi x52.2.1)]),(Z1 x52.2.2.2.2.2.1 x52.2.2.1 x52.2.2.2.1 x52.2.2.2.2.2.2 x52.2.2.2.2.1 x52.2.2.2.2.1.length),[],[]⟩] (ci hc22 (ci (show(AVle (J6 aA i1) (K5 19)) from(Bm hs50)) (ci hc51 (c1 (Jp (Ib aA i1) x12.2.2.2.2.1 x12.2.1 x12.2.2.1 x12.2.2.2.2.2 x12.2.2.2.1 x52 hx52))))) ?_;cases h;exact gK (B2 C9)
            ·refine gB h (fun hs55 h=>?_) (fun hs55 h=>?_)
             ·obtain⟨hc56,h⟩:=Aa h;obtain⟨x57,hx57,h⟩:=bind_some h;refine gR hq [0,1,5,6,7,9,10] [30000,30001,35002,35100,37101,9100001] [(25,(K5 20))] [⟨[(30000,30000),(30001,30001),(37101,37101),(35002,35002),(35100,35100),(9100001,9100001)],[],(.tuple [(Z48 x57.1),(Bi x57.2)]),(Q141 x12),[],[30000,30001,37101,35002,35100,9100001]⟩] (ci hc22 (ci (show(AVle (J6 aA i1) (K5 20)) from(Bm hs55)) (ci hc56 (ci (Jq (Ib aA i1) (4:Int) x12.2.2.2.2.1 x12.2.1 x12.2.2.1 x12.2.2.2.2.2 x12.2.2.2.1 x57 hx57) (ci (rk (Oe x12)) (ci (rk (Ol x12)) (ci (rk (Oh x12)) (ci (rk (Oj x12)) (ci (rk (Ok x12)) (c1 (rk Oi))))))))))) ?_;cases h;exact gK (B2 C9)
             ·refine gB h (fun hs58 h=>?_) (fun hs58 h=>?_)
              ·obtain⟨hc59,h⟩:=Aa h;obtain⟨x60,hx60,h⟩:=bind_some h;refine gR hq [0,1,5,6,7,9,10] [31,30000,30001,35002,35100,37101,9100001] [(25,(K5 21))] [⟨[(30000,30000),(30001,30001),(37101,37101),(35002,35002),(35100,35100),(9100001,9100001)],[(20000,31)],(.tuple (T9 x60.1 x60.2)),(Z5 (Om x12) x12.2.1 (On x12) (Od x12) x12.2.2.2.1.length x12.2.2.2.2.1.length (Og x12) x12.2.2.2.2.2.length (Of x12) x60.1.length),[],[30000,30001,37101,35002,35100,9100001]⟩] (ci hc22 (ci (show(AVle (J6 aA i1) (K5 21)) from(Bm hs58)) (ci hc59 (ci (Pp (Ib aA i1) x12.2.2.2.2.1 x12.2.1 x12.2.2.1 x12.2.2.2.2.2 x12.2.2.2.1 x60 hx60) (ci (rk (Oe x12)) (ci (rk (Ol x12)) (ci (rk (Oh x12)) (ci (rk (Oj x12)) (ci (rk (Ok x12)) (c1 (rk Oi))))))))))) ?_;cases h;exact gK (B2 (B0 [0,1,5,6,7,9,10] [30000,30001,35002,35100,37101,9100001] hq))
              ·refine gB h (fun hs61 h=>?_) (fun hs61 h=>?_)
               ·obtain⟨hc62,h⟩:=Aa h;obtain⟨x63,hx63,h⟩:=bind_some h;refine gR hq [0,1,5,6,7,9,10] [31,30000,30001,35002,35100,37101,9100001] [(25,(K5 22))] [⟨[(30000,30000),(30001,30001),(37101,37101),(35002,35002),(35100,35100),(9100001,9100001)],[(20000,31)],(.tuple (T9 x63.1 x63.2)),(Z5 (Om x12) x12.2.1 (On x12) (Od x12) x12.2.2.2.1.length x12.2.2.2.2.1.length (Og x12) x12.2.2.2.2.2.length (Of x12) x63.1.length),[],[30000,30001,37101,35002,35100,9100001]⟩] (ci hc22 (ci (show(AVle (J6 aA i1) (K5 22)) from(Bm hs61)) (ci hc62 (ci (Qq (Ib aA i1) x12.2.2.2.2.1 x12.2.1 x12.2.2.1 x12.2.2.2.2.2 x12.2.2.2.1 x63 hx63) (ci (rk (Oe x12)) (ci (rk (Ol x12)) (ci (rk (Oh x12)) (ci (rk (Oj x12)) (ci (rk (Ok x12)) (c1 (rk Oi))))))))))) ?_;cases h;exact gK (B2 (B0 [0,1,5,6,7,9,10] [30000,30001,35002,35100,37101,9100001] hq))
               ·refine gB h (fun hs64 h=>?_) (fun hs64 h=>?_)
                ·obtain⟨hc65,h⟩:=Aa h;obtain⟨x66,hx66,h⟩:=bind_some h;refine gR hq [0,1,5,6,7,9,10] [31,30000,30001,35002,35100,37101,9100001] [(25,Tj)] [⟨[(30000,30000),(30001,30001),(37101,37101),(35002,35002),(35100,35100),(9100001,9100001)],[(20000,31)],(.tuple (T9 x66.1 x66.2)),(Z5 (Om x12) x12.2.1 (On x12) (Od x12) x12.2.2.2.1.length x12.2.2.2.2.1.length (Og x12) x12.2.2.2.2.2.length (Of x12) x66.1.length),[],[30000,30001,37101,35002,35100,9100001]⟩] (ci hc22 (ci (show(AVle (J6 aA i1) Tj) from(Bm hs64)) (ci hc65 (ci (A1 (Ib aA i1) (1:Int) x12.2.2.2.2.1 x12.2.1 x12.2.2.1 x12.2.2.2.2.2 x12.2.2.2.1 x66 hx66) (ci (rk (Oe x12)) (ci (rk (Ol x12)) (ci (rk (Oh x12)) (ci (rk (Oj x12)) (ci (rk (Ok x12)) (c1 (rk Oi))))))))))) ?_;cases h;exact gK (B2 (B0 [0,1,5,6,7,9,10] [30000,30001,35002,35100,37101,9100001] hq))
                ·refine gB h (fun hs67 h=>?_) (fun hs67 h=>?_)
                 ·obtain⟨hc68,h⟩:=Aa h;obtain⟨x69,hx69,h⟩:=bind_some h;refine gR hq [0,1,5,6,7,9,10] [31,30000,30001,35002,35100,37101,9100001] [(25,Z56)] [⟨[(30000,30000),(30001,30001),(37101,37101),(35002,35002),(35100,35100),(9100001,9100001)],[(20000,31)],(.tuple (T9 x69.1 x69.2)),(Z5 (Om x12) x12.2.1 (On x12) (Od x12) x12.2.2.2.1.length x12.2.2.2.2.1.length (Og x12) x12.2.2.2.2.2.length (Of x12) x69.1.length),[],[30000,30001,37101,35002,35100,9100001]⟩] (ci hc22 (ci (show(AVle (J6 aA i1) Z56) from(Bm hs67)) (ci hc68 (ci (A1 (Ib aA i1) (2:Int) x12.2.2.2.2.1 x12.2.1 x12.2.2.1 x12.2.2.2.2.2 x12.2.2.2.1 x69 hx69) (ci (rk (Oe x12)) (ci (rk (Ol x12)) (ci (rk (Oh x12)) (ci (rk (Oj x12)) (ci (rk (Ok x12)) (c1 (rk Oi))))))))))) ?_;cases h;exact gK (B2 (B0 [0,1,5,6,7,9,10] [30000,30001,35002,35100,37101,9100001] hq))
                 ·refine gB h (fun hs70 h=>?_) (fun hs70 h=>?_)
                  ·obtain⟨hc71,h⟩:=Aa h;obtain⟨x72,hx72,h⟩:=bind_some h;refine gR hq [0,1,5,6,7,9,10] [31,30000,30001,35002,35100,37101,9100001] [(25,Z44)] [⟨[(30000,30000),(30001,30001),(37101,37101),(35002,35002),(35100,35100),(9100001,9100001)],[(20000,31)],(.tuple (T9 x72.1 x72.2)),(Z5 (Om x12) x12.2.1 (On x12) (Od x12) x12.2.2.2.1.length x12.2.2.2.2.1.length (Og x12) x12.2.2.2.2.2.length (Of x12) x72.1.length),[],[30000,30001,37101,35002,35100,9100001]⟩] (ci hc22 (ci (show(AVle (J6 aA i1) Z44) from(Bm hs70)) (ci hc71 (ci (A1 (Ib aA i1) (3:Int) x12.2.2.2.2.1 x12.2.1 x12.2.2.1 x12.2.2.2.2.2 x12.2.2.2.1 x72 hx72) (ci (rk (Oe x12)) (ci (rk (Ol x12)) (ci (rk (Oh x12)) (ci (rk (Oj x12)) (ci (rk (Ok x12)) (c1 (rk Oi))))))))))) ?_;cases h;exact gK (B2 (B0 [0,1,5,6,7,9,10] [30000,30001,35002,35100,37101,9100001] hq))
                  ·refine gB h (fun hs73 h=>?_) (fun hs73 h=>?_)
                   ·obtain⟨hc74,h⟩:=Aa h;obtain⟨x75,hx75,h⟩:=bind_some h;refine gR hq [0,1,5,6,7,9,10] [31,30000,30001,35002,35100,37101,9100001] [(25,Z69)] [⟨[(30000,30000),(30001,30001),(37101,37101),(35002,35002),(35100,35100),(9100001,9100001)],[(20000,31)],(.tuple (T9 x75.1 x75.2)),(Z5 (Om x12) x12.2.1 (On x12) (Od x12) x12.2.2.2.1.length x12.2.2.2.2.1.length (Og x12) x12.2.2.2.2.2.length (Of x12) x75.1.length),[],[30000,30001,37101,35002,35100,9100001]⟩] (ci hc22 (ci (show(AVle (J6 aA i1) Z69) from(Bm hs73)) (ci hc74 (ci (A1 (Ib aA i1) (4:Int) x12.2.2.2.2.1 x12.2.1 x12.2.2.1 x12.2.2.2.2.2 x12.2.2.2.1 x75 hx75) (ci (rk (Oe x12)) (ci (rk (Ol x12)) (ci (rk (Oh x12)) (ci (rk (Oj x12)) (ci (rk (Ok x12)) (c1 (rk Oi))))))))))) ?_;cases h;exact gK (B2 (B0 [0,1,5,6,7,9,10] [30000,30001,35002,35100,37101,9100001] hq))
                   ·refine gB h (fun hs76 h=>?_) (fun hs76 h=>?_)
                    ·obtain⟨hc77,h⟩:=Aa h;obtain⟨x78,hx78,h⟩:=bind_some h;refine gR hq [0,1,5,6,7,9,10] [31,30000,30001,35002,35100,37101,9100001] [(25,Z64)] [⟨[(30000,30000),(30001,30001),(37101,37101),(35002,35002),(35100,35100),(9100001,9100001)],[(20000,31)],(.tuple (T9 x78.1 x78.2)),(Z5 (Om x12) x12.2.1 (On x12) (Od x12) x12.2.2.2.1.length x12.2.2.2.2.1.length (Og x12) x12.2.2.2.2.2.length (Of x12) x78.1.length),[],[30000,30001,37101,35002,35100,9100001]⟩] (ci hc22 (ci (show(AVle (J6 aA i1) Z64) from(Bm hs76)) (ci hc77 (ci (A1 (Ib aA i1) (5:Int) x12.2.2.2.2.1 x12.2.1 x12.2.2.1 x12.2.2.2.2.2 x12.2.2.2.1 x78 hx78) (ci (rk (Oe x12)) (ci (rk (Ol x12)) (ci (rk (Oh x12)) (ci (rk (Oj x12)) (ci (rk (Ok x12)) (c1 (rk Oi))))))))))) ?_;cases h;exact gK (B2 (B0 [0,1,5,6,7,9,10] [30000,30001,35002,35100,37101,9100001] hq))
                    ·refine gB h (fun hs79 h=>?_) (fun hs79 h=>?_)
                     ·obtain⟨hc80,h⟩:=Aa h;obtain⟨x81,hx81,h⟩:=bind_some h;refine gR hq [0,1,5,6,7,9,10] [31,30000,30001,35002,35100,37101,9100001] [(25,(.int .i64 (6:Int)))] [⟨[(30000,30000),(30001,30001),(37101,37101),(35002,35002),(35100,35100),(9100001,9100001)],[(20000,31)],(.tuple (T9 x81.1 x81.2)),(Z5 (Om x12) x12.2.1 (On x12) (Od x12) x12.2.2.2.1.length x12.2.2.2.2.1.length (Og x12) x12.2.2.2.2.2.length (Of x12) x81.1.length),[],[30000,30001,37101,35002,35100,9100001]⟩] (ci hc22 (ci (show(AVle (J6 aA i1) (.int .i64 (6:Int))) from(Bm hs79)) (ci hc80 (ci (A1 (Ib aA i1) (6:Int) x12.2.2.2.2.1 x12.2.1 x12.2.2.1 x12.2.2.2.2.2 x12.2.2.2.1 x81 hx81) (ci (rk (Oe x12)) (ci (rk (Ol x12)) (ci (rk (Oh x12)) (ci (rk (Oj x12)) (ci (rk (Ok x12)) (c1 (rk Oi))))))))))) ?_;cases h;exact gK (B2 (B0 [0,1,5,6,7,9,10] [30000,30001,35002,35100,37101,9100001] hq))
                     ·refine gB h (fun hs82 h=>?_) (fun hs82 h=>?_)
                      ·obtain⟨hc83,h⟩:=Aa h;obtain⟨x84,hx84,h⟩:=bind_some h;refine gR hq [0,1,5,6,7,9,10] [31,30000,30001,35002,35100,37101,9100001] [(25,Z49)] [⟨[(30000,30000),(30001,30001),(37101,37101),(35002,35002),(35100,35100),(9100001,9100001)],[(20000,31)],(.tuple (T9 x84.1 x84.2)),(Z5 (Om x12) x12.2.1 (On x12) (Od x12) x12.2.2.2.1.length x12.2.2.2.2.1.length (Og x12) x12.2.2.2.2.2.length (Of x12) x84.1.length),[],[30000,30001,37101,35002,35100,9100001]⟩] (ci hc22 (ci (show(AVle (J6 aA i1) Z49) from(Bm hs82)) (ci hc83 (ci (A1 (Ib aA i1) (7:Int) x12.2.2.2.2.1 x12.2.1 x12.2.2.1 x12.2.2.2.2.2 x12.2.2.2.1 x84 hx84) (ci (rk (Oe x12)) (ci (rk (Ol x12)) (ci (rk (Oh x12)) (ci (rk (Oj x12)) (ci (rk (Ok x12)) (c1 (rk Oi))))))))))) ?_;cases h;exact gK (B2 (B0 [0,1,5,6,7,9,10] [30000,30001,35002,35100,37101,9100001] hq))
                      ·refine gB h (fun hs85 h=>?_) (fun hs85 h=>?_)
                       ·obtain⟨hc86,h⟩:=Aa h;obtain⟨x87,hx87,h⟩:=bind_some h;refine gR hq [0,1,5,6,7,9,10] [31,30000,30001,35002,35100,37101,9100001] [(25,Z60)] [⟨[(30000,30000),(30001,30001),(37101,37101),(35002,35002),(35100,35100),(9100001,9100001)],[(20000,31)],(.tuple (T9 x87.1 x87.2)),(Z5 (Om x12) x12.2.1 (On x12) (Od x12) x12.2.2.2.1.length x12.2.2.2.2.1.length (Og x12) x12.2.2.2.2.2.length (Of x12) x87.1.length),[],[30000,30001,37101,35002,35100,9100001]⟩] (ci hc22 (ci (show(AVle (J6 aA i1) Z60) from(Bm hs85)) (ci hc86 (ci (A1 (Ib aA i1) (8:Int) x12.2.2.2.2.1 x12.2.1 x12.2.2.1 x12.2.2.2.2.2 x12.2.2.2.1 x87 hx87) (ci (rk (Oe x12)) (ci (rk (Ol x12)) (ci (rk (Oh x12)) (ci (rk (Oj x12)) (ci (rk (Ok x12)) (c1 (rk Oi))))))))))) ?_;cases h;exact gK (B2 (B0 [0,1,5,6,7,9,10] [30000,30001,35002,35100,37101,9100001] hq))
                       ·refine gB h (fun hs88 h=>?_) (fun hs88 h=>?_)
                        ·obtain⟨hc89,h⟩:=Aa h;obtain⟨x90,hx90,h⟩:=bind_some h;refine gR hq [0,1,5,6,7,9,10] [31,30000,30001,35002,35100,37101,9100001] [(25,(.int .i64 (9:Int)))] [⟨[(30000,30000),(30001,30001),(37101,37101),(35002,35002),(35100,35100),(9100001,9100001)],[(20000,31)],(.tuple (T9 x90.1 x90.2)),(Z5 (Om x12) x12.2.1 (On x12) (Od x12) x12.2.2.2.1.length x12.2.2.2.2.1.length (Og x12) x12.2.2.2.2.2.length (Of x12) x90.1.length),[],[30000,30001,37101,35002,35100,9100001]⟩] (ci hc22 (ci (show(AVle (J6 aA i1) (.int .i64 (9:Int))) from(Bm hs88)) (ci hc89 (ci (A1 (Ib aA i1) (9:Int) x12.2.2.2.2.1 x12.2.1 x12.2.2.1 x12.2.2.2.2.2 x12.2.2.2.1 x90 hx90) (ci (rk (Oe x12)) (ci (rk (Ol x12)) (ci (rk (Oh x12)) (ci (rk (Oj x12)) (ci (rk (Ok x12)) (c1 (rk Oi))))))))))) ?_;cases h;exact gK (B2 (B0 [0,1,5,6,7,9,10] [30000,30001,35002,35100,37101,9100001] hq))
                        ·refine gB h (fun hs91 h=>?_) (fun hs91 h=>?_)
                         ·obtain⟨hc92,h⟩:=Aa h;obtain⟨x93,hx93,h⟩:=bind_some h;refine gR hq [0,1,5,6,7,9,10] [31,30000,30001,35002,35100,37101,9100001] [(25,(K5 10))] [⟨[(30000,30000),(30001,30001),(37101,37101),(35002,35002),(35100,35100),(9100001,9100001)],[(20000,31)],(.tuple (T9 x93.1 x93.2)),(Z5 (Om x12) x12.2.1 (On x12) (Od x12) x12.2.2.2.1.length x12.2.2.2.2.1.length (Og x12) x12.2.2.2.2.2.length (Of x12) x93.1.length),[],[30000,30001,37101,35002,35100,9100001]⟩] (ci hc22 (ci (show(AVle (J6 aA i1) (K5 10)) from(Bm hs91)) (ci hc92 (ci (A1 (Ib aA i1) (10:Int) x12.2.2.2.2.1 x12.2.1 x12.2.2.1 x12.2.2.2.2.2 x12.2.2.2.1 x93 hx93) (ci (rk (Oe x12)) (ci (rk (Ol x12)) (ci (rk (Oh x12)) (ci (rk (Oj x12)) (ci (rk (Ok x12)) (c1 (rk Oi))))))))))) ?_;cases h;exact gK (B2 (B0 [0,1,5,6,7,9,10] [30000,30001,35002,35100,37101,9100001] hq))
                         ·refine gB h (fun hs94 h=>?_) (fun hs94 h=>?_)
                          ·obtain⟨hc95,h⟩:=Aa h;obtain⟨x96,hx96,h⟩:=bind_some h;refine gR hq [0,1,5,6,7,9,10] [31,30000,30001,35002,35100,37101,9100001] [(25,(K5 11))] [⟨[(30000,30000),(30001,30001),(37101,37101),(35002,35002),(35100,35100),(9100001,9100001)],[(20000,31)],(.tuple (T9 x96.1 x96.2)),(Z5 (Om x12) x12.2.1 (On x12) (Od x12) x12.2.2.2.1.length x12.2.2.2.2.1.length (Og x12) x12.2.2.2.2.2.length (Of x12) x96.1.length),[],[30000,30001,37101,35002,35100,9100001]⟩] (ci hc22 (ci (show(AVle (J6 aA i1) (K5 11)) from(Bm hs94)) (ci hc95 (ci (A1 (Ib aA i1) (11:Int) x12.2.2.2.2.1 x12.2.1 x12.2.2.1 x12.2.2.2.2.2 x12.2.2.2.1 x96 hx96) (ci (rk (Oe x12)) (ci (rk (Ol x12)) (ci (rk (Oh x12)) (ci (rk (Oj x12)) (ci (rk (Ok x12)) (c1 (rk Oi))))))))))) ?_;cases h;exact gK (B2 (B0 [0,1,5,6,7,9,10] [30000,30001,35002,35100,37101,9100001] hq))
                          ·refine gB h (fun hs97 h=>?_) (fun hs97 h=>?_)
                           ·obtain⟨hc98,h⟩:=Aa h;obtain⟨x99,hx99,h⟩:=bind_some h;refine gR hq [0,1,5,6,7,9,10] [31,30000,30001,35002,35100,37101,9100001] [(25,(K5 12))] [⟨[(30000,30000),(30001,30001),(37101,37101),(35002,35002),(35100,35100),(9100001,9100001)],[(20000,31)],(.tuple (T9 x99.1 x99.2)),(Z5 (Om x12) x12.2.1 (On x12) (Od x12) x12.2.2.2.1.length x12.2.2.2.2.1.length (Og x12) x12.2.2.2.2.2.length (Of x12) x99.1.length),[],[30000,30001,37101,35002,35100,9100001]⟩] (ci hc22 (ci (show(AVle (J6 aA i1) (K5 12)) from(Bm hs97)) (ci hc98 (ci (A1 (Ib aA i1) (12:Int) x12.2.2.2.2.1 x12.2.1 x12.2.2.1 x12.2.2.2.2.2 x12.2.2.2.1 x99 hx99) (ci (rk (Oe x12)) (ci (rk (Ol x12)) (ci (rk (Oh x12)) (ci (rk (Oj x12)) (ci (rk (Ok x12)) (c1 (rk Oi))))))))))) ?_;cases h;exact gK (B2 (B0 [0,1,5,6,7,9,10] [30000,30001,35002,35100,37101,9100001] hq))
                           ·cases h
    ·clear hx100;rcases x100 with⟨l15,i16,i17,i18,l19,l20,l21⟩;refine gA ?_;refine Af hq [0,1,5,6,7,9,10,35] [30000,30001,35002,35100,37101,9100001] ?_;refine gC h (fun h=>?_) (fun h=>?_)
     ·refine Af hq [4] [30000,30001,35002,35100,37101,9100001] ?_;cases h;exact gO (Jw (Fx [(30000,30000),(30001,30001),(37101,37101),(35002,35002),(35100,35100),(9100001,9100001)] (Le.refl _ _)))
     ·obtain⟨hc102,h⟩:=Aa h;obtain⟨hc103,h⟩:=Aa h;refine gR hq [0,1,9,10] [30000,30001,35002,35100,37101,9100001] [] [] (ci hc102 (ci hc103 (c1 (Eq.refl l20.length)))) ?_;refine Ie (Le.trans (K6 35002 (show ∀ k_,k_<l20.length→AVleL ((fun i_=>AV.eraseAll (fun n_=>Bl n_ [30000,30001,35002,35100,37101,9100001]) ((Fs (fun i=>As (l20.getD i [])) ((Ib aA i1).Dst).toNat 0 [(Z48 l15)]) i_)) k_) ((fun i=>As ((l20.set ((Ib aA i1).Dst).toNat l15).getD i [])) k_) from(A6 (List.length_set ..).symm (fun k_ hk_=>(congrArg (AV.eraseAll (fun n_=>Bl n_ [30000,30001,35002,35100,37101,9100001])) ((D1 (fun _ _=>rfl) (Ed hc103) rfl) k_ hk_)).trans rfl)))) (K7 (fun(k_:Nat) u=>(Cx u [] [(Xk k_ i17 i18),(35002,.arr 1 26 k_ (fun i=>As ((l20.set ((Ib aA i1).Dst).toNat l15).getD i [])))])) (show l20.length=(l20.set ((Ib aA i1).Dst).toNat l15).length from(List.length_set ..).symm))) ?_;refine Af hq [0,1,9,10] [30000,30001,35002,35100,37101,9100001] ?_;cases h;exact gN C9
  ·cases h;exact gO (B2 (B0 [] [30000,30001,35002,35100,37101,9100001] hq))
 ·clear hx104;rcases x104 with⟨i7,i8,l9,l10,l11⟩|r106
  ·refine gA ?_;refine Af hq [4] [30000,30001,35002,35100,37101,9100001] ?_;cases h;exact Bk [(30000,30000),(30001,30001),(37101,37101),(35002,35002),(35100,35100),(9100001,9100001)]
  ·refine Qx (fun st' hk=>?_);obtain rfl:=OI h;exact gK hk
def Bx(aL:Int)(a0:List (List Int))(a3:Int)(a2:Int)(a4:List Int)(a5:List Ab):Option Ic:=
 (some (⟨aL,(0:Int),a2⟩:Ic))
theorem Cl(aL:Int)(a0:List (List Int))(a3:Int)(a2:Int)(a4:List Int)(a5:List Ab)(r:Ic)(h:Bx aL a0 a3 a2 a4 a5=some r):Spec Tryz.prog 71 [(.ptr 30000 0),(.int .i64 aL)] [(30000,.row 99 [(.ptr 30001 0),(.omap 9100001),(.vsl 35002 a0.length),(.int .i64 a3),(.int .i64 a2)]),(30001,.row 93 [(.vsl 35100 a4.length),(AV.list 3 Ao default a5 (.own 37101))]),(37101,.tok 3 49 a5.length),(35002,.arr 1 26 a0.length (fun i=>As (a0.getD i []))),(35100,.arr 1 5 a4.length (fun i=>Dd (a4.getD i 0))),(9100001,.obj (.tab .i64 Hc))] (.agg (eTRun r)) [(30000,.row 99 [(.ptr 30001 0),(.omap 9100001),(.vsl 35002 a0.length),(.int .i64 a3),(.int .i64 a2)]),(30001,.row 93 [(.vsl 35100 a4.length),(AV.list 3 Ao default a5 (.own 37101))]),(37101,.tok 3 49 a5.length),(35002,.arr 1 26 a0.length (fun i=>As (a0.getD i []))),(35100,.arr 1 5 a4.length (fun i=>Dd (a4.getD i 0))),(9100001,.obj (.tab .i64 Hc))]:=by
 refine Ac mix Tryz.func71 (fun Γ hq=>?_);unfold Bx at h;refine Af hq [0,1,4] [4,30000,30001,35002,35100,37101,9100001] ?_;refine Af hq [4] [4,30000,30001,35002,35100,37101,9100001] ?_;cases h;exact Bk [(30000,30000),(30001,30001),(37101,37101),(35002,35002),(35100,35100),(9100001,9100001)]
def Q148(a0:List (List Int))(a3:Int)(a2:Int)(a4:List Int)(a5:List Ab):List (Nat×Own):=(Z1 a0 a3 a2 a4 a5 a5.length)
def C1(aL:Gz)(a0:List (List Int))(a3:Int)(a2:Int)(a4:List Int)(a5:List Ab):Option Int:=
 (bif (aL.Kind==2) then((Ce aL.Arg a0 a3 a2 a4 a5).bind fun x2=>(bif (!x2) then(Aw (A5 (1:Int) aL.To.length) (some (aL.To.getD (1:Int).toNat (0:Int)))) else(Aw (A5 (0:Int) aL.To.length) (some (aL.To.getD (0:Int).toNat (0:Int)))))) else(Aw (A5 (0:Int) aL.To.length) (some (aL.To.getD (0:Int).toNat (0:Int)))))
theorem Jx(aL:Gz)(a0:List (List Int))(a3:Int)(a2:Int)(a4:List Int)(a5:List Ab)(r:Int)(h:C1 aL a0 a3 a2 a4 a5=some r):Spec Tryz.prog 74 [(.ptr 30000 0),(.agg (eTEnd aL))] [(30000,.row 99 [(.ptr 30001 0),(.omap 9100001),(.vsl 35002 a0.length),(.int .i64 a3),(.int .i64 a2)]),(30001,.row 93 [(.vsl 35100 a4.length),(AV.list 3 Ao default a5 (.own 37101))]),(37101,.tok 3 49 a5.length),(35002,.arr 1 26 a0.length (fun i=>As (a0.getD i []))),(35100,.arr 1 5 a4.length (fun i=>Dd (a4.getD i 0))),(9100001,.obj (.tab .i64 Hc))] (.int .i64 r) [(30000,.row 99 [(.ptr 30001 0),(.omap 9100001),(.vsl 35002 a0.length),(.int .i64 a3),(.int .i64 a2)]),(30001,.row 93 [(.vsl 35100 a4.length),(AV.list 3 Ao default a5 (.own 37101))]),(37101,.tok 3 49 a5.length),(35002,.arr 1 26 a0.length (fun i=>As (a0.getD i []))),(35100,.arr 1 5 a4.length (fun i=>Dd (a4.getD i 0))),(9100001,.obj (.tab .i64 Hc))]:=by
 refine Ac mix Tryz.func74 (fun Γ hq=>?_);unfold C1 at h;refine Af hq [0,3] [3,30000,30001,35002,35100,37101,9100001] ?_;refine gB h (fun hs1 h=>?_) (fun hs1 h=>?_)
 ·obtain⟨x2,hx2,h⟩:=bind_some h;refine gR hq [3,14] [3,30000,30001,35002,35100,37101,9100001] [(8,(.bool true))] [⟨[(30000,30000),(30001,30001),(37101,37101),(35002,35002),(35100,35100),(9100001,9100001)],[],(.bool x2),(Q148 a0 a3 a2 a4 a5),[],[30000,30001,37101,35002,35100,9100001]⟩] (ci (show(AVle (.bool (aL.Kind==2)) (.bool true)) from(av_dec hs1)) (ci (show((true==true)=true→(true==true)=true) from(fun _=>rfl)) (ci (show((true==true)=true→(true==true)=true) from(fun _=>rfl)) (ci (show((true==true)=true→(true==true)=true) from(fun _=>rfl)) (ci (show((true==true)=true→(Spec Tryz.prog 86 [(.ptr 30000 0),(Bi aL.Arg)] (Q148 a0 a3 a2 a4 a5) (.bool x2) (Q148 a0 a3 a2 a4 a5))) from(fun _=>(Dc aL.Arg a0 a3 a2 a4 a5 x2 hx2))) (ci (show((true==true)=true→(some (.row 99 (Z4 a0.length a3 a2):Own)=some (.row 99 (Z4 a0.length a3 a2):Own))) from(fun _=>@(rk (.row 99 (Z4 a0.length a3 a2))))) (ci (show((true==true)=true→(some (.row 93 (Z6 35100 a4.length a5 37101):Own)=some (.row 93 (Z6 35100 a4.length a5 37101):Own))) from(fun _=>@(rk (.row 93 (Z6 35100 a4.length a5 37101))))) (ci (show((true==true)=true→(some (.tok 3 49 a5.length:Own)=some (.tok 3 49 a5.length:Own))) from(fun _=>@(rk (.tok 3 49 a5.length)))) (ci (show((true==true)=true→(some (.arr 1 26 a0.length (fun i=>As (a0.getD i [])):Own)=some (.arr 1 26 a0.length (fun i=>As (a0.getD i [])):Own))) from(fun _=>@(rk (.arr 1 26 a0.length (fun i=>As (a0.getD i [])))))) (ci (show((true==true)=true→(some (.arr 1 5 a4.length (fun i=>Dd (a4.getD i 0)):Own)=some (.arr 1 5 a4.length (fun i=>Dd (a4.getD i 0)):Own))) from(fun _=>@(rk (.arr 1 5 a4.length (fun i=>Dd (a4.getD i 0)))))) (ci (show((true==true)=true→(some (.obj (.tab .i64 Hc):Own)=some (.obj (.tab .i64 Hc):Own))) from(fun _=>@(rk (.obj (.tab .i64 Hc))))) (ci (show((true==true)=true→(true==true)=true) from(fun _=>rfl)) (c1 (show(true=true→(true==true)=true) from(fun _=>rfl))))))))))))))) ?_;refine gC h (fun h=>?_) (fun h=>?_)
  ·obtain⟨hc3,h⟩:=Aa h;refine gR hq [4] [30000,30001,35002,35100,37101,9100001] [] [] (c1 hc3) ?_;cases h;exact Bk [(30000,30000),(30001,30001),(37101,37101),(35002,35002),(35100,35100),(9100001,9100001)]
  ·obtain⟨hc4,h⟩:=Aa h;refine gR hq [4] [30000,30001,35002,35100,37101,9100001] [] [] (c1 hc4) ?_;cases h;exact Bk [(30000,30000),(30001,30001),(37101,37101),(35002,35002),(35100,35100),(9100001,9100001)]
 ·refine gR hq [3,14] [3,30000,30001,35002,35100,37101,9100001] [(8,(.bool false))] [⟨[],[],(.bool false),[],[],[]⟩] (ci (show(AVle (.bool (aL.Kind==2)) (.bool false)) from(av_dec hs1)) (ci (show((false==true)=true→(false==true)=true) from gNo) (ci (show((false==true)=true→(false==true)=true) from gNo) (ci (show((false==true)=true→(false==true)=true) from gNo) (ci (show((false==true)=true→(Spec Tryz.prog 86 [.any,(Bi aL.Arg)] [] (.bool false) [])) from gNo) (ci (show((false==true)=true→(false==true)=true) from gNo) (c1 (show(false=true→(false==true)=true) from gNo)))))))) ?_;refine Sr false ?_;obtain⟨hc5,h⟩:=Aa h;refine gR hq [4] [30000,30001,35002,35100,37101,9100001] [] [] (c1 hc5) ?_;cases h;exact Bk [(30000,30000),(30001,30001),(37101,37101),(35002,35002),(35100,35100),(9100001,9100001)]
def Hy(aP:List Fw)(aT:Int)(a0:List (List Int)):(Int×List (List Int))→Option (LR (Int×List (List Int)) (List (List Int))):=
 fun((i2,l3):(Int×List (List Int)))=>(bif (decide (i2<(aP.length:Int))) then(Aw (A5 i2 aP.length) ((Do ((aP.getD i2.toNat default).From) aT).bind fun x6=>(Aw (A5 x6 ((aP.getD i2.toNat default).Args).length) (Aw (A5 (((aP.getD i2.toNat default).Args).getD x6.toNat 0) a0.length) (Aw (A5 i2 l3.length) (some (.next ((Aq (i2+1)),(l3.set i2.toNat (a0.getD (((aP.getD i2.toNat default).Args).getD x6.toNat 0).toNat [])))))))))) else(some (.done l3)))
def Hz(aP:List Fw)(l4:List (List Int)):(Int×List (List Int))→Option (LR (Int×List (List Int)) (List (List Int))):=
 fun((i12,l13):(Int×List (List Int)))=>(bif (decide (i12<(aP.length:Int))) then(Aw (A5 i12 aP.length) (Aw (A5 i12 l4.length) (Aw (A5 (aP.getD i12.toNat default).Dst l13.length) (some (.next ((Aq (i12+1)),(l13.set ((aP.getD i12.toNat default).Dst).toNat (l4.getD i12.toNat [])))))))) else(some (.done l13)))
def Q150:=(fun n_=>Bl n_ [13,30000,30001,35002,35100,37101,9100001])
def Q149(a0:List (List Int))(aP:List Fw)(i2:Int)(x6:Int):=(a0.getD (((aP.getD i2.toNat default).Args).getD x6.toNat 0).toNat [])
def Cv(aP:List Fw)(aT:Int)(a0:List (List Int))(a3:Int)(a2:Int)(a4:List Int)(a5:List Ab):Option (Int×Int×List Ab×List (List Int)×List Int):=
 (Aw (0≤(aP.length:Int)∧(aP.length:Int)≤(aP.length:Int)∧(aP.length:Int)≤(room:Int)) ((Az (Hy aP aT a0) ((0:Int),(List.replicate (aP.length:Int).toNat ([]:List Int)))).bind (fun x10=>((Az (Hz aP x10) ((0:Int),a0)).bind (fun x18=>(some (a3,a2,a5,x18,a4)))))))
theorem Jc(aP:List Fw)(aT:Int)(a0:List (List Int))(a3:Int)(a2:Int)(a4:List Int)(a5:List Ab)(r:(Int×Int×List Ab×List (List Int)×List Int))(h:Cv aP aT a0 a3 a2 a4 a5=some r):Spec Tryz.prog 75 [(.ptr 30000 0),(AV.list 4 Qv default aP .none),(.int .i64 aT)] [(30000,.row 99 [(.ptr 30001 0),(.omap 9100001),(.vsl 35002 a0.length),(.int .i64 a3),(.int .i64 a2)]),(30001,.row 93 [(.vsl 35100 a4.length),(AV.list 3 Ao default a5 (.own 37101))]),(37101,.tok 3 49 a5.length),(35002,.arr 1 26 a0.length (fun i=>As (a0.getD i []))),(35100,.arr 1 5 a4.length (fun i=>Dd (a4.getD i 0))),(9100001,.obj (.tab .i64 Hc))] (.tuple []) [(30000,.row 99 [(.ptr 30001 0),(.omap 9100001),(.vsl 35002 r.2.2.2.1.length),(.int .i64 r.1),(.int .i64 r.2.1)]),(30001,.row 93 [(.vsl 35100 r.2.2.2.2.length),(AV.list 3 Ao default r.2.2.1 (.own 37101))]),(37101,.tok 3 49 r.2.2.1.length),(35002,.arr 1 26 r.2.2.2.1.length (fun i=>As (r.2.2.2.1.getD i []))),(35100,.arr 1 5 r.2.2.2.2.length (fun i=>Dd (r.2.2.2.2.getD i 0))),(9100001,.obj (.tab .i64 Hc))]:=by
 refine Ac mix Tryz.func75 (fun Γ hq=>?_);unfold Cv at h;obtain⟨hc1,h⟩:=Aa h;refine gR hq [0,1,2,6] [13,30000,30001,35002,35100,37101,9100001] [] [] (c1 hc1) ?_;refine Ie (Le.trans (K6 13 (show ∀ k_,k_<((aP.length:Int).toNat)→AVleL ((fun i_=>AV.eraseAll Q150 ((fun _=>[Z28]) i_)) k_) ((fun i=>As ((List.replicate (aP.length:Int).toNat ([]:List Int)).getD i [])) k_) from(fun k hk=>H5 (e:=As) (d:=[]) (.cons (fun _ _ _ _ _ hh=>AVle.untag _ _ _ _ _ (Dv _ _ _ _ _ hh)) .nil) _ k (H6 hk)))) (K7 (fun(k_:Nat) u=>(Cx u [(6,(.vsl 13 k_))] [(13,.arr 1 26 k_ (fun i=>As ((List.replicate (aP.length:Int).toNat ([]:List Int)).getD i [])))])) (show(aP.length:Int).toNat=(List.replicate (aP.length:Int).toNat ([]:List Int)).length from(List.length_replicate ..).symm))) ?_;refine Af hq [0,1,2,6,14,15,16] [13,30000,30001,35002,35100,37101,9100001] ?_;obtain⟨x10,hx10,h⟩:=bind_some h;refine gL hq hx10 [0,1,2,6,14,15,16] [13,30000,30001,35002,35100,37101,9100001] (fun u (i2,l3)=>(Cx u [(6,(.vsl 13 l3.length)),(I5 16 i2)] [(Wq 13 l3)])) (fun u l4=>aG Γ (.exit 0) (Rz [0,1,6] [13,30000,30001,35002,35100,37101,9100001] u [(6,(.vsl 13 l4.length))] [(Wq 13 l4)])) ?_ ?_
 ·rintro⟨i2,l3⟩ y h;unfold Hy at h;refine Af hq [0,1,2,6,14,15,16,17] [13,30000,30001,35002,35100,37101,9100001] ?_;refine gC h (fun h=>?_) (fun h=>?_)
  ·obtain⟨hc5,h⟩:=Aa h;refine gR hq [0,1,2,6,7,8,14,15,16] [8,13,30000,30001,35002,35100,37101,9100001] [] [] (c1 hc5) ?_;obtain⟨x6,hx6,h⟩:=bind_some h;obtain⟨hc7,h⟩:=Aa h;obtain⟨hc8,h⟩:=Aa h;obtain⟨hc9,h⟩:=Aa h;refine gR hq [0,1,2,6,14,15,16] [13,30000,30001,35002,35100,37101,9100001] [] [⟨[],[],(Bi x6),[],[],[]⟩] (ci (Hm ((aP.getD i2.toNat default).From) aT x6 hx6) (ci hc7 (ci hc8 (ci (Eq.refl a0.length) (ci hc9 (c1 (Eq.refl l3.length))))))) ?_;refine Ie (Le.trans (K6 13 (show ∀ k_,k_<l3.length→AVleL ((fun i_=>AV.eraseAll Q150 ((Fs (fun i=>As (l3.getD i [])) i2.toNat 0 [(Z48 (Q149 a0 aP i2 x6))]) i_)) k_) ((fun i=>As ((l3.set i2.toNat (Q149 a0 aP i2 x6)).getD i [])) k_) from(A6 (List.length_set ..).symm (fun k_ hk_=>(congrArg (AV.eraseAll Q150) ((D1 (fun _ _=>rfl) (Ed hc9) rfl) k_ hk_)).trans rfl)))) (K7 (fun(k_:Nat) u=>(Cx u [(6,(.vsl 13 k_))] [(13,.arr 1 26 k_ (fun i=>As ((l3.set i2.toNat (Q149 a0 aP i2 x6)).getD i [])))])) (show l3.length=(l3.set i2.toNat (Q149 a0 aP i2 x6)).length from(List.length_set ..).symm))) ?_;refine Af hq [0,1,2,6,14,15,16] [13,30000,30001,35002,35100,37101,9100001] ?_;cases h;exact gN C9
  ·cases h;exact gO (B2 (B0 [0,1,6] [13,30000,30001,35002,35100,37101,9100001] hq))
 ·clear hx10;refine gA ?_;refine Af hq [0,6,39,40,41] [13,30000,30001,35002,35100,37101,9100001] ?_;obtain⟨x18,hx18,h⟩:=bind_some h;refine gL hq hx18 [0,6,39,40,41] [13,30000,30001,35002,35100,37101,9100001] (fun u (i12,l13)=>(Cx u [(I5 41 i12)] [(Xk l13.length a3 a2),(Wq 35002 l13)])) (fun u l14=>aG Γ (.exit 2) (Rz [] [30000,30001,35002,35100,37101,9100001] u [] [(Xk l14.length a3 a2),(Wq 35002 l14)])) ?_ ?_
  ·rintro⟨i12,l13⟩ y h;unfold Hz at h;refine Af hq [0,6,39,40,41,42] [13,30000,30001,35002,35100,37101,9100001] ?_;refine gC h (fun h=>?_) (fun h=>?_)
   ·obtain⟨hc15,h⟩:=Aa h;refine gR hq [0,6,9,10,39,40,41] [10,13,30000,30001,35002,35100,37101,9100001] [] [] (c1 hc15) ?_;obtain⟨hc16,h⟩:=Aa h;obtain⟨hc17,h⟩:=Aa h;refine gR hq [0,6,39,40,41] [13,30000,30001,35002,35100,37101,9100001] [] [] (ci hc16 (ci (Eq.refl x10.length) (ci hc17 (c1 (Eq.refl l13.length))))) ?_;refine Ie (Le.trans (K6 35002 (show ∀ k_,k_<l13.length→AVleL ((fun i_=>AV.eraseAll Q150 ((Fs (fun i=>As (l13.getD i [])) ((aP.getD i12.toNat default).Dst).toNat 0 [(AV.list 1 Bg 0 (x10.getD i12.toNat []) .none)]) i_)) k_) ((fun i=>As ((l13.set ((aP.getD i12.toNat default).Dst).toNat (x10.getD i12.toNat [])).getD i [])) k_) from(A6 (List.length_set ..).symm (fun k_ hk_=>(congrArg (AV.eraseAll Q150) ((D1 (fun _ _=>rfl) (Ed hc17) rfl) k_ hk_)).trans rfl)))) (K7 (fun(k_:Nat) u=>(Cx u [] [(Xk k_ a3 a2),(35002,.arr 1 26 k_ (fun i=>As ((l13.set ((aP.getD i12.toNat default).Dst).toNat (x10.getD i12.toNat [])).getD i [])))])) (show l13.length=(l13.set ((aP.getD i12.toNat default).Dst).toNat (x10.getD i12.toNat [])).length from(List.length_set ..).symm))) ?_;refine Af hq [0,6,39,40,41] [13,30000,30001,35002,35100,37101,9100001] ?_;cases h;exact gN C9
   ·cases h;exact gO (B2 (B0 [] [30000,30001,35002,35100,37101,9100001] hq))
  ·clear hx18;refine gA' (fun st' hl19=>?_);cases h;exact gK (e:=.normal) (Fx [(30000,30000),(30001,30001),(37101,37101),(35002,35002),(35100,35100),(9100001,9100001)] hl19)
def A0(aS:List Aj):(Int×Int×Int×List Ab×List (List Int)×List Int)→Option (LR (Int×Int×Int×List Ab×List (List Int)×List Int) (Ic×Int×Int×List Ab×List (List Int)×List Int)):=
 fun(s_:(Int×Int×Int×List Ab×List (List Int)×List Int))=>match s_ with|(i1,i2,i3,l4,l5,l6)=>(Aw (A5 i1 aS.length) (Aw (A5 i1 aS.length) ((Ck ((aS.getD i1.toNat default).Ops) l5 i2 i3 l6 l4).bind fun x26=>(Aw (l5.length=x26.2.2.2.2.1.length) (Aw (l6.length=x26.2.2.2.2.2.length) (bif (x26.1 !=0) then((Bx x26.1 x26.2.2.2.2.1 x26.2.1 x26.2.2.1 x26.2.2.2.2.2 x26.2.2.2.1).bind fun x29=>(some (.done (x29,x26.2.1,x26.2.2.1,x26.2.2.2.1,x26.2.2.2.2.1,x26.2.2.2.2.2)))) else((Cf x26.2.2.2.2.1 x26.2.1 x26.2.2.1 x26.2.2.2.2.2 x26.2.2.2.1).bind fun x30=>(Aw (x26.2.2.2.2.1.length=x30.2.2.2.2.1.length) (Aw (x26.2.2.2.2.2.length=x30.2.2.2.2.2.length) (bif (!x30.1) then((Bx (9:Int) x30.2.2.2.2.1 x30.2.1 x30.2.2.1 x30.2.2.2.2.2 x30.2.2.2.1).bind fun x33=>(some (.done (x33,x30.2.1,x30.2.2.1,x30.2.2.2.1,x30.2.2.2.2.1,x30.2.2.2.2.2)))) else(bif (((aS.getD i1.toNat default).End.Kind:Int)==0) then((Ay ((aS.getD i1.toNat default).End.Arg) x30.2.2.2.2.1 x30.2.1 x30.2.2.1 x30.2.2.2.2.2 x30.2.2.2.1).bind fun x34=>(some (.done ((⟨(0:Int),x34,x30.2.2.1⟩:Ic),x30.2.1,x30.2.2.1,x30.2.2.2.1,x30.2.2.2.2.1,x30.2.2.2.2.2)))) else(bif (((aS.getD i1.toNat default).End.Kind:Int)==3) then((Bx (8:Int) x30.2.2.2.2.1 x30.2.1 x30.2.2.1 x30.2.2.2.2.2 x30.2.2.2.1).bind fun x35=>(some (.done (x35,x30.2.1,x30.2.2.1,x30.2.2.2.1,x30.2.2.2.2.1,x30.2.2.2.2.2)))) else((C1 (⟨(aS.getD i1.toNat default).End.Kind,(aS.getD i1.toNat default).End.Arg,(aS.getD i1.toNat default).End.To⟩:Gz) x30.2.2.2.2.1 x30.2.1 x30.2.2.1 x30.2.2.2.2.2 x30.2.2.2.1).bind fun x36=>(Aw (A5 x36 aS.length) ((Cv ((aS.getD x36.toNat default).Phis) i1 x30.2.2.2.2.1 x30.2.1 x30.2.2.1 x30.2.2.2.2.2 x30.2.2.2.1).bind fun x38=>(Aw (x30.2.2.2.2.1.length=x38.2.2.2.1.length) (Aw (x30.2.2.2.2.2.length=x38.2.2.2.2.length) (some (.next (x36,x38.1,x38.2.1,x38.2.2.1,x38.2.2.2.1,x38.2.2.2.2))))))))))))))))))))
def Rm(Γ:Ek)(aS:List Aj)(a0:List (List Int))(a3:Int)(a2:Int)(a4:List Int)(a5:List Ab)(r:(Ic×Int×Int×List Ab×List (List Int)×List Int)):Exit→St→Prop:=fK Tryz.prog Γ Tryz.f36.results.toList (Z1 a0 a3 a2 a4 a5 a5.length) (Z61 r.1) (Z1 r.2.2.2.2.1 r.2.1 r.2.2.1 r.2.2.2.2.2 r.2.2.2.1 r.2.2.2.1.length)
def Wo:Own:=(.obj (.tab .i64 Hc))
def Q163(aS:List Aj):=(aS.getD (0:Int).toNat (default:Aj))
def Q161(x13:(Bool×Int×Int×List Ab×List (List Int)×List Int)):Own:=(.arr 1 26 x13.2.2.2.2.1.length (fun i=>As (x13.2.2.2.2.1.getD i [])))
def Q162(x30:(Bool×Int×Int×List Ab×List (List Int)×List Int)):Own:=(.arr 1 26 x30.2.2.2.2.1.length (fun i=>As (x30.2.2.2.2.1.getD i [])))
def Q159(x13:(Bool×Int×Int×List Ab×List (List Int)×List Int)):Own:=(.arr 1 5 x13.2.2.2.2.2.length (fun i=>Dd (x13.2.2.2.2.2.getD i 0)))
def Q160(x30:(Bool×Int×Int×List Ab×List (List Int)×List Int)):Own:=(.arr 1 5 x30.2.2.2.2.2.length (fun i=>Dd (x30.2.2.2.2.2.getD i 0)))
def Q157(x13:(Bool×Int×Int×List Ab×List (List Int)×List Int)):Own:=(.row 93 (Z6 35100 x13.2.2.2.2.2.length x13.2.2.2.1 37101))
def Q158(x30:(Bool×Int×Int×List Ab×List (List Int)×List Int)):Own:=(.row 93 (Z6 35100 x30.2.2.2.2.2.length x30.2.2.2.1 37101))
def Q155(x13:(Bool×Int×Int×List Ab×List (List Int)×List Int)):Own:=(.row 99 (Z4 x13.2.2.2.2.1.length x13.2.1 x13.2.2.1))
def Q156(x30:(Bool×Int×Int×List Ab×List (List Int)×List Int)):Own:=(.row 99 (Z4 x30.2.2.2.2.1.length x30.2.1 x30.2.2.1))
def Q154(x9:(Int×Int×Int×List Ab×List (List Int)×List Int)):List (Nat×Own):=(Z1 x9.2.2.2.2.1 x9.2.1 x9.2.2.1 x9.2.2.2.2.2 x9.2.2.2.1 x9.2.2.2.1.length)
def Q151(x13:(Bool×Int×Int×List Ab×List (List Int)×List Int)):List (Nat×Own):=(Z1 x13.2.2.2.2.1 x13.2.1 x13.2.2.1 x13.2.2.2.2.2 x13.2.2.2.1 x13.2.2.2.1.length)
def Q152(x30:(Bool×Int×Int×List Ab×List (List Int)×List Int)):List (Nat×Own):=(Z1 x30.2.2.2.2.1 x30.2.1 x30.2.2.1 x30.2.2.2.2.2 x30.2.2.2.1 x30.2.2.2.1.length)
def Q153(x26:(Int×Int×Int×List Ab×List (List Int)×List Int)):List (Nat×Own):=(Z1 x26.2.2.2.2.1 x26.2.1 x26.2.2.1 x26.2.2.2.2.2 x26.2.2.2.1 x26.2.2.2.1.length)
def Dz(aS:List Aj)(a0:List (List Int))(a3:Int)(a2:Int)(a4:List Int)(a5:List Ab):Option (Ic×Int×Int×List Ab×List (List Int)×List Int):=
 ((K2 (S:=(Int×Int×Int×List Ab×List (List Int)×List Int)) (X:=(Ic×Int×Int×List Ab×List (List Int)×List Int)) (Aw (A5 (0:Int) aS.length) (Aw (A5 (0:Int) aS.length) ((Ck ((aS.getD (0:Int).toNat (default:Aj)).Ops) a0 a3 a2 a4 a5).bind fun x9=>(Aw (a0.length=x9.2.2.2.2.1.length) (Aw (a4.length=x9.2.2.2.2.2.length) (bif (x9.1 !=0) then((Bx x9.1 x9.2.2.2.2.1 x9.2.1 x9.2.2.1 x9.2.2.2.2.2 x9.2.2.2.1).bind fun x12=>(some (.done (x12,x9.2.1,x9.2.2.1,x9.2.2.2.1,x9.2.2.2.2.1,x9.2.2.2.2.2)))) else((Cf x9.2.2.2.2.1 x9.2.1 x9.2.2.1 x9.2.2.2.2.2 x9.2.2.2.1).bind fun x13=>(Aw (x9.2.2.2.2.1.length=x13.2.2.2.2.1.length) (Aw (x9.2.2.2.2.2.length=x13.2.2.2.2.2.length) (bif (!x13.1) then((Bx (9:Int) x13.2.2.2.2.1 x13.2.1 x13.2.2.1 x13.2.2.2.2.2 x13.2.2.2.1).bind fun x16=>(some (.done (x16,x13.2.1,x13.2.2.1,x13.2.2.2.1,x13.2.2.2.2.1,x13.2.2.2.2.2)))) else(bif (((aS.getD (0:Int).toNat (default:Aj)).End.Kind:Int)==0) then((Ay ((aS.getD (0:Int).toNat (default:Aj)).End.Arg) x13.2.2.2.2.1 x13.2.1 x13.2.2.1 x13.2.2.2.2.2 x13.2.2.2.1).bind fun x17=>(some (.done ((⟨(0:Int),x17,x13.2.2.1⟩:Ic),x13.2.1,x13.2.2.1,x13.2.2.2.1,x13.2.2.2.2.1,x13.2.2.2.2.2)))) else(bif (((aS.getD (0:Int).toNat (default:Aj)).End.Kind:Int)==3) then((Bx (8:Int) x13.2.2.2.2.1 x13.2.1 x13.2.2.1 x13.2.2.2.2.2 x13.2.2.2.1).bind fun x18=>(some (.done (x18,x13.2.1,x13.2.2.1,x13.2.2.2.1,x13.2.2.2.2.1,x13.2.2.2.2.2)))) else((C1 (⟨(aS.getD (0:Int).toNat (default:Aj)).End.Kind,(aS.getD (0:Int).toNat (default:Aj)).End.Arg,(aS.getD (0:Int).toNat (default:Aj)).End.To⟩:Gz) x13.2.2.2.2.1 x13.2.1 x13.2.2.1 x13.2.2.2.2.2 x13.2.2.2.1).bind fun x19=>(Aw (A5 x19 aS.length) ((Cv ((aS.getD x19.toNat default).Phis) (0:Int) x13.2.2.2.2.1 x13.2.1 x13.2.2.1 x13.2.2.2.2.2 x13.2.2.2.1).bind fun x21=>(Aw (x13.2.2.2.2.1.length=x21.2.2.2.1.length) (Aw (x13.2.2.2.2.2.length=x21.2.2.2.2.length) (some (.next (x19,x21.1,x21.2.1,x21.2.2.1,x21.2.2.2.1,x21.2.2.2.2)))))))))))))))))))) (A0 aS)).bind (fun x41=>(some x41)))
theorem Qr(aS:List Aj)(a0:List (List Int))(a3:Int)(a2:Int)(a4:List Int)(a5:List Ab)(r:(Ic×Int×Int×List Ab×List (List Int)×List Int))(h:Dz aS a0 a3 a2 a4 a5=some r):Spec Tryz.prog 36 [(.ptr 30000 0),(AV.list 5 Av default aS .none)] [(30000,.row 99 [(.ptr 30001 0),(.omap 9100001),(.vsl 35002 a0.length),(.int .i64 a3),(.int .i64 a2)]),(30001,.row 93 [(.vsl 35100 a4.length),(AV.list 3 Ao default a5 (.own 37101))]),(37101,.tok 3 49 a5.length),(35002,.arr 1 26 a0.length (fun i=>As (a0.getD i []))),(35100,.arr 1 5 a4.length (fun i=>Dd (a4.getD i 0))),(9100001,.obj (.tab .i64 Hc))] (.agg (eTRun r.1)) [(30000,.row 99 [(.ptr 30001 0),(.omap 9100001),(.vsl 35002 r.2.2.2.2.1.length),(.int .i64 r.2.1),(.int .i64 r.2.2.1)]),(30001,.row 93 [(.vsl 35100 r.2.2.2.2.2.length),(AV.list 3 Ao default r.2.2.2.1 (.own 37101))]),(37101,.tok 3 49 r.2.2.2.1.length),(35002,.arr 1 26 r.2.2.2.2.1.length (fun i=>As (r.2.2.2.2.1.getD i []))),(35100,.arr 1 5 r.2.2.2.2.2.length (fun i=>Dd (r.2.2.2.2.2.getD i 0))),(9100001,.obj (.tab .i64 Hc))]:=by
 refine Ac mix Tryz.func36 (fun Γ hq=>?_);unfold Dz at h;refine Af hq [0,1,4] [4,30000,30001,35002,35100,37101,9100001] ?_;obtain⟨x41,hx41,h⟩:=bind_some h;refine gS hx41 (fun(s_:(Int×Int×Int×List Ab×List (List Int)×List Int))=>match s_ with|(i1,i2,i3,l4,l5,l6)=>0) (fun(s_:(Int×Int×Int×List Ab×List (List Int)×List Int))=>match s_ with|(i1,i2,i3,l4,l5,l6)=>(⟨[(0,(.ptr 30000 0)),(1,(Z38 aS)),(4,(.ptr 4 0)),(5,(Bi i1))],[(4,.row 39 [Id,(.int .u64 (0:Int)),Id]),(Xk l5.length i2 i3),(Z57 30001 35100 l6.length l4 37101),(Wq 35002 l5),(Z8 35100 l6),(Ws 37101 l4.length),(Z51 9100001)],[]⟩:St)) (fun r_=>aR (Rm Γ aS a0 a3 a2 a4 a5 r_)) ?_ ?_ ?_
 ·clear h hx41;intro y h;refine Af hq [0,1,4,5] [4,30000,30001,35002,35100,37101,9100001] ?_;obtain⟨hc7,h⟩:=Aa h;refine gR hq [0,1,4,5,6] [4,6,30000,30001,35002,35100,37101,9100001] [] [] (c1 hc7) ?_;obtain⟨hc8,h⟩:=Aa h;obtain⟨x9,hx9,h⟩:=bind_some h;obtain⟨hc10,h⟩:=Aa h;obtain⟨hc11,h⟩:=Aa h;refine gR hq [0,1,4,5,6,7] [4,6,30000,30001,35002,35100,37101,9100001] [] [⟨[(30000,30000),(30001,30001),(37101,37101),(35002,35002),(35100,35100),(9100001,9100001)],[],(Bi x9.1),(Q154 x9),[],[]⟩] (ci hc8 (c1 (Ii ((Q163 aS).Ops) a0 a3 a2 a4 a5 x9 hx9))) ?_;refine Af hq [0,1,4,5,6,7,22] [4,6,30000,30001,35002,35100,37101,9100001] ?_;refine gC h (fun h=>?_) (fun h=>?_)
  ·obtain⟨x12,hx12,h⟩:=bind_some h;refine gR hq [4] [4,30000,30001,35002,35100,37101,9100001] [] [⟨[(30000,30000),(30001,30001),(37101,37101),(35002,35002),(35100,35100),(9100001,9100001)],[],(Z61 x12),(Q154 x9),[],[30000,30001,37101,35002,35100,9100001]⟩] (ci (Cl x9.1 x9.2.2.2.2.1 x9.2.1 x9.2.2.1 x9.2.2.2.2.2 x9.2.2.2.1 x12 hx12) (ci (rk (.row 99 (Z4 x9.2.2.2.2.1.length x9.2.1 x9.2.2.1))) (ci (rk (.row 93 (Z6 35100 x9.2.2.2.2.2.length x9.2.2.2.1 37101))) (ci (rk (.tok 3 49 x9.2.2.2.1.length)) (ci (rk (.arr 1 26 x9.2.2.2.2.1.length (fun i=>As (x9.2.2.2.2.1.getD i [])))) (ci (rk (.arr 1 5 x9.2.2.2.2.2.length (fun i=>Dd (x9.2.2.2.2.2.getD i 0)))) (c1 (rk Wo)))))))) ?_;cases h;exact Wm (Jw (Fx [(30000,30000),(30001,30001),(37101,37101),(35002,35002),(35100,35100),(9100001,9100001)] (Le.refl _ _)))
  ·obtain⟨x13,hx13,h⟩:=bind_some h;obtain⟨hc14,h⟩:=Aa h;obtain⟨hc15,h⟩:=Aa h;refine gR hq [0,1,4,5,6,28] [4,6,30000,30001,35002,35100,37101,9100001] [] [⟨[(30000,30000),(30001,30001),(37101,37101),(35002,35002),(35100,35100),(9100001,9100001)],[],(.bool x13.1),(Q151 x13),[],[]⟩] (c1 (Gj x9.2.2.2.2.1 x9.2.1 x9.2.2.1 x9.2.2.2.2.2 x9.2.2.2.1 x13 hx13)) ?_;refine gC h (fun h=>?_) (fun h=>?_)
   ·obtain⟨x16,hx16,h⟩:=bind_some h;refine gR hq [4] [4,30000,30001,35002,35100,37101,9100001] [] [⟨[(30000,30000),(30001,30001),(37101,37101),(35002,35002),(35100,35100),(9100001,9100001)],[],(Z61 x16),(Q151 x13),[],[30000,30001,37101,35002,35100,9100001]⟩] (ci (Cl (9:Int) x13.2.2.2.2.1 x13.2.1 x13.2.2.1 x13.2.2.2.2.2 x13.2.2.2.1 x16 hx16) (ci (rk (Q155 x13)) (ci (rk (Q157 x13)) (ci (rk (.tok 3 49 x13.2.2.2.1.length)) (ci (rk (Q161 x13)) (ci (rk (Q159 x13)) (c1 (rk Wo)))))))) ?_;cases h;exact Wm (Jw (Fx [(30000,30000),(30001,30001),(37101,37101),(35002,35002),(35100,35100),(9100001,9100001)] (Le.refl _ _)))
   ·refine Af hq [0,1,4,5,6,32] [4,6,30000,30001,35002,35100,37101,9100001] ?_;refine Af hq [0,1,4,5,6,32,33] [4,6,30000,30001,35002,35100,37101,9100001] ?_;refine gC h (fun h=>?_) (fun h=>?_)
    ·obtain⟨x17,hx17,h⟩:=bind_some h;refine gR hq [4] [4,30000,30001,35002,35100,37101,9100001] [] [⟨[(30000,30000),(30001,30001),(37101,37101),(35002,35002),(35100,35100),(9100001,9100001)],[],(Hp x17),(Q151 x13),[],[30000,30001,37101,35002,35100,9100001]⟩] (ci (Bn ((Q163 aS).End.Arg) x13.2.2.2.2.1 x13.2.1 x13.2.2.1 x13.2.2.2.2.2 x13.2.2.2.1 x17 hx17) (ci (rk (Q155 x13)) (ci (rk (Q157 x13)) (ci (rk (.tok 3 49 x13.2.2.2.1.length)) (ci (rk (Q161 x13)) (ci (rk (Q159 x13)) (c1 (rk Wo)))))))) ?_;cases h;exact Wm (Jw (Fx [(30000,30000),(30001,30001),(37101,37101),(35002,35002),(35100,35100),(9100001,9100001)] (Le.refl _ _)))
    ·refine Af hq [0,1,4,5,6,44] [4,6,30000,30001,35002,35100,37101,9100001] ?_;refine gC h (fun h=>?_) (fun h=>?_)
     ·obtain⟨x18,hx18,h⟩:=bind_some h;refine gR hq [4] [4,30000,30001,35002,35100,37101,9100001] [] [⟨[(30000,30000),(30001,30001),(37101,37101),(35002,35002),(35100,35100),(9100001,9100001)],[],(Z61 x18),(Q151 x13),[],[30000,30001,37101,35002,35100,9100001]⟩] (ci (Cl (8:Int) x13.2.2.2.2.1 x13.2.1 x13.2.2.1 x13.2.2.2.2.2 x13.2.2.2.1 x18 hx18) (ci (rk (Q155 x13)) (ci (rk (Q157 x13)) (ci (rk (.tok 3 49 x13.2.2.2.1.length)) (ci (rk (Q161 x13)) (ci (rk (Q159 x13)) (c1 (rk Wo)))))))) ?_;cases h;exact Wm (Jw (Fx [(30000,30000),(30001,30001),(37101,37101),(35002,35002),(35100,35100),(9100001,9100001)] (Le.refl _ _)))
     ·obtain⟨x19,hx19,h⟩:=bind_some h;refine gR hq [0,1,4,5,8] [4,30000,30001,35002,35100,37101,9100001] [] [⟨[(30000,30000),(30001,30001),(37101,37101),(35002,35002),(35100,35100),(9100001,9100001)],[],(Bi x19),(Q151 x13),[],[30000,30001,37101,35002,35100,9100001]⟩] (ci (Jx (⟨(Q163 aS).End.Kind,(Q163 aS).End.Arg,(Q163 aS).End.To⟩:Gz) x13.2.2.2.2.1 x13.2.1 x13.2.2.1 x13.2.2.2.2.2 x13.2.2.2.1 x19 hx19) (ci (rk (Q155 x13)) (ci (rk (Q157 x13)) (ci (rk (.tok 3 49 x13.2.2.2.1.length)) (ci (rk (Q161 x13)) (ci (rk (Q159 x13)) (c1 (rk Wo)))))))) ?_;obtain⟨hc20,h⟩:=Aa h;obtain⟨x21,hx21,h⟩:=bind_some h;obtain⟨hc22,h⟩:=Aa h;obtain⟨hc23,h⟩:=Aa h;refine gR hq [0,1,4,8] [4,30000,30001,35002,35100,37101,9100001] [] [⟨[(30000,30000),(30001,30001),(37101,37101),(35002,35002),(35100,35100),(9100001,9100001)],[],(.tuple []),(Z1 x21.2.2.2.1 x21.1 x21.2.1 x21.2.2.2.2 x21.2.2.1 x21.2.2.1.length),[],[]⟩] (ci hc20 (c1 (Jc ((aS.getD x19.toNat default).Phis) (0:Int) x13.2.2.2.2.1 x13.2.1 x13.2.2.1 x13.2.2.2.2.2 x13.2.2.2.1 x21 hx21))) ?_;refine Af hq [0,1,4,5] [4,30000,30001,35002,35100,37101,9100001] ?_;cases h;exact gJn C9
 ·clear h hx41;rintro⟨i1,i2,i3,l4,l5,l6⟩ y h;unfold A0 at h;obtain⟨hc24,h⟩:=Aa h;refine gR hq [0,1,4,5,6] [4,6,30000,30001,35002,35100,37101,9100001] [] [] (c1 hc24) ?_;obtain⟨hc25,h⟩:=Aa h;obtain⟨x26,hx26,h⟩:=bind_some h;obtain⟨hc27,h⟩:=Aa h;obtain⟨hc28,h⟩:=Aa h;refine gR hq [0,1,4,5,6,7] [4,6,30000,30001,35002,35100,37101,9100001] [] [⟨[(30000,30000),(30001,30001),(37101,37101),(35002,35002),(35100,35100),(9100001,9100001)],[],(Bi x26.1),(Q153 x26),[],[]⟩] (ci hc25 (c1 (Ii ((aS.getD i1.toNat default).Ops) l5 i2 i3 l6 l4 x26 hx26))) ?_;refine Af hq [0,1,4,5,6,7,22] [4,6,30000,30001,35002,35100,37101,9100001] ?_;refine gC h (fun h=>?_) (fun h=>?_)
  ·obtain⟨x29,hx29,h⟩:=bind_some h;refine gR hq [4] [4,30000,30001,35002,35100,37101,9100001] [] [⟨[(30000,30000),(30001,30001),(37101,37101),(35002,35002),(35100,35100),(9100001,9100001)],[],(Z61 x29),(Q153 x26),[],[30000,30001,37101,35002,35100,9100001]⟩] (ci (Cl x26.1 x26.2.2.2.2.1 x26.2.1 x26.2.2.1 x26.2.2.2.2.2 x26.2.2.2.1 x29 hx29) (ci (rk (.row 99 (Z4 x26.2.2.2.2.1.length x26.2.1 x26.2.2.1))) (ci (rk (.row 93 (Z6 35100 x26.2.2.2.2.2.length x26.2.2.2.1 37101))) (ci (rk (.tok 3 49 x26.2.2.2.1.length)) (ci (rk (.arr 1 26 x26.2.2.2.2.1.length (fun i=>As (x26.2.2.2.2.1.getD i [])))) (ci (rk (.arr 1 5 x26.2.2.2.2.2.length (fun i=>Dd (x26.2.2.2.2.2.getD i 0)))) (c1 (rk Wo)))))))) ?_;cases h;exact Wm (Jw (Fx [(30000,30000),(30001,30001),(37101,37101),(35002,35002),(35100,35100),(9100001,9100001)] (Le.refl _ _)))
  ·obtain⟨x30,hx30,h⟩:=bind_some h;obtain⟨hc31,h⟩:=Aa h;obtain⟨hc32,h⟩:=Aa h;refine gR hq [0,1,4,5,6,28] [4,6,30000,30001,35002,35100,37101,9100001] [] [⟨[(30000,30000),(30001,30001),(37101,37101),(35002,35002),(35100,35100),(9100001,9100001)],[],(.bool x30.1),(Q152 x30),[],[]⟩] (c1 (Gj x26.2.2.2.2.1 x26.2.1 x26.2.2.1 x26.2.2.2.2.2 x26.2.2.2.1 x30 hx30)) ?_;refine gC h (fun h=>?_) (fun h=>?_)
   ·obtain⟨x33,hx33,h⟩:=bind_some h;refine gR hq [4] [4,30000,30001,35002,35100,37101,9100001] [] [⟨[(30000,30000),(30001,30001),(37101,37101),(35002,35002),(35100,35100),(9100001,9100001)],[],(Z61 x33),(Q152 x30),[],[30000,30001,37101,35002,35100,9100001]⟩] (ci (Cl (9:Int) x30.2.2.2.2.1 x30.2.1 x30.2.2.1 x30.2.2.2.2.2 x30.2.2.2.1 x33 hx33) (ci (rk (Q156 x30)) (ci (rk (Q158 x30)) (ci (rk (.tok 3 49 x30.2.2.2.1.length)) (ci (rk (Q162 x30)) (ci (rk (Q160 x30)) (c1 (rk Wo)))))))) ?_;cases h;exact Wm (Jw (Fx [(30000,30000),(30001,30001),(37101,37101),(35002,35002),(35100,35100),(9100001,9100001)] (Le.refl _ _)))
   ·refine Af hq [0,1,4,5,6,32] [4,6,30000,30001,35002,35100,37101,9100001] ?_;refine Af hq [0,1,4,5,6,32,33] [4,6,30000,30001,35002,35100,37101,9100001] ?_;refine gC h (fun h=>?_) (fun h=>?_)
    ·obtain⟨x34,hx34,h⟩:=bind_some h;refine gR hq [4] [4,30000,30001,35002,35100,37101,9100001] [] [⟨[(30000,30000),(30001,30001),(37101,37101),(35002,35002),(35100,35100),(9100001,9100001)],[],(Hp x34),(Q152 x30),[],[30000,30001,37101,35002,35100,9100001]⟩] (ci (Bn ((aS.getD i1.toNat default).End.Arg) x30.2.2.2.2.1 x30.2.1 x30.2.2.1 x30.2.2.2.2.2 x30.2.2.2.1 x34 hx34) (ci (rk (Q156 x30)) (ci (rk (Q158 x30)) (ci (rk (.tok 3 49 x30.2.2.2.1.length)) (ci (rk (Q162 x30)) (ci (rk (Q160 x30)) (c1 (rk Wo)))))))) ?_;cases h;exact Wm (Jw (Fx [(30000,30000),(30001,30001),(37101,37101),(35002,35002),(35100,35100),(9100001,9100001)] (Le.refl _ _)))
    ·refine Af hq [0,1,4,5,6,44] [4,6,30000,30001,35002,35100,37101,9100001] ?_;refine gC h (fun h=>?_) (fun h=>?_)
     ·obtain⟨x35,hx35,h⟩:=bind_some h;refine gR hq [4] [4,30000,30001,35002,35100,37101,9100001] [] [⟨[(30000,30000),(30001,30001),(37101,37101),(35002,35002),(35100,35100),(9100001,9100001)],[],(Z61 x35),(Q152 x30),[],[30000,30001,37101,35002,35100,9100001]⟩] (ci (Cl (8:Int) x30.2.2.2.2.1 x30.2.1 x30.2.2.1 x30.2.2.2.2.2 x30.2.2.2.1 x35 hx35) (ci (rk (Q156 x30)) (ci (rk (Q158 x30)) (ci (rk (.tok 3 49 x30.2.2.2.1.length)) (ci (rk (Q162 x30)) (ci (rk (Q160 x30)) (c1 (rk Wo)))))))) ?_;cases h;exact Wm (Jw (Fx [(30000,30000),(30001,30001),(37101,37101),(35002,35002),(35100,35100),(9100001,9100001)] (Le.refl _ _)))
     ·obtain⟨x36,hx36,h⟩:=bind_some h;refine gR hq [0,1,4,5,8] [4,30000,30001,35002,35100,37101,9100001] [] [⟨[(30000,30000),(30001,30001),(37101,37101),(35002,35002),(35100,35100),(9100001,9100001)],[],(Bi x36),(Q152 x30),[],[30000,30001,37101,35002,35100,9100001]⟩] (ci (Jx (⟨(aS.getD i1.toNat default).End.Kind,(aS.getD i1.toNat default).End.Arg,(aS.getD i1.toNat default).End.To⟩:Gz) x30.2.2.2.2.1 x30.2.1 x30.2.2.1 x30.2.2.2.2.2 x30.2.2.2.1 x36 hx36) (ci (rk (Q156 x30)) (ci (rk (Q158 x30)) (ci (rk (.tok 3 49 x30.2.2.2.1.length)) (ci (rk (Q162 x30)) (ci (rk (Q160 x30)) (c1 (rk Wo)))))))) ?_;obtain⟨hc37,h⟩:=Aa h;obtain⟨x38,hx38,h⟩:=bind_some h;obtain⟨hc39,h⟩:=Aa h;obtain⟨hc40,h⟩:=Aa h;refine gR hq [0,1,4,8] [4,30000,30001,35002,35100,37101,9100001] [] [⟨[(30000,30000),(30001,30001),(37101,37101),(35002,35002),(35100,35100),(9100001,9100001)],[],(.tuple []),(Z1 x38.2.2.2.1 x38.1 x38.2.1 x38.2.2.2.2 x38.2.2.1 x38.2.2.1.length),[],[]⟩] (ci hc37 (c1 (Jc ((aS.getD x36.toNat default).Phis) i1 x30.2.2.2.2.1 x30.2.1 x30.2.2.1 x30.2.2.2.2.2 x30.2.2.2.1 x38 hx38))) ?_;refine Af hq [0,1,4,5] [4,30000,30001,35002,35100,37101,9100001] ?_;cases h;exact gJn C9
 ·clear hx41;refine Qx (fun st' hk=>?_);obtain rfl:=OI h;exact gK hk
def Q167(aW:Int):=((decide (aW<0))==false)
def U5(x2:Int):=(List.replicate (Aq (x2+1)).toNat ([]:List Int))
def Q166(aW:Int)(aa2:List Int)(a9:Ae):=(bif (decide (aW<0)) then true else(((aa2.length:Int):Int)!=(a9.Params.length:Int)))
def Ei(a9:Ae)(aa2:List Int)(aW:Int)(a6:List Int)(a7:List Ab):Option (Ic×Int×List Ab×List Int):=
 ((bif ((bif (decide (aW<0)) then true else(((aa2.length:Int):Int)!=(a9.Params.length:Int)))==false) then Iw a9 (2:Int) else some (0:Int)).bind fun x1=>(bif (bif (bif (decide (aW<0)) then true else(((aa2.length:Int):Int)!=(a9.Params.length:Int))) then true else(x1 !=0)) then(some ((⟨(0:Int),(0:Int),(0:Int)⟩:Ic),(1:Int),a7,a6)) else((Jy a9).bind fun x2=>(Aw (0≤(Aq (x2+1))∧(Aq (x2+1))≤(Aq (x2+1))∧(Aq (x2+1))≤(room:Int)) ((De (List.replicate (Aq (x2+1)).toNat ([]:List Int)) aW (0:Int) a6 a7).bind fun x4=>((Da a9 aa2 (List.replicate (Aq (x2+1)).toNat ([]:List Int)) aW (0:Int) a6 a7).bind fun x5=>(Aw ((List.replicate (Aq (x2+1)).toNat ([]:List Int)).length=x5.2.2.2.1.length) (Aw (a6.length=x5.2.2.2.2.length) ((Dz a9.Blocks x5.2.2.2.1 x5.1 x5.2.1 x5.2.2.2.2 x5.2.2.1).bind fun x8=>(Aw (x5.2.2.2.1.length=x8.2.2.2.2.1.length) (Aw (x5.2.2.2.2.length=x8.2.2.2.2.2.length) (some (x8.1,(0:Int),x8.2.2.2.1,x8.2.2.2.2.2)))))))))))))
theorem Jb(a9:Ae)(aa2:List Int)(aW:Int)(a6:List Int)(a7:List Ab)(r:(Ic×Int×List Ab×List Int))(h:Ei a9 aa2 aW a6 a7=some r):Spec Tryz.prog 14 [(.agg (Rq a9)),(AV.list 1 Bg 0 aa2 .none),(.ptr 30000 0),(.int .i64 aW)] [(30000,.row 93 [(.vsl 35000 a6.length),(AV.list 3 Ao default a7 (.own 37001))]),(37001,.tok 3 49 a7.length),(35000,.arr 1 5 a6.length (fun i=>Dd (a6.getD i 0)))] (.tuple [(.agg (eTRun r.1)),(.int .i64 r.2.1)]) [(30000,.row 93 [(.vsl 35000 r.2.2.2.length),(AV.list 3 Ao default r.2.2.1 (.own 37001))]),(37001,.tok 3 49 r.2.2.1.length),(35000,.arr 1 5 r.2.2.2.length (fun i=>Dd (r.2.2.2.getD i 0)))]:=by
 refine Ac mix Tryz.func14 (fun Γ hq=>?_);unfold Ei at h;refine Af hq [1,2,3,4,8] [4,8,30000,35000,37001] ?_;obtain⟨x1,hx1,h⟩:=bind_some h;refine gR hq [1,2,3,4,8,25] [4,8,30000,35000,37001] [] [⟨[],[],(Bi x1),[],[],[]⟩] (ci (gI (Q167 aW)) (ci (gI (Q167 aW)) (ci (gI (Q167 aW)) (ci (gI (Q167 aW)) (ci (gI (Q167 aW)) (ci (Qn (decide (aW<0))) (ci (gI ((Q166 aW aa2 a9)==false)) (ci (fun(hg:((Q166 aW aa2 a9)==false)=true)=>(Vu a9 (2:Int) x1 (B9 hg hx1))) (ci (gI ((Q166 aW aa2 a9)==false)) (c1 (Qn (Q166 aW aa2 a9)))))))))))) ?_;refine gC h (fun h=>?_) (fun h=>?_)
 ·refine Af hq [8,9] [8,30000,35000,37001] ?_;cases h;exact Bk [(30000,30000),(37001,37001),(35000,35000)]
 ·obtain⟨x2,hx2,h⟩:=bind_some h;obtain⟨hc3,h⟩:=Aa h;refine gR hq [1,4,8,10] [4,8,32,34,30000,35000,37001] [] [⟨[],[],(Bi x2),[],[],[]⟩] (ci (W5 a9 x2 hx2) (c1 hc3)) ?_;refine Ie (Le.trans (K6 32 (show ∀ k_,k_<((Aq (x2+1)).toNat)→AVleL ((fun i_=>AV.eraseAll (fun n_=>Bl n_ [4,8,32,34,30000,35000,37001]) ((fun _=>[Z28]) i_)) k_) ((fun i=>As ((U5 x2).getD i [])) k_) from(fun k hk=>H5 (e:=As) (d:=[]) (.cons (fun _ _ _ _ _ hh=>AVle.untag _ _ _ _ _ (Dv _ _ _ _ _ hh)) .nil) _ k (H6 hk)))) (K7 (fun(k_:Nat) u=>(Cx u [] [(32,.arr 1 26 k_ (fun i=>As ((U5 x2).getD i []))),(34,.row 99 [(.ptr 30000 0),.nilm,(.vsl 32 k_),(Bi aW),Id])])) (show(Aq (x2+1)).toNat=(U5 x2).length from(List.length_replicate ..).symm))) ?_;obtain⟨x4,hx4,h⟩:=bind_some h;refine gR hq [1,4,8,10] [4,8,32,34,37,30000,35000,37001] [] [⟨[(34,30000),(30000,30001),(37001,37101),(32,35002),(35000,35100)],[(20000,37)],(.omap 20000),[(30000,.row 99 [(.ptr 30001 0),.nilm,(.vsl 35002 (U5 x2).length),(Bi aW),Id]),(Z57 30001 35100 a6.length a7 37101),(Ws 37101 a7.length),(35002,.arr 1 26 (U5 x2).length (fun i=>As ((U5 x2).getD i []))),(Z8 35100 a6),(Z51 20000)],[],[34,30000,37001,32,35000]⟩] (ci (L5 (U5 x2) aW (0:Int) a6 a7 x4 hx4) (ci (rk (.row 99 [(.ptr 30000 0),.nilm,(.vsl 32 (U5 x2).length),(Bi aW),Id])) (ci (rk (.row 93 (Z6 35000 a6.length a7 37001))) (ci (rk (.tok 3 49 a7.length)) (ci (rk (.arr 1 26 ((U5 x2).length) (fun i=>As ((U5 x2).getD i [])))) (c1 (rk (.arr 1 5 a6.length (fun i=>Dd (a6.getD i 0)))))))))) ?_;obtain⟨x5,hx5,h⟩:=bind_some h;obtain⟨hc6,h⟩:=Aa h;obtain⟨hc7,h⟩:=Aa h;refine gR hq [4,8,10] [4,8,32,34,37,30000,35000,37001] [] [⟨[(34,30000),(30000,30001),(37001,37101),(32,35002),(35000,35100),(37,9100001)],[],(.tuple []),(Z1 x5.2.2.2.1 x5.1 x5.2.1 x5.2.2.2.2 x5.2.2.1 x5.2.2.1.length),[],[]⟩] (c1 (Ov a9 aa2 (U5 x2) aW (0:Int) a6 a7 x5 hx5)) ?_;obtain⟨x8,hx8,h⟩:=bind_some h;obtain⟨hc9,h⟩:=Aa h;obtain⟨hc10,h⟩:=Aa h;refine gR hq [8,9] [8,30000,35000,37001] [] [⟨[(34,30000),(30000,30001),(37001,37101),(32,35002),(35000,35100),(37,9100001)],[],(Z61 x8.1),(Z1 x8.2.2.2.2.1 x8.2.1 x8.2.2.1 x8.2.2.2.2.2 x8.2.2.2.1 x8.2.2.2.1.length),[],[]⟩] (c1 (Qr a9.Blocks x5.2.2.2.1 x5.1 x5.2.1 x5.2.2.2.2 x5.2.2.1 x8 hx8)) ?_;cases h;exact Bk [(30000,30000),(37001,37001),(35000,35000)]
def B3:List Cs:=([(⟨(0:Int),(8:Int),(1:Int),(1:Int),([]:List Int),(200:Int)⟩:Cs),(⟨(0:Int),(8:Int),(1:Int),(2:Int),([]:List Int),(100:Int)⟩:Cs),(⟨(1:Int),(8:Int),(1:Int),(3:Int),([(1:Int),(2:Int)]:List Int),(0:Int)⟩:Cs)]:List Cs)
def T8:AV:=Id
def U7:AV:=Z60
def Q177:AV:=Z54
def U6:AV:=Z33
def Q169:=([(⟨([]:List Fw),B3,(⟨(0:Int),(3:Int),([]:List Int)⟩:Gz)⟩:Aj)]:List Aj)
def Q179:AV:=(AV.list 5 Av default Q169 .exact)
def Q170(x3:(Ic×Int×List Ab×List Int)):=(bif (x3.2.1==0) then(((x3.1.Code:Int)==0)&&(((x3.1.Value:Int)==44)&&(((x3.1.Steps:Int)==4)&&true))) else false)
def Q178(x3:(Ic×Int×List Ab×List Int))(x5:(Ic×Int×List Ab×List Int)):=(bif (Q170 x3) then(x5.2.1==0) else false)
def Q174:AV:=(AV.list 6 Fc default B3 .exact)
def Q171(x3:(Ic×Int×List Ab×List Int)):List (Nat×Own):=(Z12 x3.2.2.2.length x3.2.2.1 x3.2.2.1.length x3.2.2.2)
def Q173(x5:(Ic×Int×List Ab×List Int)):List (Nat×Own):=(Z12 x5.2.2.2.length x5.2.2.1 x5.2.2.1.length x5.2.2.2)
def Q168(x1:((Bool×TMem)×Int)):List (Nat×Own):=(Z26 20000 21000 x1.1.2.bytes.length x1.1.2.trace 21001 x1.1.2.bytes x1.1.2.trace.length)
def m_locksteplaw13_awake :Option Bool:=
 ((J5 ([]:List Int)).bind fun x1=>(bif x1.1.1 then(bif (x1.2 !=0) then(some false) else((Ei (⟨([]:List Int),(8:Int),([(⟨([]:List Fw),B3,(⟨(0:Int),(3:Int),([]:List Int)⟩:Gz)⟩:Aj)]:List Aj)⟩:Ae) ([]:List Int) (4:Int) x1.1.2.bytes x1.1.2.trace).bind fun x3=>(Aw (x1.1.2.bytes.length=x3.2.2.2.length) ((Ei (⟨([]:List Int),(8:Int),([(⟨([]:List Fw),B3,(⟨(0:Int),(3:Int),([]:List Int)⟩:Gz)⟩:Aj)]:List Aj)⟩:Ae) ([]:List Int) (3:Int) x3.2.2.2 x3.2.2.1).bind fun x5=>(Aw (x3.2.2.2.length=x5.2.2.2.length) ((Ei (⟨([]:List Int),(8:Int),([(⟨([]:List Fw),B3,(⟨(0:Int),(3:Int),([]:List Int)⟩:Gz)⟩:Aj)]:List Aj)⟩:Ae) ([(1:Int)]:List Int) (3:Int) x5.2.2.2 x5.2.2.1).bind fun x7=>(Aw (x5.2.2.2.length=x7.2.2.2.length) (some (bif (bif (bif (bif (x3.2.1==0) then(((x3.1.Code:Int)==0)&&(((x3.1.Value:Int)==44)&&(((x3.1.Steps:Int)==4)&&true))) else false) then(x5.2.1==0) else false) then(((x5.1.Code:Int)==9)&&(((x5.1.Value:Int)==0)&&(((x5.1.Steps:Int)==3)&&true))) else false) then(x7.2.1==1) else false))))))))) else(some false)))
theorem Nk  (r:Bool) (h:m_locksteplaw13_awake=some r):Spec Tryz.prog 10 [] [] (.bool r) []:=by
 refine Ac mix Tryz.func10 (fun Γ hq=>?_);unfold m_locksteplaw13_awake at h;refine Af hq [] [] ?_;refine gR hq [1] [1] [(10,(.agg [T8,U7,Tj,Tj,U6,(.int .u64 (200:Int))])),(11,(.agg [T8,U7,Tj,Z56,U6,(.int .u64 (100:Int))])),(12,(AV.list 1 Ah 0 ([(1:Int),(2:Int)]:List Int) .exact)),(14,Q174),(15,(.agg [T8,Z44,U6])),(16,(.agg [Z59,Q174,T8,Z44,U6])),(17,Q179),(18,(.agg [U6,U7,Q179]))] [] (ci (show(AVle (.agg [T8,U7,Tj,Tj,Z28,(.int .u64 (200:Int))]) (.agg [T8,U7,Tj,Tj,U6,(.int .u64 (200:Int))])) from(AVle.agg (.cons (AVle.refl _) (.cons (AVle.refl _) (.cons (AVle.refl _) (.cons (AVle.refl _) (.cons Dv (.cons (AVle.refl _) .nil)))))))) (ci (show(AVle (.agg [T8,U7,Tj,Z56,Z28,(.int .u64 (100:Int))]) (.agg [T8,U7,Tj,Z56,U6,(.int .u64 (100:Int))])) from(AVle.agg (.cons (AVle.refl _) (.cons (AVle.refl _) (.cons (AVle.refl _) (.cons (AVle.refl _) (.cons Dv (.cons (AVle.refl _) .nil)))))))) (ci (Bd 1 Ah (0:Int) ([(1:Int),(2:Int)]:List Int)) (ci (Bd 6 Fc (default:Cs) B3) (ci (show(AVle (.agg [T8,Z44,Z28]) (.agg [T8,Z44,U6])) from(AVle.agg (.cons (AVle.refl _) (.cons (AVle.refl _) (.cons Dv .nil))))) (ci (show(AVle (.agg [Z28,Q174,T8,Z44,U6]) (.agg [Z59,Q174,T8,Z44,U6])) from(AVle.agg (.cons Dv (.cons (AVle.refl _) (.cons (AVle.refl _) (.cons (AVle.refl _) (.cons (AVle.refl _) .nil))))))) (ci (Bd 5 Av (default:Aj) Q169) (c1 (show(AVle (.agg [Z28,U7,Q179]) (.agg [U6,U7,Q179])) from(AVle.agg (.cons Dv (.cons (AVle.refl _) (.cons (AVle.refl _) .nil))))))))))))) ?_;obtain⟨x1,hx1,h⟩:=bind_some h;refine gB h (fun hs2 h=>?_) (fun hs2 h=>?_)
 ·refine gR hq [1,2,3] [1,20,60020000,60020001] [] [⟨[],[(20000,20),(21000,60020000),(21001,60020001)],(.tuple [(bif true then((.ptr 20000 0):AV) else .nilp),(Bi x1.2)]),(bif true then(Q168 x1) else[]),[],[]⟩] (c1 (show(Spec Tryz.prog 13 [Q177] [] (.tuple [(bif true then((.ptr 20000 0):AV) else .nilp),(Bi x1.2)]) (bif true then(Q168 x1) else[])) from(eqB (fun b_:Bool=>Spec Tryz.prog 13 [Q177] [] (.tuple [(bif b_ then((.ptr 20000 0):AV) else .nilp),(Bi x1.2)]) (bif b_ then(Q168 x1) else[])) hs2 (Spec.args (.cons Ms .nil) (Nl ([]:List Int) x1 hx1))))) ?_;refine gR hq [1,2,28] [1,20,60020000,60020001] [] [] (ci (gI (false==false)) (c1 (Qn false))) ?_;refine gC h (fun h=>?_) (fun h=>?_)
  ·refine Af hq [0] [] ?_;obtain rfl:=OI h;exact Bk []
  ·obtain⟨x3,hx3,h⟩:=bind_some h;obtain⟨hc4,h⟩:=Aa h;refine gR hq [1,2,4,5] [1,4,20,60020000,60020001] [] [⟨[(20,30000),(60020001,37001),(60020000,35000)],[],(.tuple [(Z61 x3.1),(Bi x3.2.1)]),(Q171 x3),[],[]⟩] (c1 (show(Spec Tryz.prog 14 [(.agg [(AV.list 1 Ah 0 ([]:List Int) .none),U7,(Z38 Q169)]),Q177,(.ptr 30000 0),Z69] (Z12 x1.1.2.bytes.length x1.1.2.trace x1.1.2.trace.length x1.1.2.bytes) (.tuple [(Z61 x3.1),(Bi x3.2.1)]) (Q171 x3)) from(Spec.args (.cons (AVle.refl _) (.cons Ms (.cons (AVle.refl _) (.cons (AVle.refl _) .nil)))) (Jb (⟨([]:List Int),(8:Int),Q169⟩:Ae) ([]:List Int) (4:Int) x1.1.2.bytes x1.1.2.trace x3 hx3)))) ?_;obtain⟨x5,hx5,h⟩:=bind_some h;obtain⟨hc6,h⟩:=Aa h;refine gR hq [1,2,4,5,6,7] [1,4,6,20,60020000,60020001] [] [⟨[(20,30000),(60020001,37001),(60020000,35000)],[],(.tuple [(Z61 x5.1),(Bi x5.2.1)]),(Q173 x5),[],[]⟩] (c1 (show(Spec Tryz.prog 14 [(.agg [(AV.list 1 Ah 0 ([]:List Int) .none),U7,(Z38 Q169)]),Q177,(.ptr 30000 0),Z44] (Q171 x3) (.tuple [(Z61 x5.1),(Bi x5.2.1)]) (Q173 x5)) from(Spec.args (.cons (AVle.refl _) (.cons Ms (.cons (AVle.refl _) (.cons (AVle.refl _) .nil)))) (Jb (⟨([]:List Int),(8:Int),Q169⟩:Ae) ([]:List Int) (3:Int) x3.2.2.2 x3.2.2.1 x5 hx5)))) ?_;obtain⟨x7,hx7,h⟩:=bind_some h;obtain⟨hc8,h⟩:=Aa h;refine gR hq [4,5,6,7,9] [4,6] [(43,(AV.list 1 Bg 0 ([(1:Int)]:List Int) .exact))] [⟨[(20,30000),(60020001,37001),(60020000,35000)],[],(.tuple [(Z61 x7.1),(Bi x7.2.1)]),(Z12 x7.2.2.2.length x7.2.2.1 x7.2.2.1.length x7.2.2.2),[],[]⟩] (ci (Bd 1 Bg (0:Int) ([(1:Int)]:List Int)) (c1 (Jb (⟨([]:List Int),(8:Int),Q169⟩:Ae) ([(1:Int)]:List Int) (3:Int) x5.2.2.2 x5.2.2.1 x7 hx7))) ?_;refine gR hq [0] [] [] [] (ci (gI ((x3.2.1==0)==true)) (ci (gI ((x3.2.1==0)==true)) (ci (Lh (x3.2.1==0)) (ci (gI ((Q170 x3)==true)) (ci (Lh (Q170 x3)) (ci (gI ((Q178 x3 x5)==true)) (ci (gI ((Q178 x3 x5)==true)) (ci (Lh (Q178 x3 x5)) (ci (gI ((bif (Q178 x3 x5) then(((x5.1.Code:Int)==9)&&(((x5.1.Value:Int)==0)&&(((x5.1.Steps:Int)==3)&&true))) else false)==true)) (c1 (Lh (bif (Q178 x3 x5) then(((x5.1.Code:Int)==9)&&(((x5.1.Value:Int)==0)&&(((x5.1.Steps:Int)==3)&&true))) else false)))))))))))) ?_;cases h;exact Bk []
 ·refine gR hq [1,2,3] [1] [] [⟨[],[],(.tuple [(bif false then((.ptr 20000 0):AV) else .nilp),(Bi x1.2)]),(bif false then(Q168 x1) else[]),[],[]⟩] (c1 (show(Spec Tryz.prog 13 [Q177] [] (.tuple [(bif false then((.ptr 20000 0):AV) else .nilp),(Bi x1.2)]) (bif false then(Q168 x1) else[])) from(eqB (fun b_:Bool=>Spec Tryz.prog 13 [Q177] [] (.tuple [(bif b_ then((.ptr 20000 0):AV) else .nilp),(Bi x1.2)]) (bif b_ then(Q168 x1) else[])) hs2 (Spec.args (.cons Ms .nil) (Nl ([]:List Int) x1 hx1))))) ?_;refine gR hq [1,2,28] [1] [] [] (ci (gI (true==false)) (c1 (Qn true))) ?_;refine Sr true ?_;refine Af hq [0] [] ?_;obtain rfl:=OI h;exact Bk []
def Bz:List Cs:=([(⟨(0:Int),(16:Int),(1:Int),(2:Int),([]:List Int),(1:Int)⟩:Cs),(⟨(0:Int),(16:Int),(1:Int),(3:Int),([]:List Int),(0:Int)⟩:Cs)]:List Cs)
def Dl:List Fw:=([(⟨(16:Int),(4:Int),([(0:Int),(1:Int)]:List Int),([(1:Int),(5:Int)]:List Int)⟩:Fw),(⟨(16:Int),(6:Int),([(0:Int),(1:Int)]:List Int),([(3:Int),(7:Int)]:List Int)⟩:Fw)]:List Fw)
def Cn:List Cs:=([(⟨(2:Int),(16:Int),(1:Int),(5:Int),([(4:Int),(2:Int)]:List Int),(0:Int)⟩:Cs),(⟨(1:Int),(16:Int),(1:Int),(7:Int),([(6:Int),(4:Int)]:List Int),(0:Int)⟩:Cs),(⟨(10:Int),(16:Int),(1:Int),(8:Int),([(5:Int),(3:Int)]:List Int),(0:Int)⟩:Cs)]:List Cs)
def Ba:List Aj:=([(⟨([]:List Fw),Bz,(⟨(1:Int),(0:Int),([(1:Int)]:List Int)⟩:Gz)⟩:Aj),(⟨Dl,Cn,(⟨(2:Int),(8:Int),([(2:Int),(1:Int)]:List Int)⟩:Gz)⟩:Aj),(⟨([]:List Fw),([]:List Cs),(⟨(0:Int),(7:Int),([]:List Int)⟩:Gz)⟩:Aj)]:List Aj)
def Q382:AV:=Z28
def Wp(x4:(Ic×Int×List Ab×List Int)):=((x4.2.1==0)==true)
def Q379:AV:=Z33
def Q378(aK:Int):=([(Cw (Aq ((1:Int)+(Int.tmod (Aq aK) (200:Int)))))]:List Int)
def Q383(aK:Int):=(Aq ((Aq ((3:Int)+(Aq ((4:Int)*(Aq ((1:Int)+(Int.tmod (Aq aK) (200:Int))))))))+1))
def Q385:AV:=(.agg [Id,(K5 16),Tj,Z56,Q379,(.int .u64 (1:Int))])
def Q386:AV:=(.agg [Id,(K5 16),Tj,Z44,Q379,(.int .u64 (0:Int))])
def Q384:AV:=(.agg [Z59,(AV.list 6 Fc default ([]:List Cs) .exact),Id,Z49,Q379])
def Q381:AV:=(.agg [Z59,(AV.list 6 Fc default Bz .exact),Tj,Id,(AV.list 1 Ah 0 ([(1:Int)]:List Int) .exact)])
def Q377(x2:((Bool×TMem)×Int)):List (Nat×Own):=(Z26 20000 21000 x2.1.2.bytes.length x2.1.2.trace 21001 x2.1.2.bytes x2.1.2.trace.length)
def Q376(x4:(Ic×Int×List Ab×List Int))(aK:Int):=(bif (x4.2.1==0) then(((x4.1.Code:Int)==0)&&(((x4.1.Value:Int)==(Cw (Aq (Int.tdiv (Aq ((Aq ((1:Int)+(Int.tmod (Aq aK) (200:Int))))*(Aq ((Aq ((1:Int)+(Int.tmod (Aq aK) (200:Int))))+1)))) (2:Int)))))&&(((x4.1.Steps:Int)==(Q383 aK))&&true))) else false)
def Cz(aK:Int)(a8:Int):Option Bool:=
 (m_locksteplaw13_awake.bind fun x1=>(bif (!x1) then(some false) else((J5 ([]:List Int)).bind fun x2=>(bif x2.1.1 then((Ei (⟨([(16:Int)]:List Int),(16:Int),Ba⟩:Ae) ([(Cw (Aq ((1:Int)+(Int.tmod (Aq aK) (200:Int)))))]:List Int) (Aq ((Aq ((3:Int)+(Aq ((4:Int)*(Aq ((1:Int)+(Int.tmod (Aq aK) (200:Int))))))))+1)) x2.1.2.bytes x2.1.2.trace).bind fun x4=>(Aw (x2.1.2.bytes.length=x4.2.2.2.length) (Aw ((Aq ((Aq ((3:Int)+(Aq ((4:Int)*(Aq ((1:Int)+(Int.tmod (Aq aK) (200:Int))))))))+1))≠0) ((Ei (⟨([(16:Int)]:List Int),(16:Int),Ba⟩:Ae) ([(Cw (Aq ((1:Int)+(Int.tmod (Aq aK) (200:Int)))))]:List Int) (Aq ((Aq ((Aq ((Aq ((3:Int)+(Aq ((4:Int)*(Aq ((1:Int)+(Int.tmod (Aq aK) (200:Int))))))))+1))-1))-(Int.tmod (Aq a8) (Aq ((Aq ((3:Int)+(Aq ((4:Int)*(Aq ((1:Int)+(Int.tmod (Aq aK) (200:Int))))))))+1))))) x4.2.2.2 x4.2.2.1).bind fun x7=>(Aw (x4.2.2.2.length=x7.2.2.2.length) (some (bif (bif (bif (x4.2.1==0) then(((x4.1.Code:Int)==0)&&(((x4.1.Value:Int)==(Cw (Aq (Int.tdiv (Aq ((Aq ((1:Int)+(Int.tmod (Aq aK) (200:Int))))*(Aq ((Aq ((1:Int)+(Int.tmod (Aq aK) (200:Int))))+1)))) (2:Int)))))&&(((x4.1.Steps:Int)==(Aq ((Aq ((3:Int)+(Aq ((4:Int)*(Aq ((1:Int)+(Int.tmod (Aq aK) (200:Int))))))))+1)))&&true))) else false) then(x7.2.1==0) else false) then(((x7.1.Code:Int)==9)&&(((x7.1.Value:Int)==0)&&(((x7.1.Steps:Int)==(Aq ((Aq ((Aq ((Aq ((3:Int)+(Aq ((4:Int)*(Aq ((1:Int)+(Int.tmod (Aq aK) (200:Int))))))))+1))-1))-(Int.tmod (Aq a8) (Aq ((Aq ((3:Int)+(Aq ((4:Int)*(Aq ((1:Int)+(Int.tmod (Aq aK) (200:Int))))))))+1))))))&&true))) else false))))))) else(some false)))))
theorem ok_locksteplaw13_EvalLoops(aK:Int)(a8:Int)(r:Bool)(h:Cz aK a8=some r):Spec Tryz.prog 7 [(.int .u8 aK),(.int .u16 a8)] [] (.bool r) []:=by
 refine Ac mix Tryz.func7 (fun Γ hq=>?_);unfold Cz at h;refine Af hq [0,1] [] ?_;obtain⟨x1,hx1,h⟩:=bind_some h;refine gR hq [0,1,16] [] [] [⟨[],[],(.bool x1),[],[],[]⟩] (c1 (Nk  x1 hx1)) ?_;refine gC h (fun h=>?_) (fun h=>?_)
 ·refine Af hq [4] [] ?_;obtain rfl:=OI h;exact Bk []
 ·refine gR hq [1,5] [] [] [] (c1 (show((200:Int)≠0) from(by decide))) ?_;refine gR hq [1,5,6] [6] [(21,(AV.list 1 Ah 0 ([(16:Int)]:List Int) .exact)),(22,Q385),(23,Q386),(24,(AV.list 6 Fc default Bz .exact)),(25,(AV.list 1 Ah 0 ([(1:Int)]:List Int) .exact)),(27,Q381),(28,(AV.list 1 Ah 0 ([(0:Int),(1:Int)]:List Int) .exact)),(29,(AV.list 1 Ah 0 ([(1:Int),(5:Int)]:List Int) .exact)),(31,(AV.list 1 Ah 0 ([(0:Int),(1:Int)]:List Int) .exact)),(32,(AV.list 1 Ah 0 ([(3:Int),(7:Int)]:List Int) .exact)),(34,(AV.list 4 Qv default Dl .exact)),(35,(AV.list 1 Ah 0 ([(4:Int),(2:Int)]:List Int) .exact)),(37,(AV.list 1 Ah 0 ([(6:Int),(4:Int)]:List Int) .exact)),(39,(AV.list 1 Ah 0 ([(5:Int),(3:Int)]:List Int) .exact)),(41,(AV.list 6 Fc default Cn .exact)),(42,(AV.list 1 Ah 0 ([(2:Int),(1:Int)]:List Int) .exact)),(45,(.agg [Id,Z49,Q379])),(46,Q384),(47,(AV.list 5 Av default Ba .exact))] [] (ci (Bd 1 Ah (0:Int) ([(16:Int)]:List Int)) (ci (show(AVle (.agg [Id,(K5 16),Tj,Z56,Q382,(.int .u64 (1:Int))]) Q385) from(AVle.agg (.cons (AVle.refl _) (.cons (AVle.refl _) (.cons (AVle.refl _) (.cons (AVle.refl _) (.cons Dv (.cons (AVle.refl _) .nil)))))))) (ci (show(AVle (.agg [Id,(K5 16),Tj,Z44,Q382,(.int .u64 (0:Int))]) Q386) from(AVle.agg (.cons (AVle.refl _) (.cons (AVle.refl _) (.cons (AVle.refl _) (.cons (AVle.refl _) (.cons Dv (.cons (AVle.refl _) .nil)))))))) (ci (Bd 6 Fc (default:Cs) Bz) (ci (Bd 1 Ah (0:Int) ([(1:Int)]:List Int)) (ci (show(AVle (.agg [Q382,(AV.list 6 Fc default Bz .exact),Tj,Id,(AV.list 1 Ah 0 ([(1:Int)]:List Int) .exact)]) Q381) from(AVle.agg (.cons Dv (.cons (AVle.refl _) (.cons (AVle.refl _) (.cons (AVle.refl _) (.cons (AVle.refl _) .nil))))))) (ci (Bd 1 Ah (0:Int) ([(0:Int),(1:Int)]:List Int)) (ci (Bd 1 Ah (0:Int) ([(1:Int),(5:Int)]:List Int)) (ci (Bd 1 Ah (0:Int) ([(0:Int),(1:Int)]:List Int)) (ci (Bd 1 Ah (0:Int) ([(3:Int),(7:Int)]:List Int)) (ci (Bd 4 Qv (default:Fw) Dl) (ci (Bd 1 Ah (0:Int) ([(4:Int),(2:Int)]:List Int)) (ci (Bd 1 Ah (0:Int) ([(6:Int),(4:Int)]:List Int)) (ci (Bd 1 Ah (0:Int) ([(5:Int),(3:Int)]:List Int)) (ci (Bd 6 Fc (default:Cs) Cn) (ci (Bd 1 Ah (0:Int) ([(2:Int),(1:Int)]:List Int)) (ci (show(AVle (.agg [Id,Z49,Q382]) (.agg [Id,Z49,Q379])) from(AVle.agg (.cons (AVle.refl _) (.cons (AVle.refl _) (.cons Dv .nil))))) (ci (show(AVle (.agg [Q382,Q382,Id,Z49,Q379]) Q384) from(AVle.agg (.cons Dv (.cons Dv (.cons (AVle.refl _) (.cons (AVle.refl _) (.cons (AVle.refl _) .nil))))))) (c1 (Bd 5 Av (default:Aj) Ba)))))))))))))))))))) ?_;obtain⟨x2,hx2,h⟩:=bind_some h;refine gB h (fun hs3 h=>?_) (fun hs3 h=>?_)
  ·refine gR hq [1,5,6,7] [6,50,60050000,60050001] [] [⟨[],[(20000,50),(21000,60050000),(21001,60050001)],(.tuple [(bif true then((.ptr 20000 0):AV) else .nilp),(Bi x2.2)]),(bif true then(Q377 x2) else[]),[],[]⟩] (c1 (show(Spec Tryz.prog 13 [Z54] [] (.tuple [(bif true then((.ptr 20000 0):AV) else .nilp),(Bi x2.2)]) (bif true then(Q377 x2) else[])) from(eqB (fun b_:Bool=>Spec Tryz.prog 13 [Z54] [] (.tuple [(bif b_ then((.ptr 20000 0):AV) else .nilp),(Bi x2.2)]) (bif b_ then(Q377 x2) else[])) hs3 (Spec.args (.cons Ms .nil) (Nl ([]:List Int) x2 hx2))))) ?_;refine Af hq [1,5,6,7,54] [6,50,60050000,60050001] ?_;refine Sr false ?_;refine Af hq [1,5,6,7,9] [6,50,60050000,60050001] ?_;obtain⟨x4,hx4,h⟩:=bind_some h;obtain⟨hc5,h⟩:=Aa h;refine gR hq [1,5,6,7,9,10,11] [6,10,50,60050000,60050001] [(63,(AV.list 1 Bg 0 (Q378 aK) .exact))] [⟨[(50,30000),(60050001,37001),(60050000,35000)],[],(.tuple [(Z61 x4.1),(Bi x4.2.1)]),(Z12 x4.2.2.2.length x4.2.2.1 x4.2.2.1.length x4.2.2.2),[],[]⟩] (ci (Bd 1 Bg (0:Int) (Q378 aK)) (c1 (Jb (⟨([(16:Int)]:List Int),(16:Int),Ba⟩:Ae) (Q378 aK) (Q383 aK) x2.1.2.bytes x2.1.2.trace x4 hx4))) ?_;obtain⟨hc6,h⟩:=Aa h;refine gR hq [5,6,7,9,10,11,12] [6,10,50,60050000,60050001] [] [] (c1 hc6) ?_;obtain⟨x7,hx7,h⟩:=bind_some h;obtain⟨hc8,h⟩:=Aa h;refine gR hq [5,9,10,11,12,13,14] [10,13] [(80,(AV.list 1 Bg 0 (Q378 aK) .exact))] [⟨[(50,30000),(60050001,37001),(60050000,35000)],[],(.tuple [(Z61 x7.1),(Bi x7.2.1)]),(Z12 x7.2.2.2.length x7.2.2.1 x7.2.2.1.length x7.2.2.2),[],[]⟩] (ci (Bd 1 Bg (0:Int) (Q378 aK)) (c1 (Jb (⟨([(16:Int)]:List Int),(16:Int),Ba⟩:Ae) (Q378 aK) (Aq ((Aq ((Q383 aK)-1))-(Int.tmod (Aq a8) (Q383 aK)))) x4.2.2.2 x4.2.2.1 x7 hx7))) ?_;refine gR hq [4] [] [] [] (ci (gI (Wp x4)) (ci (gI (Wp x4)) (ci (gI (Wp x4)) (ci (gI (Wp x4)) (ci (show((Wp x4)=true→((2:Int)≠0)) from(fun hg=>(by decide))) (ci (gI (Wp x4)) (ci (gI (Wp x4)) (ci (gI (Wp x4)) (ci (gI (Wp x4)) (ci (gI (Wp x4)) (ci (Lh (x4.2.1==0)) (ci (gI ((Q376 x4 aK)==true)) (ci (Lh (Q376 x4 aK)) (ci (gI ((bif (Q376 x4 aK) then(x7.2.1==0) else false)==true)) (ci (gI ((bif (Q376 x4 aK) then(x7.2.1==0) else false)==true)) (ci (gI ((bif (Q376 x4 aK) then(x7.2.1==0) else false)==true)) (c1 (Lh (bif (Q376 x4 aK) then(x7.2.1==0) else false))))))))))))))))))) ?_;cases h;exact Bk []
  ·refine gR hq [1,5,6,7] [6] [] [⟨[],[],(.tuple [(bif false then((.ptr 20000 0):AV) else .nilp),(Bi x2.2)]),(bif false then(Q377 x2) else[]),[],[]⟩] (c1 (show(Spec Tryz.prog 13 [Z54] [] (.tuple [(bif false then((.ptr 20000 0):AV) else .nilp),(Bi x2.2)]) (bif false then(Q377 x2) else[])) from(eqB (fun b_:Bool=>Spec Tryz.prog 13 [Z54] [] (.tuple [(bif b_ then((.ptr 20000 0):AV) else .nilp),(Bi x2.2)]) (bif b_ then(Q377 x2) else[])) hs3 (Spec.args (.cons Ms .nil) (Nl ([]:List Int) x2 hx2))))) ?_;refine Af hq [1,5,6,7,54] [6] ?_;refine Sr true ?_;refine Af hq [4] [] ?_;obtain rfl:=OI h;exact Bk []
theorem Jv{n:Int}(h:-9223372036854775808≤n)(h':n<9223372036854775808):Aq n=n:=by
 show IntKind.i64.wrap n=n
 simp only[IntKind.wrap,IntKind.bits,IntKind.signed]
 simp
 split<;>omega
theorem U1{n:Int}(h:0≤n)(h':n<18446744073709551616):Cw n=n:=by
 show IntKind.u64.wrap n=n
 simp[IntKind.wrap,IntKind.bits,IntKind.signed];omega
theorem wu64_mod(n:Int):Cw n=n % 18446744073709551616:=by
 show IntKind.u64.wrap n=_
 simp[IntKind.wrap,IntKind.bits,IntKind.signed]
theorem A2{R:Type}{p:Prop}[Decidable p]{k:Option R}(h:p):Aw p k=k:=if_pos h
theorem scopeO_self{S X:Type}(f:S→Option (LR S X))(s:S):K2 (f s) f=Az f s:=by
 unfold K2
 cases h:f s with
 | none=>rw[Option.bind_none,Rt h]
 | some y=>cases y with
  | next s'=>rw[F1 h];rfl
  | done x=>rw[Dw h];rfl
theorem Lu{α:Type}(l:List α)(i:Nat)(d:α)(h:i<l.length):l.getD i d=l[i]:=by simp[List.getD,h]
theorem Ma{α:Type}{l:List α}{i:Nat}{d:α}(h:i<l.length):l.getD i d∈l:=by rw[Lu _ _ _ h];exact List.getElem_mem h
theorem Ee{i n:Nat}(h:i<n):A5 (i:Int) n:=⟨by omega,by exact_mod_cast h⟩
theorem loop_seq{S X:Type}(f:S→Option (LR S X))(T:Nat→S)(x:X):∀(n:Nat),(∀ i,i<n→f (T i)=some (.next (T (i+1))))→f (T n)=some (.done x)→Az f (T 0)=some x:=by
 suffices h:∀(k i n:Nat),i+k=n→(∀ j,i≤j→j<n→f (T j)=some (.next (T (j+1))))→f (T n)=some (.done x)→Az f (T i)=some x from
  fun n h1 h2=>h n 0 n (by omega) (fun j _ hj=>h1 j hj) h2
 intro k
 induction k with
 | zero=>
  intro i n hi _ h2
  have hin:n=i:=by omega
  subst hin;exact Dw h2
 | succ k ih=>intro i n hi h1 h2;rw[F1 (h1 i (Nat.le_refl _) (by omega))];exact ih (i+1) n (by omega) (fun j hj hj'=>h1 j (by omega) hj') h2
theorem W0{S X:Type}(f:S→Option (LR S X))(T:Nat→S):∀(n:Nat),(∀ i,i<n→f (T i)=some (.next (T (i+1))))→Az f (T 0)=Az f (T n):=by
 intro n
 induction n with
 | zero=>intro _;rfl
 | succ n ih=>intro h;rw[ih (fun i hi=>h i (by omega)),F1 (h n (by omega))]
theorem loop_find{S X:Type}(f:S→Option (LR S X))(T:Nat→S)(p:Nat→Bool)(yes no:X)(n:Nat)(hn:∀ i,i<n→p i=true→f (T i)=some (.next (T (i+1))))(hf:∀ i,i<n→p i=false→f (T i)=some (.done no))
  (he:f (T n)=some (.done yes)):Az f (T 0)=some (bif (List.range n).all p then yes else no):=by
 cases hall:(List.range n).all p with
 | true=>
  rw[cond_true];exact loop_seq f T yes n (fun i hi=>hn i hi (List.all_eq_true.1 hall i (List.mem_range.2 hi))) he
 | false=>
  rw[cond_false]
  have hex:∃ i,i<n∧p i=false:=by
   have:¬ ∀ i∈List.range n,p i=true:=fun h=>by rw[List.all_eq_true.2 h]at hall;cases hall
   simpa using this
  let P:Nat→Prop:=fun m=>m<n∧p m=false
  obtain⟨m,hm⟩:=hex
  have key:∀ m,m<n→p m=false→∃ k,k<n∧p k=false∧∀ j,j<k→p j=true:=by
   intro m
   induction m using Nat.strongRecOn with
   | ind m ih=>
    intro h1 h2
    by_cases h:∃ j,j<m∧p j=false
    ·obtain⟨j,hj,hpj⟩:=h;exact ih j hj (by omega) hpj
    ·refine⟨m,h1,h2,fun j hj=>?_⟩
     cases hpj:p j with
     | true=>rfl
     | false=>exact(h ⟨j,hj,hpj⟩).elim
  obtain⟨k,hk,hpk,hlt⟩:=key m hm.1 hm.2;rw[W0 f T k (fun i hi=>hn i (by omega) (hlt i hi))];exact Dw (hf k hk hpk)
theorem Fv(i:Nat):((i:Int)).toNat=i:=Int.toNat_natCast i
theorem w1{i:Nat}(h:i<4611686018427387904):Aq ((i:Int)+1)=((i+1:Nat):Int):=by rw[Jv (by omega) (by omega)];omega
theorem Xt{i n:Nat}(h:i<n):decide (((i:Nat):Int)<((n:Nat):Int))=true:=by simpa using h
theorem dlt_f{n:Nat}:decide (((n:Nat):Int)<((n:Nat):Int))=false:=by simp
theorem inb{i n:Nat}(h:i<n):A5 ((i:Nat):Int) n:=Ee h
def wdM(w:Int):Prop:=w=1∨w=8∨w=16∨w=32∨w=64
def u64(x:Int):Prop:=0≤x∧x<18446744073709551616
theorem Tg(x:Int):u64 (Cw x):=by rw[wu64_mod];unfold u64;omega
theorem wd_pow{w:Int}(h:wdM w):(0:Int)<2 ^ w.toNat∧(2:Int) ^ w.toNat≤18446744073709551616:=by rcases h with rfl|rfl|rfl|rfl|rfl<;>decide
theorem Zh{w:Int}(h:wdM w)(x:Int):0≤x % 2 ^ w.toNat∧x % 2 ^ w.toNat<2 ^ w.toNat:=by
 have:=(wd_pow h).1;exact⟨Int.emod_nonneg _ (by omega),Int.emod_lt_of_pos _ this⟩
theorem u64_of{w x:Int}(h:wdM w)(h0:0≤x)(h1:x<2 ^ w.toNat):u64 x:=⟨h0,Int.lt_of_lt_of_le h1 (wd_pow h).2⟩
theorem shsh{v:Int}{a:Nat}{p q:Int}(hp:(2:Int) ^ min ((a:Int).toNat) 64=p)(hq:∀ v:Int,v*p % 18446744073709551616 / p=v % q)(h0:0≤p):H9 .u64 (Np .u64 v (a:Int)) (a:Int)=v % q:=by
 have e1:Np .u64 v (a:Int)=v*p % 18446744073709551616:=by
  show IntKind.u64.wrap (v*2 ^ min ((a:Int).toNat) 64)=_
  rw[hp];exact wu64_mod _
 have e2:∀ x:Int,H9 .u64 x (a:Int)=x.fdiv p:=fun x=>by
  show x.fdiv (2 ^ min ((a:Int).toNat) 64)=_
  rw[hp]
 rw[e1,e2,Int.fdiv_eq_ediv_of_nonneg _ h0,hq]
theorem c_May{w:Int}(h:wdM w):Cg w=some true:=by rcases h with rfl|rfl|rfl|rfl|rfl<;>rfl
theorem Lg{v w:Int}(hw:wdM w)(h:u64 v):Ca v w=some (v % 2 ^ w.toNat):=by
 rcases hw with rfl|rfl|rfl|rfl|rfl
 ·rw[show Ca v 1=some (H9 .u64 (Np .u64 v ((63:Nat):Int)) ((63:Nat):Int)) by kernel_rfl,shsh (p:=9223372036854775808) (q:=2) (by decide) (fun v=>by omega) (by decide)];rfl
 ·rw[show Ca v 8=some (H9 .u64 (Np .u64 v ((56:Nat):Int)) ((56:Nat):Int)) by kernel_rfl,shsh (p:=72057594037927936) (q:=256) (by decide) (fun v=>by omega) (by decide)];rfl
 ·rw[show Ca v 16=some (H9 .u64 (Np .u64 v ((48:Nat):Int)) ((48:Nat):Int)) by kernel_rfl,shsh (p:=281474976710656) (q:=65536) (by decide) (fun v=>by omega) (by decide)];rfl
 ·rw[show Ca v 32=some (H9 .u64 (Np .u64 v ((32:Nat):Int)) ((32:Nat):Int)) by kernel_rfl,shsh (p:=4294967296) (q:=4294967296) (by decide) (fun v=>by omega) (by decide)];rfl
 ·rw[show Ca v 64=some (H9 .u64 (Np .u64 v ((0:Nat):Int)) ((0:Nat):Int)) by kernel_rfl,shsh (p:=1) (q:=18446744073709551616) (by decide) (fun v=>by omega) (by decide)];rfl
theorem Vc{op:BinOp}{x y:Int}:u64 (Ft op .u64 x y):=by
 unfold Ft
 split<;>first|exact Tg _|exact⟨Int.le_refl _,by decide⟩
theorem shl_u64{x y:Int}:u64 (Np .u64 x y):=Tg _
theorem shr_u64{x y:Int}(h:u64 x):u64 (H9 .u64 x y):=by
 unfold H9;have h2:(0:Int)<2 ^ min y.toNat IntKind.u64.bits:=Int.pow_pos (by decide);rw[Int.fdiv_eq_ediv_of_nonneg _ (Int.le_of_lt h2)];exact⟨Int.ediv_nonneg h.1 (Int.le_of_lt h2),Int.lt_of_le_of_lt (Int.ediv_le_self _ h.1) h.2⟩
theorem Tf(b:Bool):∃ z,Dq b=some z∧u64 z:=by cases b<;>exact⟨_,rfl,by unfold u64;decide⟩
theorem Z0{v w:Int}(hw:wdM w):∃ z,G3 v w=some z:=by
 rcases hw with rfl|rfl|rfl|rfl|rfl
 ·exact⟨H9 .i64 (Aq (Np .u64 v 63)) 63,by kernel_rfl⟩
 ·exact⟨H9 .i64 (Aq (Np .u64 v 56)) 56,by kernel_rfl⟩
 ·exact⟨H9 .i64 (Aq (Np .u64 v 48)) 48,by kernel_rfl⟩
 ·exact⟨H9 .i64 (Aq (Np .u64 v 32)) 32,by kernel_rfl⟩
 ·exact⟨H9 .i64 (Aq (Np .u64 v 0)) 0,by kernel_rfl⟩
theorem c_apply{k w x y:Int}(hk:1≤k∧k≤12)(hw:wdM w)(hx:u64 x)(hy:u64 y)(h4:k=4→y≠0):∃ z,Cc k w x y=some z∧u64 z:=by
 obtain⟨k1,k2⟩:=hk
 have hc:k=1∨k=2∨k=3∨k=4∨k=5∨k=6∨k=7∨k=8∨k=9∨k=10∨k=11∨k=12:=by omega
 rcases hc with rfl|rfl|rfl|rfl|rfl|rfl|rfl|rfl|rfl|rfl|rfl|rfl
 ·exact⟨Cw (x+y),by kernel_rfl,Tg _⟩
 ·exact⟨Cw (x-y),by kernel_rfl,Tg _⟩
 ·exact⟨Cw (x*y),by kernel_rfl,Tg _⟩
 ·refine⟨Cw (Int.tdiv x y),?_,Tg _⟩;rw[show Cc 4 w x y=(Gf x y).bind fun x2=>some x2 by kernel_rfl];unfold Gf;rw[Uv (h4 rfl)];rfl
 ·exact⟨Ft .and .u64 x y,by kernel_rfl,Vc⟩
 ·exact⟨Ft .or .u64 x y,by kernel_rfl,Vc⟩
 ·exact⟨Ft .xor .u64 x y,by kernel_rfl,Vc⟩
 ·rw[show Cc 8 w x y=(Gg x y w).bind fun x2=>some x2.1 by kernel_rfl];unfold Gg;rw[Uv hy.1]
  cases decide (Cw w≤y)
  ·exact⟨_,rfl,shl_u64⟩
  ·exact⟨_,rfl,show u64 0 from⟨Int.le_refl _,by decide⟩⟩
 ·rw[show Cc 9 w x y=(Gh x y w).bind fun x2=>some x2.1 by kernel_rfl];unfold Gh;rw[Uv hy.1]
  cases decide (Cw w≤y)
  ·exact⟨_,rfl,shr_u64 hx⟩
  ·exact⟨_,rfl,show u64 0 from⟨Int.le_refl _,by decide⟩⟩
 ·rw[show Cc 10 w x y=((Dq ((x:Int)==y)).bind fun x1=>some x1).bind fun x2=>some x2 by kernel_rfl];obtain⟨z,h1,h2⟩:=Tf ((x:Int)==y);rw[h1];exact⟨z,rfl,h2⟩
 ·rw[show Cc 11 w x y=((Dq (decide (x<y))).bind fun x1=>some x1).bind fun x2=>some x2 by kernel_rfl];obtain⟨z,h1,h2⟩:=Tf (decide (x<y));rw[h1];exact⟨z,rfl,h2⟩
 ·rw[show Cc 12 w x y=(Fh x y w).bind fun x2=>some x2.1 by kernel_rfl];unfold Fh;obtain⟨p,hp⟩:=Z0 (v:=x) hw;obtain⟨q,hq⟩:=Z0 (v:=y) hw;rw[hp,hq];obtain⟨z,h1,h2⟩:=Tf (decide (p<q));simp only[Option.bind_some,h1];exact⟨z,rfl,h2⟩
theorem c_Two{k w:Int}(hk:1≤k∧k≤12)(hw:wdM w):Kn k w=some true:=by
 unfold Kn;rw[decide_eq_true hk.1,decide_eq_true hk.2,c_May hw]
 rfl
theorem c_Do{k w a b:Int}(hk:1≤k∧k≤12)(hw:wdM w)(ha:u64 a)(hb:u64 b) :
  ∃ v e,Fm k w a b=some (v,e)∧0≤v∧v<2 ^ w.toNat∧(e=0∧(k=4→b % 2 ^ w.toNat≠0)∨e=8∧v=0∧k=4∧b % 2 ^ w.toNat=0):=by
 unfold Fm;rw[c_Two hk hw,Lg hw ha,Lg hw hb];simp only[Option.bind_some,Bool.not_true,cond_false];have hp:=(wd_pow hw).1;obtain⟨x0,x1⟩:=Zh hw a;obtain⟨y0,y1⟩:=Zh hw b
 by_cases h4:k=4∧b % 2 ^ w.toNat=0
 ·rw[h4.1,h4.2];exact⟨0,8,rfl,Int.le_refl _,hp,.inr ⟨rfl,rfl,rfl,rfl⟩⟩
 ·have hg:(bif ((k:Int)==(4:Int)) then((b % 2 ^ w.toNat:Int)==(0:Int)) else false)=false:=by
   cases hk4:((k:Int)==(4:Int)) with
   | false=>rfl
   | true=>
    rw[cond_true,beq_eq_false_iff_ne];exact fun h=>h4 ⟨by simpa using hk4,h⟩
  rw[hg,cond_false];obtain⟨z,h1,h2⟩:=c_apply hk hw (u64_of hw x0 x1) (u64_of hw y0 y1) (fun h h'=>h4 ⟨h,h'⟩);rw[h1,Option.bind_some,Lg hw h2];obtain⟨z0,z1⟩:=Zh hw z;exact⟨_,0,rfl,z0,z1,.inl ⟨rfl,fun h h'=>h4 ⟨h,h'⟩⟩⟩
abbrev Vs:=List (List Int)
abbrev OR:=List Int×Int×Int×Int×List Ab×Vs×List Int
def Hn(x:List Int×Int)(V:Vs)(F S:Int)(B:List Int)(T:List Ab):OR:=(x.1,x.2,F,S,T,V,B)
def memR(V:Vs)(B:List Int)(x:OR):Option OR:=Aw (V.length=x.2.2.2.2.2.1.length) (Aw (B.length=x.2.2.2.2.2.2.length) (some x))
def opM(o:Cs)(V:Vs)(F S:Int)(B:List Int)(T:List Ab):Option OR:=
 bif decide (o.Kind=0) then(Ff o).bind fun x=>some (Hn x V F S B T) else
 bif decide (o.Kind=13) then(D3 o V F S B T).bind fun x=>some (Hn x V F S B T) else
 bif decide (o.Kind=14) then(C5 o V F S B T).bind fun x=>some (Hn x V F S B T) else
 bif decide (o.Kind=15) then(Cq o V F S B T).bind fun x=>some (Hn x V F S B T) else
 bif decide (o.Kind=16) then(Di o V F S B T).bind (memR V B) else
 bif decide (o.Kind=17) then(Db o V F S B T).bind (memR V B) else
 bif decide (o.Kind=18) then(C4 o V F S B T).bind (memR V B) else
 bif decide (o.Kind=19) then(Co o V F S B T).bind (memR V B) else
 bif decide (o.Kind=20) then(Cp o 4 V F S B T).bind fun x=>some (Hn x V F S B T) else
 bif decide (o.Kind=21) then(En o V F S B T).bind fun x=>some (Hn x V F S B T) else
 bif decide (o.Kind=22) then(E8 o V F S B T).bind fun x=>some (Hn x V F S B T) else
 bif decide (o.Kind=1) then(Ai o 1 V F S B T).bind fun x=>some (Hn x V F S B T) else
 bif decide (o.Kind=2) then(Ai o 2 V F S B T).bind fun x=>some (Hn x V F S B T) else
 bif decide (o.Kind=3) then(Ai o 3 V F S B T).bind fun x=>some (Hn x V F S B T) else
 bif decide (o.Kind=4) then(Ai o 4 V F S B T).bind fun x=>some (Hn x V F S B T) else
 bif decide (o.Kind=5) then(Ai o 5 V F S B T).bind fun x=>some (Hn x V F S B T) else
 bif decide (o.Kind=6) then(Ai o 6 V F S B T).bind fun x=>some (Hn x V F S B T) else
 bif decide (o.Kind=7) then(Ai o 7 V F S B T).bind fun x=>some (Hn x V F S B T) else
 bif decide (o.Kind=8) then(Ai o 8 V F S B T).bind fun x=>some (Hn x V F S B T) else
 bif decide (o.Kind=9) then(Ai o 9 V F S B T).bind fun x=>some (Hn x V F S B T) else
 bif decide (o.Kind=10) then(Ai o 10 V F S B T).bind fun x=>some (Hn x V F S B T) else
 bif decide (o.Kind=11) then(Ai o 11 V F S B T).bind fun x=>some (Hn x V F S B T) else
 bif decide (o.Kind=12) then(Ai o 12 V F S B T).bind fun x=>some (Hn x V F S B T) else none
abbrev DR:=Int×Int×Int×List Ab×Vs×List Int
def doG:List Cs→Vs→Int→Int→List Int→List Ab→Option DR
 | [],V,F,S,B,T=>some (0,F,S,T,V,B)
 | o::l,V,F,S,B,T=>
  bif S==F then some (9,F,S,T,V,B) else
  (opM o V F (Aq (S+1)) B T).bind fun x=>
   bif x.2.1 !=0 then some (x.2.1,x.2.2.1,x.2.2.2.1,x.2.2.2.2.1,x.2.2.2.2.2.1,x.2.2.2.2.2.2)
   else Aw (A5 o.Dst x.2.2.2.2.2.1.length) (doG l (x.2.2.2.2.2.1.set o.Dst.toNat x.1) x.2.2.1 x.2.2.2.1 x.2.2.2.2.2.2 x.2.2.2.2.1)
theorem chk_T{R:Type}[Decidable True]{k:Option R}:Aw True k=k:=if_pos trivial
theorem doL{ops:List Cs}{i:Nat}(hi:i<ops.length)(hn:ops.length<4611686018427387904)(F S:Int)(T:List Ab)(V:Vs)(B:List Int) :
  B6 ops ((i:Int),F,S,T,V,B)=bif S==F then some (.done (.inr (9,F,S,T,V,B))) else
   (opM (ops.getD i default) V F (Aq (S+1)) B T).bind fun x=>
    bif x.2.1 !=0 then some (.done (.inr (x.2.1,x.2.2.1,x.2.2.2.1,x.2.2.2.2.1,x.2.2.2.2.2.1,x.2.2.2.2.2.2)))
    else Aw (A5 (ops.getD i default).Dst x.2.2.2.2.2.1.length) (some (.next (((i+1:Nat):Int),x.2.2.1,x.2.2.2.1,x.2.2.2.2.1,x.2.2.2.2.2.1.set (ops.getD i default).Dst.toNat x.1,x.2.2.2.2.2.2))):=by
 unfold B6 Cf
 cases hSF:((S:Int)==F) with
 | true=>simp only[hSF,Xt hi,cond_true,Option.bind_some,chk_T,Bool.not_false]
 | false=>
  simp only[hSF,Xt hi,cond_true,cond_false,Option.bind_some,Bool.not_true,A2 (Ee hi),Fv,w1 (Nat.lt_of_lt_of_le hi (Nat.le_of_lt hn))]
  rfl
theorem doAll_go{ops:List Cs}(hn:ops.length<4611686018427387904):∀(k i:Nat) (V:Vs) (F S:Int) (B:List Int) (T:List Ab),i+k=ops.length→
  ((Az (B6 ops) ((i:Int),F,S,T,V,B)).bind fun x=>match x with | .inl y=>some ((0:Int),y) | .inr r=>some r)=doG (ops.drop i) V F S B T
 | 0,i,V,F,S,B,T,h=>by
  obtain rfl:i=ops.length:=by omega
  rw[List.drop_length,Dw (x:=.inl (F,S,T,V,B)) (by unfold B6;simp only[dlt_f,cond_false])]
  rfl
 | k+1,i,V,F,S,B,T,h=>by
  have hi:i<ops.length:=by omega
  have hd:ops.drop i=ops.getD i default::ops.drop (i+1):=by rw[List.drop_eq_getElem_cons hi,Lu _ _ _ hi]
  rw[hd,doG];have hs:=doL hi hn F S T V B
  cases hSF:((S:Int)==F) with
  | true=>
   rw[hSF,cond_true]at hs;rw[Dw hs,cond_true];rfl
  | false=>
   rw[hSF,cond_false]at hs;rw[cond_false]
   cases ho:opM (ops.getD i default) V F (Aq (S+1)) B T with
   | none=>rw[ho]at hs;rw[Rt hs];rfl
   | some x=>
    rw[ho]at hs;simp only[Option.bind_some]at hs ⊢
    cases he:((x.2.1:Int)!=0) with
    | true=>rw[he,cond_true]at hs;rw[Dw hs,cond_true];rfl
    | false=>
     rw[he,cond_false]at hs;rw[cond_false]
     by_cases hc:A5 (ops.getD i default).Dst x.2.2.2.2.2.1.length
     ·rw[A2 hc]at hs ⊢;rw[F1 hs,doAll_go hn k (i+1) _ _ _ _ _ (by omega)]
     ·rw[Aw,if_neg hc]at hs ⊢;rw[Rt hs];rfl
theorem doAll_eq{ops:List Cs}(hn:ops.length<4611686018427387904)(V:Vs)(F S:Int)(B:List Int)(T:List Ab):Ck ops V F S B T=doG ops V F S B T:=by
 have:=doAll_go hn ops.length 0 V F S B T (by omega);rw[List.drop_zero]at this;rw[← this];unfold Ck
 congr 1
 funext x
 rcases x with⟨a,b,c,d,e⟩|r<;>rfl
abbrev RR:=Ic×Int×Int×List Ab×Vs×List Int
abbrev ST:=Int×Int×Int×List Ab×Vs×List Int
def blG(bs:List Aj)(at_:Int)(V:Vs)(F S:Int)(B:List Int)(T:List Ab):Option (LR ST RR):=
 Aw (A5 at_ bs.length) ((doG (bs.getD at_.toNat default).Ops V F S B T).bind fun x=>
  Aw (V.length=x.2.2.2.2.1.length) (Aw (B.length=x.2.2.2.2.2.length) (
  bif x.1 !=0 then some (.done (⟨x.1,0,x.2.2.1⟩,x.2.1,x.2.2.1,x.2.2.2.1,x.2.2.2.2.1,x.2.2.2.2.2))
  else bif x.2.2.1==x.2.1 then some (.done (⟨9,0,x.2.2.1⟩,x.2.1,x.2.2.1,x.2.2.2.1,x.2.2.2.2.1,x.2.2.2.2.2))
  else bif (bs.getD at_.toNat default).End.Kind==0 then
   (Ay (bs.getD at_.toNat default).End.Arg x.2.2.2.2.1 x.2.1 (Aq (x.2.2.1+1)) x.2.2.2.2.2 x.2.2.2.1).bind fun v=>
    some (.done (⟨0,v,Aq (x.2.2.1+1)⟩,x.2.1,Aq (x.2.2.1+1),x.2.2.2.1,x.2.2.2.2.1,x.2.2.2.2.2))
  else bif (bs.getD at_.toNat default).End.Kind==3 then some (.done (⟨8,0,Aq (x.2.2.1+1)⟩,x.2.1,Aq (x.2.2.1+1),x.2.2.2.1,x.2.2.2.2.1,x.2.2.2.2.2))
  else(C1 (bs.getD at_.toNat default).End x.2.2.2.2.1 x.2.1 (Aq (x.2.2.1+1)) x.2.2.2.2.2 x.2.2.2.1).bind fun to=>
   Aw (A5 to bs.length) ((Cv (bs.getD to.toNat default).Phis at_ x.2.2.2.2.1 x.2.1 (Aq (x.2.2.1+1)) x.2.2.2.2.2 x.2.2.2.1).bind fun y=>
    Aw (x.2.2.2.2.1.length=y.2.2.2.1.length) (Aw (x.2.2.2.2.2.length=y.2.2.2.2.length) (some (.next (to,y.1,y.2.1,y.2.2.1,y.2.2.2.1,y.2.2.2.2))))))))
theorem Wh{bs:List Aj}(hb:∀ b∈bs,b.Ops.length<4611686018427387904)(at_ F S:Int)(T:List Ab)(V:Vs)(B:List Int):A0 bs (at_,F,S,T,V,B)=blG bs at_ V F S B T:=by
 unfold A0 blG
 by_cases hi:A5 at_ bs.length
 ·have hm:(bs.getD at_.toNat default)∈bs:=Ma (by have:=hi.1;have:=hi.2;omega);simp only[A2 hi,doAll_eq (hb _ hm)]
  congr 1
  funext x
  congr 2
  cases(x.1 !=0)
  ·unfold Cf
   cases(x.2.2.1==x.2.1)
   ·simp only[cond_false,Option.bind_some,Bool.not_true]
    rfl
   ·simp only[cond_false,cond_true,Option.bind_some,Bool.not_false]
    rfl
  ·rfl
 ·simp only[Aw,if_neg hi]
theorem run_eq{bs:List Aj}(V:Vs)(F S:Int)(B:List Int)(T:List Ab):Dz bs V F S B T=Az (A0 bs) (0,F,S,T,V,B):=by
 have e:Dz bs V F S B T=(K2 (A0 bs (0,F,S,T,V,B)) (A0 bs)).bind some:=rfl;rw[e,scopeO_self]
 cases Az (A0 bs) (0,F,S,T,V,B)<;>rfl
def okBy(B:List Int):Prop:=∀ x∈B,0≤x∧x<256
structure Slot(V:Vs)(v:Int)(l:List Int):Prop where
 lo:0≤v
 hi:v<V.length
 is:V.getD v.toNat []=l
theorem Slot.inb{V:Vs}{v:Int}{l:List Int}(h:Slot V v l):A5 v V.length:=⟨h.lo,h.hi⟩
def Arg(o:Cs)(i:Nat)(v:Int):Prop:=i<o.Args.length∧o.Args.getD i 0=v
theorem Arg.inb{o:Cs}{i:Nat}{v:Int}(h:Arg o i v):A5 (i:Int) o.Args.length:=Ee h.1
theorem Arg.g{o:Cs}{i:Nat}{v:Int}(h:Arg o i v):o.Args.getD ((i:Nat):Int).toNat 0=v:=by rw[Fv];exact h.2
section
variable {o:Cs} {V:Vs} {F S:Int} {B:List Int} {T:List Ab}
theorem dk_t{a:Int}(h:o.Kind=a):decide (o.Kind=a)=true:=decide_eq_true h
theorem rep_n{x n:Int}(h:1≤n∧n≤16):Ag [x] n=some (List.replicate n.toNat x):=by
 obtain⟨h1,h2⟩:=h
 have hc:n=1∨n=2∨n=3∨n=4∨n=5∨n=6∨n=7∨n=8∨n=9∨n=10∨n=11∨n=12∨n=13∨n=14∨n=15∨n=16:=by omega
 rcases hc with rfl|rfl|rfl|rfl|rfl|rfl|rfl|rfl|rfl|rfl|rfl|rfl|rfl|rfl|rfl|rfl
 ·exact(show Ag [x] 1=some (List.replicate (Int.toNat 1) x) by kernel_rfl)
 ·exact(show Ag [x] 2=some (List.replicate (Int.toNat 2) x) by kernel_rfl)
 ·exact(show Ag [x] 3=some (List.replicate (Int.toNat 3) x) by kernel_rfl)
 ·exact(show Ag [x] 4=some (List.replicate (Int.toNat 4) x) by kernel_rfl)
 ·exact(show Ag [x] 5=some (List.replicate (Int.toNat 5) x) by kernel_rfl)
 ·exact(show Ag [x] 6=some (List.replicate (Int.toNat 6) x) by kernel_rfl)
 ·exact(show Ag [x] 7=some (List.replicate (Int.toNat 7) x) by kernel_rfl)
 ·exact(show Ag [x] 8=some (List.replicate (Int.toNat 8) x) by kernel_rfl)
 ·exact(show Ag [x] 9=some (List.replicate (Int.toNat 9) x) by kernel_rfl)
 ·exact(show Ag [x] 10=some (List.replicate (Int.toNat 10) x) by kernel_rfl)
 ·exact(show Ag [x] 11=some (List.replicate (Int.toNat 11) x) by kernel_rfl)
 ·exact(show Ag [x] 12=some (List.replicate (Int.toNat 12) x) by kernel_rfl)
 ·exact(show Ag [x] 13=some (List.replicate (Int.toNat 13) x) by kernel_rfl)
 ·exact(show Ag [x] 14=some (List.replicate (Int.toNat 14) x) by kernel_rfl)
 ·exact(show Ag [x] 15=some (List.replicate (Int.toNat 15) x) by kernel_rfl)
 ·exact(show Ag [x] 16=some (List.replicate (Int.toNat 16) x) by kernel_rfl)
theorem op_const(hk:o.Kind=0)(hl:1≤o.Lanes∧o.Lanes≤16):opM o V F S B T=some (List.replicate o.Lanes.toNat o.Imm,0,F,S,T,V,B):=by
 unfold opM;rw[dk_t hk,cond_true];unfold Ff D0;simp only[Option.bind_some,rep_n hl]
 rfl
structure MemOk(B:List Int)(T:List Ab):Prop where
 by_:okBy B
 len:B.length<4611686018427387904
 room:T.length+128≤room
def Ux(k w a b:Int):Int×Int:=(Fm k w a b).getD (0,1)
def twoR(k w:Int)(A C:List Int):List Int×Int:=
 bif (List.range A.length).all (fun i=>(Ux k w (A.getD i 0) (C.getD i 0)).2==0) then((List.range A.length).map (fun i=>(Ux k w (A.getD i 0) (C.getD i 0)).1),0) else([],8)
theorem set_fill{f:Nat→Int}{n i:Nat}(h:i<n):((List.range i).map f++List.replicate (n-i) (0:Int)).set i (f i)=(List.range (i+1)).map f++List.replicate (n-(i+1)) 0:=by
 obtain⟨m,hm⟩:∃ m,n-i=m+1:=⟨n-i-1,by omega⟩
 have hm':n-(i+1)=m:=by omega
 rw[hm,hm',List.replicate_succ,List.set_append_right _ _ (by simp),List.range_succ,List.map_append,List.append_assoc]
 simp
theorem c_two {p q : Int} {A C : List Int} {k : Int} (hk : 1 ≤ k ∧ k ≤ 12) (hw : wdM o.Bits) (h0 : Arg o 0 p) (h1 : Arg o 1 q) (s0 : Slot V p A) (s1 : Slot V q C) (hl : C.length = A.length) (hr : A.length ≤ 64)
    (hA : ∀ x ∈ A, u64 x) (hC : ∀ x ∈ C, u64 x) : Ai o k V F S B T = some (twoR k o.Bits A C) := by
  have e0 := h0.g; have i0 := h0.inb; have e1 := h1.g; have i1 := h1.inb; simp only [Int.cast_ofNat_Int] at e0 i0 e1 i1; unfold Ai
  have hroom : ((A.length : Int)) ≤ (room : Int) := by have : (64 : Nat) ≤ room := by decide
                                                       omega
  rw [A2 i0, e0, A2 s0.inb, A2 i1, e1, A2 s1.inb, s0.is, A2 ⟨by omega, by omega, hroom⟩]
  have hdo : ∀ i, i < A.length → ∃ v e, Fm k o.Bits (A.getD i 0) (C.getD i 0) = some (v, e) ∧ (e = 0 ∨ e = 8) := fun i hi => by
    obtain ⟨v, e, h1, _, _, h2⟩ := c_Do hk hw (hA _ (Ma hi)) (hC _ (Ma (i := i) (by omega))); exact ⟨v, e, h1, by rcases h2 with ⟨h, _⟩ | ⟨h, _⟩ <;> simp [h]⟩
  have hL := loop_find (Bs o k V) (fun i => ((i : Int), (List.range i).map (fun i => (Ux k o.Bits (A.getD i 0) (C.getD i 0)).1) ++ List.replicate (A.length - i) (0 : Int)))
    (fun i => (Ux k o.Bits (A.getD i 0) (C.getD i 0)).2 == 0) (.inl ((List.range A.length).map (fun i => (Ux k o.Bits (A.getD i 0) (C.getD i 0)).1))) (.inr ([], 8)) A.length
    (fun i hi hp => by
      obtain ⟨v, e, hd, he⟩ := hdo i hi
      have hD : Ux k o.Bits (A.getD i 0) (C.getD i 0) = (v, e) := by unfold Ux; rw [hd]; rfl
      rw [hD] at hp
      have he0 : e = 0 := by simpa using hp
      subst he0; unfold Bs; simp only [e0, e1, s0.is, s1.is, Fv, List.length_replicate, Xt hi, cond_true, A2 (Ee hi), A2 (Ee (show i < C.length by omega)), hd, Option.bind_some, w1 (show i < 4611686018427387904 by omega)]; rw [show ((0 : Int) != 0) = false from rfl, cond_false, A2 (Ee (by simp; omega))]; have := set_fill (f := fun i => (Ux k o.Bits (A.getD i 0) (C.getD i 0)).1) hi; simp only [hD] at this
      rw [this])
    (fun i hi hp => by
      obtain ⟨v, e, hd, he⟩ := hdo i hi
      have hD : Ux k o.Bits (A.getD i 0) (C.getD i 0) = (v, e) := by unfold Ux; rw [hd]; rfl
      rw [hD] at hp
      have he8 : e = 8 := by
        rcases he with rfl | rfl
        · simp at hp
        · rfl
      subst he8; unfold Bs; simp only [e0, e1, s0.is, s1.is, Fv, List.length_replicate, Xt hi, cond_true, A2 (Ee hi), A2 (Ee (show i < C.length by omega)), hd, Option.bind_some]
      rw [show ((8 : Int) != 0) = true from rfl, cond_true])
    (by
      unfold Bs
      simp only [e0, s0.is, Fv, List.length_replicate, dlt_f, cond_false, Nat.sub_self, List.replicate_zero, List.append_nil])
  simp only [List.range_zero, List.map_nil, List.nil_append, Nat.sub_zero] at hL; have hL' : Az (Bs o k V) ((0 : Int), List.replicate A.length (0 : Int)) = _ := hL; rw [Fv, hL']; unfold twoR
  cases (List.range A.length).all (fun i => (Ux k o.Bits (A.getD i 0) (C.getD i 0)).2 == 0) <;> rfl
theorem op_two{p q:Int}{A C:List Int}(hk:1≤o.Kind∧o.Kind≤12)(hw:wdM o.Bits)(h0:Arg o 0 p)(h1:Arg o 1 q)(s0:Slot V p A)(s1:Slot V q C)(hl:C.length=A.length)(hr:A.length≤64)
  (hA:∀ x∈A,u64 x) (hC:∀ x∈C,u64 x):opM o V F S B T=some (Hn (twoR o.Kind o.Bits A C) V F S B T):=by
 obtain⟨k1,k2⟩:=hk
 have hc:o.Kind=1∨o.Kind=2∨o.Kind=3∨o.Kind=4∨o.Kind=5∨o.Kind=6∨o.Kind=7∨o.Kind=8∨o.Kind=9∨o.Kind=10∨o.Kind=11∨o.Kind=12:=by omega
 have key:=fun k (hk:1≤k∧k≤12)=>c_two (F:=F) (S:=S) (B:=B) (T:=T) hk hw h0 h1 s0 s1 hl hr hA hC;unfold opM;rcases hc with h|h|h|h|h|h|h|h|h|h|h|h<;>rw[h] <;>
  simp only[Int.reduceEq,decide_false,decide_true,cond_false,cond_true]<;>rw[key _ (by decide)]<;>rfl
end
theorem room_is:room=1099511627776:=rfl
theorem m_New_ok{b:List Int}(h:b.length≤4096):J5 b=some ((true,⟨b,[]⟩),0):=by
 unfold J5 Cr;rw[decide_eq_false (by omega),cond_false,Uv (by rw[room_is];omega)]
 rfl
section
variable {o:Cs} {V:Vs} {F S:Int} {B:List Int} {T:List Ab}
def tailO(o:Cs):Cs:=⟨o.Kind,o.Bits,o.Lanes,o.Dst,o.Args.drop 1,o.Imm⟩
theorem Arg.tail{i:Nat}{v:Int}(h:Arg o (i+1) v):Arg (tailO o) i v:=by
 obtain⟨h1,h2⟩:=h;refine⟨by simp[tailO];omega,?_⟩;rw[← h2];simp[tailO,List.getD]
end
theorem c_deeds(V:Vs)(F S:Int)(B:List Int)(T:List Ab):De V F S B T=some ():=by kernel_rfl
def R8(ps ags:List Int)(i:Nat):List Int:=[ags.getD i 0 % 2 ^ (ps.getD i 0).toNat]
def O5(f:Ae)(ags:List Int)(n:Nat):Vs:=
 ((f.Blocks.getD 0 default).Phis).foldl (fun V p=>V.set p.Dst.toNat [0]) ([]::((List.range f.Params.length).map (R8 f.Params ags)++List.replicate (n-f.Params.length) []))
theorem set_arg{g:Nat→List Int}{n i:Nat}(h:i<n):(([]:List Int)::((List.range i).map g++List.replicate (n-i) [])).set (i+1) (g i)=[]::((List.range (i+1)).map g++List.replicate (n-(i+1)) []):=by
 obtain⟨m,hm⟩:∃ m,n-i=m+1:=⟨n-i-1,by omega⟩
 have hm':n-(i+1)=m:=by omega
 rw[hm,hm',List.replicate_succ,List.set_cons_succ,List.set_append_right _ _ (by simp),List.range_succ,List.map_append,List.append_assoc]
 simp
theorem Wx{l:List Fw}{V:Vs}:(l.foldl (fun V p=>V.set p.Dst.toNat [0]) V).length=V.length:=by
 induction l generalizing V with
 | nil=>rfl
 | cons p l ih=>rw[List.foldl_cons,ih,List.length_set]
theorem Vb{f:Ae}(hn:((f.Blocks.getD 0 default).Phis).length<4611686018427387904):∀(k i:Nat) (V:Vs),i+k=((f.Blocks.getD 0 default).Phis).length→(∀ p∈(f.Blocks.getD 0 default).Phis,A5 p.Dst V.length)→
  Az (B5 f) ((i:Int),V)=some ((((f.Blocks.getD 0 default).Phis).drop i).foldl (fun V p=>V.set p.Dst.toNat [0]) V)
 | 0,i,V,h,_=>by
  obtain rfl:i=((f.Blocks.getD 0 default).Phis).length:=by omega
  rw[List.drop_length];refine Dw ?_;unfold B5
  show(bif decide _ then _ else _)=_
  rw[show((0:Int)).toNat=0 from rfl,dlt_f,cond_false];rfl
 | k+1,i,V,h,hp=>by
  have hi:i<((f.Blocks.getD 0 default).Phis).length:=by omega
  have hd:((f.Blocks.getD 0 default).Phis).drop i=((f.Blocks.getD 0 default).Phis).getD i default::((f.Blocks.getD 0 default).Phis).drop (i+1):=by rw[List.drop_eq_getElem_cons hi,Lu _ _ _ hi]
  rw[hd,List.foldl_cons,← Vb hn k (i+1) _ (by omega) (fun p hpp=>by rw[List.length_set];exact hp p hpp)];refine F1 ?_;unfold B5;simp only[show((0:Int)).toNat=0 from rfl,Xt hi,cond_true,A2 (Ee hi),Fv,D0,Option.bind_some,A2 (hp _ (Ma hi)),w1 (show i<4611686018427387904 by omega)]
theorem c_begin{f:Ae}{ags:List Int}{n:Nat}(F S:Int)(B:List Int)(T:List Ab)(hl:ags.length=f.Params.length)(hw:∀ w∈f.Params,wdM w)(ha:∀ a∈ags,u64 a)(hn:f.Params.length≤n)(hn':n<4000000)(hb:0<f.Blocks.length)
  (hpl:((f.Blocks.getD 0 default).Phis).length<4611686018427387904) (hp:∀ p∈(f.Blocks.getD 0 default).Phis,A5 p.Dst (n+1)) :
  Da f ags (List.replicate (n+1) []) F S B T=some (F,S,T,O5 f ags n,B):=by
 have hL:=loop_seq (B4 f ags) (fun i=>((i:Int),([]:List Int)::((List.range i).map (R8 f.Params ags)++List.replicate (n-i) ([]:List Int)))) (([]:List Int)::((List.range f.Params.length).map (R8 f.Params ags)++List.replicate (n-f.Params.length) [])) f.Params.length
  (fun i hi=>by
   unfold B4;simp only[Xt hi,cond_true,A2 (Ee hi),A2 (Ee (show i<ags.length by omega)),Fv,Lg (hw _ (Ma hi)) (ha _ (Ma (show i<ags.length by omega))),D0,Option.bind_some,w1 (show i<4611686018427387904 by omega)];rw[A2 (Ee (by simp;omega))];have:=set_arg (g:=R8 f.Params ags) (show i<n by omega);unfold R8 at this ⊢
   rw[this])
  (by
   unfold B4
   simp only[dlt_f,cond_false])
 simp only[List.range_zero,List.map_nil,List.nil_append,Nat.sub_zero]at hL
 have hL':Az (B4 f ags) ((0:Int),List.replicate (n+1) ([]:List Int))=some (([]:List Int)::((List.range f.Params.length).map (R8 f.Params ags)++List.replicate (n-f.Params.length) [])):=by rw[List.replicate_succ];exact hL
 unfold Da;rw[hL',Option.bind_some,A2 (show A5 (0:Int) f.Blocks.length from⟨Int.le_refl _,by omega⟩)]
 have h2:=Vb hpl ((f.Blocks.getD 0 default).Phis).length 0 (([]:List Int)::((List.range f.Params.length).map (R8 f.Params ags)++List.replicate (n-f.Params.length) [])) (by omega) (fun p hpp=>by
  have:=hp p hpp;rw[show(([]:List Int)::((List.range f.Params.length).map (R8 f.Params ags)++List.replicate (n-f.Params.length) [])).length=n+1 by simp;omega]
  exact this)
 rw[List.drop_zero]at h2;have h2':Az (B5 f) ((0:Int),([]:List Int)::((List.range f.Params.length).map (R8 f.Params ags)++List.replicate (n-f.Params.length) []))=some (O5 f ags n):=h2;rw[h2'];rfl
def outR(V:Vs)(B:List Int)(x:RR):Option (Ic×Int×List Ab×List Int):=Aw (V.length=x.2.2.2.2.1.length) (Aw (B.length=x.2.2.2.2.2.length) (some (x.1,0,x.2.2.2.1,x.2.2.2.2.2)))
theorem beginV_len{f:Ae}{ags:List Int}{n:Nat}(hn:f.Params.length≤n):(O5 f ags n).length=n+1:=by
 unfold O5;rw[Wx]
 simp
 omega
theorem c_Run {f : Ae} {ags : List Int} {n : Nat} {F : Int} {B : List Int} {T : List Ab} (hF : 0 ≤ F) (hc : Iw f 2 = some 0) (hlast : Jy f = some (n : Int)) (hl : ags.length = f.Params.length) (hw : ∀ w ∈ f.Params, wdM w) (ha : ∀ a ∈ ags, u64 a) (hn : f.Params.length ≤ n) (hn' : n < 4000000)
    (hb : 0 < f.Blocks.length) (hpl : ((f.Blocks.getD 0 default).Phis).length < 4611686018427387904) (hp : ∀ p ∈ (f.Blocks.getD 0 default).Phis, A5 p.Dst (n + 1)) :
    Ei f ags F B T = (Az (A0 f.Blocks) (0, F, 0, T, O5 f ags n, B)).bind (outR (O5 f ags n) B) := by
  have hroom : (((n + 1 : Nat) : Int)) ≤ (room : Int) := by have : (4000001 : Nat) ≤ room := by decide
                                                            omega
  have e1 : (decide (F < 0)) = false := decide_eq_false (by omega)
  have e2 : ((ags.length : Int) != (f.Params.length : Int)) = false := by rw [hl]; simp
  unfold Ei; rw [e1, cond_false, e2, show ((false : Bool) == false) = true from rfl, cond_true, hc, Option.bind_some, cond_false, show ((0 : Int) != 0) = false from rfl, cond_false, hlast, Option.bind_some, w1 (show n < 4611686018427387904 by omega), A2 ⟨by omega, by omega, hroom⟩, Fv, c_deeds, Option.bind_some, c_begin F 0 B T hl hw ha hn hn' hb hpl hp, Option.bind_some]; rw [A2 (show (List.replicate (n + 1) ([] : List Int)).length = (O5 f ags n).length by rw [beginV_len hn, List.length_replicate]), A2 rfl]; rw [run_eq]
  rfl
def endG(e:Gz)(F S:Int)(V:Vs)(B:List Int)(T:List Ab):Option Ic:=
 bif S==F then some ⟨9,0,S⟩ else bif e.Kind==0 then(Ay e.Arg V F (Aq (S+1)) B T).map fun v=>⟨0,v,Aq (S+1)⟩ else bif e.Kind==3 then some ⟨8,0,Aq (S+1)⟩ else none
theorem bl_trap{bs:List Aj}{V V':Vs}{F S S' e:Int}{B B':List Int}{T T':List Ab}{i:Nat}(hi:i<bs.length)(hd:doG (bs.getD i default).Ops V F S B T=some (e,F,S',T',V',B'))(he:e≠0)(hv:V.length=V'.length)(hb:B.length=B'.length) :
  blG bs (i:Int) V F S B T=some (.done (⟨e,0,S'⟩,F,S',T',V',B')):=by
 unfold blG;rw[A2 (Ee hi),Fv,hd,Option.bind_some,A2 hv,A2 hb,show(e !=0)=true by simpa using he,cond_true]
theorem bl_end{bs:List Aj}{V V':Vs}{F S S':Int}{B B':List Int}{T T':List Ab}{i:Nat}{r:Ic}(hi:i<bs.length)(hd:doG (bs.getD i default).Ops V F S B T=some (0,F,S',T',V',B'))(hv:V.length=V'.length)(hb:B.length=B'.length)
  (he:endG (bs.getD i default).End F S' V' B' T'=some r):∃ S'',blG bs (i:Int) V F S B T=some (.done (r,F,S'',T',V',B')):=by
 unfold blG;rw[A2 (Ee hi),Fv,hd,Option.bind_some,A2 hv,A2 hb,show((0:Int)!=0)=false from rfl,cond_false];unfold endG at he;simp only
 cases hs:(S'==F) with
 | true=>rw[hs,cond_true]at he;cases he;exact⟨_,rfl⟩
 | false=>
  rw[hs,cond_false]at he
  cases hk:((bs.getD i default).End.Kind==0) with
  | true=>
   rw[hk,cond_true]at he
   cases hm:Ay (bs.getD i default).End.Arg V' F (Aq (S'+1)) B' T' with
   | none=>rw[hm]at he;cases he
   | some v=>rw[hm]at he;cases he;exact⟨_,rfl⟩
  | false=>
   rw[hk,cond_false]at he
   cases hk3:((bs.getD i default).End.Kind==3) with
   | true=>rw[hk3,cond_true]at he;cases he;exact⟨_,rfl⟩
   | false=>rw[hk3,cond_false]at he;cases he
theorem doG_ok{o:Cs}{l:List Cs}{V V':Vs}{F S:Int}{B B':List Int}{T T':List Ab}{L:List Int}(hs:S≠F)(ho:opM o V F (Aq (S+1)) B T=some (L,0,F,Aq (S+1),T',V',B'))(hd:A5 o.Dst V'.length) :
  doG (o::l) V F S B T=doG l (V'.set o.Dst.toNat L) F (Aq (S+1)) B' T':=by
 rw[doG,show(S==F)=false by simpa using hs,cond_false,ho,Option.bind_some]
 show(bif ((0:Int)!=0) then _ else _)=_
 rw[show((0:Int)!=0)=false from rfl,cond_false,A2 hd]
theorem doG_out{o:Cs}{l:List Cs}{V:Vs}{F:Int}{B:List Int}{T:List Ab}:doG (o::l) V F F B T=some (9,F,F,T,V,B):=by
 rw[doG,show(F==F)=true by simp,cond_true]
theorem awake13:m_locksteplaw13_awake=some true:=by kernel_rfl
theorem w_u8{x:Int}(h:0≤x∧x<256):Aq x=x:=Jv (by omega) (by omega)
theorem small_ops{bs:List Aj}(h:(bs.all fun b=>decide (b.Ops.length<100))=true):∀ b∈bs,b.Ops.length<4611686018427387904:=fun b hb=>by
 have:=List.all_eq_true.1 h b hb;have:=of_decide_eq_true this;omega
theorem twoR_one{k w x v z e:Int}(h:Ux k w x v=(z,e))(he:e=0∨e=8):twoR k w [x] [v]=if e=0 then([z],0) else([],8):=by
 unfold twoR
 show(bif ((Ux k w x v).2==0&&true) then([(Ux k w x v).1],(0:Int)) else([],8))=_
 rw[h];rcases he with rfl|rfl<;>rfl
section
variable {B:List Int} {q p u v:Int} (hB:okBy B) (hL:B.length≤4096) (hp:0≤p∧p<256) (hu:0≤u∧u<256) (hv:0≤v∧v<256)
include hB hL hp hu hv
end
inductive OpsRun:Vs→List Cs→Vs→Prop
 | nil {V:Vs}:OpsRun V [] V
 | cons {V V':Vs} {o:Cs} {l:List Cs} {L:List Int} (h:∀ F S,opM o V F S [] []=some (L,0,F,S,[],V,[])) (hd:A5 o.Dst V.length) (t:OpsRun (V.set o.Dst.toNat L) l V'):OpsRun V (o::l) V'
theorem OpsRun.len{V V':Vs}{l:List Cs}(h:OpsRun V l V'):V'.length=V.length:=by
 induction h with
 | nil=>rfl
 | cons _ _ _ ih=>rw[ih,List.length_set]
theorem OpsRun.short{V V':Vs}{l:List Cs}(h:OpsRun V l V'):∀(S t:Nat),S+l.length<4611686018427387904→t<l.length→∃ V'',doG l V ((S+t:Nat):Int) (S:Int) [] []=some (9,((S+t:Nat):Int),((S+t:Nat):Int),[],V'',[])∧V''.length=V.length:=by
 induction h with
 | nil=>intro S t _ h;exact absurd h (Nat.not_lt_zero _)
 | cons h hd _ ih=>
  intro S t hS ht
  cases t with
  | zero=>exact⟨_,doG_out,rfl⟩
  | succ t=>
   simp only[List.length_cons]at hS ht;obtain⟨V'',h1,h2⟩:=ih (S+1) t (by omega) (by omega);refine⟨V'',?_,by rw[h2,List.length_set]⟩;rw[doG_ok (by omega) (h _ _) hd,w1 (show S<4611686018427387904 by omega),show S+(t+1)=S+1+t by omega];exact h1
theorem OpsRun.full{V V':Vs}{l:List Cs}(h:OpsRun V l V'):∀(S t:Nat),S+l.length<4611686018427387904→l.length≤t→doG l V ((S+t:Nat):Int) (S:Int) [] []=some (0,((S+t:Nat):Int),((S+l.length:Nat):Int),[],V',[]):=by
 induction h with
 | nil=>intro S t _ _;rfl
 | @cons _ _ _ l _ h hd _ ih=>
  intro S t hS ht;simp only[List.length_cons]at hS ht;obtain⟨t,rfl⟩:∃ t',t=t'+1:=⟨t-1,by omega⟩;rw[doG_ok (by omega) (h _ _) hd,w1 (show S<4611686018427387904 by omega),show S+(t+1)=S+1+t by omega,ih (S+1) t (by omega) (by omega)];simp only[List.length_cons];rw[show S+(l.length+1)=S+1+l.length by omega]
def Ends(n:Nat)(x:Option RR)(r:Ic):Prop:=∃ F S V,x=some (r,F,S,[],V,[])∧V.length=n
theorem Vd{bs:List Aj}{V V':Vs}{i:Nat}(hi:i<bs.length)(h:OpsRun V (bs.getD i default).Ops V'){S t:Nat}(hS:S+(bs.getD i default).Ops.length<4611686018427387904)(ht:t≤(bs.getD i default).Ops.length) :
  ∃ V'',blG bs (i:Int) V ((S+t:Nat):Int) (S:Int) [] []=some (.done (⟨9,0,((S+t:Nat):Int)⟩,((S+t:Nat):Int),((S+t:Nat):Int),[],V'',[]))∧V''.length=V.length:=by
 rcases Nat.lt_or_eq_of_le ht with ht|ht
 ·obtain⟨V'',h1,h2⟩:=h.short S t hS ht;exact⟨V'',bl_trap hi h1 (by decide) h2.symm rfl,h2⟩
 ·subst ht;have h1:=h.full S _ hS (Nat.le_refl _);refine⟨V',?_,h.len⟩;unfold blG;rw[A2 (Ee hi),Fv,h1,Option.bind_some]
  dsimp only
  rw[A2 h.len.symm,A2 rfl,show((0:Int)!=0)=false from rfl,cond_false,beq_self_eq_true,cond_true]
theorem bl_on{bs:List Aj}{V V' W:Vs}{i:Nat}(hi:i<bs.length)(h:OpsRun V (bs.getD i default).Ops V'){S t to:Nat}(hS:S+(bs.getD i default).Ops.length<4611686018427387904)(ht:(bs.getD i default).Ops.length<t)
  (h0:(bs.getD i default).End.Kind≠0) (h3:(bs.getD i default).End.Kind≠3) (hw:∀ F S,C1 (bs.getD i default).End V' F S [] []=some (to:Int)) (hto:to<bs.length)
  (hc:∀ F S,Cv (bs.getD to default).Phis (i:Int) V' F S [] []=some (F,S,[],W,[])) (hl:V'.length=W.length) :
  blG bs (i:Int) V ((S+t:Nat):Int) (S:Int) [] []=some (.next ((to:Int),((S+t:Nat):Int),((S+(bs.getD i default).Ops.length+1:Nat):Int),[],W,[])):=by
 unfold blG;rw[A2 (Ee hi),Fv,h.full S t hS (by omega),Option.bind_some]
 dsimp only
 rw[A2 h.len.symm,A2 rfl,show((0:Int)!=0)=false from rfl,cond_false,show((((S+(bs.getD i default).Ops.length:Nat):Int))==((S+t:Nat):Int))=false by rw[beq_eq_false_iff_ne];omega,cond_false,show((bs.getD i default).End.Kind==0)=false by simpa using h0,cond_false,
  show((bs.getD i default).End.Kind==3)=false by simpa using h3,cond_false,w1 (by omega),hw,Option.bind_some,A2 (Ee hto),Fv,hc,Option.bind_some,A2 hl,A2 rfl]
theorem bl_ret{bs:List Aj}{V V':Vs}{i:Nat}{v:Int}(hi:i<bs.length)(h:OpsRun V (bs.getD i default).Ops V'){S t:Nat}(hS:S+(bs.getD i default).Ops.length<4611686018427387904)(ht:(bs.getD i default).Ops.length<t)
  (h0:(bs.getD i default).End.Kind=0) (hv:∀ F S,Ay (bs.getD i default).End.Arg V' F S [] []=some v) :
  ∃ S',blG bs (i:Int) V ((S+t:Nat):Int) (S:Int) [] []=some (.done (⟨0,v,((S+(bs.getD i default).Ops.length+1:Nat):Int)⟩,((S+t:Nat):Int),S',[],V',[])):=by
 refine bl_end hi (h.full S t hS (by omega)) h.len.symm rfl ?_;unfold endG;rw[show((((S+(bs.getD i default).Ops.length:Nat):Int))==((S+t:Nat):Int))=false by rw[beq_eq_false_iff_ne];omega,cond_false,h0,hv,w1 (by omega)]
 rfl
theorem P4:wdM 16:=by unfold wdM;omega
theorem doD_sub{a:Int}(h:1≤a∧a<65536):Ux 2 16 a 1=(a-1,0):=by
 unfold Ux Fm;rw[c_Two (by decide) P4,Lg P4 (show u64 a from⟨by omega,by omega⟩),Lg P4 (show u64 1 from⟨by decide,by decide⟩)];rw[show((2:Int) ^ (16:Int).toNat)=65536 from rfl,Int.emod_eq_of_lt (by omega) h.2];simp only[Option.bind_some,Bool.not_true,cond_false];rw[show(1:Int) % 65536=1 from rfl,show Cc 2 16 a 1=some (Cw (a-1)) by kernel_rfl,U1 (by omega) (by omega),Option.bind_some,Lg P4 (show u64 (a-1) from⟨by omega,by omega⟩),show((2:Int) ^ (16:Int).toNat)=65536 from rfl,Int.emod_eq_of_lt (by omega) (by omega)]
 rfl
theorem doD_add{a b:Int}(h0:0≤a)(h1:0≤b)(h:a+b<65536):Ux 1 16 a b=(a+b,0):=by
 unfold Ux Fm;rw[c_Two (by decide) P4,Lg P4 (show u64 a from⟨by omega,by omega⟩),Lg P4 (show u64 b from⟨by omega,by omega⟩)];rw[show((2:Int) ^ (16:Int).toNat)=65536 from rfl,Int.emod_eq_of_lt (a:=a) (by omega) (by omega),Int.emod_eq_of_lt (a:=b) (by omega) (by omega)];simp only[Option.bind_some,Bool.not_true,cond_false];rw[show Cc 1 16 a b=some (Cw (a+b)) by kernel_rfl,U1 (by omega) (by omega),Option.bind_some,Lg P4 (show u64 (a+b) from⟨by omega,by omega⟩),show((2:Int) ^ (16:Int).toNat)=65536 from rfl,Int.emod_eq_of_lt (by omega) (by omega)]
 rfl
theorem doD_eq{a:Int}(h:0≤a∧a<65536):Ux 10 16 a 0=(if a=0 then 1 else 0,0):=by
 unfold Ux Fm;rw[c_Two (by decide) P4,Lg P4 (show u64 a from⟨by omega,by omega⟩),Lg P4 (show u64 0 from⟨by decide,by decide⟩)];rw[show((2:Int) ^ (16:Int).toNat)=65536 from rfl,Int.emod_eq_of_lt (a:=a) (by omega) (by omega)];simp only[Option.bind_some,Bool.not_true,cond_false];rw[show(0:Int) % 65536=0 from rfl,show Cc 10 16 a 0=((Dq ((a:Int)==0)).bind fun x1=>some x1).bind fun x2=>some x2 by kernel_rfl]
 by_cases h0:a=0
 ·subst h0;rw[if_pos rfl]
  show((Ca 1 16).bind fun x5=>some (x5,(0:Int))).getD (0,1)=_
  rw[Lg P4 (show u64 1 from⟨by decide,by decide⟩)];rfl
 ·rw[if_neg h0,show((a:Int)==0)=false by simpa using h0]
  show((Ca 0 16).bind fun x5=>some (x5,(0:Int))).getD (0,1)=_
  rw[Lg P4 (show u64 0 from⟨by decide,by decide⟩)];rfl
theorem Zc{o:Cs}{V:Vs}{p q x y z:Int}(hk:1≤o.Kind∧o.Kind≤12)(hw:wdM o.Bits)(h0:Arg o 0 p)(h1:Arg o 1 q)(s0:Slot V p [x])(s1:Slot V q [y])(hx:u64 x)(hy:u64 y)(hd:Ux o.Kind o.Bits x y=(z,0))(F S:Int) :
  opM o V F S [] []=some ([z],0,F,S,[],V,[]):=by
 rw[op_two hk hw h0 h1 s0 s1 rfl (by simp) (fun a ha=>by rw[List.mem_singleton.1 ha];exact hx) (fun a ha=>by rw[List.mem_singleton.1 ha];exact hy),twoR_one hd (.inl rfl)]
 rfl
def tri(m:Nat):Nat:=m*(m+1) / 2
theorem tri_succ(m:Nat):tri (m+1)=tri m+(m+1):=by
 unfold tri;rw[show(m+1)*(m+1+1)=m*(m+1)+(m+1)*2 by rw[Nat.add_mul,Nat.mul_add];omega,Nat.add_mul_div_right _ _ (by decide)]
theorem tri_le{m n:Nat}(h:m≤n):tri m≤tri n:=Nat.div_le_div_right (Nat.mul_le_mul h (by omega))
def VL(k m s:Int)(x5 x7 x8:List Int):Vs:=[[],[k],[1],[0],[m],x5,[s],x7,x8]
theorem opsL(k:Int)(m s:Nat)(x5 x7 x8:List Int)(hm:1≤m∧m≤200)(hs:s≤30000) :
  OpsRun (VL k m s x5 x7 x8) Cn [[],[k],[1],[0],[(m:Int)],[((m-1:Nat):Int)],[(s:Int)],[((s+m:Nat):Int)],[if m=1 then 1 else 0]]:=by
 have hm':((m-1:Nat):Int)=(m:Int)-1:=by omega
 have d1:Ux 2 16 (m:Int) 1=(((m-1:Nat):Int),0):=by rw[doD_sub ⟨by omega,by omega⟩,hm']
 have d2:Ux 1 16 (s:Int) (m:Int)=(((s+m:Nat):Int),0):=by rw[doD_add (by omega) (by omega) (by omega)];rfl
 have d3:Ux 10 16 ((m-1:Nat):Int) 0=(if m=1 then 1 else 0,0):=by
  rw[doD_eq ⟨by omega,by omega⟩]
  by_cases h:m=1
  ·rw[if_pos h,if_pos (by omega)]
  ·rw[if_neg h,if_neg (by omega)]
 have ub:∀ x:Nat,x<65536→u64 (x:Int):=fun x hx=>⟨by omega,by omega⟩;refine .cons (L:=[((m-1:Nat):Int)]) (Zc (o:=⟨2,16,1,5,[4,2],0⟩) (p:=4) (q:=2) (x:=(m:Int)) (y:=1) (by decide) P4 ⟨by simp,rfl⟩ ⟨by simp,rfl⟩ ⟨by decide,by simp[VL],rfl⟩ ⟨by decide,by simp[VL],rfl⟩ (ub m (by omega)) (ub 1 (by decide)) d1) ⟨by simp,by simp[VL]⟩ ?_;refine .cons (L:=[((s+m:Nat):Int)]) (Zc (o:=⟨1,16,1,7,[6,4],0⟩) (p:=6) (q:=4) (x:=(s:Int)) (y:=(m:Int)) (by decide) P4 ⟨by simp,rfl⟩ ⟨by simp,rfl⟩ ⟨by decide,by simp[VL],rfl⟩ ⟨by decide,by simp[VL],rfl⟩ (ub s (by omega)) (ub m (by omega)) d2) ⟨by simp,by simp[VL]⟩ ?_;refine .cons (L:=[if m=1 then 1 else 0]) (Zc (o:=⟨10,16,1,8,[5,3],0⟩) (p:=5) (q:=3) (x:=((m-1:Nat):Int)) (y:=0) (by decide) P4 ⟨by simp,rfl⟩ ⟨by simp,rfl⟩ ⟨by decide,by simp[VL],rfl⟩ ⟨by decide,by simp[VL],rfl⟩ (ub _ (by omega)) (ub 0 (by decide)) d3) ⟨by simp,by simp[VL]⟩ ?_;exact .nil
def bsL:List Aj:=Ba
theorem R2:∀ b∈bsL,b.Ops.length<4611686018427387904:=small_ops rfl
theorem roundsL(k:Int):∀(m s S t:Nat) (x5 x7 x8:List Int),1≤m→m≤200→s+tri m≤30000→S+4*m≤1000000→
  Ends 9 (Az (A0 bsL) (((1:Nat):Int),((S+t:Nat):Int),(S:Int),[],VL k m s x5 x7 x8,[])) (if t<4*m+1 then⟨9,0,((S+t:Nat):Int)⟩ else⟨0,((s+tri m:Nat):Int),((S+4*m+1:Nat):Int)⟩)
 | 0,_,_,_,_,_,_,h,_,_,_=>by omega
 | m+1,s,S,t,x5,x7,x8,_,h2,h3,h4=>by
  rw[tri_succ]at h3;have hr:OpsRun (VL k ((m+1:Nat):Int) s x5 x7 x8) (bsL.getD 1 default).Ops _:=opsL k (m+1) s x5 x7 x8 ⟨by omega,h2⟩ (by omega);have hn:(bsL.getD 1 default).Ops.length=3:=rfl
  by_cases ht:t≤3
  ·obtain⟨V'',e1,e2⟩:=Vd (bs:=bsL) (i:=1) (by decide) hr (S:=S) (t:=t) (by rw[hn];omega) (by rw[hn];exact ht);rw[if_pos (by omega)];exact⟨_,_,V'',Dw ((Wh R2 _ _ _ _ _ _).trans e1),e2⟩
  ·by_cases hm:m=0
   ·subst hm;have hon:=bl_on (bs:=bsL) (i:=1) (to:=2) (W:=[[],[k],[1],[0],[((0+1:Nat):Int)],[((0+1-1:Nat):Int)],[(s:Int)],[((s+(0+1):Nat):Int)],[1]]) (by decide) hr (S:=S) (t:=t) (by rw[hn];omega) (by rw[hn];omega) (by decide) (by decide) (fun F S=>by kernel_rfl) (by decide) (fun F S=>by kernel_rfl) rfl;rw[hn]at hon;rw[F1 ((Wh R2 _ _ _ _ _ _).trans hon)];have h0:∀ V:Vs,OpsRun V (bsL.getD 2 default).Ops V:=fun V=>.nil;have hn2:(bsL.getD 2 default).Ops.length=0:=rfl;obtain⟨t',rfl⟩:∃ t',t=4+t':=⟨t-4,by omega⟩;rw[show S+(4+t')=S+3+1+t' by omega]
    by_cases ht':t'=0
    ·subst ht';obtain⟨V'',e1,e2⟩:=Vd (bs:=bsL) (i:=2) (by decide) (h0 [[],[k],[1],[0],[((0+1:Nat):Int)],[((0+1-1:Nat):Int)],[(s:Int)],[((s+(0+1):Nat):Int)],[1]]) (S:=S+3+1) (t:=0) (by rw[hn2];omega) (by rw[hn2];omega);rw[if_pos (by omega)];exact⟨_,_,V'',Dw ((Wh R2 _ _ _ _ _ _).trans e1),e2⟩
    ·obtain⟨S',e1⟩:=bl_ret (bs:=bsL) (i:=2) (v:=((s+(0+1):Nat):Int)) (by decide) (h0 [[],[k],[1],[0],[((0+1:Nat):Int)],[((0+1-1:Nat):Int)],[(s:Int)],[((s+(0+1):Nat):Int)],[1]]) (S:=S+3+1) (t:=t') (by rw[hn2];omega) (by rw[hn2];omega) rfl (fun F S=>by kernel_rfl);rw[if_neg (by omega)];have e2:=Dw ((Wh R2 _ _ _ _ _ _).trans e1);rw[hn2]at e2;rw[show tri (0+1)=0+1 from rfl];exact⟨_,_,_,e2,rfl⟩
   ·have hr':OpsRun (VL k ((m+1:Nat):Int) s x5 x7 x8) (bsL.getD 1 default).Ops [[],[k],[1],[0],[((m+1:Nat):Int)],[((m+1-1:Nat):Int)],[(s:Int)],[((s+(m+1):Nat):Int)],[0]]:=by
     have:=hr;rwa[if_neg (show ¬ m+1=1 by omega)]at this
    have hon:=bl_on (bs:=bsL) (i:=1) (to:=1) (W:=VL k m ((s+(m+1):Nat):Int) [(m:Int)] [((s+(m+1):Nat):Int)] [0]) (by decide) hr' (S:=S) (t:=t) (by rw[hn];omega) (by rw[hn];omega) (by decide) (by decide) (fun F S=>by kernel_rfl) (by decide) (fun F S=>by kernel_rfl) rfl;rw[hn]at hon;rw[F1 ((Wh R2 _ _ _ _ _ _).trans hon)];obtain⟨t',rfl⟩:∃ t',t=4+t':=⟨t-4,by omega⟩;rw[show S+(4+t')=S+3+1+t' by omega];have ih:=roundsL k m (s+(m+1)) (S+3+1) t' [(m:Int)] [((s+(m+1):Nat):Int)] [0] (by omega) (by omega) (by omega) (by omega);rw[tri_succ]
    have e:(if 4+t'<4*(m+1)+1 then(⟨9,0,((S+3+1+t':Nat):Int)⟩:Ic) else⟨0,((s+(tri m+(m+1)):Nat):Int),((S+4*(m+1)+1:Nat):Int)⟩)=(if t'<4*m+1 then⟨9,0,((S+3+1+t':Nat):Int)⟩ else⟨0,((s+(m+1)+tri m:Nat):Int),((S+3+1+4*m+1:Nat):Int)⟩):=by
     by_cases h:t'<4*m+1
     ·rw[if_pos h,if_pos (by omega)]
     ·rw[if_neg h,if_neg (by omega),show s+(tri m+(m+1))=s+(m+1)+tri m by omega,show S+4*(m+1)+1=S+3+1+4*m+1 by omega]
    rw[e];exact ih
def fLp:Ae:=⟨[16],16,Ba⟩
theorem run_Lp{k t:Nat}(hk:1≤k∧k≤200):Ei fLp [(k:Int)] (t:Int) [] []=some (if t<4*k+4 then⟨9,0,(t:Int)⟩ else⟨0,((tri k:Nat):Int),((4*k+4:Nat):Int)⟩,0,[],[]):=by
 have htri:tri k≤20100:=tri_le hk.2;rw[c_Run (f:=fLp) (ags:=[(k:Int)]) (n:=8) (by omega) (by kernel_rfl) (by kernel_rfl) rfl (fun w hw=>by rw[List.mem_singleton.1 hw];exact P4) (fun a ha=>by rw[List.mem_singleton.1 ha];exact⟨by omega,by omega⟩) (by decide) (by decide) (by decide) (by decide) (fun q hq=>by cases hq)]
 have eb:O5 fLp [(k:Int)] 8=[[],[(k:Int) % 65536],[],[],[],[],[],[],[]]:=by kernel_rfl
 rw[eb,Int.emod_eq_of_lt (by omega) (by omega)]
 have key:Ends 9 (Az (A0 bsL) (0,((0+t:Nat):Int),((0:Nat):Int),[],[[],[(k:Int)],[],[],[],[],[],[],[]],[])) (if t<4*k+4 then⟨9,0,(t:Int)⟩ else⟨0,((tri k:Nat):Int),((4*k+4:Nat):Int)⟩):=by
  have hr:OpsRun [[],[(k:Int)],[],[],[],[],[],[],[]] (bsL.getD 0 default).Ops [[],[(k:Int)],[1],[0],[],[],[],[],[]]:=by
   refine .cons (L:=[1]) (fun F S=>op_const (o:=⟨0,16,1,2,[],1⟩) rfl (by decide)) ⟨by simp,by simp⟩ ?_;refine .cons (L:=[0]) (fun F S=>op_const (o:=⟨0,16,1,3,[],0⟩) rfl (by decide)) ⟨by simp,by simp⟩ ?_;exact .nil
  have hn:(bsL.getD 0 default).Ops.length=2:=rfl
  by_cases ht:t≤2
  ·obtain⟨V'',e1,e2⟩:=Vd (bs:=bsL) (i:=0) (by decide) hr (S:=0) (t:=t) (by rw[hn];omega) (by rw[hn];exact ht);rw[if_pos (by omega)];have e3:=Dw ((Wh R2 _ _ _ _ _ _).trans e1);rw[Nat.zero_add]at e3 ⊢;exact⟨_,_,V'',e3,e2⟩
  ·have hon:=bl_on (bs:=bsL) (i:=0) (to:=1) (W:=VL k k ((0:Nat):Int) [] [] []) (by decide) hr (S:=0) (t:=t) (by rw[hn];omega) (by rw[hn];omega) (by decide) (by decide) (fun F S=>by kernel_rfl) (by decide) (fun F S=>by kernel_rfl) rfl;rw[hn]at hon;have hnx:=F1 ((Wh R2 _ _ _ _ _ _).trans hon);have hnx':Az (A0 bsL) (0,((0+t:Nat):Int),((0:Nat):Int),[],[[],[(k:Int)],[],[],[],[],[],[],[]],[])=_:=hnx;rw[hnx'];obtain⟨t',rfl⟩:∃ t',t=3+t':=⟨t-3,by omega⟩;have ih:=roundsL k k 0 3 t' [] [] [] hk.1 hk.2 (by omega) (by omega);rw[show 0+(3+t')=3+t' by omega]
   have e:(if 3+t'<4*k+4 then(⟨9,0,((3+t':Nat):Int)⟩:Ic) else⟨0,((tri k:Nat):Int),((4*k+4:Nat):Int)⟩)=(if t'<4*k+1 then⟨9,0,((3+t':Nat):Int)⟩ else⟨0,((0+tri k:Nat):Int),((3+4*k+1:Nat):Int)⟩):=by
    by_cases h:t'<4*k+1
    ·rw[if_pos h,if_pos (by omega)]
    ·rw[if_neg h,if_neg (by omega),Nat.zero_add,show 4*k+4=3+4*k+1 by omega]
   rw[e];exact ih
 rw[Nat.zero_add]at key;obtain⟨F',S',V',h1,h2⟩:=key;have h1':Az (A0 fLp.Blocks) (0,(t:Int),0,[],[[],[(k:Int)],[],[],[],[],[],[],[]],[])=_:=h1;rw[h1',Option.bind_some];unfold outR
 dsimp only
 rw[A2 (show([[],[(k:Int)],[],[],[],[],[],[],[]]:Vs).length=V'.length from h2.symm),A2 rfl]
theorem loops13(n less:Int)(hn:0≤n∧n<256)(hl:0≤less∧less<65536):Cz n less=some true:=by
 obtain⟨k,hk⟩:=Int.eq_ofNat_of_zero_le (show 0≤1+n % 200 by omega)
 have hk':1≤k∧k≤200:=by omega
 have htri:tri k≤20100:=tri_le hk'.2
 have e1:Aq (1+Int.tmod (Aq n) 200)=(k:Int):=by
  rw[w_u8 hn,Int.tmod_eq_emod_of_nonneg hn.1,hk,Jv (by omega) (by omega)]
 have e2:Aq (Aq (3+Aq (4*(k:Int)))+1)=((4*k+4:Nat):Int):=by
  rw[Jv (n:=4*(k:Int)) (by omega) (by omega),Jv (n:=3+4*(k:Int)) (by omega) (by omega),Jv (by omega) (by omega)];omega
 have e3:Int.tmod (Aq less) ((4*k+4:Nat):Int)=less % ((4*k+4:Nat):Int):=by
  rw[Jv (by omega) (by omega),Int.tmod_eq_emod_of_nonneg hl.1]
 have b1:0≤less % ((4*k+4:Nat):Int):=Int.emod_nonneg _ (by omega);have b2:less % ((4*k+4:Nat):Int)<((4*k+4:Nat):Int):=Int.emod_lt_of_pos _ (by omega);obtain⟨d,hd⟩:=Int.eq_ofNat_of_zero_le b1
 have e4:Aq (Aq (((4*k+4:Nat):Int)-1)-(d:Int))=((4*k+4-1-d:Nat):Int):=by
  rw[Jv (n:=((4*k+4:Nat):Int)-1) (by omega) (by omega),Jv (by omega) (by omega)];omega
 have e5:Cw (Aq (Int.tdiv (Aq ((k:Int)*Aq ((k:Int)+1))) 2))=((tri k:Nat):Int):=by
  have hkk:k*(k+1)≤200*201:=Nat.mul_le_mul hk'.2 (by omega);rw[Jv (n:=(k:Int)+1) (by omega) (by omega),show(k:Int)*((k:Int)+1)=((k*(k+1):Nat):Int) by simp,Jv (n:=((k*(k+1):Nat):Int)) (by omega) (by omega),Int.tdiv_eq_ediv_of_nonneg (by omega),show((k*(k+1):Nat):Int) / 2=((tri k:Nat):Int) by unfold tri;omega,Jv (n:=((tri k:Nat):Int)) (by omega) (by omega),U1 (by omega) (by omega)]
 unfold Cz;rw[awake13,Option.bind_some,Bool.not_true,cond_false,m_New_ok (by simp),Option.bind_some,cond_true,e1,e2,e3,hd,e4,e5,U1 (show(0:Int)≤(k:Int) by omega) (by omega)];have r1:=run_Lp (t:=4*k+4) hk';have r2:=run_Lp (t:=4*k+4-1-d) hk';rw[if_neg (by omega)]at r1;rw[if_pos (by omega)]at r2;unfold fLp at r1 r2
 dsimp only
 rw[r1,Option.bind_some,A2 rfl,A2 (by omega)]
 dsimp only
 rw[r2,Option.bind_some,A2 rfl]
 simp
theorem wf_u8{n:Int}(h:(Lit.int .u8 n).wf=true):0≤n∧n<256:=by simp[Lit.wf,IntKind.min,IntKind.max,IntKind.bits,IntKind.signed]at h;omega
theorem wf_u16{n:Int}(h:(Lit.int .u16 n).wf=true):0≤n∧n<65536:=by simp[Lit.wf,IntKind.min,IntKind.max,IntKind.bits,IntKind.signed]at h;omega
abbrev Iall(w:World):Nat→Nat→Prop:=fun b o=>∃ u,w.cell? ⟨b,o,none⟩=some u
structure CRep(w:World)(cs:List Value)(avs:List AV):Prop where
 len:cs.length=avs.length
 one:∀ j,j<avs.length→(cs.getD j undef).oneCell'=true
 rep:∀ j,j<avs.length→RepV (Iall w) w (cs.getD j undef) (avs.getD j .any)
structure Opens(P:Program)(t:TypeId){α:Type}(e:α→List AV)(ok:α→Prop):Prop where
 get:∀{H:Type} {enc:TypeId×Value→H} {w:World} {base:Nat} {spare:Nat→Bool} {held:Bool} {fuel:Nat} {cs:List Value} {x:DataW H×List MemPlace},
  DataW.trod enc P w base spare held fuel t cs=some x→∃ a,ok a∧CRep w cs (e a)
theorem crep_one{w:World}{v:Value}{x:AV}(h1:v.oneCell'=true)(h:RepV (Iall w) w v x):CRep w [v] [x]:=
 ⟨rfl,fun j hj=>(by
   have hj0:j=0:=by simpa using hj
   subst hj0
   exact h1),fun j hj=>(by
   have hj0:j=0:=by simpa using hj
   subst hj0
   exact h)⟩
theorem X9{P:Program}{t:TypeId}{k:IntKind}{e:Int→List AV}(ht:P.underlying t=some (.int k))(he:∀ n,e n=[.int k n]):Opens P t e (fun n=>(Lit.int k n).wf=true):=by
 refine⟨?_⟩;intro H enc w base spare held fuel cs x h;obtain⟨n,rfl,rfl,hw⟩:=DataW.trod_int ht h;exact⟨n,hw,by rw[he];exact crep_one rfl (.int _ _)⟩
structure OpensF(P:Program)(fs:List Field)(off N:Nat){α:Type}(e:α→List AV)(ok:α→Prop):Prop where
 get:∀{H:Type} {enc:TypeId×Value→H} {w:World} {base:Nat} {spare:Nat→Bool} {held:Bool} {n:Nat} {cs:List Value},cs.length=N→
  (∀ f∈fs,∃ x,DataW.trod enc P w base spare held n f.type ((cs.drop f.offset).take (P.cellsOf f.type))=some x)→∃ a,ok a∧CRep w (cs.drop off) (e a)
theorem Opens.to{P:Program}{t:TypeId}{α β:Type}{e:α→List AV}{ok:α→Prop}(h:Opens P t e ok){e':β→List AV}{ok':β→Prop}(g:α→β)(he:∀ a,e' (g a)=e a)(hok:∀ a,ok a→ok' (g a)):Opens P t e' ok':=by
 refine⟨?_⟩;intro H enc w base spare held fuel cs x hx;obtain⟨a,ha,hr⟩:=h.get hx;exact⟨g a,hok a ha,by rw[he];exact hr⟩
theorem arg_one{P:Program}{t:TypeId}{α:Type}{e:α→List AV}{ok:α→Prop}(h:Opens P t e ok){x:α→AV}(he:∀ a,e a=[x a]){H:Type}{enc:TypeId×Value→H}{w:World}{base:Nat}{spare:Nat→Bool}{held:Bool}{v:Value}{d:DataW H}{ps:List MemPlace}
  (hv:v.cells = #[v]) (hd:DataW.Trod enc P w base spare held t v d ps):∃ a,ok a∧RepV (Iall w) w v (x a):=by
 obtain⟨fuel,hf⟩:=hd;obtain⟨a,ha,hr⟩:=h.get hf;refine⟨a,ha,?_⟩;have:=hr.rep 0 (by simp[he])
 simpa [hv,he] using this
def eU16(x:Int):List AV:=[(.int .u16 x)]
def okU8(n:Int):Prop:=(Lit.int .u8 n).wf=true
theorem op_5:Opens Tryz.prog 5 Dd okU8:=X9 Tryz.underlying5 (fun _=>rfl)
def okU16(n:Int):Prop:=(Lit.int .u16 n).wf=true
theorem op_65:Opens Tryz.prog 65 eU16 okU16:=X9 Tryz.underlying65 (fun _=>rfl)
end
end Go.Proofs.YtemgdalocjcbhaaGreat
