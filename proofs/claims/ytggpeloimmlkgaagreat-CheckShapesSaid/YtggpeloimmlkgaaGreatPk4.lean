/-
  The machine, the program's functions and the laws' arithmetic: part 4 of 7.
-/
import Derived.Test.YtggpeloimmlkgaaGreatPk3
import Derived.Test.YtggpeloimmlkgaaGreatProg
set_option linter.unusedVariables false
set_option linter.unusedSimpArgs false
namespace Go.Proofs.YtggpeloimmlkgaaGreat
noncomputable section
open Go Go.RowKit
set_option maxRecDepth 100000
set_option maxHeartbeats 2000000
def Aj(x:Int):List AV:=[(.int .i64 x)]
def Hp(x:List Int):List AV:=[(AV.list 1 Aj 0 x .none)]
structure Ey where
 Bits:Int
 Dst:Int
 From:List Int
 Args:List Int
 deriving Inhabited,DecidableEq
def R5(x:Ey):List AV:=[(.int .i64 x.Bits),(.int .i64 x.Dst),(AV.list 1 Aj 0 x.From .none),(AV.list 1 Aj 0 x.Args .none)]
def eLTPhi(x:List Ey):List AV:=[(AV.list 4 R5 default x .none)]
def eU64(x:Int):List AV:=[(.int .u64 x)]
structure Dv where
 Kind:Int
 Bits:Int
 Lanes:Int
 Dst:Int
 Args:List Int
 Imm:Int
 deriving Inhabited,DecidableEq
def Mi(x:Dv):List AV:=[(.int .i64 x.Kind),(.int .i64 x.Bits),(.int .i64 x.Lanes),(.int .i64 x.Dst),(AV.list 1 Aj 0 x.Args .none),(.int .u64 x.Imm)]
def eLTOp(x:List Dv):List AV:=[(AV.list 6 Mi default x .none)]
structure Hn where
 Kind:Int
 Arg:Int
 To:List Int
 deriving Inhabited,DecidableEq
def eTEnd(x:Hn):List AV:=[(.int .i64 x.Kind),(.int .i64 x.Arg),(AV.list 1 Aj 0 x.To .none)]
structure Ad where
 Phis:List Ey
 Ops:List Dv
 End:Hn
 deriving Inhabited,DecidableEq
def A5(x:Ad):List AV:=[(AV.list 4 R5 default x.Phis .none),(AV.list 6 Mi default x.Ops .none),(.int .i64 x.End.Kind),(.int .i64 x.End.Arg),(AV.list 1 Aj 0 x.End.To .none)]
def eLTBlock(x:List Ad):List AV:=[(AV.list 5 A5 default x .none)]
structure TFunc where
 Params:List Int
 Ret:Int
 Blocks:List Ad
 deriving Inhabited,DecidableEq
def eTFunc(x:TFunc):List AV:=[(AV.list 1 Aj 0 x.Params .none),(.int .i64 x.Ret),(AV.list 5 A5 default x.Blocks .none)]
def A2(x:(Int×Int)):List AV:=[(.int .i64 x.1),(.int .i64 x.2)]
structure H1 where
 block:Int
 at_:Int
 deriving Inhabited,DecidableEq
def Zn(x:H1):List AV:=[(.int .i64 x.block),(.int .i64 x.at_)]
structure Ao where
 v:Int
 shape:(Int×Int)
 place:H1
 deriving Inhabited,DecidableEq
def C8(x:Ao):List AV:=[(.int .i64 x.v),(.int .i64 x.shape.1),(.int .i64 x.shape.2),(.int .i64 x.place.block),(.int .i64 x.place.at_)]
structure TGraph where
 Succ:List (List Int)
 Pred:List (List Int)
 deriving Inhabited,DecidableEq
def Jb(x:TGraph):List AV:=[(AV.list 1 Hp [] x.Succ .none),(AV.list 1 Hp [] x.Pred .none)]
def eB(x:Bool):List AV:=[(.bool x)]
structure Ai where
 shape:(Int×Int)
 place:H1
 deriving Inhabited,DecidableEq
def E1(x:Ai):List AV:=[(.int .i64 x.shape.1),(.int .i64 x.shape.2),(.int .i64 x.place.block),(.int .i64 x.place.at_)]
structure Bi where
 V:Int
 Block:Int
 At:Int
 Shape:(Int×Int)
 deriving Inhabited,DecidableEq
def Ma(x:Bi):List AV:=[(.int .i64 x.V),(.int .i64 x.Block),(.int .i64 x.At),(.int .i64 x.Shape.1),(.int .i64 x.Shape.2)]
structure B9 where
 V:Int
 Block:Int
 At:Int
 Shape:(Int×Int)
 deriving Inhabited,DecidableEq
def Lt(x:B9):List AV:=[(.int .i64 x.V),(.int .i64 x.Block),(.int .i64 x.At),(.int .i64 x.Shape.1),(.int .i64 x.Shape.2)]
def eLB(x:List Bool):List AV:=[(AV.list 1 eB false x .none)]
theorem mix:Tryz.prog.follows .mixedOrders=true:=by kernel_rfl
def Z1:=fun za zb zc zd zf zg zm=>((30000,.row 59 [(AV.list 1 Aj 0 za .none),(.int .i64 zb),(AV.list 5 A5 default zc .none),(.int .i64 zd),(AV.list 1 Aj 0 zf .none),(.omap zg),(AV.list 5 C8 default zm (.own 37006))]):Nat×Own)
def Z2:=fun za=>(⟨[],[],(.bool za),[],[]⟩:Ta)
def Z3:=fun za zb zc zd zf zg zm=>([(30000,.row 59 [(AV.list 1 Aj 0 za .none),(.int .i64 zb),(AV.list 5 A5 default zc .none),(.int .i64 zd),(AV.list 1 Aj 0 zf .none),.nilm,(AV.list 5 C8 default zg (.own 37006))]),(37006,.tok 5 104 zm)]:List (Nat×Own))
def Z4:=fun za (zb:List Int)=>((za,.arr 1 3 zb.length (fun i=>Aj (zb.getD i 0))):Nat×Own)
def Z5:=fun za=>(⟨[],[],(AV.list 2 A2 ((0:Int),(0:Int)) za .none),[],[]⟩:Ta)
def Z6:=fun za=>((.int .i64 za):AV)
def Z7:=fun za=>((AV.list 1 Aj 0 za .none):AV)
def Z8:=fun za zb zc zd=>((za,.arr 1 22 zb (Ky 1 Aj (0:Int) zc (Tag.fam zd))):Nat×Own)
def Z9:=fun za (zb:List Bool)=>((za,.arr 1 4 zb.length (fun i=>eB (zb.getD i false))):Nat×Own)
def Z10:=fun za zb zc zd zf zg zm zn=>(⟨[(30000,30000),(37006,37006),(9100005,9100005)],[],(.tuple []),[(Z1 za zb zc zd zf 9100005 zg),(37006,.tok 5 104 zm),(9100005,.obj (.map false .i64 zn))],[]⟩:Ta)
def Mw:=((.int .i64 (0:Int)):AV)
def Z12:=fun za zb zc zd zf zg zm=>([(Z1 za zb zc zd zf 9100005 zg),(37006,.tok 5 104 zm)]:List (Nat×Own))
def Z13:=fun za zb=>((AV.list 1 Aj 0 za (.own zb)):AV)
def Z14:=fun za zb zc zd zf zg zm zn zp=>([(Z1 za zb zc zd zf zg zm),(37006,.tok 5 104 zn),(zg,.obj (.map false .i64 zp))]:List (Nat×Own))
def Z15:=fun za (zb:List Int) (zc:List Int)=>((.slice 1 (bif za then zb.length else zc.length) (fun i=>bif za then Aj (zb.getD i 0) else Aj (zc.getD i 0)) .none):AV)
def Z16:=fun za=>((AV.list 5 A5 default za .none):AV)
def Z17:=fun za=>((3,(AV.list 5 Lt default za (.own 5003))):Nat×AV)
def Z18:=fun za zb=>((AV.list 1 eB false za (.own zb)):AV)
def Z19:=fun za=>((AV.list 1 Hp [] za .none):AV)
def Z20:=(⟨[(4,(AV.list 1 Aj 0 ([]:List Int) (.own 6004)))],[(6004,.tok 1 3 (([]:List Int).length))],[]⟩:St)
def Z21:=((AV.list 1 Aj 0 ([]:List Int) .exact):AV)
def Z22:=fun za zb zc zd zf zg=>((30000,.row 59 [(Z7 za),(Z6 zb),(Z16 zc),(Z6 zd),(Z7 zf),(.omap 8),(AV.list 5 C8 default zg (.own 37006))]):Nat×Own)
def Z23:=fun za zb zc zd zf=>((37,.arr 1 81 za (fun i_=>AV.eraseAll zb ((Ga zc zd 0 [(.vsl 46 zf)]) i_))):Nat×Own)
def Z24:=fun za zb zc zd=>([(za,(AV.list 5 Lt default zb .exact)),(zc,(AV.list 5 Lt default (zd++zb) (.own 5003)))]:List (Nat×AV))
def Z25:=fun za=>((3,(AV.list 5 Ma default za (.own 5003))):Nat×AV)
def Z26:=fun za (zb:List Ao) (zc:List Ao)=>((.slice 5 (bif za then zb.length else zc.length) (fun i=>bif za then C8 (zb.getD i default) else C8 (zc.getD i default)) (.own 37006)):AV)
def Z27:=fun za=>((AV.list 1 Aj 0 ([za]:List Int) .exact):AV)
def O8:=((2,(.ptr 2 0)):Nat×AV)
def Z29:=((.slice 0 0 (fun _=>[]) .exact):AV)
def Z30:=((AV.list 2 A2 ((0:Int),(0:Int)) ([]:List (Int×Int)) .exact):AV)
def Z31:=fun za zb=>((.agg (E1 (Dy (default:Ai) za zb))):AV)
def Z32:=fun za=>(⟨[],[],(Z6 za),[],[]⟩:Ta)
def Vc:=fun za=>((.agg (A2 za)):AV)
def Vh:=((1,(.ptr 1 0)):Nat×AV)
def Nk:=fun za zb=>((za,.tok 1 4 zb):Nat×Own)
def Z36:=((AV.list 1 Hp [] ([]:List (List Int)) .exact):AV)
def Z37:=fun za zb zc zd=>([(za,(AV.list 5 Ma default zb .exact)),(zc,(AV.list 5 Ma default (zd++zb) (.own 5003)))]:List (Nat×AV))
def Z38:=fun za zb zc=>(⟨[],[(20000,za)],(Z13 zb 20000),[(20000,.tok 1 3 zc)],[]⟩:Ta)
def Z39:=fun za zb=>((7,.row 67 [za,(.vsl 77 zb)]):Nat×Own)
def Og:=fun za zb=>((7,(.vsl za zb)):Nat×AV)
def Z41:=fun za=>((.int .i64 (za:Int)):AV)
def Z42:=fun za zb=>(⟨[],[],(.tuple [(.agg (Jb za)),(Z6 zb)]),[],[]⟩:Ta)
def Z43:=fun za zb zc zd zf zg zm zn zp=>(⟨[(30000,30000),(37006,37006),(9100005,9100005)],[],(.agg (Zn za)),(Z14 zb zc zd zf zg 9100005 zm zn zp),[]⟩:Ta)
def Z44:=fun za zb=>((AV.list 2 A2 ((0:Int),(0:Int)) za (.own zb)):AV)
def Z45:=fun za=>((.agg (E1 za)):AV)
def L8:=fun za zb=>((2,.row za zb):Nat×Own)
def Z47:=fun za zb zc zd zf zg=>((1,.row 47 [(Z6 za),(Z6 zb),(Z6 zc),(Z6 zd),(Z7 zf),(.int .u64 zg)]):Nat×Own)
def Z48:=((.int .i64 (2:Int)):AV)
def Z49:=fun za zb=>((AV.list 1 Hp [] za (.own zb)):AV)
def Z50:=fun za (zb:List Ad) (zc:List Ad)=>((.slice 5 (bif za then zb.length else zc.length) (fun i=>bif za then A5 (zb.getD i default) else A5 (zc.getD i default)) .none):AV)
def Z51:=fun za (zb:List Int) (zc:List Int)=>((.slice 1 (bif (za==true) then zb.length else zc.length) (fun i=>bif (za==true) then Aj (zb.getD i 0) else Aj (zc.getD i 0)) .none):AV)
def Z52:=fun za zb zc zd zf zg zm zn zp=>(⟨[(30000,30000),(37006,37006),(9100005,9100005)],[],(.bool za),(Z14 zb zc zd zf zg 9100005 zm zn zp),[]⟩:Ta)
def Z53:=(⟨[(2,(AV.list 2 A2 ((0:Int),(0:Int)) ([]:List (Int×Int)) (.own 6002)))],[(6002,.tok 2 35 (([]:List (Int×Int)).length))],[]⟩:St)
def Z54:=fun(za:List Int)=>((6,.arr 1 112 64 (fun i=>Aj (za.getD i 0))):Nat×Own)
def Z55:=fun za=>((2,.row 67 [za,za]):Nat×Own)
def Z56:=fun(za:List (Int×Int))=>([(30,.arr 2 35 za.length (fun i=>A2 (za.getD i ((0:Int),(0:Int)))))]:List (Nat×Own))
def Z57:=fun za zb zc=>((.int .i64 (bif za then zb else zc)):AV)
def Z58:=((AV.list 5 C8 default ([]:List Ao) .exact):AV)
def Z59:=((AV.list 1 Hp [] ([]:List (List Int)) .none):AV)
def Z60:=((6,(.vpt 6 64 0 0)):Nat×AV)
def N2:=fun za zb zc=>((za,.tok 5 zb zc):Nat×Own)
def Z62:=fun za zb zc zd zf zg zm zn=>(⟨[(30000,30000),(37006,37006)],[],(.bool za),(Z3 zb zc zd zf zg zm zn),[]⟩:Ta)
def Z63:=fun za zb zc=>(⟨[(4,(Z13 za zb))],[(zb,.tok 1 3 zc)],[]⟩:St)
def Z64:=fun za zb zc zd=>((37,.arr 1 81 za (Ga zb zc 0 [(.vsl 46 zd)])):Nat×Own)
def Z65:=((5,(.vpt 5 64 0 0)):Nat×AV)
def Z66:=fun za=>((AV.list 5 C8 default ([]:List Ao) (.own za)):AV)
def Z67:=fun za zb=>(⟨[],[],(.tuple [(Z6 za),(Z6 zb)]),[],[]⟩:Ta)
def Z68:=fun za=>((6,.arr 1 112 64 za):Nat×Own)
def Z69:=((5,(.ptr 5 0)):Nat×AV)
def Z70:=fun za=>((5,.arr 1 111 64 za):Nat×Own)
def Z71:=fun za=>((za,.tok 5 104 (([]:List Ao).length)):Nat×Own)

def Kn(a0:TFunc):(Int×Int)→Option (LR (Int×Int) Int):=
 fun((i1,i2):(Int×Int))=>(bif (decide (i2<(a0.Blocks.length:Int))) then(A9 (Ba i2 a0.Blocks.length) (some (.next ((w64 (i1+(w64 ((((a0.Blocks.getD i2.toNat default).Phis).length:Int)+(((a0.Blocks.getD i2.toNat default).Ops).length:Int))))),(w64 (i2+1)))))) else(some (.done i1)))
def Nl(a0:TFunc):Option Int:=
 ((Ag (Kn a0) ((a0.Blocks.length:Int),(0:Int))).bind (fun x5=>(some x5)))
theorem ok_code_Size(a0:TFunc)(r:Int)(h:Nl a0=some r):Spec Tryz.prog 68 [(.agg (eTFunc a0))] [] (.int .i64 r) []:=by
 refine Ac mix Tryz.func68 (fun Γ hq=>?_);unfold Nl at h;refine Af hq [1] [1] ?_;refine Af hq [1,3] [1] ?_;refine Af hq [3,10,11,12] [] ?_;obtain⟨x5,hx5,h⟩:=bind_some h;refine gL hq hx5 [3,10,11,12] [] (fun u (i1,i2)=>(Ds u [(3,(Z6 i1)),(12,(Z6 i2))] [])) (fun u i3=>aG Γ (.exit 0) (⟨[(3,(Z6 i3))],[],[]⟩:St)) ?_ ?_
 ·rintro⟨i1,i2⟩ y h;unfold Kn at h;refine Af hq [3,10,11,12,13] [] ?_;refine gC h (fun h=>?_) (fun h=>?_)
  ·obtain⟨hc4,h⟩:=Aa h;refine gR hq [3,5,10,11,12] [5] [] [] (c1 hc4) ?_;refine Af hq [3,10,11,12] [] ?_;refine Af hq [3,10,11,12] [] ?_;cases h;exact gN Cm
  ·cases h;exact gO (Bj (Bx [3] [] hq))
 ·clear hx5;refine gA ?_;refine Af hq [2] [] ?_;obtain rfl:=OI h;exact C0 []
def Hd(aB:List Int):Int→Option (LR Int (Unit ⊕ Bool)):=
 fun(i1:Int)=>(bif (decide (i1<(aB.length:Int))) then(A9 (Ba i1 aB.length) (bif (bif (decide (((aB.getD i1.toNat 0):Int)<0)) then true else(decide (((2147483647:Int):Int)<(aB.getD i1.toNat 0)))) then(some (.done (.inr false))) else(some (.next (w64 (i1+1)))))) else(some (.done (.inl ()))))
def V9(Γ:H4)(aB:List Int)(r:Bool):Exit→St→Prop:=fK Tryz.prog Γ Tryz.f69.results.toList [] (.bool r) []
def Dr(aB:List Int):Option Bool:=
 ((Ag (Hd aB) (0:Int)).bind (fun x3=>(match x3 with|(.inl _)=>(some true)|(.inr r5)=>(some r5))))
theorem G7(aB:List Int)(r:Bool)(h:Dr aB=some r):Spec Tryz.prog 69 [(AV.list 1 Aj 0 aB .none)] [] (.bool r) []:=by
 refine Ac mix Tryz.func69 (fun Γ hq=>?_);unfold Dr at h;refine Af hq [0] [] ?_;refine Af hq [5,6,7] [] ?_;obtain⟨x3,hx3,h⟩:=bind_some h;refine gL hq hx3 [5,6,7] [] (fun u i1=>(Ds u [(7,(Z6 i1))] [])) (fun u x_=>match x_ with|(.inl _)=>aG Γ (.exit 0) (⟨[],[],[]⟩:St)|(.inr r_)=>aR (V9 Γ aB r_)) ?_ ?_
 ·intro i1 y h;unfold Hd at h;refine Af hq [5,6,7,8] [] ?_;refine gC h (fun h=>?_) (fun h=>?_)
  ·obtain⟨hc2,h⟩:=Aa h;refine gR hq [4,5,6,7] [] [] [] (c1 hc2) ?_;refine gR hq [5,6,7,16] [] [] [] (ci (gI ((decide (((aB.getD i1.toNat 0):Int)<0))==false)) (c1 (K2 (decide (((aB.getD i1.toNat 0):Int)<0))))) ?_;refine gC h (fun h=>?_) (fun h=>?_)
   ·refine Af hq [2] [] ?_;cases h;exact gO (K1 (Ja [] (Le.refl _ _)))
   ·refine Af hq [5,6,7] [] ?_;cases h;exact gN Cm
  ·cases h;exact gO (Bj (Bx [] [] hq))
 ·clear hx3;rcases x3 with _|r5
  ·refine gA ?_;refine Af hq [2] [] ?_;obtain rfl:=OI h;exact C0 []
  ·refine Mk (fun st' hk=>?_);obtain rfl:=OI h;exact gK hk
def Gk(aB:List Int):Option Bool:=
 ((bif ((decide (((aB.length:Int):Int)≤64))==true) then Dr aB else some false).bind fun x1=>(some (bif (decide (((aB.length:Int):Int)≤64)) then x1 else false)))
theorem Ld(aB:List Int)(r:Bool)(h:Gk aB=some r):Spec Tryz.prog 110 [(AV.list 1 Aj 0 aB .none)] [] (.bool r) []:=by
 refine Ac mix Tryz.func110 (fun Γ hq=>?_);unfold Gk at h;refine Af hq [0] [] ?_;obtain⟨x1,hx1,h⟩:=bind_some h;refine gR hq [2] [] [] [(Z2 x1)] (ci (gI ((decide (((aB.length:Int):Int)≤64))==true)) (ci (fun(hg:((decide (((aB.length:Int):Int)≤64))==true)=true)=>(G7 aB x1 (Bq hg hx1))) (c1 (Mb (decide (((aB.length:Int):Int)≤64)))))) ?_;cases h;exact C0 []
def Kp(aW:Ey):Option Bool:=
 ((Dr ([aW.Bits,aW.Dst]:List Int)).bind fun x1=>((bif (x1==true) then Gk aW.From else some false).bind fun x2=>((bif ((bif x1 then x2 else false)==true) then Gk aW.Args else some false).bind fun x3=>(some (bif (bif x1 then x2 else false) then x3 else false)))))
theorem Zb(aW:Ey)(r:Bool)(h:Kp aW=some r):Spec Tryz.prog 94 [(.agg (R5 aW))] [] (.bool r) []:=by
 refine Ac mix Tryz.func94 (fun Γ hq=>?_);unfold Kp at h;refine Af hq [1] [1] ?_;obtain⟨x1,hx1,h⟩:=bind_some h;obtain⟨x2,hx2,h⟩:=bind_some h;obtain⟨x3,hx3,h⟩:=bind_some h;refine gR hq [2] [] [(7,(AV.list 1 Aj 0 ([aW.Bits,aW.Dst]:List Int) .exact))] [(Z2 x1),(Z2 x2),(Z2 x3)] (ci (Cu 1 Aj (0:Int) ([aW.Bits,aW.Dst]:List Int)) (ci (G7 ([aW.Bits,aW.Dst]:List Int) x1 hx1) (ci (gI (x1==true)) (ci (gI (x1==true)) (ci (fun(hg:(x1==true)=true)=>(Ld aW.From x2 (Bq hg hx2))) (ci (Mb x1) (ci (gI ((bif x1 then x2 else false)==true)) (ci (gI ((bif x1 then x2 else false)==true)) (ci (fun(hg:((bif x1 then x2 else false)==true)=true)=>(Ld aW.Args x3 (Bq hg hx3))) (c1 (Mb (bif x1 then x2 else false)))))))))))) ?_;cases h;exact C0 []
def Fj(aB:List Ey):Int→Option (LR Int (Unit ⊕ Bool)):=
 fun(i1:Int)=>(bif (decide (i1<(aB.length:Int))) then(A9 (Ba i1 aB.length) ((Kp (aB.getD i1.toNat default)).bind fun x3=>(bif (!x3) then(some (.done (.inr false))) else(some (.next (w64 (i1+1))))))) else(some (.done (.inl ()))))
def Sh(Γ:H4)(aB:List Ey)(r:Bool):Exit→St→Prop:=fK Tryz.prog Γ Tryz.f93.results.toList [] (.bool r) []
def Gr(aB:List Ey):Option Bool:=
 ((Ag (Fj aB) (0:Int)).bind (fun x4=>(match x4 with|(.inl _)=>(some true)|(.inr r6)=>(some r6))))
theorem Re(aB:List Ey)(r:Bool)(h:Gr aB=some r):Spec Tryz.prog 93 [(AV.list 4 R5 default aB .none),(.clo 94 [] [])] [] (.bool r) []:=by
 refine Ac mix Tryz.func93 (fun Γ hq=>?_);unfold Gr at h;refine Af hq [0,1] [] ?_;refine Af hq [1,7,8,9] [] ?_;obtain⟨x4,hx4,h⟩:=bind_some h;refine gL hq hx4 [1,7,8,9] [] (fun u i1=>(Ds u [(9,(Z6 i1))] [])) (fun u x_=>match x_ with|(.inl _)=>aG Γ (.exit 0) (⟨[],[],[]⟩:St)|(.inr r_)=>aR (Sh Γ aB r_)) ?_ ?_
 ·intro i1 y h;unfold Fj at h;refine Af hq [1,7,8,9,10] [] ?_;refine gC h (fun h=>?_) (fun h=>?_)
  ·obtain⟨hc2,h⟩:=Aa h;refine gR hq [1,6,7,8,9] [6] [] [] (c1 hc2) ?_;obtain⟨x3,hx3,h⟩:=bind_some h;refine gR hq [1,7,8,9,16] [] [] [(Z2 x3)] (c1 (Zb (aB.getD i1.toNat default) x3 hx3)) ?_;refine gC h (fun h=>?_) (fun h=>?_)
   ·refine Af hq [4] [] ?_;cases h;exact gO (K1 (Ja [] (Le.refl _ _)))
   ·refine Af hq [1,7,8,9] [] ?_;cases h;exact gN Cm
  ·cases h;exact gO (Bj (Bx [] [] hq))
 ·clear hx4;rcases x4 with _|r6
  ·refine gA ?_;refine Af hq [4] [] ?_;obtain rfl:=OI h;exact C0 []
  ·refine Mk (fun st' hk=>?_);obtain rfl:=OI h;exact gK hk
def Lv(a1:Dv):Option Bool:=
 ((Dr ([a1.Kind,a1.Bits,a1.Lanes,a1.Dst]:List Int)).bind fun x1=>((bif (x1==true) then Gk a1.Args else some false).bind fun x2=>(some (bif x1 then x2 else false))))
theorem ok_code_opFits(a1:Dv)(r:Bool)(h:Lv a1=some r):Spec Tryz.prog 96 [(.agg (Mi a1))] [] (.bool r) []:=by
 refine Ac mix Tryz.func96 (fun Γ hq=>?_);unfold Lv at h;refine Af hq [1] [1] ?_;obtain⟨x1,hx1,h⟩:=bind_some h;obtain⟨x2,hx2,h⟩:=bind_some h;refine gR hq [2] [] [(11,(AV.list 1 Aj 0 ([a1.Kind,a1.Bits,a1.Lanes,a1.Dst]:List Int) .exact))] [(Z2 x1),(Z2 x2)] (ci (Cu 1 Aj (0:Int) ([a1.Kind,a1.Bits,a1.Lanes,a1.Dst]:List Int)) (ci (G7 ([a1.Kind,a1.Bits,a1.Lanes,a1.Dst]:List Int) x1 hx1) (ci (gI (x1==true)) (ci (gI (x1==true)) (ci (fun(hg:(x1==true)=true)=>(Ld a1.Args x2 (Bq hg hx2))) (c1 (Mb x1))))))) ?_;cases h;exact C0 []
def F1(aB:List Dv):Int→Option (LR Int (Unit ⊕ Bool)):=
 fun(i1:Int)=>(bif (decide (i1<(aB.length:Int))) then(A9 (Ba i1 aB.length) ((Lv (aB.getD i1.toNat default)).bind fun x3=>(bif (!x3) then(some (.done (.inr false))) else(some (.next (w64 (i1+1))))))) else(some (.done (.inl ()))))
def S3(Γ:H4)(aB:List Dv)(r:Bool):Exit→St→Prop:=fK Tryz.prog Γ Tryz.f95.results.toList [] (.bool r) []
def Hc(aB:List Dv):Option Bool:=
 ((Ag (F1 aB) (0:Int)).bind (fun x4=>(match x4 with|(.inl _)=>(some true)|(.inr r6)=>(some r6))))
theorem Sq(aB:List Dv)(r:Bool)(h:Hc aB=some r):Spec Tryz.prog 95 [(AV.list 6 Mi default aB .none),(.clo 96 [] [])] [] (.bool r) []:=by
 refine Ac mix Tryz.func95 (fun Γ hq=>?_);unfold Hc at h;refine Af hq [0,1] [] ?_;refine Af hq [1,7,8,9] [] ?_;obtain⟨x4,hx4,h⟩:=bind_some h;refine gL hq hx4 [1,7,8,9] [] (fun u i1=>(Ds u [(9,(Z6 i1))] [])) (fun u x_=>match x_ with|(.inl _)=>aG Γ (.exit 0) (⟨[],[],[]⟩:St)|(.inr r_)=>aR (S3 Γ aB r_)) ?_ ?_
 ·intro i1 y h;unfold F1 at h;refine Af hq [1,7,8,9,10] [] ?_;refine gC h (fun h=>?_) (fun h=>?_)
  ·obtain⟨hc2,h⟩:=Aa h;refine gR hq [1,6,7,8,9] [6] [] [] (c1 hc2) ?_;obtain⟨x3,hx3,h⟩:=bind_some h;refine gR hq [1,7,8,9,16] [] [] [(Z2 x3)] (c1 (ok_code_opFits (aB.getD i1.toNat default) x3 hx3)) ?_;refine gC h (fun h=>?_) (fun h=>?_)
   ·refine Af hq [4] [] ?_;cases h;exact gO (K1 (Ja [] (Le.refl _ _)))
   ·refine Af hq [1,7,8,9] [] ?_;cases h;exact gN Cm
  ·cases h;exact gO (Bj (Bx [] [] hq))
 ·clear hx4;rcases x4 with _|r6
  ·refine gA ?_;refine Af hq [4] [] ?_;obtain rfl:=OI h;exact C0 []
  ·refine Mk (fun st' hk=>?_);obtain rfl:=OI h;exact gK hk
def Ko(aI:Hn):Option Bool:=
 ((Dr ([aI.Kind,aI.Arg]:List Int)).bind fun x1=>((bif (x1==true) then Gk aI.To else some false).bind fun x2=>(some (bif x1 then x2 else false))))
theorem Za(aI:Hn)(r:Bool)(h:Ko aI=some r):Spec Tryz.prog 97 [(.agg (eTEnd aI))] [] (.bool r) []:=by
 refine Ac mix Tryz.func97 (fun Γ hq=>?_);unfold Ko at h;refine Af hq [1] [1] ?_;obtain⟨x1,hx1,h⟩:=bind_some h;obtain⟨x2,hx2,h⟩:=bind_some h;refine gR hq [2] [] [(7,(AV.list 1 Aj 0 ([aI.Kind,aI.Arg]:List Int) .exact))] [(Z2 x1),(Z2 x2)] (ci (Cu 1 Aj (0:Int) ([aI.Kind,aI.Arg]:List Int)) (ci (G7 ([aI.Kind,aI.Arg]:List Int) x1 hx1) (ci (gI (x1==true)) (ci (gI (x1==true)) (ci (fun(hg:(x1==true)=true)=>(Ld aI.To x2 (Bq hg hx2))) (c1 (Mb x1))))))) ?_;cases h;exact C0 []
def Jh(aM:Ad):Option Bool:=
 ((Gr aM.Phis).bind fun x1=>((bif (x1==true) then Hc aM.Ops else some false).bind fun x2=>((bif ((bif x1 then x2 else false)==true) then Ko (⟨aM.End.Kind,aM.End.Arg,aM.End.To⟩:Hn) else some false).bind fun x3=>(some (bif (bif x1 then x2 else false) then x3 else false)))))
theorem W0(aM:Ad)(r:Bool)(h:Jh aM=some r):Spec Tryz.prog 71 [(.agg (A5 aM))] [] (.bool r) []:=by
 refine Ac mix Tryz.func71 (fun Γ hq=>?_);unfold Jh at h;refine Af hq [1] [1] ?_;obtain⟨x1,hx1,h⟩:=bind_some h;obtain⟨x2,hx2,h⟩:=bind_some h;obtain⟨x3,hx3,h⟩:=bind_some h;refine gR hq [2] [] [] [(Z2 x1),(Z2 x2),(Z2 x3)] (ci (Re aM.Phis x1 hx1) (ci (gI (x1==true)) (ci (gI (x1==true)) (ci (fun(hg:(x1==true)=true)=>(Sq aM.Ops x2 (Bq hg hx2))) (ci (Mb x1) (ci (gI ((bif x1 then x2 else false)==true)) (ci (gI ((bif x1 then x2 else false)==true)) (ci (fun(hg:((bif x1 then x2 else false)==true)=true)=>(Za (⟨aM.End.Kind,aM.End.Arg,aM.End.To⟩:Hn) x3 (Bq hg hx3))) (c1 (Mb (bif x1 then x2 else false))))))))))) ?_;cases h;exact C0 []
def Ep(aB:List Ad):Int→Option (LR Int (Unit ⊕ Bool)):=
 fun(i1:Int)=>(bif (decide (i1<(aB.length:Int))) then(A9 (Ba i1 aB.length) ((Jh (aB.getD i1.toNat default)).bind fun x3=>(bif (!x3) then(some (.done (.inr false))) else(some (.next (w64 (i1+1))))))) else(some (.done (.inl ()))))
def P2(Γ:H4)(aB:List Ad)(r:Bool):Exit→St→Prop:=fK Tryz.prog Γ Tryz.f70.results.toList [] (.bool r) []
def F0(aB:List Ad):Option Bool:=
 ((Ag (Ep aB) (0:Int)).bind (fun x4=>(match x4 with|(.inl _)=>(some true)|(.inr r6)=>(some r6))))
theorem Px(aB:List Ad)(r:Bool)(h:F0 aB=some r):Spec Tryz.prog 70 [(AV.list 5 A5 default aB .none),(.clo 71 [] [])] [] (.bool r) []:=by
 refine Ac mix Tryz.func70 (fun Γ hq=>?_);unfold F0 at h;refine Af hq [0,1] [] ?_;refine Af hq [1,7,8,9] [] ?_;obtain⟨x4,hx4,h⟩:=bind_some h;refine gL hq hx4 [1,7,8,9] [] (fun u i1=>(Ds u [(9,(Z6 i1))] [])) (fun u x_=>match x_ with|(.inl _)=>aG Γ (.exit 0) (⟨[],[],[]⟩:St)|(.inr r_)=>aR (P2 Γ aB r_)) ?_ ?_
 ·intro i1 y h;unfold Ep at h;refine Af hq [1,7,8,9,10] [] ?_;refine gC h (fun h=>?_) (fun h=>?_)
  ·obtain⟨hc2,h⟩:=Aa h;refine gR hq [1,6,7,8,9] [6] [] [] (c1 hc2) ?_;obtain⟨x3,hx3,h⟩:=bind_some h;refine gR hq [1,7,8,9,16] [] [] [(Z2 x3)] (c1 (W0 (aB.getD i1.toNat default) x3 hx3)) ?_;refine gC h (fun h=>?_) (fun h=>?_)
   ·refine Af hq [4] [] ?_;cases h;exact gO (K1 (Ja [] (Le.refl _ _)))
   ·refine Af hq [1,7,8,9] [] ?_;cases h;exact gN Cm
  ·cases h;exact gO (Bj (Bx [] [] hq))
 ·clear hx4;rcases x4 with _|r6
  ·refine gA ?_;refine Af hq [4] [] ?_;obtain rfl:=OI h;exact C0 []
  ·refine Mk (fun st' hk=>?_);obtain rfl:=OI h;exact gK hk
def Q2(a0:TFunc):=(decide (((a0.Blocks.length:Int):Int)<1))
def Q1(a0:TFunc):=(decide (((16:Int):Int)<(a0.Params.length:Int)))
def Om(a0:TFunc):Option Bool:=
 (bif (bif (decide (((a0.Blocks.length:Int):Int)<1)) then true else(decide (((64:Int):Int)<(a0.Blocks.length:Int)))) then(some false) else((bif ((decide (((16:Int):Int)<(a0.Params.length:Int)))==false) then Nl a0 else some (0:Int)).bind fun x1=>(bif (bif (decide (((16:Int):Int)<(a0.Params.length:Int))) then true else(decide (((512:Int):Int)<x1))) then(some false) else((Dr a0.Params).bind fun x2=>((bif (x2==true) then Dr ([a0.Ret]:List Int) else some false).bind fun x3=>((bif ((bif x2 then x3 else false)==true) then F0 a0.Blocks else some false).bind fun x4=>(some (bif (bif x2 then x3 else false) then x4 else false))))))))
theorem ok_code_May(a0:TFunc)(r:Bool)(h:Om a0=some r):Spec Tryz.prog 48 [(.agg (eTFunc a0))] [] (.bool r) []:=by
 refine Ac mix Tryz.func48 (fun Γ hq=>?_);unfold Om at h;refine Af hq [1] [1] ?_;refine gR hq [1,12] [1] [] [] (ci (gI ((Q2 a0)==false)) (ci (gI ((Q2 a0)==false)) (ci (gI ((Q2 a0)==false)) (c1 (K2 (Q2 a0)))))) ?_;refine gC h (fun h=>?_) (fun h=>?_)
 ·refine Af hq [2] [] ?_;obtain rfl:=OI h;exact C0 []
 ·obtain⟨x1,hx1,h⟩:=bind_some h;refine gR hq [1,21] [1] [] [(Z32 x1)] (ci (gI ((Q1 a0)==false)) (ci (fun(hg:((Q1 a0)==false)=true)=>(ok_code_Size a0 x1 (Bq hg hx1))) (ci (gI ((Q1 a0)==false)) (c1 (K2 (Q1 a0)))))) ?_;refine gC h (fun h=>?_) (fun h=>?_)
  ·refine Af hq [2] [] ?_;obtain rfl:=OI h;exact C0 []
  ·obtain⟨x2,hx2,h⟩:=bind_some h;obtain⟨x3,hx3,h⟩:=bind_some h;obtain⟨x4,hx4,h⟩:=bind_some h;refine gR hq [2] [] [(28,(Z27 a0.Ret))] [(Z2 x2),(Z2 x3),(Z2 x4)] (ci (G7 a0.Params x2 hx2) (ci (gI (x2==true)) (ci (gI (x2==true)) (ci (show((x2==true)=true→(AVle (.slice 1 1 (fun i=>([[(Z6 a0.Ret)]]:List (List AV)).getD i []) .exact) (Z27 a0.Ret))) from(fun hg=>@(Cu 1 Aj (0:Int) ([a0.Ret]:List Int)))) (ci (gI (x2==true)) (ci (fun(hg:(x2==true)=true)=>(G7 ([a0.Ret]:List Int) x3 (Bq hg hx3))) (ci (Mb x2) (ci (gI ((bif x2 then x3 else false)==true)) (ci (gI ((bif x2 then x3 else false)==true)) (ci (fun(hg:((bif x2 then x3 else false)==true)=true)=>(Px a0.Blocks x4 (Bq hg hx4))) (c1 (Mb (bif x2 then x3 else false))))))))))))) ?_;cases h;exact C0 []
def Jg(aa9:Bool)(aI:Int):Option Int:=
 (bif aa9 then(some (0:Int)) else(some aI))
theorem R9(aa9:Bool)(aI:Int)(r:Int)(h:Jg aa9 aI=some r):Spec Tryz.prog 47 [(.bool aa9),(.int .i64 aI)] [] (.int .i64 r) []:=by
 refine Ac mix Tryz.func47 (fun Γ hq=>?_);unfold Jg at h;refine Af hq [0,1] [] ?_;refine Af hq [1,5] [] ?_;refine gC h (fun h=>?_) (fun h=>?_)
 ·refine Af hq [4] [] ?_;cases h;exact C0 []
 ·refine Af hq [4] [] ?_;obtain rfl:=OI h;exact C0 []
def Ha(a4:TFunc)(a9:Int)(aA:List Int)(a7:List Ao):Option (Int×TFunc×Int×List Int×List Ao):=
 ((Om a4).bind fun x1=>((Jg x1 (4:Int)).bind fun x2=>(some (x2,a4,a9,aA,a7))))
theorem So(a4:TFunc)(a9:Int)(aA:List Int)(a7:List Ao)(r:(Int×TFunc×Int×List Int×List Ao))(h:Ha a4 a9 aA a7=some r):Spec Tryz.prog 30 [(.ptr 30000 0)] [(30000,.row 59 [(AV.list 1 Aj 0 a4.Params .none),(.int .i64 a4.Ret),(AV.list 5 A5 default a4.Blocks .none),(.int .i64 a9),(AV.list 1 Aj 0 aA .none),.nilm,(AV.list 5 C8 default a7 (.own 37006))]),(37006,.tok 5 104 a7.length)] (.int .i64 r.1) [(30000,.row 59 [(AV.list 1 Aj 0 r.2.1.Params .none),(.int .i64 r.2.1.Ret),(AV.list 5 A5 default r.2.1.Blocks .none),(.int .i64 r.2.2.1),(AV.list 1 Aj 0 r.2.2.2.1 .none),.nilm,(AV.list 5 C8 default r.2.2.2.2 (.own 37006))]),(37006,.tok 5 104 r.2.2.2.2.length)]:=by
 refine Ac mix Tryz.func30 (fun Γ hq=>?_);unfold Ha at h;refine Af hq [0] [30000,37006] ?_;obtain⟨x1,hx1,h⟩:=bind_some h;obtain⟨x2,hx2,h⟩:=bind_some h;refine gR hq [2] [30000,37006] [] [(Z2 x1),(Z32 x2)] (ci (ok_code_May a4 x1 hx1) (c1 (R9 x1 (4:Int) x2 hx2))) ?_;cases h;exact C0 [(30000,30000),(37006,37006)]
def Iq(aP:Int):Option Bool:=
 (some (bif (decide (((1:Int):Int)≤aP)) then(decide (aP≤64)) else false))
theorem Qe(aP:Int)(r:Bool)(h:Iq aP=some r):Spec Tryz.prog 72 [(.int .i64 aP)] [] (.bool r) []:=by
 refine Ac mix Tryz.func72 (fun Γ hq=>?_);unfold Iq at h;refine Af hq [0] [] ?_;refine gR hq [2] [] [] [] (ci (gI ((decide (((1:Int):Int)≤aP))==true)) (c1 (Mb (decide (((1:Int):Int)≤aP))))) ?_;cases h;exact C0 []
def Hu(aK:Int)(aP:Int):Option Bool:=
 (some (bif (decide (((0:Int):Int)≤aK)) then(decide (aK<aP)) else false))
theorem M8(aK:Int)(aP:Int)(r:Bool)(h:Hu aK aP=some r):Spec Tryz.prog 77 [(.int .i64 aK),(.int .i64 aP)] [] (.bool r) []:=by
 refine Ac mix Tryz.func77 (fun Γ hq=>?_);unfold Hu at h;refine Af hq [0,1] [] ?_;refine gR hq [4] [] [] [] (ci (gI ((decide (((0:Int):Int)≤aK))==true)) (ci (gI ((decide (((0:Int):Int)≤aK))==true)) (c1 (Mb (decide (((0:Int):Int)≤aK)))))) ?_;cases h;exact C0 []
def Cj(aI:Hn)(aP:Int):Int→Option (LR Int (Unit ⊕ Bool)):=
 fun(i7:Int)=>(bif (decide (i7<(aI.To.length:Int))) then(A9 (Ba i7 aI.To.length) ((bif ((((aI.To.getD i7.toNat 0):Int)==0)==false) then Hu (aI.To.getD i7.toNat 0) aP else some false).bind fun x9=>(bif (bif (((aI.To.getD i7.toNat 0):Int)==0) then true else(!x9)) then(some (.done (.inr false))) else(some (.next (w64 (i7+1))))))) else(some (.done (.inl ()))))
def Rx(Γ:H4)(aI:Hn)(aP:Int)(r:Bool):Exit→St→Prop:=fK Tryz.prog Γ Tryz.f73.results.toList [] (.bool r) []
def Q3(aI:Hn)(i7:Int):=(((aI.To.getD i7.toNat 0):Int)==0)
def J4(aI:Hn)(aP:Int):Option Bool:=
 (Option.bind (α:=(Int ⊕ Bool)) (Option.bind (α:=Bool) (bif (aI.Kind==0) then(some (aI.Kind==0)) else(some (aI.Kind==3))) (fun x3=>(bif x3 then(some (.inl (0:Int))) else(bif (aI.Kind==1) then(some (.inl (1:Int))) else(bif (aI.Kind==2) then(some (.inl (2:Int))) else(some (.inr false))))))) (fun x5=>(match x5 with|(.inl i1)=>(bif (((aI.To.length:Int):Int)!=i1) then(some false) else((Ag (Cj aI aP) (0:Int)).bind (fun x10=>(match x10 with|(.inl _)=>(some true)|(.inr r12)=>(some r12)))))|(.inr r13)=>(some r13))))
theorem X3(aI:Hn)(aP:Int)(r:Bool)(h:J4 aI aP=some r):Spec Tryz.prog 73 [(.agg (eTEnd aI)),(.int .i64 aP)] [] (.bool r) []:=by
 refine Ac mix Tryz.func73 (fun Γ hq=>?_);unfold J4 at h;refine Af hq [1,2] [2] ?_;refine Af hq [1,2,5] [2] ?_;obtain⟨x5,hx5,h⟩:=bind_some h;refine gJ hx5 (fun x_=>match x_ with|(.inl i1)=>aG Γ .normal (⟨[(1,(Z6 aP)),O8,(5,(Z6 i1))],[(2,.row 42 [(Z6 aI.Kind),(Z6 aI.Arg),(Z7 aI.To)])],[]⟩:St)|(.inr r_)=>aR (Rx Γ aI aP r_)) ?_ ?_
 ·clear h hx5;intro y h;refine Af hq [1,2,5,9] [2] ?_;obtain⟨x3,hx3,h⟩:=bind_some h;refine gJ hx3 (fun b2=>aG Γ .normal (⟨[(1,(Z6 aP)),O8,(5,Mw),(9,(Z6 aI.Kind)),(10,(.bool b2))],[(2,.row 42 [(Z6 aI.Kind),(Z6 aI.Arg),(Z7 aI.To)])],[]⟩:St)) ?_ ?_
  ·clear h hx3;intro y h;refine Af hq [1,2,5,9,10] [2] ?_;refine gC h (fun h=>?_) (fun h=>?_)
   ·cases h;exact gK (Bj Cm)
   ·refine Af hq [1,2,5,9,10] [2] ?_;cases h;exact gK (Bj Cm)
  ·clear hx3;refine gA ?_;refine gC h (fun h=>?_) (fun h=>?_)
   ·cases h;exact gK (Bj (Bx [1,2,5] [2] hq))
   ·refine Af hq [1,2,9,13] [2] ?_;refine gC h (fun h=>?_) (fun h=>?_)
    ·refine Af hq [1,2,5] [2] ?_;cases h;exact gK (Bj Cm)
    ·refine Af hq [1,2,15] [2] ?_;refine gC h (fun h=>?_) (fun h=>?_)
     ·refine Af hq [1,2,5] [2] ?_;cases h;exact gK (Bj Cm)
     ·refine Af hq [4] [] ?_;cases h;exact gK (K1 (Ja [] (Le.refl _ _)))
 ·clear hx5;rcases x5 with i1|r13
  ·refine gA ?_;refine Af hq [1,2,21] [2] ?_;refine gC h (fun h=>?_) (fun h=>?_)
   ·refine Af hq [4] [] ?_;obtain rfl:=OI h;exact C0 []
   ·refine Af hq [1,23,24,25] [] ?_;obtain⟨x10,hx10,h⟩:=bind_some h;refine gL hq hx10 [1,23,24,25] [] (fun u i7=>(Ds u [(25,(Z6 i7))] [])) (fun u x_=>match x_ with|(.inl _)=>aG Γ (.exit 1) (⟨[],[],[]⟩:St)|(.inr r_)=>aR (Rx Γ aI aP r_)) ?_ ?_
    ·intro i7 y h;unfold Cj at h;refine Af hq [1,23,24,25,26] [] ?_;refine gC h (fun h=>?_) (fun h=>?_)
     ·obtain⟨hc8,h⟩:=Aa h;refine gR hq [1,7,23,24,25] [] [] [] (c1 hc8) ?_;obtain⟨x9,hx9,h⟩:=bind_some h;refine gR hq [1,23,24,25,36] [] [] [(Z2 x9)] (ci (gI ((Q3 aI i7)==false)) (ci (gI ((Q3 aI i7)==false)) (ci (fun(hg:((Q3 aI i7)==false)=true)=>(M8 (aI.To.getD i7.toNat 0) aP x9 (Bq hg hx9))) (ci (gI ((Q3 aI i7)==false)) (c1 (K2 (Q3 aI i7))))))) ?_;refine gC h (fun h=>?_) (fun h=>?_)
      ·refine Af hq [4] [] ?_;cases h;exact gO (K1 (Ja [] (Le.refl _ _)))
      ·refine Af hq [1,23,24,25] [] ?_;cases h;exact gN Cm
     ·cases h;exact gO (Bj (Bx [] [] hq))
    ·clear hx10;rcases x10 with _|r12
     ·refine gA ?_;refine Af hq [4] [] ?_;obtain rfl:=OI h;exact C0 []
     ·refine Mk (fun st' hk=>?_);obtain rfl:=OI h;exact gK hk
  ·refine Mk (fun st' hk=>?_);obtain rfl:=OI h;exact gK hk
def Fc(a5:List (List Int))(i2:Int):(Int×List (List Int))→Option (LR (Int×List (List Int)) (List (List Int))):=
 fun((i6,l7):(Int×List (List Int)))=>(bif (decide (i6<((a5.getD i2.toNat []).length:Int))) then(A9 (Ba i6 (a5.getD i2.toNat []).length) (A9 (Ba ((a5.getD i2.toNat []).getD i6.toNat 0) l7.length) (A9 (Ba ((a5.getD i2.toNat []).getD i6.toNat 0) l7.length) (A9 ((l7.getD ((a5.getD i2.toNat []).getD i6.toNat 0).toNat []).length+([i2]:List Int).length≤room) (A9 (Ba ((a5.getD i2.toNat []).getD i6.toNat 0) l7.length) (some (.next ((w64 (i6+1)),(l7.set ((a5.getD i2.toNat []).getD i6.toNat 0).toNat ((l7.getD ((a5.getD i2.toNat []).getD i6.toNat 0).toNat [])++([i2]:List Int))))))))))) else(some (.done l7)))
def Fd(a5:List (List Int)):(Int×List (List Int))→Option (LR (Int×List (List Int)) (List (List Int))):=
 fun((i2,l3):(Int×List (List Int)))=>(bif (decide (i2<(a5.length:Int))) then(A9 (Ba i2 a5.length) ((Ag (Fc a5 i2) ((0:Int),l3)).bind (fun x14=>(some (.next ((w64 (i2+1)),x14)))))) else(some (.done l3)))
def Q8(i2:Int):=([i2]:List Int)
def Q4(a5:List (List Int))(i2:Int)(i6:Int):=((a5.getD i2.toNat []).getD i6.toNat 0)
def Q9(l7:List (List Int))(a5:List (List Int))(i2:Int)(i6:Int):=(l7.getD (Q4 a5 i2 i6).toNat [])
def Q5(a5:List (List Int)):=(List.replicate (a5.length:Int).toNat ([]:List Int))
def Q11(l7:List (List Int))(a5:List (List Int))(i2:Int)(i6:Int):=(l7.set (Q4 a5 i2 i6).toNat ((Q9 l7 a5 i2 i6)++(Q8 i2)))
def Q7(a5:List (List Int)):List (Nat×AV):=[(0,(Z19 a5)),(3,(.vsl 10 (a5.length:Int).toNat))]
def Q6(l7:List (List Int))(i2:Int)(a5:List (List Int))(i6:Int):List (Nat×AV):=[(3,(.vsl 10 l7.length)),(4,(Z6 i2)),(11,(Z19 a5)),(12,(Z41 a5.length)),(13,(Z6 i2)),(18,(AV.list 1 Aj 0 (a5.getD i2.toNat []) .none)),(19,(.int .i64 ((a5.getD i2.toNat []).length:Int))),(20,(Z6 i6))]
def Q10(l7:List (List Int))(i2:Int)(a5:List (List Int))(i6:Int):List (Nat×AV):=[(3,(.vsl 10 l7.length)),(4,(Z6 i2)),(7,(Z6 (Q4 a5 i2 i6))),(11,(Z19 a5)),(12,(Z41 a5.length)),(13,(Z6 i2)),(18,(AV.list 1 Aj 0 (a5.getD i2.toNat []) .none)),(19,(.int .i64 ((a5.getD i2.toNat []).length:Int))),(20,(Z6 i6))]
def Jj(a5:List (List Int)):Option (List (List Int)):=
 (A9 (0≤(a5.length:Int)∧(a5.length:Int)≤(a5.length:Int)∧(a5.length:Int)≤(room:Int)) ((Ag (Fd a5) ((0:Int),(List.replicate (a5.length:Int).toNat ([]:List Int)))).bind (fun x16=>(some x16))))
theorem Sb(a5:List (List Int))(r:List (List Int))(h:Jj a5=some r):Spec Tryz.prog 75 [(AV.list 1 Hp [] a5 .none)] [] (AV.list 1 Hp [] r (.own 20000)) [(20000,.tok 1 22 r.length)]:=by
 refine Ac mix Tryz.func75 (fun Γ hq=>?_);have hΓ:=hq.own;unfold Jj at h;refine gR hq [0] [] [(2,Z36)] [] (c1 (E0 1 Hp [])) ?_;obtain⟨hc1,h⟩:=Aa h;refine gR hq [0,3] [10] [] [] (c1 hc1) ?_;refine N3 (⟨(Q7 a5),[(10,.arr 1 22 ((a5.length:Int).toNat) (fun i_=>AV.eraseAll (fun n_=>Dp n_ [10]) ((fun _=>[Z29]) i_)))],[]⟩:St) ?_;refine K6 (Le.trans (Ic (st':=⟨(Q7 a5),[(10,.arr 1 22 ((a5.length:Int).toNat) (Ky 1 Aj (0:Int) (Q5 a5) (fun _=>.exact)))],[]⟩) (TmpsLe.refl _) (.arr fam_zero .nil)) (Le.trans (Le.trans (le_birth (r:=10) (b:=70010) Aj (0:Int) (Q5 a5) 3 rfl rfl (List.length_replicate ..).symm (fun h_=>absurd h_ (by decide))) (Im (st':=⟨(Q7 a5),[(10,.arr 1 22 ((a5.length:Int).toNat) (Ky 1 Aj (0:Int) (Q5 a5) (Tag.fam 70010)))],[(70010,⟨1,3,Ki (Q5 a5)⟩)]⟩) (by kernel_rfl))) (Im (congrArg (fun k_:Nat=>(⟨[(0,(Z19 a5)),(3,(.vsl 10 k_))],[(Z8 10 k_ (Q5 a5) 70010)],[(70010,⟨1,3,Ki (Q5 a5)⟩)]⟩:St)) (show(a5.length:Int).toNat=(Q5 a5).length from(List.length_replicate ..).symm))))) ?_;refine Af hq [3,11,12,13] [10,70010] ?_;obtain⟨x16,hx16,h⟩:=bind_some h;refine gL hq hx16 [3,11,12,13] [10,70010] (fun u (i2,l3)=>(Ds u [(3,(.vsl 10 l3.length)),(13,(Z6 i2))] [(Z8 10 l3.length l3 70010)] [(70010,⟨1,3,Ki l3⟩)])) (fun u l4=>aG Γ (.exit 0) (⟨[(3,(.vsl 10 l4.length))],[(Z8 10 l4.length l4 70010)],[(70010,⟨1,3,Ki l4⟩)]⟩:St)) ?_ ?_
 ·rintro⟨i2,l3⟩ y h;unfold Fd at h;refine Af hq [3,11,12,13,14] [10,70010] ?_;refine gC h (fun h=>?_) (fun h=>?_)
  ·obtain⟨hc5,h⟩:=Aa h;refine gR hq [3,4,5,11,12,13] [10,70010] [] [] (c1 hc5) ?_;refine Af hq [3,4,11,12,13,18,19,20] [10,70010] ?_;obtain⟨x14,hx14,h⟩:=bind_some h;refine gL hq hx14 [3,4,11,12,13,18,19,20] [10,70010] (fun u (i6,l7)=>(Ds u [(3,(.vsl 10 l7.length)),(20,(Z6 i6))] [(Z8 10 l7.length l7 70010)] [(70010,⟨1,3,Ki l7⟩)])) (fun u l8=>aG Γ (.exit 2) (Lr [3,11,12,13] [10,70010] u [(3,(.vsl 10 l8.length))] [(Z8 10 l8.length l8 70010)] [(70010,⟨1,3,Ki l8⟩)])) ?_ ?_
   ·rintro⟨i6,l7⟩ y h;unfold Fc at h;refine Af hq [3,4,11,12,13,18,19,20,21] [10,70010] ?_;refine gC h (fun h=>?_) (fun h=>?_)
    ·obtain⟨hc9,h⟩:=Aa h;refine gR hq [3,4,7,11,12,13,18,19,20] [10,70010] [] [] (c1 hc9) ?_;refine N3 (⟨(Q10 l7 i2 a5 i6),[(Z8 10 l7.length l7 70010)],[(70010,⟨1,3,Ki l7⟩)]⟩:St) ?_;obtain⟨hc10,h⟩:=Aa h;obtain⟨hc11,h⟩:=Aa h;obtain⟨hc12,h⟩:=Aa h;obtain⟨hc13,h⟩:=Aa h;refine K6 (Le.trans (le_take (r:=10) (b:=70010) (k:=60010) Aj (0:Int) l7 (Q4 a5 i2 i6).toNat 3 rfl rfl rfl rfl (Ml hc10) (by kernel_rfl) (.here .nil)) (Im (st':=⟨(Q10 l7 i2 a5 i6),[(10,.arr 1 22 l7.length (Ky 1 Aj (0:Int) l7 (G2 70010 (Q4 a5 i2 i6).toNat 60010))),(60010,.tok 1 3 ((Q9 l7 a5 i2 i6).length))],[(70010,⟨1,3,Tq l7 (Q4 a5 i2 i6).toNat⟩)]⟩) (by kernel_rfl))) ?_;refine gR hq [3,4,11,12,13,18,19,20] [10,60010,70010] [(29,(Z13 (Q9 l7 a5 i2 i6) 60010)),(31,(AV.list 1 Aj 0 (Q8 i2) .exact)),(32,(AV.list 1 Aj 0 ((Q9 l7 a5 i2 i6)++(Q8 i2)) (.own 60010)))] [] (ci hc11 (ci (Eq.refl l7.length) (ci (show(AVle (((Ky 1 Aj (0:Int) l7 (G2 70010 (Q4 a5 i2 i6).toNat 60010)) (Q4 a5 i2 i6).toNat).getD 0 .any) (Z13 (Q9 l7 a5 i2 i6) 60010)) from av_famtag) (ci (Cu 1 Aj (0:Int) (Q8 i2)) (ci (Eq.refl ((Q9 l7 a5 i2 i6).length)) (ci hc12 (ci (Kf 1 60010 Aj (0:Int) (Q9 l7 a5 i2 i6) (Q8 i2)) (ci (Gl (Q9 l7 a5 i2 i6) (Q8 i2)) (ci hc13 (c1 (Eq.refl l7.length))))))))))) ?_;refine N3 (⟨(Q6 l7 i2 a5 i6),[(10,.arr 1 22 l7.length (fun i_=>AV.eraseAll (fun n_=>Dp n_ [10,60010,70010]) ((Ga (Ky 1 Aj (0:Int) l7 (G2 70010 (Q4 a5 i2 i6).toNat 60010)) (Q4 a5 i2 i6).toNat 0 [(AV.list 1 Aj 0 ((Q9 l7 a5 i2 i6)++(Q8 i2)) (.own 60010))]) i_))),(60010,.tok 1 3 (((Q9 l7 a5 i2 i6)++(Q8 i2)).length))],[(70010,⟨1,3,Tq l7 (Q4 a5 i2 i6).toNat⟩)]⟩:St) ?_;refine K6 (Le.trans (Le.trans (le_put (r:=10) (b:=70010) (k:=60010) Aj (0:Int) l7 (Q4 a5 i2 i6).toNat ((Q9 l7 a5 i2 i6)++(Q8 i2)) 3 rfl (putF_fam (Ml hc10) rfl rfl) rfl rfl rfl rfl (Ml hc10) (by kernel_rfl) (.here (.tok .nil)) (by rw[hΓ];rfl)) (Im (st':=⟨(Q6 l7 i2 a5 i6),[(Z8 10 l7.length (Q11 l7 a5 i2 i6) 70010)],[(70010,⟨1,3,Ki (Q11 l7 a5 i2 i6)⟩)]⟩) (by kernel_rfl))) (Im (congrArg (fun k_:Nat=>(⟨[(3,(.vsl 10 k_)),(4,(Z6 i2)),(11,(Z19 a5)),(12,(Z41 a5.length)),(13,(Z6 i2)),(18,(AV.list 1 Aj 0 (a5.getD i2.toNat []) .none)),(19,(.int .i64 ((a5.getD i2.toNat []).length:Int))),(20,(Z6 i6))],[(Z8 10 k_ (Q11 l7 a5 i2 i6) 70010)],[(70010,⟨1,3,Ki (Q11 l7 a5 i2 i6)⟩)]⟩:St)) (show l7.length=(Q11 l7 a5 i2 i6).length from(List.length_set ..).symm)))) ?_;refine Af hq [3,4,11,12,13,18,19,20] [10,70010] ?_;cases h;exact gN Cm
    ·cases h;exact gO (Bj (Bx [3,11,12,13] [10,70010] hq))
   ·clear hx14;refine gA ?_;refine Af hq [3,11,12,13] [10,70010] ?_;cases h;exact gN Cm
  ·cases h;exact gO (Bj (Bx [3] [10,70010] hq))
 ·clear hx16;refine gA ?_;refine Af hq [2] [10,70010] ?_;refine N3 (⟨[(2,(.vsl 10 x16.length))],[(Z8 10 x16.length x16 70010)],[(70010,⟨1,3,Ki x16⟩)]⟩:St) ?_;obtain rfl:=OI h;exact gK (e:=.ret) (Ja [(10,20000)] (Le.trans (In (nm:=10) (sz:=1) (n:=x16.length) (e:=22) (f:=(Ky 1 Aj (0:Int) x16 (Tag.fam 70010))) (g:=(fun i=>Hp (x16.getD i []))) rfl ⟨rfl,trivial⟩ (fun _ _=>rfl) (by rw[hΓ];rfl)) (Bx (st':=⟨[(2,(Z49 x16 10))],[(10,.tok 1 22 x16.length)],[]⟩) [2] [10] hq)))
def Gd(a0:TFunc):(Int×List (List Int))→Option (LR (Int×List (List Int)) (List (List Int) ⊕ (TGraph×Int))):=
 fun((i3,l4):(Int×List (List Int)))=>(bif (decide (i3<(a0.Blocks.length:Int))) then(A9 (Ba i3 a0.Blocks.length) ((J4 (⟨(a0.Blocks.getD i3.toNat default).End.Kind,(a0.Blocks.getD i3.toNat default).End.Arg,(a0.Blocks.getD i3.toNat default).End.To⟩:Hn) (a0.Blocks.length:Int)).bind fun x7=>(bif (!x7) then(some (.done (.inr ((⟨([]:List (List Int)),([]:List (List Int))⟩:TGraph),(5:Int))))) else((Xg ((a0.Blocks.getD i3.toNat default).End.To)).bind fun x8=>(A9 (Ba i3 l4.length) (some (.next ((w64 (i3+1)),(l4.set i3.toNat x8))))))))) else(some (.done (.inl l4))))
def K_graph_Of(Γ:H4)(a0:TFunc)(r:(TGraph×Int)):Exit→St→Prop:=fK Tryz.prog Γ Tryz.f49.results.toList [] (.tuple [(.agg (Jb r.1)),(Z6 r.2)]) []
def Q13:AV:=Z29
def Q14:List (Nat×AV):=[O8,(3,(.int .i64 (5:Int)))]
def Q17(a0:TFunc)(i3:Int):=(a0.Blocks.getD i3.toNat default)
def Q15:AV:=Z59
def Q16(a0:TFunc):=(List.replicate (a0.Blocks.length:Int).toNat ([]:List Int))
def Q12:List AV:=[Z36,Z36]
def Oo(a0:TFunc):Option (TGraph×Int):=
 ((Iq (a0.Blocks.length:Int)).bind fun x1=>(bif (!x1) then(some ((⟨([]:List (List Int)),([]:List (List Int))⟩:TGraph),(5:Int))) else(A9 (0≤(a0.Blocks.length:Int)∧(a0.Blocks.length:Int)≤(a0.Blocks.length:Int)∧(a0.Blocks.length:Int)≤(room:Int)) ((Ag (Gd a0) ((0:Int),(List.replicate (a0.Blocks.length:Int).toNat ([]:List Int)))).bind (fun x10=>(match x10 with|(.inl l5)=>((Jj l5).bind fun x12=>(some ((⟨l5,x12⟩:TGraph),(0:Int))))|(.inr r13)=>(some r13)))))))
theorem ok_graph_Of(a0:TFunc)(r:(TGraph×Int))(h:Oo a0=some r):Spec Tryz.prog 49 [(.agg (eTFunc a0))] [] (.tuple [(.agg (Jb r.1)),(.int .i64 r.2)]) []:=by
 refine Ac mix Tryz.func49 (fun Γ hq=>?_);have hΓ:=hq.own;unfold Oo at h;refine Af hq [1,2] [1,2] ?_;refine Af hq [1,2,4] [1,2] ?_;obtain⟨x1,hx1,h⟩:=bind_some h;refine gR hq [1,2,4,13] [1,2] [] [(Z2 x1)] (c1 (Qe (a0.Blocks.length:Int) x1 hx1)) ?_;refine gC h (fun h=>?_) (fun h=>?_)
 ·refine gR hq [2,3] [2] [(14,(.agg Q12))] [] (c1 (show(AVle (.agg [Q13,Q13]) (.agg Q12)) from(AVle.agg (.cons H2 (.cons H2 .nil))))) ?_;refine N3 (⟨Q14,[(L8 67 Q12)],[]⟩:St) ?_;cases h;exact gK (e:=.ret) (Ja [] (show Le Γ _ (⟨Q14,[(Z55 Q15)],[]⟩:St) from Le.trans (Bx (st':=⟨Q14,[(L8 67 Q12)],[]⟩) [2,3] [2] hq) (Ic (.cons (AVle.refl _) (.cons (AVle.refl _) .nil)) (.row (.cons AVle.untag (.cons AVle.untag .nil)) .nil))))
 ·obtain⟨hc2,h⟩:=Aa h;refine gR hq [1,2,4,5] [1,2,16] [] [] (c1 hc2) ?_;refine K6 (Le.trans (P6 16 (show ∀ k_,k_<((a0.Blocks.length:Int).toNat)→AVleL ((fun i_=>AV.eraseAll (fun n_=>Dp n_ [1,2,16]) ((fun _=>[Q13]) i_)) k_) ((fun i=>Hp ((Q16 a0).getD i [])) k_) from(fun k hk=>Ng (e:=Hp) (d:=[]) (.cons (fun _ _ _ _ _ hh=>AVle.untag _ _ _ _ _ (H2 _ _ _ _ _ hh)) .nil) _ k (Nh hk)))) (O6 (fun(k_:Nat) u=>(Ds u [(5,(.vsl 16 k_))] [(16,.arr 1 22 k_ (fun i=>Hp ((Q16 a0).getD i [])))])) (show(a0.Blocks.length:Int).toNat=(Q16 a0).length from(List.length_replicate ..).symm))) ?_;refine Af hq [2,4,5,18,19,20] [2,16] ?_;obtain⟨x10,hx10,h⟩:=bind_some h;refine gL hq hx10 [2,4,5,18,19,20] [2,16] (fun u (i3,l4)=>(Ds u [(5,(.vsl 16 l4.length)),(20,(Z6 i3))] [(16,.arr 1 22 l4.length (fun i=>Hp (l4.getD i [])))])) (fun u x_=>match x_ with|(.inl l5)=>aG Γ (.exit 0) (Lr [2,5] [2,16] u [(5,(.vsl 16 l5.length))] [(16,.arr 1 22 l5.length (fun i=>Hp (l5.getD i [])))])|(.inr r_)=>aR (K_graph_Of Γ a0 r_)) ?_ ?_
  ·rintro⟨i3,l4⟩ y h;unfold Gd at h;refine Af hq [2,4,5,18,19,20,21] [2,16] ?_;refine gC h (fun h=>?_) (fun h=>?_)
   ·obtain⟨hc6,h⟩:=Aa h;refine gR hq [2,4,5,6,7,18,19,20] [2,7,16] [] [] (c1 hc6) ?_;obtain⟨x7,hx7,h⟩:=bind_some h;refine gR hq [2,4,5,6,7,18,19,20,29] [2,7,16] [] [(Z2 x7)] (c1 (X3 (⟨(Q17 a0 i3).End.Kind,(Q17 a0 i3).End.Arg,(Q17 a0 i3).End.To⟩:Hn) (a0.Blocks.length:Int) x7 hx7)) ?_;refine gC h (fun h=>?_) (fun h=>?_)
    ·refine gR hq [2,3] [2] [(30,(.agg Q12))] [] (c1 (show(AVle (.agg [Q13,Q13]) (.agg Q12)) from(AVle.agg (.cons H2 (.cons H2 .nil))))) ?_;refine N3 (⟨Q14,[(L8 67 Q12)],[]⟩:St) ?_;cases h;exact gO (K1 (Ja [] (show Le Γ _ (⟨Q14,[(Z55 Q15)],[]⟩:St) from Le.trans (Bx (st':=⟨Q14,[(L8 67 Q12)],[]⟩) [2,3] [2] hq) (Ic (.cons (AVle.refl _) (.cons (AVle.refl _) .nil)) (.row (.cons AVle.untag (.cons AVle.untag .nil)) .nil)))))
    ·obtain⟨x8,hx8,h⟩:=bind_some h;obtain⟨hc9,h⟩:=Aa h;refine gR hq [2,4,5,18,19,20] [2,16] [] [⟨[],[],(Z7 x8),[],[]⟩] (ci (xok_rising ((Q17 a0 i3).End.To) x8 hx8) (ci hc9 (c1 (Eq.refl l4.length)))) ?_;refine K6 (Le.trans (P6 16 (show ∀ k_,k_<l4.length→AVleL ((fun i_=>AV.eraseAll (fun n_=>Dp n_ [2,16]) ((Ga (fun i=>Hp (l4.getD i [])) i3.toNat 0 [(Z7 x8)]) i_)) k_) ((fun i=>Hp ((l4.set i3.toNat x8).getD i [])) k_) from(Bt (List.length_set ..).symm (fun k_ hk_=>(congrArg (AV.eraseAll (fun n_=>Dp n_ [2,16])) ((Hz (fun _ _=>rfl) (Jc hc9) rfl) k_ hk_)).trans rfl)))) (O6 (fun(k_:Nat) u=>(Ds u [(5,(.vsl 16 k_))] [(16,.arr 1 22 k_ (fun i=>Hp ((l4.set i3.toNat x8).getD i [])))])) (show l4.length=(l4.set i3.toNat x8).length from(List.length_set ..).symm))) ?_;refine Af hq [2,4,5,18,19,20] [2,16] ?_;cases h;exact gN Cm
   ·cases h;exact gO (Bj (Bx [2,5] [2,16] hq))
  ·clear hx10;rcases x10 with l5|r13
   ·refine gA ?_;refine N3 (⟨[O8,(5,(.vsl 16 l5.length))],[(Z55 Q13),(16,.arr 1 22 l5.length (fun i=>Hp (l5.getD i [])))],[]⟩:St) ?_;refine K6 (Le.trans (In (nm:=16) (sz:=1) (n:=l5.length) (e:=22) (f:=(fun i=>Hp (l5.getD i []))) (g:=(fun i=>Hp (l5.getD i []))) rfl ⟨rfl,trivial⟩ (fun _ _=>rfl) (by rw[hΓ];rfl)) (Im (st':=⟨[O8,(5,(Z49 l5 16))],[(Z55 Q13),(16,.tok 1 22 l5.length)],[]⟩) (by kernel_rfl))) ?_;obtain⟨x12,hx12,h⟩:=bind_some h;refine gR hq [2,3] [2,16,41] [] [⟨[],[(20000,41)],(Z49 x12 20000),[(20000,.tok 1 22 x12.length)],[]⟩] (c1 (Sb l5 x12 hx12)) ?_;cases h;exact C0 []
   ·refine Mk (fun st' hk=>?_);obtain rfl:=OI h;exact gK hk
def C1(a5:List (List Int))(i2:Int):(Int×Int)→Option (LR (Int×Int) (Unit ⊕ Bool)):=
 fun((i4,i5):(Int×Int))=>(bif (decide (i5<((a5.getD i2.toNat []).length:Int))) then(A9 (Ba i5 (a5.getD i2.toNat []).length) ((bif ((decide ((((a5.getD i2.toNat []).getD i5.toNat 0):Int)≤i4))==false) then Hu ((a5.getD i2.toNat []).getD i5.toNat 0) (a5.length:Int) else some false).bind fun x7=>(bif (bif (decide ((((a5.getD i2.toNat []).getD i5.toNat 0):Int)≤i4)) then true else(!x7)) then(some (.done (.inr false))) else(some (.next (((a5.getD i2.toNat []).getD i5.toNat 0),(w64 (i5+1)))))))) else(some (.done (.inl ()))))
def C2(a5:List (List Int)):Int→Option (LR Int (Unit ⊕ Bool)):=
 fun(i2:Int)=>(bif (decide (i2<(a5.length:Int))) then(A9 (Ba i2 a5.length) ((Ag (C1 a5 i2) ((-1:Int),(0:Int))).bind (fun x8=>(match x8 with|(.inl _)=>(some (.next (w64 (i2+1))))|(.inr r10)=>(some (.done (.inr r10))))))) else(some (.done (.inl ()))))
def Ry(Γ:H4)(a5:List (List Int))(r:Bool):Exit→St→Prop:=fK Tryz.prog Γ Tryz.f101.results.toList [] (.bool r) []
def Q18(a5:List (List Int))(i2:Int)(i5:Int)(i4:Int):=(decide ((((a5.getD i2.toNat []).getD i5.toNat 0):Int)≤i4))
def J5(a5:List (List Int)):Option Bool:=
 ((Iq (a5.length:Int)).bind fun x1=>(bif (!x1) then(some false) else((Ag (C2 a5) (0:Int)).bind (fun x11=>(match x11 with|(.inl _)=>(some true)|(.inr r13)=>(some r13))))))
theorem X4(a5:List (List Int))(r:Bool)(h:J5 a5=some r):Spec Tryz.prog 101 [(AV.list 1 Hp [] a5 .none)] [] (.bool r) []:=by
 refine Ac mix Tryz.func101 (fun Γ hq=>?_);unfold J5 at h;refine Af hq [0] [] ?_;obtain⟨x1,hx1,h⟩:=bind_some h;refine gR hq [0,11] [] [] [(Z2 x1)] (c1 (Qe (a5.length:Int) x1 hx1)) ?_;refine gC h (fun h=>?_) (fun h=>?_)
 ·refine Af hq [2] [] ?_;obtain rfl:=OI h;exact C0 []
 ·refine Af hq [0,12,13,14] [] ?_;obtain⟨x11,hx11,h⟩:=bind_some h;refine gL hq hx11 [0,12,13,14] [] (fun u i2=>(Ds u [(14,(Z6 i2))] [])) (fun u x_=>match x_ with|(.inl _)=>aG Γ (.exit 0) (⟨[],[],[]⟩:St)|(.inr r_)=>aR (Ry Γ a5 r_)) ?_ ?_
  ·intro i2 y h;unfold C2 at h;refine Af hq [0,12,13,14,15] [] ?_;refine gC h (fun h=>?_) (fun h=>?_)
   ·obtain⟨hc3,h⟩:=Aa h;refine gR hq [0,4,12,13,14] [] [] [] (c1 hc3) ?_;refine Af hq [0,4,5,12,13,14] [] ?_;refine Af hq [0,5,12,13,14,18,19,20] [] ?_;obtain⟨x8,hx8,h⟩:=bind_some h;refine gL hq hx8 [0,5,12,13,14,18,19,20] [] (fun u (i4,i5)=>(Ds u [(5,(Z6 i4)),(20,(Z6 i5))] [])) (fun u x_=>match x_ with|(.inl _)=>aG Γ (.exit 2) (Lr [0,12,13,14] [] u [] [])|(.inr r_)=>aR (Ry Γ a5 r_)) ?_ ?_
    ·rintro⟨i4,i5⟩ y h;unfold C1 at h;refine Af hq [0,5,12,13,14,18,19,20,21] [] ?_;refine gC h (fun h=>?_) (fun h=>?_)
     ·obtain⟨hc6,h⟩:=Aa h;refine gR hq [0,5,7,12,13,14,18,19,20] [] [] [] (c1 hc6) ?_;obtain⟨x7,hx7,h⟩:=bind_some h;refine gR hq [0,7,12,13,14,18,19,20,33] [] [] [(Z2 x7)] (ci (gI ((Q18 a5 i2 i5 i4)==false)) (ci (gI ((Q18 a5 i2 i5 i4)==false)) (ci (gI ((Q18 a5 i2 i5 i4)==false)) (ci (fun(hg:((Q18 a5 i2 i5 i4)==false)=true)=>(M8 ((a5.getD i2.toNat []).getD i5.toNat 0) (a5.length:Int) x7 (Bq hg hx7))) (ci (gI ((Q18 a5 i2 i5 i4)==false)) (c1 (K2 (Q18 a5 i2 i5 i4)))))))) ?_;refine gC h (fun h=>?_) (fun h=>?_)
      ·refine Af hq [2] [] ?_;cases h;exact gO (K1 (Ja [] (Le.refl _ _)))
      ·refine Af hq [0,5,12,13,14,18,19,20] [] ?_;refine Af hq [0,5,12,13,14,18,19,20] [] ?_;cases h;exact gN Cm
     ·cases h;exact gO (Bj (Bx [0,12,13,14] [] hq))
    ·clear hx8;rcases x8 with _|r10
     ·refine gA ?_;refine Af hq [0,12,13,14] [] ?_;cases h;exact gN Cm
     ·refine Mk (fun st' hk=>?_);cases h;exact gO (K1 hk)
   ·cases h;exact gO (Bj (Bx [] [] hq))
  ·clear hx11;rcases x11 with _|r13
   ·refine gA ?_;refine Af hq [2] [] ?_;obtain rfl:=OI h;exact C0 []
   ·refine Mk (fun st' hk=>?_);obtain rfl:=OI h;exact gK hk
def Bd(aS:List Int)(aU:List Int):Int→Option (LR Int (Unit ⊕ Bool)):=
 fun(i1:Int)=>(bif (decide (i1<(aS.length:Int))) then(A9 (Ba i1 aS.length) (A9 (Ba i1 aU.length) (bif (((aS.getD i1.toNat 0):Int)!=(aU.getD i1.toNat 0)) then(some (.done (.inr false))) else(some (.next (w64 (i1+1))))))) else(some (.done (.inl ()))))
def Qm(Γ:H4)(aS:List Int)(aU:List Int)(r:Bool):Exit→St→Prop:=fK Tryz.prog Γ Tryz.f81.results.toList [] (.bool r) []
def E6(aS:List Int)(aU:List Int):Option Bool:=
 (bif (((aS.length:Int):Int)!=(aU.length:Int)) then(some false) else((Ag (Bd aS aU) (0:Int)).bind (fun x4=>(match x4 with|(.inl _)=>(some true)|(.inr r6)=>(some r6)))))
theorem Md(aS:List Int)(aU:List Int)(r:Bool)(h:E6 aS aU=some r):Spec Tryz.prog 81 [(AV.list 1 Aj 0 aS .none),(AV.list 1 Aj 0 aU .none)] [] (.bool r) []:=by
 refine Ac mix Tryz.func81 (fun Γ hq=>?_);unfold E6 at h;refine Af hq [0,1] [] ?_;refine Af hq [0,1,10] [] ?_;refine gC h (fun h=>?_) (fun h=>?_)
 ·refine Af hq [4] [] ?_;obtain rfl:=OI h;exact C0 []
 ·refine Af hq [0,1,12,13] [] ?_;obtain⟨x4,hx4,h⟩:=bind_some h;refine gL hq hx4 [0,1,12,13] [] (fun u i1=>(Ds u [(13,(Z6 i1))] [])) (fun u x_=>match x_ with|(.inl _)=>aG Γ (.exit 0) (⟨[],[],[]⟩:St)|(.inr r_)=>aR (Qm Γ aS aU r_)) ?_ ?_
  ·intro i1 y h;unfold Bd at h;refine Af hq [0,1,12,13,14] [] ?_;refine gC h (fun h=>?_) (fun h=>?_)
   ·refine Af hq [0,1,5,12,13] [] ?_;obtain⟨hc2,h⟩:=Aa h;obtain⟨hc3,h⟩:=Aa h;refine gR hq [0,1,12,13,24] [] [] [] (ci hc2 (c1 hc3)) ?_;refine gC h (fun h=>?_) (fun h=>?_)
    ·refine Af hq [4] [] ?_;cases h;exact gO (K1 (Ja [] (Le.refl _ _)))
    ·refine Af hq [0,1,12,13] [] ?_;cases h;exact gN Cm
   ·cases h;exact gO (Bj (Bx [] [] hq))
  ·clear hx4;rcases x4 with _|r6
   ·refine gA ?_;refine Af hq [4] [] ?_;obtain rfl:=OI h;exact C0 []
   ·refine Mk (fun st' hk=>?_);obtain rfl:=OI h;exact gK hk
def Ax(aS:List (List Int))(aU:List (List Int)):Int→Option (LR Int (Unit ⊕ Bool)):=
 fun(i1:Int)=>(bif (decide (i1<(aS.length:Int))) then(A9 (Ba i1 aS.length) (A9 (Ba i1 aU.length) ((E6 (aS.getD i1.toNat []) (aU.getD i1.toNat [])).bind fun x4=>(bif (!x4) then(some (.done (.inr false))) else(some (.next (w64 (i1+1)))))))) else(some (.done (.inl ()))))
def L2(Γ:H4)(aS:List (List Int))(aU:List (List Int))(r:Bool):Exit→St→Prop:=fK Tryz.prog Γ Tryz.f102.results.toList [] (.bool r) []
def Ck(aS:List (List Int))(aU:List (List Int)):Option Bool:=
 (bif (((aS.length:Int):Int)!=(aU.length:Int)) then(some false) else((Ag (Ax aS aU) (0:Int)).bind (fun x5=>(match x5 with|(.inl _)=>(some true)|(.inr r7)=>(some r7)))))
theorem Lz(aS:List (List Int))(aU:List (List Int))(r:Bool)(h:Ck aS aU=some r):Spec Tryz.prog 102 [(AV.list 1 Hp [] aS .none),(AV.list 1 Hp [] aU .none),(.clo 81 [] [])] [] (.bool r) []:=by
 refine Ac mix Tryz.func102 (fun Γ hq=>?_);unfold Ck at h;refine Af hq [0,1,2] [] ?_;refine Af hq [0,1,2,14] [] ?_;refine gC h (fun h=>?_) (fun h=>?_)
 ·refine Af hq [6] [] ?_;obtain rfl:=OI h;exact C0 []
 ·refine Af hq [1,2,15,16,17] [] ?_;obtain⟨x5,hx5,h⟩:=bind_some h;refine gL hq hx5 [1,2,15,16,17] [] (fun u i1=>(Ds u [(17,(Z6 i1))] [])) (fun u x_=>match x_ with|(.inl _)=>aG Γ (.exit 0) (⟨[],[],[]⟩:St)|(.inr r_)=>aR (L2 Γ aS aU r_)) ?_ ?_
  ·intro i1 y h;unfold Ax at h;refine Af hq [1,2,15,16,17,18] [] ?_;refine gC h (fun h=>?_) (fun h=>?_)
   ·obtain⟨hc2,h⟩:=Aa h;refine gR hq [1,2,7,8,15,16,17] [] [] [] (c1 hc2) ?_;obtain⟨hc3,h⟩:=Aa h;refine gR hq [1,2,8,9,15,16,17] [] [] [] (c1 hc3) ?_;obtain⟨x4,hx4,h⟩:=bind_some h;refine gR hq [1,2,15,16,17,30] [] [] [(Z2 x4)] (c1 (Md (aS.getD i1.toNat []) (aU.getD i1.toNat []) x4 hx4)) ?_;refine gC h (fun h=>?_) (fun h=>?_)
    ·refine Af hq [6] [] ?_;cases h;exact gO (K1 (Ja [] (Le.refl _ _)))
    ·refine Af hq [1,2,15,16,17] [] ?_;cases h;exact gN Cm
   ·cases h;exact gO (Bj (Bx [] [] hq))
  ·clear hx5;rcases x5 with _|r7
   ·refine gA ?_;refine Af hq [6] [] ?_;obtain rfl:=OI h;exact C0 []
   ·refine Mk (fun st' hk=>?_);obtain rfl:=OI h;exact gK hk
def Np(a2:TGraph):Option Bool:=
 ((J5 a2.Succ).bind fun x1=>((bif (x1==true) then Jj a2.Succ else some []).bind fun x2=>((bif (x1==true) then Ck a2.Pred x2 else some false).bind fun x3=>(some (bif x1 then x3 else false)))))
theorem ok_graph_May(a2:TGraph)(r:Bool)(h:Np a2=some r):Spec Tryz.prog 76 [(.agg (Jb a2))] [] (.bool r) []:=by
 refine Ac mix Tryz.func76 (fun Γ hq=>?_);unfold Np at h;refine Af hq [1] [1] ?_;obtain⟨x1,hx1,h⟩:=bind_some h;obtain⟨x2,hx2,h⟩:=bind_some h;obtain⟨x3,hx3,h⟩:=bind_some h;refine gR hq [2] [] [] [(Z2 x1),⟨[],[],(Z19 x2),[],[]⟩,(Z2 x3)] (ci (X4 a2.Succ x1 hx1) (ci (gI (x1==true)) (ci (gI (x1==true)) (ci (gI (x1==true)) (ci (show((x1==true)=true→(Spec Tryz.prog 75 [(Z19 a2.Succ)] [] (Z19 x2) [])) from(fun hg=>(Spec.drop (Sb a2.Succ x2 (Bq hg hx2))))) (ci (gI (x1==true)) (ci (gI (x1==true)) (ci (fun(hg:(x1==true)=true)=>(Lz a2.Pred x2 x3 (Bq hg hx3))) (c1 (Mb x1)))))))))) ?_;cases h;exact C0 []
def A8 :(Int×Int×List Int)→Option (LR (Int×Int×List Int) (List Int)):=
 fun((i1,i2,l3):(Int×Int×List Int))=>(bif (decide (i1<i2)) then(A9 (Ba i2 l3.length) (A9 (Ba i1 l3.length) (A9 (Ba i1 l3.length) (A9 (Ba i2 l3.length) (some (.next ((w64 (i1+1)),(w64 (i2-1)),((l3.set i1.toNat (l3.getD i2.toNat 0)).set i2.toNat (l3.getD i1.toNat 0))))))))) else(some (.done l3)))
def Q19(l3:List Int)(i1:Int)(i2:Int):=((l3.set i1.toNat (l3.getD i2.toNat 0)).set i2.toNat (l3.getD i1.toNat 0))
def D8(aZ:List Int):Option (List Int):=
 ((Ag (S:=(Int×Int×List Int)) (X:=List Int) A8 ((0:Int),(w64 ((aZ.length:Int)-1)),aZ)).bind (fun x9=>(some x9)))
theorem Lm(aZ:List Int)(r:List Int)(h:D8 aZ=some r):Spec Tryz.prog 78 [(.vsl 34000 aZ.length)] [(34000,.arr 1 3 aZ.length (fun i=>Aj (aZ.getD i 0)))] (.tuple []) [(34000,.arr 1 3 r.length (fun i=>Aj (r.getD i 0)))]:=by
 refine Ac mix Tryz.func78 (fun Γ hq=>?_);unfold D8 at h;refine Af hq [0,2,3] [34000] ?_;obtain⟨x9,hx9,h⟩:=bind_some h;refine gL hq hx9 [0,2,3] [34000] (fun u (i1,i2,l3)=>(Ds u [(0,(.vsl 34000 l3.length)),(2,(Z6 i1)),(3,(Z6 i2))] [(Z4 34000 l3)])) (fun u l4=>aG Γ (.exit 0) (⟨[],[(Z4 34000 l4)],[]⟩:St)) ?_ ?_
 ·rintro⟨i1,i2,l3⟩ y h;unfold A8 at h;refine Af hq [0,2,3,9] [34000] ?_;refine gC h (fun h=>?_) (fun h=>?_)
  ·obtain⟨hc5,h⟩:=Aa h;obtain⟨hc6,h⟩:=Aa h;obtain⟨hc7,h⟩:=Aa h;obtain⟨hc8,h⟩:=Aa h;refine gR hq [0,2,3] [34000] [] [] (ci hc5 (ci (Eq.refl l3.length) (ci hc6 (ci (Eq.refl l3.length) (ci hc7 (ci (Eq.refl l3.length) (ci hc8 (c1 (Eq.refl l3.length))))))))) ?_;refine K6 (Le.trans (P6 34000 (show ∀ k_,k_<l3.length→AVleL ((fun i_=>AV.eraseAll (fun n_=>Dp n_ [34000]) ((Ga (Ga (fun i=>Aj (l3.getD i 0)) i1.toNat 0 [(.int .i64 (l3.getD i2.toNat 0))]) i2.toNat 0 [(.int .i64 (l3.getD i1.toNat 0))]) i_)) k_) ((fun i=>Aj ((Q19 l3 i1 i2).getD i 0)) k_) from(Bt (Eq.trans (List.length_set ..).symm (List.length_set ..).symm) (fun k_ hk_=>(congrArg (AV.eraseAll (fun n_=>Dp n_ [34000])) ((Hz (Hz (fun _ _=>rfl) (Jc hc7) rfl) (inB_lt1 hc8) rfl) k_ hk_)).trans rfl)))) (O6 (fun(k_:Nat) u=>(Ds u [(0,(.vsl 34000 k_))] [(34000,.arr 1 3 k_ (fun i=>Aj ((Q19 l3 i1 i2).getD i 0)))])) (show l3.length=(Q19 l3 i1 i2).length from(Eq.trans (List.length_set ..).symm (List.length_set ..).symm)))) ?_;refine Af hq [0,2,3] [34000] ?_;cases h;exact gN Cm
  ·cases h;exact gO (Bj (Bx [] [34000] hq))
 ·clear hx9;refine gA' (fun st' hl10=>?_);obtain rfl:=OI h;exact gK (e:=.normal) (Ja [(34000,34000)] hl10)
def P8(a2:TGraph)(a3:Int):List Int→Option (LR (List Int) (List Int ⊕ (List Bool×List Int×List Int))):=
 fun(l9:List Int)=>(A9 (Ba ([a3].getD (w64 (([a3].length:Int)-1)).toNat (0:Int)) 64) (A9 (Ba ([a3].getD (w64 (([a3].length:Int)-1)).toNat (0:Int)) a2.Succ.length) (bif (decide (((l9.getD ([a3].getD (w64 (([a3].length:Int)-1)).toNat (0:Int)).toNat (0:Int)):Int)<((a2.Succ.getD ([a3].getD (w64 (([a3].length:Int)-1)).toNat (0:Int)).toNat []).length:Int))) then(A9 (Ba ([a3].getD (w64 (([a3].length:Int)-1)).toNat (0:Int)) a2.Succ.length) (A9 (Ba ([a3].getD (w64 (([a3].length:Int)-1)).toNat (0:Int)) 64) (A9 (Ba (l9.getD ([a3].getD (w64 (([a3].length:Int)-1)).toNat (0:Int)).toNat (0:Int)) (a2.Succ.getD ([a3].getD (w64 (([a3].length:Int)-1)).toNat (0:Int)).toNat []).length) (A9 (Ba ([a3].getD (w64 (([a3].length:Int)-1)).toNat (0:Int)) 64) (A9 (Ba ([a3].getD (w64 (([a3].length:Int)-1)).toNat (0:Int)) 64) (A9 (Ba ((a2.Succ.getD ([a3].getD (w64 (([a3].length:Int)-1)).toNat (0:Int)).toNat []).getD (l9.getD ([a3].getD (w64 (([a3].length:Int)-1)).toNat (0:Int)).toNat (0:Int)).toNat (0:Int)) 64) (bif (!((L7 64 false (List.replicate 64 false) a3.toNat true).getD ((a2.Succ.getD ([a3].getD (w64 (([a3].length:Int)-1)).toNat (0:Int)).toNat []).getD (l9.getD ([a3].getD (w64 (([a3].length:Int)-1)).toNat (0:Int)).toNat (0:Int)).toNat (0:Int)).toNat false)) then(A9 (Ba ((a2.Succ.getD ([a3].getD (w64 (([a3].length:Int)-1)).toNat (0:Int)).toNat []).getD (l9.getD ([a3].getD (w64 (([a3].length:Int)-1)).toNat (0:Int)).toNat (0:Int)).toNat (0:Int)) 64) (A9 ([a3].length+([((a2.Succ.getD ([a3].getD (w64 (([a3].length:Int)-1)).toNat (0:Int)).toNat []).getD (l9.getD ([a3].getD (w64 (([a3].length:Int)-1)).toNat (0:Int)).toNat (0:Int)).toNat (0:Int))]:List Int).length≤room) (some (.done (.inr ((L7 64 false (L7 64 false (List.replicate 64 false) a3.toNat true) ((a2.Succ.getD ([a3].getD (w64 (([a3].length:Int)-1)).toNat (0:Int)).toNat []).getD (l9.getD ([a3].getD (w64 (([a3].length:Int)-1)).toNat (0:Int)).toNat (0:Int)).toNat (0:Int)).toNat true),(L7 64 (0:Int) l9 ([a3].getD (w64 (([a3].length:Int)-1)).toNat (0:Int)).toNat (w64 ((l9.getD ([a3].getD (w64 (([a3].length:Int)-1)).toNat (0:Int)).toNat (0:Int))+1))),([a3]++([((a2.Succ.getD ([a3].getD (w64 (([a3].length:Int)-1)).toNat (0:Int)).toNat []).getD (l9.getD ([a3].getD (w64 (([a3].length:Int)-1)).toNat (0:Int)).toNat (0:Int)).toNat (0:Int))]:List Int)))))))) else(some (.next (L7 64 (0:Int) l9 ([a3].getD (w64 (([a3].length:Int)-1)).toNat (0:Int)).toNat (w64 ((l9.getD ([a3].getD (w64 (([a3].length:Int)-1)).toNat (0:Int)).toNat (0:Int))+1)))))))))))) else(some (.done (.inl l9))))))
def G4(a2:TGraph)(l1:List Bool)(l3:List Int):List Int→Option (LR (List Int) (List Int ⊕ (List Bool×List Int×List Int))):=
 fun(l32:List Int)=>(A9 (Ba (l3.getD (w64 ((l3.length:Int)-1)).toNat (0:Int)) 64) (A9 (Ba (l3.getD (w64 ((l3.length:Int)-1)).toNat (0:Int)) a2.Succ.length) (bif (decide (((l32.getD (l3.getD (w64 ((l3.length:Int)-1)).toNat (0:Int)).toNat (0:Int)):Int)<((a2.Succ.getD (l3.getD (w64 ((l3.length:Int)-1)).toNat (0:Int)).toNat []).length:Int))) then(A9 (Ba (l3.getD (w64 ((l3.length:Int)-1)).toNat (0:Int)) a2.Succ.length) (A9 (Ba (l3.getD (w64 ((l3.length:Int)-1)).toNat (0:Int)) 64) (A9 (Ba (l32.getD (l3.getD (w64 ((l3.length:Int)-1)).toNat (0:Int)).toNat (0:Int)) (a2.Succ.getD (l3.getD (w64 ((l3.length:Int)-1)).toNat (0:Int)).toNat []).length) (A9 (Ba (l3.getD (w64 ((l3.length:Int)-1)).toNat (0:Int)) 64) (A9 (Ba (l3.getD (w64 ((l3.length:Int)-1)).toNat (0:Int)) 64) (A9 (Ba ((a2.Succ.getD (l3.getD (w64 ((l3.length:Int)-1)).toNat (0:Int)).toNat []).getD (l32.getD (l3.getD (w64 ((l3.length:Int)-1)).toNat (0:Int)).toNat (0:Int)).toNat (0:Int)) 64) (bif (!(l1.getD ((a2.Succ.getD (l3.getD (w64 ((l3.length:Int)-1)).toNat (0:Int)).toNat []).getD (l32.getD (l3.getD (w64 ((l3.length:Int)-1)).toNat (0:Int)).toNat (0:Int)).toNat (0:Int)).toNat false)) then(A9 (Ba ((a2.Succ.getD (l3.getD (w64 ((l3.length:Int)-1)).toNat (0:Int)).toNat []).getD (l32.getD (l3.getD (w64 ((l3.length:Int)-1)).toNat (0:Int)).toNat (0:Int)).toNat (0:Int)) 64) (A9 (l3.length+([((a2.Succ.getD (l3.getD (w64 ((l3.length:Int)-1)).toNat (0:Int)).toNat []).getD (l32.getD (l3.getD (w64 ((l3.length:Int)-1)).toNat (0:Int)).toNat (0:Int)).toNat (0:Int))]:List Int).length≤room) (some (.done (.inr ((L7 64 false l1 ((a2.Succ.getD (l3.getD (w64 ((l3.length:Int)-1)).toNat (0:Int)).toNat []).getD (l32.getD (l3.getD (w64 ((l3.length:Int)-1)).toNat (0:Int)).toNat (0:Int)).toNat (0:Int)).toNat true),(L7 64 (0:Int) l32 (l3.getD (w64 ((l3.length:Int)-1)).toNat (0:Int)).toNat (w64 ((l32.getD (l3.getD (w64 ((l3.length:Int)-1)).toNat (0:Int)).toNat (0:Int))+1))),(l3++([((a2.Succ.getD (l3.getD (w64 ((l3.length:Int)-1)).toNat (0:Int)).toNat []).getD (l32.getD (l3.getD (w64 ((l3.length:Int)-1)).toNat (0:Int)).toNat (0:Int)).toNat (0:Int))]:List Int)))))))) else(some (.next (L7 64 (0:Int) l32 (l3.getD (w64 ((l3.length:Int)-1)).toNat (0:Int)).toNat (w64 ((l32.getD (l3.getD (w64 ((l3.length:Int)-1)).toNat (0:Int)).toNat (0:Int))+1)))))))))))) else(some (.done (.inl l32))))))
def Dl(a2:TGraph):(List Bool×List Int×List Int×List Int)→Option (LR (List Bool×List Int×List Int×List Int) (List Int)):=
 fun(s_:(List Bool×List Int×List Int×List Int))=>match s_ with|(l1,l2,l3,l4)=>(A9 (Ba (w64 ((l3.length:Int)-1)) l3.length) ((Ag (G4 a2 l1 l3) l2).bind (fun x47=>(match x47 with|(.inl l33)=>(A9 (l4.length+([(l3.getD (w64 ((l3.length:Int)-1)).toNat (0:Int))]:List Int).length≤room) (A9 (0≤(w64 ((l3.length:Int)-1))∧0+(w64 ((l3.length:Int)-1)).toNat≤l3.length) (bif (decide (((0:Int):Int)<((l3.take (w64 ((l3.length:Int)-1)).toNat).length:Int))) then(some (.next (l1,l33,(l3.take (w64 ((l3.length:Int)-1)).toNat),(l4++([(l3.getD (w64 ((l3.length:Int)-1)).toNat (0:Int))]:List Int))))) else((D8 (l4++([(l3.getD (w64 ((l3.length:Int)-1)).toNat (0:Int))]:List Int))).bind fun x51=>(A9 ((l4++([(l3.getD (w64 ((l3.length:Int)-1)).toNat (0:Int))]:List Int)).length=x51.length) (some (.done x51)))))))|(.inr (l34,l35,l36))=>(some (.next (l34,l35,l36,l4)))))))
def K_graph_Order(Γ:H4)(a2:TGraph)(a3:Int)(r:List Int):Exit→St→Prop:=fK Tryz.prog Γ Tryz.f50.results.toList [] (Z13 r 20000) [(20000,.tok 1 3 r.length)]
def Q38(l1:List Bool):=(fun i=>eB (l1.getD i false))
def Q21(l3:List Int):=(l3.getD (w64 ((l3.length:Int)-1)).toNat (0:Int))
def Q35(l4:List Int)(l3:List Int):=(l4++([(Q21 l3)]:List Int))
def Q31(l10:List Int):=(fun i=>Aj (l10.getD i 0))
def Q37(l33:List Int):=(fun i=>Aj (l33.getD i 0))
def Q24:=(fun n_=>Dp n_ [2,5,6,25,36007])
def Q27(a3:Int):=(fun i=>Aj ([a3].getD i 0))
def Q20(a3:Int):=([a3].getD (w64 (([a3].length:Int)-1)).toNat (0:Int))
def Q34(a3:Int):=(([]:List Int)++([(Q20 a3)]:List Int))
def Q42(a3:Int):=(fun i=>Aj ((Q34 a3).getD i 0))
def Q41(l4:List Int)(l3:List Int):=(fun i=>Aj ((Q35 l4 l3).getD i 0))
def Q28:AV:=Z21
def Q30:=(fun i=>Aj (([]:List Int).getD i 0))
def Q26(l3:List Int):=(0+(w64 ((l3.length:Int)-1)).toNat)
def Q25(a3:Int):=(0+(w64 (([a3].length:Int)-1)).toNat)
def Q40(a3:Int):=([a3].take (w64 (([a3].length:Int)-1)).toNat)
def Q29:=(fun i=>Aj ((List.replicate 64 (0:Int)).getD i 0))
def Q22(a2:TGraph):List AV:=[(Z19 a2.Succ),(Z19 a2.Pred)]
def Q23(a3:Int):=(fun i=>eB ((L7 64 false (List.replicate 64 false) a3.toNat true).getD i false))
def Q33(a2:TGraph)(l3:List Int)(l32:List Int):=((a2.Succ.getD (Q21 l3).toNat []).getD (l32.getD (Q21 l3).toNat (0:Int)).toNat (0:Int))
def Q32(a2:TGraph)(a3:Int)(l9:List Int):=((a2.Succ.getD (Q20 a3).toNat []).getD (l9.getD (Q20 a3).toNat (0:Int)).toNat (0:Int))
def Q39:=(Z20:St)
def Q43(a3:Int):List (Nat×AV):=[O8,Z65,Z60,(7,(.vsl 36007 (Q34 a3).length)),(8,(.vsl 25 (Q25 a3)))]
def Q36(a3:Int)(a2:TGraph):=(⟨[O8,Z65,Z60,(7,(.vsl 36007 ([]:List Int).length)),(8,(.vsl 25 [a3].length)),(9,(Z6 (Q20 a3)))],[(L8 67 (Q22 a2)),(Z70 (Q23 a3)),(Z68 Q29),(25,.arr 1 3 ([a3].length) (Q27 a3)),(36007,.arr 1 3 (([]:List Int).length) Q30)],[]⟩:St)
def H6(a2:TGraph)(a3:Int):Option (List Int):=
 ((Pz (S:=(List Bool×List Int×List Int×List Int)) (X:=List Int) ((Np a2).bind fun x5=>((bif ((!x5)==false) then Hu a3 (a2.Succ.length:Int) else some false).bind fun x6=>(bif (bif (!x5) then true else(!x6)) then(some (.done ([]:List Int))) else(A9 (Ba a3 64) (A9 (Ba (w64 (([a3].length:Int)-1)) [a3].length) ((Ag (P8 a2 a3) (List.replicate 64 (0:Int))).bind (fun x24=>(match x24 with|(.inl l10)=>(A9 (([]:List Int).length+([([a3].getD (w64 (([a3].length:Int)-1)).toNat (0:Int))]:List Int).length≤room) (A9 (0≤(w64 (([a3].length:Int)-1))∧0+(w64 (([a3].length:Int)-1)).toNat≤[a3].length) (bif (decide (((0:Int):Int)<(([a3].take (w64 (([a3].length:Int)-1)).toNat).length:Int))) then(some (.next ((L7 64 false (List.replicate 64 false) a3.toNat true),l10,([a3].take (w64 (([a3].length:Int)-1)).toNat),(([]:List Int)++([([a3].getD (w64 (([a3].length:Int)-1)).toNat (0:Int))]:List Int))))) else((D8 (([]:List Int)++([([a3].getD (w64 (([a3].length:Int)-1)).toNat (0:Int))]:List Int))).bind fun x28=>(A9 ((([]:List Int)++([([a3].getD (w64 (([a3].length:Int)-1)).toNat (0:Int))]:List Int)).length=x28.length) (some (.done x28)))))))|(.inr (l11,l12,l13))=>(some (.next (l11,l12,l13,([]:List Int)))))))))))) (Dl a2)).bind (fun x54=>(some x54)))
theorem Tx(a2:TGraph)(a3:Int)(r:List Int)(h:H6 a2 a3=some r):Spec Tryz.prog 50 [(.agg (Jb a2)),(.int .i64 a3)] [] (AV.list 1 Aj 0 r (.own 20000)) [(20000,.tok 1 3 r.length)]:=by
 refine Ac mix Tryz.func50 (fun Γ hq=>?_);have hΓ:=hq.own;unfold H6 at h;refine gR hq [1,2] [2] [(4,Q28)] [] (c1 (E0 1 Aj (0:Int))) ?_;obtain⟨x54,hx54,h⟩:=bind_some h;refine gS hx54 (fun(s_:(List Bool×List Int×List Int×List Int))=>match s_ with|(l1,l2,l3,l4)=>0) (fun(s_:(List Bool×List Int×List Int×List Int))=>match s_ with|(l1,l2,l3,l4)=>(⟨[O8,Z65,Z60,(Og 36007 l4.length),(8,(.vsl 25 l3.length))],[(L8 67 (Q22 a2)),(Z70 (Q38 l1)),(Z54 l2),(Z4 25 l3),(Z4 36007 l4)],[]⟩:St)) (fun r_=>aR (K_graph_Order Γ a2 a3 r_)) ?_ ?_ ?_
 ·clear h hx54;intro y h;obtain⟨x5,hx5,h⟩:=bind_some h;obtain⟨x6,hx6,h⟩:=bind_some h;refine gR hq [1,2,21] [2] [] [(Z2 x5),(Z2 x6)] (ci (ok_graph_May a2 x5 hx5) (ci (gI ((!x5)==false)) (ci (gI ((!x5)==false)) (ci (gI ((!x5)==false)) (ci (gI ((!x5)==false)) (ci (fun(hg:((!x5)==false)=true)=>(M8 a3 (a2.Succ.length:Int) x6 (Bq hg hx6))) (ci (gI ((!x5)==false)) (c1 (K2 (!x5)))))))))) ?_;refine gC h (fun h=>?_) (fun h=>?_)
  ·refine gR hq [4] [] [(4,Q28)] [] (c1 (E0 1 Aj (0:Int))) ?_;refine N3 (⟨[(4,Q28)],[],[]⟩:St) ?_;cases h;exact gJo (K1 (Ja [(6004,20000)] (show Le Γ _ Q39 from Le.trans (Bx (st':=⟨[(4,Q28)],[],[]⟩) [4] [] hq) (Le.trans (Ok (t:=4) (nm:=6004) (sz':=1) Q30 3 rfl rfl (.inl ⟨rfl,rfl⟩) (fun h_=>absurd h_ (by decide))) (Bx (st':=Q39) [4] [6004] hq)))))
  ·refine gR hq [1,2,5] [2,5] [Z65] [] trivial ?_;refine K6 (P6 5 (show ∀ k_,k_<64→AVleL ((fun i_=>AV.eraseAll (fun n_=>Dp n_ [2,5]) ((fun i=>(((List.replicate 64 [(.bool false)]).flatten).drop (i*1)).take 1) i_)) k_) ((fun i=>eB ((List.replicate 64 false).getD i false)) k_) from(arrE_zero (e:=eB) (d:=false) (z:=[(.bool false)]) rfl rfl rfl))) ?_;refine gR hq [1,2,5,6] [2,5,6] [Z60] [] trivial ?_;refine K6 (P6 6 (show ∀ k_,k_<64→AVleL ((fun i_=>AV.eraseAll (fun n_=>Dp n_ [2,5,6]) ((fun i=>(((List.replicate 64 [Mw]).flatten).drop (i*1)).take 1) i_)) k_) (Q29 k_) from(arrE_zero (e:=Aj) (d:=(0:Int)) (z:=[Mw]) rfl rfl rfl))) ?_;refine gR hq [1,2,5,6,7] [2,5,6] [(7,Q28)] [] (c1 (E0 1 Aj (0:Int))) ?_;obtain⟨hc7,h⟩:=Aa h;refine gR hq [1,2,5,6,7] [2,5,6] [] [] (ci hc7 (c1 (Eq.refl 64))) ?_;refine K6 (P6 5 (show ∀ k_,k_<64→AVleL ((fun i_=>AV.eraseAll (fun n_=>Dp n_ [2,5,6]) ((Ga (fun i=>eB ((List.replicate 64 false).getD i false)) a3.toNat 0 [(.bool true)]) i_)) k_) ((Q23 a3) k_) from(Bt rfl (fun k_ hk_=>(congrArg (AV.eraseAll (fun n_=>Dp n_ [2,5,6])) ((Qh (fun _ _=>rfl) (Ml hc7) rfl) k_ hk_)).trans rfl)))) ?_;refine gR hq [2,5,6,7,8] [2,5,6,25] [(25,(.vsl 25 1))] [] trivial ?_;refine K6 (Le.trans (P6 25 (show ∀ k_,k_<1→AVleL ((fun i_=>AV.eraseAll (fun n_=>Dp n_ [2,5,6,25]) ((fun i_=>([(Z6 a3)].drop (i_*1)).take 1) i_)) k_) ((Q27 a3) k_) from(Bt rfl (pw_snoc (n:=0) pw_nil rfl)))) (O6 (fun(k_:Nat) u=>(Ds u [(8,(.vsl 25 k_))] [(25,.arr 1 3 k_ (Q27 a3))])) (show 1=[a3].length from rfl))) ?_;obtain⟨hc8,h⟩:=Aa h;refine gR hq [2,5,6,7,8,9] [2,5,6,25] [] [] (ci hc8 (c1 (Eq.refl ([a3].length)))) ?_;refine K6 (st':=(Q36 a3 a2)) (Le.trans (Bx (st':=⟨[O8,Z65,Z60,(7,Q28),(8,(.vsl 25 [a3].length)),(9,(Z6 (Q20 a3)))],[(L8 67 (Q22 a2)),(Z70 (Q23 a3)),(Z68 Q29),(25,.arr 1 3 ([a3].length) (Q27 a3))],[]⟩) [2,5,6,7,8,9] [2,5,6,25] hq) (Le.trans (le_arr (t:=7) (nm:=36007) (sz':=1) Q30 3 rfl rfl) (Bx (st':=(Q36 a3 a2)) [2,5,6,7,8,9] [2,5,6,25,36007] hq))) ?_;obtain⟨x24,hx24,h⟩:=bind_some h;refine gL hq hx24 [2,5,6,7,8,9] [2,5,6,25,36007] (fun u l9=>(Ds u [] [(Z54 l9)])) (fun u x_=>match x_ with|(.inl l10)=>aG Γ (.exit 0) (Ds u [] [(Z68 (Q31 l10))])|(.inr (l11,l12,l13))=>aG Γ (.goto 0) (Lr [2,5,6,7,8] [2,5,6,25,36007] u [(8,(.vsl 25 l13.length))] [(5,.arr 1 111 64 (fun i=>eB (l11.getD i false))),(Z54 l12),(Z4 25 l13)])) ?_ ?_
   ·intro l9 y h;unfold P8 at h;obtain⟨hc14,h⟩:=Aa h;obtain⟨hc15,h⟩:=Aa h;refine gR hq [2,5,6,7,8,9,41] [2,5,6,25,36007] [] [] (ci hc14 (ci (Eq.refl 64) (c1 hc15))) ?_;refine gC h (fun h=>?_) (fun h=>?_)
    ·obtain⟨hc16,h⟩:=Aa h;obtain⟨hc17,h⟩:=Aa h;obtain⟨hc18,h⟩:=Aa h;refine gR hq [2,5,6,7,8,9,10] [2,5,6,25,36007] [] [] (ci hc16 (ci hc17 (ci (Eq.refl 64) (c1 hc18)))) ?_;obtain⟨hc19,h⟩:=Aa h;obtain⟨hc20,h⟩:=Aa h;refine gR hq [2,5,6,7,8,9,10] [2,5,6,25,36007] [] [] (ci hc19 (ci (Eq.refl 64) (ci hc20 (c1 (Eq.refl 64))))) ?_;refine K6 (P6 6 (show ∀ k_,k_<64→AVleL ((fun i_=>AV.eraseAll Q24 ((Ga (fun i=>Aj (l9.getD i 0)) (Q20 a3).toNat 0 [(.int .i64 (w64 ((l9.getD (Q20 a3).toNat (0:Int))+1)))]) i_)) k_) ((fun i=>Aj ((L7 64 (0:Int) l9 (Q20 a3).toNat (w64 ((l9.getD (Q20 a3).toNat (0:Int))+1))).getD i 0)) k_) from(Bt rfl (fun k_ hk_=>(congrArg (AV.eraseAll Q24) ((Qh (fun _ _=>rfl) (Ml hc20) rfl) k_ hk_)).trans rfl)))) ?_;obtain⟨hc21,h⟩:=Aa h;refine gR hq [2,5,6,7,8,9,10,60] [2,5,6,25,36007] [] [] (ci hc21 (c1 (Eq.refl 64))) ?_;refine gC h (fun h=>?_) (fun h=>?_)
     ·obtain⟨hc22,h⟩:=Aa h;refine gR hq [2,5,6,7,8,10] [2,5,6,25,36007] [] [] (ci hc22 (c1 (Eq.refl 64))) ?_;refine K6 (P6 5 (show ∀ k_,k_<64→AVleL ((fun i_=>AV.eraseAll Q24 ((Ga (Q23 a3) (Q32 a2 a3 l9).toNat 0 [(.bool true)]) i_)) k_) ((fun i=>eB ((L7 64 false (L7 64 false (List.replicate 64 false) a3.toNat true) (Q32 a2 a3 l9).toNat true).getD i false)) k_) from(Bt rfl (fun k_ hk_=>(congrArg (AV.eraseAll Q24) ((Qh (fun _ _=>rfl) (Ml hc22) rfl) k_ hk_)).trans rfl)))) ?_;obtain⟨hc23,h⟩:=Aa h;refine gR hq [2,5,6,7,8] [2,5,6,25,36007] [(65,(Z27 (Q32 a2 a3 l9)))] [] (ci (Cu 1 Aj (0:Int) ([(Q32 a2 a3 l9)]:List Int)) (ci (Eq.refl ([a3].length)) (c1 hc23))) ?_;cases h;exact gO (Bj (Le.trans (Le.trans (P6 25 (show ∀ k_,k_<([a3].length+([(Q32 a2 a3 l9)]:List Int).length)→AVleL ((fun i_=>AV.eraseAll Q24 ((Ls ([a3].length) (Q27 a3) (fun i=>Aj (([(Q32 a2 a3 l9)]:List Int).getD i 0))) i_)) k_) ((fun i=>Aj (([a3]++([(Q32 a2 a3 l9)]:List Int)).getD i 0)) k_) from(Bt (Gl _ _) (fun k_ hk_=>(congrArg (AV.eraseAll Q24) ((We (fun _ _=>rfl) (fun _ _=>rfl)) k_ hk_)).trans rfl)))) (O6 (fun(k_:Nat) u=>(Ds u [(8,(.vsl 25 k_))] [(25,.arr 1 3 k_ (fun i=>Aj (([a3]++([(Q32 a2 a3 l9)]:List Int)).getD i 0)))])) (show([a3].length+([(Q32 a2 a3 l9)]:List Int).length)=([a3]++([(Q32 a2 a3 l9)]:List Int)).length from(Gl _ _)))) Cm))
     ·cases h;exact gN (Bx [2,5,6,7,8,9] [2,5,6,25,36007] hq)
    ·cases h;exact gO (Bj (Bx [2,5,6,7,8,9] [2,5,6,25,36007] hq))
   ·clear hx24;rcases x24 with l10|⟨l11,l12,l13⟩
    ·refine gA ?_;obtain⟨hc26,h⟩:=Aa h;refine gR hq [2,5,6,7,8] [2,5,6,25,36007] [(69,(Z27 (Q20 a3)))] [] (ci (Cu 1 Aj (0:Int) ([(Q20 a3)]:List Int)) (ci (Eq.refl (([]:List Int).length)) (c1 hc26))) ?_;refine K6 (Le.trans (P6 36007 (show ∀ k_,k_<(([]:List Int).length+([(Q20 a3)]:List Int).length)→AVleL ((fun i_=>AV.eraseAll Q24 ((Ls (([]:List Int).length) Q30 (fun i=>Aj (([(Q20 a3)]:List Int).getD i 0))) i_)) k_) ((Q42 a3) k_) from(Bt (Gl _ _) (fun k_ hk_=>(congrArg (AV.eraseAll Q24) ((We (fun _ _=>rfl) (fun _ _=>rfl)) k_ hk_)).trans rfl)))) (O6 (fun(k_:Nat) u=>(Ds u [(Og 36007 k_)] [(36007,.arr 1 3 k_ (Q42 a3))])) (show(([]:List Int).length+([(Q20 a3)]:List Int).length)=(Q34 a3).length from(Gl _ _)))) ?_;obtain⟨hc27,h⟩:=Aa h;refine gR hq [2,5,6,7,8] [2,5,6,25,36007] [] [] (c1 hc27) ?_;refine N3 (⟨[O8,Z65,Z60,(7,(.vsl 36007 (Q34 a3).length)),(8,(.vsub 25 [a3].length 0 (Q25 a3)))],[(L8 67 (Q22 a2)),(Z70 (Q23 a3)),(Z68 (Q31 l10)),(25,.arr 1 3 ([a3].length) (Q27 a3)),(36007,.arr 1 3 ((Q34 a3).length) (Q42 a3))],[]⟩:St) ?_;refine K6 (Le.trans (Le.trans (le_trunc (t:=8) (r:=25) (k:=(Q25 a3)) rfl rfl hc27.2 (by kernel_rfl) (.row (by kernel_rfl) (.arr (fun _=>by kernel_rfl) (.arr (fun _=>by kernel_rfl) (.arr (fun _=>by kernel_rfl) (.arr (fun _=>by kernel_rfl) .nil))))) (by rw[hΓ];rfl)) (Im (st':=⟨(Q43 a3),[(L8 67 (Q22 a2)),(Z70 (Q23 a3)),(Z68 (Q31 l10)),(25,.arr 1 3 (Q25 a3) (Q27 a3)),(36007,.arr 1 3 ((Q34 a3).length) (Q42 a3))],[]⟩) (by kernel_rfl))) (Le.trans (Ic (st':=⟨(Q43 a3),[(L8 67 (Q22 a2)),(Z70 (Q23 a3)),(Z68 (Q31 l10)),(25,.arr 1 3 (Q25 a3) (fun i=>Aj ((Q40 a3).getD i 0))),(36007,.arr 1 3 ((Q34 a3).length) (Q42 a3))],[]⟩) (TmpsLe.refl _) (.same (.same (.same (.arr (take_le (e:=Aj) (d:=(0:Int))) (.same .nil)))))) (Im (congrArg (fun k_:Nat=>(⟨[O8,Z65,Z60,(7,(.vsl 36007 (Q34 a3).length)),(8,(.vsl 25 k_))],[(L8 67 (Q22 a2)),(Z70 (Q23 a3)),(Z68 (Q31 l10)),(25,.arr 1 3 k_ (fun i=>Aj ((Q40 a3).getD i 0))),(36007,.arr 1 3 ((Q34 a3).length) (Q42 a3))],[]⟩:St)) (show(Q25 a3)=(Q40 a3).length from take_len hc27.2))))) ?_;refine Af hq [2,5,6,7,8,78] [2,5,6,25,36007] ?_;refine gC h (fun h=>?_) (fun h=>?_)
     ·cases h;exact gJn (Bx [2,5,6,7,8] [2,5,6,25,36007] hq)
     ·obtain⟨x28,hx28,h⟩:=bind_some h;obtain⟨hc29,h⟩:=Aa h;refine gR hq [7] [36007] [] [⟨[(36007,34000)],[],(.tuple []),[(Z4 34000 x28)],[]⟩] (c1 (Lm (Q34 a3) x28 hx28)) ?_;refine K6 (O6 (fun(k_:Nat) u=>(Ds u [(Og 36007 k_)] [])) (show(Q34 a3).length=x28.length from hc29)) ?_;refine Af hq [4] [36007] ?_;refine N3 (⟨[(4,(.vsl 36007 x28.length))],[(Z4 36007 x28)],[]⟩:St) ?_;cases h;exact gJo (K1 (Ja [(36007,20000)] (Le.trans (In (nm:=36007) (sz:=1) (n:=x28.length) (e:=3) (f:=(fun i=>Aj (x28.getD i 0))) (g:=(fun i=>Aj (x28.getD i 0))) rfl ⟨rfl,trivial⟩ (fun _ _=>rfl) (by rw[hΓ];rfl)) (Im (st':=(Z63 x28 36007 x28.length)) (by kernel_rfl)))))
    ·refine gA' (fun st' hl30=>?_);cases h;exact gJn (Le.trans hl30 Cm)
 ·clear h hx54;rintro⟨l1,l2,l3,l4⟩ y h;unfold Dl at h;obtain⟨hc31,h⟩:=Aa h;refine gR hq [2,5,6,7,8,9] [2,5,6,25,36007] [] [] (ci hc31 (c1 (Eq.refl l3.length))) ?_;obtain⟨x47,hx47,h⟩:=bind_some h;refine gL hq hx47 [2,5,6,7,8,9] [2,5,6,25,36007] (fun u l32=>(Ds u [] [(Z54 l32)])) (fun u x_=>match x_ with|(.inl l33)=>aG Γ (.exit 0) (Ds u [] [(Z68 (Q37 l33))])|(.inr (l34,l35,l36))=>aG Γ (.goto 0) (Lr [2,5,6,7,8] [2,5,6,25,36007] u [(8,(.vsl 25 l36.length))] [(5,.arr 1 111 64 (fun i=>eB (l34.getD i false))),(Z54 l35),(Z4 25 l36)])) ?_ ?_
  ·intro l32 y h;unfold G4 at h;obtain⟨hc37,h⟩:=Aa h;obtain⟨hc38,h⟩:=Aa h;refine gR hq [2,5,6,7,8,9,41] [2,5,6,25,36007] [] [] (ci hc37 (ci (Eq.refl 64) (c1 hc38))) ?_;refine gC h (fun h=>?_) (fun h=>?_)
   ·obtain⟨hc39,h⟩:=Aa h;obtain⟨hc40,h⟩:=Aa h;obtain⟨hc41,h⟩:=Aa h;refine gR hq [2,5,6,7,8,9,10] [2,5,6,25,36007] [] [] (ci hc39 (ci hc40 (ci (Eq.refl 64) (c1 hc41)))) ?_;obtain⟨hc42,h⟩:=Aa h;obtain⟨hc43,h⟩:=Aa h;refine gR hq [2,5,6,7,8,9,10] [2,5,6,25,36007] [] [] (ci hc42 (ci (Eq.refl 64) (ci hc43 (c1 (Eq.refl 64))))) ?_;refine K6 (P6 6 (show ∀ k_,k_<64→AVleL ((fun i_=>AV.eraseAll Q24 ((Ga (fun i=>Aj (l32.getD i 0)) (Q21 l3).toNat 0 [(.int .i64 (w64 ((l32.getD (Q21 l3).toNat (0:Int))+1)))]) i_)) k_) ((fun i=>Aj ((L7 64 (0:Int) l32 (Q21 l3).toNat (w64 ((l32.getD (Q21 l3).toNat (0:Int))+1))).getD i 0)) k_) from(Bt rfl (fun k_ hk_=>(congrArg (AV.eraseAll Q24) ((Qh (fun _ _=>rfl) (Ml hc43) rfl) k_ hk_)).trans rfl)))) ?_;obtain⟨hc44,h⟩:=Aa h;refine gR hq [2,5,6,7,8,9,10,60] [2,5,6,25,36007] [] [] (ci hc44 (c1 (Eq.refl 64))) ?_;refine gC h (fun h=>?_) (fun h=>?_)
    ·obtain⟨hc45,h⟩:=Aa h;refine gR hq [2,5,6,7,8,10] [2,5,6,25,36007] [] [] (ci hc45 (c1 (Eq.refl 64))) ?_;refine K6 (P6 5 (show ∀ k_,k_<64→AVleL ((fun i_=>AV.eraseAll Q24 ((Ga (Q38 l1) (Q33 a2 l3 l32).toNat 0 [(.bool true)]) i_)) k_) ((fun i=>eB ((L7 64 false l1 (Q33 a2 l3 l32).toNat true).getD i false)) k_) from(Bt rfl (fun k_ hk_=>(congrArg (AV.eraseAll Q24) ((Qh (fun _ _=>rfl) (Ml hc45) rfl) k_ hk_)).trans rfl)))) ?_;obtain⟨hc46,h⟩:=Aa h;refine gR hq [2,5,6,7,8] [2,5,6,25,36007] [(65,(Z27 (Q33 a2 l3 l32)))] [] (ci (Cu 1 Aj (0:Int) ([(Q33 a2 l3 l32)]:List Int)) (ci (Eq.refl l3.length) (c1 hc46))) ?_;cases h;exact gO (Bj (Le.trans (Le.trans (P6 25 (show ∀ k_,k_<(l3.length+([(Q33 a2 l3 l32)]:List Int).length)→AVleL ((fun i_=>AV.eraseAll Q24 ((Ls l3.length (fun i=>Aj (l3.getD i 0)) (fun i=>Aj (([(Q33 a2 l3 l32)]:List Int).getD i 0))) i_)) k_) ((fun i=>Aj ((l3++([(Q33 a2 l3 l32)]:List Int)).getD i 0)) k_) from(Bt (Gl _ _) (fun k_ hk_=>(congrArg (AV.eraseAll Q24) ((We (fun _ _=>rfl) (fun _ _=>rfl)) k_ hk_)).trans rfl)))) (O6 (fun(k_:Nat) u=>(Ds u [(8,(.vsl 25 k_))] [(25,.arr 1 3 k_ (fun i=>Aj ((l3++([(Q33 a2 l3 l32)]:List Int)).getD i 0)))])) (show(l3.length+([(Q33 a2 l3 l32)]:List Int).length)=(l3++([(Q33 a2 l3 l32)]:List Int)).length from(Gl _ _)))) Cm))
    ·cases h;exact gN (Bx [2,5,6,7,8,9] [2,5,6,25,36007] hq)
   ·cases h;exact gO (Bj (Bx [2,5,6,7,8,9] [2,5,6,25,36007] hq))
  ·clear hx47;rcases x47 with l33|⟨l34,l35,l36⟩
   ·refine gA ?_;obtain⟨hc49,h⟩:=Aa h;refine gR hq [2,5,6,7,8] [2,5,6,25,36007] [(69,(Z27 (Q21 l3)))] [] (ci (Cu 1 Aj (0:Int) ([(Q21 l3)]:List Int)) (ci (Eq.refl l4.length) (c1 hc49))) ?_;refine K6 (Le.trans (P6 36007 (show ∀ k_,k_<(l4.length+([(Q21 l3)]:List Int).length)→AVleL ((fun i_=>AV.eraseAll Q24 ((Ls l4.length (fun i=>Aj (l4.getD i 0)) (fun i=>Aj (([(Q21 l3)]:List Int).getD i 0))) i_)) k_) ((Q41 l4 l3) k_) from(Bt (Gl _ _) (fun k_ hk_=>(congrArg (AV.eraseAll Q24) ((We (fun _ _=>rfl) (fun _ _=>rfl)) k_ hk_)).trans rfl)))) (O6 (fun(k_:Nat) u=>(Ds u [(Og 36007 k_)] [(36007,.arr 1 3 k_ (Q41 l4 l3))])) (show(l4.length+([(Q21 l3)]:List Int).length)=(Q35 l4 l3).length from(Gl _ _)))) ?_;obtain⟨hc50,h⟩:=Aa h;refine gR hq [2,5,6,7,8] [2,5,6,25,36007] [] [] (c1 hc50) ?_;refine N3 (⟨[O8,Z65,Z60,(7,(.vsl 36007 (Q35 l4 l3).length)),(8,(.vsub 25 l3.length 0 (Q26 l3)))],[(L8 67 (Q22 a2)),(Z70 (Q38 l1)),(Z68 (Q37 l33)),(Z4 25 l3),(36007,.arr 1 3 ((Q35 l4 l3).length) (Q41 l4 l3))],[]⟩:St) ?_;refine K6 (Le.trans (Le.trans (le_trunc (t:=8) (r:=25) (k:=(Q26 l3)) rfl rfl hc50.2 (by kernel_rfl) (.row (by kernel_rfl) (.arr (fun _=>by kernel_rfl) (.arr (fun _=>by kernel_rfl) (.arr (fun _=>by kernel_rfl) (.arr (fun _=>by kernel_rfl) .nil))))) (by rw[hΓ];rfl)) (Im (st':=⟨[O8,Z65,Z60,(7,(.vsl 36007 (Q35 l4 l3).length)),(8,(.vsl 25 (Q26 l3)))],[(L8 67 (Q22 a2)),(Z70 (Q38 l1)),(Z68 (Q37 l33)),(25,.arr 1 3 (Q26 l3) (fun i=>Aj (l3.getD i 0))),(36007,.arr 1 3 ((Q35 l4 l3).length) (Q41 l4 l3))],[]⟩) (by kernel_rfl))) (Le.trans (Ic (st':=⟨[O8,Z65,Z60,(7,(.vsl 36007 (Q35 l4 l3).length)),(8,(.vsl 25 (Q26 l3)))],[(L8 67 (Q22 a2)),(Z70 (Q38 l1)),(Z68 (Q37 l33)),(25,.arr 1 3 (Q26 l3) (fun i=>Aj ((l3.take (w64 ((l3.length:Int)-1)).toNat).getD i 0))),(36007,.arr 1 3 ((Q35 l4 l3).length) (Q41 l4 l3))],[]⟩) (TmpsLe.refl _) (.same (.same (.same (.arr (take_le (e:=Aj) (d:=(0:Int))) (.same .nil)))))) (Im (congrArg (fun k_:Nat=>(⟨[O8,Z65,Z60,(7,(.vsl 36007 (Q35 l4 l3).length)),(8,(.vsl 25 k_))],[(L8 67 (Q22 a2)),(Z70 (Q38 l1)),(Z68 (Q37 l33)),(25,.arr 1 3 k_ (fun i=>Aj ((l3.take (w64 ((l3.length:Int)-1)).toNat).getD i 0))),(36007,.arr 1 3 ((Q35 l4 l3).length) (Q41 l4 l3))],[]⟩:St)) (show(Q26 l3)=(l3.take (w64 ((l3.length:Int)-1)).toNat).length from take_len hc50.2))))) ?_;refine Af hq [2,5,6,7,8,78] [2,5,6,25,36007] ?_;refine gC h (fun h=>?_) (fun h=>?_)
    ·cases h;exact gJn (Bx [2,5,6,7,8] [2,5,6,25,36007] hq)
    ·obtain⟨x51,hx51,h⟩:=bind_some h;obtain⟨hc52,h⟩:=Aa h;refine gR hq [7] [36007] [] [⟨[(36007,34000)],[],(.tuple []),[(Z4 34000 x51)],[]⟩] (c1 (Lm (Q35 l4 l3) x51 hx51)) ?_;refine K6 (O6 (fun(k_:Nat) u=>(Ds u [(Og 36007 k_)] [])) (show(Q35 l4 l3).length=x51.length from hc52)) ?_;refine Af hq [4] [36007] ?_;refine N3 (⟨[(4,(.vsl 36007 x51.length))],[(Z4 36007 x51)],[]⟩:St) ?_;cases h;exact gJo (K1 (Ja [(36007,20000)] (Le.trans (In (nm:=36007) (sz:=1) (n:=x51.length) (e:=3) (f:=(fun i=>Aj (x51.getD i 0))) (g:=(fun i=>Aj (x51.getD i 0))) rfl ⟨rfl,trivial⟩ (fun _ _=>rfl) (by rw[hΓ];rfl)) (Im (st':=(Z63 x51 36007 x51.length)) (by kernel_rfl)))))
   ·refine gA' (fun st' hl53=>?_);cases h;exact gJn (Le.trans hl53 Cm)
 ·clear hx54;refine Mk (fun st' hk=>?_);obtain rfl:=OI h;exact gK hk
def Qz(aJ:Int)(aa0:Int):Option (Int×Int):=
 (some ((Ho ((Ho ((Ho ((Xd .u64 aJ (32:Int))*(Xd .u64 aa0 (32:Int))))+(Xd .u64 (Ho ((Ho ((Xd .u64 aJ (32:Int))*(Oh .and .u64 aa0 (4294967295:Int))))+(Xd .u64 (Ho ((Oh .and .u64 aJ (4294967295:Int))*(Oh .and .u64 aa0 (4294967295:Int)))) (32:Int)))) (32:Int))))+(Xd .u64 (Ho ((Oh .and .u64 (Ho ((Ho ((Xd .u64 aJ (32:Int))*(Oh .and .u64 aa0 (4294967295:Int))))+(Xd .u64 (Ho ((Oh .and .u64 aJ (4294967295:Int))*(Oh .and .u64 aa0 (4294967295:Int)))) (32:Int)))) (4294967295:Int))+(Ho ((Oh .and .u64 aJ (4294967295:Int))*(Xd .u64 aa0 (32:Int)))))) (32:Int)))),(Ho (aJ*aa0))))
theorem ok_bits_Mul64(aJ:Int)(aa0:Int)(r:(Int×Int))(h:Qz aJ aa0=some r):Spec Tryz.prog 114 [(.int .u64 aJ),(.int .u64 aa0)] [] (.tuple [(.int .u64 r.1),(.int .u64 r.2)]) []:=by
 refine Ac mix Tryz.func114 (fun Γ hq=>?_);unfold Qz at h;refine Af hq [0,1] [] ?_;refine Af hq [0,1,6] [] ?_;refine gR hq [0,1,6,7] [] [] [] (c1 (show(0≤(32:Int)) from(by decide))) ?_;refine Af hq [0,1,6,7,8] [] ?_;refine gR hq [0,1,6,7,8,9] [] [] [] (c1 (show(0≤(32:Int)) from(by decide))) ?_;refine Af hq [0,1,6,7,8,9,10] [] ?_;refine gR hq [0,1,6,7,9,11] [] [] [] (c1 (show(0≤(32:Int)) from(by decide))) ?_;refine Af hq [0,1,6,7,9,11,12] [] ?_;refine gR hq [0,1,6,7,9,12,13] [] [] [] (c1 (show(0≤(32:Int)) from(by decide))) ?_;refine Af hq [0,1,7,9,12,13] [] ?_;refine gR hq [0,1,4] [] [] [] (c1 (show(0≤(32:Int)) from(by decide))) ?_;refine Af hq [4,5] [] ?_;cases h;exact C0 []
def L5(aJ:Int)(aa0:Int):Option (Int×Int):=
 ((Qz aJ aa0).bind fun x1=>(some (x1.1,x1.2)))
theorem Yn(aJ:Int)(aa0:Int)(r:(Int×Int))(h:L5 aJ aa0=some r):Spec Tryz.prog 103 [(.int .u64 aJ),(.int .u64 aa0)] [] (.tuple [(.int .u64 r.1),(.int .u64 r.2)]) []:=by
 refine Ac mix Tryz.func103 (fun Γ hq=>?_);unfold L5 at h;refine Af hq [0,1] [] ?_;refine gCt false ?_;obtain⟨x1,hx1,h⟩:=bind_some h;refine gR hq [8,9] [] [] [⟨[],[],(.tuple [(.int .u64 x1.1),(.int .u64 x1.2)]),[],[]⟩] (c1 (ok_bits_Mul64 aJ aa0 x1 hx1)) ?_;refine Af hq [4,5] [] ?_;cases h;exact C0 []
def Cl :(Int×List Int)→Option (LR (Int×List Int) (List Int)):=
 fun((i7,l8):(Int×List Int))=>(bif (decide (i7<(l8.length:Int))) then(A9 (0≤i7∧0+i7.toNat≤l8.length) (A9 (0≤i7∧0+i7.toNat≤l8.length) (some (.next ((w64 (i7+((Nat.min ((0+i7.toNat)-0) (l8.length-(0+i7.toNat))):Int))),(cpL l8 (0+i7.toNat) (Nat.min ((0+i7.toNat)-0) (l8.length-(0+i7.toNat))) (fun i=>l8.getD (0+i) 0))))))) else(some (.done l8)))
def Q44(x3:(Int×Int)):=(List.replicate (w64 x3.2).toNat (0:Int))
def Q46(x3:(Int×Int))(aJ:List Int):=(cpL (Q44 x3) 0 (Nat.min aJ.length ((Q44 x3).length-0)) (fun i=>aJ.getD i 0))
def Q45(l8:List Int)(i7:Int):=(cpL l8 (0+i7.toNat) (Nat.min ((0+i7.toNat)-0) (l8.length-(0+i7.toNat))) (fun i=>l8.getD (0+i) 0))
def F9(aJ:List Int)(aa1:Int):Option (List Int):=
 (Option.bind (α:=Unit) (bif (decide (aa1<0)) then none else(some ())) (fun x1=>(match x1 with|_=>((L5 (Ho (aJ.length:Int)) (Ho aa1)).bind fun x3=>(Option.bind (α:=Unit) (bif (bif (decide (((0:Int):Int)<x3.1)) then true else(decide (((9223372036854775807:Int):Int)<x3.2))) then none else(some ())) (fun x4=>(match x4 with|_=>(A9 (0≤(w64 x3.2)∧(w64 x3.2)≤(w64 x3.2)∧(w64 x3.2)≤(room:Int)) ((Ag (S:=(Int×List Int)) (X:=List Int) Cl (((Nat.min aJ.length ((List.replicate (w64 x3.2).toNat (0:Int)).length-0)):Int),(cpL (List.replicate (w64 x3.2).toNat (0:Int)) 0 (Nat.min aJ.length ((List.replicate (w64 x3.2).toNat (0:Int)).length-0)) (fun i=>aJ.getD i 0)))).bind (fun x12=>(some x12)))))))))))
theorem Py(aJ:List Int)(aa1:Int)(r:List Int)(h:F9 aJ aa1=some r):Spec Tryz.prog 79 [(AV.list 1 Aj 0 aJ .none),(.int .i64 aa1)] [] (.vsl 20000 r.length) [(20000,.arr 1 3 r.length (fun i=>Aj (r.getD i 0)))]:=by
 refine Ac mix Tryz.func79 (fun Γ hq=>?_);unfold F9 at h;refine gR hq [0,1] [] [(4,Z21)] [] (c1 (E0 1 Aj (0:Int))) ?_;obtain⟨x1,hx1,h⟩:=bind_some h;refine gJ hx1 (fun _=>aG Γ .normal (⟨[(0,(Z7 aJ)),(1,(Z6 aa1))],[],[]⟩:St)) ?_ ?_
 ·clear h hx1;intro y h;refine Af hq [0,1,10] [] ?_;refine gC h (fun h=>?_) (fun h=>?_)
  ·cases h
  ·cases h;exact gK (Bj (Bx [0,1] [] hq))
 ·clear hx1;refine gA ?_;obtain⟨x3,hx3,h⟩:=bind_some h;refine gR hq [0,5,6] [] [] [⟨[],[],(.tuple [(.int .u64 x3.1),(.int .u64 x3.2)]),[],[]⟩] (c1 (Yn (Ho (aJ.length:Int)) (Ho aa1) x3 hx3)) ?_;obtain⟨x4,hx4,h⟩:=bind_some h;refine gJ hx4 (fun _=>aG Γ .normal (⟨[(0,(Z7 aJ)),(6,(.int .u64 x3.2))],[],[]⟩:St)) ?_ ?_
  ·clear h hx4;intro y h;refine gR hq [0,6,26] [] [] [] (ci (gI ((decide (((0:Int):Int)<x3.1))==false)) (c1 (K2 (decide (((0:Int):Int)<x3.1))))) ?_;refine gC h (fun h=>?_) (fun h=>?_)
   ·cases h
   ·cases h;exact gK (Bj (Bx [0,6] [] hq))
  ·clear hx4;refine gA ?_;obtain⟨hc6,h⟩:=Aa h;refine gR hq [0,7] [30] [] [] (c1 hc6) ?_;refine K6 (Le.trans (P6 30 (show ∀ k_,k_<((w64 x3.2).toNat)→AVleL ((fun i_=>AV.eraseAll (fun n_=>Dp n_ [30]) ((fun _=>[Mw]) i_)) k_) ((fun i=>Aj ((Q44 x3).getD i 0)) k_) from(fun k hk=>Ng (e:=Aj) (d:=(0:Int)) (.cons (AVle.refl _) .nil) _ k (Nh hk)))) (O6 (fun(k_:Nat) u=>(Ds u [(Og 30 k_)] [(30,.arr 1 3 k_ (fun i=>Aj ((Q44 x3).getD i 0)))])) (show(w64 x3.2).toNat=(Q44 x3).length from(List.length_replicate ..).symm))) ?_;refine gR hq [7,8] [30] [] [] (c1 (Eq.refl ((Q44 x3).length))) ?_;refine K6 (Le.trans (P6 30 (show ∀ k_,k_<((Q44 x3).length)→AVleL ((fun i_=>AV.eraseAll (fun n_=>Dp n_ [30]) ((cpF (fun i=>Aj ((Q44 x3).getD i 0)) 0 (Nat.min aJ.length ((Q44 x3).length-0)) (fun i=>Aj (aJ.getD i 0))) i_)) k_) ((fun i=>Aj ((Q46 x3 aJ).getD i 0)) k_) from(Bt (Ia ..) (fun k_ hk_=>(congrArg (AV.eraseAll (fun n_=>Dp n_ [30])) ((Zl (e:=Aj) (d:=(0:Int)) (l:=(Q44 x3)) (s:=(fun i=>aJ.getD i 0)) (fun _ _=>rfl) (fun _ _=>rfl)) k_ hk_)).trans rfl)))) (O6 (fun(k_:Nat) u=>(Ds u [(Og 30 k_)] [(30,.arr 1 3 k_ (fun i=>Aj ((Q46 x3 aJ).getD i 0)))])) (show(Q44 x3).length=(Q46 x3 aJ).length from(Ia ..)))) ?_;obtain⟨x12,hx12,h⟩:=bind_some h;refine gL hq hx12 [7,8] [30] (fun u (i7,l8)=>(Ds u [(Og 30 l8.length),(8,(Z6 i7))] [(Z4 30 l8)])) (fun u l9=>aG Γ (.exit 0) (⟨[(Og 30 l9.length)],[(Z4 30 l9)],[]⟩:St)) ?_ ?_
   ·rintro⟨i7,l8⟩ y h;unfold Cl at h;refine Af hq [7,8,37] [30] ?_;refine gC h (fun h=>?_) (fun h=>?_)
    ·obtain⟨hc10,h⟩:=Aa h;obtain⟨hc11,h⟩:=Aa h;refine gR hq [7,8] [30] [] [] (ci hc10 (ci hc11 (ci (Eq.refl l8.length) (c1 (Eq.refl l8.length))))) ?_;cases h;exact gN (Le.trans (Le.trans (P6 30 (show ∀ k_,k_<l8.length→AVleL ((fun i_=>AV.eraseAll (fun n_=>Dp n_ [30]) ((cpF (fun i=>Aj (l8.getD i 0)) (0+i7.toNat) (Nat.min ((0+i7.toNat)-0) (l8.length-(0+i7.toNat))) (fun i=>(fun i=>Aj (l8.getD i 0)) (0+i))) i_)) k_) ((fun i=>Aj ((Q45 l8 i7).getD i 0)) k_) from(Bt (Ia ..) (fun k_ hk_=>(congrArg (AV.eraseAll (fun n_=>Dp n_ [30])) ((Zl (e:=Aj) (d:=(0:Int)) (l:=l8) (s:=(fun i=>l8.getD (0+i) 0)) (fun _ _=>rfl) (fun _ _=>rfl)) k_ hk_)).trans rfl)))) (O6 (fun(k_:Nat) u=>(Ds u [(Og 30 k_)] [(30,.arr 1 3 k_ (fun i=>Aj ((Q45 l8 i7).getD i 0)))])) (show l8.length=(Q45 l8 i7).length from(Ia ..)))) Cm)
    ·cases h;exact gO (Bj (Bx [7] [30] hq))
   ·clear hx12;refine gA ?_;refine Af hq [4] [30] ?_;obtain rfl:=OI h;exact C0 [(30,20000)]
def M5(a6:List Int):(Int×List Bool)→Option (LR (Int×List Bool) (List Bool)):=
 fun((i2,l3):(Int×List Bool))=>(bif (i2 !=-1) then(A9 (Ba i2 l3.length) (A9 (Ba i2 a6.length) (some (.next ((a6.getD i2.toNat 0),(l3.set i2.toNat true)))))) else(some (.done l3)))
def M6(a6:List Int)(l4:List Bool):Int→Option (LR Int Int):=
 fun(i9:Int)=>(A9 (Ba i9 l4.length) (bif (!(l4.getD i9.toNat false)) then(A9 (Ba i9 a6.length) (some (.next (a6.getD i9.toNat 0)))) else(some (.done i9))))
def Lw(a6:List Int)(aD:Int)(aH:Int):Option (Int×List Int):=
 (A9 (0≤(a6.length:Int)∧(a6.length:Int)≤(a6.length:Int)∧(a6.length:Int)≤(room:Int)) ((Ag (M5 a6) (aD,(List.replicate (a6.length:Int).toNat false))).bind (fun x7=>((Ag (M6 a6 x7) aH).bind (fun x13=>(some (x13,a6)))))))
theorem ok_dom_meet_v2(a6:List Int)(aD:Int)(aH:Int)(r:(Int×List Int))(h:Lw a6 aD aH=some r):Spec Tryz.prog 104 [(.vsl 34000 a6.length),(.int .i64 aD),(.int .i64 aH)] [(34000,.arr 1 3 a6.length (fun i=>Aj (a6.getD i 0)))] (.int .i64 r.1) [(34000,.arr 1 3 r.2.length (fun i=>Aj (r.2.getD i 0)))]:=by
 refine Ac mix Tryz.func104 (fun Γ hq=>?_);unfold Lw at h;refine Af hq [0,1,2] [34000] ?_;obtain⟨hc1,h⟩:=Aa h;refine gR hq [0,1,2,7] [11,34000] [] [] (c1 hc1) ?_;refine K6 (Le.trans (P6 11 (show ∀ k_,k_<((a6.length:Int).toNat)→AVleL ((fun i_=>AV.eraseAll (fun n_=>Dp n_ [11,34000]) ((fun _=>[(.bool false)]) i_)) k_) ((fun i=>eB ((List.replicate (a6.length:Int).toNat false).getD i false)) k_) from(fun k hk=>Ng (e:=eB) (d:=false) (.cons (AVle.refl _) .nil) _ k (Nh hk)))) (O6 (fun(k_:Nat) u=>(Ds u [(Og 11 k_)] [(11,.arr 1 4 k_ (fun i=>eB ((List.replicate (a6.length:Int).toNat false).getD i false)))])) (show(a6.length:Int).toNat=(List.replicate (a6.length:Int).toNat false).length from(List.length_replicate ..).symm))) ?_;refine Af hq [0,2,7,8] [11,34000] ?_;obtain⟨x7,hx7,h⟩:=bind_some h;refine gL hq hx7 [0,2,7,8] [11,34000] (fun u (i2,l3)=>(Ds u [(Og 11 l3.length),(8,(Z6 i2))] [(Z9 11 l3)])) (fun u l4=>aG Γ (.exit 0) (Lr [0,2,7] [11,34000] u [(Og 11 l4.length)] [(Z9 11 l4)])) ?_ ?_
 ·rintro⟨i2,l3⟩ y h;unfold M5 at h;refine Af hq [0,2,7,8,14] [11,34000] ?_;refine gC h (fun h=>?_) (fun h=>?_)
  ·obtain⟨hc5,h⟩:=Aa h;refine gR hq [0,2,7,8] [11,34000] [] [] (ci hc5 (c1 (Eq.refl l3.length))) ?_;refine K6 (Le.trans (P6 11 (show ∀ k_,k_<l3.length→AVleL ((fun i_=>AV.eraseAll (fun n_=>Dp n_ [11,34000]) ((Ga (fun i=>eB (l3.getD i false)) i2.toNat 0 [(.bool true)]) i_)) k_) ((fun i=>eB ((l3.set i2.toNat true).getD i false)) k_) from(Bt (List.length_set ..).symm (fun k_ hk_=>(congrArg (AV.eraseAll (fun n_=>Dp n_ [11,34000])) ((Hz (fun _ _=>rfl) (Jc hc5) rfl) k_ hk_)).trans rfl)))) (O6 (fun(k_:Nat) u=>(Ds u [(Og 11 k_)] [(11,.arr 1 4 k_ (fun i=>eB ((l3.set i2.toNat true).getD i false)))])) (show l3.length=(l3.set i2.toNat true).length from(List.length_set ..).symm))) ?_;obtain⟨hc6,h⟩:=Aa h;refine gR hq [0,2,7,8] [11,34000] [] [] (ci hc6 (c1 (Eq.refl a6.length))) ?_;cases h;exact gN Cm
  ·cases h;exact gO (Bj (Bx [0,2,7] [11,34000] hq))
 ·clear hx7;refine gA ?_;obtain⟨x13,hx13,h⟩:=bind_some h;refine gL hq hx13 [0,2,7] [11,34000] (fun u i9=>(Ds u [(2,(Z6 i9))] [])) (fun u i10=>aG Γ (.exit 2) (Lr [2] [34000] u [(2,(Z6 i10))] [])) ?_ ?_
  ·intro i9 y h;unfold M6 at h;obtain⟨hc11,h⟩:=Aa h;refine gR hq [0,2,7,26] [11,34000] [] [] (ci hc11 (c1 (Eq.refl x7.length))) ?_;refine gC h (fun h=>?_) (fun h=>?_)
   ·obtain⟨hc12,h⟩:=Aa h;refine gR hq [0,2,7] [11,34000] [] [] (ci hc12 (c1 (Eq.refl a6.length))) ?_;cases h;exact gN Cm
   ·cases h;exact gO (Bj (Bx [2] [34000] hq))
  ·clear hx13;refine gA ?_;refine Af hq [6] [34000] ?_;cases h;exact C0 [(34000,34000)]
def Da(aB:List Int):(Int×Int×List Int)→Option (LR (Int×Int×List Int) (Int×List Int)):=
 fun((i1,i2,l3):(Int×Int×List Int))=>(bif (decide (i2<(aB.length:Int))) then(Option.bind (α:=(Int×List Int)) (A9 (Ba i2 aB.length) (A9 (Ba (aB.getD i2.toNat 0) l3.length) (bif (((l3.getD (aB.getD i2.toNat 0).toNat (0:Int)):Int)==-2) then(some (i1,l3)) else(bif (i1==-2) then(some ((aB.getD i2.toNat 0),l3)) else((Lw l3 i1 (aB.getD i2.toNat 0)).bind fun x10=>(A9 (l3.length=x10.2.length) (some (x10.1,x10.2)))))))) (fun(i6,l7)=>(some (.next (i6,(w64 (i2+1)),l7))))) else(some (.done (i1,l3))))
def G3(a6:List Int)(aB:List Int):Option (Int×List Int):=
 ((Ag (Da aB) ((-2:Int),(0:Int),a6)).bind (fun(i4,l5)=>(some (i4,l5))))
theorem Ph(a6:List Int)(aB:List Int)(r:(Int×List Int))(h:G3 a6 aB=some r):Spec Tryz.prog 80 [(.vsl 34000 a6.length),(AV.list 1 Aj 0 aB .none)] [(34000,.arr 1 3 a6.length (fun i=>Aj (a6.getD i 0)))] (.int .i64 r.1) [(34000,.arr 1 3 r.2.length (fun i=>Aj (r.2.getD i 0)))]:=by
 refine Ac mix Tryz.func80 (fun Γ hq=>?_);unfold G3 at h;refine Af hq [0,1] [34000] ?_;refine Af hq [0,1,5] [34000] ?_;refine Af hq [0,5,8,9,10] [34000] ?_;obtain⟨x14,hx14,h⟩:=bind_some h;refine gL hq hx14 [0,5,8,9,10] [34000] (fun u (i1,i2,l3)=>(Ds u [(0,(.vsl 34000 l3.length)),(5,(Z6 i1)),(10,(Z6 i2))] [(Z4 34000 l3)])) (fun u (i4,l5)=>aG Γ (.exit 0) (⟨[(5,(Z6 i4))],[(Z4 34000 l5)],[]⟩:St)) ?_ ?_
 ·rintro⟨i1,i2,l3⟩ y h;unfold Da at h;refine Af hq [0,5,8,9,10,11] [34000] ?_;refine gC h (fun h=>?_) (fun h=>?_)
  ·obtain⟨x12,hx12,h⟩:=bind_some h;refine gJ hx12 (fun(i6,l7)=>aG Γ .normal (⟨[(0,(.vsl 34000 l7.length)),(5,(Z6 i6)),(8,(Z7 aB)),(9,(Z41 aB.length)),(10,(Z6 i2))],[(Z4 34000 l7)],[]⟩:St)) ?_ ?_
   ·clear h hx12;intro y h;obtain⟨hc8,h⟩:=Aa h;refine gR hq [0,5,7,8,9,10] [34000] [] [] (c1 hc8) ?_;obtain⟨hc9,h⟩:=Aa h;refine gR hq [0,5,7,8,9,10,18] [34000] [] [] (ci hc9 (c1 (Eq.refl l3.length))) ?_;refine gC h (fun h=>?_) (fun h=>?_)
    ·cases h;exact gK (Bj (Bx [0,5,8,9,10] [34000] hq))
    ·refine Af hq [0,5,7,8,9,10,24] [34000] ?_;refine gC h (fun h=>?_) (fun h=>?_)
     ·refine Af hq [0,5,8,9,10] [34000] ?_;cases h;exact gK (Bj Cm)
     ·obtain⟨x10,hx10,h⟩:=bind_some h;obtain⟨hc11,h⟩:=Aa h;refine gR hq [0,5,8,9,10] [34000] [] [⟨[(34000,34000)],[],(Z6 x10.1),[(Z4 34000 x10.2)],[]⟩] (c1 (ok_dom_meet_v2 l3 i1 (aB.getD i2.toNat 0) x10 hx10)) ?_;cases h;exact gK (Bj (Le.trans (O6 (fun(k_:Nat) u=>(Ds u [(0,(.vsl 34000 k_))] [])) (show l3.length=x10.2.length from hc11)) Cm))
   ·clear hx12;rcases x12 with⟨i6,l7⟩;refine gA ?_;refine Af hq [0,5,8,9,10] [34000] ?_;cases h;exact gN Cm
  ·cases h;exact gO (Bj (Bx [5] [34000] hq))
 ·clear hx14;rcases x14 with⟨i4,l5⟩;refine gA ?_;refine Af hq [4] [34000] ?_;cases h;exact C0 [(34000,34000)]
def Ex(a2:TGraph)(x3:List Int):(Bool×Int×List Int)→Option (LR (Bool×Int×List Int) (Bool×List Int)):=
 fun((b7,i8,l9):(Bool×Int×List Int))=>(bif (decide (i8<((x3.drop (1:Int).toNat).length:Int))) then(Option.bind (α:=(Bool×List Int)) (A9 (Ba i8 (x3.drop (1:Int).toNat).length) (A9 (Ba ((x3.drop (1:Int).toNat).getD i8.toNat 0) a2.Pred.length) ((G3 l9 (a2.Pred.getD ((x3.drop (1:Int).toNat).getD i8.toNat 0).toNat [])).bind fun x16=>(A9 (l9.length=x16.2.length) (A9 (Ba ((x3.drop (1:Int).toNat).getD i8.toNat 0) x16.2.length) (bif (x16.1 !=(x16.2.getD ((x3.drop (1:Int).toNat).getD i8.toNat 0).toNat (0:Int))) then(A9 (Ba ((x3.drop (1:Int).toNat).getD i8.toNat 0) x16.2.length) (some (true,(x16.2.set ((x3.drop (1:Int).toNat).getD i8.toNat 0).toNat x16.1)))) else(some (b7,x16.2)))))))) (fun(b12,l13)=>(some (.next (b12,(w64 (i8+1)),l13))))) else(some (.done (b7,l9))))
def Nf(a2:TGraph)(l1:List Int):(Bool×Int×List Int)→Option (LR (Bool×Int×List Int) (Bool×List Int)):=
 fun((b25,i26,l27):(Bool×Int×List Int))=>(bif (decide (i26<((l1.drop (1:Int).toNat).length:Int))) then(Option.bind (α:=(Bool×List Int)) (A9 (Ba i26 (l1.drop (1:Int).toNat).length) (A9 (Ba ((l1.drop (1:Int).toNat).getD i26.toNat 0) a2.Pred.length) ((G3 l27 (a2.Pred.getD ((l1.drop (1:Int).toNat).getD i26.toNat 0).toNat [])).bind fun x34=>(A9 (l27.length=x34.2.length) (A9 (Ba ((l1.drop (1:Int).toNat).getD i26.toNat 0) x34.2.length) (bif (x34.1 !=(x34.2.getD ((l1.drop (1:Int).toNat).getD i26.toNat 0).toNat (0:Int))) then(A9 (Ba ((l1.drop (1:Int).toNat).getD i26.toNat 0) x34.2.length) (some (true,(x34.2.set ((l1.drop (1:Int).toNat).getD i26.toNat 0).toNat x34.1)))) else(some (b25,x34.2)))))))) (fun(b30,l31)=>(some (.next (b30,(w64 (i26+1)),l31))))) else(some (.done (b25,l27))))
def Gc(a2:TGraph):(List Int×List Int)→Option (LR (List Int×List Int) (List Int)):=
 fun(s_:(List Int×List Int))=>match s_ with|(l1,l2)=>(A9 (0≤(1:Int)∧(1:Int)≤(l1.length:Int)) ((Ag (Nf a2 l1) (false,(0:Int),l2)).bind (fun x40=>(match x40 with|(b28,l29)=>(bif b28 then(some (.next (l1,l29))) else(some (.done l29)))))))
def K_dom_Tree(Γ:H4)(a2:TGraph)(aV:Int)(r:List Int):Exit→St→Prop:=fK Tryz.prog Γ Tryz.f51.results.toList [] (Z13 r 20000) [(20000,.tok 1 3 r.length)]
def Q51:=(fun n_=>Dp n_ [2,13,21])
def Q49:List (Nat×AV):=[(4,Z21)]
def Q48(x3:List Int)(i8:Int):=((x3.drop (1:Int).toNat).getD i8.toNat 0)
def Q47(l1:List Int)(i26:Int):=((l1.drop (1:Int).toNat).getD i26.toNat 0)
def Q50(a2:TGraph):List AV:=[(Z19 a2.Succ),(Z19 a2.Pred)]
def Q52:=(Z20:St)
def M4(a2:TGraph)(aV:Int):Option (List Int):=
 ((Pz (S:=(List Int×List Int)) (X:=List Int) ((H6 a2 aV).bind fun x3=>(bif (((x3.length:Int):Int)==0) then(some (.done ([]:List Int))) else((F9 ([(-2:Int)]:List Int) (a2.Succ.length:Int)).bind fun x4=>(A9 (Ba aV x4.length) (A9 (0≤(1:Int)∧(1:Int)≤(x3.length:Int)) ((Ag (Ex a2 x3) (false,(0:Int),(x4.set aV.toNat (-1:Int)))).bind (fun(b10,l11)=>(bif b10 then(some (.next (x3,l11))) else(some (.done l11)))))))))) (Gc a2)).bind (fun x42=>(some x42)))
theorem ok_dom_Tree(a2:TGraph)(aV:Int)(r:List Int)(h:M4 a2 aV=some r):Spec Tryz.prog 51 [(.agg (Jb a2)),(.int .i64 aV)] [] (AV.list 1 Aj 0 r (.own 20000)) [(20000,.tok 1 3 r.length)]:=by
 refine Ac mix Tryz.func51 (fun Γ hq=>?_);have hΓ:=hq.own;unfold M4 at h;refine gR hq [1,2] [2] Q49 [] (c1 (E0 1 Aj (0:Int))) ?_;obtain⟨x42,hx42,h⟩:=bind_some h;refine gS hx42 (fun(s_:(List Int×List Int))=>match s_ with|(l1,l2)=>0) (fun(s_:(List Int×List Int))=>match s_ with|(l1,l2)=>(⟨[O8,(5,(Z13 l1 13)),(6,(.vsl 21 l2.length))],[(L8 67 (Q50 a2)),(13,.tok 1 3 l1.length),(Z4 21 l2)],[]⟩:St)) (fun r_=>aR (K_dom_Tree Γ a2 aV r_)) ?_ ?_ ?_
 ·clear h hx42;intro y h;obtain⟨x3,hx3,h⟩:=bind_some h;refine gR hq [1,2,5] [2,13] [] [(Z38 13 x3 x3.length)] (c1 (Tx a2 aV x3 hx3)) ?_;refine Af hq [1,2,5,16] [2,13] ?_;refine gC h (fun h=>?_) (fun h=>?_)
  ·refine gR hq [4] [] Q49 [] (c1 (E0 1 Aj (0:Int))) ?_;refine N3 (⟨Q49,[],[]⟩:St) ?_;cases h;exact gJo (K1 (Ja [(6004,20000)] (show Le Γ _ Q52 from Le.trans (Bx (st':=⟨Q49,[],[]⟩) [4] [] hq) (Le.trans (Ok (t:=4) (nm:=6004) (sz':=1) (fun i=>Aj (([]:List Int).getD i 0)) 3 rfl rfl (.inl ⟨rfl,rfl⟩) (fun h_=>absurd h_ (by decide))) (Bx (st':=Q52) [4] [6004] hq)))))
  ·obtain⟨x4,hx4,h⟩:=bind_some h;refine gR hq [1,2,5,6] [2,13,21] [(17,(AV.list 1 Aj 0 ([(-2:Int)]:List Int) .exact))] [⟨[],[(20000,21)],(.vsl 20000 x4.length),[(Z4 20000 x4)],[]⟩] (ci (Cu 1 Aj (0:Int) ([(-2:Int)]:List Int)) (c1 (Py ([(-2:Int)]:List Int) (a2.Succ.length:Int) x4 hx4))) ?_;obtain⟨hc5,h⟩:=Aa h;refine gR hq [2,5,6] [2,13,21] [] [] (ci hc5 (c1 (Eq.refl x4.length))) ?_;refine K6 (Le.trans (P6 21 (show ∀ k_,k_<x4.length→AVleL ((fun i_=>AV.eraseAll Q51 ((Ga (fun i=>Aj (x4.getD i 0)) aV.toNat 0 [(.int .i64 (-1:Int))]) i_)) k_) ((fun i=>Aj ((x4.set aV.toNat (-1:Int)).getD i 0)) k_) from(Bt (List.length_set ..).symm (fun k_ hk_=>(congrArg (AV.eraseAll Q51) ((Hz (fun _ _=>rfl) (Jc hc5) rfl) k_ hk_)).trans rfl)))) (O6 (fun(k_:Nat) u=>(Ds u [(6,(.vsl 21 k_))] [(21,.arr 1 3 k_ (fun i=>Aj ((x4.set aV.toNat (-1:Int)).getD i 0)))])) (show x4.length=(x4.set aV.toNat (-1:Int)).length from(List.length_set ..).symm))) ?_;refine Af hq [2,5,6,7] [2,13,21] ?_;obtain⟨hc6,h⟩:=Aa h;refine gR hq [2,5,6,7,26,27,28] [2,13,21] [(26,(AV.list 1 Aj 0 (x3.drop (1:Int).toNat) .none))] [] (ci hc6 (c1 (show(AVle (.slice 1 (x3.length-(1:Int).toNat) (fun i=>Aj (x3.getD ((1:Int).toNat+i) 0)) .none) (AV.list 1 Aj 0 (x3.drop (1:Int).toNat) .none)) from av_drop))) ?_;obtain⟨x22,hx22,h⟩:=bind_some h;refine gL hq hx22 [2,5,6,7,26,27,28] [2,13,21] (fun u (b7,i8,l9)=>(Ds u [(6,(.vsl 21 l9.length)),(7,(.bool b7)),(28,(Z6 i8))] [(Z4 21 l9)])) (fun u (b10,l11)=>aG Γ (.exit 0) (Lr [2,5,6,7] [2,13,21] u [(6,(.vsl 21 l11.length)),(7,(.bool b10))] [(Z4 21 l11)])) ?_ ?_
   ·rintro⟨b7,i8,l9⟩ y h;unfold Ex at h;refine Af hq [2,5,6,7,26,27,28,29] [2,13,21] ?_;refine gC h (fun h=>?_) (fun h=>?_)
    ·obtain⟨x20,hx20,h⟩:=bind_some h;refine gJ hx20 (fun(b12,l13)=>aG Γ .normal (⟨[O8,(5,(Z13 x3 13)),(6,(.vsl 21 l13.length)),(7,(.bool b12)),(26,(AV.list 1 Aj 0 (x3.drop (1:Int).toNat) .none)),(27,(.int .i64 ((x3.drop (1:Int).toNat).length:Int))),(28,(Z6 i8))],[(L8 67 (Q50 a2)),(13,.tok 1 3 x3.length),(Z4 21 l13)],[]⟩:St)) ?_ ?_
     ·clear h hx20;intro y h;obtain⟨hc14,h⟩:=Aa h;refine gR hq [2,5,6,7,9,26,27,28] [2,13,21] [] [] (c1 hc14) ?_;obtain⟨hc15,h⟩:=Aa h;obtain⟨x16,hx16,h⟩:=bind_some h;obtain⟨hc17,h⟩:=Aa h;refine gR hq [2,5,6,7,9,10,26,27,28] [2,13,21] [] [⟨[(21,34000)],[],(Z6 x16.1),[(Z4 34000 x16.2)],[]⟩] (ci hc15 (c1 (Ph l9 (a2.Pred.getD (Q48 x3 i8).toNat []) x16 hx16))) ?_;refine K6 (O6 (fun(k_:Nat) u=>(Ds u [(6,(.vsl 21 k_))] [])) (show l9.length=x16.2.length from hc17)) ?_;obtain⟨hc18,h⟩:=Aa h;refine gR hq [2,5,6,7,9,10,26,27,28,44] [2,13,21] [] [] (ci hc18 (c1 (Eq.refl x16.2.length))) ?_;refine gC h (fun h=>?_) (fun h=>?_)
      ·obtain⟨hc19,h⟩:=Aa h;refine gR hq [2,5,6,7,26,27,28] [2,13,21] [] [] (ci hc19 (c1 (Eq.refl x16.2.length))) ?_;cases h;exact gK (Bj (Le.trans (Le.trans (P6 21 (show ∀ k_,k_<x16.2.length→AVleL ((fun i_=>AV.eraseAll Q51 ((Ga (fun i=>Aj (x16.2.getD i 0)) (Q48 x3 i8).toNat 0 [(Z6 x16.1)]) i_)) k_) ((fun i=>Aj ((x16.2.set (Q48 x3 i8).toNat x16.1).getD i 0)) k_) from(Bt (List.length_set ..).symm (fun k_ hk_=>(congrArg (AV.eraseAll Q51) ((Hz (fun _ _=>rfl) (Jc hc19) rfl) k_ hk_)).trans rfl)))) (O6 (fun(k_:Nat) u=>(Ds u [(6,(.vsl 21 k_))] [(21,.arr 1 3 k_ (fun i=>Aj ((x16.2.set (Q48 x3 i8).toNat x16.1).getD i 0)))])) (show x16.2.length=(x16.2.set (Q48 x3 i8).toNat x16.1).length from(List.length_set ..).symm))) Cm))
      ·cases h;exact gK (Bj (Bx [2,5,6,7,26,27,28] [2,13,21] hq))
     ·clear hx20;rcases x20 with⟨b12,l13⟩;refine gA ?_;refine Af hq [2,5,6,7,26,27,28] [2,13,21] ?_;cases h;exact gN Cm
    ·cases h;exact gO (Bj (Bx [2,5,6,7] [2,13,21] hq))
   ·clear hx22;rcases x22 with⟨b10,l11⟩;refine gA ?_;refine Af hq [2,5,6,50] [2,13,21] ?_;refine gC h (fun h=>?_) (fun h=>?_)
    ·cases h;exact gJn (Bx [2,5,6] [2,13,21] hq)
    ·refine Af hq [4] [21] ?_;refine N3 (⟨[(4,(.vsl 21 l11.length))],[(Z4 21 l11)],[]⟩:St) ?_;cases h;exact gJo (K1 (Ja [(21,20000)] (Le.trans (In (nm:=21) (sz:=1) (n:=l11.length) (e:=3) (f:=(fun i=>Aj (l11.getD i 0))) (g:=(fun i=>Aj (l11.getD i 0))) rfl ⟨rfl,trivial⟩ (fun _ _=>rfl) (by rw[hΓ];rfl)) (Im (st':=(Z63 l11 21 l11.length)) (by kernel_rfl)))))
 ·clear h hx42;rintro⟨l1,l2⟩ y h;unfold Gc at h;refine Af hq [2,5,6,7] [2,13,21] ?_;obtain⟨hc24,h⟩:=Aa h;refine gR hq [2,5,6,7,26,27,28] [2,13,21] [(26,(AV.list 1 Aj 0 (l1.drop (1:Int).toNat) .none))] [] (ci hc24 (c1 (show(AVle (.slice 1 (l1.length-(1:Int).toNat) (fun i=>Aj (l1.getD ((1:Int).toNat+i) 0)) .none) (AV.list 1 Aj 0 (l1.drop (1:Int).toNat) .none)) from av_drop))) ?_;obtain⟨x40,hx40,h⟩:=bind_some h;refine gL hq hx40 [2,5,6,7,26,27,28] [2,13,21] (fun u (b25,i26,l27)=>(Ds u [(6,(.vsl 21 l27.length)),(7,(.bool b25)),(28,(Z6 i26))] [(Z4 21 l27)])) (fun u (b28,l29)=>aG Γ (.exit 0) (Lr [2,5,6,7] [2,13,21] u [(6,(.vsl 21 l29.length)),(7,(.bool b28))] [(Z4 21 l29)])) ?_ ?_
  ·rintro⟨b25,i26,l27⟩ y h;unfold Nf at h;refine Af hq [2,5,6,7,26,27,28,29] [2,13,21] ?_;refine gC h (fun h=>?_) (fun h=>?_)
   ·obtain⟨x38,hx38,h⟩:=bind_some h;refine gJ hx38 (fun(b30,l31)=>aG Γ .normal (⟨[O8,(5,(Z13 l1 13)),(6,(.vsl 21 l31.length)),(7,(.bool b30)),(26,(AV.list 1 Aj 0 (l1.drop (1:Int).toNat) .none)),(27,(.int .i64 ((l1.drop (1:Int).toNat).length:Int))),(28,(Z6 i26))],[(L8 67 (Q50 a2)),(13,.tok 1 3 l1.length),(Z4 21 l31)],[]⟩:St)) ?_ ?_
    ·clear h hx38;intro y h;obtain⟨hc32,h⟩:=Aa h;refine gR hq [2,5,6,7,9,26,27,28] [2,13,21] [] [] (c1 hc32) ?_;obtain⟨hc33,h⟩:=Aa h;obtain⟨x34,hx34,h⟩:=bind_some h;obtain⟨hc35,h⟩:=Aa h;refine gR hq [2,5,6,7,9,10,26,27,28] [2,13,21] [] [⟨[(21,34000)],[],(Z6 x34.1),[(Z4 34000 x34.2)],[]⟩] (ci hc33 (c1 (Ph l27 (a2.Pred.getD (Q47 l1 i26).toNat []) x34 hx34))) ?_;refine K6 (O6 (fun(k_:Nat) u=>(Ds u [(6,(.vsl 21 k_))] [])) (show l27.length=x34.2.length from hc35)) ?_;obtain⟨hc36,h⟩:=Aa h;refine gR hq [2,5,6,7,9,10,26,27,28,44] [2,13,21] [] [] (ci hc36 (c1 (Eq.refl x34.2.length))) ?_;refine gC h (fun h=>?_) (fun h=>?_)
     ·obtain⟨hc37,h⟩:=Aa h;refine gR hq [2,5,6,7,26,27,28] [2,13,21] [] [] (ci hc37 (c1 (Eq.refl x34.2.length))) ?_;cases h;exact gK (Bj (Le.trans (Le.trans (P6 21 (show ∀ k_,k_<x34.2.length→AVleL ((fun i_=>AV.eraseAll Q51 ((Ga (fun i=>Aj (x34.2.getD i 0)) (Q47 l1 i26).toNat 0 [(Z6 x34.1)]) i_)) k_) ((fun i=>Aj ((x34.2.set (Q47 l1 i26).toNat x34.1).getD i 0)) k_) from(Bt (List.length_set ..).symm (fun k_ hk_=>(congrArg (AV.eraseAll Q51) ((Hz (fun _ _=>rfl) (Jc hc37) rfl) k_ hk_)).trans rfl)))) (O6 (fun(k_:Nat) u=>(Ds u [(6,(.vsl 21 k_))] [(21,.arr 1 3 k_ (fun i=>Aj ((x34.2.set (Q47 l1 i26).toNat x34.1).getD i 0)))])) (show x34.2.length=(x34.2.set (Q47 l1 i26).toNat x34.1).length from(List.length_set ..).symm))) Cm))
     ·cases h;exact gK (Bj (Bx [2,5,6,7,26,27,28] [2,13,21] hq))
    ·clear hx38;rcases x38 with⟨b30,l31⟩;refine gA ?_;refine Af hq [2,5,6,7,26,27,28] [2,13,21] ?_;cases h;exact gN Cm
   ·cases h;exact gO (Bj (Bx [2,5,6,7] [2,13,21] hq))
  ·clear hx40;rcases x40 with⟨b28,l29⟩;refine gA ?_;refine Af hq [2,5,6,50] [2,13,21] ?_;refine gC h (fun h=>?_) (fun h=>?_)
   ·cases h;exact gJn (Bx [2,5,6] [2,13,21] hq)
   ·refine Af hq [4] [21] ?_;refine N3 (⟨[(4,(.vsl 21 l29.length))],[(Z4 21 l29)],[]⟩:St) ?_;cases h;exact gJo (K1 (Ja [(21,20000)] (Le.trans (In (nm:=21) (sz:=1) (n:=l29.length) (e:=3) (f:=(fun i=>Aj (l29.getD i 0))) (g:=(fun i=>Aj (l29.getD i 0))) rfl ⟨rfl,trivial⟩ (fun _ _=>rfl) (by rw[hΓ];rfl)) (Im (st':=(Z63 l29 21 l29.length)) (by kernel_rfl)))))
 ·clear hx42;refine Mk (fun st' hk=>?_);obtain rfl:=OI h;exact gK hk
def Ig(aa3:List Ey)(aa6:List Int):Int→Option (LR Int (Unit ⊕ Bool)):=
 fun(i1:Int)=>(bif (decide (i1<(aa3.length:Int))) then(A9 (Ba i1 aa3.length) ((E6 ((aa3.getD i1.toNat default).From) aa6).bind fun x3=>(bif (bif (!x3) then true else(((((aa3.getD i1.toNat default).Args).length:Int):Int)!=(aa6.length:Int))) then(some (.done (.inr false))) else(some (.next (w64 (i1+1))))))) else(some (.done (.inl ()))))
def Y5(Γ:H4)(aa3:List Ey)(aa6:List Int)(r:Bool):Exit→St→Prop:=fK Tryz.prog Γ Tryz.f52.results.toList [] (.bool r) []
def J3(aa3:List Ey)(aa6:List Int):Option Bool:=
 ((Ag (Ig aa3 aa6) (0:Int)).bind (fun x4=>(match x4 with|(.inl _)=>(some true)|(.inr r6)=>(some r6))))
theorem X0(aa3:List Ey)(aa6:List Int)(r:Bool)(h:J3 aa3 aa6=some r):Spec Tryz.prog 52 [(AV.list 4 R5 default aa3 .none),(AV.list 1 Aj 0 aa6 .none)] [] (.bool r) []:=by
 refine Ac mix Tryz.func52 (fun Γ hq=>?_);unfold J3 at h;refine Af hq [0,1] [] ?_;refine Af hq [1,7,8,9] [] ?_;obtain⟨x4,hx4,h⟩:=bind_some h;refine gL hq hx4 [1,7,8,9] [] (fun u i1=>(Ds u [(9,(Z6 i1))] [])) (fun u x_=>match x_ with|(.inl _)=>aG Γ (.exit 0) (⟨[],[],[]⟩:St)|(.inr r_)=>aR (Y5 Γ aa3 aa6 r_)) ?_ ?_
 ·intro i1 y h;unfold Ig at h;refine Af hq [1,7,8,9,10] [] ?_;refine gC h (fun h=>?_) (fun h=>?_)
  ·obtain⟨hc2,h⟩:=Aa h;refine gR hq [1,6,7,8,9] [6] [] [] (c1 hc2) ?_;obtain⟨x3,hx3,h⟩:=bind_some h;refine gR hq [1,7,8,9,25] [] [] [(Z2 x3)] (ci (Md ((aa3.getD i1.toNat default).From) aa6 x3 hx3) (ci (gI ((!x3)==false)) (ci (gI ((!x3)==false)) (ci (gI ((!x3)==false)) (ci (gI ((!x3)==false)) (ci (gI ((!x3)==false)) (c1 (K2 (!x3))))))))) ?_;refine gC h (fun h=>?_) (fun h=>?_)
   ·refine Af hq [4] [] ?_;cases h;exact gO (K1 (Ja [] (Le.refl _ _)))
   ·refine Af hq [1,7,8,9] [] ?_;cases h;exact gN Cm
  ·cases h;exact gO (Bj (Bx [] [] hq))
 ·clear hx4;rcases x4 with _|r6
  ·refine gA ?_;refine Af hq [4] [] ?_;obtain rfl:=OI h;exact C0 []
  ·refine Mk (fun st' hk=>?_);obtain rfl:=OI h;exact gK hk
def Q53(aI:Hn):=(bif (aI.Kind==0) then true else(aI.Kind==2))
def Ip(aI:Hn):Option Bool:=
 (some (bif (bif (aI.Kind==0) then true else(aI.Kind==2)) then true else(aI.Arg==0)))
theorem Xz(aI:Hn)(r:Bool)(h:Ip aI=some r):Spec Tryz.prog 53 [(.agg (eTEnd aI))] [] (.bool r) []:=by
 refine Ac mix Tryz.func53 (fun Γ hq=>?_);unfold Ip at h;refine Af hq [1] [1] ?_;refine gR hq [2] [] [] [] (ci (gI ((aI.Kind==0)==false)) (ci (gI ((aI.Kind==0)==false)) (ci (K2 (aI.Kind==0)) (ci (gI ((Q53 aI)==false)) (ci (gI ((Q53 aI)==false)) (c1 (K2 (Q53 aI)))))))) ?_;cases h;exact C0 []
def Cv(a4:TFunc)(a9:Int)(a7:List Ao)(x1:(TGraph×Int))(x3:List Int):Int→Option (LR Int (Unit ⊕ (Int×TFunc×Int×List Int×List Ao))):=
 fun(i4:Int)=>(bif (decide (i4<(a4.Blocks.length:Int))) then(A9 (Ba i4 a4.Blocks.length) (A9 (Ba i4 x1.1.Pred.length) ((J3 ((a4.Blocks.getD i4.toNat default).Phis) (x1.1.Pred.getD i4.toNat [])).bind fun x7=>((bif ((!x7)==false) then Ip (⟨(a4.Blocks.getD i4.toNat default).End.Kind,(a4.Blocks.getD i4.toNat default).End.Arg,(a4.Blocks.getD i4.toNat default).End.To⟩:Hn) else some false).bind fun x8=>(bif (bif (!x7) then true else(!x8)) then(some (.done (.inr ((5:Int),a4,a9,x3,a7)))) else(some (.next (w64 (i4+1))))))))) else(some (.done (.inl ()))))
def Ql(Γ:H4)(a4:TFunc)(a9:Int)(aA:List Int)(a7:List Ao)(r:(Int×TFunc×Int×List Int×List Ao)):Exit→St→Prop:=fK Tryz.prog Γ Tryz.f31.results.toList (Z3 a4.Params a4.Ret a4.Blocks a9 aA a7 a7.length) (Z6 r.1) (Z3 r.2.1.Params r.2.1.Ret r.2.1.Blocks r.2.2.1 r.2.2.2.1 r.2.2.2.2 r.2.2.2.2.length)
def Q56(x1:(TGraph×Int)):=((x1.2 !=0)==false)
def Q55(x3:List Int)(a4:TFunc)(a9:Int)(a7:List Ao):List (Nat×Own):=[(31,.tok 1 3 x3.length),(30000,.row 59 [(Z7 a4.Params),(Z6 a4.Ret),(Z16 a4.Blocks),(Z6 a9),(Z7 x3),.nilm,(AV.list 5 C8 default a7 (.own 37006))]),(N2 37006 104 a7.length)]
def Q54(x3:List Int)(a4:TFunc)(a9:Int)(a7:List Ao):List (Nat×Own):=[(31,.tok 1 3 x3.length),(30000,.row 59 [(Z7 a4.Params),(Z6 a4.Ret),(Z16 a4.Blocks),(Z6 a9),(Z13 x3 31),.nilm,(AV.list 5 C8 default a7 (.own 37006))]),(N2 37006 104 a7.length)]
def Gg(a4:TFunc)(a9:Int)(aA:List Int)(a7:List Ao):Option (Int×TFunc×Int×List Int×List Ao):=
 ((Oo a4).bind fun x1=>((bif ((x1.2 !=0)==false) then H6 x1.1 (0:Int) else some []).bind fun x2=>(bif (bif (x1.2 !=0) then true else(decide (((x2.length:Int):Int)<(a4.Blocks.length:Int)))) then(some ((5:Int),a4,a9,aA,a7)) else((M4 x1.1 (0:Int)).bind fun x3=>((Ag (Cv a4 a9 a7 x1 x3) (0:Int)).bind (fun x9=>(match x9 with|(.inl _)=>(some ((0:Int),a4,a9,x3,a7))|(.inr r11)=>(some r11))))))))
theorem Qd(a4:TFunc)(a9:Int)(aA:List Int)(a7:List Ao)(r:(Int×TFunc×Int×List Int×List Ao))(h:Gg a4 a9 aA a7=some r):Spec Tryz.prog 31 [(.ptr 30000 0)] [(30000,.row 59 [(AV.list 1 Aj 0 a4.Params .none),(.int .i64 a4.Ret),(AV.list 5 A5 default a4.Blocks .none),(.int .i64 a9),(AV.list 1 Aj 0 aA .none),.nilm,(AV.list 5 C8 default a7 (.own 37006))]),(37006,.tok 5 104 a7.length)] (.int .i64 r.1) [(30000,.row 59 [(AV.list 1 Aj 0 r.2.1.Params .none),(.int .i64 r.2.1.Ret),(AV.list 5 A5 default r.2.1.Blocks .none),(.int .i64 r.2.2.1),(AV.list 1 Aj 0 r.2.2.2.1 .none),.nilm,(AV.list 5 C8 default r.2.2.2.2 (.own 37006))]),(37006,.tok 5 104 r.2.2.2.2.length)]:=by
 refine Ac mix Tryz.func31 (fun Γ hq=>?_);unfold Gg at h;refine Af hq [0] [30000,37006] ?_;obtain⟨x1,hx1,h⟩:=bind_some h;refine gR hq [0,3,4] [3,30000,37006] [] [(Z42 x1.1 x1.2)] (c1 (ok_graph_Of a4 x1 hx1)) ?_;obtain⟨x2,hx2,h⟩:=bind_some h;refine gR hq [0,3,28] [3,30000,37006] [] [⟨[],[],(Z7 x2),[],[]⟩] (ci (gI (Q56 x1)) (ci (show((Q56 x1)=true→(Spec Tryz.prog 50 [(.agg (Jb x1.1)),Mw] [] (Z7 x2) [])) from(fun hg=>(Spec.drop (Tx x1.1 (0:Int) x2 (Bq hg hx2))))) (ci (gI (Q56 x1)) (ci (gI (Q56 x1)) (ci (gI (Q56 x1)) (ci (gI (Q56 x1)) (ci (gI (Q56 x1)) (ci (gI (Q56 x1)) (ci (gI (Q56 x1)) (ci (gI (Q56 x1)) (c1 (K2 (x1.2 !=0))))))))))))) ?_;refine gC h (fun h=>?_) (fun h=>?_)
 ·refine Af hq [2] [30000,37006] ?_;cases h;exact C0 [(30000,30000),(37006,37006)]
 ·obtain⟨x3,hx3,h⟩:=bind_some h;refine gR hq [0,3] [3,31,30000,37006] [] [(Z38 31 x3 x3.length)] (c1 (ok_dom_Tree x1.1 (0:Int) x3 hx3)) ?_;refine Af hq [3,38,39,40] [3,31,30000,37006] ?_;obtain⟨x9,hx9,h⟩:=bind_some h;refine gL hq hx9 [3,38,39,40] [3,31,30000,37006] (fun u i4=>(Ds u [(40,(Z6 i4))] [])) (fun u x_=>match x_ with|(.inl _)=>aG Γ (.exit 0) (Lr [] [31,30000,37006] u [] [])|(.inr r_)=>aR (Ql Γ a4 a9 aA a7 r_)) ?_ ?_
  ·intro i4 y h;unfold Cv at h;refine Af hq [3,38,39,40,41] [3,31,30000,37006] ?_;refine gC h (fun h=>?_) (fun h=>?_)
   ·obtain⟨hc5,h⟩:=Aa h;refine gR hq [3,5,6,38,39,40] [3,6,31,30000,37006] [] [] (c1 hc5) ?_;obtain⟨hc6,h⟩:=Aa h;obtain⟨x7,hx7,h⟩:=bind_some h;obtain⟨x8,hx8,h⟩:=bind_some h;refine gR hq [3,38,39,40,59] [3,31,30000,37006] [] [(Z2 x7),(Z2 x8)] (ci hc6 (ci (X0 ((a4.Blocks.getD i4.toNat default).Phis) (x1.1.Pred.getD i4.toNat []) x7 hx7) (ci (gI ((!x7)==false)) (ci (gI ((!x7)==false)) (ci (fun(hg:((!x7)==false)=true)=>(Xz (⟨(a4.Blocks.getD i4.toNat default).End.Kind,(a4.Blocks.getD i4.toNat default).End.Arg,(a4.Blocks.getD i4.toNat default).End.To⟩:Hn) x8 (Bq hg hx8))) (ci (gI ((!x7)==false)) (c1 (K2 (!x7))))))))) ?_;refine gC h (fun h=>?_) (fun h=>?_)
    ·refine Af hq [2] [31,30000,37006] ?_;refine N3 (⟨[(2,(.int .i64 (5:Int)))],(Q54 x3 a4 a9 a7),[]⟩:St) ?_;cases h;exact gO (K1 (Ja [(30000,30000),(37006,37006)] (show Le Γ _ (⟨[(2,(.int .i64 (5:Int)))],(Q55 x3 a4 a9 a7),[]⟩:St) from Le.trans (Bx (st':=⟨[(2,(.int .i64 (5:Int)))],(Q54 x3 a4 a9 a7),[]⟩) [2] [31,30000,37006] hq) (Ic (.cons (AVle.refl _) .nil) (.same (.row (.cons (AVle.refl _) (.cons (AVle.refl _) (.cons (AVle.refl _) (.cons (AVle.refl _) (.cons AVle.untag (.cons (AVle.refl _) (.cons (AVle.refl _) .nil))))))) (.same .nil)))))))
    ·refine Af hq [3,38,39,40] [3,31,30000,37006] ?_;cases h;exact gN Cm
   ·cases h;exact gO (Bj (Bx [] [31,30000,37006] hq))
  ·clear hx9;rcases x9 with _|r11
   ·refine gA ?_;refine Af hq [2] [31,30000,37006] ?_;refine N3 (⟨[(2,Mw)],(Q54 x3 a4 a9 a7),[]⟩:St) ?_;cases h;exact gK (e:=.ret) (Ja [(30000,30000),(37006,37006)] (show Le Γ _ (⟨[(2,Mw)],(Q55 x3 a4 a9 a7),[]⟩:St) from Le.trans (Bx (st':=⟨[(2,Mw)],(Q54 x3 a4 a9 a7),[]⟩) [2] [31,30000,37006] hq) (Ic (.cons (AVle.refl _) .nil) (.same (.row (.cons (AVle.refl _) (.cons (AVle.refl _) (.cons (AVle.refl _) (.cons (AVle.refl _) (.cons AVle.untag (.cons (AVle.refl _) (.cons (AVle.refl _) .nil))))))) (.same .nil))))))
   ·refine Mk (fun st' hk=>?_);obtain rfl:=OI h;exact gK hk
def Ih(aC:Int):Option Bool:=
 (Option.bind (α:=Bool) (bif (aC==1) then(some (aC==1)) else(bif (aC==8) then(some (aC==8)) else(bif (aC==16) then(some (aC==16)) else(bif (aC==32) then(some (aC==32)) else(some (aC==64)))))) (fun x2=>(bif x2 then(some true) else(some false))))
theorem Kx(aC:Int)(r:Bool)(h:Ih aC=some r):Spec Tryz.prog 55 [(.int .i64 aC)] [] (.bool r) []:=by
 refine Ac mix Tryz.func55 (fun Γ hq=>?_);unfold Ih at h;refine Af hq [0] [] ?_;refine Af hq [3] [] ?_;obtain⟨x2,hx2,h⟩:=bind_some h;refine gJ hx2 (fun b1=>aG Γ .normal (⟨[(4,(.bool b1))],[],[]⟩:St)) ?_ ?_
 ·clear h hx2;intro y h;refine Af hq [3,4] [] ?_;refine gC h (fun h=>?_) (fun h=>?_)
  ·cases h;exact gK (Bj (Bx [4] [] hq))
  ·refine Af hq [3,4] [] ?_;refine gC h (fun h=>?_) (fun h=>?_)
   ·cases h;exact gK (Bj (Bx [4] [] hq))
   ·refine Af hq [3,4] [] ?_;refine gC h (fun h=>?_) (fun h=>?_)
    ·cases h;exact gK (Bj (Bx [4] [] hq))
    ·refine Af hq [3,4] [] ?_;refine gC h (fun h=>?_) (fun h=>?_)
     ·cases h;exact gK (Bj (Bx [4] [] hq))
     ·refine Af hq [4] [] ?_;cases h;exact gK (Bj Cm)
 ·clear hx2;refine gA ?_;refine gC h (fun h=>?_) (fun h=>?_)
  ·refine Af hq [2] [] ?_;obtain rfl:=OI h;exact C0 []
  ·refine Af hq [2] [] ?_;obtain rfl:=OI h;exact C0 []
def Ie(aB:List Int):Int→Option (LR Int (Unit ⊕ Bool)):=
 fun(i1:Int)=>(bif (decide (i1<(aB.length:Int))) then(A9 (Ba i1 aB.length) ((Ih (aB.getD i1.toNat 0)).bind fun x3=>(bif (!x3) then(some (.done (.inr false))) else(some (.next (w64 (i1+1))))))) else(some (.done (.inl ()))))
def Y4(Γ:H4)(aB:List Int)(r:Bool):Exit→St→Prop:=fK Tryz.prog Γ Tryz.f54.results.toList [] (.bool r) []
def J2(aB:List Int):Option Bool:=
 ((Ag (Ie aB) (0:Int)).bind (fun x4=>(match x4 with|(.inl _)=>(some true)|(.inr r6)=>(some r6))))
theorem Xy(aB:List Int)(r:Bool)(h:J2 aB=some r):Spec Tryz.prog 54 [(AV.list 1 Aj 0 aB .none),(.clo 55 [] [])] [] (.bool r) []:=by
 refine Ac mix Tryz.func54 (fun Γ hq=>?_);unfold J2 at h;refine Af hq [0,1] [] ?_;refine Af hq [1,7,8,9] [] ?_;obtain⟨x4,hx4,h⟩:=bind_some h;refine gL hq hx4 [1,7,8,9] [] (fun u i1=>(Ds u [(9,(Z6 i1))] [])) (fun u x_=>match x_ with|(.inl _)=>aG Γ (.exit 0) (⟨[],[],[]⟩:St)|(.inr r_)=>aR (Y4 Γ aB r_)) ?_ ?_
 ·intro i1 y h;unfold Ie at h;refine Af hq [1,7,8,9,10] [] ?_;refine gC h (fun h=>?_) (fun h=>?_)
  ·obtain⟨hc2,h⟩:=Aa h;refine gR hq [1,6,7,8,9] [] [] [] (c1 hc2) ?_;obtain⟨x3,hx3,h⟩:=bind_some h;refine gR hq [1,7,8,9,16] [] [] [(Z2 x3)] (c1 (Kx (aB.getD i1.toNat 0) x3 hx3)) ?_;refine gC h (fun h=>?_) (fun h=>?_)
   ·refine Af hq [4] [] ?_;cases h;exact gO (K1 (Ja [] (Le.refl _ _)))
   ·refine Af hq [1,7,8,9] [] ?_;cases h;exact gN Cm
  ·cases h;exact gO (Bj (Bx [] [] hq))
 ·clear hx4;rcases x4 with _|r6
  ·refine gA ?_;refine Af hq [4] [] ?_;obtain rfl:=OI h;exact C0 []
  ·refine Mk (fun st' hk=>?_);obtain rfl:=OI h;exact gK hk
def K7(aW:Ey):Option Bool:=
 ((Ih aW.Bits).bind fun x1=>(some x1))
theorem Wz(aW:Ey)(r:Bool)(h:K7 aW=some r):Spec Tryz.prog 83 [(.agg (R5 aW))] [] (.bool r) []:=by
 refine Ac mix Tryz.func83 (fun Γ hq=>?_);unfold K7 at h;refine Af hq [1] [1] ?_;obtain⟨x1,hx1,h⟩:=bind_some h;refine gR hq [2] [] [] [(Z2 x1)] (c1 (Kx aW.Bits x1 hx1)) ?_;obtain rfl:=OI h;exact C0 []
def Gf(aB:List Ey):Int→Option (LR Int (Unit ⊕ Bool)):=
 fun(i1:Int)=>(bif (decide (i1<(aB.length:Int))) then(A9 (Ba i1 aB.length) ((K7 (aB.getD i1.toNat default)).bind fun x3=>(bif (!x3) then(some (.done (.inr false))) else(some (.next (w64 (i1+1))))))) else(some (.done (.inl ()))))
def U6(Γ:H4)(aB:List Ey)(r:Bool):Exit→St→Prop:=fK Tryz.prog Γ Tryz.f82.results.toList [] (.bool r) []
def Hw(aB:List Ey):Option Bool:=
 ((Ag (Gf aB) (0:Int)).bind (fun x4=>(match x4 with|(.inl _)=>(some true)|(.inr r6)=>(some r6))))
theorem Tv(aB:List Ey)(r:Bool)(h:Hw aB=some r):Spec Tryz.prog 82 [(AV.list 4 R5 default aB .none),(.clo 83 [] [])] [] (.bool r) []:=by
 refine Ac mix Tryz.func82 (fun Γ hq=>?_);unfold Hw at h;refine Af hq [0,1] [] ?_;refine Af hq [1,7,8,9] [] ?_;obtain⟨x4,hx4,h⟩:=bind_some h;refine gL hq hx4 [1,7,8,9] [] (fun u i1=>(Ds u [(9,(Z6 i1))] [])) (fun u x_=>match x_ with|(.inl _)=>aG Γ (.exit 0) (⟨[],[],[]⟩:St)|(.inr r_)=>aR (U6 Γ aB r_)) ?_ ?_
 ·intro i1 y h;unfold Gf at h;refine Af hq [1,7,8,9,10] [] ?_;refine gC h (fun h=>?_) (fun h=>?_)
  ·obtain⟨hc2,h⟩:=Aa h;refine gR hq [1,6,7,8,9] [6] [] [] (c1 hc2) ?_;obtain⟨x3,hx3,h⟩:=bind_some h;refine gR hq [1,7,8,9,16] [] [] [(Z2 x3)] (c1 (Wz (aB.getD i1.toNat default) x3 hx3)) ?_;refine gC h (fun h=>?_) (fun h=>?_)
   ·refine Af hq [4] [] ?_;cases h;exact gO (K1 (Ja [] (Le.refl _ _)))
   ·refine Af hq [1,7,8,9] [] ?_;cases h;exact gN Cm
  ·cases h;exact gO (Bj (Bx [] [] hq))
 ·clear hx4;rcases x4 with _|r6
  ·refine gA ?_;refine Af hq [4] [] ?_;obtain rfl:=OI h;exact C0 []
  ·refine Mk (fun st' hk=>?_);obtain rfl:=OI h;exact gK hk
def Lx(aa8:Int):Option Bool:=
 (some (bif (decide (((0:Int):Int)≤aa8)) then(decide (aa8≤22)) else false))
theorem ok_kind_isKind(aa8:Int)(r:Bool)(h:Lx aa8=some r):Spec Tryz.prog 115 [(.int .i64 aa8)] [] (.bool r) []:=by
 refine Ac mix Tryz.func115 (fun Γ hq=>?_);unfold Lx at h;refine Af hq [0] [] ?_;refine gR hq [2] [] [] [] (ci (gI ((decide (((0:Int):Int)≤aa8))==true)) (c1 (Mb (decide (((0:Int):Int)≤aa8))))) ?_;cases h;exact C0 []
def Q57(x5:Bool)(aC:Int):=(bif x5 then(decide (((8:Int):Int)≤aC)) else false)
def Mo(aC:Int)(aL:Int):Option Bool:=
 (bif (aL==1) then((Ih aC).bind fun x1=>(some x1)) else(Option.bind (α:=Bool) (bif (aL==2) then(some (aL==2)) else(bif (aL==4) then(some (aL==4)) else(bif (aL==8) then(some (aL==8)) else(some (aL==16))))) (fun x3=>(bif x3 then((Ih aC).bind fun x5=>(some (bif (bif x5 then(decide (((8:Int):Int)≤aC)) else false) then(decide (((w64 (aC*aL)):Int)≤128)) else false))) else(some false)))))
theorem ok_kind_Shape(aC:Int)(aL:Int)(r:Bool)(h:Mo aC aL=some r):Spec Tryz.prog 116 [(.int .i64 aC),(.int .i64 aL)] [] (.bool r) []:=by
 refine Ac mix Tryz.func116 (fun Γ hq=>?_);unfold Mo at h;refine Af hq [0,1] [] ?_;refine Af hq [0,1,5] [] ?_;refine Af hq [0,1,5,6] [] ?_;refine gC h (fun h=>?_) (fun h=>?_)
 ·obtain⟨x1,hx1,h⟩:=bind_some h;refine gR hq [4] [] [] [(Z2 x1)] (c1 (Kx aC x1 hx1)) ?_;obtain rfl:=OI h;exact C0 []
 ·obtain⟨x3,hx3,h⟩:=bind_some h;refine gJ hx3 (fun b2=>aG Γ .normal (⟨[(0,(Z6 aC)),(1,(Z6 aL)),(10,(.bool b2))],[],[]⟩:St)) ?_ ?_
  ·clear h hx3;intro y h;refine Af hq [0,1,5,10] [] ?_;refine gC h (fun h=>?_) (fun h=>?_)
   ·cases h;exact gK (Bj (Bx [0,1,10] [] hq))
   ·refine Af hq [0,1,5,10] [] ?_;refine gC h (fun h=>?_) (fun h=>?_)
    ·cases h;exact gK (Bj (Bx [0,1,10] [] hq))
    ·refine Af hq [0,1,5,10] [] ?_;refine gC h (fun h=>?_) (fun h=>?_)
     ·cases h;exact gK (Bj (Bx [0,1,10] [] hq))
     ·refine Af hq [0,1,10] [] ?_;cases h;exact gK (Bj Cm)
  ·clear hx3;refine gA ?_;refine gC h (fun h=>?_) (fun h=>?_)
   ·obtain⟨x5,hx5,h⟩:=bind_some h;refine gR hq [4] [] [] [(Z2 x5)] (ci (Kx aC x5 hx5) (ci (gI (x5==true)) (ci (Mb x5) (ci (gI ((Q57 x5 aC)==true)) (ci (gI ((Q57 x5 aC)==true)) (ci (gI ((Q57 x5 aC)==true)) (c1 (Mb (Q57 x5 aC))))))))) ?_;cases h;exact C0 []
   ·refine Af hq [4] [] ?_;obtain rfl:=OI h;exact C0 []
def Q58(a1:Dv):List (Nat×Own):=[(Z47 a1.Kind a1.Bits a1.Lanes a1.Dst a1.Args a1.Imm)]
def Jm(a1:Dv):Option Bool:=
 (Option.bind (α:=Bool) (bif (a1.Kind==16) then(some (a1.Kind==16)) else(some (a1.Kind==17))) (fun x2=>(bif x2 then(some (decide (((8:Int):Int)≤a1.Bits))) else(Option.bind (α:=Bool) (bif (a1.Kind==18) then(some (a1.Kind==18)) else(some (a1.Kind==19))) (fun x5=>(bif x5 then(some (bif (decide (((8:Int):Int)≤a1.Bits)) then(a1.Lanes==1) else false)) else(Option.bind (α:=Bool) (bif (a1.Kind==4) then(some (a1.Kind==4)) else(bif (a1.Kind==10) then(some (a1.Kind==10)) else(bif (a1.Kind==11) then(some (a1.Kind==11)) else(bif (a1.Kind==12) then(some (a1.Kind==12)) else(bif (a1.Kind==14) then(some (a1.Kind==14)) else(bif (a1.Kind==15) then(some (a1.Kind==15)) else(some (a1.Kind==20)))))))) (fun x8=>(bif x8 then(some (a1.Lanes==1)) else(Option.bind (α:=Bool) (bif (a1.Kind==21) then(some (a1.Kind==21)) else(some (a1.Kind==22))) (fun x11=>(bif x11 then(some (decide (((1:Int):Int)<a1.Lanes))) else(some true)))))))))))))
theorem W1(a1:Dv)(r:Bool)(h:Jm a1=some r):Spec Tryz.prog 117 [(.agg (Mi a1))] [] (.bool r) []:=by
 refine Ac mix Tryz.func117 (fun Γ hq=>?_);unfold Jm at h;refine Af hq [1] [1] ?_;refine Af hq [1,4] [1] ?_;obtain⟨x2,hx2,h⟩:=bind_some h;refine gJ hx2 (fun b1=>aG Γ .normal (⟨[Vh,(4,(Z6 a1.Kind)),(5,(.bool b1))],(Q58 a1),[]⟩:St)) ?_ ?_
 ·clear h hx2;intro y h;refine Af hq [1,4,5] [1] ?_;refine gC h (fun h=>?_) (fun h=>?_)
  ·cases h;exact gK (Bj Cm)
  ·refine Af hq [1,4,5] [1] ?_;cases h;exact gK (Bj Cm)
 ·clear hx2;refine gA ?_;refine gC h (fun h=>?_) (fun h=>?_)
  ·refine Af hq [2] [] ?_;cases h;exact C0 []
  ·obtain⟨x5,hx5,h⟩:=bind_some h;refine gJ hx5 (fun b4=>aG Γ .normal (⟨[Vh,(4,(Z6 a1.Kind)),(11,(.bool b4))],(Q58 a1),[]⟩:St)) ?_ ?_
   ·clear h hx5;intro y h;refine Af hq [1,4,11] [1] ?_;refine gC h (fun h=>?_) (fun h=>?_)
    ·cases h;exact gK (Bj Cm)
    ·refine Af hq [1,4,11] [1] ?_;cases h;exact gK (Bj Cm)
   ·clear hx5;refine gA ?_;refine gC h (fun h=>?_) (fun h=>?_)
    ·refine gR hq [2] [] [] [] (ci (gI ((decide (((8:Int):Int)≤a1.Bits))==true)) (ci (gI ((decide (((8:Int):Int)≤a1.Bits))==true)) (c1 (Mb (decide (((8:Int):Int)≤a1.Bits)))))) ?_;cases h;exact C0 []
    ·obtain⟨x8,hx8,h⟩:=bind_some h;refine gJ hx8 (fun b7=>aG Γ .normal (⟨[Vh,(4,(Z6 a1.Kind)),(22,(.bool b7))],(Q58 a1),[]⟩:St)) ?_ ?_
     ·clear h hx8;intro y h;refine Af hq [1,4,22] [1] ?_;refine gC h (fun h=>?_) (fun h=>?_)
      ·cases h;exact gK (Bj Cm)
      ·refine Af hq [1,4,22] [1] ?_;refine gC h (fun h=>?_) (fun h=>?_)
       ·cases h;exact gK (Bj Cm)
       ·refine Af hq [1,4,22] [1] ?_;refine gC h (fun h=>?_) (fun h=>?_)
        ·cases h;exact gK (Bj Cm)
        ·refine Af hq [1,4,22] [1] ?_;refine gC h (fun h=>?_) (fun h=>?_)
         ·cases h;exact gK (Bj Cm)
         ·refine Af hq [1,4,22] [1] ?_;refine gC h (fun h=>?_) (fun h=>?_)
          ·cases h;exact gK (Bj Cm)
          ·refine Af hq [1,4,22] [1] ?_;refine gC h (fun h=>?_) (fun h=>?_)
           ·cases h;exact gK (Bj Cm)
           ·refine Af hq [1,4,22] [1] ?_;cases h;exact gK (Bj Cm)
     ·clear hx8;refine gA ?_;refine gC h (fun h=>?_) (fun h=>?_)
      ·refine Af hq [2] [] ?_;cases h;exact C0 []
      ·obtain⟨x11,hx11,h⟩:=bind_some h;refine gJ hx11 (fun b10=>aG Γ .normal (⟨[Vh,(33,(.bool b10))],(Q58 a1),[]⟩:St)) ?_ ?_
       ·clear h hx11;intro y h;refine Af hq [1,4,33] [1] ?_;refine gC h (fun h=>?_) (fun h=>?_)
        ·cases h;exact gK (Bj (Bx [1,33] [1] hq))
        ·refine Af hq [1,33] [1] ?_;cases h;exact gK (Bj Cm)
       ·clear hx11;refine gA ?_;refine gC h (fun h=>?_) (fun h=>?_)
        ·refine Af hq [2] [] ?_;cases h;exact C0 []
        ·refine Af hq [2] [] ?_;obtain rfl:=OI h;exact C0 []
def Oq(aE:Int)(aC:Int):Option Int:=
 ((Ih aC).bind fun x1=>(bif (!x1) then(some (0:Int)) else(A9 (0≤(w64 ((64:Int)-aC))) (A9 (0≤(w64 ((64:Int)-aC))) (some (Xd .u64 (shlV .u64 aE (w64 ((64:Int)-aC))) (w64 ((64:Int)-aC))))))))
theorem ok_word_Cut(aE:Int)(aC:Int)(r:Int)(h:Oq aE aC=some r):Spec Tryz.prog 136 [(.int .u64 aE),(.int .i64 aC)] [] (.int .u64 r) []:=by
 refine Ac mix Tryz.func136 (fun Γ hq=>?_);unfold Oq at h;refine Af hq [0,1] [] ?_;obtain⟨x1,hx1,h⟩:=bind_some h;refine gR hq [0,1,7] [] [] [(Z2 x1)] (c1 (Kx aC x1 hx1)) ?_;refine gC h (fun h=>?_) (fun h=>?_)
 ·refine Af hq [4] [] ?_;cases h;exact C0 []
 ·obtain⟨hc2,h⟩:=Aa h;obtain⟨hc3,h⟩:=Aa h;refine gR hq [4] [] [] [] (ci hc2 (c1 hc3)) ?_;cases h;exact C0 []
def Jl(aa5:Int):Option Bool:=
 ((bif ((decide (aa5≤64))==true) then Ih (w64 aa5) else some false).bind fun x1=>(some (bif (decide (aa5≤64)) then x1 else false)))
theorem Sd(aa5:Int)(r:Bool)(h:Jl aa5=some r):Spec Tryz.prog 137 [(.int .u64 aa5)] [] (.bool r) []:=by
 refine Ac mix Tryz.func137 (fun Γ hq=>?_);unfold Jl at h;refine Af hq [0] [] ?_;obtain⟨x1,hx1,h⟩:=bind_some h;refine gR hq [2] [] [] [(Z2 x1)] (ci (gI ((decide (aa5≤64))==true)) (ci (gI ((decide (aa5≤64))==true)) (ci (fun(hg:((decide (aa5≤64))==true)=true)=>(Kx (w64 aa5) x1 (Bq hg hx1))) (c1 (Mb (decide (aa5≤64))))))) ?_;cases h;exact C0 []
def Kt(a1:Dv):Option Bool:=
 (bif (a1.Kind==0) then((Oq a1.Imm a1.Bits).bind fun x1=>(some (x1==a1.Imm))) else(bif (a1.Kind==14) then((Jl a1.Imm).bind fun x2=>(some (bif x2 then(decide (a1.Imm<(Ho a1.Bits))) else false))) else(bif (a1.Kind==15) then((Jl a1.Imm).bind fun x3=>(some (bif x3 then(decide (((Ho a1.Bits):Int)<a1.Imm)) else false))) else(bif (a1.Kind==22) then(some (decide (a1.Imm<(Ho a1.Lanes)))) else(some (a1.Imm==0))))))
theorem Ze(a1:Dv)(r:Bool)(h:Kt a1=some r):Spec Tryz.prog 118 [(.agg (Mi a1))] [] (.bool r) []:=by
 refine Ac mix Tryz.func118 (fun Γ hq=>?_);unfold Kt at h;refine Af hq [1] [1] ?_;refine Af hq [1,4] [1] ?_;refine Af hq [1,4,5] [1] ?_;refine gC h (fun h=>?_) (fun h=>?_)
 ·obtain⟨x1,hx1,h⟩:=bind_some h;refine gR hq [2] [] [] [⟨[],[],(.int .u64 x1),[],[]⟩] (c1 (ok_word_Cut a1.Imm a1.Bits x1 hx1)) ?_;cases h;exact C0 []
 ·refine Af hq [1,4,15] [1] ?_;refine gC h (fun h=>?_) (fun h=>?_)
  ·obtain⟨x2,hx2,h⟩:=bind_some h;refine gR hq [2] [] [] [(Z2 x2)] (ci (Sd a1.Imm x2 hx2) (ci (gI (x2==true)) (ci (gI (x2==true)) (ci (gI (x2==true)) (ci (gI (x2==true)) (ci (gI (x2==true)) (c1 (Mb x2)))))))) ?_;cases h;exact C0 []
  ·refine Af hq [1,4,28] [1] ?_;refine gC h (fun h=>?_) (fun h=>?_)
   ·obtain⟨x3,hx3,h⟩:=bind_some h;refine gR hq [2] [] [] [(Z2 x3)] (ci (Sd a1.Imm x3 hx3) (ci (gI (x3==true)) (ci (gI (x3==true)) (ci (gI (x3==true)) (ci (gI (x3==true)) (ci (gI (x3==true)) (c1 (Mb x3)))))))) ?_;cases h;exact C0 []
   ·refine Af hq [1,41] [1] ?_;refine gC h (fun h=>?_) (fun h=>?_)
    ·refine Af hq [2] [] ?_;cases h;exact C0 []
    ·refine Af hq [2] [] ?_;cases h;exact C0 []
def G5(aaA:List ((Int×Int))):Option (List (Int×Int)):=
 (some aaA)
theorem H7(aaA:List ((Int×Int)))(r:List ((Int×Int)))(h:G5 aaA=some r):Spec Tryz.prog 121 [(AV.list 2 A2 ((0:Int),(0:Int)) aaA .none)] [] (AV.list 2 A2 ((0:Int),(0:Int)) r .none) []:=by
 refine Ac mix Tryz.func121 (fun Γ hq=>?_);unfold G5 at h;refine gR hq [0] [] [(2,Z30)] [] (c1 (E0 2 A2 ((0:Int),(0:Int)))) ?_;refine Af hq [2] [] ?_;obtain rfl:=OI h;exact C0 []
def Ch :(Int×List (Int×Int))→Option (LR (Int×List (Int×Int)) (List (Int×Int))):=
 fun((i7,l8):(Int×List (Int×Int)))=>(bif (decide (i7<(l8.length:Int))) then(A9 (0≤i7∧0+i7.toNat≤l8.length) (A9 (0≤i7∧0+i7.toNat≤l8.length) (some (.next ((w64 (i7+((Nat.min ((0+i7.toNat)-0) (l8.length-(0+i7.toNat))):Int))),(cpL l8 (0+i7.toNat) (Nat.min ((0+i7.toNat)-0) (l8.length-(0+i7.toNat))) (fun i=>l8.getD (0+i) ((0:Int),(0:Int))))))))) else(some (.done l8)))
def Q59(x3:(Int×Int)):=(List.replicate (w64 x3.2).toNat ((0:Int),(0:Int)))
def Q61(x3:(Int×Int))(aJ:List ((Int×Int))):=(cpL (Q59 x3) 0 (Nat.min aJ.length ((Q59 x3).length-0)) (fun i=>aJ.getD i ((0:Int),(0:Int))))
def Q60(l8:List ((Int×Int)))(i7:Int):=(cpL l8 (0+i7.toNat) (Nat.min ((0+i7.toNat)-0) (l8.length-(0+i7.toNat))) (fun i=>l8.getD (0+i) ((0:Int),(0:Int))))
def Bo(aJ:List ((Int×Int)))(aa1:Int):Option (List (Int×Int)):=
 (Option.bind (α:=Unit) (bif (decide (aa1<0)) then none else(some ())) (fun x1=>(match x1 with|_=>((L5 (Ho (aJ.length:Int)) (Ho aa1)).bind fun x3=>(Option.bind (α:=Unit) (bif (bif (decide (((0:Int):Int)<x3.1)) then true else(decide (((9223372036854775807:Int):Int)<x3.2))) then none else(some ())) (fun x4=>(match x4 with|_=>(A9 (0≤(w64 x3.2)∧(w64 x3.2)≤(w64 x3.2)∧(w64 x3.2)≤(room:Int)) ((Ag (S:=(Int×List (Int×Int))) (X:=List (Int×Int)) Ch (((Nat.min aJ.length ((List.replicate (w64 x3.2).toNat ((0:Int),(0:Int))).length-0)):Int),(cpL (List.replicate (w64 x3.2).toNat ((0:Int),(0:Int))) 0 (Nat.min aJ.length ((List.replicate (w64 x3.2).toNat ((0:Int),(0:Int))).length-0)) (fun i=>aJ.getD i ((0:Int),(0:Int)))))).bind (fun x12=>(some x12)))))))))))
theorem Nz(aJ:List ((Int×Int)))(aa1:Int)(r:List ((Int×Int)))(h:Bo aJ aa1=some r):Spec Tryz.prog 122 [(AV.list 2 A2 ((0:Int),(0:Int)) aJ .none),(.int .i64 aa1)] [] (AV.list 2 A2 ((0:Int),(0:Int)) r (.own 20000)) [(20000,.tok 2 35 r.length)]:=by
 refine Ac mix Tryz.func122 (fun Γ hq=>?_);have hΓ:=hq.own;unfold Bo at h;refine gR hq [0,1] [] [(4,Z30)] [] (c1 (E0 2 A2 ((0:Int),(0:Int)))) ?_;obtain⟨x1,hx1,h⟩:=bind_some h;refine gJ hx1 (fun _=>aG Γ .normal (⟨[(0,(AV.list 2 A2 ((0:Int),(0:Int)) aJ .none)),(1,(Z6 aa1))],[],[]⟩:St)) ?_ ?_
 ·clear h hx1;intro y h;refine Af hq [0,1,10] [] ?_;refine gC h (fun h=>?_) (fun h=>?_)
  ·cases h
  ·cases h;exact gK (Bj (Bx [0,1] [] hq))
 ·clear hx1;refine gA ?_;obtain⟨x3,hx3,h⟩:=bind_some h;refine gR hq [0,5,6] [] [] [⟨[],[],(.tuple [(.int .u64 x3.1),(.int .u64 x3.2)]),[],[]⟩] (c1 (Yn (Ho (aJ.length:Int)) (Ho aa1) x3 hx3)) ?_;obtain⟨x4,hx4,h⟩:=bind_some h;refine gJ hx4 (fun _=>aG Γ .normal (⟨[(0,(AV.list 2 A2 ((0:Int),(0:Int)) aJ .none)),(6,(.int .u64 x3.2))],[],[]⟩:St)) ?_ ?_
  ·clear h hx4;intro y h;refine gR hq [0,6,26] [] [] [] (ci (gI ((decide (((0:Int):Int)<x3.1))==false)) (c1 (K2 (decide (((0:Int):Int)<x3.1))))) ?_;refine gC h (fun h=>?_) (fun h=>?_)
   ·cases h
   ·cases h;exact gK (Bj (Bx [0,6] [] hq))
  ·clear hx4;refine gA ?_;obtain⟨hc6,h⟩:=Aa h;refine gR hq [0,7] [30] [] [] (c1 hc6) ?_;refine K6 (Le.trans (P6 30 (show ∀ k_,k_<((w64 x3.2).toNat)→AVleL ((fun i_=>AV.eraseAll (fun n_=>Dp n_ [30]) ((fun _=>[Mw,Mw]) i_)) k_) ((fun i=>A2 ((Q59 x3).getD i ((0:Int),(0:Int)))) k_) from(fun k hk=>Ng (e:=A2) (d:=((0:Int),(0:Int))) (.cons (AVle.refl _) (.cons (AVle.refl _) .nil)) _ k (Nh hk)))) (O6 (fun(k_:Nat) u=>(Ds u [(Og 30 k_)] [(30,.arr 2 35 k_ (fun i=>A2 ((Q59 x3).getD i ((0:Int),(0:Int)))))])) (show(w64 x3.2).toNat=(Q59 x3).length from(List.length_replicate ..).symm))) ?_;refine gR hq [7,8] [30] [] [] (c1 (Eq.refl ((Q59 x3).length))) ?_;refine K6 (Le.trans (P6 30 (show ∀ k_,k_<((Q59 x3).length)→AVleL ((fun i_=>AV.eraseAll (fun n_=>Dp n_ [30]) ((cpF (fun i=>A2 ((Q59 x3).getD i ((0:Int),(0:Int)))) 0 (Nat.min aJ.length ((Q59 x3).length-0)) (fun i=>A2 (aJ.getD i ((0:Int),(0:Int))))) i_)) k_) ((fun i=>A2 ((Q61 x3 aJ).getD i ((0:Int),(0:Int)))) k_) from(Bt (Ia ..) (fun k_ hk_=>(congrArg (AV.eraseAll (fun n_=>Dp n_ [30])) ((Zl (e:=A2) (d:=((0:Int),(0:Int))) (l:=(Q59 x3)) (s:=(fun i=>aJ.getD i ((0:Int),(0:Int)))) (fun _ _=>rfl) (fun _ _=>rfl)) k_ hk_)).trans rfl)))) (O6 (fun(k_:Nat) u=>(Ds u [(Og 30 k_)] [(30,.arr 2 35 k_ (fun i=>A2 ((Q61 x3 aJ).getD i ((0:Int),(0:Int)))))])) (show(Q59 x3).length=(Q61 x3 aJ).length from(Ia ..)))) ?_;obtain⟨x12,hx12,h⟩:=bind_some h;refine gL hq hx12 [7,8] [30] (fun u (i7,l8)=>(Ds u [(Og 30 l8.length),(8,(Z6 i7))] (Z56 l8))) (fun u l9=>aG Γ (.exit 0) (⟨[(Og 30 l9.length)],(Z56 l9),[]⟩:St)) ?_ ?_
   ·rintro⟨i7,l8⟩ y h;unfold Ch at h;refine Af hq [7,8,37] [30] ?_;refine gC h (fun h=>?_) (fun h=>?_)
    ·obtain⟨hc10,h⟩:=Aa h;obtain⟨hc11,h⟩:=Aa h;refine gR hq [7,8] [30] [] [] (ci hc10 (ci hc11 (ci (Eq.refl l8.length) (c1 (Eq.refl l8.length))))) ?_;cases h;exact gN (Le.trans (Le.trans (P6 30 (show ∀ k_,k_<l8.length→AVleL ((fun i_=>AV.eraseAll (fun n_=>Dp n_ [30]) ((cpF (fun i=>A2 (l8.getD i ((0:Int),(0:Int)))) (0+i7.toNat) (Nat.min ((0+i7.toNat)-0) (l8.length-(0+i7.toNat))) (fun i=>(fun i=>A2 (l8.getD i ((0:Int),(0:Int)))) (0+i))) i_)) k_) ((fun i=>A2 ((Q60 l8 i7).getD i ((0:Int),(0:Int)))) k_) from(Bt (Ia ..) (fun k_ hk_=>(congrArg (AV.eraseAll (fun n_=>Dp n_ [30])) ((Zl (e:=A2) (d:=((0:Int),(0:Int))) (l:=l8) (s:=(fun i=>l8.getD (0+i) ((0:Int),(0:Int)))) (fun _ _=>rfl) (fun _ _=>rfl)) k_ hk_)).trans rfl)))) (O6 (fun(k_:Nat) u=>(Ds u [(Og 30 k_)] [(30,.arr 2 35 k_ (fun i=>A2 ((Q60 l8 i7).getD i ((0:Int),(0:Int)))))])) (show l8.length=(Q60 l8 i7).length from(Ia ..)))) Cm)
    ·cases h;exact gO (Bj (Bx [7] [30] hq))
   ·clear hx12;refine gA ?_;refine Af hq [4] [30] ?_;refine N3 (⟨[(4,(.vsl 30 x12.length))],(Z56 x12),[]⟩:St) ?_;obtain rfl:=OI h;exact gK (e:=.ret) (Ja [(30,20000)] (Le.trans (In (nm:=30) (sz:=2) (n:=x12.length) (e:=35) (f:=(fun i=>A2 (x12.getD i ((0:Int),(0:Int))))) (g:=(fun i=>A2 (x12.getD i ((0:Int),(0:Int))))) rfl ⟨rfl,trivial⟩ (fun _ _=>rfl) (by rw[hΓ];rfl)) (Im (st':=⟨[(4,(Z44 x12 30))],[(30,.tok 2 35 x12.length)],[]⟩) (by kernel_rfl))))
def Q62(a1:Dv):List (Nat×Own):=[(Z47 a1.Kind a1.Bits a1.Lanes a1.Dst a1.Args a1.Imm),(3,.row 35 [(.int .i64 (1:Int)),(.int .i64 (1:Int))]),(4,.row 35 [(Z41 64),(.int .i64 (1:Int))]),(5,.row 35 [(Z6 a1.Bits),(Z6 a1.Lanes)]),(6,.row 35 [(Z6 a1.Bits),(.int .i64 (1:Int))])]
def Lb(a1:Dv):Option (List (Int×Int)):=
 (bif (a1.Kind==0) then((G5 ([]:List (Int×Int))).bind fun x1=>(some x1)) else(bif (a1.Kind==13) then((G5 ([((1:Int),(1:Int)),(a1.Bits,a1.Lanes),(a1.Bits,a1.Lanes)]:List (Int×Int))).bind fun x2=>(some x2)) else(Option.bind (α:=Bool) (bif (a1.Kind==14) then(some (a1.Kind==14)) else(some (a1.Kind==15))) (fun x4=>(bif x4 then((G5 ([((w64 a1.Imm),(1:Int))]:List (Int×Int))).bind fun x6=>(some x6)) else(bif (a1.Kind==16) then((G5 ([((64:Int),(1:Int))]:List (Int×Int))).bind fun x7=>(some x7)) else(bif (a1.Kind==17) then((G5 ([((64:Int),(1:Int)),(a1.Bits,a1.Lanes)]:List (Int×Int))).bind fun x8=>(some x8)) else(Option.bind (α:=Bool) (bif (a1.Kind==18) then(some (a1.Kind==18)) else(some (a1.Kind==19))) (fun x10=>(bif x10 then((G5 ([((1:Int),(1:Int)),((64:Int),(1:Int)),(a1.Bits,(1:Int))]:List (Int×Int))).bind fun x12=>(some x12)) else(bif (a1.Kind==20) then((G5 ([((1:Int),(1:Int)),(a1.Bits,(1:Int)),(a1.Bits,(1:Int)),(a1.Bits,(1:Int))]:List (Int×Int))).bind fun x13=>(some x13)) else(bif (a1.Kind==21) then((Bo ([(a1.Bits,(1:Int))]:List (Int×Int)) a1.Lanes).bind fun x14=>((G5 x14).bind fun x15=>(some x15))) else(bif (a1.Kind==22) then((G5 ([(a1.Bits,a1.Lanes)]:List (Int×Int))).bind fun x16=>(some x16)) else((G5 ([(a1.Bits,a1.Lanes),(a1.Bits,a1.Lanes)]:List (Int×Int))).bind fun x17=>(some x17)))))))))))))))
theorem Vq(a1:Dv)(r:List ((Int×Int)))(h:Lb a1=some r):Spec Tryz.prog 108 [(.agg (Mi a1))] [] (AV.list 2 A2 ((0:Int),(0:Int)) r .none) []:=by
 refine Ac mix Tryz.func108 (fun Γ hq=>?_);unfold Lb at h;refine gR hq [1] [1] [(2,Z30)] [] (c1 (E0 2 A2 ((0:Int),(0:Int)))) ?_;refine Af hq [1,3,4] [1,3,4] ?_;refine Af hq [1,3,4,5,6] [1,3,4,5,6] ?_;refine Af hq [1,3,4,5,6,18] [1,3,4,5,6] ?_;refine Af hq [1,3,4,5,6,18,19] [1,3,4,5,6] ?_;refine gC h (fun h=>?_) (fun h=>?_)
 ·obtain⟨x1,hx1,h⟩:=bind_some h;refine gR hq [2] [] [] [(Z5 x1)] (c1 (show(Spec Tryz.prog 121 [(.slice 0 0 (fun _=>[]) .none)] [] (AV.list 2 A2 ((0:Int),(0:Int)) x1 .none) []) from(Spec.args (.cons av_nil0 .nil) (H7 ([]:List (Int×Int)) x1 hx1)))) ?_;obtain rfl:=OI h;exact C0 []
 ·refine Af hq [1,3,4,5,6,18,22] [1,3,4,5,6] ?_;refine gC h (fun h=>?_) (fun h=>?_)
  ·obtain⟨x2,hx2,h⟩:=bind_some h;refine gR hq [2] [] [(27,(AV.list 2 A2 ((0:Int),(0:Int)) ([((1:Int),(1:Int)),(a1.Bits,a1.Lanes),(a1.Bits,a1.Lanes)]:List (Int×Int)) .exact))] [(Z5 x2)] (ci (Cu 2 A2 ((0:Int),(0:Int)) ([((1:Int),(1:Int)),(a1.Bits,a1.Lanes),(a1.Bits,a1.Lanes)]:List (Int×Int))) (c1 (H7 ([((1:Int),(1:Int)),(a1.Bits,a1.Lanes),(a1.Bits,a1.Lanes)]:List (Int×Int)) x2 hx2))) ?_;obtain rfl:=OI h;exact C0 []
  ·obtain⟨x4,hx4,h⟩:=bind_some h;refine gJ hx4 (fun b3=>aG Γ .normal (⟨[Vh,(3,(.ptr 3 0)),(4,(.ptr 4 0)),Z69,(6,(.ptr 6 0)),(18,(Z6 a1.Kind)),(29,(.bool b3))],(Q62 a1),[]⟩:St)) ?_ ?_
   ·clear h hx4;intro y h;refine Af hq [1,3,4,5,6,18,29] [1,3,4,5,6] ?_;refine gC h (fun h=>?_) (fun h=>?_)
    ·cases h;exact gK (Bj Cm)
    ·refine Af hq [1,3,4,5,6,18,29] [1,3,4,5,6] ?_;cases h;exact gK (Bj Cm)
   ·clear hx4;refine gA ?_;refine gC h (fun h=>?_) (fun h=>?_)
    ·obtain⟨x6,hx6,h⟩:=bind_some h;refine gR hq [2] [] [(36,(AV.list 2 A2 ((0:Int),(0:Int)) ([((w64 a1.Imm),(1:Int))]:List (Int×Int)) .exact))] [(Z5 x6)] (ci (Cu 2 A2 ((0:Int),(0:Int)) ([((w64 a1.Imm),(1:Int))]:List (Int×Int))) (c1 (H7 ([((w64 a1.Imm),(1:Int))]:List (Int×Int)) x6 hx6))) ?_;obtain rfl:=OI h;exact C0 []
    ·refine Af hq [1,3,4,5,6,18,38] [1,3,4,5,6] ?_;refine gC h (fun h=>?_) (fun h=>?_)
     ·obtain⟨x7,hx7,h⟩:=bind_some h;refine gR hq [2] [] [(41,(AV.list 2 A2 ((0:Int),(0:Int)) ([((64:Int),(1:Int))]:List (Int×Int)) .exact))] [(Z5 x7)] (ci (Cu 2 A2 ((0:Int),(0:Int)) ([((64:Int),(1:Int))]:List (Int×Int))) (c1 (H7 ([((64:Int),(1:Int))]:List (Int×Int)) x7 hx7))) ?_;obtain rfl:=OI h;exact C0 []
     ·refine Af hq [1,3,4,5,6,18,43] [1,3,4,5,6] ?_;refine gC h (fun h=>?_) (fun h=>?_)
      ·obtain⟨x8,hx8,h⟩:=bind_some h;refine gR hq [2] [] [(47,(AV.list 2 A2 ((0:Int),(0:Int)) ([((64:Int),(1:Int)),(a1.Bits,a1.Lanes)]:List (Int×Int)) .exact))] [(Z5 x8)] (ci (Cu 2 A2 ((0:Int),(0:Int)) ([((64:Int),(1:Int)),(a1.Bits,a1.Lanes)]:List (Int×Int))) (c1 (H7 ([((64:Int),(1:Int)),(a1.Bits,a1.Lanes)]:List (Int×Int)) x8 hx8))) ?_;obtain rfl:=OI h;exact C0 []
      ·obtain⟨x10,hx10,h⟩:=bind_some h;refine gJ hx10 (fun b9=>aG Γ .normal (⟨[Vh,(3,(.ptr 3 0)),(4,(.ptr 4 0)),Z69,(6,(.ptr 6 0)),(18,(Z6 a1.Kind)),(49,(.bool b9))],(Q62 a1),[]⟩:St)) ?_ ?_
       ·clear h hx10;intro y h;refine Af hq [1,3,4,5,6,18,49] [1,3,4,5,6] ?_;refine gC h (fun h=>?_) (fun h=>?_)
        ·cases h;exact gK (Bj Cm)
        ·refine Af hq [1,3,4,5,6,18,49] [1,3,4,5,6] ?_;cases h;exact gK (Bj Cm)
       ·clear hx10;refine gA ?_;refine gC h (fun h=>?_) (fun h=>?_)
        ·obtain⟨x12,hx12,h⟩:=bind_some h;refine gR hq [2] [] [(55,(AV.list 2 A2 ((0:Int),(0:Int)) ([((1:Int),(1:Int)),((64:Int),(1:Int)),(a1.Bits,(1:Int))]:List (Int×Int)) .exact))] [(Z5 x12)] (ci (Cu 2 A2 ((0:Int),(0:Int)) ([((1:Int),(1:Int)),((64:Int),(1:Int)),(a1.Bits,(1:Int))]:List (Int×Int))) (c1 (H7 ([((1:Int),(1:Int)),((64:Int),(1:Int)),(a1.Bits,(1:Int))]:List (Int×Int)) x12 hx12))) ?_;obtain rfl:=OI h;exact C0 []
        ·refine Af hq [1,3,5,6,18,57] [1,3,5,6] ?_;refine gC h (fun h=>?_) (fun h=>?_)
         ·obtain⟨x13,hx13,h⟩:=bind_some h;refine gR hq [2] [] [(63,(AV.list 2 A2 ((0:Int),(0:Int)) ([((1:Int),(1:Int)),(a1.Bits,(1:Int)),(a1.Bits,(1:Int)),(a1.Bits,(1:Int))]:List (Int×Int)) .exact))] [(Z5 x13)] (ci (Cu 2 A2 ((0:Int),(0:Int)) ([((1:Int),(1:Int)),(a1.Bits,(1:Int)),(a1.Bits,(1:Int)),(a1.Bits,(1:Int))]:List (Int×Int))) (c1 (H7 ([((1:Int),(1:Int)),(a1.Bits,(1:Int)),(a1.Bits,(1:Int)),(a1.Bits,(1:Int))]:List (Int×Int)) x13 hx13))) ?_;obtain rfl:=OI h;exact C0 []
         ·refine Af hq [1,5,6,18,65] [1,5,6] ?_;refine gC h (fun h=>?_) (fun h=>?_)
          ·obtain⟨x14,hx14,h⟩:=bind_some h;obtain⟨x15,hx15,h⟩:=bind_some h;refine gR hq [2] [] [(68,(AV.list 2 A2 ((0:Int),(0:Int)) ([(a1.Bits,(1:Int))]:List (Int×Int)) .exact))] [⟨[],[(20000,71)],(Z44 x14 20000),[(20000,.tok 2 35 x14.length)],[]⟩,(Z5 x15)] (ci (Cu 2 A2 ((0:Int),(0:Int)) ([(a1.Bits,(1:Int))]:List (Int×Int))) (ci (Nz ([(a1.Bits,(1:Int))]:List (Int×Int)) a1.Lanes x14 hx14) (c1 (H7 x14 x15 hx15)))) ?_;obtain rfl:=OI h;exact C0 []
          ·refine Af hq [5,73] [5] ?_;refine gC h (fun h=>?_) (fun h=>?_)
           ·obtain⟨x16,hx16,h⟩:=bind_some h;refine gR hq [2] [] [(76,(AV.list 2 A2 ((0:Int),(0:Int)) ([(a1.Bits,a1.Lanes)]:List (Int×Int)) .exact))] [(Z5 x16)] (ci (Cu 2 A2 ((0:Int),(0:Int)) ([(a1.Bits,a1.Lanes)]:List (Int×Int))) (c1 (H7 ([(a1.Bits,a1.Lanes)]:List (Int×Int)) x16 hx16))) ?_;obtain rfl:=OI h;exact C0 []
           ·obtain⟨x17,hx17,h⟩:=bind_some h;refine gR hq [2] [] [(80,(AV.list 2 A2 ((0:Int),(0:Int)) ([(a1.Bits,a1.Lanes),(a1.Bits,a1.Lanes)]:List (Int×Int)) .exact))] [(Z5 x17)] (ci (Cu 2 A2 ((0:Int),(0:Int)) ([(a1.Bits,a1.Lanes),(a1.Bits,a1.Lanes)]:List (Int×Int))) (c1 (H7 ([(a1.Bits,a1.Lanes),(a1.Bits,a1.Lanes)]:List (Int×Int)) x17 hx17))) ?_;obtain rfl:=OI h;exact C0 []
def Jk(aE:Int):Option Bool:=
 (some (bif (decide (((1:Int):Int)≤aE)) then(decide (aE≤1023)) else false))
theorem Sc(aE:Int)(r:Bool)(h:Jk aE=some r):Spec Tryz.prog 138 [(.int .i64 aE)] [] (.bool r) []:=by
 refine Ac mix Tryz.func138 (fun Γ hq=>?_);unfold Jk at h;refine Af hq [0] [] ?_;refine gR hq [2] [] [] [] (ci (gI ((decide (((1:Int):Int)≤aE))==true)) (c1 (Mb (decide (((1:Int):Int)≤aE))))) ?_;cases h;exact C0 []
def Ht(a1:Dv):Int→Option (LR Int (Unit ⊕ Bool)):=
 fun(i2:Int)=>(bif (decide (i2<(a1.Args.length:Int))) then(A9 (Ba i2 a1.Args.length) ((Jk (a1.Args.getD i2.toNat 0)).bind fun x4=>(bif (!x4) then(some (.done (.inr false))) else(some (.next (w64 (i2+1))))))) else(some (.done (.inl ()))))
def Zw(Γ:H4)(a1:Dv)(r:Bool):Exit→St→Prop:=fK Tryz.prog Γ Tryz.f119.results.toList [] (.bool r) []
def Kr(a1:Dv):Option Bool:=
 ((Lb a1).bind fun x1=>(bif (((a1.Args.length:Int):Int)!=(x1.length:Int)) then(some false) else((Ag (Ht a1) (0:Int)).bind (fun x5=>(match x5 with|(.inl _)=>(some true)|(.inr r7)=>(some r7))))))
theorem Zc(a1:Dv)(r:Bool)(h:Kr a1=some r):Spec Tryz.prog 119 [(.agg (Mi a1))] [] (.bool r) []:=by
 refine Ac mix Tryz.func119 (fun Γ hq=>?_);unfold Kr at h;refine Af hq [1] [1] ?_;obtain⟨x1,hx1,h⟩:=bind_some h;refine gR hq [1,11] [1] [] [(Z5 x1)] (c1 (Vq a1 x1 hx1)) ?_;refine gC h (fun h=>?_) (fun h=>?_)
 ·refine Af hq [2] [] ?_;obtain rfl:=OI h;exact C0 []
 ·refine Af hq [13,14,15] [] ?_;obtain⟨x5,hx5,h⟩:=bind_some h;refine gL hq hx5 [13,14,15] [] (fun u i2=>(Ds u [(15,(Z6 i2))] [])) (fun u x_=>match x_ with|(.inl _)=>aG Γ (.exit 0) (⟨[],[],[]⟩:St)|(.inr r_)=>aR (Zw Γ a1 r_)) ?_ ?_
  ·intro i2 y h;unfold Ht at h;refine Af hq [13,14,15,16] [] ?_;refine gC h (fun h=>?_) (fun h=>?_)
   ·obtain⟨hc3,h⟩:=Aa h;refine gR hq [4,13,14,15] [] [] [] (c1 hc3) ?_;obtain⟨x4,hx4,h⟩:=bind_some h;refine gR hq [13,14,15,21] [] [] [(Z2 x4)] (c1 (Sc (a1.Args.getD i2.toNat 0) x4 hx4)) ?_;refine gC h (fun h=>?_) (fun h=>?_)
    ·refine Af hq [2] [] ?_;cases h;exact gO (K1 (Ja [] (Le.refl _ _)))
    ·refine Af hq [13,14,15] [] ?_;cases h;exact gN Cm
   ·cases h;exact gO (Bj (Bx [] [] hq))
  ·clear hx5;rcases x5 with _|r7
   ·refine gA ?_;refine Af hq [2] [] ?_;obtain rfl:=OI h;exact C0 []
   ·refine Mk (fun st' hk=>?_);obtain rfl:=OI h;exact gK hk
def Q63(a1:Dv):List (Nat×Own):=[(Z47 a1.Kind a1.Bits a1.Lanes a1.Dst a1.Args a1.Imm)]
def La(a1:Dv):Option (Int×Int):=
 (Option.bind (α:=Bool) (bif (a1.Kind==17) then(some (a1.Kind==17)) else(some (a1.Kind==19))) (fun x2=>(bif x2 then(some ((0:Int),(0:Int))) else(Option.bind (α:=Bool) (bif (a1.Kind==10) then(some (a1.Kind==10)) else(bif (a1.Kind==11) then(some (a1.Kind==11)) else(some (a1.Kind==12)))) (fun x5=>(bif x5 then(some ((1:Int),(1:Int))) else(bif (a1.Kind==22) then(some (a1.Bits,(1:Int))) else(some (a1.Bits,a1.Lanes)))))))))
theorem Vp(a1:Dv)(r:(Int×Int))(h:La a1=some r):Spec Tryz.prog 107 [(.agg (Mi a1))] [] (.tuple [(.int .i64 r.1),(.int .i64 r.2)]) []:=by
 refine Ac mix Tryz.func107 (fun Γ hq=>?_);unfold La at h;refine Af hq [1] [1] ?_;refine Af hq [1,5] [1] ?_;obtain⟨x2,hx2,h⟩:=bind_some h;refine gJ hx2 (fun b1=>aG Γ .normal (⟨[Vh,(5,(Z6 a1.Kind)),(6,(.bool b1))],(Q63 a1),[]⟩:St)) ?_ ?_
 ·clear h hx2;intro y h;refine Af hq [1,5,6] [1] ?_;refine gC h (fun h=>?_) (fun h=>?_)
  ·cases h;exact gK (Bj Cm)
  ·refine Af hq [1,5,6] [1] ?_;cases h;exact gK (Bj Cm)
 ·clear hx2;refine gA ?_;refine gC h (fun h=>?_) (fun h=>?_)
  ·refine Af hq [2,3] [] ?_;cases h;exact C0 []
  ·obtain⟨x5,hx5,h⟩:=bind_some h;refine gJ hx5 (fun b4=>aG Γ .normal (⟨[Vh,(5,(Z6 a1.Kind)),(9,(.bool b4))],(Q63 a1),[]⟩:St)) ?_ ?_
   ·clear h hx5;intro y h;refine Af hq [1,5,9] [1] ?_;refine gC h (fun h=>?_) (fun h=>?_)
    ·cases h;exact gK (Bj Cm)
    ·refine Af hq [1,5,9] [1] ?_;refine gC h (fun h=>?_) (fun h=>?_)
     ·cases h;exact gK (Bj Cm)
     ·refine Af hq [1,5,9] [1] ?_;cases h;exact gK (Bj Cm)
   ·clear hx5;refine gA ?_;refine gC h (fun h=>?_) (fun h=>?_)
    ·refine Af hq [2,3] [] ?_;cases h;exact C0 []
    ·refine Af hq [1,13] [1] ?_;refine gC h (fun h=>?_) (fun h=>?_)
     ·refine Af hq [2,3] [] ?_;cases h;exact C0 []
     ·refine Af hq [2,3] [] ?_;cases h;exact C0 []
def Ks(a1:Dv):Option Bool:=
 ((La a1).bind fun x1=>(bif (x1.1==0) then(some (a1.Dst==0)) else((Jk a1.Dst).bind fun x2=>(some x2))))
theorem Zd(a1:Dv)(r:Bool)(h:Ks a1=some r):Spec Tryz.prog 120 [(.agg (Mi a1))] [] (.bool r) []:=by
 refine Ac mix Tryz.func120 (fun Γ hq=>?_);unfold Ks at h;refine Af hq [1] [1] ?_;obtain⟨x1,hx1,h⟩:=bind_some h;refine gR hq [1,3] [1] [] [(Z67 x1.1 x1.2)] (c1 (Vp a1 x1 hx1)) ?_;refine Af hq [1,11] [1] ?_;refine gC h (fun h=>?_) (fun h=>?_)
 ·refine Af hq [2] [] ?_;cases h;exact C0 []
 ·obtain⟨x2,hx2,h⟩:=bind_some h;refine gR hq [2] [] [] [(Z2 x2)] (c1 (Sc a1.Dst x2 hx2)) ?_;obtain rfl:=OI h;exact C0 []
def Q64(x1:Bool)(x2:Bool):=(bif (!x1) then true else(!x2))
def L6(a1:Dv):Option Bool:=
 ((Lx a1.Kind).bind fun x1=>((bif ((!x1)==false) then Mo a1.Bits a1.Lanes else some false).bind fun x2=>((bif ((bif (!x1) then true else(!x2))==false) then Jm a1 else some false).bind fun x3=>((bif ((bif (bif (!x1) then true else(!x2)) then true else(!x3))==false) then Kt a1 else some false).bind fun x4=>(bif (bif (bif (bif (!x1) then true else(!x2)) then true else(!x3)) then true else(!x4)) then(some false) else((Kr a1).bind fun x5=>((bif (x5==true) then Ks a1 else some false).bind fun x6=>(some (bif x5 then x6 else false)))))))))
theorem Tz(a1:Dv)(r:Bool)(h:L6 a1=some r):Spec Tryz.prog 105 [(.agg (Mi a1))] [] (.bool r) []:=by
 refine Ac mix Tryz.func105 (fun Γ hq=>?_);unfold L6 at h;refine Af hq [1] [1] ?_;obtain⟨x1,hx1,h⟩:=bind_some h;obtain⟨x2,hx2,h⟩:=bind_some h;obtain⟨x3,hx3,h⟩:=bind_some h;obtain⟨x4,hx4,h⟩:=bind_some h;refine gR hq [1,24] [1] [] [(Z2 x1),(Z2 x2),(Z2 x3),(Z2 x4)] (ci (ok_kind_isKind a1.Kind x1 hx1) (ci (gI ((!x1)==false)) (ci (gI ((!x1)==false)) (ci (gI ((!x1)==false)) (ci (gI ((!x1)==false)) (ci (fun(hg:((!x1)==false)=true)=>(ok_kind_Shape a1.Bits a1.Lanes x2 (Bq hg hx2))) (ci (gI ((!x1)==false)) (ci (K2 (!x1)) (ci (gI ((Q64 x1 x2)==false)) (ci (fun(hg:((Q64 x1 x2)==false)=true)=>(W1 a1 x3 (Bq hg hx3))) (ci (gI ((Q64 x1 x2)==false)) (ci (K2 (Q64 x1 x2)) (ci (gI ((bif (Q64 x1 x2) then true else(!x3))==false)) (ci (fun(hg:((bif (Q64 x1 x2) then true else(!x3))==false)=true)=>(Ze a1 x4 (Bq hg hx4))) (ci (gI ((bif (Q64 x1 x2) then true else(!x3))==false)) (c1 (K2 (bif (Q64 x1 x2) then true else(!x3))))))))))))))))))) ?_;refine gC h (fun h=>?_) (fun h=>?_)
 ·refine Af hq [2] [] ?_;obtain rfl:=OI h;exact C0 []
 ·obtain⟨x5,hx5,h⟩:=bind_some h;obtain⟨x6,hx6,h⟩:=bind_some h;refine gR hq [2] [] [] [(Z2 x5),(Z2 x6)] (ci (Zc a1 x5 hx5) (ci (gI (x5==true)) (ci (fun(hg:(x5==true)=true)=>(Zd a1 x6 (Bq hg hx6))) (c1 (Mb x5))))) ?_;cases h;exact C0 []
def Mm(a1:Dv)(aQ:Int):Option Bool:=
 (bif (aQ==0) then(some (bif (decide (a1.Kind≤17)) then(a1.Lanes==1) else false)) else(bif (aQ==1) then(some (bif (decide (a1.Kind≤20)) then(a1.Lanes==1) else false)) else(some true)))
theorem ok_check_isOf(a1:Dv)(aQ:Int)(r:Bool)(h:Mm a1 aQ=some r):Spec Tryz.prog 106 [(.agg (Mi a1)),(.int .i64 aQ)] [] (.bool r) []:=by
 refine Ac mix Tryz.func106 (fun Γ hq=>?_);unfold Mm at h;refine Af hq [1,2] [2] ?_;refine Af hq [2,5] [2] ?_;refine Af hq [2,5,6] [2] ?_;refine gC h (fun h=>?_) (fun h=>?_)
 ·refine gR hq [4] [] [] [] (ci (gI ((decide (a1.Kind≤17))==true)) (ci (gI ((decide (a1.Kind≤17))==true)) (c1 (Mb (decide (a1.Kind≤17)))))) ?_;cases h;exact C0 []
 ·refine Af hq [2,16] [2] ?_;refine gC h (fun h=>?_) (fun h=>?_)
  ·refine gR hq [4] [] [] [] (ci (gI ((decide (a1.Kind≤20))==true)) (ci (gI ((decide (a1.Kind≤20))==true)) (c1 (Mb (decide (a1.Kind≤20)))))) ?_;cases h;exact C0 []
  ·refine Af hq [4] [] ?_;obtain rfl:=OI h;exact C0 []
def Fz(a1:Dv)(a4:TFunc)(a9:Int)(aA:List Int)(a7:List Ao):Option (Bool×TFunc×Int×List Int×List Ao):=
 ((L6 a1).bind fun x1=>((bif (x1==true) then Mm a1 a9 else some false).bind fun x2=>(some ((bif x1 then x2 else false),a4,a9,aA,a7))))
theorem Pw(a1:Dv)(a4:TFunc)(a9:Int)(aA:List Int)(a7:List Ao)(r:(Bool×TFunc×Int×List Int×List Ao))(h:Fz a1 a4 a9 aA a7=some r):Spec Tryz.prog 85 [(.ptr 30000 0),(.agg (Mi a1))] [(30000,.row 59 [(AV.list 1 Aj 0 a4.Params .none),(.int .i64 a4.Ret),(AV.list 5 A5 default a4.Blocks .none),(.int .i64 a9),(AV.list 1 Aj 0 aA .none),.nilm,(AV.list 5 C8 default a7 (.own 37006))]),(37006,.tok 5 104 a7.length)] (.bool r.1) [(30000,.row 59 [(AV.list 1 Aj 0 r.2.1.Params .none),(.int .i64 r.2.1.Ret),(AV.list 5 A5 default r.2.1.Blocks .none),(.int .i64 r.2.2.1),(AV.list 1 Aj 0 r.2.2.2.1 .none),.nilm,(AV.list 5 C8 default r.2.2.2.2 (.own 37006))]),(37006,.tok 5 104 r.2.2.2.2.length)]:=by
 refine Ac mix Tryz.func85 (fun Γ hq=>?_);unfold Fz at h;refine Af hq [0,3] [3,30000,37006] ?_;obtain⟨x1,hx1,h⟩:=bind_some h;obtain⟨x2,hx2,h⟩:=bind_some h;refine gR hq [4] [30000,37006] [] [(Z2 x1),(Z2 x2)] (ci (Tz a1 x1 hx1) (ci (gI (x1==true)) (ci (gI (x1==true)) (ci (gI (x1==true)) (ci (gI (x1==true)) (ci (gI (x1==true)) (ci (fun(hg:(x1==true)=true)=>(ok_check_isOf a1 a9 x2 (Bq hg hx2))) (c1 (Mb x1))))))))) ?_;cases h;exact C0 [(30000,30000),(37006,37006)]
def Fe(aB:List Dv):(Int×List Int×Int×List Ad×Int×List Int×List Ao)→Option (LR (Int×List Int×Int×List Ad×Int×List Int×List Ao) ((List Int×Int×List Ad×Int×List Int×List Ao) ⊕ (Bool×TFunc×Int×List Int×List Ao))):=
 fun((i1,l2,i3,l4,i5,l6,l7):(Int×List Int×Int×List Ad×Int×List Int×List Ao))=>(bif (decide (i1<(aB.length:Int))) then(A9 (Ba i1 aB.length) ((Fz (aB.getD i1.toNat default) (⟨l2,i3,l4⟩:TFunc) i5 l6 l7).bind fun x15=>(bif (!x15.1) then(some (.done (.inr (false,x15.2.1,x15.2.2.1,x15.2.2.2.1,x15.2.2.2.2)))) else(some (.next ((w64 (i1+1)),x15.2.1.Params,x15.2.1.Ret,x15.2.1.Blocks,x15.2.2.1,x15.2.2.2.1,x15.2.2.2.2)))))) else(some (.done (.inl (l2,i3,l4,i5,l6,l7)))))
def Vv(Γ:H4)(aB:List Dv)(a4:TFunc)(a9:Int)(aA:List Int)(a7:List Ao)(r:(Bool×TFunc×Int×List Int×List Ao)):Exit→St→Prop:=fK Tryz.prog Γ Tryz.f84.results.toList (Z3 a4.Params a4.Ret a4.Blocks a9 aA a7 a7.length) (.bool r.1) (Z3 r.2.1.Params r.2.1.Ret r.2.1.Blocks r.2.2.1 r.2.2.2.1 r.2.2.2.2 r.2.2.2.2.length)
def Id(aB:List Dv)(a4:TFunc)(a9:Int)(aA:List Int)(a7:List Ao):Option (Bool×TFunc×Int×List Int×List Ao):=
 ((Ag (Fe aB) ((0:Int),a4.Params,a4.Ret,a4.Blocks,a9,aA,a7)).bind (fun x16=>(match x16 with|(.inl (l8,i9,l10,i11,l12,l13))=>(some (true,(⟨l8,i9,l10⟩:TFunc),i11,l12,l13))|(.inr r18)=>(some r18))))
theorem Ve(aB:List Dv)(a4:TFunc)(a9:Int)(aA:List Int)(a7:List Ao)(r:(Bool×TFunc×Int×List Int×List Ao))(h:Id aB a4 a9 aA a7=some r):Spec Tryz.prog 84 [(AV.list 6 Mi default aB .none),(.clo 85 [(.ptr 30000 0)] [])] [(30000,.row 59 [(AV.list 1 Aj 0 a4.Params .none),(.int .i64 a4.Ret),(AV.list 5 A5 default a4.Blocks .none),(.int .i64 a9),(AV.list 1 Aj 0 aA .none),.nilm,(AV.list 5 C8 default a7 (.own 37006))]),(37006,.tok 5 104 a7.length)] (.bool r.1) [(30000,.row 59 [(AV.list 1 Aj 0 r.2.1.Params .none),(.int .i64 r.2.1.Ret),(AV.list 5 A5 default r.2.1.Blocks .none),(.int .i64 r.2.2.1),(AV.list 1 Aj 0 r.2.2.2.1 .none),.nilm,(AV.list 5 C8 default r.2.2.2.2 (.own 37006))]),(37006,.tok 5 104 r.2.2.2.2.length)]:=by
 refine Ac mix Tryz.func84 (fun Γ hq=>?_);unfold Id at h;refine Af hq [0,1] [30000,37006] ?_;refine Af hq [1,7,8,9] [30000,37006] ?_;obtain⟨x16,hx16,h⟩:=bind_some h;refine gL hq hx16 [1,7,8,9] [30000,37006] (fun u (i1,l2,i3,l4,i5,l6,l7)=>(Ds u [(9,(Z6 i1))] (Z3 l2 i3 l4 i5 l6 l7 l7.length))) (fun u x_=>match x_ with|(.inl (l8,i9,l10,i11,l12,l13))=>aG Γ (.exit 0) (⟨[],(Z3 l8 i9 l10 i11 l12 l13 l13.length),[]⟩:St)|(.inr r_)=>aR (Vv Γ aB a4 a9 aA a7 r_)) ?_ ?_
 ·rintro⟨i1,l2,i3,l4,i5,l6,l7⟩ y h;unfold Fe at h;refine Af hq [1,7,8,9,10] [30000,37006] ?_;refine gC h (fun h=>?_) (fun h=>?_)
  ·obtain⟨hc14,h⟩:=Aa h;refine gR hq [1,6,7,8,9] [6,30000,37006] [] [] (c1 hc14) ?_;obtain⟨x15,hx15,h⟩:=bind_some h;refine gR hq [1,7,8,9,16] [30000,37006] [] [(Z62 x15.1 x15.2.1.Params x15.2.1.Ret x15.2.1.Blocks x15.2.2.1 x15.2.2.2.1 x15.2.2.2.2 x15.2.2.2.2.length)] (c1 (Pw (aB.getD i1.toNat default) (⟨l2,i3,l4⟩:TFunc) i5 l6 l7 x15 hx15)) ?_;refine gC h (fun h=>?_) (fun h=>?_)
   ·refine Af hq [4] [30000,37006] ?_;cases h;exact gO (K1 (Ja [(30000,30000),(37006,37006)] (Le.refl _ _)))
   ·refine Af hq [1,7,8,9] [30000,37006] ?_;cases h;exact gN Cm
  ·cases h;exact gO (Bj (Bx [] [30000,37006] hq))
 ·clear hx16;rcases x16 with⟨l8,i9,l10,i11,l12,l13⟩|r18
  ·refine gA ?_;refine Af hq [4] [30000,37006] ?_;cases h;exact C0 [(30000,30000),(37006,37006)]
  ·refine Mk (fun st' hk=>?_);obtain rfl:=OI h;exact gK hk
def Q67(x1:Bool)(x2:(Bool×TFunc×Int×List Int×List Ao))(aA:List Int):AV:=(Z51 x1 x2.2.2.2.1 aA)
def Q66(x1:Bool)(x2:(Bool×TFunc×Int×List Int×List Ao))(a4:TFunc):AV:=(Z51 x1 x2.2.1.Params a4.Params)
def Q65(x1:Bool)(x2:(Bool×TFunc×Int×List Int×List Ao))(a4:TFunc):AV:=(.slice 5 (bif (x1==true) then x2.2.1.Blocks.length else a4.Blocks.length) (fun i=>bif (x1==true) then A5 (x2.2.1.Blocks.getD i default) else A5 (a4.Blocks.getD i default)) .none)
def En(aM:Ad)(a4:TFunc)(a9:Int)(aA:List Int)(a7:List Ao):Option (Bool×TFunc×Int×List Int×List Ao):=
 ((Hw aM.Phis).bind fun x1=>((bif (x1==true) then Id aM.Ops a4 a9 aA a7 else some (false,(default:TFunc),(0:Int),[],[])).bind fun x2=>(some ((bif x1 then x2.1 else false),(⟨(bif (x1==true) then x2.2.1.Params else a4.Params),(bif (x1==true) then x2.2.1.Ret else a4.Ret),(bif (x1==true) then x2.2.1.Blocks else a4.Blocks)⟩:TFunc),(bif (x1==true) then x2.2.2.1 else a9),(bif (x1==true) then x2.2.2.2.1 else aA),(bif (x1==true) then x2.2.2.2.2 else a7)))))
theorem N6(aM:Ad)(a4:TFunc)(a9:Int)(aA:List Int)(a7:List Ao)(r:(Bool×TFunc×Int×List Int×List Ao))(h:En aM a4 a9 aA a7=some r):Spec Tryz.prog 57 [(.ptr 30000 0),(.agg (A5 aM))] [(30000,.row 59 [(AV.list 1 Aj 0 a4.Params .none),(.int .i64 a4.Ret),(AV.list 5 A5 default a4.Blocks .none),(.int .i64 a9),(AV.list 1 Aj 0 aA .none),.nilm,(AV.list 5 C8 default a7 (.own 37006))]),(37006,.tok 5 104 a7.length)] (.bool r.1) [(30000,.row 59 [(AV.list 1 Aj 0 r.2.1.Params .none),(.int .i64 r.2.1.Ret),(AV.list 5 A5 default r.2.1.Blocks .none),(.int .i64 r.2.2.1),(AV.list 1 Aj 0 r.2.2.2.1 .none),.nilm,(AV.list 5 C8 default r.2.2.2.2 (.own 37006))]),(37006,.tok 5 104 r.2.2.2.2.length)]:=by
 refine Ac mix Tryz.func57 (fun Γ hq=>?_);unfold En at h;refine Af hq [0,3] [3,30000,37006] ?_;obtain⟨x1,hx1,h⟩:=bind_some h;obtain⟨x2,hx2,h⟩:=bind_some h;refine gR hq [4] [30000,37006] [] [(Z2 x1),(Z62 x2.1 x2.2.1.Params x2.2.1.Ret x2.2.1.Blocks x2.2.2.1 x2.2.2.2.1 x2.2.2.2.2 x2.2.2.2.2.length)] (ci (Tv aM.Phis x1 hx1) (ci (gI (x1==true)) (ci (gI (x1==true)) (ci (gI (x1==true)) (ci (gI (x1==true)) (ci (fun(hg:(x1==true)=true)=>(Ve aM.Ops a4 a9 aA a7 x2 (Bq hg hx2))) (c1 (Mb x1)))))))) ?_;cases h;exact gK (e:=.ret) (Ja [(30000,30000),(37006,37006)] (Le.trans (leB (fun g_ u=>(Ds u [] [(30000,.row 59 [(Q66 x1 x2 a4),(.int .i64 (bif (x1==true) then x2.2.1.Ret else a4.Ret)),(Q65 x1 x2 a4),(.int .i64 (bif (x1==true) then x2.2.2.1 else a9)),(Q67 x1 x2 aA),.nilm,(Z26 g_ x2.2.2.2.2 a7)]),(37006,.tok 5 104 (bif g_ then x2.2.2.2.2.length else a7.length))])) (fun g_ u=>(Ds u [] [(30000,.row 59 [(Q66 x1 x2 a4),(.int .i64 (bif (x1==true) then x2.2.1.Ret else a4.Ret)),(Q65 x1 x2 a4),(.int .i64 (bif (x1==true) then x2.2.2.1 else a9)),(Q67 x1 x2 aA),.nilm,(AV.list 5 C8 default (bif g_ then x2.2.2.2.2 else a7) (.own 37006))]),(37006,.tok 5 104 ((bif g_ then x2.2.2.2.2 else a7).length))])) (x1==true)) (Le.trans (leC 30000 0 (show AVle (Q66 x1 x2 a4) (AV.list 1 Aj 0 (bif (x1==true) then x2.2.1.Params else a4.Params) .none) from Ir)) (Le.trans (leC 30000 2 (show AVle (Q65 x1 x2 a4) (AV.list 5 A5 default (bif (x1==true) then x2.2.1.Blocks else a4.Blocks) .none) from Ir)) (leC 30000 4 (show AVle (Q67 x1 x2 aA) (AV.list 1 Aj 0 (bif (x1==true) then x2.2.2.2.1 else aA) .none) from Ir))))))
def D2(aB:List Ad):(Int×List Int×Int×List Ad×Int×List Int×List Ao)→Option (LR (Int×List Int×Int×List Ad×Int×List Int×List Ao) ((List Int×Int×List Ad×Int×List Int×List Ao) ⊕ (Bool×TFunc×Int×List Int×List Ao))):=
 fun((i1,l2,i3,l4,i5,l6,l7):(Int×List Int×Int×List Ad×Int×List Int×List Ao))=>(bif (decide (i1<(aB.length:Int))) then(A9 (Ba i1 aB.length) ((En (aB.getD i1.toNat default) (⟨l2,i3,l4⟩:TFunc) i5 l6 l7).bind fun x15=>(bif (!x15.1) then(some (.done (.inr (false,x15.2.1,x15.2.2.1,x15.2.2.2.1,x15.2.2.2.2)))) else(some (.next ((w64 (i1+1)),x15.2.1.Params,x15.2.1.Ret,x15.2.1.Blocks,x15.2.2.1,x15.2.2.2.1,x15.2.2.2.2)))))) else(some (.done (.inl (l2,i3,l4,i5,l6,l7)))))
def Sg(Γ:H4)(aB:List Ad)(a4:TFunc)(a9:Int)(aA:List Int)(a7:List Ao)(r:(Bool×TFunc×Int×List Int×List Ao)):Exit→St→Prop:=fK Tryz.prog Γ Tryz.f56.results.toList (Z3 a4.Params a4.Ret a4.Blocks a9 aA a7 a7.length) (.bool r.1) (Z3 r.2.1.Params r.2.1.Ret r.2.1.Blocks r.2.2.1 r.2.2.2.1 r.2.2.2.2 r.2.2.2.2.length)
def Gp(aB:List Ad)(a4:TFunc)(a9:Int)(aA:List Int)(a7:List Ao):Option (Bool×TFunc×Int×List Int×List Ao):=
 ((Ag (D2 aB) ((0:Int),a4.Params,a4.Ret,a4.Blocks,a9,aA,a7)).bind (fun x16=>(match x16 with|(.inl (l8,i9,l10,i11,l12,l13))=>(some (true,(⟨l8,i9,l10⟩:TFunc),i11,l12,l13))|(.inr r18)=>(some r18))))
theorem Rb(aB:List Ad)(a4:TFunc)(a9:Int)(aA:List Int)(a7:List Ao)(r:(Bool×TFunc×Int×List Int×List Ao))(h:Gp aB a4 a9 aA a7=some r):Spec Tryz.prog 56 [(AV.list 5 A5 default aB .none),(.clo 57 [(.ptr 30000 0)] [])] [(30000,.row 59 [(AV.list 1 Aj 0 a4.Params .none),(.int .i64 a4.Ret),(AV.list 5 A5 default a4.Blocks .none),(.int .i64 a9),(AV.list 1 Aj 0 aA .none),.nilm,(AV.list 5 C8 default a7 (.own 37006))]),(37006,.tok 5 104 a7.length)] (.bool r.1) [(30000,.row 59 [(AV.list 1 Aj 0 r.2.1.Params .none),(.int .i64 r.2.1.Ret),(AV.list 5 A5 default r.2.1.Blocks .none),(.int .i64 r.2.2.1),(AV.list 1 Aj 0 r.2.2.2.1 .none),.nilm,(AV.list 5 C8 default r.2.2.2.2 (.own 37006))]),(37006,.tok 5 104 r.2.2.2.2.length)]:=by
 refine Ac mix Tryz.func56 (fun Γ hq=>?_);unfold Gp at h;refine Af hq [0,1] [30000,37006] ?_;refine Af hq [1,7,8,9] [30000,37006] ?_;obtain⟨x16,hx16,h⟩:=bind_some h;refine gL hq hx16 [1,7,8,9] [30000,37006] (fun u (i1,l2,i3,l4,i5,l6,l7)=>(Ds u [(9,(Z6 i1))] (Z3 l2 i3 l4 i5 l6 l7 l7.length))) (fun u x_=>match x_ with|(.inl (l8,i9,l10,i11,l12,l13))=>aG Γ (.exit 0) (⟨[],(Z3 l8 i9 l10 i11 l12 l13 l13.length),[]⟩:St)|(.inr r_)=>aR (Sg Γ aB a4 a9 aA a7 r_)) ?_ ?_
 ·rintro⟨i1,l2,i3,l4,i5,l6,l7⟩ y h;unfold D2 at h;refine Af hq [1,7,8,9,10] [30000,37006] ?_;refine gC h (fun h=>?_) (fun h=>?_)
  ·obtain⟨hc14,h⟩:=Aa h;refine gR hq [1,6,7,8,9] [6,30000,37006] [] [] (c1 hc14) ?_;obtain⟨x15,hx15,h⟩:=bind_some h;refine gR hq [1,7,8,9,16] [30000,37006] [] [(Z62 x15.1 x15.2.1.Params x15.2.1.Ret x15.2.1.Blocks x15.2.2.1 x15.2.2.2.1 x15.2.2.2.2 x15.2.2.2.2.length)] (c1 (N6 (aB.getD i1.toNat default) (⟨l2,i3,l4⟩:TFunc) i5 l6 l7 x15 hx15)) ?_;refine gC h (fun h=>?_) (fun h=>?_)
   ·refine Af hq [4] [30000,37006] ?_;cases h;exact gO (K1 (Ja [(30000,30000),(37006,37006)] (Le.refl _ _)))
   ·refine Af hq [1,7,8,9] [30000,37006] ?_;cases h;exact gN Cm
  ·cases h;exact gO (Bj (Bx [] [30000,37006] hq))
 ·clear hx16;rcases x16 with⟨l8,i9,l10,i11,l12,l13⟩|r18
  ·refine gA ?_;refine Af hq [4] [30000,37006] ?_;cases h;exact C0 [(30000,30000),(37006,37006)]
  ·refine Mk (fun st' hk=>?_);obtain rfl:=OI h;exact gK hk
def Q68(x1:Bool)(x2:Bool):=((bif x1 then x2 else false)==true)
def Q71(x1:Bool)(x2:Bool)(x3:(Bool×TFunc×Int×List Int×List Ao))(aA:List Int):AV:=(Z15 (Q68 x1 x2) x3.2.2.2.1 aA)
def Q70(x1:Bool)(x2:Bool)(x3:(Bool×TFunc×Int×List Int×List Ao))(a4:TFunc):AV:=(Z15 (Q68 x1 x2) x3.2.1.Params a4.Params)
def Q69(x1:Bool)(x2:Bool)(x3:(Bool×TFunc×Int×List Int×List Ao))(a4:TFunc):AV:=(Z50 (Q68 x1 x2) x3.2.1.Blocks a4.Blocks)
def Gq(a4:TFunc)(a9:Int)(aA:List Int)(a7:List Ao):Option (Int×TFunc×Int×List Int×List Ao):=
 ((J2 a4.Params).bind fun x1=>((bif (x1==true) then Ih a4.Ret else some false).bind fun x2=>((bif ((bif x1 then x2 else false)==true) then Gp a4.Blocks a4 a9 aA a7 else some (false,(default:TFunc),(0:Int),[],[])).bind fun x3=>((Jg (bif (bif x1 then x2 else false) then x3.1 else false) (6:Int)).bind fun x4=>(some (x4,(⟨(bif ((bif x1 then x2 else false)==true) then x3.2.1.Params else a4.Params),(bif ((bif x1 then x2 else false)==true) then x3.2.1.Ret else a4.Ret),(bif ((bif x1 then x2 else false)==true) then x3.2.1.Blocks else a4.Blocks)⟩:TFunc),(bif ((bif x1 then x2 else false)==true) then x3.2.2.1 else a9),(bif ((bif x1 then x2 else false)==true) then x3.2.2.2.1 else aA),(bif ((bif x1 then x2 else false)==true) then x3.2.2.2.2 else a7)))))))
theorem Rd(a4:TFunc)(a9:Int)(aA:List Int)(a7:List Ao)(r:(Int×TFunc×Int×List Int×List Ao))(h:Gq a4 a9 aA a7=some r):Spec Tryz.prog 32 [(.ptr 30000 0)] [(30000,.row 59 [(AV.list 1 Aj 0 a4.Params .none),(.int .i64 a4.Ret),(AV.list 5 A5 default a4.Blocks .none),(.int .i64 a9),(AV.list 1 Aj 0 aA .none),.nilm,(AV.list 5 C8 default a7 (.own 37006))]),(37006,.tok 5 104 a7.length)] (.int .i64 r.1) [(30000,.row 59 [(AV.list 1 Aj 0 r.2.1.Params .none),(.int .i64 r.2.1.Ret),(AV.list 5 A5 default r.2.1.Blocks .none),(.int .i64 r.2.2.1),(AV.list 1 Aj 0 r.2.2.2.1 .none),.nilm,(AV.list 5 C8 default r.2.2.2.2 (.own 37006))]),(37006,.tok 5 104 r.2.2.2.2.length)]:=by
 refine Ac mix Tryz.func32 (fun Γ hq=>?_);unfold Gq at h;refine Af hq [0] [30000,37006] ?_;obtain⟨x1,hx1,h⟩:=bind_some h;obtain⟨x2,hx2,h⟩:=bind_some h;obtain⟨x3,hx3,h⟩:=bind_some h;refine gR hq [3] [30000,37006] [] [(Z2 x1),(Z2 x2),(Z62 x3.1 x3.2.1.Params x3.2.1.Ret x3.2.1.Blocks x3.2.2.1 x3.2.2.2.1 x3.2.2.2.2 x3.2.2.2.2.length)] (ci (Xy a4.Params x1 hx1) (ci (gI (x1==true)) (ci (gI (x1==true)) (ci (gI (x1==true)) (ci (gI (x1==true)) (ci (gI (x1==true)) (ci (fun(hg:(x1==true)=true)=>(Kx a4.Ret x2 (Bq hg hx2))) (ci (Mb x1) (ci (gI (Q68 x1 x2)) (ci (gI (Q68 x1 x2)) (ci (gI (Q68 x1 x2)) (ci (gI (Q68 x1 x2)) (ci (gI (Q68 x1 x2)) (ci (gI (Q68 x1 x2)) (ci (gI (Q68 x1 x2)) (ci (fun(hg:(Q68 x1 x2)=true)=>(Rb a4.Blocks a4 a9 aA a7 x3 (Bq hg hx3))) (c1 (Mb (bif x1 then x2 else false))))))))))))))))))) ?_;refine K6 (Le.trans (leB (fun g_ u=>(Ds u [] [(30000,.row 59 [(Q70 x1 x2 x3 a4),(Z57 (Q68 x1 x2) x3.2.1.Ret a4.Ret),(Q69 x1 x2 x3 a4),(Z57 (Q68 x1 x2) x3.2.2.1 a9),(Q71 x1 x2 x3 aA),.nilm,(Z26 g_ x3.2.2.2.2 a7)]),(37006,.tok 5 104 (bif g_ then x3.2.2.2.2.length else a7.length))])) (fun g_ u=>(Ds u [] [(30000,.row 59 [(Q70 x1 x2 x3 a4),(Z57 (Q68 x1 x2) x3.2.1.Ret a4.Ret),(Q69 x1 x2 x3 a4),(Z57 (Q68 x1 x2) x3.2.2.1 a9),(Q71 x1 x2 x3 aA),.nilm,(AV.list 5 C8 default (bif g_ then x3.2.2.2.2 else a7) (.own 37006))]),(37006,.tok 5 104 ((bif g_ then x3.2.2.2.2 else a7).length))])) (Q68 x1 x2)) (Le.trans (leC 30000 0 (show AVle (Q70 x1 x2 x3 a4) (AV.list 1 Aj 0 (bif (Q68 x1 x2) then x3.2.1.Params else a4.Params) .none) from Ir)) (Le.trans (leC 30000 2 (show AVle (Q69 x1 x2 x3 a4) (AV.list 5 A5 default (bif (Q68 x1 x2) then x3.2.1.Blocks else a4.Blocks) .none) from Ir)) (leC 30000 4 (show AVle (Q71 x1 x2 x3 aA) (AV.list 1 Aj 0 (bif (Q68 x1 x2) then x3.2.2.2.1 else aA) .none) from Ir))))) ?_;obtain⟨x4,hx4,h⟩:=bind_some h;refine gR hq [2] [30000,37006] [] [(Z32 x4)] (c1 (R9 (bif (bif x1 then x2 else false) then x3.1 else false) (6:Int) x4 hx4)) ?_;cases h;exact C0 [(30000,30000),(37006,37006)]
def D1(aC:Int):Option (Int×Int):=
 (some (aC,(1:Int)))
theorem J7(aC:Int)(r:(Int×Int))(h:D1 aC=some r):Spec Tryz.prog 58 [(.int .i64 aC)] [] (.agg (A2 r)) []:=by
 refine Ac mix Tryz.func58 (fun Γ hq=>?_);unfold D1 at h;refine Af hq [0,2] [2] ?_;refine Af hq [2] [2] ?_;cases h;exact C0 []
def Q72:=(fun(v_:Ai)=>((Z45 v_):AV))
def E2(aE:Int)(aY:(Int×Int))(aK:H1)(a4:TFunc)(a9:Int)(aA:List Int)(a8:List (Int×Ai))(a7:List Ao):Option (Bool×TFunc×Int×List Int×List Ao×List (Int×Ai)):=
 (bif (bif (bif (Fn a8 aE) then true else(decide (aE<1))) then true else(decide (((1023:Int):Int)<aE))) then(some (false,a4,a9,aA,a7,a8)) else(some (true,a4,a9,aA,a7,(Kc a8 aE (⟨aY,aK⟩:Ai)))))
theorem Mc(aE:Int)(aY:(Int×Int))(aK:H1)(a4:TFunc)(a9:Int)(aA:List Int)(a8:List (Int×Ai))(a7:List Ao)(r:(Bool×TFunc×Int×List Int×List Ao×List (Int×Ai)))(h:E2 aE aY aK a4 a9 aA a8 a7=some r):Spec Tryz.prog 86 [(.ptr 30000 0),(.int .i64 aE),(.agg (A2 aY)),(.agg (Zn aK))] [(30000,.row 59 [(AV.list 1 Aj 0 a4.Params .none),(.int .i64 a4.Ret),(AV.list 5 A5 default a4.Blocks .none),(.int .i64 a9),(AV.list 1 Aj 0 aA .none),(.omap 9100005),(AV.list 5 C8 default a7 (.own 37006))]),(37006,.tok 5 104 a7.length),(9100005,.obj (.map true .i64 (mapE (fun(v_:Ai)=>((.agg (E1 v_)):AV)) a8)))] (.bool r.1) [(30000,.row 59 [(AV.list 1 Aj 0 r.2.1.Params .none),(.int .i64 r.2.1.Ret),(AV.list 5 A5 default r.2.1.Blocks .none),(.int .i64 r.2.2.1),(AV.list 1 Aj 0 r.2.2.2.1 .none),(.omap 9100005),(AV.list 5 C8 default r.2.2.2.2.1 (.own 37006))]),(37006,.tok 5 104 r.2.2.2.2.1.length),(9100005,.obj (.map true .i64 (mapE (fun(v_:Ai)=>((.agg (E1 v_)):AV)) r.2.2.2.2.2)))]:=by
 refine Ac mix Tryz.func86 (fun Γ hq=>?_);unfold E2 at h;refine Af hq [0,1,6,7] [6,7,30000,37006,9100005] ?_;refine gR hq [0,1,6,7,10] [6,7,30000,37006,9100005] [(17,(.tuple [(Z31 a8 aE),(.bool (Fn a8 aE))]))] [] (c1 (show(AVle (.tuple [Dy (.agg [Mw,Mw,Mw,Mw]) (mapE Q72 a8) aE,.bool (Fn (mapE Q72 a8) aE)]) (.tuple [(Z31 a8 aE),(.bool (Fn a8 aE))])) from(Aa6 (f:=Q72) (l:=a8) (AVle.refl _) rfl))) ?_;refine gR hq [0,1,6,7,28] [6,7,30000,37006,9100005] [] [] (ci (gI ((Fn a8 aE)==false)) (ci (K2 (Fn a8 aE)) (ci (gI ((bif (Fn a8 aE) then true else(decide (aE<1)))==false)) (c1 (K2 (bif (Fn a8 aE) then true else(decide (aE<1)))))))) ?_;refine gC h (fun h=>?_) (fun h=>?_)
 ·refine Af hq [8] [30000,37006,9100005] ?_;cases h;exact C0 [(30000,30000),(37006,37006),(9100005,9100005)]
 ·refine Af hq [] [30000,37006,9100005] ?_;refine K6 (O6 (fun(k_:List (Int×AV)) u=>Ds u [] [(9100005,.obj (.map true .i64 k_))]) (show(Kc (mapE Q72 a8) aE (.agg [(Z6 aY.1),(Z6 aY.2),(Z6 aK.block),(Z6 aK.at_)]))=(mapE Q72 (Kc a8 aE (⟨aY,aK⟩:Ai))) from(mset_eq (f:=Q72) (l:=a8) (v:=(⟨aY,aK⟩:Ai)) rfl rfl))) ?_;refine Af hq [8] [30000,37006,9100005] ?_;cases h;exact C0 [(30000,30000),(37006,37006),(9100005,9100005)]
def K8(a1:Dv):Option (Int×Int):=
 ((L6 a1).bind fun x1=>(bif (!x1) then(some ((0:Int),(0:Int))) else((La a1).bind fun x2=>(some (x2.1,x2.2)))))
theorem ok_kind_Gives(a1:Dv)(r:(Int×Int))(h:K8 a1=some r):Spec Tryz.prog 87 [(.agg (Mi a1))] [] (.tuple [(.int .i64 r.1),(.int .i64 r.2)]) []:=by
 refine Ac mix Tryz.func87 (fun Γ hq=>?_);unfold K8 at h;refine Af hq [1] [1] ?_;obtain⟨x1,hx1,h⟩:=bind_some h;refine gR hq [1,6] [1] [] [(Z2 x1)] (c1 (Tz a1 x1 hx1)) ?_;refine gC h (fun h=>?_) (fun h=>?_)
 ·refine Af hq [2,3] [] ?_;cases h;exact C0 []
 ·obtain⟨x2,hx2,h⟩:=bind_some h;refine gR hq [2,3] [] [] [(Z67 x2.1 x2.2)] (c1 (Vp a1 x2 hx2)) ?_;cases h;exact C0 []
end
end Go.Proofs.YtggpeloimmlkgaaGreat
