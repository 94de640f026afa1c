/-
  The machine, the program's functions and the laws' arithmetic: part 4 of 7.
-/
import Derived.Test.YtggpeloimmlkgaaGreatPk3
import Derived.Test.YtggpeloimmlkgaaGreatProg
set_option linter.unusedVariables false
set_option linter.unusedSimpArgs false
namespace Go.Proofs.YtggpeloimmlkgaaGreat
noncomputable section
open Go Go.RowKit
set_option maxRecDepth 100000
set_option maxHeartbeats 2000000
def Ak(x:Int):List AV:=[(.int .i64 x)]
def Hp(x:List Int):List AV:=[(AV.list 1 Ak 0 x .none)]
structure Er where
 Bits:Int
 Dst:Int
 From:List Int
 Args:List Int
 deriving Inhabited,DecidableEq
def Sz(x:Er):List AV:=[(.int .i64 x.Bits),(.int .i64 x.Dst),(AV.list 1 Ak 0 x.From .none),(AV.list 1 Ak 0 x.Args .none)]
structure Dv where
 Kind:Int
 Bits:Int
 Lanes:Int
 Dst:Int
 Args:List Int
 Imm:Int
 deriving Inhabited,DecidableEq
def Mp(x:Dv):List AV:=[(.int .i64 x.Kind),(.int .i64 x.Bits),(.int .i64 x.Lanes),(.int .i64 x.Dst),(AV.list 1 Ak 0 x.Args .none),(.int .u64 x.Imm)]
structure Ga where
 Kind:Int
 Arg:Int
 To:List Int
 deriving Inhabited,DecidableEq
def eTEnd(x:Ga):List AV:=[(.int .i64 x.Kind),(.int .i64 x.Arg),(AV.list 1 Ak 0 x.To .none)]
structure Ad where
 Phis:List Er
 Ops:List Dv
 End:Ga
 deriving Inhabited,DecidableEq
def A2(x:Ad):List AV:=[(AV.list 4 Sz default x.Phis .none),(AV.list 6 Mp default x.Ops .none),(.int .i64 x.End.Kind),(.int .i64 x.End.Arg),(AV.list 1 Ak 0 x.End.To .none)]
structure Ab where
 Params:List Int
 Ret:Int
 Blocks:List Ad
 deriving Inhabited,DecidableEq
def L9(x:Ab):List AV:=[(AV.list 1 Ak 0 x.Params .none),(.int .i64 x.Ret),(AV.list 5 A2 default x.Blocks .none)]
def A8(x:(Int×Int)):List AV:=[(.int .i64 x.1),(.int .i64 x.2)]
structure Hu where
 block:Int
 at_:Int
 deriving Inhabited,DecidableEq
def Y4(x:Hu):List AV:=[(.int .i64 x.block),(.int .i64 x.at_)]
structure An where
 v:Int
 shape:(Int×Int)
 place:Hu
 deriving Inhabited,DecidableEq
def C6(x:An):List AV:=[(.int .i64 x.v),(.int .i64 x.shape.1),(.int .i64 x.shape.2),(.int .i64 x.place.block),(.int .i64 x.place.at_)]
structure TGraph where
 Succ:List (List Int)
 Pred:List (List Int)
 deriving Inhabited,DecidableEq
def Iw(x:TGraph):List AV:=[(AV.list 1 Hp [] x.Succ .none),(AV.list 1 Hp [] x.Pred .none)]
def eB(x:Bool):List AV:=[(.bool x)]
structure Aj where
 shape:(Int×Int)
 place:Hu
 deriving Inhabited,DecidableEq
def Eu(x:Aj):List AV:=[(.int .i64 x.shape.1),(.int .i64 x.shape.2),(.int .i64 x.place.block),(.int .i64 x.place.at_)]
structure Bk where
 V:Int
 Block:Int
 At:Int
 Shape:(Int×Int)
 deriving Inhabited,DecidableEq
def L1(x:Bk):List AV:=[(.int .i64 x.V),(.int .i64 x.Block),(.int .i64 x.At),(.int .i64 x.Shape.1),(.int .i64 x.Shape.2)]
structure Bz where
 V:Int
 Block:Int
 At:Int
 Shape:(Int×Int)
 deriving Inhabited,DecidableEq
def Lj(x:Bz):List AV:=[(.int .i64 x.V),(.int .i64 x.Block),(.int .i64 x.At),(.int .i64 x.Shape.1),(.int .i64 x.Shape.2)]
def eLB(x:List Bool):List AV:=[(AV.list 1 eB false x .none)]
theorem mix:Tryz.prog.follows .mixedOrders=true:=by kernel_rfl
def Z1:=fun za zb zc zd zf zg zm=>((30000,.row 59 [(AV.list 1 Ak 0 za .none),(.int .i64 zb),(AV.list 5 A2 default zc .none),(.int .i64 zd),(AV.list 1 Ak 0 zf .none),(.omap zg),(AV.list 5 C6 default zm (.own 37006))]):Nat×Own)
def Z2:=fun za=>(⟨[],[],(.bool za),[],[]⟩:Ss)
def Z3:=fun za zb zc zd zf zg zm=>([(30000,.row 59 [(AV.list 1 Ak 0 za .none),(.int .i64 zb),(AV.list 5 A2 default zc .none),(.int .i64 zd),(AV.list 1 Ak 0 zf .none),.nilm,(AV.list 5 C6 default zg (.own 37006))]),(37006,.tok 5 104 zm)]:List (Nat×Own))
def Z4:=fun za (zb:List Int)=>((za,.arr 1 3 zb.length (fun i=>Ak (zb.getD i 0))):Nat×Own)
def Z5:=fun za=>(⟨[],[],(AV.list 2 A8 ((0:Int),(0:Int)) za .none),[],[]⟩:Ss)
def Z6:=fun za=>((.int .i64 za):AV)
def Z7:=fun za=>((AV.list 1 Ak 0 za .none):AV)
def Z8:=fun za zb zc zd=>((za,.arr 1 22 zb (Kr 1 Ak (0:Int) zc (Tag.fam zd))):Nat×Own)
def Z9:=fun za (zb:List Bool)=>((za,.arr 1 4 zb.length (fun i=>eB (zb.getD i false))):Nat×Own)
def Z10:=fun za zb zc zd zf zg zm zn=>(⟨[(30000,30000),(37006,37006),(9100005,9100005)],[],(.tuple []),[(Z1 za zb zc zd zf 9100005 zg),(37006,.tok 5 104 zm),(9100005,.obj (.map false .i64 zn))],[]⟩:Ss)
def Nd:=((.int .i64 (0:Int)):AV)
def Z12:=fun za zb zc zd zf zg zm=>([(Z1 za zb zc zd zf 9100005 zg),(37006,.tok 5 104 zm)]:List (Nat×Own))
def Z13:=fun za zb=>((AV.list 1 Ak 0 za (.own zb)):AV)
def Z14:=fun za zb zc zd zf zg zm zn zp=>([(Z1 za zb zc zd zf zg zm),(37006,.tok 5 104 zn),(zg,.obj (.map false .i64 zp))]:List (Nat×Own))
def Z15:=fun za (zb:List Int) (zc:List Int)=>((.slice 1 (bif za then zb.length else zc.length) (fun i=>bif za then Ak (zb.getD i 0) else Ak (zc.getD i 0)) .none):AV)
def Z16:=((AV.list 1 Ak 0 ([]:List Int) .exact):AV)
def Z17:=fun za zb zc zd zf zg=>((30000,.row 59 [(Z7 za),(Z6 zb),(AV.list 5 A2 default zc .none),(Z6 zd),(Z7 zf),(.omap 8),(AV.list 5 C6 default zg (.own 37006))]):Nat×Own)
def Z18:=fun za=>((3,(AV.list 5 Lj default za (.own 5003))):Nat×AV)
def Z19:=fun za zb=>((AV.list 1 eB false za (.own zb)):AV)
def Z20:=fun za=>((AV.list 1 Ak 0 ([za]:List Int) .exact):AV)
def Z21:=fun za=>((AV.list 5 A2 default za .none):AV)
def Pd:=((2,(.ptr 2 0)):Nat×AV)
def Z23:=fun za=>((AV.list 1 Hp [] za .none):AV)
def Z24:=(⟨[(4,(AV.list 1 Ak 0 ([]:List Int) (.own 6004)))],[(6004,.tok 1 3 (([]:List Int).length))],[]⟩:St)
def Z25:=fun za zb zc zd=>([(za,(AV.list 5 Lj default zb .exact)),(zc,(AV.list 5 Lj default (zd++zb) (.own 5003)))]:List (Nat×AV))
def Z26:=fun za=>((3,(AV.list 5 L1 default za (.own 5003))):Nat×AV)
def Z27:=fun za (zb:List An) (zc:List An)=>((.slice 5 (bif za then zb.length else zc.length) (fun i=>bif za then C6 (zb.getD i default) else C6 (zc.getD i default)) (.own 37006)):AV)
def Z28:=((AV.list 2 A8 ((0:Int),(0:Int)) ([]:List (Int×Int)) .exact):AV)
def Z29:=((.slice 0 0 (fun _=>[]) .exact):AV)
def Z30:=fun za zb zc zd zf=>((37,.arr 1 81 za (fun i_=>AV.eraseAll zb ((F6 zc zd 0 [(.vsl 46 zf)]) i_))):Nat×Own)
def Uy:=((1,(.ptr 1 0)):Nat×AV)
def Z32:=fun za zb=>((.agg (Eu (Fh (default:Aj) za zb))):AV)
def Z33:=fun za=>(⟨[],[],(Z6 za),[],[]⟩:Ss)
def Nf:=fun za zb=>((za,.tok 1 4 zb):Nat×Own)
def Z35:=((AV.list 1 Hp [] ([]:List (List Int)) .exact):AV)
def Z36:=fun za=>((.agg (Eu za)):AV)
def Z37:=fun za zb zc zd=>([(za,(AV.list 5 L1 default zb .exact)),(zc,(AV.list 5 L1 default (zd++zb) (.own 5003)))]:List (Nat×AV))
def Z38:=fun za zb zc=>(⟨[],[(20000,za)],(Z13 zb 20000),[(20000,.tok 1 3 zc)],[]⟩:Ss)
def Z39:=fun za zb=>((7,.row 67 [za,(.vsl 77 zb)]):Nat×Own)
def Z40:=((.int .i64 (1:Int)):AV)
def N9:=fun za zb=>((7,(.vsl za zb)):Nat×AV)
def Z42:=fun za=>((.int .i64 (za:Int)):AV)
def Z43:=fun za zb=>(⟨[],[],(.tuple [(.agg (Iw za)),(Z6 zb)]),[],[]⟩:Ss)
def Z44:=fun za zb zc zd zf zg zm zn zp=>(⟨[(30000,30000),(37006,37006),(9100005,9100005)],[],(.agg (Y4 za)),(Z14 zb zc zd zf zg 9100005 zm zn zp),[]⟩:Ss)
def Z45:=fun za zb=>((AV.list 2 A8 ((0:Int),(0:Int)) za (.own zb)):AV)
def Z46:=fun za=>((.agg (A8 za)):AV)
def Ly:=fun za zb=>((2,.row za zb):Nat×Own)
def Z48:=fun za zb zc zd zf zg=>((1,.row 47 [(Z6 za),(Z6 zb),(Z6 zc),(Z6 zd),(Z7 zf),(.int .u64 zg)]):Nat×Own)
def Z49:=fun za zb=>((AV.list 1 Hp [] za (.own zb)):AV)
def Z50:=fun za (zb:List Ad) (zc:List Ad)=>((.slice 5 (bif za then zb.length else zc.length) (fun i=>bif za then A2 (zb.getD i default) else A2 (zc.getD i default)) .none):AV)
def Z51:=fun za (zb:List Int) (zc:List Int)=>((.slice 1 (bif (za==true) then zb.length else zc.length) (fun i=>bif (za==true) then Ak (zb.getD i 0) else Ak (zc.getD i 0)) .none):AV)
def Z52:=fun za zb zc zd zf zg zm zn zp=>(⟨[(30000,30000),(37006,37006),(9100005,9100005)],[],(.bool za),(Z14 zb zc zd zf zg 9100005 zm zn zp),[]⟩:Ss)
def Z53:=(⟨[(2,(AV.list 2 A8 ((0:Int),(0:Int)) ([]:List (Int×Int)) (.own 6002)))],[(6002,.tok 2 35 (([]:List (Int×Int)).length))],[]⟩:St)
def Z54:=((.int .i64 (2:Int)):AV)
def Z55:=fun(za:List Int)=>((6,.arr 1 112 64 (fun i=>Ak (za.getD i 0))):Nat×Own)
def Z56:=fun za=>((2,.row 67 [za,za]):Nat×Own)
def Z57:=fun(za:List (Int×Int))=>([(30,.arr 2 35 za.length (fun i=>A8 (za.getD i ((0:Int),(0:Int)))))]:List (Nat×Own))
def Z58:=fun za zb zc=>((.int .i64 (bif za then zb else zc)):AV)
def Z59:=((AV.list 1 Hp [] ([]:List (List Int)) .none):AV)
def Z60:=((6,(.vpt 6 64 0 0)):Nat×AV)
def Nv:=fun za zb zc=>((za,.tok 5 zb zc):Nat×Own)
def Z62:=fun za zb zc zd zf zg zm zn=>(⟨[(30000,30000),(37006,37006)],[],(.bool za),(Z3 zb zc zd zf zg zm zn),[]⟩:Ss)
def Z63:=((AV.list 5 C6 default ([]:List An) .exact):AV)
def Z64:=fun za zb zc=>(⟨[(4,(Z13 za zb))],[(zb,.tok 1 3 zc)],[]⟩:St)
def Z65:=fun za zb zc zd=>((37,.arr 1 81 za (F6 zb zc 0 [(.vsl 46 zd)])):Nat×Own)
def Z66:=((5,(.vpt 5 64 0 0)):Nat×AV)
def Z67:=fun za=>((AV.list 5 C6 default ([]:List An) (.own za)):AV)
def Z68:=fun za zb=>(⟨[],[],(.tuple [(Z6 za),(Z6 zb)]),[],[]⟩:Ss)
def Z69:=fun za=>((6,.arr 1 112 64 za):Nat×Own)
def Z70:=((5,(.ptr 5 0)):Nat×AV)
def Z71:=fun za=>((5,.arr 1 111 64 za):Nat×Own)
def Z72:=fun za=>((za,.tok 5 104 (([]:List An).length)):Nat×Own)

def Kf(a0:Ab):(Int×Int)→Option (LR (Int×Int) Int):=
 fun((i1,i2):(Int×Int))=>(bif (decide (i2<(a0.Blocks.length:Int))) then(Ba (Bb i2 a0.Blocks.length) (some (.next ((w64 (i1+(w64 ((((a0.Blocks.getD i2.toNat default).Phis).length:Int)+(((a0.Blocks.getD i2.toNat default).Ops).length:Int))))),(w64 (i2+1)))))) else(some (.done i1)))
def Ng(a0:Ab):Option Int:=
 ((Ah (Kf a0) ((a0.Blocks.length:Int),(0:Int))).bind (fun x5=>(some x5)))
theorem ok_code_Size(a0:Ab)(r:Int)(h:Ng a0=some r):Spec Tryz.prog 68 [(.agg (L9 a0))] [] (.int .i64 r) []:=by
 refine Ae mix Tryz.func68 (fun Γ hq=>?_);unfold Ng at h;refine Ag hq [1] [1] ?_;refine Ag hq [1,3] [1] ?_;refine Ag hq [3,10,11,12] [] ?_;obtain⟨x5,hx5,h⟩:=bind_some h;refine gL hq hx5 [3,10,11,12] [] (fun u (i1,i2)=>(Dx u [(3,(Z6 i1)),(12,(Z6 i2))] [])) (fun u i3=>aG Γ (.exit 0) (⟨[(3,(Z6 i3))],[],[]⟩:St)) ?_ ?_
 ·rintro⟨i1,i2⟩ y h;unfold Kf at h;refine Ag hq [3,10,11,12,13] [] ?_;refine gC h (fun h=>?_) (fun h=>?_)
  ·obtain⟨hc4,h⟩:=Aa h;refine gR hq [3,5,10,11,12] [5] [] [] (c1 hc4) ?_;refine Ag hq [3,10,11,12] [] ?_;refine Ag hq [3,10,11,12] [] ?_;cases h;exact gN Ct
  ·cases h;exact gO (Br (Ca [3] [] hq))
 ·clear hx5;refine gA ?_;refine Ag hq [2] [] ?_;obtain rfl:=OI h;exact C7 []
def G8(aC:List Int):Int→Option (LR Int (Unit ⊕ Bool)):=
 fun(i1:Int)=>(bif (decide (i1<(aC.length:Int))) then(Ba (Bb i1 aC.length) (bif (bif (decide (((aC.getD i1.toNat 0):Int)<0)) then true else(decide (((2147483647:Int):Int)<(aC.getD i1.toNat 0)))) then(some (.done (.inr false))) else(some (.next (w64 (i1+1)))))) else(some (.done (.inl ()))))
def Vr(Γ:H0)(aC:List Int)(r:Bool):Exit→St→Prop:=fK Tryz.prog Γ Tryz.f69.results.toList [] (.bool r) []
def Do(aC:List Int):Option Bool:=
 ((Ah (G8 aC) (0:Int)).bind (fun x3=>(match x3 with|(.inl _)=>(some true)|(.inr r5)=>(some r5))))
theorem G2(aC:List Int)(r:Bool)(h:Do aC=some r):Spec Tryz.prog 69 [(AV.list 1 Ak 0 aC .none)] [] (.bool r) []:=by
 refine Ae mix Tryz.func69 (fun Γ hq=>?_);unfold Do at h;refine Ag hq [0] [] ?_;refine Ag hq [5,6,7] [] ?_;obtain⟨x3,hx3,h⟩:=bind_some h;refine gL hq hx3 [5,6,7] [] (fun u i1=>(Dx u [(7,(Z6 i1))] [])) (fun u x_=>match x_ with|(.inl _)=>aG Γ (.exit 0) (⟨[],[],[]⟩:St)|(.inr r_)=>aR (Vr Γ aC r_)) ?_ ?_
 ·intro i1 y h;unfold G8 at h;refine Ag hq [5,6,7,8] [] ?_;refine gC h (fun h=>?_) (fun h=>?_)
  ·obtain⟨hc2,h⟩:=Aa h;refine gR hq [4,5,6,7] [] [] [] (c1 hc2) ?_;refine gR hq [5,6,7,16] [] [] [] (ci (gI ((decide (((aC.getD i1.toNat 0):Int)<0))==false)) (c1 (Kb (decide (((aC.getD i1.toNat 0):Int)<0))))) ?_;refine gC h (fun h=>?_) (fun h=>?_)
   ·refine Ag hq [2] [] ?_;cases h;exact gO (La (I4 [] (Le.refl _ _)))
   ·refine Ag hq [5,6,7] [] ?_;cases h;exact gN Ct
  ·cases h;exact gO (Br (Ca [] [] hq))
 ·clear hx3;rcases x3 with _|r5
  ·refine gA ?_;refine Ag hq [2] [] ?_;obtain rfl:=OI h;exact C7 []
  ·refine Mr (fun st' hk=>?_);obtain rfl:=OI h;exact gK hk
def Gg(aC:List Int):Option Bool:=
 ((bif ((decide (((aC.length:Int):Int)≤64))==true) then Do aC else some false).bind fun x1=>(some (bif (decide (((aC.length:Int):Int)≤64)) then x1 else false)))
theorem K3(aC:List Int)(r:Bool)(h:Gg aC=some r):Spec Tryz.prog 110 [(AV.list 1 Ak 0 aC .none)] [] (.bool r) []:=by
 refine Ae mix Tryz.func110 (fun Γ hq=>?_);unfold Gg at h;refine Ag hq [0] [] ?_;obtain⟨x1,hx1,h⟩:=bind_some h;refine gR hq [2] [] [] [(Z2 x1)] (ci (gI ((decide (((aC.length:Int):Int)≤64))==true)) (ci (fun(hg:((decide (((aC.length:Int):Int)≤64))==true)=true)=>(G2 aC x1 (Bw hg hx1))) (c1 (L2 (decide (((aC.length:Int):Int)≤64)))))) ?_;cases h;exact C7 []
def Kh(aW:Er):Option Bool:=
 ((Do ([aW.Bits,aW.Dst]:List Int)).bind fun x1=>((bif (x1==true) then Gg aW.From else some false).bind fun x2=>((bif ((bif x1 then x2 else false)==true) then Gg aW.Args else some false).bind fun x3=>(some (bif (bif x1 then x2 else false) then x3 else false)))))
theorem Ys(aW:Er)(r:Bool)(h:Kh aW=some r):Spec Tryz.prog 94 [(.agg (Sz aW))] [] (.bool r) []:=by
 refine Ae mix Tryz.func94 (fun Γ hq=>?_);unfold Kh at h;refine Ag hq [1] [1] ?_;obtain⟨x1,hx1,h⟩:=bind_some h;obtain⟨x2,hx2,h⟩:=bind_some h;obtain⟨x3,hx3,h⟩:=bind_some h;refine gR hq [2] [] [(7,(AV.list 1 Ak 0 ([aW.Bits,aW.Dst]:List Int) .exact))] [(Z2 x1),(Z2 x2),(Z2 x3)] (ci (B8 1 Ak (0:Int) ([aW.Bits,aW.Dst]:List Int)) (ci (G2 ([aW.Bits,aW.Dst]:List Int) x1 hx1) (ci (gI (x1==true)) (ci (gI (x1==true)) (ci (fun(hg:(x1==true)=true)=>(K3 aW.From x2 (Bw hg hx2))) (ci (L2 x1) (ci (gI ((bif x1 then x2 else false)==true)) (ci (gI ((bif x1 then x2 else false)==true)) (ci (fun(hg:((bif x1 then x2 else false)==true)=true)=>(K3 aW.Args x3 (Bw hg hx3))) (c1 (L2 (bif x1 then x2 else false)))))))))))) ?_;cases h;exact C7 []
def Fd(aC:List Er):Int→Option (LR Int (Unit ⊕ Bool)):=
 fun(i1:Int)=>(bif (decide (i1<(aC.length:Int))) then(Ba (Bb i1 aC.length) ((Kh (aC.getD i1.toNat default)).bind fun x3=>(bif (!x3) then(some (.done (.inr false))) else(some (.next (w64 (i1+1))))))) else(some (.done (.inl ()))))
def Ry(Γ:H0)(aC:List Er)(r:Bool):Exit→St→Prop:=fK Tryz.prog Γ Tryz.f93.results.toList [] (.bool r) []
def Gn(aC:List Er):Option Bool:=
 ((Ah (Fd aC) (0:Int)).bind (fun x4=>(match x4 with|(.inl _)=>(some true)|(.inr r6)=>(some r6))))
theorem Qs(aC:List Er)(r:Bool)(h:Gn aC=some r):Spec Tryz.prog 93 [(AV.list 4 Sz default aC .none),(.clo 94 [] [])] [] (.bool r) []:=by
 refine Ae mix Tryz.func93 (fun Γ hq=>?_);unfold Gn at h;refine Ag hq [0,1] [] ?_;refine Ag hq [1,7,8,9] [] ?_;obtain⟨x4,hx4,h⟩:=bind_some h;refine gL hq hx4 [1,7,8,9] [] (fun u i1=>(Dx u [(9,(Z6 i1))] [])) (fun u x_=>match x_ with|(.inl _)=>aG Γ (.exit 0) (⟨[],[],[]⟩:St)|(.inr r_)=>aR (Ry Γ aC r_)) ?_ ?_
 ·intro i1 y h;unfold Fd at h;refine Ag hq [1,7,8,9,10] [] ?_;refine gC h (fun h=>?_) (fun h=>?_)
  ·obtain⟨hc2,h⟩:=Aa h;refine gR hq [1,6,7,8,9] [6] [] [] (c1 hc2) ?_;obtain⟨x3,hx3,h⟩:=bind_some h;refine gR hq [1,7,8,9,16] [] [] [(Z2 x3)] (c1 (Ys (aC.getD i1.toNat default) x3 hx3)) ?_;refine gC h (fun h=>?_) (fun h=>?_)
   ·refine Ag hq [4] [] ?_;cases h;exact gO (La (I4 [] (Le.refl _ _)))
   ·refine Ag hq [1,7,8,9] [] ?_;cases h;exact gN Ct
  ·cases h;exact gO (Br (Ca [] [] hq))
 ·clear hx4;rcases x4 with _|r6
  ·refine gA ?_;refine Ag hq [4] [] ?_;obtain rfl:=OI h;exact C7 []
  ·refine Mr (fun st' hk=>?_);obtain rfl:=OI h;exact gK hk
def Ll(a1:Dv):Option Bool:=
 ((Do ([a1.Kind,a1.Bits,a1.Lanes,a1.Dst]:List Int)).bind fun x1=>((bif (x1==true) then Gg a1.Args else some false).bind fun x2=>(some (bif x1 then x2 else false))))
theorem ok_code_opFits(a1:Dv)(r:Bool)(h:Ll a1=some r):Spec Tryz.prog 96 [(.agg (Mp a1))] [] (.bool r) []:=by
 refine Ae mix Tryz.func96 (fun Γ hq=>?_);unfold Ll at h;refine Ag hq [1] [1] ?_;obtain⟨x1,hx1,h⟩:=bind_some h;obtain⟨x2,hx2,h⟩:=bind_some h;refine gR hq [2] [] [(11,(AV.list 1 Ak 0 ([a1.Kind,a1.Bits,a1.Lanes,a1.Dst]:List Int) .exact))] [(Z2 x1),(Z2 x2)] (ci (B8 1 Ak (0:Int) ([a1.Kind,a1.Bits,a1.Lanes,a1.Dst]:List Int)) (ci (G2 ([a1.Kind,a1.Bits,a1.Lanes,a1.Dst]:List Int) x1 hx1) (ci (gI (x1==true)) (ci (gI (x1==true)) (ci (fun(hg:(x1==true)=true)=>(K3 a1.Args x2 (Bw hg hx2))) (c1 (L2 x1))))))) ?_;cases h;exact C7 []
def Fx(aC:List Dv):Int→Option (LR Int (Unit ⊕ Bool)):=
 fun(i1:Int)=>(bif (decide (i1<(aC.length:Int))) then(Ba (Bb i1 aC.length) ((Ll (aC.getD i1.toNat default)).bind fun x3=>(bif (!x3) then(some (.done (.inr false))) else(some (.next (w64 (i1+1))))))) else(some (.done (.inl ()))))
def Sk(Γ:H0)(aC:List Dv)(r:Bool):Exit→St→Prop:=fK Tryz.prog Γ Tryz.f95.results.toList [] (.bool r) []
def G7(aC:List Dv):Option Bool:=
 ((Ah (Fx aC) (0:Int)).bind (fun x4=>(match x4 with|(.inl _)=>(some true)|(.inr r6)=>(some r6))))
theorem R8(aC:List Dv)(r:Bool)(h:G7 aC=some r):Spec Tryz.prog 95 [(AV.list 6 Mp default aC .none),(.clo 96 [] [])] [] (.bool r) []:=by
 refine Ae mix Tryz.func95 (fun Γ hq=>?_);unfold G7 at h;refine Ag hq [0,1] [] ?_;refine Ag hq [1,7,8,9] [] ?_;obtain⟨x4,hx4,h⟩:=bind_some h;refine gL hq hx4 [1,7,8,9] [] (fun u i1=>(Dx u [(9,(Z6 i1))] [])) (fun u x_=>match x_ with|(.inl _)=>aG Γ (.exit 0) (⟨[],[],[]⟩:St)|(.inr r_)=>aR (Sk Γ aC r_)) ?_ ?_
 ·intro i1 y h;unfold Fx at h;refine Ag hq [1,7,8,9,10] [] ?_;refine gC h (fun h=>?_) (fun h=>?_)
  ·obtain⟨hc2,h⟩:=Aa h;refine gR hq [1,6,7,8,9] [6] [] [] (c1 hc2) ?_;obtain⟨x3,hx3,h⟩:=bind_some h;refine gR hq [1,7,8,9,16] [] [] [(Z2 x3)] (c1 (ok_code_opFits (aC.getD i1.toNat default) x3 hx3)) ?_;refine gC h (fun h=>?_) (fun h=>?_)
   ·refine Ag hq [4] [] ?_;cases h;exact gO (La (I4 [] (Le.refl _ _)))
   ·refine Ag hq [1,7,8,9] [] ?_;cases h;exact gN Ct
  ·cases h;exact gO (Br (Ca [] [] hq))
 ·clear hx4;rcases x4 with _|r6
  ·refine gA ?_;refine Ag hq [4] [] ?_;obtain rfl:=OI h;exact C7 []
  ·refine Mr (fun st' hk=>?_);obtain rfl:=OI h;exact gK hk
def Kg(aI:Ga):Option Bool:=
 ((Do ([aI.Kind,aI.Arg]:List Int)).bind fun x1=>((bif (x1==true) then Gg aI.To else some false).bind fun x2=>(some (bif x1 then x2 else false))))
theorem Yr(aI:Ga)(r:Bool)(h:Kg aI=some r):Spec Tryz.prog 97 [(.agg (eTEnd aI))] [] (.bool r) []:=by
 refine Ae mix Tryz.func97 (fun Γ hq=>?_);unfold Kg at h;refine Ag hq [1] [1] ?_;obtain⟨x1,hx1,h⟩:=bind_some h;obtain⟨x2,hx2,h⟩:=bind_some h;refine gR hq [2] [] [(7,(AV.list 1 Ak 0 ([aI.Kind,aI.Arg]:List Int) .exact))] [(Z2 x1),(Z2 x2)] (ci (B8 1 Ak (0:Int) ([aI.Kind,aI.Arg]:List Int)) (ci (G2 ([aI.Kind,aI.Arg]:List Int) x1 hx1) (ci (gI (x1==true)) (ci (gI (x1==true)) (ci (fun(hg:(x1==true)=true)=>(K3 aI.To x2 (Bw hg hx2))) (c1 (L2 x1))))))) ?_;cases h;exact C7 []
def I9(aM:Ad):Option Bool:=
 ((Gn aM.Phis).bind fun x1=>((bif (x1==true) then G7 aM.Ops else some false).bind fun x2=>((bif ((bif x1 then x2 else false)==true) then Kg (⟨aM.End.Kind,aM.End.Arg,aM.End.To⟩:Ga) else some false).bind fun x3=>(some (bif (bif x1 then x2 else false) then x3 else false)))))
theorem Wh(aM:Ad)(r:Bool)(h:I9 aM=some r):Spec Tryz.prog 71 [(.agg (A2 aM))] [] (.bool r) []:=by
 refine Ae mix Tryz.func71 (fun Γ hq=>?_);unfold I9 at h;refine Ag hq [1] [1] ?_;obtain⟨x1,hx1,h⟩:=bind_some h;obtain⟨x2,hx2,h⟩:=bind_some h;obtain⟨x3,hx3,h⟩:=bind_some h;refine gR hq [2] [] [] [(Z2 x1),(Z2 x2),(Z2 x3)] (ci (Qs aM.Phis x1 hx1) (ci (gI (x1==true)) (ci (gI (x1==true)) (ci (fun(hg:(x1==true)=true)=>(R8 aM.Ops x2 (Bw hg hx2))) (ci (L2 x1) (ci (gI ((bif x1 then x2 else false)==true)) (ci (gI ((bif x1 then x2 else false)==true)) (ci (fun(hg:((bif x1 then x2 else false)==true)=true)=>(Yr (⟨aM.End.Kind,aM.End.Arg,aM.End.To⟩:Ga) x3 (Bw hg hx3))) (c1 (L2 (bif x1 then x2 else false))))))))))) ?_;cases h;exact C7 []
def Ek(aC:List Ad):Int→Option (LR Int (Unit ⊕ Bool)):=
 fun(i1:Int)=>(bif (decide (i1<(aC.length:Int))) then(Ba (Bb i1 aC.length) ((I9 (aC.getD i1.toNat default)).bind fun x3=>(bif (!x3) then(some (.done (.inr false))) else(some (.next (w64 (i1+1))))))) else(some (.done (.inl ()))))
def Pt(Γ:H0)(aC:List Ad)(r:Bool):Exit→St→Prop:=fK Tryz.prog Γ Tryz.f70.results.toList [] (.bool r) []
def Fv(aC:List Ad):Option Bool:=
 ((Ah (Ek aC) (0:Int)).bind (fun x4=>(match x4 with|(.inl _)=>(some true)|(.inr r6)=>(some r6))))
theorem Po(aC:List Ad)(r:Bool)(h:Fv aC=some r):Spec Tryz.prog 70 [(AV.list 5 A2 default aC .none),(.clo 71 [] [])] [] (.bool r) []:=by
 refine Ae mix Tryz.func70 (fun Γ hq=>?_);unfold Fv at h;refine Ag hq [0,1] [] ?_;refine Ag hq [1,7,8,9] [] ?_;obtain⟨x4,hx4,h⟩:=bind_some h;refine gL hq hx4 [1,7,8,9] [] (fun u i1=>(Dx u [(9,(Z6 i1))] [])) (fun u x_=>match x_ with|(.inl _)=>aG Γ (.exit 0) (⟨[],[],[]⟩:St)|(.inr r_)=>aR (Pt Γ aC r_)) ?_ ?_
 ·intro i1 y h;unfold Ek at h;refine Ag hq [1,7,8,9,10] [] ?_;refine gC h (fun h=>?_) (fun h=>?_)
  ·obtain⟨hc2,h⟩:=Aa h;refine gR hq [1,6,7,8,9] [6] [] [] (c1 hc2) ?_;obtain⟨x3,hx3,h⟩:=bind_some h;refine gR hq [1,7,8,9,16] [] [] [(Z2 x3)] (c1 (Wh (aC.getD i1.toNat default) x3 hx3)) ?_;refine gC h (fun h=>?_) (fun h=>?_)
   ·refine Ag hq [4] [] ?_;cases h;exact gO (La (I4 [] (Le.refl _ _)))
   ·refine Ag hq [1,7,8,9] [] ?_;cases h;exact gN Ct
  ·cases h;exact gO (Br (Ca [] [] hq))
 ·clear hx4;rcases x4 with _|r6
  ·refine gA ?_;refine Ag hq [4] [] ?_;obtain rfl:=OI h;exact C7 []
  ·refine Mr (fun st' hk=>?_);obtain rfl:=OI h;exact gK hk
def Q2(a0:Ab):=(decide (((a0.Blocks.length:Int):Int)<1))
def Q1(a0:Ab):=(decide (((16:Int):Int)<(a0.Params.length:Int)))
def Oe(a0:Ab):Option Bool:=
 (bif (bif (decide (((a0.Blocks.length:Int):Int)<1)) then true else(decide (((64:Int):Int)<(a0.Blocks.length:Int)))) then(some false) else((bif ((decide (((16:Int):Int)<(a0.Params.length:Int)))==false) then Ng a0 else some (0:Int)).bind fun x1=>(bif (bif (decide (((16:Int):Int)<(a0.Params.length:Int))) then true else(decide (((512:Int):Int)<x1))) then(some false) else((Do a0.Params).bind fun x2=>((bif (x2==true) then Do ([a0.Ret]:List Int) else some false).bind fun x3=>((bif ((bif x2 then x3 else false)==true) then Fv a0.Blocks else some false).bind fun x4=>(some (bif (bif x2 then x3 else false) then x4 else false))))))))
theorem ok_code_May(a0:Ab)(r:Bool)(h:Oe a0=some r):Spec Tryz.prog 48 [(.agg (L9 a0))] [] (.bool r) []:=by
 refine Ae mix Tryz.func48 (fun Γ hq=>?_);unfold Oe at h;refine Ag hq [1] [1] ?_;refine gR hq [1,12] [1] [] [] (ci (gI ((Q2 a0)==false)) (ci (gI ((Q2 a0)==false)) (ci (gI ((Q2 a0)==false)) (c1 (Kb (Q2 a0)))))) ?_;refine gC h (fun h=>?_) (fun h=>?_)
 ·refine Ag hq [2] [] ?_;obtain rfl:=OI h;exact C7 []
 ·obtain⟨x1,hx1,h⟩:=bind_some h;refine gR hq [1,21] [1] [] [(Z33 x1)] (ci (gI ((Q1 a0)==false)) (ci (fun(hg:((Q1 a0)==false)=true)=>(ok_code_Size a0 x1 (Bw hg hx1))) (ci (gI ((Q1 a0)==false)) (c1 (Kb (Q1 a0)))))) ?_;refine gC h (fun h=>?_) (fun h=>?_)
  ·refine Ag hq [2] [] ?_;obtain rfl:=OI h;exact C7 []
  ·obtain⟨x2,hx2,h⟩:=bind_some h;obtain⟨x3,hx3,h⟩:=bind_some h;obtain⟨x4,hx4,h⟩:=bind_some h;refine gR hq [2] [] [(28,(Z20 a0.Ret))] [(Z2 x2),(Z2 x3),(Z2 x4)] (ci (G2 a0.Params x2 hx2) (ci (gI (x2==true)) (ci (gI (x2==true)) (ci (show((x2==true)=true→(AVle (.slice 1 1 (fun i=>([[(Z6 a0.Ret)]]:List (List AV)).getD i []) .exact) (Z20 a0.Ret))) from(fun hg=>@(B8 1 Ak (0:Int) ([a0.Ret]:List Int)))) (ci (gI (x2==true)) (ci (fun(hg:(x2==true)=true)=>(G2 ([a0.Ret]:List Int) x3 (Bw hg hx3))) (ci (L2 x2) (ci (gI ((bif x2 then x3 else false)==true)) (ci (gI ((bif x2 then x3 else false)==true)) (ci (fun(hg:((bif x2 then x3 else false)==true)=true)=>(Po a0.Blocks x4 (Bw hg hx4))) (c1 (L2 (bif x2 then x3 else false))))))))))))) ?_;cases h;exact C7 []
def I8(aa9:Bool)(aI:Int):Option Int:=
 (bif aa9 then(some (0:Int)) else(some aI))
theorem Rq(aa9:Bool)(aI:Int)(r:Int)(h:I8 aa9 aI=some r):Spec Tryz.prog 47 [(.bool aa9),(.int .i64 aI)] [] (.int .i64 r) []:=by
 refine Ae mix Tryz.func47 (fun Γ hq=>?_);unfold I8 at h;refine Ag hq [0,1] [] ?_;refine Ag hq [1,5] [] ?_;refine gC h (fun h=>?_) (fun h=>?_)
 ·refine Ag hq [4] [] ?_;cases h;exact C7 []
 ·refine Ag hq [4] [] ?_;obtain rfl:=OI h;exact C7 []
def G5(a4:Ab)(aA:Int)(aB:List Int)(a7:List An):Option (Int×Ab×Int×List Int×List An):=
 ((Oe a4).bind fun x1=>((I8 x1 (4:Int)).bind fun x2=>(some (x2,a4,aA,aB,a7))))
theorem R6(a4:Ab)(aA:Int)(aB:List Int)(a7:List An)(r:(Int×Ab×Int×List Int×List An))(h:G5 a4 aA aB a7=some r):Spec Tryz.prog 30 [(.ptr 30000 0)] [(30000,.row 59 [(AV.list 1 Ak 0 a4.Params .none),(.int .i64 a4.Ret),(AV.list 5 A2 default a4.Blocks .none),(.int .i64 aA),(AV.list 1 Ak 0 aB .none),.nilm,(AV.list 5 C6 default a7 (.own 37006))]),(37006,.tok 5 104 a7.length)] (.int .i64 r.1) [(30000,.row 59 [(AV.list 1 Ak 0 r.2.1.Params .none),(.int .i64 r.2.1.Ret),(AV.list 5 A2 default r.2.1.Blocks .none),(.int .i64 r.2.2.1),(AV.list 1 Ak 0 r.2.2.2.1 .none),.nilm,(AV.list 5 C6 default r.2.2.2.2 (.own 37006))]),(37006,.tok 5 104 r.2.2.2.2.length)]:=by
 refine Ae mix Tryz.func30 (fun Γ hq=>?_);unfold G5 at h;refine Ag hq [0] [30000,37006] ?_;obtain⟨x1,hx1,h⟩:=bind_some h;obtain⟨x2,hx2,h⟩:=bind_some h;refine gR hq [2] [30000,37006] [] [(Z2 x1),(Z33 x2)] (ci (ok_code_May a4 x1 hx1) (c1 (Rq x1 (4:Int) x2 hx2))) ?_;cases h;exact C7 [(30000,30000),(37006,37006)]
def Ii(aP:Int):Option Bool:=
 (some (bif (decide (((1:Int):Int)≤aP)) then(decide (aP≤64)) else false))
theorem P1(aP:Int)(r:Bool)(h:Ii aP=some r):Spec Tryz.prog 72 [(.int .i64 aP)] [] (.bool r) []:=by
 refine Ae mix Tryz.func72 (fun Γ hq=>?_);unfold Ii at h;refine Ag hq [0] [] ?_;refine gR hq [2] [] [] [] (ci (gI ((decide (((1:Int):Int)≤aP))==true)) (c1 (L2 (decide (((1:Int):Int)≤aP))))) ?_;cases h;exact C7 []
def Ho(aK:Int)(aP:Int):Option Bool:=
 (some (bif (decide (((0:Int):Int)≤aK)) then(decide (aK<aP)) else false))
theorem M1(aK:Int)(aP:Int)(r:Bool)(h:Ho aK aP=some r):Spec Tryz.prog 77 [(.int .i64 aK),(.int .i64 aP)] [] (.bool r) []:=by
 refine Ae mix Tryz.func77 (fun Γ hq=>?_);unfold Ho at h;refine Ag hq [0,1] [] ?_;refine gR hq [4] [] [] [] (ci (gI ((decide (((0:Int):Int)≤aK))==true)) (ci (gI ((decide (((0:Int):Int)≤aK))==true)) (c1 (L2 (decide (((0:Int):Int)≤aK)))))) ?_;cases h;exact C7 []
def Ci(aI:Ga)(aP:Int):Int→Option (LR Int (Unit ⊕ Bool)):=
 fun(i7:Int)=>(bif (decide (i7<(aI.To.length:Int))) then(Ba (Bb i7 aI.To.length) ((bif ((((aI.To.getD i7.toNat 0):Int)==0)==false) then Ho (aI.To.getD i7.toNat 0) aP else some false).bind fun x9=>(bif (bif (((aI.To.getD i7.toNat 0):Int)==0) then true else(!x9)) then(some (.done (.inr false))) else(some (.next (w64 (i7+1))))))) else(some (.done (.inl ()))))
def Rj(Γ:H0)(aI:Ga)(aP:Int)(r:Bool):Exit→St→Prop:=fK Tryz.prog Γ Tryz.f73.results.toList [] (.bool r) []
def Q3(aI:Ga)(i7:Int):=(((aI.To.getD i7.toNat 0):Int)==0)
def Jw(aI:Ga)(aP:Int):Option Bool:=
 (Option.bind (α:=(Int ⊕ Bool)) (Option.bind (α:=Bool) (bif (aI.Kind==0) then(some (aI.Kind==0)) else(some (aI.Kind==3))) (fun x3=>(bif x3 then(some (.inl (0:Int))) else(bif (aI.Kind==1) then(some (.inl (1:Int))) else(bif (aI.Kind==2) then(some (.inl (2:Int))) else(some (.inr false))))))) (fun x5=>(match x5 with|(.inl i1)=>(bif (((aI.To.length:Int):Int)!=i1) then(some false) else((Ah (Ci aI aP) (0:Int)).bind (fun x10=>(match x10 with|(.inl _)=>(some true)|(.inr r12)=>(some r12)))))|(.inr r13)=>(some r13))))
theorem Xk(aI:Ga)(aP:Int)(r:Bool)(h:Jw aI aP=some r):Spec Tryz.prog 73 [(.agg (eTEnd aI)),(.int .i64 aP)] [] (.bool r) []:=by
 refine Ae mix Tryz.func73 (fun Γ hq=>?_);unfold Jw at h;refine Ag hq [1,2] [2] ?_;refine Ag hq [1,2,5] [2] ?_;obtain⟨x5,hx5,h⟩:=bind_some h;refine gJ hx5 (fun x_=>match x_ with|(.inl i1)=>aG Γ .normal (⟨[(1,(Z6 aP)),Pd,(5,(Z6 i1))],[(2,.row 42 [(Z6 aI.Kind),(Z6 aI.Arg),(Z7 aI.To)])],[]⟩:St)|(.inr r_)=>aR (Rj Γ aI aP r_)) ?_ ?_
 ·clear h hx5;intro y h;refine Ag hq [1,2,5,9] [2] ?_;obtain⟨x3,hx3,h⟩:=bind_some h;refine gJ hx3 (fun b2=>aG Γ .normal (⟨[(1,(Z6 aP)),Pd,(5,Nd),(9,(Z6 aI.Kind)),(10,(.bool b2))],[(2,.row 42 [(Z6 aI.Kind),(Z6 aI.Arg),(Z7 aI.To)])],[]⟩:St)) ?_ ?_
  ·clear h hx3;intro y h;refine Ag hq [1,2,5,9,10] [2] ?_;refine gC h (fun h=>?_) (fun h=>?_)
   ·cases h;exact gK (Br Ct)
   ·refine Ag hq [1,2,5,9,10] [2] ?_;cases h;exact gK (Br Ct)
  ·clear hx3;refine gA ?_;refine gC h (fun h=>?_) (fun h=>?_)
   ·cases h;exact gK (Br (Ca [1,2,5] [2] hq))
   ·refine Ag hq [1,2,9,13] [2] ?_;refine gC h (fun h=>?_) (fun h=>?_)
    ·refine Ag hq [1,2,5] [2] ?_;cases h;exact gK (Br Ct)
    ·refine Ag hq [1,2,15] [2] ?_;refine gC h (fun h=>?_) (fun h=>?_)
     ·refine Ag hq [1,2,5] [2] ?_;cases h;exact gK (Br Ct)
     ·refine Ag hq [4] [] ?_;cases h;exact gK (La (I4 [] (Le.refl _ _)))
 ·clear hx5;rcases x5 with i1|r13
  ·refine gA ?_;refine Ag hq [1,2,21] [2] ?_;refine gC h (fun h=>?_) (fun h=>?_)
   ·refine Ag hq [4] [] ?_;obtain rfl:=OI h;exact C7 []
   ·refine Ag hq [1,23,24,25] [] ?_;obtain⟨x10,hx10,h⟩:=bind_some h;refine gL hq hx10 [1,23,24,25] [] (fun u i7=>(Dx u [(25,(Z6 i7))] [])) (fun u x_=>match x_ with|(.inl _)=>aG Γ (.exit 1) (⟨[],[],[]⟩:St)|(.inr r_)=>aR (Rj Γ aI aP r_)) ?_ ?_
    ·intro i7 y h;unfold Ci at h;refine Ag hq [1,23,24,25,26] [] ?_;refine gC h (fun h=>?_) (fun h=>?_)
     ·obtain⟨hc8,h⟩:=Aa h;refine gR hq [1,7,23,24,25] [] [] [] (c1 hc8) ?_;obtain⟨x9,hx9,h⟩:=bind_some h;refine gR hq [1,23,24,25,36] [] [] [(Z2 x9)] (ci (gI ((Q3 aI i7)==false)) (ci (gI ((Q3 aI i7)==false)) (ci (fun(hg:((Q3 aI i7)==false)=true)=>(M1 (aI.To.getD i7.toNat 0) aP x9 (Bw hg hx9))) (ci (gI ((Q3 aI i7)==false)) (c1 (Kb (Q3 aI i7))))))) ?_;refine gC h (fun h=>?_) (fun h=>?_)
      ·refine Ag hq [4] [] ?_;cases h;exact gO (La (I4 [] (Le.refl _ _)))
      ·refine Ag hq [1,23,24,25] [] ?_;cases h;exact gN Ct
     ·cases h;exact gO (Br (Ca [] [] hq))
    ·clear hx10;rcases x10 with _|r12
     ·refine gA ?_;refine Ag hq [4] [] ?_;obtain rfl:=OI h;exact C7 []
     ·refine Mr (fun st' hk=>?_);obtain rfl:=OI h;exact gK hk
  ·refine Mr (fun st' hk=>?_);obtain rfl:=OI h;exact gK hk
def E6(a5:List (List Int))(i2:Int):(Int×List (List Int))→Option (LR (Int×List (List Int)) (List (List Int))):=
 fun((i6,l7):(Int×List (List Int)))=>(bif (decide (i6<((a5.getD i2.toNat []).length:Int))) then(Ba (Bb i6 (a5.getD i2.toNat []).length) (Ba (Bb ((a5.getD i2.toNat []).getD i6.toNat 0) l7.length) (Ba (Bb ((a5.getD i2.toNat []).getD i6.toNat 0) l7.length) (Ba ((l7.getD ((a5.getD i2.toNat []).getD i6.toNat 0).toNat []).length+([i2]:List Int).length≤room) (Ba (Bb ((a5.getD i2.toNat []).getD i6.toNat 0) l7.length) (some (.next ((w64 (i6+1)),(l7.set ((a5.getD i2.toNat []).getD i6.toNat 0).toNat ((l7.getD ((a5.getD i2.toNat []).getD i6.toNat 0).toNat [])++([i2]:List Int))))))))))) else(some (.done l7)))
def E7(a5:List (List Int)):(Int×List (List Int))→Option (LR (Int×List (List Int)) (List (List Int))):=
 fun((i2,l3):(Int×List (List Int)))=>(bif (decide (i2<(a5.length:Int))) then(Ba (Bb i2 a5.length) ((Ah (E6 a5 i2) ((0:Int),l3)).bind (fun x14=>(some (.next ((w64 (i2+1)),x14)))))) else(some (.done l3)))
def Q8(i2:Int):=([i2]:List Int)
def Q4(a5:List (List Int))(i2:Int)(i6:Int):=((a5.getD i2.toNat []).getD i6.toNat 0)
def Q9(l7:List (List Int))(a5:List (List Int))(i2:Int)(i6:Int):=(l7.getD (Q4 a5 i2 i6).toNat [])
def Q5(a5:List (List Int)):=(List.replicate (a5.length:Int).toNat ([]:List Int))
def Q11(l7:List (List Int))(a5:List (List Int))(i2:Int)(i6:Int):=(l7.set (Q4 a5 i2 i6).toNat ((Q9 l7 a5 i2 i6)++(Q8 i2)))
def Q7(a5:List (List Int)):List (Nat×AV):=[(0,(Z23 a5)),(3,(.vsl 10 (a5.length:Int).toNat))]
def Q6(l7:List (List Int))(i2:Int)(a5:List (List Int))(i6:Int):List (Nat×AV):=[(3,(.vsl 10 l7.length)),(4,(Z6 i2)),(11,(Z23 a5)),(12,(Z42 a5.length)),(13,(Z6 i2)),(18,(AV.list 1 Ak 0 (a5.getD i2.toNat []) .none)),(19,(.int .i64 ((a5.getD i2.toNat []).length:Int))),(20,(Z6 i6))]
def Q10(l7:List (List Int))(i2:Int)(a5:List (List Int))(i6:Int):List (Nat×AV):=[(3,(.vsl 10 l7.length)),(4,(Z6 i2)),(7,(Z6 (Q4 a5 i2 i6))),(11,(Z23 a5)),(12,(Z42 a5.length)),(13,(Z6 i2)),(18,(AV.list 1 Ak 0 (a5.getD i2.toNat []) .none)),(19,(.int .i64 ((a5.getD i2.toNat []).length:Int))),(20,(Z6 i6))]
def Jb(a5:List (List Int)):Option (List (List Int)):=
 (Ba (0≤(a5.length:Int)∧(a5.length:Int)≤(a5.length:Int)∧(a5.length:Int)≤(room:Int)) ((Ah (E7 a5) ((0:Int),(List.replicate (a5.length:Int).toNat ([]:List Int)))).bind (fun x16=>(some x16))))
theorem Rs(a5:List (List Int))(r:List (List Int))(h:Jb a5=some r):Spec Tryz.prog 75 [(AV.list 1 Hp [] a5 .none)] [] (AV.list 1 Hp [] r (.own 20000)) [(20000,.tok 1 22 r.length)]:=by
 refine Ae mix Tryz.func75 (fun Γ hq=>?_);have hΓ:=hq.own;unfold Jb at h;refine gR hq [0] [] [(2,Z35)] [] (c1 (Et 1 Hp [])) ?_;obtain⟨hc1,h⟩:=Aa h;refine gR hq [0,3] [10] [] [] (c1 hc1) ?_;refine Nw (⟨(Q7 a5),[(10,.arr 1 22 ((a5.length:Int).toNat) (fun i_=>AV.eraseAll (fun n_=>Dl n_ [10]) ((fun _=>[Z29]) i_)))],[]⟩:St) ?_;refine Kw (Le.trans (H3 (st':=⟨(Q7 a5),[(10,.arr 1 22 ((a5.length:Int).toNat) (Kr 1 Ak (0:Int) (Q5 a5) (fun _=>.exact)))],[]⟩) (TmpsLe.refl _) (.arr fam_zero .nil)) (Le.trans (Le.trans (le_birth (r:=10) (b:=70010) Ak (0:Int) (Q5 a5) 3 rfl rfl (List.length_replicate ..).symm (fun h_=>absurd h_ (by decide))) (Id (st':=⟨(Q7 a5),[(10,.arr 1 22 ((a5.length:Int).toNat) (Kr 1 Ak (0:Int) (Q5 a5) (Tag.fam 70010)))],[(70010,⟨1,3,Ka (Q5 a5)⟩)]⟩) (by kernel_rfl))) (Id (congrArg (fun k_:Nat=>(⟨[(0,(Z23 a5)),(3,(.vsl 10 k_))],[(Z8 10 k_ (Q5 a5) 70010)],[(70010,⟨1,3,Ka (Q5 a5)⟩)]⟩:St)) (show(a5.length:Int).toNat=(Q5 a5).length from(List.length_replicate ..).symm))))) ?_;refine Ag hq [3,11,12,13] [10,70010] ?_;obtain⟨x16,hx16,h⟩:=bind_some h;refine gL hq hx16 [3,11,12,13] [10,70010] (fun u (i2,l3)=>(Dx u [(3,(.vsl 10 l3.length)),(13,(Z6 i2))] [(Z8 10 l3.length l3 70010)] [(70010,⟨1,3,Ka l3⟩)])) (fun u l4=>aG Γ (.exit 0) (⟨[(3,(.vsl 10 l4.length))],[(Z8 10 l4.length l4 70010)],[(70010,⟨1,3,Ka l4⟩)]⟩:St)) ?_ ?_
 ·rintro⟨i2,l3⟩ y h;unfold E7 at h;refine Ag hq [3,11,12,13,14] [10,70010] ?_;refine gC h (fun h=>?_) (fun h=>?_)
  ·obtain⟨hc5,h⟩:=Aa h;refine gR hq [3,4,5,11,12,13] [10,70010] [] [] (c1 hc5) ?_;refine Ag hq [3,4,11,12,13,18,19,20] [10,70010] ?_;obtain⟨x14,hx14,h⟩:=bind_some h;refine gL hq hx14 [3,4,11,12,13,18,19,20] [10,70010] (fun u (i6,l7)=>(Dx u [(3,(.vsl 10 l7.length)),(20,(Z6 i6))] [(Z8 10 l7.length l7 70010)] [(70010,⟨1,3,Ka l7⟩)])) (fun u l8=>aG Γ (.exit 2) (Mj [3,11,12,13] [10,70010] u [(3,(.vsl 10 l8.length))] [(Z8 10 l8.length l8 70010)] [(70010,⟨1,3,Ka l8⟩)])) ?_ ?_
   ·rintro⟨i6,l7⟩ y h;unfold E6 at h;refine Ag hq [3,4,11,12,13,18,19,20,21] [10,70010] ?_;refine gC h (fun h=>?_) (fun h=>?_)
    ·obtain⟨hc9,h⟩:=Aa h;refine gR hq [3,4,7,11,12,13,18,19,20] [10,70010] [] [] (c1 hc9) ?_;refine Nw (⟨(Q10 l7 i2 a5 i6),[(Z8 10 l7.length l7 70010)],[(70010,⟨1,3,Ka l7⟩)]⟩:St) ?_;obtain⟨hc10,h⟩:=Aa h;obtain⟨hc11,h⟩:=Aa h;obtain⟨hc12,h⟩:=Aa h;obtain⟨hc13,h⟩:=Aa h;refine Kw (Le.trans (le_take (r:=10) (b:=70010) (k:=60010) Ak (0:Int) l7 (Q4 a5 i2 i6).toNat 3 rfl rfl rfl rfl (Mb hc10) (by kernel_rfl) (.here .nil)) (Id (st':=⟨(Q10 l7 i2 a5 i6),[(10,.arr 1 22 l7.length (Kr 1 Ak (0:Int) l7 (Gx 70010 (Q4 a5 i2 i6).toNat 60010))),(60010,.tok 1 3 ((Q9 l7 a5 i2 i6).length))],[(70010,⟨1,3,S8 l7 (Q4 a5 i2 i6).toNat⟩)]⟩) (by kernel_rfl))) ?_;refine gR hq [3,4,11,12,13,18,19,20] [10,60010,70010] [(29,(Z13 (Q9 l7 a5 i2 i6) 60010)),(31,(AV.list 1 Ak 0 (Q8 i2) .exact)),(32,(AV.list 1 Ak 0 ((Q9 l7 a5 i2 i6)++(Q8 i2)) (.own 60010)))] [] (ci hc11 (ci (Eq.refl l7.length) (ci (show(AVle (((Kr 1 Ak (0:Int) l7 (Gx 70010 (Q4 a5 i2 i6).toNat 60010)) (Q4 a5 i2 i6).toNat).getD 0 .any) (Z13 (Q9 l7 a5 i2 i6) 60010)) from av_famtag) (ci (B8 1 Ak (0:Int) (Q8 i2)) (ci (Eq.refl ((Q9 l7 a5 i2 i6).length)) (ci hc12 (ci (J7 1 60010 Ak (0:Int) (Q9 l7 a5 i2 i6) (Q8 i2)) (ci (Gi (Q9 l7 a5 i2 i6) (Q8 i2)) (ci hc13 (c1 (Eq.refl l7.length))))))))))) ?_;refine Nw (⟨(Q6 l7 i2 a5 i6),[(10,.arr 1 22 l7.length (fun i_=>AV.eraseAll (fun n_=>Dl n_ [10,60010,70010]) ((F6 (Kr 1 Ak (0:Int) l7 (Gx 70010 (Q4 a5 i2 i6).toNat 60010)) (Q4 a5 i2 i6).toNat 0 [(AV.list 1 Ak 0 ((Q9 l7 a5 i2 i6)++(Q8 i2)) (.own 60010))]) i_))),(60010,.tok 1 3 (((Q9 l7 a5 i2 i6)++(Q8 i2)).length))],[(70010,⟨1,3,S8 l7 (Q4 a5 i2 i6).toNat⟩)]⟩:St) ?_;refine Kw (Le.trans (Le.trans (le_put (r:=10) (b:=70010) (k:=60010) Ak (0:Int) l7 (Q4 a5 i2 i6).toNat ((Q9 l7 a5 i2 i6)++(Q8 i2)) 3 rfl (putF_fam (Mb hc10) rfl rfl) rfl rfl rfl rfl (Mb hc10) (by kernel_rfl) (.here (.tok .nil)) (by rw[hΓ];rfl)) (Id (st':=⟨(Q6 l7 i2 a5 i6),[(Z8 10 l7.length (Q11 l7 a5 i2 i6) 70010)],[(70010,⟨1,3,Ka (Q11 l7 a5 i2 i6)⟩)]⟩) (by kernel_rfl))) (Id (congrArg (fun k_:Nat=>(⟨[(3,(.vsl 10 k_)),(4,(Z6 i2)),(11,(Z23 a5)),(12,(Z42 a5.length)),(13,(Z6 i2)),(18,(AV.list 1 Ak 0 (a5.getD i2.toNat []) .none)),(19,(.int .i64 ((a5.getD i2.toNat []).length:Int))),(20,(Z6 i6))],[(Z8 10 k_ (Q11 l7 a5 i2 i6) 70010)],[(70010,⟨1,3,Ka (Q11 l7 a5 i2 i6)⟩)]⟩:St)) (show l7.length=(Q11 l7 a5 i2 i6).length from(List.length_set ..).symm)))) ?_;refine Ag hq [3,4,11,12,13,18,19,20] [10,70010] ?_;cases h;exact gN Ct
    ·cases h;exact gO (Br (Ca [3,11,12,13] [10,70010] hq))
   ·clear hx14;refine gA ?_;refine Ag hq [3,11,12,13] [10,70010] ?_;cases h;exact gN Ct
  ·cases h;exact gO (Br (Ca [3] [10,70010] hq))
 ·clear hx16;refine gA ?_;refine Ag hq [2] [10,70010] ?_;refine Nw (⟨[(2,(.vsl 10 x16.length))],[(Z8 10 x16.length x16 70010)],[(70010,⟨1,3,Ka x16⟩)]⟩:St) ?_;obtain rfl:=OI h;exact gK (e:=.ret) (I4 [(10,20000)] (Le.trans (Ie (nm:=10) (sz:=1) (n:=x16.length) (e:=22) (f:=(Kr 1 Ak (0:Int) x16 (Tag.fam 70010))) (g:=(fun i=>Hp (x16.getD i []))) rfl ⟨rfl,trivial⟩ (fun _ _=>rfl) (by rw[hΓ];rfl)) (Ca (st':=⟨[(2,(Z49 x16 10))],[(10,.tok 1 22 x16.length)],[]⟩) [2] [10] hq)))
def F9(a0:Ab):(Int×List (List Int))→Option (LR (Int×List (List Int)) (List (List Int) ⊕ (TGraph×Int))):=
 fun((i3,l4):(Int×List (List Int)))=>(bif (decide (i3<(a0.Blocks.length:Int))) then(Ba (Bb i3 a0.Blocks.length) ((Jw (⟨(a0.Blocks.getD i3.toNat default).End.Kind,(a0.Blocks.getD i3.toNat default).End.Arg,(a0.Blocks.getD i3.toNat default).End.To⟩:Ga) (a0.Blocks.length:Int)).bind fun x7=>(bif (!x7) then(some (.done (.inr ((⟨([]:List (List Int)),([]:List (List Int))⟩:TGraph),(5:Int))))) else((Ww ((a0.Blocks.getD i3.toNat default).End.To)).bind fun x8=>(Ba (Bb i3 l4.length) (some (.next ((w64 (i3+1)),(l4.set i3.toNat x8))))))))) else(some (.done (.inl l4))))
def K_graph_Of(Γ:H0)(a0:Ab)(r:(TGraph×Int)):Exit→St→Prop:=fK Tryz.prog Γ Tryz.f49.results.toList [] (.tuple [(.agg (Iw r.1)),(Z6 r.2)]) []
def Q13:AV:=Z29
def Q14:List (Nat×AV):=[Pd,(3,(.int .i64 (5:Int)))]
def Q17(a0:Ab)(i3:Int):=(a0.Blocks.getD i3.toNat default)
def Q15:AV:=Z59
def Q16(a0:Ab):=(List.replicate (a0.Blocks.length:Int).toNat ([]:List Int))
def Q12:List AV:=[Z35,Z35]
def Og(a0:Ab):Option (TGraph×Int):=
 ((Ii (a0.Blocks.length:Int)).bind fun x1=>(bif (!x1) then(some ((⟨([]:List (List Int)),([]:List (List Int))⟩:TGraph),(5:Int))) else(Ba (0≤(a0.Blocks.length:Int)∧(a0.Blocks.length:Int)≤(a0.Blocks.length:Int)∧(a0.Blocks.length:Int)≤(room:Int)) ((Ah (F9 a0) ((0:Int),(List.replicate (a0.Blocks.length:Int).toNat ([]:List Int)))).bind (fun x10=>(match x10 with|(.inl l5)=>((Jb l5).bind fun x12=>(some ((⟨l5,x12⟩:TGraph),(0:Int))))|(.inr r13)=>(some r13)))))))
theorem ok_graph_Of(a0:Ab)(r:(TGraph×Int))(h:Og a0=some r):Spec Tryz.prog 49 [(.agg (L9 a0))] [] (.tuple [(.agg (Iw r.1)),(.int .i64 r.2)]) []:=by
 refine Ae mix Tryz.func49 (fun Γ hq=>?_);have hΓ:=hq.own;unfold Og at h;refine Ag hq [1,2] [1,2] ?_;refine Ag hq [1,2,4] [1,2] ?_;obtain⟨x1,hx1,h⟩:=bind_some h;refine gR hq [1,2,4,13] [1,2] [] [(Z2 x1)] (c1 (P1 (a0.Blocks.length:Int) x1 hx1)) ?_;refine gC h (fun h=>?_) (fun h=>?_)
 ·refine gR hq [2,3] [2] [(14,(.agg Q12))] [] (c1 (show(AVle (.agg [Q13,Q13]) (.agg Q12)) from(AVle.agg (.cons F7 (.cons F7 .nil))))) ?_;refine Nw (⟨Q14,[(Ly 67 Q12)],[]⟩:St) ?_;cases h;exact gK (e:=.ret) (I4 [] (show Le Γ _ (⟨Q14,[(Z56 Q15)],[]⟩:St) from Le.trans (Ca (st':=⟨Q14,[(Ly 67 Q12)],[]⟩) [2,3] [2] hq) (H3 (.cons (AVle.refl _) (.cons (AVle.refl _) .nil)) (.row (.cons AVle.untag (.cons AVle.untag .nil)) .nil))))
 ·obtain⟨hc2,h⟩:=Aa h;refine gR hq [1,2,4,5] [1,2,16] [] [] (c1 hc2) ?_;refine Kw (Le.trans (Pv 16 (show ∀ k_,k_<((a0.Blocks.length:Int).toNat)→AVleL ((fun i_=>AV.eraseAll (fun n_=>Dl n_ [1,2,16]) ((fun _=>[Q13]) i_)) k_) ((fun i=>Hp ((Q16 a0).getD i [])) k_) from(fun k hk=>M9 (e:=Hp) (d:=[]) (.cons (fun _ _ _ _ _ hh=>AVle.untag _ _ _ _ _ (F7 _ _ _ _ _ hh)) .nil) _ k (Na hk)))) (Ox (fun(k_:Nat) u=>(Dx u [(5,(.vsl 16 k_))] [(16,.arr 1 22 k_ (fun i=>Hp ((Q16 a0).getD i [])))])) (show(a0.Blocks.length:Int).toNat=(Q16 a0).length from(List.length_replicate ..).symm))) ?_;refine Ag hq [2,4,5,18,19,20] [2,16] ?_;obtain⟨x10,hx10,h⟩:=bind_some h;refine gL hq hx10 [2,4,5,18,19,20] [2,16] (fun u (i3,l4)=>(Dx u [(5,(.vsl 16 l4.length)),(20,(Z6 i3))] [(16,.arr 1 22 l4.length (fun i=>Hp (l4.getD i [])))])) (fun u x_=>match x_ with|(.inl l5)=>aG Γ (.exit 0) (Mj [2,5] [2,16] u [(5,(.vsl 16 l5.length))] [(16,.arr 1 22 l5.length (fun i=>Hp (l5.getD i [])))])|(.inr r_)=>aR (K_graph_Of Γ a0 r_)) ?_ ?_
  ·rintro⟨i3,l4⟩ y h;unfold F9 at h;refine Ag hq [2,4,5,18,19,20,21] [2,16] ?_;refine gC h (fun h=>?_) (fun h=>?_)
   ·obtain⟨hc6,h⟩:=Aa h;refine gR hq [2,4,5,6,7,18,19,20] [2,7,16] [] [] (c1 hc6) ?_;obtain⟨x7,hx7,h⟩:=bind_some h;refine gR hq [2,4,5,6,7,18,19,20,29] [2,7,16] [] [(Z2 x7)] (c1 (Xk (⟨(Q17 a0 i3).End.Kind,(Q17 a0 i3).End.Arg,(Q17 a0 i3).End.To⟩:Ga) (a0.Blocks.length:Int) x7 hx7)) ?_;refine gC h (fun h=>?_) (fun h=>?_)
    ·refine gR hq [2,3] [2] [(30,(.agg Q12))] [] (c1 (show(AVle (.agg [Q13,Q13]) (.agg Q12)) from(AVle.agg (.cons F7 (.cons F7 .nil))))) ?_;refine Nw (⟨Q14,[(Ly 67 Q12)],[]⟩:St) ?_;cases h;exact gO (La (I4 [] (show Le Γ _ (⟨Q14,[(Z56 Q15)],[]⟩:St) from Le.trans (Ca (st':=⟨Q14,[(Ly 67 Q12)],[]⟩) [2,3] [2] hq) (H3 (.cons (AVle.refl _) (.cons (AVle.refl _) .nil)) (.row (.cons AVle.untag (.cons AVle.untag .nil)) .nil)))))
    ·obtain⟨x8,hx8,h⟩:=bind_some h;obtain⟨hc9,h⟩:=Aa h;refine gR hq [2,4,5,18,19,20] [2,16] [] [⟨[],[],(Z7 x8),[],[]⟩] (ci (xok_rising ((Q17 a0 i3).End.To) x8 hx8) (ci hc9 (c1 (Eq.refl l4.length)))) ?_;refine Kw (Le.trans (Pv 16 (show ∀ k_,k_<l4.length→AVleL ((fun i_=>AV.eraseAll (fun n_=>Dl n_ [2,16]) ((F6 (fun i=>Hp (l4.getD i [])) i3.toNat 0 [(Z7 x8)]) i_)) k_) ((fun i=>Hp ((l4.set i3.toNat x8).getD i [])) k_) from(Bu (List.length_set ..).symm (fun k_ hk_=>(congrArg (AV.eraseAll (fun n_=>Dl n_ [2,16])) ((Ht (fun _ _=>rfl) (Ix hc9) rfl) k_ hk_)).trans rfl)))) (Ox (fun(k_:Nat) u=>(Dx u [(5,(.vsl 16 k_))] [(16,.arr 1 22 k_ (fun i=>Hp ((l4.set i3.toNat x8).getD i [])))])) (show l4.length=(l4.set i3.toNat x8).length from(List.length_set ..).symm))) ?_;refine Ag hq [2,4,5,18,19,20] [2,16] ?_;cases h;exact gN Ct
   ·cases h;exact gO (Br (Ca [2,5] [2,16] hq))
  ·clear hx10;rcases x10 with l5|r13
   ·refine gA ?_;refine Nw (⟨[Pd,(5,(.vsl 16 l5.length))],[(Z56 Q13),(16,.arr 1 22 l5.length (fun i=>Hp (l5.getD i [])))],[]⟩:St) ?_;refine Kw (Le.trans (Ie (nm:=16) (sz:=1) (n:=l5.length) (e:=22) (f:=(fun i=>Hp (l5.getD i []))) (g:=(fun i=>Hp (l5.getD i []))) rfl ⟨rfl,trivial⟩ (fun _ _=>rfl) (by rw[hΓ];rfl)) (Id (st':=⟨[Pd,(5,(Z49 l5 16))],[(Z56 Q13),(16,.tok 1 22 l5.length)],[]⟩) (by kernel_rfl))) ?_;obtain⟨x12,hx12,h⟩:=bind_some h;refine gR hq [2,3] [2,16,41] [] [⟨[],[(20000,41)],(Z49 x12 20000),[(20000,.tok 1 22 x12.length)],[]⟩] (c1 (Rs l5 x12 hx12)) ?_;cases h;exact C7 []
   ·refine Mr (fun st' hk=>?_);obtain rfl:=OI h;exact gK hk
def Cx(a5:List (List Int))(i2:Int):(Int×Int)→Option (LR (Int×Int) (Unit ⊕ Bool)):=
 fun((i4,i5):(Int×Int))=>(bif (decide (i5<((a5.getD i2.toNat []).length:Int))) then(Ba (Bb i5 (a5.getD i2.toNat []).length) ((bif ((decide ((((a5.getD i2.toNat []).getD i5.toNat 0):Int)≤i4))==false) then Ho ((a5.getD i2.toNat []).getD i5.toNat 0) (a5.length:Int) else some false).bind fun x7=>(bif (bif (decide ((((a5.getD i2.toNat []).getD i5.toNat 0):Int)≤i4)) then true else(!x7)) then(some (.done (.inr false))) else(some (.next (((a5.getD i2.toNat []).getD i5.toNat 0),(w64 (i5+1)))))))) else(some (.done (.inl ()))))
def Cy(a5:List (List Int)):Int→Option (LR Int (Unit ⊕ Bool)):=
 fun(i2:Int)=>(bif (decide (i2<(a5.length:Int))) then(Ba (Bb i2 a5.length) ((Ah (Cx a5 i2) ((-1:Int),(0:Int))).bind (fun x8=>(match x8 with|(.inl _)=>(some (.next (w64 (i2+1))))|(.inr r10)=>(some (.done (.inr r10))))))) else(some (.done (.inl ()))))
def Rk(Γ:H0)(a5:List (List Int))(r:Bool):Exit→St→Prop:=fK Tryz.prog Γ Tryz.f101.results.toList [] (.bool r) []
def Q18(a5:List (List Int))(i2:Int)(i5:Int)(i4:Int):=(decide ((((a5.getD i2.toNat []).getD i5.toNat 0):Int)≤i4))
def Jx(a5:List (List Int)):Option Bool:=
 ((Ii (a5.length:Int)).bind fun x1=>(bif (!x1) then(some false) else((Ah (Cy a5) (0:Int)).bind (fun x11=>(match x11 with|(.inl _)=>(some true)|(.inr r13)=>(some r13))))))
theorem Xl(a5:List (List Int))(r:Bool)(h:Jx a5=some r):Spec Tryz.prog 101 [(AV.list 1 Hp [] a5 .none)] [] (.bool r) []:=by
 refine Ae mix Tryz.func101 (fun Γ hq=>?_);unfold Jx at h;refine Ag hq [0] [] ?_;obtain⟨x1,hx1,h⟩:=bind_some h;refine gR hq [0,11] [] [] [(Z2 x1)] (c1 (P1 (a5.length:Int) x1 hx1)) ?_;refine gC h (fun h=>?_) (fun h=>?_)
 ·refine Ag hq [2] [] ?_;obtain rfl:=OI h;exact C7 []
 ·refine Ag hq [0,12,13,14] [] ?_;obtain⟨x11,hx11,h⟩:=bind_some h;refine gL hq hx11 [0,12,13,14] [] (fun u i2=>(Dx u [(14,(Z6 i2))] [])) (fun u x_=>match x_ with|(.inl _)=>aG Γ (.exit 0) (⟨[],[],[]⟩:St)|(.inr r_)=>aR (Rk Γ a5 r_)) ?_ ?_
  ·intro i2 y h;unfold Cy at h;refine Ag hq [0,12,13,14,15] [] ?_;refine gC h (fun h=>?_) (fun h=>?_)
   ·obtain⟨hc3,h⟩:=Aa h;refine gR hq [0,4,12,13,14] [] [] [] (c1 hc3) ?_;refine Ag hq [0,4,5,12,13,14] [] ?_;refine Ag hq [0,5,12,13,14,18,19,20] [] ?_;obtain⟨x8,hx8,h⟩:=bind_some h;refine gL hq hx8 [0,5,12,13,14,18,19,20] [] (fun u (i4,i5)=>(Dx u [(5,(Z6 i4)),(20,(Z6 i5))] [])) (fun u x_=>match x_ with|(.inl _)=>aG Γ (.exit 2) (Mj [0,12,13,14] [] u [] [])|(.inr r_)=>aR (Rk Γ a5 r_)) ?_ ?_
    ·rintro⟨i4,i5⟩ y h;unfold Cx at h;refine Ag hq [0,5,12,13,14,18,19,20,21] [] ?_;refine gC h (fun h=>?_) (fun h=>?_)
     ·obtain⟨hc6,h⟩:=Aa h;refine gR hq [0,5,7,12,13,14,18,19,20] [] [] [] (c1 hc6) ?_;obtain⟨x7,hx7,h⟩:=bind_some h;refine gR hq [0,7,12,13,14,18,19,20,33] [] [] [(Z2 x7)] (ci (gI ((Q18 a5 i2 i5 i4)==false)) (ci (gI ((Q18 a5 i2 i5 i4)==false)) (ci (gI ((Q18 a5 i2 i5 i4)==false)) (ci (fun(hg:((Q18 a5 i2 i5 i4)==false)=true)=>(M1 ((a5.getD i2.toNat []).getD i5.toNat 0) (a5.length:Int) x7 (Bw hg hx7))) (ci (gI ((Q18 a5 i2 i5 i4)==false)) (c1 (Kb (Q18 a5 i2 i5 i4)))))))) ?_;refine gC h (fun h=>?_) (fun h=>?_)
      ·refine Ag hq [2] [] ?_;cases h;exact gO (La (I4 [] (Le.refl _ _)))
      ·refine Ag hq [0,5,12,13,14,18,19,20] [] ?_;refine Ag hq [0,5,12,13,14,18,19,20] [] ?_;cases h;exact gN Ct
     ·cases h;exact gO (Br (Ca [0,12,13,14] [] hq))
    ·clear hx8;rcases x8 with _|r10
     ·refine gA ?_;refine Ag hq [0,12,13,14] [] ?_;cases h;exact gN Ct
     ·refine Mr (fun st' hk=>?_);cases h;exact gO (La hk)
   ·cases h;exact gO (Br (Ca [] [] hq))
  ·clear hx11;rcases x11 with _|r13
   ·refine gA ?_;refine Ag hq [2] [] ?_;obtain rfl:=OI h;exact C7 []
   ·refine Mr (fun st' hk=>?_);obtain rfl:=OI h;exact gK hk
def Be(aS:List Int)(aU:List Int):Int→Option (LR Int (Unit ⊕ Bool)):=
 fun(i1:Int)=>(bif (decide (i1<(aS.length:Int))) then(Ba (Bb i1 aS.length) (Ba (Bb i1 aU.length) (bif (((aS.getD i1.toNat 0):Int)!=(aU.getD i1.toNat 0)) then(some (.done (.inr false))) else(some (.next (w64 (i1+1))))))) else(some (.done (.inl ()))))
def P9(Γ:H0)(aS:List Int)(aU:List Int)(r:Bool):Exit→St→Prop:=fK Tryz.prog Γ Tryz.f81.results.toList [] (.bool r) []
def E0(aS:List Int)(aU:List Int):Option Bool:=
 (bif (((aS.length:Int):Int)!=(aU.length:Int)) then(some false) else((Ah (Be aS aU) (0:Int)).bind (fun x4=>(match x4 with|(.inl _)=>(some true)|(.inr r6)=>(some r6)))))
theorem L4(aS:List Int)(aU:List Int)(r:Bool)(h:E0 aS aU=some r):Spec Tryz.prog 81 [(AV.list 1 Ak 0 aS .none),(AV.list 1 Ak 0 aU .none)] [] (.bool r) []:=by
 refine Ae mix Tryz.func81 (fun Γ hq=>?_);unfold E0 at h;refine Ag hq [0,1] [] ?_;refine Ag hq [0,1,10] [] ?_;refine gC h (fun h=>?_) (fun h=>?_)
 ·refine Ag hq [4] [] ?_;obtain rfl:=OI h;exact C7 []
 ·refine Ag hq [0,1,12,13] [] ?_;obtain⟨x4,hx4,h⟩:=bind_some h;refine gL hq hx4 [0,1,12,13] [] (fun u i1=>(Dx u [(13,(Z6 i1))] [])) (fun u x_=>match x_ with|(.inl _)=>aG Γ (.exit 0) (⟨[],[],[]⟩:St)|(.inr r_)=>aR (P9 Γ aS aU r_)) ?_ ?_
  ·intro i1 y h;unfold Be at h;refine Ag hq [0,1,12,13,14] [] ?_;refine gC h (fun h=>?_) (fun h=>?_)
   ·refine Ag hq [0,1,5,12,13] [] ?_;obtain⟨hc2,h⟩:=Aa h;obtain⟨hc3,h⟩:=Aa h;refine gR hq [0,1,12,13,24] [] [] [] (ci hc2 (c1 hc3)) ?_;refine gC h (fun h=>?_) (fun h=>?_)
    ·refine Ag hq [4] [] ?_;cases h;exact gO (La (I4 [] (Le.refl _ _)))
    ·refine Ag hq [0,1,12,13] [] ?_;cases h;exact gN Ct
   ·cases h;exact gO (Br (Ca [] [] hq))
  ·clear hx4;rcases x4 with _|r6
   ·refine gA ?_;refine Ag hq [4] [] ?_;obtain rfl:=OI h;exact C7 []
   ·refine Mr (fun st' hk=>?_);obtain rfl:=OI h;exact gK hk
def Ay(aS:List (List Int))(aU:List (List Int)):Int→Option (LR Int (Unit ⊕ Bool)):=
 fun(i1:Int)=>(bif (decide (i1<(aS.length:Int))) then(Ba (Bb i1 aS.length) (Ba (Bb i1 aU.length) ((E0 (aS.getD i1.toNat []) (aU.getD i1.toNat [])).bind fun x4=>(bif (!x4) then(some (.done (.inr false))) else(some (.next (w64 (i1+1)))))))) else(some (.done (.inl ()))))
def Ls(Γ:H0)(aS:List (List Int))(aU:List (List Int))(r:Bool):Exit→St→Prop:=fK Tryz.prog Γ Tryz.f102.results.toList [] (.bool r) []
def Cj(aS:List (List Int))(aU:List (List Int)):Option Bool:=
 (bif (((aS.length:Int):Int)!=(aU.length:Int)) then(some false) else((Ah (Ay aS aU) (0:Int)).bind (fun x5=>(match x5 with|(.inl _)=>(some true)|(.inr r7)=>(some r7)))))
theorem Lp(aS:List (List Int))(aU:List (List Int))(r:Bool)(h:Cj aS aU=some r):Spec Tryz.prog 102 [(AV.list 1 Hp [] aS .none),(AV.list 1 Hp [] aU .none),(.clo 81 [] [])] [] (.bool r) []:=by
 refine Ae mix Tryz.func102 (fun Γ hq=>?_);unfold Cj at h;refine Ag hq [0,1,2] [] ?_;refine Ag hq [0,1,2,14] [] ?_;refine gC h (fun h=>?_) (fun h=>?_)
 ·refine Ag hq [6] [] ?_;obtain rfl:=OI h;exact C7 []
 ·refine Ag hq [1,2,15,16,17] [] ?_;obtain⟨x5,hx5,h⟩:=bind_some h;refine gL hq hx5 [1,2,15,16,17] [] (fun u i1=>(Dx u [(17,(Z6 i1))] [])) (fun u x_=>match x_ with|(.inl _)=>aG Γ (.exit 0) (⟨[],[],[]⟩:St)|(.inr r_)=>aR (Ls Γ aS aU r_)) ?_ ?_
  ·intro i1 y h;unfold Ay at h;refine Ag hq [1,2,15,16,17,18] [] ?_;refine gC h (fun h=>?_) (fun h=>?_)
   ·obtain⟨hc2,h⟩:=Aa h;refine gR hq [1,2,7,8,15,16,17] [] [] [] (c1 hc2) ?_;obtain⟨hc3,h⟩:=Aa h;refine gR hq [1,2,8,9,15,16,17] [] [] [] (c1 hc3) ?_;obtain⟨x4,hx4,h⟩:=bind_some h;refine gR hq [1,2,15,16,17,30] [] [] [(Z2 x4)] (c1 (L4 (aS.getD i1.toNat []) (aU.getD i1.toNat []) x4 hx4)) ?_;refine gC h (fun h=>?_) (fun h=>?_)
    ·refine Ag hq [6] [] ?_;cases h;exact gO (La (I4 [] (Le.refl _ _)))
    ·refine Ag hq [1,2,15,16,17] [] ?_;cases h;exact gN Ct
   ·cases h;exact gO (Br (Ca [] [] hq))
  ·clear hx5;rcases x5 with _|r7
   ·refine gA ?_;refine Ag hq [6] [] ?_;obtain rfl:=OI h;exact C7 []
   ·refine Mr (fun st' hk=>?_);obtain rfl:=OI h;exact gK hk
def Nj(a2:TGraph):Option Bool:=
 ((Jx a2.Succ).bind fun x1=>((bif (x1==true) then Jb a2.Succ else some []).bind fun x2=>((bif (x1==true) then Cj a2.Pred x2 else some false).bind fun x3=>(some (bif x1 then x3 else false)))))
theorem ok_graph_May(a2:TGraph)(r:Bool)(h:Nj a2=some r):Spec Tryz.prog 76 [(.agg (Iw a2))] [] (.bool r) []:=by
 refine Ae mix Tryz.func76 (fun Γ hq=>?_);unfold Nj at h;refine Ag hq [1] [1] ?_;obtain⟨x1,hx1,h⟩:=bind_some h;obtain⟨x2,hx2,h⟩:=bind_some h;obtain⟨x3,hx3,h⟩:=bind_some h;refine gR hq [2] [] [] [(Z2 x1),⟨[],[],(Z23 x2),[],[]⟩,(Z2 x3)] (ci (Xl a2.Succ x1 hx1) (ci (gI (x1==true)) (ci (gI (x1==true)) (ci (gI (x1==true)) (ci (show((x1==true)=true→(Spec Tryz.prog 75 [(Z23 a2.Succ)] [] (Z23 x2) [])) from(fun hg=>(Spec.drop (Rs a2.Succ x2 (Bw hg hx2))))) (ci (gI (x1==true)) (ci (gI (x1==true)) (ci (fun(hg:(x1==true)=true)=>(Lp a2.Pred x2 x3 (Bw hg hx3))) (c1 (L2 x1)))))))))) ?_;cases h;exact C7 []
def A9 :(Int×Int×List Int)→Option (LR (Int×Int×List Int) (List Int)):=
 fun((i1,i2,l3):(Int×Int×List Int))=>(bif (decide (i1<i2)) then(Ba (Bb i2 l3.length) (Ba (Bb i1 l3.length) (Ba (Bb i1 l3.length) (Ba (Bb i2 l3.length) (some (.next ((w64 (i1+1)),(w64 (i2-1)),((l3.set i1.toNat (l3.getD i2.toNat 0)).set i2.toNat (l3.getD i1.toNat 0))))))))) else(some (.done l3)))
def Q19(l3:List Int)(i1:Int)(i2:Int):=((l3.set i1.toNat (l3.getD i2.toNat 0)).set i2.toNat (l3.getD i1.toNat 0))
def D3(aZ:List Int):Option (List Int):=
 ((Ah (S:=(Int×Int×List Int)) (X:=List Int) A9 ((0:Int),(w64 ((aZ.length:Int)-1)),aZ)).bind (fun x9=>(some x9)))
theorem K8(aZ:List Int)(r:List Int)(h:D3 aZ=some r):Spec Tryz.prog 78 [(.vsl 34000 aZ.length)] [(34000,.arr 1 3 aZ.length (fun i=>Ak (aZ.getD i 0)))] (.tuple []) [(34000,.arr 1 3 r.length (fun i=>Ak (r.getD i 0)))]:=by
 refine Ae mix Tryz.func78 (fun Γ hq=>?_);unfold D3 at h;refine Ag hq [0,2,3] [34000] ?_;obtain⟨x9,hx9,h⟩:=bind_some h;refine gL hq hx9 [0,2,3] [34000] (fun u (i1,i2,l3)=>(Dx u [(0,(.vsl 34000 l3.length)),(2,(Z6 i1)),(3,(Z6 i2))] [(Z4 34000 l3)])) (fun u l4=>aG Γ (.exit 0) (⟨[],[(Z4 34000 l4)],[]⟩:St)) ?_ ?_
 ·rintro⟨i1,i2,l3⟩ y h;unfold A9 at h;refine Ag hq [0,2,3,9] [34000] ?_;refine gC h (fun h=>?_) (fun h=>?_)
  ·obtain⟨hc5,h⟩:=Aa h;obtain⟨hc6,h⟩:=Aa h;obtain⟨hc7,h⟩:=Aa h;obtain⟨hc8,h⟩:=Aa h;refine gR hq [0,2,3] [34000] [] [] (ci hc5 (ci (Eq.refl l3.length) (ci hc6 (ci (Eq.refl l3.length) (ci hc7 (ci (Eq.refl l3.length) (ci hc8 (c1 (Eq.refl l3.length))))))))) ?_;refine Kw (Le.trans (Pv 34000 (show ∀ k_,k_<l3.length→AVleL ((fun i_=>AV.eraseAll (fun n_=>Dl n_ [34000]) ((F6 (F6 (fun i=>Ak (l3.getD i 0)) i1.toNat 0 [(.int .i64 (l3.getD i2.toNat 0))]) i2.toNat 0 [(.int .i64 (l3.getD i1.toNat 0))]) i_)) k_) ((fun i=>Ak ((Q19 l3 i1 i2).getD i 0)) k_) from(Bu (Eq.trans (List.length_set ..).symm (List.length_set ..).symm) (fun k_ hk_=>(congrArg (AV.eraseAll (fun n_=>Dl n_ [34000])) ((Ht (Ht (fun _ _=>rfl) (Ix hc7) rfl) (inB_lt1 hc8) rfl) k_ hk_)).trans rfl)))) (Ox (fun(k_:Nat) u=>(Dx u [(0,(.vsl 34000 k_))] [(34000,.arr 1 3 k_ (fun i=>Ak ((Q19 l3 i1 i2).getD i 0)))])) (show l3.length=(Q19 l3 i1 i2).length from(Eq.trans (List.length_set ..).symm (List.length_set ..).symm)))) ?_;refine Ag hq [0,2,3] [34000] ?_;cases h;exact gN Ct
  ·cases h;exact gO (Br (Ca [] [34000] hq))
 ·clear hx9;refine gA' (fun st' hl10=>?_);obtain rfl:=OI h;exact gK (e:=.normal) (I4 [(34000,34000)] hl10)
def Px(a2:TGraph)(a3:Int):List Int→Option (LR (List Int) (List Int ⊕ (List Bool×List Int×List Int))):=
 fun(l9:List Int)=>(Ba (Bb ([a3].getD (w64 (([a3].length:Int)-1)).toNat (0:Int)) 64) (Ba (Bb ([a3].getD (w64 (([a3].length:Int)-1)).toNat (0:Int)) a2.Succ.length) (bif (decide (((l9.getD ([a3].getD (w64 (([a3].length:Int)-1)).toNat (0:Int)).toNat (0:Int)):Int)<((a2.Succ.getD ([a3].getD (w64 (([a3].length:Int)-1)).toNat (0:Int)).toNat []).length:Int))) then(Ba (Bb ([a3].getD (w64 (([a3].length:Int)-1)).toNat (0:Int)) a2.Succ.length) (Ba (Bb ([a3].getD (w64 (([a3].length:Int)-1)).toNat (0:Int)) 64) (Ba (Bb (l9.getD ([a3].getD (w64 (([a3].length:Int)-1)).toNat (0:Int)).toNat (0:Int)) (a2.Succ.getD ([a3].getD (w64 (([a3].length:Int)-1)).toNat (0:Int)).toNat []).length) (Ba (Bb ([a3].getD (w64 (([a3].length:Int)-1)).toNat (0:Int)) 64) (Ba (Bb ([a3].getD (w64 (([a3].length:Int)-1)).toNat (0:Int)) 64) (Ba (Bb ((a2.Succ.getD ([a3].getD (w64 (([a3].length:Int)-1)).toNat (0:Int)).toNat []).getD (l9.getD ([a3].getD (w64 (([a3].length:Int)-1)).toNat (0:Int)).toNat (0:Int)).toNat (0:Int)) 64) (bif (!((Lx 64 false (List.replicate 64 false) a3.toNat true).getD ((a2.Succ.getD ([a3].getD (w64 (([a3].length:Int)-1)).toNat (0:Int)).toNat []).getD (l9.getD ([a3].getD (w64 (([a3].length:Int)-1)).toNat (0:Int)).toNat (0:Int)).toNat (0:Int)).toNat false)) then(Ba (Bb ((a2.Succ.getD ([a3].getD (w64 (([a3].length:Int)-1)).toNat (0:Int)).toNat []).getD (l9.getD ([a3].getD (w64 (([a3].length:Int)-1)).toNat (0:Int)).toNat (0:Int)).toNat (0:Int)) 64) (Ba ([a3].length+([((a2.Succ.getD ([a3].getD (w64 (([a3].length:Int)-1)).toNat (0:Int)).toNat []).getD (l9.getD ([a3].getD (w64 (([a3].length:Int)-1)).toNat (0:Int)).toNat (0:Int)).toNat (0:Int))]:List Int).length≤room) (some (.done (.inr ((Lx 64 false (Lx 64 false (List.replicate 64 false) a3.toNat true) ((a2.Succ.getD ([a3].getD (w64 (([a3].length:Int)-1)).toNat (0:Int)).toNat []).getD (l9.getD ([a3].getD (w64 (([a3].length:Int)-1)).toNat (0:Int)).toNat (0:Int)).toNat (0:Int)).toNat true),(Lx 64 (0:Int) l9 ([a3].getD (w64 (([a3].length:Int)-1)).toNat (0:Int)).toNat (w64 ((l9.getD ([a3].getD (w64 (([a3].length:Int)-1)).toNat (0:Int)).toNat (0:Int))+1))),([a3]++([((a2.Succ.getD ([a3].getD (w64 (([a3].length:Int)-1)).toNat (0:Int)).toNat []).getD (l9.getD ([a3].getD (w64 (([a3].length:Int)-1)).toNat (0:Int)).toNat (0:Int)).toNat (0:Int))]:List Int)))))))) else(some (.next (Lx 64 (0:Int) l9 ([a3].getD (w64 (([a3].length:Int)-1)).toNat (0:Int)).toNat (w64 ((l9.getD ([a3].getD (w64 (([a3].length:Int)-1)).toNat (0:Int)).toNat (0:Int))+1)))))))))))) else(some (.done (.inl l9))))))
def Gz(a2:TGraph)(l1:List Bool)(l3:List Int):List Int→Option (LR (List Int) (List Int ⊕ (List Bool×List Int×List Int))):=
 fun(l32:List Int)=>(Ba (Bb (l3.getD (w64 ((l3.length:Int)-1)).toNat (0:Int)) 64) (Ba (Bb (l3.getD (w64 ((l3.length:Int)-1)).toNat (0:Int)) a2.Succ.length) (bif (decide (((l32.getD (l3.getD (w64 ((l3.length:Int)-1)).toNat (0:Int)).toNat (0:Int)):Int)<((a2.Succ.getD (l3.getD (w64 ((l3.length:Int)-1)).toNat (0:Int)).toNat []).length:Int))) then(Ba (Bb (l3.getD (w64 ((l3.length:Int)-1)).toNat (0:Int)) a2.Succ.length) (Ba (Bb (l3.getD (w64 ((l3.length:Int)-1)).toNat (0:Int)) 64) (Ba (Bb (l32.getD (l3.getD (w64 ((l3.length:Int)-1)).toNat (0:Int)).toNat (0:Int)) (a2.Succ.getD (l3.getD (w64 ((l3.length:Int)-1)).toNat (0:Int)).toNat []).length) (Ba (Bb (l3.getD (w64 ((l3.length:Int)-1)).toNat (0:Int)) 64) (Ba (Bb (l3.getD (w64 ((l3.length:Int)-1)).toNat (0:Int)) 64) (Ba (Bb ((a2.Succ.getD (l3.getD (w64 ((l3.length:Int)-1)).toNat (0:Int)).toNat []).getD (l32.getD (l3.getD (w64 ((l3.length:Int)-1)).toNat (0:Int)).toNat (0:Int)).toNat (0:Int)) 64) (bif (!(l1.getD ((a2.Succ.getD (l3.getD (w64 ((l3.length:Int)-1)).toNat (0:Int)).toNat []).getD (l32.getD (l3.getD (w64 ((l3.length:Int)-1)).toNat (0:Int)).toNat (0:Int)).toNat (0:Int)).toNat false)) then(Ba (Bb ((a2.Succ.getD (l3.getD (w64 ((l3.length:Int)-1)).toNat (0:Int)).toNat []).getD (l32.getD (l3.getD (w64 ((l3.length:Int)-1)).toNat (0:Int)).toNat (0:Int)).toNat (0:Int)) 64) (Ba (l3.length+([((a2.Succ.getD (l3.getD (w64 ((l3.length:Int)-1)).toNat (0:Int)).toNat []).getD (l32.getD (l3.getD (w64 ((l3.length:Int)-1)).toNat (0:Int)).toNat (0:Int)).toNat (0:Int))]:List Int).length≤room) (some (.done (.inr ((Lx 64 false l1 ((a2.Succ.getD (l3.getD (w64 ((l3.length:Int)-1)).toNat (0:Int)).toNat []).getD (l32.getD (l3.getD (w64 ((l3.length:Int)-1)).toNat (0:Int)).toNat (0:Int)).toNat (0:Int)).toNat true),(Lx 64 (0:Int) l32 (l3.getD (w64 ((l3.length:Int)-1)).toNat (0:Int)).toNat (w64 ((l32.getD (l3.getD (w64 ((l3.length:Int)-1)).toNat (0:Int)).toNat (0:Int))+1))),(l3++([((a2.Succ.getD (l3.getD (w64 ((l3.length:Int)-1)).toNat (0:Int)).toNat []).getD (l32.getD (l3.getD (w64 ((l3.length:Int)-1)).toNat (0:Int)).toNat (0:Int)).toNat (0:Int))]:List Int)))))))) else(some (.next (Lx 64 (0:Int) l32 (l3.getD (w64 ((l3.length:Int)-1)).toNat (0:Int)).toNat (w64 ((l32.getD (l3.getD (w64 ((l3.length:Int)-1)).toNat (0:Int)).toNat (0:Int))+1)))))))))))) else(some (.done (.inl l32))))))
def Dk(a2:TGraph):(List Bool×List Int×List Int×List Int)→Option (LR (List Bool×List Int×List Int×List Int) (List Int)):=
 fun(s_:(List Bool×List Int×List Int×List Int))=>match s_ with|(l1,l2,l3,l4)=>(Ba (Bb (w64 ((l3.length:Int)-1)) l3.length) ((Ah (Gz a2 l1 l3) l2).bind (fun x47=>(match x47 with|(.inl l33)=>(Ba (l4.length+([(l3.getD (w64 ((l3.length:Int)-1)).toNat (0:Int))]:List Int).length≤room) (Ba (0≤(w64 ((l3.length:Int)-1))∧0+(w64 ((l3.length:Int)-1)).toNat≤l3.length) (bif (decide (((0:Int):Int)<((l3.take (w64 ((l3.length:Int)-1)).toNat).length:Int))) then(some (.next (l1,l33,(l3.take (w64 ((l3.length:Int)-1)).toNat),(l4++([(l3.getD (w64 ((l3.length:Int)-1)).toNat (0:Int))]:List Int))))) else((D3 (l4++([(l3.getD (w64 ((l3.length:Int)-1)).toNat (0:Int))]:List Int))).bind fun x51=>(Ba ((l4++([(l3.getD (w64 ((l3.length:Int)-1)).toNat (0:Int))]:List Int)).length=x51.length) (some (.done x51)))))))|(.inr (l34,l35,l36))=>(some (.next (l34,l35,l36,l4)))))))
def K_graph_Order(Γ:H0)(a2:TGraph)(a3:Int)(r:List Int):Exit→St→Prop:=fK Tryz.prog Γ Tryz.f50.results.toList [] (Z13 r 20000) [(20000,.tok 1 3 r.length)]
def Q38(l1:List Bool):=(fun i=>eB (l1.getD i false))
def Q21(l3:List Int):=(l3.getD (w64 ((l3.length:Int)-1)).toNat (0:Int))
def Q35(l4:List Int)(l3:List Int):=(l4++([(Q21 l3)]:List Int))
def Q31(l10:List Int):=(fun i=>Ak (l10.getD i 0))
def Q37(l33:List Int):=(fun i=>Ak (l33.getD i 0))
def Q24:=(fun n_=>Dl n_ [2,5,6,25,36007])
def Q27(a3:Int):=(fun i=>Ak ([a3].getD i 0))
def Q20(a3:Int):=([a3].getD (w64 (([a3].length:Int)-1)).toNat (0:Int))
def Q34(a3:Int):=(([]:List Int)++([(Q20 a3)]:List Int))
def Q42(a3:Int):=(fun i=>Ak ((Q34 a3).getD i 0))
def Q41(l4:List Int)(l3:List Int):=(fun i=>Ak ((Q35 l4 l3).getD i 0))
def Q28:AV:=Z16
def Q30:=(fun i=>Ak (([]:List Int).getD i 0))
def Q26(l3:List Int):=(0+(w64 ((l3.length:Int)-1)).toNat)
def Q25(a3:Int):=(0+(w64 (([a3].length:Int)-1)).toNat)
def Q40(a3:Int):=([a3].take (w64 (([a3].length:Int)-1)).toNat)
def Q29:=(fun i=>Ak ((List.replicate 64 (0:Int)).getD i 0))
def Q22(a2:TGraph):List AV:=[(Z23 a2.Succ),(Z23 a2.Pred)]
def Q23(a3:Int):=(fun i=>eB ((Lx 64 false (List.replicate 64 false) a3.toNat true).getD i false))
def Q33(a2:TGraph)(l3:List Int)(l32:List Int):=((a2.Succ.getD (Q21 l3).toNat []).getD (l32.getD (Q21 l3).toNat (0:Int)).toNat (0:Int))
def Q32(a2:TGraph)(a3:Int)(l9:List Int):=((a2.Succ.getD (Q20 a3).toNat []).getD (l9.getD (Q20 a3).toNat (0:Int)).toNat (0:Int))
def Q39:=(Z24:St)
def Q43(a3:Int):List (Nat×AV):=[Pd,Z66,Z60,(7,(.vsl 36007 (Q34 a3).length)),(8,(.vsl 25 (Q25 a3)))]
def Q36(a3:Int)(a2:TGraph):=(⟨[Pd,Z66,Z60,(7,(.vsl 36007 ([]:List Int).length)),(8,(.vsl 25 [a3].length)),(9,(Z6 (Q20 a3)))],[(Ly 67 (Q22 a2)),(Z71 (Q23 a3)),(Z69 Q29),(25,.arr 1 3 ([a3].length) (Q27 a3)),(36007,.arr 1 3 (([]:List Int).length) Q30)],[]⟩:St)
def Hw(a2:TGraph)(a3:Int):Option (List Int):=
 ((Pq (S:=(List Bool×List Int×List Int×List Int)) (X:=List Int) ((Nj a2).bind fun x5=>((bif ((!x5)==false) then Ho a3 (a2.Succ.length:Int) else some false).bind fun x6=>(bif (bif (!x5) then true else(!x6)) then(some (.done ([]:List Int))) else(Ba (Bb a3 64) (Ba (Bb (w64 (([a3].length:Int)-1)) [a3].length) ((Ah (Px a2 a3) (List.replicate 64 (0:Int))).bind (fun x24=>(match x24 with|(.inl l10)=>(Ba (([]:List Int).length+([([a3].getD (w64 (([a3].length:Int)-1)).toNat (0:Int))]:List Int).length≤room) (Ba (0≤(w64 (([a3].length:Int)-1))∧0+(w64 (([a3].length:Int)-1)).toNat≤[a3].length) (bif (decide (((0:Int):Int)<(([a3].take (w64 (([a3].length:Int)-1)).toNat).length:Int))) then(some (.next ((Lx 64 false (List.replicate 64 false) a3.toNat true),l10,([a3].take (w64 (([a3].length:Int)-1)).toNat),(([]:List Int)++([([a3].getD (w64 (([a3].length:Int)-1)).toNat (0:Int))]:List Int))))) else((D3 (([]:List Int)++([([a3].getD (w64 (([a3].length:Int)-1)).toNat (0:Int))]:List Int))).bind fun x28=>(Ba ((([]:List Int)++([([a3].getD (w64 (([a3].length:Int)-1)).toNat (0:Int))]:List Int)).length=x28.length) (some (.done x28)))))))|(.inr (l11,l12,l13))=>(some (.next (l11,l12,l13,([]:List Int)))))))))))) (Dk a2)).bind (fun x54=>(some x54)))
theorem Te(a2:TGraph)(a3:Int)(r:List Int)(h:Hw a2 a3=some r):Spec Tryz.prog 50 [(.agg (Iw a2)),(.int .i64 a3)] [] (AV.list 1 Ak 0 r (.own 20000)) [(20000,.tok 1 3 r.length)]:=by
 refine Ae mix Tryz.func50 (fun Γ hq=>?_);have hΓ:=hq.own;unfold Hw at h;refine gR hq [1,2] [2] [(4,Q28)] [] (c1 (Et 1 Ak (0:Int))) ?_;obtain⟨x54,hx54,h⟩:=bind_some h;refine gS hx54 (fun(s_:(List Bool×List Int×List Int×List Int))=>match s_ with|(l1,l2,l3,l4)=>0) (fun(s_:(List Bool×List Int×List Int×List Int))=>match s_ with|(l1,l2,l3,l4)=>(⟨[Pd,Z66,Z60,(N9 36007 l4.length),(8,(.vsl 25 l3.length))],[(Ly 67 (Q22 a2)),(Z71 (Q38 l1)),(Z55 l2),(Z4 25 l3),(Z4 36007 l4)],[]⟩:St)) (fun r_=>aR (K_graph_Order Γ a2 a3 r_)) ?_ ?_ ?_
 ·clear h hx54;intro y h;obtain⟨x5,hx5,h⟩:=bind_some h;obtain⟨x6,hx6,h⟩:=bind_some h;refine gR hq [1,2,21] [2] [] [(Z2 x5),(Z2 x6)] (ci (ok_graph_May a2 x5 hx5) (ci (gI ((!x5)==false)) (ci (gI ((!x5)==false)) (ci (gI ((!x5)==false)) (ci (gI ((!x5)==false)) (ci (fun(hg:((!x5)==false)=true)=>(M1 a3 (a2.Succ.length:Int) x6 (Bw hg hx6))) (ci (gI ((!x5)==false)) (c1 (Kb (!x5)))))))))) ?_;refine gC h (fun h=>?_) (fun h=>?_)
  ·refine gR hq [4] [] [(4,Q28)] [] (c1 (Et 1 Ak (0:Int))) ?_;refine Nw (⟨[(4,Q28)],[],[]⟩:St) ?_;cases h;exact gJo (La (I4 [(6004,20000)] (show Le Γ _ Q39 from Le.trans (Ca (st':=⟨[(4,Q28)],[],[]⟩) [4] [] hq) (Le.trans (Od (t:=4) (nm:=6004) (sz':=1) Q30 3 rfl rfl (.inl ⟨rfl,rfl⟩) (fun h_=>absurd h_ (by decide))) (Ca (st':=Q39) [4] [6004] hq)))))
  ·refine gR hq [1,2,5] [2,5] [Z66] [] trivial ?_;refine Kw (Pv 5 (show ∀ k_,k_<64→AVleL ((fun i_=>AV.eraseAll (fun n_=>Dl n_ [2,5]) ((fun i=>(((List.replicate 64 [(.bool false)]).flatten).drop (i*1)).take 1) i_)) k_) ((fun i=>eB ((List.replicate 64 false).getD i false)) k_) from(arrE_zero (e:=eB) (d:=false) (z:=[(.bool false)]) rfl rfl rfl))) ?_;refine gR hq [1,2,5,6] [2,5,6] [Z60] [] trivial ?_;refine Kw (Pv 6 (show ∀ k_,k_<64→AVleL ((fun i_=>AV.eraseAll (fun n_=>Dl n_ [2,5,6]) ((fun i=>(((List.replicate 64 [Nd]).flatten).drop (i*1)).take 1) i_)) k_) (Q29 k_) from(arrE_zero (e:=Ak) (d:=(0:Int)) (z:=[Nd]) rfl rfl rfl))) ?_;refine gR hq [1,2,5,6,7] [2,5,6] [(7,Q28)] [] (c1 (Et 1 Ak (0:Int))) ?_;obtain⟨hc7,h⟩:=Aa h;refine gR hq [1,2,5,6,7] [2,5,6] [] [] (ci hc7 (c1 (Eq.refl 64))) ?_;refine Kw (Pv 5 (show ∀ k_,k_<64→AVleL ((fun i_=>AV.eraseAll (fun n_=>Dl n_ [2,5,6]) ((F6 (fun i=>eB ((List.replicate 64 false).getD i false)) a3.toNat 0 [(.bool true)]) i_)) k_) ((Q23 a3) k_) from(Bu rfl (fun k_ hk_=>(congrArg (AV.eraseAll (fun n_=>Dl n_ [2,5,6])) ((P4 (fun _ _=>rfl) (Mb hc7) rfl) k_ hk_)).trans rfl)))) ?_;refine gR hq [2,5,6,7,8] [2,5,6,25] [(25,(.vsl 25 1))] [] trivial ?_;refine Kw (Le.trans (Pv 25 (show ∀ k_,k_<1→AVleL ((fun i_=>AV.eraseAll (fun n_=>Dl n_ [2,5,6,25]) ((fun i_=>([(Z6 a3)].drop (i_*1)).take 1) i_)) k_) ((Q27 a3) k_) from(Bu rfl (pw_snoc (n:=0) pw_nil rfl)))) (Ox (fun(k_:Nat) u=>(Dx u [(8,(.vsl 25 k_))] [(25,.arr 1 3 k_ (Q27 a3))])) (show 1=[a3].length from rfl))) ?_;obtain⟨hc8,h⟩:=Aa h;refine gR hq [2,5,6,7,8,9] [2,5,6,25] [] [] (ci hc8 (c1 (Eq.refl ([a3].length)))) ?_;refine Kw (st':=(Q36 a3 a2)) (Le.trans (Ca (st':=⟨[Pd,Z66,Z60,(7,Q28),(8,(.vsl 25 [a3].length)),(9,(Z6 (Q20 a3)))],[(Ly 67 (Q22 a2)),(Z71 (Q23 a3)),(Z69 Q29),(25,.arr 1 3 ([a3].length) (Q27 a3))],[]⟩) [2,5,6,7,8,9] [2,5,6,25] hq) (Le.trans (le_arr (t:=7) (nm:=36007) (sz':=1) Q30 3 rfl rfl) (Ca (st':=(Q36 a3 a2)) [2,5,6,7,8,9] [2,5,6,25,36007] hq))) ?_;obtain⟨x24,hx24,h⟩:=bind_some h;refine gL hq hx24 [2,5,6,7,8,9] [2,5,6,25,36007] (fun u l9=>(Dx u [] [(Z55 l9)])) (fun u x_=>match x_ with|(.inl l10)=>aG Γ (.exit 0) (Dx u [] [(Z69 (Q31 l10))])|(.inr (l11,l12,l13))=>aG Γ (.goto 0) (Mj [2,5,6,7,8] [2,5,6,25,36007] u [(8,(.vsl 25 l13.length))] [(5,.arr 1 111 64 (fun i=>eB (l11.getD i false))),(Z55 l12),(Z4 25 l13)])) ?_ ?_
   ·intro l9 y h;unfold Px at h;obtain⟨hc14,h⟩:=Aa h;obtain⟨hc15,h⟩:=Aa h;refine gR hq [2,5,6,7,8,9,41] [2,5,6,25,36007] [] [] (ci hc14 (ci (Eq.refl 64) (c1 hc15))) ?_;refine gC h (fun h=>?_) (fun h=>?_)
    ·obtain⟨hc16,h⟩:=Aa h;obtain⟨hc17,h⟩:=Aa h;obtain⟨hc18,h⟩:=Aa h;refine gR hq [2,5,6,7,8,9,10] [2,5,6,25,36007] [] [] (ci hc16 (ci hc17 (ci (Eq.refl 64) (c1 hc18)))) ?_;obtain⟨hc19,h⟩:=Aa h;obtain⟨hc20,h⟩:=Aa h;refine gR hq [2,5,6,7,8,9,10] [2,5,6,25,36007] [] [] (ci hc19 (ci (Eq.refl 64) (ci hc20 (c1 (Eq.refl 64))))) ?_;refine Kw (Pv 6 (show ∀ k_,k_<64→AVleL ((fun i_=>AV.eraseAll Q24 ((F6 (fun i=>Ak (l9.getD i 0)) (Q20 a3).toNat 0 [(.int .i64 (w64 ((l9.getD (Q20 a3).toNat (0:Int))+1)))]) i_)) k_) ((fun i=>Ak ((Lx 64 (0:Int) l9 (Q20 a3).toNat (w64 ((l9.getD (Q20 a3).toNat (0:Int))+1))).getD i 0)) k_) from(Bu rfl (fun k_ hk_=>(congrArg (AV.eraseAll Q24) ((P4 (fun _ _=>rfl) (Mb hc20) rfl) k_ hk_)).trans rfl)))) ?_;obtain⟨hc21,h⟩:=Aa h;refine gR hq [2,5,6,7,8,9,10,60] [2,5,6,25,36007] [] [] (ci hc21 (c1 (Eq.refl 64))) ?_;refine gC h (fun h=>?_) (fun h=>?_)
     ·obtain⟨hc22,h⟩:=Aa h;refine gR hq [2,5,6,7,8,10] [2,5,6,25,36007] [] [] (ci hc22 (c1 (Eq.refl 64))) ?_;refine Kw (Pv 5 (show ∀ k_,k_<64→AVleL ((fun i_=>AV.eraseAll Q24 ((F6 (Q23 a3) (Q32 a2 a3 l9).toNat 0 [(.bool true)]) i_)) k_) ((fun i=>eB ((Lx 64 false (Lx 64 false (List.replicate 64 false) a3.toNat true) (Q32 a2 a3 l9).toNat true).getD i false)) k_) from(Bu rfl (fun k_ hk_=>(congrArg (AV.eraseAll Q24) ((P4 (fun _ _=>rfl) (Mb hc22) rfl) k_ hk_)).trans rfl)))) ?_;obtain⟨hc23,h⟩:=Aa h;refine gR hq [2,5,6,7,8] [2,5,6,25,36007] [(65,(Z20 (Q32 a2 a3 l9)))] [] (ci (B8 1 Ak (0:Int) ([(Q32 a2 a3 l9)]:List Int)) (ci (Eq.refl ([a3].length)) (c1 hc23))) ?_;cases h;exact gO (Br (Le.trans (Le.trans (Pv 25 (show ∀ k_,k_<([a3].length+([(Q32 a2 a3 l9)]:List Int).length)→AVleL ((fun i_=>AV.eraseAll Q24 ((Lh ([a3].length) (Q27 a3) (fun i=>Ak (([(Q32 a2 a3 l9)]:List Int).getD i 0))) i_)) k_) ((fun i=>Ak (([a3]++([(Q32 a2 a3 l9)]:List Int)).getD i 0)) k_) from(Bu (Gi _ _) (fun k_ hk_=>(congrArg (AV.eraseAll Q24) ((Vw (fun _ _=>rfl) (fun _ _=>rfl)) k_ hk_)).trans rfl)))) (Ox (fun(k_:Nat) u=>(Dx u [(8,(.vsl 25 k_))] [(25,.arr 1 3 k_ (fun i=>Ak (([a3]++([(Q32 a2 a3 l9)]:List Int)).getD i 0)))])) (show([a3].length+([(Q32 a2 a3 l9)]:List Int).length)=([a3]++([(Q32 a2 a3 l9)]:List Int)).length from(Gi _ _)))) Ct))
     ·cases h;exact gN (Ca [2,5,6,7,8,9] [2,5,6,25,36007] hq)
    ·cases h;exact gO (Br (Ca [2,5,6,7,8,9] [2,5,6,25,36007] hq))
   ·clear hx24;rcases x24 with l10|⟨l11,l12,l13⟩
    ·refine gA ?_;obtain⟨hc26,h⟩:=Aa h;refine gR hq [2,5,6,7,8] [2,5,6,25,36007] [(69,(Z20 (Q20 a3)))] [] (ci (B8 1 Ak (0:Int) ([(Q20 a3)]:List Int)) (ci (Eq.refl (([]:List Int).length)) (c1 hc26))) ?_;refine Kw (Le.trans (Pv 36007 (show ∀ k_,k_<(([]:List Int).length+([(Q20 a3)]:List Int).length)→AVleL ((fun i_=>AV.eraseAll Q24 ((Lh (([]:List Int).length) Q30 (fun i=>Ak (([(Q20 a3)]:List Int).getD i 0))) i_)) k_) ((Q42 a3) k_) from(Bu (Gi _ _) (fun k_ hk_=>(congrArg (AV.eraseAll Q24) ((Vw (fun _ _=>rfl) (fun _ _=>rfl)) k_ hk_)).trans rfl)))) (Ox (fun(k_:Nat) u=>(Dx u [(N9 36007 k_)] [(36007,.arr 1 3 k_ (Q42 a3))])) (show(([]:List Int).length+([(Q20 a3)]:List Int).length)=(Q34 a3).length from(Gi _ _)))) ?_;obtain⟨hc27,h⟩:=Aa h;refine gR hq [2,5,6,7,8] [2,5,6,25,36007] [] [] (c1 hc27) ?_;refine Nw (⟨[Pd,Z66,Z60,(7,(.vsl 36007 (Q34 a3).length)),(8,(.vsub 25 [a3].length 0 (Q25 a3)))],[(Ly 67 (Q22 a2)),(Z71 (Q23 a3)),(Z69 (Q31 l10)),(25,.arr 1 3 ([a3].length) (Q27 a3)),(36007,.arr 1 3 ((Q34 a3).length) (Q42 a3))],[]⟩:St) ?_;refine Kw (Le.trans (Le.trans (le_trunc (t:=8) (r:=25) (k:=(Q25 a3)) rfl rfl hc27.2 (by kernel_rfl) (.row (by kernel_rfl) (.arr (fun _=>by kernel_rfl) (.arr (fun _=>by kernel_rfl) (.arr (fun _=>by kernel_rfl) (.arr (fun _=>by kernel_rfl) .nil))))) (by rw[hΓ];rfl)) (Id (st':=⟨(Q43 a3),[(Ly 67 (Q22 a2)),(Z71 (Q23 a3)),(Z69 (Q31 l10)),(25,.arr 1 3 (Q25 a3) (Q27 a3)),(36007,.arr 1 3 ((Q34 a3).length) (Q42 a3))],[]⟩) (by kernel_rfl))) (Le.trans (H3 (st':=⟨(Q43 a3),[(Ly 67 (Q22 a2)),(Z71 (Q23 a3)),(Z69 (Q31 l10)),(25,.arr 1 3 (Q25 a3) (fun i=>Ak ((Q40 a3).getD i 0))),(36007,.arr 1 3 ((Q34 a3).length) (Q42 a3))],[]⟩) (TmpsLe.refl _) (.same (.same (.same (.arr (take_le (e:=Ak) (d:=(0:Int))) (.same .nil)))))) (Id (congrArg (fun k_:Nat=>(⟨[Pd,Z66,Z60,(7,(.vsl 36007 (Q34 a3).length)),(8,(.vsl 25 k_))],[(Ly 67 (Q22 a2)),(Z71 (Q23 a3)),(Z69 (Q31 l10)),(25,.arr 1 3 k_ (fun i=>Ak ((Q40 a3).getD i 0))),(36007,.arr 1 3 ((Q34 a3).length) (Q42 a3))],[]⟩:St)) (show(Q25 a3)=(Q40 a3).length from take_len hc27.2))))) ?_;refine Ag hq [2,5,6,7,8,78] [2,5,6,25,36007] ?_;refine gC h (fun h=>?_) (fun h=>?_)
     ·cases h;exact gJn (Ca [2,5,6,7,8] [2,5,6,25,36007] hq)
     ·obtain⟨x28,hx28,h⟩:=bind_some h;obtain⟨hc29,h⟩:=Aa h;refine gR hq [7] [36007] [] [⟨[(36007,34000)],[],(.tuple []),[(Z4 34000 x28)],[]⟩] (c1 (K8 (Q34 a3) x28 hx28)) ?_;refine Kw (Ox (fun(k_:Nat) u=>(Dx u [(N9 36007 k_)] [])) (show(Q34 a3).length=x28.length from hc29)) ?_;refine Ag hq [4] [36007] ?_;refine Nw (⟨[(4,(.vsl 36007 x28.length))],[(Z4 36007 x28)],[]⟩:St) ?_;cases h;exact gJo (La (I4 [(36007,20000)] (Le.trans (Ie (nm:=36007) (sz:=1) (n:=x28.length) (e:=3) (f:=(fun i=>Ak (x28.getD i 0))) (g:=(fun i=>Ak (x28.getD i 0))) rfl ⟨rfl,trivial⟩ (fun _ _=>rfl) (by rw[hΓ];rfl)) (Id (st':=(Z64 x28 36007 x28.length)) (by kernel_rfl)))))
    ·refine gA' (fun st' hl30=>?_);cases h;exact gJn (Le.trans hl30 Ct)
 ·clear h hx54;rintro⟨l1,l2,l3,l4⟩ y h;unfold Dk at h;obtain⟨hc31,h⟩:=Aa h;refine gR hq [2,5,6,7,8,9] [2,5,6,25,36007] [] [] (ci hc31 (c1 (Eq.refl l3.length))) ?_;obtain⟨x47,hx47,h⟩:=bind_some h;refine gL hq hx47 [2,5,6,7,8,9] [2,5,6,25,36007] (fun u l32=>(Dx u [] [(Z55 l32)])) (fun u x_=>match x_ with|(.inl l33)=>aG Γ (.exit 0) (Dx u [] [(Z69 (Q37 l33))])|(.inr (l34,l35,l36))=>aG Γ (.goto 0) (Mj [2,5,6,7,8] [2,5,6,25,36007] u [(8,(.vsl 25 l36.length))] [(5,.arr 1 111 64 (fun i=>eB (l34.getD i false))),(Z55 l35),(Z4 25 l36)])) ?_ ?_
  ·intro l32 y h;unfold Gz at h;obtain⟨hc37,h⟩:=Aa h;obtain⟨hc38,h⟩:=Aa h;refine gR hq [2,5,6,7,8,9,41] [2,5,6,25,36007] [] [] (ci hc37 (ci (Eq.refl 64) (c1 hc38))) ?_;refine gC h (fun h=>?_) (fun h=>?_)
   ·obtain⟨hc39,h⟩:=Aa h;obtain⟨hc40,h⟩:=Aa h;obtain⟨hc41,h⟩:=Aa h;refine gR hq [2,5,6,7,8,9,10] [2,5,6,25,36007] [] [] (ci hc39 (ci hc40 (ci (Eq.refl 64) (c1 hc41)))) ?_;obtain⟨hc42,h⟩:=Aa h;obtain⟨hc43,h⟩:=Aa h;refine gR hq [2,5,6,7,8,9,10] [2,5,6,25,36007] [] [] (ci hc42 (ci (Eq.refl 64) (ci hc43 (c1 (Eq.refl 64))))) ?_;refine Kw (Pv 6 (show ∀ k_,k_<64→AVleL ((fun i_=>AV.eraseAll Q24 ((F6 (fun i=>Ak (l32.getD i 0)) (Q21 l3).toNat 0 [(.int .i64 (w64 ((l32.getD (Q21 l3).toNat (0:Int))+1)))]) i_)) k_) ((fun i=>Ak ((Lx 64 (0:Int) l32 (Q21 l3).toNat (w64 ((l32.getD (Q21 l3).toNat (0:Int))+1))).getD i 0)) k_) from(Bu rfl (fun k_ hk_=>(congrArg (AV.eraseAll Q24) ((P4 (fun _ _=>rfl) (Mb hc43) rfl) k_ hk_)).trans rfl)))) ?_;obtain⟨hc44,h⟩:=Aa h;refine gR hq [2,5,6,7,8,9,10,60] [2,5,6,25,36007] [] [] (ci hc44 (c1 (Eq.refl 64))) ?_;refine gC h (fun h=>?_) (fun h=>?_)
    ·obtain⟨hc45,h⟩:=Aa h;refine gR hq [2,5,6,7,8,10] [2,5,6,25,36007] [] [] (ci hc45 (c1 (Eq.refl 64))) ?_;refine Kw (Pv 5 (show ∀ k_,k_<64→AVleL ((fun i_=>AV.eraseAll Q24 ((F6 (Q38 l1) (Q33 a2 l3 l32).toNat 0 [(.bool true)]) i_)) k_) ((fun i=>eB ((Lx 64 false l1 (Q33 a2 l3 l32).toNat true).getD i false)) k_) from(Bu rfl (fun k_ hk_=>(congrArg (AV.eraseAll Q24) ((P4 (fun _ _=>rfl) (Mb hc45) rfl) k_ hk_)).trans rfl)))) ?_;obtain⟨hc46,h⟩:=Aa h;refine gR hq [2,5,6,7,8] [2,5,6,25,36007] [(65,(Z20 (Q33 a2 l3 l32)))] [] (ci (B8 1 Ak (0:Int) ([(Q33 a2 l3 l32)]:List Int)) (ci (Eq.refl l3.length) (c1 hc46))) ?_;cases h;exact gO (Br (Le.trans (Le.trans (Pv 25 (show ∀ k_,k_<(l3.length+([(Q33 a2 l3 l32)]:List Int).length)→AVleL ((fun i_=>AV.eraseAll Q24 ((Lh l3.length (fun i=>Ak (l3.getD i 0)) (fun i=>Ak (([(Q33 a2 l3 l32)]:List Int).getD i 0))) i_)) k_) ((fun i=>Ak ((l3++([(Q33 a2 l3 l32)]:List Int)).getD i 0)) k_) from(Bu (Gi _ _) (fun k_ hk_=>(congrArg (AV.eraseAll Q24) ((Vw (fun _ _=>rfl) (fun _ _=>rfl)) k_ hk_)).trans rfl)))) (Ox (fun(k_:Nat) u=>(Dx u [(8,(.vsl 25 k_))] [(25,.arr 1 3 k_ (fun i=>Ak ((l3++([(Q33 a2 l3 l32)]:List Int)).getD i 0)))])) (show(l3.length+([(Q33 a2 l3 l32)]:List Int).length)=(l3++([(Q33 a2 l3 l32)]:List Int)).length from(Gi _ _)))) Ct))
    ·cases h;exact gN (Ca [2,5,6,7,8,9] [2,5,6,25,36007] hq)
   ·cases h;exact gO (Br (Ca [2,5,6,7,8,9] [2,5,6,25,36007] hq))
  ·clear hx47;rcases x47 with l33|⟨l34,l35,l36⟩
   ·refine gA ?_;obtain⟨hc49,h⟩:=Aa h;refine gR hq [2,5,6,7,8] [2,5,6,25,36007] [(69,(Z20 (Q21 l3)))] [] (ci (B8 1 Ak (0:Int) ([(Q21 l3)]:List Int)) (ci (Eq.refl l4.length) (c1 hc49))) ?_;refine Kw (Le.trans (Pv 36007 (show ∀ k_,k_<(l4.length+([(Q21 l3)]:List Int).length)→AVleL ((fun i_=>AV.eraseAll Q24 ((Lh l4.length (fun i=>Ak (l4.getD i 0)) (fun i=>Ak (([(Q21 l3)]:List Int).getD i 0))) i_)) k_) ((Q41 l4 l3) k_) from(Bu (Gi _ _) (fun k_ hk_=>(congrArg (AV.eraseAll Q24) ((Vw (fun _ _=>rfl) (fun _ _=>rfl)) k_ hk_)).trans rfl)))) (Ox (fun(k_:Nat) u=>(Dx u [(N9 36007 k_)] [(36007,.arr 1 3 k_ (Q41 l4 l3))])) (show(l4.length+([(Q21 l3)]:List Int).length)=(Q35 l4 l3).length from(Gi _ _)))) ?_;obtain⟨hc50,h⟩:=Aa h;refine gR hq [2,5,6,7,8] [2,5,6,25,36007] [] [] (c1 hc50) ?_;refine Nw (⟨[Pd,Z66,Z60,(7,(.vsl 36007 (Q35 l4 l3).length)),(8,(.vsub 25 l3.length 0 (Q26 l3)))],[(Ly 67 (Q22 a2)),(Z71 (Q38 l1)),(Z69 (Q37 l33)),(Z4 25 l3),(36007,.arr 1 3 ((Q35 l4 l3).length) (Q41 l4 l3))],[]⟩:St) ?_;refine Kw (Le.trans (Le.trans (le_trunc (t:=8) (r:=25) (k:=(Q26 l3)) rfl rfl hc50.2 (by kernel_rfl) (.row (by kernel_rfl) (.arr (fun _=>by kernel_rfl) (.arr (fun _=>by kernel_rfl) (.arr (fun _=>by kernel_rfl) (.arr (fun _=>by kernel_rfl) .nil))))) (by rw[hΓ];rfl)) (Id (st':=⟨[Pd,Z66,Z60,(7,(.vsl 36007 (Q35 l4 l3).length)),(8,(.vsl 25 (Q26 l3)))],[(Ly 67 (Q22 a2)),(Z71 (Q38 l1)),(Z69 (Q37 l33)),(25,.arr 1 3 (Q26 l3) (fun i=>Ak (l3.getD i 0))),(36007,.arr 1 3 ((Q35 l4 l3).length) (Q41 l4 l3))],[]⟩) (by kernel_rfl))) (Le.trans (H3 (st':=⟨[Pd,Z66,Z60,(7,(.vsl 36007 (Q35 l4 l3).length)),(8,(.vsl 25 (Q26 l3)))],[(Ly 67 (Q22 a2)),(Z71 (Q38 l1)),(Z69 (Q37 l33)),(25,.arr 1 3 (Q26 l3) (fun i=>Ak ((l3.take (w64 ((l3.length:Int)-1)).toNat).getD i 0))),(36007,.arr 1 3 ((Q35 l4 l3).length) (Q41 l4 l3))],[]⟩) (TmpsLe.refl _) (.same (.same (.same (.arr (take_le (e:=Ak) (d:=(0:Int))) (.same .nil)))))) (Id (congrArg (fun k_:Nat=>(⟨[Pd,Z66,Z60,(7,(.vsl 36007 (Q35 l4 l3).length)),(8,(.vsl 25 k_))],[(Ly 67 (Q22 a2)),(Z71 (Q38 l1)),(Z69 (Q37 l33)),(25,.arr 1 3 k_ (fun i=>Ak ((l3.take (w64 ((l3.length:Int)-1)).toNat).getD i 0))),(36007,.arr 1 3 ((Q35 l4 l3).length) (Q41 l4 l3))],[]⟩:St)) (show(Q26 l3)=(l3.take (w64 ((l3.length:Int)-1)).toNat).length from take_len hc50.2))))) ?_;refine Ag hq [2,5,6,7,8,78] [2,5,6,25,36007] ?_;refine gC h (fun h=>?_) (fun h=>?_)
    ·cases h;exact gJn (Ca [2,5,6,7,8] [2,5,6,25,36007] hq)
    ·obtain⟨x51,hx51,h⟩:=bind_some h;obtain⟨hc52,h⟩:=Aa h;refine gR hq [7] [36007] [] [⟨[(36007,34000)],[],(.tuple []),[(Z4 34000 x51)],[]⟩] (c1 (K8 (Q35 l4 l3) x51 hx51)) ?_;refine Kw (Ox (fun(k_:Nat) u=>(Dx u [(N9 36007 k_)] [])) (show(Q35 l4 l3).length=x51.length from hc52)) ?_;refine Ag hq [4] [36007] ?_;refine Nw (⟨[(4,(.vsl 36007 x51.length))],[(Z4 36007 x51)],[]⟩:St) ?_;cases h;exact gJo (La (I4 [(36007,20000)] (Le.trans (Ie (nm:=36007) (sz:=1) (n:=x51.length) (e:=3) (f:=(fun i=>Ak (x51.getD i 0))) (g:=(fun i=>Ak (x51.getD i 0))) rfl ⟨rfl,trivial⟩ (fun _ _=>rfl) (by rw[hΓ];rfl)) (Id (st':=(Z64 x51 36007 x51.length)) (by kernel_rfl)))))
   ·refine gA' (fun st' hl53=>?_);cases h;exact gJn (Le.trans hl53 Ct)
 ·clear hx54;refine Mr (fun st' hk=>?_);obtain rfl:=OI h;exact gK hk
def Qn(aJ:Int)(aa0:Int):Option (Int×Int):=
 (some ((Hi ((Hi ((Hi ((Ws .u64 aJ (32:Int))*(Ws .u64 aa0 (32:Int))))+(Ws .u64 (Hi ((Hi ((Ws .u64 aJ (32:Int))*(Oa .and .u64 aa0 (4294967295:Int))))+(Ws .u64 (Hi ((Oa .and .u64 aJ (4294967295:Int))*(Oa .and .u64 aa0 (4294967295:Int)))) (32:Int)))) (32:Int))))+(Ws .u64 (Hi ((Oa .and .u64 (Hi ((Hi ((Ws .u64 aJ (32:Int))*(Oa .and .u64 aa0 (4294967295:Int))))+(Ws .u64 (Hi ((Oa .and .u64 aJ (4294967295:Int))*(Oa .and .u64 aa0 (4294967295:Int)))) (32:Int)))) (4294967295:Int))+(Hi ((Oa .and .u64 aJ (4294967295:Int))*(Ws .u64 aa0 (32:Int)))))) (32:Int)))),(Hi (aJ*aa0))))
theorem ok_bits_Mul64(aJ:Int)(aa0:Int)(r:(Int×Int))(h:Qn aJ aa0=some r):Spec Tryz.prog 114 [(.int .u64 aJ),(.int .u64 aa0)] [] (.tuple [(.int .u64 r.1),(.int .u64 r.2)]) []:=by
 refine Ae mix Tryz.func114 (fun Γ hq=>?_);unfold Qn at h;refine Ag hq [0,1] [] ?_;refine Ag hq [0,1,6] [] ?_;refine gR hq [0,1,6,7] [] [] [] (c1 (show(0≤(32:Int)) from(by decide))) ?_;refine Ag hq [0,1,6,7,8] [] ?_;refine gR hq [0,1,6,7,8,9] [] [] [] (c1 (show(0≤(32:Int)) from(by decide))) ?_;refine Ag hq [0,1,6,7,8,9,10] [] ?_;refine gR hq [0,1,6,7,9,11] [] [] [] (c1 (show(0≤(32:Int)) from(by decide))) ?_;refine Ag hq [0,1,6,7,9,11,12] [] ?_;refine gR hq [0,1,6,7,9,12,13] [] [] [] (c1 (show(0≤(32:Int)) from(by decide))) ?_;refine Ag hq [0,1,7,9,12,13] [] ?_;refine gR hq [0,1,4] [] [] [] (c1 (show(0≤(32:Int)) from(by decide))) ?_;refine Ag hq [4,5] [] ?_;cases h;exact C7 []
def Lv(aJ:Int)(aa0:Int):Option (Int×Int):=
 ((Qn aJ aa0).bind fun x1=>(some (x1.1,x1.2)))
theorem X2(aJ:Int)(aa0:Int)(r:(Int×Int))(h:Lv aJ aa0=some r):Spec Tryz.prog 103 [(.int .u64 aJ),(.int .u64 aa0)] [] (.tuple [(.int .u64 r.1),(.int .u64 r.2)]) []:=by
 refine Ae mix Tryz.func103 (fun Γ hq=>?_);unfold Lv at h;refine Ag hq [0,1] [] ?_;refine gCt false ?_;obtain⟨x1,hx1,h⟩:=bind_some h;refine gR hq [8,9] [] [] [⟨[],[],(.tuple [(.int .u64 x1.1),(.int .u64 x1.2)]),[],[]⟩] (c1 (ok_bits_Mul64 aJ aa0 x1 hx1)) ?_;refine Ag hq [4,5] [] ?_;cases h;exact C7 []
def Ck :(Int×List Int)→Option (LR (Int×List Int) (List Int)):=
 fun((i7,l8):(Int×List Int))=>(bif (decide (i7<(l8.length:Int))) then(Ba (0≤i7∧0+i7.toNat≤l8.length) (Ba (0≤i7∧0+i7.toNat≤l8.length) (some (.next ((w64 (i7+((Nat.min ((0+i7.toNat)-0) (l8.length-(0+i7.toNat))):Int))),(cpL l8 (0+i7.toNat) (Nat.min ((0+i7.toNat)-0) (l8.length-(0+i7.toNat))) (fun i=>l8.getD (0+i) 0))))))) else(some (.done l8)))
def Q44(x3:(Int×Int)):=(List.replicate (w64 x3.2).toNat (0:Int))
def Q46(x3:(Int×Int))(aJ:List Int):=(cpL (Q44 x3) 0 (Nat.min aJ.length ((Q44 x3).length-0)) (fun i=>aJ.getD i 0))
def Q45(l8:List Int)(i7:Int):=(cpL l8 (0+i7.toNat) (Nat.min ((0+i7.toNat)-0) (l8.length-(0+i7.toNat))) (fun i=>l8.getD (0+i) 0))
def F5(aJ:List Int)(aa1:Int):Option (List Int):=
 (Option.bind (α:=Unit) (bif (decide (aa1<0)) then none else(some ())) (fun x1=>(match x1 with|_=>((Lv (Hi (aJ.length:Int)) (Hi aa1)).bind fun x3=>(Option.bind (α:=Unit) (bif (bif (decide (((0:Int):Int)<x3.1)) then true else(decide (((9223372036854775807:Int):Int)<x3.2))) then none else(some ())) (fun x4=>(match x4 with|_=>(Ba (0≤(w64 x3.2)∧(w64 x3.2)≤(w64 x3.2)∧(w64 x3.2)≤(room:Int)) ((Ah (S:=(Int×List Int)) (X:=List Int) Ck (((Nat.min aJ.length ((List.replicate (w64 x3.2).toNat (0:Int)).length-0)):Int),(cpL (List.replicate (w64 x3.2).toNat (0:Int)) 0 (Nat.min aJ.length ((List.replicate (w64 x3.2).toNat (0:Int)).length-0)) (fun i=>aJ.getD i 0)))).bind (fun x12=>(some x12)))))))))))
theorem Pp(aJ:List Int)(aa1:Int)(r:List Int)(h:F5 aJ aa1=some r):Spec Tryz.prog 79 [(AV.list 1 Ak 0 aJ .none),(.int .i64 aa1)] [] (.vsl 20000 r.length) [(20000,.arr 1 3 r.length (fun i=>Ak (r.getD i 0)))]:=by
 refine Ae mix Tryz.func79 (fun Γ hq=>?_);unfold F5 at h;refine gR hq [0,1] [] [(4,Z16)] [] (c1 (Et 1 Ak (0:Int))) ?_;obtain⟨x1,hx1,h⟩:=bind_some h;refine gJ hx1 (fun _=>aG Γ .normal (⟨[(0,(Z7 aJ)),(1,(Z6 aa1))],[],[]⟩:St)) ?_ ?_
 ·clear h hx1;intro y h;refine Ag hq [0,1,10] [] ?_;refine gC h (fun h=>?_) (fun h=>?_)
  ·cases h
  ·cases h;exact gK (Br (Ca [0,1] [] hq))
 ·clear hx1;refine gA ?_;obtain⟨x3,hx3,h⟩:=bind_some h;refine gR hq [0,5,6] [] [] [⟨[],[],(.tuple [(.int .u64 x3.1),(.int .u64 x3.2)]),[],[]⟩] (c1 (X2 (Hi (aJ.length:Int)) (Hi aa1) x3 hx3)) ?_;obtain⟨x4,hx4,h⟩:=bind_some h;refine gJ hx4 (fun _=>aG Γ .normal (⟨[(0,(Z7 aJ)),(6,(.int .u64 x3.2))],[],[]⟩:St)) ?_ ?_
  ·clear h hx4;intro y h;refine gR hq [0,6,26] [] [] [] (ci (gI ((decide (((0:Int):Int)<x3.1))==false)) (c1 (Kb (decide (((0:Int):Int)<x3.1))))) ?_;refine gC h (fun h=>?_) (fun h=>?_)
   ·cases h
   ·cases h;exact gK (Br (Ca [0,6] [] hq))
  ·clear hx4;refine gA ?_;obtain⟨hc6,h⟩:=Aa h;refine gR hq [0,7] [30] [] [] (c1 hc6) ?_;refine Kw (Le.trans (Pv 30 (show ∀ k_,k_<((w64 x3.2).toNat)→AVleL ((fun i_=>AV.eraseAll (fun n_=>Dl n_ [30]) ((fun _=>[Nd]) i_)) k_) ((fun i=>Ak ((Q44 x3).getD i 0)) k_) from(fun k hk=>M9 (e:=Ak) (d:=(0:Int)) (.cons (AVle.refl _) .nil) _ k (Na hk)))) (Ox (fun(k_:Nat) u=>(Dx u [(N9 30 k_)] [(30,.arr 1 3 k_ (fun i=>Ak ((Q44 x3).getD i 0)))])) (show(w64 x3.2).toNat=(Q44 x3).length from(List.length_replicate ..).symm))) ?_;refine gR hq [7,8] [30] [] [] (c1 (Eq.refl ((Q44 x3).length))) ?_;refine Kw (Le.trans (Pv 30 (show ∀ k_,k_<((Q44 x3).length)→AVleL ((fun i_=>AV.eraseAll (fun n_=>Dl n_ [30]) ((cpF (fun i=>Ak ((Q44 x3).getD i 0)) 0 (Nat.min aJ.length ((Q44 x3).length-0)) (fun i=>Ak (aJ.getD i 0))) i_)) k_) ((fun i=>Ak ((Q46 x3 aJ).getD i 0)) k_) from(Bu (H1 ..) (fun k_ hk_=>(congrArg (AV.eraseAll (fun n_=>Dl n_ [30])) ((Y2 (e:=Ak) (d:=(0:Int)) (l:=(Q44 x3)) (s:=(fun i=>aJ.getD i 0)) (fun _ _=>rfl) (fun _ _=>rfl)) k_ hk_)).trans rfl)))) (Ox (fun(k_:Nat) u=>(Dx u [(N9 30 k_)] [(30,.arr 1 3 k_ (fun i=>Ak ((Q46 x3 aJ).getD i 0)))])) (show(Q44 x3).length=(Q46 x3 aJ).length from(H1 ..)))) ?_;obtain⟨x12,hx12,h⟩:=bind_some h;refine gL hq hx12 [7,8] [30] (fun u (i7,l8)=>(Dx u [(N9 30 l8.length),(8,(Z6 i7))] [(Z4 30 l8)])) (fun u l9=>aG Γ (.exit 0) (⟨[(N9 30 l9.length)],[(Z4 30 l9)],[]⟩:St)) ?_ ?_
   ·rintro⟨i7,l8⟩ y h;unfold Ck at h;refine Ag hq [7,8,37] [30] ?_;refine gC h (fun h=>?_) (fun h=>?_)
    ·obtain⟨hc10,h⟩:=Aa h;obtain⟨hc11,h⟩:=Aa h;refine gR hq [7,8] [30] [] [] (ci hc10 (ci hc11 (ci (Eq.refl l8.length) (c1 (Eq.refl l8.length))))) ?_;cases h;exact gN (Le.trans (Le.trans (Pv 30 (show ∀ k_,k_<l8.length→AVleL ((fun i_=>AV.eraseAll (fun n_=>Dl n_ [30]) ((cpF (fun i=>Ak (l8.getD i 0)) (0+i7.toNat) (Nat.min ((0+i7.toNat)-0) (l8.length-(0+i7.toNat))) (fun i=>(fun i=>Ak (l8.getD i 0)) (0+i))) i_)) k_) ((fun i=>Ak ((Q45 l8 i7).getD i 0)) k_) from(Bu (H1 ..) (fun k_ hk_=>(congrArg (AV.eraseAll (fun n_=>Dl n_ [30])) ((Y2 (e:=Ak) (d:=(0:Int)) (l:=l8) (s:=(fun i=>l8.getD (0+i) 0)) (fun _ _=>rfl) (fun _ _=>rfl)) k_ hk_)).trans rfl)))) (Ox (fun(k_:Nat) u=>(Dx u [(N9 30 k_)] [(30,.arr 1 3 k_ (fun i=>Ak ((Q45 l8 i7).getD i 0)))])) (show l8.length=(Q45 l8 i7).length from(H1 ..)))) Ct)
    ·cases h;exact gO (Br (Ca [7] [30] hq))
   ·clear hx12;refine gA ?_;refine Ag hq [4] [30] ?_;obtain rfl:=OI h;exact C7 [(30,20000)]
def My(a6:List Int):(Int×List Bool)→Option (LR (Int×List Bool) (List Bool)):=
 fun((i2,l3):(Int×List Bool))=>(bif (i2 !=-1) then(Ba (Bb i2 l3.length) (Ba (Bb i2 a6.length) (some (.next ((a6.getD i2.toNat 0),(l3.set i2.toNat true)))))) else(some (.done l3)))
def Mz(a6:List Int)(l4:List Bool):Int→Option (LR Int Int):=
 fun(i9:Int)=>(Ba (Bb i9 l4.length) (bif (!(l4.getD i9.toNat false)) then(Ba (Bb i9 a6.length) (some (.next (a6.getD i9.toNat 0)))) else(some (.done i9))))
def Lm(a6:List Int)(aD:Int)(aH:Int):Option (Int×List Int):=
 (Ba (0≤(a6.length:Int)∧(a6.length:Int)≤(a6.length:Int)∧(a6.length:Int)≤(room:Int)) ((Ah (My a6) (aD,(List.replicate (a6.length:Int).toNat false))).bind (fun x7=>((Ah (Mz a6 x7) aH).bind (fun x13=>(some (x13,a6)))))))
theorem ok_dom_meet_v2(a6:List Int)(aD:Int)(aH:Int)(r:(Int×List Int))(h:Lm a6 aD aH=some r):Spec Tryz.prog 104 [(.vsl 34000 a6.length),(.int .i64 aD),(.int .i64 aH)] [(34000,.arr 1 3 a6.length (fun i=>Ak (a6.getD i 0)))] (.int .i64 r.1) [(34000,.arr 1 3 r.2.length (fun i=>Ak (r.2.getD i 0)))]:=by
 refine Ae mix Tryz.func104 (fun Γ hq=>?_);unfold Lm at h;refine Ag hq [0,1,2] [34000] ?_;obtain⟨hc1,h⟩:=Aa h;refine gR hq [0,1,2,7] [11,34000] [] [] (c1 hc1) ?_;refine Kw (Le.trans (Pv 11 (show ∀ k_,k_<((a6.length:Int).toNat)→AVleL ((fun i_=>AV.eraseAll (fun n_=>Dl n_ [11,34000]) ((fun _=>[(.bool false)]) i_)) k_) ((fun i=>eB ((List.replicate (a6.length:Int).toNat false).getD i false)) k_) from(fun k hk=>M9 (e:=eB) (d:=false) (.cons (AVle.refl _) .nil) _ k (Na hk)))) (Ox (fun(k_:Nat) u=>(Dx u [(N9 11 k_)] [(11,.arr 1 4 k_ (fun i=>eB ((List.replicate (a6.length:Int).toNat false).getD i false)))])) (show(a6.length:Int).toNat=(List.replicate (a6.length:Int).toNat false).length from(List.length_replicate ..).symm))) ?_;refine Ag hq [0,2,7,8] [11,34000] ?_;obtain⟨x7,hx7,h⟩:=bind_some h;refine gL hq hx7 [0,2,7,8] [11,34000] (fun u (i2,l3)=>(Dx u [(N9 11 l3.length),(8,(Z6 i2))] [(Z9 11 l3)])) (fun u l4=>aG Γ (.exit 0) (Mj [0,2,7] [11,34000] u [(N9 11 l4.length)] [(Z9 11 l4)])) ?_ ?_
 ·rintro⟨i2,l3⟩ y h;unfold My at h;refine Ag hq [0,2,7,8,14] [11,34000] ?_;refine gC h (fun h=>?_) (fun h=>?_)
  ·obtain⟨hc5,h⟩:=Aa h;refine gR hq [0,2,7,8] [11,34000] [] [] (ci hc5 (c1 (Eq.refl l3.length))) ?_;refine Kw (Le.trans (Pv 11 (show ∀ k_,k_<l3.length→AVleL ((fun i_=>AV.eraseAll (fun n_=>Dl n_ [11,34000]) ((F6 (fun i=>eB (l3.getD i false)) i2.toNat 0 [(.bool true)]) i_)) k_) ((fun i=>eB ((l3.set i2.toNat true).getD i false)) k_) from(Bu (List.length_set ..).symm (fun k_ hk_=>(congrArg (AV.eraseAll (fun n_=>Dl n_ [11,34000])) ((Ht (fun _ _=>rfl) (Ix hc5) rfl) k_ hk_)).trans rfl)))) (Ox (fun(k_:Nat) u=>(Dx u [(N9 11 k_)] [(11,.arr 1 4 k_ (fun i=>eB ((l3.set i2.toNat true).getD i false)))])) (show l3.length=(l3.set i2.toNat true).length from(List.length_set ..).symm))) ?_;obtain⟨hc6,h⟩:=Aa h;refine gR hq [0,2,7,8] [11,34000] [] [] (ci hc6 (c1 (Eq.refl a6.length))) ?_;cases h;exact gN Ct
  ·cases h;exact gO (Br (Ca [0,2,7] [11,34000] hq))
 ·clear hx7;refine gA ?_;obtain⟨x13,hx13,h⟩:=bind_some h;refine gL hq hx13 [0,2,7] [11,34000] (fun u i9=>(Dx u [(2,(Z6 i9))] [])) (fun u i10=>aG Γ (.exit 2) (Mj [2] [34000] u [(2,(Z6 i10))] [])) ?_ ?_
  ·intro i9 y h;unfold Mz at h;obtain⟨hc11,h⟩:=Aa h;refine gR hq [0,2,7,26] [11,34000] [] [] (ci hc11 (c1 (Eq.refl x7.length))) ?_;refine gC h (fun h=>?_) (fun h=>?_)
   ·obtain⟨hc12,h⟩:=Aa h;refine gR hq [0,2,7] [11,34000] [] [] (ci hc12 (c1 (Eq.refl a6.length))) ?_;cases h;exact gN Ct
   ·cases h;exact gO (Br (Ca [2] [34000] hq))
  ·clear hx13;refine gA ?_;refine Ag hq [6] [34000] ?_;cases h;exact C7 [(34000,34000)]
def C9(aC:List Int):(Int×Int×List Int)→Option (LR (Int×Int×List Int) (Int×List Int)):=
 fun((i1,i2,l3):(Int×Int×List Int))=>(bif (decide (i2<(aC.length:Int))) then(Option.bind (α:=(Int×List Int)) (Ba (Bb i2 aC.length) (Ba (Bb (aC.getD i2.toNat 0) l3.length) (bif (((l3.getD (aC.getD i2.toNat 0).toNat (0:Int)):Int)==-2) then(some (i1,l3)) else(bif (i1==-2) then(some ((aC.getD i2.toNat 0),l3)) else((Lm l3 i1 (aC.getD i2.toNat 0)).bind fun x10=>(Ba (l3.length=x10.2.length) (some (x10.1,x10.2)))))))) (fun(i6,l7)=>(some (.next (i6,(w64 (i2+1)),l7))))) else(some (.done (i1,l3))))
def Gy(a6:List Int)(aC:List Int):Option (Int×List Int):=
 ((Ah (C9 aC) ((-2:Int),(0:Int),a6)).bind (fun(i4,l5)=>(some (i4,l5))))
theorem Pa(a6:List Int)(aC:List Int)(r:(Int×List Int))(h:Gy a6 aC=some r):Spec Tryz.prog 80 [(.vsl 34000 a6.length),(AV.list 1 Ak 0 aC .none)] [(34000,.arr 1 3 a6.length (fun i=>Ak (a6.getD i 0)))] (.int .i64 r.1) [(34000,.arr 1 3 r.2.length (fun i=>Ak (r.2.getD i 0)))]:=by
 refine Ae mix Tryz.func80 (fun Γ hq=>?_);unfold Gy at h;refine Ag hq [0,1] [34000] ?_;refine Ag hq [0,1,5] [34000] ?_;refine Ag hq [0,5,8,9,10] [34000] ?_;obtain⟨x14,hx14,h⟩:=bind_some h;refine gL hq hx14 [0,5,8,9,10] [34000] (fun u (i1,i2,l3)=>(Dx u [(0,(.vsl 34000 l3.length)),(5,(Z6 i1)),(10,(Z6 i2))] [(Z4 34000 l3)])) (fun u (i4,l5)=>aG Γ (.exit 0) (⟨[(5,(Z6 i4))],[(Z4 34000 l5)],[]⟩:St)) ?_ ?_
 ·rintro⟨i1,i2,l3⟩ y h;unfold C9 at h;refine Ag hq [0,5,8,9,10,11] [34000] ?_;refine gC h (fun h=>?_) (fun h=>?_)
  ·obtain⟨x12,hx12,h⟩:=bind_some h;refine gJ hx12 (fun(i6,l7)=>aG Γ .normal (⟨[(0,(.vsl 34000 l7.length)),(5,(Z6 i6)),(8,(Z7 aC)),(9,(Z42 aC.length)),(10,(Z6 i2))],[(Z4 34000 l7)],[]⟩:St)) ?_ ?_
   ·clear h hx12;intro y h;obtain⟨hc8,h⟩:=Aa h;refine gR hq [0,5,7,8,9,10] [34000] [] [] (c1 hc8) ?_;obtain⟨hc9,h⟩:=Aa h;refine gR hq [0,5,7,8,9,10,18] [34000] [] [] (ci hc9 (c1 (Eq.refl l3.length))) ?_;refine gC h (fun h=>?_) (fun h=>?_)
    ·cases h;exact gK (Br (Ca [0,5,8,9,10] [34000] hq))
    ·refine Ag hq [0,5,7,8,9,10,24] [34000] ?_;refine gC h (fun h=>?_) (fun h=>?_)
     ·refine Ag hq [0,5,8,9,10] [34000] ?_;cases h;exact gK (Br Ct)
     ·obtain⟨x10,hx10,h⟩:=bind_some h;obtain⟨hc11,h⟩:=Aa h;refine gR hq [0,5,8,9,10] [34000] [] [⟨[(34000,34000)],[],(Z6 x10.1),[(Z4 34000 x10.2)],[]⟩] (c1 (ok_dom_meet_v2 l3 i1 (aC.getD i2.toNat 0) x10 hx10)) ?_;cases h;exact gK (Br (Le.trans (Ox (fun(k_:Nat) u=>(Dx u [(0,(.vsl 34000 k_))] [])) (show l3.length=x10.2.length from hc11)) Ct))
   ·clear hx12;rcases x12 with⟨i6,l7⟩;refine gA ?_;refine Ag hq [0,5,8,9,10] [34000] ?_;cases h;exact gN Ct
  ·cases h;exact gO (Br (Ca [5] [34000] hq))
 ·clear hx14;rcases x14 with⟨i4,l5⟩;refine gA ?_;refine Ag hq [4] [34000] ?_;cases h;exact C7 [(34000,34000)]
def Ep(a2:TGraph)(x3:List Int):(Bool×Int×List Int)→Option (LR (Bool×Int×List Int) (Bool×List Int)):=
 fun((b7,i8,l9):(Bool×Int×List Int))=>(bif (decide (i8<((x3.drop (1:Int).toNat).length:Int))) then(Option.bind (α:=(Bool×List Int)) (Ba (Bb i8 (x3.drop (1:Int).toNat).length) (Ba (Bb ((x3.drop (1:Int).toNat).getD i8.toNat 0) a2.Pred.length) ((Gy l9 (a2.Pred.getD ((x3.drop (1:Int).toNat).getD i8.toNat 0).toNat [])).bind fun x16=>(Ba (l9.length=x16.2.length) (Ba (Bb ((x3.drop (1:Int).toNat).getD i8.toNat 0) x16.2.length) (bif (x16.1 !=(x16.2.getD ((x3.drop (1:Int).toNat).getD i8.toNat 0).toNat (0:Int))) then(Ba (Bb ((x3.drop (1:Int).toNat).getD i8.toNat 0) x16.2.length) (some (true,(x16.2.set ((x3.drop (1:Int).toNat).getD i8.toNat 0).toNat x16.1)))) else(some (b7,x16.2)))))))) (fun(b12,l13)=>(some (.next (b12,(w64 (i8+1)),l13))))) else(some (.done (b7,l9))))
def M8(a2:TGraph)(l1:List Int):(Bool×Int×List Int)→Option (LR (Bool×Int×List Int) (Bool×List Int)):=
 fun((b25,i26,l27):(Bool×Int×List Int))=>(bif (decide (i26<((l1.drop (1:Int).toNat).length:Int))) then(Option.bind (α:=(Bool×List Int)) (Ba (Bb i26 (l1.drop (1:Int).toNat).length) (Ba (Bb ((l1.drop (1:Int).toNat).getD i26.toNat 0) a2.Pred.length) ((Gy l27 (a2.Pred.getD ((l1.drop (1:Int).toNat).getD i26.toNat 0).toNat [])).bind fun x34=>(Ba (l27.length=x34.2.length) (Ba (Bb ((l1.drop (1:Int).toNat).getD i26.toNat 0) x34.2.length) (bif (x34.1 !=(x34.2.getD ((l1.drop (1:Int).toNat).getD i26.toNat 0).toNat (0:Int))) then(Ba (Bb ((l1.drop (1:Int).toNat).getD i26.toNat 0) x34.2.length) (some (true,(x34.2.set ((l1.drop (1:Int).toNat).getD i26.toNat 0).toNat x34.1)))) else(some (b25,x34.2)))))))) (fun(b30,l31)=>(some (.next (b30,(w64 (i26+1)),l31))))) else(some (.done (b25,l27))))
def F8(a2:TGraph):(List Int×List Int)→Option (LR (List Int×List Int) (List Int)):=
 fun(s_:(List Int×List Int))=>match s_ with|(l1,l2)=>(Ba (0≤(1:Int)∧(1:Int)≤(l1.length:Int)) ((Ah (M8 a2 l1) (false,(0:Int),l2)).bind (fun x40=>(match x40 with|(b28,l29)=>(bif b28 then(some (.next (l1,l29))) else(some (.done l29)))))))
def K_dom_Tree(Γ:H0)(a2:TGraph)(aV:Int)(r:List Int):Exit→St→Prop:=fK Tryz.prog Γ Tryz.f51.results.toList [] (Z13 r 20000) [(20000,.tok 1 3 r.length)]
def Q51:=(fun n_=>Dl n_ [2,13,21])
def Q49:List (Nat×AV):=[(4,Z16)]
def Q48(x3:List Int)(i8:Int):=((x3.drop (1:Int).toNat).getD i8.toNat 0)
def Q47(l1:List Int)(i26:Int):=((l1.drop (1:Int).toNat).getD i26.toNat 0)
def Q50(a2:TGraph):List AV:=[(Z23 a2.Succ),(Z23 a2.Pred)]
def Q52:=(Z24:St)
def Mx(a2:TGraph)(aV:Int):Option (List Int):=
 ((Pq (S:=(List Int×List Int)) (X:=List Int) ((Hw a2 aV).bind fun x3=>(bif (((x3.length:Int):Int)==0) then(some (.done ([]:List Int))) else((F5 ([(-2:Int)]:List Int) (a2.Succ.length:Int)).bind fun x4=>(Ba (Bb aV x4.length) (Ba (0≤(1:Int)∧(1:Int)≤(x3.length:Int)) ((Ah (Ep a2 x3) (false,(0:Int),(x4.set aV.toNat (-1:Int)))).bind (fun(b10,l11)=>(bif b10 then(some (.next (x3,l11))) else(some (.done l11)))))))))) (F8 a2)).bind (fun x42=>(some x42)))
theorem ok_dom_Tree(a2:TGraph)(aV:Int)(r:List Int)(h:Mx a2 aV=some r):Spec Tryz.prog 51 [(.agg (Iw a2)),(.int .i64 aV)] [] (AV.list 1 Ak 0 r (.own 20000)) [(20000,.tok 1 3 r.length)]:=by
 refine Ae mix Tryz.func51 (fun Γ hq=>?_);have hΓ:=hq.own;unfold Mx at h;refine gR hq [1,2] [2] Q49 [] (c1 (Et 1 Ak (0:Int))) ?_;obtain⟨x42,hx42,h⟩:=bind_some h;refine gS hx42 (fun(s_:(List Int×List Int))=>match s_ with|(l1,l2)=>0) (fun(s_:(List Int×List Int))=>match s_ with|(l1,l2)=>(⟨[Pd,(5,(Z13 l1 13)),(6,(.vsl 21 l2.length))],[(Ly 67 (Q50 a2)),(13,.tok 1 3 l1.length),(Z4 21 l2)],[]⟩:St)) (fun r_=>aR (K_dom_Tree Γ a2 aV r_)) ?_ ?_ ?_
 ·clear h hx42;intro y h;obtain⟨x3,hx3,h⟩:=bind_some h;refine gR hq [1,2,5] [2,13] [] [(Z38 13 x3 x3.length)] (c1 (Te a2 aV x3 hx3)) ?_;refine Ag hq [1,2,5,16] [2,13] ?_;refine gC h (fun h=>?_) (fun h=>?_)
  ·refine gR hq [4] [] Q49 [] (c1 (Et 1 Ak (0:Int))) ?_;refine Nw (⟨Q49,[],[]⟩:St) ?_;cases h;exact gJo (La (I4 [(6004,20000)] (show Le Γ _ Q52 from Le.trans (Ca (st':=⟨Q49,[],[]⟩) [4] [] hq) (Le.trans (Od (t:=4) (nm:=6004) (sz':=1) (fun i=>Ak (([]:List Int).getD i 0)) 3 rfl rfl (.inl ⟨rfl,rfl⟩) (fun h_=>absurd h_ (by decide))) (Ca (st':=Q52) [4] [6004] hq)))))
  ·obtain⟨x4,hx4,h⟩:=bind_some h;refine gR hq [1,2,5,6] [2,13,21] [(17,(AV.list 1 Ak 0 ([(-2:Int)]:List Int) .exact))] [⟨[],[(20000,21)],(.vsl 20000 x4.length),[(Z4 20000 x4)],[]⟩] (ci (B8 1 Ak (0:Int) ([(-2:Int)]:List Int)) (c1 (Pp ([(-2:Int)]:List Int) (a2.Succ.length:Int) x4 hx4))) ?_;obtain⟨hc5,h⟩:=Aa h;refine gR hq [2,5,6] [2,13,21] [] [] (ci hc5 (c1 (Eq.refl x4.length))) ?_;refine Kw (Le.trans (Pv 21 (show ∀ k_,k_<x4.length→AVleL ((fun i_=>AV.eraseAll Q51 ((F6 (fun i=>Ak (x4.getD i 0)) aV.toNat 0 [(.int .i64 (-1:Int))]) i_)) k_) ((fun i=>Ak ((x4.set aV.toNat (-1:Int)).getD i 0)) k_) from(Bu (List.length_set ..).symm (fun k_ hk_=>(congrArg (AV.eraseAll Q51) ((Ht (fun _ _=>rfl) (Ix hc5) rfl) k_ hk_)).trans rfl)))) (Ox (fun(k_:Nat) u=>(Dx u [(6,(.vsl 21 k_))] [(21,.arr 1 3 k_ (fun i=>Ak ((x4.set aV.toNat (-1:Int)).getD i 0)))])) (show x4.length=(x4.set aV.toNat (-1:Int)).length from(List.length_set ..).symm))) ?_;refine Ag hq [2,5,6,7] [2,13,21] ?_;obtain⟨hc6,h⟩:=Aa h;refine gR hq [2,5,6,7,26,27,28] [2,13,21] [(26,(AV.list 1 Ak 0 (x3.drop (1:Int).toNat) .none))] [] (ci hc6 (c1 (show(AVle (.slice 1 (x3.length-(1:Int).toNat) (fun i=>Ak (x3.getD ((1:Int).toNat+i) 0)) .none) (AV.list 1 Ak 0 (x3.drop (1:Int).toNat) .none)) from av_drop))) ?_;obtain⟨x22,hx22,h⟩:=bind_some h;refine gL hq hx22 [2,5,6,7,26,27,28] [2,13,21] (fun u (b7,i8,l9)=>(Dx u [(6,(.vsl 21 l9.length)),(7,(.bool b7)),(28,(Z6 i8))] [(Z4 21 l9)])) (fun u (b10,l11)=>aG Γ (.exit 0) (Mj [2,5,6,7] [2,13,21] u [(6,(.vsl 21 l11.length)),(7,(.bool b10))] [(Z4 21 l11)])) ?_ ?_
   ·rintro⟨b7,i8,l9⟩ y h;unfold Ep at h;refine Ag hq [2,5,6,7,26,27,28,29] [2,13,21] ?_;refine gC h (fun h=>?_) (fun h=>?_)
    ·obtain⟨x20,hx20,h⟩:=bind_some h;refine gJ hx20 (fun(b12,l13)=>aG Γ .normal (⟨[Pd,(5,(Z13 x3 13)),(6,(.vsl 21 l13.length)),(7,(.bool b12)),(26,(AV.list 1 Ak 0 (x3.drop (1:Int).toNat) .none)),(27,(.int .i64 ((x3.drop (1:Int).toNat).length:Int))),(28,(Z6 i8))],[(Ly 67 (Q50 a2)),(13,.tok 1 3 x3.length),(Z4 21 l13)],[]⟩:St)) ?_ ?_
     ·clear h hx20;intro y h;obtain⟨hc14,h⟩:=Aa h;refine gR hq [2,5,6,7,9,26,27,28] [2,13,21] [] [] (c1 hc14) ?_;obtain⟨hc15,h⟩:=Aa h;obtain⟨x16,hx16,h⟩:=bind_some h;obtain⟨hc17,h⟩:=Aa h;refine gR hq [2,5,6,7,9,10,26,27,28] [2,13,21] [] [⟨[(21,34000)],[],(Z6 x16.1),[(Z4 34000 x16.2)],[]⟩] (ci hc15 (c1 (Pa l9 (a2.Pred.getD (Q48 x3 i8).toNat []) x16 hx16))) ?_;refine Kw (Ox (fun(k_:Nat) u=>(Dx u [(6,(.vsl 21 k_))] [])) (show l9.length=x16.2.length from hc17)) ?_;obtain⟨hc18,h⟩:=Aa h;refine gR hq [2,5,6,7,9,10,26,27,28,44] [2,13,21] [] [] (ci hc18 (c1 (Eq.refl x16.2.length))) ?_;refine gC h (fun h=>?_) (fun h=>?_)
      ·obtain⟨hc19,h⟩:=Aa h;refine gR hq [2,5,6,7,26,27,28] [2,13,21] [] [] (ci hc19 (c1 (Eq.refl x16.2.length))) ?_;cases h;exact gK (Br (Le.trans (Le.trans (Pv 21 (show ∀ k_,k_<x16.2.length→AVleL ((fun i_=>AV.eraseAll Q51 ((F6 (fun i=>Ak (x16.2.getD i 0)) (Q48 x3 i8).toNat 0 [(Z6 x16.1)]) i_)) k_) ((fun i=>Ak ((x16.2.set (Q48 x3 i8).toNat x16.1).getD i 0)) k_) from(Bu (List.length_set ..).symm (fun k_ hk_=>(congrArg (AV.eraseAll Q51) ((Ht (fun _ _=>rfl) (Ix hc19) rfl) k_ hk_)).trans rfl)))) (Ox (fun(k_:Nat) u=>(Dx u [(6,(.vsl 21 k_))] [(21,.arr 1 3 k_ (fun i=>Ak ((x16.2.set (Q48 x3 i8).toNat x16.1).getD i 0)))])) (show x16.2.length=(x16.2.set (Q48 x3 i8).toNat x16.1).length from(List.length_set ..).symm))) Ct))
      ·cases h;exact gK (Br (Ca [2,5,6,7,26,27,28] [2,13,21] hq))
     ·clear hx20;rcases x20 with⟨b12,l13⟩;refine gA ?_;refine Ag hq [2,5,6,7,26,27,28] [2,13,21] ?_;cases h;exact gN Ct
    ·cases h;exact gO (Br (Ca [2,5,6,7] [2,13,21] hq))
   ·clear hx22;rcases x22 with⟨b10,l11⟩;refine gA ?_;refine Ag hq [2,5,6,50] [2,13,21] ?_;refine gC h (fun h=>?_) (fun h=>?_)
    ·cases h;exact gJn (Ca [2,5,6] [2,13,21] hq)
    ·refine Ag hq [4] [21] ?_;refine Nw (⟨[(4,(.vsl 21 l11.length))],[(Z4 21 l11)],[]⟩:St) ?_;cases h;exact gJo (La (I4 [(21,20000)] (Le.trans (Ie (nm:=21) (sz:=1) (n:=l11.length) (e:=3) (f:=(fun i=>Ak (l11.getD i 0))) (g:=(fun i=>Ak (l11.getD i 0))) rfl ⟨rfl,trivial⟩ (fun _ _=>rfl) (by rw[hΓ];rfl)) (Id (st':=(Z64 l11 21 l11.length)) (by kernel_rfl)))))
 ·clear h hx42;rintro⟨l1,l2⟩ y h;unfold F8 at h;refine Ag hq [2,5,6,7] [2,13,21] ?_;obtain⟨hc24,h⟩:=Aa h;refine gR hq [2,5,6,7,26,27,28] [2,13,21] [(26,(AV.list 1 Ak 0 (l1.drop (1:Int).toNat) .none))] [] (ci hc24 (c1 (show(AVle (.slice 1 (l1.length-(1:Int).toNat) (fun i=>Ak (l1.getD ((1:Int).toNat+i) 0)) .none) (AV.list 1 Ak 0 (l1.drop (1:Int).toNat) .none)) from av_drop))) ?_;obtain⟨x40,hx40,h⟩:=bind_some h;refine gL hq hx40 [2,5,6,7,26,27,28] [2,13,21] (fun u (b25,i26,l27)=>(Dx u [(6,(.vsl 21 l27.length)),(7,(.bool b25)),(28,(Z6 i26))] [(Z4 21 l27)])) (fun u (b28,l29)=>aG Γ (.exit 0) (Mj [2,5,6,7] [2,13,21] u [(6,(.vsl 21 l29.length)),(7,(.bool b28))] [(Z4 21 l29)])) ?_ ?_
  ·rintro⟨b25,i26,l27⟩ y h;unfold M8 at h;refine Ag hq [2,5,6,7,26,27,28,29] [2,13,21] ?_;refine gC h (fun h=>?_) (fun h=>?_)
   ·obtain⟨x38,hx38,h⟩:=bind_some h;refine gJ hx38 (fun(b30,l31)=>aG Γ .normal (⟨[Pd,(5,(Z13 l1 13)),(6,(.vsl 21 l31.length)),(7,(.bool b30)),(26,(AV.list 1 Ak 0 (l1.drop (1:Int).toNat) .none)),(27,(.int .i64 ((l1.drop (1:Int).toNat).length:Int))),(28,(Z6 i26))],[(Ly 67 (Q50 a2)),(13,.tok 1 3 l1.length),(Z4 21 l31)],[]⟩:St)) ?_ ?_
    ·clear h hx38;intro y h;obtain⟨hc32,h⟩:=Aa h;refine gR hq [2,5,6,7,9,26,27,28] [2,13,21] [] [] (c1 hc32) ?_;obtain⟨hc33,h⟩:=Aa h;obtain⟨x34,hx34,h⟩:=bind_some h;obtain⟨hc35,h⟩:=Aa h;refine gR hq [2,5,6,7,9,10,26,27,28] [2,13,21] [] [⟨[(21,34000)],[],(Z6 x34.1),[(Z4 34000 x34.2)],[]⟩] (ci hc33 (c1 (Pa l27 (a2.Pred.getD (Q47 l1 i26).toNat []) x34 hx34))) ?_;refine Kw (Ox (fun(k_:Nat) u=>(Dx u [(6,(.vsl 21 k_))] [])) (show l27.length=x34.2.length from hc35)) ?_;obtain⟨hc36,h⟩:=Aa h;refine gR hq [2,5,6,7,9,10,26,27,28,44] [2,13,21] [] [] (ci hc36 (c1 (Eq.refl x34.2.length))) ?_;refine gC h (fun h=>?_) (fun h=>?_)
     ·obtain⟨hc37,h⟩:=Aa h;refine gR hq [2,5,6,7,26,27,28] [2,13,21] [] [] (ci hc37 (c1 (Eq.refl x34.2.length))) ?_;cases h;exact gK (Br (Le.trans (Le.trans (Pv 21 (show ∀ k_,k_<x34.2.length→AVleL ((fun i_=>AV.eraseAll Q51 ((F6 (fun i=>Ak (x34.2.getD i 0)) (Q47 l1 i26).toNat 0 [(Z6 x34.1)]) i_)) k_) ((fun i=>Ak ((x34.2.set (Q47 l1 i26).toNat x34.1).getD i 0)) k_) from(Bu (List.length_set ..).symm (fun k_ hk_=>(congrArg (AV.eraseAll Q51) ((Ht (fun _ _=>rfl) (Ix hc37) rfl) k_ hk_)).trans rfl)))) (Ox (fun(k_:Nat) u=>(Dx u [(6,(.vsl 21 k_))] [(21,.arr 1 3 k_ (fun i=>Ak ((x34.2.set (Q47 l1 i26).toNat x34.1).getD i 0)))])) (show x34.2.length=(x34.2.set (Q47 l1 i26).toNat x34.1).length from(List.length_set ..).symm))) Ct))
     ·cases h;exact gK (Br (Ca [2,5,6,7,26,27,28] [2,13,21] hq))
    ·clear hx38;rcases x38 with⟨b30,l31⟩;refine gA ?_;refine Ag hq [2,5,6,7,26,27,28] [2,13,21] ?_;cases h;exact gN Ct
   ·cases h;exact gO (Br (Ca [2,5,6,7] [2,13,21] hq))
  ·clear hx40;rcases x40 with⟨b28,l29⟩;refine gA ?_;refine Ag hq [2,5,6,50] [2,13,21] ?_;refine gC h (fun h=>?_) (fun h=>?_)
   ·cases h;exact gJn (Ca [2,5,6] [2,13,21] hq)
   ·refine Ag hq [4] [21] ?_;refine Nw (⟨[(4,(.vsl 21 l29.length))],[(Z4 21 l29)],[]⟩:St) ?_;cases h;exact gJo (La (I4 [(21,20000)] (Le.trans (Ie (nm:=21) (sz:=1) (n:=l29.length) (e:=3) (f:=(fun i=>Ak (l29.getD i 0))) (g:=(fun i=>Ak (l29.getD i 0))) rfl ⟨rfl,trivial⟩ (fun _ _=>rfl) (by rw[hΓ];rfl)) (Id (st':=(Z64 l29 21 l29.length)) (by kernel_rfl)))))
 ·clear hx42;refine Mr (fun st' hk=>?_);obtain rfl:=OI h;exact gK hk
def H7(aa3:List Er)(aa6:List Int):Int→Option (LR Int (Unit ⊕ Bool)):=
 fun(i1:Int)=>(bif (decide (i1<(aa3.length:Int))) then(Ba (Bb i1 aa3.length) ((E0 ((aa3.getD i1.toNat default).From) aa6).bind fun x3=>(bif (bif (!x3) then true else(((((aa3.getD i1.toNat default).Args).length:Int):Int)!=(aa6.length:Int))) then(some (.done (.inr false))) else(some (.next (w64 (i1+1))))))) else(some (.done (.inl ()))))
def Yk(Γ:H0)(aa3:List Er)(aa6:List Int)(r:Bool):Exit→St→Prop:=fK Tryz.prog Γ Tryz.f52.results.toList [] (.bool r) []
def Jv(aa3:List Er)(aa6:List Int):Option Bool:=
 ((Ah (H7 aa3 aa6) (0:Int)).bind (fun x4=>(match x4 with|(.inl _)=>(some true)|(.inr r6)=>(some r6))))
theorem Xh(aa3:List Er)(aa6:List Int)(r:Bool)(h:Jv aa3 aa6=some r):Spec Tryz.prog 52 [(AV.list 4 Sz default aa3 .none),(AV.list 1 Ak 0 aa6 .none)] [] (.bool r) []:=by
 refine Ae mix Tryz.func52 (fun Γ hq=>?_);unfold Jv at h;refine Ag hq [0,1] [] ?_;refine Ag hq [1,7,8,9] [] ?_;obtain⟨x4,hx4,h⟩:=bind_some h;refine gL hq hx4 [1,7,8,9] [] (fun u i1=>(Dx u [(9,(Z6 i1))] [])) (fun u x_=>match x_ with|(.inl _)=>aG Γ (.exit 0) (⟨[],[],[]⟩:St)|(.inr r_)=>aR (Yk Γ aa3 aa6 r_)) ?_ ?_
 ·intro i1 y h;unfold H7 at h;refine Ag hq [1,7,8,9,10] [] ?_;refine gC h (fun h=>?_) (fun h=>?_)
  ·obtain⟨hc2,h⟩:=Aa h;refine gR hq [1,6,7,8,9] [6] [] [] (c1 hc2) ?_;obtain⟨x3,hx3,h⟩:=bind_some h;refine gR hq [1,7,8,9,25] [] [] [(Z2 x3)] (ci (L4 ((aa3.getD i1.toNat default).From) aa6 x3 hx3) (ci (gI ((!x3)==false)) (ci (gI ((!x3)==false)) (ci (gI ((!x3)==false)) (ci (gI ((!x3)==false)) (ci (gI ((!x3)==false)) (c1 (Kb (!x3))))))))) ?_;refine gC h (fun h=>?_) (fun h=>?_)
   ·refine Ag hq [4] [] ?_;cases h;exact gO (La (I4 [] (Le.refl _ _)))
   ·refine Ag hq [1,7,8,9] [] ?_;cases h;exact gN Ct
  ·cases h;exact gO (Br (Ca [] [] hq))
 ·clear hx4;rcases x4 with _|r6
  ·refine gA ?_;refine Ag hq [4] [] ?_;obtain rfl:=OI h;exact C7 []
  ·refine Mr (fun st' hk=>?_);obtain rfl:=OI h;exact gK hk
def Q53(aI:Ga):=(bif (aI.Kind==0) then true else(aI.Kind==2))
def Ih(aI:Ga):Option Bool:=
 (some (bif (bif (aI.Kind==0) then true else(aI.Kind==2)) then true else(aI.Arg==0)))
theorem Xg(aI:Ga)(r:Bool)(h:Ih aI=some r):Spec Tryz.prog 53 [(.agg (eTEnd aI))] [] (.bool r) []:=by
 refine Ae mix Tryz.func53 (fun Γ hq=>?_);unfold Ih at h;refine Ag hq [1] [1] ?_;refine gR hq [2] [] [] [] (ci (gI ((aI.Kind==0)==false)) (ci (gI ((aI.Kind==0)==false)) (ci (Kb (aI.Kind==0)) (ci (gI ((Q53 aI)==false)) (ci (gI ((Q53 aI)==false)) (c1 (Kb (Q53 aI)))))))) ?_;cases h;exact C7 []
def Cr(a4:Ab)(aA:Int)(a7:List An)(x1:(TGraph×Int))(x3:List Int):Int→Option (LR Int (Unit ⊕ (Int×Ab×Int×List Int×List An))):=
 fun(i4:Int)=>(bif (decide (i4<(a4.Blocks.length:Int))) then(Ba (Bb i4 a4.Blocks.length) (Ba (Bb i4 x1.1.Pred.length) ((Jv ((a4.Blocks.getD i4.toNat default).Phis) (x1.1.Pred.getD i4.toNat [])).bind fun x7=>((bif ((!x7)==false) then Ih (⟨(a4.Blocks.getD i4.toNat default).End.Kind,(a4.Blocks.getD i4.toNat default).End.Arg,(a4.Blocks.getD i4.toNat default).End.To⟩:Ga) else some false).bind fun x8=>(bif (bif (!x7) then true else(!x8)) then(some (.done (.inr ((5:Int),a4,aA,x3,a7)))) else(some (.next (w64 (i4+1))))))))) else(some (.done (.inl ()))))
def P8(Γ:H0)(a4:Ab)(aA:Int)(aB:List Int)(a7:List An)(r:(Int×Ab×Int×List Int×List An)):Exit→St→Prop:=fK Tryz.prog Γ Tryz.f31.results.toList (Z3 a4.Params a4.Ret a4.Blocks aA aB a7 a7.length) (Z6 r.1) (Z3 r.2.1.Params r.2.1.Ret r.2.1.Blocks r.2.2.1 r.2.2.2.1 r.2.2.2.2 r.2.2.2.2.length)
def Q56(x1:(TGraph×Int)):=((x1.2 !=0)==false)
def Q55(x3:List Int)(a4:Ab)(aA:Int)(a7:List An):List (Nat×Own):=[(31,.tok 1 3 x3.length),(30000,.row 59 [(Z7 a4.Params),(Z6 a4.Ret),(Z21 a4.Blocks),(Z6 aA),(Z7 x3),.nilm,(AV.list 5 C6 default a7 (.own 37006))]),(Nv 37006 104 a7.length)]
def Q54(x3:List Int)(a4:Ab)(aA:Int)(a7:List An):List (Nat×Own):=[(31,.tok 1 3 x3.length),(30000,.row 59 [(Z7 a4.Params),(Z6 a4.Ret),(Z21 a4.Blocks),(Z6 aA),(Z13 x3 31),.nilm,(AV.list 5 C6 default a7 (.own 37006))]),(Nv 37006 104 a7.length)]
def Gc(a4:Ab)(aA:Int)(aB:List Int)(a7:List An):Option (Int×Ab×Int×List Int×List An):=
 ((Og a4).bind fun x1=>((bif ((x1.2 !=0)==false) then Hw x1.1 (0:Int) else some []).bind fun x2=>(bif (bif (x1.2 !=0) then true else(decide (((x2.length:Int):Int)<(a4.Blocks.length:Int)))) then(some ((5:Int),a4,aA,aB,a7)) else((Mx x1.1 (0:Int)).bind fun x3=>((Ah (Cr a4 aA a7 x1 x3) (0:Int)).bind (fun x9=>(match x9 with|(.inl _)=>(some ((0:Int),a4,aA,x3,a7))|(.inr r11)=>(some r11))))))))
theorem P0(a4:Ab)(aA:Int)(aB:List Int)(a7:List An)(r:(Int×Ab×Int×List Int×List An))(h:Gc a4 aA aB a7=some r):Spec Tryz.prog 31 [(.ptr 30000 0)] [(30000,.row 59 [(AV.list 1 Ak 0 a4.Params .none),(.int .i64 a4.Ret),(AV.list 5 A2 default a4.Blocks .none),(.int .i64 aA),(AV.list 1 Ak 0 aB .none),.nilm,(AV.list 5 C6 default a7 (.own 37006))]),(37006,.tok 5 104 a7.length)] (.int .i64 r.1) [(30000,.row 59 [(AV.list 1 Ak 0 r.2.1.Params .none),(.int .i64 r.2.1.Ret),(AV.list 5 A2 default r.2.1.Blocks .none),(.int .i64 r.2.2.1),(AV.list 1 Ak 0 r.2.2.2.1 .none),.nilm,(AV.list 5 C6 default r.2.2.2.2 (.own 37006))]),(37006,.tok 5 104 r.2.2.2.2.length)]:=by
 refine Ae mix Tryz.func31 (fun Γ hq=>?_);unfold Gc at h;refine Ag hq [0] [30000,37006] ?_;obtain⟨x1,hx1,h⟩:=bind_some h;refine gR hq [0,3,4] [3,30000,37006] [] [(Z43 x1.1 x1.2)] (c1 (ok_graph_Of a4 x1 hx1)) ?_;obtain⟨x2,hx2,h⟩:=bind_some h;refine gR hq [0,3,28] [3,30000,37006] [] [⟨[],[],(Z7 x2),[],[]⟩] (ci (gI (Q56 x1)) (ci (show((Q56 x1)=true→(Spec Tryz.prog 50 [(.agg (Iw x1.1)),Nd] [] (Z7 x2) [])) from(fun hg=>(Spec.drop (Te x1.1 (0:Int) x2 (Bw hg hx2))))) (ci (gI (Q56 x1)) (ci (gI (Q56 x1)) (ci (gI (Q56 x1)) (ci (gI (Q56 x1)) (ci (gI (Q56 x1)) (ci (gI (Q56 x1)) (ci (gI (Q56 x1)) (ci (gI (Q56 x1)) (c1 (Kb (x1.2 !=0))))))))))))) ?_;refine gC h (fun h=>?_) (fun h=>?_)
 ·refine Ag hq [2] [30000,37006] ?_;cases h;exact C7 [(30000,30000),(37006,37006)]
 ·obtain⟨x3,hx3,h⟩:=bind_some h;refine gR hq [0,3] [3,31,30000,37006] [] [(Z38 31 x3 x3.length)] (c1 (ok_dom_Tree x1.1 (0:Int) x3 hx3)) ?_;refine Ag hq [3,38,39,40] [3,31,30000,37006] ?_;obtain⟨x9,hx9,h⟩:=bind_some h;refine gL hq hx9 [3,38,39,40] [3,31,30000,37006] (fun u i4=>(Dx u [(40,(Z6 i4))] [])) (fun u x_=>match x_ with|(.inl _)=>aG Γ (.exit 0) (Mj [] [31,30000,37006] u [] [])|(.inr r_)=>aR (P8 Γ a4 aA aB a7 r_)) ?_ ?_
  ·intro i4 y h;unfold Cr at h;refine Ag hq [3,38,39,40,41] [3,31,30000,37006] ?_;refine gC h (fun h=>?_) (fun h=>?_)
   ·obtain⟨hc5,h⟩:=Aa h;refine gR hq [3,5,6,38,39,40] [3,6,31,30000,37006] [] [] (c1 hc5) ?_;obtain⟨hc6,h⟩:=Aa h;obtain⟨x7,hx7,h⟩:=bind_some h;obtain⟨x8,hx8,h⟩:=bind_some h;refine gR hq [3,38,39,40,59] [3,31,30000,37006] [] [(Z2 x7),(Z2 x8)] (ci hc6 (ci (Xh ((a4.Blocks.getD i4.toNat default).Phis) (x1.1.Pred.getD i4.toNat []) x7 hx7) (ci (gI ((!x7)==false)) (ci (gI ((!x7)==false)) (ci (fun(hg:((!x7)==false)=true)=>(Xg (⟨(a4.Blocks.getD i4.toNat default).End.Kind,(a4.Blocks.getD i4.toNat default).End.Arg,(a4.Blocks.getD i4.toNat default).End.To⟩:Ga) x8 (Bw hg hx8))) (ci (gI ((!x7)==false)) (c1 (Kb (!x7))))))))) ?_;refine gC h (fun h=>?_) (fun h=>?_)
    ·refine Ag hq [2] [31,30000,37006] ?_;refine Nw (⟨[(2,(.int .i64 (5:Int)))],(Q54 x3 a4 aA a7),[]⟩:St) ?_;cases h;exact gO (La (I4 [(30000,30000),(37006,37006)] (show Le Γ _ (⟨[(2,(.int .i64 (5:Int)))],(Q55 x3 a4 aA a7),[]⟩:St) from Le.trans (Ca (st':=⟨[(2,(.int .i64 (5:Int)))],(Q54 x3 a4 aA a7),[]⟩) [2] [31,30000,37006] hq) (H3 (.cons (AVle.refl _) .nil) (.same (.row (.cons (AVle.refl _) (.cons (AVle.refl _) (.cons (AVle.refl _) (.cons (AVle.refl _) (.cons AVle.untag (.cons (AVle.refl _) (.cons (AVle.refl _) .nil))))))) (.same .nil)))))))
    ·refine Ag hq [3,38,39,40] [3,31,30000,37006] ?_;cases h;exact gN Ct
   ·cases h;exact gO (Br (Ca [] [31,30000,37006] hq))
  ·clear hx9;rcases x9 with _|r11
   ·refine gA ?_;refine Ag hq [2] [31,30000,37006] ?_;refine Nw (⟨[(2,Nd)],(Q54 x3 a4 aA a7),[]⟩:St) ?_;cases h;exact gK (e:=.ret) (I4 [(30000,30000),(37006,37006)] (show Le Γ _ (⟨[(2,Nd)],(Q55 x3 a4 aA a7),[]⟩:St) from Le.trans (Ca (st':=⟨[(2,Nd)],(Q54 x3 a4 aA a7),[]⟩) [2] [31,30000,37006] hq) (H3 (.cons (AVle.refl _) .nil) (.same (.row (.cons (AVle.refl _) (.cons (AVle.refl _) (.cons (AVle.refl _) (.cons (AVle.refl _) (.cons AVle.untag (.cons (AVle.refl _) (.cons (AVle.refl _) .nil))))))) (.same .nil))))))
   ·refine Mr (fun st' hk=>?_);obtain rfl:=OI h;exact gK hk
def H8(a8:Int):Option Bool:=
 (Option.bind (α:=Bool) (bif (a8==1) then(some (a8==1)) else(bif (a8==8) then(some (a8==8)) else(bif (a8==16) then(some (a8==16)) else(bif (a8==32) then(some (a8==32)) else(some (a8==64)))))) (fun x2=>(bif x2 then(some true) else(some false))))
theorem Kq(a8:Int)(r:Bool)(h:H8 a8=some r):Spec Tryz.prog 55 [(.int .i64 a8)] [] (.bool r) []:=by
 refine Ae mix Tryz.func55 (fun Γ hq=>?_);unfold H8 at h;refine Ag hq [0] [] ?_;refine Ag hq [3] [] ?_;obtain⟨x2,hx2,h⟩:=bind_some h;refine gJ hx2 (fun b1=>aG Γ .normal (⟨[(4,(.bool b1))],[],[]⟩:St)) ?_ ?_
 ·clear h hx2;intro y h;refine Ag hq [3,4] [] ?_;refine gC h (fun h=>?_) (fun h=>?_)
  ·cases h;exact gK (Br (Ca [4] [] hq))
  ·refine Ag hq [3,4] [] ?_;refine gC h (fun h=>?_) (fun h=>?_)
   ·cases h;exact gK (Br (Ca [4] [] hq))
   ·refine Ag hq [3,4] [] ?_;refine gC h (fun h=>?_) (fun h=>?_)
    ·cases h;exact gK (Br (Ca [4] [] hq))
    ·refine Ag hq [3,4] [] ?_;refine gC h (fun h=>?_) (fun h=>?_)
     ·cases h;exact gK (Br (Ca [4] [] hq))
     ·refine Ag hq [4] [] ?_;cases h;exact gK (Br Ct)
 ·clear hx2;refine gA ?_;refine gC h (fun h=>?_) (fun h=>?_)
  ·refine Ag hq [2] [] ?_;obtain rfl:=OI h;exact C7 []
  ·refine Ag hq [2] [] ?_;obtain rfl:=OI h;exact C7 []
def H6(aC:List Int):Int→Option (LR Int (Unit ⊕ Bool)):=
 fun(i1:Int)=>(bif (decide (i1<(aC.length:Int))) then(Ba (Bb i1 aC.length) ((H8 (aC.getD i1.toNat 0)).bind fun x3=>(bif (!x3) then(some (.done (.inr false))) else(some (.next (w64 (i1+1))))))) else(some (.done (.inl ()))))
def Yj(Γ:H0)(aC:List Int)(r:Bool):Exit→St→Prop:=fK Tryz.prog Γ Tryz.f54.results.toList [] (.bool r) []
def Ju(aC:List Int):Option Bool:=
 ((Ah (H6 aC) (0:Int)).bind (fun x4=>(match x4 with|(.inl _)=>(some true)|(.inr r6)=>(some r6))))
theorem Xf(aC:List Int)(r:Bool)(h:Ju aC=some r):Spec Tryz.prog 54 [(AV.list 1 Ak 0 aC .none),(.clo 55 [] [])] [] (.bool r) []:=by
 refine Ae mix Tryz.func54 (fun Γ hq=>?_);unfold Ju at h;refine Ag hq [0,1] [] ?_;refine Ag hq [1,7,8,9] [] ?_;obtain⟨x4,hx4,h⟩:=bind_some h;refine gL hq hx4 [1,7,8,9] [] (fun u i1=>(Dx u [(9,(Z6 i1))] [])) (fun u x_=>match x_ with|(.inl _)=>aG Γ (.exit 0) (⟨[],[],[]⟩:St)|(.inr r_)=>aR (Yj Γ aC r_)) ?_ ?_
 ·intro i1 y h;unfold H6 at h;refine Ag hq [1,7,8,9,10] [] ?_;refine gC h (fun h=>?_) (fun h=>?_)
  ·obtain⟨hc2,h⟩:=Aa h;refine gR hq [1,6,7,8,9] [] [] [] (c1 hc2) ?_;obtain⟨x3,hx3,h⟩:=bind_some h;refine gR hq [1,7,8,9,16] [] [] [(Z2 x3)] (c1 (Kq (aC.getD i1.toNat 0) x3 hx3)) ?_;refine gC h (fun h=>?_) (fun h=>?_)
   ·refine Ag hq [4] [] ?_;cases h;exact gO (La (I4 [] (Le.refl _ _)))
   ·refine Ag hq [1,7,8,9] [] ?_;cases h;exact gN Ct
  ·cases h;exact gO (Br (Ca [] [] hq))
 ·clear hx4;rcases x4 with _|r6
  ·refine gA ?_;refine Ag hq [4] [] ?_;obtain rfl:=OI h;exact C7 []
  ·refine Mr (fun st' hk=>?_);obtain rfl:=OI h;exact gK hk
def Kx(aW:Er):Option Bool:=
 ((H8 aW.Bits).bind fun x1=>(some x1))
theorem Wg(aW:Er)(r:Bool)(h:Kx aW=some r):Spec Tryz.prog 83 [(.agg (Sz aW))] [] (.bool r) []:=by
 refine Ae mix Tryz.func83 (fun Γ hq=>?_);unfold Kx at h;refine Ag hq [1] [1] ?_;obtain⟨x1,hx1,h⟩:=bind_some h;refine gR hq [2] [] [] [(Z2 x1)] (c1 (Kq aW.Bits x1 hx1)) ?_;obtain rfl:=OI h;exact C7 []
def Gb(aC:List Er):Int→Option (LR Int (Unit ⊕ Bool)):=
 fun(i1:Int)=>(bif (decide (i1<(aC.length:Int))) then(Ba (Bb i1 aC.length) ((Kx (aC.getD i1.toNat default)).bind fun x3=>(bif (!x3) then(some (.done (.inr false))) else(some (.next (w64 (i1+1))))))) else(some (.done (.inl ()))))
def Uo(Γ:H0)(aC:List Er)(r:Bool):Exit→St→Prop:=fK Tryz.prog Γ Tryz.f82.results.toList [] (.bool r) []
def Hq(aC:List Er):Option Bool:=
 ((Ah (Gb aC) (0:Int)).bind (fun x4=>(match x4 with|(.inl _)=>(some true)|(.inr r6)=>(some r6))))
theorem Tc(aC:List Er)(r:Bool)(h:Hq aC=some r):Spec Tryz.prog 82 [(AV.list 4 Sz default aC .none),(.clo 83 [] [])] [] (.bool r) []:=by
 refine Ae mix Tryz.func82 (fun Γ hq=>?_);unfold Hq at h;refine Ag hq [0,1] [] ?_;refine Ag hq [1,7,8,9] [] ?_;obtain⟨x4,hx4,h⟩:=bind_some h;refine gL hq hx4 [1,7,8,9] [] (fun u i1=>(Dx u [(9,(Z6 i1))] [])) (fun u x_=>match x_ with|(.inl _)=>aG Γ (.exit 0) (⟨[],[],[]⟩:St)|(.inr r_)=>aR (Uo Γ aC r_)) ?_ ?_
 ·intro i1 y h;unfold Gb at h;refine Ag hq [1,7,8,9,10] [] ?_;refine gC h (fun h=>?_) (fun h=>?_)
  ·obtain⟨hc2,h⟩:=Aa h;refine gR hq [1,6,7,8,9] [6] [] [] (c1 hc2) ?_;obtain⟨x3,hx3,h⟩:=bind_some h;refine gR hq [1,7,8,9,16] [] [] [(Z2 x3)] (c1 (Wg (aC.getD i1.toNat default) x3 hx3)) ?_;refine gC h (fun h=>?_) (fun h=>?_)
   ·refine Ag hq [4] [] ?_;cases h;exact gO (La (I4 [] (Le.refl _ _)))
   ·refine Ag hq [1,7,8,9] [] ?_;cases h;exact gN Ct
  ·cases h;exact gO (Br (Ca [] [] hq))
 ·clear hx4;rcases x4 with _|r6
  ·refine gA ?_;refine Ag hq [4] [] ?_;obtain rfl:=OI h;exact C7 []
  ·refine Mr (fun st' hk=>?_);obtain rfl:=OI h;exact gK hk
def Ln(aa8:Int):Option Bool:=
 (some (bif (decide (((0:Int):Int)≤aa8)) then(decide (aa8≤22)) else false))
theorem ok_kind_isKind(aa8:Int)(r:Bool)(h:Ln aa8=some r):Spec Tryz.prog 115 [(.int .i64 aa8)] [] (.bool r) []:=by
 refine Ae mix Tryz.func115 (fun Γ hq=>?_);unfold Ln at h;refine Ag hq [0] [] ?_;refine gR hq [2] [] [] [] (ci (gI ((decide (((0:Int):Int)≤aa8))==true)) (c1 (L2 (decide (((0:Int):Int)≤aa8))))) ?_;cases h;exact C7 []
def Q57(x5:Bool)(a8:Int):=(bif x5 then(decide (((8:Int):Int)≤a8)) else false)
def Me(a8:Int)(aL:Int):Option Bool:=
 (bif (aL==1) then((H8 a8).bind fun x1=>(some x1)) else(Option.bind (α:=Bool) (bif (aL==2) then(some (aL==2)) else(bif (aL==4) then(some (aL==4)) else(bif (aL==8) then(some (aL==8)) else(some (aL==16))))) (fun x3=>(bif x3 then((H8 a8).bind fun x5=>(some (bif (bif x5 then(decide (((8:Int):Int)≤a8)) else false) then(decide (((w64 (a8*aL)):Int)≤128)) else false))) else(some false)))))
theorem ok_kind_Shape(a8:Int)(aL:Int)(r:Bool)(h:Me a8 aL=some r):Spec Tryz.prog 116 [(.int .i64 a8),(.int .i64 aL)] [] (.bool r) []:=by
 refine Ae mix Tryz.func116 (fun Γ hq=>?_);unfold Me at h;refine Ag hq [0,1] [] ?_;refine Ag hq [0,1,5] [] ?_;refine Ag hq [0,1,5,6] [] ?_;refine gC h (fun h=>?_) (fun h=>?_)
 ·obtain⟨x1,hx1,h⟩:=bind_some h;refine gR hq [4] [] [] [(Z2 x1)] (c1 (Kq a8 x1 hx1)) ?_;obtain rfl:=OI h;exact C7 []
 ·obtain⟨x3,hx3,h⟩:=bind_some h;refine gJ hx3 (fun b2=>aG Γ .normal (⟨[(0,(Z6 a8)),(1,(Z6 aL)),(10,(.bool b2))],[],[]⟩:St)) ?_ ?_
  ·clear h hx3;intro y h;refine Ag hq [0,1,5,10] [] ?_;refine gC h (fun h=>?_) (fun h=>?_)
   ·cases h;exact gK (Br (Ca [0,1,10] [] hq))
   ·refine Ag hq [0,1,5,10] [] ?_;refine gC h (fun h=>?_) (fun h=>?_)
    ·cases h;exact gK (Br (Ca [0,1,10] [] hq))
    ·refine Ag hq [0,1,5,10] [] ?_;refine gC h (fun h=>?_) (fun h=>?_)
     ·cases h;exact gK (Br (Ca [0,1,10] [] hq))
     ·refine Ag hq [0,1,10] [] ?_;cases h;exact gK (Br Ct)
  ·clear hx3;refine gA ?_;refine gC h (fun h=>?_) (fun h=>?_)
   ·obtain⟨x5,hx5,h⟩:=bind_some h;refine gR hq [4] [] [] [(Z2 x5)] (ci (Kq a8 x5 hx5) (ci (gI (x5==true)) (ci (L2 x5) (ci (gI ((Q57 x5 a8)==true)) (ci (gI ((Q57 x5 a8)==true)) (ci (gI ((Q57 x5 a8)==true)) (c1 (L2 (Q57 x5 a8))))))))) ?_;cases h;exact C7 []
   ·refine Ag hq [4] [] ?_;obtain rfl:=OI h;exact C7 []
def Q58(a1:Dv):List (Nat×Own):=[(Z48 a1.Kind a1.Bits a1.Lanes a1.Dst a1.Args a1.Imm)]
def Je(a1:Dv):Option Bool:=
 (Option.bind (α:=Bool) (bif (a1.Kind==16) then(some (a1.Kind==16)) else(some (a1.Kind==17))) (fun x2=>(bif x2 then(some (decide (((8:Int):Int)≤a1.Bits))) else(Option.bind (α:=Bool) (bif (a1.Kind==18) then(some (a1.Kind==18)) else(some (a1.Kind==19))) (fun x5=>(bif x5 then(some (bif (decide (((8:Int):Int)≤a1.Bits)) then(a1.Lanes==1) else false)) else(Option.bind (α:=Bool) (bif (a1.Kind==4) then(some (a1.Kind==4)) else(bif (a1.Kind==10) then(some (a1.Kind==10)) else(bif (a1.Kind==11) then(some (a1.Kind==11)) else(bif (a1.Kind==12) then(some (a1.Kind==12)) else(bif (a1.Kind==14) then(some (a1.Kind==14)) else(bif (a1.Kind==15) then(some (a1.Kind==15)) else(some (a1.Kind==20)))))))) (fun x8=>(bif x8 then(some (a1.Lanes==1)) else(Option.bind (α:=Bool) (bif (a1.Kind==21) then(some (a1.Kind==21)) else(some (a1.Kind==22))) (fun x11=>(bif x11 then(some (decide (((1:Int):Int)<a1.Lanes))) else(some true)))))))))))))
theorem Wi(a1:Dv)(r:Bool)(h:Je a1=some r):Spec Tryz.prog 117 [(.agg (Mp a1))] [] (.bool r) []:=by
 refine Ae mix Tryz.func117 (fun Γ hq=>?_);unfold Je at h;refine Ag hq [1] [1] ?_;refine Ag hq [1,4] [1] ?_;obtain⟨x2,hx2,h⟩:=bind_some h;refine gJ hx2 (fun b1=>aG Γ .normal (⟨[Uy,(4,(Z6 a1.Kind)),(5,(.bool b1))],(Q58 a1),[]⟩:St)) ?_ ?_
 ·clear h hx2;intro y h;refine Ag hq [1,4,5] [1] ?_;refine gC h (fun h=>?_) (fun h=>?_)
  ·cases h;exact gK (Br Ct)
  ·refine Ag hq [1,4,5] [1] ?_;cases h;exact gK (Br Ct)
 ·clear hx2;refine gA ?_;refine gC h (fun h=>?_) (fun h=>?_)
  ·refine Ag hq [2] [] ?_;cases h;exact C7 []
  ·obtain⟨x5,hx5,h⟩:=bind_some h;refine gJ hx5 (fun b4=>aG Γ .normal (⟨[Uy,(4,(Z6 a1.Kind)),(11,(.bool b4))],(Q58 a1),[]⟩:St)) ?_ ?_
   ·clear h hx5;intro y h;refine Ag hq [1,4,11] [1] ?_;refine gC h (fun h=>?_) (fun h=>?_)
    ·cases h;exact gK (Br Ct)
    ·refine Ag hq [1,4,11] [1] ?_;cases h;exact gK (Br Ct)
   ·clear hx5;refine gA ?_;refine gC h (fun h=>?_) (fun h=>?_)
    ·refine gR hq [2] [] [] [] (ci (gI ((decide (((8:Int):Int)≤a1.Bits))==true)) (ci (gI ((decide (((8:Int):Int)≤a1.Bits))==true)) (c1 (L2 (decide (((8:Int):Int)≤a1.Bits)))))) ?_;cases h;exact C7 []
    ·obtain⟨x8,hx8,h⟩:=bind_some h;refine gJ hx8 (fun b7=>aG Γ .normal (⟨[Uy,(4,(Z6 a1.Kind)),(22,(.bool b7))],(Q58 a1),[]⟩:St)) ?_ ?_
     ·clear h hx8;intro y h;refine Ag hq [1,4,22] [1] ?_;refine gC h (fun h=>?_) (fun h=>?_)
      ·cases h;exact gK (Br Ct)
      ·refine Ag hq [1,4,22] [1] ?_;refine gC h (fun h=>?_) (fun h=>?_)
       ·cases h;exact gK (Br Ct)
       ·refine Ag hq [1,4,22] [1] ?_;refine gC h (fun h=>?_) (fun h=>?_)
        ·cases h;exact gK (Br Ct)
        ·refine Ag hq [1,4,22] [1] ?_;refine gC h (fun h=>?_) (fun h=>?_)
         ·cases h;exact gK (Br Ct)
         ·refine Ag hq [1,4,22] [1] ?_;refine gC h (fun h=>?_) (fun h=>?_)
          ·cases h;exact gK (Br Ct)
          ·refine Ag hq [1,4,22] [1] ?_;refine gC h (fun h=>?_) (fun h=>?_)
           ·cases h;exact gK (Br Ct)
           ·refine Ag hq [1,4,22] [1] ?_;cases h;exact gK (Br Ct)
     ·clear hx8;refine gA ?_;refine gC h (fun h=>?_) (fun h=>?_)
      ·refine Ag hq [2] [] ?_;cases h;exact C7 []
      ·obtain⟨x11,hx11,h⟩:=bind_some h;refine gJ hx11 (fun b10=>aG Γ .normal (⟨[Uy,(33,(.bool b10))],(Q58 a1),[]⟩:St)) ?_ ?_
       ·clear h hx11;intro y h;refine Ag hq [1,4,33] [1] ?_;refine gC h (fun h=>?_) (fun h=>?_)
        ·cases h;exact gK (Br (Ca [1,33] [1] hq))
        ·refine Ag hq [1,33] [1] ?_;cases h;exact gK (Br Ct)
       ·clear hx11;refine gA ?_;refine gC h (fun h=>?_) (fun h=>?_)
        ·refine Ag hq [2] [] ?_;cases h;exact C7 []
        ·refine Ag hq [2] [] ?_;obtain rfl:=OI h;exact C7 []
def Oh(aE:Int)(a8:Int):Option Int:=
 ((H8 a8).bind fun x1=>(bif (!x1) then(some (0:Int)) else(Ba (0≤(w64 ((64:Int)-a8))) (Ba (0≤(w64 ((64:Int)-a8))) (some (Ws .u64 (shlV .u64 aE (w64 ((64:Int)-a8))) (w64 ((64:Int)-a8))))))))
theorem ok_word_Cut(aE:Int)(a8:Int)(r:Int)(h:Oh aE a8=some r):Spec Tryz.prog 136 [(.int .u64 aE),(.int .i64 a8)] [] (.int .u64 r) []:=by
 refine Ae mix Tryz.func136 (fun Γ hq=>?_);unfold Oh at h;refine Ag hq [0,1] [] ?_;obtain⟨x1,hx1,h⟩:=bind_some h;refine gR hq [0,1,7] [] [] [(Z2 x1)] (c1 (Kq a8 x1 hx1)) ?_;refine gC h (fun h=>?_) (fun h=>?_)
 ·refine Ag hq [4] [] ?_;cases h;exact C7 []
 ·obtain⟨hc2,h⟩:=Aa h;obtain⟨hc3,h⟩:=Aa h;refine gR hq [4] [] [] [] (ci hc2 (c1 hc3)) ?_;cases h;exact C7 []
def Jd(aa5:Int):Option Bool:=
 ((bif ((decide (aa5≤64))==true) then H8 (w64 aa5) else some false).bind fun x1=>(some (bif (decide (aa5≤64)) then x1 else false)))
theorem Ru(aa5:Int)(r:Bool)(h:Jd aa5=some r):Spec Tryz.prog 137 [(.int .u64 aa5)] [] (.bool r) []:=by
 refine Ae mix Tryz.func137 (fun Γ hq=>?_);unfold Jd at h;refine Ag hq [0] [] ?_;obtain⟨x1,hx1,h⟩:=bind_some h;refine gR hq [2] [] [] [(Z2 x1)] (ci (gI ((decide (aa5≤64))==true)) (ci (gI ((decide (aa5≤64))==true)) (ci (fun(hg:((decide (aa5≤64))==true)=true)=>(Kq (w64 aa5) x1 (Bw hg hx1))) (c1 (L2 (decide (aa5≤64))))))) ?_;cases h;exact C7 []
def Kl(a1:Dv):Option Bool:=
 (bif (a1.Kind==0) then((Oh a1.Imm a1.Bits).bind fun x1=>(some (x1==a1.Imm))) else(bif (a1.Kind==14) then((Jd a1.Imm).bind fun x2=>(some (bif x2 then(decide (a1.Imm<(Hi a1.Bits))) else false))) else(bif (a1.Kind==15) then((Jd a1.Imm).bind fun x3=>(some (bif x3 then(decide (((Hi a1.Bits):Int)<a1.Imm)) else false))) else(bif (a1.Kind==22) then(some (decide (a1.Imm<(Hi a1.Lanes)))) else(some (a1.Imm==0))))))
theorem Yv(a1:Dv)(r:Bool)(h:Kl a1=some r):Spec Tryz.prog 118 [(.agg (Mp a1))] [] (.bool r) []:=by
 refine Ae mix Tryz.func118 (fun Γ hq=>?_);unfold Kl at h;refine Ag hq [1] [1] ?_;refine Ag hq [1,4] [1] ?_;refine Ag hq [1,4,5] [1] ?_;refine gC h (fun h=>?_) (fun h=>?_)
 ·obtain⟨x1,hx1,h⟩:=bind_some h;refine gR hq [2] [] [] [⟨[],[],(.int .u64 x1),[],[]⟩] (c1 (ok_word_Cut a1.Imm a1.Bits x1 hx1)) ?_;cases h;exact C7 []
 ·refine Ag hq [1,4,15] [1] ?_;refine gC h (fun h=>?_) (fun h=>?_)
  ·obtain⟨x2,hx2,h⟩:=bind_some h;refine gR hq [2] [] [] [(Z2 x2)] (ci (Ru a1.Imm x2 hx2) (ci (gI (x2==true)) (ci (gI (x2==true)) (ci (gI (x2==true)) (ci (gI (x2==true)) (ci (gI (x2==true)) (c1 (L2 x2)))))))) ?_;cases h;exact C7 []
  ·refine Ag hq [1,4,28] [1] ?_;refine gC h (fun h=>?_) (fun h=>?_)
   ·obtain⟨x3,hx3,h⟩:=bind_some h;refine gR hq [2] [] [] [(Z2 x3)] (ci (Ru a1.Imm x3 hx3) (ci (gI (x3==true)) (ci (gI (x3==true)) (ci (gI (x3==true)) (ci (gI (x3==true)) (ci (gI (x3==true)) (c1 (L2 x3)))))))) ?_;cases h;exact C7 []
   ·refine Ag hq [1,41] [1] ?_;refine gC h (fun h=>?_) (fun h=>?_)
    ·refine Ag hq [2] [] ?_;cases h;exact C7 []
    ·refine Ag hq [2] [] ?_;cases h;exact C7 []
def G0(aaA:List ((Int×Int))):Option (List (Int×Int)):=
 (some aaA)
theorem Hx(aaA:List ((Int×Int)))(r:List ((Int×Int)))(h:G0 aaA=some r):Spec Tryz.prog 121 [(AV.list 2 A8 ((0:Int),(0:Int)) aaA .none)] [] (AV.list 2 A8 ((0:Int),(0:Int)) r .none) []:=by
 refine Ae mix Tryz.func121 (fun Γ hq=>?_);unfold G0 at h;refine gR hq [0] [] [(2,Z28)] [] (c1 (Et 2 A8 ((0:Int),(0:Int)))) ?_;refine Ag hq [2] [] ?_;obtain rfl:=OI h;exact C7 []
def Cg :(Int×List (Int×Int))→Option (LR (Int×List (Int×Int)) (List (Int×Int))):=
 fun((i7,l8):(Int×List (Int×Int)))=>(bif (decide (i7<(l8.length:Int))) then(Ba (0≤i7∧0+i7.toNat≤l8.length) (Ba (0≤i7∧0+i7.toNat≤l8.length) (some (.next ((w64 (i7+((Nat.min ((0+i7.toNat)-0) (l8.length-(0+i7.toNat))):Int))),(cpL l8 (0+i7.toNat) (Nat.min ((0+i7.toNat)-0) (l8.length-(0+i7.toNat))) (fun i=>l8.getD (0+i) ((0:Int),(0:Int))))))))) else(some (.done l8)))
def Q59(x3:(Int×Int)):=(List.replicate (w64 x3.2).toNat ((0:Int),(0:Int)))
def Q61(x3:(Int×Int))(aJ:List ((Int×Int))):=(cpL (Q59 x3) 0 (Nat.min aJ.length ((Q59 x3).length-0)) (fun i=>aJ.getD i ((0:Int),(0:Int))))
def Q60(l8:List ((Int×Int)))(i7:Int):=(cpL l8 (0+i7.toNat) (Nat.min ((0+i7.toNat)-0) (l8.length-(0+i7.toNat))) (fun i=>l8.getD (0+i) ((0:Int),(0:Int))))
def Bp(aJ:List ((Int×Int)))(aa1:Int):Option (List (Int×Int)):=
 (Option.bind (α:=Unit) (bif (decide (aa1<0)) then none else(some ())) (fun x1=>(match x1 with|_=>((Lv (Hi (aJ.length:Int)) (Hi aa1)).bind fun x3=>(Option.bind (α:=Unit) (bif (bif (decide (((0:Int):Int)<x3.1)) then true else(decide (((9223372036854775807:Int):Int)<x3.2))) then none else(some ())) (fun x4=>(match x4 with|_=>(Ba (0≤(w64 x3.2)∧(w64 x3.2)≤(w64 x3.2)∧(w64 x3.2)≤(room:Int)) ((Ah (S:=(Int×List (Int×Int))) (X:=List (Int×Int)) Cg (((Nat.min aJ.length ((List.replicate (w64 x3.2).toNat ((0:Int),(0:Int))).length-0)):Int),(cpL (List.replicate (w64 x3.2).toNat ((0:Int),(0:Int))) 0 (Nat.min aJ.length ((List.replicate (w64 x3.2).toNat ((0:Int),(0:Int))).length-0)) (fun i=>aJ.getD i ((0:Int),(0:Int)))))).bind (fun x12=>(some x12)))))))))))
theorem Nt(aJ:List ((Int×Int)))(aa1:Int)(r:List ((Int×Int)))(h:Bp aJ aa1=some r):Spec Tryz.prog 122 [(AV.list 2 A8 ((0:Int),(0:Int)) aJ .none),(.int .i64 aa1)] [] (AV.list 2 A8 ((0:Int),(0:Int)) r (.own 20000)) [(20000,.tok 2 35 r.length)]:=by
 refine Ae mix Tryz.func122 (fun Γ hq=>?_);have hΓ:=hq.own;unfold Bp at h;refine gR hq [0,1] [] [(4,Z28)] [] (c1 (Et 2 A8 ((0:Int),(0:Int)))) ?_;obtain⟨x1,hx1,h⟩:=bind_some h;refine gJ hx1 (fun _=>aG Γ .normal (⟨[(0,(AV.list 2 A8 ((0:Int),(0:Int)) aJ .none)),(1,(Z6 aa1))],[],[]⟩:St)) ?_ ?_
 ·clear h hx1;intro y h;refine Ag hq [0,1,10] [] ?_;refine gC h (fun h=>?_) (fun h=>?_)
  ·cases h
  ·cases h;exact gK (Br (Ca [0,1] [] hq))
 ·clear hx1;refine gA ?_;obtain⟨x3,hx3,h⟩:=bind_some h;refine gR hq [0,5,6] [] [] [⟨[],[],(.tuple [(.int .u64 x3.1),(.int .u64 x3.2)]),[],[]⟩] (c1 (X2 (Hi (aJ.length:Int)) (Hi aa1) x3 hx3)) ?_;obtain⟨x4,hx4,h⟩:=bind_some h;refine gJ hx4 (fun _=>aG Γ .normal (⟨[(0,(AV.list 2 A8 ((0:Int),(0:Int)) aJ .none)),(6,(.int .u64 x3.2))],[],[]⟩:St)) ?_ ?_
  ·clear h hx4;intro y h;refine gR hq [0,6,26] [] [] [] (ci (gI ((decide (((0:Int):Int)<x3.1))==false)) (c1 (Kb (decide (((0:Int):Int)<x3.1))))) ?_;refine gC h (fun h=>?_) (fun h=>?_)
   ·cases h
   ·cases h;exact gK (Br (Ca [0,6] [] hq))
  ·clear hx4;refine gA ?_;obtain⟨hc6,h⟩:=Aa h;refine gR hq [0,7] [30] [] [] (c1 hc6) ?_;refine Kw (Le.trans (Pv 30 (show ∀ k_,k_<((w64 x3.2).toNat)→AVleL ((fun i_=>AV.eraseAll (fun n_=>Dl n_ [30]) ((fun _=>[Nd,Nd]) i_)) k_) ((fun i=>A8 ((Q59 x3).getD i ((0:Int),(0:Int)))) k_) from(fun k hk=>M9 (e:=A8) (d:=((0:Int),(0:Int))) (.cons (AVle.refl _) (.cons (AVle.refl _) .nil)) _ k (Na hk)))) (Ox (fun(k_:Nat) u=>(Dx u [(N9 30 k_)] [(30,.arr 2 35 k_ (fun i=>A8 ((Q59 x3).getD i ((0:Int),(0:Int)))))])) (show(w64 x3.2).toNat=(Q59 x3).length from(List.length_replicate ..).symm))) ?_;refine gR hq [7,8] [30] [] [] (c1 (Eq.refl ((Q59 x3).length))) ?_;refine Kw (Le.trans (Pv 30 (show ∀ k_,k_<((Q59 x3).length)→AVleL ((fun i_=>AV.eraseAll (fun n_=>Dl n_ [30]) ((cpF (fun i=>A8 ((Q59 x3).getD i ((0:Int),(0:Int)))) 0 (Nat.min aJ.length ((Q59 x3).length-0)) (fun i=>A8 (aJ.getD i ((0:Int),(0:Int))))) i_)) k_) ((fun i=>A8 ((Q61 x3 aJ).getD i ((0:Int),(0:Int)))) k_) from(Bu (H1 ..) (fun k_ hk_=>(congrArg (AV.eraseAll (fun n_=>Dl n_ [30])) ((Y2 (e:=A8) (d:=((0:Int),(0:Int))) (l:=(Q59 x3)) (s:=(fun i=>aJ.getD i ((0:Int),(0:Int)))) (fun _ _=>rfl) (fun _ _=>rfl)) k_ hk_)).trans rfl)))) (Ox (fun(k_:Nat) u=>(Dx u [(N9 30 k_)] [(30,.arr 2 35 k_ (fun i=>A8 ((Q61 x3 aJ).getD i ((0:Int),(0:Int)))))])) (show(Q59 x3).length=(Q61 x3 aJ).length from(H1 ..)))) ?_;obtain⟨x12,hx12,h⟩:=bind_some h;refine gL hq hx12 [7,8] [30] (fun u (i7,l8)=>(Dx u [(N9 30 l8.length),(8,(Z6 i7))] (Z57 l8))) (fun u l9=>aG Γ (.exit 0) (⟨[(N9 30 l9.length)],(Z57 l9),[]⟩:St)) ?_ ?_
   ·rintro⟨i7,l8⟩ y h;unfold Cg at h;refine Ag hq [7,8,37] [30] ?_;refine gC h (fun h=>?_) (fun h=>?_)
    ·obtain⟨hc10,h⟩:=Aa h;obtain⟨hc11,h⟩:=Aa h;refine gR hq [7,8] [30] [] [] (ci hc10 (ci hc11 (ci (Eq.refl l8.length) (c1 (Eq.refl l8.length))))) ?_;cases h;exact gN (Le.trans (Le.trans (Pv 30 (show ∀ k_,k_<l8.length→AVleL ((fun i_=>AV.eraseAll (fun n_=>Dl n_ [30]) ((cpF (fun i=>A8 (l8.getD i ((0:Int),(0:Int)))) (0+i7.toNat) (Nat.min ((0+i7.toNat)-0) (l8.length-(0+i7.toNat))) (fun i=>(fun i=>A8 (l8.getD i ((0:Int),(0:Int)))) (0+i))) i_)) k_) ((fun i=>A8 ((Q60 l8 i7).getD i ((0:Int),(0:Int)))) k_) from(Bu (H1 ..) (fun k_ hk_=>(congrArg (AV.eraseAll (fun n_=>Dl n_ [30])) ((Y2 (e:=A8) (d:=((0:Int),(0:Int))) (l:=l8) (s:=(fun i=>l8.getD (0+i) ((0:Int),(0:Int)))) (fun _ _=>rfl) (fun _ _=>rfl)) k_ hk_)).trans rfl)))) (Ox (fun(k_:Nat) u=>(Dx u [(N9 30 k_)] [(30,.arr 2 35 k_ (fun i=>A8 ((Q60 l8 i7).getD i ((0:Int),(0:Int)))))])) (show l8.length=(Q60 l8 i7).length from(H1 ..)))) Ct)
    ·cases h;exact gO (Br (Ca [7] [30] hq))
   ·clear hx12;refine gA ?_;refine Ag hq [4] [30] ?_;refine Nw (⟨[(4,(.vsl 30 x12.length))],(Z57 x12),[]⟩:St) ?_;obtain rfl:=OI h;exact gK (e:=.ret) (I4 [(30,20000)] (Le.trans (Ie (nm:=30) (sz:=2) (n:=x12.length) (e:=35) (f:=(fun i=>A8 (x12.getD i ((0:Int),(0:Int))))) (g:=(fun i=>A8 (x12.getD i ((0:Int),(0:Int))))) rfl ⟨rfl,trivial⟩ (fun _ _=>rfl) (by rw[hΓ];rfl)) (Id (st':=⟨[(4,(Z45 x12 30))],[(30,.tok 2 35 x12.length)],[]⟩) (by kernel_rfl))))
def Q62(a1:Dv):List (Nat×Own):=[(Z48 a1.Kind a1.Bits a1.Lanes a1.Dst a1.Args a1.Imm),(3,.row 35 [Z40,Z40]),(4,.row 35 [(Z42 64),Z40]),(5,.row 35 [(Z6 a1.Bits),(Z6 a1.Lanes)]),(6,.row 35 [(Z6 a1.Bits),Z40])]
def K1(a1:Dv):Option (List (Int×Int)):=
 (bif (a1.Kind==0) then((G0 ([]:List (Int×Int))).bind fun x1=>(some x1)) else(bif (a1.Kind==13) then((G0 ([((1:Int),(1:Int)),(a1.Bits,a1.Lanes),(a1.Bits,a1.Lanes)]:List (Int×Int))).bind fun x2=>(some x2)) else(Option.bind (α:=Bool) (bif (a1.Kind==14) then(some (a1.Kind==14)) else(some (a1.Kind==15))) (fun x4=>(bif x4 then((G0 ([((w64 a1.Imm),(1:Int))]:List (Int×Int))).bind fun x6=>(some x6)) else(bif (a1.Kind==16) then((G0 ([((64:Int),(1:Int))]:List (Int×Int))).bind fun x7=>(some x7)) else(bif (a1.Kind==17) then((G0 ([((64:Int),(1:Int)),(a1.Bits,a1.Lanes)]:List (Int×Int))).bind fun x8=>(some x8)) else(Option.bind (α:=Bool) (bif (a1.Kind==18) then(some (a1.Kind==18)) else(some (a1.Kind==19))) (fun x10=>(bif x10 then((G0 ([((1:Int),(1:Int)),((64:Int),(1:Int)),(a1.Bits,(1:Int))]:List (Int×Int))).bind fun x12=>(some x12)) else(bif (a1.Kind==20) then((G0 ([((1:Int),(1:Int)),(a1.Bits,(1:Int)),(a1.Bits,(1:Int)),(a1.Bits,(1:Int))]:List (Int×Int))).bind fun x13=>(some x13)) else(bif (a1.Kind==21) then((Bp ([(a1.Bits,(1:Int))]:List (Int×Int)) a1.Lanes).bind fun x14=>((G0 x14).bind fun x15=>(some x15))) else(bif (a1.Kind==22) then((G0 ([(a1.Bits,a1.Lanes)]:List (Int×Int))).bind fun x16=>(some x16)) else((G0 ([(a1.Bits,a1.Lanes),(a1.Bits,a1.Lanes)]:List (Int×Int))).bind fun x17=>(some x17)))))))))))))))
theorem U6(a1:Dv)(r:List ((Int×Int)))(h:K1 a1=some r):Spec Tryz.prog 108 [(.agg (Mp a1))] [] (AV.list 2 A8 ((0:Int),(0:Int)) r .none) []:=by
 refine Ae mix Tryz.func108 (fun Γ hq=>?_);unfold K1 at h;refine gR hq [1] [1] [(2,Z28)] [] (c1 (Et 2 A8 ((0:Int),(0:Int)))) ?_;refine Ag hq [1,3,4] [1,3,4] ?_;refine Ag hq [1,3,4,5,6] [1,3,4,5,6] ?_;refine Ag hq [1,3,4,5,6,18] [1,3,4,5,6] ?_;refine Ag hq [1,3,4,5,6,18,19] [1,3,4,5,6] ?_;refine gC h (fun h=>?_) (fun h=>?_)
 ·obtain⟨x1,hx1,h⟩:=bind_some h;refine gR hq [2] [] [] [(Z5 x1)] (c1 (show(Spec Tryz.prog 121 [(.slice 0 0 (fun _=>[]) .none)] [] (AV.list 2 A8 ((0:Int),(0:Int)) x1 .none) []) from(Spec.args (.cons av_nil0 .nil) (Hx ([]:List (Int×Int)) x1 hx1)))) ?_;obtain rfl:=OI h;exact C7 []
 ·refine Ag hq [1,3,4,5,6,18,22] [1,3,4,5,6] ?_;refine gC h (fun h=>?_) (fun h=>?_)
  ·obtain⟨x2,hx2,h⟩:=bind_some h;refine gR hq [2] [] [(27,(AV.list 2 A8 ((0:Int),(0:Int)) ([((1:Int),(1:Int)),(a1.Bits,a1.Lanes),(a1.Bits,a1.Lanes)]:List (Int×Int)) .exact))] [(Z5 x2)] (ci (B8 2 A8 ((0:Int),(0:Int)) ([((1:Int),(1:Int)),(a1.Bits,a1.Lanes),(a1.Bits,a1.Lanes)]:List (Int×Int))) (c1 (Hx ([((1:Int),(1:Int)),(a1.Bits,a1.Lanes),(a1.Bits,a1.Lanes)]:List (Int×Int)) x2 hx2))) ?_;obtain rfl:=OI h;exact C7 []
  ·obtain⟨x4,hx4,h⟩:=bind_some h;refine gJ hx4 (fun b3=>aG Γ .normal (⟨[Uy,(3,(.ptr 3 0)),(4,(.ptr 4 0)),Z70,(6,(.ptr 6 0)),(18,(Z6 a1.Kind)),(29,(.bool b3))],(Q62 a1),[]⟩:St)) ?_ ?_
   ·clear h hx4;intro y h;refine Ag hq [1,3,4,5,6,18,29] [1,3,4,5,6] ?_;refine gC h (fun h=>?_) (fun h=>?_)
    ·cases h;exact gK (Br Ct)
    ·refine Ag hq [1,3,4,5,6,18,29] [1,3,4,5,6] ?_;cases h;exact gK (Br Ct)
   ·clear hx4;refine gA ?_;refine gC h (fun h=>?_) (fun h=>?_)
    ·obtain⟨x6,hx6,h⟩:=bind_some h;refine gR hq [2] [] [(36,(AV.list 2 A8 ((0:Int),(0:Int)) ([((w64 a1.Imm),(1:Int))]:List (Int×Int)) .exact))] [(Z5 x6)] (ci (B8 2 A8 ((0:Int),(0:Int)) ([((w64 a1.Imm),(1:Int))]:List (Int×Int))) (c1 (Hx ([((w64 a1.Imm),(1:Int))]:List (Int×Int)) x6 hx6))) ?_;obtain rfl:=OI h;exact C7 []
    ·refine Ag hq [1,3,4,5,6,18,38] [1,3,4,5,6] ?_;refine gC h (fun h=>?_) (fun h=>?_)
     ·obtain⟨x7,hx7,h⟩:=bind_some h;refine gR hq [2] [] [(41,(AV.list 2 A8 ((0:Int),(0:Int)) ([((64:Int),(1:Int))]:List (Int×Int)) .exact))] [(Z5 x7)] (ci (B8 2 A8 ((0:Int),(0:Int)) ([((64:Int),(1:Int))]:List (Int×Int))) (c1 (Hx ([((64:Int),(1:Int))]:List (Int×Int)) x7 hx7))) ?_;obtain rfl:=OI h;exact C7 []
     ·refine Ag hq [1,3,4,5,6,18,43] [1,3,4,5,6] ?_;refine gC h (fun h=>?_) (fun h=>?_)
      ·obtain⟨x8,hx8,h⟩:=bind_some h;refine gR hq [2] [] [(47,(AV.list 2 A8 ((0:Int),(0:Int)) ([((64:Int),(1:Int)),(a1.Bits,a1.Lanes)]:List (Int×Int)) .exact))] [(Z5 x8)] (ci (B8 2 A8 ((0:Int),(0:Int)) ([((64:Int),(1:Int)),(a1.Bits,a1.Lanes)]:List (Int×Int))) (c1 (Hx ([((64:Int),(1:Int)),(a1.Bits,a1.Lanes)]:List (Int×Int)) x8 hx8))) ?_;obtain rfl:=OI h;exact C7 []
      ·obtain⟨x10,hx10,h⟩:=bind_some h;refine gJ hx10 (fun b9=>aG Γ .normal (⟨[Uy,(3,(.ptr 3 0)),(4,(.ptr 4 0)),Z70,(6,(.ptr 6 0)),(18,(Z6 a1.Kind)),(49,(.bool b9))],(Q62 a1),[]⟩:St)) ?_ ?_
       ·clear h hx10;intro y h;refine Ag hq [1,3,4,5,6,18,49] [1,3,4,5,6] ?_;refine gC h (fun h=>?_) (fun h=>?_)
        ·cases h;exact gK (Br Ct)
        ·refine Ag hq [1,3,4,5,6,18,49] [1,3,4,5,6] ?_;cases h;exact gK (Br Ct)
       ·clear hx10;refine gA ?_;refine gC h (fun h=>?_) (fun h=>?_)
        ·obtain⟨x12,hx12,h⟩:=bind_some h;refine gR hq [2] [] [(55,(AV.list 2 A8 ((0:Int),(0:Int)) ([((1:Int),(1:Int)),((64:Int),(1:Int)),(a1.Bits,(1:Int))]:List (Int×Int)) .exact))] [(Z5 x12)] (ci (B8 2 A8 ((0:Int),(0:Int)) ([((1:Int),(1:Int)),((64:Int),(1:Int)),(a1.Bits,(1:Int))]:List (Int×Int))) (c1 (Hx ([((1:Int),(1:Int)),((64:Int),(1:Int)),(a1.Bits,(1:Int))]:List (Int×Int)) x12 hx12))) ?_;obtain rfl:=OI h;exact C7 []
        ·refine Ag hq [1,3,5,6,18,57] [1,3,5,6] ?_;refine gC h (fun h=>?_) (fun h=>?_)
         ·obtain⟨x13,hx13,h⟩:=bind_some h;refine gR hq [2] [] [(63,(AV.list 2 A8 ((0:Int),(0:Int)) ([((1:Int),(1:Int)),(a1.Bits,(1:Int)),(a1.Bits,(1:Int)),(a1.Bits,(1:Int))]:List (Int×Int)) .exact))] [(Z5 x13)] (ci (B8 2 A8 ((0:Int),(0:Int)) ([((1:Int),(1:Int)),(a1.Bits,(1:Int)),(a1.Bits,(1:Int)),(a1.Bits,(1:Int))]:List (Int×Int))) (c1 (Hx ([((1:Int),(1:Int)),(a1.Bits,(1:Int)),(a1.Bits,(1:Int)),(a1.Bits,(1:Int))]:List (Int×Int)) x13 hx13))) ?_;obtain rfl:=OI h;exact C7 []
         ·refine Ag hq [1,5,6,18,65] [1,5,6] ?_;refine gC h (fun h=>?_) (fun h=>?_)
          ·obtain⟨x14,hx14,h⟩:=bind_some h;obtain⟨x15,hx15,h⟩:=bind_some h;refine gR hq [2] [] [(68,(AV.list 2 A8 ((0:Int),(0:Int)) ([(a1.Bits,(1:Int))]:List (Int×Int)) .exact))] [⟨[],[(20000,71)],(Z45 x14 20000),[(20000,.tok 2 35 x14.length)],[]⟩,(Z5 x15)] (ci (B8 2 A8 ((0:Int),(0:Int)) ([(a1.Bits,(1:Int))]:List (Int×Int))) (ci (Nt ([(a1.Bits,(1:Int))]:List (Int×Int)) a1.Lanes x14 hx14) (c1 (Hx x14 x15 hx15)))) ?_;obtain rfl:=OI h;exact C7 []
          ·refine Ag hq [5,73] [5] ?_;refine gC h (fun h=>?_) (fun h=>?_)
           ·obtain⟨x16,hx16,h⟩:=bind_some h;refine gR hq [2] [] [(76,(AV.list 2 A8 ((0:Int),(0:Int)) ([(a1.Bits,a1.Lanes)]:List (Int×Int)) .exact))] [(Z5 x16)] (ci (B8 2 A8 ((0:Int),(0:Int)) ([(a1.Bits,a1.Lanes)]:List (Int×Int))) (c1 (Hx ([(a1.Bits,a1.Lanes)]:List (Int×Int)) x16 hx16))) ?_;obtain rfl:=OI h;exact C7 []
           ·obtain⟨x17,hx17,h⟩:=bind_some h;refine gR hq [2] [] [(80,(AV.list 2 A8 ((0:Int),(0:Int)) ([(a1.Bits,a1.Lanes),(a1.Bits,a1.Lanes)]:List (Int×Int)) .exact))] [(Z5 x17)] (ci (B8 2 A8 ((0:Int),(0:Int)) ([(a1.Bits,a1.Lanes),(a1.Bits,a1.Lanes)]:List (Int×Int))) (c1 (Hx ([(a1.Bits,a1.Lanes),(a1.Bits,a1.Lanes)]:List (Int×Int)) x17 hx17))) ?_;obtain rfl:=OI h;exact C7 []
def Jc(aE:Int):Option Bool:=
 (some (bif (decide (((1:Int):Int)≤aE)) then(decide (aE≤1023)) else false))
theorem Rt(aE:Int)(r:Bool)(h:Jc aE=some r):Spec Tryz.prog 138 [(.int .i64 aE)] [] (.bool r) []:=by
 refine Ae mix Tryz.func138 (fun Γ hq=>?_);unfold Jc at h;refine Ag hq [0] [] ?_;refine gR hq [2] [] [] [] (ci (gI ((decide (((1:Int):Int)≤aE))==true)) (c1 (L2 (decide (((1:Int):Int)≤aE))))) ?_;cases h;exact C7 []
def Hm(a1:Dv):Int→Option (LR Int (Unit ⊕ Bool)):=
 fun(i2:Int)=>(bif (decide (i2<(a1.Args.length:Int))) then(Ba (Bb i2 a1.Args.length) ((Jc (a1.Args.getD i2.toNat 0)).bind fun x4=>(bif (!x4) then(some (.done (.inr false))) else(some (.next (w64 (i2+1))))))) else(some (.done (.inl ()))))
def Zh(Γ:H0)(a1:Dv)(r:Bool):Exit→St→Prop:=fK Tryz.prog Γ Tryz.f119.results.toList [] (.bool r) []
def Kj(a1:Dv):Option Bool:=
 ((K1 a1).bind fun x1=>(bif (((a1.Args.length:Int):Int)!=(x1.length:Int)) then(some false) else((Ah (Hm a1) (0:Int)).bind (fun x5=>(match x5 with|(.inl _)=>(some true)|(.inr r7)=>(some r7))))))
theorem Yt(a1:Dv)(r:Bool)(h:Kj a1=some r):Spec Tryz.prog 119 [(.agg (Mp a1))] [] (.bool r) []:=by
 refine Ae mix Tryz.func119 (fun Γ hq=>?_);unfold Kj at h;refine Ag hq [1] [1] ?_;obtain⟨x1,hx1,h⟩:=bind_some h;refine gR hq [1,11] [1] [] [(Z5 x1)] (c1 (U6 a1 x1 hx1)) ?_;refine gC h (fun h=>?_) (fun h=>?_)
 ·refine Ag hq [2] [] ?_;obtain rfl:=OI h;exact C7 []
 ·refine Ag hq [13,14,15] [] ?_;obtain⟨x5,hx5,h⟩:=bind_some h;refine gL hq hx5 [13,14,15] [] (fun u i2=>(Dx u [(15,(Z6 i2))] [])) (fun u x_=>match x_ with|(.inl _)=>aG Γ (.exit 0) (⟨[],[],[]⟩:St)|(.inr r_)=>aR (Zh Γ a1 r_)) ?_ ?_
  ·intro i2 y h;unfold Hm at h;refine Ag hq [13,14,15,16] [] ?_;refine gC h (fun h=>?_) (fun h=>?_)
   ·obtain⟨hc3,h⟩:=Aa h;refine gR hq [4,13,14,15] [] [] [] (c1 hc3) ?_;obtain⟨x4,hx4,h⟩:=bind_some h;refine gR hq [13,14,15,21] [] [] [(Z2 x4)] (c1 (Rt (a1.Args.getD i2.toNat 0) x4 hx4)) ?_;refine gC h (fun h=>?_) (fun h=>?_)
    ·refine Ag hq [2] [] ?_;cases h;exact gO (La (I4 [] (Le.refl _ _)))
    ·refine Ag hq [13,14,15] [] ?_;cases h;exact gN Ct
   ·cases h;exact gO (Br (Ca [] [] hq))
  ·clear hx5;rcases x5 with _|r7
   ·refine gA ?_;refine Ag hq [2] [] ?_;obtain rfl:=OI h;exact C7 []
   ·refine Mr (fun st' hk=>?_);obtain rfl:=OI h;exact gK hk
def Q63(a1:Dv):List (Nat×Own):=[(Z48 a1.Kind a1.Bits a1.Lanes a1.Dst a1.Args a1.Imm)]
def K0(a1:Dv):Option (Int×Int):=
 (Option.bind (α:=Bool) (bif (a1.Kind==17) then(some (a1.Kind==17)) else(some (a1.Kind==19))) (fun x2=>(bif x2 then(some ((0:Int),(0:Int))) else(Option.bind (α:=Bool) (bif (a1.Kind==10) then(some (a1.Kind==10)) else(bif (a1.Kind==11) then(some (a1.Kind==11)) else(some (a1.Kind==12)))) (fun x5=>(bif x5 then(some ((1:Int),(1:Int))) else(bif (a1.Kind==22) then(some (a1.Bits,(1:Int))) else(some (a1.Bits,a1.Lanes)))))))))
theorem U5(a1:Dv)(r:(Int×Int))(h:K0 a1=some r):Spec Tryz.prog 107 [(.agg (Mp a1))] [] (.tuple [(.int .i64 r.1),(.int .i64 r.2)]) []:=by
 refine Ae mix Tryz.func107 (fun Γ hq=>?_);unfold K0 at h;refine Ag hq [1] [1] ?_;refine Ag hq [1,5] [1] ?_;obtain⟨x2,hx2,h⟩:=bind_some h;refine gJ hx2 (fun b1=>aG Γ .normal (⟨[Uy,(5,(Z6 a1.Kind)),(6,(.bool b1))],(Q63 a1),[]⟩:St)) ?_ ?_
 ·clear h hx2;intro y h;refine Ag hq [1,5,6] [1] ?_;refine gC h (fun h=>?_) (fun h=>?_)
  ·cases h;exact gK (Br Ct)
  ·refine Ag hq [1,5,6] [1] ?_;cases h;exact gK (Br Ct)
 ·clear hx2;refine gA ?_;refine gC h (fun h=>?_) (fun h=>?_)
  ·refine Ag hq [2,3] [] ?_;cases h;exact C7 []
  ·obtain⟨x5,hx5,h⟩:=bind_some h;refine gJ hx5 (fun b4=>aG Γ .normal (⟨[Uy,(5,(Z6 a1.Kind)),(9,(.bool b4))],(Q63 a1),[]⟩:St)) ?_ ?_
   ·clear h hx5;intro y h;refine Ag hq [1,5,9] [1] ?_;refine gC h (fun h=>?_) (fun h=>?_)
    ·cases h;exact gK (Br Ct)
    ·refine Ag hq [1,5,9] [1] ?_;refine gC h (fun h=>?_) (fun h=>?_)
     ·cases h;exact gK (Br Ct)
     ·refine Ag hq [1,5,9] [1] ?_;cases h;exact gK (Br Ct)
   ·clear hx5;refine gA ?_;refine gC h (fun h=>?_) (fun h=>?_)
    ·refine Ag hq [2,3] [] ?_;cases h;exact C7 []
    ·refine Ag hq [1,13] [1] ?_;refine gC h (fun h=>?_) (fun h=>?_)
     ·refine Ag hq [2,3] [] ?_;cases h;exact C7 []
     ·refine Ag hq [2,3] [] ?_;cases h;exact C7 []
def Kk(a1:Dv):Option Bool:=
 ((K0 a1).bind fun x1=>(bif (x1.1==0) then(some (a1.Dst==0)) else((Jc a1.Dst).bind fun x2=>(some x2))))
theorem Yu(a1:Dv)(r:Bool)(h:Kk a1=some r):Spec Tryz.prog 120 [(.agg (Mp a1))] [] (.bool r) []:=by
 refine Ae mix Tryz.func120 (fun Γ hq=>?_);unfold Kk at h;refine Ag hq [1] [1] ?_;obtain⟨x1,hx1,h⟩:=bind_some h;refine gR hq [1,3] [1] [] [(Z68 x1.1 x1.2)] (c1 (U5 a1 x1 hx1)) ?_;refine Ag hq [1,11] [1] ?_;refine gC h (fun h=>?_) (fun h=>?_)
 ·refine Ag hq [2] [] ?_;cases h;exact C7 []
 ·obtain⟨x2,hx2,h⟩:=bind_some h;refine gR hq [2] [] [] [(Z2 x2)] (c1 (Rt a1.Dst x2 hx2)) ?_;obtain rfl:=OI h;exact C7 []
def Q64(x1:Bool)(x2:Bool):=(bif (!x1) then true else(!x2))
def Lw(a1:Dv):Option Bool:=
 ((Ln a1.Kind).bind fun x1=>((bif ((!x1)==false) then Me a1.Bits a1.Lanes else some false).bind fun x2=>((bif ((bif (!x1) then true else(!x2))==false) then Je a1 else some false).bind fun x3=>((bif ((bif (bif (!x1) then true else(!x2)) then true else(!x3))==false) then Kl a1 else some false).bind fun x4=>(bif (bif (bif (bif (!x1) then true else(!x2)) then true else(!x3)) then true else(!x4)) then(some false) else((Kj a1).bind fun x5=>((bif (x5==true) then Kk a1 else some false).bind fun x6=>(some (bif x5 then x6 else false)))))))))
theorem Tg(a1:Dv)(r:Bool)(h:Lw a1=some r):Spec Tryz.prog 105 [(.agg (Mp a1))] [] (.bool r) []:=by
 refine Ae mix Tryz.func105 (fun Γ hq=>?_);unfold Lw at h;refine Ag hq [1] [1] ?_;obtain⟨x1,hx1,h⟩:=bind_some h;obtain⟨x2,hx2,h⟩:=bind_some h;obtain⟨x3,hx3,h⟩:=bind_some h;obtain⟨x4,hx4,h⟩:=bind_some h;refine gR hq [1,24] [1] [] [(Z2 x1),(Z2 x2),(Z2 x3),(Z2 x4)] (ci (ok_kind_isKind a1.Kind x1 hx1) (ci (gI ((!x1)==false)) (ci (gI ((!x1)==false)) (ci (gI ((!x1)==false)) (ci (gI ((!x1)==false)) (ci (fun(hg:((!x1)==false)=true)=>(ok_kind_Shape a1.Bits a1.Lanes x2 (Bw hg hx2))) (ci (gI ((!x1)==false)) (ci (Kb (!x1)) (ci (gI ((Q64 x1 x2)==false)) (ci (fun(hg:((Q64 x1 x2)==false)=true)=>(Wi a1 x3 (Bw hg hx3))) (ci (gI ((Q64 x1 x2)==false)) (ci (Kb (Q64 x1 x2)) (ci (gI ((bif (Q64 x1 x2) then true else(!x3))==false)) (ci (fun(hg:((bif (Q64 x1 x2) then true else(!x3))==false)=true)=>(Yv a1 x4 (Bw hg hx4))) (ci (gI ((bif (Q64 x1 x2) then true else(!x3))==false)) (c1 (Kb (bif (Q64 x1 x2) then true else(!x3))))))))))))))))))) ?_;refine gC h (fun h=>?_) (fun h=>?_)
 ·refine Ag hq [2] [] ?_;obtain rfl:=OI h;exact C7 []
 ·obtain⟨x5,hx5,h⟩:=bind_some h;obtain⟨x6,hx6,h⟩:=bind_some h;refine gR hq [2] [] [] [(Z2 x5),(Z2 x6)] (ci (Yt a1 x5 hx5) (ci (gI (x5==true)) (ci (fun(hg:(x5==true)=true)=>(Yu a1 x6 (Bw hg hx6))) (c1 (L2 x5))))) ?_;cases h;exact C7 []
def Mc(a1:Dv)(aQ:Int):Option Bool:=
 (bif (aQ==0) then(some (bif (decide (a1.Kind≤17)) then(a1.Lanes==1) else false)) else(bif (aQ==1) then(some (bif (decide (a1.Kind≤20)) then(a1.Lanes==1) else false)) else(some true)))
theorem ok_check_isOf(a1:Dv)(aQ:Int)(r:Bool)(h:Mc a1 aQ=some r):Spec Tryz.prog 106 [(.agg (Mp a1)),(.int .i64 aQ)] [] (.bool r) []:=by
 refine Ae mix Tryz.func106 (fun Γ hq=>?_);unfold Mc at h;refine Ag hq [1,2] [2] ?_;refine Ag hq [2,5] [2] ?_;refine Ag hq [2,5,6] [2] ?_;refine gC h (fun h=>?_) (fun h=>?_)
 ·refine gR hq [4] [] [] [] (ci (gI ((decide (a1.Kind≤17))==true)) (ci (gI ((decide (a1.Kind≤17))==true)) (c1 (L2 (decide (a1.Kind≤17)))))) ?_;cases h;exact C7 []
 ·refine Ag hq [2,16] [2] ?_;refine gC h (fun h=>?_) (fun h=>?_)
  ·refine gR hq [4] [] [] [] (ci (gI ((decide (a1.Kind≤20))==true)) (ci (gI ((decide (a1.Kind≤20))==true)) (c1 (L2 (decide (a1.Kind≤20)))))) ?_;cases h;exact C7 []
  ·refine Ag hq [4] [] ?_;obtain rfl:=OI h;exact C7 []
def Fu(a1:Dv)(a4:Ab)(aA:Int)(aB:List Int)(a7:List An):Option (Bool×Ab×Int×List Int×List An):=
 ((Lw a1).bind fun x1=>((bif (x1==true) then Mc a1 aA else some false).bind fun x2=>(some ((bif x1 then x2 else false),a4,aA,aB,a7))))
theorem Pn(a1:Dv)(a4:Ab)(aA:Int)(aB:List Int)(a7:List An)(r:(Bool×Ab×Int×List Int×List An))(h:Fu a1 a4 aA aB a7=some r):Spec Tryz.prog 85 [(.ptr 30000 0),(.agg (Mp a1))] [(30000,.row 59 [(AV.list 1 Ak 0 a4.Params .none),(.int .i64 a4.Ret),(AV.list 5 A2 default a4.Blocks .none),(.int .i64 aA),(AV.list 1 Ak 0 aB .none),.nilm,(AV.list 5 C6 default a7 (.own 37006))]),(37006,.tok 5 104 a7.length)] (.bool r.1) [(30000,.row 59 [(AV.list 1 Ak 0 r.2.1.Params .none),(.int .i64 r.2.1.Ret),(AV.list 5 A2 default r.2.1.Blocks .none),(.int .i64 r.2.2.1),(AV.list 1 Ak 0 r.2.2.2.1 .none),.nilm,(AV.list 5 C6 default r.2.2.2.2 (.own 37006))]),(37006,.tok 5 104 r.2.2.2.2.length)]:=by
 refine Ae mix Tryz.func85 (fun Γ hq=>?_);unfold Fu at h;refine Ag hq [0,3] [3,30000,37006] ?_;obtain⟨x1,hx1,h⟩:=bind_some h;obtain⟨x2,hx2,h⟩:=bind_some h;refine gR hq [4] [30000,37006] [] [(Z2 x1),(Z2 x2)] (ci (Tg a1 x1 hx1) (ci (gI (x1==true)) (ci (gI (x1==true)) (ci (gI (x1==true)) (ci (gI (x1==true)) (ci (gI (x1==true)) (ci (fun(hg:(x1==true)=true)=>(ok_check_isOf a1 aA x2 (Bw hg hx2))) (c1 (L2 x1))))))))) ?_;cases h;exact C7 [(30000,30000),(37006,37006)]
def E8(aC:List Dv):(Int×List Int×Int×List Ad×Int×List Int×List An)→Option (LR (Int×List Int×Int×List Ad×Int×List Int×List An) ((List Int×Int×List Ad×Int×List Int×List An) ⊕ (Bool×Ab×Int×List Int×List An))):=
 fun((i1,l2,i3,l4,i5,l6,l7):(Int×List Int×Int×List Ad×Int×List Int×List An))=>(bif (decide (i1<(aC.length:Int))) then(Ba (Bb i1 aC.length) ((Fu (aC.getD i1.toNat default) (⟨l2,i3,l4⟩:Ab) i5 l6 l7).bind fun x15=>(bif (!x15.1) then(some (.done (.inr (false,x15.2.1,x15.2.2.1,x15.2.2.2.1,x15.2.2.2.2)))) else(some (.next ((w64 (i1+1)),x15.2.1.Params,x15.2.1.Ret,x15.2.1.Blocks,x15.2.2.1,x15.2.2.2.1,x15.2.2.2.2)))))) else(some (.done (.inl (l2,i3,l4,i5,l6,l7)))))
def Vb(Γ:H0)(aC:List Dv)(a4:Ab)(aA:Int)(aB:List Int)(a7:List An)(r:(Bool×Ab×Int×List Int×List An)):Exit→St→Prop:=fK Tryz.prog Γ Tryz.f84.results.toList (Z3 a4.Params a4.Ret a4.Blocks aA aB a7 a7.length) (.bool r.1) (Z3 r.2.1.Params r.2.1.Ret r.2.1.Blocks r.2.2.1 r.2.2.2.1 r.2.2.2.2 r.2.2.2.2.length)
def H5(aC:List Dv)(a4:Ab)(aA:Int)(aB:List Int)(a7:List An):Option (Bool×Ab×Int×List Int×List An):=
 ((Ah (E8 aC) ((0:Int),a4.Params,a4.Ret,a4.Blocks,aA,aB,a7)).bind (fun x16=>(match x16 with|(.inl (l8,i9,l10,i11,l12,l13))=>(some (true,(⟨l8,i9,l10⟩:Ab),i11,l12,l13))|(.inr r18)=>(some r18))))
theorem Uv(aC:List Dv)(a4:Ab)(aA:Int)(aB:List Int)(a7:List An)(r:(Bool×Ab×Int×List Int×List An))(h:H5 aC a4 aA aB a7=some r):Spec Tryz.prog 84 [(AV.list 6 Mp default aC .none),(.clo 85 [(.ptr 30000 0)] [])] [(30000,.row 59 [(AV.list 1 Ak 0 a4.Params .none),(.int .i64 a4.Ret),(AV.list 5 A2 default a4.Blocks .none),(.int .i64 aA),(AV.list 1 Ak 0 aB .none),.nilm,(AV.list 5 C6 default a7 (.own 37006))]),(37006,.tok 5 104 a7.length)] (.bool r.1) [(30000,.row 59 [(AV.list 1 Ak 0 r.2.1.Params .none),(.int .i64 r.2.1.Ret),(AV.list 5 A2 default r.2.1.Blocks .none),(.int .i64 r.2.2.1),(AV.list 1 Ak 0 r.2.2.2.1 .none),.nilm,(AV.list 5 C6 default r.2.2.2.2 (.own 37006))]),(37006,.tok 5 104 r.2.2.2.2.length)]:=by
 refine Ae mix Tryz.func84 (fun Γ hq=>?_);unfold H5 at h;refine Ag hq [0,1] [30000,37006] ?_;refine Ag hq [1,7,8,9] [30000,37006] ?_;obtain⟨x16,hx16,h⟩:=bind_some h;refine gL hq hx16 [1,7,8,9] [30000,37006] (fun u (i1,l2,i3,l4,i5,l6,l7)=>(Dx u [(9,(Z6 i1))] (Z3 l2 i3 l4 i5 l6 l7 l7.length))) (fun u x_=>match x_ with|(.inl (l8,i9,l10,i11,l12,l13))=>aG Γ (.exit 0) (⟨[],(Z3 l8 i9 l10 i11 l12 l13 l13.length),[]⟩:St)|(.inr r_)=>aR (Vb Γ aC a4 aA aB a7 r_)) ?_ ?_
 ·rintro⟨i1,l2,i3,l4,i5,l6,l7⟩ y h;unfold E8 at h;refine Ag hq [1,7,8,9,10] [30000,37006] ?_;refine gC h (fun h=>?_) (fun h=>?_)
  ·obtain⟨hc14,h⟩:=Aa h;refine gR hq [1,6,7,8,9] [6,30000,37006] [] [] (c1 hc14) ?_;obtain⟨x15,hx15,h⟩:=bind_some h;refine gR hq [1,7,8,9,16] [30000,37006] [] [(Z62 x15.1 x15.2.1.Params x15.2.1.Ret x15.2.1.Blocks x15.2.2.1 x15.2.2.2.1 x15.2.2.2.2 x15.2.2.2.2.length)] (c1 (Pn (aC.getD i1.toNat default) (⟨l2,i3,l4⟩:Ab) i5 l6 l7 x15 hx15)) ?_;refine gC h (fun h=>?_) (fun h=>?_)
   ·refine Ag hq [4] [30000,37006] ?_;cases h;exact gO (La (I4 [(30000,30000),(37006,37006)] (Le.refl _ _)))
   ·refine Ag hq [1,7,8,9] [30000,37006] ?_;cases h;exact gN Ct
  ·cases h;exact gO (Br (Ca [] [30000,37006] hq))
 ·clear hx16;rcases x16 with⟨l8,i9,l10,i11,l12,l13⟩|r18
  ·refine gA ?_;refine Ag hq [4] [30000,37006] ?_;cases h;exact C7 [(30000,30000),(37006,37006)]
  ·refine Mr (fun st' hk=>?_);obtain rfl:=OI h;exact gK hk
def Q67(x1:Bool)(x2:(Bool×Ab×Int×List Int×List An))(aB:List Int):AV:=(Z51 x1 x2.2.2.2.1 aB)
def Q66(x1:Bool)(x2:(Bool×Ab×Int×List Int×List An))(a4:Ab):AV:=(Z51 x1 x2.2.1.Params a4.Params)
def Q65(x1:Bool)(x2:(Bool×Ab×Int×List Int×List An))(a4:Ab):AV:=(.slice 5 (bif (x1==true) then x2.2.1.Blocks.length else a4.Blocks.length) (fun i=>bif (x1==true) then A2 (x2.2.1.Blocks.getD i default) else A2 (a4.Blocks.getD i default)) .none)
def Ei(aM:Ad)(a4:Ab)(aA:Int)(aB:List Int)(a7:List An):Option (Bool×Ab×Int×List Int×List An):=
 ((Hq aM.Phis).bind fun x1=>((bif (x1==true) then H5 aM.Ops a4 aA aB a7 else some (false,(default:Ab),(0:Int),[],[])).bind fun x2=>(some ((bif x1 then x2.1 else false),(⟨(bif (x1==true) then x2.2.1.Params else a4.Params),(bif (x1==true) then x2.2.1.Ret else a4.Ret),(bif (x1==true) then x2.2.1.Blocks else a4.Blocks)⟩:Ab),(bif (x1==true) then x2.2.2.1 else aA),(bif (x1==true) then x2.2.2.2.1 else aB),(bif (x1==true) then x2.2.2.2.2 else a7)))))
theorem Nz(aM:Ad)(a4:Ab)(aA:Int)(aB:List Int)(a7:List An)(r:(Bool×Ab×Int×List Int×List An))(h:Ei aM a4 aA aB a7=some r):Spec Tryz.prog 57 [(.ptr 30000 0),(.agg (A2 aM))] [(30000,.row 59 [(AV.list 1 Ak 0 a4.Params .none),(.int .i64 a4.Ret),(AV.list 5 A2 default a4.Blocks .none),(.int .i64 aA),(AV.list 1 Ak 0 aB .none),.nilm,(AV.list 5 C6 default a7 (.own 37006))]),(37006,.tok 5 104 a7.length)] (.bool r.1) [(30000,.row 59 [(AV.list 1 Ak 0 r.2.1.Params .none),(.int .i64 r.2.1.Ret),(AV.list 5 A2 default r.2.1.Blocks .none),(.int .i64 r.2.2.1),(AV.list 1 Ak 0 r.2.2.2.1 .none),.nilm,(AV.list 5 C6 default r.2.2.2.2 (.own 37006))]),(37006,.tok 5 104 r.2.2.2.2.length)]:=by
 refine Ae mix Tryz.func57 (fun Γ hq=>?_);unfold Ei at h;refine Ag hq [0,3] [3,30000,37006] ?_;obtain⟨x1,hx1,h⟩:=bind_some h;obtain⟨x2,hx2,h⟩:=bind_some h;refine gR hq [4] [30000,37006] [] [(Z2 x1),(Z62 x2.1 x2.2.1.Params x2.2.1.Ret x2.2.1.Blocks x2.2.2.1 x2.2.2.2.1 x2.2.2.2.2 x2.2.2.2.2.length)] (ci (Tc aM.Phis x1 hx1) (ci (gI (x1==true)) (ci (gI (x1==true)) (ci (gI (x1==true)) (ci (gI (x1==true)) (ci (fun(hg:(x1==true)=true)=>(Uv aM.Ops a4 aA aB a7 x2 (Bw hg hx2))) (c1 (L2 x1)))))))) ?_;cases h;exact gK (e:=.ret) (I4 [(30000,30000),(37006,37006)] (Le.trans (leB (fun g_ u=>(Dx u [] [(30000,.row 59 [(Q66 x1 x2 a4),(.int .i64 (bif (x1==true) then x2.2.1.Ret else a4.Ret)),(Q65 x1 x2 a4),(.int .i64 (bif (x1==true) then x2.2.2.1 else aA)),(Q67 x1 x2 aB),.nilm,(Z27 g_ x2.2.2.2.2 a7)]),(37006,.tok 5 104 (bif g_ then x2.2.2.2.2.length else a7.length))])) (fun g_ u=>(Dx u [] [(30000,.row 59 [(Q66 x1 x2 a4),(.int .i64 (bif (x1==true) then x2.2.1.Ret else a4.Ret)),(Q65 x1 x2 a4),(.int .i64 (bif (x1==true) then x2.2.2.1 else aA)),(Q67 x1 x2 aB),.nilm,(AV.list 5 C6 default (bif g_ then x2.2.2.2.2 else a7) (.own 37006))]),(37006,.tok 5 104 ((bif g_ then x2.2.2.2.2 else a7).length))])) (x1==true)) (Le.trans (leC 30000 0 (show AVle (Q66 x1 x2 a4) (AV.list 1 Ak 0 (bif (x1==true) then x2.2.1.Params else a4.Params) .none) from Ij)) (Le.trans (leC 30000 2 (show AVle (Q65 x1 x2 a4) (AV.list 5 A2 default (bif (x1==true) then x2.2.1.Blocks else a4.Blocks) .none) from Ij)) (leC 30000 4 (show AVle (Q67 x1 x2 aB) (AV.list 1 Ak 0 (bif (x1==true) then x2.2.2.2.1 else aB) .none) from Ij))))))
def Dy(aC:List Ad):(Int×List Int×Int×List Ad×Int×List Int×List An)→Option (LR (Int×List Int×Int×List Ad×Int×List Int×List An) ((List Int×Int×List Ad×Int×List Int×List An) ⊕ (Bool×Ab×Int×List Int×List An))):=
 fun((i1,l2,i3,l4,i5,l6,l7):(Int×List Int×Int×List Ad×Int×List Int×List An))=>(bif (decide (i1<(aC.length:Int))) then(Ba (Bb i1 aC.length) ((Ei (aC.getD i1.toNat default) (⟨l2,i3,l4⟩:Ab) i5 l6 l7).bind fun x15=>(bif (!x15.1) then(some (.done (.inr (false,x15.2.1,x15.2.2.1,x15.2.2.2.1,x15.2.2.2.2)))) else(some (.next ((w64 (i1+1)),x15.2.1.Params,x15.2.1.Ret,x15.2.1.Blocks,x15.2.2.1,x15.2.2.2.1,x15.2.2.2.2)))))) else(some (.done (.inl (l2,i3,l4,i5,l6,l7)))))
def Rx(Γ:H0)(aC:List Ad)(a4:Ab)(aA:Int)(aB:List Int)(a7:List An)(r:(Bool×Ab×Int×List Int×List An)):Exit→St→Prop:=fK Tryz.prog Γ Tryz.f56.results.toList (Z3 a4.Params a4.Ret a4.Blocks aA aB a7 a7.length) (.bool r.1) (Z3 r.2.1.Params r.2.1.Ret r.2.1.Blocks r.2.2.1 r.2.2.2.1 r.2.2.2.2 r.2.2.2.2.length)
def Gl(aC:List Ad)(a4:Ab)(aA:Int)(aB:List Int)(a7:List An):Option (Bool×Ab×Int×List Int×List An):=
 ((Ah (Dy aC) ((0:Int),a4.Params,a4.Ret,a4.Blocks,aA,aB,a7)).bind (fun x16=>(match x16 with|(.inl (l8,i9,l10,i11,l12,l13))=>(some (true,(⟨l8,i9,l10⟩:Ab),i11,l12,l13))|(.inr r18)=>(some r18))))
theorem Qq(aC:List Ad)(a4:Ab)(aA:Int)(aB:List Int)(a7:List An)(r:(Bool×Ab×Int×List Int×List An))(h:Gl aC a4 aA aB a7=some r):Spec Tryz.prog 56 [(AV.list 5 A2 default aC .none),(.clo 57 [(.ptr 30000 0)] [])] [(30000,.row 59 [(AV.list 1 Ak 0 a4.Params .none),(.int .i64 a4.Ret),(AV.list 5 A2 default a4.Blocks .none),(.int .i64 aA),(AV.list 1 Ak 0 aB .none),.nilm,(AV.list 5 C6 default a7 (.own 37006))]),(37006,.tok 5 104 a7.length)] (.bool r.1) [(30000,.row 59 [(AV.list 1 Ak 0 r.2.1.Params .none),(.int .i64 r.2.1.Ret),(AV.list 5 A2 default r.2.1.Blocks .none),(.int .i64 r.2.2.1),(AV.list 1 Ak 0 r.2.2.2.1 .none),.nilm,(AV.list 5 C6 default r.2.2.2.2 (.own 37006))]),(37006,.tok 5 104 r.2.2.2.2.length)]:=by
 refine Ae mix Tryz.func56 (fun Γ hq=>?_);unfold Gl at h;refine Ag hq [0,1] [30000,37006] ?_;refine Ag hq [1,7,8,9] [30000,37006] ?_;obtain⟨x16,hx16,h⟩:=bind_some h;refine gL hq hx16 [1,7,8,9] [30000,37006] (fun u (i1,l2,i3,l4,i5,l6,l7)=>(Dx u [(9,(Z6 i1))] (Z3 l2 i3 l4 i5 l6 l7 l7.length))) (fun u x_=>match x_ with|(.inl (l8,i9,l10,i11,l12,l13))=>aG Γ (.exit 0) (⟨[],(Z3 l8 i9 l10 i11 l12 l13 l13.length),[]⟩:St)|(.inr r_)=>aR (Rx Γ aC a4 aA aB a7 r_)) ?_ ?_
 ·rintro⟨i1,l2,i3,l4,i5,l6,l7⟩ y h;unfold Dy at h;refine Ag hq [1,7,8,9,10] [30000,37006] ?_;refine gC h (fun h=>?_) (fun h=>?_)
  ·obtain⟨hc14,h⟩:=Aa h;refine gR hq [1,6,7,8,9] [6,30000,37006] [] [] (c1 hc14) ?_;obtain⟨x15,hx15,h⟩:=bind_some h;refine gR hq [1,7,8,9,16] [30000,37006] [] [(Z62 x15.1 x15.2.1.Params x15.2.1.Ret x15.2.1.Blocks x15.2.2.1 x15.2.2.2.1 x15.2.2.2.2 x15.2.2.2.2.length)] (c1 (Nz (aC.getD i1.toNat default) (⟨l2,i3,l4⟩:Ab) i5 l6 l7 x15 hx15)) ?_;refine gC h (fun h=>?_) (fun h=>?_)
   ·refine Ag hq [4] [30000,37006] ?_;cases h;exact gO (La (I4 [(30000,30000),(37006,37006)] (Le.refl _ _)))
   ·refine Ag hq [1,7,8,9] [30000,37006] ?_;cases h;exact gN Ct
  ·cases h;exact gO (Br (Ca [] [30000,37006] hq))
 ·clear hx16;rcases x16 with⟨l8,i9,l10,i11,l12,l13⟩|r18
  ·refine gA ?_;refine Ag hq [4] [30000,37006] ?_;cases h;exact C7 [(30000,30000),(37006,37006)]
  ·refine Mr (fun st' hk=>?_);obtain rfl:=OI h;exact gK hk
def Q68(x1:Bool)(x2:Bool):=((bif x1 then x2 else false)==true)
def Q71(x1:Bool)(x2:Bool)(x3:(Bool×Ab×Int×List Int×List An))(aB:List Int):AV:=(Z15 (Q68 x1 x2) x3.2.2.2.1 aB)
def Q70(x1:Bool)(x2:Bool)(x3:(Bool×Ab×Int×List Int×List An))(a4:Ab):AV:=(Z15 (Q68 x1 x2) x3.2.1.Params a4.Params)
def Q69(x1:Bool)(x2:Bool)(x3:(Bool×Ab×Int×List Int×List An))(a4:Ab):AV:=(Z50 (Q68 x1 x2) x3.2.1.Blocks a4.Blocks)
def Gm(a4:Ab)(aA:Int)(aB:List Int)(a7:List An):Option (Int×Ab×Int×List Int×List An):=
 ((Ju a4.Params).bind fun x1=>((bif (x1==true) then H8 a4.Ret else some false).bind fun x2=>((bif ((bif x1 then x2 else false)==true) then Gl a4.Blocks a4 aA aB a7 else some (false,(default:Ab),(0:Int),[],[])).bind fun x3=>((I8 (bif (bif x1 then x2 else false) then x3.1 else false) (6:Int)).bind fun x4=>(some (x4,(⟨(bif ((bif x1 then x2 else false)==true) then x3.2.1.Params else a4.Params),(bif ((bif x1 then x2 else false)==true) then x3.2.1.Ret else a4.Ret),(bif ((bif x1 then x2 else false)==true) then x3.2.1.Blocks else a4.Blocks)⟩:Ab),(bif ((bif x1 then x2 else false)==true) then x3.2.2.1 else aA),(bif ((bif x1 then x2 else false)==true) then x3.2.2.2.1 else aB),(bif ((bif x1 then x2 else false)==true) then x3.2.2.2.2 else a7)))))))
theorem Qr(a4:Ab)(aA:Int)(aB:List Int)(a7:List An)(r:(Int×Ab×Int×List Int×List An))(h:Gm a4 aA aB a7=some r):Spec Tryz.prog 32 [(.ptr 30000 0)] [(30000,.row 59 [(AV.list 1 Ak 0 a4.Params .none),(.int .i64 a4.Ret),(AV.list 5 A2 default a4.Blocks .none),(.int .i64 aA),(AV.list 1 Ak 0 aB .none),.nilm,(AV.list 5 C6 default a7 (.own 37006))]),(37006,.tok 5 104 a7.length)] (.int .i64 r.1) [(30000,.row 59 [(AV.list 1 Ak 0 r.2.1.Params .none),(.int .i64 r.2.1.Ret),(AV.list 5 A2 default r.2.1.Blocks .none),(.int .i64 r.2.2.1),(AV.list 1 Ak 0 r.2.2.2.1 .none),.nilm,(AV.list 5 C6 default r.2.2.2.2 (.own 37006))]),(37006,.tok 5 104 r.2.2.2.2.length)]:=by
 refine Ae mix Tryz.func32 (fun Γ hq=>?_);unfold Gm at h;refine Ag hq [0] [30000,37006] ?_;obtain⟨x1,hx1,h⟩:=bind_some h;obtain⟨x2,hx2,h⟩:=bind_some h;obtain⟨x3,hx3,h⟩:=bind_some h;refine gR hq [3] [30000,37006] [] [(Z2 x1),(Z2 x2),(Z62 x3.1 x3.2.1.Params x3.2.1.Ret x3.2.1.Blocks x3.2.2.1 x3.2.2.2.1 x3.2.2.2.2 x3.2.2.2.2.length)] (ci (Xf a4.Params x1 hx1) (ci (gI (x1==true)) (ci (gI (x1==true)) (ci (gI (x1==true)) (ci (gI (x1==true)) (ci (gI (x1==true)) (ci (fun(hg:(x1==true)=true)=>(Kq a4.Ret x2 (Bw hg hx2))) (ci (L2 x1) (ci (gI (Q68 x1 x2)) (ci (gI (Q68 x1 x2)) (ci (gI (Q68 x1 x2)) (ci (gI (Q68 x1 x2)) (ci (gI (Q68 x1 x2)) (ci (gI (Q68 x1 x2)) (ci (gI (Q68 x1 x2)) (ci (fun(hg:(Q68 x1 x2)=true)=>(Qq a4.Blocks a4 aA aB a7 x3 (Bw hg hx3))) (c1 (L2 (bif x1 then x2 else false))))))))))))))))))) ?_;refine Kw (Le.trans (leB (fun g_ u=>(Dx u [] [(30000,.row 59 [(Q70 x1 x2 x3 a4),(Z58 (Q68 x1 x2) x3.2.1.Ret a4.Ret),(Q69 x1 x2 x3 a4),(Z58 (Q68 x1 x2) x3.2.2.1 aA),(Q71 x1 x2 x3 aB),.nilm,(Z27 g_ x3.2.2.2.2 a7)]),(37006,.tok 5 104 (bif g_ then x3.2.2.2.2.length else a7.length))])) (fun g_ u=>(Dx u [] [(30000,.row 59 [(Q70 x1 x2 x3 a4),(Z58 (Q68 x1 x2) x3.2.1.Ret a4.Ret),(Q69 x1 x2 x3 a4),(Z58 (Q68 x1 x2) x3.2.2.1 aA),(Q71 x1 x2 x3 aB),.nilm,(AV.list 5 C6 default (bif g_ then x3.2.2.2.2 else a7) (.own 37006))]),(37006,.tok 5 104 ((bif g_ then x3.2.2.2.2 else a7).length))])) (Q68 x1 x2)) (Le.trans (leC 30000 0 (show AVle (Q70 x1 x2 x3 a4) (AV.list 1 Ak 0 (bif (Q68 x1 x2) then x3.2.1.Params else a4.Params) .none) from Ij)) (Le.trans (leC 30000 2 (show AVle (Q69 x1 x2 x3 a4) (AV.list 5 A2 default (bif (Q68 x1 x2) then x3.2.1.Blocks else a4.Blocks) .none) from Ij)) (leC 30000 4 (show AVle (Q71 x1 x2 x3 aB) (AV.list 1 Ak 0 (bif (Q68 x1 x2) then x3.2.2.2.1 else aB) .none) from Ij))))) ?_;obtain⟨x4,hx4,h⟩:=bind_some h;refine gR hq [2] [30000,37006] [] [(Z33 x4)] (c1 (Rq (bif (bif x1 then x2 else false) then x3.1 else false) (6:Int) x4 hx4)) ?_;cases h;exact C7 [(30000,30000),(37006,37006)]
def Dw(a8:Int):Option (Int×Int):=
 (some (a8,(1:Int)))
theorem Jy(a8:Int)(r:(Int×Int))(h:Dw a8=some r):Spec Tryz.prog 58 [(.int .i64 a8)] [] (.agg (A8 r)) []:=by
 refine Ae mix Tryz.func58 (fun Γ hq=>?_);unfold Dw at h;refine Ag hq [0,2] [2] ?_;refine Ag hq [2] [2] ?_;cases h;exact C7 []
def Q72:=(fun(v_:Aj)=>((Z36 v_):AV))
def Ew(aE:Int)(aY:(Int×Int))(aK:Hu)(a4:Ab)(aA:Int)(aB:List Int)(a9:List (Int×Aj))(a7:List An):Option (Bool×Ab×Int×List Int×List An×List (Int×Aj)):=
 (bif (bif (bif (Gh a9 aE) then true else(decide (aE<1))) then true else(decide (((1023:Int):Int)<aE))) then(some (false,a4,aA,aB,a7,a9)) else(some (true,a4,aA,aB,a7,(J4 a9 aE (⟨aY,aK⟩:Aj)))))
theorem L3(aE:Int)(aY:(Int×Int))(aK:Hu)(a4:Ab)(aA:Int)(aB:List Int)(a9:List (Int×Aj))(a7:List An)(r:(Bool×Ab×Int×List Int×List An×List (Int×Aj)))(h:Ew aE aY aK a4 aA aB a9 a7=some r):Spec Tryz.prog 86 [(.ptr 30000 0),(.int .i64 aE),(.agg (A8 aY)),(.agg (Y4 aK))] [(30000,.row 59 [(AV.list 1 Ak 0 a4.Params .none),(.int .i64 a4.Ret),(AV.list 5 A2 default a4.Blocks .none),(.int .i64 aA),(AV.list 1 Ak 0 aB .none),(.omap 9100005),(AV.list 5 C6 default a7 (.own 37006))]),(37006,.tok 5 104 a7.length),(9100005,.obj (.map true .i64 (mapE (fun(v_:Aj)=>((.agg (Eu v_)):AV)) a9)))] (.bool r.1) [(30000,.row 59 [(AV.list 1 Ak 0 r.2.1.Params .none),(.int .i64 r.2.1.Ret),(AV.list 5 A2 default r.2.1.Blocks .none),(.int .i64 r.2.2.1),(AV.list 1 Ak 0 r.2.2.2.1 .none),(.omap 9100005),(AV.list 5 C6 default r.2.2.2.2.1 (.own 37006))]),(37006,.tok 5 104 r.2.2.2.2.1.length),(9100005,.obj (.map true .i64 (mapE (fun(v_:Aj)=>((.agg (Eu v_)):AV)) r.2.2.2.2.2)))]:=by
 refine Ae mix Tryz.func86 (fun Γ hq=>?_);unfold Ew at h;refine Ag hq [0,1,6,7] [6,7,30000,37006,9100005] ?_;refine gR hq [0,1,6,7,10] [6,7,30000,37006,9100005] [(17,(.tuple [(Z32 a9 aE),(.bool (Gh a9 aE))]))] [] (c1 (show(AVle (.tuple [Fh (.agg [Nd,Nd,Nd,Nd]) (mapE Q72 a9) aE,.bool (Gh (mapE Q72 a9) aE)]) (.tuple [(Z32 a9 aE),(.bool (Gh a9 aE))])) from(mlook_le (f:=Q72) (l:=a9) (AVle.refl _) rfl))) ?_;refine gR hq [0,1,6,7,28] [6,7,30000,37006,9100005] [] [] (ci (gI ((Gh a9 aE)==false)) (ci (Kb (Gh a9 aE)) (ci (gI ((bif (Gh a9 aE) then true else(decide (aE<1)))==false)) (c1 (Kb (bif (Gh a9 aE) then true else(decide (aE<1)))))))) ?_;refine gC h (fun h=>?_) (fun h=>?_)
 ·refine Ag hq [8] [30000,37006,9100005] ?_;cases h;exact C7 [(30000,30000),(37006,37006),(9100005,9100005)]
 ·refine Ag hq [] [30000,37006,9100005] ?_;refine Kw (Ox (fun(k_:List (Int×AV)) u=>Dx u [] [(9100005,.obj (.map true .i64 k_))]) (show(J4 (mapE Q72 a9) aE (.agg [(Z6 aY.1),(Z6 aY.2),(Z6 aK.block),(Z6 aK.at_)]))=(mapE Q72 (J4 a9 aE (⟨aY,aK⟩:Aj))) from(mset_eq (f:=Q72) (l:=a9) (v:=(⟨aY,aK⟩:Aj)) rfl rfl))) ?_;refine Ag hq [8] [30000,37006,9100005] ?_;cases h;exact C7 [(30000,30000),(37006,37006),(9100005,9100005)]
def Ky(a1:Dv):Option (Int×Int):=
 ((Lw a1).bind fun x1=>(bif (!x1) then(some ((0:Int),(0:Int))) else((K0 a1).bind fun x2=>(some (x2.1,x2.2)))))
theorem ok_kind_Gives(a1:Dv)(r:(Int×Int))(h:Ky a1=some r):Spec Tryz.prog 87 [(.agg (Mp a1))] [] (.tuple [(.int .i64 r.1),(.int .i64 r.2)]) []:=by
 refine Ae mix Tryz.func87 (fun Γ hq=>?_);unfold Ky at h;refine Ag hq [1] [1] ?_;obtain⟨x1,hx1,h⟩:=bind_some h;refine gR hq [1,6] [1] [] [(Z2 x1)] (c1 (Tg a1 x1 hx1)) ?_;refine gC h (fun h=>?_) (fun h=>?_)
 ·refine Ag hq [2,3] [] ?_;cases h;exact C7 []
 ·obtain⟨x2,hx2,h⟩:=bind_some h;refine gR hq [2,3] [] [] [(Z68 x2.1 x2.2)] (c1 (U5 a1 x2 hx2)) ?_;cases h;exact C7 []
end
end Go.Proofs.YtggpeloimmlkgaaGreat
