/-
  The machine, the program's functions and the laws' arithmetic: part 3 of 6.
-/
import Derived.Test.YtlnbjgmjaioagaaGreatPk2
import Derived.Test.YtlnbjgmjaioagaaGreatProg
set_option linter.unusedSectionVars false
set_option linter.unusedVariables false
set_option linter.unusedSimpArgs false
namespace Go.Proofs.YtlnbjgmjaioagaaGreat
noncomputable section
abbrev An:=List Int
abbrev Ko:=List (List Int)
def Je:=[30000,37006,9100005]
def GM:=[(30000,30000),(37006,37006),(9100005,9100005)]
def Jj:=[30000,37006]
def Uf:=[3,30000,37006,9100005]
def Q0:=[2,5,6,25,36007]
def Kc:=[1,5,5003]
def WO:=[2,3,4,7,8,9,10,14,15,16,17,18,20,21]
def Xn:=[6,30000,37006,9100005]
def M4:=[30000,37007]
def EY:=[(30000,30000),(37007,37007)]
def EO:=[2,3,4,14,17,20,43,47,5015,7002,7003]
def Br:=[2,3]
def Do:=[1,3,4]
def Nt:=[7,30000,37000]
def AR:=[(30000,30000),(37006,37006)]
def Se:=[4,6,30000,37007]
def Pa:=[2,3,4,43,47]
def Ka:=[1,3,4,5]
def Un:=[5,10,36011,36012]
def Kq:=[2,13,21]
def Sf:=[8,30000,37006]
def PL:=[1,2,3,4,5,10,11,12,18,19,20]
def Nu:=[1,7,8,9]
def AS:=[30000,37006,13000005]
def LF:=[3,5,30000,37006,9100005]
def LG:=[0,4,6,21,22,30,31,32]
def f9:=[2,3,4,14,23,24,43,47,256,5015,6402,7400]
def T3:=[1,3,4,5,6]
def LH:=[2,3,4,8,14,15,22,24]
def Gf:=[0,1]
def LI:=[2,3,4,14,43,47,5015]
def HG:=[2,5,6,7,26,27,28]
def Ww:=[2,7,77,70077]
def WK:=[2,3,4,14,43,47,5015,6402]
def L0:=[37,75]
def Nv:=[1,5003]
def bB:=[2,3,4,8,14,15,22,23,24,25]
def HH:=[1,3,5,21,22,23]
def HI:=[1,2,4,10,11,12]
def gB:=[2,3,4,14,24,43,47,256,5015,6402]
def PM:=[5,30000,37006,9100005]
def lr:=[0,2,3,8,9,16,17,18,54,55,56,62,63,64]
def bC:=[2,3,4,7,8,9,10,14,15,16]
def ls:=[0,2,3,5,16,17,18,24,25,26,31,32,33]
def Uo:=[1,6,5003]
def Up:=[2,3,6,7]
def Px:=[0,1,5]
def Mj:=[3,14]
def Kb:=[1,3]
def bD:=[2,3,4,14,17,43,47,5015]
def HJ:=[2,5,6,7,8,9]
def AU:=[1,2,7,5005]
def WL:=[1,2,4,5,6,7,8,10]
def bE:=[3,9,30000,37006,9100005]
def L1:=[2,4]
def WM:=[0,2,6,7,90,91,92]
def WN:=[2,3,4,8,14,15,22]
def EW:=[2,5,6,7,8]
def gD:=[0,2,3,16,17,18,24,25,26]
def gE:=[0,2,3,16,17,18,54,55,56]
def V5:=[2,33,59]
def EX:=[0,1,2,6,7]
def bF:=[0,1,5,6,7,37,38,39]
def tE:=[(30000,30000),(37006,37006),(13000005,9200005)]
def tF:=[(30000,30000),(37006,37006),(9300005,9200005)]
def lu:=[1,3,5,6,7,21,22,23,50,51,52]
def Wx:=[10,70010]
def WP:=[2,3,4,7,8,9,10]
def HK:=[1,3,7,5005]
def gG:=[2,3,4,7,8,9,10,11,12]
def WQ:=[1,2,7,5005,5008]
def Nw:=[1,2]
def tG:=[2,3,4,14,24,43,47,256,5015,6402,7400]
def lv:=[1,3,5,6,7,21,22,23,50,51]
def WR:=[5007,30000,37007]
def HL:=[30000,37000]
def bG:=[2,6,43,5602,30000]
def tH:=[2,3,4,14,23,24,43,47,256,5015,6402]
def PN:=[1,5,7,11,12]
def WS:=[2,35,37,46,51]
def gH:=[(47,30000),(43,37000)]
def tI:=[1,3,5,6,7,10,11,21,22,23,50,51]
def tJ:=[1,3,5,6,7,10,21,22,23,50,51,63]
def PO:=[1,7,8,9,10]
def bH:=[3,31,30000,37006]
def WT:=[2,6,17,18,19]
def Wy:=[2,3,5]
def bI:=[1,5,7,11,12,13]
def tK:=[2,3,4,7,8,9,10,14,15,16,17,18]
def gM:=[1,2,5,6,7,8,9,10]
def PP:=[1,6,7,8,9]
def lw:=[3,4,11,12,13,18,19,20]
def HM:=[1,2,4,5]
def lx:=[0,5,12,13,14,18,19,20]
def Qu:=[4,5]
def ly:=[3,5,14,15,16,21,22,23]
def AW:=[2,4,11]
def AX:=[2,4,10]
def Yi:=[1,2,5]
def Yj:=[2,5,6]
def S6:=[1,4,7]
def S7:=[2,4,6]
def cp:=[6,7,30000,37006,9100005]
def cq:=[1,5,7,11,12,13,14,15]
def M3:=[0,3]
def jg:=[1,3,5,6,7,9,21,22,23,50,51]
def NE:=[1,3,7,10,5005]
def NF:=[2,3,7,8,9,10]
def IP:=[1,7,8,9,16]
def jh:=[2,3,4,14,24,43,47,5015,6402]
def Xi:=[0,21,22]
def Ud:=[1,2,4]
def Ue:=[0,3,4]
def NG:=[31,30000,37006]
def Nm:=[1,4]
def Zw:=[1,3,5,6]
def Zx:=[0,1,7,8]
def Zy:=[1,3,5005]
def cr:=[3,14,15,16,33,34,35]
def Zz:=[1,3,4,6]
def NH:=[1,2,5,6,7,8]
def VC:=[0,2,3,16,17,18]
def ji:=[2,3,4,14,17,20,43,47,5015]
def VD:=[1,2,4,6,7,8,9]
def EP:=[33,59,103]
def jj:=[0,4,6,21,22,30,31,32,33]
def jk:=[0,4,6,21,22,30,31,32,40]
def IQ:=[0,4,12,13]
def NI:=[0,5,8,9,10]
def jl:=[0,4,6,8,21,22,30,31,32]
def cu:=[1,2,4,5,13,14,15]
def NJ:=[1,5,72,5003]
def jm:=[(30000,30000),(37000,37000)]
def EQ:=[2,4,6,9]
def VE:=[1,2,6,8,9,10]
def sj:=[(30000,30000),(37006,37006),(8,9200005)]
def cw:=[1,3,4,5,9,10,11]
def IR:=[1,3,7,17]
def NK:=[0,16,17,18]
def jn:=[1,2,4,5,6,7,13,14,15]
def VF:=[0,2,4,7,8,9]
def NL:=[1,2,4,5,6]
def NM:=[1,5,7,5003]
def cx:=[2,5,6,7,8,9,10]
def jo:=[6,8,30000,37006,9100005]
def sk:=[2,3,4,14,20,43,47,5015,7002,7003]
def VG:=[3,30000,37006]
def cy:=[2,4,5,18,19,20]
def jp:=[0,6,8,9,10,11,12,13]
def cz:=[2,3,25,43,30000]
def dA:=[1,3,4,5,6,7,8]
def dB:=[2,3,4,14,43,47]
def ER:=[0,1,10]
def jq:=[2,3,4,7,8,9,10,11]
def sl:=[2,3,4,7,8,9,10,14,15,16,20]
def VH:=[3,11,12,13]
def VI:=[0,12,13,14]
def VJ:=[(6004,20000)]
def VK:=[0,1,6,7,8]
def VM:=[6,18,19,25]
def VN:=[3,14,15,16]
def VO:=[0,1,2,3,4]
def VP:=[0,2,4,7,8]
def VQ:=[2,3,7,8,9]
def VR:=[1,3,5,6,7]
def VS:=[1,3,5,6,8]
def VT:=[1,3,4,5,9]
def jr:=[1,5,7,11,12,13,14]
def VU:=[1,2,4,6,7]
def dC:=[0,4,12,13,14]
def NN:=[2,5,6,7]
def NO:=[18,19,20]
def ES:=[2,3,4]
def ET:=[2,3,6]
def EU:=[2,5006]
def dD:=[1,5,11,12,13]
def js:=[1,2,4,5,6,7,8,9]
def NP:=[0,3,5,6]
def Xj:=[2,16]
def sn:=[2,5,6,7,9,10,26,27,28,44]
def IU:=[1,4,22]
def IV:=[1,3,17]
def VV:=[5,7,12,13]
def jt:=[30000,37006,9300005]
def dE:=[2,6,43,30000]
def ju:=[0,1,5,6,8,9,10]
def V4:=[4,6]
def NQ:=[2,35,37]
def dF:=[0,1,3,9,10]
def dG:=[0,2,8,9,10]
def IW:=[0,2,3]
def jv:=[0,1,5,14,15,16]
def IX:=[1,3,5]
def jx:=[1,2,4,5,6,7,8]
def IY:=[1,2,6]
def so:=[2,5,6,7,9,10,26,27,28]
def dH:=[3,10,11,12]
def Xk:=[2,5]
def VW:=[0,1,6,7]
def VX:=[0,1,5,6]
def dI:=[0,15,16,17]
def dJ:=[0,21,22,23]
def Xl:=[6,7]
def Xm:=[5,6]
def jy:=[0,6,8,9,11,49]
def VY:=[0,2,4,5]
def VZ:=[1,2,5005]
def WA:=[2,3,7,8]
def WB:=[2,3,8005]
def sq:=[(36011,34000),(55,34002)]
def sr:=[(36012,34000),(60,34002)]
def ss:=[(30000,30000),(25,37007)]
def jz:=[0,1,5,7,8,16]
def j4:=[0,1,2,6,7,71]
def j5:=[2,3,5,6,7,11]
def su:=[2,5,6,7,26,27,28,29]
def sv:=[1,2,4,6,10,11,12,20]
def sx:=[1,2,4,7,10,11,12,28]
def EV:=[2,33]
def WC:=[5,18,19]
def WD:=[6,18,19]
def j6:=[1,2,15,16,17]
def sy:=[2,5,6,7,9,26,27,28]
def j7:=[0,1,32,33,34]
def s4:=[10,30000,37006,9100005]
def j8:=[1,3,7,9,5005]
def j9:=[3,5,14,15,16]
def s5:=[1,2,4,7,8,10,11,12]
def kA:=[1,3,5,6,7,8]
def kB:=[2,3,5,6,7,8]
def kC:=[1,2,4,6,7,8]
def dK:=[2,5,6,25]
def s6:=[2,5,6,7,8,9,10,60]
def s7:=[4,30000,37006,9100005]
def dL:=[(20000,10)]
def s8:=[2,6,9,43,5602,30000]
def dM:=[2,4,6,10]
def dN:=[2,4,7,10]
def kD:=[0,3,4,14,15]
def kE:=[0,4,6,21,22]
def s9:=[1,2,4,10,11,12,13]
def dO:=[0,2,7,8]
def kF:=[(34001,34001)]
def NR:=[18,19]
def kG:=[0,2,4,6,56]
def tA:=[2,7,77,60077,70077]
def NS:=[15,18]
def dP:=[0,1,2,6]
def tD:=[9,5007,30000,37007]
def WE:=[5,6,7]
def kH:=[1,23,24,25]
def WF:=[0,1,2]
def kI:=[1,2,5,6,7]
def WG:=[0,2,7]
def kJ:=[3,38,39,40]
def kK:=[0,37,38,39]
def kL:=[0,1,7,8,9]
def kM:=[0,1,5,7,8]
def WH:=[0,3,5]
def kN:=[(6002,20000)]
def kO:=[(5005,20000)]
def kP:=[0,2,4,5,6]
def kQ:=[(5003,20000)]
def kR:=[2,35,37,46]
def WI:=[2,5,7]
def WJ:=[3,5005]
def kS:=[2,3,5,6,7]
def kT:=[0,1,12,13]
def kU:=[0,6,21,22]
def kV:=[2,43,30000]
open Go Go.RowKit
set_option maxRecDepth 100000
set_option maxHeartbeats 2000000
def Aj(x:Int):List AV:=[(.int .i64 x)]
def Kz(x:An):List AV:=[(AV.list 1 Aj 0 x .none)]
structure A1 where
 Bits:Int
 Dst:Int
 From:An
 Args:An
 deriving Inhabited,DecidableEq
def Dv(x:A1):List AV:=[(.int .i64 x.Bits),(.int .i64 x.Dst),(AV.list 1 Aj 0 x.From .none),(AV.list 1 Aj 0 x.Args .none)]
def zE(x:List A1):List AV:=[(AV.list 4 Dv default x .none)]
def Ad3(x:Int):List AV:=[(.int .u64 x)]
structure Ay where
 Kind:Int
 Bits:Int
 Lanes:Int
 Dst:Int
 Args:An
 Imm:Int
 deriving Inhabited,DecidableEq
def Ig(x:Ay):List AV:=[(.int .i64 x.Kind),(.int .i64 x.Bits),(.int .i64 x.Lanes),(.int .i64 x.Dst),(AV.list 1 Aj 0 x.Args .none),(.int .u64 x.Imm)]
def Ab2(x:List Ay):List AV:=[(AV.list 6 Ig default x .none)]
structure H7 where
 Kind:Int
 Arg:Int
 To:An
 deriving Inhabited,DecidableEq
def ky(x:H7):List AV:=[(.int .i64 x.Kind),(.int .i64 x.Arg),(AV.list 1 Aj 0 x.To .none)]
structure Ab where
 Phis:List A1
 Ops:List Ay
 End:H7
 deriving Inhabited,DecidableEq
def Bc(x:Ab):List AV:=[(AV.list 4 Dv default x.Phis .none),(AV.list 6 Ig default x.Ops .none),(.int .i64 x.End.Kind),(.int .i64 x.End.Arg),(AV.list 1 Aj 0 x.End.To .none)]
def qS(x:List Ab):List AV:=[(AV.list 5 Bc default x .none)]
structure TFunc where
 Params:An
 Ret:Int
 Blocks:List Ab
 deriving Inhabited,DecidableEq
def eTFunc(x:TFunc):List AV:=[(AV.list 1 Aj 0 x.Params .none),(.int .i64 x.Ret),(AV.list 5 Bc default x.Blocks .none)]
structure THammock where
 At:Int
 Then:Int
 Else:Int
 Join:Int
 deriving Inhabited,DecidableEq
def eTHammock(x:THammock):List AV:=[(.int .i64 x.At),(.int .i64 x.Then),(.int .i64 x.Else),(.int .i64 x.Join)]
abbrev H6:=(Int×Int)
def Bs(x:H6):List AV:=[(.int .i64 x.1),(.int .i64 x.2)]
structure Mp where
 block:Int
 at_:Int
 deriving Inhabited,DecidableEq
def QU(x:Mp):List AV:=[(.int .i64 x.block),(.int .i64 x.at_)]
structure Be where
 v:Int
 shape:H6
 place:Mp
 deriving Inhabited,DecidableEq
def O5(x:Be):List AV:=[(.int .i64 x.v),(.int .i64 x.shape.1),(.int .i64 x.shape.2),(.int .i64 x.place.block),(.int .i64 x.place.at_)]
structure TGraph where
 Succ:Ko
 Pred:Ko
 deriving Inhabited,DecidableEq
def kz(x:TGraph):List AV:=[(AV.list 1 Kz [] x.Succ .none),(AV.list 1 Kz [] x.Pred .none)]
def eB(x:Bool):List AV:=[(.bool x)]
structure Az where
 shape:H6
 place:Mp
 deriving Inhabited,DecidableEq
def k5(x:Az):List AV:=[(.int .i64 x.shape.1),(.int .i64 x.shape.2),(.int .i64 x.place.block),(.int .i64 x.place.at_)]
structure Re where
 f:TFunc
 h:THammock
 ops:List Ay
 last:Int
 deriving Inhabited,DecidableEq
structure Ch where
 V:Int
 Block:Int
 At:Int
 Shape:H6
 deriving Inhabited,DecidableEq
def Qg(x:Ch):List AV:=[(.int .i64 x.V),(.int .i64 x.Block),(.int .i64 x.At),(.int .i64 x.Shape.1),(.int .i64 x.Shape.2)]
structure Dd where
 V:Int
 Block:Int
 At:Int
 Shape:H6
 deriving Inhabited,DecidableEq
def Po(x:Dd):List AV:=[(.int .i64 x.V),(.int .i64 x.Block),(.int .i64 x.At),(.int .i64 x.Shape.1),(.int .i64 x.Shape.2)]
def vT(x:List Bool):List AV:=[(AV.list 1 eB false x .none)]
structure yZ where
 Write:Bool
 At:Int
 Byte:Int
 deriving Inhabited,DecidableEq
structure Ad8 where
 bytes:An
 trace:List yZ
 deriving Inhabited,DecidableEq
structure Ad9 where
 Code:Int
 Value:Int
 Steps:Int
 deriving Inhabited,DecidableEq
theorem mix:Tryz.prog.follows .mixedOrders=true:=by kernel_rfl
abbrev sP:=Spec Tryz.prog
abbrev LK:=(Nat×Own)
theorem sG {f : FuncId} {fn : Func} {args : List AV} {H H' : List LK} {res : AV} (hf : Tryz.prog.funcs[f]? = some fn) (k : ∀ Γ : Hx, RgQ Tryz.prog Γ fn.ntmps H → GG Tryz.prog Γ (fK Tryz.prog Γ fn.results.toList H res H') (xP (ba fn) []) (LZ args H)) (hb : fn.body.isSome = true := by kernel_rfl) (hname : (fn.name == "runtime.NumGoroutine") = false := by kernel_rfl) (hlen : Nat.ble args.length fn.ntmps = true := by kernel_rfl) (hpl : TK H = true := by kernel_rfl) : sP f args H res H' := FX mix hf k hb hname hlen hpl
def Es:List Ab:=([(⟨([]:List A1),([]:List Ay),(⟨(2:Int),(1:Int),([(1:Int),(2:Int)]:An)⟩:H7)⟩:Ab),(⟨([]:List A1),([(⟨(0:Int),(8:Int),(1:Int),(2:Int),([]:An),(1:Int)⟩:Ay)]:List Ay),(⟨(1:Int),(0:Int),([(3:Int)]:An)⟩:H7)⟩:Ab),(⟨([]:List A1),([(⟨(0:Int),(8:Int),(1:Int),(3:Int),([]:An),(2:Int)⟩:Ay)]:List Ay),(⟨(1:Int),(0:Int),([(3:Int)]:An)⟩:H7)⟩:Ab),(⟨([(⟨(8:Int),(4:Int),([(1:Int),(2:Int)]:An),([(2:Int),(3:Int)]:An)⟩:A1)]:List A1),([]:List Ay),(⟨(0:Int),(4:Int),([]:An)⟩:H7)⟩:Ab)]:List Ab)
def Z1:=λza zb zc zd zf zg zm=>((30000,.row 105 [(AV.list 1 Aj 0 za .none),(.int .i64 zb),(AV.list 5 Bc default zc .none),(.int .i64 zd),(AV.list 1 Aj 0 zf .none),(.omap zg),(AV.list 5 O5 default zm (.own 37006))]):Nat×Own)
def Z2:=λza zb zc zd zf zg zm zn zp=>([(AV.list 1 Aj 0 za .none),(.int .i64 zb),(AV.list 5 Bc default zc .none),(.int .i64 zd),(.int .i64 zf),(.int .i64 zg),(.int .i64 zm),(AV.list 6 Ig default zn (.own 37007)),(.int .i64 zp)]:List AV)
def Z3:=λza zb zc zd zf zg zm=>([(30000,.row 105 [(AV.list 1 Aj 0 za .none),(.int .i64 zb),(AV.list 5 Bc default zc .none),(.int .i64 zd),(AV.list 1 Aj 0 zf .none),.nilm,(AV.list 5 O5 default zg (.own 37006))]),(37006,.tok 5 198 zm)]:List LK)
def Z4:=λza (zb:An)=>((za,.arr 1 3 zb.length (λi=>Aj (zb.getD i 0))):Nat×Own)
def Z5:=λza zb zc=>([(AV.list 1 Aj 0 za .none),(.int .i64 zb),(AV.list 5 Bc default zc .none)]:List AV)
def Z6:=λza=>((.int .i64 za):AV)
def Z7:=λza=>(⟨[],[],(.bool za),[],[],[]⟩:Wa)
def Z8:=λza=>((AV.list 1 Aj 0 za .none):AV)
def Z9:=λza=>((AV.list 2 Bs ((0:Int),(0:Int)) za .none):AV)
def Jf:=((.int .i64 (0:Int)):AV)
def Z11:=λza zb zc zd zf zg zm zn=>([(Z1 za zb zc zd zf 9100005 zg),(37006,.tok 5 198 zm),(9100005,.obj (.map false .i64 zn))]:List LK)
def xF:=λza zb zc=>((.clo 133 [] [(.rpo [(AV.list 5 Bc default za .none)]),(.rpo [(AV.list 1 Kz [] zb .none)]),(.rpo [(Z6 zc)])]):AV)
def WU:=λza zb=>((AV.list 6 Ig default za (.own zb)):AV)
def Yq:=λza zb=>((AV.list 1 Aj 0 za (.own zb)):AV)
def QK:=λza zb zc zd zf zg zm zn zp zq=>([(30000,.row 71 (Z2 za zb zc zd zf zg zm zn zp)),(37007,.tok 6 51 zq)]:List LK)
def IZ:=((.slice 0 0 (λ_=>[]) .exact):AV)
def WV:=λza=>((AV.list 5 Bc default za .none):AV)
def ke:=λza=>((AV.list 1 Aj 0 ([za]:An) .exact):AV)
def XH:=((AV.list 1 Aj 0 ([]:An) .exact):AV)
def dh:=λza zb zc zd=>((za,.arr 1 22 zb (Pj 1 Aj (0:Int) zc (Tag.fam zd))):Nat×Own)
def U7:=λza=>((.agg (eTFunc za)):AV)
def mg:=λza (zb:List Bool)=>((za,.arr 1 4 zb.length (λi=>eB (zb.getD i false))):Nat×Own)
def bU:=λza zb zc zd zf zg zm=>([(Z1 za zb zc zd zf 9100005 zg),(37006,.tok 5 198 zm)]:List LK)
def M5:=((2,(.ptr 2 0)):Nat×AV)
def HQ:=λza=>((AV.list 1 Kz [] za .none):AV)
def di:=λza zb zc zd=>([(30000,.row za zb),(zc,.tok 6 51 zd)]:List LK)
def oK:=λza=>((3,(AV.list 5 Po default za (.own 5003))):Nat×AV)
def EZ:=λza=>(⟨[],[],(Z6 za),[],[],[]⟩:Wa)
def XI:=λza zb=>((AV.list 1 eB false za (.own zb)):AV)
def Z30:=λza (zb:An) (zc:An)=>((.slice 1 (bif za then zb.length else zc.length) (λi=>bif za then Aj (zb.getD i 0) else Aj (zc.getD i 0)) .none):AV)
def Yr:=λza=>((.agg (k5 za)):AV)
def mh:=λza zb zc=>([(30000,.row 74 [(WU za 37000),(Z6 zb)]),(37000,.tok 6 51 zc)]:List LK)
def Z33:=λza zb zc zd zf zg=>((30000,.row 105 [(Z8 za),(Z6 zb),(WV zc),(Z6 zd),(Z8 zf),(.omap 8),(AV.list 5 O5 default zg (.own 37006))]):Nat×Own)
def yf:=λza zb zc zd zf=>((37,.arr 1 143 za (λi_=>AV.eraseAll zb ((Fk zc zd 0 [(.vsl 46 zf)]) i_))):Nat×Own)
def QL:=λza=>((AV.list 6 Ig default za .none):AV)
def BB:=((1,(.ptr 1 0)):Nat×AV)
def Z37:=λza zb zc zd zf zg zm zn=>(⟨[(30000,30000),(37006,37006),(9100005,9100005)],[],(.tuple []),(Z11 za zb zc zd zf zg zm zn),[],[]⟩:Wa)
def FA:=λza=>((.int .i64 (za:Int)):AV)
def Z39:=(⟨[(4,(AV.list 1 Aj 0 ([]:An) (.own 6004)))],[(6004,.tok 1 3 (([]:An).length))],[]⟩:St)
abbrev JB:=(Nat×AV)
def Z40:=λza zb zc zd=>([(za,(AV.list 5 Po default zb .exact)),(zc,(AV.list 5 Po default (zd++zb) (.own 5003)))]:List JB)
def uy:=λza zb zc=>(⟨[],[(20000,za)],(Yq zb 20000),[(20000,.tok 1 3 zc)],[],[]⟩:Wa)
def Z42:=λza zb zc zd zf=>([(za,(AV.list 6 Ig default zb .exact)),(zc,(AV.list 6 Ig default (zd++zb) (.own zf)))]:List JB)
def uz:=λza=>((3,(AV.list 5 Qg default za (.own 5003))):Nat×AV)
def WW:=λza=>((.agg (eTHammock za)):AV)
def V6:=((4,(.ptr 4 0)):Nat×AV)
def yg:=λza zb=>(⟨[],[],(.tuple [(.agg (kz za)),(Z6 zb)]),[],[],[]⟩:Wa)
def Z47:=λza (zb:List Be) (zc:List Be)=>((.slice 5 (bif za then zb.length else zc.length) (λi=>bif za then O5 (zb.getD i default) else O5 (zc.getD i default)) (.own 37006)):AV)
def U1:=((.ptr 30000 0):AV)
def Z49:=λza zb=>([(66,(AV.list 4 eTHammock default ([za]:List THammock) .exact)),(67,(AV.list 4 eTHammock default (zb++([za]:List THammock)) (.own 5005)))]:List JB)
def Z50:=((AV.list 2 Bs ((0:Int),(0:Int)) ([]:List H6) .exact):AV)
def S8:=λza zb=>((za,.tok 1 4 zb):Nat×Own)
def tR:=((AV.list 6 Ig default ([]:List Ay) .exact):AV)
def u0:=λza zb zc=>((AV.list 1 Aj 0 ([za,zb,zc]:An) .exact):AV)
def tX:=λza zb=>((AV.list 4 eTHammock default za (.own zb)):AV)
def yh:=λza zb=>((AV.list 2 Bs ((0:Int),(0:Int)) za (.own zb)):AV)
def xG:=λza zb=>((.agg (k5 (Mw (default:Az) za zb))):AV)
def yi:=λza zb zc zd zf=>([(za,(ke zb)),(zc,(AV.list 1 Aj 0 (zd++([zb]:An)) (.own zf)))]:List JB)
def mi:=λza=>(⟨[],[],(Z9 za),[],[],[]⟩:Wa)
def xH:=λza zb zc zd zf zg=>([(Z6 za),(Z6 zb),(Z6 zc),(Z6 zd),(Z8 zf),(.int .u64 zg)]:List AV)
def mj:=λza zb=>((AV.list 4 Dv default za (.own zb)):AV)
def yj:=λza zb=>(⟨[],[],(.tuple [(U7 za),(Z6 zb)]),[],[],[]⟩:Wa)
def Z62:=((AV.list 1 Kz [] ([]:Ko) .exact):AV)
def Z63:=λza zb zc=>(⟨[],[],(.tuple [(Z6 za),(Z6 zb),(.bool zc)]),[],[],[]⟩:Wa)
def W0:=λza zb=>((7,(.vsl za zb)):Nat×AV)
def Tj:=λza zb=>((za,.tok 6 51 zb):Nat×Own)
def Z66:=λza zb zc zd=>([(za,(AV.list 5 Qg default zb .exact)),(zc,(AV.list 5 Qg default (zd++zb) (.own 5003)))]:List JB)
def Z67:=((AV.list 5 Bc default ([]:List Ab) .exact):AV)
def Jr:=λza zb=>((2,.row za zb):Nat×Own)
def yk:=((AV.list 4 Dv default ([]:List A1) .exact):AV)
def tY:=λza zb=>((AV.list 1 Kz [] za (.own zb)):AV)
def Z71:=λ(za:An)=>((.slice 1 (za.length-(1:Int).toNat) (λi=>Aj (za.getD ((1:Int).toNat+i) 0)) .none):AV)
def JJ:=((3,(.ptr 3 0)):Nat×AV)
def pQ:=λza zb=>((7,.row 97 [za,(.vsl 77 zb)]):Nat×Own)
def u1:=λza=>(⟨[],[],(U7 za),[],[],[]⟩:Wa)
def L3:=λza zb zc=>((za,.tok 5 zb zc):Nat×Own)
def Z76:=λza (zb:List Ab) (zc:List Ab)=>((.slice 5 (bif za then zb.length else zc.length) (λi=>bif za then Bc (zb.getD i default) else Bc (zc.getD i default)) .none):AV)
def QM:=λza=>((.agg (Ig za)):AV)
def Z78:=λ(za:An)=>((6,.arr 1 213 64 (λi=>Aj (za.getD i 0))):Nat×Own)
def tZ:=λza=>((AV.list 4 Dv default za .none):AV)
def Z80:=λza zb zc zd zf zg zm zn zp=>(⟨[(30000,30000),(37006,37006),(9100005,9100005)],[],(.agg (QU za)),(Z11 zb zc zd zf zg zm zn zp),[],[]⟩:Wa)
def u2:=λza=>((AV.list 1 Aj 0 za .exact):AV)
def Z82:=λza zb zc zd zf=>(⟨[(30000,30000),(za,za)],[],(Z6 zb),(di zc zd za zf),[],[]⟩:Wa)
def oL:=λza=>((2,.row 97 [za,za]):Nat×Own)
def AB:=λza zb=>((za,.tok 1 3 zb):Nat×Own)
def Z85:=λza (zb:An) (zc:An)=>((.slice 1 (bif (za==true) then zb.length else zc.length) (λi=>bif (za==true) then Aj (zb.getD i 0) else Aj (zc.getD i 0)) .none):AV)
def CN:=λza=>((4,.row 25 za):Nat×Own)
def gV:=λza=>((.agg (kz za)):AV)
def Z88:=λza=>((za,.arr 1 3 (([]:An).length) (λi=>Aj (([]:An).getD i 0))):Nat×Own)
def Z89:=λza zb zc zd zf zg zm zn=>(⟨[(30000,30000),(37006,37006)],[],(.bool za),(Z3 zb zc zd zf zg zm zn),[],[]⟩:Wa)
def Z90:=(⟨[(2,(AV.list 2 Bs ((0:Int),(0:Int)) ([]:List H6) (.own 6002)))],[(6002,.tok 2 88 (([]:List H6).length))],[]⟩:St)
def kg:=((.int .i64 (1:Int)):AV)
def pR:=((6,(.vpt 6 64 0 0)):Nat×AV)
def Z93:=λza zb zc zd=>((3,.row 27 [(Z6 za),(Z6 zb),(Z6 zc),(Z6 zd)]):Nat×Own)
def Z94:=λ(za:List H6)=>([(30,.arr 2 88 za.length (λi=>Bs (za.getD i ((0:Int),(0:Int)))))]:List LK)
def gW:=((5,(.ptr 5 0)):Nat×AV)
def PW:=λza=>((za,(.ptr za 0)):Nat×AV)
def pS:=((5,(.vpt 5 64 0 0)):Nat×AV)
def xI:=λza zb zc=>((.int .i64 (bif za then zb else zc)):AV)
def Z99:=λza zb zc=>((.agg [za,(.int .i64 (8:Int)),zb,(.int .i64 (3:Int)),zc,(.int .u64 (2:Int))]):AV)
def pL:=λza zb=>((AV.list 1 Aj 0 ([za,zb]:An) .exact):AV)
def ya:=λza zb zc zd zf=>([(za,(AV.list 4 Dv default zb .exact)),(zc,(AV.list 4 Dv default (zd++zb) (.own zf)))]:List JB)
def yb:=λza zb zc=>((.agg [za,(.int .i64 (8:Int)),zb,(.int .i64 (2:Int)),zc,(.int .u64 (1:Int))]):AV)
def pM:=λza zb zc zd=>((AV.list 1 Aj 0 ([za,zb,zc,zd]:An) .exact):AV)
def yc:=λza zb zc zd zf zg zm zn zp=>(⟨[(30000,30000),(37006,37006),(9100005,9100005)],[],(.bool za),(Z11 zb zc zd zf zg zm zn zp),[],[]⟩:Wa)
def ur:=((AV.list 1 Kz [] ([]:Ko) .none):AV)
def PU:=λza=>((6,.arr 1 213 64 za):Nat×Own)
def ma:=λza=>((AV.list 1 Aj 0 ([]:An) (.own za)):AV)
def Ti:=λza=>((.int .u64 za):AV)
def pN:=λza=>(⟨[],[],(.agg (Bs za)),[],[],[]⟩:Wa)
def yd:=λza=>((.slice 1 1 (λi=>([[(Z6 za)]]:List (List AV)).getD i []) .exact):AV)
def PV:=((.int .i64 (4:Int)):AV)
def ut:=λza zb zc zd zf zg zm zn zp zq zt=>(⟨[(30000,30000),(37007,37007)],[],(Z6 za),(QK zb zc zd zf zg zm zn zp zq zt),[],[]⟩:Wa)
def uu:=λza=>((AV.list 6 Ig default ([]:List Ay) (.own za)):AV)
def uv:=λza zb=>(⟨[],[],(.tuple [(WW za),(.bool zb)]),[],[],[]⟩:Wa)
def mb:=λza=>((za,.tok 1 3 (([]:An).length)):Nat×Own)
def uw:=λza zb zc=>(⟨[(30000,30000),(za,za)],[],(Z6 zb),zc,[],[]⟩:Wa)
def RI:=λza=>((5,.arr 1 212 64 za):Nat×Own)
def pO:=λza=>((.clo 122 [] [(.rptr (eTHammock za))]):AV)
def Abv:=([(4,.row 25 [(AV.list 1 Aj 0 ([]:An) .none),Jf,(AV.list 5 Bc default ([]:List Ab) .none)])]:List LK)
def LM:=((6,(.ptr 6 0)):Nat×AV)
def mc:=λza zb=>((AV.list 5 Bc default za (.own zb)):AV)
def md:=λza zb zc=>(⟨[(4,(Yq za zb))],[(AB zb zc)],[]⟩:St)
def ux:=λza zb=>(⟨[],[],(.tuple [(Z6 za),(Z6 zb)]),[],[],[]⟩:Wa)
def ye:=λza zb zc zd zf zg zm zn zp=>([(30000,.row 71 [(Z8 za),(Z6 zb),(WV zc),(Z6 zd),(Z6 zf),(Z6 zg),(Z6 zm),(QL zn),(Z6 zp)])]:List LK)
def me:=((.slice 0 0 (λ_=>[]) .none):AV)
def mf:=λza zb zc=>(⟨[(4,(.vsl za zb))],[(Z4 za zc)],[]⟩:St)
def bT:=λza zb zc zd=>((za,.row 74 [(WU zb zc),(Z6 zd)]):Nat×Own)
def pP:=λza zb zc zd=>((37,.arr 1 143 za (Fk zb zc 0 [(.vsl 46 zd)])):Nat×Own)
def LN:=((8,(.ptr 47 0)):Nat×AV)

def Q8:AV:=Jf
def ge:AV:=kg
def w9:AV:=IZ
def Q5:AV:=XH
def Q12:AV:=tR
def Q7:AV:=yk
def Q4:AV:=(AV.list 1 Aj 0 ([(3:Int)]:An) .exact)
def Q6:AV:=(AV.list 1 Aj 0 ([(1:Int),(2:Int)]:An) .exact)
def Q2:AV:=(AV.list 6 Ig default ([(⟨(0:Int),(8:Int),(1:Int),(2:Int),([]:An),(1:Int)⟩:Ay)]:List Ay) .exact)
def Q3:AV:=(AV.list 6 Ig default ([(⟨(0:Int),(8:Int),(1:Int),(3:Int),([]:An),(2:Int)⟩:Ay)]:List Ay) .exact)
def Q1:AV:=(AV.list 4 Dv default ([(⟨(8:Int),(4:Int),([(1:Int),(2:Int)]:An),([(2:Int),(3:Int)]:An)⟩:A1)]:List A1) .exact)
def Q9:=(⟨[(0,(.ptr 0 0))],[(0,.row 25 [(AV.list 1 Aj 0 ([(1:Int)]:An) .exact),(.int .i64 (8:Int)),(AV.list 5 Bc default Es .exact)])],[]⟩:St)
def m_locksteplaw15_diamond :Option TFunc:=
 (some (⟨([(1:Int)]:An),(8:Int),Es⟩:TFunc))
theorem H4  (r:TFunc) (h:m_locksteplaw15_diamond=some r):sP 22 [] [] (U7 r) []:=
 sG Tryz.func22 λΓ q=>Ae q [0] [0] (gR q [0] [0] [(1,(AV.list 1 Aj 0 ([(1:Int)]:An) .exact)),(2,Q6),(4,(.agg [Q7,Q12,(.int .i64 (2:Int)),ge,Q6])),(5,(yb Q8 ge Q5)),(6,Q2),(7,Q4),(9,(.agg [Q7,Q2,ge,Q8,Q4])),(10,(Z99 Q8 ge Q5)),(11,Q3),(12,Q4),(14,(.agg [Q7,Q3,ge,Q8,Q4])),(15,Q6),(16,(AV.list 1 Aj 0 ([(2:Int),(3:Int)]:An) .exact)),(18,Q1),(19,(.agg [Q8,PV,Q5])),(20,(.agg [Q1,Q12,Q8,PV,Q5])),(21,(AV.list 5 Bc default Es .exact))] [] (d9_ (Au 1 Aj (0:Int) ([(1:Int)]:An)) (Au 1 Aj (0:Int) ([(1:Int),(2:Int)]:An)) (show(AVle (.agg [w9,w9,(.int .i64 (2:Int)),ge,Q6]) (.agg [Q7,Q12,(.int .i64 (2:Int)),ge,Q6])) from(AVle.agg (.cons Cp (.cons Cp (.cons (AVle.refl _) (.cons (AVle.refl _) (.cons (AVle.refl _) .nil))))))) (show(AVle (yb Q8 ge w9) (yb Q8 ge Q5)) from(AVle.agg (.cons (AVle.refl _) (.cons (AVle.refl _) (.cons (AVle.refl _) (.cons (AVle.refl _) (.cons Cp (.cons (AVle.refl _) .nil)))))))) (Au 6 Ig (default:Ay) ([(⟨(0:Int),(8:Int),(1:Int),(2:Int),([]:An),(1:Int)⟩:Ay)]:List Ay)) (Au 1 Aj (0:Int) ([(3:Int)]:An)) (show(AVle (.agg [w9,Q2,ge,Q8,Q4]) (.agg [Q7,Q2,ge,Q8,Q4])) from(AVle.agg (.cons Cp (.cons (AVle.refl _) (.cons (AVle.refl _) (.cons (AVle.refl _) (.cons (AVle.refl _) .nil))))))) (show(AVle (Z99 Q8 ge w9) (Z99 Q8 ge Q5)) from(AVle.agg (.cons (AVle.refl _) (.cons (AVle.refl _) (.cons (AVle.refl _) (.cons (AVle.refl _) (.cons Cp (.cons (AVle.refl _) .nil)))))))) (Au 6 Ig (default:Ay) ([(⟨(0:Int),(8:Int),(1:Int),(3:Int),([]:An),(2:Int)⟩:Ay)]:List Ay)) (c8 (Au 1 Aj (0:Int) ([(3:Int)]:An)) (show(AVle (.agg [w9,Q3,ge,Q8,Q4]) (.agg [Q7,Q3,ge,Q8,Q4])) from(AVle.agg (.cons Cp (.cons (AVle.refl _) (.cons (AVle.refl _) (.cons (AVle.refl _) (.cons (AVle.refl _) .nil))))))) (Au 1 Aj (0:Int) ([(1:Int),(2:Int)]:An)) (Au 1 Aj (0:Int) ([(2:Int),(3:Int)]:An)) (Au 4 Dv (default:A1) ([(⟨(8:Int),(4:Int),([(1:Int),(2:Int)]:An),([(2:Int),(3:Int)]:An)⟩:A1)]:List A1)) (show(AVle (.agg [Q8,PV,w9]) (.agg [Q8,PV,Q5])) from(AVle.agg (.cons (AVle.refl _) (.cons (AVle.refl _) (.cons Cp .nil))))) (show(AVle (.agg [Q1,w9,Q8,PV,Q5]) (.agg [Q1,Q12,Q8,PV,Q5])) from(AVle.agg (.cons (AVle.refl _) (.cons Cp (.cons (AVle.refl _) (.cons (AVle.refl _) (.cons (AVle.refl _) .nil))))))) (Au 5 Bc (default:Ab) Es))) (Py Q9 (tS h (gK (e:=.ret) (Hu [] (show Le Γ _ (⟨[(0,(.ptr 0 0))],[(0,.row 25 [(AV.list 1 Aj 0 ([(1:Int)]:An) .none),(.int .i64 (8:Int)),(AV.list 5 Bc default Es .none)])],[]⟩:St) from Le.trans (A5 (st':=Q9) [0] [0] q) (Et (.cons (AVle.refl _) .nil) (.row (.cons AVle.untag (.cons (AVle.refl _) (.cons AVle.untag .nil))) .nil))))))))
abbrev lp:=(LR (Int×Int) Int)
def Rl(a0:TFunc):H6->Option lp:=
 λ((i1,i2):H6)=>(bif (decide (i2<(a0.Blocks.length:Int))) then(Ax (As i2 a0.Blocks.length) (some (.next ((w64 (i1+(w64 ((((a0.Blocks.getD i2.toNat default).Phis).length:Int)+(((a0.Blocks.getD i2.toNat default).Ops).length:Int))))),(w64 (i2+1)))))) else(some (.done i1)))
def Wi(a0:TFunc):Option Int:=
 ((Ad (Rl a0) ((a0.Blocks.length:Int),(0:Int))).bind (λx5=>(some x5)))
variable{v0:TFunc}{v1:Int}
theorem cC(h:Wi v0=some v1):sP 68 [(U7 v0)] [] (.int .i64 v1) []:=
 sG Tryz.func68 λΓ q=>tW q [1] [1] Kb [1] (Ae q dH [] (tL q h dH [] (λu (i1,i2)=>(Cl u [(3,(Z6 i1)),(12,(Z6 i2))] [])) (λu i3=>aG Γ (.exit 0) (⟨[(3,(Z6 i3))],[],[]⟩:St)) (λ⟨i1,i2⟩ y h=>Ae q [3,10,11,12,13] [] (gC h (λh=>tV q [3,5,10,11,12] [5] h λh=>tW q dH [] dH [] (tN h)) λh=>tS h (gO (A2 (A5 [3] [] q))))) λx5 h=>gA (Ae q [2] [] (tS h (Bm [])))))
def K4(aE:An):Int->Option (LR Int (Unit ⊕ Bool)):=
 λ(i1:Int)=>(bif (decide (i1<(aE.length:Int))) then(Ax (As i1 aE.length) (bif (bif (decide ((aE.getD i1.toNat 0)<0)) then true else(decide ((2147483647:Int)<(aE.getD i1.toNat 0)))) then(some (.done (.inr false))) else(some (.next (w64 (i1+1)))))) else(some (.done (.inl ()))))
def JD(Γ:Hx)(aE:An)(r:Bool):Exit->St->Prop:=fK Tryz.prog Γ Tryz.f69.results.toList [] (.bool r) []
def D0(aE:An):Option Bool:=
 ((Ad (K4 aE) (0:Int)).bind (λx3=>(match x3 with|(.inl _)=>(some true)|(.inr r5)=>(some r5))))
variable{v2:An}{v3:Bool}
theorem Ht(h:D0 v2=some v3):sP 69 [(Z8 v2)] [] (.bool v3) []:=
 sG Tryz.func69 λΓ q=>tW q [0] [] WE [] (tL q h WE [] (λu i1=>(Cl u [(7,(Z6 i1))] [])) (λu x_=>match x_ with|(.inl _)=>aG Γ (.exit 0) (⟨[],[],[]⟩:St)|(.inr r_)=>aR (JD Γ v2 r_)) (λi1 y h=>Ae q [5,6,7,8] [] (gC h (λh=>tV q [4,5,6,7] [] h λh=>tU q [5,6,7,16] [] (c2 (gI ((decide ((v2.getD i1.toNat 0)<0))==false)) (Hv (decide ((v2.getD i1.toNat 0)<0)))) (gC h (λh=>Ae q [2] [] (tS h (gO (L2 (Hu [] (Le.refl _ _)))))) λh=>Ae q WE [] (tN h))) λh=>tS h (gO (A2 (A5 [] [] q))))) λx3 h=>(match x3,h with | .inl _,h=>gA (Ae q [2] [] (tS h (Bm []))) | .inr r5,h=>gAr (λst' hk=>tS h (gK hk))))
def I8(aE:An):Option Bool:=
 ((bif ((decide ((aE.length:Int)<=64))==true) then D0 aE else some false).bind λx1=>(some (bif (decide ((aE.length:Int)<=64)) then x1 else false)))
theorem O0(h:I8 v2=some v3):sP 169 [(Z8 v2)] [] (.bool v3) []:=
 sG Tryz.func169 λΓ q=>Ae q [0] [] (tB h λx1 y1 h=>tT q [2] [] [(Z7 x1)] (c3 (gI ((decide ((v2.length:Int)<=64))==true)) (λ(hg:((decide ((v2.length:Int)<=64))==true)=true)=>(Ht (A6 hg y1))) (Lz (decide ((v2.length:Int)<=64)))) (tS h (Bm [])))
def Rn(aJ:A1):Option Bool:=
 ((D0 ([aJ.Bits,aJ.Dst]:An)).bind λx1=>((bif (x1==true) then I8 aJ.From else some false).bind λx2=>((bif ((bif x1 then x2 else false)==true) then I8 aJ.Args else some false).bind λx3=>(some (bif (bif x1 then x2 else false) then x3 else false)))))
variable{v4:A1}
theorem QA(h:Rn v4=some v3):sP 125 [(.agg (Dv v4))] [] (.bool v3) []:=
 sG Tryz.func125 λΓ q=>Ae q [1] [1] (tB h λx1 y1 h=>tB h λx2 y2 h=>tB h λx3 y3 h=>gR q [2] [] [(7,(pL v4.Bits v4.Dst))] [(Z7 x1),(Z7 x2),(Z7 x3)] (YV (Au 1 Aj (0:Int) ([v4.Bits,v4.Dst]:An)) (Ht y1) (Ju (x1==true) (YV (λ(hg:(x1==true)=true)=>(O0 (A6 hg y2))) (Lz x1) (Ju ((bif x1 then x2 else false)==true) (c2 (λ(hg:((bif x1 then x2 else false)==true)=true)=>(O0 (A6 hg y3))) (Lz (bif x1 then x2 else false))))))) (tS h (Bm [])))
def Hz(aE:List A1):Int->Option (LR Int (Unit ⊕ Bool)):=
 λ(i1:Int)=>(bif (decide (i1<(aE.length:Int))) then(Ax (As i1 aE.length) ((Rn (aE.getD i1.toNat default)).bind λx3=>(bif (!x3) then(some (.done (.inr false))) else(some (.next (w64 (i1+1))))))) else(some (.done (.inl ()))))
def AZ(Γ:Hx)(aE:List A1)(r:Bool):Exit->St->Prop:=fK Tryz.prog Γ Tryz.f124.results.toList [] (.bool r) []
def Ki(aE:List A1):Option Bool:=
 ((Ad (Hz aE) (0:Int)).bind (λx4=>(match x4 with|(.inl _)=>(some true)|(.inr r6)=>(some r6))))
variable{v5:List A1}
theorem Zc(h:Ki v5=some v3):sP 124 [(tZ v5),(.clo 125 [] [])] [] (.bool v3) []:=
 sG Tryz.func124 λΓ q=>tW q Gf [] Nu [] (tL q h Nu [] (λu i1=>(Cl u [(9,(Z6 i1))] [])) (λu x_=>match x_ with|(.inl _)=>aG Γ (.exit 0) (⟨[],[],[]⟩:St)|(.inr r_)=>aR (AZ Γ v5 r_)) (λi1 y h=>Ae q PO [] (gC h (λh=>tV q PP [6] h λh=>tB h λx3 y3 h=>tT q IP [] [(Z7 x3)] (c1 (QA y3)) (gC h (λh=>Ae q [4] [] (tS h (gO (L2 (Hu [] (Le.refl _ _)))))) λh=>Ae q Nu [] (tN h))) λh=>tS h (gO (A2 (A5 [] [] q))))) λx4 h=>(match x4,h with | .inl _,h=>gA (Ae q [4] [] (tS h (Bm []))) | .inr r6,h=>gAr (λst' hk=>tS h (gK hk))))
def Tb(a2:Ay):Option Bool:=
 ((D0 ([a2.Kind,a2.Bits,a2.Lanes,a2.Dst]:An)).bind λx1=>((bif (x1==true) then I8 a2.Args else some false).bind λx2=>(some (bif x1 then x2 else false))))
variable{v6:Ay}
theorem TB(h:Tb v6=some v3):sP 127 [(QM v6)] [] (.bool v3) []:=
 sG Tryz.func127 λΓ q=>Ae q [1] [1] (tB h λx1 y1 h=>tB h λx2 y2 h=>gR q [2] [] [(11,(pM v6.Kind v6.Bits v6.Lanes v6.Dst))] [(Z7 x1),(Z7 x2)] (YV (Au 1 Aj (0:Int) ([v6.Kind,v6.Bits,v6.Lanes,v6.Dst]:An)) (Ht y1) (Ju (x1==true) (c2 (λ(hg:(x1==true)=true)=>(O0 (A6 hg y2))) (Lz x1)))) (tS h (Bm [])))
def Ip(aE:List Ay):Int->Option (LR Int (Unit ⊕ Bool)):=
 λ(i1:Int)=>(bif (decide (i1<(aE.length:Int))) then(Ax (As i1 aE.length) ((Tb (aE.getD i1.toNat default)).bind λx3=>(bif (!x3) then(some (.done (.inr false))) else(some (.next (w64 (i1+1))))))) else(some (.done (.inl ()))))
def CD(Γ:Hx)(aE:List Ay)(r:Bool):Exit->St->Prop:=fK Tryz.prog Γ Tryz.f126.results.toList [] (.bool r) []
def K3(aE:List Ay):Option Bool:=
 ((Ad (Ip aE) (0:Int)).bind (λx4=>(match x4 with|(.inl _)=>(some true)|(.inr r6)=>(some r6))))
variable{v7:List Ay}
theorem BK(h:K3 v7=some v3):sP 126 [(QL v7),(.clo 127 [] [])] [] (.bool v3) []:=
 sG Tryz.func126 λΓ q=>tW q Gf [] Nu [] (tL q h Nu [] (λu i1=>(Cl u [(9,(Z6 i1))] [])) (λu x_=>match x_ with|(.inl _)=>aG Γ (.exit 0) (⟨[],[],[]⟩:St)|(.inr r_)=>aR (CD Γ v7 r_)) (λi1 y h=>Ae q PO [] (gC h (λh=>tV q PP [6] h λh=>tB h λx3 y3 h=>tT q IP [] [(Z7 x3)] (c1 (TB y3)) (gC h (λh=>Ae q [4] [] (tS h (gO (L2 (Hu [] (Le.refl _ _)))))) λh=>Ae q Nu [] (tN h))) λh=>tS h (gO (A2 (A5 [] [] q))))) λx4 h=>(match x4,h with | .inl _,h=>gA (Ae q [4] [] (tS h (Bm []))) | .inr r6,h=>gAr (λst' hk=>tS h (gK hk))))
def Rm(aQ:H7):Option Bool:=
 ((D0 ([aQ.Kind,aQ.Arg]:An)).bind λx1=>((bif (x1==true) then I8 aQ.To else some false).bind λx2=>(some (bif x1 then x2 else false))))
variable{v8:H7}
theorem PZ(h:Rm v8=some v3):sP 128 [(.agg (ky v8))] [] (.bool v3) []:=
 sG Tryz.func128 λΓ q=>Ae q [1] [1] (tB h λx1 y1 h=>tB h λx2 y2 h=>gR q [2] [] [(7,(pL v8.Kind v8.Arg))] [(Z7 x1),(Z7 x2)] (YV (Au 1 Aj (0:Int) ([v8.Kind,v8.Arg]:An)) (Ht y1) (Ju (x1==true) (c2 (λ(hg:(x1==true)=true)=>(O0 (A6 hg y2))) (Lz x1)))) (tS h (Bm [])))
def Oq(aH:Ab):Option Bool:=
 ((Ki aH.Phis).bind λx1=>((bif (x1==true) then K3 aH.Ops else some false).bind λx2=>((bif ((bif x1 then x2 else false)==true) then Rm (⟨aH.End.Kind,aH.End.Arg,aH.End.To⟩:H7) else some false).bind λx3=>(some (bif (bif x1 then x2 else false) then x3 else false)))))
variable{v9:Ab}
theorem KH(h:Oq v9=some v3):sP 71 [(.agg (Bc v9))] [] (.bool v3) []:=
 sG Tryz.func71 λΓ q=>Ae q [1] [1] (tB h λx1 y1 h=>tB h λx2 y2 h=>tB h λx3 y3 h=>tT q [2] [] [(Z7 x1),(Z7 x2),(Z7 x3)] (ci (Zc y1) (Ju (x1==true) (YV (λ(hg:(x1==true)=true)=>(BK (A6 hg y2))) (Lz x1) (Ju ((bif x1 then x2 else false)==true) (c2 (λ(hg:((bif x1 then x2 else false)==true)=true)=>(PZ (A6 hg y3))) (Lz (bif x1 then x2 else false))))))) (tS h (Bm [])))
def Gq(aE:List Ab):Int->Option (LR Int (Unit ⊕ Bool)):=
 λ(i1:Int)=>(bif (decide (i1<(aE.length:Int))) then(Ax (As i1 aE.length) ((Oq (aE.getD i1.toNat default)).bind λx3=>(bif (!x3) then(some (.done (.inr false))) else(some (.next (w64 (i1+1))))))) else(some (.done (.inl ()))))
def Xq(Γ:Hx)(aE:List Ab)(r:Bool):Exit->St->Prop:=fK Tryz.prog Γ Tryz.f70.results.toList [] (.bool r) []
def Io(aE:List Ab):Option Bool:=
 ((Ad (Gq aE) (0:Int)).bind (λx4=>(match x4 with|(.inl _)=>(some true)|(.inr r6)=>(some r6))))
variable{v10:List Ab}
theorem Xc(h:Io v10=some v3):sP 70 [(WV v10),(.clo 71 [] [])] [] (.bool v3) []:=
 sG Tryz.func70 λΓ q=>tW q Gf [] Nu [] (tL q h Nu [] (λu i1=>(Cl u [(9,(Z6 i1))] [])) (λu x_=>match x_ with|(.inl _)=>aG Γ (.exit 0) (⟨[],[],[]⟩:St)|(.inr r_)=>aR (Xq Γ v10 r_)) (λi1 y h=>Ae q PO [] (gC h (λh=>tV q PP [6] h λh=>tB h λx3 y3 h=>tT q IP [] [(Z7 x3)] (c1 (KH y3)) (gC h (λh=>Ae q [4] [] (tS h (gO (L2 (Hu [] (Le.refl _ _)))))) λh=>Ae q Nu [] (tN h))) λh=>tS h (gO (A2 (A5 [] [] q))))) λx4 h=>(match x4,h with | .inl _,h=>gA (Ae q [4] [] (tS h (Bm []))) | .inr r6,h=>gAr (λst' hk=>tS h (gK hk))))
def Q14(a0:TFunc):=(decide ((a0.Blocks.length:Int)<1))
def Q13(a0:TFunc):=(decide ((16:Int)<(a0.Params.length:Int)))
def Vc(a0:TFunc):Option Bool:=
 (bif (bif (decide ((a0.Blocks.length:Int)<1)) then true else(decide ((64:Int)<(a0.Blocks.length:Int)))) then(some false) else((bif ((decide ((16:Int)<(a0.Params.length:Int)))==false) then Wi a0 else some (0:Int)).bind λx1=>(bif (bif (decide ((16:Int)<(a0.Params.length:Int))) then true else(decide ((512:Int)<x1))) then(some false) else((D0 a0.Params).bind λx2=>((bif (x2==true) then D0 ([a0.Ret]:An) else some false).bind λx3=>((bif ((bif x2 then x3 else false)==true) then Io a0.Blocks else some false).bind λx4=>(some (bif (bif x2 then x3 else false) then x4 else false))))))))
theorem OO(h:Vc v0=some v3):sP 28 [(U7 v0)] [] (.bool v3) []:=
 sG Tryz.func28 λΓ q=>Ae q [1] [1] (tU q [1,12] [1] (Sg ((Q14 v0)==false) (c1 (Hv (Q14 v0)))) (gC h (λh=>Ae q [2] [] (tS h (Bm []))) λh=>tB h λx1 y1 h=>tT q [1,21] [1] [(EZ x1)] (c4 (gI ((Q13 v0)==false)) (λ(hg:((Q13 v0)==false)=true)=>(cC (A6 hg y1))) (gI ((Q13 v0)==false)) (Hv (Q13 v0))) (gC h (λh=>Ae q [2] [] (tS h (Bm []))) λh=>tB h λx2 y2 h=>tB h λx3 y3 h=>tB h λx4 y4 h=>gR q [2] [] [(28,(ke v0.Ret))] [(Z7 x2),(Z7 x3),(Z7 x4)] (ci (Ht y2) (Ju (x2==true) (d4_ (show((x2==true)=true->(AVle (yd v0.Ret) (ke v0.Ret))) from(λhg=>@(Au 1 Aj (0:Int) ([v0.Ret]:An)))) (gI (x2==true)) (λ(hg:(x2==true)=true)=>(Ht (A6 hg y3))) (Lz x2) (Ju ((bif x2 then x3 else false)==true) (c2 (λ(hg:((bif x2 then x3 else false)==true)=true)=>(Xc (A6 hg y4))) (Lz (bif x2 then x3 else false))))))) (tS h (Bm [])))))
def N9(aaZ:Bool)(aQ:Int):Option Int:=
 (bif aaZ then(some (0:Int)) else(some aQ))
variable{v11:Int}
theorem AJ(h:N9 v3 v1=some v11):sP 140 [(.bool v3),(Z6 v1)] [] (.int .i64 v11) []:=
 sG Tryz.func140 λΓ q=>tW q Gf [] [1,5] [] (gC h (λh=>Ae q [4] [] (tS h (Bm []))) λh=>Ae q [4] [] (tS h (Bm [])))
abbrev oC:=(Int×TFunc×Int×An×List Be)
def K1(a3:TFunc)(a5:Int)(a7:An)(aC:List Be):Option oC:=
 ((Vc a3).bind λx1=>((N9 x1 (4:Int)).bind λx2=>(some (x2,a3,a5,a7,aC))))
variable{v12:List Be}{v13:oC}
theorem BI(h:K1 v0 v1 v2 v12=some v13):sP 87 [U1] (Z3 v0.Params v0.Ret v0.Blocks v1 v2 v12 v12.length) (Z6 v13.1) (Z3 v13.2.1.Params v13.2.1.Ret v13.2.1.Blocks v13.2.2.1 v13.2.2.2.1 v13.2.2.2.2 v13.2.2.2.2.length):=
 sG Tryz.func87 λΓ q=>Ae q [0] Jj (tB h λx1 y1 h=>tB h λx2 y2 h=>tT q [2] Jj [(Z7 x1),(EZ x2)] (c2 (OO y1) (AJ y2)) (tS h (Bm AR)))
def M6(aa1:Int):Option Bool:=
 (some (bif (decide ((1:Int)<=aa1)) then(decide (aa1<=64)) else false))
theorem X2(h:M6 v1=some v3):sP 129 [(Z6 v1)] [] (.bool v3) []:=
 sG Tryz.func129 λΓ q=>Ae q [0] [] (tU q [2] [] (c2 (gI ((decide ((1:Int)<=v1))==true)) (Lz (decide ((1:Int)<=v1)))) (tS h (Bm [])))
def Kw(aN:Int)(aa1:Int):Option Bool:=
 (some (bif (decide ((0:Int)<=aN)) then(decide (aN<aa1)) else false))
theorem S1(h:Kw v1 v11=some v3):sP 170 [(Z6 v1),(Z6 v11)] [] (.bool v3) []:=
 sG Tryz.func170 λΓ q=>Ae q Gf [] (tU q [4] [] (Ju ((decide ((0:Int)<=v1))==true) (c1 (Lz (decide ((0:Int)<=v1))))) (tS h (Bm [])))
def Fp(aQ:H7)(aa1:Int):Int->Option (LR Int (Unit ⊕ Bool)):=
 λ(i7:Int)=>(bif (decide (i7<(aQ.To.length:Int))) then(Ax (As i7 aQ.To.length) ((bif (((aQ.To.getD i7.toNat 0)==0)==false) then Kw (aQ.To.getD i7.toNat 0) aa1 else some false).bind λx9=>(bif (bif ((aQ.To.getD i7.toNat 0)==0) then true else(!x9)) then(some (.done (.inr false))) else(some (.next (w64 (i7+1))))))) else(some (.done (.inl ()))))
def Z0(Γ:Hx)(aQ:H7)(aa1:Int)(r:Bool):Exit->St->Prop:=fK Tryz.prog Γ Tryz.f130.results.toList [] (.bool r) []
def Q15(aQ:H7)(i7:Int):=((aQ.To.getD i7.toNat 0)==0)
def P5(aQ:H7)(aa1:Int):Option Bool:=
 (Option.bind (α:=(Int ⊕ Bool)) (Option.bind (α:=Bool) (bif (aQ.Kind==0) then(some (aQ.Kind==0)) else(some (aQ.Kind==3))) (λx3=>(bif x3 then(some (.inl (0:Int))) else(bif (aQ.Kind==1) then(some (.inl (1:Int))) else(bif (aQ.Kind==2) then(some (.inl (2:Int))) else(some (.inr false))))))) (λx5=>(match x5 with|(.inl i1)=>(bif ((aQ.To.length:Int)!=i1) then(some false) else((Ad (Fp aQ aa1) (0:Int)).bind (λx10=>(match x10 with|(.inl _)=>(some true)|(.inr r12)=>(some r12)))))|(.inr r13)=>(some r13))))
theorem MN(h:P5 v8 v1=some v3):sP 130 [(.agg (ky v8)),(Z6 v1)] [] (.bool v3) []:=
 sG Tryz.func130 λΓ q=>tW q Nw [2] Yi [2] (tB h λx5 y5 h=>gJ y5 (λx_=>match x_ with|(.inl i1)=>aG Γ .normal (⟨[(1,(Z6 v1)),M5,(5,(Z6 i1))],[(2,.row 46 [(Z6 v8.Kind),(Z6 v8.Arg),(Z8 v8.To)])],[]⟩:St)|(.inr r_)=>aR (Z0 Γ v8 v1 r_)) (λy h=>Ae q [1,2,5,9] [2] (tB h λx3 y3 h=>gJ y3 (λb2=>aG Γ .normal (⟨[(1,(Z6 v1)),M5,(5,Jf),(9,(Z6 v8.Kind)),(10,(.bool b2))],[(2,.row 46 [(Z6 v8.Kind),(Z6 v8.Arg),(Z8 v8.To)])],[]⟩:St)) (λy h=>Ae q [1,2,5,9,10] [2] (gC h (λh=>tS h (gK (A2 Gj))) λh=>Ae q [1,2,5,9,10] [2] (tS h (gK (A2 Gj))))) (gA (gC h (λh=>tS h (gK (A2 (A5 Yi [2] q)))) λh=>Ae q [1,2,9,13] [2] (gC h (λh=>Ae q Yi [2] (tS h (gK (A2 Gj)))) λh=>Ae q [1,2,15] [2] (gC h (λh=>Ae q Yi [2] (tS h (gK (A2 Gj)))) λh=>Ae q [4] [] (tS h (gK (L2 (Hu [] (Le.refl _ _))))))))))) (match x5,h with | .inl i1,h=>gA (Ae q [1,2,21] [2] (gC h (λh=>Ae q [4] [] (tS h (Bm []))) λh=>Ae q kH [] (tL q h kH [] (λu i7=>(Cl u [(25,(Z6 i7))] [])) (λu x_=>match x_ with|(.inl _)=>aG Γ (.exit 1) (⟨[],[],[]⟩:St)|(.inr r_)=>aR (Z0 Γ v8 v1 r_)) (λi7 y h=>Ae q [1,23,24,25,26] [] (gC h (λh=>tV q [1,7,23,24,25] [] h λh=>tB h λx9 y9 h=>tT q [1,23,24,25,36] [] [(Z7 x9)] (Ju ((Q15 v8 i7)==false) (c3 (λ(hg:((Q15 v8 i7)==false)=true)=>(S1 (A6 hg y9))) (gI ((Q15 v8 i7)==false)) (Hv (Q15 v8 i7)))) (gC h (λh=>Ae q [4] [] (tS h (gO (L2 (Hu [] (Le.refl _ _)))))) λh=>Ae q kH [] (tN h))) λh=>tS h (gO (A2 (A5 [] [] q))))) λx10 h=>(match x10,h with | .inl _,h=>gA (Ae q [4] [] (tS h (Bm []))) | .inr r12,h=>gAr (λst' hk=>tS h (gK hk)))))) | .inr r13,h=>gAr (λst' hk=>tS h (gK hk))))
abbrev tf:=(Int×Ko)
abbrev yT6:=(LR (Int×Ko) Ko)
def Nq(a6:Ko)(i2:Int):tf->Option yT6:=
 λ((i6,l7):tf)=>(bif (decide (i6<((a6.getD i2.toNat []).length:Int))) then(Ax (As i6 (a6.getD i2.toNat []).length) (Ax (As ((a6.getD i2.toNat []).getD i6.toNat 0) l7.length) (Ax (As ((a6.getD i2.toNat []).getD i6.toNat 0) l7.length) (Ax ((l7.getD ((a6.getD i2.toNat []).getD i6.toNat 0).toNat []).length+([i2]:An).length<=room) (Ax (As ((a6.getD i2.toNat []).getD i6.toNat 0) l7.length) (some (.next ((w64 (i6+1)),(l7.set ((a6.getD i2.toNat []).getD i6.toNat 0).toNat ((l7.getD ((a6.getD i2.toNat []).getD i6.toNat 0).toNat [])++([i2]:An))))))))))) else(some (.done l7)))
def K5(a6:Ko):tf->Option yT6:=
 λ((i2,l3):tf)=>(bif (decide (i2<(a6.length:Int))) then(Ax (As i2 a6.length) ((Ad (Nq a6 i2) ((0:Int),l3)).bind (λx14=>(some (.next ((w64 (i2+1)),x14)))))) else(some (.done l3)))
def uK(i2:Int):=([i2]:An)
def oI(a6:Ko)(i2:Int)(i6:Int):=((a6.getD i2.toNat []).getD i6.toNat 0)
def om(l7:Ko)(a6:Ko)(i2:Int)(i6:Int):=(l7.getD (oI a6 i2 i6).toNat [])
def xk(a6:Ko):=(List.replicate (a6.length:Int).toNat ([]:An))
def Q23(l7:Ko)(a6:Ko)(i2:Int)(i6:Int):=(l7.set (oI a6 i2 i6).toNat ((om l7 a6 i2 i6)++(uK i2)))
def Q19(a6:Ko):List JB:=[(0,(HQ a6)),(3,(.vsl 10 (a6.length:Int).toNat))]
def Q18(l7:Ko)(i2:Int)(a6:Ko)(i6:Int):List JB:=[(3,(.vsl 10 l7.length)),(4,(Z6 i2)),(11,(HQ a6)),(12,(FA a6.length)),(13,(Z6 i2)),(18,(AV.list 1 Aj 0 (a6.getD i2.toNat []) .none)),(19,(.int .i64 ((a6.getD i2.toNat []).length:Int))),(20,(Z6 i6))]
def Q22(l7:Ko)(i2:Int)(a6:Ko)(i6:Int):List JB:=[(3,(.vsl 10 l7.length)),(4,(Z6 i2)),(7,(Z6 (oI a6 i2 i6))),(11,(HQ a6)),(12,(FA a6.length)),(13,(Z6 i2)),(18,(AV.list 1 Aj 0 (a6.getD i2.toNat []) .none)),(19,(.int .i64 ((a6.getD i2.toNat []).length:Int))),(20,(Z6 i6))]
def Ob(a6:Ko):Option Ko:=
 (Ax (0<=(a6.length:Int)/\(a6.length:Int)<=(a6.length:Int)/\(a6.length:Int)<=(room:Int)) ((Ad (K5 a6) ((0:Int),(List.replicate (a6.length:Int).toNat ([]:An)))).bind (λx16=>(some x16))))
variable{v14:Ko}{v15:Ko}
theorem AL(h:Ob v14=some v15):sP 132 [(HQ v14)] [] (tY v15 20000) [(20000,.tok 1 22 v15.length)]:=
 sG Tryz.func132 λΓ q=>have hΓ:=q.own;gR q [0] [] [(2,Z62)] [] (c1 (Bh 1 Kz [])) (tV q M3 [10] h λh=>Py (⟨(Q19 v14),[(10,.arr 1 22 ((v14.length:Int).toNat) (λi_=>AV.eraseAll (λn_=>B8 n_ [10]) ((λ_=>[IZ]) i_)))],[]⟩:St) (Mm (Le.trans (Et (st':=⟨(Q19 v14),[(10,.arr 1 22 ((v14.length:Int).toNat) (Pj 1 Aj (0:Int) (xk v14) (λ_=>.exact)))],[]⟩) (TmpsLe.refl _) (.arr eO .nil)) (Le.trans (Le.trans (eZ (r:=10) (b:=70010) Aj (0:Int) (xk v14) 3 rfl rfl (Ty ..).symm (λh_=>absurd h_ (by decide))) (Ii (st':=⟨(Q19 v14),[(10,.arr 1 22 ((v14.length:Int).toNat) (Pj 1 Aj (0:Int) (xk v14) (Tag.fam 70010)))],[(70010,⟨1,3,N5 (xk v14)⟩)]⟩) (by kernel_rfl))) (Ii (Bv (λk_:Nat=>(⟨[(0,(HQ v14)),(3,(.vsl 10 k_))],[(dh 10 k_ (xk v14) 70010)],[(70010,⟨1,3,N5 (xk v14)⟩)]⟩:St)) (show(v14.length:Int).toNat=(xk v14).length from(Ty ..).symm))))) (Ae q VH Wx (tL q h VH Wx (λu (i2,l3)=>(Cl u [(3,(.vsl 10 l3.length)),(13,(Z6 i2))] [(dh 10 l3.length l3 70010)] [(70010,⟨1,3,N5 l3⟩)])) (λu l4=>aG Γ (.exit 0) (⟨[(3,(.vsl 10 l4.length))],[(dh 10 l4.length l4 70010)],[(70010,⟨1,3,N5 l4⟩)]⟩:St)) (λ⟨i2,l3⟩ y h=>Ae q [3,11,12,13,14] Wx (gC h (λh=>tV q [3,4,5,11,12,13] Wx h λh=>Ae q lw Wx (tL q h lw Wx (λu (i6,l7)=>(Cl u [(3,(.vsl 10 l7.length)),(20,(Z6 i6))] [(dh 10 l7.length l7 70010)] [(70010,⟨1,3,N5 l7⟩)])) (λu l8=>aG Γ (.exit 2) (M2 VH Wx u [(3,(.vsl 10 l8.length))] [(dh 10 l8.length l8 70010)] [(70010,⟨1,3,N5 l8⟩)])) (λ⟨i6,l7⟩ y h=>Ae q [3,4,11,12,13,18,19,20,21] Wx (gC h (λh=>tV q [3,4,7,11,12,13,18,19,20] Wx h λh=>Py (⟨(Q22 l7 i2 v14 i6),[(dh 10 l7.length l7 70010)],[(70010,⟨1,3,N5 l7⟩)]⟩:St) (tC h λc10_ h=>tC h λc11_ h=>tC h λc12_ h=>tC h λc13_ h=>Mm (Le.trans (lF (r:=10) (b:=70010) (k:=60010) Aj (0:Int) l7 (oI v14 i2 i6).toNat 3 rfl rfl rfl rfl (Rk c10_) (by kernel_rfl) (.here .nil)) (Ii (st':=⟨(Q22 l7 i2 v14 i6),[(10,.arr 1 22 l7.length (Pj 1 Aj (0:Int) l7 (Hp 70010 (oI v14 i2 i6).toNat 60010))),(60010,.tok 1 3 ((om l7 v14 i2 i6).length))],[(70010,⟨1,3,DD l7 (oI v14 i2 i6).toNat⟩)]⟩) (by kernel_rfl))) (gR q lw [10,60010,70010] [(29,(Yq (om l7 v14 i2 i6) 60010)),(31,(u2 (uK i2))),(32,(AV.list 1 Aj 0 ((om l7 v14 i2 i6)++(uK i2)) (.own 60010)))] [] (d9_ c11_ (Eq.refl l7.length) (show(AVle (((Pj 1 Aj (0:Int) l7 (Hp 70010 (oI v14 i2 i6).toNat 60010)) (oI v14 i2 i6).toNat).getD 0 .any) (Yq (om l7 v14 i2 i6) 60010)) from YP) (Au 1 Aj (0:Int) (uK i2)) (Eq.refl ((om l7 v14 i2 i6).length)) c12_ (Cf 1 60010 Aj (0:Int) (om l7 v14 i2 i6) (uK i2)) (Bg (om l7 v14 i2 i6) (uK i2)) c13_ (c1 (Eq.refl l7.length))) (Py (⟨(Q18 l7 i2 v14 i6),[(10,.arr 1 22 l7.length (λi_=>AV.eraseAll (λn_=>B8 n_ [10,60010,70010]) ((Fk (Pj 1 Aj (0:Int) l7 (Hp 70010 (oI v14 i2 i6).toNat 60010)) (oI v14 i2 i6).toNat 0 [(AV.list 1 Aj 0 ((om l7 v14 i2 i6)++(uK i2)) (.own 60010))]) i_))),(60010,.tok 1 3 (((om l7 v14 i2 i6)++(uK i2)).length))],[(70010,⟨1,3,DD l7 (oI v14 i2 i6).toNat⟩)]⟩:St) (Mm (Le.trans (Le.trans (qr (r:=10) (b:=70010) (k:=60010) Aj (0:Int) l7 (oI v14 i2 i6).toNat ((om l7 v14 i2 i6)++(uK i2)) 3 rfl (fc (Rk c10_) rfl rfl) rfl rfl rfl rfl (Rk c10_) (by kernel_rfl) (.here (.tok .nil)) (by rw[hΓ];rfl)) (Ii (st':=⟨(Q18 l7 i2 v14 i6),[(dh 10 l7.length (Q23 l7 v14 i2 i6) 70010)],[(70010,⟨1,3,N5 (Q23 l7 v14 i2 i6)⟩)]⟩) (by kernel_rfl))) (Ii (Bv (λk_:Nat=>(⟨[(3,(.vsl 10 k_)),(4,(Z6 i2)),(11,(HQ v14)),(12,(FA v14.length)),(13,(Z6 i2)),(18,(AV.list 1 Aj 0 (v14.getD i2.toNat []) .none)),(19,(.int .i64 ((v14.getD i2.toNat []).length:Int))),(20,(Z6 i6))],[(dh 10 k_ (Q23 l7 v14 i2 i6) 70010)],[(70010,⟨1,3,N5 (Q23 l7 v14 i2 i6)⟩)]⟩:St)) (show l7.length=(Q23 l7 v14 i2 i6).length from(D6 ..).symm)))) (Ae q lw Wx (tN h))))))) λh=>tS h (gO (A2 (A5 VH Wx q))))) λx14 h=>gA (Ae q VH Wx (tN h)))) λh=>tS h (gO (A2 (A5 [3] Wx q))))) λx16 h=>gA (Ae q [2] Wx (Py (⟨[(2,(.vsl 10 x16.length))],[(dh 10 x16.length x16 70010)],[(70010,⟨1,3,N5 x16⟩)]⟩:St) (tS h (gK (e:=.ret) (Hu [(10,20000)] (Le.trans (Gy (nm:=10) (sz:=1) (n:=x16.length) (e:=22) (f:=(Pj 1 Aj (0:Int) x16 (Tag.fam 70010))) (g:=(λi=>Kz (x16.getD i []))) rfl ⟨rfl,trivial⟩ (λ_ _=>rfl) (by rw[hΓ];rfl)) (A5 (st':=⟨[(2,(tY x16 10))],[(10,.tok 1 22 x16.length)],[]⟩) [2] [10] q)))))))))))
def H1(a0:TFunc):tf->Option (LR (Int×Ko) (Ko ⊕ (TGraph×Int))):=
 λ((i3,l4):tf)=>(bif (decide (i3<(a0.Blocks.length:Int))) then(Ax (As i3 a0.Blocks.length) ((P5 (⟨(a0.Blocks.getD i3.toNat default).End.Kind,(a0.Blocks.getD i3.toNat default).End.Arg,(a0.Blocks.getD i3.toNat default).End.To⟩:H7) (a0.Blocks.length:Int)).bind λx7=>(bif (!x7) then(some (.done (.inr ((⟨([]:Ko),([]:Ko)⟩:TGraph),(5:Int))))) else((LA ((a0.Blocks.getD i3.toNat default).End.To)).bind λx8=>(Ax (As i3 l4.length) (some (.next ((w64 (i3+1)),(l4.set i3.toNat x8))))))))) else(some (.done (.inl l4))))
abbrev jf:=(TGraph×Int)
def gb(Γ:Hx)(a0:TFunc)(r:jf):Exit->St->Prop:=fK Tryz.prog Γ Tryz.f75.results.toList [] (.tuple [(gV r.1),(Z6 r.2)]) []
def yA:AV:=IZ
def z8:List JB:=[M5,(3,(.int .i64 (5:Int)))]
def Q29(a0:TFunc)(i3:Int):=(a0.Blocks.getD i3.toNat default)
def Q27:AV:=ur
def Q28(a0:TFunc):=(List.replicate (a0.Blocks.length:Int).toNat ([]:An))
def xA:List AV:=[Z62,Z62]
def Ve(a0:TFunc):Option jf:=
 ((M6 (a0.Blocks.length:Int)).bind λx1=>(bif (!x1) then(some ((⟨([]:Ko),([]:Ko)⟩:TGraph),(5:Int))) else(Ax (0<=(a0.Blocks.length:Int)/\(a0.Blocks.length:Int)<=(a0.Blocks.length:Int)/\(a0.Blocks.length:Int)<=(room:Int)) ((Ad (H1 a0) ((0:Int),(List.replicate (a0.Blocks.length:Int).toNat ([]:An)))).bind (λx10=>(match x10 with|(.inl l5)=>((Ob l5).bind λx12=>(some ((⟨l5,x12⟩:TGraph),(0:Int))))|(.inr r13)=>(some r13)))))))
variable{v16:jf}
theorem OQ(h:Ve v0=some v16):sP 75 [(U7 v0)] [] (.tuple [(gV v16.1),(Z6 v16.2)]) []:=
 sG Tryz.func75 λΓ q=>have hΓ:=q.own;tW q Nw Nw Ud Nw (tB h λx1 y1 h=>tT q [1,2,4,13] Nw [(Z7 x1)] (c1 (X2 y1)) (gC h (λh=>gR q Br [2] [(14,(.agg xA))] [] (c1 (show(AVle (.agg [yA,yA]) (.agg xA)) from(AVle.agg (.cons Cp (.cons Cp .nil))))) (Py (⟨z8,[(Jr 97 xA)],[]⟩:St) (tS h (gK (e:=.ret) (Hu [] (show Le Γ _ (⟨z8,[(oL Q27)],[]⟩:St) from Le.trans (A5 (st':=⟨z8,[(Jr 97 xA)],[]⟩) Br [2] q) (Et (.cons (AVle.refl _) (.cons (AVle.refl _) .nil)) (.row (.cons AVle.untag (.cons AVle.untag .nil)) .nil)))))))) λh=>tV q HM [1,2,16] h λh=>by exact Mm (Le.trans (V7 16 (show ∀ k_,k_<((v0.Blocks.length:Int).toNat)->AVleL ((λi_=>AV.eraseAll (λn_=>B8 n_ [1,2,16]) ((λ_=>[yA]) i_)) k_) ((λi=>Kz ((Q28 v0).getD i [])) k_) from(λk hk=>Ry (e:=Kz) (d:=[]) (.cons (λ_ _ _ _ _ hh=>AVle.untag _ _ _ _ _ (Cp _ _ _ _ _ hh)) .nil) _ k (R8 hk)))) (V8 (λ(k_:Nat) u=>(Cl u [(5,(.vsl 16 k_))] [(16,.arr 1 22 k_ (λi=>Kz ((Q28 v0).getD i [])))])) (show(v0.Blocks.length:Int).toNat=(Q28 v0).length from(Ty ..).symm))) (Ae q cy Xj (tL q h cy Xj (λu (i3,l4)=>(Cl u [(5,(.vsl 16 l4.length)),(20,(Z6 i3))] [(16,.arr 1 22 l4.length (λi=>Kz (l4.getD i [])))])) (λu x_=>match x_ with|(.inl l5)=>aG Γ (.exit 0) (M2 Xk Xj u [(5,(.vsl 16 l5.length))] [(16,.arr 1 22 l5.length (λi=>Kz (l5.getD i [])))])|(.inr r_)=>aR (gb Γ v0 r_)) (λ⟨i3,l4⟩ y h=>Ae q [2,4,5,18,19,20,21] Xj (gC h (λh=>tV q [2,4,5,6,7,18,19,20] [2,7,16] h λh=>tB h λx7 y7 h=>tT q [2,4,5,6,7,18,19,20,29] [2,7,16] [(Z7 x7)] (c1 (MN y7)) (gC h (λh=>gR q Br [2] [(30,(.agg xA))] [] (c1 (show(AVle (.agg [yA,yA]) (.agg xA)) from(AVle.agg (.cons Cp (.cons Cp .nil))))) (Py (⟨z8,[(Jr 97 xA)],[]⟩:St) (tS h (gO (L2 (Hu [] (show Le Γ _ (⟨z8,[(oL Q27)],[]⟩:St) from Le.trans (A5 (st':=⟨z8,[(Jr 97 xA)],[]⟩) Br [2] q) (Et (.cons (AVle.refl _) (.cons (AVle.refl _) .nil)) (.row (.cons AVle.untag (.cons AVle.untag .nil)) .nil))))))))) λh=>tB h λx8 y8 h=>tC h λc9_ h=>tT q cy Xj [⟨[],[],(Z8 x8),[],[],[]⟩] (c3 (jb ((Q29 v0 i3).End.To) x8 y8) c9_ (Eq.refl l4.length)) (Mm (Le.trans (V7 16 (show ∀ k_,k_<l4.length->AVleL ((λi_=>AV.eraseAll (λn_=>B8 n_ Xj) ((Fk (λi=>Kz (l4.getD i [])) i3.toNat 0 [(Z8 x8)]) i_)) k_) ((λi=>Kz ((l4.set i3.toNat x8).getD i [])) k_) from(Bk (D6 ..).symm (λk_ hk_=>(Bv (AV.eraseAll (λn_=>B8 n_ Xj)) ((Hk (λ_ _=>rfl) (Ke c9_) rfl) k_ hk_)).trans rfl)))) (V8 (λ(k_:Nat) u=>(Cl u [(5,(.vsl 16 k_))] [(16,.arr 1 22 k_ (λi=>Kz ((l4.set i3.toNat x8).getD i [])))])) (show l4.length=(l4.set i3.toNat x8).length from(D6 ..).symm))) (Ae q cy Xj (tN h))))) λh=>tS h (gO (A2 (A5 Xk Xj q))))) λx10 h=>(match x10,h with | .inl l5,h=>gA (Py (⟨[M5,(5,(.vsl 16 l5.length))],[(oL yA),(16,.arr 1 22 l5.length (λi=>Kz (l5.getD i [])))],[]⟩:St) (Mm (Le.trans (Gy (nm:=16) (sz:=1) (n:=l5.length) (e:=22) (f:=(λi=>Kz (l5.getD i []))) (g:=(λi=>Kz (l5.getD i []))) rfl ⟨rfl,trivial⟩ (λ_ _=>rfl) (by rw[hΓ];rfl)) (Ii (st':=⟨[M5,(5,(tY l5 16))],[(oL yA),(16,.tok 1 22 l5.length)],[]⟩) (by kernel_rfl))) (tB h λx12 y12 h=>tT q Br [2,16,41] [⟨[],[(20000,41)],(tY x12 20000),[(20000,.tok 1 22 x12.length)],[],[]⟩] (c1 (AL y12)) (tS h (Bm []))))) | .inr r13,h=>gAr (λst' hk=>tS h (gK hk)))))))
def Hq(a6:Ko)(i2:Int):H6->Option (LR (Int×Int) (Unit ⊕ Bool)):=
 λ((i4,i5):H6)=>(bif (decide (i5<((a6.getD i2.toNat []).length:Int))) then(Ax (As i5 (a6.getD i2.toNat []).length) ((bif ((decide (((a6.getD i2.toNat []).getD i5.toNat 0)<=i4))==false) then Kw ((a6.getD i2.toNat []).getD i5.toNat 0) (a6.length:Int) else some false).bind λx7=>(bif (bif (decide (((a6.getD i2.toNat []).getD i5.toNat 0)<=i4)) then true else(!x7)) then(some (.done (.inr false))) else(some (.next (((a6.getD i2.toNat []).getD i5.toNat 0),(w64 (i5+1)))))))) else(some (.done (.inl ()))))
def Dj(a6:Ko):Int->Option (LR Int (Unit ⊕ Bool)):=
 λ(i2:Int)=>(bif (decide (i2<(a6.length:Int))) then(Ax (As i2 a6.length) ((Ad (Hq a6 i2) ((-1:Int),(0:Int))).bind (λx8=>(match x8 with|(.inl _)=>(some (.next (w64 (i2+1))))|(.inr r10)=>(some (.done (.inr r10))))))) else(some (.done (.inl ()))))
def AA(Γ:Hx)(a6:Ko)(r:Bool):Exit->St->Prop:=fK Tryz.prog Γ Tryz.f204.results.toList [] (.bool r) []
def Q30(a6:Ko)(i2:Int)(i5:Int)(i4:Int):=(decide (((a6.getD i2.toNat []).getD i5.toNat 0)<=i4))
def P6(a6:Ko):Option Bool:=
 ((M6 (a6.length:Int)).bind λx1=>(bif (!x1) then(some false) else((Ad (Dj a6) (0:Int)).bind (λx11=>(match x11 with|(.inl _)=>(some true)|(.inr r13)=>(some r13))))))
theorem MO(h:P6 v14=some v3):sP 204 [(HQ v14)] [] (.bool v3) []:=
 sG Tryz.func204 λΓ q=>Ae q [0] [] (tB h λx1 y1 h=>tT q [0,11] [] [(Z7 x1)] (c1 (X2 y1)) (gC h (λh=>Ae q [2] [] (tS h (Bm []))) λh=>Ae q VI [] (tL q h VI [] (λu i2=>(Cl u [(14,(Z6 i2))] [])) (λu x_=>match x_ with|(.inl _)=>aG Γ (.exit 0) (⟨[],[],[]⟩:St)|(.inr r_)=>aR (AA Γ v14 r_)) (λi2 y h=>Ae q [0,12,13,14,15] [] (gC h (λh=>tV q dC [] h λh=>tW q [0,4,5,12,13,14] [] lx [] (tL q h lx [] (λu (i4,i5)=>(Cl u [(5,(Z6 i4)),(20,(Z6 i5))] [])) (λu x_=>match x_ with|(.inl _)=>aG Γ (.exit 2) (M2 VI [] u [] [])|(.inr r_)=>aR (AA Γ v14 r_)) (λ⟨i4,i5⟩ y h=>Ae q [0,5,12,13,14,18,19,20,21] [] (gC h (λh=>tV q [0,5,7,12,13,14,18,19,20] [] h λh=>tB h λx7 y7 h=>tT q [0,7,12,13,14,18,19,20,33] [] [(Z7 x7)] (Sg ((Q30 v14 i2 i5 i4)==false) (c3 (λ(hg:((Q30 v14 i2 i5 i4)==false)=true)=>(S1 (A6 hg y7))) (gI ((Q30 v14 i2 i5 i4)==false)) (Hv (Q30 v14 i2 i5 i4)))) (gC h (λh=>Ae q [2] [] (tS h (gO (L2 (Hu [] (Le.refl _ _)))))) λh=>tW q lx [] lx [] (tN h))) λh=>tS h (gO (A2 (A5 VI [] q))))) λx8 h=>(match x8,h with | .inl _,h=>gA (Ae q VI [] (tN h)) | .inr r10,h=>gAr (λst' hk=>tS h (gO (L2 hk)))))) λh=>tS h (gO (A2 (A5 [] [] q))))) λx11 h=>(match x11,h with | .inl _,h=>gA (Ae q [2] [] (tS h (Bm []))) | .inr r13,h=>gAr (λst' hk=>tS h (gK hk))))))
def Eu(aa6:An)(aa9:An):Int->Option (LR Int (Unit ⊕ Bool)):=
 λ(i1:Int)=>(bif (decide (i1<(aa6.length:Int))) then(Ax (As i1 aa6.length) (Ax (As i1 aa9.length) (bif ((aa6.getD i1.toNat 0)!=(aa9.getD i1.toNat 0)) then(some (.done (.inr false))) else(some (.next (w64 (i1+1))))))) else(some (.done (.inl ()))))
def Ym(Γ:Hx)(aa6:An)(aa9:An)(r:Bool):Exit->St->Prop:=fK Tryz.prog Γ Tryz.f134.results.toList [] (.bool r) []
def En(aa6:An)(aa9:An):Option Bool:=
 (bif ((aa6.length:Int)!=(aa9.length:Int)) then(some false) else((Ad (Eu aa6 aa9) (0:Int)).bind (λx4=>(match x4 with|(.inl _)=>(some true)|(.inr r6)=>(some r6)))))
variable{v17:An}
theorem Me(h:En v2 v17=some v3):sP 134 [(Z8 v2),(Z8 v17)] [] (.bool v3) []:=
 sG Tryz.func134 λΓ q=>tW q Gf [] ER [] (gC h (λh=>Ae q [4] [] (tS h (Bm []))) λh=>Ae q kT [] (tL q h kT [] (λu i1=>(Cl u [(13,(Z6 i1))] [])) (λu x_=>match x_ with|(.inl _)=>aG Γ (.exit 0) (⟨[],[],[]⟩:St)|(.inr r_)=>aR (Ym Γ v2 v17 r_)) (λi1 y h=>Ae q [0,1,12,13,14] [] (gC h (λh=>Ae q [0,1,5,12,13] [] (tC h λc2_ h=>tC h λc3_ h=>tU q [0,1,12,13,24] [] (c2 c2_ c3_) (gC h (λh=>Ae q [4] [] (tS h (gO (L2 (Hu [] (Le.refl _ _)))))) λh=>Ae q kT [] (tN h)))) λh=>tS h (gO (A2 (A5 [] [] q))))) λx4 h=>(match x4,h with | .inl _,h=>gA (Ae q [4] [] (tS h (Bm []))) | .inr r6,h=>gAr (λst' hk=>tS h (gK hk)))))
def B6(aa6:Ko)(aa9:Ko):Int->Option (LR Int (Unit ⊕ Bool)):=
 λ(i1:Int)=>(bif (decide (i1<(aa6.length:Int))) then(Ax (As i1 aa6.length) (Ax (As i1 aa9.length) ((En (aa6.getD i1.toNat []) (aa9.getD i1.toNat [])).bind λx4=>(bif (!x4) then(some (.done (.inr false))) else(some (.next (w64 (i1+1)))))))) else(some (.done (.inl ()))))
def P9(Γ:Hx)(aa6:Ko)(aa9:Ko)(r:Bool):Exit->St->Prop:=fK Tryz.prog Γ Tryz.f205.results.toList [] (.bool r) []
def Dk(aa6:Ko)(aa9:Ko):Option Bool:=
 (bif ((aa6.length:Int)!=(aa9.length:Int)) then(some false) else((Ad (B6 aa6 aa9) (0:Int)).bind (λx5=>(match x5 with|(.inl _)=>(some true)|(.inr r7)=>(some r7)))))
theorem Ps(h:Dk v14 v15=some v3):sP 205 [(HQ v14),(HQ v15),(.clo 134 [] [])] [] (.bool v3) []:=
 sG Tryz.func205 λΓ q=>tW q WF [] [0,1,2,14] [] (gC h (λh=>Ae q [6] [] (tS h (Bm []))) λh=>Ae q j6 [] (tL q h j6 [] (λu i1=>(Cl u [(17,(Z6 i1))] [])) (λu x_=>match x_ with|(.inl _)=>aG Γ (.exit 0) (⟨[],[],[]⟩:St)|(.inr r_)=>aR (P9 Γ v14 v15 r_)) (λi1 y h=>Ae q [1,2,15,16,17,18] [] (gC h (λh=>tV q [1,2,7,8,15,16,17] [] h λh=>tV q [1,2,8,9,15,16,17] [] h λh=>tB h λx4 y4 h=>tT q [1,2,15,16,17,30] [] [(Z7 x4)] (c1 (Me y4)) (gC h (λh=>Ae q [6] [] (tS h (gO (L2 (Hu [] (Le.refl _ _)))))) λh=>Ae q j6 [] (tN h))) λh=>tS h (gO (A2 (A5 [] [] q))))) λx5 h=>(match x5,h with | .inl _,h=>gA (Ae q [6] [] (tS h (Bm []))) | .inr r7,h=>gAr (λst' hk=>tS h (gK hk)))))
def Wl(a4:TGraph):Option Bool:=
 ((P6 a4.Succ).bind λx1=>((bif (x1==true) then Ob a4.Succ else some []).bind λx2=>((bif (x1==true) then Dk a4.Pred x2 else some false).bind λx3=>(some (bif x1 then x3 else false)))))
variable{v18:TGraph}
theorem cG(h:Wl v18=some v3):sP 175 [(gV v18)] [] (.bool v3) []:=
 sG Tryz.func175 λΓ q=>Ae q [1] [1] (tB h λx1 y1 h=>tB h λx2 y2 h=>tB h λx3 y3 h=>tT q [2] [] [(Z7 x1),⟨[],[],(HQ x2),[],[],[]⟩,(Z7 x3)] (ci (MO y1) (Sg (x1==true) (ci (show((x1==true)=true->(sP 132 [(HQ v18.Succ)] [] (HQ x2) [])) from(λhg=>(Spec.drop (AL (A6 hg y2))))) (Ju (x1==true) (c2 (λ(hg:(x1==true)=true)=>(Ps (A6 hg y3))) (Lz x1)))))) (tS h (Bm [])))
abbrev yT8:=(Int×Int×An)
def Bi :yT8->Option (LR (Int×Int×An) An):=
 λ((i1,i2,l3):yT8)=>(bif (decide (i1<i2)) then(Ax (As i2 l3.length) (Ax (As i1 l3.length) (Ax (As i1 l3.length) (Ax (As i2 l3.length) (some (.next ((w64 (i1+1)),(w64 (i2-1)),((l3.set i1.toNat (l3.getD i2.toNat 0)).set i2.toNat (l3.getD i1.toNat 0))))))))) else(some (.done l3)))
def Q31(l3:An)(i1:Int)(i2:Int):=((l3.set i1.toNat (l3.getD i2.toNat 0)).set i2.toNat (l3.getD i1.toNat 0))
def Fi(aO:An):Option An:=
 ((Ad (S:=yT8) (X:=An) Bi ((0:Int),(w64 ((aO.length:Int)-1)),aO)).bind (λx9=>(some x9)))
theorem O8(h:Fi v2=some v17):sP 176 [(.vsl 34000 v2.length)] [(Z4 34000 v2)] (.tuple []) [(Z4 34000 v17)]:=
 sG Tryz.func176 λΓ q=>Ae q IW [34000] (tL q h IW [34000] (λu (i1,i2,l3)=>(Cl u [(0,(.vsl 34000 l3.length)),(2,(Z6 i1)),(3,(Z6 i2))] [(Z4 34000 l3)])) (λu l4=>aG Γ (.exit 0) (⟨[],[(Z4 34000 l4)],[]⟩:St)) (λ⟨i1,i2,l3⟩ y h=>Ae q [0,2,3,9] [34000] (gC h (λh=>tC h λc5_ h=>tC h λc6_ h=>tC h λc7_ h=>tC h λc8_ h=>tU q IW [34000] (c8 c5_ (Eq.refl l3.length) c6_ (Eq.refl l3.length) c7_ (Eq.refl l3.length) c8_ (Eq.refl l3.length)) (Mm (Le.trans (V7 34000 (show ∀ k_,k_<l3.length->AVleL ((λi_=>AV.eraseAll (λn_=>B8 n_ [34000]) ((Fk (Fk (λi=>Aj (l3.getD i 0)) i1.toNat 0 [(.int .i64 (l3.getD i2.toNat 0))]) i2.toNat 0 [(.int .i64 (l3.getD i1.toNat 0))]) i_)) k_) ((λi=>Aj ((Q31 l3 i1 i2).getD i 0)) k_) from(Bk (Eq.trans (D6 ..).symm (D6 ..).symm) (λk_ hk_=>(Bv (AV.eraseAll (λn_=>B8 n_ [34000])) ((Hk (Hk (λ_ _=>rfl) (Ke c7_) rfl) (vb c8_) rfl) k_ hk_)).trans rfl)))) (V8 (λ(k_:Nat) u=>(Cl u [(0,(.vsl 34000 k_))] [(34000,.arr 1 3 k_ (λi=>Aj ((Q31 l3 i1 i2).getD i 0)))])) (show l3.length=(Q31 l3 i1 i2).length from(Eq.trans (D6 ..).symm (D6 ..).symm)))) (Ae q IW [34000] (tN h)))) λh=>tS h (gO (A2 (A5 [] [34000] q))))) λx9 h=>nI (λst' hl10=>tS h (gK (e:=.normal) (Hu [(34000,34000)] hl10))))
abbrev yT9:=(LR An (An ⊕ (List Bool×An×An)))
def ME(a4:TGraph)(a1:Int):An->Option yT9:=
 λ(l9:An)=>(Ax (As ([a1].getD (w64 (([a1].length:Int)-1)).toNat (0:Int)) 64) (Ax (As ([a1].getD (w64 (([a1].length:Int)-1)).toNat (0:Int)) a4.Succ.length) (bif (decide ((l9.getD ([a1].getD (w64 (([a1].length:Int)-1)).toNat (0:Int)).toNat (0:Int))<((a4.Succ.getD ([a1].getD (w64 (([a1].length:Int)-1)).toNat (0:Int)).toNat []).length:Int))) then(Ax (As ([a1].getD (w64 (([a1].length:Int)-1)).toNat (0:Int)) a4.Succ.length) (Ax (As ([a1].getD (w64 (([a1].length:Int)-1)).toNat (0:Int)) 64) (Ax (As (l9.getD ([a1].getD (w64 (([a1].length:Int)-1)).toNat (0:Int)).toNat (0:Int)) (a4.Succ.getD ([a1].getD (w64 (([a1].length:Int)-1)).toNat (0:Int)).toNat []).length) (Ax (As ([a1].getD (w64 (([a1].length:Int)-1)).toNat (0:Int)) 64) (Ax (As ([a1].getD (w64 (([a1].length:Int)-1)).toNat (0:Int)) 64) (Ax (As ((a4.Succ.getD ([a1].getD (w64 (([a1].length:Int)-1)).toNat (0:Int)).toNat []).getD (l9.getD ([a1].getD (w64 (([a1].length:Int)-1)).toNat (0:Int)).toNat (0:Int)).toNat (0:Int)) 64) (bif (!((Qz 64 false (List.replicate 64 false) a1.toNat true).getD ((a4.Succ.getD ([a1].getD (w64 (([a1].length:Int)-1)).toNat (0:Int)).toNat []).getD (l9.getD ([a1].getD (w64 (([a1].length:Int)-1)).toNat (0:Int)).toNat (0:Int)).toNat (0:Int)).toNat false)) then(Ax (As ((a4.Succ.getD ([a1].getD (w64 (([a1].length:Int)-1)).toNat (0:Int)).toNat []).getD (l9.getD ([a1].getD (w64 (([a1].length:Int)-1)).toNat (0:Int)).toNat (0:Int)).toNat (0:Int)) 64) (Ax ([a1].length+([((a4.Succ.getD ([a1].getD (w64 (([a1].length:Int)-1)).toNat (0:Int)).toNat []).getD (l9.getD ([a1].getD (w64 (([a1].length:Int)-1)).toNat (0:Int)).toNat (0:Int)).toNat (0:Int))]:An).length<=room) (some (.done (.inr ((Qz 64 false (Qz 64 false (List.replicate 64 false) a1.toNat true) ((a4.Succ.getD ([a1].getD (w64 (([a1].length:Int)-1)).toNat (0:Int)).toNat []).getD (l9.getD ([a1].getD (w64 (([a1].length:Int)-1)).toNat (0:Int)).toNat (0:Int)).toNat (0:Int)).toNat true),(Qz 64 (0:Int) l9 ([a1].getD (w64 (([a1].length:Int)-1)).toNat (0:Int)).toNat (w64 ((l9.getD ([a1].getD (w64 (([a1].length:Int)-1)).toNat (0:Int)).toNat (0:Int))+1))),([a1]++([((a4.Succ.getD ([a1].getD (w64 (([a1].length:Int)-1)).toNat (0:Int)).toNat []).getD (l9.getD ([a1].getD (w64 (([a1].length:Int)-1)).toNat (0:Int)).toNat (0:Int)).toNat (0:Int))]:An)))))))) else(some (.next (Qz 64 (0:Int) l9 ([a1].getD (w64 (([a1].length:Int)-1)).toNat (0:Int)).toNat (w64 ((l9.getD ([a1].getD (w64 (([a1].length:Int)-1)).toNat (0:Int)).toNat (0:Int))+1)))))))))))) else(some (.done (.inl l9))))))
def J2(a4:TGraph)(l1:List Bool)(l3:An):An->Option yT9:=
 λ(l32:An)=>(Ax (As (l3.getD (w64 ((l3.length:Int)-1)).toNat (0:Int)) 64) (Ax (As (l3.getD (w64 ((l3.length:Int)-1)).toNat (0:Int)) a4.Succ.length) (bif (decide ((l32.getD (l3.getD (w64 ((l3.length:Int)-1)).toNat (0:Int)).toNat (0:Int))<((a4.Succ.getD (l3.getD (w64 ((l3.length:Int)-1)).toNat (0:Int)).toNat []).length:Int))) then(Ax (As (l3.getD (w64 ((l3.length:Int)-1)).toNat (0:Int)) a4.Succ.length) (Ax (As (l3.getD (w64 ((l3.length:Int)-1)).toNat (0:Int)) 64) (Ax (As (l32.getD (l3.getD (w64 ((l3.length:Int)-1)).toNat (0:Int)).toNat (0:Int)) (a4.Succ.getD (l3.getD (w64 ((l3.length:Int)-1)).toNat (0:Int)).toNat []).length) (Ax (As (l3.getD (w64 ((l3.length:Int)-1)).toNat (0:Int)) 64) (Ax (As (l3.getD (w64 ((l3.length:Int)-1)).toNat (0:Int)) 64) (Ax (As ((a4.Succ.getD (l3.getD (w64 ((l3.length:Int)-1)).toNat (0:Int)).toNat []).getD (l32.getD (l3.getD (w64 ((l3.length:Int)-1)).toNat (0:Int)).toNat (0:Int)).toNat (0:Int)) 64) (bif (!(l1.getD ((a4.Succ.getD (l3.getD (w64 ((l3.length:Int)-1)).toNat (0:Int)).toNat []).getD (l32.getD (l3.getD (w64 ((l3.length:Int)-1)).toNat (0:Int)).toNat (0:Int)).toNat (0:Int)).toNat false)) then(Ax (As ((a4.Succ.getD (l3.getD (w64 ((l3.length:Int)-1)).toNat (0:Int)).toNat []).getD (l32.getD (l3.getD (w64 ((l3.length:Int)-1)).toNat (0:Int)).toNat (0:Int)).toNat (0:Int)) 64) (Ax (l3.length+([((a4.Succ.getD (l3.getD (w64 ((l3.length:Int)-1)).toNat (0:Int)).toNat []).getD (l32.getD (l3.getD (w64 ((l3.length:Int)-1)).toNat (0:Int)).toNat (0:Int)).toNat (0:Int))]:An).length<=room) (some (.done (.inr ((Qz 64 false l1 ((a4.Succ.getD (l3.getD (w64 ((l3.length:Int)-1)).toNat (0:Int)).toNat []).getD (l32.getD (l3.getD (w64 ((l3.length:Int)-1)).toNat (0:Int)).toNat (0:Int)).toNat (0:Int)).toNat true),(Qz 64 (0:Int) l32 (l3.getD (w64 ((l3.length:Int)-1)).toNat (0:Int)).toNat (w64 ((l32.getD (l3.getD (w64 ((l3.length:Int)-1)).toNat (0:Int)).toNat (0:Int))+1))),(l3++([((a4.Succ.getD (l3.getD (w64 ((l3.length:Int)-1)).toNat (0:Int)).toNat []).getD (l32.getD (l3.getD (w64 ((l3.length:Int)-1)).toNat (0:Int)).toNat (0:Int)).toNat (0:Int))]:An)))))))) else(some (.next (Qz 64 (0:Int) l32 (l3.getD (w64 ((l3.length:Int)-1)).toNat (0:Int)).toNat (w64 ((l32.getD (l3.getD (w64 ((l3.length:Int)-1)).toNat (0:Int)).toNat (0:Int))+1)))))))))))) else(some (.done (.inl l32))))))
abbrev sa:=(List Bool×An×An×An)
def Ek(a4:TGraph):sa->Option (LR (List Bool×An×An×An) An):=
 λ(s_:sa)=>match s_ with|(l1,l2,l3,l4)=>(Ax (As (w64 ((l3.length:Int)-1)) l3.length) ((Ad (J2 a4 l1 l3) l2).bind (λx47=>(match x47 with|(.inl l33)=>(Ax (l4.length+([(l3.getD (w64 ((l3.length:Int)-1)).toNat (0:Int))]:An).length<=room) (Ax (0<=(w64 ((l3.length:Int)-1))/\0+(w64 ((l3.length:Int)-1)).toNat<=l3.length) (bif (decide ((0:Int)<((l3.take (w64 ((l3.length:Int)-1)).toNat).length:Int))) then(some (.next (l1,l33,(l3.take (w64 ((l3.length:Int)-1)).toNat),(l4++([(l3.getD (w64 ((l3.length:Int)-1)).toNat (0:Int))]:An))))) else((Fi (l4++([(l3.getD (w64 ((l3.length:Int)-1)).toNat (0:Int))]:An))).bind λx51=>(Ax ((l4++([(l3.getD (w64 ((l3.length:Int)-1)).toNat (0:Int))]:An)).length=x51.length) (some (.done x51)))))))|(.inr (l34,l35,l36))=>(some (.next (l34,l35,l36,l4)))))))
def XA(Γ:Hx)(a4:TGraph)(a1:Int)(r:An):Exit->St->Prop:=fK Tryz.prog Γ Tryz.f141.results.toList [] (Yq r 20000) [(AB 20000 r.length)]
def Q50(l1:List Bool):=(λi=>eB (l1.getD i false))
def oJ(l3:An):=(l3.getD (w64 ((l3.length:Int)-1)).toNat (0:Int))
def pF(l4:An)(l3:An):=(l4++([(oJ l3)]:An))
def Q43(l10:An):=(λi=>Aj (l10.getD i 0))
def Q49(l33:An):=(λi=>Aj (l33.getD i 0))
def gP:=(λn_=>B8 n_ [2,5,6,25,36007])
def yY(a1:Int):=(λi=>Aj ([a1].getD i 0))
def ka(a1:Int):=([a1].getD (w64 (([a1].length:Int)-1)).toNat (0:Int))
def tP(a1:Int):=(([]:An)++([(ka a1)]:An))
def Q54(a1:Int):=(λi=>Aj ((tP a1).getD i 0))
def Q53(l4:An)(l3:An):=(λi=>Aj ((pF l4 l3).getD i 0))
def Q40:AV:=XH
def Q42:=(λi=>Aj (([]:An).getD i 0))
def yT(l3:An):=(0+(w64 ((l3.length:Int)-1)).toNat)
def Q37(a1:Int):=(0+(w64 (([a1].length:Int)-1)).toNat)
def Q52(a1:Int):=([a1].take (w64 (([a1].length:Int)-1)).toNat)
def Q41:=(λi=>Aj ((List.replicate 64 (0:Int)).getD i 0))
def pA(a4:TGraph):List AV:=[(HQ a4.Succ),(HQ a4.Pred)]
def xB(a1:Int):=(λi=>eB ((Qz 64 false (List.replicate 64 false) a1.toNat true).getD i false))
def tO(a4:TGraph)(l3:An)(l32:An):=((a4.Succ.getD (oJ l3).toNat []).getD (l32.getD (oJ l3).toNat (0:Int)).toNat (0:Int))
def tM(a4:TGraph)(a1:Int)(l9:An):=((a4.Succ.getD (ka a1).toNat []).getD (l9.getD (ka a1).toNat (0:Int)).toNat (0:Int))
def Q51:=(Z39:St)
def Q55(a1:Int):List JB:=[M5,pS,pR,(7,(.vsl 36007 (tP a1).length)),(8,(.vsl 25 (Q37 a1)))]
def Q48(a1:Int)(a4:TGraph):=(⟨[M5,pS,pR,(7,(.vsl 36007 ([]:An).length)),(8,(.vsl 25 [a1].length)),(9,(Z6 (ka a1)))],[(Jr 97 (pA a4)),(RI (xB a1)),(PU Q41),(25,.arr 1 3 ([a1].length) (yY a1)),(36007,.arr 1 3 (([]:An).length) Q42)],[]⟩:St)
def Lv(a4:TGraph)(a1:Int):Option An:=
 ((Ua (S:=sa) (X:=An) ((Wl a4).bind λx5=>((bif ((!x5)==false) then Kw a1 (a4.Succ.length:Int) else some false).bind λx6=>(bif (bif (!x5) then true else(!x6)) then(some (.done ([]:An))) else(Ax (As a1 64) (Ax (As (w64 (([a1].length:Int)-1)) [a1].length) ((Ad (ME a4 a1) (List.replicate 64 (0:Int))).bind (λx24=>(match x24 with|(.inl l10)=>(Ax (([]:An).length+([([a1].getD (w64 (([a1].length:Int)-1)).toNat (0:Int))]:An).length<=room) (Ax (0<=(w64 (([a1].length:Int)-1))/\0+(w64 (([a1].length:Int)-1)).toNat<=[a1].length) (bif (decide ((0:Int)<(([a1].take (w64 (([a1].length:Int)-1)).toNat).length:Int))) then(some (.next ((Qz 64 false (List.replicate 64 false) a1.toNat true),l10,([a1].take (w64 (([a1].length:Int)-1)).toNat),(([]:An)++([([a1].getD (w64 (([a1].length:Int)-1)).toNat (0:Int))]:An))))) else((Fi (([]:An)++([([a1].getD (w64 (([a1].length:Int)-1)).toNat (0:Int))]:An))).bind λx28=>(Ax ((([]:An)++([([a1].getD (w64 (([a1].length:Int)-1)).toNat (0:Int))]:An)).length=x28.length) (some (.done x28)))))))|(.inr (l11,l12,l13))=>(some (.next (l11,l12,l13,([]:An)))))))))))) (Ek a4)).bind (λx54=>(some x54)))
theorem DL(h:Lv v18 v1=some v2):sP 141 [(gV v18),(Z6 v1)] [] (Yq v2 20000) [(AB 20000 v2.length)]:=
 sG Tryz.func141 λΓ q=>have hΓ:=q.own;gR q Nw [2] [(4,Q40)] [] (c1 (Bh 1 Aj (0:Int))) (tB h λx54 y54 h=>gS y54 (λ(s_:sa)=>match s_ with|(l1,l2,l3,l4)=>0) (λ(s_:sa)=>match s_ with|(l1,l2,l3,l4)=>(⟨[M5,pS,pR,(W0 36007 l4.length),(8,(.vsl 25 l3.length))],[(Jr 97 (pA v18)),(RI (Q50 l1)),(Z78 l2),(Z4 25 l3),(Z4 36007 l4)],[]⟩:St)) (λr_=>aR (XA Γ v18 v1 r_)) (λy h=>tB h λx5 y5 h=>tB h λx6 y6 h=>tT q [1,2,21] [2] [(Z7 x5),(Z7 x6)] (ci (cG y5) (JT ((!x5)==false) (c3 (λ(hg:((!x5)==false)=true)=>(S1 (A6 hg y6))) (gI ((!x5)==false)) (Hv (!x5))))) (gC h (λh=>gR q [4] [] [(4,Q40)] [] (c1 (Bh 1 Aj (0:Int))) (Py (⟨[(4,Q40)],[],[]⟩:St) (tS h (oM (L2 (Hu VJ (show Le Γ _ Q51 from Le.trans (A5 (st':=⟨[(4,Q40)],[],[]⟩) [4] [] q) (Le.trans (L9 (t:=4) (nm:=6004) (sz':=1) Q42 3 rfl rfl (.inl ⟨rfl,rfl⟩) (λh_=>absurd h_ (by decide))) (A5 (st':=Q51) [4] [6004] q))))))))) λh=>gR q Yi Xk [pS] [] trivial (Mm (V7 5 (show ∀ k_,k_<64->AVleL ((λi_=>AV.eraseAll (λn_=>B8 n_ Xk) ((λi=>(((List.replicate 64 [(.bool false)]).flatten).drop (i*1)).take 1) i_)) k_) ((λi=>eB ((List.replicate 64 false).getD i false)) k_) from(YO (e:=eB) (d:=false) (z:=[(.bool false)]) rfl rfl rfl))) (gR q [1,2,5,6] Yj [pR] [] trivial (Mm (V7 6 (show ∀ k_,k_<64->AVleL ((λi_=>AV.eraseAll (λn_=>B8 n_ Yj) ((λi=>(((List.replicate 64 [Jf]).flatten).drop (i*1)).take 1) i_)) k_) (Q41 k_) from(YO (e:=Aj) (d:=(0:Int)) (z:=[Jf]) rfl rfl rfl))) (gR q kI Yj [(7,Q40)] [] (c1 (Bh 1 Aj (0:Int))) (tC h λc7_ h=>tU q kI Yj (c2 c7_ (Eq.refl 64)) (Mm (V7 5 (show ∀ k_,k_<64->AVleL ((λi_=>AV.eraseAll (λn_=>B8 n_ Yj) ((Fk (λi=>eB ((List.replicate 64 false).getD i false)) v1.toNat 0 [(.bool true)]) i_)) k_) ((xB v1) k_) from(Bk rfl (λk_ hk_=>(Bv (AV.eraseAll (λn_=>B8 n_ Yj)) ((X9 (λ_ _=>rfl) (Rk c7_) rfl) k_ hk_)).trans rfl)))) (gR q EW dK [(25,(.vsl 25 1))] [] trivial (Mm (Le.trans (V7 25 (show ∀ k_,k_<1->AVleL ((λi_=>AV.eraseAll (λn_=>B8 n_ dK) ((λi_=>([(Z6 v1)].drop (i_*1)).take 1) i_)) k_) ((yY v1) k_) from(Bk rfl (cR (n:=0) jK rfl)))) (V8 (λ(k_:Nat) u=>(Cl u [(8,(.vsl 25 k_))] [(25,.arr 1 3 k_ (yY v1))])) (show 1=[v1].length from rfl))) (tC h λc8_ h=>tU q HJ dK (c2 c8_ (Eq.refl ([v1].length))) (Mm (st':=(Q48 v1 v18)) (Le.trans (A5 (st':=⟨[M5,pS,pR,(7,Q40),(8,(.vsl 25 [v1].length)),(9,(Z6 (ka v1)))],[(Jr 97 (pA v18)),(RI (xB v1)),(PU Q41),(25,.arr 1 3 ([v1].length) (yY v1))],[]⟩) HJ dK q) (Le.trans (bs (t:=7) (nm:=36007) (sz':=1) Q42 3 rfl rfl) (A5 (st':=(Q48 v1 v18)) HJ Q0 q))) (tL q h HJ Q0 (λu l9=>(Cl u [] [(Z78 l9)])) (λu x_=>match x_ with|(.inl l10)=>aG Γ (.exit 0) (Cl u [] [(PU (Q43 l10))])|(.inr (l11,l12,l13))=>aG Γ (.goto 0) (M2 EW Q0 u [(8,(.vsl 25 l13.length))] [(5,.arr 1 212 64 (λi=>eB (l11.getD i false))),(Z78 l12),(Z4 25 l13)])) (λl9 y h=>tC h λc14_ h=>tC h λc15_ h=>tU q [2,5,6,7,8,9,41] Q0 (c3 c14_ (Eq.refl 64) c15_) (gC h (λh=>tC h λc16_ h=>tC h λc17_ h=>tC h λc18_ h=>tU q cx Q0 (c4 c16_ c17_ (Eq.refl 64) c18_) (tC h λc19_ h=>tC h λc20_ h=>tU q cx Q0 (c4 c19_ (Eq.refl 64) c20_ (Eq.refl 64)) (Mm (V7 6 (show ∀ k_,k_<64->AVleL ((λi_=>AV.eraseAll gP ((Fk (λi=>Aj (l9.getD i 0)) (ka v1).toNat 0 [(.int .i64 (w64 ((l9.getD (ka v1).toNat (0:Int))+1)))]) i_)) k_) ((λi=>Aj ((Qz 64 (0:Int) l9 (ka v1).toNat (w64 ((l9.getD (ka v1).toNat (0:Int))+1))).getD i 0)) k_) from(Bk rfl (λk_ hk_=>(Bv (AV.eraseAll gP) ((X9 (λ_ _=>rfl) (Rk c20_) rfl) k_ hk_)).trans rfl)))) (tC h λc21_ h=>tU q s6 Q0 (c2 c21_ (Eq.refl 64)) (gC h (λh=>tC h λc22_ h=>tU q [2,5,6,7,8,10] Q0 (c2 c22_ (Eq.refl 64)) (Mm (V7 5 (show ∀ k_,k_<64->AVleL ((λi_=>AV.eraseAll gP ((Fk (xB v1) (tM v18 v1 l9).toNat 0 [(.bool true)]) i_)) k_) ((λi=>eB ((Qz 64 false (Qz 64 false (List.replicate 64 false) v1.toNat true) (tM v18 v1 l9).toNat true).getD i false)) k_) from(Bk rfl (λk_ hk_=>(Bv (AV.eraseAll gP) ((X9 (λ_ _=>rfl) (Rk c22_) rfl) k_ hk_)).trans rfl)))) (tC h λc23_ h=>gR q EW Q0 [(65,(ke (tM v18 v1 l9)))] [] (c3 (Au 1 Aj (0:Int) ([(tM v18 v1 l9)]:An)) (Eq.refl ([v1].length)) c23_) (tS h (gO (A2 (Le.trans (Le.trans (V7 25 (show ∀ k_,k_<([v1].length+([(tM v18 v1 l9)]:An).length)->AVleL ((λi_=>AV.eraseAll gP ((Pn ([v1].length) (yY v1) (λi=>Aj (([(tM v18 v1 l9)]:An).getD i 0))) i_)) k_) ((λi=>Aj (([v1]++([(tM v18 v1 l9)]:An)).getD i 0)) k_) from(Bk (Bg _ _) (λk_ hk_=>(Bv (AV.eraseAll gP) ((Xu (λ_ _=>rfl) (λ_ _=>rfl)) k_ hk_)).trans rfl)))) (V8 (λ(k_:Nat) u=>(Cl u [(8,(.vsl 25 k_))] [(25,.arr 1 3 k_ (λi=>Aj (([v1]++([(tM v18 v1 l9)]:An)).getD i 0)))])) (show([v1].length+([(tM v18 v1 l9)]:An).length)=([v1]++([(tM v18 v1 l9)]:An)).length from(Bg _ _)))) Gj))))))) λh=>tS h (gN (A5 HJ Q0 q))))))) λh=>tS h (gO (A2 (A5 HJ Q0 q))))) λx24 h=>(match x24,h with | .inl l10,h=>gA (tC h λc26_ h=>gR q EW Q0 [(69,(ke (ka v1)))] [] (c3 (Au 1 Aj (0:Int) ([(ka v1)]:An)) (Eq.refl (([]:An).length)) c26_) (Mm (Le.trans (V7 36007 (show ∀ k_,k_<(([]:An).length+([(ka v1)]:An).length)->AVleL ((λi_=>AV.eraseAll gP ((Pn (([]:An).length) Q42 (λi=>Aj (([(ka v1)]:An).getD i 0))) i_)) k_) ((Q54 v1) k_) from(Bk (Bg _ _) (λk_ hk_=>(Bv (AV.eraseAll gP) ((Xu (λ_ _=>rfl) (λ_ _=>rfl)) k_ hk_)).trans rfl)))) (V8 (λ(k_:Nat) u=>(Cl u [(W0 36007 k_)] [(36007,.arr 1 3 k_ (Q54 v1))])) (show(([]:An).length+([(ka v1)]:An).length)=(tP v1).length from(Bg _ _)))) (tC h λc27_ h=>tU q EW Q0 (c1 c27_) (Py (⟨[M5,pS,pR,(7,(.vsl 36007 (tP v1).length)),(8,(.vsub 25 [v1].length 0 (Q37 v1)))],[(Jr 97 (pA v18)),(RI (xB v1)),(PU (Q43 l10)),(25,.arr 1 3 ([v1].length) (yY v1)),(36007,.arr 1 3 ((tP v1).length) (Q54 v1))],[]⟩:St) (Mm (Le.trans (Le.trans (ee (t:=8) (r:=25) (k:=(Q37 v1)) rfl rfl c27_.2 (by kernel_rfl) (.row (by kernel_rfl) (.arr (λ_=>by kernel_rfl) (.arr (λ_=>by kernel_rfl) (.arr (λ_=>by kernel_rfl) (.arr (λ_=>by kernel_rfl) .nil))))) (by rw[hΓ];rfl)) (Ii (st':=⟨(Q55 v1),[(Jr 97 (pA v18)),(RI (xB v1)),(PU (Q43 l10)),(25,.arr 1 3 (Q37 v1) (yY v1)),(36007,.arr 1 3 ((tP v1).length) (Q54 v1))],[]⟩) (by kernel_rfl))) (Le.trans (Et (st':=⟨(Q55 v1),[(Jr 97 (pA v18)),(RI (xB v1)),(PU (Q43 l10)),(25,.arr 1 3 (Q37 v1) (λi=>Aj ((Q52 v1).getD i 0))),(36007,.arr 1 3 ((tP v1).length) (Q54 v1))],[]⟩) (TmpsLe.refl _) (.same (.same (.same (.arr (lh (e:=Aj) (d:=(0:Int))) (.same .nil)))))) (Ii (Bv (λk_:Nat=>(⟨[M5,pS,pR,(7,(.vsl 36007 (tP v1).length)),(8,(.vsl 25 k_))],[(Jr 97 (pA v18)),(RI (xB v1)),(PU (Q43 l10)),(25,.arr 1 3 k_ (λi=>Aj ((Q52 v1).getD i 0))),(36007,.arr 1 3 ((tP v1).length) (Q54 v1))],[]⟩:St)) (show(Q37 v1)=(Q52 v1).length from fw c27_.2))))) (Ae q [2,5,6,7,8,78] Q0 (gC h (λh=>tS h (qe (A5 EW Q0 q))) λh=>tB h λx28 y28 h=>tC h λc29_ h=>tT q [7] [36007] [⟨[(36007,34000)],[],(.tuple []),[(Z4 34000 x28)],[],[]⟩] (c1 (O8 y28)) (Mm (V8 (λ(k_:Nat) u=>(Cl u [(W0 36007 k_)] [])) (show(tP v1).length=x28.length from c29_)) (Ae q [4] [36007] (Py ((mf 36007 x28.length x28):St) (tS h (oM (L2 (Hu [(36007,20000)] (Le.trans (Gy (nm:=36007) (sz:=1) (n:=x28.length) (e:=3) (f:=(λi=>Aj (x28.getD i 0))) (g:=(λi=>Aj (x28.getD i 0))) rfl ⟨rfl,trivial⟩ (λ_ _=>rfl) (by rw[hΓ];rfl)) (Ii (st':=(md x28 36007 x28.length)) (by kernel_rfl))))))))))))))))) | .inr ⟨l11,l12,l13⟩,h=>nI (λst' hl30=>tS h (qe (Le.trans hl30 Gj))))))))))))))))) (λ⟨l1,l2,l3,l4⟩ y h=>tC h λc31_ h=>tU q HJ Q0 (c2 c31_ (Eq.refl l3.length)) (tL q h HJ Q0 (λu l32=>(Cl u [] [(Z78 l32)])) (λu x_=>match x_ with|(.inl l33)=>aG Γ (.exit 0) (Cl u [] [(PU (Q49 l33))])|(.inr (l34,l35,l36))=>aG Γ (.goto 0) (M2 EW Q0 u [(8,(.vsl 25 l36.length))] [(5,.arr 1 212 64 (λi=>eB (l34.getD i false))),(Z78 l35),(Z4 25 l36)])) (λl32 y h=>tC h λc37_ h=>tC h λc38_ h=>tU q [2,5,6,7,8,9,41] Q0 (c3 c37_ (Eq.refl 64) c38_) (gC h (λh=>tC h λc39_ h=>tC h λc40_ h=>tC h λc41_ h=>tU q cx Q0 (c4 c39_ c40_ (Eq.refl 64) c41_) (tC h λc42_ h=>tC h λc43_ h=>tU q cx Q0 (c4 c42_ (Eq.refl 64) c43_ (Eq.refl 64)) (Mm (V7 6 (show ∀ k_,k_<64->AVleL ((λi_=>AV.eraseAll gP ((Fk (λi=>Aj (l32.getD i 0)) (oJ l3).toNat 0 [(.int .i64 (w64 ((l32.getD (oJ l3).toNat (0:Int))+1)))]) i_)) k_) ((λi=>Aj ((Qz 64 (0:Int) l32 (oJ l3).toNat (w64 ((l32.getD (oJ l3).toNat (0:Int))+1))).getD i 0)) k_) from(Bk rfl (λk_ hk_=>(Bv (AV.eraseAll gP) ((X9 (λ_ _=>rfl) (Rk c43_) rfl) k_ hk_)).trans rfl)))) (tC h λc44_ h=>tU q s6 Q0 (c2 c44_ (Eq.refl 64)) (gC h (λh=>tC h λc45_ h=>tU q [2,5,6,7,8,10] Q0 (c2 c45_ (Eq.refl 64)) (Mm (V7 5 (show ∀ k_,k_<64->AVleL ((λi_=>AV.eraseAll gP ((Fk (Q50 l1) (tO v18 l3 l32).toNat 0 [(.bool true)]) i_)) k_) ((λi=>eB ((Qz 64 false l1 (tO v18 l3 l32).toNat true).getD i false)) k_) from(Bk rfl (λk_ hk_=>(Bv (AV.eraseAll gP) ((X9 (λ_ _=>rfl) (Rk c45_) rfl) k_ hk_)).trans rfl)))) (tC h λc46_ h=>gR q EW Q0 [(65,(ke (tO v18 l3 l32)))] [] (c3 (Au 1 Aj (0:Int) ([(tO v18 l3 l32)]:An)) (Eq.refl l3.length) c46_) (tS h (gO (A2 (Le.trans (Le.trans (V7 25 (show ∀ k_,k_<(l3.length+([(tO v18 l3 l32)]:An).length)->AVleL ((λi_=>AV.eraseAll gP ((Pn l3.length (λi=>Aj (l3.getD i 0)) (λi=>Aj (([(tO v18 l3 l32)]:An).getD i 0))) i_)) k_) ((λi=>Aj ((l3++([(tO v18 l3 l32)]:An)).getD i 0)) k_) from(Bk (Bg _ _) (λk_ hk_=>(Bv (AV.eraseAll gP) ((Xu (λ_ _=>rfl) (λ_ _=>rfl)) k_ hk_)).trans rfl)))) (V8 (λ(k_:Nat) u=>(Cl u [(8,(.vsl 25 k_))] [(25,.arr 1 3 k_ (λi=>Aj ((l3++([(tO v18 l3 l32)]:An)).getD i 0)))])) (show(l3.length+([(tO v18 l3 l32)]:An).length)=(l3++([(tO v18 l3 l32)]:An)).length from(Bg _ _)))) Gj))))))) λh=>tS h (gN (A5 HJ Q0 q))))))) λh=>tS h (gO (A2 (A5 HJ Q0 q))))) λx47 h=>(match x47,h with | .inl l33,h=>gA (tC h λc49_ h=>gR q EW Q0 [(69,(ke (oJ l3)))] [] (c3 (Au 1 Aj (0:Int) ([(oJ l3)]:An)) (Eq.refl l4.length) c49_) (Mm (Le.trans (V7 36007 (show ∀ k_,k_<(l4.length+([(oJ l3)]:An).length)->AVleL ((λi_=>AV.eraseAll gP ((Pn l4.length (λi=>Aj (l4.getD i 0)) (λi=>Aj (([(oJ l3)]:An).getD i 0))) i_)) k_) ((Q53 l4 l3) k_) from(Bk (Bg _ _) (λk_ hk_=>(Bv (AV.eraseAll gP) ((Xu (λ_ _=>rfl) (λ_ _=>rfl)) k_ hk_)).trans rfl)))) (V8 (λ(k_:Nat) u=>(Cl u [(W0 36007 k_)] [(36007,.arr 1 3 k_ (Q53 l4 l3))])) (show(l4.length+([(oJ l3)]:An).length)=(pF l4 l3).length from(Bg _ _)))) (tC h λc50_ h=>tU q EW Q0 (c1 c50_) (Py (⟨[M5,pS,pR,(7,(.vsl 36007 (pF l4 l3).length)),(8,(.vsub 25 l3.length 0 (yT l3)))],[(Jr 97 (pA v18)),(RI (Q50 l1)),(PU (Q49 l33)),(Z4 25 l3),(36007,.arr 1 3 ((pF l4 l3).length) (Q53 l4 l3))],[]⟩:St) (Mm (Le.trans (Le.trans (ee (t:=8) (r:=25) (k:=(yT l3)) rfl rfl c50_.2 (by kernel_rfl) (.row (by kernel_rfl) (.arr (λ_=>by kernel_rfl) (.arr (λ_=>by kernel_rfl) (.arr (λ_=>by kernel_rfl) (.arr (λ_=>by kernel_rfl) .nil))))) (by rw[hΓ];rfl)) (Ii (st':=⟨[M5,pS,pR,(7,(.vsl 36007 (pF l4 l3).length)),(8,(.vsl 25 (yT l3)))],[(Jr 97 (pA v18)),(RI (Q50 l1)),(PU (Q49 l33)),(25,.arr 1 3 (yT l3) (λi=>Aj (l3.getD i 0))),(36007,.arr 1 3 ((pF l4 l3).length) (Q53 l4 l3))],[]⟩) (by kernel_rfl))) (Le.trans (Et (st':=⟨[M5,pS,pR,(7,(.vsl 36007 (pF l4 l3).length)),(8,(.vsl 25 (yT l3)))],[(Jr 97 (pA v18)),(RI (Q50 l1)),(PU (Q49 l33)),(25,.arr 1 3 (yT l3) (λi=>Aj ((l3.take (w64 ((l3.length:Int)-1)).toNat).getD i 0))),(36007,.arr 1 3 ((pF l4 l3).length) (Q53 l4 l3))],[]⟩) (TmpsLe.refl _) (.same (.same (.same (.arr (lh (e:=Aj) (d:=(0:Int))) (.same .nil)))))) (Ii (Bv (λk_:Nat=>(⟨[M5,pS,pR,(7,(.vsl 36007 (pF l4 l3).length)),(8,(.vsl 25 k_))],[(Jr 97 (pA v18)),(RI (Q50 l1)),(PU (Q49 l33)),(25,.arr 1 3 k_ (λi=>Aj ((l3.take (w64 ((l3.length:Int)-1)).toNat).getD i 0))),(36007,.arr 1 3 ((pF l4 l3).length) (Q53 l4 l3))],[]⟩:St)) (show(yT l3)=(l3.take (w64 ((l3.length:Int)-1)).toNat).length from fw c50_.2))))) (Ae q [2,5,6,7,8,78] Q0 (gC h (λh=>tS h (qe (A5 EW Q0 q))) λh=>tB h λx51 y51 h=>tC h λc52_ h=>tT q [7] [36007] [⟨[(36007,34000)],[],(.tuple []),[(Z4 34000 x51)],[],[]⟩] (c1 (O8 y51)) (Mm (V8 (λ(k_:Nat) u=>(Cl u [(W0 36007 k_)] [])) (show(pF l4 l3).length=x51.length from c52_)) (Ae q [4] [36007] (Py ((mf 36007 x51.length x51):St) (tS h (oM (L2 (Hu [(36007,20000)] (Le.trans (Gy (nm:=36007) (sz:=1) (n:=x51.length) (e:=3) (f:=(λi=>Aj (x51.getD i 0))) (g:=(λi=>Aj (x51.getD i 0))) rfl ⟨rfl,trivial⟩ (λ_ _=>rfl) (by rw[hΓ];rfl)) (Ii (st':=(md x51 36007 x51.length)) (by kernel_rfl))))))))))))))))) | .inr ⟨l34,l35,l36⟩,h=>nI (λst' hl53=>tS h (qe (Le.trans hl53 Gj)))))) (gAr (λst' hk=>tS h (gK hk))))
def KD(aD:Int)(aa7:Int):Option H6:=
 (some ((Jc ((Jc ((Jc ((Yc .u64 aD (32:Int))*(Yc .u64 aa7 (32:Int))))+(Yc .u64 (Jc ((Jc ((Yc .u64 aD (32:Int))*(We .and .u64 aa7 (4294967295:Int))))+(Yc .u64 (Jc ((We .and .u64 aD (4294967295:Int))*(We .and .u64 aa7 (4294967295:Int)))) (32:Int)))) (32:Int))))+(Yc .u64 (Jc ((We .and .u64 (Jc ((Jc ((Yc .u64 aD (32:Int))*(We .and .u64 aa7 (4294967295:Int))))+(Yc .u64 (Jc ((We .and .u64 aD (4294967295:Int))*(We .and .u64 aa7 (4294967295:Int)))) (32:Int)))) (4294967295:Int))+(Jc ((We .and .u64 aD (4294967295:Int))*(Yc .u64 aa7 (32:Int)))))) (32:Int)))),(Jc (aD*aa7))))
variable{v19:H6}
theorem XS(h:KD v1 v11=some v19):sP 213 [(Ti v1),(Ti v11)] [] (.tuple [(Ti v19.1),(Ti v19.2)]) []:=
 sG Tryz.func213 λΓ q=>tW q Gf [] [0,1,6] [] (tU q VW [] (c1 (show(0<=(32:Int)) from(by decide))) (Ae q VK [] (tU q [0,1,6,7,8,9] [] (c1 (show(0<=(32:Int)) from(by decide))) (Ae q [0,1,6,7,8,9,10] [] (tU q [0,1,6,7,9,11] [] (c1 (show(0<=(32:Int)) from(by decide))) (Ae q [0,1,6,7,9,11,12] [] (tU q [0,1,6,7,9,12,13] [] (c1 (show(0<=(32:Int)) from(by decide))) (Ae q [0,1,7,9,12,13] [] (tU q [0,1,4] [] (c1 (show(0<=(32:Int)) from(by decide))) (Ae q Qu [] (tS h (Bm []))))))))))))
def Sv(aD:Int)(aa7:Int):Option H6:=
 ((KD aD aa7).bind λx1=>(some (x1.1,x1.2)))
theorem ON(h:Sv v1 v11=some v19):sP 189 [(Ti v1),(Ti v11)] [] (.tuple [(Ti v19.1),(Ti v19.2)]) []:=
 sG Tryz.func189 λΓ q=>Ae q Gf [] (dQ false (tB h λx1 y1 h=>tT q [8,9] [] [⟨[],[],(.tuple [(Ti x1.1),(Ti x1.2)]),[],[],[]⟩] (c1 (XS y1)) (Ae q Qu [] (tS h (Bm [])))))
abbrev IK:=(Int×An)
abbrev wl:=(LR (Int×An) An)
def Da :IK->Option wl:=
 λ((i7,l8):IK)=>(bif (decide (i7<(l8.length:Int))) then(Ax (0<=i7/\0+i7.toNat<=l8.length) (Ax (0<=i7/\0+i7.toNat<=l8.length) (some (.next ((w64 (i7+((Nat.min ((0+i7.toNat)-0) (l8.length-(0+i7.toNat))):Int))),(iR l8 (0+i7.toNat) (Nat.min ((0+i7.toNat)-0) (l8.length-(0+i7.toNat))) (λi=>l8.getD (0+i) 0))))))) else(some (.done l8)))
def pG(x3:H6):=(List.replicate (w64 x3.2).toNat (0:Int))
def Q58(x3:H6)(aD:An):=(iR (pG x3) 0 (Nat.min aD.length ((pG x3).length-0)) (λi=>aD.getD i 0))
def Q57(l8:An)(i7:Int):=(iR l8 (0+i7.toNat) (Nat.min ((0+i7.toNat)-0) (l8.length-(0+i7.toNat))) (λi=>l8.getD (0+i) 0))
def I6(aD:An)(aaF:Int):Option An:=
 (Option.bind (α:=Unit) (bif (decide (aaF<0)) then none else(some ())) (λx1=>(match x1 with|_=>((Sv (Jc (aD.length:Int)) (Jc aaF)).bind λx3=>(Option.bind (α:=Unit) (bif (bif (decide ((0:Int)<x3.1)) then true else(decide ((9223372036854775807:Int)<x3.2))) then none else(some ())) (λx4=>(match x4 with|_=>(Ax (0<=(w64 x3.2)/\(w64 x3.2)<=(w64 x3.2)/\(w64 x3.2)<=(room:Int)) ((Ad (S:=IK) (X:=An) Da (((Nat.min aD.length ((List.replicate (w64 x3.2).toNat (0:Int)).length-0)):Int),(iR (List.replicate (w64 x3.2).toNat (0:Int)) 0 (Nat.min aD.length ((List.replicate (w64 x3.2).toNat (0:Int)).length-0)) (λi=>aD.getD i 0)))).bind (λx12=>(some x12)))))))))))
theorem Xf(h:I6 v2 v1=some v17):sP 177 [(Z8 v2),(Z6 v1)] [] (.vsl 20000 v17.length) [(Z4 20000 v17)]:=
 sG Tryz.func177 λΓ q=>gR q Gf [] [(4,XH)] [] (c1 (Bh 1 Aj (0:Int))) (tB h λx1 y1 h=>gJ y1 (λ_=>aG Γ .normal (⟨[(0,(Z8 v2)),(1,(Z6 v1))],[],[]⟩:St)) (λy h=>Ae q ER [] (gC h (λh=>nomatch h) λh=>tS h (gK (A2 (A5 Gf [] q))))) (gA (tB h λx3 y3 h=>tT q [0,5,6] [] [⟨[],[],(.tuple [(Ti x3.1),(Ti x3.2)]),[],[],[]⟩] (c1 (ON y3)) (tB h λx4 y4 h=>gJ y4 (λ_=>aG Γ .normal (⟨[(0,(Z8 v2)),(6,(Ti x3.2))],[],[]⟩:St)) (λy h=>tU q [0,6,26] [] (c2 (gI ((decide ((0:Int)<x3.1))==false)) (Hv (decide ((0:Int)<x3.1)))) (gC h (λh=>nomatch h) λh=>tS h (gK (A2 (A5 [0,6] [] q))))) (gA (tV q [0,7] [30] h λh=>by exact Mm (Le.trans (V7 30 (show ∀ k_,k_<((w64 x3.2).toNat)->AVleL ((λi_=>AV.eraseAll (λn_=>B8 n_ [30]) ((λ_=>[Jf]) i_)) k_) ((λi=>Aj ((pG x3).getD i 0)) k_) from(λk hk=>Ry (e:=Aj) (d:=(0:Int)) (.cons (AVle.refl _) .nil) _ k (R8 hk)))) (V8 (λ(k_:Nat) u=>(Cl u [(W0 30 k_)] [(30,.arr 1 3 k_ (λi=>Aj ((pG x3).getD i 0)))])) (show(w64 x3.2).toNat=(pG x3).length from(Ty ..).symm))) (tU q [7,8] [30] (c1 (Eq.refl ((pG x3).length))) (Mm (Le.trans (V7 30 (show ∀ k_,k_<((pG x3).length)->AVleL ((λi_=>AV.eraseAll (λn_=>B8 n_ [30]) ((iP (λi=>Aj ((pG x3).getD i 0)) 0 (Nat.min v2.length ((pG x3).length-0)) (λi=>Aj (v2.getD i 0))) i_)) k_) ((λi=>Aj ((Q58 x3 v2).getD i 0)) k_) from(Bk (J4 ..) (λk_ hk_=>(Bv (AV.eraseAll (λn_=>B8 n_ [30])) ((QT (e:=Aj) (d:=(0:Int)) (l:=(pG x3)) (s:=(λi=>v2.getD i 0)) (λ_ _=>rfl) (λ_ _=>rfl)) k_ hk_)).trans rfl)))) (V8 (λ(k_:Nat) u=>(Cl u [(W0 30 k_)] [(30,.arr 1 3 k_ (λi=>Aj ((Q58 x3 v2).getD i 0)))])) (show(pG x3).length=(Q58 x3 v2).length from(J4 ..)))) (tL q h [7,8] [30] (λu (i7,l8)=>(Cl u [(W0 30 l8.length),(8,(Z6 i7))] [(Z4 30 l8)])) (λu l9=>aG Γ (.exit 0) (⟨[(W0 30 l9.length)],[(Z4 30 l9)],[]⟩:St)) (λ⟨i7,l8⟩ y h=>Ae q [7,8,37] [30] (gC h (λh=>tC h λc10_ h=>tC h λc11_ h=>tU q [7,8] [30] (c4 c10_ c11_ (Eq.refl l8.length) (Eq.refl l8.length)) (tS h (gN (Le.trans (Le.trans (V7 30 (show ∀ k_,k_<l8.length->AVleL ((λi_=>AV.eraseAll (λn_=>B8 n_ [30]) ((iP (λi=>Aj (l8.getD i 0)) (0+i7.toNat) (Nat.min ((0+i7.toNat)-0) (l8.length-(0+i7.toNat))) (λi=>(λi=>Aj (l8.getD i 0)) (0+i))) i_)) k_) ((λi=>Aj ((Q57 l8 i7).getD i 0)) k_) from(Bk (J4 ..) (λk_ hk_=>(Bv (AV.eraseAll (λn_=>B8 n_ [30])) ((QT (e:=Aj) (d:=(0:Int)) (l:=l8) (s:=(λi=>l8.getD (0+i) 0)) (λ_ _=>rfl) (λ_ _=>rfl)) k_ hk_)).trans rfl)))) (V8 (λ(k_:Nat) u=>(Cl u [(W0 30 k_)] [(30,.arr 1 3 k_ (λi=>Aj ((Q57 l8 i7).getD i 0)))])) (show l8.length=(Q57 l8 i7).length from(J4 ..)))) Gj)))) λh=>tS h (gO (A2 (A5 [7] [30] q))))) λx12 h=>gA (Ae q [4] [30] (tS h (Bm [(30,20000)]))))))))))))
abbrev YH:=(Int×List Bool)
abbrev sb:=(LR (Int×List Bool) (List Bool))
def Lu(aA:An):YH->Option sb:=
 λ((i2,l3):YH)=>(bif (i2 !=-1) then(Ax (As i2 l3.length) (Ax (As i2 aA.length) (some (.next ((aA.getD i2.toNat 0),(l3.set i2.toNat true)))))) else(some (.done l3)))
def Jv(aA:An)(l4:List Bool):Int->Option (LR Int Int):=
 λ(i9:Int)=>(Ax (As i9 l4.length) (bif (!(l4.getD i9.toNat false)) then(Ax (As i9 aA.length) (some (.next (aA.getD i9.toNat 0)))) else(some (.done i9))))
def Sx(aA:An)(a9:Int)(aK:Int):Option Int:=
 (Ax (0<=(aA.length:Int)/\(aA.length:Int)<=(aA.length:Int)/\(aA.length:Int)<=(room:Int)) ((Ad (Lu aA) (a9,(List.replicate (aA.length:Int).toNat false))).bind (λx7=>((Ad (Jv aA x7) aK).bind (λx13=>(some x13))))))
variable{v20:Int}
theorem OP(h:Sx v2 v1 v11=some v20):sP 206 [(Z8 v2),(Z6 v1),(Z6 v11)] [] (.int .i64 v20) []:=
 sG Tryz.func206 λΓ q=>Ae q WF [] (tV q [0,1,2,7] [11] h λh=>by exact Mm (Le.trans (V7 11 (show ∀ k_,k_<((v2.length:Int).toNat)->AVleL ((λi_=>AV.eraseAll (λn_=>B8 n_ [11]) ((λ_=>[(.bool false)]) i_)) k_) ((λi=>eB ((List.replicate (v2.length:Int).toNat false).getD i false)) k_) from(λk hk=>Ry (e:=eB) (d:=false) (.cons (AVle.refl _) .nil) _ k (R8 hk)))) (V8 (λ(k_:Nat) u=>(Cl u [(W0 11 k_)] [(11,.arr 1 4 k_ (λi=>eB ((List.replicate (v2.length:Int).toNat false).getD i false)))])) (show(v2.length:Int).toNat=(List.replicate (v2.length:Int).toNat false).length from(Ty ..).symm))) (Ae q dO [11] (tL q h dO [11] (λu (i2,l3)=>(Cl u [(W0 11 l3.length),(8,(Z6 i2))] [(mg 11 l3)])) (λu l4=>aG Γ (.exit 0) (M2 WG [11] u [(W0 11 l4.length)] [(mg 11 l4)])) (λ⟨i2,l3⟩ y h=>Ae q [0,2,7,8,14] [11] (gC h (λh=>tC h λc5_ h=>tU q dO [11] (c2 c5_ (Eq.refl l3.length)) (Mm (Le.trans (V7 11 (show ∀ k_,k_<l3.length->AVleL ((λi_=>AV.eraseAll (λn_=>B8 n_ [11]) ((Fk (λi=>eB (l3.getD i false)) i2.toNat 0 [(.bool true)]) i_)) k_) ((λi=>eB ((l3.set i2.toNat true).getD i false)) k_) from(Bk (D6 ..).symm (λk_ hk_=>(Bv (AV.eraseAll (λn_=>B8 n_ [11])) ((Hk (λ_ _=>rfl) (Ke c5_) rfl) k_ hk_)).trans rfl)))) (V8 (λ(k_:Nat) u=>(Cl u [(W0 11 k_)] [(11,.arr 1 4 k_ (λi=>eB ((l3.set i2.toNat true).getD i false)))])) (show l3.length=(l3.set i2.toNat true).length from(D6 ..).symm))) (tV q dO [11] h λh=>tN h))) λh=>tS h (gO (A2 (A5 WG [11] q))))) λx7 h=>gA (tL q h WG [11] (λu i9=>(Cl u [(2,(Z6 i9))] [])) (λu i10=>aG Γ (.exit 2) (⟨[(2,(Z6 i10))],[],[]⟩:St)) (λi9 y h=>tC h λc11_ h=>tU q [0,2,7,26] [11] (c2 c11_ (Eq.refl x7.length)) (gC h (λh=>tV q WG [11] h λh=>tN h) λh=>tS h (gO (A2 (A5 [2] [] q))))) λx13 h=>gA (Ae q [6] [] (tS h (Bm [])))))))
open Go Go.RowKit
set_option maxRecDepth 100000
set_option maxHeartbeats 2000000
def Fx(aA:An)(aE:An):H6->Option lp:=
 λ((i1,i2):H6)=>(bif (decide (i2<(aE.length:Int))) then(Option.bind (α:=Int) (Ax (As i2 aE.length) (Ax (As (aE.getD i2.toNat 0) aA.length) (bif ((aA.getD (aE.getD i2.toNat 0).toNat (0:Int))==-2) then(some i1) else(bif (i1==-2) then(some (aE.getD i2.toNat 0)) else((Sx aA i1 (aE.getD i2.toNat 0)).bind λx7=>(some x7)))))) (λx8=>(some (.next (x8,(w64 (i2+1))))))) else(some (.done i1)))
def Nh(aA:An)(aE:An):Option Int:=
 ((Ad (Fx aA aE) ((-2:Int),(0:Int))).bind (λx10=>(some x10)))
theorem DK(h:Nh v2 v17=some v1):sP 178 [(Z8 v2),(Z8 v17)] [] (.int .i64 v1) []:=
 sG Tryz.func178 λΓ q=>tW q Gf [] Px [] (Ae q NI [] (tL q h NI [] (λu (i1,i2)=>(Cl u [(5,(Z6 i1)),(10,(Z6 i2))] [])) (λu i3=>aG Γ (.exit 0) (⟨[(5,(Z6 i3))],[],[]⟩:St)) (λ⟨i1,i2⟩ y h=>Ae q [0,5,8,9,10,11] [] (gC h (λh=>tB h λx8 y8 h=>gJ y8 (λi4=>aG Γ .normal (⟨[(0,(Z8 v2)),(5,(Z6 i4)),(8,(Z8 v17)),(9,(FA v17.length)),(10,(Z6 i2))],[],[]⟩:St)) (λy h=>tV q [0,5,7,8,9,10] [] h λh=>tV q [0,5,7,8,9,10,18] [] h λh=>gC h (λh=>tS h (gK (A2 (A5 NI [] q)))) λh=>Ae q [0,5,7,8,9,10,24] [] (gC h (λh=>Ae q NI [] (tS h (gK (A2 Gj)))) λh=>tB h λx7 y7 h=>tT q NI [] [(EZ x7)] (c1 (OP y7)) (tS h (gK (A2 Gj))))) (gA (Ae q NI [] (tN h)))) λh=>tS h (gO (A2 (A5 [5] [] q))))) λx10 h=>gA (Ae q [4] [] (tS h (Bm [])))))
abbrev wm:=(Bool×Int×An)
abbrev Ac0:=(LR (Bool×Int×An) (Bool×An))
abbrev sc:=(Bool×An)
def E6(a4:TGraph)(x3:An):wm->Option Ac0:=
 λ((b7,i8,l9):wm)=>(bif (decide (i8<((x3.drop (1:Int).toNat).length:Int))) then(Option.bind (α:=sc) (Ax (As i8 (x3.drop (1:Int).toNat).length) (Ax (As ((x3.drop (1:Int).toNat).getD i8.toNat 0) a4.Pred.length) ((Nh l9 (a4.Pred.getD ((x3.drop (1:Int).toNat).getD i8.toNat 0).toNat [])).bind λx16=>(Ax (As ((x3.drop (1:Int).toNat).getD i8.toNat 0) l9.length) (bif (x16 !=(l9.getD ((x3.drop (1:Int).toNat).getD i8.toNat 0).toNat (0:Int))) then(Ax (As ((x3.drop (1:Int).toNat).getD i8.toNat 0) l9.length) (some (true,(l9.set ((x3.drop (1:Int).toNat).getD i8.toNat 0).toNat x16)))) else(some (b7,l9))))))) (λ(b12,l13)=>(some (.next (b12,(w64 (i8+1)),l13))))) else(some (.done (b7,l9))))
def W5(a4:TGraph)(l1:An):wm->Option Ac0:=
 λ((b24,i25,l26):wm)=>(bif (decide (i25<((l1.drop (1:Int).toNat).length:Int))) then(Option.bind (α:=sc) (Ax (As i25 (l1.drop (1:Int).toNat).length) (Ax (As ((l1.drop (1:Int).toNat).getD i25.toNat 0) a4.Pred.length) ((Nh l26 (a4.Pred.getD ((l1.drop (1:Int).toNat).getD i25.toNat 0).toNat [])).bind λx33=>(Ax (As ((l1.drop (1:Int).toNat).getD i25.toNat 0) l26.length) (bif (x33 !=(l26.getD ((l1.drop (1:Int).toNat).getD i25.toNat 0).toNat (0:Int))) then(Ax (As ((l1.drop (1:Int).toNat).getD i25.toNat 0) l26.length) (some (true,(l26.set ((l1.drop (1:Int).toNat).getD i25.toNat 0).toNat x33)))) else(some (b24,l26))))))) (λ(b29,l30)=>(some (.next (b29,(w64 (i25+1)),l30))))) else(some (.done (b24,l26))))
abbrev jd:=(An×An)
def H0(a4:TGraph):jd->Option (LR (An×An) An):=
 λ(s_:jd)=>match s_ with|(l1,l2)=>(Ax (0<=(1:Int)/\(1:Int)<=(l1.length:Int)) ((Ad (W5 a4 l1) (false,(0:Int),l2)).bind (λx38=>(match x38 with|(b27,l28)=>(bif b27 then(some (.next (l1,l28))) else(some (.done l28)))))))
def ga(Γ:Hx)(a4:TGraph)(aaA:Int)(r:An):Exit->St->Prop:=fK Tryz.prog Γ Tryz.f142.results.toList [] (Yq r 20000) [(AB 20000 r.length)]
def Q63:=(λn_=>B8 n_ [2,13,21])
def Q61:List JB:=[(4,XH)]
def Q60(x3:An)(i8:Int):=((x3.drop (1:Int).toNat).getD i8.toNat 0)
def Q59(l1:An)(i25:Int):=((l1.drop (1:Int).toNat).getD i25.toNat 0)
def Q62(a4:TGraph):List AV:=[(HQ a4.Succ),(HQ a4.Pred)]
def Q64:=(Z39:St)
def Vd(a4:TGraph)(aaA:Int):Option An:=
 ((Ua (S:=jd) (X:=An) ((Lv a4 aaA).bind λx3=>(bif ((x3.length:Int)==0) then(some (.done ([]:An))) else((I6 ([(-2:Int)]:An) (a4.Succ.length:Int)).bind λx4=>(Ax (As aaA x4.length) (Ax (0<=(1:Int)/\(1:Int)<=(x3.length:Int)) ((Ad (E6 a4 x3) (false,(0:Int),(x4.set aaA.toNat (-1:Int)))).bind (λ(b10,l11)=>(bif b10 then(some (.next (x3,l11))) else(some (.done l11)))))))))) (H0 a4)).bind (λx40=>(some x40)))
theorem fP(h:Vd v18 v1=some v2):sP 142 [(gV v18),(Z6 v1)] [] (Yq v2 20000) [(AB 20000 v2.length)]:=
 sG Tryz.func142 λΓ q=>have hΓ:=q.own;gR q Nw [2] Q61 [] (c1 (Bh 1 Aj (0:Int))) (tB h λx40 y40 h=>gS y40 (λ(s_:jd)=>match s_ with|(l1,l2)=>0) (λ(s_:jd)=>match s_ with|(l1,l2)=>(⟨[M5,(5,(Yq l1 13)),(6,(.vsl 21 l2.length))],[(Jr 97 (Q62 v18)),(AB 13 l1.length),(Z4 21 l2)],[]⟩:St)) (λr_=>aR (ga Γ v18 v1 r_)) (λy h=>tB h λx3 y3 h=>tT q Yi [2,13] [(uy 13 x3 x3.length)] (c1 (DL y3)) (Ae q [1,2,5,16] [2,13] (gC h (λh=>gR q [4] [] Q61 [] (c1 (Bh 1 Aj (0:Int))) (Py (⟨Q61,[],[]⟩:St) (tS h (oM (L2 (Hu VJ (show Le Γ _ Q64 from Le.trans (A5 (st':=⟨Q61,[],[]⟩) [4] [] q) (Le.trans (L9 (t:=4) (nm:=6004) (sz':=1) (λi=>Aj (([]:An).getD i 0)) 3 rfl rfl (.inl ⟨rfl,rfl⟩) (λh_=>absurd h_ (by decide))) (A5 (st':=Q64) [4] [6004] q))))))))) λh=>tB h λx4 y4 h=>gR q [1,2,5,6] Kq [(17,(AV.list 1 Aj 0 ([(-2:Int)]:An) .exact))] [⟨[],[(20000,21)],(.vsl 20000 x4.length),[(Z4 20000 x4)],[],[]⟩] (c2 (Au 1 Aj (0:Int) ([(-2:Int)]:An)) (Xf y4)) (tC h λc5_ h=>tU q Yj Kq (c2 c5_ (Eq.refl x4.length)) (Mm (Le.trans (V7 21 (show ∀ k_,k_<x4.length->AVleL ((λi_=>AV.eraseAll Q63 ((Fk (λi=>Aj (x4.getD i 0)) v1.toNat 0 [(.int .i64 (-1:Int))]) i_)) k_) ((λi=>Aj ((x4.set v1.toNat (-1:Int)).getD i 0)) k_) from(Bk (D6 ..).symm (λk_ hk_=>(Bv (AV.eraseAll Q63) ((Hk (λ_ _=>rfl) (Ke c5_) rfl) k_ hk_)).trans rfl)))) (V8 (λ(k_:Nat) u=>(Cl u [(6,(.vsl 21 k_))] [(21,.arr 1 3 k_ (λi=>Aj ((x4.set v1.toNat (-1:Int)).getD i 0)))])) (show x4.length=(x4.set v1.toNat (-1:Int)).length from(D6 ..).symm))) (Ae q NN Kq (tC h λc6_ h=>gR q HG Kq [(26,(AV.list 1 Aj 0 (x3.drop (1:Int).toNat) .none))] [] (c2 c6_ (show(AVle (Z71 x3) (AV.list 1 Aj 0 (x3.drop (1:Int).toNat) .none)) from QQ)) (tL q h HG Kq (λu (b7,i8,l9)=>(Cl u [(6,(.vsl 21 l9.length)),(7,(.bool b7)),(28,(Z6 i8))] [(Z4 21 l9)])) (λu (b10,l11)=>aG Γ (.exit 0) (M2 NN Kq u [(6,(.vsl 21 l11.length)),(7,(.bool b10))] [(Z4 21 l11)])) (λ⟨b7,i8,l9⟩ y h=>Ae q su Kq (gC h (λh=>tB h λx19 y19 h=>gJ y19 (λ(b12,l13)=>aG Γ .normal (⟨[M5,(5,(Yq x3 13)),(6,(.vsl 21 l13.length)),(7,(.bool b12)),(26,(AV.list 1 Aj 0 (x3.drop (1:Int).toNat) .none)),(27,(.int .i64 ((x3.drop (1:Int).toNat).length:Int))),(28,(Z6 i8))],[(Jr 97 (Q62 v18)),(AB 13 x3.length),(Z4 21 l13)],[]⟩:St)) (λy h=>tV q sy Kq h λh=>tC h λc15_ h=>tB h λx16 y16 h=>tT q so Kq [⟨[],[],(Z6 x16),[],[21],[]⟩] (c4 c15_ (DK y16) (show(OC []) from trivial) (Eq.refl l9.length)) (tC h λc17_ h=>tU q sn Kq (c2 c17_ (Eq.refl l9.length)) (gC h (λh=>tC h λc18_ h=>tU q HG Kq (c2 c18_ (Eq.refl l9.length)) (tS h (gK (A2 (Le.trans (Le.trans (V7 21 (show ∀ k_,k_<l9.length->AVleL ((λi_=>AV.eraseAll Q63 ((Fk (λi=>Aj (l9.getD i 0)) (Q60 x3 i8).toNat 0 [(Z6 x16)]) i_)) k_) ((λi=>Aj ((l9.set (Q60 x3 i8).toNat x16).getD i 0)) k_) from(Bk (D6 ..).symm (λk_ hk_=>(Bv (AV.eraseAll Q63) ((Hk (λ_ _=>rfl) (Ke c18_) rfl) k_ hk_)).trans rfl)))) (V8 (λ(k_:Nat) u=>(Cl u [(6,(.vsl 21 k_))] [(21,.arr 1 3 k_ (λi=>Aj ((l9.set (Q60 x3 i8).toNat x16).getD i 0)))])) (show l9.length=(l9.set (Q60 x3 i8).toNat x16).length from(D6 ..).symm))) Gj))))) λh=>tS h (gK (A2 (A5 HG Kq q)))))) (match x19,h with|⟨b12,l13⟩,h=>gA (Ae q HG Kq (tN h)))) λh=>tS h (gO (A2 (A5 NN Kq q))))) λx21 h=>(match x21,h with|⟨b10,l11⟩,h=>gA (Ae q [2,5,6,50] Kq (gC h (λh=>tS h (qe (A5 Yj Kq q))) λh=>Ae q [4] [21] (Py ((mf 21 l11.length l11):St) (tS h (oM (L2 (Hu [(21,20000)] (Le.trans (Gy (nm:=21) (sz:=1) (n:=l11.length) (e:=3) (f:=(λi=>Aj (l11.getD i 0))) (g:=(λi=>Aj (l11.getD i 0))) rfl ⟨rfl,trivial⟩ (λ_ _=>rfl) (by rw[hΓ];rfl)) (Ii (st':=(md l11 21 l11.length)) (by kernel_rfl))))))))))))))))))) (λ⟨l1,l2⟩ y h=>Ae q NN Kq (tC h λc23_ h=>gR q HG Kq [(26,(AV.list 1 Aj 0 (l1.drop (1:Int).toNat) .none))] [] (c2 c23_ (show(AVle (Z71 l1) (AV.list 1 Aj 0 (l1.drop (1:Int).toNat) .none)) from QQ)) (tL q h HG Kq (λu (b24,i25,l26)=>(Cl u [(6,(.vsl 21 l26.length)),(7,(.bool b24)),(28,(Z6 i25))] [(Z4 21 l26)])) (λu (b27,l28)=>aG Γ (.exit 0) (M2 NN Kq u [(6,(.vsl 21 l28.length)),(7,(.bool b27))] [(Z4 21 l28)])) (λ⟨b24,i25,l26⟩ y h=>Ae q su Kq (gC h (λh=>tB h λx36 y36 h=>gJ y36 (λ(b29,l30)=>aG Γ .normal (⟨[M5,(5,(Yq l1 13)),(6,(.vsl 21 l30.length)),(7,(.bool b29)),(26,(AV.list 1 Aj 0 (l1.drop (1:Int).toNat) .none)),(27,(.int .i64 ((l1.drop (1:Int).toNat).length:Int))),(28,(Z6 i25))],[(Jr 97 (Q62 v18)),(AB 13 l1.length),(Z4 21 l30)],[]⟩:St)) (λy h=>tV q sy Kq h λh=>tC h λc32_ h=>tB h λx33 y33 h=>tT q so Kq [⟨[],[],(Z6 x33),[],[21],[]⟩] (c4 c32_ (DK y33) (show(OC []) from trivial) (Eq.refl l26.length)) (tC h λc34_ h=>tU q sn Kq (c2 c34_ (Eq.refl l26.length)) (gC h (λh=>tC h λc35_ h=>tU q HG Kq (c2 c35_ (Eq.refl l26.length)) (tS h (gK (A2 (Le.trans (Le.trans (V7 21 (show ∀ k_,k_<l26.length->AVleL ((λi_=>AV.eraseAll Q63 ((Fk (λi=>Aj (l26.getD i 0)) (Q59 l1 i25).toNat 0 [(Z6 x33)]) i_)) k_) ((λi=>Aj ((l26.set (Q59 l1 i25).toNat x33).getD i 0)) k_) from(Bk (D6 ..).symm (λk_ hk_=>(Bv (AV.eraseAll Q63) ((Hk (λ_ _=>rfl) (Ke c35_) rfl) k_ hk_)).trans rfl)))) (V8 (λ(k_:Nat) u=>(Cl u [(6,(.vsl 21 k_))] [(21,.arr 1 3 k_ (λi=>Aj ((l26.set (Q59 l1 i25).toNat x33).getD i 0)))])) (show l26.length=(l26.set (Q59 l1 i25).toNat x33).length from(D6 ..).symm))) Gj))))) λh=>tS h (gK (A2 (A5 HG Kq q)))))) (match x36,h with|⟨b29,l30⟩,h=>gA (Ae q HG Kq (tN h)))) λh=>tS h (gO (A2 (A5 NN Kq q))))) λx38 h=>(match x38,h with|⟨b27,l28⟩,h=>gA (Ae q [2,5,6,50] Kq (gC h (λh=>tS h (qe (A5 Yj Kq q))) λh=>Ae q [4] [21] (Py ((mf 21 l28.length l28):St) (tS h (oM (L2 (Hu [(21,20000)] (Le.trans (Gy (nm:=21) (sz:=1) (n:=l28.length) (e:=3) (f:=(λi=>Aj (l28.getD i 0))) (g:=(λi=>Aj (l28.getD i 0))) rfl ⟨rfl,trivial⟩ (λ_ _=>rfl) (by rw[hΓ];rfl)) (Ii (st':=(md l28 21 l28.length)) (by kernel_rfl)))))))))))))) (gAr (λst' hk=>tS h (gK hk))))
def Qd(aaH:List A1)(aaP:An):Int->Option (LR Int (Unit ⊕ Bool)):=
 λ(i1:Int)=>(bif (decide (i1<(aaH.length:Int))) then(Ax (As i1 aaH.length) ((En ((aaH.getD i1.toNat default).From) aaP).bind λx3=>(bif (bif (!x3) then true else((((aaH.getD i1.toNat default).Args).length:Int)!=(aaP.length:Int))) then(some (.done (.inr false))) else(some (.next (w64 (i1+1))))))) else(some (.done (.inl ()))))
def PR(Γ:Hx)(aaH:List A1)(aaP:An)(r:Bool):Exit->St->Prop:=fK Tryz.prog Γ Tryz.f143.results.toList [] (.bool r) []
def P3(aaH:List A1)(aaP:An):Option Bool:=
 ((Ad (Qd aaH aaP) (0:Int)).bind (λx4=>(match x4 with|(.inl _)=>(some true)|(.inr r6)=>(some r6))))
theorem ML(h:P3 v5 v2=some v3):sP 143 [(tZ v5),(Z8 v2)] [] (.bool v3) []:=
 sG Tryz.func143 λΓ q=>tW q Gf [] Nu [] (tL q h Nu [] (λu i1=>(Cl u [(9,(Z6 i1))] [])) (λu x_=>match x_ with|(.inl _)=>aG Γ (.exit 0) (⟨[],[],[]⟩:St)|(.inr r_)=>aR (PR Γ v5 v2 r_)) (λi1 y h=>Ae q PO [] (gC h (λh=>tV q PP [6] h λh=>tB h λx3 y3 h=>tT q [1,7,8,9,25] [] [(Z7 x3)] (ci (Me y3) (zG ((!x3)==false) (c1 (Hv (!x3))))) (gC h (λh=>Ae q [4] [] (tS h (gO (L2 (Hu [] (Le.refl _ _)))))) λh=>Ae q Nu [] (tN h))) λh=>tS h (gO (A2 (A5 [] [] q))))) λx4 h=>(match x4,h with | .inl _,h=>gA (Ae q [4] [] (tS h (Bm []))) | .inr r6,h=>gAr (λst' hk=>tS h (gK hk))))
def Q65(aQ:H7):=(bif (aQ.Kind==0) then true else(aQ.Kind==2))
def P2(aQ:H7):Option Bool:=
 (some (bif (bif (aQ.Kind==0) then true else(aQ.Kind==2)) then true else(aQ.Arg==0)))
theorem MK(h:P2 v8=some v3):sP 144 [(.agg (ky v8))] [] (.bool v3) []:=
 sG Tryz.func144 λΓ q=>Ae q [1] [1] (tU q [2] [] (Ju ((v8.Kind==0)==false) (ci (Hv (v8.Kind==0)) (Ju ((Q65 v8)==false) (c1 (Hv (Q65 v8)))))) (tS h (Bm [])))
def Dh(a3:TFunc)(a5:Int)(aC:List Be)(x1:jf)(x3:An):Int->Option (LR Int (Unit ⊕ (Int×TFunc×Int×An×List Be))):=
 λ(i4:Int)=>(bif (decide (i4<(a3.Blocks.length:Int))) then(Ax (As i4 a3.Blocks.length) (Ax (As i4 x1.1.Pred.length) ((P3 ((a3.Blocks.getD i4.toNat default).Phis) (x1.1.Pred.getD i4.toNat [])).bind λx7=>((bif ((!x7)==false) then P2 (⟨(a3.Blocks.getD i4.toNat default).End.Kind,(a3.Blocks.getD i4.toNat default).End.Arg,(a3.Blocks.getD i4.toNat default).End.To⟩:H7) else some false).bind λx8=>(bif (bif (!x7) then true else(!x8)) then(some (.done (.inr ((5:Int),a3,a5,x3,aC)))) else(some (.next (w64 (i4+1))))))))) else(some (.done (.inl ()))))
def Yk(Γ:Hx)(a3:TFunc)(a5:Int)(a7:An)(aC:List Be)(r:oC):Exit->St->Prop:=fK Tryz.prog Γ Tryz.f88.results.toList (Z3 a3.Params a3.Ret a3.Blocks a5 a7 aC aC.length) (Z6 r.1) (Z3 r.2.1.Params r.2.1.Ret r.2.1.Blocks r.2.2.1 r.2.2.2.1 r.2.2.2.2 r.2.2.2.2.length)
def Q68(x1:jf):=((x1.2 !=0)==false)
def Q67(x3:An)(a3:TFunc)(a5:Int)(aC:List Be):List LK:=[(AB 31 x3.length),(30000,.row 105 [(Z8 a3.Params),(Z6 a3.Ret),(WV a3.Blocks),(Z6 a5),(Z8 x3),.nilm,(AV.list 5 O5 default aC (.own 37006))]),(L3 37006 198 aC.length)]
def Q66(x3:An)(a3:TFunc)(a5:Int)(aC:List Be):List LK:=[(AB 31 x3.length),(30000,.row 105 [(Z8 a3.Params),(Z6 a3.Ret),(WV a3.Blocks),(Z6 a5),(Yq x3 31),.nilm,(AV.list 5 O5 default aC (.own 37006))]),(L3 37006 198 aC.length)]
def Jk(a3:TFunc)(a5:Int)(a7:An)(aC:List Be):Option oC:=
 ((Ve a3).bind λx1=>((bif ((x1.2 !=0)==false) then Lv x1.1 (0:Int) else some []).bind λx2=>(bif (bif (x1.2 !=0) then true else(decide ((x2.length:Int)<(a3.Blocks.length:Int)))) then(some ((5:Int),a3,a5,a7,aC)) else((Vd x1.1 (0:Int)).bind λx3=>((Ad (Dh a3 a5 aC x1 x3) (0:Int)).bind (λx9=>(match x9 with|(.inl _)=>(some ((0:Int),a3,a5,x3,aC))|(.inr r11)=>(some r11))))))))
theorem X0(h:Jk v0 v1 v2 v12=some v13):sP 88 [U1] (Z3 v0.Params v0.Ret v0.Blocks v1 v2 v12 v12.length) (Z6 v13.1) (Z3 v13.2.1.Params v13.2.1.Ret v13.2.1.Blocks v13.2.2.1 v13.2.2.2.1 v13.2.2.2.2 v13.2.2.2.2.length):=
 sG Tryz.func88 λΓ q=>Ae q [0] Jj (tB h λx1 y1 h=>tT q Ue VG [(yg x1.1 x1.2)] (c1 (OQ y1)) (tB h λx2 y2 h=>tT q [0,3,28] VG [⟨[],[],(Z8 x2),[],[],[]⟩] (YV (gI (Q68 x1)) (show((Q68 x1)=true->(sP 141 [(gV x1.1),Jf] [] (Z8 x2) [])) from(λhg=>(Spec.drop (DL (A6 hg y2))))) (gI8 (Q68 x1) (c1 (Hv (x1.2 !=0))))) (gC h (λh=>Ae q [2] Jj (tS h (Bm AR))) λh=>tB h λx3 y3 h=>tT q M3 bH [(uy 31 x3 x3.length)] (c1 (fP y3)) (Ae q kJ bH (tL q h kJ bH (λu i4=>(Cl u [(40,(Z6 i4))] [])) (λu x_=>match x_ with|(.inl _)=>aG Γ (.exit 0) (M2 [] NG u [] [])|(.inr r_)=>aR (Yk Γ v0 v1 v2 v12 r_)) (λi4 y h=>Ae q [3,38,39,40,41] bH (gC h (λh=>tV q [3,5,6,38,39,40] [3,6,31,30000,37006] h λh=>tC h λc6_ h=>tB h λx7 y7 h=>tB h λx8 y8 h=>tT q [3,38,39,40,59] bH [(Z7 x7),(Z7 x8)] (YV c6_ (ML y7) (Ju ((!x7)==false) (c3 (λ(hg:((!x7)==false)=true)=>(MK (A6 hg y8))) (gI ((!x7)==false)) (Hv (!x7))))) (gC h (λh=>Ae q [2] NG (Py (⟨[(2,(.int .i64 (5:Int)))],(Q66 x3 v0 v1 v12),[]⟩:St) (tS h (gO (L2 (Hu AR (show Le Γ _ (⟨[(2,(.int .i64 (5:Int)))],(Q67 x3 v0 v1 v12),[]⟩:St) from Le.trans (A5 (st':=⟨[(2,(.int .i64 (5:Int)))],(Q66 x3 v0 v1 v12),[]⟩) [2] NG q) (Et (.cons (AVle.refl _) .nil) (.same (.row (.cons (AVle.refl _) (.cons (AVle.refl _) (.cons (AVle.refl _) (.cons (AVle.refl _) (.cons AVle.untag (.cons (AVle.refl _) (.cons (AVle.refl _) .nil))))))) (.same .nil))))))))))) λh=>Ae q kJ bH (tN h))) λh=>tS h (gO (A2 (A5 [] NG q))))) λx9 h=>(match x9,h with | .inl _,h=>gA (Ae q [2] NG (Py (⟨[(2,Jf)],(Q66 x3 v0 v1 v12),[]⟩:St) (tS h (gK (e:=.ret) (Hu AR (show Le Γ _ (⟨[(2,Jf)],(Q67 x3 v0 v1 v12),[]⟩:St) from Le.trans (A5 (st':=⟨[(2,Jf)],(Q66 x3 v0 v1 v12),[]⟩) [2] NG q) (Et (.cons (AVle.refl _) .nil) (.same (.row (.cons (AVle.refl _) (.cons (AVle.refl _) (.cons (AVle.refl _) (.cons (AVle.refl _) (.cons AVle.untag (.cons (AVle.refl _) (.cons (AVle.refl _) .nil))))))) (.same .nil)))))))))) | .inr r11,h=>gAr (λst' hk=>tS h (gK hk))))))))
def Lx(aI:Int):Option Bool:=
 (Option.bind (α:=Bool) (bif (aI==1) then(some (aI==1)) else(bif (aI==8) then(some (aI==8)) else(bif (aI==16) then(some (aI==16)) else(bif (aI==32) then(some (aI==32)) else(some (aI==64)))))) (λx2=>(bif x2 then(some true) else(some false))))
theorem Ok(h:Lx v1=some v3):sP 146 [(Z6 v1)] [] (.bool v3) []:=
 sG Tryz.func146 λΓ q=>tW q [0] [] [3] [] (tB h λx2 y2 h=>gJ y2 (λb1=>aG Γ .normal (⟨[(4,(.bool b1))],[],[]⟩:St)) (λy h=>Ae q [3,4] [] (gC h (λh=>tS h (gK (A2 (A5 [4] [] q)))) λh=>Ae q [3,4] [] (gC h (λh=>tS h (gK (A2 (A5 [4] [] q)))) λh=>Ae q [3,4] [] (gC h (λh=>tS h (gK (A2 (A5 [4] [] q)))) λh=>Ae q [3,4] [] (gC h (λh=>tS h (gK (A2 (A5 [4] [] q)))) λh=>Ae q [4] [] (tS h (gK (A2 Gj)))))))) (gA (gC h (λh=>Ae q [2] [] (tS h (Bm []))) λh=>Ae q [2] [] (tS h (Bm [])))))
def Qc(aE:An):Int->Option (LR Int (Unit ⊕ Bool)):=
 λ(i1:Int)=>(bif (decide (i1<(aE.length:Int))) then(Ax (As i1 aE.length) ((Lx (aE.getD i1.toNat 0)).bind λx3=>(bif (!x3) then(some (.done (.inr false))) else(some (.next (w64 (i1+1))))))) else(some (.done (.inl ()))))
def PQ(Γ:Hx)(aE:An)(r:Bool):Exit->St->Prop:=fK Tryz.prog Γ Tryz.f145.results.toList [] (.bool r) []
def P1(aE:An):Option Bool:=
 ((Ad (Qc aE) (0:Int)).bind (λx4=>(match x4 with|(.inl _)=>(some true)|(.inr r6)=>(some r6))))
theorem MJ(h:P1 v2=some v3):sP 145 [(Z8 v2),(.clo 146 [] [])] [] (.bool v3) []:=
 sG Tryz.func145 λΓ q=>tW q Gf [] Nu [] (tL q h Nu [] (λu i1=>(Cl u [(9,(Z6 i1))] [])) (λu x_=>match x_ with|(.inl _)=>aG Γ (.exit 0) (⟨[],[],[]⟩:St)|(.inr r_)=>aR (PQ Γ v2 r_)) (λi1 y h=>Ae q PO [] (gC h (λh=>tV q PP [] h λh=>tB h λx3 y3 h=>tT q IP [] [(Z7 x3)] (c1 (Ok y3)) (gC h (λh=>Ae q [4] [] (tS h (gO (L2 (Hu [] (Le.refl _ _)))))) λh=>Ae q Nu [] (tN h))) λh=>tS h (gO (A2 (A5 [] [] q))))) λx4 h=>(match x4,h with | .inl _,h=>gA (Ae q [4] [] (tS h (Bm []))) | .inr r6,h=>gAr (λst' hk=>tS h (gK hk))))
def Sw(aJ:A1):Option Bool:=
 ((Lx aJ.Bits).bind λx1=>(some x1))
theorem KG(h:Sw v4=some v3):sP 180 [(.agg (Dv v4))] [] (.bool v3) []:=
 sG Tryz.func180 λΓ q=>Ae q [1] [1] (tB h λx1 y1 h=>tT q [2] [] [(Z7 x1)] (c1 (Ok y1)) (tS h (Bm [])))
def Mt(aE:List A1):Int->Option (LR Int (Unit ⊕ Bool)):=
 λ(i1:Int)=>(bif (decide (i1<(aE.length:Int))) then(Ax (As i1 aE.length) ((Sw (aE.getD i1.toNat default)).bind λx3=>(bif (!x3) then(some (.done (.inr false))) else(some (.next (w64 (i1+1))))))) else(some (.done (.inl ()))))
def GB(Γ:Hx)(aE:List A1)(r:Bool):Exit->St->Prop:=fK Tryz.prog Γ Tryz.f179.results.toList [] (.bool r) []
def L4(aE:List A1):Option Bool:=
 ((Ad (Mt aE) (0:Int)).bind (λx4=>(match x4 with|(.inl _)=>(some true)|(.inr r6)=>(some r6))))
theorem DI(h:L4 v5=some v3):sP 179 [(tZ v5),(.clo 180 [] [])] [] (.bool v3) []:=
 sG Tryz.func179 λΓ q=>tW q Gf [] Nu [] (tL q h Nu [] (λu i1=>(Cl u [(9,(Z6 i1))] [])) (λu x_=>match x_ with|(.inl _)=>aG Γ (.exit 0) (⟨[],[],[]⟩:St)|(.inr r_)=>aR (GB Γ v5 r_)) (λi1 y h=>Ae q PO [] (gC h (λh=>tV q PP [6] h λh=>tB h λx3 y3 h=>tT q IP [] [(Z7 x3)] (c1 (KG y3)) (gC h (λh=>Ae q [4] [] (tS h (gO (L2 (Hu [] (Le.refl _ _)))))) λh=>Ae q Nu [] (tN h))) λh=>tS h (gO (A2 (A5 [] [] q))))) λx4 h=>(match x4,h with | .inl _,h=>gA (Ae q [4] [] (tS h (Bm []))) | .inr r6,h=>gAr (λst' hk=>tS h (gK hk))))
def Pp(aX:Int):Option Bool:=
 (some (bif (decide ((0:Int)<=aX)) then(decide (aX<=22)) else false))
theorem DQ(h:Pp v1=some v3):sP 197 [(Z6 v1)] [] (.bool v3) []:=
 sG Tryz.func197 λΓ q=>Ae q [0] [] (tU q [2] [] (c2 (gI ((decide ((0:Int)<=v1))==true)) (Lz (decide ((0:Int)<=v1)))) (tS h (Bm [])))
def Q69(x5:Bool)(aI:Int):=(bif x5 then(decide ((8:Int)<=aI)) else false)
def Uv(aI:Int)(aW:Int):Option Bool:=
 (bif (aW==1) then((Lx aI).bind λx1=>(some x1)) else(Option.bind (α:=Bool) (bif (aW==2) then(some (aW==2)) else(bif (aW==4) then(some (aW==4)) else(bif (aW==8) then(some (aW==8)) else(some (aW==16))))) (λx3=>(bif x3 then((Lx aI).bind λx5=>(some (bif (bif x5 then(decide ((8:Int)<=aI)) else false) then(decide (((w64 (aI*aW)):Int)<=128)) else false))) else(some false)))))
theorem YA(h:Uv v1 v11=some v3):sP 240 [(Z6 v1),(Z6 v11)] [] (.bool v3) []:=
 sG Tryz.func240 λΓ q=>tW q Gf [] Px [] (Ae q VX [] (gC h (λh=>tB h λx1 y1 h=>tT q [4] [] [(Z7 x1)] (c1 (Ok y1)) (tS h (Bm []))) λh=>tB h λx3 y3 h=>gJ y3 (λb2=>aG Γ .normal (⟨[(0,(Z6 v1)),(1,(Z6 v11)),(10,(.bool b2))],[],[]⟩:St)) (λy h=>Ae q [0,1,5,10] [] (gC h (λh=>tS h (gK (A2 (A5 ER [] q)))) λh=>Ae q [0,1,5,10] [] (gC h (λh=>tS h (gK (A2 (A5 ER [] q)))) λh=>Ae q [0,1,5,10] [] (gC h (λh=>tS h (gK (A2 (A5 ER [] q)))) λh=>Ae q ER [] (tS h (gK (A2 Gj))))))) (gA (gC h (λh=>tB h λx5 y5 h=>tT q [4] [] [(Z7 x5)] (YW (Ok y5) (gI (x5==true)) (Lz x5) (Sg ((Q69 x5 v1)==true) (c1 (Lz (Q69 x5 v1))))) (tS h (Bm []))) λh=>Ae q [4] [] (tS h (Bm []))))))
def Q70(a2:Ay):List LK:=[(1,.row 51 (xH a2.Kind a2.Bits a2.Lanes a2.Dst a2.Args a2.Imm))]
def Ox(a2:Ay):Option Bool:=
 (Option.bind (α:=Bool) (bif (a2.Kind==16) then(some (a2.Kind==16)) else(some (a2.Kind==17))) (λx2=>(bif x2 then(some (decide ((8:Int)<=a2.Bits))) else(Option.bind (α:=Bool) (bif (a2.Kind==18) then(some (a2.Kind==18)) else(some (a2.Kind==19))) (λx5=>(bif x5 then(some (bif (decide ((8:Int)<=a2.Bits)) then(a2.Lanes==1) else false)) else(Option.bind (α:=Bool) (bif (a2.Kind==4) then(some (a2.Kind==4)) else(bif (a2.Kind==10) then(some (a2.Kind==10)) else(bif (a2.Kind==11) then(some (a2.Kind==11)) else(bif (a2.Kind==12) then(some (a2.Kind==12)) else(bif (a2.Kind==14) then(some (a2.Kind==14)) else(bif (a2.Kind==15) then(some (a2.Kind==15)) else(some (a2.Kind==20)))))))) (λx8=>(bif x8 then(some (a2.Lanes==1)) else(Option.bind (α:=Bool) (bif (a2.Kind==21) then(some (a2.Kind==21)) else(some (a2.Kind==22))) (λx11=>(bif x11 then(some (decide ((1:Int)<a2.Lanes))) else(some true)))))))))))))
theorem KL(h:Ox v6=some v3):sP 241 [(QM v6)] [] (.bool v3) []:=
 sG Tryz.func241 λΓ q=>tW q [1] [1] Nm [1] (tB h λx2 y2 h=>gJ y2 (λb1=>aG Γ .normal (⟨[BB,(4,(Z6 v6.Kind)),(5,(.bool b1))],(Q70 v6),[]⟩:St)) (λy h=>Ae q [1,4,5] [1] (gC h (λh=>tS h (gK (A2 Gj))) λh=>Ae q [1,4,5] [1] (tS h (gK (A2 Gj))))) (gA (gC h (λh=>Ae q [2] [] (tS h (Bm []))) λh=>tB h λx5 y5 h=>gJ y5 (λb4=>aG Γ .normal (⟨[BB,(4,(Z6 v6.Kind)),(11,(.bool b4))],(Q70 v6),[]⟩:St)) (λy h=>Ae q [1,4,11] [1] (gC h (λh=>tS h (gK (A2 Gj))) λh=>Ae q [1,4,11] [1] (tS h (gK (A2 Gj))))) (gA (gC h (λh=>tU q [2] [] (Ju ((decide ((8:Int)<=v6.Bits))==true) (c1 (Lz (decide ((8:Int)<=v6.Bits))))) (tS h (Bm []))) λh=>tB h λx8 y8 h=>gJ y8 (λb7=>aG Γ .normal (⟨[BB,(4,(Z6 v6.Kind)),(22,(.bool b7))],(Q70 v6),[]⟩:St)) (λy h=>Ae q IU [1] (gC h (λh=>tS h (gK (A2 Gj))) λh=>Ae q IU [1] (gC h (λh=>tS h (gK (A2 Gj))) λh=>Ae q IU [1] (gC h (λh=>tS h (gK (A2 Gj))) λh=>Ae q IU [1] (gC h (λh=>tS h (gK (A2 Gj))) λh=>Ae q IU [1] (gC h (λh=>tS h (gK (A2 Gj))) λh=>Ae q IU [1] (gC h (λh=>tS h (gK (A2 Gj))) λh=>Ae q IU [1] (tS h (gK (A2 Gj)))))))))) (gA (gC h (λh=>Ae q [2] [] (tS h (Bm []))) λh=>tB h λx11 y11 h=>gJ y11 (λb10=>aG Γ .normal (⟨[BB,(33,(.bool b10))],(Q70 v6),[]⟩:St)) (λy h=>Ae q [1,4,33] [1] (gC h (λh=>tS h (gK (A2 (A5 [1,33] [1] q)))) λh=>Ae q [1,33] [1] (tS h (gK (A2 Gj))))) (gA (gC h (λh=>Ae q [2] [] (tS h (Bm []))) λh=>Ae q [2] [] (tS h (Bm [])))))))))))
def Y7(aM:Int)(aI:Int):Option Int:=
 ((Lx aI).bind λx1=>(bif (!x1) then(some (0:Int)) else(Ax (0<=(w64 ((64:Int)-aI))) (Ax (0<=(w64 ((64:Int)-aI))) (some (Yc .u64 (UF .u64 aM (w64 ((64:Int)-aI))) (w64 ((64:Int)-aI))))))))
theorem fR(h:Y7 v1 v11=some v20):sP 105 [(Ti v1),(Z6 v11)] [] (.int .u64 v20) []:=
 sG Tryz.func105 λΓ q=>Ae q Gf [] (tB h λx1 y1 h=>tT q [0,1,7] [] [(Z7 x1)] (c1 (Ok y1)) (gC h (λh=>Ae q [4] [] (tS h (Bm []))) λh=>tC h λc2_ h=>tC h λc3_ h=>tU q [4] [] (c2 c2_ c3_) (tS h (Bm []))))
def Of(aa0:Int):Option Bool:=
 ((bif ((decide (aa0<=64))==true) then Lx (w64 aa0) else some false).bind λx1=>(some (bif (decide (aa0<=64)) then x1 else false)))
theorem AO(h:Of v1=some v3):sP 254 [(Ti v1)] [] (.bool v3) []:=
 sG Tryz.func254 λΓ q=>Ae q [0] [] (tB h λx1 y1 h=>tT q [2] [] [(Z7 x1)] (Ju ((decide (v1<=64))==true) (c2 (λ(hg:((decide (v1<=64))==true)=true)=>(Ok (A6 hg y1))) (Lz (decide (v1<=64))))) (tS h (Bm [])))
def Rw(a2:Ay):Option Bool:=
 (bif (a2.Kind==0) then((Y7 a2.Imm a2.Bits).bind λx1=>(some (x1==a2.Imm))) else(bif (a2.Kind==14) then((Of a2.Imm).bind λx2=>(some (bif x2 then(decide (a2.Imm<(Jc a2.Bits))) else false))) else(bif (a2.Kind==15) then((Of a2.Imm).bind λx3=>(some (bif x3 then(decide (((Jc a2.Bits):Int)<a2.Imm)) else false))) else(bif (a2.Kind==22) then(some (decide (a2.Imm<(Jc a2.Lanes)))) else(some (a2.Imm==0))))))
theorem QF(h:Rw v6=some v3):sP 242 [(QM v6)] [] (.bool v3) []:=
 sG Tryz.func242 λΓ q=>tW q [1] [1] Nm [1] (Ae q [1,4,5] [1] (gC h (λh=>tB h λx1 y1 h=>tT q [2] [] [⟨[],[],(Ti x1),[],[],[]⟩] (c1 (fR y1)) (tS h (Bm []))) λh=>Ae q [1,4,15] [1] (gC h (λh=>tB h λx2 y2 h=>tT q [2] [] [(Z7 x2)] (ci (AO y2) (zG (x2==true) (c1 (Lz x2)))) (tS h (Bm []))) λh=>Ae q [1,4,28] [1] (gC h (λh=>tB h λx3 y3 h=>tT q [2] [] [(Z7 x3)] (ci (AO y3) (zG (x3==true) (c1 (Lz x3)))) (tS h (Bm []))) λh=>Ae q [1,41] [1] (gC h (λh=>Ae q [2] [] (tS h (Bm []))) λh=>Ae q [2] [] (tS h (Bm [])))))))
abbrev MY:=((Int×Int))
abbrev sd:=(List (Int×Int))
def Ja(a_shapes:List MY):Option sd:=
 (some a_shapes)
variable{v21:List MY}{v22:List MY}
theorem Jx(h:Ja v21=some v22):sP 245 [(Z9 v21)] [] (Z9 v22) []:=
 sG Tryz.func245 λΓ q=>gR q [0] [] [(2,Z50)] [] (c1 (Bh 2 Bs ((0:Int),(0:Int)))) (Ae q [2] [] (tS h (Bm [])))
abbrev zw:=(Int×List (Int×Int))
def C9 :zw->Option (LR (Int×List (Int×Int)) (List (Int×Int))):=
 λ((i7,l8):zw)=>(bif (decide (i7<(l8.length:Int))) then(Ax (0<=i7/\0+i7.toNat<=l8.length) (Ax (0<=i7/\0+i7.toNat<=l8.length) (some (.next ((w64 (i7+((Nat.min ((0+i7.toNat)-0) (l8.length-(0+i7.toNat))):Int))),(iR l8 (0+i7.toNat) (Nat.min ((0+i7.toNat)-0) (l8.length-(0+i7.toNat))) (λi=>l8.getD (0+i) ((0:Int),(0:Int))))))))) else(some (.done l8)))
def pH(x3:H6):=(List.replicate (w64 x3.2).toNat ((0:Int),(0:Int)))
def Q73(x3:H6)(aD:List MY):=(iR (pH x3) 0 (Nat.min aD.length ((pH x3).length-0)) (λi=>aD.getD i ((0:Int),(0:Int))))
def Q72(l8:List MY)(i7:Int):=(iR l8 (0+i7.toNat) (Nat.min ((0+i7.toNat)-0) (l8.length-(0+i7.toNat))) (λi=>l8.getD (0+i) ((0:Int),(0:Int))))
def Cb(aD:List MY)(aaF:Int):Option sd:=
 (Option.bind (α:=Unit) (bif (decide (aaF<0)) then none else(some ())) (λx1=>(match x1 with|_=>((Sv (Jc (aD.length:Int)) (Jc aaF)).bind λx3=>(Option.bind (α:=Unit) (bif (bif (decide ((0:Int)<x3.1)) then true else(decide ((9223372036854775807:Int)<x3.2))) then none else(some ())) (λx4=>(match x4 with|_=>(Ax (0<=(w64 x3.2)/\(w64 x3.2)<=(w64 x3.2)/\(w64 x3.2)<=(room:Int)) ((Ad (S:=zw) (X:=List H6) C9 (((Nat.min aD.length ((List.replicate (w64 x3.2).toNat ((0:Int),(0:Int))).length-0)):Int),(iR (List.replicate (w64 x3.2).toNat ((0:Int),(0:Int))) 0 (Nat.min aD.length ((List.replicate (w64 x3.2).toNat ((0:Int),(0:Int))).length-0)) (λi=>aD.getD i ((0:Int),(0:Int)))))).bind (λx12=>(some x12)))))))))))
theorem T8(h:Cb v21 v1=some v22):sP 246 [(Z9 v21),(Z6 v1)] [] (yh v22 20000) [(20000,.tok 2 88 v22.length)]:=
 sG Tryz.func246 λΓ q=>have hΓ:=q.own;gR q Gf [] [(4,Z50)] [] (c1 (Bh 2 Bs ((0:Int),(0:Int)))) (tB h λx1 y1 h=>gJ y1 (λ_=>aG Γ .normal (⟨[(0,(Z9 v21)),(1,(Z6 v1))],[],[]⟩:St)) (λy h=>Ae q ER [] (gC h (λh=>nomatch h) λh=>tS h (gK (A2 (A5 Gf [] q))))) (gA (tB h λx3 y3 h=>tT q [0,5,6] [] [⟨[],[],(.tuple [(Ti x3.1),(Ti x3.2)]),[],[],[]⟩] (c1 (ON y3)) (tB h λx4 y4 h=>gJ y4 (λ_=>aG Γ .normal (⟨[(0,(Z9 v21)),(6,(Ti x3.2))],[],[]⟩:St)) (λy h=>tU q [0,6,26] [] (c2 (gI ((decide ((0:Int)<x3.1))==false)) (Hv (decide ((0:Int)<x3.1)))) (gC h (λh=>nomatch h) λh=>tS h (gK (A2 (A5 [0,6] [] q))))) (gA (tV q [0,7] [30] h λh=>by exact Mm (Le.trans (V7 30 (show ∀ k_,k_<((w64 x3.2).toNat)->AVleL ((λi_=>AV.eraseAll (λn_=>B8 n_ [30]) ((λ_=>[Jf,Jf]) i_)) k_) ((λi=>Bs ((pH x3).getD i ((0:Int),(0:Int)))) k_) from(λk hk=>Ry (e:=Bs) (d:=((0:Int),(0:Int))) (.cons (AVle.refl _) (.cons (AVle.refl _) .nil)) _ k (R8 hk)))) (V8 (λ(k_:Nat) u=>(Cl u [(W0 30 k_)] [(30,.arr 2 88 k_ (λi=>Bs ((pH x3).getD i ((0:Int),(0:Int)))))])) (show(w64 x3.2).toNat=(pH x3).length from(Ty ..).symm))) (tU q [7,8] [30] (c1 (Eq.refl ((pH x3).length))) (Mm (Le.trans (V7 30 (show ∀ k_,k_<((pH x3).length)->AVleL ((λi_=>AV.eraseAll (λn_=>B8 n_ [30]) ((iP (λi=>Bs ((pH x3).getD i ((0:Int),(0:Int)))) 0 (Nat.min v21.length ((pH x3).length-0)) (λi=>Bs (v21.getD i ((0:Int),(0:Int))))) i_)) k_) ((λi=>Bs ((Q73 x3 v21).getD i ((0:Int),(0:Int)))) k_) from(Bk (J4 ..) (λk_ hk_=>(Bv (AV.eraseAll (λn_=>B8 n_ [30])) ((QT (e:=Bs) (d:=((0:Int),(0:Int))) (l:=(pH x3)) (s:=(λi=>v21.getD i ((0:Int),(0:Int)))) (λ_ _=>rfl) (λ_ _=>rfl)) k_ hk_)).trans rfl)))) (V8 (λ(k_:Nat) u=>(Cl u [(W0 30 k_)] [(30,.arr 2 88 k_ (λi=>Bs ((Q73 x3 v21).getD i ((0:Int),(0:Int)))))])) (show(pH x3).length=(Q73 x3 v21).length from(J4 ..)))) (tL q h [7,8] [30] (λu (i7,l8)=>(Cl u [(W0 30 l8.length),(8,(Z6 i7))] (Z94 l8))) (λu l9=>aG Γ (.exit 0) (⟨[(W0 30 l9.length)],(Z94 l9),[]⟩:St)) (λ⟨i7,l8⟩ y h=>Ae q [7,8,37] [30] (gC h (λh=>tC h λc10_ h=>tC h λc11_ h=>tU q [7,8] [30] (c4 c10_ c11_ (Eq.refl l8.length) (Eq.refl l8.length)) (tS h (gN (Le.trans (Le.trans (V7 30 (show ∀ k_,k_<l8.length->AVleL ((λi_=>AV.eraseAll (λn_=>B8 n_ [30]) ((iP (λi=>Bs (l8.getD i ((0:Int),(0:Int)))) (0+i7.toNat) (Nat.min ((0+i7.toNat)-0) (l8.length-(0+i7.toNat))) (λi=>(λi=>Bs (l8.getD i ((0:Int),(0:Int)))) (0+i))) i_)) k_) ((λi=>Bs ((Q72 l8 i7).getD i ((0:Int),(0:Int)))) k_) from(Bk (J4 ..) (λk_ hk_=>(Bv (AV.eraseAll (λn_=>B8 n_ [30])) ((QT (e:=Bs) (d:=((0:Int),(0:Int))) (l:=l8) (s:=(λi=>l8.getD (0+i) ((0:Int),(0:Int)))) (λ_ _=>rfl) (λ_ _=>rfl)) k_ hk_)).trans rfl)))) (V8 (λ(k_:Nat) u=>(Cl u [(W0 30 k_)] [(30,.arr 2 88 k_ (λi=>Bs ((Q72 l8 i7).getD i ((0:Int),(0:Int)))))])) (show l8.length=(Q72 l8 i7).length from(J4 ..)))) Gj)))) λh=>tS h (gO (A2 (A5 [7] [30] q))))) λx12 h=>gA (Ae q [4] [30] (Py (⟨[(4,(.vsl 30 x12.length))],(Z94 x12),[]⟩:St) (tS h (gK (e:=.ret) (Hu [(30,20000)] (Le.trans (Gy (nm:=30) (sz:=2) (n:=x12.length) (e:=88) (f:=(λi=>Bs (x12.getD i ((0:Int),(0:Int))))) (g:=(λi=>Bs (x12.getD i ((0:Int),(0:Int))))) rfl ⟨rfl,trivial⟩ (λ_ _=>rfl) (by rw[hΓ];rfl)) (Ii (st':=⟨[(4,(yh x12 30))],[(30,.tok 2 88 x12.length)],[]⟩) (by kernel_rfl)))))))))))))))))
def Q74(a2:Ay):List LK:=[(1,.row 51 (xH a2.Kind a2.Bits a2.Lanes a2.Dst a2.Args a2.Imm)),(3,.row 88 [kg,kg]),(4,.row 88 [(FA 64),kg]),(5,.row 88 [(Z6 a2.Bits),(Z6 a2.Lanes)]),(6,.row 88 [(Z6 a2.Bits),kg])]
def Rx(a2:Ay):Option sd:=
 (bif (a2.Kind==0) then((Ja ([]:List H6)).bind λx1=>(some x1)) else(bif (a2.Kind==13) then((Ja ([((1:Int),(1:Int)),(a2.Bits,a2.Lanes),(a2.Bits,a2.Lanes)]:List H6)).bind λx2=>(some x2)) else(Option.bind (α:=Bool) (bif (a2.Kind==14) then(some (a2.Kind==14)) else(some (a2.Kind==15))) (λx4=>(bif x4 then((Ja ([((w64 a2.Imm),(1:Int))]:List H6)).bind λx6=>(some x6)) else(bif (a2.Kind==16) then((Ja ([((64:Int),(1:Int))]:List H6)).bind λx7=>(some x7)) else(bif (a2.Kind==17) then((Ja ([((64:Int),(1:Int)),(a2.Bits,a2.Lanes)]:List H6)).bind λx8=>(some x8)) else(Option.bind (α:=Bool) (bif (a2.Kind==18) then(some (a2.Kind==18)) else(some (a2.Kind==19))) (λx10=>(bif x10 then((Ja ([((1:Int),(1:Int)),((64:Int),(1:Int)),(a2.Bits,(1:Int))]:List H6)).bind λx12=>(some x12)) else(bif (a2.Kind==20) then((Ja ([((1:Int),(1:Int)),(a2.Bits,(1:Int)),(a2.Bits,(1:Int)),(a2.Bits,(1:Int))]:List H6)).bind λx13=>(some x13)) else(bif (a2.Kind==21) then((Cb ([(a2.Bits,(1:Int))]:List H6) a2.Lanes).bind λx14=>((Ja x14).bind λx15=>(some x15))) else(bif (a2.Kind==22) then((Ja ([(a2.Bits,a2.Lanes)]:List H6)).bind λx16=>(some x16)) else((Ja ([(a2.Bits,a2.Lanes),(a2.Bits,a2.Lanes)]:List H6)).bind λx17=>(some x17)))))))))))))))
theorem GX(h:Rx v6=some v21):sP 210 [(QM v6)] [] (Z9 v21) []:=
 sG Tryz.func210 λΓ q=>gR q [1] [1] [(2,Z50)] [] (c1 (Bh 2 Bs ((0:Int),(0:Int)))) (tW q Do Do T3 T3 (tW q [1,3,4,5,6,18] T3 [1,3,4,5,6,18,19] T3 (gC h (λh=>tB h λx1 y1 h=>tT q [2] [] [(mi x1)] (c1 (show(sP 245 [me] [] (Z9 x1) []) from(Spec.args (.cons Ys .nil) (Jx y1)))) (tS h (Bm []))) λh=>Ae q [1,3,4,5,6,18,22] T3 (gC h (λh=>tB h λx2 y2 h=>gR q [2] [] [(27,(AV.list 2 Bs ((0:Int),(0:Int)) ([((1:Int),(1:Int)),(v6.Bits,v6.Lanes),(v6.Bits,v6.Lanes)]:List H6) .exact))] [(mi x2)] (c2 (Au 2 Bs ((0:Int),(0:Int)) ([((1:Int),(1:Int)),(v6.Bits,v6.Lanes),(v6.Bits,v6.Lanes)]:List H6)) (Jx y2)) (tS h (Bm []))) λh=>tB h λx4 y4 h=>gJ y4 (λb3=>aG Γ .normal (⟨[BB,JJ,V6,gW,LM,(18,(Z6 v6.Kind)),(29,(.bool b3))],(Q74 v6),[]⟩:St)) (λy h=>Ae q [1,3,4,5,6,18,29] T3 (gC h (λh=>tS h (gK (A2 Gj))) λh=>Ae q [1,3,4,5,6,18,29] T3 (tS h (gK (A2 Gj))))) (gA (gC h (λh=>tB h λx6 y6 h=>gR q [2] [] [(36,(AV.list 2 Bs ((0:Int),(0:Int)) ([((w64 v6.Imm),(1:Int))]:List H6) .exact))] [(mi x6)] (c2 (Au 2 Bs ((0:Int),(0:Int)) ([((w64 v6.Imm),(1:Int))]:List H6)) (Jx y6)) (tS h (Bm []))) λh=>Ae q [1,3,4,5,6,18,38] T3 (gC h (λh=>tB h λx7 y7 h=>gR q [2] [] [(41,(AV.list 2 Bs ((0:Int),(0:Int)) ([((64:Int),(1:Int))]:List H6) .exact))] [(mi x7)] (c2 (Au 2 Bs ((0:Int),(0:Int)) ([((64:Int),(1:Int))]:List H6)) (Jx y7)) (tS h (Bm []))) λh=>Ae q [1,3,4,5,6,18,43] T3 (gC h (λh=>tB h λx8 y8 h=>gR q [2] [] [(47,(AV.list 2 Bs ((0:Int),(0:Int)) ([((64:Int),(1:Int)),(v6.Bits,v6.Lanes)]:List H6) .exact))] [(mi x8)] (c2 (Au 2 Bs ((0:Int),(0:Int)) ([((64:Int),(1:Int)),(v6.Bits,v6.Lanes)]:List H6)) (Jx y8)) (tS h (Bm []))) λh=>tB h λx10 y10 h=>gJ y10 (λb9=>aG Γ .normal (⟨[BB,JJ,V6,gW,LM,(18,(Z6 v6.Kind)),(49,(.bool b9))],(Q74 v6),[]⟩:St)) (λy h=>Ae q [1,3,4,5,6,18,49] T3 (gC h (λh=>tS h (gK (A2 Gj))) λh=>Ae q [1,3,4,5,6,18,49] T3 (tS h (gK (A2 Gj))))) (gA (gC h (λh=>tB h λx12 y12 h=>gR q [2] [] [(55,(AV.list 2 Bs ((0:Int),(0:Int)) ([((1:Int),(1:Int)),((64:Int),(1:Int)),(v6.Bits,(1:Int))]:List H6) .exact))] [(mi x12)] (c2 (Au 2 Bs ((0:Int),(0:Int)) ([((1:Int),(1:Int)),((64:Int),(1:Int)),(v6.Bits,(1:Int))]:List H6)) (Jx y12)) (tS h (Bm []))) λh=>Ae q [1,3,5,6,18,57] Zw (gC h (λh=>tB h λx13 y13 h=>gR q [2] [] [(63,(AV.list 2 Bs ((0:Int),(0:Int)) ([((1:Int),(1:Int)),(v6.Bits,(1:Int)),(v6.Bits,(1:Int)),(v6.Bits,(1:Int))]:List H6) .exact))] [(mi x13)] (c2 (Au 2 Bs ((0:Int),(0:Int)) ([((1:Int),(1:Int)),(v6.Bits,(1:Int)),(v6.Bits,(1:Int)),(v6.Bits,(1:Int))]:List H6)) (Jx y13)) (tS h (Bm []))) λh=>Ae q [1,5,6,18,65] [1,5,6] (gC h (λh=>tB h λx14 y14 h=>tB h λx15 y15 h=>gR q [2] [] [(68,(AV.list 2 Bs ((0:Int),(0:Int)) ([(v6.Bits,(1:Int))]:List H6) .exact))] [⟨[],[(20000,71)],(yh x14 20000),[(20000,.tok 2 88 x14.length)],[],[]⟩,(mi x15)] (c3 (Au 2 Bs ((0:Int),(0:Int)) ([(v6.Bits,(1:Int))]:List H6)) (T8 y14) (Jx y15)) (tS h (Bm []))) λh=>Ae q [5,73] [5] (gC h (λh=>tB h λx16 y16 h=>gR q [2] [] [(76,(AV.list 2 Bs ((0:Int),(0:Int)) ([(v6.Bits,v6.Lanes)]:List H6) .exact))] [(mi x16)] (c2 (Au 2 Bs ((0:Int),(0:Int)) ([(v6.Bits,v6.Lanes)]:List H6)) (Jx y16)) (tS h (Bm []))) λh=>tB h λx17 y17 h=>gR q [2] [] [(80,(AV.list 2 Bs ((0:Int),(0:Int)) ([(v6.Bits,v6.Lanes),(v6.Bits,v6.Lanes)]:List H6) .exact))] [(mi x17)] (c2 (Au 2 Bs ((0:Int),(0:Int)) ([(v6.Bits,v6.Lanes),(v6.Bits,v6.Lanes)]:List H6)) (Jx y17)) (tS h (Bm [])))))))))))))))
def Oe(aM:Int):Option Bool:=
 (some (bif (decide ((1:Int)<=aM)) then(decide (aM<=1023)) else false))
theorem AN(h:Oe v1=some v3):sP 255 [(Z6 v1)] [] (.bool v3) []:=
 sG Tryz.func255 λΓ q=>Ae q [0] [] (tU q [2] [] (c2 (gI ((decide ((1:Int)<=v1))==true)) (Lz (decide ((1:Int)<=v1)))) (tS h (Bm [])))
def Lc(a2:Ay):Int->Option (LR Int (Unit ⊕ Bool)):=
 λ(i2:Int)=>(bif (decide (i2<(a2.Args.length:Int))) then(Ax (As i2 a2.Args.length) ((Oe (a2.Args.getD i2.toNat 0)).bind λx4=>(bif (!x4) then(some (.done (.inr false))) else(some (.next (w64 (i2+1))))))) else(some (.done (.inl ()))))
def RC(Γ:Hx)(a2:Ay)(r:Bool):Exit->St->Prop:=fK Tryz.prog Γ Tryz.f243.results.toList [] (.bool r) []
def Rs(a2:Ay):Option Bool:=
 ((Rx a2).bind λx1=>(bif ((a2.Args.length:Int)!=(x1.length:Int)) then(some false) else((Ad (Lc a2) (0:Int)).bind (λx5=>(match x5 with|(.inl _)=>(some true)|(.inr r7)=>(some r7))))))
theorem QD(h:Rs v6=some v3):sP 243 [(QM v6)] [] (.bool v3) []:=
 sG Tryz.func243 λΓ q=>Ae q [1] [1] (tB h λx1 y1 h=>tT q [1,11] [1] [(mi x1)] (c1 (GX y1)) (gC h (λh=>Ae q [2] [] (tS h (Bm []))) λh=>Ae q [13,14,15] [] (tL q h [13,14,15] [] (λu i2=>(Cl u [(15,(Z6 i2))] [])) (λu x_=>match x_ with|(.inl _)=>aG Γ (.exit 0) (⟨[],[],[]⟩:St)|(.inr r_)=>aR (RC Γ v6 r_)) (λi2 y h=>Ae q [13,14,15,16] [] (gC h (λh=>tV q [4,13,14,15] [] h λh=>tB h λx4 y4 h=>tT q [13,14,15,21] [] [(Z7 x4)] (c1 (AN y4)) (gC h (λh=>Ae q [2] [] (tS h (gO (L2 (Hu [] (Le.refl _ _)))))) λh=>Ae q [13,14,15] [] (tN h))) λh=>tS h (gO (A2 (A5 [] [] q))))) λx5 h=>(match x5,h with | .inl _,h=>gA (Ae q [2] [] (tS h (Bm []))) | .inr r7,h=>gAr (λst' hk=>tS h (gK hk))))))
def Q75(a2:Ay):List LK:=[(1,.row 51 (xH a2.Kind a2.Bits a2.Lanes a2.Dst a2.Args a2.Imm))]
def Rv(a2:Ay):Option H6:=
 (Option.bind (α:=Bool) (bif (a2.Kind==17) then(some (a2.Kind==17)) else(some (a2.Kind==19))) (λx2=>(bif x2 then(some ((0:Int),(0:Int))) else(Option.bind (α:=Bool) (bif (a2.Kind==10) then(some (a2.Kind==10)) else(bif (a2.Kind==11) then(some (a2.Kind==11)) else(some (a2.Kind==12)))) (λx5=>(bif x5 then(some ((1:Int),(1:Int))) else(bif (a2.Kind==22) then(some (a2.Bits,(1:Int))) else(some (a2.Bits,a2.Lanes)))))))))
theorem GW(h:Rv v6=some v19):sP 209 [(QM v6)] [] (.tuple [(Z6 v19.1),(Z6 v19.2)]) []:=
 sG Tryz.func209 λΓ q=>tW q [1] [1] [1,5] [1] (tB h λx2 y2 h=>gJ y2 (λb1=>aG Γ .normal (⟨[BB,(5,(Z6 v6.Kind)),(6,(.bool b1))],(Q75 v6),[]⟩:St)) (λy h=>Ae q [1,5,6] [1] (gC h (λh=>tS h (gK (A2 Gj))) λh=>Ae q [1,5,6] [1] (tS h (gK (A2 Gj))))) (gA (gC h (λh=>Ae q Br [] (tS h (Bm []))) λh=>tB h λx5 y5 h=>gJ y5 (λb4=>aG Γ .normal (⟨[BB,(5,(Z6 v6.Kind)),(9,(.bool b4))],(Q75 v6),[]⟩:St)) (λy h=>Ae q [1,5,9] [1] (gC h (λh=>tS h (gK (A2 Gj))) λh=>Ae q [1,5,9] [1] (gC h (λh=>tS h (gK (A2 Gj))) λh=>Ae q [1,5,9] [1] (tS h (gK (A2 Gj)))))) (gA (gC h (λh=>Ae q Br [] (tS h (Bm []))) λh=>Ae q [1,13] [1] (gC h (λh=>Ae q Br [] (tS h (Bm []))) λh=>Ae q Br [] (tS h (Bm []))))))))
def Ru(a2:Ay):Option Bool:=
 ((Rv a2).bind λx1=>(bif (x1.1==0) then(some (a2.Dst==0)) else((Oe a2.Dst).bind λx2=>(some x2))))
theorem QE(h:Ru v6=some v3):sP 244 [(QM v6)] [] (.bool v3) []:=
 sG Tryz.func244 λΓ q=>Ae q [1] [1] (tB h λx1 y1 h=>tT q Kb [1] [(ux x1.1 x1.2)] (c1 (GW y1)) (Ae q [1,11] [1] (gC h (λh=>Ae q [2] [] (tS h (Bm []))) λh=>tB h λx2 y2 h=>tT q [2] [] [(Z7 x2)] (c1 (AN y2)) (tS h (Bm [])))))
def xC(x1:Bool)(x2:Bool):=(bif (!x1) then true else(!x2))
def Sy(a2:Ay):Option Bool:=
 ((Pp a2.Kind).bind λx1=>((bif ((!x1)==false) then Uv a2.Bits a2.Lanes else some false).bind λx2=>((bif ((bif (!x1) then true else(!x2))==false) then Ox a2 else some false).bind λx3=>((bif ((bif (bif (!x1) then true else(!x2)) then true else(!x3))==false) then Rw a2 else some false).bind λx4=>(bif (bif (bif (bif (!x1) then true else(!x2)) then true else(!x3)) then true else(!x4)) then(some false) else((Rs a2).bind λx5=>((bif (x5==true) then Ru a2 else some false).bind λx6=>(some (bif x5 then x6 else false)))))))))
theorem DP(h:Sy v6=some v3):sP 207 [(QM v6)] [] (.bool v3) []:=
 sG Tryz.func207 λΓ q=>Ae q [1] [1] (tB h λx1 y1 h=>tB h λx2 y2 h=>tB h λx3 y3 h=>tB h λx4 y4 h=>tT q [1,24] [1] [(Z7 x1),(Z7 x2),(Z7 x3),(Z7 x4)] (ci (DQ y1) (JT ((!x1)==false) (d9_ (λ(hg:((!x1)==false)=true)=>(YA (A6 hg y2))) (gI ((!x1)==false)) (Hv (!x1)) (gI ((xC x1 x2)==false)) (λ(hg:((xC x1 x2)==false)=true)=>(KL (A6 hg y3))) (gI ((xC x1 x2)==false)) (Hv (xC x1 x2)) (gI ((bif (xC x1 x2) then true else(!x3))==false)) (λ(hg:((bif (xC x1 x2) then true else(!x3))==false)=true)=>(QF (A6 hg y4))) (c2 (gI ((bif (xC x1 x2) then true else(!x3))==false)) (Hv (bif (xC x1 x2) then true else(!x3))))))) (gC h (λh=>Ae q [2] [] (tS h (Bm []))) λh=>tB h λx5 y5 h=>tB h λx6 y6 h=>tT q [2] [] [(Z7 x5),(Z7 x6)] (c4 (QD y5) (gI (x5==true)) (λ(hg:(x5==true)=true)=>(QE (A6 hg y6))) (Lz x5)) (tS h (Bm []))))
def Us(a2:Ay)(aa3:Int):Option Bool:=
 (bif (aa3==0) then(some (bif (decide (a2.Kind<=17)) then(a2.Lanes==1) else false)) else(bif (aa3==1) then(some (bif (decide (a2.Kind<=20)) then(a2.Lanes==1) else false)) else(some true)))
theorem XV(h:Us v6 v1=some v3):sP 208 [(QM v6),(Z6 v1)] [] (.bool v3) []:=
 sG Tryz.func208 λΓ q=>tW q Nw [2] Xk [2] (Ae q Yj [2] (gC h (λh=>tU q [4] [] (Ju ((decide (v6.Kind<=17))==true) (c1 (Lz (decide (v6.Kind<=17))))) (tS h (Bm []))) λh=>Ae q Xj [2] (gC h (λh=>tU q [4] [] (Ju ((decide (v6.Kind<=20))==true) (c1 (Lz (decide (v6.Kind<=20))))) (tS h (Bm []))) λh=>Ae q [4] [] (tS h (Bm [])))))
abbrev EH:=(Bool×TFunc×Int×An×List Be)
def In(a2:Ay)(a3:TFunc)(a5:Int)(a7:An)(aC:List Be):Option EH:=
 ((Sy a2).bind λx1=>((bif (x1==true) then Us a2 a5 else some false).bind λx2=>(some ((bif x1 then x2 else false),a3,a5,a7,aC))))
variable{v23:EH}
theorem Xb(h:In v6 v0 v1 v2 v12=some v23):sP 182 [U1,(QM v6)] (Z3 v0.Params v0.Ret v0.Blocks v1 v2 v12 v12.length) (.bool v23.1) (Z3 v23.2.1.Params v23.2.1.Ret v23.2.1.Blocks v23.2.2.1 v23.2.2.2.1 v23.2.2.2.2 v23.2.2.2.2.length):=
 sG Tryz.func182 λΓ q=>Ae q M3 VG (tB h λx1 y1 h=>tB h λx2 y2 h=>tT q [4] Jj [(Z7 x1),(Z7 x2)] (ci (DP y1) (zG (x1==true) (c2 (λ(hg:(x1==true)=true)=>(XV (A6 hg y2))) (Lz x1)))) (tS h (Bm AR)))
abbrev Uc:=(Int×An×Int×List Ab×Int×An×List Be)
abbrev Ac1:=(LR (Int×An×Int×List Ab×Int×An×List Be) ((An×Int×List Ab×Int×An×List Be) ⊕ (Bool×TFunc×Int×An×List Be)))
def Hb(aE:List Ay):Uc->Option Ac1:=
 λ((i1,l2,i3,l4,i5,l6,l7):Uc)=>(bif (decide (i1<(aE.length:Int))) then(Ax (As i1 aE.length) ((In (aE.getD i1.toNat default) (⟨l2,i3,l4⟩:TFunc) i5 l6 l7).bind λx15=>(bif (!x15.1) then(some (.done (.inr (false,x15.2.1,x15.2.2.1,x15.2.2.2.1,x15.2.2.2.2)))) else(some (.next ((w64 (i1+1)),x15.2.1.Params,x15.2.1.Ret,x15.2.1.Blocks,x15.2.2.1,x15.2.2.2.1,x15.2.2.2.2)))))) else(some (.done (.inl (l2,i3,l4,i5,l6,l7)))))
def HN(Γ:Hx)(aE:List Ay)(a3:TFunc)(a5:Int)(a7:An)(aC:List Be)(r:EH):Exit->St->Prop:=fK Tryz.prog Γ Tryz.f181.results.toList (Z3 a3.Params a3.Ret a3.Blocks a5 a7 aC aC.length) (.bool r.1) (Z3 r.2.1.Params r.2.1.Ret r.2.1.Blocks r.2.2.1 r.2.2.2.1 r.2.2.2.2 r.2.2.2.2.length)
def Ms(aE:List Ay)(a3:TFunc)(a5:Int)(a7:An)(aC:List Be):Option EH:=
 ((Ad (Hb aE) ((0:Int),a3.Params,a3.Ret,a3.Blocks,a5,a7,aC)).bind (λx16=>(match x16 with|(.inl (l8,i9,l10,i11,l12,l13))=>(some (true,(⟨l8,i9,l10⟩:TFunc),i11,l12,l13))|(.inr r18)=>(some r18))))
theorem GK(h:Ms v7 v0 v1 v2 v12=some v23):sP 181 [(QL v7),(.clo 182 [U1] [])] (Z3 v0.Params v0.Ret v0.Blocks v1 v2 v12 v12.length) (.bool v23.1) (Z3 v23.2.1.Params v23.2.1.Ret v23.2.1.Blocks v23.2.2.1 v23.2.2.2.1 v23.2.2.2.2 v23.2.2.2.2.length):=
 sG Tryz.func181 λΓ q=>tW q Gf Jj Nu Jj (tL q h Nu Jj (λu (i1,l2,i3,l4,i5,l6,l7)=>(Cl u [(9,(Z6 i1))] (Z3 l2 i3 l4 i5 l6 l7 l7.length))) (λu x_=>match x_ with|(.inl (l8,i9,l10,i11,l12,l13))=>aG Γ (.exit 0) (⟨[],(Z3 l8 i9 l10 i11 l12 l13 l13.length),[]⟩:St)|(.inr r_)=>aR (HN Γ v7 v0 v1 v2 v12 r_)) (λ⟨i1,l2,i3,l4,i5,l6,l7⟩ y h=>Ae q PO Jj (gC h (λh=>tV q PP [6,30000,37006] h λh=>tB h λx15 y15 h=>tT q IP Jj [(Z89 x15.1 x15.2.1.Params x15.2.1.Ret x15.2.1.Blocks x15.2.2.1 x15.2.2.2.1 x15.2.2.2.2 x15.2.2.2.2.length)] (c1 (Xb y15)) (gC h (λh=>Ae q [4] Jj (tS h (gO (L2 (Hu AR (Le.refl _ _)))))) λh=>Ae q Nu Jj (tN h))) λh=>tS h (gO (A2 (A5 [] Jj q))))) λx16 h=>(match x16,h with | .inl ⟨l8,i9,l10,i11,l12,l13⟩,h=>gA (Ae q [4] Jj (tS h (Bm AR))) | .inr r18,h=>gAr (λst' hk=>tS h (gK hk))))
def Q79(x1:Bool)(x2:EH)(a7:An):AV:=(Z85 x1 x2.2.2.2.1 a7)
def Q78(x1:Bool)(x2:EH)(a3:TFunc):AV:=(Z85 x1 x2.2.1.Params a3.Params)
def Q77(x1:Bool)(x2:EH)(a3:TFunc):AV:=(.slice 5 (bif (x1==true) then x2.2.1.Blocks.length else a3.Blocks.length) (λi=>bif (x1==true) then Bc (x2.2.1.Blocks.getD i default) else Bc (a3.Blocks.getD i default)) .none)
def Gm(aH:Ab)(a3:TFunc)(a5:Int)(a7:An)(aC:List Be):Option EH:=
 ((L4 aH.Phis).bind λx1=>((bif (x1==true) then Ms aH.Ops a3 a5 a7 aC else some (false,(default:TFunc),(0:Int),[],[])).bind λx2=>(some ((bif x1 then x2.1 else false),(⟨(bif (x1==true) then x2.2.1.Params else a3.Params),(bif (x1==true) then x2.2.1.Ret else a3.Ret),(bif (x1==true) then x2.2.1.Blocks else a3.Blocks)⟩:TFunc),(bif (x1==true) then x2.2.2.1 else a5),(bif (x1==true) then x2.2.2.2.1 else a7),(bif (x1==true) then x2.2.2.2.2 else aC)))))
theorem Uw(h:Gm v9 v0 v1 v2 v12=some v23):sP 148 [U1,(.agg (Bc v9))] (Z3 v0.Params v0.Ret v0.Blocks v1 v2 v12 v12.length) (.bool v23.1) (Z3 v23.2.1.Params v23.2.1.Ret v23.2.1.Blocks v23.2.2.1 v23.2.2.2.1 v23.2.2.2.2 v23.2.2.2.2.length):=
 sG Tryz.func148 λΓ q=>Ae q M3 VG (tB h λx1 y1 h=>tB h λx2 y2 h=>tT q [4] Jj [(Z7 x1),(Z89 x2.1 x2.2.1.Params x2.2.1.Ret x2.2.1.Blocks x2.2.2.1 x2.2.2.2.1 x2.2.2.2.2 x2.2.2.2.2.length)] (ci (DI y1) (JT (x1==true) (c2 (λ(hg:(x1==true)=true)=>(GK (A6 hg y2))) (Lz x1)))) (tS h (gK (e:=.ret) (Hu AR (Le.trans (leB (λg_ u=>(Cl u [] [(30000,.row 105 [(Q78 x1 x2 v0),(.int .i64 (bif (x1==true) then x2.2.1.Ret else v0.Ret)),(Q77 x1 x2 v0),(.int .i64 (bif (x1==true) then x2.2.2.1 else v1)),(Q79 x1 x2 v2),.nilm,(Z47 g_ x2.2.2.2.2 v12)]),(37006,.tok 5 198 (bif g_ then x2.2.2.2.2.length else v12.length))])) (λg_ u=>(Cl u [] [(30000,.row 105 [(Q78 x1 x2 v0),(.int .i64 (bif (x1==true) then x2.2.1.Ret else v0.Ret)),(Q77 x1 x2 v0),(.int .i64 (bif (x1==true) then x2.2.2.1 else v1)),(Q79 x1 x2 v2),.nilm,(AV.list 5 O5 default (bif g_ then x2.2.2.2.2 else v12) (.own 37006))]),(37006,.tok 5 198 ((bif g_ then x2.2.2.2.2 else v12).length))])) (x1==true)) (Le.trans (vh 30000 0 (show AVle (Q78 x1 x2 v0) (AV.list 1 Aj 0 (bif (x1==true) then x2.2.1.Params else v0.Params) .none) from Kx)) (Le.trans (vh 30000 2 (show AVle (Q77 x1 x2 v0) (AV.list 5 Bc default (bif (x1==true) then x2.2.1.Blocks else v0.Blocks) .none) from Kx)) (vh 30000 4 (show AVle (Q79 x1 x2 v2) (AV.list 1 Aj 0 (bif (x1==true) then x2.2.2.2.1 else v2) .none) from Kx)))))))))
def E5(aE:List Ab):Uc->Option Ac1:=
 λ((i1,l2,i3,l4,i5,l6,l7):Uc)=>(bif (decide (i1<(aE.length:Int))) then(Ax (As i1 aE.length) ((Gm (aE.getD i1.toNat default) (⟨l2,i3,l4⟩:TFunc) i5 l6 l7).bind λx15=>(bif (!x15.1) then(some (.done (.inr (false,x15.2.1,x15.2.2.1,x15.2.2.2.1,x15.2.2.2.2)))) else(some (.next ((w64 (i1+1)),x15.2.1.Params,x15.2.1.Ret,x15.2.1.Blocks,x15.2.2.1,x15.2.2.2.1,x15.2.2.2.2)))))) else(some (.done (.inl (l2,i3,l4,i5,l6,l7)))))
def AY(Γ:Hx)(aE:List Ab)(a3:TFunc)(a5:Int)(a7:An)(aC:List Be)(r:EH):Exit->St->Prop:=fK Tryz.prog Γ Tryz.f147.results.toList (Z3 a3.Params a3.Ret a3.Blocks a5 a7 aC aC.length) (.bool r.1) (Z3 r.2.1.Params r.2.1.Ret r.2.1.Blocks r.2.2.1 r.2.2.2.1 r.2.2.2.2 r.2.2.2.2.length)
def Kf(aE:List Ab)(a3:TFunc)(a5:Int)(a7:An)(aC:List Be):Option EH:=
 ((Ad (E5 aE) ((0:Int),a3.Params,a3.Ret,a3.Blocks,a5,a7,aC)).bind (λx16=>(match x16 with|(.inl (l8,i9,l10,i11,l12,l13))=>(some (true,(⟨l8,i9,l10⟩:TFunc),i11,l12,l13))|(.inr r18)=>(some r18))))
theorem Y9(h:Kf v10 v0 v1 v2 v12=some v23):sP 147 [(WV v10),(.clo 148 [U1] [])] (Z3 v0.Params v0.Ret v0.Blocks v1 v2 v12 v12.length) (.bool v23.1) (Z3 v23.2.1.Params v23.2.1.Ret v23.2.1.Blocks v23.2.2.1 v23.2.2.2.1 v23.2.2.2.2 v23.2.2.2.2.length):=
 sG Tryz.func147 λΓ q=>tW q Gf Jj Nu Jj (tL q h Nu Jj (λu (i1,l2,i3,l4,i5,l6,l7)=>(Cl u [(9,(Z6 i1))] (Z3 l2 i3 l4 i5 l6 l7 l7.length))) (λu x_=>match x_ with|(.inl (l8,i9,l10,i11,l12,l13))=>aG Γ (.exit 0) (⟨[],(Z3 l8 i9 l10 i11 l12 l13 l13.length),[]⟩:St)|(.inr r_)=>aR (AY Γ v10 v0 v1 v2 v12 r_)) (λ⟨i1,l2,i3,l4,i5,l6,l7⟩ y h=>Ae q PO Jj (gC h (λh=>tV q PP [6,30000,37006] h λh=>tB h λx15 y15 h=>tT q IP Jj [(Z89 x15.1 x15.2.1.Params x15.2.1.Ret x15.2.1.Blocks x15.2.2.1 x15.2.2.2.1 x15.2.2.2.2 x15.2.2.2.2.length)] (c1 (Uw y15)) (gC h (λh=>Ae q [4] Jj (tS h (gO (L2 (Hu AR (Le.refl _ _)))))) λh=>Ae q Nu Jj (tN h))) λh=>tS h (gO (A2 (A5 [] Jj q))))) λx16 h=>(match x16,h with | .inl ⟨l8,i9,l10,i11,l12,l13⟩,h=>gA (Ae q [4] Jj (tS h (Bm AR))) | .inr r18,h=>gAr (λst' hk=>tS h (gK hk))))
def mZ(x1:Bool)(x2:Bool):=((bif x1 then x2 else false)==true)
def Q83(x1:Bool)(x2:Bool)(x3:EH)(a7:An):AV:=(Z30 (mZ x1 x2) x3.2.2.2.1 a7)
def Q82(x1:Bool)(x2:Bool)(x3:EH)(a3:TFunc):AV:=(Z30 (mZ x1 x2) x3.2.1.Params a3.Params)
def Q81(x1:Bool)(x2:Bool)(x3:EH)(a3:TFunc):AV:=(Z76 (mZ x1 x2) x3.2.1.Blocks a3.Blocks)
def Kg(a3:TFunc)(a5:Int)(a7:An)(aC:List Be):Option oC:=
 ((P1 a3.Params).bind λx1=>((bif (x1==true) then Lx a3.Ret else some false).bind λx2=>((bif ((bif x1 then x2 else false)==true) then Kf a3.Blocks a3 a5 a7 aC else some (false,(default:TFunc),(0:Int),[],[])).bind λx3=>((N9 (bif (bif x1 then x2 else false) then x3.1 else false) (6:Int)).bind λx4=>(some (x4,(⟨(bif ((bif x1 then x2 else false)==true) then x3.2.1.Params else a3.Params),(bif ((bif x1 then x2 else false)==true) then x3.2.1.Ret else a3.Ret),(bif ((bif x1 then x2 else false)==true) then x3.2.1.Blocks else a3.Blocks)⟩:TFunc),(bif ((bif x1 then x2 else false)==true) then x3.2.2.1 else a5),(bif ((bif x1 then x2 else false)==true) then x3.2.2.2.1 else a7),(bif ((bif x1 then x2 else false)==true) then x3.2.2.2.2 else aC)))))))
theorem Za(h:Kg v0 v1 v2 v12=some v13):sP 89 [U1] (Z3 v0.Params v0.Ret v0.Blocks v1 v2 v12 v12.length) (Z6 v13.1) (Z3 v13.2.1.Params v13.2.1.Ret v13.2.1.Blocks v13.2.2.1 v13.2.2.2.1 v13.2.2.2.2 v13.2.2.2.2.length):=
 sG Tryz.func89 λΓ q=>Ae q [0] Jj (tB h λx1 y1 h=>tB h λx2 y2 h=>tB h λx3 y3 h=>tT q [3] Jj [(Z7 x1),(Z7 x2),(Z89 x3.1 x3.2.1.Params x3.2.1.Ret x3.2.1.Blocks x3.2.2.1 x3.2.2.2.1 x3.2.2.2.2 x3.2.2.2.2.length)] (ci (MJ y1) (zG (x1==true) (YV (λ(hg:(x1==true)=true)=>(Ok (A6 hg y2))) (Lz x1) (gI7 (mZ x1 x2) (c2 (λ(hg:(mZ x1 x2)=true)=>(Y9 (A6 hg y3))) (Lz (bif x1 then x2 else false))))))) (Mm (Le.trans (leB (λg_ u=>(Cl u [] [(30000,.row 105 [(Q82 x1 x2 x3 v0),(xI (mZ x1 x2) x3.2.1.Ret v0.Ret),(Q81 x1 x2 x3 v0),(xI (mZ x1 x2) x3.2.2.1 v1),(Q83 x1 x2 x3 v2),.nilm,(Z47 g_ x3.2.2.2.2 v12)]),(37006,.tok 5 198 (bif g_ then x3.2.2.2.2.length else v12.length))])) (λg_ u=>(Cl u [] [(30000,.row 105 [(Q82 x1 x2 x3 v0),(xI (mZ x1 x2) x3.2.1.Ret v0.Ret),(Q81 x1 x2 x3 v0),(xI (mZ x1 x2) x3.2.2.1 v1),(Q83 x1 x2 x3 v2),.nilm,(AV.list 5 O5 default (bif g_ then x3.2.2.2.2 else v12) (.own 37006))]),(37006,.tok 5 198 ((bif g_ then x3.2.2.2.2 else v12).length))])) (mZ x1 x2)) (Le.trans (vh 30000 0 (show AVle (Q82 x1 x2 x3 v0) (AV.list 1 Aj 0 (bif (mZ x1 x2) then x3.2.1.Params else v0.Params) .none) from Kx)) (Le.trans (vh 30000 2 (show AVle (Q81 x1 x2 x3 v0) (AV.list 5 Bc default (bif (mZ x1 x2) then x3.2.1.Blocks else v0.Blocks) .none) from Kx)) (vh 30000 4 (show AVle (Q83 x1 x2 x3 v2) (AV.list 1 Aj 0 (bif (mZ x1 x2) then x3.2.2.2.1 else v2) .none) from Kx))))) (tB h λx4 y4 h=>tT q [2] Jj [(EZ x4)] (c1 (AJ y4)) (tS h (Bm AR)))))
def Ed(aI:Int):Option H6:=
 (some (aI,(1:Int)))
theorem M7(h:Ed v1=some v19):sP 149 [(Z6 v1)] [] (.agg (Bs v19)) []:=
 sG Tryz.func149 λΓ q=>tW q [0,2] [2] [2] [2] (tS h (Bm []))
def Q84:=(λ(v_:Az)=>((Yr v_):AV))
abbrev Pw:=(Int×Az)
abbrev f7:=(Bool×TFunc×Int×An×List Be×List (Int×Az))
def Gn(aM:Int)(aaD:H6)(aN:Mp)(a3:TFunc)(a5:Int)(a7:An)(a8:List Pw)(aC:List Be):Option f7:=
 (bif (bif (bif (Ks a8 aM) then true else(decide (aM<1))) then true else(decide ((1023:Int)<aM))) then(some (false,a3,a5,a7,aC,a8)) else(some (true,a3,a5,a7,aC,(Pf a8 aM (⟨aaD,aN⟩:Az)))))
variable{v24:Mp}{v25:List Pw}{v26:f7}
abbrev wq:=(Int×AV)
theorem Ql(h:Gn v1 v19 v24 v0 v11 v2 v25 v12=some v26):sP 183 [U1,(Z6 v1),(.agg (Bs v19)),(.agg (QU v24))] [(Z1 v0.Params v0.Ret v0.Blocks v11 v2 9100005 v12),(L3 37006 198 v12.length),(9100005,.obj (.map true .i64 (D1 (λ(v_:Az)=>((Yr v_):AV)) v25)))] (.bool v26.1) [(Z1 v26.2.1.Params v26.2.1.Ret v26.2.1.Blocks v26.2.2.1 v26.2.2.2.1 9100005 v26.2.2.2.2.1),(L3 37006 198 v26.2.2.2.2.1.length),(9100005,.obj (.map true .i64 (D1 (λ(v_:Az)=>((Yr v_):AV)) v26.2.2.2.2.2)))]:=
 sG Tryz.func183 λΓ q=>Ae q VW cp (gR q [0,1,6,7,10] cp [(17,(.tuple [(xG v25 v1),(.bool (Ks v25 v1))]))] [] (c1 (show(AVle (.tuple [Mw (.agg [Jf,Jf,Jf,Jf]) (D1 Q84 v25) v1,.bool (Ks (D1 Q84 v25) v1)]) (.tuple [(xG v25 v1),(.bool (Ks v25 v1))])) from(fE (f:=Q84) (l:=v25) (AVle.refl _) rfl))) (tU q [0,1,6,7,28] cp (c4 (gI ((Ks v25 v1)==false)) (Hv (Ks v25 v1)) (gI ((bif (Ks v25 v1) then true else(decide (v1<1)))==false)) (Hv (bif (Ks v25 v1) then true else(decide (v1<1))))) (gC h (λh=>Ae q [8] Je (tS h (Bm GM))) λh=>Ae q [] Je (Mm (V8 (λ(k_:List wq) u=>Cl u [] [(9100005,.obj (.map true .i64 k_))]) (show(Pf (D1 Q84 v25) v1 (.agg [(Z6 v19.1),(Z6 v19.2),(Z6 v24.block),(Z6 v24.at_)]))=(D1 Q84 (Pf v25 v1 (⟨v19,v24⟩:Az))) from(lL (f:=Q84) (l:=v25) (v:=(⟨v19,v24⟩:Az)) rfl rfl))) (Ae q [8] Je (tS h (Bm GM)))))))
def Rq(a2:Ay):Option H6:=
 ((Sy a2).bind λx1=>(bif (!x1) then(some ((0:Int),(0:Int))) else((Rv a2).bind λx2=>(some (x2.1,x2.2)))))
theorem XZ(h:Rq v6=some v19):sP 184 [(QM v6)] [] (.tuple [(Z6 v19.1),(Z6 v19.2)]) []:=
 sG Tryz.func184 λΓ q=>Ae q [1] [1] (tB h λx1 y1 h=>tT q [1,6] [1] [(Z7 x1)] (c1 (DP y1)) (gC h (λh=>Ae q Br [] (tS h (Bm []))) λh=>tB h λx2 y2 h=>tT q Br [] [(ux x2.1 x2.2)] (c1 (GW y2)) (tS h (Bm []))))
open Go Go.RowKit
set_option maxRecDepth 100000
set_option maxHeartbeats 2000000
abbrev wr:=(Int×An×Int×List Ab×Int×An×List Be×List (Int×Az))
abbrev Ac2:=(LR (Int×An×Int×List Ab×Int×An×List Be×List (Int×Az)) ((An×Int×List Ab×Int×An×List Be×List (Int×Az)) ⊕ (Bool×TFunc×Int×An×List Be×List (Int×Az))))
def Dl(aaB:Int)(aH:Ab):wr->Option Ac2:=
 λ((i1,l2,i3,l4,i5,l6,l7,l8):wr)=>(bif (decide (i1<(aH.Phis.length:Int))) then(Ax (As i1 aH.Phis.length) ((Ed ((aH.Phis.getD i1.toNat default).Bits)).bind λx17=>((Gn ((aH.Phis.getD i1.toNat default).Dst) x17 (⟨aaB,(-1:Int)⟩:Mp) (⟨l2,i3,l4⟩:TFunc) i5 l6 l8 l7).bind λx18=>(bif (!x18.1) then(some (.done (.inr (false,x18.2.1,x18.2.2.1,x18.2.2.2.1,x18.2.2.2.2.1,x18.2.2.2.2.2)))) else(some (.next ((w64 (i1+1)),x18.2.1.Params,x18.2.1.Ret,x18.2.1.Blocks,x18.2.2.1,x18.2.2.2.1,x18.2.2.2.2.1,x18.2.2.2.2.2))))))) else(some (.done (.inl (l2,i3,l4,i5,l6,l7,l8)))))
def Co(aaB:Int)(aH:Ab):wr->Option Ac2:=
 λ((i21,l22,i23,l24,i25,l26,l27,l28):wr)=>(bif (decide (i21<(aH.Ops.length:Int))) then(Ax (As i21 aH.Ops.length) ((Rq (aH.Ops.getD i21.toNat default)).bind λx37=>((bif ((decide ((0:Int)<x37.1))==true) then Gn ((aH.Ops.getD i21.toNat default).Dst) (x37.1,x37.2) (⟨aaB,i21⟩:Mp) (⟨l22,i23,l24⟩:TFunc) i25 l26 l28 l27 else some (false,(default:TFunc),(0:Int),[],[],[])).bind λx38=>(bif (bif (decide ((0:Int)<x37.1)) then(!x38.1) else false) then(some (.done (.inr (false,(⟨(bif ((decide ((0:Int)<x37.1))==true) then x38.2.1.Params else l22),(bif ((decide ((0:Int)<x37.1))==true) then x38.2.1.Ret else i23),(bif ((decide ((0:Int)<x37.1))==true) then x38.2.1.Blocks else l24)⟩:TFunc),(bif ((decide ((0:Int)<x37.1))==true) then x38.2.2.1 else i25),(bif ((decide ((0:Int)<x37.1))==true) then x38.2.2.2.1 else l26),(bif ((decide ((0:Int)<x37.1))==true) then x38.2.2.2.2.1 else l27),(bif ((decide ((0:Int)<x37.1))==true) then x38.2.2.2.2.2 else l28))))) else(some (.next ((w64 (i21+1)),(bif ((decide ((0:Int)<x37.1))==true) then x38.2.1.Params else l22),(bif ((decide ((0:Int)<x37.1))==true) then x38.2.1.Ret else i23),(bif ((decide ((0:Int)<x37.1))==true) then x38.2.1.Blocks else l24),(bif ((decide ((0:Int)<x37.1))==true) then x38.2.2.1 else i25),(bif ((decide ((0:Int)<x37.1))==true) then x38.2.2.2.1 else l26),(bif ((decide ((0:Int)<x37.1))==true) then x38.2.2.2.2.1 else l27),(bif ((decide ((0:Int)<x37.1))==true) then x38.2.2.2.2.2 else l28)))))))) else(some (.done (.inl (l22,i23,l24,i25,l26,l27,l28)))))
def O4(Γ:Hx)(aaB:Int)(aH:Ab)(a3:TFunc)(a5:Int)(a7:An)(a8:List Pw)(aC:List Be)(r:f7):Exit->St->Prop:=fK Tryz.prog Γ Tryz.f150.results.toList [(Z1 a3.Params a3.Ret a3.Blocks a5 a7 9100005 aC),(L3 37006 198 aC.length),(9100005,.obj (.map true .i64 (D1 (λ(v_:Az)=>((Yr v_):AV)) a8)))] (.bool r.1) [(Z1 r.2.1.Params r.2.1.Ret r.2.1.Blocks r.2.2.1 r.2.2.2.1 9100005 r.2.2.2.2.1),(L3 37006 198 r.2.2.2.2.1.length),(9100005,.obj (.map true .i64 (D1 (λ(v_:Az)=>((Yr v_):AV)) r.2.2.2.2.2)))]
def gQ(x37:H6):=((decide ((0:Int)<x37.1))==true)
def uq:=(λ(v_:Az)=>((Yr v_):AV))
def Q89(x37:H6)(x38:f7)(l26:An):AV:=(Z30 (gQ x37) x38.2.2.2.1 l26)
def Q90(x37:H6)(x38:f7)(l24:List Ab):AV:=(Z76 (gQ x37) x38.2.1.Blocks l24)
def Q88(x37:H6)(x38:f7)(l22:An):AV:=(Z30 (gQ x37) x38.2.1.Params l22)
def G6(aaB:Int)(aH:Ab)(a3:TFunc)(a5:Int)(a7:An)(a8:List Pw)(aC:List Be):Option f7:=
 ((Ad (Dl aaB aH) ((0:Int),a3.Params,a3.Ret,a3.Blocks,a5,a7,aC,a8)).bind (λx19=>(match x19 with|(.inl (l9,i10,l11,i12,l13,l14,l15))=>((Ad (Co aaB aH) ((0:Int),l9,i10,l11,i12,l13,l14,l15)).bind (λx39=>(match x39 with|(.inl (l29,i30,l31,i32,l33,l34,l35))=>(some (true,(⟨l29,i30,l31⟩:TFunc),i32,l33,l34,l35))|(.inr r41)=>(some r41))))|(.inr r42)=>(some r42))))
theorem Vh(h:G6 v1 v9 v0 v11 v2 v25 v12=some v26):sP 150 [U1,(Z6 v1),(.agg (Bc v9))] [(Z1 v0.Params v0.Ret v0.Blocks v11 v2 9100005 v12),(L3 37006 198 v12.length),(9100005,.obj (.map true .i64 (D1 (λ(v_:Az)=>((Yr v_):AV)) v25)))] (.bool v26.1) [(Z1 v26.2.1.Params v26.2.1.Ret v26.2.1.Blocks v26.2.2.1 v26.2.2.2.1 9100005 v26.2.2.2.2.1),(L3 37006 198 v26.2.2.2.2.1.length),(9100005,.obj (.map true .i64 (D1 (λ(v_:Az)=>((Yr v_):AV)) v26.2.2.2.2.2)))]:=
 sG Tryz.func150 λΓ q=>tW q Px PM jv PM (tL q h jv PM (λu (i1,l2,i3,l4,i5,l6,l7,l8)=>(Cl u [(16,(Z6 i1))] [(Z1 l2 i3 l4 i5 l6 9100005 l7),(L3 37006 198 l7.length),(9100005,.obj (.map true .i64 (D1 uq l8)))])) (λu x_=>match x_ with|(.inl (l9,i10,l11,i12,l13,l14,l15))=>aG Γ (.exit 0) (M2 Px PM u [] [(Z1 l9 i10 l11 i12 l13 9100005 l14),(L3 37006 198 l14.length),(9100005,.obj (.map true .i64 (D1 uq l15)))])|(.inr r_)=>aR (O4 Γ v1 v9 v0 v11 v2 v25 v12 r_)) (λ⟨i1,l2,i3,l4,i5,l6,l7,l8⟩ y h=>Ae q [0,1,5,14,15,16,17] PM (gC h (λh=>tV q [0,1,5,8,14,15,16] [5,8,30000,37006,9100005] h λh=>tB h λx17 y17 h=>tB h λx18 y18 h=>tT q [0,1,5,14,15,16,29] PM [(pN x17),⟨GM,[],(.bool x18.1),[(Z1 x18.2.1.Params x18.2.1.Ret x18.2.1.Blocks x18.2.2.1 x18.2.2.2.1 9100005 x18.2.2.2.2.1),(L3 37006 198 x18.2.2.2.2.1.length),(9100005,.obj (.map true .i64 (D1 uq x18.2.2.2.2.2)))],[],[]⟩] (c2 (M7 y17) (Ql y18)) (gC h (λh=>Ae q [6] Je (tS h (gO (L2 (Hu GM (Le.refl _ _)))))) λh=>Ae q jv PM (tN h))) λh=>tS h (gO (A2 (A5 Px PM q))))) λx19 h=>(match x19,h with | .inl ⟨l9,i10,l11,i12,l13,l14,l15⟩,h=>gA (Ae q j7 Je (tL q h j7 Je (λu (i21,l22,i23,l24,i25,l26,l27,l28)=>(Cl u [(34,(Z6 i21))] [(Z1 l22 i23 l24 i25 l26 9100005 l27),(L3 37006 198 l27.length),(9100005,.obj (.map true .i64 (D1 uq l28)))])) (λu x_=>match x_ with|(.inl (l29,i30,l31,i32,l33,l34,l35))=>aG Γ (.exit 2) (⟨[],[(Z1 l29 i30 l31 i32 l33 9100005 l34),(L3 37006 198 l34.length),(9100005,.obj (.map true .i64 (D1 uq l35)))],[]⟩:St)|(.inr r_)=>aR (O4 Γ v1 v9 v0 v11 v2 v25 v12 r_)) (λ⟨i21,l22,i23,l24,i25,l26,l27,l28⟩ y h=>Ae q [0,1,32,33,34,35] Je (gC h (λh=>tV q [0,1,9,10,32,33,34] s4 h λh=>tB h λx37 y37 h=>tT q [0,1,9,10,11,12,32,33,34] s4 [(ux x37.1 x37.2)] (c1 (XZ y37)) (tB h λx38 y38 h=>tT q [0,1,32,33,34,58] Je [⟨GM,[],(.bool x38.1),[(Z1 x38.2.1.Params x38.2.1.Ret x38.2.1.Blocks x38.2.2.1 x38.2.2.2.1 9100005 x38.2.2.2.2.1),(L3 37006 198 x38.2.2.2.2.1.length),(9100005,.obj (.map true .i64 (D1 uq x38.2.2.2.2.2)))],[],[]⟩] (gI9 (gQ x37) (c3 (λ(hg:(gQ x37)=true)=>(Ql (A6 hg y38))) (gI (gQ x37)) (Lz (decide ((0:Int)<x37.1))))) (Mm (Le.trans (V8 (λ(k_:List wq) u=>Cl u [] [(9100005,.obj (.map true .i64 k_))]) (show(bif (gQ x37) then(D1 uq x38.2.2.2.2.2) else(D1 uq l28))=(D1 uq (bif (gQ x37) then x38.2.2.2.2.2 else l28)) from(py rfl rfl))) (Le.trans (leB (λg_ u=>(Cl u [] [(30000,.row 105 [(Q88 x37 x38 l22),(xI (gQ x37) x38.2.1.Ret i23),(Q90 x37 x38 l24),(xI (gQ x37) x38.2.2.1 i25),(Q89 x37 x38 l26),(.omap 9100005),(Z47 g_ x38.2.2.2.2.1 l27)]),(37006,.tok 5 198 (bif g_ then x38.2.2.2.2.1.length else l27.length))])) (λg_ u=>(Cl u [] [(30000,.row 105 [(Q88 x37 x38 l22),(xI (gQ x37) x38.2.1.Ret i23),(Q90 x37 x38 l24),(xI (gQ x37) x38.2.2.1 i25),(Q89 x37 x38 l26),(.omap 9100005),(AV.list 5 O5 default (bif g_ then x38.2.2.2.2.1 else l27) (.own 37006))]),(37006,.tok 5 198 ((bif g_ then x38.2.2.2.2.1 else l27).length))])) (gQ x37)) (Le.trans (vh 30000 0 (show AVle (Q88 x37 x38 l22) (AV.list 1 Aj 0 (bif (gQ x37) then x38.2.1.Params else l22) .none) from Kx)) (Le.trans (vh 30000 2 (show AVle (Q90 x37 x38 l24) (AV.list 5 Bc default (bif (gQ x37) then x38.2.1.Blocks else l24) .none) from Kx)) (vh 30000 4 (show AVle (Q89 x37 x38 l26) (AV.list 1 Aj 0 (bif (gQ x37) then x38.2.2.2.1 else l26) .none) from Kx)))))) (gC h (λh=>Ae q [6] Je (tS h (gO (L2 (Hu GM (Le.refl _ _)))))) λh=>Ae q j7 Je (tN h))))) λh=>tS h (gO (A2 (A5 [] Je q))))) λx39 h=>(match x39,h with | .inl ⟨l29,i30,l31,i32,l33,l34,l35⟩,h=>gA (Ae q [6] Je (tS h (Bm GM))) | .inr r41,h=>gAr (λst' hk=>tS h (gK hk))))) | .inr r42,h=>gAr (λst' hk=>tS h (gK hk))))
abbrev Ac3:=(Int×List (Int×Az))
def Gp(a3:TFunc):Ac3->Option (LR (Int×List (Int×Az)) (List (Int×Az))):=
 λ((i1,l2):Ac3)=>(bif (decide (i1<(a3.Params.length:Int))) then(Ax (As i1 a3.Params.length) ((Ed (a3.Params.getD i1.toNat 0)).bind λx5=>(some (.next ((w64 (i1+1)),(Pf l2 (w64 (i1+1)) (⟨x5,(⟨(0:Int),(-1:Int)⟩:Mp)⟩:Az))))))) else(some (.done l2)))
abbrev Ac4:=(Int×List (Int×Az)×An×Int×List Ab×Int×An×List Be)
def Ec(a3:TFunc):Ac4->Option (LR (Int×List (Int×Az)×An×Int×List Ab×Int×An×List Be) ((List (Int×Az)×An×Int×List Ab×Int×An×List Be) ⊕ (Int×TFunc×Int×An×List Be×List (Int×Az)))):=
 λ((i8,l9,l10,i11,l12,i13,l14,l15):Ac4)=>(bif (decide (i8<(a3.Blocks.length:Int))) then(Ax (As i8 a3.Blocks.length) ((G6 i8 (a3.Blocks.getD i8.toNat default) (⟨l10,i11,l12⟩:TFunc) i13 l14 l9 l15).bind λx24=>(bif (!x24.1) then(some (.done (.inr ((7:Int),x24.2.1,x24.2.2.1,x24.2.2.2.1,x24.2.2.2.2.1,x24.2.2.2.2.2)))) else(some (.next ((w64 (i8+1)),x24.2.2.2.2.2,x24.2.1.Params,x24.2.1.Ret,x24.2.1.Blocks,x24.2.2.1,x24.2.2.2.1,x24.2.2.2.2.1)))))) else(some (.done (.inl (l9,l10,i11,l12,i13,l14,l15)))))
abbrev wu:=(Int×TFunc×Int×An×List Be×List (Int×Az))
def Xp(Γ:Hx)(a3:TFunc)(a5:Int)(a7:An)(aC:List Be)(r:wu):Exit->St->Prop:=fK Tryz.prog Γ Tryz.f90.results.toList (Z3 a3.Params a3.Ret a3.Blocks a5 a7 aC aC.length) (Z6 r.1) [(Z1 r.2.1.Params r.2.1.Ret r.2.1.Blocks r.2.2.1 r.2.2.2.1 9200005 r.2.2.2.2.1),(L3 37006 198 r.2.2.2.2.1.length),(9200005,.obj (.map false .i64 (D1 (λ(v_:Az)=>((Yr v_):AV)) r.2.2.2.2.2)))]
def kd:=(λ(v_:Az)=>((Yr v_):AV))
def Q92(l16:List Pw)(l17:An)(i18:Int)(l19:List Ab)(i20:Int)(l21:An)(l22:List Be):List LK:=[(8,.obj (.map true .i64 (D1 kd l16))),(Z33 l17 i18 l19 i20 l21 l22),(L3 37006 198 l22.length)]
def Il(a3:TFunc)(a5:Int)(a7:An)(aC:List Be):Option wu:=
 ((Ad (Gp a3) ((0:Int),([]:List Pw))).bind (λx6=>((Ad (Ec a3) ((0:Int),x6,a3.Params,a3.Ret,a3.Blocks,a5,a7,aC)).bind (λx25=>(match x25 with|(.inl (l16,l17,i18,l19,i20,l21,l22))=>(some ((0:Int),(⟨l17,i18,l19⟩:TFunc),i20,l21,l22,l16))|(.inr r27)=>(some r27))))))
variable{v27:wu}
theorem W8(h:Il v0 v1 v2 v12=some v27):sP 90 [U1] (Z3 v0.Params v0.Ret v0.Blocks v1 v2 v12 v12.length) (Z6 v27.1) [(Z1 v27.2.1.Params v27.2.1.Ret v27.2.1.Blocks v27.2.2.1 v27.2.2.2.1 9200005 v27.2.2.2.2.1),(L3 37006 198 v27.2.2.2.2.1.length),(9200005,.obj (.map false .i64 (D1 (λ(v_:Az)=>((Yr v_):AV)) v27.2.2.2.2.2)))]:=
 sG Tryz.func90 λΓ q=>tW q [0] Jj [0] Sf (Mm (V8 (λ(k_:List wq) u=>Cl u [] [(8,.obj (.map true .i64 k_))]) (show[]=(D1 kd ([]:List Pw)) from rfl)) (Ae q dI Sf (tL q h dI Sf (λu (i1,l2)=>(Cl u [(17,(Z6 i1))] [(8,.obj (.map true .i64 (D1 kd l2)))])) (λu l3=>aG Γ (.exit 0) (M2 [0] Sf u [] [(8,.obj (.map true .i64 (D1 kd l3)))])) (λ⟨i1,l2⟩ y h=>Ae q [0,15,16,17,18] Sf (gC h (λh=>tV q [0,3,4,15,16,17] Sf h λh=>tB h λx5 y5 h=>tT q dI Sf [(pN x5)] (c1 (M7 y5)) (Mm (V8 (λ(k_:List wq) u=>Cl u [] [(8,.obj (.map true .i64 k_))]) (show(Pf (D1 kd l2) (w64 (i1+1)) (.agg [(Z6 x5.1),(Z6 x5.2),Jf,(.int .i64 (-1:Int))]))=(D1 kd (Pf l2 (w64 (i1+1)) (⟨x5,(⟨(0:Int),(-1:Int)⟩:Mp)⟩:Az))) from(lL (f:=kd) (l:=l2) (v:=(⟨x5,(⟨(0:Int),(-1:Int)⟩:Mp)⟩:Az)) rfl rfl))) (Ae q dI Sf (tN h)))) λh=>tS h (gO (A2 (A5 [0] Sf q))))) λx6 h=>gA (Ae q kK Sf (tL q h kK Sf (λu (i8,l9,l10,i11,l12,i13,l14,l15)=>(Cl u [(39,(Z6 i8))] [(8,.obj (.map true .i64 (D1 kd l9))),(Z33 l10 i11 l12 i13 l14 l15),(L3 37006 198 l15.length)])) (λu x_=>match x_ with|(.inl (l16,l17,i18,l19,i20,l21,l22))=>aG Γ (.exit 2) (⟨[],(Q92 l16 l17 i18 l19 i20 l21 l22),[]⟩:St)|(.inr r_)=>aR (Xp Γ v0 v1 v2 v12 r_)) (λ⟨i8,l9,l10,i11,l12,i13,l14,l15⟩ y h=>Ae q [0,37,38,39,40] Sf (gC h (λh=>tV q [0,5,6,37,38,39] [6,8,30000,37006] h λh=>tB h λx24 y24 h=>tT q [0,37,38,39,48] Sf [⟨[(30000,30000),(37006,37006),(8,9100005)],[],(.bool x24.1),[(Z1 x24.2.1.Params x24.2.1.Ret x24.2.1.Blocks x24.2.2.1 x24.2.2.2.1 9100005 x24.2.2.2.2.1),(L3 37006 198 x24.2.2.2.2.1.length),(9100005,.obj (.map true .i64 (D1 kd x24.2.2.2.2.2)))],[],[]⟩] (c1 (Vh y24)) (gC h (λh=>Ae q [2] Sf (Py (⟨[(2,(.int .i64 (7:Int)))],[(8,.obj (.map true .i64 (D1 kd x24.2.2.2.2.2))),(Z33 x24.2.1.Params x24.2.1.Ret x24.2.1.Blocks x24.2.2.1 x24.2.2.2.1 x24.2.2.2.2.1),(L3 37006 198 x24.2.2.2.2.1.length)],[]⟩:St) (tS h (gO (L2 (Hu sj (Le.trans (qq (nm:=8) (.map false .i64 (D1 kd x24.2.2.2.2.2)) rfl (λ_ _ _ _ h_=>fH h_)) (A5 (st':=⟨[(2,(.int .i64 (7:Int)))],[(8,.obj (.map false .i64 (D1 kd x24.2.2.2.2.2))),(Z33 x24.2.1.Params x24.2.1.Ret x24.2.1.Blocks x24.2.2.1 x24.2.2.2.1 x24.2.2.2.2.1),(L3 37006 198 x24.2.2.2.2.1.length)],[]⟩) [2] Sf q)))))))) λh=>Ae q kK Sf (tN h))) λh=>tS h (gO (A2 (A5 [] Sf q))))) λx25 h=>(match x25,h with | .inl ⟨l16,l17,i18,l19,i20,l21,l22⟩,h=>gA (Ae q [2] Sf (Py (⟨[(2,Jf)],(Q92 l16 l17 i18 l19 i20 l21 l22),[]⟩:St) (tS h (gK (e:=.ret) (Hu sj (Le.trans (qq (nm:=8) (.map false .i64 (D1 kd l16)) rfl (λ_ _ _ _ h_=>fH h_)) (A5 (st':=⟨[(2,Jf)],[(8,.obj (.map false .i64 (D1 kd l16))),(Z33 l17 i18 l19 i20 l21 l22),(L3 37006 198 l22.length)],[]⟩) [2] Sf q))))))) | .inr r27,h=>gAr (λst' hk=>tS h (gK hk))))))))
abbrev Ac5:=(Mp×TFunc×Int×An×List Be)
def Gz(aaB:Int)(a3:TFunc)(a5:Int)(a7:An)(a8:List Pw)(aC:List Be):Option Ac5:=
 (Ax (As aaB a3.Blocks.length) (some ((⟨aaB,(((a3.Blocks.getD aaB.toNat default).Ops).length:Int)⟩:Mp),a3,a5,a7,aC)))
variable{v28:Ac5}
theorem Oh(h:Gz v1 v0 v11 v2 v25 v12=some v28):sP 186 [U1,(Z6 v1)] [(Z1 v0.Params v0.Ret v0.Blocks v11 v2 9100005 v12),(L3 37006 198 v12.length),(9100005,.obj (.map false .i64 (D1 (λ(v_:Az)=>((Yr v_):AV)) v25)))] (.agg (QU v28.1)) [(Z1 v28.2.1.Params v28.2.1.Ret v28.2.1.Blocks v28.2.2.1 v28.2.2.2.1 9100005 v28.2.2.2.2),(L3 37006 198 v28.2.2.2.2.length),(9100005,.obj (.map false .i64 (D1 (λ(v_:Az)=>((Yr v_):AV)) v25)))]:=
 sG Tryz.func186 λΓ q=>Ae q [0,1,4] s7 (tV q [4] s7 h λh=>tS h (Bm GM))
abbrev wv:=(TFunc×Int×An×List Be)
def Ey(aM:Int)(aaD:H6)(aN:Mp)(a3:TFunc)(a5:Int)(a7:An)(a8:List Pw)(aC:List Be):Option wv:=
 (Ax (aC.length+([(⟨aM,aaD,aN⟩:Be)]:List Be).length<=room) (some (a3,a5,a7,(aC++([(⟨aM,aaD,aN⟩:Be)]:List Be)))))
variable{v29:wv}
theorem Lr(h:Ey v1 v19 v24 v0 v11 v2 v25 v12=some v29):sP 185 [U1,(Z6 v1),(.agg (Bs v19)),(.agg (QU v24))] [(Z1 v0.Params v0.Ret v0.Blocks v11 v2 9100005 v12),(L3 37006 198 v12.length),(9100005,.obj (.map false .i64 (D1 (λ(v_:Az)=>((Yr v_):AV)) v25)))] (.tuple []) [(Z1 v29.1.Params v29.1.Ret v29.1.Blocks v29.2.1 v29.2.2.1 9100005 v29.2.2.2),(L3 37006 198 v29.2.2.2.length),(9100005,.obj (.map false .i64 (D1 (λ(v_:Az)=>((Yr v_):AV)) v25)))]:=
 sG Tryz.func185 λΓ q=>Ae q VW cp (tC h λc1_ h=>gR q [] Je [(17,(AV.list 5 O5 default ([(⟨v1,v19,v24⟩:Be)]:List Be) .exact)),(18,(AV.list 5 O5 default (v12++([(⟨v1,v19,v24⟩:Be)]:List Be)) (.own 37006)))] [] (c5 (Au 5 O5 (default:Be) ([(⟨v1,v19,v24⟩:Be)]:List Be)) (Eq.refl v12.length) c1_ (Cf 5 37006 O5 (default:Be) v12 ([(⟨v1,v19,v24⟩:Be)]:List Be)) (Bg v12 ([(⟨v1,v19,v24⟩:Be)]:List Be))) (tS h (gK (e:=.normal) (Hu GM (Le.refl _ _)))))
def Q93:List JB:=[(2,Z50)]
def Rr(a2:Ay):Option sd:=
 ((Sy a2).bind λx1=>(bif (!x1) then(some ([]:List H6)) else((Rx a2).bind λx2=>(some x2))))
theorem YB(h:Rr v6=some v21):sP 187 [(QM v6)] [] (Z9 v21) []:=
 sG Tryz.func187 λΓ q=>gR q [1] [1] Q93 [] (c1 (Bh 2 Bs ((0:Int),(0:Int)))) (tB h λx1 y1 h=>tT q [1,5] [1] [(Z7 x1)] (c1 (DP y1)) (gC h (λh=>gR q [2] [] Q93 [] (c1 (Bh 2 Bs ((0:Int),(0:Int)))) (Py (⟨Q93,[],[]⟩:St) (tS h (gK (e:=.ret) (Hu [] (show Le Γ _ (⟨[(2,(AV.list 2 Bs ((0:Int),(0:Int)) ([]:List H6) .none))],[],[]⟩:St) from Le.trans (A5 (st':=⟨Q93,[],[]⟩) [2] [] q) (Et (.cons AVle.untag .nil) .nil))))))) λh=>tB h λx2 y2 h=>tT q [2] [] [(mi x2)] (c1 (GX y2)) (tS h (Bm []))))
abbrev se:=(LR (Int×An×Int×List Ab×Int×An×List Be) (An×Int×List Ab×Int×An×List Be))
def D7(a3:TFunc)(a8:List Pw)(i1:Int)(i21:Int):Uc->Option se:=
 λ((i35,l36,i37,l38,i39,l40,l41):Uc)=>(bif (decide (i35<(((((a3.Blocks.getD i1.toNat default).Phis).getD i21.toNat default).Args).length:Int))) then(Ax (As i35 ((((a3.Blocks.getD i1.toNat default).Phis).getD i21.toNat default).Args).length) ((Ed ((((a3.Blocks.getD i1.toNat default).Phis).getD i21.toNat default).Bits)).bind λx49=>(Ax (As i35 ((((a3.Blocks.getD i1.toNat default).Phis).getD i21.toNat default).From).length) ((Gz (((((a3.Blocks.getD i1.toNat default).Phis).getD i21.toNat default).From).getD i35.toNat 0) (⟨l36,i37,l38⟩:TFunc) i39 l40 a8 l41).bind λx51=>((Ey (((((a3.Blocks.getD i1.toNat default).Phis).getD i21.toNat default).Args).getD i35.toNat 0) x49 x51.1 x51.2.1 x51.2.2.1 x51.2.2.2.1 a8 x51.2.2.2.2).bind λx52=>(some (.next ((w64 (i35+1)),x52.1.Params,x52.1.Ret,x52.1.Blocks,x52.2.1,x52.2.2.1,x52.2.2.2)))))))) else(some (.done (l36,i37,l38,i39,l40,l41))))
def D8(a3:TFunc)(a8:List Pw)(i1:Int):Uc->Option se:=
 λ((i21,l22,i23,l24,i25,l26,l27):Uc)=>(bif (decide (i21<(((a3.Blocks.getD i1.toNat default).Phis).length:Int))) then(Ax (As i21 ((a3.Blocks.getD i1.toNat default).Phis).length) ((Ad (D7 a3 a8 i1 i21) ((0:Int),l22,i23,l24,i25,l26,l27)).bind (λ(l42,i43,l44,i45,l46,l47)=>(some (.next ((w64 (i21+1)),l42,i43,l44,i45,l46,l47)))))) else(some (.done (l22,i23,l24,i25,l26,l27))))
def D9(a3:TFunc)(a8:List Pw)(i1:Int)(i57:Int)(x71:List MY):Uc->Option se:=
 λ((i72,l73,i74,l75,i76,l77,l78):Uc)=>(bif (decide (i72<(x71.length:Int))) then(Ax (As i72 x71.length) (Ax (As i72 ((((a3.Blocks.getD i1.toNat default).Ops).getD i57.toNat default).Args).length) ((Ey (((((a3.Blocks.getD i1.toNat default).Ops).getD i57.toNat default).Args).getD i72.toNat 0) (x71.getD i72.toNat ((0:Int),(0:Int))) (⟨i1,i57⟩:Mp) (⟨l73,i74,l75⟩:TFunc) i76 l77 a8 l78).bind λx87=>(some (.next ((w64 (i72+1)),x87.1.Params,x87.1.Ret,x87.1.Blocks,x87.2.1,x87.2.2.1,x87.2.2.2)))))) else(some (.done (l73,i74,l75,i76,l77,l78))))
def Ea(a3:TFunc)(a8:List Pw)(i1:Int):Uc->Option se:=
 λ((i57,l58,i59,l60,i61,l62,l63):Uc)=>(bif (decide (i57<(((a3.Blocks.getD i1.toNat default).Ops).length:Int))) then(Ax (As i57 ((a3.Blocks.getD i1.toNat default).Ops).length) ((Rr (((a3.Blocks.getD i1.toNat default).Ops).getD i57.toNat default)).bind λx71=>((Ad (D9 a3 a8 i1 i57 x71) ((0:Int),l58,i59,l60,i61,l62,l63)).bind (λ(l79,i80,l81,i82,l83,l84)=>(some (.next ((w64 (i57+1)),l79,i80,l81,i82,l83,l84))))))) else(some (.done (l58,i59,l60,i61,l62,l63))))
def Eb(a3:TFunc)(a8:List Pw):Uc->Option se:=
 λ((i1,l2,i3,l4,i5,l6,l7):Uc)=>(bif (decide (i1<(a3.Blocks.length:Int))) then(Option.bind (α:=(An×Int×List Ab×Int×An×List Be)) (Ax (As i1 a3.Blocks.length) ((Ad (D8 a3 a8 i1) ((0:Int),l2,i3,l4,i5,l6,l7)).bind (λx55=>(match x55 with|(l28,i29,l30,i31,l32,l33)=>((Ad (Ea a3 a8 i1) ((0:Int),l28,i29,l30,i31,l32,l33)).bind (λx90=>(match x90 with|(l64,i65,l66,i67,l68,l69)=>(bif (((a3.Blocks.getD i1.toNat default).End.Kind:Int)==0) then((Ed i65).bind λx92=>((Gz i1 (⟨l64,i65,l66⟩:TFunc) i67 l68 a8 l69).bind λx93=>((Ey ((a3.Blocks.getD i1.toNat default).End.Arg) x92 x93.1 x93.2.1 x93.2.2.1 x93.2.2.2.1 a8 x93.2.2.2.2).bind λx94=>(some (x94.1.Params,x94.1.Ret,x94.1.Blocks,x94.2.1,x94.2.2.1,x94.2.2.2))))) else(bif (((a3.Blocks.getD i1.toNat default).End.Kind:Int)==2) then((Ed (1:Int)).bind λx95=>((Gz i1 (⟨l64,i65,l66⟩:TFunc) i67 l68 a8 l69).bind λx96=>((Ey ((a3.Blocks.getD i1.toNat default).End.Arg) x95 x96.1 x96.2.1 x96.2.2.1 x96.2.2.2.1 a8 x96.2.2.2.2).bind λx97=>(some (x97.1.Params,x97.1.Ret,x97.1.Blocks,x97.2.1,x97.2.2.1,x97.2.2.2))))) else(some (l64,i65,l66,i67,l68,l69))))))))))) (λx98=>(match x98 with|(l14,i15,l16,i17,l18,l19)=>(some (.next ((w64 (i1+1)),l14,i15,l16,i17,l18,l19)))))) else(some (.done (l2,i3,l4,i5,l6,l7))))
def Q95(a3:TFunc)(i1:Int):=(a3.Blocks.getD i1.toNat default)
def xD(a8:List Pw):=(D1 (λ(v_:Az)=>((Yr v_):AV)) a8)
def Ik(a3:TFunc)(a5:Int)(a7:An)(a8:List Pw)(aC:List Be):Option wv:=
 ((Ad (Eb a3 a8) ((0:Int),a3.Params,a3.Ret,a3.Blocks,a5,a7,aC)).bind (λ(l8,i9,l10,i11,l12,l13)=>(some ((⟨l8,i9,l10⟩:TFunc),i11,l12,l13))))
theorem W7(h:Ik v0 v1 v2 v25 v12=some v29):sP 151 [U1] [(Z1 v0.Params v0.Ret v0.Blocks v1 v2 9100005 v12),(L3 37006 198 v12.length),(9100005,.obj (.map false .i64 (D1 (λ(v_:Az)=>((Yr v_):AV)) v25)))] (.tuple []) [(Z1 v29.1.Params v29.1.Ret v29.1.Blocks v29.2.1 v29.2.2.1 9100005 v29.2.2.2),(L3 37006 198 v29.2.2.2.length),(9100005,.obj (.map false .i64 (D1 (λ(v_:Az)=>((Yr v_):AV)) v25)))]:=
 sG Tryz.func151 λΓ q=>Ae q NK Je (tL q h NK Je (λu (i1,l2,i3,l4,i5,l6,l7)=>(Cl u [(18,(Z6 i1))] (bU l2 i3 l4 i5 l6 l7 l7.length))) (λu (l8,i9,l10,i11,l12,l13)=>aG Γ (.exit 0) (M2 [] Je u [] (bU l8 i9 l10 i11 l12 l13 l13.length))) (λ⟨i1,l2,i3,l4,i5,l6,l7⟩ y h=>Ae q [0,16,17,18,19] Je (gC h (λh=>tB h λx98 y98 h=>gJ y98 (λ(l14,i15,l16,i17,l18,l19)=>aG Γ .normal (⟨[(0,U1),(16,(WV v0.Blocks)),(17,(FA v0.Blocks.length)),(18,(Z6 i1))],(Z11 l14 i15 l16 i17 l18 l19 l19.length (xD v25)),[]⟩:St)) (λy h=>tV q VC Uf h λh=>Ae q gD Uf (tL q h gD Uf (λu (i21,l22,i23,l24,i25,l26,l27)=>(Cl u [(26,(Z6 i21))] (bU l22 i23 l24 i25 l26 l27 l27.length))) (λu (l28,i29,l30,i31,l32,l33)=>aG Γ (.exit 2) (M2 VC Uf u [] (bU l28 i29 l30 i31 l32 l33 l33.length))) (λ⟨i21,l22,i23,l24,i25,l26,l27⟩ y h=>Ae q [0,2,3,16,17,18,24,25,26,27] Uf (gC h (λh=>tV q [0,2,3,5,16,17,18,24,25,26] LF h λh=>Ae q ls LF (tL q h ls LF (λu (i35,l36,i37,l38,i39,l40,l41)=>(Cl u [(33,(Z6 i35))] (bU l36 i37 l38 i39 l40 l41 l41.length))) (λu (l42,i43,l44,i45,l46,l47)=>aG Γ (.exit 4) (M2 gD Uf u [] (bU l42 i43 l44 i45 l46 l47 l47.length))) (λ⟨i35,l36,i37,l38,i39,l40,l41⟩ y h=>Ae q [0,2,3,5,16,17,18,24,25,26,31,32,33,34] LF (gC h (λh=>tV q [0,2,3,5,6,7,16,17,18,24,25,26,31,32,33] LF h λh=>tB h λx49 y49 h=>tC h λc50_ h=>tB h λx51 y51 h=>tB h λx52 y52 h=>tT q ls LF [(pN x49),(Z80 x51.1 x51.2.1.Params x51.2.1.Ret x51.2.1.Blocks x51.2.2.1 x51.2.2.2.1 x51.2.2.2.2 x51.2.2.2.2.length (xD v25)),(Z37 x52.1.Params x52.1.Ret x52.1.Blocks x52.2.1 x52.2.2.1 x52.2.2.2 x52.2.2.2.length (xD v25))] (c4 (M7 y49) c50_ (Oh y51) (Lr y52)) (Ae q ls LF (tN h))) λh=>tS h (gO (A2 (A5 gD Uf q))))) λx53 h=>(match x53,h with|⟨l42,i43,l44,i45,l46,l47⟩,h=>gA (Ae q gD Uf (tN h))))) λh=>tS h (gO (A2 (A5 VC Uf q))))) λx55 h=>(match x55,h with|⟨l28,i29,l30,i31,l32,l33⟩,h=>gA (Ae q gE Uf (tL q h gE Uf (λu (i57,l58,i59,l60,i61,l62,l63)=>(Cl u [(56,(Z6 i57))] (bU l58 i59 l60 i61 l62 l63 l63.length))) (λu (l64,i65,l66,i67,l68,l69)=>aG Γ (.exit 6) (M2 VC Uf u [] (bU l64 i65 l66 i67 l68 l69 l69.length))) (λ⟨i57,l58,i59,l60,i61,l62,l63⟩ y h=>Ae q [0,2,3,16,17,18,54,55,56,57] Uf (gC h (λh=>tV q [0,2,3,8,9,16,17,18,54,55,56] bE h λh=>tB h λx71 y71 h=>tT q lr bE [(mi x71)] (c1 (YB y71)) (tL q h lr bE (λu (i72,l73,i74,l75,i76,l77,l78)=>(Cl u [(64,(Z6 i72))] (bU l73 i74 l75 i76 l77 l78 l78.length))) (λu (l79,i80,l81,i82,l83,l84)=>aG Γ (.exit 8) (M2 gE Uf u [] (bU l79 i80 l81 i82 l83 l84 l84.length))) (λ⟨i72,l73,i74,l75,i76,l77,l78⟩ y h=>Ae q [0,2,3,8,9,16,17,18,54,55,56,62,63,64,65] bE (gC h (λh=>tV q [0,2,3,8,9,10,11,16,17,18,54,55,56,62,63,64] [3,9,11,30000,37006,9100005] h λh=>tC h λc86_ h=>tB h λx87 y87 h=>tT q lr bE [(Z37 x87.1.Params x87.1.Ret x87.1.Blocks x87.2.1 x87.2.2.1 x87.2.2.2 x87.2.2.2.length (xD v25))] (c2 c86_ (Lr y87)) (Ae q lr bE (tN h))) λh=>tS h (gO (A2 (A5 gE Uf q))))) λx88 h=>(match x88,h with|⟨l79,i80,l81,i82,l83,l84⟩,h=>gA (Ae q gE Uf (tN h))))) λh=>tS h (gO (A2 (A5 VC Uf q))))) λx90 h=>(match x90,h with|⟨l64,i65,l66,i67,l68,l69⟩,h=>gA (tW q [0,2,3,16,17,18,84] Uf [0,2,3,16,17,18,84,85] Uf (gC h (λh=>tB h λx92 y92 h=>tB h λx93 y93 h=>tB h λx94 y94 h=>tT q NK Je [(pN x92),(Z80 x93.1 x93.2.1.Params x93.2.1.Ret x93.2.1.Blocks x93.2.2.1 x93.2.2.2.1 x93.2.2.2.2 x93.2.2.2.2.length (xD v25)),(Z37 x94.1.Params x94.1.Ret x94.1.Blocks x94.2.1 x94.2.2.1 x94.2.2.2 x94.2.2.2.length (xD v25))] (c3 (M7 y92) (Oh y93) (Lr y94)) (tS h (gK (A2 Gj)))) λh=>Ae q [0,2,3,16,17,18,101] Uf (gC h (λh=>tB h λx95 y95 h=>tB h λx96 y96 h=>tB h λx97 y97 h=>tT q NK Je [(pN x95),(Z80 x96.1 x96.2.1.Params x96.2.1.Ret x96.2.1.Blocks x96.2.2.1 x96.2.2.2.1 x96.2.2.2.2 x96.2.2.2.2.length (xD v25)),(Z37 x97.1.Params x97.1.Ret x97.1.Blocks x97.2.1 x97.2.2.1 x97.2.2.2 x97.2.2.2.length (xD v25))] (c3 (M7 y95) (Oh y96) (Lr y97)) (tS h (gK (A2 Gj)))) λh=>tS h (gK (A2 (A5 NK Je q)))))))))))) (match x98,h with|⟨l14,i15,l16,i17,l18,l19⟩,h=>gA (Ae q NK Je (tN h)))) λh=>tS h (gO (A2 (A5 [] Je q))))) λx100 h=>(match x100,h with|⟨l8,i9,l10,i11,l12,l13⟩,h=>nI (λst' hl101=>tS h (gK (e:=.normal) (Hu GM hl101)))))
def Mb(aY:Be)(a3:TFunc)(a5:Int)(a7:An)(a8:List Pw)(aC:List Be):Option EH:=
 (some ((Ks a8 aY.v),a3,a5,a7,aC))
variable{v30:Be}
theorem Xa(h:Mb v30 v0 v1 v2 v25 v12=some v23):sP 152 [U1,(.agg (O5 v30))] [(Z1 v0.Params v0.Ret v0.Blocks v1 v2 9100005 v12),(L3 37006 198 v12.length),(9100005,.obj (.map false .i64 (D1 (λ(v_:Az)=>((Yr v_):AV)) v25)))] (.bool v23.1) [(Z1 v23.2.1.Params v23.2.1.Ret v23.2.1.Blocks v23.2.2.1 v23.2.2.2.1 9100005 v23.2.2.2.2),(L3 37006 198 v23.2.2.2.2.length),(9100005,.obj (.map false .i64 (D1 (λ(v_:Az)=>((Yr v_):AV)) v25)))]:=
 sG Tryz.func152 λΓ q=>Ae q M3 Uf (gR q [6] Je [(14,(.tuple [(xG v25 v30.v),(.bool (Ks v25 v30.v))]))] [] (c1 (show(AVle (.tuple [Mw (.agg [Jf,Jf,Jf,Jf]) (D1 (λ(v_:Az)=>((Yr v_):AV)) v25) v30.v,.bool (Ks (D1 (λ(v_:Az)=>((Yr v_):AV)) v25) v30.v)]) (.tuple [(xG v25 v30.v),(.bool (Ks v25 v30.v))])) from(fE (f:=(λ(v_:Az)=>((Yr v_):AV))) (l:=v25) (AVle.refl _) rfl))) (Ae q [4] Je (tS h (Bm GM))))
def N8(aY:Be)(a3:TFunc)(a5:Int)(a7:An)(a8:List Pw)(aC:List Be):Option EH:=
 (some (((((Mw (default:Az) a8 aY.v).shape.1:Int)==aY.shape.1)&&((((Mw (default:Az) a8 aY.v).shape.2:Int)==aY.shape.2)&&true)),a3,a5,a7,aC))
theorem BH(h:N8 v30 v0 v1 v2 v25 v12=some v23):sP 153 [U1,(.agg (O5 v30))] [(Z1 v0.Params v0.Ret v0.Blocks v1 v2 9100005 v12),(L3 37006 198 v12.length),(9100005,.obj (.map false .i64 (D1 (λ(v_:Az)=>((Yr v_):AV)) v25)))] (.bool v23.1) [(Z1 v23.2.1.Params v23.2.1.Ret v23.2.1.Blocks v23.2.2.1 v23.2.2.2.1 9100005 v23.2.2.2.2),(L3 37006 198 v23.2.2.2.2.length),(9100005,.obj (.map false .i64 (D1 (λ(v_:Az)=>((Yr v_):AV)) v25)))]:=
 sG Tryz.func153 λΓ q=>Ae q M3 Uf (gR q [4] Je [(11,(xG v25 v30.v))] [] (c1 (show(AVle (Mw (.agg [Jf,Jf,Jf,Jf]) (D1 (λ(v_:Az)=>((Yr v_):AV)) v25) v30.v) (xG v25 v30.v)) from(b6 (f:=(λ(v_:Az)=>((Yr v_):AV))) (l:=v25) (AVle.refl _) rfl))) (tS h (Bm GM)))
def Cn(aO:An)(aM:Int):Int->Option (LR Int (Unit ⊕ Int)):=
 λ(i1:Int)=>(bif (decide (i1<(aO.length:Int))) then(Ax (As i1 aO.length) (bif (aM==(aO.getD i1.toNat 0)) then(some (.done (.inr i1))) else(some (.next (w64 (i1+1)))))) else(some (.done (.inl ()))))
def Yn(Γ:Hx)(aO:An)(aM:Int)(r:Int):Exit->St->Prop:=fK Tryz.prog Γ Tryz.f163.results.toList [] (.int .i64 r) []
def Eo(aO:An)(aM:Int):Option Int:=
 ((Ad (Cn aO aM) (0:Int)).bind (λx3=>(match x3 with|(.inl _)=>(some (-1:Int))|(.inr r5)=>(some r5))))
theorem Qn(h:Eo v2 v1=some v11):sP 163 [(Z8 v2),(Z6 v1)] [] (.int .i64 v11) []:=
 sG Tryz.func163 λΓ q=>tW q Gf [] Zx [] (tL q h Zx [] (λu i1=>(Cl u [(8,(Z6 i1))] [])) (λu x_=>match x_ with|(.inl _)=>aG Γ (.exit 0) (⟨[],[],[]⟩:St)|(.inr r_)=>aR (Yn Γ v2 v1 r_)) (λi1 y h=>Ae q kL [] (gC h (λh=>Ae q kM [] (tV q jz [] h λh=>gC h (λh=>Ae q [4] [] (tS h (gO (L2 (Hu [] (Le.refl _ _)))))) λh=>Ae q Zx [] (tN h))) λh=>tS h (gO (A2 (A5 [] [] q))))) λx3 h=>(match x3,h with | .inl _,h=>gA (Ae q [4] [] (tS h (Bm []))) | .inr r5,h=>gAr (λst' hk=>tS h (gK hk))))
def Ng(aA:An)(aN:Int):Option Bool:=
 (some (bif (decide ((0:Int)<=aN)) then(decide (aN<(aA.length:Int))) else false))
theorem DJ(h:Ng v2 v1=some v3):sP 257 [(Z8 v2),(Z6 v1)] [] (.bool v3) []:=
 sG Tryz.func257 λΓ q=>Ae q Gf [] (tU q [4] [] (Sg ((decide ((0:Int)<=v1))==true) (c1 (Lz (decide ((0:Int)<=v1))))) (tS h (Bm [])))
def Dm(aA:An)(aaG:Int)(aaA:Int):IK->Option (LR (Int×An) (An ⊕ (Bool×An))):=
 λ((i1,l2):IK)=>(bif (i1 !=aaA) then(Ax (As i1 l2.length) (bif ((l2.getD i1.toNat 0)!=0) then(Ax (As i1 l2.length) (some (.done (.inr (((l2.getD i1.toNat 0)!=(w64 (aaG+1))),l2))))) else(Ax (As i1 aA.length) ((Ng aA (aA.getD i1.toNat 0)).bind λx7=>(bif (!x7) then(some (.done (.inr (false,l2)))) else(Ax (As i1 l2.length) (Ax (As i1 aA.length) (some (.next ((aA.getD i1.toNat 0),(l2.set i1.toNat (w64 (aaG+1))))))))))))) else(some (.done (.inl l2))))
def dS(Γ:Hx)(aA:An)(aaS:An)(aaG:Int)(aaA:Int)(r:sc):Exit->St->Prop:=fK Tryz.prog Γ Tryz.f256.results.toList [(Z4 34001 aaS)] (.bool r.1) [(Z4 34001 r.2)]
def Wk(aA:An)(aaS:An)(aaG:Int)(aaA:Int):Option sc:=
 ((Ad (Dm aA aaG aaA) (aaG,aaS)).bind (λx10=>(match x10 with|(.inl l3)=>(some (true,l3))|(.inr r12)=>(some r12))))
variable{v31:sc}
theorem cE(h:Wk v2 v17 v1 v11=some v31):sP 256 [(Z8 v2),(.vsl 34001 v17.length),(Z6 v1),(Z6 v11)] [(Z4 34001 v17)] (.bool v31.1) [(Z4 34001 v31.2)]:=
 sG Tryz.func256 λΓ q=>tW q [0,1,2,3] [34001] [0,1,2,3,9] [34001] (Ae q dF [34001] (tL q h dF [34001] (λu (i1,l2)=>(Cl u [(1,(.vsl 34001 l2.length)),(10,(Z6 i1))] [(Z4 34001 l2)])) (λu x_=>match x_ with|(.inl l3)=>aG Γ (.exit 0) (⟨[],[(Z4 34001 l3)],[]⟩:St)|(.inr r_)=>aR (dS Γ v2 v17 v1 v11 r_)) (λ⟨i1,l2⟩ y h=>Ae q [0,1,3,9,10,16] [34001] (gC h (λh=>tC h λc4_ h=>tU q [0,1,3,9,10,25] [34001] (c2 c4_ (Eq.refl l2.length)) (gC h (λh=>tC h λc5_ h=>tU q [8] [34001] (c2 c5_ (Eq.refl l2.length)) (tS h (gO (L2 (Hu kF (Le.refl _ _)))))) λh=>tC h λc6_ h=>tB h λx7 y7 h=>tT q [0,1,3,9,10,38] [34001] [(Z7 x7)] (c2 c6_ (DJ y7)) (gC h (λh=>Ae q [8] [34001] (tS h (gO (L2 (Hu kF (Le.refl _ _)))))) λh=>tC h λc8_ h=>tU q dF [34001] (c2 c8_ (Eq.refl l2.length)) (Mm (Le.trans (V7 34001 (show ∀ k_,k_<l2.length->AVleL ((λi_=>AV.eraseAll (λn_=>B8 n_ [34001]) ((Fk (λi=>Aj (l2.getD i 0)) i1.toNat 0 [(.int .i64 (w64 (v1+1)))]) i_)) k_) ((λi=>Aj ((l2.set i1.toNat (w64 (v1+1))).getD i 0)) k_) from(Bk (D6 ..).symm (λk_ hk_=>(Bv (AV.eraseAll (λn_=>B8 n_ [34001])) ((Hk (λ_ _=>rfl) (Ke c8_) rfl) k_ hk_)).trans rfl)))) (V8 (λ(k_:Nat) u=>(Cl u [(1,(.vsl 34001 k_))] [(34001,.arr 1 3 k_ (λi=>Aj ((l2.set i1.toNat (w64 (v1+1))).getD i 0)))])) (show l2.length=(l2.set i1.toNat (w64 (v1+1))).length from(D6 ..).symm))) (tV q dF [34001] h λh=>tN h))))) λh=>tS h (gO (A2 (A5 [] [34001] q))))) λx10 h=>(match x10,h with | .inl l3,h=>gA (Ae q [8] [34001] (tS h (Bm kF))) | .inr r12,h=>gAr (λst' hk=>tS h (gK hk)))))
def G2(aA:An)(x1:Int):IK->Option (LR (Int×An) (Unit ⊕ Bool)):=
 λ((i3,l4):IK)=>(bif (decide (i3<(aA.length:Int))) then(Ax (As i3 aA.length) ((bif (((aA.getD i3.toNat 0)!=-2)==true) then Wk aA l4 i3 x1 else some (false,[])).bind λx6=>(Ax ((((aA.getD i3.toNat 0)!=-2)==true)=true->(l4.length=x6.2.length)) (bif (bif ((aA.getD i3.toNat 0)!=-2) then(!x6.1) else false) then(some (.done (.inr false))) else(some (.next ((w64 (i3+1)),(bif (((aA.getD i3.toNat 0)!=-2)==true) then x6.2 else l4)))))))) else(some (.done (.inl ()))))
def bK(Γ:Hx)(aA:An)(r:Bool):Exit->St->Prop:=fK Tryz.prog Γ Tryz.f247.results.toList [] (.bool r) []
def tQ(aA:An)(i3:Int):=(((aA.getD i3.toNat 0)!=-2)==true)
def Ut(aA:An):Option Bool:=
 ((Eo aA (-1:Int)).bind λx1=>(bif (decide (x1<0)) then(some false) else(Ax (0<=(aA.length:Int)/\(aA.length:Int)<=(aA.length:Int)/\(aA.length:Int)<=(room:Int)) ((Ad (G2 aA x1) ((0:Int),(List.replicate (aA.length:Int).toNat (0:Int)))).bind (λx8=>(match x8 with|(.inl _)=>(some true)|(.inr r10)=>(some r10)))))))
theorem XW(h:Ut v2=some v3):sP 247 [(Z8 v2)] [] (.bool v3) []:=
 sG Tryz.func247 λΓ q=>Ae q [0] [] (tB h λx1 y1 h=>tT q M3 [] [(EZ x1)] (c1 (Qn y1)) (Ae q [0,3,9] [] (gC h (λh=>Ae q [2] [] (tS h (Bm []))) λh=>tV q Ue [12] h λh=>by exact Mm (Le.trans (V7 12 (show ∀ k_,k_<((v2.length:Int).toNat)->AVleL ((λi_=>AV.eraseAll (λn_=>B8 n_ [12]) ((λ_=>[Jf]) i_)) k_) ((λi=>Aj ((List.replicate (v2.length:Int).toNat (0:Int)).getD i 0)) k_) from(λk hk=>Ry (e:=Aj) (d:=(0:Int)) (.cons (AVle.refl _) .nil) _ k (R8 hk)))) (V8 (λ(k_:Nat) u=>(Cl u [(4,(.vsl 12 k_))] [(12,.arr 1 3 k_ (λi=>Aj ((List.replicate (v2.length:Int).toNat (0:Int)).getD i 0)))])) (show(v2.length:Int).toNat=(List.replicate (v2.length:Int).toNat (0:Int)).length from(Ty ..).symm))) (Ae q kD [12] (tL q h kD [12] (λu (i3,l4)=>(Cl u [(4,(.vsl 12 l4.length)),(15,(Z6 i3))] [(Z4 12 l4)])) (λu x_=>match x_ with|(.inl _)=>aG Γ (.exit 0) (⟨[],[],[]⟩:St)|(.inr r_)=>aR (bK Γ v2 r_)) (λ⟨i3,l4⟩ y h=>Ae q [0,3,4,14,15,16] [12] (gC h (λh=>Ae q [0,3,4,5,14,15] [12] (tC h λc5_ h=>tB h λx6 y6 h=>tC h λc7_ h=>tT q [0,3,4,14,15,30] [12] [⟨[(12,34001)],[],(.bool x6.1),[(Z4 34001 x6.2)],[],[]⟩] (ci c5_ (JT (tQ v2 i3) (c3 (λ(hg:(tQ v2 i3)=true)=>(cE (A6 hg y6))) (gI (tQ v2 i3)) (Lz ((v2.getD i3.toNat 0)!=-2))))) (Mm (Le.trans (V7 12 (show ∀ k_,k_<(bif (tQ v2 i3) then x6.2.length else l4.length)->AVleL ((λi_=>AV.eraseAll (λn_=>B8 n_ [12]) ((λi=>bif (tQ v2 i3) then(λi=>Aj (x6.2.getD i 0)) i else(λi=>Aj (l4.getD i 0)) i) i_)) k_) ((λi=>Aj ((bif (tQ v2 i3) then x6.2 else l4).getD i 0)) k_) from(Bk kp (λk_ hk_=>(Bv (AV.eraseAll (λn_=>B8 n_ [12])) ((λ_ _=>u7) k_ hk_)).trans rfl)))) (Le.trans (V8 (λ(k_:Nat) u=>(Cl u [] [(12,.arr 1 3 k_ (λi=>Aj ((bif (tQ v2 i3) then x6.2 else l4).getD i 0)))])) (show(bif (tQ v2 i3) then x6.2.length else l4.length)=(bif (tQ v2 i3) then x6.2 else l4).length from kp)) (V8 (λ(k_:Nat) u=>(Cl u [(4,(.vsl 12 k_))] [])) (show l4.length=(bif (tQ v2 i3) then x6.2 else l4).length from(u9 c7_))))) (gC h (λh=>Ae q [2] [] (tS h (gO (L2 (Hu [] (Le.refl _ _)))))) λh=>Ae q kD [12] (tN h))))) λh=>tS h (gO (A2 (A5 [] [] q))))) λx8 h=>(match x8,h with | .inl _,h=>gA (Ae q [2] [] (tS h (Bm []))) | .inr r10,h=>gAr (λst' hk=>tS h (gK hk))))))))
def Oa(aA:An)(aN:Int):Option Bool:=
 ((Ng aA aN).bind λx1=>(Ax ((x1==true)=true->(As aN aA.length)) (some (bif x1 then((aA.getD aN.toNat 0)!=-2) else false))))
theorem AK(h:Oa v2 v1=some v3):sP 248 [(Z8 v2),(Z6 v1)] [] (.bool v3) []:=
 sG Tryz.func248 λΓ q=>Ae q Gf [] (tB h λx1 y1 h=>tC h λc2_ h=>tT q [4] [] [(Z7 x1)] (ci (DJ y1) (Ju (x1==true) (ci c2_ (Ju (x1==true) (c1 (Lz x1)))))) (tS h (Bm [])))
def Wj(aA:An)(a9:Int)(aK:Int):Option Bool:=
 ((Ut aA).bind λx1=>((bif (x1==true) then Oa aA a9 else some false).bind λx2=>((bif ((bif x1 then x2 else false)==true) then Oa aA aK else some false).bind λx3=>(some (bif (bif x1 then x2 else false) then x3 else false)))))
theorem cD(h:Wj v2 v1 v11=some v3):sP 211 [(Z8 v2),(Z6 v1),(Z6 v11)] [] (.bool v3) []:=
 sG Tryz.func211 λΓ q=>Ae q WF [] (tB h λx1 y1 h=>tB h λx2 y2 h=>tB h λx3 y3 h=>tT q [6] [] [(Z7 x1),(Z7 x2),(Z7 x3)] (ci (XW y1) (Ju (x1==true) (YV (λ(hg:(x1==true)=true)=>(AK (A6 hg y2))) (Lz x1) (Ju ((bif x1 then x2 else false)==true) (c2 (λ(hg:((bif x1 then x2 else false)==true)=true)=>(AK (A6 hg y3))) (Lz (bif x1 then x2 else false))))))) (tS h (Bm [])))
def Y6(aA:An)(a9:Int)(aK:Int):Option Bool:=
 ((Wj aA a9 aK).bind λx1=>((bif (x1==true) then Sx aA a9 aK else some (0:Int)).bind λx2=>(some (bif x1 then(x2==a9) else false))))
theorem fO(h:Y6 v2 v1 v11=some v3):sP 188 [(Z8 v2),(Z6 v1),(Z6 v11)] [] (.bool v3) []:=
 sG Tryz.func188 λΓ q=>Ae q WF [] (tB h λx1 y1 h=>tB h λx2 y2 h=>tT q [6] [] [(Z7 x1),(EZ x2)] (ci (cD y1) (Sg (x1==true) (ci (λ(hg:(x1==true)=true)=>(OP (A6 hg y2))) (Ju (x1==true) (c1 (Lz x1)))))) (tS h (Bm [])))
def Im(aY:Be)(a3:TFunc)(a5:Int)(a7:An)(a8:List Pw)(aC:List Be):Option EH:=
 (bif (((Mw (default:Az) a8 aY.v).place.block:Int)==aY.place.block) then(some ((decide (((Mw (default:Az) a8 aY.v).place.at_:Int)<aY.place.at_)),a3,a5,a7,aC)) else((Y6 a7 ((Mw (default:Az) a8 aY.v).place.block) aY.place.block).bind λx1=>(some (x1,a3,a5,a7,aC))))
theorem W9(h:Im v30 v0 v1 v2 v25 v12=some v23):sP 154 [U1,(.agg (O5 v30))] [(Z1 v0.Params v0.Ret v0.Blocks v1 v2 9100005 v12),(L3 37006 198 v12.length),(9100005,.obj (.map false .i64 (D1 (λ(v_:Az)=>((Yr v_):AV)) v25)))] (.bool v23.1) [(Z1 v23.2.1.Params v23.2.1.Ret v23.2.1.Blocks v23.2.2.1 v23.2.2.2.1 9100005 v23.2.2.2.2),(L3 37006 198 v23.2.2.2.2.length),(9100005,.obj (.map false .i64 (D1 (λ(v_:Az)=>((Yr v_):AV)) v25)))]:=
 sG Tryz.func154 λΓ q=>Ae q M3 Uf (gR q WH LF [(12,(xG v25 v30.v))] [] (c1 (show(AVle (Mw (.agg [Jf,Jf,Jf,Jf]) (D1 (λ(v_:Az)=>((Yr v_):AV)) v25) v30.v) (xG v25 v30.v)) from(b6 (f:=(λ(v_:Az)=>((Yr v_):AV))) (l:=v25) (AVle.refl _) rfl))) (Ae q [0,3,5,19] LF (gC h (λh=>Ae q [4] Je (tS h (Bm GM))) λh=>tB h λx1 y1 h=>tT q [4] Je [(Z7 x1)] (c1 (fO y1)) (tS h (Bm GM)))))
abbrev zx:=(LR (Int×An×Int×List Ab×Int×An×List Be) ((An×Int×List Ab×Int×An×List Be) ⊕ (An×Int×List Ab×Int×An×List Be)))
def Ft(a8:List Pw)(x8:wv):Uc->Option zx:=
 λ((i9,l10,i11,l12,i13,l14,l15):Uc)=>(bif (decide (i9<(x8.2.2.2.length:Int))) then(Ax (As i9 x8.2.2.2.length) ((Mb (x8.2.2.2.getD i9.toNat default) (⟨l10,i11,l12⟩:TFunc) i13 l14 a8 l15).bind λx29=>(bif (!x29.1) then(some (.done (.inr (x29.2.1.Params,x29.2.1.Ret,x29.2.1.Blocks,x29.2.2.1,x29.2.2.2.1,x29.2.2.2.2)))) else(some (.next ((w64 (i9+1)),x29.2.1.Params,x29.2.1.Ret,x29.2.1.Blocks,x29.2.2.1,x29.2.2.2.1,x29.2.2.2.2)))))) else(some (.done (.inl (l10,i11,l12,i13,l14,l15)))))
def Fu(a8:List Pw)(l21:List Be):Uc->Option zx:=
 λ((i32,l33,i34,l35,i36,l37,l38):Uc)=>(bif (decide (i32<(l21.length:Int))) then(Ax (As i32 l21.length) ((N8 (l21.getD i32.toNat default) (⟨l33,i34,l35⟩:TFunc) i36 l37 a8 l38).bind λx52=>(bif (!x52.1) then(some (.done (.inr (x52.2.1.Params,x52.2.1.Ret,x52.2.1.Blocks,x52.2.2.1,x52.2.2.2.1,x52.2.2.2.2)))) else(some (.next ((w64 (i32+1)),x52.2.1.Params,x52.2.1.Ret,x52.2.1.Blocks,x52.2.2.1,x52.2.2.2.1,x52.2.2.2.2)))))) else(some (.done (.inl (l33,i34,l35,i36,l37,l38)))))
def Fv(a8:List Pw)(l44:List Be):Uc->Option zx:=
 λ((i55,l56,i57,l58,i59,l60,l61):Uc)=>(bif (decide (i55<(l44.length:Int))) then(Ax (As i55 l44.length) ((Im (l44.getD i55.toNat default) (⟨l56,i57,l58⟩:TFunc) i59 l60 a8 l61).bind λx75=>(bif (!x75.1) then(some (.done (.inr (x75.2.1.Params,x75.2.1.Ret,x75.2.1.Blocks,x75.2.2.1,x75.2.2.2.1,x75.2.2.2.2)))) else(some (.next ((w64 (i55+1)),x75.2.1.Params,x75.2.1.Ret,x75.2.1.Blocks,x75.2.2.1,x75.2.2.2.1,x75.2.2.2.2)))))) else(some (.done (.inl (l56,i57,l58,i59,l60,l61)))))
def Qj :Uc->Option (LR (Int×An×Int×List Ab×Int×An×List Be) (Int×TFunc×Int×An×List Be)):=
 λ(s_:Uc)=>match s_ with|(i1,l2,i3,l4,i5,l6,l7)=>(some (.done (i1,(⟨l2,i3,l4⟩:TFunc),i5,l6,l7)))
def CC(Γ:Hx)(a3:TFunc)(a5:Int)(a7:An)(a8:List Pw)(aC:List Be)(r:oC):Exit->St->Prop:=fK Tryz.prog Γ Tryz.f91.results.toList [(Z1 a3.Params a3.Ret a3.Blocks a5 a7 9100005 aC),(L3 37006 198 aC.length),(9100005,.obj (.map false .i64 (D1 (λ(v_:Az)=>((Yr v_):AV)) a8)))] (Z6 r.1) [(Z1 r.2.1.Params r.2.1.Ret r.2.1.Blocks r.2.2.1 r.2.2.2.1 9100005 r.2.2.2.2),(L3 37006 198 r.2.2.2.2.length),(9100005,.obj (.map false .i64 (D1 (λ(v_:Az)=>((Yr v_):AV)) a8)))]
def Q99(a8:List Pw):=(D1 (λ(v_:Az)=>((Yr v_):AV)) a8)
def K2(a3:TFunc)(a5:Int)(a7:An)(a8:List Pw)(aC:List Be):Option oC:=
 ((Ua (S:=Uc) (X:=oC) ((Ik a3 a5 a7 a8 aC).bind λx8=>((Ad (Ft a8 x8) ((0:Int),x8.1.Params,x8.1.Ret,x8.1.Blocks,x8.2.1,x8.2.2.1,x8.2.2.2)).bind (λx30=>(match x30 with|(.inl (l16,i17,l18,i19,l20,l21))=>((Ad (Fu a8 l21) ((0:Int),l16,i17,l18,i19,l20,l21)).bind (λx53=>(match x53 with|(.inl (l39,i40,l41,i42,l43,l44))=>((Ad (Fv a8 l44) ((0:Int),l39,i40,l41,i42,l43,l44)).bind (λx76=>(match x76 with|(.inl (l62,i63,l64,i65,l66,l67))=>(some (.done ((0:Int),(⟨l62,i63,l64⟩:TFunc),i65,l66,l67)))|(.inr (l68,i69,l70,i71,l72,l73))=>(some (.next ((7:Int),l68,i69,l70,i71,l72,l73))))))|(.inr (l45,i46,l47,i48,l49,l50))=>(some (.next ((6:Int),l45,i46,l47,i48,l49,l50))))))|(.inr (l22,i23,l24,i25,l26,l27))=>(some (.next ((7:Int),l22,i23,l24,i25,l26,l27))))))) Qj).bind (λx81=>(some x81)))
theorem BJ(h:K2 v0 v1 v2 v25 v12=some v13):sP 91 [U1] [(Z1 v0.Params v0.Ret v0.Blocks v1 v2 9100005 v12),(L3 37006 198 v12.length),(9100005,.obj (.map false .i64 (D1 (λ(v_:Az)=>((Yr v_):AV)) v25)))] (Z6 v13.1) [(Z1 v13.2.1.Params v13.2.1.Ret v13.2.1.Blocks v13.2.2.1 v13.2.2.2.1 9100005 v13.2.2.2.2),(L3 37006 198 v13.2.2.2.2.length),(9100005,.obj (.map false .i64 (D1 (λ(v_:Az)=>((Yr v_):AV)) v25)))]:=
 sG Tryz.func91 λΓ q=>Ae q [0] Je (tB h λx81 y81 h=>gS y81 (λ(s_:Uc)=>match s_ with|(i1,l2,i3,l4,i5,l6,l7)=>0) (λ(s_:Uc)=>match s_ with|(i1,l2,i3,l4,i5,l6,l7)=>(⟨[(4,(Z6 i1))],(Z11 l2 i3 l4 i5 l6 l7 l7.length (Q99 v25)),[]⟩:St)) (λr_=>aR (CC Γ v0 v1 v2 v25 v12 r_)) (λy h=>tB h λx8 y8 h=>tT q [0] Je [(Z37 x8.1.Params x8.1.Ret x8.1.Blocks x8.2.1 x8.2.2.1 x8.2.2.2 x8.2.2.2.length (Q99 v25))] (c1 (W7 y8)) (tW q M3 Uf M3 Uf (Ae q Xi Je (gU 3 (Ae q dJ Je (dQ true (tU q kU Xn (c1 (show(As (0:Int) 3) from(by decide))) (tW q kE Xn LG Xn (tL q h LG Xn (λu (i9,l10,i11,l12,i13,l14,l15)=>(Cl u [(32,(Z6 i9))] (bU l10 i11 l12 i13 l14 l15 l15.length))) (λu x_=>match x_ with|(.inl (l16,i17,l18,i19,l20,l21))=>aG Γ (.exit 2) (M2 Xi Je u [] (bU l16 i17 l18 i19 l20 l21 l21.length))|(.inr (l22,i23,l24,i25,l26,l27))=>aG Γ (.goto 0) (M2 [4] Je u [] (bU l22 i23 l24 i25 l26 l27 l27.length))) (λ⟨i9,l10,i11,l12,i13,l14,l15⟩ y h=>Ae q jj Xn (gC h (λh=>tV q jl jo h λh=>tB h λx29 y29 h=>tT q jk Xn [(yc x29.1 x29.2.1.Params x29.2.1.Ret x29.2.1.Blocks x29.2.2.1 x29.2.2.2.1 x29.2.2.2.2 x29.2.2.2.2.length (Q99 v25))] (c1 (Xa y29)) (gC h (λh=>tS h (gO (A2 (A5 [4] Je q)))) λh=>Ae q LG Xn (tN h))) λh=>tS h (gO (A2 (A5 Xi Je q))))) λx30 h=>(match x30,h with | .inl ⟨l16,i17,l18,i19,l20,l21⟩,h=>gA (tW q Xi Je dJ Je (dQ true (tU q kU Xn (c1 (show(As (1:Int) 3) from(by decide))) (tW q kE Xn LG Xn (tL q h LG Xn (λu (i32,l33,i34,l35,i36,l37,l38)=>(Cl u [(32,(Z6 i32))] (bU l33 i34 l35 i36 l37 l38 l38.length))) (λu x_=>match x_ with|(.inl (l39,i40,l41,i42,l43,l44))=>aG Γ (.exit 2) (M2 Xi Je u [] (bU l39 i40 l41 i42 l43 l44 l44.length))|(.inr (l45,i46,l47,i48,l49,l50))=>aG Γ (.goto 0) (M2 [4] Je u [] (bU l45 i46 l47 i48 l49 l50 l50.length))) (λ⟨i32,l33,i34,l35,i36,l37,l38⟩ y h=>Ae q jj Xn (gC h (λh=>tV q jl jo h λh=>tB h λx52 y52 h=>tT q jk Xn [(yc x52.1 x52.2.1.Params x52.2.1.Ret x52.2.1.Blocks x52.2.2.1 x52.2.2.2.1 x52.2.2.2.2 x52.2.2.2.2.length (Q99 v25))] (c1 (BH y52)) (gC h (λh=>tS h (gO (A2 (A5 [4] Je q)))) λh=>Ae q LG Xn (tN h))) λh=>tS h (gO (A2 (A5 Xi Je q))))) λx53 h=>(match x53,h with | .inl ⟨l39,i40,l41,i42,l43,l44⟩,h=>gA (tW q Xi Je dJ Je (dQ true (tU q kU Xn (c1 (show(As (2:Int) 3) from(by decide))) (tW q kE Xn LG Xn (tL q h LG Xn (λu (i55,l56,i57,l58,i59,l60,l61)=>(Cl u [(32,(Z6 i55))] (bU l56 i57 l58 i59 l60 l61 l61.length))) (λu x_=>match x_ with|(.inl (l62,i63,l64,i65,l66,l67))=>aG Γ (.exit 2) (M2 Xi Je u [] (bU l62 i63 l64 i65 l66 l67 l67.length))|(.inr (l68,i69,l70,i71,l72,l73))=>aG Γ (.goto 0) (M2 [4] Je u [] (bU l68 i69 l70 i71 l72 l73 l73.length))) (λ⟨i55,l56,i57,l58,i59,l60,l61⟩ y h=>Ae q jj Xn (gC h (λh=>tV q jl jo h λh=>tB h λx75 y75 h=>tT q jk Xn [(yc x75.1 x75.2.1.Params x75.2.1.Ret x75.2.1.Blocks x75.2.2.1 x75.2.2.2.1 x75.2.2.2.2 x75.2.2.2.2.length (Q99 v25))] (c1 (W9 y75)) (gC h (λh=>tS h (gO (A2 (A5 [4] Je q)))) λh=>Ae q LG Xn (tN h))) λh=>tS h (gO (A2 (A5 Xi Je q))))) λx76 h=>(match x76,h with | .inl ⟨l62,i63,l64,i65,l66,l67⟩,h=>gA (tW q Xi Je dJ Je (dQ false (Ae q [2] Je (tS h (oM (L2 (Hu GM (Le.refl _ _)))))))) | .inr ⟨l68,i69,l70,i71,l72,l73⟩,h=>nI (λst' hl78=>tS h (qe (Le.trans hl78 Gj))))))))) | .inr ⟨l45,i46,l47,i48,l49,l50⟩,h=>nI (λst' hl79=>tS h (qe (Le.trans hl79 Gj))))))))) | .inr ⟨l22,i23,l24,i25,l26,l27⟩,h=>nI (λst' hl80=>tS h (qe (Le.trans hl80 Gj))))))))))))) (λ⟨i1,l2,i3,l4,i5,l6,l7⟩ y h=>Ae q [2] Je (tS h (oM (L2 (Hu GM (Le.refl _ _)))))) (gAr (λst' hk=>tS h (gK hk))))
def oW:=(λ(v_:Az)=>((Yr v_):AV))
def Aac(x1:oC):List LK:=(Z3 x1.2.1.Params x1.2.1.Ret x1.2.1.Blocks x1.2.2.1 x1.2.2.2.1 x1.2.2.2.2 x1.2.2.2.2.length)
def Aad(x2:oC):List LK:=(Z3 x2.2.1.Params x2.2.1.Ret x2.2.1.Blocks x2.2.2.1 x2.2.2.2.1 x2.2.2.2.2 x2.2.2.2.2.length)
def Aae(x3:oC):List LK:=(Z3 x3.2.1.Params x3.2.1.Ret x3.2.1.Blocks x3.2.2.1 x3.2.2.2.1 x3.2.2.2.2 x3.2.2.2.2.length)
def Kh(a3:TFunc)(a5:Int)(a7:An)(aC:List Be):Option wu:=
 ((K1 a3 a5 a7 aC).bind λx1=>(bif (x1.1 !=0) then(some (x1.1,x1.2.1,x1.2.2.1,x1.2.2.2.1,x1.2.2.2.2,([]:List Pw))) else((Jk x1.2.1 x1.2.2.1 x1.2.2.2.1 x1.2.2.2.2).bind λx2=>(bif (x2.1 !=0) then(some (x2.1,x2.2.1,x2.2.2.1,x2.2.2.2.1,x2.2.2.2.2,([]:List Pw))) else((Kg x2.2.1 x2.2.2.1 x2.2.2.2.1 x2.2.2.2.2).bind λx3=>(bif (x3.1 !=0) then(some (x3.1,x3.2.1,x3.2.2.1,x3.2.2.2.1,x3.2.2.2.2,([]:List Pw))) else((Il x3.2.1 x3.2.2.1 x3.2.2.2.1 x3.2.2.2.2).bind λx4=>(bif (x4.1 !=0) then(some (x4.1,x4.2.1,x4.2.2.1,x4.2.2.2.1,x4.2.2.2.2.1,x4.2.2.2.2.2)) else((K2 x4.2.1 x4.2.2.1 x4.2.2.2.1 x4.2.2.2.2.2 x4.2.2.2.2.1).bind λx5=>(bif (x5.1 !=0) then(some (x5.1,x5.2.1,x5.2.2.1,x5.2.2.2.1,x5.2.2.2.2,x4.2.2.2.2.2)) else(some ((0:Int),x5.2.1,x5.2.2.1,x5.2.2.2.1,x5.2.2.2.2,x4.2.2.2.2.2))))))))))))
theorem Zb(h:Kh v0 v1 v2 v12=some v27):sP 50 [U1] (Z3 v0.Params v0.Ret v0.Blocks v1 v2 v12 v12.length) (Z6 v27.1) [(Z1 v27.2.1.Params v27.2.1.Ret v27.2.1.Blocks v27.2.2.1 v27.2.2.2.1 9200005 v27.2.2.2.2.1),(L3 37006 198 v27.2.2.2.2.1.length),(9200005,.obj (.map false .i64 (D1 (λ(v_:Az)=>((Yr v_):AV)) v27.2.2.2.2.2)))]:=
 sG Tryz.func50 λΓ q=>tW q [0] Jj [3] VG (Ae q NR Jj (gU 5 (Ae q NO Jj (dQ true (tU q WC Jj (c1 (show(As (0:Int) 5) from(by decide))) (tB h λx1 y1 h=>tT q WD Jj [(uw 37006 x1.1 (Aac x1))] (c1 (BI y1)) (Ae q VM Jj (gC h (λh=>Ae q [2] Jj (Py (⟨[(2,(Z6 x1.1))],(Aac x1),[]⟩:St) (tS h (gK (e:=.ret) (Hu tF (Le.trans (Y5 (r:=30000) (j:=5) (nm:=9300005) .i64 rfl rfl (nl rfl) rfl) (A5 (st':=⟨[(2,(Z6 x1.1))],[(Z1 x1.2.1.Params x1.2.1.Ret x1.2.1.Blocks x1.2.2.1 x1.2.2.2.1 9300005 x1.2.2.2.2),(L3 37006 198 x1.2.2.2.2.length),(9300005,.obj (.map false .i64 (D1 oW ([]:List Pw))))],[]⟩) [2] jt q))))))) λh=>tW q NR Jj NO Jj (dQ true (tU q WC Jj (c1 (show(As (1:Int) 5) from(by decide))) (tB h λx2 y2 h=>tT q WD Jj [(uw 37006 x2.1 (Aad x2))] (c1 (X0 y2)) (Ae q VM Jj (gC h (λh=>Ae q [2] Jj (Py (⟨[(2,(Z6 x2.1))],(Aad x2),[]⟩:St) (tS h (gK (e:=.ret) (Hu tF (Le.trans (Y5 (r:=30000) (j:=5) (nm:=9300005) .i64 rfl rfl (nl rfl) rfl) (A5 (st':=⟨[(2,(Z6 x2.1))],[(Z1 x2.2.1.Params x2.2.1.Ret x2.2.1.Blocks x2.2.2.1 x2.2.2.2.1 9300005 x2.2.2.2.2),(L3 37006 198 x2.2.2.2.2.length),(9300005,.obj (.map false .i64 (D1 oW ([]:List Pw))))],[]⟩) [2] jt q))))))) λh=>tW q NR Jj NO Jj (dQ true (tU q WC Jj (c1 (show(As (2:Int) 5) from(by decide))) (tB h λx3 y3 h=>tT q WD Jj [(uw 37006 x3.1 (Aae x3))] (c1 (Za y3)) (Ae q VM Jj (gC h (λh=>Ae q [2] Jj (Py (⟨[(2,(Z6 x3.1))],(Aae x3),[]⟩:St) (tS h (gK (e:=.ret) (Hu tF (Le.trans (Y5 (r:=30000) (j:=5) (nm:=9300005) .i64 rfl rfl (nl rfl) rfl) (A5 (st':=⟨[(2,(Z6 x3.1))],[(Z1 x3.2.1.Params x3.2.1.Ret x3.2.1.Blocks x3.2.2.1 x3.2.2.2.1 9300005 x3.2.2.2.2),(L3 37006 198 x3.2.2.2.2.length),(9300005,.obj (.map false .i64 (D1 oW ([]:List Pw))))],[]⟩) [2] jt q))))))) λh=>tW q NR Jj NO Jj (dQ true (tU q WC Jj (c1 (show(As (3:Int) 5) from(by decide))) (tB h λx4 y4 h=>tT q WD AS [⟨AR,[(9200005,13000005)],(Z6 x4.1),[(Z1 x4.2.1.Params x4.2.1.Ret x4.2.1.Blocks x4.2.2.1 x4.2.2.2.1 9200005 x4.2.2.2.2.1),(L3 37006 198 x4.2.2.2.2.1.length),(9200005,.obj (.map false .i64 (D1 oW x4.2.2.2.2.2)))],[],[]⟩] (c1 (W8 y4)) (Ae q VM AS (gC h (λh=>Ae q [2] AS (tS h (Bm tE))) λh=>tW q NR AS NO AS (dQ true (tU q WC AS (c1 (show(As (4:Int) 5) from(by decide))) (tB h λx5 y5 h=>tT q WD AS [⟨[(30000,30000),(37006,37006),(13000005,9100005)],[],(Z6 x5.1),[(Z1 x5.2.1.Params x5.2.1.Ret x5.2.1.Blocks x5.2.2.1 x5.2.2.2.1 9100005 x5.2.2.2.2),(L3 37006 198 x5.2.2.2.2.length),(9100005,.obj (.map false .i64 (D1 oW x4.2.2.2.2.2)))],[],[]⟩] (c1 (BJ y5)) (Ae q VM AS (gC h (λh=>Ae q [2] AS (tS h (Bm tE))) λh=>tW q NR AS NO AS (dQ false (Ae q [2] AS (tS h (Bm tE))))))))))))))))))))))))))))))))
open Go Go.RowKit
set_option maxRecDepth 100000
set_option maxHeartbeats 2000000
def Aag(a0:TFunc)(aa3:Int):AV:=(.agg [(Z8 a0.Params),(Z6 a0.Ret),(WV a0.Blocks),(Z6 aa3),XH,.nilm,(AV.list 5 O5 default ([]:List Be) .exact)])
def Aaf(a0:TFunc)(aa3:Int):=(⟨[gW],[(5,.row 105 [(Z8 a0.Params),(Z6 a0.Ret),(WV a0.Blocks),(Z6 aa3),XH,.nilm,(AV.list 5 O5 default ([]:List Be) .exact)])],[]⟩:St)
def xc(a0:TFunc)(aa3:Int):=(⟨[gW],[(5,.row 105 [(Z8 a0.Params),(Z6 a0.Ret),(WV a0.Blocks),(Z6 aa3),XH,.nilm,(AV.list 5 O5 default ([]:List Be) (.own 50506))]),(50506,.tok 5 198 (([]:List Be).length))],[]⟩:St)
def Ta(a0:TFunc)(aa3:Int):Option Int:=
 (bif (bif (decide (aa3<0)) then true else(decide ((2:Int)<aa3))) then(some (1:Int)) else((Kh a0 aa3 ([]:An) ([]:List Be)).bind λx1=>(some x1.1)))
theorem TA(h:Ta v0 v1=some v11):sP 15 [(U7 v0),(Z6 v1)] [] (.int .i64 v11) []:=
 sG Tryz.func15 λΓ q=>Ae q Nw [2] (tU q [1,2,11] [2] (c2 (gI ((decide (v1<0))==false)) (Hv (decide (v1<0)))) (gC h (λh=>Ae q [4] [] (tS h (Bm []))) λh=>gR q [5] [5] [(14,(Aag v0 v1))] [] (c1 (show(AVle (.agg [(Z8 v0.Params),(Z6 v0.Ret),(WV v0.Blocks),(Z6 v1),IZ,.nilm,IZ]) (Aag v0 v1)) from(AVle.agg (.cons (AVle.refl _) (.cons (AVle.refl _) (.cons (AVle.refl _) (.cons (AVle.refl _) (.cons Cp (.cons (AVle.refl _) (.cons Cp .nil)))))))))) (Py (Aaf v0 v1) (Mm (show Le Γ _ (xc v0 v1) from Le.trans (A5 (st':=(Aaf v0 v1)) [5] [5] q) (Le.trans (Qi (r:=5) (j:=6) (nm:=50506) (sz':=5) (λi=>O5 (([]:List Be).getD i default)) 198 rfl rfl (nl rfl) rfl (.inl ⟨rfl,rfl⟩) (λh_=>absurd h_ (by decide))) (A5 (st':=(xc v0 v1)) [5] [5,50506] q))) (Mm (show Le Γ _ (⟨[gW],[(5,.row 105 [(Z8 v0.Params),(Z6 v0.Ret),(WV v0.Blocks),(Z6 v1),(AV.list 1 Aj 0 ([]:An) .none),.nilm,(AV.list 5 O5 default ([]:List Be) (.own 50506))]),(50506,.tok 5 198 (([]:List Be).length))],[]⟩:St) from Le.trans (A5 (st':=(xc v0 v1)) [5] [5,50506] q) (Et (.cons (AVle.refl _) .nil) (.row (.cons (AVle.refl _) (.cons (AVle.refl _) (.cons (AVle.refl _) (.cons (AVle.refl _) (.cons AVle.untag (.cons (AVle.refl _) (.cons (AVle.refl _) .nil))))))) (.same .nil)))) (tB h λx1 y1 h=>tT q [4] [] [⟨[(5,30000),(50506,37006)],[(9200005,10000505)],(Z6 x1.1),[(Z1 x1.2.1.Params x1.2.1.Ret x1.2.1.Blocks x1.2.2.1 x1.2.2.2.1 9200005 x1.2.2.2.2.1),(L3 37006 198 x1.2.2.2.2.1.length),(9200005,.obj (.map false .i64 (D1 (λ(v_:Az)=>((Yr v_):AV)) x1.2.2.2.2.2)))],[],[]⟩] (c1 (Zb y1)) (tS h (Bm []))))))))
def T6(aaU:List Ab)(aaV:Ko)(aN:Int):Option Unit:=
 (some ())
variable{v32:Unit}
theorem MP(h:T6 v10 v14 v1=some v32):sP 76 [(WV v10),(HQ v14),(Z6 v1)] [] (.agg [(xF v10 v14 v1),(xF v10 v14 v1),(xF v10 v14 v1),(.clo 135 [] []),(.clo 135 [] []),(xF v10 v14 v1)]) []:=
 sG Tryz.func76 λΓ q=>gR q [3,4,5,6] [6] [(3,(.rpo [])),(4,(.rpo [])),(5,(.rpo []))] [] trivial (tW q Xl [6] [6,7,8] [6] (Ae q [6] [6] (tS h (Bm []))))
def Adi(a1:List Ab)(aZ:Int):=((((a1.getD aZ.toNat default).End.Kind:Int)!=1)==false)
def gf(a1:List Ab)(aZ:Int):=(bif (((a1.getD aZ.toNat default).End.Kind:Int)!=1) then true else(decide ((0:Int)<(((a1.getD aZ.toNat default).Phis).length:Int))))
abbrev cf:=(Int×Int×Bool)
def Gr(aZ:Int)(a1:List Ab)(aL:Ko)(aa2:Int):Option cf:=
 (Ax (As aZ a1.length) (Ax (((bif (((a1.getD aZ.toNat default).End.Kind:Int)!=1) then true else(decide ((0:Int)<(((a1.getD aZ.toNat default).Phis).length:Int))))==false)=true->(As aZ aL.length)) ((bif ((bif (((a1.getD aZ.toNat default).End.Kind:Int)!=1) then true else(decide ((0:Int)<(((a1.getD aZ.toNat default).Phis).length:Int))))==false) then En (aL.getD aZ.toNat []) ([aa2]:An) else some false).bind λx3=>(bif (bif (bif (((a1.getD aZ.toNat default).End.Kind:Int)!=1) then true else(decide ((0:Int)<(((a1.getD aZ.toNat default).Phis).length:Int)))) then true else(!x3)) then(some ((-1:Int),(-1:Int),false)) else(Ax (As (0:Int) ((a1.getD aZ.toNat default).End.To).length) (some (aZ,(((a1.getD aZ.toNat default).End.To).getD (0:Int).toNat (0:Int)),true)))))))
variable{v33:cf}
theorem My(h:Gr v1 v10 v14 v11=some v33):sP 133 [(Z6 v1),(.rpo [(WV v10)]),(.rpo [(HQ v14)]),(.rpo [(Z6 v11)])] [] (.tuple [(Z6 v33.1),(Z6 v33.2.1),(.bool v33.2.2)]) []:=
 sG Tryz.func133 λΓ q=>Ae q [0,1,2,3] [] (tV q [0,2,3,8] [8] h λh=>tC h λc2_ h=>tB h λx3 y3 h=>gR q [0,8,32] [8] [(29,(ke v11))] [(Z7 x3)] (Sg (Adi v10 v1) (ci (Hv (((v10.getD v1.toNat default).End.Kind:Int)!=1)) (Ju ((gf v10 v1)==false) (ci c2_ (Ju ((gf v10 v1)==false) (ci (show(((gf v10 v1)==false)=true->(AVle (yd v11) (ke v11))) from(λhg=>@(Au 1 Aj (0:Int) ([v11]:An)))) (Ju ((gf v10 v1)==false) (c3 (λ(hg:((gf v10 v1)==false)=true)=>(Me (A6 hg y3))) (gI ((gf v10 v1)==false)) (Hv (gf v10 v1)))))))))) (gC h (λh=>Ae q WE [] (tS h (Bm []))) λh=>tV q WE [] h λh=>tS h (Bm [])))
def tm(x2:cf)(x4:cf):=(bif (!x2.2.2) then true else(!x4.2.2))
abbrev je:=(THammock×Bool)
def Nr(aN:Int)(aa4:An)(aaI:List Ab)(aaJ:Ko)(aaK:Int)(aaL:List Ab)(aaM:Ko)(aaN:Int):Option je:=
 (Ax (As (0:Int) aa4.length) ((Gr (aa4.getD (0:Int).toNat (0:Int)) aaI aaJ aaK).bind λx2=>(Ax (As (1:Int) aa4.length) ((Gr (aa4.getD (1:Int).toNat (0:Int)) aaL aaM aaN).bind λx4=>(bif (bif (bif (bif (!x2.2.2) then true else(!x4.2.2)) then true else(x2.2.1 !=x4.2.1)) then true else(x2.2.1==aN)) then(some ((⟨(0:Int),(0:Int),(0:Int),(0:Int)⟩:THammock),false)) else(some ((⟨aN,x2.1,x4.1,x2.2.1⟩:THammock),true)))))))
variable{v34:List Ab}{v35:je}
theorem IB(h:Nr v1 v2 v10 v14 v11 v34 v15 v20=some v35):sP 77 [(Z6 v1),(Z8 v2),(.agg [(xF v10 v14 v11),(xF v34 v15 v20)])] [] (.tuple [(WW v35.1),(.bool v35.2)]) []:=
 sG Tryz.func77 λΓ q=>Ae q VX Xm (tC h λc1_ h=>tB h λx2 y2 h=>tT q ju Xm [(Z63 x2.1 x2.2.1 x2.2.2)] (c3 (show(As (0:Int) 2) from(by decide)) c1_ (My y2)) (tC h λc3_ h=>tB h λx4 y4 h=>tT q jp [6] [(Z63 x4.1 x4.2.1 x4.2.2)] (c3 (show(As (1:Int) 2) from(by decide)) c3_ (My y4)) (tU q jy [6] (YV (gI ((!x2.2.2)==false)) (Hv (!x2.2.2)) (Ju ((tm x2 x4)==false) (ci (Hv (tm x2 x4)) (Ju ((bif (tm x2 x4) then true else(x2.2.1 !=x4.2.1))==false) (c1 (Hv (bif (tm x2 x4) then true else(x2.2.1 !=x4.2.1)))))))) (gC h (λh=>Ae q Xl [6] (tS h (Bm []))) λh=>Ae q Xl [6] (tS h (Bm []))))))
def K9(aZ:Int):Option cf:=
 (some ((-1:Int),aZ,true))
theorem Vk(h:K9 v1=some v33):sP 135 [(Z6 v1)] [] (.tuple [(Z6 v33.1),(Z6 v33.2.1),(.bool v33.2.2)]) []:=
 sG Tryz.func135 λΓ q=>tW q [0] [] ES [] (tS h (Bm []))
def tq(x2:cf)(x4:cf):=(bif (!x2.2.2) then true else(!x4.2.2))
def K7(aN:Int)(aa4:An)(aaI:List Ab)(aaJ:Ko)(aaK:Int):Option je:=
 (Ax (As (0:Int) aa4.length) ((Gr (aa4.getD (0:Int).toNat (0:Int)) aaI aaJ aaK).bind λx2=>(Ax (As (1:Int) aa4.length) ((K9 (aa4.getD (1:Int).toNat (0:Int))).bind λx4=>(bif (bif (bif (bif (!x2.2.2) then true else(!x4.2.2)) then true else(x2.2.1 !=x4.2.1)) then true else(x2.2.1==aN)) then(some ((⟨(0:Int),(0:Int),(0:Int),(0:Int)⟩:THammock),false)) else(some ((⟨aN,x2.1,x4.1,x2.2.1⟩:THammock),true)))))))
theorem BL(h:K7 v1 v2 v10 v14 v11=some v35):sP 77 [(Z6 v1),(Z8 v2),(.agg [(xF v10 v14 v11),(.clo 135 [] [])])] [] (.tuple [(WW v35.1),(.bool v35.2)]) []:=
 sG Tryz.func77 λΓ q=>Ae q VX Xm (tC h λc1_ h=>tB h λx2 y2 h=>tT q ju Xm [(Z63 x2.1 x2.2.1 x2.2.2)] (c3 (show(As (0:Int) 2) from(by decide)) c1_ (My y2)) (tC h λc3_ h=>tB h λx4 y4 h=>tT q jp [6] [(Z63 x4.1 x4.2.1 x4.2.2)] (c3 (show(As (1:Int) 2) from(by decide)) c3_ (Vk y4)) (tU q jy [6] (YV (gI ((!x2.2.2)==false)) (Hv (!x2.2.2)) (Ju ((tq x2 x4)==false) (ci (Hv (tq x2 x4)) (Ju ((bif (tq x2 x4) then true else(x2.2.1 !=x4.2.1))==false) (c1 (Hv (bif (tq x2 x4) then true else(x2.2.1 !=x4.2.1)))))))) (gC h (λh=>Ae q Xl [6] (tS h (Bm []))) λh=>Ae q Xl [6] (tS h (Bm []))))))
def tt(x2:cf)(x4:cf):=(bif (!x2.2.2) then true else(!x4.2.2))
def K8(aN:Int)(aa4:An)(aaL:List Ab)(aaM:Ko)(aaN:Int):Option je:=
 (Ax (As (0:Int) aa4.length) ((K9 (aa4.getD (0:Int).toNat (0:Int))).bind λx2=>(Ax (As (1:Int) aa4.length) ((Gr (aa4.getD (1:Int).toNat (0:Int)) aaL aaM aaN).bind λx4=>(bif (bif (bif (bif (!x2.2.2) then true else(!x4.2.2)) then true else(x2.2.1 !=x4.2.1)) then true else(x2.2.1==aN)) then(some ((⟨(0:Int),(0:Int),(0:Int),(0:Int)⟩:THammock),false)) else(some ((⟨aN,x2.1,x4.1,x2.2.1⟩:THammock),true)))))))
theorem BM(h:K8 v1 v2 v10 v14 v11=some v35):sP 77 [(Z6 v1),(Z8 v2),(.agg [(.clo 135 [] []),(xF v10 v14 v11)])] [] (.tuple [(WW v35.1),(.bool v35.2)]) []:=
 sG Tryz.func77 λΓ q=>Ae q VX Xm (tC h λc1_ h=>tB h λx2 y2 h=>tT q ju Xm [(Z63 x2.1 x2.2.1 x2.2.2)] (c3 (show(As (0:Int) 2) from(by decide)) c1_ (Vk y2)) (tC h λc3_ h=>tB h λx4 y4 h=>tT q jp [6] [(Z63 x4.1 x4.2.1 x4.2.2)] (c3 (show(As (1:Int) 2) from(by decide)) c3_ (My y4)) (tU q jy [6] (YV (gI ((!x2.2.2)==false)) (Hv (!x2.2.2)) (Ju ((tt x2 x4)==false) (ci (Hv (tt x2 x4)) (Ju ((bif (tt x2 x4) then true else(x2.2.1 !=x4.2.1))==false) (c1 (Hv (bif (tt x2 x4) then true else(x2.2.1 !=x4.2.1)))))))) (gC h (λh=>Ae q Xl [6] (tS h (Bm []))) λh=>Ae q Xl [6] (tS h (Bm []))))))
def Ot(a0:TFunc)(x2:jf):(List THammock×Int)->Option (LR (List THammock×Int) (List THammock)):=
 λ((l3,i4):(List THammock×Int))=>(bif (decide (i4<(a0.Blocks.length:Int))) then(Option.bind (α:=List THammock) (Ax (As i4 a0.Blocks.length) (Ax (((((a0.Blocks.getD i4.toNat default).End.Kind:Int)!=2)==false)=true->(As (0:Int) ((a0.Blocks.getD i4.toNat default).End.To).length)) (Ax (((((a0.Blocks.getD i4.toNat default).End.Kind:Int)!=2)==false)=true->(As (1:Int) ((a0.Blocks.getD i4.toNat default).End.To).length)) (bif (bif (((a0.Blocks.getD i4.toNat default).End.Kind:Int)!=2) then true else((((a0.Blocks.getD i4.toNat default).End.To).getD (0:Int).toNat (0:Int))==(((a0.Blocks.getD i4.toNat default).End.To).getD (1:Int).toNat (0:Int)))) then(some l3) else((T6 a0.Blocks x2.1.Pred i4).bind λx10=>((Nr i4 ((a0.Blocks.getD i4.toNat default).End.To) a0.Blocks x2.1.Pred i4 a0.Blocks x2.1.Pred i4).bind λx11=>(bif x11.2 then(Ax (l3.length+([x11.1]:List THammock).length<=room) (some (l3++([x11.1]:List THammock)))) else((K7 i4 ((a0.Blocks.getD i4.toNat default).End.To) a0.Blocks x2.1.Pred i4).bind λx13=>(bif x13.2 then(Ax (l3.length+([x13.1]:List THammock).length<=room) (some (l3++([x13.1]:List THammock)))) else((K8 i4 ((a0.Blocks.getD i4.toNat default).End.To) a0.Blocks x2.1.Pred i4).bind λx15=>(bif x15.2 then(Ax (l3.length+([x15.1]:List THammock).length<=room) (some (l3++([x15.1]:List THammock)))) else(some l3)))))))))))) (λx17=>(some (.next (x17,(w64 (i4+1))))))) else(some (.done l3)))
def MF :Empty->Option (LR Empty (List THammock)):=
 λ(s_:Empty)=>nomatch s_
def XB(Γ:Hx)(a0:TFunc)(r:List THammock):Exit->St->Prop:=fK Tryz.prog Γ Tryz.f39.results.toList [] (tX r 20000) [(20000,.tok 4 27 r.length)]
def gh(a0:TFunc):AV:=(WV a0.Blocks)
def mA:AV:=(AV.list 4 eTHammock default ([]:List THammock) .exact)
def xd(a0:TFunc)(i4:Int):=((((a0.Blocks.getD i4.toNat default).End.Kind:Int)!=2)==false)
def Aai:=(⟨[(2,(AV.list 4 eTHammock default ([]:List THammock) (.own 6002)))],[(6002,.tok 4 27 (([]:List THammock).length))],[]⟩:St)
def tu(a0:TFunc)(x2:jf)(i4:Int):AV:=(.clo 133 [] [(.rpo [(gh a0)]),(.rpo [(HQ x2.1.Pred)]),(.rpo [(Z6 i4)])])
def Aah(a0:TFunc)(x2:jf):=(⟨[BB,JJ,(5,(AV.list 4 eTHammock default ([]:List THammock) (.own 5005))),(21,(gh a0)),(22,(FA a0.Blocks.length)),(23,Jf)],[(1,.row 25 [(Z8 a0.Params),(Z6 a0.Ret),(gh a0)]),(3,.row 97 [(HQ x2.1.Succ),(HQ x2.1.Pred)]),(5005,.tok 4 27 (([]:List THammock).length))],[]⟩:St)
def Lw(a0:TFunc):Option (List THammock):=
 ((Ua (S:=Empty) (X:=List THammock) ((Ta a0 (2:Int)).bind λx1=>(bif (x1 !=0) then(some (.done ([]:List THammock))) else((Ve a0).bind λx2=>((Ad (Ot a0 x2) (([]:List THammock),(0:Int))).bind (λx19=>(some (.done x19))))))) MF).bind (λx21=>(some x21)))
variable{v36:List THammock}
theorem Vi(h:Lw v0=some v36):sP 39 [(U7 v0)] [] (tX v36 20000) [(20000,.tok 4 27 v36.length)]:=
 sG Tryz.func39 λΓ q=>gR q [1] [1] [(2,mA)] [] (c1 (Bh 4 eTHammock (default:THammock))) (tB h λx21 y21 h=>gS y21 (λ(s_:Empty)=>nomatch s_) (λ(s_:Empty)=>nomatch s_) (λr_=>aR (XB Γ v0 r_)) (λy h=>tB h λx1 y1 h=>tT q [1,14] [1] [(EZ x1)] (c1 (TA y1)) (gC h (λh=>gR q [2] [] [(2,mA)] [] (c1 (Bh 4 eTHammock (default:THammock))) (Py (⟨[(2,mA)],[],[]⟩:St) (tS h (oM (L2 (Hu kN (show Le Γ _ Aai from Le.trans (A5 (st':=⟨[(2,mA)],[],[]⟩) [2] [] q) (Le.trans (L9 (t:=2) (nm:=6002) (sz':=4) (λi=>eTHammock (([]:List THammock).getD i default)) 27 rfl rfl (.inl ⟨rfl,rfl⟩) (λh_=>absurd h_ (by decide))) (A5 (st':=Aai) [2] [6002] q))))))))) λh=>tB h λx2 y2 h=>tT q Kb Kb [(yg x2.1 x2.2)] (c1 (OQ y2)) (gR q IX Kb [(5,mA)] [] (c1 (Bh 4 eTHammock (default:THammock))) (Ae q HH Kb (Mm (st':=(Aah v0 x2)) (Le.trans (A5 (st':=⟨[BB,JJ,(5,mA),(21,(gh v0)),(22,(FA v0.Blocks.length)),(23,Jf)],[(1,.row 25 [(Z8 v0.Params),(Z6 v0.Ret),(gh v0)]),(3,.row 97 [(HQ x2.1.Succ),(HQ x2.1.Pred)])],[]⟩) HH Kb q) (Le.trans (L9 (t:=5) (nm:=5005) (sz':=4) (λi=>eTHammock (([]:List THammock).getD i default)) 27 rfl rfl (.inl ⟨rfl,rfl⟩) (λh_=>absurd h_ (by decide))) (A5 (st':=(Aah v0 x2)) HH Zy q))) (tL q h HH Zy (λu (l3,i4)=>(Cl u [(5,(tX l3 5005)),(23,(Z6 i4))] [(5005,.tok 4 27 l3.length)])) (λu l5=>aG Γ (.exit 0) (⟨[(5,(tX l5 5005))],[(5005,.tok 4 27 l5.length)],[]⟩:St)) (λ⟨l3,i4⟩ y h=>Ae q [1,3,5,21,22,23,24] Zy (gC h (λh=>tB h λx17 y17 h=>gJ y17 (λl6=>aG Γ .normal (⟨[BB,JJ,(5,(tX l6 5005)),(21,(gh v0)),(22,(FA v0.Blocks.length)),(23,(Z6 i4))],[(1,.row 25 [(Z8 v0.Params),(Z6 v0.Ret),(gh v0)]),(3,.row 97 [(HQ x2.1.Succ),(HQ x2.1.Pred)]),(5005,.tok 4 27 l6.length)],[]⟩:St)) (λy h=>tV q [1,3,5,6,7,21,22,23] HK h λh=>tC h λc8_ h=>tC h λc9_ h=>tU q [1,3,5,6,7,21,22,23,44] HK (Sg (xd v0 i4) (ci c8_ (JT (xd v0 i4) (ci c9_ (Sg (xd v0 i4) (c1 (Hv (((v0.Blocks.getD i4.toNat default).End.Kind:Int)!=2)))))))) (gC h (λh=>tS h (gK (A2 (A5 HH Zy q)))) λh=>tB h λx10 y10 h=>tT q lv HK [⟨[],[],(.agg [(tu v0 x2 i4),(tu v0 x2 i4),(tu v0 x2 i4),(.clo 135 [] []),(.clo 135 [] []),(tu v0 x2 i4)]),[],[],[]⟩] (c1 (MP y10)) (gU 3 (Ae q lu HK (dQ true (tU q jg j8 (c1 (show(As (0:Int) 3) from(by decide))) (tB h λx11 y11 h=>tT q tI NE [(uv x11.1 x11.2)] (c1 (IB y11)) (Ae q tJ NE (gC h (λh=>tC h λc12_ h=>gR q HH Zy (Z49 x11.1 l3) [] (c5 (Au 4 eTHammock (default:THammock) ([x11.1]:List THammock)) (Eq.refl l3.length) c12_ (Cf 4 5005 eTHammock (default:THammock) l3 ([x11.1]:List THammock)) (Bg l3 ([x11.1]:List THammock))) (tS h (gK (A2 Gj)))) λh=>tW q lv HK lu HK (dQ true (tU q jg j8 (c1 (show(As (1:Int) 3) from(by decide))) (tB h λx13 y13 h=>tT q tI NE [(uv x13.1 x13.2)] (c1 (BL y13)) (Ae q tJ NE (gC h (λh=>tC h λc14_ h=>gR q HH Zy (Z49 x13.1 l3) [] (c5 (Au 4 eTHammock (default:THammock) ([x13.1]:List THammock)) (Eq.refl l3.length) c14_ (Cf 4 5005 eTHammock (default:THammock) l3 ([x13.1]:List THammock)) (Bg l3 ([x13.1]:List THammock))) (tS h (gK (A2 Gj)))) λh=>tW q lv HK lu HK (dQ true (tU q jg j8 (c1 (show(As (2:Int) 3) from(by decide))) (tB h λx15 y15 h=>tT q tI NE [(uv x15.1 x15.2)] (c1 (BM y15)) (Ae q tJ NE (gC h (λh=>tC h λc16_ h=>gR q HH Zy (Z49 x15.1 l3) [] (c5 (Au 4 eTHammock (default:THammock) ([x15.1]:List THammock)) (Eq.refl l3.length) c16_ (Cf 4 5005 eTHammock (default:THammock) l3 ([x15.1]:List THammock)) (Bg l3 ([x15.1]:List THammock))) (tS h (gK (A2 Gj)))) λh=>tW q lv HK lu HK (dQ false (tS h (gK (A2 (A5 HH Zy q)))))))))))))))))))))))) (gA (Ae q HH Zy (tN h)))) λh=>tS h (gO (A2 (A5 [5] [5005] q))))) λx19 h=>gA (Ae q [2] [5005] (tS h (oM (L2 (Hu kO (Le.refl _ _)))))))))))) nofun (gAr (λst' hk=>tS h (gK hk))))
def m_slices_Index_api_Hammock_api_Hammock_L1(aO:List THammock)(aM:THammock):Int->Option (LR Int (Unit ⊕ Int)):=
 λ(i1:Int)=>(bif (decide (i1<(aO.length:Int))) then(Ax (As i1 aO.length) (bif ((aM.At==(aO.getD i1.toNat default).At)&&((aM.Then==(aO.getD i1.toNat default).Then)&&((aM.Else==(aO.getD i1.toNat default).Else)&&((aM.Join==(aO.getD i1.toNat default).Join)&&true)))) then(some (.done (.inr i1))) else(some (.next (w64 (i1+1)))))) else(some (.done (.inl ()))))
def N1(Γ:Hx)(aO:List THammock)(aM:THammock)(r:Int):Exit->St->Prop:=fK Tryz.prog Γ Tryz.f196.results.toList [] (.int .i64 r) []
def Eg(aO:List THammock)(aM:THammock):Option Int:=
 ((Ad (m_slices_Index_api_Hammock_api_Hammock_L1 aO aM) (0:Int)).bind (λx3=>(match x3 with|(.inl _)=>(some (-1:Int))|(.inr r5)=>(some r5))))
variable{v37:THammock}
theorem Nz(h:Eg v36 v37=some v1):sP 196 [(AV.list 4 eTHammock default v36 .none),(WW v37)] [] (.int .i64 v1) []:=
 sG Tryz.func196 λΓ q=>tW q M3 [3] [0,3,7,8] [3] (tL q h [0,3,7,8] [3] (λu i1=>(Cl u [(8,(Z6 i1))] [])) (λu x_=>match x_ with|(.inl _)=>aG Γ (.exit 0) (⟨[],[],[]⟩:St)|(.inr r_)=>aR (N1 Γ v36 v37 r_)) (λi1 y h=>Ae q [0,3,7,8,9] [3] (gC h (λh=>Ae q [0,3,5,7,8] [3] (tV q [0,3,5,7,8,16] [3] h λh=>gC h (λh=>Ae q [4] [] (tS h (gO (L2 (Hu [] (Le.refl _ _)))))) λh=>Ae q [0,3,7,8] [3] (tN h))) λh=>tS h (gO (A2 (A5 [] [] q))))) λx3 h=>(match x3,h with | .inl _,h=>gA (Ae q [4] [] (tS h (Bm []))) | .inr r5,h=>gAr (λst' hk=>tS h (gK hk))))
def Dn(aO:List THammock)(aM:THammock):Option Bool:=
 ((Eg aO aM).bind λx1=>(some (decide ((0:Int)<=x1))))
theorem M1(h:Dn v36 v37=some v3):sP 164 [(AV.list 4 eTHammock default v36 .none),(WW v37)] [] (.bool v3) []:=
 sG Tryz.func164 λΓ q=>Ae q M3 [3] (tB h λx1 y1 h=>tT q [4] [] [(EZ x1)] (c1 (Nz y1)) (tS h (Bm [])))
def Uu(a0:TFunc)(aB:THammock):Option Bool:=
 ((Lw a0).bind λx1=>((Dn x1 aB).bind λx2=>(some x2)))
theorem XX(h:Uu v0 v37=some v3):sP 112 [(U7 v0),(WW v37)] [] (.bool v3) []:=
 sG Tryz.func112 λΓ q=>Ae q Br Br (tB h λx1 y1 h=>tB h λx2 y2 h=>tT q [4] [] [⟨[],[(20000,6)],(tX x1 20000),[(20000,.tok 4 27 x1.length)],[],[]⟩,(Z7 x2)] (c2 (Vi y1) (M1 y2)) (tS h (Bm [])))
abbrev ww:=(List Ay×Int)
def Ee(a0:TFunc)(aB:THammock):ww->Option (LR (List Ay×Int) (List Ay)):=
 λ((l2,i3):ww)=>(bif (decide (i3<(([aB.Then,aB.Else]:An).length:Int))) then(Option.bind (α:=List Ay) (Ax (As i3 ([aB.Then,aB.Else]:An).length) (bif ((([aB.Then,aB.Else]:An).getD i3.toNat 0)!=-1) then(Ax (As (([aB.Then,aB.Else]:An).getD i3.toNat 0) a0.Blocks.length) (Ax (l2.length+((a0.Blocks.getD (([aB.Then,aB.Else]:An).getD i3.toNat 0).toNat (default:Ab)).Ops).length<=room) (some (l2++(a0.Blocks.getD (([aB.Then,aB.Else]:An).getD i3.toNat 0).toNat (default:Ab)).Ops)))) else(some l2))) (λx9=>(some (.next (x9,(w64 (i3+1))))))) else(some (.done l2)))
def bO(aB:THammock):=([aB.Then,aB.Else]:An)
def mB:AV:=tR
def xe(a0:TFunc)(aB:THammock)(i3:Int):=(a0.Blocks.getD ((bO aB).getD i3.toNat 0).toNat (default:Ab))
def xf(a0:TFunc):List AV:=(Z5 a0.Params a0.Ret a0.Blocks)
def Aak:=(⟨[(4,(uu 6004)),(5,(.bool false))],[(6004,.tok 6 51 (([]:List Ay).length))],[]⟩:St)
def Aaj(aB:THammock)(a0:TFunc):=(⟨[M5,(6,(uu 5006)),(17,(u2 (bO aB))),(18,(.int .i64 ((bO aB).length:Int))),(19,Jf)],[(Jr 25 (xf a0)),(5006,.tok 6 51 (([]:List Ay).length))],[]⟩:St)
def K6(a0:TFunc)(aB:THammock):Option (List Ay×Bool):=
 ((Uu a0 aB).bind λx1=>(bif (!x1) then(some (([]:List Ay),false)) else((Ad (Ee a0 aB) (([]:List Ay),(0:Int))).bind (λx11=>(some (x11,true))))))
variable{v38:(List Ay×Bool)}
theorem Vj(h:K6 v0 v37=some v38):sP 59 [(U7 v0),(WW v37)] [] (.tuple [(WU v38.1 20000),(.bool v38.2)]) [(Tj 20000 v38.1.length)]:=
 sG Tryz.func59 λΓ q=>gR q Br Br [(4,mB)] [] (c1 (Bh 6 Ig (default:Ay))) (tB h λx1 y1 h=>tT q [2,3,12] Br [(Z7 x1)] (c1 (XX y1)) (gC h (λh=>gR q Qu [] [(4,mB)] [] (c1 (Bh 6 Ig (default:Ay))) (Py (⟨[(4,mB),(5,(.bool false))],[],[]⟩:St) (tS h (gK (e:=.ret) (Hu VJ (show Le Γ _ Aak from Le.trans (A5 (st':=⟨[(4,mB),(5,(.bool false))],[],[]⟩) Qu [] q) (Le.trans (L9 (t:=4) (nm:=6004) (sz':=6) (λi=>Ig (([]:List Ay).getD i default)) 51 rfl rfl (.inl ⟨rfl,rfl⟩) (λh_=>absurd h_ (by decide))) (A5 (st':=Aak) Qu [6004] q)))))))) λh=>gR q ET Br [(6,mB)] [] (c1 (Bh 6 Ig (default:Ay))) (gR q WT [2] [(17,(u2 (bO v37)))] [] (c1 (Au 1 Aj (0:Int) (bO v37))) (Mm (st':=(Aaj v37 v0)) (Le.trans (A5 (st':=⟨[M5,(6,mB),(17,(u2 (bO v37))),(18,(.int .i64 ((bO v37).length:Int))),(19,Jf)],[(Jr 25 (xf v0))],[]⟩) WT [2] q) (Le.trans (L9 (t:=6) (nm:=5006) (sz':=6) (λi=>Ig (([]:List Ay).getD i default)) 51 rfl rfl (.inl ⟨rfl,rfl⟩) (λh_=>absurd h_ (by decide))) (A5 (st':=(Aaj v37 v0)) WT EU q))) (tL q h WT EU (λu (l2,i3)=>(Cl u [(6,(WU l2 5006)),(19,(Z6 i3))] [(Tj 5006 l2.length)])) (λu l4=>aG Γ (.exit 0) (⟨[(6,(WU l4 5006))],[(Tj 5006 l4.length)],[]⟩:St)) (λ⟨l2,i3⟩ y h=>Ae q [2,6,17,18,19,20] EU (gC h (λh=>tB h λx9 y9 h=>gJ y9 (λl5=>aG Γ .normal (⟨[M5,(6,(WU l5 5006)),(17,(u2 (bO v37))),(18,(.int .i64 ((bO v37).length:Int))),(19,(Z6 i3))],[(Jr 25 (xf v0)),(Tj 5006 l5.length)],[]⟩:St)) (λy h=>tV q [2,6,8,17,18,19] EU h λh=>Ae q [2,6,8,17,18,19,24] EU (gC h (λh=>tC h λc7_ h=>tC h λc8_ h=>gR q WT EU [(32,(AV.list 6 Ig default (l2++(xe v0 v37 i3).Ops) (.own 5006)))] [] (c5 c7_ (Eq.refl l2.length) c8_ (Cf 6 5006 Ig (default:Ay) l2 ((xe v0 v37 i3).Ops)) (Bg l2 ((xe v0 v37 i3).Ops))) (tS h (gK (A2 Gj)))) λh=>tS h (gK (A2 (A5 WT EU q))))) (gA (Ae q WT EU (tN h)))) λh=>tS h (gO (A2 (A5 [6] [5006] q))))) λx11 h=>gA (Ae q Qu [5006] (tS h (Bm [(5006,20000)]))))))))
def Mu(a2:Ay):Option Bool:=
 (some (a2.Lanes !=1))
theorem GL(h:Mu v6=some v3):sP 61 [(QM v6)] [] (.bool v3) []:=
 sG Tryz.func61 λΓ q=>tW q [1] [1] [2] [] (tS h (Bm []))
def m_slices_IndexFunc_api_Op_api_Op_L1(aO:List Ay):Int->Option (LR Int (Unit ⊕ Int)):=
 λ(i1:Int)=>(bif (decide (i1<(aO.length:Int))) then(Ax (As i1 aO.length) ((Mu (aO.getD i1.toNat default)).bind λx3=>(bif x3 then(some (.done (.inr i1))) else(some (.next (w64 (i1+1))))))) else(some (.done (.inl ()))))
def Rb(Γ:Hx)(aO:List Ay)(r:Int):Exit->St->Prop:=fK Tryz.prog Γ Tryz.f113.results.toList [] (.int .i64 r) []
def Gw(aO:List Ay):Option Int:=
 ((Ad (m_slices_IndexFunc_api_Op_api_Op_L1 aO) (0:Int)).bind (λx4=>(match x4 with|(.inl _)=>(some (-1:Int))|(.inr r6)=>(some r6))))
theorem Qy(h:Gw v7=some v1):sP 113 [(QL v7),(.clo 61 [] [])] [] (.int .i64 v1) []:=
 sG Tryz.func113 λΓ q=>tW q Gf [] Zx [] (tL q h Zx [] (λu i1=>(Cl u [(8,(Z6 i1))] [])) (λu x_=>match x_ with|(.inl _)=>aG Γ (.exit 0) (⟨[],[],[]⟩:St)|(.inr r_)=>aR (Rb Γ v7 r_)) (λi1 y h=>Ae q kL [] (gC h (λh=>Ae q kM [] (tC h λc2_ h=>tB h λx3 y3 h=>tT q jz [] [(Z7 x3)] (c2 c2_ (GL y3)) (gC h (λh=>Ae q [4] [] (tS h (gO (L2 (Hu [] (Le.refl _ _)))))) λh=>Ae q Zx [] (tN h)))) λh=>tS h (gO (A2 (A5 [] [] q))))) λx4 h=>(match x4,h with | .inl _,h=>gA (Ae q [4] [] (tS h (Bm []))) | .inr r6,h=>gAr (λst' hk=>tS h (gK hk))))
def Dc(aO:List Ay):Option Bool:=
 ((Gw aO).bind λx1=>(some (decide ((0:Int)<=x1))))
theorem Ph(h:Dc v7=some v3):sP 60 [(QL v7),(.clo 61 [] [])] [] (.bool v3) []:=
 sG Tryz.func60 λΓ q=>Ae q Gf [] (tB h λx1 y1 h=>tT q [4] [] [(EZ x1)] (c1 (Qy y1)) (tS h (Bm [])))
def Ou(a0:TFunc)(aB:THammock):Option Bool:=
 ((K6 a0 aB).bind λx1=>((bif (x1.2==true) then Dc x1.1 else some false).bind λx2=>(some (bif x1.2 then(!x2) else false))))
theorem KI(h:Ou v0 v37=some v3):sP 25 [(U7 v0),(WW v37)] [] (.bool v3) []:=
 sG Tryz.func25 λΓ q=>Ae q Br Br (tB h λx1 y1 h=>tT q Xm [10] [⟨[],dL,(.tuple [(WU x1.1 20000),(.bool x1.2)]),[(Tj 20000 x1.1.length)],[],[]⟩] (c1 (Vj y1)) (tB h λx2 y2 h=>tT q [4] [] [(Z7 x2)] (c4 (gI (x1.2==true)) (λ(hg:(x1.2==true)=true)=>(Ph (A6 hg y2))) (gI (x1.2==true)) (Lz x1.2)) (tS h (Bm []))))
def Pz(a0:TFunc)(i2:Int):H6->Option lp:=
 λ((i5,i6):H6)=>(bif (decide (i6<(((a0.Blocks.getD i2.toNat default).Phis).length:Int))) then(Ax (As i6 ((a0.Blocks.getD i2.toNat default).Phis).length) (some (.next ((if i5<(((a0.Blocks.getD i2.toNat default).Phis).getD i6.toNat default).Dst then(((a0.Blocks.getD i2.toNat default).Phis).getD i6.toNat default).Dst else i5),(w64 (i6+1)))))) else(some (.done i5)))
def P0(a0:TFunc)(i2:Int):H6->Option lp:=
 λ((i11,i12):H6)=>(bif (decide (i12<(((a0.Blocks.getD i2.toNat default).Ops).length:Int))) then(Ax (As i12 ((a0.Blocks.getD i2.toNat default).Ops).length) (some (.next ((if i11<(((a0.Blocks.getD i2.toNat default).Ops).getD i12.toNat default).Dst then(((a0.Blocks.getD i2.toNat default).Ops).getD i12.toNat default).Dst else i11),(w64 (i12+1)))))) else(some (.done i11)))
def T5(a0:TFunc):H6->Option lp:=
 λ((i1,i2):H6)=>(bif (decide (i2<(a0.Blocks.length:Int))) then(Ax (As i2 a0.Blocks.length) ((Ad (Pz a0 i2) (i1,(0:Int))).bind (λx9=>((Ad (P0 a0 i2) (x9,(0:Int))).bind (λx15=>(some (.next (x15,(w64 (i2+1)))))))))) else(some (.done i1)))
def Ur(a0:TFunc):Option Int:=
 ((Ad (T5 a0) ((a0.Params.length:Int),(0:Int))).bind (λx17=>(some x17)))
theorem XU(h:Ur v0=some v1):sP 26 [(U7 v0)] [] (.int .i64 v1) []:=
 sG Tryz.func26 λΓ q=>tW q [1] [1] Kb [1] (Ae q VN [] (tL q h VN [] (λu (i1,i2)=>(Cl u [(3,(Z6 i1)),(16,(Z6 i2))] [])) (λu i3=>aG Γ (.exit 0) (⟨[(3,(Z6 i3))],[],[]⟩:St)) (λ⟨i1,i2⟩ y h=>Ae q [3,14,15,16,17] [] (gC h (λh=>tV q j9 [5] h λh=>Ae q ly [5] (tL q h ly [5] (λu (i5,i6)=>(Cl u [(3,(Z6 i5)),(23,(Z6 i6))] [])) (λu i7=>aG Γ (.exit 2) (M2 j9 [5] u [(3,(Z6 i7))] [])) (λ⟨i5,i6⟩ y h=>Ae q [3,5,14,15,16,21,22,23,24] [5] (gC h (λh=>tV q [3,5,7,14,15,16,21,22,23] [5,7] h λh=>tW q ly [5] ly [5] (tN h)) λh=>tS h (gO (A2 (A5 j9 [5] q))))) λx9 h=>gA (Ae q cr [] (tL q h cr [] (λu (i11,i12)=>(Cl u [(3,(Z6 i11)),(35,(Z6 i12))] [])) (λu i13=>aG Γ (.exit 4) (M2 VN [] u [(3,(Z6 i13))] [])) (λ⟨i11,i12⟩ y h=>Ae q [3,14,15,16,33,34,35,36] [] (gC h (λh=>tV q [3,9,14,15,16,33,34,35] [9] h λh=>tW q cr [] cr [] (tN h)) λh=>tS h (gO (A2 (A5 VN [] q))))) λx15 h=>gA (Ae q VN [] (tN h)))))) λh=>tS h (gO (A2 (A5 [3] [] q))))) λx17 h=>gA (Ae q [2] [] (tS h (Bm [])))))
def mC:AV:=tR
def Aal:=(⟨[(2,(uu 6002))],[(6002,.tok 6 51 (([]:List Ay).length))],[]⟩:St)
def Fj(aO:List Ay):Option (List Ay):=
 (Ax (([]:List Ay).length+aO.length<=room) (some (([]:List Ay)++aO)))
variable{v39:List Ay}
theorem Tu(h:Fj v7=some v39):sP 62 [(QL v7)] [] (WU v39 20000) [(Tj 20000 v39.length)]:=by
 refine FX mix Tryz.func62 (λΓ hq=>?_);unfold Fj at h;refine gR hq [0] [] [(2,mC)] [] (c1 (Bh 6 Ig (default:Ay))) ?_;refine Ae hq [0,4] [] ?_;refine Ab3 true v7.length (λhb=>?_) (λhb=>?_)
 ·replace h:=rH (some ([]:List Ay)) (λ(l2:List Ay)=>(Ax (([]:List Ay).length+l2.length<=room) (some (([]:List Ay)++l2)))) h (hb rfl) rfl (λh0=>by first|exact h0|simpa [Ax,room] using h0);clear hb;refine gR hq [2] [] [(2,mC)] [] (c1 (Bh 6 Ig (default:Ay))) ?_;refine Py (⟨[(2,mC)],[],[]⟩:St) ?_;cases h;exact gK (e:=.ret) (Hu kN (show Le Γ _ Aal from Le.trans (A5 (st':=⟨[(2,mC)],[],[]⟩) [2] [] hq) (Le.trans (L9 (t:=2) (nm:=6002) (sz':=6) (λi=>Ig (([]:List Ay).getD i default)) 51 rfl rfl (.inl ⟨rfl,rfl⟩) (λh_=>absurd h_ (by decide))) (A5 (st':=Aal) [2] [6002] hq))))
 ·clear hb;obtain⟨hc1,h⟩:=Tk h;refine gR hq [2] [7] [(5,mC),(7,(AV.list 6 Ig default (([]:List Ay)++v7) (.own 7)))] [] (ci (show(AVle (.slice 6 0 (λi=>([]:List (List AV)).getD i []) .exact) mC) from bZ rfl (λi hi=>absurd hi (V2 i))) (ci hc1 (ci (show(51=Yd->([]:List Ay).length=0\/0<v7.length) from(λh_=>absurd h_ (by decide))) (ci (Cf 6 7 Ig (default:Ay) ([]:List Ay) v7) (c1 (Bg ([]:List Ay) v7)))))) ?_;cases h;exact Bm [(7,20000)]
def tv:List JB:=[(4,tR)]
def xg(a3:TFunc)(a5:THammock)(a7:List Ay)(a8:Int):List LK:=(QK a3.Params a3.Ret a3.Blocks a5.At a5.Then a5.Else a5.Join a7 a8 a7.length)
def Fy(aN:Int)(a3:TFunc)(a5:THammock)(a7:List Ay)(a8:Int):Option (List Ay):=
 (bif (aN==-1) then(some ([]:List Ay)) else(Ax (As aN a3.Blocks.length) (some ((a3.Blocks.getD aN.toNat default).Ops))))
theorem Pr(h:Fy v1 v0 v37 v7 v11=some v39):sP 115 [U1,(Z6 v1)] (QK v0.Params v0.Ret v0.Blocks v37.At v37.Then v37.Else v37.Join v7 v11 v7.length) (QL v39) (QK v0.Params v0.Ret v0.Blocks v37.At v37.Then v37.Else v37.Join v7 v11 v7.length):=
 sG Tryz.func115 λΓ q=>gR q Gf M4 tv [] (c1 (Bh 6 Ig (default:Ay))) (Ae q [0,1,6] M4 (gC h (λh=>gR q [4] M4 tv [] (c1 (Bh 6 Ig (default:Ay))) (Py (⟨tv,(xg v0 v37 v7 v11),[]⟩:St) (tS h (gK (e:=.ret) (Hu EY (show Le Γ _ (⟨[(4,(AV.list 6 Ig default ([]:List Ay) .none))],(xg v0 v37 v7 v11),[]⟩:St) from Le.trans (A5 (st':=⟨tv,(xg v0 v37 v7 v11),[]⟩) [4] M4 q) (Et (.cons AVle.untag .nil) (.same (.same .nil))))))))) λh=>tV q [4] M4 h λh=>tS h (Bm EY)))
def tw(aaO:Int)(aI:Int)(a8:Int)(aa8:An)(aa0:Int):=([(⟨aaO,aI,(1:Int),(w64 (a8+1)),aa8,aa0⟩:Ay)]:List Ay)
abbrev oD:=(Int×TFunc×THammock×List Ay×Int)
def Ci(aaO:Int)(aI:Int)(aa0:Int)(aa8:An)(a3:TFunc)(a5:THammock)(a7:List Ay)(a8:Int):Option oD:=
 (Ax (a7.length+([(⟨aaO,aI,(1:Int),(w64 (a8+1)),aa8,aa0⟩:Ay)]:List Ay).length<=room) (some ((w64 (a8+1)),a3,a5,(a7++([(⟨aaO,aI,(1:Int),(w64 (a8+1)),aa8,aa0⟩:Ay)]:List Ay)),(w64 (a8+1)))))
variable{v40:Int}{v41:oD}
theorem Ep(h:Ci v1 v11 v20 v2 v0 v37 v7 v40=some v41):sP 117 [U1,(Z6 v1),(Z6 v11),(Ti v20),(Z8 v2)] (QK v0.Params v0.Ret v0.Blocks v37.At v37.Then v37.Else v37.Join v7 v40 v7.length) (Z6 v41.1) (QK v41.2.1.Params v41.2.1.Ret v41.2.1.Blocks v41.2.2.1.At v41.2.2.1.Then v41.2.2.1.Else v41.2.2.1.Join v41.2.2.2.1 v41.2.2.2.2 v41.2.2.2.1.length):=
 sG Tryz.func117 λΓ q=>tW q VO M4 VO M4 (tC h λc1_ h=>gR q [0] M4 (Z42 32 (tw v1 v11 v40 v2 v20) 33 v7 37007) [] (c5 (Au 6 Ig (default:Ay) (tw v1 v11 v40 v2 v20)) (Eq.refl v7.length) c1_ (Cf 6 37007 Ig (default:Ay) v7 (tw v1 v11 v40 v2 v20)) (Bg v7 (tw v1 v11 v40 v2 v20))) (Ae q [10] M4 (tS h (Bm EY))))
def mE(a1:Ay):=(a1.Args.drop (1:Int).toNat)
def RD(a1:Ay):=(a1.Args.getD (0:Int).toNat (0:Int))
def mD(a1:Ay):=(a1.Args.getD (1:Int).toNat (0:Int))
def Aam(a1:Ay):List AV:=[U1,Jf,(Z6 a1.Bits),(.int .u64 (0:Int)),me]
def oX:List AV:=[Jf,Jf,Jf,Jf,IZ,(.int .u64 (0:Int))]
def tx(a3:TFunc)(a5:THammock)(a7:List Ay)(a8:Int):List AV:=(Z2 a3.Params a3.Ret a3.Blocks a5.At a5.Then a5.Else a5.Join a7 a8)
def xh(x13:oD):List AV:=(Z2 x13.2.1.Params x13.2.1.Ret x13.2.1.Blocks x13.2.2.1.At x13.2.2.1.Then x13.2.2.1.Else x13.2.2.1.Join x13.2.2.2.1 x13.2.2.2.2)
def xi(x18:oD):List AV:=(Z2 x18.2.1.Params x18.2.1.Ret x18.2.1.Blocks x18.2.2.1.At x18.2.2.1.Then x18.2.2.1.Else x18.2.2.1.Join x18.2.2.2.1 x18.2.2.2.2)
abbrev zy:=(Ay×TFunc×THammock×List Ay×Int)
def Iq(a1:Ay)(aL:Int)(a3:TFunc)(a5:THammock)(a7:List Ay)(a8:Int):Option zy:=
 (Option.bind (α:=(Int×An×An×Int×List Ab×Int×Int×Int×Int×List Ay×Int)) (bif (a1.Kind==16) then(Ax (As (0:Int) a1.Args.length) ((Ci (0:Int) a1.Bits (0:Int) ([]:An) a3 a5 a7 a8).bind λx13=>(some ((18:Int),([aL,(a1.Args.getD (0:Int).toNat (0:Int)),x13.1]:An),x13.2.1.Params,x13.2.1.Ret,x13.2.1.Blocks,x13.2.2.1.At,x13.2.2.1.Then,x13.2.2.1.Else,x13.2.2.1.Join,x13.2.2.2.1,x13.2.2.2.2)))) else(bif (a1.Kind==17) then(Ax (As (0:Int) a1.Args.length) (Ax (As (1:Int) a1.Args.length) (some ((19:Int),([aL,(a1.Args.getD (0:Int).toNat (0:Int)),(a1.Args.getD (1:Int).toNat (0:Int))]:An),a3.Params,a3.Ret,a3.Blocks,a5.At,a5.Then,a5.Else,a5.Join,a7,a8)))) else(bif (a1.Kind==4) then(Ax (As (0:Int) a1.Args.length) (Ax (As (1:Int) a1.Args.length) ((Ci (0:Int) a1.Bits (0:Int) ([]:An) a3 a5 a7 a8).bind λx18=>(some ((20:Int),([aL,(a1.Args.getD (0:Int).toNat (0:Int)),(a1.Args.getD (1:Int).toNat (0:Int)),x18.1]:An),x18.2.1.Params,x18.2.1.Ret,x18.2.1.Blocks,x18.2.2.1.At,x18.2.2.1.Then,x18.2.2.1.Else,x18.2.2.1.Join,x18.2.2.2.1,x18.2.2.2.2))))) else(Option.bind (α:=Bool) (bif (a1.Kind==18) then(some (a1.Kind==18)) else(bif (a1.Kind==19) then(some (a1.Kind==19)) else(some (a1.Kind==20)))) (λx20=>(bif x20 then(Ax (As (0:Int) a1.Args.length) ((Ci (5:Int) (1:Int) (0:Int) ([(a1.Args.getD (0:Int).toNat (0:Int)),aL]:An) a3 a5 a7 a8).bind λx23=>(Ax (0<=(1:Int)/\(1:Int)<=(a1.Args.length:Int)) (Ax (([x23.1]:An).length+(a1.Args.drop (1:Int).toNat).length<=room) (some (a1.Kind,(([x23.1]:An)++(a1.Args.drop (1:Int).toNat)),x23.2.1.Params,x23.2.1.Ret,x23.2.1.Blocks,x23.2.2.1.At,x23.2.2.1.Then,x23.2.2.1.Else,x23.2.2.1.Join,x23.2.2.2.1,x23.2.2.2.2)))))) else(some (a1.Kind,a1.Args,a3.Params,a3.Ret,a3.Blocks,a5.At,a5.Then,a5.Else,a5.Join,a7,a8)))))))) (λ(i1,l2,l3,i4,l5,i6,i7,i8,i9,l10,i11)=>(some ((⟨i1,a1.Bits,a1.Lanes,a1.Dst,l2,a1.Imm⟩:Ay),(⟨l3,i4,l5⟩:TFunc),(⟨i6,i7,i8,i9⟩:THammock),l10,i11))))
variable{v42:zy}
theorem Xe(h:Iq v6 v1 v0 v37 v7 v11=some v42):sP 165 [U1,(QM v6),(Z6 v1)] (QK v0.Params v0.Ret v0.Blocks v37.At v37.Then v37.Else v37.Join v7 v11 v7.length) (QM v42.1) (QK v42.2.1.Params v42.2.1.Ret v42.2.1.Blocks v42.2.2.1.At v42.2.2.1.Then v42.2.2.1.Else v42.2.2.1.Join v42.2.2.2.1 v42.2.2.2.2 v42.2.2.2.1.length):=
 sG Tryz.func165 λΓ q=>Ae q [0,2,4,6] Se (tB h λx26 y26 h=>gJ y26 (λ(i1,l2,l3,i4,l5,i6,i7,i8,i9,l10,i11)=>aG Γ .normal (⟨[V6,LM],[(4,.row 51 (xH i1 v6.Bits v6.Lanes v6.Dst l2 v6.Imm)),(6,.row 51 oX),(30000,.row 71 (Z2 l3 i4 l5 i6 i7 i8 i9 l10 i11)),(Tj 37007 l10.length)],[]⟩:St)) (λy h=>tW q [0,2,4,6,9] Se [0,2,4,6,9,10] Se (gC h (λh=>tC h λc12_ h=>tB h λx13 y13 h=>gR q V4 Se [(21,(u0 v1 (RD v6) x13.1))] [(Z82 37007 x13.1 71 (xh x13) x13.2.2.2.1.length)] (c3 c12_ (show(sP 117 (Aam v6) (di 71 (tx v0 v37 v7 v11) 37007 v7.length) (Z6 x13.1) (di 71 (xh x13) 37007 x13.2.2.2.1.length)) from(Spec.args (.cons (AVle.refl _) (.cons (AVle.refl _) (.cons (AVle.refl _) (.cons (AVle.refl _) (.cons Ys .nil))))) (Ep y13))) (Au 1 Aj (0:Int) ([v1,(RD v6),x13.1]:An))) (tS h (gK (A2 (Le.trans (A5 (st':=⟨[V6,LM],[(4,.row 51 [(FA 18),(Z6 v6.Bits),(Z6 v6.Lanes),(Z6 v6.Dst),(u0 v1 (RD v6) x13.1),(Ti v6.Imm)]),(6,.row 51 oX),(30000,.row 71 (xh x13)),(Tj 37007 x13.2.2.2.1.length)],[]⟩) V4 Se q) (Et (.cons (AVle.refl _) (.cons (AVle.refl _) .nil)) (.row (.cons (AVle.refl _) (.cons (AVle.refl _) (.cons (AVle.refl _) (.cons (AVle.refl _) (.cons AVle.untag (.cons (AVle.refl _) .nil)))))) (.same (.same (.same .nil)))))))))) λh=>Ae q [0,2,4,6,9,24] Se (gC h (λh=>tC h λc14_ h=>tC h λc15_ h=>gR q V4 Se [(35,(u0 v1 (RD v6) (mD v6)))] [] (c3 c14_ c15_ (Au 1 Aj (0:Int) ([v1,(RD v6),(mD v6)]:An))) (tS h (gK (A2 (Le.trans (A5 (st':=⟨[V6,LM],[(4,.row 51 [(FA 19),(Z6 v6.Bits),(Z6 v6.Lanes),(Z6 v6.Dst),(u0 v1 (RD v6) (mD v6)),(Ti v6.Imm)]),(6,.row 51 oX),(30000,.row 71 (tx v0 v37 v7 v11)),(Tj 37007 v7.length)],[]⟩) V4 Se q) (Et (.cons (AVle.refl _) (.cons (AVle.refl _) .nil)) (.row (.cons (AVle.refl _) (.cons (AVle.refl _) (.cons (AVle.refl _) (.cons (AVle.refl _) (.cons AVle.untag (.cons (AVle.refl _) .nil)))))) (.same (.same (.same .nil)))))))))) λh=>Ae q [0,2,4,6,9,38] Se (gC h (λh=>tC h λc16_ h=>tC h λc17_ h=>tB h λx18 y18 h=>gR q V4 Se [(53,(pM v1 (RD v6) (mD v6) x18.1))] [(Z82 37007 x18.1 71 (xi x18) x18.2.2.2.1.length)] (c4 c16_ c17_ (show(sP 117 (Aam v6) (di 71 (tx v0 v37 v7 v11) 37007 v7.length) (Z6 x18.1) (di 71 (xi x18) 37007 x18.2.2.2.1.length)) from(Spec.args (.cons (AVle.refl _) (.cons (AVle.refl _) (.cons (AVle.refl _) (.cons (AVle.refl _) (.cons Ys .nil))))) (Ep y18))) (Au 1 Aj (0:Int) ([v1,(RD v6),(mD v6),x18.1]:An))) (tS h (gK (A2 (Le.trans (A5 (st':=⟨[V6,LM],[(4,.row 51 [(FA 20),(Z6 v6.Bits),(Z6 v6.Lanes),(Z6 v6.Dst),(pM v1 (RD v6) (mD v6) x18.1),(Ti v6.Imm)]),(6,.row 51 oX),(30000,.row 71 (xi x18)),(Tj 37007 x18.2.2.2.1.length)],[]⟩) V4 Se q) (Et (.cons (AVle.refl _) (.cons (AVle.refl _) .nil)) (.row (.cons (AVle.refl _) (.cons (AVle.refl _) (.cons (AVle.refl _) (.cons (AVle.refl _) (.cons AVle.untag (.cons (AVle.refl _) .nil)))))) (.same (.same (.same .nil)))))))))) λh=>tB h λx20 y20 h=>gJ y20 (λb19=>aG Γ .normal (⟨[(0,U1),(2,(Z6 v1)),V6,LM,(56,(.bool b19))],[(4,.row 51 (xH v6.Kind v6.Bits v6.Lanes v6.Dst v6.Args v6.Imm)),(6,.row 51 oX),(30000,.row 71 (tx v0 v37 v7 v11)),(Tj 37007 v7.length)],[]⟩:St)) (λy h=>Ae q [0,2,4,6,9,56] Se (gC h (λh=>tS h (gK (A2 (A5 kG Se q)))) λh=>Ae q [0,2,4,6,9,56] Se (gC h (λh=>tS h (gK (A2 (A5 kG Se q)))) λh=>Ae q kG Se (tS h (gK (A2 Gj)))))) (gA (gC h (λh=>tC h λc22_ h=>tB h λx23 y23 h=>gR q [4,6,7] Se [(66,(pL (RD v6) v1))] [(ut x23.1 x23.2.1.Params x23.2.1.Ret x23.2.1.Blocks x23.2.2.1.At x23.2.2.1.Then x23.2.2.1.Else x23.2.2.1.Join x23.2.2.2.1 x23.2.2.2.2 x23.2.2.2.1.length)] (c3 c22_ (Au 1 Aj (0:Int) ([(RD v6),v1]:An)) (Ep y23)) (tC h λc24_ h=>tC h λc25_ h=>gR q V4 [4,6,73,30000,37007] [(69,(ke x23.1)),(72,(Z8 (mE v6))),(73,(AV.list 1 Aj 0 (([x23.1]:An)++(mE v6)) (.own 73)))] [] (c7 (Au 1 Aj (0:Int) ([x23.1]:An)) c24_ (show(AVle (Z71 v6.Args) (Z8 (mE v6))) from QQ) c25_ (show(3=Yd->([x23.1]:An).length=0\/0<(mE v6).length) from(λh_=>absurd h_ (by decide))) (Cf 1 73 Aj (0:Int) ([x23.1]:An) (mE v6)) (Bg ([x23.1]:An) (mE v6))) (tS h (gK (A2 (A5 V4 Se q)))))) λh=>tS h (gK (A2 (A5 V4 Se q))))))))) (match x26,h with|⟨i1,l2,l3,i4,l5,i6,i7,i8,i9,l10,i11⟩,h=>gA (Ae q [6] [6,30000,37007] (tS h (Bm EY)))))
abbrev z6:=(Int×An×Int×List Ab×Int×Int×Int×Int×List Ay×Int)
def G8(aaQ:List Ay)(aaW:Int):z6->Option (LR (Int×An×Int×List Ab×Int×Int×Int×Int×List Ay×Int) (An×Int×List Ab×Int×Int×Int×Int×List Ay×Int)):=
 λ((i1,l2,i3,l4,i5,i6,i7,i8,l9,i10):z6)=>(bif (decide (i1<(aaQ.length:Int))) then(Ax (As i1 aaQ.length) ((Iq (aaQ.getD i1.toNat default) aaW (⟨l2,i3,l4⟩:TFunc) (⟨i5,i6,i7,i8⟩:THammock) l9 i10).bind λx21=>(Ax (x21.2.2.2.1.length+([(⟨x21.1.Kind,x21.1.Bits,x21.1.Lanes,x21.1.Dst,x21.1.Args,x21.1.Imm⟩:Ay)]:List Ay).length<=room) (some (.next ((w64 (i1+1)),x21.2.1.Params,x21.2.1.Ret,x21.2.1.Blocks,x21.2.2.1.At,x21.2.2.1.Then,x21.2.2.1.Else,x21.2.2.1.Join,(x21.2.2.2.1++([(⟨x21.1.Kind,x21.1.Bits,x21.1.Lanes,x21.1.Dst,x21.1.Args,x21.1.Imm⟩:Ay)]:List Ay)),x21.2.2.2.2)))))) else(some (.done (l2,i3,l4,i5,i6,i7,i8,l9,i10))))
def tz(x21:zy):=([(⟨x21.1.Kind,x21.1.Bits,x21.1.Lanes,x21.1.Dst,x21.1.Args,x21.1.Imm⟩:Ay)]:List Ay)
abbrev wx:=(TFunc×THammock×List Ay×Int)
def El(aaQ:List Ay)(aaW:Int)(a3:TFunc)(a5:THammock)(a7:List Ay)(a8:Int):Option wx:=
 ((Ad (G8 aaQ aaW) ((0:Int),a3.Params,a3.Ret,a3.Blocks,a5.At,a5.Then,a5.Else,a5.Join,a7,a8)).bind (λ(l11,i12,l13,i14,i15,i16,i17,l18,i19)=>(some ((⟨l11,i12,l13⟩:TFunc),(⟨i14,i15,i16,i17⟩:THammock),l18,i19))))
variable{v43:wx}
theorem Qm(h:El v7 v1 v0 v37 v39 v11=some v43):sP 114 [U1,(QL v7),(Z6 v1)] (QK v0.Params v0.Ret v0.Blocks v37.At v37.Then v37.Else v37.Join v39 v11 v39.length) (.tuple []) (QK v43.1.Params v43.1.Ret v43.1.Blocks v43.2.1.At v43.2.1.Then v43.2.1.Else v43.2.1.Join v43.2.2.1 v43.2.2.2 v43.2.2.1.length):=
 sG Tryz.func114 λΓ q=>Ae q dG M4 (tL q h dG M4 (λu (i1,l2,i3,l4,i5,i6,i7,i8,l9,i10)=>(Cl u [(10,(Z6 i1))] (QK l2 i3 l4 i5 i6 i7 i8 l9 i10 l9.length))) (λu (l11,i12,l13,i14,i15,i16,i17,l18,i19)=>aG Γ (.exit 0) (⟨[],(QK l11 i12 l13 i14 i15 i16 i17 l18 i19 l18.length),[]⟩:St)) (λ⟨i1,l2,i3,l4,i5,i6,i7,i8,l9,i10⟩ y h=>Ae q [0,2,8,9,10,11] M4 (gC h (λh=>tV q [0,2,7,8,9,10] [7,30000,37007] h λh=>tB h λx21 y21 h=>tT q [0,2,7,8,9,10] [7,30000,37007] [⟨EY,[],(QM x21.1),(QK x21.2.1.Params x21.2.1.Ret x21.2.1.Blocks x21.2.2.1.At x21.2.2.1.Then x21.2.2.1.Else x21.2.2.1.Join x21.2.2.2.1 x21.2.2.2.2 x21.2.2.2.1.length),[],[]⟩] (c1 (Xe y21)) (tC h λc22_ h=>gR q dG M4 (Z42 24 (tz x21) 25 x21.2.2.2.1 37007) [] (c5 (Au 6 Ig (default:Ay) (tz x21)) (Eq.refl x21.2.2.2.1.length) c22_ (Cf 6 37007 Ig (default:Ay) x21.2.2.2.1 (tz x21)) (Bg x21.2.2.2.1 (tz x21))) (Ae q dG M4 (tN h)))) λh=>tS h (gO (A2 (A5 [] M4 q))))) λx23 h=>(match x23,h with|⟨l11,i12,l13,i14,i15,i16,i17,l18,i19⟩,h=>nI (λst' hl24=>tS h (gK (e:=.normal) (Hu EY hl24)))))
def Wm(aX:Int):Option Bool:=
 (Option.bind (α:=Bool) (bif (aX==4) then(some (aX==4)) else(bif (aX==16) then(some (aX==16)) else(bif (aX==17) then(some (aX==17)) else(bif (aX==18) then(some (aX==18)) else(bif (aX==19) then(some (aX==19)) else(some (aX==20))))))) (λx2=>(bif x2 then(some false) else((Pp aX).bind λx4=>(some x4)))))
theorem cJ(h:Wm v1=some v3):sP 166 [(Z6 v1)] [] (.bool v3) []:=
 sG Tryz.func166 λΓ q=>tW q [0] [] M3 [] (tB h λx2 y2 h=>gJ y2 (λb1=>aG Γ .normal (⟨[(0,(Z6 v1)),(4,(.bool b1))],[],[]⟩:St)) (λy h=>Ae q Ue [] (gC h (λh=>tS h (gK (A2 (A5 [0,4] [] q)))) λh=>Ae q Ue [] (gC h (λh=>tS h (gK (A2 (A5 [0,4] [] q)))) λh=>Ae q Ue [] (gC h (λh=>tS h (gK (A2 (A5 [0,4] [] q)))) λh=>Ae q Ue [] (gC h (λh=>tS h (gK (A2 (A5 [0,4] [] q)))) λh=>Ae q Ue [] (gC h (λh=>tS h (gK (A2 (A5 [0,4] [] q)))) λh=>Ae q [0,4] [] (tS h (gK (A2 Gj))))))))) (gA (gC h (λh=>Ae q [2] [] (tS h (Bm []))) λh=>tB h λx4 y4 h=>tT q [2] [] [(Z7 x4)] (c1 (DQ y4)) (tS h (Bm [])))))
def Pd(a2:Ay):Option Bool:=
 ((Wm a2.Kind).bind λx1=>(some (!x1)))
theorem DN(h:Pd v6=some v3):sP 116 [(QM v6)] [] (.bool v3) []:=
 sG Tryz.func116 λΓ q=>Ae q [1] [1] (tB h λx1 y1 h=>tT q [2] [] [(Z7 x1)] (c1 (cJ y1)) (tS h (Bm [])))
def m_slices_IndexFunc_api_Op_api_Op_v2_L1(aO:List Ay):Int->Option (LR Int (Unit ⊕ Int)):=
 λ(i1:Int)=>(bif (decide (i1<(aO.length:Int))) then(Ax (As i1 aO.length) ((Pd (aO.getD i1.toNat default)).bind λx3=>(bif x3 then(some (.done (.inr i1))) else(some (.next (w64 (i1+1))))))) else(some (.done (.inl ()))))
def Pl(Γ:Hx)(aO:List Ay)(r:Int):Exit->St->Prop:=fK Tryz.prog Γ Tryz.f113.results.toList [] (.int .i64 r) []
def Fh(aO:List Ay):Option Int:=
 ((Ad (m_slices_IndexFunc_api_Op_api_Op_v2_L1 aO) (0:Int)).bind (λx4=>(match x4 with|(.inl _)=>(some (-1:Int))|(.inr r6)=>(some r6))))
theorem Pi(h:Fh v7=some v1):sP 113 [(QL v7),(.clo 116 [] [])] [] (.int .i64 v1) []:=
 sG Tryz.func113 λΓ q=>tW q Gf [] Zx [] (tL q h Zx [] (λu i1=>(Cl u [(8,(Z6 i1))] [])) (λu x_=>match x_ with|(.inl _)=>aG Γ (.exit 0) (⟨[],[],[]⟩:St)|(.inr r_)=>aR (Pl Γ v7 r_)) (λi1 y h=>Ae q kL [] (gC h (λh=>Ae q kM [] (tC h λc2_ h=>tB h λx3 y3 h=>tT q jz [] [(Z7 x3)] (c2 c2_ (DN y3)) (gC h (λh=>Ae q [4] [] (tS h (gO (L2 (Hu [] (Le.refl _ _)))))) λh=>Ae q Zx [] (tN h)))) λh=>tS h (gO (A2 (A5 [] [] q))))) λx4 h=>(match x4,h with | .inl _,h=>gA (Ae q [4] [] (tS h (Bm []))) | .inr r6,h=>gAr (λst' hk=>tS h (gK hk))))
def Cq(aO:List Ay):Option Bool:=
 ((Fh aO).bind λx1=>(some (decide ((0:Int)<=x1))))
theorem Ny(h:Cq v7=some v3):sP 60 [(QL v7),(.clo 116 [] [])] [] (.bool v3) []:=
 sG Tryz.func60 λΓ q=>Ae q Gf [] (tB h λx1 y1 h=>tT q [4] [] [(EZ x1)] (c1 (Pi y1)) (tS h (Bm [])))
def t6(x2:wx):List AV:=(Z2 x2.1.Params x2.1.Ret x2.1.Blocks x2.2.1.At x2.2.1.Then x2.2.1.Else x2.2.1.Join x2.2.2.1 x2.2.2.2)
def Aao(a3:TFunc)(a5:THammock)(a7:List Ay)(a8:Int):List AV:=(Z2 a3.Params a3.Ret a3.Blocks a5.At a5.Then a5.Else a5.Join a7 a8)
def Aan(x15:oD):List LK:=(QK x15.2.1.Params x15.2.1.Ret x15.2.1.Blocks x15.2.2.1.At x15.2.2.1.Then x15.2.2.1.Else x15.2.2.1.Join x15.2.2.2.1 x15.2.2.2.2 x15.2.2.2.1.length)
def H2(aaE:Int)(a3:TFunc)(a5:THammock)(a7:List Ay)(a8:Int):Option wx:=
 ((Fy a5.Then a3 a5 a7 a8).bind λx1=>((El x1 aaE a3 a5 a7 a8).bind λx2=>((Fy x2.2.1.Else x2.1 x2.2.1 x2.2.2.1 x2.2.2.2).bind λx3=>(Option.bind (α:=z6) ((Cq x3).bind λx14=>(bif x14 then((Ci (0:Int) (1:Int) (1:Int) ([]:An) x2.1 x2.2.1 x2.2.2.1 x2.2.2.2).bind λx15=>((Ci (7:Int) (1:Int) (0:Int) ([aaE,x15.1]:An) x15.2.1 x15.2.2.1 x15.2.2.2.1 x15.2.2.2.2).bind λx16=>(some (x16.1,x16.2.1.Params,x16.2.1.Ret,x16.2.1.Blocks,x16.2.2.1.At,x16.2.2.1.Then,x16.2.2.1.Else,x16.2.2.1.Join,x16.2.2.2.1,x16.2.2.2.2)))) else(some ((0:Int),x2.1.Params,x2.1.Ret,x2.1.Blocks,x2.2.1.At,x2.2.1.Then,x2.2.1.Else,x2.2.1.Join,x2.2.2.1,x2.2.2.2)))) (λ(i4,l5,i6,l7,i8,i9,i10,i11,l12,i13)=>((El x3 i4 (⟨l5,i6,l7⟩:TFunc) (⟨i8,i9,i10,i11⟩:THammock) l12 i13).bind λx19=>(some (x19.1,x19.2.1,x19.2.2.1,x19.2.2.2))))))))
theorem V9(h:H2 v1 v0 v37 v7 v11=some v43):sP 63 [U1,(Z6 v1)] (QK v0.Params v0.Ret v0.Blocks v37.At v37.Then v37.Else v37.Join v7 v11 v7.length) (.tuple []) (QK v43.1.Params v43.1.Ret v43.1.Blocks v43.2.1.At v43.2.1.Then v43.2.1.Else v43.2.1.Join v43.2.2.1 v43.2.2.2 v43.2.2.1.length):=
 sG Tryz.func63 λΓ q=>tB h λx1 y1 h=>tB h λx2 y2 h=>tT q Gf M4 [⟨EY,[],(QL x1),(di 71 (Aao v0 v37 v7 v11) 37007 v7.length),[],M4⟩,⟨EY,[],(.tuple []),(di 71 (t6 x2) 37007 x2.2.2.1.length),[],[]⟩] (ci (Pr y1) (rkc [(.row 71 (Aao v0 v37 v7 v11)),(.tok 6 51 v7.length)] (c1 (Qm y2)))) (tB h λx3 y3 h=>tT q [0,1,4] M4 [⟨EY,[],(QL x3),(di 71 (t6 x2) 37007 x2.2.2.1.length),[],M4⟩] (ci (Pr y3) (rkl [(.row 71 (t6 x2)),(.tok 6 51 x2.2.2.1.length)])) (Ae q [0,1,4,5] M4 (tB h λx17 y17 h=>gJ y17 (λ(i4,l5,i6,l7,i8,i9,i10,i11,l12,i13)=>aG Γ .normal (⟨[(0,U1),(4,(QL x3)),(5,(Z6 i4))],(QK l5 i6 l7 i8 i9 i10 i11 l12 i13 l12.length),[]⟩:St)) (λy h=>tB h λx14 y14 h=>tT q [0,1,4,5,24] M4 [(Z7 x14)] (c1 (Ny y14)) (gC h (λh=>tB h λx15 y15 h=>tB h λx16 y16 h=>gR q [0,4,5] M4 [(29,(pL v1 x15.1))] [(uw 37007 x15.1 (Aan x15)),(ut x16.1 x16.2.1.Params x16.2.1.Ret x16.2.1.Blocks x16.2.2.1.At x16.2.2.1.Then x16.2.2.1.Else x16.2.2.1.Join x16.2.2.2.1 x16.2.2.2.2 x16.2.2.2.1.length)] (c3 (show(sP 117 [U1,Jf,kg,(.int .u64 (1:Int)),me] (di 71 (t6 x2) 37007 x2.2.2.1.length) (Z6 x15.1) (Aan x15)) from(Spec.args (.cons (AVle.refl _) (.cons (AVle.refl _) (.cons (AVle.refl _) (.cons (AVle.refl _) (.cons Ys .nil))))) (Ep y15))) (Au 1 Aj (0:Int) ([v1,x15.1]:An)) (Ep y16)) (tS h (gK (A2 Gj)))) λh=>tS h (gK (A2 (A5 [0,4,5] M4 q))))) (match x17,h with|⟨i4,l5,i6,l7,i8,i9,i10,i11,l12,i13⟩,h=>gA (tB h λx19 y19 h=>tT q [] M4 [⟨EY,[],(.tuple []),(QK x19.1.Params x19.1.Ret x19.1.Blocks x19.2.1.At x19.2.1.Then x19.2.1.Else x19.2.1.Join x19.2.2.1 x19.2.2.2 x19.2.2.1.length),[],[]⟩] (c1 (Qm y19)) (tS h (gK (e:=.normal) (Hu EY (Le.refl _ _)))))))))
def Hc(aaX:Int)(a3:TFunc)(a5:THammock)(a7:List Ay)(a8:Int):Option Int:=
 (bif (aaX==-1) then(some a5.At) else(some aaX))
theorem R3(h:Hc v1 v0 v37 v7 v11=some v20):sP 118 [U1,(Z6 v1)] (QK v0.Params v0.Ret v0.Blocks v37.At v37.Then v37.Else v37.Join v7 v11 v7.length) (.int .i64 v20) (QK v0.Params v0.Ret v0.Blocks v37.At v37.Then v37.Else v37.Join v7 v11 v7.length):=
 sG Tryz.func118 λΓ q=>tW q Gf M4 [0,1,6] M4 (gC h (λh=>Ae q [4] M4 (tS h (Bm EY))) λh=>Ae q [4] M4 (tS h (Bm EY)))
def Tn(aJ:A1)(aN:Int):Option Int:=
 ((Eo aJ.From aN).bind λx1=>(Ax (As x1 aJ.Args.length) (some (aJ.Args.getD x1.toNat 0))))
theorem KJ(h:Tn v4 v1=some v11):sP 120 [(.agg (Dv v4)),(Z6 v1)] [] (.int .i64 v11) []:=
 sG Tryz.func120 λΓ q=>Ae q Nw [2] (tB h λx1 y1 h=>tC h λc2_ h=>tT q [4] [] [(EZ x1)] (c2 (Qn y1) c2_) (tS h (Bm [])))
def Jl(aI:Int)(aaE:Int)(aaR:Int)(aaT:Int)(a3:TFunc)(a5:THammock)(a7:List Ay)(a8:Int):Option oD:=
 (bif (aaR==aaT) then(some (aaR,a3,a5,a7,a8)) else((Ci (13:Int) aI (0:Int) ([aaE,aaR,aaT]:An) a3 a5 a7 a8).bind λx1=>(some (x1.1,x1.2.1,x1.2.2.1,x1.2.2.2.1,x1.2.2.2.2))))
variable{v44:Int}
theorem X3(h:Jl v1 v11 v20 v40 v0 v37 v7 v44=some v41):sP 119 [U1,(Z6 v1),(Z6 v11),(Z6 v20),(Z6 v40)] (QK v0.Params v0.Ret v0.Blocks v37.At v37.Then v37.Else v37.Join v7 v44 v7.length) (Z6 v41.1) (QK v41.2.1.Params v41.2.1.Ret v41.2.1.Blocks v41.2.2.1.At v41.2.2.1.Then v41.2.2.1.Else v41.2.2.1.Join v41.2.2.2.1 v41.2.2.2.2 v41.2.2.2.1.length):=
 sG Tryz.func119 λΓ q=>tW q VO M4 [0,1,2,3,4,13] M4 (gC h (λh=>Ae q [10] M4 (tS h (Bm EY))) λh=>tB h λx1 y1 h=>gR q [10] M4 [(20,(u0 v11 v20 v40))] [(ut x1.1 x1.2.1.Params x1.2.1.Ret x1.2.1.Blocks x1.2.2.1.At x1.2.2.1.Then x1.2.2.1.Else x1.2.2.1.Join x1.2.2.2.1 x1.2.2.2.2 x1.2.2.2.1.length)] (c2 (Au 1 Aj (0:Int) ([v11,v20,v40]:An)) (Ep y1)) (tS h (Bm EY)))
def P4(aD:Int):Option Bool:=
 (some (aD !=aD))
theorem X1(h:P4 v1=some v3):sP 228 [(Z6 v1)] [] (.bool v3) []:=
 sG Tryz.func228 λΓ q=>tW q [0] [] [2] [] (tS h (Bm []))
def Vb(aD:Int)(aa7:Int):Option Bool:=
 ((P4 aD).bind λx1=>((bif (x1==true) then P4 aa7 else some false).bind λx2=>(some (bif (bif x1 then(!x2) else false) then true else(decide (aD<aa7))))))
theorem PY(h:Vb v1 v11=some v3):sP 198 [(Z6 v1),(Z6 v11)] [] (.bool v3) []:=
 sG Tryz.func198 λΓ q=>Ae q Gf [] (tB h λx1 y1 h=>tB h λx2 y2 h=>tT q [4] [] [(Z7 x1),(Z7 x2)] (d5_ (X1 y1) (gI (x1==true)) (λ(hg:(x1==true)=true)=>(X1 (A6 hg y2))) (gI (x1==true)) (Lz x1) (Ju ((bif x1 then(!x2) else false)==false) (c1 (Hv (bif x1 then(!x2) else false))))) (tS h (Bm [])))
def Mv(aD:Int):Option Bool:=
 (some (aD !=aD))
theorem Uj(h:Mv v1=some v3):sP 199 [(Z6 v1)] [] (.bool v3) []:=
 sG Tryz.func199 λΓ q=>tW q [0] [] [2] [] (tS h (Bm []))
def B5(aD:An)(aa5:Int):H6->Option lp:=
 λ((i1,i2):H6)=>(bif (decide (i1<i2)) then(Ax (As (w64 (Yc .u64 (Jc (w64 (i1+i2))) (1:Int))) aD.length) ((Vb (aD.getD (w64 (Yc .u64 (Jc (w64 (i1+i2))) (1:Int))).toNat (0:Int)) aa5).bind λx5=>(bif x5 then(some (.next ((w64 ((w64 (Yc .u64 (Jc (w64 (i1+i2))) (1:Int)))+1)),i2))) else(some (.next (i1,(w64 (Yc .u64 (Jc (w64 (i1+i2))) (1:Int))))))))) else(some (.done i1)))
def oY(x6:Int)(aD:An):=((decide (x6<(aD.length:Int)))==true)
def XC(x6:Int)(aD:An)(aa5:Int):=((oY x6 aD)&&(((aD.getD x6.toNat 0)==aa5)==false))
def E0(aD:An)(aa5:Int):Option (Int×Bool):=
 ((Ad (B5 aD aa5) ((0:Int),(aD.length:Int))).bind (λx6=>(Ax (((decide (x6<(aD.length:Int)))==true)=true->(As x6 aD.length)) (Ax ((((decide (x6<(aD.length:Int)))==true)&&(((aD.getD x6.toNat 0)==aa5)==false))=true->(As x6 aD.length)) ((bif (((decide (x6<(aD.length:Int)))==true)&&(((aD.getD x6.toNat 0)==aa5)==false)) then Mv (aD.getD x6.toNat 0) else some false).bind λx10=>((bif ((((decide (x6<(aD.length:Int)))==true)&&(((aD.getD x6.toNat 0)==aa5)==false))&&(x10==true)) then Mv aa5 else some false).bind λx11=>(some (x6,(bif (decide (x6<(aD.length:Int))) then(bif ((aD.getD x6.toNat 0)==aa5) then true else(bif x10 then x11 else false)) else false)))))))))
variable{v45:(Int×Bool)}
theorem S2(h:E0 v2 v1=some v45):sP 167 [(Z8 v2),(Z6 v1)] [] (.tuple [(Z6 v45.1),(.bool v45.2)]) []:=
 sG Tryz.func167 λΓ q=>tW q Gf [] [0,1,6] [] (Ae q VK [] (tL q h VK [] (λu (i1,i2)=>(Cl u [(7,(Z6 i1)),(8,(Z6 i2))] [])) (λu i3=>aG Γ (.exit 0) (M2 VW [] u [(7,(Z6 i3))] [])) (λ⟨i1,i2⟩ y h=>Ae q [0,1,6,7,8,15] [] (gC h (λh=>tU q [0,1,6,7,8,9] [] (c1 (show(0<=(1:Int)) from(by decide))) (tC h λc4_ h=>tB h λx5 y5 h=>tT q [0,1,6,7,8,9,27] [] [(Z7 x5)] (c2 c4_ (PY y5)) (gC h (λh=>Ae q VK [] (tN h)) λh=>Ae q VK [] (tN h)))) λh=>tS h (gO (A2 (A5 VW [] q))))) λx6 h=>gA (tC h λc8_ h=>tC h λc9_ h=>tB h λx10 y10 h=>tB h λx11 y11 h=>tT q Qu [] [(Z7 x10),(Z7 x11)] (Ju (oY x6 v2) (ci c8_ (JT (oY x6 v2) (Ju (XC x6 v2 v1) (ci c9_ (Ju (XC x6 v2 v1) (c9 (λ(hg:(XC x6 v2 v1)=true)=>(Uj (A6 hg y10))) (gI (XC x6 v2 v1)) (gI ((XC x6 v2 v1)&&(x10==true))) (λ(hg:((XC x6 v2 v1)&&(x10==true))=true)=>(Uj (A6 hg y11))) (gI (XC x6 v2 v1)) (show((XC x6 v2 v1)=true->(x10=true->((XC x6 v2 v1)&&(x10==true))=true)) from(λhg=>(aT hg))) (gI (oY x6 v2)) (show((oY x6 v2)=true->(((v2.getD x6.toNat 0)==v1)=false->(XC x6 v2 v1)=true)) from(λhg=>(aF hg))) (Lz (decide (x6<(v2.length:Int))))))))))) (tS h (Bm [])))))
end
end Go.Proofs.YtlnbjgmjaioagaaGreat
