/-
  The machine, the program's functions and the laws' arithmetic: part 3 of 6.
-/
import Derived.Test.YthelaonnkkpbfaaGreatPk2
import Derived.Test.YthelaonnkkpbfaaGreatProg
set_option linter.unusedSectionVars false
set_option linter.unusedVariables false
set_option linter.unusedSimpArgs false
namespace Go.Proofs.YthelaonnkkpbfaaGreat
noncomputable section
abbrev Aq:=List Int
abbrev Nw:=List (List Int)
def Jq:=[30000,37006,9100005]
def IQ:=[(30000,30000),(37006,37006),(9100005,9100005)]
def Jw:=[30000,37006]
def Vc:=[3,30000,37006,9100005]
def R9:=[2,5,6,25,36007]
def Kp:=[1,5,5003]
def YY:=[2,3,4,7,8,9,10,14,15,16,17,18,20,21]
def Yv:=[6,30000,37006,9100005]
def Nv:=[30000,37007]
def HC:=[(30000,30000),(37007,37007)]
def GU:=[2,3,4,14,17,20,43,47,5015,7002,7003]
def D4:=[1,3,4]
def Ou:=[7,30000,37000]
def Cf:=[2,3]
def DE:=[(30000,30000),(37006,37006)]
def Th:=[4,6,30000,37007]
def P7:=[2,3,4,43,47]
def Kn:=[1,3,4,5]
def Vj:=[5,10,36011,36012]
def K9:=[2,13,21]
def Ti:=[8,30000,37006]
def RI:=[1,2,3,4,5,10,11,12,18,19,20]
def Ov:=[1,7,8,9]
def DF:=[30000,37006,13000005]
def NF:=[3,5,30000,37006,9100005]
def NG:=[0,4,6,21,22,30,31,32]
def io:=[2,3,4,14,23,24,43,47,256,5015,6402,7400]
def Uy:=[1,3,4,5,6]
def NH:=[2,3,4,8,14,15,22,24]
def Gu:=[0,1]
def NI:=[2,3,4,14,43,47,5015]
def JK:=[2,5,6,7,26,27,28]
def X4:=[2,7,77,70077]
def YU:=[2,3,4,14,43,47,5015,6402]
def Mr:=[37,75]
def Ow:=[1,5003]
def cS:=[2,3,4,8,14,15,22,23,24,25]
def JL:=[1,3,5,21,22,23]
def JM:=[1,2,4,10,11,12]
def ip:=[2,3,4,14,24,43,47,256,5015,6402]
def RJ:=[5,30000,37006,9100005]
def ng:=[0,2,3,8,9,16,17,18,54,55,56,62,63,64]
def cT:=[2,3,4,7,8,9,10,14,15,16]
def nh:=[0,2,3,5,16,17,18,24,25,26,31,32,33]
def Vk:=[1,6,5003]
def Qs:=[0,1,5]
def M7:=[3,14]
def Ko:=[1,3]
def cU:=[2,3,4,14,17,43,47,5015]
def JN:=[2,5,6,7,8,9]
def DG:=[1,2,7,5005]
def YV:=[1,2,4,5,6,7,8,10]
def cV:=[3,9,30000,37006,9100005]
def Ms:=[2,5]
def YW:=[0,2,6,7,90,91,92]
def YX:=[2,3,4,8,14,15,22]
def HA:=[2,5,6,7,8]
def iq:=[0,2,3,16,17,18,24,25,26]
def ir:=[0,2,3,16,17,18,54,55,56]
def W9:=[2,33,59]
def HB:=[0,1,2,6,7]
def cW:=[0,1,5,6,7,37,38,39]
def vA:=[(30000,30000),(37006,37006),(13000005,9200005)]
def vB:=[(30000,30000),(37006,37006),(9300005,9200005)]
def ni:=[1,3,5,6,7,21,22,23,50,51,52]
def X5:=[10,70010]
def YZ:=[2,3,4,7,8,9,10]
def Oa:=[1,2]
def JO:=[1,3,7,5005]
def iu:=[2,3,4,7,8,9,10,11,12]
def ZA:=[1,2,7,5005,5008]
def vC:=[2,3,4,14,24,43,47,256,5015,6402,7400]
def nj:=[1,3,5,6,7,21,22,23,50,51]
def ZB:=[5007,30000,37007]
def JP:=[30000,37000]
def cX:=[2,6,43,5602,30000]
def vD:=[2,3,4,14,23,24,43,47,256,5015,6402]
def RK:=[1,5,7,11,12]
def ZC:=[2,35,37,46,51]
def iv:=[(47,30000),(43,37000)]
def vE:=[1,3,5,6,7,10,11,21,22,23,50,51]
def vF:=[1,3,5,6,7,10,21,22,23,50,51,63]
def RL:=[1,7,8,9,10]
def X6:=[1,2,5]
def cY:=[3,31,30000,37006]
def ZD:=[2,6,17,18,19]
def cZ:=[1,5,7,11,12,13]
def vG:=[2,3,4,7,8,9,10,14,15,16,17,18]
def iw:=[1,2,5,6,7,8,9,10]
def RM:=[1,6,7,8,9]
def nk:=[3,4,11,12,13,18,19,20]
def np:=[0,5,12,13,14,18,19,20]
def R3:=[4,5]
def nq:=[3,5,14,15,16,21,22,23]
def DH:=[2,4,11]
def DI:=[2,4,10]
def AD:=[2,5,6]
def AE:=[1,4,7]
def nr:=[6,7,30000,37006,9100005]
def nt:=[1,5,7,11,12,13,14,15]
def Nu:=[0,3]
def lG:=[1,3,5,6,7,9,21,22,23,50,51]
def PJ:=[1,3,7,10,5005]
def KQ:=[1,7,8,9,16]
def lH:=[2,3,4,14,24,43,47,5015,6402]
def Yr:=[0,21,22]
def Vb:=[0,3,4]
def PK:=[31,30000,37006]
def Ok:=[1,4]
def CG:=[1,3,5,6]
def CH:=[0,1,7,8]
def CI:=[1,3,5005]
def eH:=[3,14,15,16,33,34,35]
def CJ:=[1,3,4,6]
def PL:=[1,2,5,6,7,8]
def XK:=[0,2,3,16,17,18]
def XL:=[1,2,4,6,7,8,9]
def lI:=[2,3,4,14,17,20,43,47,5015]
def GV:=[33,59,103]
def Pl:=[2,4]
def W6:=[1,2,4]
def lJ:=[0,4,6,21,22,30,31,32,33]
def lK:=[0,4,6,21,22,30,31,32,40]
def W7:=[2,4,6]
def KR:=[0,4,12,13]
def PM:=[0,5,8,9,10]
def lL:=[0,4,6,8,21,22,30,31,32]
def eI:=[1,2,4,5,13,14,15]
def PN:=[1,5,72,5003]
def GW:=[2,4,6,9]
def lM:=[(30000,30000),(37000,37000)]
def XM:=[2,3,7,8,9,10]
def XN:=[1,2,6,8,9,10]
def un:=[(30000,30000),(37006,37006),(8,9200005)]
def eK:=[1,3,4,5,9,10,11]
def KS:=[1,3,7,17]
def PO:=[0,16,17,18]
def lN:=[1,2,4,5,6,7,13,14,15]
def XO:=[0,2,4,7,8,9]
def PQ:=[1,2,4,5,6]
def PR:=[1,5,7,5003]
def eL:=[2,5,6,7,8,9,10]
def lO:=[6,8,30000,37006,9100005]
def uo:=[2,3,4,14,20,43,47,5015,7002,7003]
def XP:=[3,30000,37006]
def eM:=[2,4,5,18,19,20]
def lP:=[0,6,8,9,10,11,12,13]
def eO:=[2,3,25,43,30000]
def eP:=[1,3,4,5,6,7,8]
def eQ:=[2,3,4,14,43,47]
def CK:=[2,3,5]
def GX:=[0,1,10]
def lQ:=[2,3,4,7,8,9,10,11]
def uq:=[2,3,4,7,8,9,10,14,15,16,20]
def XQ:=[3,11,12,13]
def XR:=[0,12,13,14]
def XS:=[(6004,20000)]
def XT:=[0,1,6,7,8]
def XU:=[6,18,19,25]
def XV:=[3,14,15,16]
def XW:=[0,1,2,3,4]
def XX:=[0,2,4,7,8]
def XY:=[2,3,7,8,9]
def XZ:=[1,3,5,6,7]
def YA:=[1,3,5,6,8]
def YB:=[1,3,4,5,9]
def lR:=[1,5,7,11,12,13,14]
def YC:=[1,2,4,6,7]
def eR:=[0,4,12,13,14]
def PS:=[1,2,5,6]
def PT:=[2,5,6,7]
def PU:=[18,19,20]
def GY:=[2,5006]
def eS:=[1,5,11,12,13]
def lS:=[1,2,4,5,6,7,8,9]
def PV:=[0,3,5,6]
def Ys:=[2,16]
def ur:=[2,5,6,7,9,10,26,27,28,44]
def KT:=[1,4,22]
def KU:=[1,3,17]
def YD:=[5,7,12,13]
def lT:=[30000,37006,9300005]
def eU:=[2,6,43,30000]
def lU:=[0,1,5,6,8,9,10]
def W8:=[4,6]
def PW:=[2,35,37]
def eV:=[0,1,3,9,10]
def eW:=[0,2,8,9,10]
def KV:=[0,2,3]
def lV:=[0,1,5,14,15,16]
def KW:=[2,3,4]
def KY:=[1,3,5]
def KZ:=[2,3,6]
def lW:=[1,2,4,5,6,7,8]
def LA:=[1,2,6]
def ut:=[2,5,6,7,9,10,26,27,28]
def eY:=[3,10,11,12]
def YE:=[1,2,4,5]
def YF:=[0,1,6,7]
def YG:=[0,1,5,6]
def eZ:=[0,15,16,17]
def ed:=[0,21,22,23]
def Yt:=[6,7]
def Yu:=[5,6]
def lX:=[0,6,8,9,11,49]
def YH:=[0,2,4,5]
def YI:=[1,2,5005]
def YJ:=[2,3,7,8]
def YK:=[2,3,8005]
def YL:=[1,2,5,7]
def uu:=[(36011,34000),(55,34002)]
def uv:=[(36012,34000),(60,34002)]
def uw:=[(30000,30000),(25,37007)]
def lY:=[0,1,5,7,8,16]
def lZ:=[0,1,2,6,7,71]
def ux:=[2,5,6,7,26,27,28,29]
def uy:=[1,2,4,6,10,11,12,20]
def uz:=[1,2,4,7,10,11,12,28]
def GZ:=[2,33]
def YM:=[5,18,19]
def YN:=[6,18,19]
def la:=[1,2,15,16,17]
def u0:=[2,5,6,7,9,26,27,28]
def lb:=[0,1,32,33,34]
def u1:=[10,30000,37006,9100005]
def lc:=[1,3,7,9,5005]
def ld:=[3,5,14,15,16]
def u2:=[1,2,4,7,8,10,11,12]
def lf:=[1,3,5,6,7,8]
def lg:=[1,2,4,6,7,8]
def ee:=[2,5,6,25]
def u3:=[2,5,6,7,8,9,10,60]
def u4:=[4,30000,37006,9100005]
def eh:=[(20000,10)]
def u5:=[2,6,9,43,5602,30000]
def er:=[2,4,6,10]
def et:=[2,4,7,10]
def lh:=[0,3,4,14,15]
def li:=[0,4,6,21,22]
def u6:=[1,2,4,10,11,12,13]
def e7:=[0,2,7,8]
def lj:=[(34001,34001)]
def PX:=[18,19]
def lk:=[0,2,4,6,56]
def u7:=[2,7,77,60077,70077]
def PY:=[15,18]
def e8:=[0,1,2,6]
def u9:=[9,5007,30000,37007]
def YO:=[5,6,7]
def lm:=[1,23,24,25]
def YP:=[0,1,2]
def ln:=[1,2,5,6,7]
def YQ:=[0,2,7]
def lp:=[3,38,39,40]
def lq:=[0,37,38,39]
def lr:=[0,1,7,8,9]
def ls:=[0,1,5,7,8]
def YR:=[0,3,5]
def lu:=[(6002,20000)]
def lv:=[(5005,20000)]
def lw:=[0,2,4,5,6]
def lx:=[(5003,20000)]
def ly:=[2,35,37,46]
def YS:=[2,5,7]
def YT:=[3,5005]
def lz:=[0,1,12,13]
def mA:=[0,6,21,22]
def mB:=[2,43,30000]
open Go Go.RowKit
set_option maxRecDepth 100000
set_option maxHeartbeats 2000000
def Ak(x:Int):List AV:=[.int .i64 x]
def Mn(x:Aq):List AV:=[AV.list 1 Ak 0 x .none]
structure A8 where
 Bits:Int
 Dst:Int
 From:Aq
 Args:Aq
 deriving Inhabited,DecidableEq
def Eb(x:A8):List AV:=[.int .i64 x.Bits,.int .i64 x.Dst,AV.list 1 Ak 0 x.From .none,AV.list 1 Ak 0 x.Args .none]
def Abf(x:List A8):List AV:=[AV.list 4 Eb default x .none]
def Af0(x:Int):List AV:=[.int .u64 x]
structure A0 where
 Kind:Int
 Bits:Int
 Lanes:Int
 Dst:Int
 Args:Aq
 Imm:Int
 deriving Inhabited,DecidableEq
def Iv(x:A0):List AV:=[.int .i64 x.Kind,.int .i64 x.Bits,.int .i64 x.Lanes,.int .i64 x.Dst,AV.list 1 Ak 0 x.Args .none,.int .u64 x.Imm]
def Aed(x:List A0):List AV:=[AV.list 6 Iv default x .none]
structure Ny where
 Kind:Int
 Arg:Int
 To:Aq
 deriving Inhabited,DecidableEq
def ma(x:Ny):List AV:=[.int .i64 x.Kind,.int .i64 x.Arg,AV.list 1 Ak 0 x.To .none]
structure Ab where
 Phis:List A8
 Ops:List A0
 End:Ny
 deriving Inhabited,DecidableEq
def Bi(x:Ab):List AV:=[AV.list 4 Eb default x.Phis .none,AV.list 6 Iv default x.Ops .none,.int .i64 x.End.Kind,.int .i64 x.End.Arg,AV.list 1 Ak 0 x.End.To .none]
def sL(x:List Ab):List AV:=[AV.list 5 Bi default x .none]
structure AI where
 Params:Aq
 Ret:Int
 Blocks:List Ab
 deriving Inhabited,DecidableEq
def eTFunc(x:AI):List AV:=[AV.list 1 Ak 0 x.Params .none,.int .i64 x.Ret,AV.list 5 Bi default x.Blocks .none]
structure AT where
 At:Int
 Then:Int
 Else:Int
 Join:Int
 deriving Inhabited,DecidableEq
def Dt(x:AT):List AV:=[.int .i64 x.At,.int .i64 x.Then,.int .i64 x.Else,.int .i64 x.Join]
abbrev Oj:=(Int×Int)
def B5(x:Oj):List AV:=[.int .i64 x.1,.int .i64 x.2]
structure Sd where
 block:Int
 at_:Int
 deriving Inhabited,DecidableEq
def SN(x:Sd):List AV:=[.int .i64 x.block,.int .i64 x.at_]
structure Bo where
 v:Int
 shape:Oj
 place:Sd
 deriving Inhabited,DecidableEq
def Py(x:Bo):List AV:=[.int .i64 x.v,.int .i64 x.shape.1,.int .i64 x.shape.2,.int .i64 x.place.block,.int .i64 x.place.at_]
structure If where
 Succ:Nw
 Pred:Nw
 deriving Inhabited,DecidableEq
def mb(x:If):List AV:=[AV.list 1 Mn [] x.Succ .none,AV.list 1 Mn [] x.Pred .none]
def eB(x:Bool):List AV:=[.bool x]
structure A6 where
 shape:Oj
 place:Sd
 deriving Inhabited,DecidableEq
def mc(x:A6):List AV:=[.int .i64 x.shape.1,.int .i64 x.shape.2,.int .i64 x.place.block,.int .i64 x.place.at_]
structure Vl where
 f:AI
 h:AT
 ops:List A0
 last:Int
 deriving Inhabited,DecidableEq
structure TDef where
 V:Int
 Block:Int
 At:Int
 Shape:Oj
 deriving Inhabited,DecidableEq
def Rm(x:TDef):List AV:=[.int .i64 x.V,.int .i64 x.Block,.int .i64 x.At,.int .i64 x.Shape.1,.int .i64 x.Shape.2]
structure Dz where
 V:Int
 Block:Int
 At:Int
 Shape:Oj
 deriving Inhabited,DecidableEq
def Qj(x:Dz):List AV:=[.int .i64 x.V,.int .i64 x.Block,.int .i64 x.At,.int .i64 x.Shape.1,.int .i64 x.Shape.2]
def xN(x:List Bool):List AV:=[AV.list 1 eB false x .none]
theorem mix:Tryz.prog.follows .mixedOrders=true:=by kernel_rfl
abbrev sP:=Spec Tryz.prog
abbrev NB:=(Nat×Own)
theorem sG {f : FuncId} {fn : Func} {args : List AV} {H H' : List NB} {res : AV} (hf : Tryz.prog.funcs[f]? = some fn) (k : ∀ Γ : Ip, RgQ Tryz.prog Γ fn.ntmps H → GG Tryz.prog Γ (fK Tryz.prog Γ fn.results.toList H res H') (zI (dB fn) []) (NW args H)) (hb : fn.body.isSome = true := by kernel_rfl) (hname : (fn.name == "runtime.NumGoroutine") = false := by kernel_rfl) (IT : Nat.ble args.length fn.ntmps = true := by kernel_rfl) (hpl : VS H = true := by kernel_rfl) : sP f args H res H' := OV mix hf k hb hname IT hpl
def Fa:List Ab:=([(⟨([]:List A8),([]:List A0),(⟨(2:Int),(1:Int),([(1:Int),(2:Int)]:Aq)⟩:Ny)⟩:Ab),(⟨([]:List A8),([(⟨(0:Int),(8:Int),(1:Int),(2:Int),([]:Aq),(1:Int)⟩:A0)]:List A0),(⟨(1:Int),(0:Int),([(3:Int)]:Aq)⟩:Ny)⟩:Ab),(⟨([]:List A8),([(⟨(0:Int),(8:Int),(1:Int),(3:Int),([]:Aq),(2:Int)⟩:A0)]:List A0),(⟨(1:Int),(0:Int),([(3:Int)]:Aq)⟩:Ny)⟩:Ab),(⟨([(⟨(8:Int),(4:Int),([(1:Int),(2:Int)]:Aq),([(2:Int),(3:Int)]:Aq)⟩:A8)]:List A8),([]:List A0),(⟨(0:Int),(4:Int),([]:Aq)⟩:Ny)⟩:Ab)]:List Ab)
def Z1:=λza zb zc zd zf zg zm=>((30000,.row 75 [(AV.list 1 Ak 0 za .none),(.int .i64 zb),(AV.list 5 Bi default zc .none),(.int .i64 zd),(AV.list 1 Ak 0 zf .none),(.omap zg),(AV.list 5 Py default zm (.own 37006))]):Nat×Own)
def Z2:=λza zb zc zd zf zg zm zn zp=>([(AV.list 1 Ak 0 za .none),(.int .i64 zb),(AV.list 5 Bi default zc .none),(.int .i64 zd),(.int .i64 zf),(.int .i64 zg),(.int .i64 zm),(AV.list 6 Iv default zn (.own 37007)),(.int .i64 zp)]:List AV)
def Z3:=λza zb zc zd zf zg zm=>([(30000,.row 75 [(AV.list 1 Ak 0 za .none),(.int .i64 zb),(AV.list 5 Bi default zc .none),(.int .i64 zd),(AV.list 1 Ak 0 zf .none),.nilm,(AV.list 5 Py default zg (.own 37006))]),(37006,.tok 5 146 zm)]:List NB)
def Z4:=λza (zb:Aq)=>((za,.arr 1 3 zb.length (λi=>Ak (zb.getD i 0))):Nat×Own)
def Z5:=λza zb zc=>([(AV.list 1 Ak 0 za .none),(.int .i64 zb),(AV.list 5 Bi default zc .none)]:List AV)
def Z6:=λza=>((.int .i64 za):AV)
def Z7:=λza=>(⟨[],[],(.bool za),[],[],[]⟩:Xf)
def Z8:=λza=>((AV.list 1 Ak 0 za .none):AV)
def Z9:=λza=>((AV.list 2 B5 ((0:Int),(0:Int)) za .none):AV)
def Js:=((.int .i64 (0:Int)):AV)
def Z11:=λza zb zc zd zf zg zm zn=>([(Z1 za zb zc zd zf 9100005 zg),(37006,.tok 5 146 zm),(9100005,.obj (.map false .i64 zn))]:List NB)
def ZE:=λza zb=>((AV.list 6 Iv default za (.own zb)):AV)
def IV:=λza=>((AV.list 1 Mn [] za .none):AV)
def AN:=λza zb=>((AV.list 1 Ak 0 za (.own zb)):AV)
def SE:=λza zb zc zd zf zg zm zn zp zq=>([(30000,.row 90 (Z2 za zb zc zd zf zg zm zn zp)),(37007,.tok 6 48 zq)]:List NB)
def TH:=λza=>((AV.list 5 Bi default za .none):AV)
def mJ:=λza=>((AV.list 1 Ak 0 ([za]:Aq) .exact):AV)
def HD:=((.slice 0 0 (λ_=>[]) .exact):AV)
def cw:=λza zb zc zd zf zg zm=>([(Z1 za zb zc zd zf 9100005 zg),(37006,.tok 5 146 zm)]:List NB)
def DM:=λza=>(⟨[],[],(Z6 za),[],[],[]⟩:Xf)
def fR:=λza zb zc zd=>((za,.arr 1 22 zb (Qf 1 Ak (0:Int) zc (Tag.fam zd))):Nat×Own)
def oT:=λza (zb:List Bool)=>((za,.arr 1 4 zb.length (λi=>eB (zb.getD i false))):Nat×Own)
def Nf:=((2,(.ptr 2 0)):Nat×AV)
def fS:=λza zb zc zd=>([(30000,.row za zb),(zc,.tok 6 48 zd)]:List NB)
def qH:=λza=>((3,(AV.list 5 Qj default za (.own 5003))):Nat×AV)
def ZR:=((AV.list 1 Ak 0 ([]:Aq) .exact):AV)
def AF:=λza=>((.agg (eTFunc za)):AV)
def ZS:=λza zb=>((AV.list 1 eB false za (.own zb)):AV)
def Z29:=λza (zb:Aq) (zc:Aq)=>((.slice 1 (bif za then zb.length else zc.length) (λi=>bif za then Ak (zb.getD i 0) else Ak (zc.getD i 0)) .none):AV)
def AO:=λza=>((.agg (mc za)):AV)
def oU:=λza zb zc=>([(30000,.row 81 [(ZE za 37000),(Z6 zb)]),(37000,.tok 6 48 zc)]:List NB)
def yz:=λza zb zc=>((.clo 85 [] [(.rpo [(TH za)]),(.rpo [(IV zb)]),(.rpo [(Z6 zc)])]):AV)
def Z33:=λza zb zc zd zf zg=>((30000,.row 75 [(Z8 za),(Z6 zb),(TH zc),(Z6 zd),(Z8 zf),(.omap 8),(AV.list 5 Py default zg (.own 37006))]):Nat×Own)
def Z34:=λza zb zc zd zf=>((37,.arr 1 92 za (λi_=>AV.eraseAll zb ((F4 zc zd 0 [(.vsl 46 zf)]) i_))):Nat×Own)
def SF:=λza=>((AV.list 6 Iv default za .none):AV)
def DN:=((1,(.ptr 1 0)):Nat×AV)
def Z37:=λza zb zc zd zf zg zm zn=>(⟨[(30000,30000),(37006,37006),(9100005,9100005)],[],(.tuple []),(Z11 za zb zc zd zf zg zm zn),[],[]⟩:Xf)
def HE:=λza=>((.int .i64 (za:Int)):AV)
def Z39:=(⟨[(4,(AV.list 1 Ak 0 ([]:Aq) (.own 6004)))],[(6004,.tok 1 3 (([]:Aq).length))],[]⟩:St)
abbrev LB:=(Nat×AV)
def Z40:=λza zb zc zd=>([(za,(AV.list 5 Qj default zb .exact)),(zc,(AV.list 5 Qj default (zd++zb) (.own 5003)))]:List LB)
def wm:=λza zb zc=>(⟨[],[(20000,za)],(AN zb 20000),[(20000,.tok 1 3 zc)],[],[]⟩:Xf)
def Z42:=λza zb zc zd zf=>([(za,(AV.list 6 Iv default zb .exact)),(zc,(AV.list 6 Iv default (zd++zb) (.own zf)))]:List LB)
def wq:=λza=>((3,(AV.list 5 Rm default za (.own 5003))):Nat×AV)
def Xa:=((4,(.ptr 4 0)):Nat×AV)
def Z45:=λza zb=>(⟨[],[],(.tuple [(.agg (mb za)),(Z6 zb)]),[],[],[]⟩:Xf)
def Z46:=λza (zb:List Bo) (zc:List Bo)=>((.slice 5 (bif za then zb.length else zc.length) (λi=>bif za then Py (zb.getD i default) else Py (zc.getD i default)) (.own 37006)):AV)
def V1:=((.ptr 30000 0):AV)
def ZT:=λza=>((.agg (Dt za)):AV)
def Z49:=((AV.list 2 B5 ((0:Int),(0:Int)) ([]:List Oj) .exact):AV)
def vL:=((AV.list 6 Iv default ([]:List A0) .exact):AV)
def wr:=λza zb zc=>((AV.list 1 Ak 0 ([za,zb,zc]:Aq) .exact):AV)
def Z52:=λza zb=>([(66,(AV.list 4 Dt default ([za]:List AT) .exact)),(67,(AV.list 4 Dt default (zb++([za]:List AT)) (.own 5005)))]:List LB)
def Uc:=λza zb=>((za,.tok 1 4 zb):Nat×Own)
def Z54:=λza zb=>((AV.list 2 B5 ((0:Int),(0:Int)) za (.own zb)):AV)
def Z55:=λza zb zc zd zf=>([(za,(mJ zb)),(zc,(AV.list 1 Ak 0 (zd++([zb]:Aq)) (.own zf)))]:List LB)
def vM:=λza zb=>((AV.list 4 Dt default za (.own zb)):AV)
def y0:=λza zb=>((.agg (mc (Nm (default:A6) za zb))):AV)
def oV:=λza=>(⟨[],[],(Z9 za),[],[],[]⟩:Xf)
def zA:=λza zb zc zd zf zg=>([(Z6 za),(Z6 zb),(Z6 zc),(Z6 zd),(Z8 zf),(.int .u64 zg)]:List AV)
def oW:=λza zb=>((AV.list 4 Eb default za (.own zb)):AV)
def Z61:=((AV.list 1 Mn [] ([]:Nw) .exact):AV)
def Z62:=λza zb zc=>(⟨[],[],(.tuple [(Z6 za),(Z6 zb),(.bool zc)]),[],[],[]⟩:Xf)
def X8:=λza zb=>((7,(.vsl za zb)):Nat×AV)
def Uk:=λza zb=>((za,.tok 6 48 zb):Nat×Own)
def Z65:=λza zb zc zd=>([(za,(AV.list 5 Rm default zb .exact)),(zc,(AV.list 5 Rm default (zd++zb) (.own 5003)))]:List LB)
def Z66:=((AV.list 5 Bi default ([]:List Ab) .exact):AV)
def J5:=λza zb=>((2,.row za zb):Nat×Own)
def Z68:=((AV.list 4 Eb default ([]:List A8) .exact):AV)
def vN:=λza zb=>((AV.list 1 Mn [] za (.own zb)):AV)
def Z70:=λ(za:Aq)=>((.slice 1 (za.length-(1:Int).toNat) (λi=>Ak (za.getD ((1:Int).toNat+i) 0)) .none):AV)
def LH:=((3,(.ptr 3 0)):Nat×AV)
def rE:=λza zb=>((7,.row 64 [za,(.vsl 77 zb)]):Nat×Own)
def Z73:=λza (zb:List Ab) (zc:List Ab)=>((.slice 5 (bif za then zb.length else zc.length) (λi=>bif za then Bi (zb.getD i default) else Bi (zc.getD i default)) .none):AV)
def Mt:=λza zb zc=>((za,.tok 5 zb zc):Nat×Own)
def Z75:=λ(za:Aq)=>((6,.arr 1 159 64 (λi=>Ak (za.getD i 0))):Nat×Own)
def Z76:=λza zb zc zd zf zg zm zn zp=>(⟨[(30000,30000),(37006,37006),(9100005,9100005)],[],(.agg (SN za)),(Z11 zb zc zd zf zg zm zn zp),[],[]⟩:Xf)
def vO:=λza=>((AV.list 4 Eb default za .none):AV)
def e9:=((5,(.ptr 5 0)):Nat×AV)
def Z79:=λza zb zc zd zf=>(⟨[(30000,30000),(za,za)],[],(Z6 zb),(fS zc zd za zf),[],[]⟩:Xf)
def qI:=λza=>((2,.row 64 [za,za]):Nat×Own)
def CN:=λza zb=>((za,.tok 1 3 zb):Nat×Own)
def Z82:=λza (zb:Aq) (zc:Aq)=>((.slice 1 (bif (za==true) then zb.length else zc.length) (λi=>bif (za==true) then Ak (zb.getD i 0) else Ak (zc.getD i 0)) .none):AV)
def ET:=λza=>((4,.row 25 za):Nat×Own)
def wu:=λza=>((AV.list 1 Ak 0 za .exact):AV)
def jB:=λza=>((.agg (mb za)):AV)
def ZF:=λza=>((.agg (Iv za)):AV)
def mK:=((.int .i64 (1:Int)):AV)
def Z88:=λza=>((za,.arr 1 3 (([]:Aq).length) (λi=>Ak (([]:Aq).getD i 0))):Nat×Own)
def Z89:=λza zb zc zd zf zg zm zn=>(⟨[(30000,30000),(37006,37006)],[],(.bool za),(Z3 zb zc zd zf zg zm zn),[],[]⟩:Xf)
def Z90:=(⟨[(2,(AV.list 2 B5 ((0:Int),(0:Int)) ([]:List Oj) (.own 6002)))],[(6002,.tok 2 55 (([]:List Oj).length))],[]⟩:St)
def rF:=((6,(.vpt 6 64 0 0)):Nat×AV)
def RT:=λza=>((za,(.ptr za 0)):Nat×AV)
def Z93:=λza zb=>(⟨[],[],(.tuple [(AF za),(Z6 zb)]),[],[],[]⟩:Xf)
def rG:=((5,(.vpt 5 64 0 0)):Nat×AV)
def Z95:=λza zb zc zd=>((3,.row 32 [(Z6 za),(Z6 zb),(Z6 zc),(Z6 zd)]):Nat×Own)
def Z96:=λ(za:List Oj)=>([(30,.arr 2 55 za.length (λi=>B5 (za.getD i ((0:Int),(0:Int)))))]:List NB)
def zB:=λza zb zc=>((.int .i64 (bif za then zb else zc)):AV)
def Z98:=λza zb zc=>((.agg [za,(.int .i64 (8:Int)),zb,(.int .i64 (3:Int)),zc,(.int .u64 (2:Int))]):AV)
def Z99:=λza zb zc zd zf=>([(za,(AV.list 4 Eb default zb .exact)),(zc,(AV.list 4 Eb default (zd++zb) (.own zf)))]:List LB)
def Aat:=λza zb zc=>((.agg [za,(.int .i64 (8:Int)),zb,(.int .i64 (2:Int)),zc,(.int .u64 (1:Int))]):AV)
def q9:=λza zb=>((AV.list 1 Ak 0 ([za,zb]:Aq) .exact):AV)
def Aau:=λza zb zc zd zf zg zm zn zp=>(⟨[(30000,30000),(37006,37006),(9100005,9100005)],[],(.bool za),(Z11 zb zc zd zf zg zm zn zp),[],[]⟩:Xf)
def wg:=((AV.list 1 Mn [] ([]:Nw) .none):AV)
def RR:=λza=>((6,.arr 1 159 64 za):Nat×Own)
def oO:=λza=>((AV.list 1 Ak 0 ([]:Aq) (.own za)):AV)
def rA:=λza zb zc zd=>((AV.list 1 Ak 0 ([za,zb,zc,zd]:Aq) .exact):AV)
def jb:=λza=>(⟨[],[],(AF za),[],[],[]⟩:Xf)
def rB:=λza=>(⟨[],[],(.agg (B5 za)),[],[],[]⟩:Xf)
def RS:=((.int .i64 (4:Int)):AV)
def Uj:=λza=>((.int .u64 za):AV)
def Aav:=λza=>((.slice 1 1 (λi=>([[(Z6 za)]]:List (List AV)).getD i []) .exact):AV)
def wh:=λza=>((AV.list 6 Iv default ([]:List A0) (.own za)):AV)
def wi:=λza zb zc=>(⟨[(30000,30000),(za,za)],[],(Z6 zb),zc,[],[]⟩:Xf)
def oP:=λza=>((za,.tok 1 3 (([]:Aq).length)):Nat×Own)
def wj:=λza zb zc zd zf zg zm zn zp zq zt=>(⟨[(30000,30000),(37007,37007)],[],(Z6 za),(SE zb zc zd zf zg zm zn zp zq zt),[],[]⟩:Xf)
def wk:=λza zb=>(⟨[],[],(.tuple [(ZT za),(.bool zb)]),[],[],[]⟩:Xf)
def TG:=λza=>((5,.arr 1 158 64 za):Nat×Own)
def rC:=λza=>((.clo 113 [] [(.rptr (Dt za))]):AV)
def Ad6:=([(4,.row 25 [(AV.list 1 Ak 0 ([]:Aq) .none),Js,(AV.list 5 Bi default ([]:List Ab) .none)])]:List NB)
def oQ:=λza zb=>((AV.list 5 Bi default za (.own zb)):AV)
def oR:=λza zb zc=>(⟨[(4,(AN za zb))],[(CN zb zc)],[]⟩:St)
def wl:=λza zb=>(⟨[],[],(.tuple [(Z6 za),(Z6 zb)]),[],[],[]⟩:Xf)
def Aaw:=λza zb zc zd zf zg zm zn zp=>([(30000,.row 90 [(Z8 za),(Z6 zb),(TH zc),(Z6 zd),(Z6 zf),(Z6 zg),(Z6 zm),(SF zn),(Z6 zp)])]:List NB)
def cu:=λza zb zc zd=>((za,.row 81 [(ZE zb zc),(Z6 zd)]):Nat×Own)
def oS:=λza zb zc=>(⟨[(4,(.vsl za zb))],[(Z4 za zc)],[]⟩:St)
def NK:=((6,(.ptr 6 0)):Nat×AV)
def NL:=((8,(.ptr 47 0)):Nat×AV)
def rD:=λza zb zc zd=>((37,.arr 1 92 za (F4 zb zc 0 [(.vsl 46 zd)])):Nat×Own)

def Q8:AV:=Js
def jI:AV:=mK
def yr:AV:=HD
def Q5:AV:=ZR
def Q12:AV:=vL
def Q7:AV:=Z68
def Q4:AV:=(AV.list 1 Ak 0 ([(3:Int)]:Aq) .exact)
def Q6:AV:=(AV.list 1 Ak 0 ([(1:Int),(2:Int)]:Aq) .exact)
def Q2:AV:=(AV.list 6 Iv default ([(⟨(0:Int),(8:Int),(1:Int),(2:Int),([]:Aq),(1:Int)⟩:A0)]:List A0) .exact)
def Q3:AV:=(AV.list 6 Iv default ([(⟨(0:Int),(8:Int),(1:Int),(3:Int),([]:Aq),(2:Int)⟩:A0)]:List A0) .exact)
def Q1:AV:=(AV.list 4 Eb default ([(⟨(8:Int),(4:Int),([(1:Int),(2:Int)]:Aq),([(2:Int),(3:Int)]:Aq)⟩:A8)]:List A8) .exact)
def Q9:=(⟨[(0,(.ptr 0 0))],[(0,.row 25 [(AV.list 1 Ak 0 ([(1:Int)]:Aq) .exact),(.int .i64 (8:Int)),(AV.list 5 Bi default Fa .exact)])],[]⟩:St)
def m_locksteplaw15_diamond :Option AI:=
 (some (⟨([(1:Int)]:Aq),(8:Int),Fa⟩:AI))
theorem Io  (r:AI) (h:m_locksteplaw15_diamond=some r):sP 13 [] [] (AF r) []:=
 sG Tryz.func13 λΓ q=>Af q [0] [0] (gR q [0] [0] [(1,(AV.list 1 Ak 0 ([(1:Int)]:Aq) .exact)),(2,Q6),(4,(.agg [Q7,Q12,(.int .i64 (2:Int)),jI,Q6])),(5,(Aat Q8 jI Q5)),(6,Q2),(7,Q4),(9,(.agg [Q7,Q2,jI,Q8,Q4])),(10,(Z98 Q8 jI Q5)),(11,Q3),(12,Q4),(14,(.agg [Q7,Q3,jI,Q8,Q4])),(15,Q6),(16,(AV.list 1 Ak 0 ([(2:Int),(3:Int)]:Aq) .exact)),(18,Q1),(19,(.agg [Q8,RS,Q5])),(20,(.agg [Q1,Q12,Q8,RS,Q5])),(21,(AV.list 5 Bi default Fa .exact))] [] (d9_ (Au 1 Ak (0:Int) ([(1:Int)]:Aq)) (Au 1 Ak (0:Int) ([(1:Int),(2:Int)]:Aq)) (show(AVle (.agg [yr,yr,(.int .i64 (2:Int)),jI,Q6]) (.agg [Q7,Q12,(.int .i64 (2:Int)),jI,Q6])) from(AVle.agg (.cons Cw (.cons Cw (.cR (.cR (.cR .nil))))))) (show(AVle (Aat Q8 jI yr) (Aat Q8 jI Q5)) from(AVle.agg (.cR (.cR (.cR (.cR (.cons Cw (.cR .nil)))))))) (Au 6 Iv (default:A0) ([(⟨(0:Int),(8:Int),(1:Int),(2:Int),([]:Aq),(1:Int)⟩:A0)]:List A0)) (Au 1 Ak (0:Int) ([(3:Int)]:Aq)) (show(AVle (.agg [yr,Q2,jI,Q8,Q4]) (.agg [Q7,Q2,jI,Q8,Q4])) from(AVle.agg (.cons Cw (.cR (.cR (.cR (.cR .nil))))))) (show(AVle (Z98 Q8 jI yr) (Z98 Q8 jI Q5)) from(AVle.agg (.cR (.cR (.cR (.cR (.cons Cw (.cR .nil)))))))) (Au 6 Iv (default:A0) ([(⟨(0:Int),(8:Int),(1:Int),(3:Int),([]:Aq),(2:Int)⟩:A0)]:List A0)) (c8 (Au 1 Ak (0:Int) ([(3:Int)]:Aq)) (show(AVle (.agg [yr,Q3,jI,Q8,Q4]) (.agg [Q7,Q3,jI,Q8,Q4])) from(AVle.agg (.cons Cw (.cR (.cR (.cR (.cR .nil))))))) (Au 1 Ak (0:Int) ([(1:Int),(2:Int)]:Aq)) (Au 1 Ak (0:Int) ([(2:Int),(3:Int)]:Aq)) (Au 4 Eb (default:A8) ([(⟨(8:Int),(4:Int),([(1:Int),(2:Int)]:Aq),([(2:Int),(3:Int)]:Aq)⟩:A8)]:List A8)) (show(AVle (.agg [Q8,RS,yr]) (.agg [Q8,RS,Q5])) from(AVle.agg (.cR (.cR (.cons Cw .nil))))) (show(AVle (.agg [Q1,yr,Q8,RS,Q5]) (.agg [Q1,Q12,Q8,RS,Q5])) from(AVle.agg (.cR (.cons Cw (.cR (.cR (.cR .nil))))))) (Au 5 Bi (default:Ab) Fa))) (Qu Q9 (tS h (gK (e:=.ret) (Iq [] (show Le Γ _ (⟨[(0,(.ptr 0 0))],[(0,.row 25 [(AV.list 1 Ak 0 ([(1:Int)]:Aq) .none),(.int .i64 (8:Int)),(AV.list 5 Bi default Fa .none)])],[]⟩:St) from Le.trans (A9 (st':=Q9) [0] [0] q) (Fb (.cR .nil) (.row (.cons AVle.untag (.cR (.cons AVle.untag .nil))) .nil))))))))
abbrev nf:=(LR (Int×Int) Int)
def Sq(a0:AI):Oj->Option nf:=
 λ(i1,i2)=>bif decide (i2<a0.Blocks.length) then Ay (As i2 a0.Blocks.length) (some (.next (w64 (i1+w64 ((a0.Blocks.getD i2.toNat default).Phis.length+(a0.Blocks.getD i2.toNat default).Ops.length)),w64 (i2+1)))) else some (.done i1)
def Xo(a0:AI):Option Int:=
 (Ae   (Sq a0) (a0.Blocks.length,0)).bind λx5=>some x5
variable{v0:AI}{v1:Int}
theorem dZ(h:Xo v0=some v1):sP 73 [(AF v0)] [] (.int .i64 v1) []:=
 sG Tryz.func73 λΓ q=>tW q [1] [1] Ko [1] (Af q eY [] (tL q h eY [] (λu (i1,i2)=>(Cv u [(3,(Z6 i1)),(12,(Z6 i2))] [])) (λu i3=>aG Γ (.exit 0) (⟨[(3,(Z6 i3))],[],[]⟩:St)) (λ⟨i1,i2⟩ y h=>Af q [3,10,11,12,13] [] (gC h (λh=>tV q [3,5,10,11,12] [5] h λh=>tW q eY [] eY [] (tN h)) λh=>tS h (gO (A7 (A9 [3] [] q))))) λx5 h=>gA (Af q [2] [] (tS h (Bx [])))))
def Lq(aD:Aq):Int->Option (LR Int (Unit ⊕ Bool)):=
 λi1=>bif decide (i1<aD.length) then Ay (As i1 aD.length) (bif bif decide (aD.getD i1.toNat 0<0) then true else decide (2147483647<aD.getD i1.toNat 0) then some (.done (.inr false)) else some (.next (w64 (i1+1)))) else some (.done (.inl ()))
def LD(Γ:Ip)(aD:Aq)(r:Bool):Exit->St->Prop:=fK Tryz.prog Γ Tryz.f74.results.toList [] (.bool r) []
def Ed(aD:Aq):Option Bool:=
 (Ae   (Lq aD) 0).bind λx3=>match x3 with | .inl _=>some true | .inr r5=>some r5
variable{v2:Aq}{v3:Bool}
theorem Ie(h:Ed v2=some v3):sP 74 [(Z8 v2)] [] (.bool v3) []:=
 sG Tryz.func74 λΓ q=>tW q [0] [] YO [] (tL q h YO [] (λu i1=>(Cv u [(7,(Z6 i1))] [])) (λu x_=>match x_ with|(.inl _)=>aG Γ (.exit 0) (⟨[],[],[]⟩:St)|(.inr r_)=>aR (LD Γ v2 r_)) (λi1 y h=>Af q [5,6,7,8] [] (gC h (λh=>tV q [4,5,6,7] [] h λh=>tU q [5,6,7,16] [] (c2 (gI ((decide ((v2.getD i1.toNat 0)<0))==false)) (Jr (decide ((v2.getD i1.toNat 0)<0)))) (gC h (λh=>Af q [2] [] (tS h (gO (M8 (Iq [] (Le.refl _ _)))))) λh=>Af q YO [] (tN h))) λh=>tS h (gO (A7 (A9 [] [] q))))) λx3 h=>(match x3,h with | .inl _,h=>gA (Af q [2] [] (tS h (Bx []))) | .inr r5,h=>gAr (λst' hk=>tS h (gK hk))))
def Jm(aD:Aq):Option Bool:=
 (bif decide (aD.length<=(64:Int))==true then Ed aD else some false).bind λx1=>some (bif decide (aD.length<=(64:Int)) then x1 else false)
theorem Pv(h:Jm v2=some v3):sP 145 [(Z8 v2)] [] (.bool v3) []:=
 sG Tryz.func145 λΓ q=>Af q [0] [] (tB h λx1 y1 h=>tT q [2] [] [(Z7 x1)] (c3 (gI ((decide ((v2.length:Int)<=64))==true)) (λ(hg:((decide ((v2.length:Int)<=64))==true)=true)=>(Ie (Bj hg y1))) (Nh (decide ((v2.length:Int)<=64)))) (tS h (Bx [])))
def Ss(aI:A8):Option Bool:=
 (Ed [aI.Bits,aI.Dst]).bind λx1=>(bif x1==true then Jm aI.From else some false).bind λx2=>(bif (bif x1 then x2 else false)==true then Jm aI.Args else some false).bind λx3=>some (bif bif x1 then x2 else false then x3 else false)
variable{v4:A8}
theorem RW(h:Ss v4=some v3):sP 116 [(.agg (Eb v4))] [] (.bool v3) []:=
 sG Tryz.func116 λΓ q=>Af q [1] [1] (tB h λx1 y1 h=>tB h λx2 y2 h=>tB h λx3 y3 h=>gR q [2] [] [(7,(q9 v4.Bits v4.Dst))] [(Z7 x1),(Z7 x2),(Z7 x3)] (bP (Au 1 Ak (0:Int) ([v4.Bits,v4.Dst]:Aq)) (Ie y1) (Kj (x1==true) (bP (λ(hg:(x1==true)=true)=>(Pv (Bj hg y2))) (Nh x1) (Kj ((bif x1 then x2 else false)==true) (c2 (λ(hg:((bif x1 then x2 else false)==true)=true)=>(Pv (Bj hg y3))) (Nh (bif x1 then x2 else false))))))) (tS h (Bx [])))
def Ij(aD:List A8):Int->Option (LR Int (Unit ⊕ Bool)):=
 λi1=>bif decide (i1<aD.length) then Ay (As i1 aD.length) ((Ss (aD.getD i1.toNat default)).bind λx3=>bif !x3 then some (.done (.inr false)) else some (.next (w64 (i1+1)))) else some (.done (.inl ()))
def DK(Γ:Ip)(aD:List A8)(r:Bool):Exit->St->Prop:=fK Tryz.prog Γ Tryz.f115.results.toList [] (.bool r) []
def Kv(aD:List A8):Option Bool:=
 (Ae   (Ij aD) 0).bind λx4=>match x4 with | .inl _=>some true | .inr r6=>some r6
variable{v5:List A8}
theorem BK(h:Kv v5=some v3):sP 115 [(vO v5),(.clo 116 [] [])] [] (.bool v3) []:=
 sG Tryz.func115 λΓ q=>tW q Gu [] Ov [] (tL q h Ov [] (λu i1=>(Cv u [(9,(Z6 i1))] [])) (λu x_=>match x_ with|(.inl _)=>aG Γ (.exit 0) (⟨[],[],[]⟩:St)|(.inr r_)=>aR (DK Γ v5 r_)) (λi1 y h=>Af q RL [] (gC h (λh=>tV q RM [6] h λh=>tB h λx3 y3 h=>tT q KQ [] [(Z7 x3)] (c1 (RW y3)) (gC h (λh=>Af q [4] [] (tS h (gO (M8 (Iq [] (Le.refl _ _)))))) λh=>Af q Ov [] (tN h))) λh=>tS h (gO (A7 (A9 [] [] q))))) λx4 h=>(match x4,h with | .inl _,h=>gA (Af q [4] [] (tS h (Bx []))) | .inr r6,h=>gAr (λst' hk=>tS h (gK hk))))
def Ud(a2:A0):Option Bool:=
 (Ed [a2.Kind,a2.Bits,a2.Lanes,a2.Dst]).bind λx1=>(bif x1==true then Jm a2.Args else some false).bind λx2=>some (bif x1 then x2 else false)
variable{v6:A0}
theorem VG(h:Ud v6=some v3):sP 118 [(ZF v6)] [] (.bool v3) []:=
 sG Tryz.func118 λΓ q=>Af q [1] [1] (tB h λx1 y1 h=>tB h λx2 y2 h=>gR q [2] [] [(11,(rA v6.Kind v6.Bits v6.Lanes v6.Dst))] [(Z7 x1),(Z7 x2)] (bP (Au 1 Ak (0:Int) ([v6.Kind,v6.Bits,v6.Lanes,v6.Dst]:Aq)) (Ie y1) (Kj (x1==true) (c2 (λ(hg:(x1==true)=true)=>(Pv (Bj hg y2))) (Nh x1)))) (tS h (Bx [])))
def I7(aD:List A0):Int->Option (LR Int (Unit ⊕ Bool)):=
 λi1=>bif decide (i1<aD.length) then Ay (As i1 aD.length) ((Ud (aD.getD i1.toNat default)).bind λx3=>bif !x3 then some (.done (.inr false)) else some (.next (w64 (i1+1)))) else some (.done (.inl ()))
def EJ(Γ:Ip)(aD:List A0)(r:Bool):Exit->St->Prop:=fK Tryz.prog Γ Tryz.f117.results.toList [] (.bool r) []
def Lp(aD:List A0):Option Bool:=
 (Ae   (I7 aD) 0).bind λx4=>match x4 with | .inl _=>some true | .inr r6=>some r6
variable{v7:List A0}
theorem DT(h:Lp v7=some v3):sP 117 [(SF v7),(.clo 118 [] [])] [] (.bool v3) []:=
 sG Tryz.func117 λΓ q=>tW q Gu [] Ov [] (tL q h Ov [] (λu i1=>(Cv u [(9,(Z6 i1))] [])) (λu x_=>match x_ with|(.inl _)=>aG Γ (.exit 0) (⟨[],[],[]⟩:St)|(.inr r_)=>aR (EJ Γ v7 r_)) (λi1 y h=>Af q RL [] (gC h (λh=>tV q RM [6] h λh=>tB h λx3 y3 h=>tT q KQ [] [(Z7 x3)] (c1 (VG y3)) (gC h (λh=>Af q [4] [] (tS h (gO (M8 (Iq [] (Le.refl _ _)))))) λh=>Af q Ov [] (tN h))) λh=>tS h (gO (A7 (A9 [] [] q))))) λx4 h=>(match x4,h with | .inl _,h=>gA (Af q [4] [] (tS h (Bx []))) | .inr r6,h=>gAr (λst' hk=>tS h (gK hk))))
def Sr(aP:Ny):Option Bool:=
 (Ed [aP.Kind,aP.Arg]).bind λx1=>(bif x1==true then Jm aP.To else some false).bind λx2=>some (bif x1 then x2 else false)
variable{v8:Ny}
theorem RV(h:Sr v8=some v3):sP 119 [(.agg (ma v8))] [] (.bool v3) []:=
 sG Tryz.func119 λΓ q=>Af q [1] [1] (tB h λx1 y1 h=>tB h λx2 y2 h=>gR q [2] [] [(7,(q9 v8.Kind v8.Arg))] [(Z7 x1),(Z7 x2)] (bP (Au 1 Ak (0:Int) ([v8.Kind,v8.Arg]:Aq)) (Ie y1) (Kj (x1==true) (c2 (λ(hg:(x1==true)=true)=>(Pv (Bj hg y2))) (Nh x1)))) (tS h (Bx [])))
def Pn(aE:Ab):Option Bool:=
 (Kv aE.Phis).bind λx1=>(bif x1==true then Lp aE.Ops else some false).bind λx2=>(bif (bif x1 then x2 else false)==true then Sr ⟨aE.End.Kind,aE.End.Arg,aE.End.To⟩ else some false).bind λx3=>some (bif bif x1 then x2 else false then x3 else false)
variable{v9:Ab}
theorem MF(h:Pn v9=some v3):sP 76 [(.agg (Bi v9))] [] (.bool v3) []:=
 sG Tryz.func76 λΓ q=>Af q [1] [1] (tB h λx1 y1 h=>tB h λx2 y2 h=>tB h λx3 y3 h=>tT q [2] [] [(Z7 x1),(Z7 x2),(Z7 x3)] (ci (BK y1) (Kj (x1==true) (bP (λ(hg:(x1==true)=true)=>(DT (Bj hg y2))) (Nh x1) (Kj ((bif x1 then x2 else false)==true) (c2 (λ(hg:((bif x1 then x2 else false)==true)=true)=>(RV (Bj hg y3))) (Nh (bif x1 then x2 else false))))))) (tS h (Bx [])))
def G4(aD:List Ab):Int->Option (LR Int (Unit ⊕ Bool)):=
 λi1=>bif decide (i1<aD.length) then Ay (As i1 aD.length) ((Pn (aD.getD i1.toNat default)).bind λx3=>bif !x3 then some (.done (.inr false)) else some (.next (w64 (i1+1)))) else some (.done (.inl ()))
def Yy(Γ:Ip)(aD:List Ab)(r:Bool):Exit->St->Prop:=fK Tryz.prog Γ Tryz.f75.results.toList [] (.bool r) []
def I6(aD:List Ab):Option Bool:=
 (Ae   (G4 aD) 0).bind λx4=>match x4 with | .inl _=>some true | .inr r6=>some r6
variable{v10:List Ab}
theorem Yj(h:I6 v10=some v3):sP 75 [(TH v10),(.clo 76 [] [])] [] (.bool v3) []:=
 sG Tryz.func75 λΓ q=>tW q Gu [] Ov [] (tL q h Ov [] (λu i1=>(Cv u [(9,(Z6 i1))] [])) (λu x_=>match x_ with|(.inl _)=>aG Γ (.exit 0) (⟨[],[],[]⟩:St)|(.inr r_)=>aR (Yy Γ v10 r_)) (λi1 y h=>Af q RL [] (gC h (λh=>tV q RM [6] h λh=>tB h λx3 y3 h=>tT q KQ [] [(Z7 x3)] (c1 (MF y3)) (gC h (λh=>Af q [4] [] (tS h (gO (M8 (Iq [] (Le.refl _ _)))))) λh=>Af q Ov [] (tN h))) λh=>tS h (gO (A7 (A9 [] [] q))))) λx4 h=>(match x4,h with | .inl _,h=>gA (Af q [4] [] (tS h (Bx []))) | .inr r6,h=>gAr (λst' hk=>tS h (gK hk))))
def Q14(a0:AI):=(decide ((a0.Blocks.length:Int)<1))
def Q13(a0:AI):=(decide ((16:Int)<(a0.Params.length:Int)))
def Wb(a0:AI):Option Bool:=
 bif bif decide ((a0.Blocks.length:Int)<1) then true else decide (64<(a0.Blocks.length:Int)) then some false else(bif decide ((16:Int)<a0.Params.length)==false then Xo a0 else some 0).bind λx1=>bif bif decide ((16:Int)<a0.Params.length) then true else decide (512<x1) then some false else(Ed a0.Params).bind λx2=>(bif x2==true then Ed [a0.Ret] else some false).bind λx3=>(bif (bif x2 then x3 else false)==true then I6 a0.Blocks else some false).bind λx4=>some (bif bif x2 then x3 else false then x4 else false)
theorem QQ(h:Wb v0=some v3):sP 42 [(AF v0)] [] (.bool v3) []:=
 sG Tryz.func42 λΓ q=>Af q [1] [1] (tU q [1,12] [1] (Sn ((Q14 v0)==false) (c1 (Jr (Q14 v0)))) (gC h (λh=>Af q [2] [] (tS h (Bx []))) λh=>tB h λx1 y1 h=>tT q [1,21] [1] [(DM x1)] (c4 (gI ((Q13 v0)==false)) (λ(hg:((Q13 v0)==false)=true)=>(dZ (Bj hg y1))) (gI ((Q13 v0)==false)) (Jr (Q13 v0))) (gC h (λh=>Af q [2] [] (tS h (Bx []))) λh=>tB h λx2 y2 h=>tB h λx3 y3 h=>tB h λx4 y4 h=>gR q [2] [] [(28,(mJ v0.Ret))] [(Z7 x2),(Z7 x3),(Z7 x4)] (ci (Ie y2) (Kj (x2==true) (d4_ (show((x2==true)=true->(AVle (Aav v0.Ret) (mJ v0.Ret))) from(λhg=>@(Au 1 Ak (0:Int) ([v0.Ret]:Aq)))) (gI (x2==true)) (λ(hg:(x2==true)=true)=>(Ie (Bj hg y3))) (Nh x2) (Kj ((bif x2 then x3 else false)==true) (c2 (λ(hg:((bif x2 then x3 else false)==true)=true)=>(Yj (Bj hg y4))) (Nh (bif x2 then x3 else false))))))) (tS h (Bx [])))))
def O7(aaZ:Bool)(aP:Int):Option Int:=
 bif aaZ then some 0 else some aP
variable{v11:Int}
theorem CU(h:O7 v3 v1=some v11):sP 89 [(.bool v3),(Z6 v1)] [] (.int .i64 v11) []:=
 sG Tryz.func89 λΓ q=>tW q Gu [] [1,5] [] (gC h (λh=>Af q [4] [] (tS h (Bx []))) λh=>Af q [4] [] (tS h (Bx [])))
abbrev qN:=(Int×AI×Int×Aq×List Bo)
def Ln(a3:AI)(a5:Int)(a7:Aq)(aA:List Bo):Option qN:=
 (Wb a3).bind λx1=>(O7 x1 4).bind λx2=>some (x2,a3,a5,a7,aA)
variable{v12:List Bo}{v13:qN}
theorem DR(h:Ln v0 v1 v2 v12=some v13):sP 59 [V1] (Z3 v0.Params v0.Ret v0.Blocks v1 v2 v12 v12.length) (Z6 v13.1) (Z3 v13.2.1.Params v13.2.1.Ret v13.2.1.Blocks v13.2.2.1 v13.2.2.2.1 v13.2.2.2.2 v13.2.2.2.2.length):=
 sG Tryz.func59 λΓ q=>Af q [0] Jw (tB h λx1 y1 h=>tB h λx2 y2 h=>tT q [2] Jw [(Z7 x1),(DM x2)] (c2 (QQ y1) (CU y2)) (tS h (Bx DE)))
def N0(aa0:Int):Option Bool:=
 some (bif decide (1<=aa0) then decide (aa0<=64) else false)
theorem Zi(h:N0 v1=some v3):sP 81 [(Z6 v1)] [] (.bool v3) []:=
 sG Tryz.func81 λΓ q=>Af q [0] [] (tU q [2] [] (c2 (gI ((decide ((1:Int)<=v1))==true)) (Nh (decide ((1:Int)<=v1)))) (tS h (Bx [])))
def Lh(aL:Int)(aa0:Int):Option Bool:=
 some (bif decide (0<=aL) then decide (aL<aa0) else false)
theorem T6(h:Lh v1 v11=some v3):sP 121 [(Z6 v1),(Z6 v11)] [] (.bool v3) []:=
 sG Tryz.func121 λΓ q=>Af q Gu [] (tU q [4] [] (Kj ((decide ((0:Int)<=v1))==true) (c1 (Nh (decide ((0:Int)<=v1))))) (tS h (Bx [])))
def F9(aP:Ny)(aa0:Int):Int->Option (LR Int (Unit ⊕ Bool)):=
 λi7=>bif decide (i7<aP.To.length) then Ay (As i7 aP.To.length) ((bif (aP.To.getD i7.toNat 0==0)==false then Lh (aP.To.getD i7.toNat 0) aa0 else some false).bind λx9=>bif bif aP.To.getD i7.toNat 0==0 then true else !x9 then some (.done (.inr false)) else some (.next (w64 (i7+1)))) else some (.done (.inl ()))
def CL(Γ:Ip)(aP:Ny)(aa0:Int)(r:Bool):Exit->St->Prop:=fK Tryz.prog Γ Tryz.f82.results.toList [] (.bool r) []
def Q15(aP:Ny)(i7:Int):=((aP.To.getD i7.toNat 0)==0)
def Ra(aP:Ny)(aa0:Int):Option Bool:=
 Option.bind (α:=Int ⊕ Bool) (Option.bind  (bif aP.Kind==0 then some (aP.Kind==0) else some (aP.Kind==3)) λx3=>bif x3 then some (.inl 0) else bif aP.Kind==1 then some (.inl 1) else bif aP.Kind==2 then some (.inl 2) else some (.inr false)) λx5=>match x5 with | .inl i1=>bif aP.To.length !=i1 then some false else(Ae   (F9 aP aa0) 0).bind λx10=>(match x10 with | .inl _=>some true | .inr r12=>some r12) | .inr r13=>some r13
theorem ON(h:Ra v8 v1=some v3):sP 82 [(.agg (ma v8)),(Z6 v1)] [] (.bool v3) []:=
 sG Tryz.func82 λΓ q=>tW q Oa [2] X6 [2] (tB h λx5 y5 h=>gJ y5 (λx_=>match x_ with|(.inl i1)=>aG Γ .normal (⟨[(1,(Z6 v1)),Nf,(5,(Z6 i1))],[(2,.row 43 [(Z6 v8.Kind),(Z6 v8.Arg),(Z8 v8.To)])],[]⟩:St)|(.inr r_)=>aR (CL Γ v8 v1 r_)) (λy h=>Af q [1,2,5,9] [2] (tB h λx3 y3 h=>gJ y3 (λb2=>aG Γ .normal (⟨[(1,(Z6 v1)),Nf,(5,Js),(9,(Z6 v8.Kind)),(10,(.bool b2))],[(2,.row 43 [(Z6 v8.Kind),(Z6 v8.Arg),(Z8 v8.To)])],[]⟩:St)) (λy h=>Af q [1,2,5,9,10] [2] (gC h (λh=>tS h (gK (A7 Gy))) λh=>Af q [1,2,5,9,10] [2] (tS h (gK (A7 Gy))))) (gA (gC h (λh=>tS h (gK (A7 (A9 X6 [2] q)))) λh=>Af q [1,2,9,13] [2] (gC h (λh=>Af q X6 [2] (tS h (gK (A7 Gy)))) λh=>Af q [1,2,15] [2] (gC h (λh=>Af q X6 [2] (tS h (gK (A7 Gy)))) λh=>Af q [4] [] (tS h (gK (M8 (Iq [] (Le.refl _ _))))))))))) (match x5,h with | .inl i1,h=>gA (Af q [1,2,21] [2] (gC h (λh=>Af q [4] [] (tS h (Bx []))) λh=>Af q lm [] (tL q h lm [] (λu i7=>(Cv u [(25,(Z6 i7))] [])) (λu x_=>match x_ with|(.inl _)=>aG Γ (.exit 1) (⟨[],[],[]⟩:St)|(.inr r_)=>aR (CL Γ v8 v1 r_)) (λi7 y h=>Af q [1,23,24,25,26] [] (gC h (λh=>tV q [1,7,23,24,25] [] h λh=>tB h λx9 y9 h=>tT q [1,23,24,25,36] [] [(Z7 x9)] (Kj ((Q15 v8 i7)==false) (c3 (λ(hg:((Q15 v8 i7)==false)=true)=>(T6 (Bj hg y9))) (gI ((Q15 v8 i7)==false)) (Jr (Q15 v8 i7)))) (gC h (λh=>Af q [4] [] (tS h (gO (M8 (Iq [] (Le.refl _ _)))))) λh=>Af q lm [] (tN h))) λh=>tS h (gO (A7 (A9 [] [] q))))) λx10 h=>(match x10,h with | .inl _,h=>gA (Af q [4] [] (tS h (Bx []))) | .inr r12,h=>gAr (λst' hk=>tS h (gK hk)))))) | .inr r13,h=>gAr (λst' hk=>tS h (gK hk))))
abbrev yT5:=(Int×Nw)
abbrev yT6:=(LR (Int×Nw) Nw)
def On(a6:Nw)(i2:Int):yT5->Option yT6:=
 λ(i6,l7)=>bif decide (i6<(a6.getD i2.toNat []).length) then Ay (As i6 (a6.getD i2.toNat []).length) (Ay (As ((a6.getD i2.toNat []).getD i6.toNat 0) l7.length) (Ay (As ((a6.getD i2.toNat []).getD i6.toNat 0) l7.length) (Ay ((l7.getD ((a6.getD i2.toNat []).getD i6.toNat 0).toNat []).length+[i2].length<=room) (Ay (As ((a6.getD i2.toNat []).getD i6.toNat 0) l7.length) (some (.next (w64 (i6+1),l7.set ((a6.getD i2.toNat []).getD i6.toNat 0).toNat (l7.getD ((a6.getD i2.toNat []).getD i6.toNat 0).toNat []++[i2])))))))) else some (.done l7)
def Lr(a6:Nw):yT5->Option yT6:=
 λ(i2,l3)=>bif decide (i2<a6.length) then Ay (As i2 a6.length) ((Ae   (On a6 i2) (0,l3)).bind λx14=>some (.next (w64 (i2+1),x14))) else some (.done l3)
def wA(i2:Int):=([i2]:Aq)
def qF(a6:Nw)(i2:Int)(i6:Int):=((a6.getD i2.toNat []).getD i6.toNat 0)
def qd(l7:Nw)(a6:Nw)(i2:Int)(i6:Int):=(l7.getD (qF a6 i2 i6).toNat [])
def zj(a6:Nw):=(List.replicate (a6.length:Int).toNat ([]:Aq))
def Q23(l7:Nw)(a6:Nw)(i2:Int)(i6:Int):=(l7.set (qF a6 i2 i6).toNat ((qd l7 a6 i2 i6)++(wA i2)))
def Q19(a6:Nw):List LB:=[(0,(IV a6)),(3,(.vsl 10 (a6.length:Int).toNat))]
def Q18(l7:Nw)(i2:Int)(a6:Nw)(i6:Int):List LB:=[(3,(.vsl 10 l7.length)),(4,(Z6 i2)),(11,(IV a6)),(12,(HE a6.length)),(13,(Z6 i2)),(18,(AV.list 1 Ak 0 (a6.getD i2.toNat []) .none)),(19,(.int .i64 ((a6.getD i2.toNat []).length:Int))),(20,(Z6 i6))]
def Q22(l7:Nw)(i2:Int)(a6:Nw)(i6:Int):List LB:=[(3,(.vsl 10 l7.length)),(4,(Z6 i2)),(7,(Z6 (qF a6 i2 i6))),(11,(IV a6)),(12,(HE a6.length)),(13,(Z6 i2)),(18,(AV.list 1 Ak 0 (a6.getD i2.toNat []) .none)),(19,(.int .i64 ((a6.getD i2.toNat []).length:Int))),(20,(Z6 i6))]
def O9(a6:Nw):Option Nw:=
 Ay (0<=(a6.length:Int)/\a6.length<=(a6.length:Int)/\(a6.length:Int)<=room) ((Ae   (Lr a6) (0,List.replicate (a6.length:Int).toNat [])).bind λx16=>some x16)
variable{v14:Nw}{v15:Nw}
theorem CW(h:O9 v14=some v15):sP 84 [(IV v14)] [] (vN v15 20000) [(20000,.tok 1 22 v15.length)]:=
 sG Tryz.func84 λΓ q=>have hΓ:=q.own;gR q [0] [] [(2,Z61)] [] (c1 (Bp 1 Mn [])) (tV q Nu [10] h λh=>Qu (⟨(Q19 v14),[(10,.arr 1 22 ((v14.length:Int).toNat) (λi_=>AV.eraseAll (λn_=>Ce n_ [10]) ((λ_=>[HD]) i_)))],[]⟩:St) (Na (Le.trans (Fb (st':=⟨(Q19 v14),[(10,.arr 1 22 ((v14.length:Int).toNat) (Qf 1 Ak (0:Int) (zj v14) (λ_=>.exact)))],[]⟩) (TmpsLe.refl _) (.arr gB .nil)) (Le.trans (Le.trans (gV (r:=10) (b:=70010) Ak (0:Int) (zj v14) 3 rfl rfl (Vh ..).symm (λh_=>absurd h_ (by decide))) (Iw (st':=⟨(Q19 v14),[(10,.arr 1 22 ((v14.length:Int).toNat) (Qf 1 Ak (0:Int) (zj v14) (Tag.fam 70010)))],[(70010,⟨1,3,O3 (zj v14)⟩)]⟩) (by kernel_rfl))) (Iw (Bw (λk_:Nat=>(⟨[(0,(IV v14)),(3,(.vsl 10 k_))],[(fR 10 k_ (zj v14) 70010)],[(70010,⟨1,3,O3 (zj v14)⟩)]⟩:St)) (show(v14.length:Int).toNat=(zj v14).length from(Vh ..).symm))))) (Af q XQ X5 (tL q h XQ X5 (λu (i2,l3)=>(Cv u [(3,(.vsl 10 l3.length)),(13,(Z6 i2))] [(fR 10 l3.length l3 70010)] [(70010,⟨1,3,O3 l3⟩)])) (λu l4=>aG Γ (.exit 0) (⟨[(3,(.vsl 10 l4.length))],[(fR 10 l4.length l4 70010)],[(70010,⟨1,3,O3 l4⟩)]⟩:St)) (λ⟨i2,l3⟩ y h=>Af q [3,11,12,13,14] X5 (gC h (λh=>tV q [3,4,5,11,12,13] X5 h λh=>Af q nk X5 (tL q h nk X5 (λu (i6,l7)=>(Cv u [(3,(.vsl 10 l7.length)),(20,(Z6 i6))] [(fR 10 l7.length l7 70010)] [(70010,⟨1,3,O3 l7⟩)])) (λu l8=>aG Γ (.exit 2) (N6 XQ X5 u [(3,(.vsl 10 l8.length))] [(fR 10 l8.length l8 70010)] [(70010,⟨1,3,O3 l8⟩)])) (λ⟨i6,l7⟩ y h=>Af q [3,4,11,12,13,18,19,20,21] X5 (gC h (λh=>tV q [3,4,7,11,12,13,18,19,20] X5 h λh=>Qu (⟨(Q22 l7 i2 v14 i6),[(fR 10 l7.length l7 70010)],[(70010,⟨1,3,O3 l7⟩)]⟩:St) (zt9 h λad5 ad9 h=>zt9 h λag4 ag3 h=>Na (Le.trans (mq (r:=10) (b:=70010) (k:=60010) Ak (0:Int) l7 (qF v14 i2 i6).toNat 3 rfl rfl rfl rfl (Sp ad5) (by kernel_rfl) (.here .nil)) (Iw (st':=⟨(Q22 l7 i2 v14 i6),[(10,.arr 1 22 l7.length (Qf 1 Ak (0:Int) l7 (H9 70010 (qF v14 i2 i6).toNat 60010))),(60010,.tok 1 3 ((qd l7 v14 i2 i6).length))],[(70010,⟨1,3,FI l7 (qF v14 i2 i6).toNat⟩)]⟩) (by kernel_rfl))) (gR q nk [10,60010,70010] [(29,(AN (qd l7 v14 i2 i6) 60010)),(31,(wu (wA i2))),(32,(AV.list 1 Ak 0 ((qd l7 v14 i2 i6)++(wA i2)) (.own 60010)))] [] (d9_ ad9 (Eq.refl l7.length) (show(AVle (((Qf 1 Ak (0:Int) l7 (H9 70010 (qF v14 i2 i6).toNat 60010)) (qF v14 i2 i6).toNat).getD 0 .any) (AN (qd l7 v14 i2 i6) 60010)) from bI) (Au 1 Ak (0:Int) (wA i2)) (Eq.refl ((qd l7 v14 i2 i6).length)) ag4 (Cm 1 60010 Ak (0:Int) (qd l7 v14 i2 i6) (wA i2)) (Bm (qd l7 v14 i2 i6) (wA i2)) ag3 (c1 (Eq.refl l7.length))) (Qu (⟨(Q18 l7 i2 v14 i6),[(10,.arr 1 22 l7.length (λi_=>AV.eraseAll (λn_=>Ce n_ [10,60010,70010]) ((F4 (Qf 1 Ak (0:Int) l7 (H9 70010 (qF v14 i2 i6).toNat 60010)) (qF v14 i2 i6).toNat 0 [(AV.list 1 Ak 0 ((qd l7 v14 i2 i6)++(wA i2)) (.own 60010))]) i_))),(60010,.tok 1 3 (((qd l7 v14 i2 i6)++(wA i2)).length))],[(70010,⟨1,3,FI l7 (qF v14 i2 i6).toNat⟩)]⟩:St) (Na (Le.trans (Le.trans (sl (r:=10) (b:=70010) (k:=60010) Ak (0:Int) l7 (qF v14 i2 i6).toNat ((qd l7 v14 i2 i6)++(wA i2)) 3 rfl (iL (Sp ad5) rfl rfl) rfl rfl rfl rfl (Sp ad5) (by kernel_rfl) (.here (.tok .nil)) (by rw[hΓ];rfl)) (Iw (st':=⟨(Q18 l7 i2 v14 i6),[(fR 10 l7.length (Q23 l7 v14 i2 i6) 70010)],[(70010,⟨1,3,O3 (Q23 l7 v14 i2 i6)⟩)]⟩) (by kernel_rfl))) (Iw (Bw (λk_:Nat=>(⟨[(3,(.vsl 10 k_)),(4,(Z6 i2)),(11,(IV v14)),(12,(HE v14.length)),(13,(Z6 i2)),(18,(AV.list 1 Ak 0 (v14.getD i2.toNat []) .none)),(19,(.int .i64 ((v14.getD i2.toNat []).length:Int))),(20,(Z6 i6))],[(fR 10 k_ (Q23 l7 v14 i2 i6) 70010)],[(70010,⟨1,3,O3 (Q23 l7 v14 i2 i6)⟩)]⟩:St)) (show l7.length=(Q23 l7 v14 i2 i6).length from(Ek ..).symm)))) (Af q nk X5 (tN h))))))) λh=>tS h (gO (A7 (A9 XQ X5 q))))) λx14 h=>gA (Af q XQ X5 (tN h)))) λh=>tS h (gO (A7 (A9 [3] X5 q))))) λx16 h=>gA (Af q [2] X5 (Qu (⟨[(2,(.vsl 10 x16.length))],[(fR 10 x16.length x16 70010)],[(70010,⟨1,3,O3 x16⟩)]⟩:St) (tS h (gK (e:=.ret) (Iq [(10,20000)] (Le.trans (Hh (nm:=10) (sz:=1) (n:=x16.length) (e:=22) (f:=(Qf 1 Ak (0:Int) x16 (Tag.fam 70010))) (g:=(λi=>Mn (x16.getD i []))) rfl ⟨rfl,trivial⟩ (λ_ _=>rfl) (by rw[hΓ];rfl)) (A9 (st':=⟨[(2,(vN x16 10))],[(10,.tok 1 22 x16.length)],[]⟩) [2] [10] q)))))))))))
def Il(a0:AI):yT5->Option (LR (Int×Nw) (Nw ⊕ (If×Int))):=
 λ(i3,l4)=>bif decide (i3<a0.Blocks.length) then Ay (As i3 a0.Blocks.length) ((Ra ⟨(a0.Blocks.getD i3.toNat default).End.Kind,(a0.Blocks.getD i3.toNat default).End.Arg,(a0.Blocks.getD i3.toNat default).End.To⟩ a0.Blocks.length).bind λx7=>bif !x7 then some (.done (.inr (⟨[],[]⟩,5))) else(NA (a0.Blocks.getD i3.toNat default).End.To).bind λx8=>Ay (As i3 l4.length) (some (.next (w64 (i3+1),l4.set i3.toNat x8)))) else some (.done (.inl l4))
abbrev lF:=(If×Int)
def jH(Γ:Ip)(a0:AI)(r:lF):Exit->St->Prop:=fK Tryz.prog Γ Tryz.f55.results.toList [] (.tuple [(jB r.1),(Z6 r.2)]) []
def Q25:AV:=HD
def Q26:List LB:=[Nf,(3,(.int .i64 (5:Int)))]
def Q29(a0:AI)(i3:Int):=(a0.Blocks.getD i3.toNat default)
def Q27:AV:=wg
def Q28(a0:AI):=(List.replicate (a0.Blocks.length:Int).toNat ([]:Aq))
def yu:List AV:=[Z61,Z61]
def Wd(a0:AI):Option lF:=
 (N0 a0.Blocks.length).bind λx1=>bif !x1 then some (⟨[],[]⟩,5) else Ay (0<=(a0.Blocks.length:Int)/\a0.Blocks.length<=(a0.Blocks.length:Int)/\a0.Blocks.length<=(room:Int)) ((Ae   (Il a0) (0,List.replicate (a0.Blocks.length:Int).toNat [])).bind λx10=>match x10 with | .inl l5=>(O9 l5).bind λx12=>some (⟨l5,x12⟩,0) | .inr r13=>some r13)
variable{v16:lF}
theorem QS(h:Wd v0=some v16):sP 55 [(AF v0)] [] (.tuple [(jB v16.1),(Z6 v16.2)]) []:=
 sG Tryz.func55 λΓ q=>have hΓ:=q.own;tW q Oa Oa W6 Oa (tB h λx1 y1 h=>tT q [1,2,4,13] Oa [(Z7 x1)] (c1 (Zi y1)) (gC h (λh=>gR q Cf [2] [(14,(.agg yu))] [] (c1 (show(AVle (.agg [Q25,Q25]) (.agg yu)) from(AVle.agg (.cons Cw (.cons Cw .nil))))) (Qu (⟨Q26,[(J5 64 yu)],[]⟩:St) (tS h (gK (e:=.ret) (Iq [] (show Le Γ _ (⟨Q26,[(qI Q27)],[]⟩:St) from Le.trans (A9 (st':=⟨Q26,[(J5 64 yu)],[]⟩) Cf [2] q) (Fb (.cR (.cR .nil)) (.row (.cons AVle.untag (.cons AVle.untag .nil)) .nil)))))))) λh=>tV q YE [1,2,16] h λh=>by exact Na (Le.trans (Xb 16 (show ∀ k_,k_<((v0.Blocks.length:Int).toNat)->AVleL ((λi_=>AV.eraseAll (λn_=>Ce n_ [1,2,16]) ((λ_=>[Q25]) i_)) k_) ((λi=>Mn ((Q28 v0).getD i [])) k_) from(λk hk=>S7 (e:=Mn) (d:=[]) (.cons (λ_ _ _ _ _ hh=>AVle.untag _ _ _ _ _ (Cw _ _ _ _ _ hh)) .nil) _ k (Tc hk)))) (Xc (λ(k_:Nat) u=>(Cv u [(5,(.vsl 16 k_))] [(16,.arr 1 22 k_ (λi=>Mn ((Q28 v0).getD i [])))])) (show(v0.Blocks.length:Int).toNat=(Q28 v0).length from(Vh ..).symm))) (Af q eM Ys (tL q h eM Ys (λu (i3,l4)=>(Cv u [(5,(.vsl 16 l4.length)),(20,(Z6 i3))] [(16,.arr 1 22 l4.length (λi=>Mn (l4.getD i [])))])) (λu x_=>match x_ with|(.inl l5)=>aG Γ (.exit 0) (N6 Ms Ys u [(5,(.vsl 16 l5.length))] [(16,.arr 1 22 l5.length (λi=>Mn (l5.getD i [])))])|(.inr r_)=>aR (jH Γ v0 r_)) (λ⟨i3,l4⟩ y h=>Af q [2,4,5,18,19,20,21] Ys (gC h (λh=>tV q [2,4,5,6,7,18,19,20] [2,7,16] h λh=>tB h λx7 y7 h=>tT q [2,4,5,6,7,18,19,20,29] [2,7,16] [(Z7 x7)] (c1 (ON y7)) (gC h (λh=>gR q Cf [2] [(30,(.agg yu))] [] (c1 (show(AVle (.agg [Q25,Q25]) (.agg yu)) from(AVle.agg (.cons Cw (.cons Cw .nil))))) (Qu (⟨Q26,[(J5 64 yu)],[]⟩:St) (tS h (gO (M8 (Iq [] (show Le Γ _ (⟨Q26,[(qI Q27)],[]⟩:St) from Le.trans (A9 (st':=⟨Q26,[(J5 64 yu)],[]⟩) Cf [2] q) (Fb (.cR (.cR .nil)) (.row (.cons AVle.untag (.cons AVle.untag .nil)) .nil))))))))) λh=>tB h λx8 y8 h=>tC h λc9_ h=>tT q eM Ys [⟨[],[],(Z8 x8),[],[],[]⟩] (c3 (lC ((Q29 v0 i3).End.To) x8 y8) c9_ (Eq.refl l4.length)) (Na (Le.trans (Xb 16 (show ∀ k_,k_<l4.length->AVleL ((λi_=>AV.eraseAll (λn_=>Ce n_ Ys) ((F4 (λi=>Mn (l4.getD i [])) i3.toNat 0 [(Z8 x8)]) i_)) k_) ((λi=>Mn ((l4.set i3.toNat x8).getD i [])) k_) from(Bs (Ek ..).symm (λk_ hk_=>(Bw (AV.eraseAll (λn_=>Ce n_ Ys)) ((H6 (λ_ _=>rfl) (Kr c9_) rfl) k_ hk_)).trans rfl)))) (Xc (λ(k_:Nat) u=>(Cv u [(5,(.vsl 16 k_))] [(16,.arr 1 22 k_ (λi=>Mn ((l4.set i3.toNat x8).getD i [])))])) (show l4.length=(l4.set i3.toNat x8).length from(Ek ..).symm))) (Af q eM Ys (tN h))))) λh=>tS h (gO (A7 (A9 Ms Ys q))))) λx10 h=>(match x10,h with | .inl l5,h=>gA (Qu (⟨[Nf,(5,(.vsl 16 l5.length))],[(qI Q25),(16,.arr 1 22 l5.length (λi=>Mn (l5.getD i [])))],[]⟩:St) (Na (Le.trans (Hh (nm:=16) (sz:=1) (n:=l5.length) (e:=22) (f:=(λi=>Mn (l5.getD i []))) (g:=(λi=>Mn (l5.getD i []))) rfl ⟨rfl,trivial⟩ (λ_ _=>rfl) (by rw[hΓ];rfl)) (Iw (st':=⟨[Nf,(5,(vN l5 16))],[(qI Q25),(16,.tok 1 22 l5.length)],[]⟩) (by kernel_rfl))) (tB h λx12 y12 h=>tT q Cf [2,16,41] [⟨[],[(20000,41)],(vN x12 20000),[(20000,.tok 1 22 x12.length)],[],[]⟩] (c1 (CW y12)) (tS h (Bx []))))) | .inr r13,h=>gAr (λst' hk=>tS h (gK hk)))))))
def Ia(a6:Nw)(i2:Int):Oj->Option (LR (Int×Int) (Unit ⊕ Bool)):=
 λ(i4,i5)=>bif decide (i5<(a6.getD i2.toNat []).length) then Ay (As i5 (a6.getD i2.toNat []).length) ((bif decide ((a6.getD i2.toNat []).getD i5.toNat 0<=i4)==false then Lh ((a6.getD i2.toNat []).getD i5.toNat 0) a6.length else some false).bind λx7=>bif bif decide ((a6.getD i2.toNat []).getD i5.toNat 0<=i4) then true else !x7 then some (.done (.inr false)) else some (.next ((a6.getD i2.toNat []).getD i5.toNat 0,w64 (i5+1)))) else some (.done (.inl ()))
def Dx(a6:Nw):Int->Option (LR Int (Unit ⊕ Bool)):=
 λi2=>bif decide (i2<a6.length) then Ay (As i2 a6.length) ((Ae   (Ia a6 i2) (-1,0)).bind λx8=>match x8 with | .inl _=>some (.next (w64 (i2+1))) | .inr r10=>some (.done (.inr r10))) else some (.done (.inl ()))
def CM(Γ:Ip)(a6:Nw)(r:Bool):Exit->St->Prop:=fK Tryz.prog Γ Tryz.f149.results.toList [] (.bool r) []
def Q30(a6:Nw)(i2:Int)(i5:Int)(i4:Int):=(decide (((a6.getD i2.toNat []).getD i5.toNat 0)<=i4))
def Rb(a6:Nw):Option Bool:=
 (N0 a6.length).bind λx1=>bif !x1 then some false else(Ae   (Dx a6) 0).bind λx11=>match x11 with | .inl _=>some true | .inr r13=>some r13
theorem OO(h:Rb v14=some v3):sP 149 [(IV v14)] [] (.bool v3) []:=
 sG Tryz.func149 λΓ q=>Af q [0] [] (tB h λx1 y1 h=>tT q [0,11] [] [(Z7 x1)] (c1 (Zi y1)) (gC h (λh=>Af q [2] [] (tS h (Bx []))) λh=>Af q XR [] (tL q h XR [] (λu i2=>(Cv u [(14,(Z6 i2))] [])) (λu x_=>match x_ with|(.inl _)=>aG Γ (.exit 0) (⟨[],[],[]⟩:St)|(.inr r_)=>aR (CM Γ v14 r_)) (λi2 y h=>Af q [0,12,13,14,15] [] (gC h (λh=>tV q eR [] h λh=>tW q [0,4,5,12,13,14] [] np [] (tL q h np [] (λu (i4,i5)=>(Cv u [(5,(Z6 i4)),(20,(Z6 i5))] [])) (λu x_=>match x_ with|(.inl _)=>aG Γ (.exit 2) (N6 XR [] u [] [])|(.inr r_)=>aR (CM Γ v14 r_)) (λ⟨i4,i5⟩ y h=>Af q [0,5,12,13,14,18,19,20,21] [] (gC h (λh=>tV q [0,5,7,12,13,14,18,19,20] [] h λh=>tB h λx7 y7 h=>tT q [0,7,12,13,14,18,19,20,33] [] [(Z7 x7)] (Sn ((Q30 v14 i2 i5 i4)==false) (c3 (λ(hg:((Q30 v14 i2 i5 i4)==false)=true)=>(T6 (Bj hg y7))) (gI ((Q30 v14 i2 i5 i4)==false)) (Jr (Q30 v14 i2 i5 i4)))) (gC h (λh=>Af q [2] [] (tS h (gO (M8 (Iq [] (Le.refl _ _)))))) λh=>tW q np [] np [] (tN h))) λh=>tS h (gO (A7 (A9 XR [] q))))) λx8 h=>(match x8,h with | .inl _,h=>gA (Af q XR [] (tN h)) | .inr r10,h=>gAr (λst' hk=>tS h (gO (M8 hk)))))) λh=>tS h (gO (A7 (A9 [] [] q))))) λx11 h=>(match x11,h with | .inl _,h=>gA (Af q [2] [] (tS h (Bx []))) | .inr r13,h=>gAr (λst' hk=>tS h (gK hk))))))
def Fc(aa5:Aq)(aa8:Aq):Int->Option (LR Int (Unit ⊕ Bool)):=
 λi1=>bif decide (i1<aa5.length) then Ay (As i1 aa5.length) (Ay (As i1 aa8.length) (bif aa5.getD i1.toNat 0 !=aa8.getD i1.toNat 0 then some (.done (.inr false)) else some (.next (w64 (i1+1))))) else some (.done (.inl ()))
def AJ(Γ:Ip)(aa5:Aq)(aa8:Aq)(r:Bool):Exit->St->Prop:=fK Tryz.prog Γ Tryz.f86.results.toList [] (.bool r) []
def E6(aa5:Aq)(aa8:Aq):Option Bool:=
 bif (aa5.length:Int)!=aa8.length then some false else(Ae   (Fc aa5 aa8) 0).bind λx4=>match x4 with | .inl _=>some true | .inr r6=>some r6
variable{v17:Aq}
theorem M4(h:E6 v2 v17=some v3):sP 86 [(Z8 v2),(Z8 v17)] [] (.bool v3) []:=
 sG Tryz.func86 λΓ q=>tW q Gu [] GX [] (gC h (λh=>Af q [4] [] (tS h (Bx []))) λh=>Af q lz [] (tL q h lz [] (λu i1=>(Cv u [(13,(Z6 i1))] [])) (λu x_=>match x_ with|(.inl _)=>aG Γ (.exit 0) (⟨[],[],[]⟩:St)|(.inr r_)=>aR (AJ Γ v2 v17 r_)) (λi1 y h=>Af q [0,1,12,13,14] [] (gC h (λh=>Af q [0,1,5,12,13] [] (zt9 h λc2_ c3_ h=>tU q [0,1,12,13,24] [] (c2 c2_ c3_) (gC h (λh=>Af q [4] [] (tS h (gO (M8 (Iq [] (Le.refl _ _)))))) λh=>Af q lz [] (tN h)))) λh=>tS h (gO (A7 (A9 [] [] q))))) λx4 h=>(match x4,h with | .inl _,h=>gA (Af q [4] [] (tS h (Bx []))) | .inr r6,h=>gAr (λst' hk=>tS h (gK hk)))))
def Cd(aa5:Nw)(aa8:Nw):Int->Option (LR Int (Unit ⊕ Bool)):=
 λi1=>bif decide (i1<aa5.length) then Ay (As i1 aa5.length) (Ay (As i1 aa8.length) ((E6 (aa5.getD i1.toNat []) (aa8.getD i1.toNat [])).bind λx4=>bif !x4 then some (.done (.inr false)) else some (.next (w64 (i1+1))))) else some (.done (.inl ()))
def Rf(Γ:Ip)(aa5:Nw)(aa8:Nw)(r:Bool):Exit->St->Prop:=fK Tryz.prog Γ Tryz.f150.results.toList [] (.bool r) []
def Dy(aa5:Nw)(aa8:Nw):Option Bool:=
 bif (aa5.length:Int)!=aa8.length then some false else(Ae   (Cd aa5 aa8) 0).bind λx5=>match x5 with | .inl _=>some true | .inr r7=>some r7
theorem Qp(h:Dy v14 v15=some v3):sP 150 [(IV v14),(IV v15),(.clo 86 [] [])] [] (.bool v3) []:=
 sG Tryz.func150 λΓ q=>tW q YP [] [0,1,2,14] [] (gC h (λh=>Af q [6] [] (tS h (Bx []))) λh=>Af q la [] (tL q h la [] (λu i1=>(Cv u [(17,(Z6 i1))] [])) (λu x_=>match x_ with|(.inl _)=>aG Γ (.exit 0) (⟨[],[],[]⟩:St)|(.inr r_)=>aR (Rf Γ v14 v15 r_)) (λi1 y h=>Af q [1,2,15,16,17,18] [] (gC h (λh=>tV q [1,2,7,8,15,16,17] [] h λh=>tV q [1,2,8,9,15,16,17] [] h λh=>tB h λx4 y4 h=>tT q [1,2,15,16,17,30] [] [(Z7 x4)] (c1 (M4 y4)) (gC h (λh=>Af q [6] [] (tS h (gO (M8 (Iq [] (Le.refl _ _)))))) λh=>Af q la [] (tN h))) λh=>tS h (gO (A7 (A9 [] [] q))))) λx5 h=>(match x5,h with | .inl _,h=>gA (Af q [6] [] (tS h (Bx []))) | .inr r7,h=>gAr (λst' hk=>tS h (gK hk)))))
def Xr(a4:If):Option Bool:=
 (Rb a4.Succ).bind λx1=>(bif x1==true then O9 a4.Succ else some []).bind λx2=>(bif x1==true then Dy a4.Pred x2 else some false).bind λx3=>some (bif x1 then x3 else false)
variable{v18:If}
theorem de(h:Xr v18=some v3):sP 126 [(jB v18)] [] (.bool v3) []:=
 sG Tryz.func126 λΓ q=>Af q [1] [1] (tB h λx1 y1 h=>tB h λx2 y2 h=>tB h λx3 y3 h=>tT q [2] [] [(Z7 x1),⟨[],[],(IV x2),[],[],[]⟩,(Z7 x3)] (ci (OO y1) (Sn (x1==true) (ci (show((x1==true)=true->(sP 84 [(IV v18.Succ)] [] (IV x2) [])) from(λhg=>(Spec.drop (CW (Bj hg y2))))) (Kj (x1==true) (c2 (λ(hg:(x1==true)=true)=>(Qp (Bj hg y3))) (Nh x1)))))) (tS h (Bx [])))
def Bq :(Int×Int×Aq)->Option (LR (Int×Int×Aq) Aq):=
 λ(i1,i2,l3)=>bif decide (i1<i2) then Ay (As i2 l3.length) (Ay (As i1 l3.length) (Ay (As i1 l3.length) (Ay (As i2 l3.length) (some (.next (w64 (i1+1),w64 (i2-1),(l3.set i1.toNat (l3.getD i2.toNat 0)).set i2.toNat (l3.getD i1.toNat 0))))))) else some (.done l3)
def Q31(l3:Aq)(i1:Int)(i2:Int):=((l3.set i1.toNat (l3.getD i2.toNat 0)).set i2.toNat (l3.getD i1.toNat 0))
def F0(aM:Aq):Option Aq:=
 (Ae   Bq (0,w64 (aM.length-1),aM)).bind λx9=>some x9
theorem P4(h:F0 v2=some v17):sP 127 [(.vsl 34000 v2.length)] [(Z4 34000 v2)] (.tuple []) [(Z4 34000 v17)]:=
 sG Tryz.func127 λΓ q=>Af q KV [34000] (tL q h KV [34000] (λu (i1,i2,l3)=>(Cv u [(0,(.vsl 34000 l3.length)),(2,(Z6 i1)),(3,(Z6 i2))] [(Z4 34000 l3)])) (λu l4=>aG Γ (.exit 0) (⟨[],[(Z4 34000 l4)],[]⟩:St)) (λ⟨i1,i2,l3⟩ y h=>Af q [0,2,3,9] [34000] (gC h (λh=>zt9 h λc5_ c6_ h=>zt9 h λc7_ c8_ h=>tU q KV [34000] (c8 c5_ (Eq.refl l3.length) c6_ (Eq.refl l3.length) c7_ (Eq.refl l3.length) c8_ (Eq.refl l3.length)) (Na (Le.trans (Xb 34000 (show ∀ k_,k_<l3.length->AVleL ((λi_=>AV.eraseAll (λn_=>Ce n_ [34000]) ((F4 (F4 (λi=>Ak (l3.getD i 0)) i1.toNat 0 [(.int .i64 (l3.getD i2.toNat 0))]) i2.toNat 0 [(.int .i64 (l3.getD i1.toNat 0))]) i_)) k_) ((λi=>Ak ((Q31 l3 i1 i2).getD i 0)) k_) from(Bs (Eq.trans (Ek ..).symm (Ek ..).symm) (λk_ hk_=>(Bw (AV.eraseAll (λn_=>Ce n_ [34000])) ((H6 (H6 (λ_ _=>rfl) (Kr c7_) rfl) (xW c8_) rfl) k_ hk_)).trans rfl)))) (Xc (λ(k_:Nat) u=>(Cv u [(0,(.vsl 34000 k_))] [(34000,.arr 1 3 k_ (λi=>Ak ((Q31 l3 i1 i2).getD i 0)))])) (show l3.length=(Q31 l3 i1 i2).length from(Eq.trans (Ek ..).symm (Ek ..).symm)))) (Af q KV [34000] (tN h)))) λh=>tS h (gO (A7 (A9 [] [34000] q))))) λx9 h=>pD (λst' hl10=>tS h (gK (e:=.normal) (Iq [(34000,34000)] hl10))))
abbrev yT8:=(LR Aq (Aq ⊕ (List Bool×Aq×Aq)))
def OB(a4:If)(a1:Int):Aq->Option yT8:=
 λl9=>Ay (As ([a1].getD (w64 ([a1].length-1)).toNat 0) 64) (Ay (As ([a1].getD (w64 ([a1].length-1)).toNat 0) a4.Succ.length) (bif decide (l9.getD ([a1].getD (w64 ([a1].length-1)).toNat 0).toNat 0<(a4.Succ.getD ([a1].getD (w64 ([a1].length-1)).toNat 0).toNat []).length) then Ay (As ([a1].getD (w64 ([a1].length-1)).toNat 0) a4.Succ.length) (Ay (As ([a1].getD (w64 ([a1].length-1)).toNat 0) 64) (Ay (As (l9.getD ([a1].getD (w64 ([a1].length-1)).toNat 0).toNat 0) (a4.Succ.getD ([a1].getD (w64 ([a1].length-1)).toNat 0).toNat []).length) (Ay (As ([a1].getD (w64 ([a1].length-1)).toNat 0) 64) (Ay (As ([a1].getD (w64 ([a1].length-1)).toNat 0) 64) (Ay (As ((a4.Succ.getD ([a1].getD (w64 ([a1].length-1)).toNat 0).toNat []).getD (l9.getD ([a1].getD (w64 ([a1].length-1)).toNat 0).toNat 0).toNat 0) 64) (bif !(R8 64 false (List.replicate 64 false) a1.toNat true).getD ((a4.Succ.getD ([a1].getD (w64 ([a1].length-1)).toNat 0).toNat []).getD (l9.getD ([a1].getD (w64 ([a1].length-1)).toNat 0).toNat 0).toNat 0).toNat false then Ay (As ((a4.Succ.getD ([a1].getD (w64 ([a1].length-1)).toNat 0).toNat []).getD (l9.getD ([a1].getD (w64 ([a1].length-1)).toNat 0).toNat 0).toNat 0) 64) (Ay ([a1].length+[(a4.Succ.getD ([a1].getD (w64 ([a1].length-1)).toNat 0).toNat []).getD (l9.getD ([a1].getD (w64 ([a1].length-1)).toNat 0).toNat 0).toNat 0].length<=room) (some (.done (.inr (R8 64 false (R8 64 false (List.replicate 64 false) a1.toNat true) ((a4.Succ.getD ([a1].getD (w64 ([a1].length-1)).toNat 0).toNat []).getD (l9.getD ([a1].getD (w64 ([a1].length-1)).toNat 0).toNat 0).toNat 0).toNat true,R8 64 0 l9 ([a1].getD (w64 ([a1].length-1)).toNat 0).toNat (w64 (l9.getD ([a1].getD (w64 ([a1].length-1)).toNat 0).toNat 0+1)),[a1]++[(a4.Succ.getD ([a1].getD (w64 ([a1].length-1)).toNat 0).toNat []).getD (l9.getD ([a1].getD (w64 ([a1].length-1)).toNat 0).toNat 0).toNat 0]))))) else some (.next (R8 64 0 l9 ([a1].getD (w64 ([a1].length-1)).toNat 0).toNat (w64 (l9.getD ([a1].getD (w64 ([a1].length-1)).toNat 0).toNat 0+1)))))))))) else some (.done (.inl l9))))
def Kg(a4:If)(l1:List Bool)(l3:Aq):Aq->Option yT8:=
 λl32=>Ay (As (l3.getD (w64 (l3.length-1)).toNat 0) 64) (Ay (As (l3.getD (w64 (l3.length-1)).toNat 0) a4.Succ.length) (bif decide (l32.getD (l3.getD (w64 (l3.length-1)).toNat 0).toNat 0<(a4.Succ.getD (l3.getD (w64 (l3.length-1)).toNat 0).toNat []).length) then Ay (As (l3.getD (w64 (l3.length-1)).toNat 0) a4.Succ.length) (Ay (As (l3.getD (w64 (l3.length-1)).toNat 0) 64) (Ay (As (l32.getD (l3.getD (w64 (l3.length-1)).toNat 0).toNat 0) (a4.Succ.getD (l3.getD (w64 (l3.length-1)).toNat 0).toNat []).length) (Ay (As (l3.getD (w64 (l3.length-1)).toNat 0) 64) (Ay (As (l3.getD (w64 (l3.length-1)).toNat 0) 64) (Ay (As ((a4.Succ.getD (l3.getD (w64 (l3.length-1)).toNat 0).toNat []).getD (l32.getD (l3.getD (w64 (l3.length-1)).toNat 0).toNat 0).toNat 0) 64) (bif !l1.getD ((a4.Succ.getD (l3.getD (w64 (l3.length-1)).toNat 0).toNat []).getD (l32.getD (l3.getD (w64 (l3.length-1)).toNat 0).toNat 0).toNat 0).toNat false then Ay (As ((a4.Succ.getD (l3.getD (w64 (l3.length-1)).toNat 0).toNat []).getD (l32.getD (l3.getD (w64 (l3.length-1)).toNat 0).toNat 0).toNat 0) 64) (Ay (l3.length+[(a4.Succ.getD (l3.getD (w64 (l3.length-1)).toNat 0).toNat []).getD (l32.getD (l3.getD (w64 (l3.length-1)).toNat 0).toNat 0).toNat 0].length<=room) (some (.done (.inr (R8 64 false l1 ((a4.Succ.getD (l3.getD (w64 (l3.length-1)).toNat 0).toNat []).getD (l32.getD (l3.getD (w64 (l3.length-1)).toNat 0).toNat 0).toNat 0).toNat true,R8 64 0 l32 (l3.getD (w64 (l3.length-1)).toNat 0).toNat (w64 (l32.getD (l3.getD (w64 (l3.length-1)).toNat 0).toNat 0+1)),l3++[(a4.Succ.getD (l3.getD (w64 (l3.length-1)).toNat 0).toNat []).getD (l32.getD (l3.getD (w64 (l3.length-1)).toNat 0).toNat 0).toNat 0]))))) else some (.next (R8 64 0 l32 (l3.getD (w64 (l3.length-1)).toNat 0).toNat (w64 (l32.getD (l3.getD (w64 (l3.length-1)).toNat 0).toNat 0+1)))))))))) else some (.done (.inl l32))))
abbrev yT9:=(List Bool×Aq×Aq×Aq)
def E3(a4:If):yT9->Option (LR (List Bool×Aq×Aq×Aq) Aq):=
 λs_=>match s_ with|(l1,l2,l3,l4)=>Ay (As (w64 (l3.length-1)) l3.length) ((Ae   (Kg a4 l1 l3) l2).bind λx47=>match x47 with | .inl l33=>Ay (l4.length+[l3.getD (w64 (l3.length-1)).toNat 0].length<=room) (Ay (0<=w64 (l3.length-1)/\0+(w64 (l3.length-1)).toNat<=l3.length) (bif decide (0<((l3.take (w64 (l3.length-1)).toNat).length:Int)) then some (.next (l1,l33,l3.take (w64 (l3.length-1)).toNat,l4++[l3.getD (w64 (l3.length-1)).toNat 0])) else(F0 (l4++[l3.getD (w64 (l3.length-1)).toNat 0])).bind λx51=>Ay ((l4++[l3.getD (w64 (l3.length-1)).toNat 0]).length=x51.length) (some (.done x51)))) | .inr (l34,l35,l36)=>some (.next (l34,l35,l36,l4)))
def ZK(Γ:Ip)(a4:If)(a1:Int)(r:Aq):Exit->St->Prop:=fK Tryz.prog Γ Tryz.f90.results.toList [] (AN r 20000) [(CN 20000 r.length)]
def Q50(l1:List Bool):=(λi=>eB (l1.getD i false))
def qG(l3:Aq):=(l3.getD (w64 ((l3.length:Int)-1)).toNat (0:Int))
def qu(l4:Aq)(l3:Aq):=(l4++([(qG l3)]:Aq))
def Q43(l10:Aq):=(λi=>Ak (l10.getD i 0))
def Q49(l33:Aq):=(λi=>Ak (l33.getD i 0))
def iz:=(λn_=>Ce n_ [2,5,6,25,36007])
def Q39(a1:Int):=(λi=>Ak ([a1].getD i 0))
def mG(a1:Int):=([a1].getD (w64 (([a1].length:Int)-1)).toNat (0:Int))
def vJ(a1:Int):=(([]:Aq)++([(mG a1)]:Aq))
def Q54(a1:Int):=(λi=>Ak ((vJ a1).getD i 0))
def Q53(l4:Aq)(l3:Aq):=(λi=>Ak ((qu l4 l3).getD i 0))
def Q40:AV:=ZR
def Q42:=(λi=>Ak (([]:Aq).getD i 0))
def Q38(l3:Aq):=(0+(w64 ((l3.length:Int)-1)).toNat)
def Q37(a1:Int):=(0+(w64 (([a1].length:Int)-1)).toNat)
def Q52(a1:Int):=([a1].take (w64 (([a1].length:Int)-1)).toNat)
def Q41:=(λi=>Ak ((List.replicate 64 (0:Int)).getD i 0))
def qq(a4:If):List AV:=[(IV a4.Succ),(IV a4.Pred)]
def yv(a1:Int):=(λi=>eB ((R8 64 false (List.replicate 64 false) a1.toNat true).getD i false))
def vI(a4:If)(l3:Aq)(l32:Aq):=((a4.Succ.getD (qG l3).toNat []).getD (l32.getD (qG l3).toNat (0:Int)).toNat (0:Int))
def vH(a4:If)(a1:Int)(l9:Aq):=((a4.Succ.getD (mG a1).toNat []).getD (l9.getD (mG a1).toNat (0:Int)).toNat (0:Int))
def Q51:=(Z39:St)
def Q55(a1:Int):List LB:=[Nf,rG,rF,(7,(.vsl 36007 (vJ a1).length)),(8,(.vsl 25 (Q37 a1)))]
def Q48(a1:Int)(a4:If):=(⟨[Nf,rG,rF,(7,(.vsl 36007 ([]:Aq).length)),(8,(.vsl 25 [a1].length)),(9,(Z6 (mG a1)))],[(J5 64 (qq a4)),(TG (yv a1)),(RR Q41),(25,.arr 1 3 ([a1].length) (Q39 a1)),(36007,.arr 1 3 (([]:Aq).length) Q42)],[]⟩:St)
def Mj(a4:If)(a1:Int):Option Aq:=
 (U8   ((Xr a4).bind λx5=>(bif (!x5)==false then Lh a1 a4.Succ.length else some false).bind λx6=>bif bif !x5 then true else !x6 then some (.done []) else Ay (As a1 64) (Ay (As (w64 ([a1].length-1)) [a1].length) ((Ae   (OB a4 a1) (List.replicate 64 0)).bind λx24=>match x24 with | .inl l10=>Ay (([]:Aq).length+[[a1].getD (w64 ([a1].length-1)).toNat 0].length<=room) (Ay (0<=w64 ([a1].length-1)/\0+(w64 ([a1].length-1)).toNat<=[a1].length) (bif decide (0<(([a1].take (w64 ([a1].length-1)).toNat).length:Int)) then some (.next (R8 64 false (List.replicate 64 false) a1.toNat true,l10,[a1].take (w64 ([a1].length-1)).toNat,[]++[[a1].getD (w64 ([a1].length-1)).toNat 0])) else(F0 ([]++[[a1].getD (w64 ([a1].length-1)).toNat 0])).bind λx28=>Ay (([]++[[a1].getD (w64 ([a1].length-1)).toNat 0]).length=x28.length) (some (.done x28)))) | .inr (l11,l12,l13)=>some (.next (l11,l12,l13,[]))))) (E3 a4)).bind λx54=>some x54
theorem FT(h:Mj v18 v1=some v2):sP 90 [(jB v18),(Z6 v1)] [] (AN v2 20000) [(CN 20000 v2.length)]:=
 sG Tryz.func90 λΓ q=>have hΓ:=q.own;gR q Oa [2] [(4,Q40)] [] (c1 (Bp 1 Ak (0:Int))) (tB h λx54 y54 h=>gS y54 (λ(s_:yT9)=>match s_ with|(l1,l2,l3,l4)=>0) (λ(s_:yT9)=>match s_ with|(l1,l2,l3,l4)=>(⟨[Nf,rG,rF,(X8 36007 l4.length),(8,(.vsl 25 l3.length))],[(J5 64 (qq v18)),(TG (Q50 l1)),(Z75 l2),(Z4 25 l3),(Z4 36007 l4)],[]⟩:St)) (λr_=>aR (ZK Γ v18 v1 r_)) (λy h=>tB h λx5 y5 h=>tB h λx6 y6 h=>tT q [1,2,21] [2] [(Z7 x5),(Z7 x6)] (ci (de y5) (bW ((!x5)==false) (c3 (λ(hg:((!x5)==false)=true)=>(T6 (Bj hg y6))) (gI ((!x5)==false)) (Jr (!x5))))) (gC h (λh=>gR q [4] [] [(4,Q40)] [] (c1 (Bp 1 Ak (0:Int))) (Qu (⟨[(4,Q40)],[],[]⟩:St) (tS h (qJ (M8 (Iq XS (show Le Γ _ Q51 from Le.trans (A9 (st':=⟨[(4,Q40)],[],[]⟩) [4] [] q) (Le.trans (M0 (t:=4) (nm:=6004) (sz':=1) Q42 3 rfl rfl (.inl ⟨rfl,rfl⟩) (λh_=>absurd h_ (by decide))) (A9 (st':=Q51) [4] [6004] q))))))))) λh=>gR q X6 Ms [rG] [] trivial (Na (Xb 5 (show ∀ k_,k_<64->AVleL ((λi_=>AV.eraseAll (λn_=>Ce n_ Ms) ((λi=>(((List.replicate 64 [(.bool false)]).flatten).drop (i*1)).take 1) i_)) k_) ((λi=>eB ((List.replicate 64 false).getD i false)) k_) from(bH (e:=eB) (d:=false) (z:=[(.bool false)]) rfl rfl rfl))) (gR q PS AD [rF] [] trivial (Na (Xb 6 (show ∀ k_,k_<64->AVleL ((λi_=>AV.eraseAll (λn_=>Ce n_ AD) ((λi=>(((List.replicate 64 [Js]).flatten).drop (i*1)).take 1) i_)) k_) (Q41 k_) from(bH (e:=Ak) (d:=(0:Int)) (z:=[Js]) rfl rfl rfl))) (gR q ln AD [(7,Q40)] [] (c1 (Bp 1 Ak (0:Int))) (tC h λc7_ h=>tU q ln AD (c2 c7_ (Eq.refl 64)) (Na (Xb 5 (show ∀ k_,k_<64->AVleL ((λi_=>AV.eraseAll (λn_=>Ce n_ AD) ((F4 (λi=>eB ((List.replicate 64 false).getD i false)) v1.toNat 0 [(.bool true)]) i_)) k_) ((yv v1) k_) from(Bs rfl (λk_ hk_=>(Bw (AV.eraseAll (λn_=>Ce n_ AD)) ((Zp (λ_ _=>rfl) (Sp c7_) rfl) k_ hk_)).trans rfl)))) (gR q HA ee [(25,(.vsl 25 1))] [] trivial (Na (Le.trans (Xb 25 (show ∀ k_,k_<1->AVleL ((λi_=>AV.eraseAll (λn_=>Ce n_ ee) ((λi_=>([(Z6 v1)].drop (i_*1)).take 1) i_)) k_) ((Q39 v1) k_) from(Bs rfl (dr (n:=0) kn rfl)))) (Xc (λ(k_:Nat) u=>(Cv u [(8,(.vsl 25 k_))] [(25,.arr 1 3 k_ (Q39 v1))])) (show 1=[v1].length from rfl))) (tC h λc8_ h=>tU q JN ee (c2 c8_ (Eq.refl ([v1].length))) (Na (st':=(Q48 v1 v18)) (Le.trans (A9 (st':=⟨[Nf,rG,rF,(7,Q40),(8,(.vsl 25 [v1].length)),(9,(Z6 (mG v1)))],[(J5 64 (qq v18)),(TG (yv v1)),(RR Q41),(25,.arr 1 3 ([v1].length) (Q39 v1))],[]⟩) JN ee q) (Le.trans (dR (t:=7) (nm:=36007) (sz':=1) Q42 3 rfl rfl) (A9 (st':=(Q48 v1 v18)) JN R9 q))) (tL q h JN R9 (λu l9=>(Cv u [] [(Z75 l9)])) (λu x_=>match x_ with|(.inl l10)=>aG Γ (.exit 0) (Cv u [] [(RR (Q43 l10))])|(.inr (l11,l12,l13))=>aG Γ (.goto 0) (N6 HA R9 u [(8,(.vsl 25 l13.length))] [(5,.arr 1 158 64 (λi=>eB (l11.getD i false))),(Z75 l12),(Z4 25 l13)])) (λl9 y h=>zt9 h λaf4 af3 h=>tU q [2,5,6,7,8,9,41] R9 (c3 af4 (Eq.refl 64) af3) (gC h (λh=>zt9 h λae4 ag2 h=>tC h λai1 h=>tU q eL R9 (c4 ae4 ag2 (Eq.refl 64) ai1) (zt9 h λaj0 c20_ h=>tU q eL R9 (c4 aj0 (Eq.refl 64) c20_ (Eq.refl 64)) (Na (Xb 6 (show ∀ k_,k_<64->AVleL ((λi_=>AV.eraseAll iz ((F4 (λi=>Ak (l9.getD i 0)) (mG v1).toNat 0 [(.int .i64 (w64 ((l9.getD (mG v1).toNat (0:Int))+1)))]) i_)) k_) ((λi=>Ak ((R8 64 (0:Int) l9 (mG v1).toNat (w64 ((l9.getD (mG v1).toNat (0:Int))+1))).getD i 0)) k_) from(Bs rfl (λk_ hk_=>(Bw (AV.eraseAll iz) ((Zp (λ_ _=>rfl) (Sp c20_) rfl) k_ hk_)).trans rfl)))) (tC h λaj8 h=>tU q u3 R9 (c2 aj8 (Eq.refl 64)) (gC h (λh=>tC h λah7 h=>tU q [2,5,6,7,8,10] R9 (c2 ah7 (Eq.refl 64)) (Na (Xb 5 (show ∀ k_,k_<64->AVleL ((λi_=>AV.eraseAll iz ((F4 (yv v1) (vH v18 v1 l9).toNat 0 [(.bool true)]) i_)) k_) ((λi=>eB ((R8 64 false (R8 64 false (List.replicate 64 false) v1.toNat true) (vH v18 v1 l9).toNat true).getD i false)) k_) from(Bs rfl (λk_ hk_=>(Bw (AV.eraseAll iz) ((Zp (λ_ _=>rfl) (Sp ah7) rfl) k_ hk_)).trans rfl)))) (tC h λai0 h=>gR q HA R9 [(65,(mJ (vH v18 v1 l9)))] [] (c3 (Au 1 Ak (0:Int) ([(vH v18 v1 l9)]:Aq)) (Eq.refl ([v1].length)) ai0) (tS h (gO (A7 (Le.trans (Le.trans (Xb 25 (show ∀ k_,k_<([v1].length+([(vH v18 v1 l9)]:Aq).length)->AVleL ((λi_=>AV.eraseAll iz ((Qi ([v1].length) (Q39 v1) (λi=>Ak (([(vH v18 v1 l9)]:Aq).getD i 0))) i_)) k_) ((λi=>Ak (([v1]++([(vH v18 v1 l9)]:Aq)).getD i 0)) k_) from(Bs (Bm _ _) (λk_ hk_=>(Bw (AV.eraseAll iz) ((Y5 (λ_ _=>rfl) (λ_ _=>rfl)) k_ hk_)).trans rfl)))) (Xc (λ(k_:Nat) u=>(Cv u [(8,(.vsl 25 k_))] [(25,.arr 1 3 k_ (λi=>Ak (([v1]++([(vH v18 v1 l9)]:Aq)).getD i 0)))])) (show([v1].length+([(vH v18 v1 l9)]:Aq).length)=([v1]++([(vH v18 v1 l9)]:Aq)).length from(Bm _ _)))) Gy))))))) λh=>tS h (gN (A9 JN R9 q))))))) λh=>tS h (gO (A7 (A9 JN R9 q))))) λx24 h=>(match x24,h with | .inl l10,h=>gA (tC h λc26_ h=>gR q HA R9 [(69,(mJ (mG v1)))] [] (c3 (Au 1 Ak (0:Int) ([(mG v1)]:Aq)) (Eq.refl (([]:Aq).length)) c26_) (Na (Le.trans (Xb 36007 (show ∀ k_,k_<(([]:Aq).length+([(mG v1)]:Aq).length)->AVleL ((λi_=>AV.eraseAll iz ((Qi (([]:Aq).length) Q42 (λi=>Ak (([(mG v1)]:Aq).getD i 0))) i_)) k_) ((Q54 v1) k_) from(Bs (Bm _ _) (λk_ hk_=>(Bw (AV.eraseAll iz) ((Y5 (λ_ _=>rfl) (λ_ _=>rfl)) k_ hk_)).trans rfl)))) (Xc (λ(k_:Nat) u=>(Cv u [(X8 36007 k_)] [(36007,.arr 1 3 k_ (Q54 v1))])) (show(([]:Aq).length+([(mG v1)]:Aq).length)=(vJ v1).length from(Bm _ _)))) (tC h λaf0 h=>tU q HA R9 (c1 af0) (Qu (⟨[Nf,rG,rF,(7,(.vsl 36007 (vJ v1).length)),(8,(.vsub 25 [v1].length 0 (Q37 v1)))],[(J5 64 (qq v18)),(TG (yv v1)),(RR (Q43 l10)),(25,.arr 1 3 ([v1].length) (Q39 v1)),(36007,.arr 1 3 ((vJ v1).length) (Q54 v1))],[]⟩:St) (Na (Le.trans (Le.trans (gX (t:=8) (r:=25) (k:=(Q37 v1)) rfl rfl af0.2 (by kernel_rfl) (.row (by kernel_rfl) (.arr (λ_=>by kernel_rfl) (.arr (λ_=>by kernel_rfl) (.arr (λ_=>by kernel_rfl) (.arr (λ_=>by kernel_rfl) .nil))))) (by rw[hΓ];rfl)) (Iw (st':=⟨(Q55 v1),[(J5 64 (qq v18)),(TG (yv v1)),(RR (Q43 l10)),(25,.arr 1 3 (Q37 v1) (Q39 v1)),(36007,.arr 1 3 ((vJ v1).length) (Q54 v1))],[]⟩) (by kernel_rfl))) (Le.trans (Fb (st':=⟨(Q55 v1),[(J5 64 (qq v18)),(TG (yv v1)),(RR (Q43 l10)),(25,.arr 1 3 (Q37 v1) (λi=>Ak ((Q52 v1).getD i 0))),(36007,.arr 1 3 ((vJ v1).length) (Q54 v1))],[]⟩) (TmpsLe.refl _) (.same (.same (.same (.arr (nV (e:=Ak) (d:=(0:Int))) (.same .nil)))))) (Iw (Bw (λk_:Nat=>(⟨[Nf,rG,rF,(7,(.vsl 36007 (vJ v1).length)),(8,(.vsl 25 k_))],[(J5 64 (qq v18)),(TG (yv v1)),(RR (Q43 l10)),(25,.arr 1 3 k_ (λi=>Ak ((Q52 v1).getD i 0))),(36007,.arr 1 3 ((vJ v1).length) (Q54 v1))],[]⟩:St)) (show(Q37 v1)=(Q52 v1).length from ia af0.2))))) (Af q [2,5,6,7,8,78] R9 (gC h (λh=>tS h (sV (A9 HA R9 q))) λh=>tB h λx28 y28 h=>tC h λc29_ h=>tT q [7] [36007] [⟨[(36007,34000)],[],(.tuple []),[(Z4 34000 x28)],[],[]⟩] (c1 (P4 y28)) (Na (Xc (λ(k_:Nat) u=>(Cv u [(X8 36007 k_)] [])) (show(vJ v1).length=x28.length from c29_)) (Af q [4] [36007] (Qu ((oS 36007 x28.length x28):St) (tS h (qJ (M8 (Iq [(36007,20000)] (Le.trans (Hh (nm:=36007) (sz:=1) (n:=x28.length) (e:=3) (f:=(λi=>Ak (x28.getD i 0))) (g:=(λi=>Ak (x28.getD i 0))) rfl ⟨rfl,trivial⟩ (λ_ _=>rfl) (by rw[hΓ];rfl)) (Iw (st':=(oR x28 36007 x28.length)) (by kernel_rfl))))))))))))))))) | .inr ⟨l11,l12,l13⟩,h=>pD (λst' hl30=>tS h (sV (Le.trans hl30 Gy))))))))))))))))) (λ⟨l1,l2,l3,l4⟩ y h=>tC h λc31_ h=>tU q JN R9 (c2 c31_ (Eq.refl l3.length)) (tL q h JN R9 (λu l32=>(Cv u [] [(Z75 l32)])) (λu x_=>match x_ with|(.inl l33)=>aG Γ (.exit 0) (Cv u [] [(RR (Q49 l33))])|(.inr (l34,l35,l36))=>aG Γ (.goto 0) (N6 HA R9 u [(8,(.vsl 25 l36.length))] [(5,.arr 1 158 64 (λi=>eB (l34.getD i false))),(Z75 l35),(Z4 25 l36)])) (λl32 y h=>zt9 h λc37_ c38_ h=>tU q [2,5,6,7,8,9,41] R9 (c3 c37_ (Eq.refl 64) c38_) (gC h (λh=>zt9 h λc39_ c40_ h=>tC h λc41_ h=>tU q eL R9 (c4 c39_ c40_ (Eq.refl 64) c41_) (zt9 h λc42_ c43_ h=>tU q eL R9 (c4 c42_ (Eq.refl 64) c43_ (Eq.refl 64)) (Na (Xb 6 (show ∀ k_,k_<64->AVleL ((λi_=>AV.eraseAll iz ((F4 (λi=>Ak (l32.getD i 0)) (qG l3).toNat 0 [(.int .i64 (w64 ((l32.getD (qG l3).toNat (0:Int))+1)))]) i_)) k_) ((λi=>Ak ((R8 64 (0:Int) l32 (qG l3).toNat (w64 ((l32.getD (qG l3).toNat (0:Int))+1))).getD i 0)) k_) from(Bs rfl (λk_ hk_=>(Bw (AV.eraseAll iz) ((Zp (λ_ _=>rfl) (Sp c43_) rfl) k_ hk_)).trans rfl)))) (tC h λc44_ h=>tU q u3 R9 (c2 c44_ (Eq.refl 64)) (gC h (λh=>tC h λc45_ h=>tU q [2,5,6,7,8,10] R9 (c2 c45_ (Eq.refl 64)) (Na (Xb 5 (show ∀ k_,k_<64->AVleL ((λi_=>AV.eraseAll iz ((F4 (Q50 l1) (vI v18 l3 l32).toNat 0 [(.bool true)]) i_)) k_) ((λi=>eB ((R8 64 false l1 (vI v18 l3 l32).toNat true).getD i false)) k_) from(Bs rfl (λk_ hk_=>(Bw (AV.eraseAll iz) ((Zp (λ_ _=>rfl) (Sp c45_) rfl) k_ hk_)).trans rfl)))) (tC h λc46_ h=>gR q HA R9 [(65,(mJ (vI v18 l3 l32)))] [] (c3 (Au 1 Ak (0:Int) ([(vI v18 l3 l32)]:Aq)) (Eq.refl l3.length) c46_) (tS h (gO (A7 (Le.trans (Le.trans (Xb 25 (show ∀ k_,k_<(l3.length+([(vI v18 l3 l32)]:Aq).length)->AVleL ((λi_=>AV.eraseAll iz ((Qi l3.length (λi=>Ak (l3.getD i 0)) (λi=>Ak (([(vI v18 l3 l32)]:Aq).getD i 0))) i_)) k_) ((λi=>Ak ((l3++([(vI v18 l3 l32)]:Aq)).getD i 0)) k_) from(Bs (Bm _ _) (λk_ hk_=>(Bw (AV.eraseAll iz) ((Y5 (λ_ _=>rfl) (λ_ _=>rfl)) k_ hk_)).trans rfl)))) (Xc (λ(k_:Nat) u=>(Cv u [(8,(.vsl 25 k_))] [(25,.arr 1 3 k_ (λi=>Ak ((l3++([(vI v18 l3 l32)]:Aq)).getD i 0)))])) (show(l3.length+([(vI v18 l3 l32)]:Aq).length)=(l3++([(vI v18 l3 l32)]:Aq)).length from(Bm _ _)))) Gy))))))) λh=>tS h (gN (A9 JN R9 q))))))) λh=>tS h (gO (A7 (A9 JN R9 q))))) λx47 h=>(match x47,h with | .inl l33,h=>gA (tC h λc49_ h=>gR q HA R9 [(69,(mJ (qG l3)))] [] (c3 (Au 1 Ak (0:Int) ([(qG l3)]:Aq)) (Eq.refl l4.length) c49_) (Na (Le.trans (Xb 36007 (show ∀ k_,k_<(l4.length+([(qG l3)]:Aq).length)->AVleL ((λi_=>AV.eraseAll iz ((Qi l4.length (λi=>Ak (l4.getD i 0)) (λi=>Ak (([(qG l3)]:Aq).getD i 0))) i_)) k_) ((Q53 l4 l3) k_) from(Bs (Bm _ _) (λk_ hk_=>(Bw (AV.eraseAll iz) ((Y5 (λ_ _=>rfl) (λ_ _=>rfl)) k_ hk_)).trans rfl)))) (Xc (λ(k_:Nat) u=>(Cv u [(X8 36007 k_)] [(36007,.arr 1 3 k_ (Q53 l4 l3))])) (show(l4.length+([(qG l3)]:Aq).length)=(qu l4 l3).length from(Bm _ _)))) (tC h λc50_ h=>tU q HA R9 (c1 c50_) (Qu (⟨[Nf,rG,rF,(7,(.vsl 36007 (qu l4 l3).length)),(8,(.vsub 25 l3.length 0 (Q38 l3)))],[(J5 64 (qq v18)),(TG (Q50 l1)),(RR (Q49 l33)),(Z4 25 l3),(36007,.arr 1 3 ((qu l4 l3).length) (Q53 l4 l3))],[]⟩:St) (Na (Le.trans (Le.trans (gX (t:=8) (r:=25) (k:=(Q38 l3)) rfl rfl c50_.2 (by kernel_rfl) (.row (by kernel_rfl) (.arr (λ_=>by kernel_rfl) (.arr (λ_=>by kernel_rfl) (.arr (λ_=>by kernel_rfl) (.arr (λ_=>by kernel_rfl) .nil))))) (by rw[hΓ];rfl)) (Iw (st':=⟨[Nf,rG,rF,(7,(.vsl 36007 (qu l4 l3).length)),(8,(.vsl 25 (Q38 l3)))],[(J5 64 (qq v18)),(TG (Q50 l1)),(RR (Q49 l33)),(25,.arr 1 3 (Q38 l3) (λi=>Ak (l3.getD i 0))),(36007,.arr 1 3 ((qu l4 l3).length) (Q53 l4 l3))],[]⟩) (by kernel_rfl))) (Le.trans (Fb (st':=⟨[Nf,rG,rF,(7,(.vsl 36007 (qu l4 l3).length)),(8,(.vsl 25 (Q38 l3)))],[(J5 64 (qq v18)),(TG (Q50 l1)),(RR (Q49 l33)),(25,.arr 1 3 (Q38 l3) (λi=>Ak ((l3.take (w64 ((l3.length:Int)-1)).toNat).getD i 0))),(36007,.arr 1 3 ((qu l4 l3).length) (Q53 l4 l3))],[]⟩) (TmpsLe.refl _) (.same (.same (.same (.arr (nV (e:=Ak) (d:=(0:Int))) (.same .nil)))))) (Iw (Bw (λk_:Nat=>(⟨[Nf,rG,rF,(7,(.vsl 36007 (qu l4 l3).length)),(8,(.vsl 25 k_))],[(J5 64 (qq v18)),(TG (Q50 l1)),(RR (Q49 l33)),(25,.arr 1 3 k_ (λi=>Ak ((l3.take (w64 ((l3.length:Int)-1)).toNat).getD i 0))),(36007,.arr 1 3 ((qu l4 l3).length) (Q53 l4 l3))],[]⟩:St)) (show(Q38 l3)=(l3.take (w64 ((l3.length:Int)-1)).toNat).length from ia c50_.2))))) (Af q [2,5,6,7,8,78] R9 (gC h (λh=>tS h (sV (A9 HA R9 q))) λh=>tB h λx51 y51 h=>tC h λc52_ h=>tT q [7] [36007] [⟨[(36007,34000)],[],(.tuple []),[(Z4 34000 x51)],[],[]⟩] (c1 (P4 y51)) (Na (Xc (λ(k_:Nat) u=>(Cv u [(X8 36007 k_)] [])) (show(qu l4 l3).length=x51.length from c52_)) (Af q [4] [36007] (Qu ((oS 36007 x51.length x51):St) (tS h (qJ (M8 (Iq [(36007,20000)] (Le.trans (Hh (nm:=36007) (sz:=1) (n:=x51.length) (e:=3) (f:=(λi=>Ak (x51.getD i 0))) (g:=(λi=>Ak (x51.getD i 0))) rfl ⟨rfl,trivial⟩ (λ_ _=>rfl) (by rw[hΓ];rfl)) (Iw (st':=(oR x51 36007 x51.length)) (by kernel_rfl))))))))))))))))) | .inr ⟨l34,l35,l36⟩,h=>pD (λst' hl53=>tS h (sV (Le.trans hl53 Gy)))))) (gAr (λst' hk=>tS h (gK hk))))
def MA(aC:Int)(aa6:Int):Option Oj:=
 some (Jp (Jp (Jp (Zu .u64 aC 32*Zu .u64 aa6 32)+Zu .u64 (Jp (Jp (Zu .u64 aC 32*Xj .and .u64 aa6 4294967295)+Zu .u64 (Jp (Xj .and .u64 aC 4294967295*Xj .and .u64 aa6 4294967295)) 32)) 32)+Zu .u64 (Jp (Xj .and .u64 (Jp (Jp (Zu .u64 aC 32*Xj .and .u64 aa6 4294967295)+Zu .u64 (Jp (Xj .and .u64 aC 4294967295*Xj .and .u64 aa6 4294967295)) 32)) 4294967295+Jp (Xj .and .u64 aC 4294967295*Zu .u64 aa6 32))) 32),Jp (aC*aa6))
variable{v19:Oj}
theorem af(h:MA v1 v11=some v19):sP 174 [(Uj v1),(Uj v11)] [] (.tuple [(Uj v19.1),(Uj v19.2)]) []:=
 sG Tryz.func174 λΓ q=>tW q Gu [] [0,1,6] [] (tU q YF [] (c1 (show(0<=(32:Int)) from(by decide))) (Af q XT [] (tU q [0,1,6,7,8,9] [] (c1 (show(0<=(32:Int)) from(by decide))) (Af q [0,1,6,7,8,9,10] [] (tU q [0,1,6,7,9,11] [] (c1 (show(0<=(32:Int)) from(by decide))) (Af q [0,1,6,7,9,11,12] [] (tU q [0,1,6,7,9,12,13] [] (c1 (show(0<=(32:Int)) from(by decide))) (Af q [0,1,7,9,12,13] [] (tU q [0,1,4] [] (c1 (show(0<=(32:Int)) from(by decide))) (Af q R3 [] (tS h (Bx []))))))))))))
def Ty(aC:Int)(aa6:Int):Option Oj:=
 (MA aC aa6).bind λx1=>some (x1.1,x1.2)
theorem QP(h:Ty v1 v11=some v19):sP 151 [(Uj v1),(Uj v11)] [] (.tuple [(Uj v19.1),(Uj v19.2)]) []:=
 sG Tryz.func151 λΓ q=>Af q Gu [] (fB false (tB h λx1 y1 h=>tT q [8,9] [] [⟨[],[],(.tuple [(Uj x1.1),(Uj x1.2)]),[],[],[]⟩] (c1 (af y1)) (Af q R3 [] (tS h (Bx [])))))
abbrev lD:=(Int×Aq)
abbrev yh:=(LR (Int×Aq) Aq)
def Dm :lD->Option yh:=
 λ(i7,l8)=>bif decide (i7<l8.length) then Ay (0<=i7/\0+i7.toNat<=l8.length) (Ay (0<=i7/\0+i7.toNat<=l8.length) (some (.next (w64 (i7+Nat.min (0+i7.toNat-0) (l8.length-(0+i7.toNat))),j4 l8 (0+i7.toNat) (Nat.min (0+i7.toNat-0) (l8.length-(0+i7.toNat))) λi=>l8.getD (0+i) 0)))) else some (.done l8)
def qv(x3:Oj):=(List.replicate (w64 x3.2).toNat (0:Int))
def Q58(x3:Oj)(aC:Aq):=(j4 (qv x3) 0 (Nat.min aC.length ((qv x3).length-0)) (λi=>aC.getD i 0))
def Q57(l8:Aq)(i7:Int):=(j4 l8 (0+i7.toNat) (Nat.min ((0+i7.toNat)-0) (l8.length-(0+i7.toNat))) (λi=>l8.getD (0+i) 0))
def Jk(aC:Aq)(aaF:Int):Option Aq:=
 Option.bind  (bif decide (aaF<0) then none else some ()) λx1=>match x1 with|_=>(Ty (Jp aC.length) (Jp aaF)).bind λx3=>Option.bind  (bif bif decide (0<x3.1) then true else decide (9223372036854775807<x3.2) then none else some ()) λx4=>match x4 with|_=>Ay (0<=w64 x3.2/\w64 x3.2<=w64 x3.2/\w64 x3.2<=room) ((Ae   Dm (Nat.min aC.length ((List.replicate (w64 x3.2).toNat (0:Int)).length-0),j4 (List.replicate (w64 x3.2).toNat 0) 0 (Nat.min aC.length ((List.replicate (w64 x3.2).toNat (0:Int)).length-0)) λi=>aC.getD i 0)).bind λx12=>some x12)
theorem Ym(h:Jk v2 v1=some v17):sP 128 [(Z8 v2),(Z6 v1)] [] (.vsl 20000 v17.length) [(Z4 20000 v17)]:=
 sG Tryz.func128 λΓ q=>gR q Gu [] [(4,ZR)] [] (c1 (Bp 1 Ak (0:Int))) (tB h λx1 y1 h=>gJ y1 (λ_=>aG Γ .normal (⟨[(0,(Z8 v2)),(1,(Z6 v1))],[],[]⟩:St)) (λy h=>Af q GX [] (gC h (λh=>nomatch h) λh=>tS h (gK (A7 (A9 Gu [] q))))) (gA (tB h λx3 y3 h=>tT q [0,5,6] [] [⟨[],[],(.tuple [(Uj x3.1),(Uj x3.2)]),[],[],[]⟩] (c1 (QP y3)) (tB h λx4 y4 h=>gJ y4 (λ_=>aG Γ .normal (⟨[(0,(Z8 v2)),(6,(Uj x3.2))],[],[]⟩:St)) (λy h=>tU q [0,6,26] [] (c2 (gI ((decide ((0:Int)<x3.1))==false)) (Jr (decide ((0:Int)<x3.1)))) (gC h (λh=>nomatch h) λh=>tS h (gK (A7 (A9 [0,6] [] q))))) (gA (tV q [0,7] [30] h λh=>by exact Na (Le.trans (Xb 30 (show ∀ k_,k_<((w64 x3.2).toNat)->AVleL ((λi_=>AV.eraseAll (λn_=>Ce n_ [30]) ((λ_=>[Js]) i_)) k_) ((λi=>Ak ((qv x3).getD i 0)) k_) from(λk hk=>S7 (e:=Ak) (d:=(0:Int)) (.cR .nil) _ k (Tc hk)))) (Xc (λ(k_:Nat) u=>(Cv u [(X8 30 k_)] [(30,.arr 1 3 k_ (λi=>Ak ((qv x3).getD i 0)))])) (show(w64 x3.2).toNat=(qv x3).length from(Vh ..).symm))) (tU q [7,8] [30] (c1 (Eq.refl ((qv x3).length))) (Na (Le.trans (Xb 30 (show ∀ k_,k_<((qv x3).length)->AVleL ((λi_=>AV.eraseAll (λn_=>Ce n_ [30]) ((jy (λi=>Ak ((qv x3).getD i 0)) 0 (Nat.min v2.length ((qv x3).length-0)) (λi=>Ak (v2.getD i 0))) i_)) k_) ((λi=>Ak ((Q58 x3 v2).getD i 0)) k_) from(Bs (Ki ..) (λk_ hk_=>(Bw (AV.eraseAll (λn_=>Ce n_ [30])) ((SM (e:=Ak) (d:=(0:Int)) (l:=(qv x3)) (s:=(λi=>v2.getD i 0)) (λ_ _=>rfl) (λ_ _=>rfl)) k_ hk_)).trans rfl)))) (Xc (λ(k_:Nat) u=>(Cv u [(X8 30 k_)] [(30,.arr 1 3 k_ (λi=>Ak ((Q58 x3 v2).getD i 0)))])) (show(qv x3).length=(Q58 x3 v2).length from(Ki ..)))) (tL q h [7,8] [30] (λu (i7,l8)=>(Cv u [(X8 30 l8.length),(8,(Z6 i7))] [(Z4 30 l8)])) (λu l9=>aG Γ (.exit 0) (⟨[(X8 30 l9.length)],[(Z4 30 l9)],[]⟩:St)) (λ⟨i7,l8⟩ y h=>Af q [7,8,37] [30] (gC h (λh=>zt9 h λad5 ad9 h=>tU q [7,8] [30] (c4 ad5 ad9 (Eq.refl l8.length) (Eq.refl l8.length)) (tS h (gN (Le.trans (Le.trans (Xb 30 (show ∀ k_,k_<l8.length->AVleL ((λi_=>AV.eraseAll (λn_=>Ce n_ [30]) ((jy (λi=>Ak (l8.getD i 0)) (0+i7.toNat) (Nat.min ((0+i7.toNat)-0) (l8.length-(0+i7.toNat))) (λi=>(λi=>Ak (l8.getD i 0)) (0+i))) i_)) k_) ((λi=>Ak ((Q57 l8 i7).getD i 0)) k_) from(Bs (Ki ..) (λk_ hk_=>(Bw (AV.eraseAll (λn_=>Ce n_ [30])) ((SM (e:=Ak) (d:=(0:Int)) (l:=l8) (s:=(λi=>l8.getD (0+i) 0)) (λ_ _=>rfl) (λ_ _=>rfl)) k_ hk_)).trans rfl)))) (Xc (λ(k_:Nat) u=>(Cv u [(X8 30 k_)] [(30,.arr 1 3 k_ (λi=>Ak ((Q57 l8 i7).getD i 0)))])) (show l8.length=(Q57 l8 i7).length from(Ki ..)))) Gy)))) λh=>tS h (gO (A7 (A9 [7] [30] q))))) λx12 h=>gA (Af q [4] [30] (tS h (Bx [(30,20000)]))))))))))))
abbrev uf:=(Int×List Bool)
abbrev ug:=(LR (Int×List Bool) (List Bool))
def Mi(a9:Aq):uf->Option ug:=
 λ(i2,l3)=>bif i2 !=-1 then Ay (As i2 l3.length) (Ay (As i2 a9.length) (some (.next (a9.getD i2.toNat 0,l3.set i2.toNat true)))) else some (.done l3)
def J8(a9:Aq)(l4:List Bool):Int->Option (LR Int Int):=
 λi9=>Ay (As i9 l4.length) (bif !l4.getD i9.toNat false then Ay (As i9 a9.length) (some (.next (a9.getD i9.toNat 0))) else some (.done i9))
def T0(a9:Aq)(aO:Int)(aS:Int):Option Int:=
 Ay (0<=(a9.length:Int)/\(a9.length:Int)<=a9.length/\(a9.length:Int)<=room) ((Ae   (Mi a9) (aO,List.replicate (a9.length:Int).toNat false)).bind λx7=>(Ae   (J8 a9 x7) aS).bind λx13=>some x13)
variable{v20:Int}
theorem QR(h:T0 v2 v1 v11=some v20):sP 152 [(Z8 v2),(Z6 v1),(Z6 v11)] [] (.int .i64 v20) []:=
 sG Tryz.func152 λΓ q=>Af q YP [] (tV q [0,1,2,7] [11] h λh=>by exact Na (Le.trans (Xb 11 (show ∀ k_,k_<((v2.length:Int).toNat)->AVleL ((λi_=>AV.eraseAll (λn_=>Ce n_ [11]) ((λ_=>[(.bool false)]) i_)) k_) ((λi=>eB ((List.replicate (v2.length:Int).toNat false).getD i false)) k_) from(λk hk=>S7 (e:=eB) (d:=false) (.cR .nil) _ k (Tc hk)))) (Xc (λ(k_:Nat) u=>(Cv u [(X8 11 k_)] [(11,.arr 1 4 k_ (λi=>eB ((List.replicate (v2.length:Int).toNat false).getD i false)))])) (show(v2.length:Int).toNat=(List.replicate (v2.length:Int).toNat false).length from(Vh ..).symm))) (Af q e7 [11] (tL q h e7 [11] (λu (i2,l3)=>(Cv u [(X8 11 l3.length),(8,(Z6 i2))] [(oT 11 l3)])) (λu l4=>aG Γ (.exit 0) (N6 YQ [11] u [(X8 11 l4.length)] [(oT 11 l4)])) (λ⟨i2,l3⟩ y h=>Af q [0,2,7,8,14] [11] (gC h (λh=>tC h λc5_ h=>tU q e7 [11] (c2 c5_ (Eq.refl l3.length)) (Na (Le.trans (Xb 11 (show ∀ k_,k_<l3.length->AVleL ((λi_=>AV.eraseAll (λn_=>Ce n_ [11]) ((F4 (λi=>eB (l3.getD i false)) i2.toNat 0 [(.bool true)]) i_)) k_) ((λi=>eB ((l3.set i2.toNat true).getD i false)) k_) from(Bs (Ek ..).symm (λk_ hk_=>(Bw (AV.eraseAll (λn_=>Ce n_ [11])) ((H6 (λ_ _=>rfl) (Kr c5_) rfl) k_ hk_)).trans rfl)))) (Xc (λ(k_:Nat) u=>(Cv u [(X8 11 k_)] [(11,.arr 1 4 k_ (λi=>eB ((l3.set i2.toNat true).getD i false)))])) (show l3.length=(l3.set i2.toNat true).length from(Ek ..).symm))) (tV q e7 [11] h λh=>tN h))) λh=>tS h (gO (A7 (A9 YQ [11] q))))) λx7 h=>gA (tL q h YQ [11] (λu i9=>(Cv u [(2,(Z6 i9))] [])) (λu i10=>aG Γ (.exit 2) (⟨[(2,(Z6 i10))],[],[]⟩:St)) (λi9 y h=>tC h λad9 h=>tU q [0,2,7,26] [11] (c2 ad9 (Eq.refl x7.length)) (gC h (λh=>tV q YQ [11] h λh=>tN h) λh=>tS h (gO (A7 (A9 [2] [] q))))) λx13 h=>gA (Af q [6] [] (tS h (Bx [])))))))
open Go Go.RowKit
set_option maxRecDepth 100000
set_option maxHeartbeats 2000000
def Ge(a9:Aq)(aD:Aq):Oj->Option nf:=
 λ(i1,i2)=>bif decide (i2<aD.length) then Option.bind  (Ay (As i2 aD.length) (Ay (As (aD.getD i2.toNat 0) a9.length) (bif a9.getD (aD.getD i2.toNat 0).toNat 0==-2 then some i1 else bif i1==-2 then some (aD.getD i2.toNat 0) else(T0 a9 i1 (aD.getD i2.toNat 0)).bind λx7=>some x7))) λx8=>some (.next (x8,w64 (i2+1))) else some (.done i1)
def Od(a9:Aq)(aD:Aq):Option Int:=
 (Ae   (Ge a9 aD) (-2,0)).bind λx10=>some x10
theorem FS(h:Od v2 v17=some v1):sP 129 [(Z8 v2),(Z8 v17)] [] (.int .i64 v1) []:=
 sG Tryz.func129 λΓ q=>tW q Gu [] Qs [] (Af q PM [] (tL q h PM [] (λu (i1,i2)=>(Cv u [(5,(Z6 i1)),(10,(Z6 i2))] [])) (λu i3=>aG Γ (.exit 0) (⟨[(5,(Z6 i3))],[],[]⟩:St)) (λ⟨i1,i2⟩ y h=>Af q [0,5,8,9,10,11] [] (gC h (λh=>tB h λx8 y8 h=>gJ y8 (λi4=>aG Γ .normal (⟨[(0,(Z8 v2)),(5,(Z6 i4)),(8,(Z8 v17)),(9,(HE v17.length)),(10,(Z6 i2))],[],[]⟩:St)) (λy h=>tV q [0,5,7,8,9,10] [] h λh=>tV q [0,5,7,8,9,10,18] [] h λh=>gC h (λh=>tS h (gK (A7 (A9 PM [] q)))) λh=>Af q [0,5,7,8,9,10,24] [] (gC h (λh=>Af q PM [] (tS h (gK (A7 Gy)))) λh=>tB h λx7 y7 h=>tT q PM [] [(DM x7)] (c1 (QR y7)) (tS h (gK (A7 Gy))))) (gA (Af q PM [] (tN h)))) λh=>tS h (gO (A7 (A9 [5] [] q))))) λx10 h=>gA (Af q [4] [] (tS h (Bx [])))))
abbrev Afb:=(LR (Bool×Int×Aq) (Bool×Aq))
def Fm(a4:If)(x3:Aq):(Bool×Int×Aq)->Option Afb:=
 λ(b7,i8,l9)=>bif decide (i8<(x3.drop (1:Int).toNat).length) then Option.bind  (Ay (As i8 (x3.drop (1:Int).toNat).length) (Ay (As ((x3.drop (1:Int).toNat).getD i8.toNat 0) a4.Pred.length) ((Od l9 (a4.Pred.getD ((x3.drop (1:Int).toNat).getD i8.toNat 0).toNat [])).bind λx16=>Ay (As ((x3.drop (1:Int).toNat).getD i8.toNat 0) l9.length) (bif x16 !=l9.getD ((x3.drop (1:Int).toNat).getD i8.toNat 0).toNat 0 then Ay (As ((x3.drop (1:Int).toNat).getD i8.toNat 0) l9.length) (some (true,l9.set ((x3.drop (1:Int).toNat).getD i8.toNat 0).toNat x16)) else some (b7,l9))))) λx19=>match x19 with|(b12,l13)=>some (.next (b12,w64 (i8+1),l13)) else some (.done (b7,l9))
def Yc(a4:If)(l1:Aq):(Bool×Int×Aq)->Option Afb:=
 λ(b24,i25,l26)=>bif decide (i25<(l1.drop (1:Int).toNat).length) then Option.bind  (Ay (As i25 (l1.drop (1:Int).toNat).length) (Ay (As ((l1.drop (1:Int).toNat).getD i25.toNat 0) a4.Pred.length) ((Od l26 (a4.Pred.getD ((l1.drop (1:Int).toNat).getD i25.toNat 0).toNat [])).bind λx33=>Ay (As ((l1.drop (1:Int).toNat).getD i25.toNat 0) l26.length) (bif x33 !=l26.getD ((l1.drop (1:Int).toNat).getD i25.toNat 0).toNat 0 then Ay (As ((l1.drop (1:Int).toNat).getD i25.toNat 0) l26.length) (some (true,l26.set ((l1.drop (1:Int).toNat).getD i25.toNat 0).toNat x33)) else some (b24,l26))))) λx36=>match x36 with|(b29,l30)=>some (.next (b29,w64 (i25+1),l30)) else some (.done (b24,l26))
abbrev yi:=(Aq×Aq)
def Ik(a4:If):yi->Option (LR (Aq×Aq) Aq):=
 λs_=>match s_ with|(l1,l2)=>Ay (0<=(1:Int)/\(1:Int)<=l1.length) ((Ae   (Yc a4 l1) (false,0,l2)).bind λx38=>match x38 with|(b27,l28)=>bif b27 then some (.next (l1,l28)) else some (.done l28))
def jG(Γ:Ip)(a4:If)(aa9:Int)(r:Aq):Exit->St->Prop:=fK Tryz.prog Γ Tryz.f91.results.toList [] (AN r 20000) [(CN 20000 r.length)]
def Q63:=(λn_=>Ce n_ [2,13,21])
def Q61:List LB:=[(4,ZR)]
def Q60(x3:Aq)(i8:Int):=((x3.drop (1:Int).toNat).getD i8.toNat 0)
def Q59(l1:Aq)(i25:Int):=((l1.drop (1:Int).toNat).getD i25.toNat 0)
def Q62(a4:If):List AV:=[(IV a4.Succ),(IV a4.Pred)]
def Q64:=(Z39:St)
def Wc(a4:If)(aa9:Int):Option Aq:=
 ((U8 (S:=yi) (X:=Aq) ((Mj a4 aa9).bind λx3=>(bif ((x3.length:Int)==0) then(some (.done ([]:Aq))) else((Jk ([(-2:Int)]:Aq) (a4.Succ.length:Int)).bind λx4=>(Ay (As aa9 x4.length) (Ay (0<=(1:Int)/\(1:Int)<=(x3.length:Int)) ((Ae (Fm a4 x3) (false,(0:Int),(x4.set aa9.toNat (-1:Int)))).bind (λ(b10,l11)=>(bif b10 then(some (.next (x3,l11))) else(some (.done l11)))))))))) (Ik a4)).bind (λx40=>(some x40)))
theorem g8(h:Wc v18 v1=some v2):sP 91 [(jB v18),(Z6 v1)] [] (AN v2 20000) [(CN 20000 v2.length)]:=
 sG Tryz.func91 λΓ q=>have hΓ:=q.own;gR q Oa [2] Q61 [] (c1 (Bp 1 Ak (0:Int))) (tB h λx40 y40 h=>gS y40 (λ(s_:yi)=>match s_ with|(l1,l2)=>0) (λ(s_:yi)=>match s_ with|(l1,l2)=>(⟨[Nf,(5,(AN l1 13)),(6,(.vsl 21 l2.length))],[(J5 64 (Q62 v18)),(CN 13 l1.length),(Z4 21 l2)],[]⟩:St)) (λr_=>aR (jG Γ v18 v1 r_)) (λy h=>tB h λx3 y3 h=>tT q X6 [2,13] [(wm 13 x3 x3.length)] (c1 (FT y3)) (Af q [1,2,5,16] [2,13] (gC h (λh=>gR q [4] [] Q61 [] (c1 (Bp 1 Ak (0:Int))) (Qu (⟨Q61,[],[]⟩:St) (tS h (qJ (M8 (Iq XS (show Le Γ _ Q64 from Le.trans (A9 (st':=⟨Q61,[],[]⟩) [4] [] q) (Le.trans (M0 (t:=4) (nm:=6004) (sz':=1) (λi=>Ak (([]:Aq).getD i 0)) 3 rfl rfl (.inl ⟨rfl,rfl⟩) (λh_=>absurd h_ (by decide))) (A9 (st':=Q64) [4] [6004] q))))))))) λh=>tB h λx4 y4 h=>gR q PS K9 [(17,(AV.list 1 Ak 0 ([(-2:Int)]:Aq) .exact))] [⟨[],[(20000,21)],(.vsl 20000 x4.length),[(Z4 20000 x4)],[],[]⟩] (c2 (Au 1 Ak (0:Int) ([(-2:Int)]:Aq)) (Ym y4)) (tC h λc5_ h=>tU q AD K9 (c2 c5_ (Eq.refl x4.length)) (Na (Le.trans (Xb 21 (show ∀ k_,k_<x4.length->AVleL ((λi_=>AV.eraseAll Q63 ((F4 (λi=>Ak (x4.getD i 0)) v1.toNat 0 [(.int .i64 (-1:Int))]) i_)) k_) ((λi=>Ak ((x4.set v1.toNat (-1:Int)).getD i 0)) k_) from(Bs (Ek ..).symm (λk_ hk_=>(Bw (AV.eraseAll Q63) ((H6 (λ_ _=>rfl) (Kr c5_) rfl) k_ hk_)).trans rfl)))) (Xc (λ(k_:Nat) u=>(Cv u [(6,(.vsl 21 k_))] [(21,.arr 1 3 k_ (λi=>Ak ((x4.set v1.toNat (-1:Int)).getD i 0)))])) (show x4.length=(x4.set v1.toNat (-1:Int)).length from(Ek ..).symm))) (Af q PT K9 (tC h λc6_ h=>gR q JK K9 [(26,(AV.list 1 Ak 0 (x3.drop (1:Int).toNat) .none))] [] (c2 c6_ (show(AVle (Z70 x3) (AV.list 1 Ak 0 (x3.drop (1:Int).toNat) .none)) from SJ)) (tL q h JK K9 (λu (b7,i8,l9)=>(Cv u [(6,(.vsl 21 l9.length)),(7,(.bool b7)),(28,(Z6 i8))] [(Z4 21 l9)])) (λu (b10,l11)=>aG Γ (.exit 0) (N6 PT K9 u [(6,(.vsl 21 l11.length)),(7,(.bool b10))] [(Z4 21 l11)])) (λ⟨b7,i8,l9⟩ y h=>Af q ux K9 (gC h (λh=>tB h λx19 y19 h=>gJ y19 (λ(b12,l13)=>aG Γ .normal (⟨[Nf,(5,(AN x3 13)),(6,(.vsl 21 l13.length)),(7,(.bool b12)),(26,(AV.list 1 Ak 0 (x3.drop (1:Int).toNat) .none)),(27,(.int .i64 ((x3.drop (1:Int).toNat).length:Int))),(28,(Z6 i8))],[(J5 64 (Q62 v18)),(CN 13 x3.length),(Z4 21 l13)],[]⟩:St)) (λy h=>tV q u0 K9 h λh=>tC h λaf3 h=>tB h λx16 y16 h=>tT q ut K9 [⟨[],[],(Z6 x16),[],[21],[]⟩] (c4 af3 (FS y16) (show(QI []) from trivial) (Eq.refl l9.length)) (tC h λag2 h=>tU q ur K9 (c2 ag2 (Eq.refl l9.length)) (gC h (λh=>tC h λai1 h=>tU q JK K9 (c2 ai1 (Eq.refl l9.length)) (tS h (gK (A7 (Le.trans (Le.trans (Xb 21 (show ∀ k_,k_<l9.length->AVleL ((λi_=>AV.eraseAll Q63 ((F4 (λi=>Ak (l9.getD i 0)) (Q60 x3 i8).toNat 0 [(Z6 x16)]) i_)) k_) ((λi=>Ak ((l9.set (Q60 x3 i8).toNat x16).getD i 0)) k_) from(Bs (Ek ..).symm (λk_ hk_=>(Bw (AV.eraseAll Q63) ((H6 (λ_ _=>rfl) (Kr ai1) rfl) k_ hk_)).trans rfl)))) (Xc (λ(k_:Nat) u=>(Cv u [(6,(.vsl 21 k_))] [(21,.arr 1 3 k_ (λi=>Ak ((l9.set (Q60 x3 i8).toNat x16).getD i 0)))])) (show l9.length=(l9.set (Q60 x3 i8).toNat x16).length from(Ek ..).symm))) Gy))))) λh=>tS h (gK (A7 (A9 JK K9 q)))))) (match x19,h with|⟨b12,l13⟩,h=>gA (Af q JK K9 (tN h)))) λh=>tS h (gO (A7 (A9 PT K9 q))))) λx21 h=>(match x21,h with|⟨b10,l11⟩,h=>gA (Af q [2,5,6,50] K9 (gC h (λh=>tS h (sV (A9 AD K9 q))) λh=>Af q [4] [21] (Qu ((oS 21 l11.length l11):St) (tS h (qJ (M8 (Iq [(21,20000)] (Le.trans (Hh (nm:=21) (sz:=1) (n:=l11.length) (e:=3) (f:=(λi=>Ak (l11.getD i 0))) (g:=(λi=>Ak (l11.getD i 0))) rfl ⟨rfl,trivial⟩ (λ_ _=>rfl) (by rw[hΓ];rfl)) (Iw (st':=(oR l11 21 l11.length)) (by kernel_rfl))))))))))))))))))) (λ⟨l1,l2⟩ y h=>Af q PT K9 (tC h λai0 h=>gR q JK K9 [(26,(AV.list 1 Ak 0 (l1.drop (1:Int).toNat) .none))] [] (c2 ai0 (show(AVle (Z70 l1) (AV.list 1 Ak 0 (l1.drop (1:Int).toNat) .none)) from SJ)) (tL q h JK K9 (λu (b24,i25,l26)=>(Cv u [(6,(.vsl 21 l26.length)),(7,(.bool b24)),(28,(Z6 i25))] [(Z4 21 l26)])) (λu (b27,l28)=>aG Γ (.exit 0) (N6 PT K9 u [(6,(.vsl 21 l28.length)),(7,(.bool b27))] [(Z4 21 l28)])) (λ⟨b24,i25,l26⟩ y h=>Af q ux K9 (gC h (λh=>tB h λx36 y36 h=>gJ y36 (λ(b29,l30)=>aG Γ .normal (⟨[Nf,(5,(AN l1 13)),(6,(.vsl 21 l30.length)),(7,(.bool b29)),(26,(AV.list 1 Ak 0 (l1.drop (1:Int).toNat) .none)),(27,(.int .i64 ((l1.drop (1:Int).toNat).length:Int))),(28,(Z6 i25))],[(J5 64 (Q62 v18)),(CN 13 l1.length),(Z4 21 l30)],[]⟩:St)) (λy h=>tV q u0 K9 h λh=>tC h λc32_ h=>tB h λx33 y33 h=>tT q ut K9 [⟨[],[],(Z6 x33),[],[21],[]⟩] (c4 c32_ (FS y33) (show(QI []) from trivial) (Eq.refl l26.length)) (tC h λc34_ h=>tU q ur K9 (c2 c34_ (Eq.refl l26.length)) (gC h (λh=>tC h λc35_ h=>tU q JK K9 (c2 c35_ (Eq.refl l26.length)) (tS h (gK (A7 (Le.trans (Le.trans (Xb 21 (show ∀ k_,k_<l26.length->AVleL ((λi_=>AV.eraseAll Q63 ((F4 (λi=>Ak (l26.getD i 0)) (Q59 l1 i25).toNat 0 [(Z6 x33)]) i_)) k_) ((λi=>Ak ((l26.set (Q59 l1 i25).toNat x33).getD i 0)) k_) from(Bs (Ek ..).symm (λk_ hk_=>(Bw (AV.eraseAll Q63) ((H6 (λ_ _=>rfl) (Kr c35_) rfl) k_ hk_)).trans rfl)))) (Xc (λ(k_:Nat) u=>(Cv u [(6,(.vsl 21 k_))] [(21,.arr 1 3 k_ (λi=>Ak ((l26.set (Q59 l1 i25).toNat x33).getD i 0)))])) (show l26.length=(l26.set (Q59 l1 i25).toNat x33).length from(Ek ..).symm))) Gy))))) λh=>tS h (gK (A7 (A9 JK K9 q)))))) (match x36,h with|⟨b29,l30⟩,h=>gA (Af q JK K9 (tN h)))) λh=>tS h (gO (A7 (A9 PT K9 q))))) λx38 h=>(match x38,h with|⟨b27,l28⟩,h=>gA (Af q [2,5,6,50] K9 (gC h (λh=>tS h (sV (A9 AD K9 q))) λh=>Af q [4] [21] (Qu ((oS 21 l28.length l28):St) (tS h (qJ (M8 (Iq [(21,20000)] (Le.trans (Hh (nm:=21) (sz:=1) (n:=l28.length) (e:=3) (f:=(λi=>Ak (l28.getD i 0))) (g:=(λi=>Ak (l28.getD i 0))) rfl ⟨rfl,trivial⟩ (λ_ _=>rfl) (by rw[hΓ];rfl)) (Iw (st':=(oR l28 21 l28.length)) (by kernel_rfl)))))))))))))) (gAr (λst' hk=>tS h (gK hk))))
def Ri(aaH:List A8)(aaP:Aq):Int->Option (LR Int (Unit ⊕ Bool)):=
 λi1=>bif decide (i1<aaH.length) then Ay (As i1 aaH.length) ((E6 (aaH.getD i1.toNat default).From aaP).bind λx3=>bif bif !x3 then true else(aaH.getD i1.toNat default).Args.length !=(aaP.length:Int) then some (.done (.inr false)) else some (.next (w64 (i1+1)))) else some (.done (.inl ()))
def RO(Γ:Ip)(aaH:List A8)(aaP:Aq)(r:Bool):Exit->St->Prop:=fK Tryz.prog Γ Tryz.f92.results.toList [] (.bool r) []
def Qz(aaH:List A8)(aaP:Aq):Option Bool:=
 (Ae   (Ri aaH aaP) 0).bind λx4=>match x4 with | .inl _=>some true | .inr r6=>some r6
theorem OL(h:Qz v5 v2=some v3):sP 92 [(vO v5),(Z8 v2)] [] (.bool v3) []:=
 sG Tryz.func92 λΓ q=>tW q Gu [] Ov [] (tL q h Ov [] (λu i1=>(Cv u [(9,(Z6 i1))] [])) (λu x_=>match x_ with|(.inl _)=>aG Γ (.exit 0) (⟨[],[],[]⟩:St)|(.inr r_)=>aR (RO Γ v5 v2 r_)) (λi1 y h=>Af q RL [] (gC h (λh=>tV q RM [6] h λh=>tB h λx3 y3 h=>tT q [1,7,8,9,25] [] [(Z7 x3)] (ci (M4 y3) (gI5 ((!x3)==false) (c1 (Jr (!x3))))) (gC h (λh=>Af q [4] [] (tS h (gO (M8 (Iq [] (Le.refl _ _)))))) λh=>Af q Ov [] (tN h))) λh=>tS h (gO (A7 (A9 [] [] q))))) λx4 h=>(match x4,h with | .inl _,h=>gA (Af q [4] [] (tS h (Bx []))) | .inr r6,h=>gAr (λst' hk=>tS h (gK hk))))
def Q65(aP:Ny):=(bif (aP.Kind==0) then true else(aP.Kind==2))
def Qy(aP:Ny):Option Bool:=
 some (bif bif aP.Kind==0 then true else aP.Kind==2 then true else aP.Arg==0)
theorem OK(h:Qy v8=some v3):sP 93 [(.agg (ma v8))] [] (.bool v3) []:=
 sG Tryz.func93 λΓ q=>Af q [1] [1] (tU q [2] [] (Kj ((v8.Kind==0)==false) (ci (Jr (v8.Kind==0)) (Kj ((Q65 v8)==false) (c1 (Jr (Q65 v8)))))) (tS h (Bx [])))
def Dv(a3:AI)(a5:Int)(aA:List Bo)(x1:lF)(x3:Aq):Int->Option (LR Int (Unit ⊕ (Int×AI×Int×Aq×List Bo))):=
 λi4=>bif decide (i4<a3.Blocks.length) then Ay (As i4 a3.Blocks.length) (Ay (As i4 x1.1.Pred.length) ((Qz (a3.Blocks.getD i4.toNat default).Phis (x1.1.Pred.getD i4.toNat [])).bind λx7=>(bif (!x7)==false then Qy ⟨(a3.Blocks.getD i4.toNat default).End.Kind,(a3.Blocks.getD i4.toNat default).End.Arg,(a3.Blocks.getD i4.toNat default).End.To⟩ else some false).bind λx8=>bif bif !x7 then true else !x8 then some (.done (.inr (5,a3,a5,x3,aA))) else some (.next (w64 (i4+1))))) else some (.done (.inl ()))
def AG(Γ:Ip)(a3:AI)(a5:Int)(a7:Aq)(aA:List Bo)(r:qN):Exit->St->Prop:=fK Tryz.prog Γ Tryz.f60.results.toList (Z3 a3.Params a3.Ret a3.Blocks a5 a7 aA aA.length) (Z6 r.1) (Z3 r.2.1.Params r.2.1.Ret r.2.1.Blocks r.2.2.1 r.2.2.2.1 r.2.2.2.2 r.2.2.2.2.length)
def Q68(x1:lF):=((x1.2 !=0)==false)
def Q67(x3:Aq)(a3:AI)(a5:Int)(aA:List Bo):List NB:=[(CN 31 x3.length),(30000,.row 75 [(Z8 a3.Params),(Z6 a3.Ret),(TH a3.Blocks),(Z6 a5),(Z8 x3),.nilm,(AV.list 5 Py default aA (.own 37006))]),(Mt 37006 146 aA.length)]
def Q66(x3:Aq)(a3:AI)(a5:Int)(aA:List Bo):List NB:=[(CN 31 x3.length),(30000,.row 75 [(Z8 a3.Params),(Z6 a3.Ret),(TH a3.Blocks),(Z6 a5),(AN x3 31),.nilm,(AV.list 5 Py default aA (.own 37006))]),(Mt 37006 146 aA.length)]
def Jx(a3:AI)(a5:Int)(a7:Aq)(aA:List Bo):Option qN:=
 (Wd a3).bind λx1=>(bif (x1.2 !=0)==false then Mj x1.1 0 else some []).bind λx2=>bif bif x1.2 !=0 then true else decide ((x2.length:Int)<a3.Blocks.length) then some (5,a3,a5,a7,aA) else(Wc x1.1 0).bind λx3=>(Ae   (Dv a3 a5 aA x1 x3) 0).bind λx9=>match x9 with | .inl _=>some (0,a3,a5,x3,aA) | .inr r11=>some r11
theorem Zg(h:Jx v0 v1 v2 v12=some v13):sP 60 [V1] (Z3 v0.Params v0.Ret v0.Blocks v1 v2 v12 v12.length) (Z6 v13.1) (Z3 v13.2.1.Params v13.2.1.Ret v13.2.1.Blocks v13.2.2.1 v13.2.2.2.1 v13.2.2.2.2 v13.2.2.2.2.length):=
 sG Tryz.func60 λΓ q=>Af q [0] Jw (tB h λx1 y1 h=>tT q Vb XP [(Z45 x1.1 x1.2)] (c1 (QS y1)) (tB h λx2 y2 h=>tT q [0,3,28] XP [⟨[],[],(Z8 x2),[],[],[]⟩] (bP (gI (Q68 x1)) (show((Q68 x1)=true->(sP 90 [(jB x1.1),Js] [] (Z8 x2) [])) from(λhg=>(Spec.drop (FT (Bj hg y2))))) (gI8 (Q68 x1) (c1 (Jr (x1.2 !=0))))) (gC h (λh=>Af q [2] Jw (tS h (Bx DE))) λh=>tB h λx3 y3 h=>tT q Nu cY [(wm 31 x3 x3.length)] (c1 (g8 y3)) (Af q lp cY (tL q h lp cY (λu i4=>(Cv u [(40,(Z6 i4))] [])) (λu x_=>match x_ with|(.inl _)=>aG Γ (.exit 0) (N6 [] PK u [] [])|(.inr r_)=>aR (AG Γ v0 v1 v2 v12 r_)) (λi4 y h=>Af q [3,38,39,40,41] cY (gC h (λh=>tV q [3,5,6,38,39,40] [3,6,31,30000,37006] h λh=>tC h λc6_ h=>tB h λx7 y7 h=>tB h λx8 y8 h=>tT q [3,38,39,40,59] cY [(Z7 x7),(Z7 x8)] (bP c6_ (OL y7) (Kj ((!x7)==false) (c3 (λ(hg:((!x7)==false)=true)=>(OK (Bj hg y8))) (gI ((!x7)==false)) (Jr (!x7))))) (gC h (λh=>Af q [2] PK (Qu (⟨[(2,(.int .i64 (5:Int)))],(Q66 x3 v0 v1 v12),[]⟩:St) (tS h (gO (M8 (Iq DE (show Le Γ _ (⟨[(2,(.int .i64 (5:Int)))],(Q67 x3 v0 v1 v12),[]⟩:St) from Le.trans (A9 (st':=⟨[(2,(.int .i64 (5:Int)))],(Q66 x3 v0 v1 v12),[]⟩) [2] PK q) (Fb (.cR .nil) (.same (.row (.cR (.cR (.cR (.cR (.cons AVle.untag (.cR (.cR .nil))))))) (.same .nil))))))))))) λh=>Af q lp cY (tN h))) λh=>tS h (gO (A7 (A9 [] PK q))))) λx9 h=>(match x9,h with | .inl _,h=>gA (Af q [2] PK (Qu (⟨[(2,Js)],(Q66 x3 v0 v1 v12),[]⟩:St) (tS h (gK (e:=.ret) (Iq DE (show Le Γ _ (⟨[(2,Js)],(Q67 x3 v0 v1 v12),[]⟩:St) from Le.trans (A9 (st':=⟨[(2,Js)],(Q66 x3 v0 v1 v12),[]⟩) [2] PK q) (Fb (.cR .nil) (.same (.row (.cR (.cR (.cR (.cR (.cons AVle.untag (.cR (.cR .nil))))))) (.same .nil)))))))))) | .inr r11,h=>gAr (λst' hk=>tS h (gK hk))))))))
def Ml(aH:Int):Option Bool:=
 Option.bind  (bif aH==1 then some (aH==1) else bif aH==8 then some (aH==8) else bif aH==16 then some (aH==16) else bif aH==32 then some (aH==32) else some (aH==64)) λx2=>bif x2 then some true else some false
theorem Ph(h:Ml v1=some v3):sP 95 [(Z6 v1)] [] (.bool v3) []:=
 sG Tryz.func95 λΓ q=>tW q [0] [] [3] [] (tB h λx2 y2 h=>gJ y2 (λb1=>aG Γ .normal (⟨[(4,(.bool b1))],[],[]⟩:St)) (λy h=>Af q [3,4] [] (gC h (λh=>tS h (gK (A7 (A9 [4] [] q)))) λh=>Af q [3,4] [] (gC h (λh=>tS h (gK (A7 (A9 [4] [] q)))) λh=>Af q [3,4] [] (gC h (λh=>tS h (gK (A7 (A9 [4] [] q)))) λh=>Af q [3,4] [] (gC h (λh=>tS h (gK (A7 (A9 [4] [] q)))) λh=>Af q [4] [] (tS h (gK (A7 Gy)))))))) (gA (gC h (λh=>Af q [2] [] (tS h (Bx []))) λh=>Af q [2] [] (tS h (Bx [])))))
def Rh(aD:Aq):Int->Option (LR Int (Unit ⊕ Bool)):=
 λi1=>bif decide (i1<aD.length) then Ay (As i1 aD.length) ((Ml (aD.getD i1.toNat 0)).bind λx3=>bif !x3 then some (.done (.inr false)) else some (.next (w64 (i1+1)))) else some (.done (.inl ()))
def RN(Γ:Ip)(aD:Aq)(r:Bool):Exit->St->Prop:=fK Tryz.prog Γ Tryz.f94.results.toList [] (.bool r) []
def Qx(aD:Aq):Option Bool:=
 (Ae   (Rh aD) 0).bind λx4=>match x4 with | .inl _=>some true | .inr r6=>some r6
theorem OJ(h:Qx v2=some v3):sP 94 [(Z8 v2),(.clo 95 [] [])] [] (.bool v3) []:=
 sG Tryz.func94 λΓ q=>tW q Gu [] Ov [] (tL q h Ov [] (λu i1=>(Cv u [(9,(Z6 i1))] [])) (λu x_=>match x_ with|(.inl _)=>aG Γ (.exit 0) (⟨[],[],[]⟩:St)|(.inr r_)=>aR (RN Γ v2 r_)) (λi1 y h=>Af q RL [] (gC h (λh=>tV q RM [] h λh=>tB h λx3 y3 h=>tT q KQ [] [(Z7 x3)] (c1 (Ph y3)) (gC h (λh=>Af q [4] [] (tS h (gO (M8 (Iq [] (Le.refl _ _)))))) λh=>Af q Ov [] (tN h))) λh=>tS h (gO (A7 (A9 [] [] q))))) λx4 h=>(match x4,h with | .inl _,h=>gA (Af q [4] [] (tS h (Bx []))) | .inr r6,h=>gAr (λst' hk=>tS h (gK hk))))
def Tz(aI:A8):Option Bool:=
 (Ml aI.Bits).bind λx1=>some x1
theorem ME(h:Tz v4=some v3):sP 131 [(.agg (Eb v4))] [] (.bool v3) []:=
 sG Tryz.func131 λΓ q=>Af q [1] [1] (tB h λx1 y1 h=>tT q [2] [] [(Z7 x1)] (c1 (Ph y1)) (tS h (Bx [])))
def Nj(aD:List A8):Int->Option (LR Int (Unit ⊕ Bool)):=
 λi1=>bif decide (i1<aD.length) then Ay (As i1 aD.length) ((Tz (aD.getD i1.toNat default)).bind λx3=>bif !x3 then some (.done (.inr false)) else some (.next (w64 (i1+1)))) else some (.done (.inl ()))
def IF(Γ:Ip)(aD:List A8)(r:Bool):Exit->St->Prop:=fK Tryz.prog Γ Tryz.f130.results.toList [] (.bool r) []
def Mu(aD:List A8):Option Bool:=
 (Ae   (Nj aD) 0).bind λx4=>match x4 with | .inl _=>some true | .inr r6=>some r6
theorem FQ(h:Mu v5=some v3):sP 130 [(vO v5),(.clo 131 [] [])] [] (.bool v3) []:=
 sG Tryz.func130 λΓ q=>tW q Gu [] Ov [] (tL q h Ov [] (λu i1=>(Cv u [(9,(Z6 i1))] [])) (λu x_=>match x_ with|(.inl _)=>aG Γ (.exit 0) (⟨[],[],[]⟩:St)|(.inr r_)=>aR (IF Γ v5 r_)) (λi1 y h=>Af q RL [] (gC h (λh=>tV q RM [6] h λh=>tB h λx3 y3 h=>tT q KQ [] [(Z7 x3)] (c1 (ME y3)) (gC h (λh=>Af q [4] [] (tS h (gO (M8 (Iq [] (Le.refl _ _)))))) λh=>Af q Ov [] (tN h))) λh=>tS h (gO (A7 (A9 [] [] q))))) λx4 h=>(match x4,h with | .inl _,h=>gA (Af q [4] [] (tS h (Bx []))) | .inr r6,h=>gAr (λst' hk=>tS h (gK hk))))
def Qm(aW:Int):Option Bool:=
 some (bif decide (0<=aW) then decide (aW<=22) else false)
theorem FY(h:Qm v1=some v3):sP 158 [(Z6 v1)] [] (.bool v3) []:=
 sG Tryz.func158 λΓ q=>Af q [0] [] (tU q [2] [] (c2 (gI ((decide ((0:Int)<=v1))==true)) (Nh (decide ((0:Int)<=v1)))) (tS h (Bx [])))
def Q69(x5:Bool)(aH:Int):=(bif x5 then(decide ((8:Int)<=aH)) else false)
def Vs(aH:Int)(aV:Int):Option Bool:=
 bif aV==1 then(Ml aH).bind λx1=>some x1 else Option.bind  (bif aV==2 then some (aV==2) else bif aV==4 then some (aV==4) else bif aV==8 then some (aV==8) else some (aV==16)) λx3=>bif x3 then(Ml aH).bind λx5=>some (bif bif x5 then decide (8<=aH) else false then decide (w64 (aH*aV)<=128) else false) else some false
theorem aq(h:Vs v1 v11=some v3):sP 175 [(Z6 v1),(Z6 v11)] [] (.bool v3) []:=
 sG Tryz.func175 λΓ q=>tW q Gu [] Qs [] (Af q YG [] (gC h (λh=>tB h λx1 y1 h=>tT q [4] [] [(Z7 x1)] (c1 (Ph y1)) (tS h (Bx []))) λh=>tB h λx3 y3 h=>gJ y3 (λb2=>aG Γ .normal (⟨[(0,(Z6 v1)),(1,(Z6 v11)),(10,(.bool b2))],[],[]⟩:St)) (λy h=>Af q [0,1,5,10] [] (gC h (λh=>tS h (gK (A7 (A9 GX [] q)))) λh=>Af q [0,1,5,10] [] (gC h (λh=>tS h (gK (A7 (A9 GX [] q)))) λh=>Af q [0,1,5,10] [] (gC h (λh=>tS h (gK (A7 (A9 GX [] q)))) λh=>Af q GX [] (tS h (gK (A7 Gy))))))) (gA (gC h (λh=>tB h λx5 y5 h=>tT q [4] [] [(Z7 x5)] (fA (Ph y5) (gI (x5==true)) (Nh x5) (Sn ((Q69 x5 v1)==true) (c1 (Nh (Q69 x5 v1))))) (tS h (Bx []))) λh=>Af q [4] [] (tS h (Bx []))))))
def Q70(a2:A0):List NB:=[(1,.row 48 (zA a2.Kind a2.Bits a2.Lanes a2.Dst a2.Args a2.Imm))]
def Ps(a2:A0):Option Bool:=
 Option.bind  (bif a2.Kind==16 then some (a2.Kind==16) else some (a2.Kind==17)) λx2=>bif x2 then some (decide (8<=a2.Bits)) else Option.bind  (bif a2.Kind==18 then some (a2.Kind==18) else some (a2.Kind==19)) λx5=>bif x5 then some (bif decide (8<=a2.Bits) then a2.Lanes==1 else false) else Option.bind  (bif a2.Kind==4 then some (a2.Kind==4) else bif a2.Kind==10 then some (a2.Kind==10) else bif a2.Kind==11 then some (a2.Kind==11) else bif a2.Kind==12 then some (a2.Kind==12) else bif a2.Kind==14 then some (a2.Kind==14) else bif a2.Kind==15 then some (a2.Kind==15) else some (a2.Kind==20)) λx8=>bif x8 then some (a2.Lanes==1) else Option.bind  (bif a2.Kind==21 then some (a2.Kind==21) else some (a2.Kind==22)) λx11=>bif x11 then some (decide (1<a2.Lanes)) else some true
theorem MJ(h:Ps v6=some v3):sP 176 [(ZF v6)] [] (.bool v3) []:=
 sG Tryz.func176 λΓ q=>tW q [1] [1] Ok [1] (tB h λx2 y2 h=>gJ y2 (λb1=>aG Γ .normal (⟨[DN,(4,(Z6 v6.Kind)),(5,(.bool b1))],(Q70 v6),[]⟩:St)) (λy h=>Af q [1,4,5] [1] (gC h (λh=>tS h (gK (A7 Gy))) λh=>Af q [1,4,5] [1] (tS h (gK (A7 Gy))))) (gA (gC h (λh=>Af q [2] [] (tS h (Bx []))) λh=>tB h λx5 y5 h=>gJ y5 (λb4=>aG Γ .normal (⟨[DN,(4,(Z6 v6.Kind)),(11,(.bool b4))],(Q70 v6),[]⟩:St)) (λy h=>Af q [1,4,11] [1] (gC h (λh=>tS h (gK (A7 Gy))) λh=>Af q [1,4,11] [1] (tS h (gK (A7 Gy))))) (gA (gC h (λh=>tU q [2] [] (Kj ((decide ((8:Int)<=v6.Bits))==true) (c1 (Nh (decide ((8:Int)<=v6.Bits))))) (tS h (Bx []))) λh=>tB h λx8 y8 h=>gJ y8 (λb7=>aG Γ .normal (⟨[DN,(4,(Z6 v6.Kind)),(22,(.bool b7))],(Q70 v6),[]⟩:St)) (λy h=>Af q KT [1] (gC h (λh=>tS h (gK (A7 Gy))) λh=>Af q KT [1] (gC h (λh=>tS h (gK (A7 Gy))) λh=>Af q KT [1] (gC h (λh=>tS h (gK (A7 Gy))) λh=>Af q KT [1] (gC h (λh=>tS h (gK (A7 Gy))) λh=>Af q KT [1] (gC h (λh=>tS h (gK (A7 Gy))) λh=>Af q KT [1] (gC h (λh=>tS h (gK (A7 Gy))) λh=>Af q KT [1] (tS h (gK (A7 Gy)))))))))) (gA (gC h (λh=>Af q [2] [] (tS h (Bx []))) λh=>tB h λx11 y11 h=>gJ y11 (λb10=>aG Γ .normal (⟨[DN,(33,(.bool b10))],(Q70 v6),[]⟩:St)) (λy h=>Af q [1,4,33] [1] (gC h (λh=>tS h (gK (A7 (A9 [1,33] [1] q)))) λh=>Af q [1,33] [1] (tS h (gK (A7 Gy))))) (gA (gC h (λh=>Af q [2] [] (tS h (Bx []))) λh=>Af q [2] [] (tS h (Bx [])))))))))))
def BF(aK:Int)(aH:Int):Option Int:=
 (Ml aH).bind λx1=>bif !x1 then some 0 else Ay (0<=w64 (64-aH)) (Ay (0<=w64 (64-aH)) (some (Zu .u64 (WO .u64 aK (w64 (64-aH))) (w64 (64-aH)))))
theorem hY(h:BF v1 v11=some v20):sP 191 [(Uj v1),(Z6 v11)] [] (.int .u64 v20) []:=
 sG Tryz.func191 λΓ q=>Af q Gu [] (tB h λx1 y1 h=>tT q [0,1,7] [] [(Z7 x1)] (c1 (Ph y1)) (gC h (λh=>Af q [4] [] (tS h (Bx []))) λh=>zt9 h λc2_ c3_ h=>tU q [4] [] (c2 c2_ c3_) (tS h (Bx []))))
def Pd(aZ:Int):Option Bool:=
 (bif decide (aZ<=64)==true then Ml (w64 aZ) else some false).bind λx1=>some (bif decide (aZ<=64) then x1 else false)
theorem CZ(h:Pd v1=some v3):sP 192 [(Uj v1)] [] (.bool v3) []:=
 sG Tryz.func192 λΓ q=>Af q [0] [] (tB h λx1 y1 h=>tT q [2] [] [(Z7 x1)] (Kj ((decide (v1<=64))==true) (c2 (λ(hg:((decide (v1<=64))==true)=true)=>(Ph (Bj hg y1))) (Nh (decide (v1<=64))))) (tS h (Bx [])))
def S5(a2:A0):Option Bool:=
 bif a2.Kind==0 then(BF a2.Imm a2.Bits).bind λx1=>some (x1==a2.Imm) else bif a2.Kind==14 then(Pd a2.Imm).bind λx2=>some (bif x2 then decide (a2.Imm<Jp a2.Bits) else false) else bif a2.Kind==15 then(Pd a2.Imm).bind λx3=>some (bif x3 then decide (Jp a2.Bits<a2.Imm) else false) else bif a2.Kind==22 then some (decide (a2.Imm<Jp a2.Lanes)) else some (a2.Imm==0)
theorem SA(h:S5 v6=some v3):sP 177 [(ZF v6)] [] (.bool v3) []:=
 sG Tryz.func177 λΓ q=>tW q [1] [1] Ok [1] (Af q [1,4,5] [1] (gC h (λh=>tB h λx1 y1 h=>tT q [2] [] [⟨[],[],(Uj x1),[],[],[]⟩] (c1 (hY y1)) (tS h (Bx []))) λh=>Af q [1,4,15] [1] (gC h (λh=>tB h λx2 y2 h=>tT q [2] [] [(Z7 x2)] (ci (CZ y2) (gI5 (x2==true) (c1 (Nh x2)))) (tS h (Bx []))) λh=>Af q [1,4,28] [1] (gC h (λh=>tB h λx3 y3 h=>tT q [2] [] [(Z7 x3)] (ci (CZ y3) (gI5 (x3==true) (c1 (Nh x3)))) (tS h (Bx []))) λh=>Af q [1,41] [1] (gC h (λh=>Af q [2] [] (tS h (Bx []))) λh=>Af q [2] [] (tS h (Bx [])))))))
abbrev PA:=((Int×Int))
abbrev uh:=(List (Int×Int))
def Jo(am5:List PA):Option uh:=
 some am5
variable{v21:List PA}{v22:List PA}
theorem Ka(h:Jo v21=some v22):sP 180 [(Z9 v21)] [] (Z9 v22) []:=
 sG Tryz.func180 λΓ q=>gR q [0] [] [(2,Z49)] [] (c1 (Bp 2 B5 ((0:Int),(0:Int)))) (Af q [2] [] (tS h (Bx [])))
def Dl :(Int×List (Int×Int))->Option (LR (Int×List (Int×Int)) (List (Int×Int))):=
 λ(i7,l8)=>bif decide (i7<l8.length) then Ay (0<=i7/\0+i7.toNat<=l8.length) (Ay (0<=i7/\0+i7.toNat<=l8.length) (some (.next (w64 (i7+Nat.min (0+i7.toNat-0) (l8.length-(0+i7.toNat))),j4 l8 (0+i7.toNat) (Nat.min (0+i7.toNat-0) (l8.length-(0+i7.toNat))) λi=>l8.getD (0+i) (0,0))))) else some (.done l8)
def qw(x3:Oj):=(List.replicate (w64 x3.2).toNat ((0:Int),(0:Int)))
def Q73(x3:Oj)(aC:List PA):=(j4 (qw x3) 0 (Nat.min aC.length ((qw x3).length-0)) (λi=>aC.getD i ((0:Int),(0:Int))))
def Q72(l8:List PA)(i7:Int):=(j4 l8 (0+i7.toNat) (Nat.min ((0+i7.toNat)-0) (l8.length-(0+i7.toNat))) (λi=>l8.getD (0+i) ((0:Int),(0:Int))))
def Ch(aC:List PA)(aaF:Int):Option uh:=
 Option.bind  (bif decide (aaF<0) then none else some ()) λx1=>match x1 with|_=>(Ty (Jp aC.length) (Jp aaF)).bind λx3=>Option.bind  (bif bif decide (0<x3.1) then true else decide (9223372036854775807<x3.2) then none else some ()) λx4=>match x4 with|_=>Ay (0<=w64 x3.2/\w64 x3.2<=w64 x3.2/\w64 x3.2<=room) ((Ae   Dl (Nat.min aC.length ((List.replicate (w64 x3.2).toNat ((0:Int),(0:Int))).length-0),j4 (List.replicate (w64 x3.2).toNat (0,0)) 0 (Nat.min aC.length ((List.replicate (w64 x3.2).toNat ((0:Int),(0:Int))).length-0)) λi=>aC.getD i (0,0))).bind λx12=>some x12)
theorem U5(h:Ch v21 v1=some v22):sP 181 [(Z9 v21),(Z6 v1)] [] (Z54 v22 20000) [(20000,.tok 2 55 v22.length)]:=
 sG Tryz.func181 λΓ q=>have hΓ:=q.own;gR q Gu [] [(4,Z49)] [] (c1 (Bp 2 B5 ((0:Int),(0:Int)))) (tB h λx1 y1 h=>gJ y1 (λ_=>aG Γ .normal (⟨[(0,(Z9 v21)),(1,(Z6 v1))],[],[]⟩:St)) (λy h=>Af q GX [] (gC h (λh=>nomatch h) λh=>tS h (gK (A7 (A9 Gu [] q))))) (gA (tB h λx3 y3 h=>tT q [0,5,6] [] [⟨[],[],(.tuple [(Uj x3.1),(Uj x3.2)]),[],[],[]⟩] (c1 (QP y3)) (tB h λx4 y4 h=>gJ y4 (λ_=>aG Γ .normal (⟨[(0,(Z9 v21)),(6,(Uj x3.2))],[],[]⟩:St)) (λy h=>tU q [0,6,26] [] (c2 (gI ((decide ((0:Int)<x3.1))==false)) (Jr (decide ((0:Int)<x3.1)))) (gC h (λh=>nomatch h) λh=>tS h (gK (A7 (A9 [0,6] [] q))))) (gA (tV q [0,7] [30] h λh=>by exact Na (Le.trans (Xb 30 (show ∀ k_,k_<((w64 x3.2).toNat)->AVleL ((λi_=>AV.eraseAll (λn_=>Ce n_ [30]) ((λ_=>[Js,Js]) i_)) k_) ((λi=>B5 ((qw x3).getD i ((0:Int),(0:Int)))) k_) from(λk hk=>S7 (e:=B5) (d:=((0:Int),(0:Int))) (.cR (.cR .nil)) _ k (Tc hk)))) (Xc (λ(k_:Nat) u=>(Cv u [(X8 30 k_)] [(30,.arr 2 55 k_ (λi=>B5 ((qw x3).getD i ((0:Int),(0:Int)))))])) (show(w64 x3.2).toNat=(qw x3).length from(Vh ..).symm))) (tU q [7,8] [30] (c1 (Eq.refl ((qw x3).length))) (Na (Le.trans (Xb 30 (show ∀ k_,k_<((qw x3).length)->AVleL ((λi_=>AV.eraseAll (λn_=>Ce n_ [30]) ((jy (λi=>B5 ((qw x3).getD i ((0:Int),(0:Int)))) 0 (Nat.min v21.length ((qw x3).length-0)) (λi=>B5 (v21.getD i ((0:Int),(0:Int))))) i_)) k_) ((λi=>B5 ((Q73 x3 v21).getD i ((0:Int),(0:Int)))) k_) from(Bs (Ki ..) (λk_ hk_=>(Bw (AV.eraseAll (λn_=>Ce n_ [30])) ((SM (e:=B5) (d:=((0:Int),(0:Int))) (l:=(qw x3)) (s:=(λi=>v21.getD i ((0:Int),(0:Int)))) (λ_ _=>rfl) (λ_ _=>rfl)) k_ hk_)).trans rfl)))) (Xc (λ(k_:Nat) u=>(Cv u [(X8 30 k_)] [(30,.arr 2 55 k_ (λi=>B5 ((Q73 x3 v21).getD i ((0:Int),(0:Int)))))])) (show(qw x3).length=(Q73 x3 v21).length from(Ki ..)))) (tL q h [7,8] [30] (λu (i7,l8)=>(Cv u [(X8 30 l8.length),(8,(Z6 i7))] (Z96 l8))) (λu l9=>aG Γ (.exit 0) (⟨[(X8 30 l9.length)],(Z96 l9),[]⟩:St)) (λ⟨i7,l8⟩ y h=>Af q [7,8,37] [30] (gC h (λh=>zt9 h λad5 ad9 h=>tU q [7,8] [30] (c4 ad5 ad9 (Eq.refl l8.length) (Eq.refl l8.length)) (tS h (gN (Le.trans (Le.trans (Xb 30 (show ∀ k_,k_<l8.length->AVleL ((λi_=>AV.eraseAll (λn_=>Ce n_ [30]) ((jy (λi=>B5 (l8.getD i ((0:Int),(0:Int)))) (0+i7.toNat) (Nat.min ((0+i7.toNat)-0) (l8.length-(0+i7.toNat))) (λi=>(λi=>B5 (l8.getD i ((0:Int),(0:Int)))) (0+i))) i_)) k_) ((λi=>B5 ((Q72 l8 i7).getD i ((0:Int),(0:Int)))) k_) from(Bs (Ki ..) (λk_ hk_=>(Bw (AV.eraseAll (λn_=>Ce n_ [30])) ((SM (e:=B5) (d:=((0:Int),(0:Int))) (l:=l8) (s:=(λi=>l8.getD (0+i) ((0:Int),(0:Int)))) (λ_ _=>rfl) (λ_ _=>rfl)) k_ hk_)).trans rfl)))) (Xc (λ(k_:Nat) u=>(Cv u [(X8 30 k_)] [(30,.arr 2 55 k_ (λi=>B5 ((Q72 l8 i7).getD i ((0:Int),(0:Int)))))])) (show l8.length=(Q72 l8 i7).length from(Ki ..)))) Gy)))) λh=>tS h (gO (A7 (A9 [7] [30] q))))) λx12 h=>gA (Af q [4] [30] (Qu (⟨[(4,(.vsl 30 x12.length))],(Z96 x12),[]⟩:St) (tS h (gK (e:=.ret) (Iq [(30,20000)] (Le.trans (Hh (nm:=30) (sz:=2) (n:=x12.length) (e:=55) (f:=(λi=>B5 (x12.getD i ((0:Int),(0:Int))))) (g:=(λi=>B5 (x12.getD i ((0:Int),(0:Int))))) rfl ⟨rfl,trivial⟩ (λ_ _=>rfl) (by rw[hΓ];rfl)) (Iw (st':=⟨[(4,(Z54 x12 30))],[(30,.tok 2 55 x12.length)],[]⟩) (by kernel_rfl)))))))))))))))))
def Q74(a2:A0):List NB:=[(1,.row 48 (zA a2.Kind a2.Bits a2.Lanes a2.Dst a2.Args a2.Imm)),(3,.row 55 [mK,mK]),(4,.row 55 [(HE 64),mK]),(5,.row 55 [(Z6 a2.Bits),(Z6 a2.Lanes)]),(6,.row 55 [(Z6 a2.Bits),mK])]
def S6(a2:A0):Option uh:=
 bif a2.Kind==0 then(Jo []).bind λx1=>some x1 else bif a2.Kind==13 then(Jo [(1,1),(a2.Bits,a2.Lanes),(a2.Bits,a2.Lanes)]).bind λx2=>some x2 else Option.bind  (bif a2.Kind==14 then some (a2.Kind==14) else some (a2.Kind==15)) λx4=>bif x4 then(Jo [(w64 a2.Imm,1)]).bind λx6=>some x6 else bif a2.Kind==16 then(Jo [(64,1)]).bind λx7=>some x7 else bif a2.Kind==17 then(Jo [(64,1),(a2.Bits,a2.Lanes)]).bind λx8=>some x8 else Option.bind  (bif a2.Kind==18 then some (a2.Kind==18) else some (a2.Kind==19)) λx10=>bif x10 then(Jo [(1,1),(64,1),(a2.Bits,1)]).bind λx12=>some x12 else bif a2.Kind==20 then(Jo [(1,1),(a2.Bits,1),(a2.Bits,1),(a2.Bits,1)]).bind λx13=>some x13 else bif a2.Kind==21 then(Ch [(a2.Bits,1)] a2.Lanes).bind λx14=>(Jo x14).bind λx15=>some x15 else bif a2.Kind==22 then(Jo [(a2.Bits,a2.Lanes)]).bind λx16=>some x16 else(Jo [(a2.Bits,a2.Lanes),(a2.Bits,a2.Lanes)]).bind λx17=>some x17
theorem JB(h:S6 v6=some v21):sP 156 [(ZF v6)] [] (Z9 v21) []:=
 sG Tryz.func156 λΓ q=>gR q [1] [1] [(2,Z49)] [] (c1 (Bp 2 B5 ((0:Int),(0:Int)))) (tW q D4 D4 Uy Uy (tW q [1,3,4,5,6,18] Uy [1,3,4,5,6,18,19] Uy (gC h (λh=>tB h λx1 y1 h=>tT q [2] [] [(oV x1)] (c1 (show(sP 180 [HD] [] (Z9 x1) []) from(Spec.args (.cons AP .nil) (Ka y1)))) (tS h (Bx []))) λh=>Af q [1,3,4,5,6,18,22] Uy (gC h (λh=>tB h λx2 y2 h=>gR q [2] [] [(27,(AV.list 2 B5 ((0:Int),(0:Int)) ([((1:Int),(1:Int)),(v6.Bits,v6.Lanes),(v6.Bits,v6.Lanes)]:List Oj) .exact))] [(oV x2)] (c2 (Au 2 B5 ((0:Int),(0:Int)) ([((1:Int),(1:Int)),(v6.Bits,v6.Lanes),(v6.Bits,v6.Lanes)]:List Oj)) (Ka y2)) (tS h (Bx []))) λh=>tB h λx4 y4 h=>gJ y4 (λb3=>aG Γ .normal (⟨[DN,LH,Xa,e9,NK,(18,(Z6 v6.Kind)),(29,(.bool b3))],(Q74 v6),[]⟩:St)) (λy h=>Af q [1,3,4,5,6,18,29] Uy (gC h (λh=>tS h (gK (A7 Gy))) λh=>Af q [1,3,4,5,6,18,29] Uy (tS h (gK (A7 Gy))))) (gA (gC h (λh=>tB h λx6 y6 h=>gR q [2] [] [(36,(AV.list 2 B5 ((0:Int),(0:Int)) ([((w64 v6.Imm),(1:Int))]:List Oj) .exact))] [(oV x6)] (c2 (Au 2 B5 ((0:Int),(0:Int)) ([((w64 v6.Imm),(1:Int))]:List Oj)) (Ka y6)) (tS h (Bx []))) λh=>Af q [1,3,4,5,6,18,38] Uy (gC h (λh=>tB h λx7 y7 h=>gR q [2] [] [(41,(AV.list 2 B5 ((0:Int),(0:Int)) ([((64:Int),(1:Int))]:List Oj) .exact))] [(oV x7)] (c2 (Au 2 B5 ((0:Int),(0:Int)) ([((64:Int),(1:Int))]:List Oj)) (Ka y7)) (tS h (Bx []))) λh=>Af q [1,3,4,5,6,18,43] Uy (gC h (λh=>tB h λx8 y8 h=>gR q [2] [] [(47,(AV.list 2 B5 ((0:Int),(0:Int)) ([((64:Int),(1:Int)),(v6.Bits,v6.Lanes)]:List Oj) .exact))] [(oV x8)] (c2 (Au 2 B5 ((0:Int),(0:Int)) ([((64:Int),(1:Int)),(v6.Bits,v6.Lanes)]:List Oj)) (Ka y8)) (tS h (Bx []))) λh=>tB h λx10 y10 h=>gJ y10 (λb9=>aG Γ .normal (⟨[DN,LH,Xa,e9,NK,(18,(Z6 v6.Kind)),(49,(.bool b9))],(Q74 v6),[]⟩:St)) (λy h=>Af q [1,3,4,5,6,18,49] Uy (gC h (λh=>tS h (gK (A7 Gy))) λh=>Af q [1,3,4,5,6,18,49] Uy (tS h (gK (A7 Gy))))) (gA (gC h (λh=>tB h λx12 y12 h=>gR q [2] [] [(55,(AV.list 2 B5 ((0:Int),(0:Int)) ([((1:Int),(1:Int)),((64:Int),(1:Int)),(v6.Bits,(1:Int))]:List Oj) .exact))] [(oV x12)] (c2 (Au 2 B5 ((0:Int),(0:Int)) ([((1:Int),(1:Int)),((64:Int),(1:Int)),(v6.Bits,(1:Int))]:List Oj)) (Ka y12)) (tS h (Bx []))) λh=>Af q [1,3,5,6,18,57] CG (gC h (λh=>tB h λx13 y13 h=>gR q [2] [] [(63,(AV.list 2 B5 ((0:Int),(0:Int)) ([((1:Int),(1:Int)),(v6.Bits,(1:Int)),(v6.Bits,(1:Int)),(v6.Bits,(1:Int))]:List Oj) .exact))] [(oV x13)] (c2 (Au 2 B5 ((0:Int),(0:Int)) ([((1:Int),(1:Int)),(v6.Bits,(1:Int)),(v6.Bits,(1:Int)),(v6.Bits,(1:Int))]:List Oj)) (Ka y13)) (tS h (Bx []))) λh=>Af q [1,5,6,18,65] [1,5,6] (gC h (λh=>tB h λx14 y14 h=>tB h λx15 y15 h=>gR q [2] [] [(68,(AV.list 2 B5 ((0:Int),(0:Int)) ([(v6.Bits,(1:Int))]:List Oj) .exact))] [⟨[],[(20000,71)],(Z54 x14 20000),[(20000,.tok 2 55 x14.length)],[],[]⟩,(oV x15)] (c3 (Au 2 B5 ((0:Int),(0:Int)) ([(v6.Bits,(1:Int))]:List Oj)) (U5 y14) (Ka y15)) (tS h (Bx []))) λh=>Af q [5,73] [5] (gC h (λh=>tB h λx16 y16 h=>gR q [2] [] [(76,(AV.list 2 B5 ((0:Int),(0:Int)) ([(v6.Bits,v6.Lanes)]:List Oj) .exact))] [(oV x16)] (c2 (Au 2 B5 ((0:Int),(0:Int)) ([(v6.Bits,v6.Lanes)]:List Oj)) (Ka y16)) (tS h (Bx []))) λh=>tB h λx17 y17 h=>gR q [2] [] [(80,(AV.list 2 B5 ((0:Int),(0:Int)) ([(v6.Bits,v6.Lanes),(v6.Bits,v6.Lanes)]:List Oj) .exact))] [(oV x17)] (c2 (Au 2 B5 ((0:Int),(0:Int)) ([(v6.Bits,v6.Lanes),(v6.Bits,v6.Lanes)]:List Oj)) (Ka y17)) (tS h (Bx [])))))))))))))))
def Pc(aK:Int):Option Bool:=
 some (bif decide (1<=aK) then decide (aK<=1023) else false)
theorem CY(h:Pc v1=some v3):sP 193 [(Z6 v1)] [] (.bool v3) []:=
 sG Tryz.func193 λΓ q=>Af q [0] [] (tU q [2] [] (c2 (gI ((decide ((1:Int)<=v1))==true)) (Nh (decide ((1:Int)<=v1)))) (tS h (Bx [])))
def Lz(a2:A0):Int->Option (LR Int (Unit ⊕ Bool)):=
 λi2=>bif decide (i2<a2.Args.length) then Ay (As i2 a2.Args.length) ((Pc (a2.Args.getD i2.toNat 0)).bind λx4=>bif !x4 then some (.done (.inr false)) else some (.next (w64 (i2+1)))) else some (.done (.inl ()))
def TA(Γ:Ip)(a2:A0)(r:Bool):Exit->St->Prop:=fK Tryz.prog Γ Tryz.f178.results.toList [] (.bool r) []
def Sy(a2:A0):Option Bool:=
 (S6 a2).bind λx1=>bif (a2.Args.length:Int)!=x1.length then some false else(Ae   (Lz a2) 0).bind λx5=>match x5 with | .inl _=>some true | .inr r7=>some r7
theorem RY(h:Sy v6=some v3):sP 178 [(ZF v6)] [] (.bool v3) []:=
 sG Tryz.func178 λΓ q=>Af q [1] [1] (tB h λx1 y1 h=>tT q [1,11] [1] [(oV x1)] (c1 (JB y1)) (gC h (λh=>Af q [2] [] (tS h (Bx []))) λh=>Af q [13,14,15] [] (tL q h [13,14,15] [] (λu i2=>(Cv u [(15,(Z6 i2))] [])) (λu x_=>match x_ with|(.inl _)=>aG Γ (.exit 0) (⟨[],[],[]⟩:St)|(.inr r_)=>aR (TA Γ v6 r_)) (λi2 y h=>Af q [13,14,15,16] [] (gC h (λh=>tV q [4,13,14,15] [] h λh=>tB h λx4 y4 h=>tT q [13,14,15,21] [] [(Z7 x4)] (c1 (CY y4)) (gC h (λh=>Af q [2] [] (tS h (gO (M8 (Iq [] (Le.refl _ _)))))) λh=>Af q [13,14,15] [] (tN h))) λh=>tS h (gO (A7 (A9 [] [] q))))) λx5 h=>(match x5,h with | .inl _,h=>gA (Af q [2] [] (tS h (Bx []))) | .inr r7,h=>gAr (λst' hk=>tS h (gK hk))))))
def Q75(a2:A0):List NB:=[(1,.row 48 (zA a2.Kind a2.Bits a2.Lanes a2.Dst a2.Args a2.Imm))]
def S0(a2:A0):Option Oj:=
 Option.bind  (bif a2.Kind==17 then some (a2.Kind==17) else some (a2.Kind==19)) λx2=>bif x2 then some (0,0) else Option.bind  (bif a2.Kind==10 then some (a2.Kind==10) else bif a2.Kind==11 then some (a2.Kind==11) else some (a2.Kind==12)) λx5=>bif x5 then some (1,1) else bif a2.Kind==22 then some (a2.Bits,1) else some (a2.Bits,a2.Lanes)
theorem JA(h:S0 v6=some v19):sP 155 [(ZF v6)] [] (.tuple [(Z6 v19.1),(Z6 v19.2)]) []:=
 sG Tryz.func155 λΓ q=>tW q [1] [1] [1,5] [1] (tB h λx2 y2 h=>gJ y2 (λb1=>aG Γ .normal (⟨[DN,(5,(Z6 v6.Kind)),(6,(.bool b1))],(Q75 v6),[]⟩:St)) (λy h=>Af q [1,5,6] [1] (gC h (λh=>tS h (gK (A7 Gy))) λh=>Af q [1,5,6] [1] (tS h (gK (A7 Gy))))) (gA (gC h (λh=>Af q Cf [] (tS h (Bx []))) λh=>tB h λx5 y5 h=>gJ y5 (λb4=>aG Γ .normal (⟨[DN,(5,(Z6 v6.Kind)),(9,(.bool b4))],(Q75 v6),[]⟩:St)) (λy h=>Af q [1,5,9] [1] (gC h (λh=>tS h (gK (A7 Gy))) λh=>Af q [1,5,9] [1] (gC h (λh=>tS h (gK (A7 Gy))) λh=>Af q [1,5,9] [1] (tS h (gK (A7 Gy)))))) (gA (gC h (λh=>Af q Cf [] (tS h (Bx []))) λh=>Af q [1,13] [1] (gC h (λh=>Af q Cf [] (tS h (Bx []))) λh=>Af q Cf [] (tS h (Bx []))))))))
def Sz(a2:A0):Option Bool:=
 (S0 a2).bind λx1=>bif x1.1==0 then some (a2.Dst==0) else(Pc a2.Dst).bind λx2=>some x2
theorem RZ(h:Sz v6=some v3):sP 179 [(ZF v6)] [] (.bool v3) []:=
 sG Tryz.func179 λΓ q=>Af q [1] [1] (tB h λx1 y1 h=>tT q Ko [1] [(wl x1.1 x1.2)] (c1 (JA y1)) (Af q [1,11] [1] (gC h (λh=>Af q [2] [] (tS h (Bx []))) λh=>tB h λx2 y2 h=>tT q [2] [] [(Z7 x2)] (c1 (CY y2)) (tS h (Bx [])))))
def yw(x1:Bool)(x2:Bool):=(bif (!x1) then true else(!x2))
def T3(a2:A0):Option Bool:=
 (Qm a2.Kind).bind λx1=>(bif (!x1)==false then Vs a2.Bits a2.Lanes else some false).bind λx2=>(bif (bif !x1 then true else !x2)==false then Ps a2 else some false).bind λx3=>(bif (bif bif !x1 then true else !x2 then true else !x3)==false then S5 a2 else some false).bind λx4=>bif bif bif bif !x1 then true else !x2 then true else !x3 then true else !x4 then some false else(Sy a2).bind λx5=>(bif x5==true then Sz a2 else some false).bind λx6=>some (bif x5 then x6 else false)
theorem FX(h:T3 v6=some v3):sP 153 [(ZF v6)] [] (.bool v3) []:=
 sG Tryz.func153 λΓ q=>Af q [1] [1] (tB h λx1 y1 h=>tB h λx2 y2 h=>tB h λx3 y3 h=>tB h λx4 y4 h=>tT q [1,24] [1] [(Z7 x1),(Z7 x2),(Z7 x3),(Z7 x4)] (ci (FY y1) (bW ((!x1)==false) (d9_ (λ(hg:((!x1)==false)=true)=>(aq (Bj hg y2))) (gI ((!x1)==false)) (Jr (!x1)) (gI ((yw x1 x2)==false)) (λ(hg:((yw x1 x2)==false)=true)=>(MJ (Bj hg y3))) (gI ((yw x1 x2)==false)) (Jr (yw x1 x2)) (gI ((bif (yw x1 x2) then true else(!x3))==false)) (λ(hg:((bif (yw x1 x2) then true else(!x3))==false)=true)=>(SA (Bj hg y4))) (c2 (gI ((bif (yw x1 x2) then true else(!x3))==false)) (Jr (bif (yw x1 x2) then true else(!x3))))))) (gC h (λh=>Af q [2] [] (tS h (Bx []))) λh=>tB h λx5 y5 h=>tB h λx6 y6 h=>tT q [2] [] [(Z7 x5),(Z7 x6)] (c4 (RY y5) (gI (x5==true)) (λ(hg:(x5==true)=true)=>(RZ (Bj hg y6))) (Nh x5)) (tS h (Bx []))))
def Vp(a2:A0)(aa2:Int):Option Bool:=
 bif aa2==0 then some (bif decide (a2.Kind<=17) then a2.Lanes==1 else false) else bif aa2==1 then some (bif decide (a2.Kind<=20) then a2.Lanes==1 else false) else some true
theorem aj(h:Vp v6 v1=some v3):sP 154 [(ZF v6),(Z6 v1)] [] (.bool v3) []:=
 sG Tryz.func154 λΓ q=>tW q Oa [2] Ms [2] (Af q AD [2] (gC h (λh=>tU q [4] [] (Kj ((decide (v6.Kind<=17))==true) (c1 (Nh (decide (v6.Kind<=17))))) (tS h (Bx []))) λh=>Af q Ys [2] (gC h (λh=>tU q [4] [] (Kj ((decide (v6.Kind<=20))==true) (c1 (Nh (decide (v6.Kind<=20))))) (tS h (Bx []))) λh=>Af q [4] [] (tS h (Bx [])))))
abbrev GM:=(Bool×AI×Int×Aq×List Bo)
def I5(a2:A0)(a3:AI)(a5:Int)(a7:Aq)(aA:List Bo):Option GM:=
 (T3 a2).bind λx1=>(bif x1==true then Vp a2 a5 else some false).bind λx2=>some (bif x1 then x2 else false,a3,a5,a7,aA)
variable{v23:GM}
theorem Yi(h:I5 v6 v0 v1 v2 v12=some v23):sP 133 [V1,(ZF v6)] (Z3 v0.Params v0.Ret v0.Blocks v1 v2 v12 v12.length) (.bool v23.1) (Z3 v23.2.1.Params v23.2.1.Ret v23.2.1.Blocks v23.2.2.1 v23.2.2.2.1 v23.2.2.2.2 v23.2.2.2.2.length):=
 sG Tryz.func133 λΓ q=>Af q Nu XP (tB h λx1 y1 h=>tB h λx2 y2 h=>tT q [4] Jw [(Z7 x1),(Z7 x2)] (ci (FX y1) (gI5 (x1==true) (c2 (λ(hg:(x1==true)=true)=>(aj (Bj hg y2))) (Nh x1)))) (tS h (Bx DE)))
abbrev PB:=(Int×Aq×Int×List Ab×Int×Aq×List Bo)
abbrev Afc:=(LR (Int×Aq×Int×List Ab×Int×Aq×List Bo) ((Aq×Int×List Ab×Int×Aq×List Bo) ⊕ (Bool×AI×Int×Aq×List Bo)))
def Hy(aD:List A0):PB->Option Afc:=
 λ(i1,l2,i3,l4,i5,l6,l7)=>bif decide (i1<aD.length) then Ay (As i1 aD.length) ((I5 (aD.getD i1.toNat default) ⟨l2,i3,l4⟩ i5 l6 l7).bind λx15=>bif !x15.1 then some (.done (.inr (false,x15.2.1,x15.2.2.1,x15.2.2.2.1,x15.2.2.2.2))) else some (.next (w64 (i1+1),x15.2.1.Params,x15.2.1.Ret,x15.2.1.Blocks,x15.2.2.1,x15.2.2.2.1,x15.2.2.2.2))) else some (.done (.inl (l2,i3,l4,i5,l6,l7)))
def JQ(Γ:Ip)(aD:List A0)(a3:AI)(a5:Int)(a7:Aq)(aA:List Bo)(r:GM):Exit->St->Prop:=fK Tryz.prog Γ Tryz.f132.results.toList (Z3 a3.Params a3.Ret a3.Blocks a5 a7 aA aA.length) (.bool r.1) (Z3 r.2.1.Params r.2.1.Ret r.2.1.Blocks r.2.2.1 r.2.2.2.1 r.2.2.2.2 r.2.2.2.2.length)
def Ni(aD:List A0)(a3:AI)(a5:Int)(a7:Aq)(aA:List Bo):Option GM:=
 (Ae   (Hy aD) (0,a3.Params,a3.Ret,a3.Blocks,a5,a7,aA)).bind λx16=>match x16 with | .inl (l8,i9,l10,i11,l12,l13)=>some (true,⟨l8,i9,l10⟩,i11,l12,l13) | .inr r18=>some r18
theorem IM(h:Ni v7 v0 v1 v2 v12=some v23):sP 132 [(SF v7),(.clo 133 [V1] [])] (Z3 v0.Params v0.Ret v0.Blocks v1 v2 v12 v12.length) (.bool v23.1) (Z3 v23.2.1.Params v23.2.1.Ret v23.2.1.Blocks v23.2.2.1 v23.2.2.2.1 v23.2.2.2.2 v23.2.2.2.2.length):=
 sG Tryz.func132 λΓ q=>tW q Gu Jw Ov Jw (tL q h Ov Jw (λu (i1,l2,i3,l4,i5,l6,l7)=>(Cv u [(9,(Z6 i1))] (Z3 l2 i3 l4 i5 l6 l7 l7.length))) (λu x_=>match x_ with|(.inl (l8,i9,l10,i11,l12,l13))=>aG Γ (.exit 0) (⟨[],(Z3 l8 i9 l10 i11 l12 l13 l13.length),[]⟩:St)|(.inr r_)=>aR (JQ Γ v7 v0 v1 v2 v12 r_)) (λ⟨i1,l2,i3,l4,i5,l6,l7⟩ y h=>Af q RL Jw (gC h (λh=>tV q RM [6,30000,37006] h λh=>tB h λx15 y15 h=>tT q KQ Jw [(Z89 x15.1 x15.2.1.Params x15.2.1.Ret x15.2.1.Blocks x15.2.2.1 x15.2.2.2.1 x15.2.2.2.2 x15.2.2.2.2.length)] (c1 (Yi y15)) (gC h (λh=>Af q [4] Jw (tS h (gO (M8 (Iq DE (Le.refl _ _)))))) λh=>Af q Ov Jw (tN h))) λh=>tS h (gO (A7 (A9 [] Jw q))))) λx16 h=>(match x16,h with | .inl ⟨l8,i9,l10,i11,l12,l13⟩,h=>gA (Af q [4] Jw (tS h (Bx DE))) | .inr r18,h=>gAr (λst' hk=>tS h (gK hk))))
def Q79(x1:Bool)(x2:GM)(a7:Aq):AV:=(Z82 x1 x2.2.2.2.1 a7)
def Q78(x1:Bool)(x2:GM)(a3:AI):AV:=(Z82 x1 x2.2.1.Params a3.Params)
def Q77(x1:Bool)(x2:GM)(a3:AI):AV:=(.slice 5 (bif (x1==true) then x2.2.1.Blocks.length else a3.Blocks.length) (λi=>bif (x1==true) then Bi (x2.2.1.Blocks.getD i default) else Bi (a3.Blocks.getD i default)) .none)
def G1(aE:Ab)(a3:AI)(a5:Int)(a7:Aq)(aA:List Bo):Option GM:=
 (Mu aE.Phis).bind λx1=>(bif x1==true then Ni aE.Ops a3 a5 a7 aA else some (false,default,0,[],[])).bind λx2=>some (bif x1 then x2.1 else false,⟨bif x1==true then x2.2.1.Params else a3.Params,bif x1==true then x2.2.1.Ret else a3.Ret,bif x1==true then x2.2.1.Blocks else a3.Blocks⟩,bif x1==true then x2.2.2.1 else a5,bif x1==true then x2.2.2.2.1 else a7,bif x1==true then x2.2.2.2.2 else aA)
theorem Vt(h:G1 v9 v0 v1 v2 v12=some v23):sP 97 [V1,(.agg (Bi v9))] (Z3 v0.Params v0.Ret v0.Blocks v1 v2 v12 v12.length) (.bool v23.1) (Z3 v23.2.1.Params v23.2.1.Ret v23.2.1.Blocks v23.2.2.1 v23.2.2.2.1 v23.2.2.2.2 v23.2.2.2.2.length):=
 sG Tryz.func97 λΓ q=>Af q Nu XP (tB h λx1 y1 h=>tB h λx2 y2 h=>tT q [4] Jw [(Z7 x1),(Z89 x2.1 x2.2.1.Params x2.2.1.Ret x2.2.1.Blocks x2.2.2.1 x2.2.2.2.1 x2.2.2.2.2 x2.2.2.2.2.length)] (ci (FQ y1) (bW (x1==true) (c2 (λ(hg:(x1==true)=true)=>(IM (Bj hg y2))) (Nh x1)))) (tS h (gK (e:=.ret) (Iq DE (Le.trans (leB (λg_ u=>(Cv u [] [(30000,.row 75 [(Q78 x1 x2 v0),(.int .i64 (bif (x1==true) then x2.2.1.Ret else v0.Ret)),(Q77 x1 x2 v0),(.int .i64 (bif (x1==true) then x2.2.2.1 else v1)),(Q79 x1 x2 v2),.nilm,(Z46 g_ x2.2.2.2.2 v12)]),(37006,.tok 5 146 (bif g_ then x2.2.2.2.2.length else v12.length))])) (λg_ u=>(Cv u [] [(30000,.row 75 [(Q78 x1 x2 v0),(.int .i64 (bif (x1==true) then x2.2.1.Ret else v0.Ret)),(Q77 x1 x2 v0),(.int .i64 (bif (x1==true) then x2.2.2.1 else v1)),(Q79 x1 x2 v2),.nilm,(AV.list 5 Py default (bif g_ then x2.2.2.2.2 else v12) (.own 37006))]),(37006,.tok 5 146 ((bif g_ then x2.2.2.2.2 else v12).length))])) (x1==true)) (Le.trans (xc 30000 0 (show AVle (Q78 x1 x2 v0) (AV.list 1 Ak 0 (bif (x1==true) then x2.2.1.Params else v0.Params) .none) from Lj)) (Le.trans (xc 30000 2 (show AVle (Q77 x1 x2 v0) (AV.list 5 Bi default (bif (x1==true) then x2.2.1.Blocks else v0.Blocks) .none) from Lj)) (xc 30000 4 (show AVle (Q79 x1 x2 v2) (AV.list 1 Ak 0 (bif (x1==true) then x2.2.2.2.1 else v2) .none) from Lj)))))))))
def Fl(aD:List Ab):PB->Option Afc:=
 λ(i1,l2,i3,l4,i5,l6,l7)=>bif decide (i1<aD.length) then Ay (As i1 aD.length) ((G1 (aD.getD i1.toNat default) ⟨l2,i3,l4⟩ i5 l6 l7).bind λx15=>bif !x15.1 then some (.done (.inr (false,x15.2.1,x15.2.2.1,x15.2.2.2.1,x15.2.2.2.2))) else some (.next (w64 (i1+1),x15.2.1.Params,x15.2.1.Ret,x15.2.1.Blocks,x15.2.2.1,x15.2.2.2.1,x15.2.2.2.2))) else some (.done (.inl (l2,i3,l4,i5,l6,l7)))
def DJ(Γ:Ip)(aD:List Ab)(a3:AI)(a5:Int)(a7:Aq)(aA:List Bo)(r:GM):Exit->St->Prop:=fK Tryz.prog Γ Tryz.f96.results.toList (Z3 a3.Params a3.Ret a3.Blocks a5 a7 aA aA.length) (.bool r.1) (Z3 r.2.1.Params r.2.1.Ret r.2.1.Blocks r.2.2.1 r.2.2.2.1 r.2.2.2.2 r.2.2.2.2.length)
def Ks(aD:List Ab)(a3:AI)(a5:Int)(a7:Aq)(aA:List Bo):Option GM:=
 (Ae   (Fl aD) (0,a3.Params,a3.Ret,a3.Blocks,a5,a7,aA)).bind λx16=>match x16 with | .inl (l8,i9,l10,i11,l12,l13)=>some (true,⟨l8,i9,l10⟩,i11,l12,l13) | .inr r18=>some r18
theorem BH(h:Ks v10 v0 v1 v2 v12=some v23):sP 96 [(TH v10),(.clo 97 [V1] [])] (Z3 v0.Params v0.Ret v0.Blocks v1 v2 v12 v12.length) (.bool v23.1) (Z3 v23.2.1.Params v23.2.1.Ret v23.2.1.Blocks v23.2.2.1 v23.2.2.2.1 v23.2.2.2.2 v23.2.2.2.2.length):=
 sG Tryz.func96 λΓ q=>tW q Gu Jw Ov Jw (tL q h Ov Jw (λu (i1,l2,i3,l4,i5,l6,l7)=>(Cv u [(9,(Z6 i1))] (Z3 l2 i3 l4 i5 l6 l7 l7.length))) (λu x_=>match x_ with|(.inl (l8,i9,l10,i11,l12,l13))=>aG Γ (.exit 0) (⟨[],(Z3 l8 i9 l10 i11 l12 l13 l13.length),[]⟩:St)|(.inr r_)=>aR (DJ Γ v10 v0 v1 v2 v12 r_)) (λ⟨i1,l2,i3,l4,i5,l6,l7⟩ y h=>Af q RL Jw (gC h (λh=>tV q RM [6,30000,37006] h λh=>tB h λx15 y15 h=>tT q KQ Jw [(Z89 x15.1 x15.2.1.Params x15.2.1.Ret x15.2.1.Blocks x15.2.2.1 x15.2.2.2.1 x15.2.2.2.2 x15.2.2.2.2.length)] (c1 (Vt y15)) (gC h (λh=>Af q [4] Jw (tS h (gO (M8 (Iq DE (Le.refl _ _)))))) λh=>Af q Ov Jw (tN h))) λh=>tS h (gO (A7 (A9 [] Jw q))))) λx16 h=>(match x16,h with | .inl ⟨l8,i9,l10,i11,l12,l13⟩,h=>gA (Af q [4] Jw (tS h (Bx DE))) | .inr r18,h=>gAr (λst' hk=>tS h (gK hk))))
def oN(x1:Bool)(x2:Bool):=((bif x1 then x2 else false)==true)
def Q83(x1:Bool)(x2:Bool)(x3:GM)(a7:Aq):AV:=(Z29 (oN x1 x2) x3.2.2.2.1 a7)
def Q82(x1:Bool)(x2:Bool)(x3:GM)(a3:AI):AV:=(Z29 (oN x1 x2) x3.2.1.Params a3.Params)
def Q81(x1:Bool)(x2:Bool)(x3:GM)(a3:AI):AV:=(Z73 (oN x1 x2) x3.2.1.Blocks a3.Blocks)
def Kt(a3:AI)(a5:Int)(a7:Aq)(aA:List Bo):Option qN:=
 (Qx a3.Params).bind λx1=>(bif x1==true then Ml a3.Ret else some false).bind λx2=>(bif (bif x1 then x2 else false)==true then Ks a3.Blocks a3 a5 a7 aA else some (false,default,0,[],[])).bind λx3=>(O7 (bif bif x1 then x2 else false then x3.1 else false) 6).bind λx4=>some (x4,⟨bif (bif x1 then x2 else false)==true then x3.2.1.Params else a3.Params,bif (bif x1 then x2 else false)==true then x3.2.1.Ret else a3.Ret,bif (bif x1 then x2 else false)==true then x3.2.1.Blocks else a3.Blocks⟩,bif (bif x1 then x2 else false)==true then x3.2.2.1 else a5,bif (bif x1 then x2 else false)==true then x3.2.2.2.1 else a7,bif (bif x1 then x2 else false)==true then x3.2.2.2.2 else aA)
theorem BI(h:Kt v0 v1 v2 v12=some v13):sP 61 [V1] (Z3 v0.Params v0.Ret v0.Blocks v1 v2 v12 v12.length) (Z6 v13.1) (Z3 v13.2.1.Params v13.2.1.Ret v13.2.1.Blocks v13.2.2.1 v13.2.2.2.1 v13.2.2.2.2 v13.2.2.2.2.length):=
 sG Tryz.func61 λΓ q=>Af q [0] Jw (tB h λx1 y1 h=>tB h λx2 y2 h=>tB h λx3 y3 h=>tT q [3] Jw [(Z7 x1),(Z7 x2),(Z89 x3.1 x3.2.1.Params x3.2.1.Ret x3.2.1.Blocks x3.2.2.1 x3.2.2.2.1 x3.2.2.2.2 x3.2.2.2.2.length)] (ci (OJ y1) (gI5 (x1==true) (bP (λ(hg:(x1==true)=true)=>(Ph (Bj hg y2))) (Nh x1) (gI7 (oN x1 x2) (c2 (λ(hg:(oN x1 x2)=true)=>(BH (Bj hg y3))) (Nh (bif x1 then x2 else false))))))) (Na (Le.trans (leB (λg_ u=>(Cv u [] [(30000,.row 75 [(Q82 x1 x2 x3 v0),(zB (oN x1 x2) x3.2.1.Ret v0.Ret),(Q81 x1 x2 x3 v0),(zB (oN x1 x2) x3.2.2.1 v1),(Q83 x1 x2 x3 v2),.nilm,(Z46 g_ x3.2.2.2.2 v12)]),(37006,.tok 5 146 (bif g_ then x3.2.2.2.2.length else v12.length))])) (λg_ u=>(Cv u [] [(30000,.row 75 [(Q82 x1 x2 x3 v0),(zB (oN x1 x2) x3.2.1.Ret v0.Ret),(Q81 x1 x2 x3 v0),(zB (oN x1 x2) x3.2.2.1 v1),(Q83 x1 x2 x3 v2),.nilm,(AV.list 5 Py default (bif g_ then x3.2.2.2.2 else v12) (.own 37006))]),(37006,.tok 5 146 ((bif g_ then x3.2.2.2.2 else v12).length))])) (oN x1 x2)) (Le.trans (xc 30000 0 (show AVle (Q82 x1 x2 x3 v0) (AV.list 1 Ak 0 (bif (oN x1 x2) then x3.2.1.Params else v0.Params) .none) from Lj)) (Le.trans (xc 30000 2 (show AVle (Q81 x1 x2 x3 v0) (AV.list 5 Bi default (bif (oN x1 x2) then x3.2.1.Blocks else v0.Blocks) .none) from Lj)) (xc 30000 4 (show AVle (Q83 x1 x2 x3 v2) (AV.list 1 Ak 0 (bif (oN x1 x2) then x3.2.2.2.1 else v2) .none) from Lj))))) (tB h λx4 y4 h=>tT q [2] Jw [(DM x4)] (c1 (CU y4)) (tS h (Bx DE)))))
def Et(aH:Int):Option Oj:=
 some (aH,1)
theorem N5(h:Et v1=some v19):sP 98 [(Z6 v1)] [] (.agg (B5 v19)) []:=
 sG Tryz.func98 λΓ q=>tW q [0,2] [2] [2] [2] (tS h (Bx []))
def Q84:=(λ(v_:A6)=>((AO v_):AV))
abbrev Tj:=(Int×A6)
abbrev ik:=(Bool×AI×Int×Aq×List Bo×List (Int×A6))
def G2(aK:Int)(aaC:Oj)(aL:Sd)(a3:AI)(a5:Int)(a7:Aq)(a8:List Tj)(aA:List Bo):Option ik:=
 bif bif bif Lb a8 aK then true else decide (aK<1) then true else decide (1023<aK) then some (false,a3,a5,a7,aA,a8) else some (true,a3,a5,a7,aA,Qb a8 aK ⟨aaC,aL⟩)
variable{v24:Sd}{v25:List Tj}{v26:ik}
abbrev yj:=(Int×AV)
theorem Rp(h:G2 v1 v19 v24 v0 v11 v2 v25 v12=some v26):sP 134 [V1,(Z6 v1),(.agg (B5 v19)),(.agg (SN v24))] [(Z1 v0.Params v0.Ret v0.Blocks v11 v2 9100005 v12),(Mt 37006 146 v12.length),(9100005,.obj (.map true .i64 (Ee (λ(v_:A6)=>((AO v_):AV)) v25)))] (.bool v26.1) [(Z1 v26.2.1.Params v26.2.1.Ret v26.2.1.Blocks v26.2.2.1 v26.2.2.2.1 9100005 v26.2.2.2.2.1),(Mt 37006 146 v26.2.2.2.2.1.length),(9100005,.obj (.map true .i64 (Ee (λ(v_:A6)=>((AO v_):AV)) v26.2.2.2.2.2)))]:=
 sG Tryz.func134 λΓ q=>Af q YF nr (gR q [0,1,6,7,10] nr [(17,(.tuple [(y0 v25 v1),(.bool (Lb v25 v1))]))] [] (c1 (show(AVle (.tuple [Nm (.agg [Js,Js,Js,Js]) (Ee Q84 v25) v1,.bool (Lb (Ee Q84 v25) v1)]) (.tuple [(y0 v25 v1),(.bool (Lb v25 v1))])) from(gt (f:=Q84) (l:=v25) (AVle.refl _) rfl))) (tU q [0,1,6,7,28] nr (c4 (gI ((Lb v25 v1)==false)) (Jr (Lb v25 v1)) (gI ((bif (Lb v25 v1) then true else(decide (v1<1)))==false)) (Jr (bif (Lb v25 v1) then true else(decide (v1<1))))) (gC h (λh=>Af q [8] Jq (tS h (Bx IQ))) λh=>Af q [] Jq (Na (Xc (λ(k_:List yj) u=>Cv u [] [(9100005,.obj (.map true .i64 k_))]) (show(Qb (Ee Q84 v25) v1 (.agg [(Z6 v19.1),(Z6 v19.2),(Z6 v24.block),(Z6 v24.at_)]))=(Ee Q84 (Qb v25 v1 (⟨v19,v24⟩:A6))) from(mz (f:=Q84) (l:=v25) (v:=(⟨v19,v24⟩:A6)) rfl rfl))) (Af q [8] Jq (tS h (Bx IQ)))))))
def Sw(a2:A0):Option Oj:=
 (T3 a2).bind λx1=>bif !x1 then some (0,0) else(S0 a2).bind λx2=>some (x2.1,x2.2)
theorem ap(h:Sw v6=some v19):sP 135 [(ZF v6)] [] (.tuple [(Z6 v19.1),(Z6 v19.2)]) []:=
 sG Tryz.func135 λΓ q=>Af q [1] [1] (tB h λx1 y1 h=>tT q [1,6] [1] [(Z7 x1)] (c1 (FX y1)) (gC h (λh=>Af q Cf [] (tS h (Bx []))) λh=>tB h λx2 y2 h=>tT q Cf [] [(wl x2.1 x2.2)] (c1 (JA y2)) (tS h (Bx []))))
open Go Go.RowKit
set_option maxRecDepth 100000
set_option maxHeartbeats 2000000
abbrev Afd:=(Int×Aq×Int×List Ab×Int×Aq×List Bo×List (Int×A6))
abbrev Afe:=(LR (Int×Aq×Int×List Ab×Int×Aq×List Bo×List (Int×A6)) ((Aq×Int×List Ab×Int×Aq×List Bo×List (Int×A6)) ⊕ (Bool×AI×Int×Aq×List Bo×List (Int×A6))))
def D0(aaA:Int)(aE:Ab):Afd->Option Afe:=
 λ(i1,l2,i3,l4,i5,l6,l7,l8)=>bif decide (i1<aE.Phis.length) then Ay (As i1 aE.Phis.length) ((Et (aE.Phis.getD i1.toNat default).Bits).bind λx17=>(G2 (aE.Phis.getD i1.toNat default).Dst x17 ⟨aaA,-1⟩ ⟨l2,i3,l4⟩ i5 l6 l8 l7).bind λx18=>bif !x18.1 then some (.done (.inr (false,x18.2.1,x18.2.2.1,x18.2.2.2.1,x18.2.2.2.2.1,x18.2.2.2.2.2))) else some (.next (w64 (i1+1),x18.2.1.Params,x18.2.1.Ret,x18.2.1.Blocks,x18.2.2.1,x18.2.2.2.1,x18.2.2.2.2.1,x18.2.2.2.2.2))) else some (.done (.inl (l2,i3,l4,i5,l6,l7,l8)))
def Cz(aaA:Int)(aE:Ab):Afd->Option Afe:=
 λ(i21,l22,i23,l24,i25,l26,l27,l28)=>bif decide (i21<aE.Ops.length) then Ay (As i21 aE.Ops.length) ((Sw (aE.Ops.getD i21.toNat default)).bind λx37=>(bif decide (0<x37.1)==true then G2 (aE.Ops.getD i21.toNat default).Dst (x37.1,x37.2) ⟨aaA,i21⟩ ⟨l22,i23,l24⟩ i25 l26 l28 l27 else some (false,default,0,[],[],[])).bind λx38=>bif bif decide (0<x37.1) then !x38.1 else false then some (.done (.inr (false,⟨bif decide (0<x37.1)==true then x38.2.1.Params else l22,bif decide (0<x37.1)==true then x38.2.1.Ret else i23,bif decide (0<x37.1)==true then x38.2.1.Blocks else l24⟩,bif decide (0<x37.1)==true then x38.2.2.1 else i25,bif decide (0<x37.1)==true then x38.2.2.2.1 else l26,bif decide (0<x37.1)==true then x38.2.2.2.2.1 else l27,bif decide (0<x37.1)==true then x38.2.2.2.2.2 else l28))) else some (.next (w64 (i21+1),bif decide (0<x37.1)==true then x38.2.1.Params else l22,bif decide (0<x37.1)==true then x38.2.1.Ret else i23,bif decide (0<x37.1)==true then x38.2.1.Blocks else l24,bif decide (0<x37.1)==true then x38.2.2.1 else i25,bif decide (0<x37.1)==true then x38.2.2.2.1 else l26,bif decide (0<x37.1)==true then x38.2.2.2.2.1 else l27,bif decide (0<x37.1)==true then x38.2.2.2.2.2 else l28))) else some (.done (.inl (l22,i23,l24,i25,l26,l27,l28)))
def Px(Γ:Ip)(aaA:Int)(aE:Ab)(a3:AI)(a5:Int)(a7:Aq)(a8:List Tj)(aA:List Bo)(r:ik):Exit->St->Prop:=fK Tryz.prog Γ Tryz.f99.results.toList [(Z1 a3.Params a3.Ret a3.Blocks a5 a7 9100005 aA),(Mt 37006 146 aA.length),(9100005,.obj (.map true .i64 (Ee (λ(v_:A6)=>((AO v_):AV)) a8)))] (.bool r.1) [(Z1 r.2.1.Params r.2.1.Ret r.2.1.Blocks r.2.2.1 r.2.2.2.1 9100005 r.2.2.2.2.1),(Mt 37006 146 r.2.2.2.2.1.length),(9100005,.obj (.map true .i64 (Ee (λ(v_:A6)=>((AO v_):AV)) r.2.2.2.2.2)))]
def jA(x37:Oj):=((decide ((0:Int)<x37.1))==true)
def we:=(λ(v_:A6)=>((AO v_):AV))
def Q89(x37:Oj)(x38:ik)(l26:Aq):AV:=(Z29 (jA x37) x38.2.2.2.1 l26)
def Q90(x37:Oj)(x38:ik)(l24:List Ab):AV:=(Z73 (jA x37) x38.2.1.Blocks l24)
def Q88(x37:Oj)(x38:ik)(l22:Aq):AV:=(Z29 (jA x37) x38.2.1.Params l22)
def Ht(aaA:Int)(aE:Ab)(a3:AI)(a5:Int)(a7:Aq)(a8:List Tj)(aA:List Bo):Option ik:=
 (Ae   (D0 aaA aE) (0,a3.Params,a3.Ret,a3.Blocks,a5,a7,aA,a8)).bind λx19=>match x19 with | .inl (l9,i10,l11,i12,l13,l14,l15)=>(Ae   (Cz aaA aE) (0,l9,i10,l11,i12,l13,l14,l15)).bind λx39=>(match x39 with | .inl (l29,i30,l31,i32,l33,l34,l35)=>some (true,⟨l29,i30,l31⟩,i32,l33,l34,l35) | .inr r41=>some r41) | .inr r42=>some r42
theorem Wg(h:Ht v1 v9 v0 v11 v2 v25 v12=some v26):sP 99 [V1,(Z6 v1),(.agg (Bi v9))] [(Z1 v0.Params v0.Ret v0.Blocks v11 v2 9100005 v12),(Mt 37006 146 v12.length),(9100005,.obj (.map true .i64 (Ee (λ(v_:A6)=>((AO v_):AV)) v25)))] (.bool v26.1) [(Z1 v26.2.1.Params v26.2.1.Ret v26.2.1.Blocks v26.2.2.1 v26.2.2.2.1 9100005 v26.2.2.2.2.1),(Mt 37006 146 v26.2.2.2.2.1.length),(9100005,.obj (.map true .i64 (Ee (λ(v_:A6)=>((AO v_):AV)) v26.2.2.2.2.2)))]:=
 sG Tryz.func99 λΓ q=>tW q Qs RJ lV RJ (tL q h lV RJ (λu (i1,l2,i3,l4,i5,l6,l7,l8)=>(Cv u [(16,(Z6 i1))] [(Z1 l2 i3 l4 i5 l6 9100005 l7),(Mt 37006 146 l7.length),(9100005,.obj (.map true .i64 (Ee we l8)))])) (λu x_=>match x_ with|(.inl (l9,i10,l11,i12,l13,l14,l15))=>aG Γ (.exit 0) (N6 Qs RJ u [] [(Z1 l9 i10 l11 i12 l13 9100005 l14),(Mt 37006 146 l14.length),(9100005,.obj (.map true .i64 (Ee we l15)))])|(.inr r_)=>aR (Px Γ v1 v9 v0 v11 v2 v25 v12 r_)) (λ⟨i1,l2,i3,l4,i5,l6,l7,l8⟩ y h=>Af q [0,1,5,14,15,16,17] RJ (gC h (λh=>tV q [0,1,5,8,14,15,16] [5,8,30000,37006,9100005] h λh=>tB h λx17 y17 h=>tB h λx18 y18 h=>tT q [0,1,5,14,15,16,29] RJ [(rB x17),⟨IQ,[],(.bool x18.1),[(Z1 x18.2.1.Params x18.2.1.Ret x18.2.1.Blocks x18.2.2.1 x18.2.2.2.1 9100005 x18.2.2.2.2.1),(Mt 37006 146 x18.2.2.2.2.1.length),(9100005,.obj (.map true .i64 (Ee we x18.2.2.2.2.2)))],[],[]⟩] (c2 (N5 y17) (Rp y18)) (gC h (λh=>Af q [6] Jq (tS h (gO (M8 (Iq IQ (Le.refl _ _)))))) λh=>Af q lV RJ (tN h))) λh=>tS h (gO (A7 (A9 Qs RJ q))))) λx19 h=>(match x19,h with | .inl ⟨l9,i10,l11,i12,l13,l14,l15⟩,h=>gA (Af q lb Jq (tL q h lb Jq (λu (i21,l22,i23,l24,i25,l26,l27,l28)=>(Cv u [(34,(Z6 i21))] [(Z1 l22 i23 l24 i25 l26 9100005 l27),(Mt 37006 146 l27.length),(9100005,.obj (.map true .i64 (Ee we l28)))])) (λu x_=>match x_ with|(.inl (l29,i30,l31,i32,l33,l34,l35))=>aG Γ (.exit 2) (⟨[],[(Z1 l29 i30 l31 i32 l33 9100005 l34),(Mt 37006 146 l34.length),(9100005,.obj (.map true .i64 (Ee we l35)))],[]⟩:St)|(.inr r_)=>aR (Px Γ v1 v9 v0 v11 v2 v25 v12 r_)) (λ⟨i21,l22,i23,l24,i25,l26,l27,l28⟩ y h=>Af q [0,1,32,33,34,35] Jq (gC h (λh=>tV q [0,1,9,10,32,33,34] u1 h λh=>tB h λx37 y37 h=>tT q [0,1,9,10,11,12,32,33,34] u1 [(wl x37.1 x37.2)] (c1 (ap y37)) (tB h λx38 y38 h=>tT q [0,1,32,33,34,58] Jq [⟨IQ,[],(.bool x38.1),[(Z1 x38.2.1.Params x38.2.1.Ret x38.2.1.Blocks x38.2.2.1 x38.2.2.2.1 9100005 x38.2.2.2.2.1),(Mt 37006 146 x38.2.2.2.2.1.length),(9100005,.obj (.map true .i64 (Ee we x38.2.2.2.2.2)))],[],[]⟩] (gI9 (jA x37) (c3 (λ(hg:(jA x37)=true)=>(Rp (Bj hg y38))) (gI (jA x37)) (Nh (decide ((0:Int)<x37.1))))) (Na (Le.trans (Xc (λ(k_:List yj) u=>Cv u [] [(9100005,.obj (.map true .i64 k_))]) (show(bif (jA x37) then(Ee we x38.2.2.2.2.2) else(Ee we l28))=(Ee we (bif (jA x37) then x38.2.2.2.2.2 else l28)) from(rj rfl rfl))) (Le.trans (leB (λg_ u=>(Cv u [] [(30000,.row 75 [(Q88 x37 x38 l22),(zB (jA x37) x38.2.1.Ret i23),(Q90 x37 x38 l24),(zB (jA x37) x38.2.2.1 i25),(Q89 x37 x38 l26),(.omap 9100005),(Z46 g_ x38.2.2.2.2.1 l27)]),(37006,.tok 5 146 (bif g_ then x38.2.2.2.2.1.length else l27.length))])) (λg_ u=>(Cv u [] [(30000,.row 75 [(Q88 x37 x38 l22),(zB (jA x37) x38.2.1.Ret i23),(Q90 x37 x38 l24),(zB (jA x37) x38.2.2.1 i25),(Q89 x37 x38 l26),(.omap 9100005),(AV.list 5 Py default (bif g_ then x38.2.2.2.2.1 else l27) (.own 37006))]),(37006,.tok 5 146 ((bif g_ then x38.2.2.2.2.1 else l27).length))])) (jA x37)) (Le.trans (xc 30000 0 (show AVle (Q88 x37 x38 l22) (AV.list 1 Ak 0 (bif (jA x37) then x38.2.1.Params else l22) .none) from Lj)) (Le.trans (xc 30000 2 (show AVle (Q90 x37 x38 l24) (AV.list 5 Bi default (bif (jA x37) then x38.2.1.Blocks else l24) .none) from Lj)) (xc 30000 4 (show AVle (Q89 x37 x38 l26) (AV.list 1 Ak 0 (bif (jA x37) then x38.2.2.2.1 else l26) .none) from Lj)))))) (gC h (λh=>Af q [6] Jq (tS h (gO (M8 (Iq IQ (Le.refl _ _)))))) λh=>Af q lb Jq (tN h))))) λh=>tS h (gO (A7 (A9 [] Jq q))))) λx39 h=>(match x39,h with | .inl ⟨l29,i30,l31,i32,l33,l34,l35⟩,h=>gA (Af q [6] Jq (tS h (Bx IQ))) | .inr r41,h=>gAr (λst' hk=>tS h (gK hk))))) | .inr r42,h=>gAr (λst' hk=>tS h (gK hk))))
def G3(a3:AI):(Int×List (Int×A6))->Option (LR (Int×List (Int×A6)) (List (Int×A6))):=
 λ(i1,l2)=>bif decide (i1<a3.Params.length) then Ay (As i1 a3.Params.length) ((Et (a3.Params.getD i1.toNat 0)).bind λx5=>some (.next (w64 (i1+1),Qb l2 (w64 (i1+1)) ⟨x5,⟨0,-1⟩⟩))) else some (.done l2)
def Es(a3:AI):(Int×List (Int×A6)×Aq×Int×List Ab×Int×Aq×List Bo)->Option (LR (Int×List (Int×A6)×Aq×Int×List Ab×Int×Aq×List Bo) ((List (Int×A6)×Aq×Int×List Ab×Int×Aq×List Bo) ⊕ (Int×AI×Int×Aq×List Bo×List (Int×A6)))):=
 λ(i8,l9,l10,i11,l12,i13,l14,l15)=>bif decide (i8<a3.Blocks.length) then Ay (As i8 a3.Blocks.length) ((Ht i8 (a3.Blocks.getD i8.toNat default) ⟨l10,i11,l12⟩ i13 l14 l9 l15).bind λx24=>bif !x24.1 then some (.done (.inr (7,x24.2.1,x24.2.2.1,x24.2.2.2.1,x24.2.2.2.2.1,x24.2.2.2.2.2))) else some (.next (w64 (i8+1),x24.2.2.2.2.2,x24.2.1.Params,x24.2.1.Ret,x24.2.1.Blocks,x24.2.2.1,x24.2.2.2.1,x24.2.2.2.2.1))) else some (.done (.inl (l9,l10,i11,l12,i13,l14,l15)))
abbrev yk:=(Int×AI×Int×Aq×List Bo×List (Int×A6))
def Yx(Γ:Ip)(a3:AI)(a5:Int)(a7:Aq)(aA:List Bo)(r:yk):Exit->St->Prop:=fK Tryz.prog Γ Tryz.f62.results.toList (Z3 a3.Params a3.Ret a3.Blocks a5 a7 aA aA.length) (Z6 r.1) [(Z1 r.2.1.Params r.2.1.Ret r.2.1.Blocks r.2.2.1 r.2.2.2.1 9200005 r.2.2.2.2.1),(Mt 37006 146 r.2.2.2.2.1.length),(9200005,.obj (.map false .i64 (Ee (λ(v_:A6)=>((AO v_):AV)) r.2.2.2.2.2)))]
def mH:=(λ(v_:A6)=>((AO v_):AV))
def Q92(l16:List Tj)(l17:Aq)(i18:Int)(l19:List Ab)(i20:Int)(l21:Aq)(l22:List Bo):List NB:=[(8,.obj (.map true .i64 (Ee mH l16))),(Z33 l17 i18 l19 i20 l21 l22),(Mt 37006 146 l22.length)]
def Iz(a3:AI)(a5:Int)(a7:Aq)(aA:List Bo):Option yk:=
 (Ae   (G3 a3) (0,[])).bind λx6=>(Ae   (Es a3) (0,x6,a3.Params,a3.Ret,a3.Blocks,a5,a7,aA)).bind λx25=>match x25 with | .inl (l16,l17,i18,l19,i20,l21,l22)=>some (0,⟨l17,i18,l19⟩,i20,l21,l22,l16) | .inr r27=>some r27
variable{v27:yk}
theorem Yf(h:Iz v0 v1 v2 v12=some v27):sP 62 [V1] (Z3 v0.Params v0.Ret v0.Blocks v1 v2 v12 v12.length) (Z6 v27.1) [(Z1 v27.2.1.Params v27.2.1.Ret v27.2.1.Blocks v27.2.2.1 v27.2.2.2.1 9200005 v27.2.2.2.2.1),(Mt 37006 146 v27.2.2.2.2.1.length),(9200005,.obj (.map false .i64 (Ee (λ(v_:A6)=>((AO v_):AV)) v27.2.2.2.2.2)))]:=
 sG Tryz.func62 λΓ q=>tW q [0] Jw [0] Ti (Na (Xc (λ(k_:List yj) u=>Cv u [] [(8,.obj (.map true .i64 k_))]) (show[]=(Ee mH ([]:List Tj)) from rfl)) (Af q eZ Ti (tL q h eZ Ti (λu (i1,l2)=>(Cv u [(17,(Z6 i1))] [(8,.obj (.map true .i64 (Ee mH l2)))])) (λu l3=>aG Γ (.exit 0) (N6 [0] Ti u [] [(8,.obj (.map true .i64 (Ee mH l3)))])) (λ⟨i1,l2⟩ y h=>Af q [0,15,16,17,18] Ti (gC h (λh=>tV q [0,3,4,15,16,17] Ti h λh=>tB h λx5 y5 h=>tT q eZ Ti [(rB x5)] (c1 (N5 y5)) (Na (Xc (λ(k_:List yj) u=>Cv u [] [(8,.obj (.map true .i64 k_))]) (show(Qb (Ee mH l2) (w64 (i1+1)) (.agg [(Z6 x5.1),(Z6 x5.2),Js,(.int .i64 (-1:Int))]))=(Ee mH (Qb l2 (w64 (i1+1)) (⟨x5,(⟨(0:Int),(-1:Int)⟩:Sd)⟩:A6))) from(mz (f:=mH) (l:=l2) (v:=(⟨x5,(⟨(0:Int),(-1:Int)⟩:Sd)⟩:A6)) rfl rfl))) (Af q eZ Ti (tN h)))) λh=>tS h (gO (A7 (A9 [0] Ti q))))) λx6 h=>gA (Af q lq Ti (tL q h lq Ti (λu (i8,l9,l10,i11,l12,i13,l14,l15)=>(Cv u [(39,(Z6 i8))] [(8,.obj (.map true .i64 (Ee mH l9))),(Z33 l10 i11 l12 i13 l14 l15),(Mt 37006 146 l15.length)])) (λu x_=>match x_ with|(.inl (l16,l17,i18,l19,i20,l21,l22))=>aG Γ (.exit 2) (⟨[],(Q92 l16 l17 i18 l19 i20 l21 l22),[]⟩:St)|(.inr r_)=>aR (Yx Γ v0 v1 v2 v12 r_)) (λ⟨i8,l9,l10,i11,l12,i13,l14,l15⟩ y h=>Af q [0,37,38,39,40] Ti (gC h (λh=>tV q [0,5,6,37,38,39] [6,8,30000,37006] h λh=>tB h λx24 y24 h=>tT q [0,37,38,39,48] Ti [⟨[(30000,30000),(37006,37006),(8,9100005)],[],(.bool x24.1),[(Z1 x24.2.1.Params x24.2.1.Ret x24.2.1.Blocks x24.2.2.1 x24.2.2.2.1 9100005 x24.2.2.2.2.1),(Mt 37006 146 x24.2.2.2.2.1.length),(9100005,.obj (.map true .i64 (Ee mH x24.2.2.2.2.2)))],[],[]⟩] (c1 (Wg y24)) (gC h (λh=>Af q [2] Ti (Qu (⟨[(2,(.int .i64 (7:Int)))],[(8,.obj (.map true .i64 (Ee mH x24.2.2.2.2.2))),(Z33 x24.2.1.Params x24.2.1.Ret x24.2.1.Blocks x24.2.2.1 x24.2.2.2.1 x24.2.2.2.2.1),(Mt 37006 146 x24.2.2.2.2.1.length)],[]⟩:St) (tS h (gO (M8 (Iq un (Le.trans (sk (nm:=8) (.map false .i64 (Ee mH x24.2.2.2.2.2)) rfl (λ_ _ _ _ h_=>gw h_)) (A9 (st':=⟨[(2,(.int .i64 (7:Int)))],[(8,.obj (.map false .i64 (Ee mH x24.2.2.2.2.2))),(Z33 x24.2.1.Params x24.2.1.Ret x24.2.1.Blocks x24.2.2.1 x24.2.2.2.1 x24.2.2.2.2.1),(Mt 37006 146 x24.2.2.2.2.1.length)],[]⟩) [2] Ti q)))))))) λh=>Af q lq Ti (tN h))) λh=>tS h (gO (A7 (A9 [] Ti q))))) λx25 h=>(match x25,h with | .inl ⟨l16,l17,i18,l19,i20,l21,l22⟩,h=>gA (Af q [2] Ti (Qu (⟨[(2,Js)],(Q92 l16 l17 i18 l19 i20 l21 l22),[]⟩:St) (tS h (gK (e:=.ret) (Iq un (Le.trans (sk (nm:=8) (.map false .i64 (Ee mH l16)) rfl (λ_ _ _ _ h_=>gw h_)) (A9 (st':=⟨[(2,Js)],[(8,.obj (.map false .i64 (Ee mH l16))),(Z33 l17 i18 l19 i20 l21 l22),(Mt 37006 146 l22.length)],[]⟩) [2] Ti q))))))) | .inr r27,h=>gAr (λst' hk=>tS h (gK hk))))))))
abbrev Aff:=(Sd×AI×Int×Aq×List Bo)
def Hi(aaA:Int)(a3:AI)(a5:Int)(a7:Aq)(a8:List Tj)(aA:List Bo):Option Aff:=
 Ay (As aaA a3.Blocks.length) (some (⟨aaA,(a3.Blocks.getD aaA.toNat default).Ops.length⟩,a3,a5,a7,aA))
variable{v28:Aff}
theorem Pe(h:Hi v1 v0 v11 v2 v25 v12=some v28):sP 137 [V1,(Z6 v1)] [(Z1 v0.Params v0.Ret v0.Blocks v11 v2 9100005 v12),(Mt 37006 146 v12.length),(9100005,.obj (.map false .i64 (Ee (λ(v_:A6)=>((AO v_):AV)) v25)))] (.agg (SN v28.1)) [(Z1 v28.2.1.Params v28.2.1.Ret v28.2.1.Blocks v28.2.2.1 v28.2.2.2.1 9100005 v28.2.2.2.2),(Mt 37006 146 v28.2.2.2.2.length),(9100005,.obj (.map false .i64 (Ee (λ(v_:A6)=>((AO v_):AV)) v25)))]:=
 sG Tryz.func137 λΓ q=>Af q [0,1,4] u4 (tV q [4] u4 h λh=>tS h (Bx IQ))
abbrev yl:=(AI×Int×Aq×List Bo)
def Fe(aK:Int)(aaC:Oj)(aL:Sd)(a3:AI)(a5:Int)(a7:Aq)(a8:List Tj)(aA:List Bo):Option yl:=
 Ay (aA.length+[(⟨aK,aaC,aL⟩:Bo)].length<=room) (some (a3,a5,a7,aA++[⟨aK,aaC,aL⟩]))
variable{v29:yl}
theorem Mb(h:Fe v1 v19 v24 v0 v11 v2 v25 v12=some v29):sP 136 [V1,(Z6 v1),(.agg (B5 v19)),(.agg (SN v24))] [(Z1 v0.Params v0.Ret v0.Blocks v11 v2 9100005 v12),(Mt 37006 146 v12.length),(9100005,.obj (.map false .i64 (Ee (λ(v_:A6)=>((AO v_):AV)) v25)))] (.tuple []) [(Z1 v29.1.Params v29.1.Ret v29.1.Blocks v29.2.1 v29.2.2.1 9100005 v29.2.2.2),(Mt 37006 146 v29.2.2.2.length),(9100005,.obj (.map false .i64 (Ee (λ(v_:A6)=>((AO v_):AV)) v25)))]:=
 sG Tryz.func136 λΓ q=>Af q YF nr (tC h λc1_ h=>gR q [] Jq [(17,(AV.list 5 Py default ([(⟨v1,v19,v24⟩:Bo)]:List Bo) .exact)),(18,(AV.list 5 Py default (v12++([(⟨v1,v19,v24⟩:Bo)]:List Bo)) (.own 37006)))] [] (c5 (Au 5 Py (default:Bo) ([(⟨v1,v19,v24⟩:Bo)]:List Bo)) (Eq.refl v12.length) c1_ (Cm 5 37006 Py (default:Bo) v12 ([(⟨v1,v19,v24⟩:Bo)]:List Bo)) (Bm v12 ([(⟨v1,v19,v24⟩:Bo)]:List Bo))) (tS h (gK (e:=.normal) (Iq IQ (Le.refl _ _)))))
def Q93:List LB:=[(2,Z49)]
def Sx(a2:A0):Option uh:=
 (T3 a2).bind λx1=>bif !x1 then some [] else(S6 a2).bind λx2=>some x2
theorem ar(h:Sx v6=some v21):sP 138 [(ZF v6)] [] (Z9 v21) []:=
 sG Tryz.func138 λΓ q=>gR q [1] [1] Q93 [] (c1 (Bp 2 B5 ((0:Int),(0:Int)))) (tB h λx1 y1 h=>tT q [1,5] [1] [(Z7 x1)] (c1 (FX y1)) (gC h (λh=>gR q [2] [] Q93 [] (c1 (Bp 2 B5 ((0:Int),(0:Int)))) (Qu (⟨Q93,[],[]⟩:St) (tS h (gK (e:=.ret) (Iq [] (show Le Γ _ (⟨[(2,(AV.list 2 B5 ((0:Int),(0:Int)) ([]:List Oj) .none))],[],[]⟩:St) from Le.trans (A9 (st':=⟨Q93,[],[]⟩) [2] [] q) (Fb (.cons AVle.untag .nil) .nil))))))) λh=>tB h λx2 y2 h=>tT q [2] [] [(oV x2)] (c1 (JB y2)) (tS h (Bx []))))
abbrev ui:=(LR (Int×Aq×Int×List Ab×Int×Aq×List Bo) (Aq×Int×List Ab×Int×Aq×List Bo))
def Em(a3:AI)(a8:List Tj)(i1:Int)(i21:Int):PB->Option ui:=
 λ(i35,l36,i37,l38,i39,l40,l41)=>bif decide (i35<((a3.Blocks.getD i1.toNat default).Phis.getD i21.toNat default).Args.length) then Ay (As i35 ((a3.Blocks.getD i1.toNat default).Phis.getD i21.toNat default).Args.length) ((Et ((a3.Blocks.getD i1.toNat default).Phis.getD i21.toNat default).Bits).bind λx49=>Ay (As i35 ((a3.Blocks.getD i1.toNat default).Phis.getD i21.toNat default).From.length) ((Hi (((a3.Blocks.getD i1.toNat default).Phis.getD i21.toNat default).From.getD i35.toNat 0) ⟨l36,i37,l38⟩ i39 l40 a8 l41).bind λx51=>(Fe (((a3.Blocks.getD i1.toNat default).Phis.getD i21.toNat default).Args.getD i35.toNat 0) x49 x51.1 x51.2.1 x51.2.2.1 x51.2.2.2.1 a8 x51.2.2.2.2).bind λx52=>some (.next (w64 (i35+1),x52.1.Params,x52.1.Ret,x52.1.Blocks,x52.2.1,x52.2.2.1,x52.2.2.2)))) else some (.done (l36,i37,l38,i39,l40,l41))
def En(a3:AI)(a8:List Tj)(i1:Int):PB->Option ui:=
 λ(i21,l22,i23,l24,i25,l26,l27)=>bif decide (i21<(a3.Blocks.getD i1.toNat default).Phis.length) then Ay (As i21 (a3.Blocks.getD i1.toNat default).Phis.length) ((Ae   (Em a3 a8 i1 i21) (0,l22,i23,l24,i25,l26,l27)).bind λx53=>match x53 with|(l42,i43,l44,i45,l46,l47)=>some (.next (w64 (i21+1),l42,i43,l44,i45,l46,l47))) else some (.done (l22,i23,l24,i25,l26,l27))
def Eo(a3:AI)(a8:List Tj)(i1:Int)(i57:Int)(x71:List PA):PB->Option ui:=
 λ(i72,l73,i74,l75,i76,l77,l78)=>bif decide (i72<x71.length) then Ay (As i72 x71.length) (Ay (As i72 ((a3.Blocks.getD i1.toNat default).Ops.getD i57.toNat default).Args.length) ((Fe (((a3.Blocks.getD i1.toNat default).Ops.getD i57.toNat default).Args.getD i72.toNat 0) (x71.getD i72.toNat (0,0)) ⟨i1,i57⟩ ⟨l73,i74,l75⟩ i76 l77 a8 l78).bind λx87=>some (.next (w64 (i72+1),x87.1.Params,x87.1.Ret,x87.1.Blocks,x87.2.1,x87.2.2.1,x87.2.2.2)))) else some (.done (l73,i74,l75,i76,l77,l78))
def Ep(a3:AI)(a8:List Tj)(i1:Int):PB->Option ui:=
 λ(i57,l58,i59,l60,i61,l62,l63)=>bif decide (i57<(a3.Blocks.getD i1.toNat default).Ops.length) then Ay (As i57 (a3.Blocks.getD i1.toNat default).Ops.length) ((Sx ((a3.Blocks.getD i1.toNat default).Ops.getD i57.toNat default)).bind λx71=>(Ae   (Eo a3 a8 i1 i57 x71) (0,l58,i59,l60,i61,l62,l63)).bind λx88=>match x88 with|(l79,i80,l81,i82,l83,l84)=>some (.next (w64 (i57+1),l79,i80,l81,i82,l83,l84))) else some (.done (l58,i59,l60,i61,l62,l63))
def Er(a3:AI)(a8:List Tj):PB->Option ui:=
 λ(i1,l2,i3,l4,i5,l6,l7)=>bif decide (i1<a3.Blocks.length) then Option.bind  (Ay (As i1 a3.Blocks.length) ((Ae   (En a3 a8 i1) (0,l2,i3,l4,i5,l6,l7)).bind λx55=>match x55 with|(l28,i29,l30,i31,l32,l33)=>(Ae   (Ep a3 a8 i1) (0,l28,i29,l30,i31,l32,l33)).bind λx90=>match x90 with|(l64,i65,l66,i67,l68,l69)=>bif (a3.Blocks.getD i1.toNat default).End.Kind==0 then(Et i65).bind λx92=>(Hi i1 ⟨l64,i65,l66⟩ i67 l68 a8 l69).bind λx93=>(Fe (a3.Blocks.getD i1.toNat default).End.Arg x92 x93.1 x93.2.1 x93.2.2.1 x93.2.2.2.1 a8 x93.2.2.2.2).bind λx94=>some (x94.1.Params,x94.1.Ret,x94.1.Blocks,x94.2.1,x94.2.2.1,x94.2.2.2) else bif (a3.Blocks.getD i1.toNat default).End.Kind==2 then(Et 1).bind λx95=>(Hi i1 ⟨l64,i65,l66⟩ i67 l68 a8 l69).bind λx96=>(Fe (a3.Blocks.getD i1.toNat default).End.Arg x95 x96.1 x96.2.1 x96.2.2.1 x96.2.2.2.1 a8 x96.2.2.2.2).bind λx97=>some (x97.1.Params,x97.1.Ret,x97.1.Blocks,x97.2.1,x97.2.2.1,x97.2.2.2) else some (l64,i65,l66,i67,l68,l69))) λx98=>match x98 with|(l14,i15,l16,i17,l18,l19)=>some (.next (w64 (i1+1),l14,i15,l16,i17,l18,l19)) else some (.done (l2,i3,l4,i5,l6,l7))
def Q95(a3:AI)(i1:Int):=(a3.Blocks.getD i1.toNat default)
def yx(a8:List Tj):=(Ee (λ(v_:A6)=>((AO v_):AV)) a8)
def Iy(a3:AI)(a5:Int)(a7:Aq)(a8:List Tj)(aA:List Bo):Option yl:=
 (Ae   (Er a3 a8) (0,a3.Params,a3.Ret,a3.Blocks,a5,a7,aA)).bind λx100=>match x100 with|(l8,i9,l10,i11,l12,l13)=>some (⟨l8,i9,l10⟩,i11,l12,l13)
theorem Ye(h:Iy v0 v1 v2 v25 v12=some v29):sP 100 [V1] [(Z1 v0.Params v0.Ret v0.Blocks v1 v2 9100005 v12),(Mt 37006 146 v12.length),(9100005,.obj (.map false .i64 (Ee (λ(v_:A6)=>((AO v_):AV)) v25)))] (.tuple []) [(Z1 v29.1.Params v29.1.Ret v29.1.Blocks v29.2.1 v29.2.2.1 9100005 v29.2.2.2),(Mt 37006 146 v29.2.2.2.length),(9100005,.obj (.map false .i64 (Ee (λ(v_:A6)=>((AO v_):AV)) v25)))]:=
 sG Tryz.func100 λΓ q=>Af q PO Jq (tL q h PO Jq (λu (i1,l2,i3,l4,i5,l6,l7)=>(Cv u [(18,(Z6 i1))] (cw l2 i3 l4 i5 l6 l7 l7.length))) (λu (l8,i9,l10,i11,l12,l13)=>aG Γ (.exit 0) (N6 [] Jq u [] (cw l8 i9 l10 i11 l12 l13 l13.length))) (λ⟨i1,l2,i3,l4,i5,l6,l7⟩ y h=>Af q [0,16,17,18,19] Jq (gC h (λh=>tB h λx98 y98 h=>gJ y98 (λ(l14,i15,l16,i17,l18,l19)=>aG Γ .normal (⟨[(0,V1),(16,(TH v0.Blocks)),(17,(HE v0.Blocks.length)),(18,(Z6 i1))],(Z11 l14 i15 l16 i17 l18 l19 l19.length (yx v25)),[]⟩:St)) (λy h=>tV q XK Vc h λh=>Af q iq Vc (tL q h iq Vc (λu (i21,l22,i23,l24,i25,l26,l27)=>(Cv u [(26,(Z6 i21))] (cw l22 i23 l24 i25 l26 l27 l27.length))) (λu (l28,i29,l30,i31,l32,l33)=>aG Γ (.exit 2) (N6 XK Vc u [] (cw l28 i29 l30 i31 l32 l33 l33.length))) (λ⟨i21,l22,i23,l24,i25,l26,l27⟩ y h=>Af q [0,2,3,16,17,18,24,25,26,27] Vc (gC h (λh=>tV q [0,2,3,5,16,17,18,24,25,26] NF h λh=>Af q nh NF (tL q h nh NF (λu (i35,l36,i37,l38,i39,l40,l41)=>(Cv u [(33,(Z6 i35))] (cw l36 i37 l38 i39 l40 l41 l41.length))) (λu (l42,i43,l44,i45,l46,l47)=>aG Γ (.exit 4) (N6 iq Vc u [] (cw l42 i43 l44 i45 l46 l47 l47.length))) (λ⟨i35,l36,i37,l38,i39,l40,l41⟩ y h=>Af q [0,2,3,5,16,17,18,24,25,26,31,32,33,34] NF (gC h (λh=>tV q [0,2,3,5,6,7,16,17,18,24,25,26,31,32,33] NF h λh=>tB h λx49 y49 h=>tC h λc50_ h=>tB h λx51 y51 h=>tB h λx52 y52 h=>tT q nh NF [(rB x49),(Z76 x51.1 x51.2.1.Params x51.2.1.Ret x51.2.1.Blocks x51.2.2.1 x51.2.2.2.1 x51.2.2.2.2 x51.2.2.2.2.length (yx v25)),(Z37 x52.1.Params x52.1.Ret x52.1.Blocks x52.2.1 x52.2.2.1 x52.2.2.2 x52.2.2.2.length (yx v25))] (c4 (N5 y49) c50_ (Pe y51) (Mb y52)) (Af q nh NF (tN h))) λh=>tS h (gO (A7 (A9 iq Vc q))))) λx53 h=>(match x53,h with|⟨l42,i43,l44,i45,l46,l47⟩,h=>gA (Af q iq Vc (tN h))))) λh=>tS h (gO (A7 (A9 XK Vc q))))) λx55 h=>(match x55,h with|⟨l28,i29,l30,i31,l32,l33⟩,h=>gA (Af q ir Vc (tL q h ir Vc (λu (i57,l58,i59,l60,i61,l62,l63)=>(Cv u [(56,(Z6 i57))] (cw l58 i59 l60 i61 l62 l63 l63.length))) (λu (l64,i65,l66,i67,l68,l69)=>aG Γ (.exit 6) (N6 XK Vc u [] (cw l64 i65 l66 i67 l68 l69 l69.length))) (λ⟨i57,l58,i59,l60,i61,l62,l63⟩ y h=>Af q [0,2,3,16,17,18,54,55,56,57] Vc (gC h (λh=>tV q [0,2,3,8,9,16,17,18,54,55,56] cV h λh=>tB h λx71 y71 h=>tT q ng cV [(oV x71)] (c1 (ar y71)) (tL q h ng cV (λu (i72,l73,i74,l75,i76,l77,l78)=>(Cv u [(64,(Z6 i72))] (cw l73 i74 l75 i76 l77 l78 l78.length))) (λu (l79,i80,l81,i82,l83,l84)=>aG Γ (.exit 8) (N6 ir Vc u [] (cw l79 i80 l81 i82 l83 l84 l84.length))) (λ⟨i72,l73,i74,l75,i76,l77,l78⟩ y h=>Af q [0,2,3,8,9,16,17,18,54,55,56,62,63,64,65] cV (gC h (λh=>tV q [0,2,3,8,9,10,11,16,17,18,54,55,56,62,63,64] [3,9,11,30000,37006,9100005] h λh=>tC h λc86_ h=>tB h λx87 y87 h=>tT q ng cV [(Z37 x87.1.Params x87.1.Ret x87.1.Blocks x87.2.1 x87.2.2.1 x87.2.2.2 x87.2.2.2.length (yx v25))] (c2 c86_ (Mb y87)) (Af q ng cV (tN h))) λh=>tS h (gO (A7 (A9 ir Vc q))))) λx88 h=>(match x88,h with|⟨l79,i80,l81,i82,l83,l84⟩,h=>gA (Af q ir Vc (tN h))))) λh=>tS h (gO (A7 (A9 XK Vc q))))) λx90 h=>(match x90,h with|⟨l64,i65,l66,i67,l68,l69⟩,h=>gA (tW q [0,2,3,16,17,18,84] Vc [0,2,3,16,17,18,84,85] Vc (gC h (λh=>tB h λx92 y92 h=>tB h λx93 y93 h=>tB h λx94 y94 h=>tT q PO Jq [(rB x92),(Z76 x93.1 x93.2.1.Params x93.2.1.Ret x93.2.1.Blocks x93.2.2.1 x93.2.2.2.1 x93.2.2.2.2 x93.2.2.2.2.length (yx v25)),(Z37 x94.1.Params x94.1.Ret x94.1.Blocks x94.2.1 x94.2.2.1 x94.2.2.2 x94.2.2.2.length (yx v25))] (c3 (N5 y92) (Pe y93) (Mb y94)) (tS h (gK (A7 Gy)))) λh=>Af q [0,2,3,16,17,18,101] Vc (gC h (λh=>tB h λx95 y95 h=>tB h λx96 y96 h=>tB h λx97 y97 h=>tT q PO Jq [(rB x95),(Z76 x96.1 x96.2.1.Params x96.2.1.Ret x96.2.1.Blocks x96.2.2.1 x96.2.2.2.1 x96.2.2.2.2 x96.2.2.2.2.length (yx v25)),(Z37 x97.1.Params x97.1.Ret x97.1.Blocks x97.2.1 x97.2.2.1 x97.2.2.2 x97.2.2.2.length (yx v25))] (c3 (N5 y95) (Pe y96) (Mb y97)) (tS h (gK (A7 Gy)))) λh=>tS h (gK (A7 (A9 PO Jq q)))))))))))) (match x98,h with|⟨l14,i15,l16,i17,l18,l19⟩,h=>gA (Af q PO Jq (tN h)))) λh=>tS h (gO (A7 (A9 [] Jq q))))) λx100 h=>(match x100,h with|⟨l8,i9,l10,i11,l12,l13⟩,h=>pD (λst' hl101=>tS h (gK (e:=.normal) (Iq IQ hl101)))))
def M2(aX:Bo)(a3:AI)(a5:Int)(a7:Aq)(a8:List Tj)(aA:List Bo):Option GM:=
 some (Lb a8 aX.v,a3,a5,a7,aA)
variable{v30:Bo}
theorem Yh(h:M2 v30 v0 v1 v2 v25 v12=some v23):sP 101 [V1,(.agg (Py v30))] [(Z1 v0.Params v0.Ret v0.Blocks v1 v2 9100005 v12),(Mt 37006 146 v12.length),(9100005,.obj (.map false .i64 (Ee (λ(v_:A6)=>((AO v_):AV)) v25)))] (.bool v23.1) [(Z1 v23.2.1.Params v23.2.1.Ret v23.2.1.Blocks v23.2.2.1 v23.2.2.2.1 9100005 v23.2.2.2.2),(Mt 37006 146 v23.2.2.2.2.length),(9100005,.obj (.map false .i64 (Ee (λ(v_:A6)=>((AO v_):AV)) v25)))]:=
 sG Tryz.func101 λΓ q=>Af q Nu Vc (gR q [6] Jq [(14,(.tuple [(y0 v25 v30.v),(.bool (Lb v25 v30.v))]))] [] (c1 (show(AVle (.tuple [Nm (.agg [Js,Js,Js,Js]) (Ee (λ(v_:A6)=>((AO v_):AV)) v25) v30.v,.bool (Lb (Ee (λ(v_:A6)=>((AO v_):AV)) v25) v30.v)]) (.tuple [(y0 v25 v30.v),(.bool (Lb v25 v30.v))])) from(gt (f:=(λ(v_:A6)=>((AO v_):AV))) (l:=v25) (AVle.refl _) rfl))) (Af q [4] Jq (tS h (Bx IQ))))
def O6(aX:Bo)(a3:AI)(a5:Int)(a7:Aq)(a8:List Tj)(aA:List Bo):Option GM:=
 some ((Nm default a8 aX.v).shape.1==aX.shape.1&&((Nm default a8 aX.v).shape.2==aX.shape.2&&true),a3,a5,a7,aA)
theorem DQ(h:O6 v30 v0 v1 v2 v25 v12=some v23):sP 102 [V1,(.agg (Py v30))] [(Z1 v0.Params v0.Ret v0.Blocks v1 v2 9100005 v12),(Mt 37006 146 v12.length),(9100005,.obj (.map false .i64 (Ee (λ(v_:A6)=>((AO v_):AV)) v25)))] (.bool v23.1) [(Z1 v23.2.1.Params v23.2.1.Ret v23.2.1.Blocks v23.2.2.1 v23.2.2.2.1 9100005 v23.2.2.2.2),(Mt 37006 146 v23.2.2.2.2.length),(9100005,.obj (.map false .i64 (Ee (λ(v_:A6)=>((AO v_):AV)) v25)))]:=
 sG Tryz.func102 λΓ q=>Af q Nu Vc (gR q [4] Jq [(11,(y0 v25 v30.v))] [] (c1 (show(AVle (Nm (.agg [Js,Js,Js,Js]) (Ee (λ(v_:A6)=>((AO v_):AV)) v25) v30.v) (y0 v25 v30.v)) from(dW (f:=(λ(v_:A6)=>((AO v_):AV))) (l:=v25) (AVle.refl _) rfl))) (tS h (Bx IQ)))
def Cx(aM:Aq)(aK:Int):Int->Option (LR Int (Unit ⊕ Int)):=
 λi1=>bif decide (i1<aM.length) then Ay (As i1 aM.length) (bif aK==aM.getD i1.toNat 0 then some (.done (.inr i1)) else some (.next (w64 (i1+1)))) else some (.done (.inl ()))
def AK(Γ:Ip)(aM:Aq)(aK:Int)(r:Int):Exit->St->Prop:=fK Tryz.prog Γ Tryz.f142.results.toList [] (.int .i64 r) []
def E7(aM:Aq)(aK:Int):Option Int:=
 (Ae   (Cx aM aK) 0).bind λx3=>match x3 with | .inl _=>some (-1) | .inr r5=>some r5
theorem Rr(h:E7 v2 v1=some v11):sP 142 [(Z8 v2),(Z6 v1)] [] (.int .i64 v11) []:=
 sG Tryz.func142 λΓ q=>tW q Gu [] CH [] (tL q h CH [] (λu i1=>(Cv u [(8,(Z6 i1))] [])) (λu x_=>match x_ with|(.inl _)=>aG Γ (.exit 0) (⟨[],[],[]⟩:St)|(.inr r_)=>aR (AK Γ v2 v1 r_)) (λi1 y h=>Af q lr [] (gC h (λh=>Af q ls [] (tV q lY [] h λh=>gC h (λh=>Af q [4] [] (tS h (gO (M8 (Iq [] (Le.refl _ _)))))) λh=>Af q CH [] (tN h))) λh=>tS h (gO (A7 (A9 [] [] q))))) λx3 h=>(match x3,h with | .inl _,h=>gA (Af q [4] [] (tS h (Bx []))) | .inr r5,h=>gAr (λst' hk=>tS h (gK hk))))
def Oc(a9:Aq)(aL:Int):Option Bool:=
 some (bif decide (0<=aL) then decide (aL<a9.length) else false)
theorem FR(h:Oc v2 v1=some v3):sP 195 [(Z8 v2),(Z6 v1)] [] (.bool v3) []:=
 sG Tryz.func195 λΓ q=>Af q Gu [] (tU q [4] [] (Sn ((decide ((0:Int)<=v1))==true) (c1 (Nh (decide ((0:Int)<=v1))))) (tS h (Bx [])))
def D1(a9:Aq)(aaG:Int)(aa9:Int):lD->Option (LR (Int×Aq) (Aq ⊕ (Bool×Aq))):=
 λ(i1,l2)=>bif i1 !=aa9 then Ay (As i1 l2.length) (bif l2.getD i1.toNat 0 !=0 then Ay (As i1 l2.length) (some (.done (.inr (l2.getD i1.toNat 0 !=w64 (aaG+1),l2)))) else Ay (As i1 a9.length) ((Oc a9 (a9.getD i1.toNat 0)).bind λx7=>bif !x7 then some (.done (.inr (false,l2))) else Ay (As i1 l2.length) (Ay (As i1 a9.length) (some (.next (a9.getD i1.toNat 0,l2.set i1.toNat (w64 (aaG+1)))))))) else some (.done (.inl l2))
def fC(Γ:Ip)(a9:Aq)(aaS:Aq)(aaG:Int)(aa9:Int)(r:(Bool×Aq)):Exit->St->Prop:=fK Tryz.prog Γ Tryz.f194.results.toList [(Z4 34001 aaS)] (.bool r.1) [(Z4 34001 r.2)]
def Xq(a9:Aq)(aaS:Aq)(aaG:Int)(aa9:Int):Option (Bool×Aq):=
 (Ae   (D1 a9 aaG aa9) (aaG,aaS)).bind λx10=>match x10 with | .inl l3=>some (true,l3) | .inr r12=>some r12
variable{v31:(Bool×Aq)}
theorem db(h:Xq v2 v17 v1 v11=some v31):sP 194 [(Z8 v2),(.vsl 34001 v17.length),(Z6 v1),(Z6 v11)] [(Z4 34001 v17)] (.bool v31.1) [(Z4 34001 v31.2)]:=
 sG Tryz.func194 λΓ q=>tW q [0,1,2,3] [34001] [0,1,2,3,9] [34001] (Af q eV [34001] (tL q h eV [34001] (λu (i1,l2)=>(Cv u [(1,(.vsl 34001 l2.length)),(10,(Z6 i1))] [(Z4 34001 l2)])) (λu x_=>match x_ with|(.inl l3)=>aG Γ (.exit 0) (⟨[],[(Z4 34001 l3)],[]⟩:St)|(.inr r_)=>aR (fC Γ v2 v17 v1 v11 r_)) (λ⟨i1,l2⟩ y h=>Af q [0,1,3,9,10,16] [34001] (gC h (λh=>tC h λc4_ h=>tU q [0,1,3,9,10,25] [34001] (c2 c4_ (Eq.refl l2.length)) (gC h (λh=>tC h λc5_ h=>tU q [8] [34001] (c2 c5_ (Eq.refl l2.length)) (tS h (gO (M8 (Iq lj (Le.refl _ _)))))) λh=>tC h λc6_ h=>tB h λx7 y7 h=>tT q [0,1,3,9,10,38] [34001] [(Z7 x7)] (c2 c6_ (FR y7)) (gC h (λh=>Af q [8] [34001] (tS h (gO (M8 (Iq lj (Le.refl _ _)))))) λh=>tC h λc8_ h=>tU q eV [34001] (c2 c8_ (Eq.refl l2.length)) (Na (Le.trans (Xb 34001 (show ∀ k_,k_<l2.length->AVleL ((λi_=>AV.eraseAll (λn_=>Ce n_ [34001]) ((F4 (λi=>Ak (l2.getD i 0)) i1.toNat 0 [(.int .i64 (w64 (v1+1)))]) i_)) k_) ((λi=>Ak ((l2.set i1.toNat (w64 (v1+1))).getD i 0)) k_) from(Bs (Ek ..).symm (λk_ hk_=>(Bw (AV.eraseAll (λn_=>Ce n_ [34001])) ((H6 (λ_ _=>rfl) (Kr c8_) rfl) k_ hk_)).trans rfl)))) (Xc (λ(k_:Nat) u=>(Cv u [(1,(.vsl 34001 k_))] [(34001,.arr 1 3 k_ (λi=>Ak ((l2.set i1.toNat (w64 (v1+1))).getD i 0)))])) (show l2.length=(l2.set i1.toNat (w64 (v1+1))).length from(Ek ..).symm))) (tV q eV [34001] h λh=>tN h))))) λh=>tS h (gO (A7 (A9 [] [34001] q))))) λx10 h=>(match x10,h with | .inl l3,h=>gA (Af q [8] [34001] (tS h (Bx lj))) | .inr r12,h=>gAr (λst' hk=>tS h (gK hk)))))
def Hn(a9:Aq)(x1:Int):lD->Option (LR (Int×Aq) (Unit ⊕ Bool)):=
 λ(i3,l4)=>bif decide (i3<a9.length) then Ay (As i3 a9.length) ((bif (a9.getD i3.toNat 0 !=-2)==true then Xq a9 l4 i3 x1 else some (false,[])).bind λx6=>Ay (((a9.getD i3.toNat 0 !=-2)==true)=true->l4.length=x6.2.length) (bif bif a9.getD i3.toNat 0 !=-2 then !x6.1 else false then some (.done (.inr false)) else some (.next (w64 (i3+1),bif (a9.getD i3.toNat 0 !=-2)==true then x6.2 else l4)))) else some (.done (.inl ()))
def cd(Γ:Ip)(a9:Aq)(r:Bool):Exit->St->Prop:=fK Tryz.prog Γ Tryz.f182.results.toList [] (.bool r) []
def vK(a9:Aq)(i3:Int):=(((a9.getD i3.toNat 0)!=-2)==true)
def Vq(a9:Aq):Option Bool:=
 (E7 a9 (-1)).bind λx1=>bif decide (x1<0) then some false else Ay (0<=(a9.length:Int)/\(a9.length:Int)<=a9.length/\a9.length<=(room:Int)) ((Ae   (Hn a9 x1) (0,List.replicate (a9.length:Int).toNat 0)).bind λx8=>match x8 with | .inl _=>some true | .inr r10=>some r10)
theorem ak(h:Vq v2=some v3):sP 182 [(Z8 v2)] [] (.bool v3) []:=
 sG Tryz.func182 λΓ q=>Af q [0] [] (tB h λx1 y1 h=>tT q Nu [] [(DM x1)] (c1 (Rr y1)) (Af q [0,3,9] [] (gC h (λh=>Af q [2] [] (tS h (Bx []))) λh=>tV q Vb [12] h λh=>by exact Na (Le.trans (Xb 12 (show ∀ k_,k_<((v2.length:Int).toNat)->AVleL ((λi_=>AV.eraseAll (λn_=>Ce n_ [12]) ((λ_=>[Js]) i_)) k_) ((λi=>Ak ((List.replicate (v2.length:Int).toNat (0:Int)).getD i 0)) k_) from(λk hk=>S7 (e:=Ak) (d:=(0:Int)) (.cR .nil) _ k (Tc hk)))) (Xc (λ(k_:Nat) u=>(Cv u [(4,(.vsl 12 k_))] [(12,.arr 1 3 k_ (λi=>Ak ((List.replicate (v2.length:Int).toNat (0:Int)).getD i 0)))])) (show(v2.length:Int).toNat=(List.replicate (v2.length:Int).toNat (0:Int)).length from(Vh ..).symm))) (Af q lh [12] (tL q h lh [12] (λu (i3,l4)=>(Cv u [(4,(.vsl 12 l4.length)),(15,(Z6 i3))] [(Z4 12 l4)])) (λu x_=>match x_ with|(.inl _)=>aG Γ (.exit 0) (⟨[],[],[]⟩:St)|(.inr r_)=>aR (cd Γ v2 r_)) (λ⟨i3,l4⟩ y h=>Af q [0,3,4,14,15,16] [12] (gC h (λh=>Af q [0,3,4,5,14,15] [12] (tC h λc5_ h=>tB h λx6 y6 h=>tC h λc7_ h=>tT q [0,3,4,14,15,30] [12] [⟨[(12,34001)],[],(.bool x6.1),[(Z4 34001 x6.2)],[],[]⟩] (ci c5_ (bW (vK v2 i3) (c3 (λ(hg:(vK v2 i3)=true)=>(db (Bj hg y6))) (gI (vK v2 i3)) (Nh ((v2.getD i3.toNat 0)!=-2))))) (Na (Le.trans (Xb 12 (show ∀ k_,k_<(bif (vK v2 i3) then x6.2.length else l4.length)->AVleL ((λi_=>AV.eraseAll (λn_=>Ce n_ [12]) ((λi=>bif (vK v2 i3) then(λi=>Ak (x6.2.getD i 0)) i else(λi=>Ak (l4.getD i 0)) i) i_)) k_) ((λi=>Ak ((bif (vK v2 i3) then x6.2 else l4).getD i 0)) k_) from(Bs mQ (λk_ hk_=>(Bw (AV.eraseAll (λn_=>Ce n_ [12])) ((λ_ _=>wz) k_ hk_)).trans rfl)))) (Le.trans (Xc (λ(k_:Nat) u=>(Cv u [] [(12,.arr 1 3 k_ (λi=>Ak ((bif (vK v2 i3) then x6.2 else l4).getD i 0)))])) (show(bif (vK v2 i3) then x6.2.length else l4.length)=(bif (vK v2 i3) then x6.2 else l4).length from mQ)) (Xc (λ(k_:Nat) u=>(Cv u [(4,(.vsl 12 k_))] [])) (show l4.length=(bif (vK v2 i3) then x6.2 else l4).length from(w4 c7_))))) (gC h (λh=>Af q [2] [] (tS h (gO (M8 (Iq [] (Le.refl _ _)))))) λh=>Af q lh [12] (tN h))))) λh=>tS h (gO (A7 (A9 [] [] q))))) λx8 h=>(match x8,h with | .inl _,h=>gA (Af q [2] [] (tS h (Bx []))) | .inr r10,h=>gAr (λst' hk=>tS h (gK hk))))))))
def O8(a9:Aq)(aL:Int):Option Bool:=
 (Oc a9 aL).bind λx1=>Ay ((x1==true)=true->As aL a9.length) (some (bif x1 then a9.getD aL.toNat 0 !=-2 else false))
theorem CV(h:O8 v2 v1=some v3):sP 183 [(Z8 v2),(Z6 v1)] [] (.bool v3) []:=
 sG Tryz.func183 λΓ q=>Af q Gu [] (tB h λx1 y1 h=>tC h λc2_ h=>tT q [4] [] [(Z7 x1)] (ci (FR y1) (Kj (x1==true) (ci c2_ (Kj (x1==true) (c1 (Nh x1)))))) (tS h (Bx [])))
def Xp(a9:Aq)(aO:Int)(aS:Int):Option Bool:=
 (Vq a9).bind λx1=>(bif x1==true then O8 a9 aO else some false).bind λx2=>(bif (bif x1 then x2 else false)==true then O8 a9 aS else some false).bind λx3=>some (bif bif x1 then x2 else false then x3 else false)
theorem da(h:Xp v2 v1 v11=some v3):sP 157 [(Z8 v2),(Z6 v1),(Z6 v11)] [] (.bool v3) []:=
 sG Tryz.func157 λΓ q=>Af q YP [] (tB h λx1 y1 h=>tB h λx2 y2 h=>tB h λx3 y3 h=>tT q [6] [] [(Z7 x1),(Z7 x2),(Z7 x3)] (ci (ak y1) (Kj (x1==true) (bP (λ(hg:(x1==true)=true)=>(CV (Bj hg y2))) (Nh x1) (Kj ((bif x1 then x2 else false)==true) (c2 (λ(hg:((bif x1 then x2 else false)==true)=true)=>(CV (Bj hg y3))) (Nh (bif x1 then x2 else false))))))) (tS h (Bx [])))
def BE(a9:Aq)(aO:Int)(aS:Int):Option Bool:=
 (Xp a9 aO aS).bind λx1=>(bif x1==true then T0 a9 aO aS else some 0).bind λx2=>some (bif x1 then x2==aO else false)
theorem g7(h:BE v2 v1 v11=some v3):sP 139 [(Z8 v2),(Z6 v1),(Z6 v11)] [] (.bool v3) []:=
 sG Tryz.func139 λΓ q=>Af q YP [] (tB h λx1 y1 h=>tB h λx2 y2 h=>tT q [6] [] [(Z7 x1),(DM x2)] (ci (da y1) (Sn (x1==true) (ci (λ(hg:(x1==true)=true)=>(QR (Bj hg y2))) (Kj (x1==true) (c1 (Nh x1)))))) (tS h (Bx [])))
def I4(aX:Bo)(a3:AI)(a5:Int)(a7:Aq)(a8:List Tj)(aA:List Bo):Option GM:=
 bif (Nm default a8 aX.v).place.block==aX.place.block then some (decide ((Nm default a8 aX.v).place.at_<aX.place.at_),a3,a5,a7,aA) else(BE a7 (Nm default a8 aX.v).place.block aX.place.block).bind λx1=>some (x1,a3,a5,a7,aA)
theorem Yg(h:I4 v30 v0 v1 v2 v25 v12=some v23):sP 103 [V1,(.agg (Py v30))] [(Z1 v0.Params v0.Ret v0.Blocks v1 v2 9100005 v12),(Mt 37006 146 v12.length),(9100005,.obj (.map false .i64 (Ee (λ(v_:A6)=>((AO v_):AV)) v25)))] (.bool v23.1) [(Z1 v23.2.1.Params v23.2.1.Ret v23.2.1.Blocks v23.2.2.1 v23.2.2.2.1 9100005 v23.2.2.2.2),(Mt 37006 146 v23.2.2.2.2.length),(9100005,.obj (.map false .i64 (Ee (λ(v_:A6)=>((AO v_):AV)) v25)))]:=
 sG Tryz.func103 λΓ q=>Af q Nu Vc (gR q YR NF [(12,(y0 v25 v30.v))] [] (c1 (show(AVle (Nm (.agg [Js,Js,Js,Js]) (Ee (λ(v_:A6)=>((AO v_):AV)) v25) v30.v) (y0 v25 v30.v)) from(dW (f:=(λ(v_:A6)=>((AO v_):AV))) (l:=v25) (AVle.refl _) rfl))) (Af q [0,3,5,19] NF (gC h (λh=>Af q [4] Jq (tS h (Bx IQ))) λh=>tB h λx1 y1 h=>tT q [4] Jq [(Z7 x1)] (c1 (g7 y1)) (tS h (Bx IQ)))))
abbrev Ace:=(LR (Int×Aq×Int×List Ab×Int×Aq×List Bo) ((Aq×Int×List Ab×Int×Aq×List Bo) ⊕ (Aq×Int×List Ab×Int×Aq×List Bo)))
def Gb(a8:List Tj)(x8:yl):PB->Option Ace:=
 λ(i9,l10,i11,l12,i13,l14,l15)=>bif decide (i9<x8.2.2.2.length) then Ay (As i9 x8.2.2.2.length) ((M2 (x8.2.2.2.getD i9.toNat default) ⟨l10,i11,l12⟩ i13 l14 a8 l15).bind λx29=>bif !x29.1 then some (.done (.inr (x29.2.1.Params,x29.2.1.Ret,x29.2.1.Blocks,x29.2.2.1,x29.2.2.2.1,x29.2.2.2.2))) else some (.next (w64 (i9+1),x29.2.1.Params,x29.2.1.Ret,x29.2.1.Blocks,x29.2.2.1,x29.2.2.2.1,x29.2.2.2.2))) else some (.done (.inl (l10,i11,l12,i13,l14,l15)))
def Gc(a8:List Tj)(l21:List Bo):PB->Option Ace:=
 λ(i32,l33,i34,l35,i36,l37,l38)=>bif decide (i32<l21.length) then Ay (As i32 l21.length) ((O6 (l21.getD i32.toNat default) ⟨l33,i34,l35⟩ i36 l37 a8 l38).bind λx52=>bif !x52.1 then some (.done (.inr (x52.2.1.Params,x52.2.1.Ret,x52.2.1.Blocks,x52.2.2.1,x52.2.2.2.1,x52.2.2.2.2))) else some (.next (w64 (i32+1),x52.2.1.Params,x52.2.1.Ret,x52.2.1.Blocks,x52.2.2.1,x52.2.2.2.1,x52.2.2.2.2))) else some (.done (.inl (l33,i34,l35,i36,l37,l38)))
def Gd(a8:List Tj)(l44:List Bo):PB->Option Ace:=
 λ(i55,l56,i57,l58,i59,l60,l61)=>bif decide (i55<l44.length) then Ay (As i55 l44.length) ((I4 (l44.getD i55.toNat default) ⟨l56,i57,l58⟩ i59 l60 a8 l61).bind λx75=>bif !x75.1 then some (.done (.inr (x75.2.1.Params,x75.2.1.Ret,x75.2.1.Blocks,x75.2.2.1,x75.2.2.2.1,x75.2.2.2.2))) else some (.next (w64 (i55+1),x75.2.1.Params,x75.2.1.Ret,x75.2.1.Blocks,x75.2.2.1,x75.2.2.2.1,x75.2.2.2.2))) else some (.done (.inl (l56,i57,l58,i59,l60,l61)))
def Ro :PB->Option (LR (Int×Aq×Int×List Ab×Int×Aq×List Bo) (Int×AI×Int×Aq×List Bo)):=
 λs_=>match s_ with|(i1,l2,i3,l4,i5,l6,l7)=>some (.done (i1,⟨l2,i3,l4⟩,i5,l6,l7))
def EI(Γ:Ip)(a3:AI)(a5:Int)(a7:Aq)(a8:List Tj)(aA:List Bo)(r:qN):Exit->St->Prop:=fK Tryz.prog Γ Tryz.f63.results.toList [(Z1 a3.Params a3.Ret a3.Blocks a5 a7 9100005 aA),(Mt 37006 146 aA.length),(9100005,.obj (.map false .i64 (Ee (λ(v_:A6)=>((AO v_):AV)) a8)))] (Z6 r.1) [(Z1 r.2.1.Params r.2.1.Ret r.2.1.Blocks r.2.2.1 r.2.2.2.1 9100005 r.2.2.2.2),(Mt 37006 146 r.2.2.2.2.length),(9100005,.obj (.map false .i64 (Ee (λ(v_:A6)=>((AO v_):AV)) a8)))]
def Q99(a8:List Tj):=(Ee (λ(v_:A6)=>((AO v_):AV)) a8)
def Lo(a3:AI)(a5:Int)(a7:Aq)(a8:List Tj)(aA:List Bo):Option qN:=
 (U8   ((Iy a3 a5 a7 a8 aA).bind λx8=>(Ae   (Gb a8 x8) (0,x8.1.Params,x8.1.Ret,x8.1.Blocks,x8.2.1,x8.2.2.1,x8.2.2.2)).bind λx30=>match x30 with | .inl (l16,i17,l18,i19,l20,l21)=>(Ae   (Gc a8 l21) (0,l16,i17,l18,i19,l20,l21)).bind λx53=>(match x53 with | .inl (l39,i40,l41,i42,l43,l44)=>(Ae   (Gd a8 l44) (0,l39,i40,l41,i42,l43,l44)).bind λx76=>(match x76 with | .inl (l62,i63,l64,i65,l66,l67)=>some (.done ((0:Int),⟨l62,i63,l64⟩,i65,l66,l67)) | .inr (l68,i69,l70,i71,l72,l73)=>some (.next ((7:Int),l68,i69,l70,i71,l72,l73))) | .inr (l45,i46,l47,i48,l49,l50)=>some (.next (6,l45,i46,l47,i48,l49,l50))) | .inr (l22,i23,l24,i25,l26,l27)=>some (.next (7,l22,i23,l24,i25,l26,l27))) Ro).bind λx81=>some x81
theorem DS(h:Lo v0 v1 v2 v25 v12=some v13):sP 63 [V1] [(Z1 v0.Params v0.Ret v0.Blocks v1 v2 9100005 v12),(Mt 37006 146 v12.length),(9100005,.obj (.map false .i64 (Ee (λ(v_:A6)=>((AO v_):AV)) v25)))] (Z6 v13.1) [(Z1 v13.2.1.Params v13.2.1.Ret v13.2.1.Blocks v13.2.2.1 v13.2.2.2.1 9100005 v13.2.2.2.2),(Mt 37006 146 v13.2.2.2.2.length),(9100005,.obj (.map false .i64 (Ee (λ(v_:A6)=>((AO v_):AV)) v25)))]:=
 sG Tryz.func63 λΓ q=>Af q [0] Jq (tB h λx81 y81 h=>gS y81 (λ(s_:PB)=>match s_ with|(i1,l2,i3,l4,i5,l6,l7)=>0) (λ(s_:PB)=>match s_ with|(i1,l2,i3,l4,i5,l6,l7)=>(⟨[(4,(Z6 i1))],(Z11 l2 i3 l4 i5 l6 l7 l7.length (Q99 v25)),[]⟩:St)) (λr_=>aR (EI Γ v0 v1 v2 v25 v12 r_)) (λy h=>tB h λx8 y8 h=>tT q [0] Jq [(Z37 x8.1.Params x8.1.Ret x8.1.Blocks x8.2.1 x8.2.2.1 x8.2.2.2 x8.2.2.2.length (Q99 v25))] (c1 (Ye y8)) (tW q Nu Vc Nu Vc (Af q Yr Jq (gU 3 (Af q ed Jq (fB true (tU q mA Yv (c1 (show(As (0:Int) 3) from(by decide))) (tW q li Yv NG Yv (tL q h NG Yv (λu (i9,l10,i11,l12,i13,l14,l15)=>(Cv u [(32,(Z6 i9))] (cw l10 i11 l12 i13 l14 l15 l15.length))) (λu x_=>match x_ with|(.inl (l16,i17,l18,i19,l20,l21))=>aG Γ (.exit 2) (N6 Yr Jq u [] (cw l16 i17 l18 i19 l20 l21 l21.length))|(.inr (l22,i23,l24,i25,l26,l27))=>aG Γ (.goto 0) (N6 [4] Jq u [] (cw l22 i23 l24 i25 l26 l27 l27.length))) (λ⟨i9,l10,i11,l12,i13,l14,l15⟩ y h=>Af q lJ Yv (gC h (λh=>tV q lL lO h λh=>tB h λx29 y29 h=>tT q lK Yv [(Aau x29.1 x29.2.1.Params x29.2.1.Ret x29.2.1.Blocks x29.2.2.1 x29.2.2.2.1 x29.2.2.2.2 x29.2.2.2.2.length (Q99 v25))] (c1 (Yh y29)) (gC h (λh=>tS h (gO (A7 (A9 [4] Jq q)))) λh=>Af q NG Yv (tN h))) λh=>tS h (gO (A7 (A9 Yr Jq q))))) λx30 h=>(match x30,h with | .inl ⟨l16,i17,l18,i19,l20,l21⟩,h=>gA (tW q Yr Jq ed Jq (fB true (tU q mA Yv (c1 (show(As (1:Int) 3) from(by decide))) (tW q li Yv NG Yv (tL q h NG Yv (λu (i32,l33,i34,l35,i36,l37,l38)=>(Cv u [(32,(Z6 i32))] (cw l33 i34 l35 i36 l37 l38 l38.length))) (λu x_=>match x_ with|(.inl (l39,i40,l41,i42,l43,l44))=>aG Γ (.exit 2) (N6 Yr Jq u [] (cw l39 i40 l41 i42 l43 l44 l44.length))|(.inr (l45,i46,l47,i48,l49,l50))=>aG Γ (.goto 0) (N6 [4] Jq u [] (cw l45 i46 l47 i48 l49 l50 l50.length))) (λ⟨i32,l33,i34,l35,i36,l37,l38⟩ y h=>Af q lJ Yv (gC h (λh=>tV q lL lO h λh=>tB h λx52 y52 h=>tT q lK Yv [(Aau x52.1 x52.2.1.Params x52.2.1.Ret x52.2.1.Blocks x52.2.2.1 x52.2.2.2.1 x52.2.2.2.2 x52.2.2.2.2.length (Q99 v25))] (c1 (DQ y52)) (gC h (λh=>tS h (gO (A7 (A9 [4] Jq q)))) λh=>Af q NG Yv (tN h))) λh=>tS h (gO (A7 (A9 Yr Jq q))))) λx53 h=>(match x53,h with | .inl ⟨l39,i40,l41,i42,l43,l44⟩,h=>gA (tW q Yr Jq ed Jq (fB true (tU q mA Yv (c1 (show(As (2:Int) 3) from(by decide))) (tW q li Yv NG Yv (tL q h NG Yv (λu (i55,l56,i57,l58,i59,l60,l61)=>(Cv u [(32,(Z6 i55))] (cw l56 i57 l58 i59 l60 l61 l61.length))) (λu x_=>match x_ with|(.inl (l62,i63,l64,i65,l66,l67))=>aG Γ (.exit 2) (N6 Yr Jq u [] (cw l62 i63 l64 i65 l66 l67 l67.length))|(.inr (l68,i69,l70,i71,l72,l73))=>aG Γ (.goto 0) (N6 [4] Jq u [] (cw l68 i69 l70 i71 l72 l73 l73.length))) (λ⟨i55,l56,i57,l58,i59,l60,l61⟩ y h=>Af q lJ Yv (gC h (λh=>tV q lL lO h λh=>tB h λx75 y75 h=>tT q lK Yv [(Aau x75.1 x75.2.1.Params x75.2.1.Ret x75.2.1.Blocks x75.2.2.1 x75.2.2.2.1 x75.2.2.2.2 x75.2.2.2.2.length (Q99 v25))] (c1 (Yg y75)) (gC h (λh=>tS h (gO (A7 (A9 [4] Jq q)))) λh=>Af q NG Yv (tN h))) λh=>tS h (gO (A7 (A9 Yr Jq q))))) λx76 h=>(match x76,h with | .inl ⟨l62,i63,l64,i65,l66,l67⟩,h=>gA (tW q Yr Jq ed Jq (fB false (Af q [2] Jq (tS h (qJ (M8 (Iq IQ (Le.refl _ _)))))))) | .inr ⟨l68,i69,l70,i71,l72,l73⟩,h=>pD (λst' hl78=>tS h (sV (Le.trans hl78 Gy))))))))) | .inr ⟨l45,i46,l47,i48,l49,l50⟩,h=>pD (λst' hl79=>tS h (sV (Le.trans hl79 Gy))))))))) | .inr ⟨l22,i23,l24,i25,l26,l27⟩,h=>pD (λst' hl80=>tS h (sV (Le.trans hl80 Gy))))))))))))) (λ⟨i1,l2,i3,l4,i5,l6,l7⟩ y h=>Af q [2] Jq (tS h (qJ (M8 (Iq IQ (Le.refl _ _)))))) (gAr (λst' hk=>tS h (gK hk))))
def qS:=(λ(v_:A6)=>((AO v_):AV))
def Acl(x1:qN):List NB:=(Z3 x1.2.1.Params x1.2.1.Ret x1.2.1.Blocks x1.2.2.1 x1.2.2.2.1 x1.2.2.2.2 x1.2.2.2.2.length)
def Acm(x2:qN):List NB:=(Z3 x2.2.1.Params x2.2.1.Ret x2.2.1.Blocks x2.2.2.1 x2.2.2.2.1 x2.2.2.2.2 x2.2.2.2.2.length)
def Acn(x3:qN):List NB:=(Z3 x3.2.1.Params x3.2.1.Ret x3.2.1.Blocks x3.2.2.1 x3.2.2.2.1 x3.2.2.2.2 x3.2.2.2.2.length)
def Ku(a3:AI)(a5:Int)(a7:Aq)(aA:List Bo):Option yk:=
 (Ln a3 a5 a7 aA).bind λx1=>bif x1.1 !=0 then some (x1.1,x1.2.1,x1.2.2.1,x1.2.2.2.1,x1.2.2.2.2,[]) else(Jx x1.2.1 x1.2.2.1 x1.2.2.2.1 x1.2.2.2.2).bind λx2=>bif x2.1 !=0 then some (x2.1,x2.2.1,x2.2.2.1,x2.2.2.2.1,x2.2.2.2.2,[]) else(Kt x2.2.1 x2.2.2.1 x2.2.2.2.1 x2.2.2.2.2).bind λx3=>bif x3.1 !=0 then some (x3.1,x3.2.1,x3.2.2.1,x3.2.2.2.1,x3.2.2.2.2,[]) else(Iz x3.2.1 x3.2.2.1 x3.2.2.2.1 x3.2.2.2.2).bind λx4=>bif x4.1 !=0 then some (x4.1,x4.2.1,x4.2.2.1,x4.2.2.2.1,x4.2.2.2.2.1,x4.2.2.2.2.2) else(Lo x4.2.1 x4.2.2.1 x4.2.2.2.1 x4.2.2.2.2.2 x4.2.2.2.2.1).bind λx5=>bif x5.1 !=0 then some (x5.1,x5.2.1,x5.2.2.1,x5.2.2.2.1,x5.2.2.2.2,x4.2.2.2.2.2) else some (0,x5.2.1,x5.2.2.1,x5.2.2.2.1,x5.2.2.2.2,x4.2.2.2.2.2)
theorem BJ(h:Ku v0 v1 v2 v12=some v27):sP 28 [V1] (Z3 v0.Params v0.Ret v0.Blocks v1 v2 v12 v12.length) (Z6 v27.1) [(Z1 v27.2.1.Params v27.2.1.Ret v27.2.1.Blocks v27.2.2.1 v27.2.2.2.1 9200005 v27.2.2.2.2.1),(Mt 37006 146 v27.2.2.2.2.1.length),(9200005,.obj (.map false .i64 (Ee (λ(v_:A6)=>((AO v_):AV)) v27.2.2.2.2.2)))]:=
 sG Tryz.func28 λΓ q=>tW q [0] Jw [3] XP (Af q PX Jw (gU 5 (Af q PU Jw (fB true (tU q YM Jw (c1 (show(As (0:Int) 5) from(by decide))) (tB h λx1 y1 h=>tT q YN Jw [(wi 37006 x1.1 (Acl x1))] (c1 (DR y1)) (Af q XU Jw (gC h (λh=>Af q [2] Jw (Qu (⟨[(2,(Z6 x1.1))],(Acl x1),[]⟩:St) (tS h (gK (e:=.ret) (Iq vB (Le.trans (BD (r:=30000) (j:=5) (nm:=9300005) .i64 rfl rfl (nl rfl) rfl) (A9 (st':=⟨[(2,(Z6 x1.1))],[(Z1 x1.2.1.Params x1.2.1.Ret x1.2.1.Blocks x1.2.2.1 x1.2.2.2.1 9300005 x1.2.2.2.2),(Mt 37006 146 x1.2.2.2.2.length),(9300005,.obj (.map false .i64 (Ee qS ([]:List Tj))))],[]⟩) [2] lT q))))))) λh=>tW q PX Jw PU Jw (fB true (tU q YM Jw (c1 (show(As (1:Int) 5) from(by decide))) (tB h λx2 y2 h=>tT q YN Jw [(wi 37006 x2.1 (Acm x2))] (c1 (Zg y2)) (Af q XU Jw (gC h (λh=>Af q [2] Jw (Qu (⟨[(2,(Z6 x2.1))],(Acm x2),[]⟩:St) (tS h (gK (e:=.ret) (Iq vB (Le.trans (BD (r:=30000) (j:=5) (nm:=9300005) .i64 rfl rfl (nl rfl) rfl) (A9 (st':=⟨[(2,(Z6 x2.1))],[(Z1 x2.2.1.Params x2.2.1.Ret x2.2.1.Blocks x2.2.2.1 x2.2.2.2.1 9300005 x2.2.2.2.2),(Mt 37006 146 x2.2.2.2.2.length),(9300005,.obj (.map false .i64 (Ee qS ([]:List Tj))))],[]⟩) [2] lT q))))))) λh=>tW q PX Jw PU Jw (fB true (tU q YM Jw (c1 (show(As (2:Int) 5) from(by decide))) (tB h λx3 y3 h=>tT q YN Jw [(wi 37006 x3.1 (Acn x3))] (c1 (BI y3)) (Af q XU Jw (gC h (λh=>Af q [2] Jw (Qu (⟨[(2,(Z6 x3.1))],(Acn x3),[]⟩:St) (tS h (gK (e:=.ret) (Iq vB (Le.trans (BD (r:=30000) (j:=5) (nm:=9300005) .i64 rfl rfl (nl rfl) rfl) (A9 (st':=⟨[(2,(Z6 x3.1))],[(Z1 x3.2.1.Params x3.2.1.Ret x3.2.1.Blocks x3.2.2.1 x3.2.2.2.1 9300005 x3.2.2.2.2),(Mt 37006 146 x3.2.2.2.2.length),(9300005,.obj (.map false .i64 (Ee qS ([]:List Tj))))],[]⟩) [2] lT q))))))) λh=>tW q PX Jw PU Jw (fB true (tU q YM Jw (c1 (show(As (3:Int) 5) from(by decide))) (tB h λx4 y4 h=>tT q YN DF [⟨DE,[(9200005,13000005)],(Z6 x4.1),[(Z1 x4.2.1.Params x4.2.1.Ret x4.2.1.Blocks x4.2.2.1 x4.2.2.2.1 9200005 x4.2.2.2.2.1),(Mt 37006 146 x4.2.2.2.2.1.length),(9200005,.obj (.map false .i64 (Ee qS x4.2.2.2.2.2)))],[],[]⟩] (c1 (Yf y4)) (Af q XU DF (gC h (λh=>Af q [2] DF (tS h (Bx vA))) λh=>tW q PX DF PU DF (fB true (tU q YM DF (c1 (show(As (4:Int) 5) from(by decide))) (tB h λx5 y5 h=>tT q YN DF [⟨[(30000,30000),(37006,37006),(13000005,9100005)],[],(Z6 x5.1),[(Z1 x5.2.1.Params x5.2.1.Ret x5.2.1.Blocks x5.2.2.1 x5.2.2.2.1 9100005 x5.2.2.2.2),(Mt 37006 146 x5.2.2.2.2.length),(9100005,.obj (.map false .i64 (Ee qS x4.2.2.2.2.2)))],[],[]⟩] (c1 (DS y5)) (Af q XU DF (gC h (λh=>Af q [2] DF (tS h (Bx vA))) λh=>tW q PX DF PU DF (fB false (Af q [2] DF (tS h (Bx vA))))))))))))))))))))))))))))))))
open Go Go.RowKit
set_option maxRecDepth 100000
set_option maxHeartbeats 2000000
def Acp(a0:AI)(aa2:Int):AV:=(.agg [(Z8 a0.Params),(Z6 a0.Ret),(TH a0.Blocks),(Z6 aa2),ZR,.nilm,(AV.list 5 Py default ([]:List Bo) .exact)])
def Aco(a0:AI)(aa2:Int):=(⟨[e9],[(5,.row 75 [(Z8 a0.Params),(Z6 a0.Ret),(TH a0.Blocks),(Z6 aa2),ZR,.nilm,(AV.list 5 Py default ([]:List Bo) .exact)])],[]⟩:St)
def zV(a0:AI)(aa2:Int):=(⟨[e9],[(5,.row 75 [(Z8 a0.Params),(Z6 a0.Ret),(TH a0.Blocks),(Z6 aa2),ZR,.nilm,(AV.list 5 Py default ([]:List Bo) (.own 50506))]),(50506,.tok 5 146 (([]:List Bo).length))],[]⟩:St)
def Ql(a0:AI)(aa2:Int):Option Int:=
 bif bif decide (aa2<0) then true else decide (2<aa2) then some 1 else(Ku a0 aa2 [] []).bind λx1=>some x1.1
theorem FP(h:Ql v0 v1=some v11):sP 8 [(AF v0),(Z6 v1)] [] (.int .i64 v11) []:=
 sG Tryz.func8 λΓ q=>Af q Oa [2] (tU q [1,2,11] [2] (c2 (gI ((decide (v1<0))==false)) (Jr (decide (v1<0)))) (gC h (λh=>Af q [4] [] (tS h (Bx []))) λh=>gR q [5] [5] [(14,(Acp v0 v1))] [] (c1 (show(AVle (.agg [(Z8 v0.Params),(Z6 v0.Ret),(TH v0.Blocks),(Z6 v1),HD,.nilm,HD]) (Acp v0 v1)) from(AVle.agg (.cR (.cR (.cR (.cR (.cons Cw (.cR (.cons Cw .nil)))))))))) (Qu (Aco v0 v1) (Na (show Le Γ _ (zV v0 v1) from Le.trans (A9 (st':=(Aco v0 v1)) [5] [5] q) (Le.trans (Rn (r:=5) (j:=6) (nm:=50506) (sz':=5) (λi=>Py (([]:List Bo).getD i default)) 146 rfl rfl (nl rfl) rfl (.inl ⟨rfl,rfl⟩) (λh_=>absurd h_ (by decide))) (A9 (st':=(zV v0 v1)) [5] [5,50506] q))) (Na (show Le Γ _ (⟨[e9],[(5,.row 75 [(Z8 v0.Params),(Z6 v0.Ret),(TH v0.Blocks),(Z6 v1),(AV.list 1 Ak 0 ([]:Aq) .none),.nilm,(AV.list 5 Py default ([]:List Bo) (.own 50506))]),(50506,.tok 5 146 (([]:List Bo).length))],[]⟩:St) from Le.trans (A9 (st':=(zV v0 v1)) [5] [5,50506] q) (Fb (.cR .nil) (.row (.cR (.cR (.cR (.cR (.cons AVle.untag (.cR (.cR .nil))))))) (.same .nil)))) (tB h λx1 y1 h=>tT q [4] [] [⟨[(5,30000),(50506,37006)],[(9200005,10000505)],(Z6 x1.1),[(Z1 x1.2.1.Params x1.2.1.Ret x1.2.1.Blocks x1.2.2.1 x1.2.2.2.1 9200005 x1.2.2.2.2.1),(Mt 37006 146 x1.2.2.2.2.1.length),(9200005,.obj (.map false .i64 (Ee (λ(v_:A6)=>((AO v_):AV)) x1.2.2.2.2.2)))],[],[]⟩] (c1 (BJ y1)) (tS h (Bx []))))))))
def U3(aaU:List Ab)(aaV:Nw)(aL:Int):Option Unit:=
 some ()
variable{v32:Unit}
theorem OP(h:U3 v10 v14 v1=some v32):sP 56 [(TH v10),(IV v14),(Z6 v1)] [] (.agg [(yz v10 v14 v1),(yz v10 v14 v1),(yz v10 v14 v1),(.clo 87 [] []),(.clo 87 [] []),(yz v10 v14 v1)]) []:=
 sG Tryz.func56 λΓ q=>gR q [3,4,5,6] [6] [(3,(.rpo [])),(4,(.rpo [])),(5,(.rpo []))] [] trivial (tW q Yt [6] [6,7,8] [6] (Af q [6] [6] (tS h (Bx []))))
def Afl(a1:List Ab)(aY:Int):=((((a1.getD aY.toNat default).End.Kind:Int)!=1)==false)
def jJ(a1:List Ab)(aY:Int):=(bif (((a1.getD aY.toNat default).End.Kind:Int)!=1) then true else(decide ((0:Int)<(((a1.getD aY.toNat default).Phis).length:Int))))
abbrev eC:=(Int×Int×Bool)
def G5(aY:Int)(a1:List Ab)(aJ:Nw)(aa1:Int):Option eC:=
 Ay (As aY a1.length) (Ay (((bif (a1.getD aY.toNat default).End.Kind !=1 then true else decide (0<((a1.getD aY.toNat default).Phis.length:Int)))==false)=true->As aY aJ.length) ((bif (bif (a1.getD aY.toNat default).End.Kind !=1 then true else decide (0<((a1.getD aY.toNat default).Phis.length:Int)))==false then E6 (aJ.getD aY.toNat []) [aa1] else some false).bind λx3=>bif bif bif (a1.getD aY.toNat default).End.Kind !=1 then true else decide (0<((a1.getD aY.toNat default).Phis.length:Int)) then true else !x3 then some (-1,-1,false) else Ay (As 0 (a1.getD aY.toNat default).End.To.length) (some (aY,(a1.getD aY.toNat default).End.To.getD (0:Int).toNat 0,true))))
variable{v33:eC}
theorem Np(h:G5 v1 v10 v14 v11=some v33):sP 85 [(Z6 v1),(.rpo [(TH v10)]),(.rpo [(IV v14)]),(.rpo [(Z6 v11)])] [] (.tuple [(Z6 v33.1),(Z6 v33.2.1),(.bool v33.2.2)]) []:=
 sG Tryz.func85 λΓ q=>Af q [0,1,2,3] [] (tV q [0,2,3,8] [8] h λh=>tC h λc2_ h=>tB h λx3 y3 h=>gR q [0,8,32] [8] [(29,(mJ v11))] [(Z7 x3)] (Sn (Afl v10 v1) (ci (Jr (((v10.getD v1.toNat default).End.Kind:Int)!=1)) (Kj ((jJ v10 v1)==false) (ci c2_ (Kj ((jJ v10 v1)==false) (ci (show(((jJ v10 v1)==false)=true->(AVle (Aav v11) (mJ v11))) from(λhg=>@(Au 1 Ak (0:Int) ([v11]:Aq)))) (Kj ((jJ v10 v1)==false) (c3 (λ(hg:((jJ v10 v1)==false)=true)=>(M4 (Bj hg y3))) (gI ((jJ v10 v1)==false)) (Jr (jJ v10 v1)))))))))) (gC h (λh=>Af q YO [] (tS h (Bx []))) λh=>tV q YO [] h λh=>tS h (Bx [])))
def vY(x2:eC)(x4:eC):=(bif (!x2.2.2) then true else(!x4.2.2))
abbrev lE:=(AT×Bool)
def Oo(aL:Int)(aa3:Aq)(aaI:List Ab)(aaJ:Nw)(aaK:Int)(aaL:List Ab)(aaM:Nw)(aaN:Int):Option lE:=
 Ay (As 0 aa3.length) ((G5 (aa3.getD (0:Int).toNat 0) aaI aaJ aaK).bind λx2=>Ay (As 1 aa3.length) ((G5 (aa3.getD (1:Int).toNat 0) aaL aaM aaN).bind λx4=>bif bif bif bif !x2.2.2 then true else !x4.2.2 then true else x2.2.1 !=x4.2.1 then true else x2.2.1==aL then some (⟨0,0,0,0⟩,false) else some (⟨aL,x2.1,x4.1,x2.2.1⟩,true)))
variable{v34:List Ab}{v35:lE}
theorem KD(h:Oo v1 v2 v10 v14 v11 v34 v15 v20=some v35):sP 57 [(Z6 v1),(Z8 v2),(.agg [(yz v10 v14 v11),(yz v34 v15 v20)])] [] (.tuple [(ZT v35.1),(.bool v35.2)]) []:=
 sG Tryz.func57 λΓ q=>Af q YG Yu (tC h λc1_ h=>tB h λx2 y2 h=>tT q lU Yu [(Z62 x2.1 x2.2.1 x2.2.2)] (c3 (show(As (0:Int) 2) from(by decide)) c1_ (Np y2)) (tC h λc3_ h=>tB h λx4 y4 h=>tT q lP [6] [(Z62 x4.1 x4.2.1 x4.2.2)] (c3 (show(As (1:Int) 2) from(by decide)) c3_ (Np y4)) (tU q lX [6] (bP (gI ((!x2.2.2)==false)) (Jr (!x2.2.2)) (Kj ((vY x2 x4)==false) (ci (Jr (vY x2 x4)) (Kj ((bif (vY x2 x4) then true else(x2.2.1 !=x4.2.1))==false) (c1 (Jr (bif (vY x2 x4) then true else(x2.2.1 !=x4.2.1)))))))) (gC h (λh=>Af q Yt [6] (tS h (Bx []))) λh=>Af q Yt [6] (tS h (Bx []))))))
def Lw(aY:Int):Option eC:=
 some (-1,aY,true)
theorem Wj(h:Lw v1=some v33):sP 87 [(Z6 v1)] [] (.tuple [(Z6 v33.1),(Z6 v33.2.1),(.bool v33.2.2)]) []:=
 sG Tryz.func87 λΓ q=>tW q [0] [] KW [] (tS h (Bx []))
def vZ(x2:eC)(x4:eC):=(bif (!x2.2.2) then true else(!x4.2.2))
def Lu(aL:Int)(aa3:Aq)(aaI:List Ab)(aaJ:Nw)(aaK:Int):Option lE:=
 Ay (As 0 aa3.length) ((G5 (aa3.getD (0:Int).toNat 0) aaI aaJ aaK).bind λx2=>Ay (As 1 aa3.length) ((Lw (aa3.getD (1:Int).toNat 0)).bind λx4=>bif bif bif bif !x2.2.2 then true else !x4.2.2 then true else x2.2.1 !=x4.2.1 then true else x2.2.1==aL then some (⟨0,0,0,0⟩,false) else some (⟨aL,x2.1,x4.1,x2.2.1⟩,true)))
theorem DU(h:Lu v1 v2 v10 v14 v11=some v35):sP 57 [(Z6 v1),(Z8 v2),(.agg [(yz v10 v14 v11),(.clo 87 [] [])])] [] (.tuple [(ZT v35.1),(.bool v35.2)]) []:=
 sG Tryz.func57 λΓ q=>Af q YG Yu (tC h λc1_ h=>tB h λx2 y2 h=>tT q lU Yu [(Z62 x2.1 x2.2.1 x2.2.2)] (c3 (show(As (0:Int) 2) from(by decide)) c1_ (Np y2)) (tC h λc3_ h=>tB h λx4 y4 h=>tT q lP [6] [(Z62 x4.1 x4.2.1 x4.2.2)] (c3 (show(As (1:Int) 2) from(by decide)) c3_ (Wj y4)) (tU q lX [6] (bP (gI ((!x2.2.2)==false)) (Jr (!x2.2.2)) (Kj ((vZ x2 x4)==false) (ci (Jr (vZ x2 x4)) (Kj ((bif (vZ x2 x4) then true else(x2.2.1 !=x4.2.1))==false) (c1 (Jr (bif (vZ x2 x4) then true else(x2.2.1 !=x4.2.1)))))))) (gC h (λh=>Af q Yt [6] (tS h (Bx []))) λh=>Af q Yt [6] (tS h (Bx []))))))
def va(x2:eC)(x4:eC):=(bif (!x2.2.2) then true else(!x4.2.2))
def Lv(aL:Int)(aa3:Aq)(aaL:List Ab)(aaM:Nw)(aaN:Int):Option lE:=
 Ay (As 0 aa3.length) ((Lw (aa3.getD (0:Int).toNat 0)).bind λx2=>Ay (As 1 aa3.length) ((G5 (aa3.getD (1:Int).toNat 0) aaL aaM aaN).bind λx4=>bif bif bif bif !x2.2.2 then true else !x4.2.2 then true else x2.2.1 !=x4.2.1 then true else x2.2.1==aL then some (⟨0,0,0,0⟩,false) else some (⟨aL,x2.1,x4.1,x2.2.1⟩,true)))
theorem DV(h:Lv v1 v2 v10 v14 v11=some v35):sP 57 [(Z6 v1),(Z8 v2),(.agg [(.clo 87 [] []),(yz v10 v14 v11)])] [] (.tuple [(ZT v35.1),(.bool v35.2)]) []:=
 sG Tryz.func57 λΓ q=>Af q YG Yu (tC h λc1_ h=>tB h λx2 y2 h=>tT q lU Yu [(Z62 x2.1 x2.2.1 x2.2.2)] (c3 (show(As (0:Int) 2) from(by decide)) c1_ (Wj y2)) (tC h λc3_ h=>tB h λx4 y4 h=>tT q lP [6] [(Z62 x4.1 x4.2.1 x4.2.2)] (c3 (show(As (1:Int) 2) from(by decide)) c3_ (Np y4)) (tU q lX [6] (bP (gI ((!x2.2.2)==false)) (Jr (!x2.2.2)) (Kj ((va x2 x4)==false) (ci (Jr (va x2 x4)) (Kj ((bif (va x2 x4) then true else(x2.2.1 !=x4.2.1))==false) (c1 (Jr (bif (va x2 x4) then true else(x2.2.1 !=x4.2.1)))))))) (gC h (λh=>Af q Yt [6] (tS h (Bx []))) λh=>Af q Yt [6] (tS h (Bx []))))))
def Po(a0:AI)(x2:lF):(List AT×Int)->Option (LR (List AT×Int) (List AT)):=
 λ(l3,i4)=>bif decide (i4<a0.Blocks.length) then Option.bind  (Ay (As i4 a0.Blocks.length) (Ay ((((a0.Blocks.getD i4.toNat default).End.Kind !=2)==false)=true->As 0 (a0.Blocks.getD i4.toNat default).End.To.length) (Ay ((((a0.Blocks.getD i4.toNat default).End.Kind !=2)==false)=true->As 1 (a0.Blocks.getD i4.toNat default).End.To.length) (bif bif (a0.Blocks.getD i4.toNat default).End.Kind !=2 then true else(a0.Blocks.getD i4.toNat default).End.To.getD (0:Int).toNat 0==(a0.Blocks.getD i4.toNat default).End.To.getD (1:Int).toNat 0 then some l3 else(U3 a0.Blocks x2.1.Pred i4).bind λx10=>(Oo i4 (a0.Blocks.getD i4.toNat default).End.To a0.Blocks x2.1.Pred i4 a0.Blocks x2.1.Pred i4).bind λx11=>bif x11.2 then Ay (l3.length+[x11.1].length<=room) (some (l3++[x11.1])) else(Lu i4 (a0.Blocks.getD i4.toNat default).End.To a0.Blocks x2.1.Pred i4).bind λx13=>bif x13.2 then Ay (l3.length+[x13.1].length<=room) (some (l3++[x13.1])) else(Lv i4 (a0.Blocks.getD i4.toNat default).End.To a0.Blocks x2.1.Pred i4).bind λx15=>bif x15.2 then Ay (l3.length+[x15.1].length<=room) (some (l3++[x15.1])) else some l3)))) λx17=>some (.next (x17,w64 (i4+1))) else some (.done l3)
def OC :Empty->Option (LR Empty (List AT)):=
 λs_=>nomatch s_
def ZL(Γ:Ip)(a0:AI)(r:List AT):Exit->St->Prop:=fK Tryz.prog Γ Tryz.f26.results.toList [] (vM r 20000) [(20000,.tok 4 32 r.length)]
def jK(a0:AI):AV:=(TH a0.Blocks)
def nv:AV:=(AV.list 4 Dt default ([]:List AT) .exact)
def zW(a0:AI)(i4:Int):=((((a0.Blocks.getD i4.toNat default).End.Kind:Int)!=2)==false)
def Acr:=(⟨[(2,(AV.list 4 Dt default ([]:List AT) (.own 6002)))],[(6002,.tok 4 32 (([]:List AT).length))],[]⟩:St)
def vb(a0:AI)(x2:lF)(i4:Int):AV:=(.clo 85 [] [(.rpo [(jK a0)]),(.rpo [(IV x2.1.Pred)]),(.rpo [(Z6 i4)])])
def Acq(a0:AI)(x2:lF):=(⟨[DN,LH,(5,(AV.list 4 Dt default ([]:List AT) (.own 5005))),(21,(jK a0)),(22,(HE a0.Blocks.length)),(23,Js)],[(1,.row 25 [(Z8 a0.Params),(Z6 a0.Ret),(jK a0)]),(3,.row 64 [(IV x2.1.Succ),(IV x2.1.Pred)]),(5005,.tok 4 32 (([]:List AT).length))],[]⟩:St)
def Mk(a0:AI):Option (List AT):=
 (U8   ((Ql a0 2).bind λx1=>bif x1 !=0 then some (.done []) else(Wd a0).bind λx2=>(Ae   (Po a0 x2) ([],0)).bind λx19=>some (.done x19)) OC).bind λx21=>some x21
variable{v36:List AT}
theorem Wh(h:Mk v0=some v36):sP 26 [(AF v0)] [] (vM v36 20000) [(20000,.tok 4 32 v36.length)]:=
 sG Tryz.func26 λΓ q=>gR q [1] [1] [(2,nv)] [] (c1 (Bp 4 Dt (default:AT))) (tB h λx21 y21 h=>gS y21 (λ(s_:Empty)=>nomatch s_) (λ(s_:Empty)=>nomatch s_) (λr_=>aR (ZL Γ v0 r_)) (λy h=>tB h λx1 y1 h=>tT q [1,14] [1] [(DM x1)] (c1 (FP y1)) (gC h (λh=>gR q [2] [] [(2,nv)] [] (c1 (Bp 4 Dt (default:AT))) (Qu (⟨[(2,nv)],[],[]⟩:St) (tS h (qJ (M8 (Iq lu (show Le Γ _ Acr from Le.trans (A9 (st':=⟨[(2,nv)],[],[]⟩) [2] [] q) (Le.trans (M0 (t:=2) (nm:=6002) (sz':=4) (λi=>Dt (([]:List AT).getD i default)) 32 rfl rfl (.inl ⟨rfl,rfl⟩) (λh_=>absurd h_ (by decide))) (A9 (st':=Acr) [2] [6002] q))))))))) λh=>tB h λx2 y2 h=>tT q Ko Ko [(Z45 x2.1 x2.2)] (c1 (QS y2)) (gR q KY Ko [(5,nv)] [] (c1 (Bp 4 Dt (default:AT))) (Af q JL Ko (Na (st':=(Acq v0 x2)) (Le.trans (A9 (st':=⟨[DN,LH,(5,nv),(21,(jK v0)),(22,(HE v0.Blocks.length)),(23,Js)],[(1,.row 25 [(Z8 v0.Params),(Z6 v0.Ret),(jK v0)]),(3,.row 64 [(IV x2.1.Succ),(IV x2.1.Pred)])],[]⟩) JL Ko q) (Le.trans (M0 (t:=5) (nm:=5005) (sz':=4) (λi=>Dt (([]:List AT).getD i default)) 32 rfl rfl (.inl ⟨rfl,rfl⟩) (λh_=>absurd h_ (by decide))) (A9 (st':=(Acq v0 x2)) JL CI q))) (tL q h JL CI (λu (l3,i4)=>(Cv u [(5,(vM l3 5005)),(23,(Z6 i4))] [(5005,.tok 4 32 l3.length)])) (λu l5=>aG Γ (.exit 0) (⟨[(5,(vM l5 5005))],[(5005,.tok 4 32 l5.length)],[]⟩:St)) (λ⟨l3,i4⟩ y h=>Af q [1,3,5,21,22,23,24] CI (gC h (λh=>tB h λx17 y17 h=>gJ y17 (λl6=>aG Γ .normal (⟨[DN,LH,(5,(vM l6 5005)),(21,(jK v0)),(22,(HE v0.Blocks.length)),(23,(Z6 i4))],[(1,.row 25 [(Z8 v0.Params),(Z6 v0.Ret),(jK v0)]),(3,.row 64 [(IV x2.1.Succ),(IV x2.1.Pred)]),(5005,.tok 4 32 l6.length)],[]⟩:St)) (λy h=>tV q [1,3,5,6,7,21,22,23] JO h λh=>zt9 h λc8_ c9_ h=>tU q [1,3,5,6,7,21,22,23,44] JO (Sn (zW v0 i4) (ci c8_ (bW (zW v0 i4) (ci c9_ (Sn (zW v0 i4) (c1 (Jr (((v0.Blocks.getD i4.toNat default).End.Kind:Int)!=2)))))))) (gC h (λh=>tS h (gK (A7 (A9 JL CI q)))) λh=>tB h λx10 y10 h=>tT q nj JO [⟨[],[],(.agg [(vb v0 x2 i4),(vb v0 x2 i4),(vb v0 x2 i4),(.clo 87 [] []),(.clo 87 [] []),(vb v0 x2 i4)]),[],[],[]⟩] (c1 (OP y10)) (gU 3 (Af q ni JO (fB true (tU q lG lc (c1 (show(As (0:Int) 3) from(by decide))) (tB h λx11 y11 h=>tT q vE PJ [(wk x11.1 x11.2)] (c1 (KD y11)) (Af q vF PJ (gC h (λh=>tC h λag4 h=>gR q JL CI (Z52 x11.1 l3) [] (c5 (Au 4 Dt (default:AT) ([x11.1]:List AT)) (Eq.refl l3.length) ag4 (Cm 4 5005 Dt (default:AT) l3 ([x11.1]:List AT)) (Bm l3 ([x11.1]:List AT))) (tS h (gK (A7 Gy)))) λh=>tW q nj JO ni JO (fB true (tU q lG lc (c1 (show(As (1:Int) 3) from(by decide))) (tB h λx13 y13 h=>tT q vE PJ [(wk x13.1 x13.2)] (c1 (DU y13)) (Af q vF PJ (gC h (λh=>tC h λaf4 h=>gR q JL CI (Z52 x13.1 l3) [] (c5 (Au 4 Dt (default:AT) ([x13.1]:List AT)) (Eq.refl l3.length) af4 (Cm 4 5005 Dt (default:AT) l3 ([x13.1]:List AT)) (Bm l3 ([x13.1]:List AT))) (tS h (gK (A7 Gy)))) λh=>tW q nj JO ni JO (fB true (tU q lG lc (c1 (show(As (2:Int) 3) from(by decide))) (tB h λx15 y15 h=>tT q vE PJ [(wk x15.1 x15.2)] (c1 (DV y15)) (Af q vF PJ (gC h (λh=>tC h λae4 h=>gR q JL CI (Z52 x15.1 l3) [] (c5 (Au 4 Dt (default:AT) ([x15.1]:List AT)) (Eq.refl l3.length) ae4 (Cm 4 5005 Dt (default:AT) l3 ([x15.1]:List AT)) (Bm l3 ([x15.1]:List AT))) (tS h (gK (A7 Gy)))) λh=>tW q nj JO ni JO (fB false (tS h (gK (A7 (A9 JL CI q)))))))))))))))))))))))) (gA (Af q JL CI (tN h)))) λh=>tS h (gO (A7 (A9 [5] [5005] q))))) λx19 h=>gA (Af q [2] [5005] (tS h (qJ (M8 (Iq lv (Le.refl _ _)))))))))))) nofun (gAr (λst' hk=>tS h (gK hk))))
def m_slices_Index_api_Hammock_api_Hammock_L1(aM:List AT)(aK:AT):Int->Option (LR Int (Unit ⊕ Int)):=
 λi1=>bif decide (i1<aM.length) then Ay (As i1 aM.length) (bif aK.At==(aM.getD i1.toNat default).At&&(aK.Then==(aM.getD i1.toNat default).Then&&(aK.Else==(aM.getD i1.toNat default).Else&&(aK.Join==(aM.getD i1.toNat default).Join&&true))) then some (.done (.inr i1)) else some (.next (w64 (i1+1)))) else some (.done (.inl ()))
def Oz(Γ:Ip)(aM:List AT)(aK:AT)(r:Int):Exit->St->Prop:=fK Tryz.prog Γ Tryz.f148.results.toList [] (.int .i64 r) []
def Ew(aM:List AT)(aK:AT):Option Int:=
 (Ae   (m_slices_Index_api_Hammock_api_Hammock_L1 aM aK) 0).bind λx3=>match x3 with | .inl _=>some (-1) | .inr r5=>some r5
variable{IS:AT}
theorem Oy(h:Ew v36 IS=some v1):sP 148 [(AV.list 4 Dt default v36 .none),(ZT IS)] [] (.int .i64 v1) []:=
 sG Tryz.func148 λΓ q=>tW q Nu [3] [0,3,7,8] [3] (tL q h [0,3,7,8] [3] (λu i1=>(Cv u [(8,(Z6 i1))] [])) (λu x_=>match x_ with|(.inl _)=>aG Γ (.exit 0) (⟨[],[],[]⟩:St)|(.inr r_)=>aR (Oz Γ v36 IS r_)) (λi1 y h=>Af q [0,3,7,8,9] [3] (gC h (λh=>Af q [0,3,5,7,8] [3] (tV q [0,3,5,7,8,16] [3] h λh=>gC h (λh=>Af q [4] [] (tS h (gO (M8 (Iq [] (Le.refl _ _)))))) λh=>Af q [0,3,7,8] [3] (tN h))) λh=>tS h (gO (A7 (A9 [] [] q))))) λx3 h=>(match x3,h with | .inl _,h=>gA (Af q [4] [] (tS h (Bx []))) | .inr r5,h=>gAr (λst' hk=>tS h (gK hk))))
def D2(aM:List AT)(aK:AT):Option Bool:=
 (Ew aM aK).bind λx1=>some (decide (0<=x1))
theorem Ns(h:D2 v36 IS=some v3):sP 125 [(AV.list 4 Dt default v36 .none),(ZT IS)] [] (.bool v3) []:=
 sG Tryz.func125 λΓ q=>Af q Nu [3] (tB h λx1 y1 h=>tT q [4] [] [(DM x1)] (c1 (Oy y1)) (tS h (Bx [])))
def Vr(a0:AI)(aB:AT):Option Bool:=
 (Mk a0).bind λx1=>(D2 x1 aB).bind λx2=>some x2
theorem am(h:Vr v0 IS=some v3):sP 88 [(AF v0),(ZT IS)] [] (.bool v3) []:=
 sG Tryz.func88 λΓ q=>Af q Cf Cf (tB h λx1 y1 h=>tB h λx2 y2 h=>tT q [4] [] [⟨[],[(20000,6)],(vM x1 20000),[(20000,.tok 4 32 x1.length)],[],[]⟩,(Z7 x2)] (c2 (Wh y1) (Ns y2)) (tS h (Bx [])))
abbrev Acf:=(List A0×Int)
def Lt(a0:AI)(aB:AT):Acf->Option (LR (List A0×Int) (List A0)):=
 λ(l2,i3)=>bif decide (i3<[aB.Then,aB.Else].length) then Option.bind  (Ay (As i3 [aB.Then,aB.Else].length) (bif [aB.Then,aB.Else].getD i3.toNat 0 !=-1 then Ay (As ([aB.Then,aB.Else].getD i3.toNat 0) a0.Blocks.length) (Ay (l2.length+(a0.Blocks.getD ([aB.Then,aB.Else].getD i3.toNat 0).toNat default).Ops.length<=room) (some (l2++(a0.Blocks.getD ([aB.Then,aB.Else].getD i3.toNat 0).toNat default).Ops))) else some l2)) λx9=>some (.next (x9,w64 (i3+1))) else some (.done l2)
def ck(aB:AT):=([aB.Then,aB.Else]:Aq)
def nw:AV:=vL
def zX(a0:AI)(aB:AT)(i3:Int):=(a0.Blocks.getD ((ck aB).getD i3.toNat 0).toNat (default:Ab))
def zY(a0:AI):List AV:=(Z5 a0.Params a0.Ret a0.Blocks)
def Acu:=(⟨[(4,(wh 6004)),(5,(.bool false))],[(6004,.tok 6 48 (([]:List A0).length))],[]⟩:St)
def Acs(aB:AT)(a0:AI):=(⟨[Nf,(6,(wh 5006)),(17,(wu (ck aB))),(18,(.int .i64 ((ck aB).length:Int))),(19,Js)],[(J5 25 (zY a0)),(5006,.tok 6 48 (([]:List A0).length))],[]⟩:St)
def Ls(a0:AI)(aB:AT):Option (List A0×Bool):=
 (Vr a0 aB).bind λx1=>bif !x1 then some ([],false) else(Ae   (Lt a0 aB) ([],0)).bind λx11=>some (x11,true)
variable{v38:(List A0×Bool)}
theorem Wi(h:Ls v0 IS=some v38):sP 58 [(AF v0),(ZT IS)] [] (.tuple [(ZE v38.1 20000),(.bool v38.2)]) [(Uk 20000 v38.1.length)]:=
 sG Tryz.func58 λΓ q=>gR q Cf Cf [(4,nw)] [] (c1 (Bp 6 Iv (default:A0))) (tB h λx1 y1 h=>tT q [2,3,12] Cf [(Z7 x1)] (c1 (am y1)) (gC h (λh=>gR q R3 [] [(4,nw)] [] (c1 (Bp 6 Iv (default:A0))) (Qu (⟨[(4,nw),(5,(.bool false))],[],[]⟩:St) (tS h (gK (e:=.ret) (Iq XS (show Le Γ _ Acu from Le.trans (A9 (st':=⟨[(4,nw),(5,(.bool false))],[],[]⟩) R3 [] q) (Le.trans (M0 (t:=4) (nm:=6004) (sz':=6) (λi=>Iv (([]:List A0).getD i default)) 48 rfl rfl (.inl ⟨rfl,rfl⟩) (λh_=>absurd h_ (by decide))) (A9 (st':=Acu) R3 [6004] q)))))))) λh=>gR q KZ Cf [(6,nw)] [] (c1 (Bp 6 Iv (default:A0))) (gR q ZD [2] [(17,(wu (ck IS)))] [] (c1 (Au 1 Ak (0:Int) (ck IS))) (Na (st':=(Acs IS v0)) (Le.trans (A9 (st':=⟨[Nf,(6,nw),(17,(wu (ck IS))),(18,(.int .i64 ((ck IS).length:Int))),(19,Js)],[(J5 25 (zY v0))],[]⟩) ZD [2] q) (Le.trans (M0 (t:=6) (nm:=5006) (sz':=6) (λi=>Iv (([]:List A0).getD i default)) 48 rfl rfl (.inl ⟨rfl,rfl⟩) (λh_=>absurd h_ (by decide))) (A9 (st':=(Acs IS v0)) ZD GY q))) (tL q h ZD GY (λu (l2,i3)=>(Cv u [(6,(ZE l2 5006)),(19,(Z6 i3))] [(Uk 5006 l2.length)])) (λu l4=>aG Γ (.exit 0) (⟨[(6,(ZE l4 5006))],[(Uk 5006 l4.length)],[]⟩:St)) (λ⟨l2,i3⟩ y h=>Af q [2,6,17,18,19,20] GY (gC h (λh=>tB h λx9 y9 h=>gJ y9 (λl5=>aG Γ .normal (⟨[Nf,(6,(ZE l5 5006)),(17,(wu (ck IS))),(18,(.int .i64 ((ck IS).length:Int))),(19,(Z6 i3))],[(J5 25 (zY v0)),(Uk 5006 l5.length)],[]⟩:St)) (λy h=>tV q [2,6,8,17,18,19] GY h λh=>Af q [2,6,8,17,18,19,24] GY (gC h (λh=>zt9 h λc7_ c8_ h=>gR q ZD GY [(32,(AV.list 6 Iv default (l2++(zX v0 IS i3).Ops) (.own 5006)))] [] (c5 c7_ (Eq.refl l2.length) c8_ (Cm 6 5006 Iv (default:A0) l2 ((zX v0 IS i3).Ops)) (Bm l2 ((zX v0 IS i3).Ops))) (tS h (gK (A7 Gy)))) λh=>tS h (gK (A7 (A9 ZD GY q))))) (gA (Af q ZD GY (tN h)))) λh=>tS h (gO (A7 (A9 [6] [5006] q))))) λx11 h=>gA (Af q R3 [5006] (tS h (Bx [(5006,20000)]))))))))
def Nk(a2:A0):Option Bool:=
 some (a2.Lanes !=1)
theorem IP(h:Nk v6=some v3):sP 66 [(ZF v6)] [] (.bool v3) []:=
 sG Tryz.func66 λΓ q=>tW q [1] [1] [2] [] (tS h (Bx []))
def m_slices_IndexFunc_api_Op_api_Op_L1(aM:List A0):Int->Option (LR Int (Unit ⊕ Int)):=
 λi1=>bif decide (i1<aM.length) then Ay (As i1 aM.length) ((Nk (aM.getD i1.toNat default)).bind λx3=>bif x3 then some (.done (.inr i1)) else some (.next (w64 (i1+1)))) else some (.done (.inl ()))
def Sb(Γ:Ip)(aM:List A0)(r:Int):Exit->St->Prop:=fK Tryz.prog Γ Tryz.f104.results.toList [] (.int .i64 r) []
def Ha(aM:List A0):Option Int:=
 (Ae   (m_slices_IndexFunc_api_Op_api_Op_L1 aM) 0).bind λx4=>match x4 with | .inl _=>some (-1) | .inr r6=>some r6
theorem R7(h:Ha v7=some v1):sP 104 [(SF v7),(.clo 66 [] [])] [] (.int .i64 v1) []:=
 sG Tryz.func104 λΓ q=>tW q Gu [] CH [] (tL q h CH [] (λu i1=>(Cv u [(8,(Z6 i1))] [])) (λu x_=>match x_ with|(.inl _)=>aG Γ (.exit 0) (⟨[],[],[]⟩:St)|(.inr r_)=>aR (Sb Γ v7 r_)) (λi1 y h=>Af q lr [] (gC h (λh=>Af q ls [] (tC h λc2_ h=>tB h λx3 y3 h=>tT q lY [] [(Z7 x3)] (c2 c2_ (IP y3)) (gC h (λh=>Af q [4] [] (tS h (gO (M8 (Iq [] (Le.refl _ _)))))) λh=>Af q CH [] (tN h)))) λh=>tS h (gO (A7 (A9 [] [] q))))) λx4 h=>(match x4,h with | .inl _,h=>gA (Af q [4] [] (tS h (Bx []))) | .inr r6,h=>gAr (λst' hk=>tS h (gK hk))))
def Dq(aM:List A0):Option Bool:=
 (Ha aM).bind λx1=>some (decide (0<=x1))
theorem Qd(h:Dq v7=some v3):sP 65 [(SF v7),(.clo 66 [] [])] [] (.bool v3) []:=
 sG Tryz.func65 λΓ q=>Af q Gu [] (tB h λx1 y1 h=>tT q [4] [] [(DM x1)] (c1 (R7 y1)) (tS h (Bx [])))
def Pp(a0:AI)(aB:AT):Option Bool:=
 (Ls a0 aB).bind λx1=>(bif x1.2==true then Dq x1.1 else some false).bind λx2=>some (bif x1.2 then !x2 else false)
theorem MG(h:Pp v0 IS=some v3):sP 39 [(AF v0),(ZT IS)] [] (.bool v3) []:=
 sG Tryz.func39 λΓ q=>Af q Cf Cf (tB h λx1 y1 h=>tT q Yu [10] [⟨[],eh,(.tuple [(ZE x1.1 20000),(.bool x1.2)]),[(Uk 20000 x1.1.length)],[],[]⟩] (c1 (Wi y1)) (tB h λx2 y2 h=>tT q [4] [] [(Z7 x2)] (c4 (gI (x1.2==true)) (λ(hg:(x1.2==true)=true)=>(Qd (Bj hg y2))) (gI (x1.2==true)) (Nh x1.2)) (tS h (Bx []))))
def Qv(a0:AI)(i2:Int):Oj->Option nf:=
 λ(i5,i6)=>bif decide (i6<(a0.Blocks.getD i2.toNat default).Phis.length) then Ay (As i6 (a0.Blocks.getD i2.toNat default).Phis.length) (some (.next (if i5<((a0.Blocks.getD i2.toNat default).Phis.getD i6.toNat default).Dst then((a0.Blocks.getD i2.toNat default).Phis.getD i6.toNat default).Dst else i5,w64 (i6+1)))) else some (.done i5)
def Qw(a0:AI)(i2:Int):Oj->Option nf:=
 λ(i11,i12)=>bif decide (i12<(a0.Blocks.getD i2.toNat default).Ops.length) then Ay (As i12 (a0.Blocks.getD i2.toNat default).Ops.length) (some (.next (if i11<((a0.Blocks.getD i2.toNat default).Ops.getD i12.toNat default).Dst then((a0.Blocks.getD i2.toNat default).Ops.getD i12.toNat default).Dst else i11,w64 (i12+1)))) else some (.done i11)
def U2(a0:AI):Oj->Option nf:=
 λ(i1,i2)=>bif decide (i2<a0.Blocks.length) then Ay (As i2 a0.Blocks.length) ((Ae   (Qv a0 i2) (i1,0)).bind λx9=>(Ae   (Qw a0 i2) (x9,0)).bind λx15=>some (.next (x15,w64 (i2+1)))) else some (.done i1)
def Vo(a0:AI):Option Int:=
 (Ae   (U2 a0) (a0.Params.length,0)).bind λx17=>some x17
theorem ai(h:Vo v0=some v1):sP 40 [(AF v0)] [] (.int .i64 v1) []:=
 sG Tryz.func40 λΓ q=>tW q [1] [1] Ko [1] (Af q XV [] (tL q h XV [] (λu (i1,i2)=>(Cv u [(3,(Z6 i1)),(16,(Z6 i2))] [])) (λu i3=>aG Γ (.exit 0) (⟨[(3,(Z6 i3))],[],[]⟩:St)) (λ⟨i1,i2⟩ y h=>Af q [3,14,15,16,17] [] (gC h (λh=>tV q ld [5] h λh=>Af q nq [5] (tL q h nq [5] (λu (i5,i6)=>(Cv u [(3,(Z6 i5)),(23,(Z6 i6))] [])) (λu i7=>aG Γ (.exit 2) (N6 ld [5] u [(3,(Z6 i7))] [])) (λ⟨i5,i6⟩ y h=>Af q [3,5,14,15,16,21,22,23,24] [5] (gC h (λh=>tV q [3,5,7,14,15,16,21,22,23] [5,7] h λh=>tW q nq [5] nq [5] (tN h)) λh=>tS h (gO (A7 (A9 ld [5] q))))) λx9 h=>gA (Af q eH [] (tL q h eH [] (λu (i11,i12)=>(Cv u [(3,(Z6 i11)),(35,(Z6 i12))] [])) (λu i13=>aG Γ (.exit 4) (N6 XV [] u [(3,(Z6 i13))] [])) (λ⟨i11,i12⟩ y h=>Af q [3,14,15,16,33,34,35,36] [] (gC h (λh=>tV q [3,9,14,15,16,33,34,35] [9] h λh=>tW q eH [] eH [] (tN h)) λh=>tS h (gO (A7 (A9 XV [] q))))) λx15 h=>gA (Af q XV [] (tN h)))))) λh=>tS h (gO (A7 (A9 [3] [] q))))) λx17 h=>gA (Af q [2] [] (tS h (Bx [])))))
def ny:AV:=vL
def Acv:=(⟨[(2,(wh 6002))],[(6002,.tok 6 48 (([]:List A0).length))],[]⟩:St)
def F3(aM:List A0):Option (List A0):=
 Ay (([]:List A0).length+aM.length<=room) (some ([]++aM))
variable{v39:List A0}
theorem Ut(h:F3 v7=some v39):sP 67 [(SF v7)] [] (ZE v39 20000) [(Uk 20000 v39.length)]:=by
 refine OV mix Tryz.func67 (λΓ hq=>?_);unfold F3 at h;refine gR hq [0] [] [(2,ny)] [] (c1 (Bp 6 Iv (default:A0))) ?_;refine Af hq [0,4] [] ?_;refine Aee true v7.length (λhb=>?_) (λhb=>?_)
 ·replace h:=tD (some ([]:List A0)) (λ(l2:List A0)=>(Ay (([]:List A0).length+l2.length<=room) (some (([]:List A0)++l2)))) h (hb rfl) rfl (λh0=>by first|exact h0|simpa [Ay,room] using h0);clear hb;refine gR hq [2] [] [(2,ny)] [] (c1 (Bp 6 Iv (default:A0))) ?_;refine Qu (⟨[(2,ny)],[],[]⟩:St) ?_;cases h;exact gK (e:=.ret) (Iq lu (show Le Γ _ Acv from Le.trans (A9 (st':=⟨[(2,ny)],[],[]⟩) [2] [] hq) (Le.trans (M0 (t:=2) (nm:=6002) (sz':=6) (λi=>Iv (([]:List A0).getD i default)) 48 rfl rfl (.inl ⟨rfl,rfl⟩) (λh_=>absurd h_ (by decide))) (A9 (st':=Acv) [2] [6002] hq))))
 ·clear hb;obtain⟨hc1,h⟩:=Ul h;refine gR hq [2] [7] [(5,ny),(7,(AV.list 6 Iv default (([]:List A0)++v7) (.own 7)))] [] (ci (show(AVle (.slice 6 0 (λi=>([]:List (List AV)).getD i []) .exact) ny) from dA rfl (λi hi=>absurd hi (W4 i))) (ci hc1 (ci (show(48=Zx->([]:List A0).length=0\/0<v7.length) from(λh_=>absurd h_ (by decide))) (ci (Cm 6 7 Iv (default:A0) ([]:List A0) v7) (c1 (Bm ([]:List A0) v7)))))) ?_;cases h;exact Bx [(7,20000)]
def vd:List LB:=[(4,vL)]
def zZ(a3:AI)(a5:AT)(a7:List A0)(a8:Int):List NB:=(SE a3.Params a3.Ret a3.Blocks a5.At a5.Then a5.Else a5.Join a7 a8 a7.length)
def Gf(aL:Int)(a3:AI)(a5:AT)(a7:List A0)(a8:Int):Option (List A0):=
 bif aL==-1 then some [] else Ay (As aL a3.Blocks.length) (some (a3.Blocks.getD aL.toNat default).Ops)
theorem Qo(h:Gf v1 v0 IS v7 v11=some v39):sP 106 [V1,(Z6 v1)] (SE v0.Params v0.Ret v0.Blocks IS.At IS.Then IS.Else IS.Join v7 v11 v7.length) (SF v39) (SE v0.Params v0.Ret v0.Blocks IS.At IS.Then IS.Else IS.Join v7 v11 v7.length):=
 sG Tryz.func106 λΓ q=>gR q Gu Nv vd [] (c1 (Bp 6 Iv (default:A0))) (Af q [0,1,6] Nv (gC h (λh=>gR q [4] Nv vd [] (c1 (Bp 6 Iv (default:A0))) (Qu (⟨vd,(zZ v0 IS v7 v11),[]⟩:St) (tS h (gK (e:=.ret) (Iq HC (show Le Γ _ (⟨[(4,(AV.list 6 Iv default ([]:List A0) .none))],(zZ v0 IS v7 v11),[]⟩:St) from Le.trans (A9 (st':=⟨vd,(zZ v0 IS v7 v11),[]⟩) [4] Nv q) (Fb (.cons AVle.untag .nil) (.same (.same .nil))))))))) λh=>tV q [4] Nv h λh=>tS h (Bx HC)))
def ve(aaO:Int)(aH:Int)(a8:Int)(aa7:Aq)(aZ:Int):=([(⟨aaO,aH,(1:Int),(w64 (a8+1)),aa7,aZ⟩:A0)]:List A0)
abbrev qB:=(Int×AI×AT×List A0×Int)
def Cp(aaO:Int)(aH:Int)(aZ:Int)(aa7:Aq)(a3:AI)(a5:AT)(a7:List A0)(a8:Int):Option qB:=
 Ay (a7.length+[(⟨aaO,aH,1,w64 (a8+1),aa7,aZ⟩:A0)].length<=room) (some (w64 (a8+1),a3,a5,a7++[⟨aaO,aH,1,w64 (a8+1),aa7,aZ⟩],w64 (a8+1)))
variable{v40:Int}{v41:qB}
theorem E8(h:Cp v1 v11 v20 v2 v0 IS v7 v40=some v41):sP 108 [V1,(Z6 v1),(Z6 v11),(Uj v20),(Z8 v2)] (SE v0.Params v0.Ret v0.Blocks IS.At IS.Then IS.Else IS.Join v7 v40 v7.length) (Z6 v41.1) (SE v41.2.1.Params v41.2.1.Ret v41.2.1.Blocks v41.2.2.1.At v41.2.2.1.Then v41.2.2.1.Else v41.2.2.1.Join v41.2.2.2.1 v41.2.2.2.2 v41.2.2.2.1.length):=
 sG Tryz.func108 λΓ q=>tW q XW Nv XW Nv (tC h λc1_ h=>gR q [0] Nv (Z42 32 (ve v1 v11 v40 v2 v20) 33 v7 37007) [] (c5 (Au 6 Iv (default:A0) (ve v1 v11 v40 v2 v20)) (Eq.refl v7.length) c1_ (Cm 6 37007 Iv (default:A0) v7 (ve v1 v11 v40 v2 v20)) (Bm v7 (ve v1 v11 v40 v2 v20))) (Af q [10] Nv (tS h (Bx HC))))
def n4(a1:A0):=(a1.Args.drop (1:Int).toNat)
def TB(a1:A0):=(a1.Args.getD (0:Int).toNat (0:Int))
def nz(a1:A0):=(a1.Args.getD (1:Int).toNat (0:Int))
def Acw(a1:A0):List AV:=[V1,Js,(Z6 a1.Bits),(.int .u64 (0:Int)),HD]
def qT:List AV:=[Js,Js,Js,Js,HD,(.int .u64 (0:Int))]
def vf(a3:AI)(a5:AT)(a7:List A0)(a8:Int):List AV:=(Z2 a3.Params a3.Ret a3.Blocks a5.At a5.Then a5.Else a5.Join a7 a8)
def ze(x13:qB):List AV:=(Z2 x13.2.1.Params x13.2.1.Ret x13.2.1.Blocks x13.2.2.1.At x13.2.2.1.Then x13.2.2.1.Else x13.2.2.1.Join x13.2.2.2.1 x13.2.2.2.2)
def zh(x18:qB):List AV:=(Z2 x18.2.1.Params x18.2.1.Ret x18.2.1.Blocks x18.2.2.1.At x18.2.2.1.Then x18.2.2.1.Else x18.2.2.1.Join x18.2.2.2.1 x18.2.2.2.2)
abbrev Acg:=(A0×AI×AT×List A0×Int)
def I8(a1:A0)(aJ:Int)(a3:AI)(a5:AT)(a7:List A0)(a8:Int):Option Acg:=
 Option.bind  (bif a1.Kind==16 then Ay (As 0 a1.Args.length) ((Cp 0 a1.Bits 0 [] a3 a5 a7 a8).bind λx13=>some (18,[aJ,a1.Args.getD (0:Int).toNat 0,x13.1],x13.2.1.Params,x13.2.1.Ret,x13.2.1.Blocks,x13.2.2.1.At,x13.2.2.1.Then,x13.2.2.1.Else,x13.2.2.1.Join,x13.2.2.2.1,x13.2.2.2.2)) else bif a1.Kind==17 then Ay (As 0 a1.Args.length) (Ay (As 1 a1.Args.length) (some (19,[aJ,a1.Args.getD (0:Int).toNat 0,a1.Args.getD (1:Int).toNat 0],a3.Params,a3.Ret,a3.Blocks,a5.At,a5.Then,a5.Else,a5.Join,a7,a8))) else bif a1.Kind==4 then Ay (As 0 a1.Args.length) (Ay (As 1 a1.Args.length) ((Cp 0 a1.Bits 0 [] a3 a5 a7 a8).bind λx18=>some (20,[aJ,a1.Args.getD (0:Int).toNat 0,a1.Args.getD (1:Int).toNat 0,x18.1],x18.2.1.Params,x18.2.1.Ret,x18.2.1.Blocks,x18.2.2.1.At,x18.2.2.1.Then,x18.2.2.1.Else,x18.2.2.1.Join,x18.2.2.2.1,x18.2.2.2.2))) else Option.bind  (bif a1.Kind==18 then some (a1.Kind==18) else bif a1.Kind==19 then some (a1.Kind==19) else some (a1.Kind==20)) λx20=>bif x20 then Ay (As 0 a1.Args.length) ((Cp 5 1 0 [a1.Args.getD (0:Int).toNat 0,aJ] a3 a5 a7 a8).bind λx23=>Ay (0<=(1:Int)/\1<=(a1.Args.length:Int)) (Ay ([x23.1].length+(a1.Args.drop (1:Int).toNat).length<=room) (some (a1.Kind,[x23.1]++a1.Args.drop (1:Int).toNat,x23.2.1.Params,x23.2.1.Ret,x23.2.1.Blocks,x23.2.2.1.At,x23.2.2.1.Then,x23.2.2.1.Else,x23.2.2.1.Join,x23.2.2.2.1,x23.2.2.2.2)))) else some (a1.Kind,a1.Args,a3.Params,a3.Ret,a3.Blocks,a5.At,a5.Then,a5.Else,a5.Join,a7,a8)) λx26=>match x26 with|(i1,l2,l3,i4,l5,i6,i7,i8,i9,l10,i11)=>some (⟨i1,a1.Bits,a1.Lanes,a1.Dst,l2,a1.Imm⟩,⟨l3,i4,l5⟩,⟨i6,i7,i8,i9⟩,l10,i11)
variable{v42:Acg}
theorem Yl(h:I8 v6 v1 v0 IS v7 v11=some v42):sP 140 [V1,(ZF v6),(Z6 v1)] (SE v0.Params v0.Ret v0.Blocks IS.At IS.Then IS.Else IS.Join v7 v11 v7.length) (ZF v42.1) (SE v42.2.1.Params v42.2.1.Ret v42.2.1.Blocks v42.2.2.1.At v42.2.2.1.Then v42.2.2.1.Else v42.2.2.1.Join v42.2.2.2.1 v42.2.2.2.2 v42.2.2.2.1.length):=
 sG Tryz.func140 λΓ q=>Af q [0,2,4,6] Th (tB h λx26 y26 h=>gJ y26 (λ(i1,l2,l3,i4,l5,i6,i7,i8,i9,l10,i11)=>aG Γ .normal (⟨[Xa,NK],[(4,.row 48 (zA i1 v6.Bits v6.Lanes v6.Dst l2 v6.Imm)),(6,.row 48 qT),(30000,.row 90 (Z2 l3 i4 l5 i6 i7 i8 i9 l10 i11)),(Uk 37007 l10.length)],[]⟩:St)) (λy h=>tW q [0,2,4,6,9] Th [0,2,4,6,9,10] Th (gC h (λh=>tC h λag4 h=>tB h λx13 y13 h=>gR q W8 Th [(21,(wr v1 (TB v6) x13.1))] [(Z79 37007 x13.1 90 (ze x13) x13.2.2.2.1.length)] (c3 ag4 (show(sP 108 (Acw v6) (fS 90 (vf v0 IS v7 v11) 37007 v7.length) (Z6 x13.1) (fS 90 (ze x13) 37007 x13.2.2.2.1.length)) from(Spec.args (.cR (.cR (.cR (.cR (.cons AP .nil))))) (E8 y13))) (Au 1 Ak (0:Int) ([v1,(TB v6),x13.1]:Aq))) (tS h (gK (A7 (Le.trans (A9 (st':=⟨[Xa,NK],[(4,.row 48 [(HE 18),(Z6 v6.Bits),(Z6 v6.Lanes),(Z6 v6.Dst),(wr v1 (TB v6) x13.1),(Uj v6.Imm)]),(6,.row 48 qT),(30000,.row 90 (ze x13)),(Uk 37007 x13.2.2.2.1.length)],[]⟩) W8 Th q) (Fb (.cR (.cR .nil)) (.row (.cR (.cR (.cR (.cR (.cons AVle.untag (.cR .nil)))))) (.same (.same (.same .nil)))))))))) λh=>Af q [0,2,4,6,9,24] Th (gC h (λh=>zt9 h λaf4 af3 h=>gR q W8 Th [(35,(wr v1 (TB v6) (nz v6)))] [] (c3 af4 af3 (Au 1 Ak (0:Int) ([v1,(TB v6),(nz v6)]:Aq))) (tS h (gK (A7 (Le.trans (A9 (st':=⟨[Xa,NK],[(4,.row 48 [(HE 19),(Z6 v6.Bits),(Z6 v6.Lanes),(Z6 v6.Dst),(wr v1 (TB v6) (nz v6)),(Uj v6.Imm)]),(6,.row 48 qT),(30000,.row 90 (vf v0 IS v7 v11)),(Uk 37007 v7.length)],[]⟩) W8 Th q) (Fb (.cR (.cR .nil)) (.row (.cR (.cR (.cR (.cR (.cons AVle.untag (.cR .nil)))))) (.same (.same (.same .nil)))))))))) λh=>Af q [0,2,4,6,9,38] Th (gC h (λh=>zt9 h λae4 ag2 h=>tB h λx18 y18 h=>gR q W8 Th [(53,(rA v1 (TB v6) (nz v6) x18.1))] [(Z79 37007 x18.1 90 (zh x18) x18.2.2.2.1.length)] (c4 ae4 ag2 (show(sP 108 (Acw v6) (fS 90 (vf v0 IS v7 v11) 37007 v7.length) (Z6 x18.1) (fS 90 (zh x18) 37007 x18.2.2.2.1.length)) from(Spec.args (.cR (.cR (.cR (.cR (.cons AP .nil))))) (E8 y18))) (Au 1 Ak (0:Int) ([v1,(TB v6),(nz v6),x18.1]:Aq))) (tS h (gK (A7 (Le.trans (A9 (st':=⟨[Xa,NK],[(4,.row 48 [(HE 20),(Z6 v6.Bits),(Z6 v6.Lanes),(Z6 v6.Dst),(rA v1 (TB v6) (nz v6) x18.1),(Uj v6.Imm)]),(6,.row 48 qT),(30000,.row 90 (zh x18)),(Uk 37007 x18.2.2.2.1.length)],[]⟩) W8 Th q) (Fb (.cR (.cR .nil)) (.row (.cR (.cR (.cR (.cR (.cons AVle.untag (.cR .nil)))))) (.same (.same (.same .nil)))))))))) λh=>tB h λx20 y20 h=>gJ y20 (λb19=>aG Γ .normal (⟨[(0,V1),(2,(Z6 v1)),Xa,NK,(56,(.bool b19))],[(4,.row 48 (zA v6.Kind v6.Bits v6.Lanes v6.Dst v6.Args v6.Imm)),(6,.row 48 qT),(30000,.row 90 (vf v0 IS v7 v11)),(Uk 37007 v7.length)],[]⟩:St)) (λy h=>Af q [0,2,4,6,9,56] Th (gC h (λh=>tS h (gK (A7 (A9 lk Th q)))) λh=>Af q [0,2,4,6,9,56] Th (gC h (λh=>tS h (gK (A7 (A9 lk Th q)))) λh=>Af q lk Th (tS h (gK (A7 Gy)))))) (gA (gC h (λh=>tC h λah7 h=>tB h λx23 y23 h=>gR q [4,6,7] Th [(66,(q9 (TB v6) v1))] [(wj x23.1 x23.2.1.Params x23.2.1.Ret x23.2.1.Blocks x23.2.2.1.At x23.2.2.1.Then x23.2.2.1.Else x23.2.2.1.Join x23.2.2.2.1 x23.2.2.2.2 x23.2.2.2.1.length)] (c3 ah7 (Au 1 Ak (0:Int) ([(TB v6),v1]:Aq)) (E8 y23)) (zt9 h λaj7 ah6 h=>gR q W8 [4,6,73,30000,37007] [(69,(mJ x23.1)),(72,(Z8 (n4 v6))),(73,(AV.list 1 Ak 0 (([x23.1]:Aq)++(n4 v6)) (.own 73)))] [] (c7 (Au 1 Ak (0:Int) ([x23.1]:Aq)) aj7 (show(AVle (Z70 v6.Args) (Z8 (n4 v6))) from SJ) ah6 (show(3=Zx->([x23.1]:Aq).length=0\/0<(n4 v6).length) from(λh_=>absurd h_ (by decide))) (Cm 1 73 Ak (0:Int) ([x23.1]:Aq) (n4 v6)) (Bm ([x23.1]:Aq) (n4 v6))) (tS h (gK (A7 (A9 W8 Th q)))))) λh=>tS h (gK (A7 (A9 W8 Th q))))))))) (match x26,h with|⟨i1,l2,l3,i4,l5,i6,i7,i8,i9,l10,i11⟩,h=>gA (Af q [6] [6,30000,37007] (tS h (Bx HC)))))
def Hv(aaQ:List A0)(aaW:Int):(Int×Aq×Int×List Ab×Int×Int×Int×Int×List A0×Int)->Option (LR (Int×Aq×Int×List Ab×Int×Int×Int×Int×List A0×Int) (Aq×Int×List Ab×Int×Int×Int×Int×List A0×Int)):=
 λ(i1,l2,i3,l4,i5,i6,i7,i8,l9,i10)=>bif decide (i1<aaQ.length) then Ay (As i1 aaQ.length) ((I8 (aaQ.getD i1.toNat default) aaW ⟨l2,i3,l4⟩ ⟨i5,i6,i7,i8⟩ l9 i10).bind λx21=>Ay (x21.2.2.2.1.length+[(⟨x21.1.Kind,x21.1.Bits,x21.1.Lanes,x21.1.Dst,x21.1.Args,x21.1.Imm⟩:A0)].length<=room) (some (.next (w64 (i1+1),x21.2.1.Params,x21.2.1.Ret,x21.2.1.Blocks,x21.2.2.1.At,x21.2.2.1.Then,x21.2.2.1.Else,x21.2.2.1.Join,x21.2.2.2.1++[⟨x21.1.Kind,x21.1.Bits,x21.1.Lanes,x21.1.Dst,x21.1.Args,x21.1.Imm⟩],x21.2.2.2.2)))) else some (.done (l2,i3,l4,i5,i6,i7,i8,l9,i10))
def vh(x21:Acg):=([(⟨x21.1.Kind,x21.1.Bits,x21.1.Lanes,x21.1.Dst,x21.1.Args,x21.1.Imm⟩:A0)]:List A0)
abbrev ym:=(AI×AT×List A0×Int)
def E4(aaQ:List A0)(aaW:Int)(a3:AI)(a5:AT)(a7:List A0)(a8:Int):Option ym:=
 (Ae   (Hv aaQ aaW) (0,a3.Params,a3.Ret,a3.Blocks,a5.At,a5.Then,a5.Else,a5.Join,a7,a8)).bind λx23=>match x23 with|(l11,i12,l13,i14,i15,i16,i17,l18,i19)=>some (⟨l11,i12,l13⟩,⟨i14,i15,i16,i17⟩,l18,i19)
variable{v43:ym}
theorem Rq(h:E4 v7 v1 v0 IS v39 v11=some v43):sP 105 [V1,(SF v7),(Z6 v1)] (SE v0.Params v0.Ret v0.Blocks IS.At IS.Then IS.Else IS.Join v39 v11 v39.length) (.tuple []) (SE v43.1.Params v43.1.Ret v43.1.Blocks v43.2.1.At v43.2.1.Then v43.2.1.Else v43.2.1.Join v43.2.2.1 v43.2.2.2 v43.2.2.1.length):=
 sG Tryz.func105 λΓ q=>Af q eW Nv (tL q h eW Nv (λu (i1,l2,i3,l4,i5,i6,i7,i8,l9,i10)=>(Cv u [(10,(Z6 i1))] (SE l2 i3 l4 i5 i6 i7 i8 l9 i10 l9.length))) (λu (l11,i12,l13,i14,i15,i16,i17,l18,i19)=>aG Γ (.exit 0) (⟨[],(SE l11 i12 l13 i14 i15 i16 i17 l18 i19 l18.length),[]⟩:St)) (λ⟨i1,l2,i3,l4,i5,i6,i7,i8,l9,i10⟩ y h=>Af q [0,2,8,9,10,11] Nv (gC h (λh=>tV q [0,2,7,8,9,10] [7,30000,37007] h λh=>tB h λx21 y21 h=>tT q [0,2,7,8,9,10] [7,30000,37007] [⟨HC,[],(ZF x21.1),(SE x21.2.1.Params x21.2.1.Ret x21.2.1.Blocks x21.2.2.1.At x21.2.2.1.Then x21.2.2.1.Else x21.2.2.1.Join x21.2.2.2.1 x21.2.2.2.2 x21.2.2.2.1.length),[],[]⟩] (c1 (Yl y21)) (tC h λah7 h=>gR q eW Nv (Z42 24 (vh x21) 25 x21.2.2.2.1 37007) [] (c5 (Au 6 Iv (default:A0) (vh x21)) (Eq.refl x21.2.2.2.1.length) ah7 (Cm 6 37007 Iv (default:A0) x21.2.2.2.1 (vh x21)) (Bm x21.2.2.2.1 (vh x21))) (Af q eW Nv (tN h)))) λh=>tS h (gO (A7 (A9 [] Nv q))))) λx23 h=>(match x23,h with|⟨l11,i12,l13,i14,i15,i16,i17,l18,i19⟩,h=>pD (λst' hl24=>tS h (gK (e:=.normal) (Iq HC hl24)))))
def Xs(aW:Int):Option Bool:=
 Option.bind  (bif aW==4 then some (aW==4) else bif aW==16 then some (aW==16) else bif aW==17 then some (aW==17) else bif aW==18 then some (aW==18) else bif aW==19 then some (aW==19) else some (aW==20)) λx2=>bif x2 then some false else(Qm aW).bind λx4=>some x4
theorem dh(h:Xs v1=some v3):sP 141 [(Z6 v1)] [] (.bool v3) []:=
 sG Tryz.func141 λΓ q=>tW q [0] [] Nu [] (tB h λx2 y2 h=>gJ y2 (λb1=>aG Γ .normal (⟨[(0,(Z6 v1)),(4,(.bool b1))],[],[]⟩:St)) (λy h=>Af q Vb [] (gC h (λh=>tS h (gK (A7 (A9 [0,4] [] q)))) λh=>Af q Vb [] (gC h (λh=>tS h (gK (A7 (A9 [0,4] [] q)))) λh=>Af q Vb [] (gC h (λh=>tS h (gK (A7 (A9 [0,4] [] q)))) λh=>Af q Vb [] (gC h (λh=>tS h (gK (A7 (A9 [0,4] [] q)))) λh=>Af q Vb [] (gC h (λh=>tS h (gK (A7 (A9 [0,4] [] q)))) λh=>Af q [0,4] [] (tS h (gK (A7 Gy))))))))) (gA (gC h (λh=>Af q [2] [] (tS h (Bx []))) λh=>tB h λx4 y4 h=>tT q [2] [] [(Z7 x4)] (c1 (FY y4)) (tS h (Bx [])))))
def Qa(a2:A0):Option Bool:=
 (Xs a2.Kind).bind λx1=>some !x1
theorem FV(h:Qa v6=some v3):sP 107 [(ZF v6)] [] (.bool v3) []:=
 sG Tryz.func107 λΓ q=>Af q [1] [1] (tB h λx1 y1 h=>tT q [2] [] [(Z7 x1)] (c1 (dh y1)) (tS h (Bx [])))
def m_slices_IndexFunc_api_Op_api_Op_v2_L1(aM:List A0):Int->Option (LR Int (Unit ⊕ Int)):=
 λi1=>bif decide (i1<aM.length) then Ay (As i1 aM.length) ((Qa (aM.getD i1.toNat default)).bind λx3=>bif x3 then some (.done (.inr i1)) else some (.next (w64 (i1+1)))) else some (.done (.inl ()))
def Qh(Γ:Ip)(aM:List A0)(r:Int):Exit->St->Prop:=fK Tryz.prog Γ Tryz.f104.results.toList [] (.int .i64 r) []
def Fz(aM:List A0):Option Int:=
 (Ae   (m_slices_IndexFunc_api_Op_api_Op_v2_L1 aM) 0).bind λx4=>match x4 with | .inl _=>some (-1) | .inr r6=>some r6
theorem Qe(h:Fz v7=some v1):sP 104 [(SF v7),(.clo 107 [] [])] [] (.int .i64 v1) []:=
 sG Tryz.func104 λΓ q=>tW q Gu [] CH [] (tL q h CH [] (λu i1=>(Cv u [(8,(Z6 i1))] [])) (λu x_=>match x_ with|(.inl _)=>aG Γ (.exit 0) (⟨[],[],[]⟩:St)|(.inr r_)=>aR (Qh Γ v7 r_)) (λi1 y h=>Af q lr [] (gC h (λh=>Af q ls [] (tC h λc2_ h=>tB h λx3 y3 h=>tT q lY [] [(Z7 x3)] (c2 c2_ (FV y3)) (gC h (λh=>Af q [4] [] (tS h (gO (M8 (Iq [] (Le.refl _ _)))))) λh=>Af q CH [] (tN h)))) λh=>tS h (gO (A7 (A9 [] [] q))))) λx4 h=>(match x4,h with | .inl _,h=>gA (Af q [4] [] (tS h (Bx []))) | .inr r6,h=>gAr (λst' hk=>tS h (gK hk))))
def C1(aM:List A0):Option Bool:=
 (Fz aM).bind λx1=>some (decide (0<=x1))
theorem Ox(h:C1 v7=some v3):sP 65 [(SF v7),(.clo 107 [] [])] [] (.bool v3) []:=
 sG Tryz.func65 λΓ q=>Af q Gu [] (tB h λx1 y1 h=>tT q [4] [] [(DM x1)] (c1 (Qe y1)) (tS h (Bx [])))
def vi(x2:ym):List AV:=(Z2 x2.1.Params x2.1.Ret x2.1.Blocks x2.2.1.At x2.2.1.Then x2.2.1.Else x2.2.1.Join x2.2.2.1 x2.2.2.2)
def Acy(a3:AI)(a5:AT)(a7:List A0)(a8:Int):List AV:=(Z2 a3.Params a3.Ret a3.Blocks a5.At a5.Then a5.Else a5.Join a7 a8)
def Acx(x15:qB):List NB:=(SE x15.2.1.Params x15.2.1.Ret x15.2.1.Blocks x15.2.2.1.At x15.2.2.1.Then x15.2.2.1.Else x15.2.2.1.Join x15.2.2.2.1 x15.2.2.2.2 x15.2.2.2.1.length)
def Im(aaE:Int)(a3:AI)(a5:AT)(a7:List A0)(a8:Int):Option ym:=
 (Gf a5.Then a3 a5 a7 a8).bind λx1=>(E4 x1 aaE a3 a5 a7 a8).bind λx2=>(Gf x2.2.1.Else x2.1 x2.2.1 x2.2.2.1 x2.2.2.2).bind λx3=>Option.bind  ((C1 x3).bind λx14=>bif x14 then(Cp 0 1 1 [] x2.1 x2.2.1 x2.2.2.1 x2.2.2.2).bind λx15=>(Cp 7 1 0 [aaE,x15.1] x15.2.1 x15.2.2.1 x15.2.2.2.1 x15.2.2.2.2).bind λx16=>some (x16.1,x16.2.1.Params,x16.2.1.Ret,x16.2.1.Blocks,x16.2.2.1.At,x16.2.2.1.Then,x16.2.2.1.Else,x16.2.2.1.Join,x16.2.2.2.1,x16.2.2.2.2) else some (0,x2.1.Params,x2.1.Ret,x2.1.Blocks,x2.2.1.At,x2.2.1.Then,x2.2.1.Else,x2.2.1.Join,x2.2.2.1,x2.2.2.2)) λx17=>match x17 with|(i4,l5,i6,l7,i8,i9,i10,i11,l12,i13)=>(E4 x3 i4 ⟨l5,i6,l7⟩ ⟨i8,i9,i10,i11⟩ l12 i13).bind λx19=>some (x19.1,x19.2.1,x19.2.2.1,x19.2.2.2)
theorem Xd(h:Im v1 v0 IS v7 v11=some v43):sP 68 [V1,(Z6 v1)] (SE v0.Params v0.Ret v0.Blocks IS.At IS.Then IS.Else IS.Join v7 v11 v7.length) (.tuple []) (SE v43.1.Params v43.1.Ret v43.1.Blocks v43.2.1.At v43.2.1.Then v43.2.1.Else v43.2.1.Join v43.2.2.1 v43.2.2.2 v43.2.2.1.length):=
 sG Tryz.func68 λΓ q=>tB h λx1 y1 h=>tB h λx2 y2 h=>tT q Gu Nv [⟨HC,[],(SF x1),(fS 90 (Acy v0 IS v7 v11) 37007 v7.length),[],Nv⟩,⟨HC,[],(.tuple []),(fS 90 (vi x2) 37007 x2.2.2.1.length),[],[]⟩] (ci (Qo y1) (rkc [(.row 90 (Acy v0 IS v7 v11)),(.tok 6 48 v7.length)] (c1 (Rq y2)))) (tB h λx3 y3 h=>tT q [0,1,4] Nv [⟨HC,[],(SF x3),(fS 90 (vi x2) 37007 x2.2.2.1.length),[],Nv⟩] (ci (Qo y3) (rkl [(.row 90 (vi x2)),(.tok 6 48 x2.2.2.1.length)])) (Af q [0,1,4,5] Nv (tB h λx17 y17 h=>gJ y17 (λ(i4,l5,i6,l7,i8,i9,i10,i11,l12,i13)=>aG Γ .normal (⟨[(0,V1),(4,(SF x3)),(5,(Z6 i4))],(SE l5 i6 l7 i8 i9 i10 i11 l12 i13 l12.length),[]⟩:St)) (λy h=>tB h λx14 y14 h=>tT q [0,1,4,5,24] Nv [(Z7 x14)] (c1 (Ox y14)) (gC h (λh=>tB h λx15 y15 h=>tB h λx16 y16 h=>gR q [0,4,5] Nv [(29,(q9 v1 x15.1))] [(wi 37007 x15.1 (Acx x15)),(wj x16.1 x16.2.1.Params x16.2.1.Ret x16.2.1.Blocks x16.2.2.1.At x16.2.2.1.Then x16.2.2.1.Else x16.2.2.1.Join x16.2.2.2.1 x16.2.2.2.2 x16.2.2.2.1.length)] (c3 (show(sP 108 [V1,Js,mK,(.int .u64 (1:Int)),HD] (fS 90 (vi x2) 37007 x2.2.2.1.length) (Z6 x15.1) (Acx x15)) from(Spec.args (.cR (.cR (.cR (.cR (.cons AP .nil))))) (E8 y15))) (Au 1 Ak (0:Int) ([v1,x15.1]:Aq)) (E8 y16)) (tS h (gK (A7 Gy)))) λh=>tS h (gK (A7 (A9 [0,4,5] Nv q))))) (match x17,h with|⟨i4,l5,i6,l7,i8,i9,i10,i11,l12,i13⟩,h=>gA (tB h λx19 y19 h=>tT q [] Nv [⟨HC,[],(.tuple []),(SE x19.1.Params x19.1.Ret x19.1.Blocks x19.2.1.At x19.2.1.Then x19.2.1.Else x19.2.1.Join x19.2.2.1 x19.2.2.2 x19.2.2.1.length),[],[]⟩] (c1 (Rq y19)) (tS h (gK (e:=.normal) (Iq HC (Le.refl _ _)))))))))
def Hz(aaX:Int)(a3:AI)(a5:AT)(a7:List A0)(a8:Int):Option Int:=
 bif aaX==-1 then some a5.At else some aaX
theorem S9(h:Hz v1 v0 IS v7 v11=some v20):sP 109 [V1,(Z6 v1)] (SE v0.Params v0.Ret v0.Blocks IS.At IS.Then IS.Else IS.Join v7 v11 v7.length) (.int .i64 v20) (SE v0.Params v0.Ret v0.Blocks IS.At IS.Then IS.Else IS.Join v7 v11 v7.length):=
 sG Tryz.func109 λΓ q=>tW q Gu Nv [0,1,6] Nv (gC h (λh=>Af q [4] Nv (tS h (Bx HC))) λh=>Af q [4] Nv (tS h (Bx HC)))
def Up(aI:A8)(aL:Int):Option Int:=
 (E7 aI.From aL).bind λx1=>Ay (As x1 aI.Args.length) (some (aI.Args.getD x1.toNat 0))
theorem MH(h:Up v4 v1=some v11):sP 111 [(.agg (Eb v4)),(Z6 v1)] [] (.int .i64 v11) []:=
 sG Tryz.func111 λΓ q=>Af q Oa [2] (tB h λx1 y1 h=>tC h λc2_ h=>tT q [4] [] [(DM x1)] (c2 (Rr y1) c2_) (tS h (Bx [])))
def Jy(aH:Int)(aaE:Int)(aaR:Int)(aaT:Int)(a3:AI)(a5:AT)(a7:List A0)(a8:Int):Option qB:=
 bif aaR==aaT then some (aaR,a3,a5,a7,a8) else(Cp 13 aH 0 [aaE,aaR,aaT] a3 a5 a7 a8).bind λx1=>some (x1.1,x1.2.1,x1.2.2.1,x1.2.2.2.1,x1.2.2.2.2)
variable{v44:Int}
theorem Zj(h:Jy v1 v11 v20 v40 v0 IS v7 v44=some v41):sP 110 [V1,(Z6 v1),(Z6 v11),(Z6 v20),(Z6 v40)] (SE v0.Params v0.Ret v0.Blocks IS.At IS.Then IS.Else IS.Join v7 v44 v7.length) (Z6 v41.1) (SE v41.2.1.Params v41.2.1.Ret v41.2.1.Blocks v41.2.2.1.At v41.2.2.1.Then v41.2.2.1.Else v41.2.2.1.Join v41.2.2.2.1 v41.2.2.2.2 v41.2.2.2.1.length):=
 sG Tryz.func110 λΓ q=>tW q XW Nv [0,1,2,3,4,13] Nv (gC h (λh=>Af q [10] Nv (tS h (Bx HC))) λh=>tB h λx1 y1 h=>gR q [10] Nv [(20,(wr v11 v20 v40))] [(wj x1.1 x1.2.1.Params x1.2.1.Ret x1.2.1.Blocks x1.2.2.1.At x1.2.2.1.Then x1.2.2.1.Else x1.2.2.1.Join x1.2.2.2.1 x1.2.2.2.2 x1.2.2.2.1.length)] (c2 (Au 1 Ak (0:Int) ([v11,v20,v40]:Aq)) (E8 y1)) (tS h (Bx HC)))
def Q0(aC:Int):Option Bool:=
 some (aC !=aC)
theorem Zh(h:Q0 v1=some v3):sP 184 [(Z6 v1)] [] (.bool v3) []:=
 sG Tryz.func184 λΓ q=>tW q [0] [] [2] [] (tS h (Bx []))
def Wa(aC:Int)(aa6:Int):Option Bool:=
 (Q0 aC).bind λx1=>(bif x1==true then Q0 aa6 else some false).bind λx2=>some (bif bif x1 then !x2 else false then true else decide (aC<aa6))
theorem RU(h:Wa v1 v11=some v3):sP 159 [(Z6 v1),(Z6 v11)] [] (.bool v3) []:=
 sG Tryz.func159 λΓ q=>Af q Gu [] (tB h λx1 y1 h=>tB h λx2 y2 h=>tT q [4] [] [(Z7 x1),(Z7 x2)] (d5_ (Zh y1) (gI (x1==true)) (λ(hg:(x1==true)=true)=>(Zh (Bj hg y2))) (gI (x1==true)) (Nh x1) (Kj ((bif x1 then(!x2) else false)==false) (c1 (Jr (bif x1 then(!x2) else false))))) (tS h (Bx [])))
def Nl(aC:Int):Option Bool:=
 some (aC !=aC)
theorem Ve(h:Nl v1=some v3):sP 160 [(Z6 v1)] [] (.bool v3) []:=
 sG Tryz.func160 λΓ q=>tW q [0] [] [2] [] (tS h (Bx []))
def Cc(aC:Aq)(aa4:Int):Oj->Option nf:=
 λ(i1,i2)=>bif decide (i1<i2) then Ay (As (w64 (Zu .u64 (Jp (w64 (i1+i2))) 1)) aC.length) ((Wa (aC.getD (w64 (Zu .u64 (Jp (w64 (i1+i2))) 1)).toNat 0) aa4).bind λx5=>bif x5 then some (.next (w64 (w64 (Zu .u64 (Jp (w64 (i1+i2))) 1)+1),i2)) else some (.next (i1,w64 (Zu .u64 (Jp (w64 (i1+i2))) 1)))) else some (.done i1)
def qU(x6:Int)(aC:Aq):=((decide (x6<(aC.length:Int)))==true)
def ZM(x6:Int)(aC:Aq)(aa4:Int):=((qU x6 aC)&&(((aC.getD x6.toNat 0)==aa4)==false))
def Fg(aC:Aq)(aa4:Int):Option (Int×Bool):=
 (Ae   (Cc aC aa4) (0,aC.length)).bind λx6=>Ay ((decide (x6<aC.length)==true)=true->As x6 aC.length) (Ay ((decide (x6<aC.length)==true&&(aC.getD x6.toNat 0==aa4)==false)=true->As x6 aC.length) ((bif decide (x6<aC.length)==true&&(aC.getD x6.toNat 0==aa4)==false then Nl (aC.getD x6.toNat 0) else some false).bind λx10=>(bif decide (x6<aC.length)==true&&(aC.getD x6.toNat 0==aa4)==false&&x10==true then Nl aa4 else some false).bind λx11=>some (x6,bif decide (x6<aC.length) then bif aC.getD x6.toNat 0==aa4 then true else bif x10 then x11 else false else false)))
variable{v45:(Int×Bool)}
theorem T7(h:Fg v2 v1=some v45):sP 143 [(Z8 v2),(Z6 v1)] [] (.tuple [(Z6 v45.1),(.bool v45.2)]) []:=
 sG Tryz.func143 λΓ q=>tW q Gu [] [0,1,6] [] (Af q XT [] (tL q h XT [] (λu (i1,i2)=>(Cv u [(7,(Z6 i1)),(8,(Z6 i2))] [])) (λu i3=>aG Γ (.exit 0) (N6 YF [] u [(7,(Z6 i3))] [])) (λ⟨i1,i2⟩ y h=>Af q [0,1,6,7,8,15] [] (gC h (λh=>tU q [0,1,6,7,8,9] [] (c1 (show(0<=(1:Int)) from(by decide))) (tC h λc4_ h=>tB h λx5 y5 h=>tT q [0,1,6,7,8,9,27] [] [(Z7 x5)] (c2 c4_ (RU y5)) (gC h (λh=>Af q XT [] (tN h)) λh=>Af q XT [] (tN h)))) λh=>tS h (gO (A7 (A9 YF [] q))))) λx6 h=>gA (zt9 h λc8_ c9_ h=>tB h λx10 y10 h=>tB h λx11 y11 h=>tT q R3 [] [(Z7 x10),(Z7 x11)] (Kj (qU x6 v2) (ci c8_ (bW (qU x6 v2) (Kj (ZM x6 v2 v1) (ci c9_ (Kj (ZM x6 v2 v1) (c9 (λ(hg:(ZM x6 v2 v1)=true)=>(Ve (Bj hg y10))) (gI (ZM x6 v2 v1)) (gI ((ZM x6 v2 v1)&&(x10==true))) (λ(hg:((ZM x6 v2 v1)&&(x10==true))=true)=>(Ve (Bj hg y11))) (gI (ZM x6 v2 v1)) (show((ZM x6 v2 v1)=true->(x10=true->((ZM x6 v2 v1)&&(x10==true))=true)) from(λhg=>(aT hg))) (gI (qU x6 v2)) (show((qU x6 v2)=true->(((v2.getD x6.toNat 0)==v1)=false->(ZM x6 v2 v1)=true)) from(λhg=>(aF hg))) (Nh (decide (x6<(v2.length:Int))))))))))) (tS h (Bx [])))))
end
end Go.Proofs.YthelaonnkkpbfaaGreat
