/-
  The machine, the program's functions and the laws' arithmetic: part 3 of 6.
-/
import Derived.Test.YtlnbjgmjaioagaaGreatPk2
import Derived.Test.YtlnbjgmjaioagaaGreatProg
set_option linter.unusedSectionVars false
set_option linter.unusedVariables false
set_option linter.unusedSimpArgs false
namespace Go.Proofs.YtlnbjgmjaioagaaGreat
noncomputable section
abbrev Ao:=List Int
abbrev J8:=List (List Int)
def Iv:=[30000,37006,9100005]
def ET:=[(30000,30000),(37006,37006),(9100005,9100005)]
def Iy:=[30000,37006]
def Tg:=[3,30000,37006,9100005]
def Yw:=[(30000,30000),(37007,37007)]
def Qe:=[2,5,6,25,36007]
def Jv:=[1,5,5003]
def Wp:=[6,30000,37006,9100005]
def Mj:=[30000,37007]
def Ho:=[1,3,4]
def Gl:=[1,3,4,5]
def Zf:=[(30000,30000),(37006,37006)]
def Cb:=[2,3]
def Ro:=[4,6,30000,37007]
def Tl:=[5,10,36011,36012]
def Kb:=[2,13,21]
def Oq:=[1,3,4,5,6]
def Rp:=[8,30000,37006]
def NN:=[1,2,3,4,5,10,11,12,18,19,20]
def Nd:=[1,7,8,9]
def Zg:=[30000,37006,13000005]
def Jl:=[2,5,7]
def JJ:=[3,5,30000,37006,9100005]
def JK:=[0,4,6,21,22,30,31,32]
def Fe:=[0,1]
def FP:=[2,5,6,7,26,27,28]
def V3:=[2,7,77,70077]
def Ll:=[37,75]
def Nf:=[1,5003]
def FQ:=[1,3,5,21,22,23]
def FR:=[1,2,4,10,11,12]
def NO:=[5,30000,37006,9100005]
def kN:=[0,2,3,8,9,16,17,18,54,55,56,62,63,64]
def Iz:=[1,3]
def kO:=[0,2,3,5,16,17,18,24,25,26,31,32,33]
def Tm:=[1,6,5003]
def Rq:=[1,5,14]
def Pf:=[0,1,5]
def Lz:=[3,14]
def FS:=[2,5,6,7,8,9]
def Zh:=[1,2,7,5005]
def UL:=[1,2,4,5,6,7,8,10]
def YS:=[3,9,30000,37006,9100005]
def UM:=[0,2,6,7,90,91,92]
def DE:=[2,5,6,7,8]
def ed:=[0,2,3,16,17,18,24,25,26]
def ee:=[0,2,3,16,17,18,54,55,56]
def Vd:=[2,33,59]
def YT:=[0,1,5,6,7,37,38,39]
def rD:=[(30000,30000),(37006,37006),(13000005,9200005)]
def rE:=[(30000,30000),(37006,37006),(9300005,9200005)]
def kP:=[1,3,5,6,7,21,22,23,50,51,52]
def V4:=[10,70010]
def FT:=[1,3,7,5005]
def UN:=[1,2,7,5005,5008]
def Ng:=[1,2]
def Tn:=[0,3,4]
def kQ:=[1,3,5,6,7,21,22,23,50,51]
def UO:=[5007,30000,37007]
def YU:=[2,6,43,5602,30000]
def NP:=[1,5,7,11,12]
def UP:=[2,35,37,46,51]
def rF:=[1,3,5,6,7,10,11,21,22,23,50,51]
def rG:=[1,3,5,6,7,10,21,22,23,50,51,63]
def NQ:=[1,7,8,9,10]
def V5:=[2,5,6]
def YV:=[3,31,30000,37006]
def UQ:=[2,6,17,18,19]
def YW:=[1,5,7,11,12,13]
def eg:=[1,2,5,6,7,8,9,10]
def NR:=[1,6,7,8,9]
def kR:=[3,4,11,12,13,18,19,20]
def kS:=[0,5,12,13,14,18,19,20]
def kT:=[3,5,14,15,16,21,22,23]
def Zi:=[2,4,11]
def Zj:=[2,4,10]
def Xk:=[1,4,7]
def kU:=[6,7,30000,37006,9100005]
def kV:=[1,5,7,11,12,13,14,15]
def rH:=[1,3,5,6,7,9,21,22,23,50,51]
def YX:=[1,3,7,10,5005]
def UR:=[1,7,8,9,16]
def FU:=[0,21,22]
def R0:=[0,3]
def YY:=[31,30000,37006]
def R3:=[1,4]
def JL:=[1,3,5,6]
def JM:=[0,1,7,8]
def JN:=[1,3,5005]
def kW:=[3,14,15,16,33,34,35]
def JO:=[1,3,4,6]
def YZ:=[1,2,5,6,7,8]
def eh:=[0,2,3,16,17,18]
def ek:=[1,2,4,6,7,8,9]
def en:=[2,5,7,10,11,12]
def NS:=[33,59,103]
def S4:=[2,4]
def DF:=[1,2,4]
def rI:=[0,4,6,21,22,30,31,32,33]
def rJ:=[0,4,6,21,22,30,31,32,40]
def Vb:=[2,4,6]
def GX:=[0,4,12,13]
def LM:=[0,5,8,9,10]
def iK:=[0,4,6,8,21,22,30,31,32]
def bW:=[1,2,4,5,13,14,15]
def LN:=[1,5,72,5003]
def CY:=[2,5,7,9]
def CZ:=[2,4,6,9]
def TH:=[2,3,7,8,9,10]
def TI:=[1,2,6,8,9,10]
def qn:=[(30000,30000),(37006,37006),(8,9200005)]
def bX:=[1,3,4,5,9,10,11]
def GY:=[1,3,7,17]
def Wm:=[1,2,5]
def Px:=[4,5]
def LO:=[0,16,17,18]
def LP:=[(6002,20000)]
def iL:=[1,2,4,5,6,7,13,14,15]
def TJ:=[0,2,4,7,8,9]
def LQ:=[1,2,4,5,6]
def LS:=[1,5,7,5003]
def bY:=[2,5,6,7,8,9,10]
def iM:=[6,8,30000,37006,9100005]
def TK:=[3,30000,37006]
def bZ:=[2,4,5,18,19,20]
def iN:=[0,6,8,9,10,11,12,13]
def ba:=[2,3,25,43,30000]
def bb:=[1,3,4,5,6,7,8]
def Yu:=[2,3,5]
def DA:=[0,1,10]
def TL:=[3,11,12,13]
def TM:=[0,12,13,14]
def TN:=[(6004,20000)]
def TO:=[0,1,6,7,8]
def TP:=[6,18,19,25]
def TQ:=[3,14,15,16]
def TR:=[0,2,4,7,8]
def TS:=[2,3,7,8,9]
def TT:=[1,3,5,6,7]
def TU:=[1,3,5,6,8]
def TV:=[1,3,4,5,9]
def iO:=[1,5,7,11,12,13,14]
def TW:=[1,2,4,6,7]
def Tf:=[2,5]
def bc:=[0,4,12,13,14]
def LT:=[2,5,6,7]
def LU:=[18,19,20]
def DB:=[2,5006]
def be:=[1,5,11,12,13]
def iP:=[1,2,4,5,6,7,8,9]
def Wn:=[2,16]
def qo:=[2,5,6,7,9,10,26,27,28,44]
def GZ:=[1,4,22]
def HA:=[1,3,17]
def TX:=[5,7,12,13]
def iQ:=[30000,37006,9300005]
def bf:=[2,6,43,30000]
def iR:=[0,1,5,6,8,9,10]
def Vc:=[4,6]
def LV:=[2,35,37]
def TY:=[2,5,7,10]
def bg:=[0,1,3,9,10]
def bh:=[0,2,8,9,10]
def HB:=[0,2,3]
def iS:=[0,1,5,14,15,16]
def HC:=[1,3,5]
def HD:=[2,3,6]
def iT:=[1,2,4,5,6,7,8]
def HE:=[1,2,6]
def qp:=[2,5,6,7,9,10,26,27,28]
def bi:=[3,10,11,12]
def TZ:=[1,2,4,5]
def UA:=[0,1,6,7]
def UB:=[0,1,5,6]
def bj:=[0,15,16,17]
def bm:=[0,21,22,23]
def Wo:=[6,7]
def iU:=[0,6,8,9,11,49]
def UC:=[0,2,4,5]
def UD:=[1,2,5005]
def UE:=[2,3,7,8]
def UF:=[2,3,8005]
def bn:=[1,3,4,5,7]
def qq:=[(36011,34000),(55,34002)]
def qr:=[(36012,34000),(60,34002)]
def qs:=[(30000,30000),(25,37007)]
def iV:=[0,1,5,7,8,16]
def qt:=[2,5,6,7,26,27,28,29]
def DC:=[1,14]
def qu:=[1,2,4,6,10,11,12,20]
def qv:=[1,2,4,7,10,11,12,28]
def DD:=[2,33]
def UG:=[5,18,19]
def UH:=[6,18,19]
def iW:=[1,2,15,16,17]
def qw:=[2,5,6,7,9,26,27,28]
def iX:=[0,1,32,33,34]
def qx:=[10,30000,37006,9100005]
def iY:=[1,3,7,9,5005]
def iZ:=[3,5,14,15,16]
def Yv:=[0,4]
def qy:=[1,2,4,7,8,10,11,12]
def ia:=[1,3,5,6,7,8]
def ib:=[1,2,4,6,7,8]
def bo:=[2,5,6,25]
def qz:=[2,5,6,7,8,9,10,60]
def q8:=[4,30000,37006,9100005]
def bp:=[(20000,10)]
def q9:=[2,6,9,43,5602,30000]
def bq:=[2,4,6,10]
def br:=[2,4,7,10]
def ic:=[0,3,4,14,15]
def ig:=[0,4,6,21,22]
def ii:=[2,5,7,10,11]
def rA:=[1,2,4,10,11,12,13]
def bs:=[0,2,7,8]
def ij:=[(34001,34001)]
def LW:=[18,19]
def ik:=[0,2,4,6,56]
def rB:=[2,7,77,60077,70077]
def LX:=[15,18]
def bt:=[2,5,7,8]
def rC:=[9,5007,30000,37007]
def UI:=[5,6,7]
def il:=[1,23,24,25]
def UJ:=[0,1,2]
def io:=[1,2,5,6,7]
def UK:=[0,2,7]
def ip:=[3,38,39,40]
def iq:=[0,37,38,39]
def ir:=[0,1,7,8,9]
def iu:=[0,1,5,7,8]
def iv:=[0,1,2,3,4]
def iw:=[0,2,4,5,6]
def iy:=[(5003,20000)]
def iz:=[2,35,37,46]
def jA:=[0,1,12,13]
def jB:=[0,6,21,22]
def jC:=[2,43,30000]
def jD:=[(14,20000)]
open Go Go.RowKit
set_option maxRecDepth 100000
set_option maxHeartbeats 2000000
def Am(x:Int):List AV:=[(.int .i64 x)]
def Kk(x:Ao):List AV:=[(AV.list 1 Am 0 x .none)]
structure Bf where
 Bits:Int
 Dst:Int
 From:Ao
 Args:Ao
 deriving Inhabited,DecidableEq
def Gs(x:Bf):List AV:=[(.int .i64 x.Bits),(.int .i64 x.Dst),(AV.list 1 Am 0 x.From .none),(AV.list 1 Am 0 x.Args .none)]
def xA(x:List Bf):List AV:=[(AV.list 4 Gs default x .none)]
def Abh(x:Int):List AV:=[(.int .u64 x)]
structure A2 where
 Kind:Int
 Bits:Int
 Lanes:Int
 Dst:Int
 Args:Ao
 Imm:Int
 deriving Inhabited,DecidableEq
def Kd(x:A2):List AV:=[(.int .i64 x.Kind),(.int .i64 x.Bits),(.int .i64 x.Lanes),(.int .i64 x.Dst),(AV.list 1 Am 0 x.Args .none),(.int .u64 x.Imm)]
def zZ(x:List A2):List AV:=[(AV.list 6 Kd default x .none)]
structure Jm where
 Kind:Int
 Arg:Int
 To:Ao
 deriving Inhabited,DecidableEq
def jY(x:Jm):List AV:=[(.int .i64 x.Kind),(.int .i64 x.Arg),(AV.list 1 Am 0 x.To .none)]
structure Ab where
 Phis:List Bf
 Ops:List A2
 End:Jm
 deriving Inhabited,DecidableEq
def Bd(x:Ab):List AV:=[(AV.list 4 Gs default x.Phis .none),(AV.list 6 Kd default x.Ops .none),(.int .i64 x.End.Kind),(.int .i64 x.End.Arg),(AV.list 1 Am 0 x.End.To .none)]
def oa(x:List Ab):List AV:=[(AV.list 5 Bd default x .none)]
structure TFunc where
 Params:Ao
 Ret:Int
 Blocks:List Ab
 deriving Inhabited,DecidableEq
def eTFunc(x:TFunc):List AV:=[(AV.list 1 Am 0 x.Params .none),(.int .i64 x.Ret),(AV.list 5 Bd default x.Blocks .none)]
structure THammock where
 At:Int
 Then:Int
 Else:Int
 Join:Int
 deriving Inhabited,DecidableEq
def Db(x:THammock):List AV:=[(.int .i64 x.At),(.int .i64 x.Then),(.int .i64 x.Else),(.int .i64 x.Join)]
abbrev Hn:=(Int×Int)
def Bq(x:Hn):List AV:=[(.int .i64 x.1),(.int .i64 x.2)]
structure L4 where
 block:Int
 at_:Int
 deriving Inhabited,DecidableEq
def OX(x:L4):List AV:=[(.int .i64 x.block),(.int .i64 x.at_)]
structure Be where
 v:Int
 shape:Hn
 place:L4
 deriving Inhabited,DecidableEq
def Ol(x:Be):List AV:=[(.int .i64 x.v),(.int .i64 x.shape.1),(.int .i64 x.shape.2),(.int .i64 x.place.block),(.int .i64 x.place.at_)]
structure TGraph where
 Succ:J8
 Pred:J8
 deriving Inhabited,DecidableEq
def jZ(x:TGraph):List AV:=[(AV.list 1 Kk [] x.Succ .none),(AV.list 1 Kk [] x.Pred .none)]
def eB(x:Bool):List AV:=[(.bool x)]
structure Ax where
 shape:Hn
 place:L4
 deriving Inhabited,DecidableEq
def ja(x:Ax):List AV:=[(.int .i64 x.shape.1),(.int .i64 x.shape.2),(.int .i64 x.place.block),(.int .i64 x.place.at_)]
structure Qi where
 f:TFunc
 h:THammock
 ops:List A2
 last:Int
 deriving Inhabited,DecidableEq
structure Cd where
 V:Int
 Block:Int
 At:Int
 Shape:Hn
 deriving Inhabited,DecidableEq
def Pz(x:Cd):List AV:=[(.int .i64 x.V),(.int .i64 x.Block),(.int .i64 x.At),(.int .i64 x.Shape.1),(.int .i64 x.Shape.2)]
structure C9 where
 V:Int
 Block:Int
 At:Int
 Shape:Hn
 deriving Inhabited,DecidableEq
def O5(x:C9):List AV:=[(.int .i64 x.V),(.int .i64 x.Block),(.int .i64 x.At),(.int .i64 x.Shape.1),(.int .i64 x.Shape.2)]
def td(x:List Bool):List AV:=[(AV.list 1 eB false x .none)]
def Wy(x:Int):List AV:=[(.int .u8 x)]
structure wX where
 Write:Bool
 At:Int
 Byte:Int
 deriving Inhabited,DecidableEq
structure Abn where
 bytes:Ao
 trace:List wX
 deriving Inhabited,DecidableEq
structure Abo where
 Code:Int
 Value:Int
 Steps:Int
 deriving Inhabited,DecidableEq
theorem mix:Tryz.prog.follows .mixedOrders=true:=by kernel_rfl
abbrev sP:=Spec Tryz.prog
abbrev OM:=(Nat×Own)
theorem sG {f : FuncId} {fn : Func} {args : List AV} {H H' : List OM} {res : AV} (hf : Tryz.prog.funcs[f]? = some fn) (k : ∀ Γ : H4, RgQ Tryz.prog Γ fn.ntmps H → GG Tryz.prog Γ (fK Tryz.prog Γ fn.results.toList H res H') (vW (ZR fn) []) (KD args H)) (hb : fn.body.isSome = true := by kernel_rfl) (hname : (fn.name == "runtime.NumGoroutine") = false := by kernel_rfl) (hlen : Nat.ble args.length fn.ntmps = true := by kernel_rfl) (hpl : RQ H = true := by kernel_rfl) : sP f args H res H' := EG mix hf k hb hname hlen hpl
def En:List Ab:=([(⟨([]:List Bf),([]:List A2),(⟨(2:Int),(1:Int),([(1:Int),(2:Int)]:Ao)⟩:Jm)⟩:Ab),(⟨([]:List Bf),([(⟨(0:Int),(8:Int),(1:Int),(2:Int),([]:Ao),(1:Int)⟩:A2)]:List A2),(⟨(1:Int),(0:Int),([(3:Int)]:Ao)⟩:Jm)⟩:Ab),(⟨([]:List Bf),([(⟨(0:Int),(8:Int),(1:Int),(3:Int),([]:Ao),(2:Int)⟩:A2)]:List A2),(⟨(1:Int),(0:Int),([(3:Int)]:Ao)⟩:Jm)⟩:Ab),(⟨([(⟨(8:Int),(4:Int),([(1:Int),(2:Int)]:Ao),([(2:Int),(3:Int)]:Ao)⟩:Bf)]:List Bf),([]:List A2),(⟨(0:Int),(4:Int),([]:Ao)⟩:Jm)⟩:Ab)]:List Ab)
def Z1:=λza zb zc zd zf zg zm=>((30000,.row 105 [(AV.list 1 Am 0 za .none),(.int .i64 zb),(AV.list 5 Bd default zc .none),(.int .i64 zd),(AV.list 1 Am 0 zf .none),(.omap zg),(AV.list 5 Ol default zm (.own 37006))]):Nat×Own)
def Z2:=λza zb zc zd zf zg zm zn zp=>([(AV.list 1 Am 0 za .none),(.int .i64 zb),(AV.list 5 Bd default zc .none),(.int .i64 zd),(.int .i64 zf),(.int .i64 zg),(.int .i64 zm),(AV.list 6 Kd default zn (.own 37007)),(.int .i64 zp)]:List AV)
def Z3:=λza zb zc zd zf zg zm=>([(30000,.row 105 [(AV.list 1 Am 0 za .none),(.int .i64 zb),(AV.list 5 Bd default zc .none),(.int .i64 zd),(AV.list 1 Am 0 zf .none),.nilm,(AV.list 5 Ol default zg (.own 37006))]),(37006,.tok 5 198 zm)]:List OM)
def Z4:=λza (zb:Ao)=>((za,.arr 1 3 zb.length (λi=>Am (zb.getD i 0))):Nat×Own)
def Z5:=λza zb zc=>([(AV.list 1 Am 0 za .none),(.int .i64 zb),(AV.list 5 Bd default zc .none)]:List AV)
def Z6:=λza=>((.int .i64 za):AV)
def Z7:=λza=>(⟨[],[],(.bool za),[],[],[]⟩:Ve)
def Z8:=λza zb zc zd zf zg zm zn=>([(Z1 za zb zc zd zf 9100005 zg),(37006,.tok 5 198 zm),(9100005,.obj (.map false .i64 zn))]:List OM)
def Z9:=λza zb zc=>((.clo 133 [] [(.rpo [(AV.list 5 Bd default za .none)]),(.rpo [(AV.list 1 Kk [] zb .none)]),(.rpo [(Z6 zc)])]):AV)
def Mw:=λza=>((AV.list 1 Am 0 za .none):AV)
def sn:=λza=>((AV.list 2 Bq ((0:Int),(0:Int)) za .none):AV)
def mf:=λza zb=>(⟨[(14,32000)],[],(AV.list 1 Wy 0 za (.own 32000)),[(32000,.tok 1 5 zb)],[],[]⟩:Ve)
def cJ:=λza zb zc zd=>((za,.arr 1 22 zb (Oz 1 Am (0:Int) zc (Tag.fam zd))):Nat×Own)
def La:=((.int .i64 (0:Int)):AV)
def ZK:=λza zb zc zd zf zg zm=>([(Z1 za zb zc zd zf 9100005 zg),(37006,.tok 5 198 zm)]:List OM)
def vL:=λza zb zc=>(⟨[],[(20000,za)],(AV.list 1 Wy 0 zb (.own 20000)),[(20000,.tok 1 5 zc)],[],[]⟩:Ve)
def OP:=λza zb zc zd zf zg zm zn zp zq=>([(30000,.row 71 (Z2 za zb zc zd zf zg zm zn zp)),(37007,.tok 6 51 zq)]:List OM)
def HL:=λza zb=>((AV.list 1 Am 0 za (.own zb)):AV)
def zL:=λza zb zc zd zf zg=>((30000,.row 105 [(Mw za),(Z6 zb),(AV.list 5 Bd default zc .none),(Z6 zd),(Mw zf),(.omap 8),(AV.list 5 Ol default zg (.own 37006))]):Nat×Own)
def N8:=((2,(.ptr 2 0)):Nat×AV)
def FY:=λza=>((AV.list 1 Kk [] za .none):AV)
def mg:=λza=>((3,(AV.list 5 O5 default za (.own 5003))):Nat×AV)
def Z23:=λza (zb:Ao) (zc:Ao)=>((.slice 1 (bif za then zb.length else zc.length) (λi=>bif za then Am (zb.getD i 0) else Am (zc.getD i 0)) .none):AV)
def VD:=λza=>((AV.list 5 Bd default za .none):AV)
def lA:=λza (zb:List Bool)=>((za,.arr 1 4 zb.length (λi=>eB (zb.getD i false))):Nat×Own)
def lB:=λza zb=>([(30000,.row 71 za),(37007,.tok 6 51 zb)]:List OM)
def UT:=((.slice 0 0 (λ_=>[]) .exact):AV)
def jK:=((AV.list 1 Am 0 ([]:Ao) .exact):AV)
def JP:=λza=>(⟨[],[],(Z6 za),[],[],[]⟩:Ve)
def VE:=λza zb=>((AV.list 1 eB false za (.own zb)):AV)
def Xp:=λza=>((.agg (ja za)):AV)
def bu:=λza=>((AV.list 6 Kd default za .none):AV)
def mh:=λza=>((AV.list 1 Am 0 ([za]:Ao) .exact):AV)
def wd:=λza zb zc zd zf=>((37,.arr 1 143 za (λi_=>AV.eraseAll zb ((Fb zc zd 0 [(.vsl 46 zf)]) i_))):Nat×Own)
def zM:=λza zb zc zd zf zg zm zn=>(⟨[(30000,30000),(37006,37006),(9100005,9100005)],[],(.tuple []),(Z8 za zb zc zd zf zg zm zn),[],[]⟩:Ve)
def Z36:=(⟨[(4,(AV.list 1 Am 0 ([]:Ao) (.own 6004)))],[(6004,.tok 1 3 (([]:Ao).length))],[]⟩:St)
def Yz:=λza=>((.agg (eTFunc za)):AV)
def Zn:=((1,(.ptr 1 0)):Nat×AV)
def we:=λza zb zc=>(⟨[],[(20000,za)],(HL zb 20000),[(20000,.tok 1 3 zc)],[],[]⟩:Ve)
def vM:=((AV.list 6 Kd default ([]:List A2) .exact):AV)
def JQ:=λza=>((.int .i64 (za:Int)):AV)
def jL:=λza zb=>((AV.list 6 Kd default za (.own zb)):AV)
abbrev NI:=(Nat×AV)
def Z43:=λza zb zc zd=>([(za,(AV.list 5 O5 default zb .exact)),(zc,(AV.list 5 O5 default (zd++zb) (.own 5003)))]:List NI)
def ss:=λza=>((3,(AV.list 5 Pz default za (.own 5003))):Nat×AV)
def cK:=λza zb=>((AV.list 1 Wy 0 za (.own zb)):AV)
def Z46:=λza (zb:List Be) (zc:List Be)=>((.slice 5 (bif za then zb.length else zc.length) (λi=>bif za then Ol (zb.getD i default) else Ol (zc.getD i default)) (.own 37006)):AV)
def zN:=((AV.list 2 Bq ((0:Int),(0:Int)) ([]:List Hn) .exact):AV)
def Wu:=((.ptr 30000 0):AV)
def wg:=λza zb=>(⟨[],[],(.tuple [(.agg (jZ za)),(Z6 zb)]),[],[],[]⟩:Ve)
def wh:=λza zb=>((AV.list 2 Bq ((0:Int),(0:Int)) za (.own zb)):AV)
def vN:=λza zb=>((.agg (ja (Mc (default:Ax) za zb))):AV)
def Z52:=λza zb=>([(66,(AV.list 4 Db default ([za]:List THammock) .exact)),(67,(AV.list 4 Db default (zb++([za]:List THammock)) (.own 5005)))]:List NI)
def Sg:=λza zb=>((za,.tok 1 4 zb):Nat×Own)
def lC:=λza=>(⟨[],[],(sn za),[],[],[]⟩:Ve)
def vO:=λza zb zc zd zf zg=>([(Z6 za),(Z6 zb),(Z6 zc),(Z6 zd),(Mw zf),(.int .u64 zg)]:List AV)
def xy:=((AV.list 1 Kk [] ([]:J8) .exact):AV)
def xz:=λza zb zc=>(⟨[],[],(.tuple [(Z6 za),(Z6 zb),(.bool zc)]),[],[],[]⟩:Ve)
def M0:=λza zb zc=>((za,.tok 5 zb zc):Nat×Own)
def rO:=λza zb=>((AV.list 4 Db default za (.own zb)):AV)
def L5:=λza zb=>((2,.row za zb):Nat×Own)
def Z61:=λza zb zc zd=>([(za,(AV.list 5 Pz default zb .exact)),(zc,(AV.list 5 Pz default (zd++zb) (.own 5003)))]:List NI)
def VF:=((5,(.ptr 5 0)):Nat×AV)
def LZ:=((4,(.ptr 4 0)):Nat×AV)
def e7:=λza=>((.agg (Db za)):AV)
def V6:=λza zb=>((7,(.vsl za zb)):Nat×AV)
def rP:=λza zb=>((AV.list 1 Kk [] za (.own zb)):AV)
def Z67:=λza (zb:List Ab) (zc:List Ab)=>((.slice 5 (bif za then zb.length else zc.length) (λi=>bif za then Bd (zb.getD i default) else Bd (zc.getD i default)) .none):AV)
def ng:=λza zb=>((7,.row 97 [za,(.vsl 77 zb)]):Nat×Own)
def Z69:=λ(za:Ao)=>((.slice 1 (za.length-(1:Int).toNat) (λi=>Am (za.getD ((1:Int).toNat+i) 0)) .none):AV)
def mi:=((.int .i64 (1:Int)):AV)
def zO:=λ(za:Ao)=>((6,.arr 1 213 64 (λi=>Am (za.getD i 0))):Nat×Own)
def Z72:=λza zb zc zd zf zg zm zn zp=>(⟨[(30000,30000),(37006,37006),(9100005,9100005)],[],(.agg (OX za)),(Z8 zb zc zd zf zg zm zn zp),[],[]⟩:Ve)
def e8:=λza=>((.agg (jZ za)):AV)
def Z74:=λza (zb:Ao) (zc:Ao)=>((.slice 1 (bif (za==true) then zb.length else zc.length) (λi=>bif (za==true) then Am (zb.getD i 0) else Am (zc.getD i 0)) .none):AV)
def su:=λza=>((AV.list 1 Am 0 za .exact):AV)
def wi:=λza=>((AV.list 4 Gs default za .none):AV)
def mj:=λza=>((2,.row 97 [za,za]):Nat×Own)
def yA:=λza zb zc=>(⟨[(4,(HL za zb))],[(zb,.tok 1 3 zc)],[]⟩:St)
def UU:=λza=>((.agg (Kd za)):AV)
def Z80:=λza zb zc zd zf zg zm zn=>(⟨[(30000,30000),(37006,37006)],[],(.bool za),(Z3 zb zc zd zf zg zm zn),[],[]⟩:Ve)
def Z81:=(⟨[(2,(AV.list 2 Bq ((0:Int),(0:Int)) ([]:List Hn) (.own 6002)))],[(6002,.tok 2 88 (([]:List Hn).length))],[]⟩:St)
def zP:=λza zb=>(⟨[],[],(.tuple [(Yz za),(Z6 zb)]),[],[],[]⟩:Ve)
def Z83:=λza=>((za,.arr 1 3 (([]:Ao).length) (λi=>Am (([]:Ao).getD i 0))):Nat×Own)
def nh:=((6,(.vpt 6 64 0 0)):Nat×AV)
def Z85:=λ(za:List Hn)=>([(30,.arr 2 88 za.length (λi=>Bq (za.getD i ((0:Int),(0:Int)))))]:List OM)
def vP:=λza zb zc=>((.int .i64 (bif za then zb else zc)):AV)
def Z87:=λza zb zc=>((.agg [za,(.int .i64 (8:Int)),zb,(.int .i64 (3:Int)),zc,(.int .u64 (2:Int))]):AV)
def zQ:=λza zb zc=>((AV.list 1 Am 0 ([za,zb,zc]:Ao) .exact):AV)
def Z89:=((AV.list 4 Gs default ([]:List Bf) .exact):AV)
def ni:=((5,(.vpt 5 64 0 0)):Nat×AV)
def NX:=λza zb=>((za,.tok 6 51 zb):Nat×Own)
def Z92:=λza zb zc=>((.agg [za,(.int .i64 (8:Int)),zb,(.int .i64 (2:Int)),zc,(.int .u64 (1:Int))]):AV)
def Z93:=((AV.list 1 Kk [] ([]:J8) .none):AV)
def Z94:=λza zb zc zd zf zg zm zn zp=>(⟨[(30000,30000),(37006,37006),(9100005,9100005)],[],(.bool za),(Z8 zb zc zd zf zg zm zn zp),[],[]⟩:Ve)
def zR:=λza=>(⟨[],[],(.agg (Bq za)),[],[],[]⟩:Ve)
def ml:=λza=>((6,.arr 1 213 64 za):Nat×Own)
def JV:=λza=>((.int .u64 za):AV)
def yB:=λza zb=>((AV.list 4 Gs default za (.own zb)):AV)
def sv:=((.int .i64 (4:Int)):AV)
def si:=λza=>((AV.list 6 Kd default ([]:List A2) (.own za)):AV)
def sj:=λza zb zc=>(⟨[(30000,30000),(za,za)],[],(Z6 zb),zc,[],[]⟩:Ve)
def sk:=λza zb=>(⟨[],[],(.tuple [(e7 za),(.bool zb)]),[],[],[]⟩:Ve)
def sl:=λza zb zc zd zf zg zm zn zp zq zt=>(⟨[(30000,30000),(37007,37007)],[],(Z6 za),(OP zb zc zd zf zg zm zn zp zq zt),[],[]⟩:Ve)
def wZ:=λza=>((.slice 1 1 (λi=>([[(Z6 za)]]:List (List AV)).getD i []) .exact):AV)
def PM:=λza=>((5,.arr 1 212 64 za):Nat×Own)
def nd:=λza=>((.clo 122 [] [(.rptr (Db za))]):AV)
def zK:=λza zb zc zd=>([(za,(AV.list 6 Kd default zb .exact)),(zc,(AV.list 6 Kd default (zd++zb) (.own 37007)))]:List NI)
def nf:=λza zb zc zd=>((37,.arr 1 143 za (Fb zb zc 0 [(.vsl 46 zd)])):Nat×Own)
def wa:=λza zb zc zd zf zg zm zn zp=>([(30000,.row 71 [(Mw za),(Z6 zb),(VD zc),(Z6 zd),(Z6 zf),(Z6 zg),(Z6 zm),(bu zn),(Z6 zp)])]:List OM)
def k8:=λza zb zc=>(⟨[(4,(.vsl za zb))],[(Z4 za zc)],[]⟩:St)
def JS:=((7,(.ptr 7 0)):Nat×AV)
def JT:=((6,(.ptr 6 0)):Nat×AV)
def so:=((AV.list 1 Wy 0 ([]:Ao) .exact):AV)
def k9:=λza=>(⟨[],[],(Yz za),[],[],[]⟩:Ve)
def Z115:=(⟨[(2,(AV.list 1 Wy 0 ([]:Ao) (.own 6002)))],[(6002,.tok 1 5 (([]:Ao).length))],[]⟩:St)
def wb:=((AV.list 5 Bd default ([]:List Ab) .exact):AV)
def JU:=((3,(.ptr 3 0)):Nat×AV)
def Tq:=λza zb=>((za,.tok 1 3 zb):Nat×Own)
def sq:=λza zb=>(⟨[],[],(.tuple [(Z6 za),(Z6 zb)]),[],[],[]⟩:Ve)
def sr:=λza zb=>((AV.list 1 Am 0 ([za,zb]:Ao) .exact):AV)
def wc:=λza zb zc=>((6,.row 25 [za,(Z6 zb),(AV.list 5 Bd default zc (.own 5602))]):Nat×Own)

def Q8:AV:=La
def fD:AV:=mi
def vF:AV:=UT
def Q5:AV:=jK
def Q12:AV:=vM
def Q7:AV:=Z89
def Q4:AV:=(AV.list 1 Am 0 ([(3:Int)]:Ao) .exact)
def Q6:AV:=(AV.list 1 Am 0 ([(1:Int),(2:Int)]:Ao) .exact)
def Q2:AV:=(AV.list 6 Kd default ([(⟨(0:Int),(8:Int),(1:Int),(2:Int),([]:Ao),(1:Int)⟩:A2)]:List A2) .exact)
def Q3:AV:=(AV.list 6 Kd default ([(⟨(0:Int),(8:Int),(1:Int),(3:Int),([]:Ao),(2:Int)⟩:A2)]:List A2) .exact)
def Q1:AV:=(AV.list 4 Gs default ([(⟨(8:Int),(4:Int),([(1:Int),(2:Int)]:Ao),([(2:Int),(3:Int)]:Ao)⟩:Bf)]:List Bf) .exact)
def Q9:=(⟨[(0,(.ptr 0 0))],[(0,.row 25 [(AV.list 1 Am 0 ([(1:Int)]:Ao) .exact),(.int .i64 (8:Int)),(AV.list 5 Bd default En .exact)])],[]⟩:St)
def m_locksteplaw15_diamond :Option TFunc:=
 (some (⟨([(1:Int)]:Ao),(8:Int),En⟩:TFunc))
theorem Hw  (r:TFunc) (h:m_locksteplaw15_diamond=some r):sP 22 [] [] (Yz r) []:=
 sG Tryz.func22 λΓ q=>Ae q [0] [0] (gR q [0] [0] [(1,(AV.list 1 Am 0 ([(1:Int)]:Ao) .exact)),(2,Q6),(4,(.agg [Q7,Q12,(.int .i64 (2:Int)),fD,Q6])),(5,(Z92 Q8 fD Q5)),(6,Q2),(7,Q4),(9,(.agg [Q7,Q2,fD,Q8,Q4])),(10,(Z87 Q8 fD Q5)),(11,Q3),(12,Q4),(14,(.agg [Q7,Q3,fD,Q8,Q4])),(15,Q6),(16,(AV.list 1 Am 0 ([(2:Int),(3:Int)]:Ao) .exact)),(18,Q1),(19,(.agg [Q8,sv,Q5])),(20,(.agg [Q1,Q12,Q8,sv,Q5])),(21,(AV.list 5 Bd default En .exact))] [] (yC (Az 1 Am (0:Int) ([(1:Int)]:Ao)) (Az 1 Am (0:Int) ([(1:Int),(2:Int)]:Ao)) (show(AVle (.agg [vF,vF,(.int .i64 (2:Int)),fD,Q6]) (.agg [Q7,Q12,(.int .i64 (2:Int)),fD,Q6])) from(AVle.agg (.cons Dv (.cons Dv (.cons (AVle.refl _) (.cons (AVle.refl _) (.cons (AVle.refl _) .nil))))))) (show(AVle (Z92 Q8 fD vF) (Z92 Q8 fD Q5)) from(AVle.agg (.cons (AVle.refl _) (.cons (AVle.refl _) (.cons (AVle.refl _) (.cons (AVle.refl _) (.cons Dv (.cons (AVle.refl _) .nil)))))))) (Az 6 Kd (default:A2) ([(⟨(0:Int),(8:Int),(1:Int),(2:Int),([]:Ao),(1:Int)⟩:A2)]:List A2)) (Az 1 Am (0:Int) ([(3:Int)]:Ao)) (show(AVle (.agg [vF,Q2,fD,Q8,Q4]) (.agg [Q7,Q2,fD,Q8,Q4])) from(AVle.agg (.cons Dv (.cons (AVle.refl _) (.cons (AVle.refl _) (.cons (AVle.refl _) (.cons (AVle.refl _) .nil))))))) (show(AVle (Z87 Q8 fD vF) (Z87 Q8 fD Q5)) from(AVle.agg (.cons (AVle.refl _) (.cons (AVle.refl _) (.cons (AVle.refl _) (.cons (AVle.refl _) (.cons Dv (.cons (AVle.refl _) .nil)))))))) (Az 6 Kd (default:A2) ([(⟨(0:Int),(8:Int),(1:Int),(3:Int),([]:Ao),(2:Int)⟩:A2)]:List A2)) (c8 (Az 1 Am (0:Int) ([(3:Int)]:Ao)) (show(AVle (.agg [vF,Q3,fD,Q8,Q4]) (.agg [Q7,Q3,fD,Q8,Q4])) from(AVle.agg (.cons Dv (.cons (AVle.refl _) (.cons (AVle.refl _) (.cons (AVle.refl _) (.cons (AVle.refl _) .nil))))))) (Az 1 Am (0:Int) ([(1:Int),(2:Int)]:Ao)) (Az 1 Am (0:Int) ([(2:Int),(3:Int)]:Ao)) (Az 4 Gs (default:Bf) ([(⟨(8:Int),(4:Int),([(1:Int),(2:Int)]:Ao),([(2:Int),(3:Int)]:Ao)⟩:Bf)]:List Bf)) (show(AVle (.agg [Q8,sv,vF]) (.agg [Q8,sv,Q5])) from(AVle.agg (.cons (AVle.refl _) (.cons (AVle.refl _) (.cons Dv .nil))))) (show(AVle (.agg [Q1,vF,Q8,sv,Q5]) (.agg [Q1,Q12,Q8,sv,Q5])) from(AVle.agg (.cons (AVle.refl _) (.cons Dv (.cons (AVle.refl _) (.cons (AVle.refl _) (.cons (AVle.refl _) .nil))))))) (Az 5 Bd (default:Ab) En))) (O6 Q9 (tS h (gK (e:=.ret) (H5 [] (show Le Γ _ (⟨[(0,(.ptr 0 0))],[(0,.row 25 [(AV.list 1 Am 0 ([(1:Int)]:Ao) .none),(.int .i64 (8:Int)),(AV.list 5 Bd default En .none)])],[]⟩:St) from Le.trans (A8 (st':=Q9) [0] [0] q) (Gu (.cons (AVle.refl _) .nil) (.row (.cons AVle.untag (.cons (AVle.refl _) (.cons AVle.untag .nil))) .nil))))))))
abbrev iI:=(LR (Int×Int) Int)
def Qp(a0:TFunc):Hn->Option iI:=
 λ((i1,i2):Hn)=>(bif (decide (i2<(a0.Blocks.length:Int))) then(Aw (As i2 a0.Blocks.length) (some (.next ((w64 (i1+(w64 ((((a0.Blocks.getD i2.toNat default).Phis).length:Int)+(((a0.Blocks.getD i2.toNat default).Ops).length:Int))))),(w64 (i2+1)))))) else(some (.done i1)))
def Vq(a0:TFunc):Option Int:=
 ((Ad (Qp a0) ((a0.Blocks.length:Int),(0:Int))).bind (λx5=>(some x5)))
variable{v0:TFunc}{v1:Int}
theorem ar(h:Vq v0=some v1):sP 68 [(Yz v0)] [] (.int .i64 v1) []:=
 sG Tryz.func68 λΓ q=>tW q [1] [1] Iz [1] (Ae q bi [] (tL q h bi [] (λu (i1,i2)=>(Cn u [(3,(Z6 i1)),(12,(Z6 i2))] [])) (λu i3=>aG Γ (.exit 0) (⟨[(3,(Z6 i3))],[],[]⟩:St)) (λ⟨i1,i2⟩ y h=>Ae q [3,10,11,12,13] [] (gC h (λh=>tV q [3,5,10,11,12] [5] h λh=>tW q bi [] bi [] (tN h)) λh=>tS h (gO (A3 (A8 [3] [] q))))) λx5 h=>gA (Ae q [2] [] (tS h (Bp [])))))
def Ko(aB:Ao):Int->Option (LR Int (Unit ⊕ Bool)):=
 λ(i1:Int)=>(bif (decide (i1<(aB.length:Int))) then(Aw (As i1 aB.length) (bif (bif (decide ((aB.getD i1.toNat 0)<0)) then true else(decide ((2147483647:Int)<(aB.getD i1.toNat 0)))) then(some (.done (.inr false))) else(some (.next (w64 (i1+1)))))) else(some (.done (.inl ()))))
def HH(Γ:H4)(aB:Ao)(r:Bool):Exit->St->Prop:=fK Tryz.prog Γ Tryz.f69.results.toList [] (.bool r) []
def Ds(aB:Ao):Option Bool:=
 ((Ad (Ko aB) (0:Int)).bind (λx3=>(match x3 with|(.inl _)=>(some true)|(.inr r5)=>(some r5))))
variable{v2:Ao}{v3:Bool}
theorem Hl(h:Ds v2=some v3):sP 69 [(Mw v2)] [] (.bool v3) []:=
 sG Tryz.func69 λΓ q=>tW q [0] [] UI [] (tL q h UI [] (λu i1=>(Cn u [(7,(Z6 i1))] [])) (λu x_=>match x_ with|(.inl _)=>aG Γ (.exit 0) (⟨[],[],[]⟩:St)|(.inr r_)=>aR (HH Γ v2 r_)) (λi1 y h=>Ae q [5,6,7,8] [] (gC h (λh=>tV q [4,5,6,7] [] h λh=>tU q [5,6,7,16] [] (c2 (gI ((decide ((v2.getD i1.toNat 0)<0))==false)) (I4 (decide ((v2.getD i1.toNat 0)<0)))) (gC h (λh=>Ae q [2] [] (tS h (gO (Mk (H5 [] (Le.refl _ _)))))) λh=>Ae q UI [] (tN h))) λh=>tS h (gO (A3 (A8 [] [] q))))) λx3 h=>(match x3,h with | .inl _,h=>gA (Ae q [2] [] (tS h (Bp []))) | .inr r5,h=>gAr (λst' hk=>tS h (gK hk))))
def It(aB:Ao):Option Bool:=
 ((bif ((decide ((aB.length:Int)<=64))==true) then Ds aB else some false).bind λx1=>(some (bif (decide ((aB.length:Int)<=64)) then x1 else false)))
theorem Oh(h:It v2=some v3):sP 169 [(Mw v2)] [] (.bool v3) []:=
 sG Tryz.func169 λΓ q=>Ae q [0] [] (tB h λx1 y1 h=>tT q [2] [] [(Z7 x1)] (c3 (gI ((decide ((v2.length:Int)<=64))==true)) (λ(hg:((decide ((v2.length:Int)<=64))==true)=true)=>(Hl (Ba hg y1))) (M7 (decide ((v2.length:Int)<=64)))) (tS h (Bp [])))
def Qr(aJ:Bf):Option Bool:=
 ((Ds ([aJ.Bits,aJ.Dst]:Ao)).bind λx1=>((bif (x1==true) then It aJ.From else some false).bind λx2=>((bif ((bif x1 then x2 else false)==true) then It aJ.Args else some false).bind λx3=>(some (bif (bif x1 then x2 else false) then x3 else false)))))
variable{v4:Bf}
theorem OD(h:Qr v4=some v3):sP 125 [(.agg (Gs v4))] [] (.bool v3) []:=
 sG Tryz.func125 λΓ q=>Ae q [1] [1] (tB h λx1 y1 h=>tB h λx2 y2 h=>tB h λx3 y3 h=>gR q [2] [] [(7,(sr v4.Bits v4.Dst))] [(Z7 x1),(Z7 x2),(Z7 x3)] (PY (Az 1 Am (0:Int) ([v4.Bits,v4.Dst]:Ao)) (Hl y1) (J7 (x1==true) (PY (λ(hg:(x1==true)=true)=>(Oh (Ba hg y2))) (M7 x1) (J7 ((bif x1 then x2 else false)==true) (c2 (λ(hg:((bif x1 then x2 else false)==true)=true)=>(Oh (Ba hg y3))) (M7 (bif x1 then x2 else false))))))) (tS h (Bp [])))
def Hr(aB:List Bf):Int->Option (LR Int (Unit ⊕ Bool)):=
 λ(i1:Int)=>(bif (decide (i1<(aB.length:Int))) then(Aw (As i1 aB.length) ((Qr (aB.getD i1.toNat default)).bind λx3=>(bif (!x3) then(some (.done (.inr false))) else(some (.next (w64 (i1+1))))))) else(some (.done (.inl ()))))
def Zl(Γ:H4)(aB:List Bf)(r:Bool):Exit->St->Prop:=fK Tryz.prog Γ Tryz.f124.results.toList [] (.bool r) []
def J1(aB:List Bf):Option Bool:=
 ((Ad (Hr aB) (0:Int)).bind (λx4=>(match x4 with|(.inl _)=>(some true)|(.inr r6)=>(some r6))))
variable{v5:List Bf}
theorem Ya(h:J1 v5=some v3):sP 124 [(wi v5),(.clo 125 [] [])] [] (.bool v3) []:=
 sG Tryz.func124 λΓ q=>tW q Fe [] Nd [] (tL q h Nd [] (λu i1=>(Cn u [(9,(Z6 i1))] [])) (λu x_=>match x_ with|(.inl _)=>aG Γ (.exit 0) (⟨[],[],[]⟩:St)|(.inr r_)=>aR (Zl Γ v5 r_)) (λi1 y h=>Ae q NQ [] (gC h (λh=>tV q NR [6] h λh=>tB h λx3 y3 h=>tT q UR [] [(Z7 x3)] (c1 (OD y3)) (gC h (λh=>Ae q [4] [] (tS h (gO (Mk (H5 [] (Le.refl _ _)))))) λh=>Ae q Nd [] (tN h))) λh=>tS h (gO (A3 (A8 [] [] q))))) λx4 h=>(match x4,h with | .inl _,h=>gA (Ae q [4] [] (tS h (Bp []))) | .inr r6,h=>gAr (λst' hk=>tS h (gK hk))))
def Sk(a2:A2):Option Bool:=
 ((Ds ([a2.Kind,a2.Bits,a2.Lanes,a2.Dst]:Ao)).bind λx1=>((bif (x1==true) then It a2.Args else some false).bind λx2=>(some (bif x1 then x2 else false))))
variable{v6:A2}
theorem RH(h:Sk v6=some v3):sP 127 [(UU v6)] [] (.bool v3) []:=
 sG Tryz.func127 λΓ q=>Ae q [1] [1] (tB h λx1 y1 h=>tB h λx2 y2 h=>gR q [2] [] [(11,(AV.list 1 Am 0 ([v6.Kind,v6.Bits,v6.Lanes,v6.Dst]:Ao) .exact))] [(Z7 x1),(Z7 x2)] (PY (Az 1 Am (0:Int) ([v6.Kind,v6.Bits,v6.Lanes,v6.Dst]:Ao)) (Hl y1) (J7 (x1==true) (c2 (λ(hg:(x1==true)=true)=>(Oh (Ba hg y2))) (M7 x1)))) (tS h (Bp [])))
def Ie(aB:List A2):Int->Option (LR Int (Unit ⊕ Bool)):=
 λ(i1:Int)=>(bif (decide (i1<(aB.length:Int))) then(Aw (As i1 aB.length) ((Sk (aB.getD i1.toNat default)).bind λx3=>(bif (!x3) then(some (.done (.inr false))) else(some (.next (w64 (i1+1))))))) else(some (.done (.inl ()))))
def AK(Γ:H4)(aB:List A2)(r:Bool):Exit->St->Prop:=fK Tryz.prog Γ Tryz.f126.results.toList [] (.bool r) []
def Kn(aB:List A2):Option Bool:=
 ((Ad (Ie aB) (0:Int)).bind (λx4=>(match x4 with|(.inl _)=>(some true)|(.inr r6)=>(some r6))))
variable{v7:List A2}
theorem Zu(h:Kn v7=some v3):sP 126 [(bu v7),(.clo 127 [] [])] [] (.bool v3) []:=
 sG Tryz.func126 λΓ q=>tW q Fe [] Nd [] (tL q h Nd [] (λu i1=>(Cn u [(9,(Z6 i1))] [])) (λu x_=>match x_ with|(.inl _)=>aG Γ (.exit 0) (⟨[],[],[]⟩:St)|(.inr r_)=>aR (AK Γ v7 r_)) (λi1 y h=>Ae q NQ [] (gC h (λh=>tV q NR [6] h λh=>tB h λx3 y3 h=>tT q UR [] [(Z7 x3)] (c1 (RH y3)) (gC h (λh=>Ae q [4] [] (tS h (gO (Mk (H5 [] (Le.refl _ _)))))) λh=>Ae q Nd [] (tN h))) λh=>tS h (gO (A3 (A8 [] [] q))))) λx4 h=>(match x4,h with | .inl _,h=>gA (Ae q [4] [] (tS h (Bp []))) | .inr r6,h=>gAr (λst' hk=>tS h (gK hk))))
def Qq(aQ:Jm):Option Bool:=
 ((Ds ([aQ.Kind,aQ.Arg]:Ao)).bind λx1=>((bif (x1==true) then It aQ.To else some false).bind λx2=>(some (bif x1 then x2 else false))))
variable{v8:Jm}
theorem OC(h:Qq v8=some v3):sP 128 [(.agg (jY v8))] [] (.bool v3) []:=
 sG Tryz.func128 λΓ q=>Ae q [1] [1] (tB h λx1 y1 h=>tB h λx2 y2 h=>gR q [2] [] [(7,(sr v8.Kind v8.Arg))] [(Z7 x1),(Z7 x2)] (PY (Az 1 Am (0:Int) ([v8.Kind,v8.Arg]:Ao)) (Hl y1) (J7 (x1==true) (c2 (λ(hg:(x1==true)=true)=>(Oh (Ba hg y2))) (M7 x1)))) (tS h (Bp [])))
def Oa(aH:Ab):Option Bool:=
 ((J1 aH.Phis).bind λx1=>((bif (x1==true) then Kn aH.Ops else some false).bind λx2=>((bif ((bif x1 then x2 else false)==true) then Qq (⟨aH.End.Kind,aH.End.Arg,aH.End.To⟩:Jm) else some false).bind λx3=>(some (bif (bif x1 then x2 else false) then x3 else false)))))
variable{v9:Ab}
theorem IH(h:Oa v9=some v3):sP 71 [(.agg (Bd v9))] [] (.bool v3) []:=
 sG Tryz.func71 λΓ q=>Ae q [1] [1] (tB h λx1 y1 h=>tB h λx2 y2 h=>tB h λx3 y3 h=>tT q [2] [] [(Z7 x1),(Z7 x2),(Z7 x3)] (ci (Ya y1) (J7 (x1==true) (PY (λ(hg:(x1==true)=true)=>(Zu (Ba hg y2))) (M7 x1) (J7 ((bif x1 then x2 else false)==true) (c2 (λ(hg:((bif x1 then x2 else false)==true)=true)=>(OC (Ba hg y3))) (M7 (bif x1 then x2 else false))))))) (tS h (Bp [])))
def Gd(aB:List Ab):Int->Option (LR Int (Unit ⊕ Bool)):=
 λ(i1:Int)=>(bif (decide (i1<(aB.length:Int))) then(Aw (As i1 aB.length) ((Oa (aB.getD i1.toNat default)).bind λx3=>(bif (!x3) then(some (.done (.inr false))) else(some (.next (w64 (i1+1))))))) else(some (.done (.inl ()))))
def Ws(Γ:H4)(aB:List Ab)(r:Bool):Exit->St->Prop:=fK Tryz.prog Γ Tryz.f70.results.toList [] (.bool r) []
def Ic(aB:List Ab):Option Bool:=
 ((Ad (Gd aB) (0:Int)).bind (λx4=>(match x4 with|(.inl _)=>(some true)|(.inr r6)=>(some r6))))
variable{v10:List Ab}
theorem Wh(h:Ic v10=some v3):sP 70 [(VD v10),(.clo 71 [] [])] [] (.bool v3) []:=
 sG Tryz.func70 λΓ q=>tW q Fe [] Nd [] (tL q h Nd [] (λu i1=>(Cn u [(9,(Z6 i1))] [])) (λu x_=>match x_ with|(.inl _)=>aG Γ (.exit 0) (⟨[],[],[]⟩:St)|(.inr r_)=>aR (Ws Γ v10 r_)) (λi1 y h=>Ae q NQ [] (gC h (λh=>tV q NR [6] h λh=>tB h λx3 y3 h=>tT q UR [] [(Z7 x3)] (c1 (IH y3)) (gC h (λh=>Ae q [4] [] (tS h (gO (Mk (H5 [] (Le.refl _ _)))))) λh=>Ae q Nd [] (tN h))) λh=>tS h (gO (A3 (A8 [] [] q))))) λx4 h=>(match x4,h with | .inl _,h=>gA (Ae q [4] [] (tS h (Bp []))) | .inr r6,h=>gAr (λst' hk=>tS h (gK hk))))
def Q14(a0:TFunc):=(decide ((a0.Blocks.length:Int)<1))
def Q13(a0:TFunc):=(decide ((16:Int)<(a0.Params.length:Int)))
def Uh(a0:TFunc):Option Bool:=
 (bif (bif (decide ((a0.Blocks.length:Int)<1)) then true else(decide ((64:Int)<(a0.Blocks.length:Int)))) then(some false) else((bif ((decide ((16:Int)<(a0.Params.length:Int)))==false) then Vq a0 else some (0:Int)).bind λx1=>(bif (bif (decide ((16:Int)<(a0.Params.length:Int))) then true else(decide ((512:Int)<x1))) then(some false) else((Ds a0.Params).bind λx2=>((bif (x2==true) then Ds ([a0.Ret]:Ao) else some false).bind λx3=>((bif ((bif x2 then x3 else false)==true) then Ic a0.Blocks else some false).bind λx4=>(some (bif (bif x2 then x3 else false) then x4 else false))))))))
theorem MR(h:Uh v0=some v3):sP 28 [(Yz v0)] [] (.bool v3) []:=
 sG Tryz.func28 λΓ q=>Ae q [1] [1] (tU q [1,12] [1] (Sh ((Q14 v0)==false) (c1 (I4 (Q14 v0)))) (gC h (λh=>Ae q [2] [] (tS h (Bp []))) λh=>tB h λx1 y1 h=>tT q [1,21] [1] [(JP x1)] (c4 (gI ((Q13 v0)==false)) (λ(hg:((Q13 v0)==false)=true)=>(ar (Ba hg y1))) (gI ((Q13 v0)==false)) (I4 (Q13 v0))) (gC h (λh=>Ae q [2] [] (tS h (Bp []))) λh=>tB h λx2 y2 h=>tB h λx3 y3 h=>tB h λx4 y4 h=>gR q [2] [] [(28,(mh v0.Ret))] [(Z7 x2),(Z7 x3),(Z7 x4)] (ci (Hl y2) (J7 (x2==true) (zX (show((x2==true)=true->(AVle (wZ v0.Ret) (mh v0.Ret))) from(λhg=>@(Az 1 Am (0:Int) ([v0.Ret]:Ao)))) (gI (x2==true)) (λ(hg:(x2==true)=true)=>(Hl (Ba hg y3))) (M7 x2) (J7 ((bif x2 then x3 else false)==true) (c2 (λ(hg:((bif x2 then x3 else false)==true)=true)=>(Wh (Ba hg y4))) (M7 (bif x2 then x3 else false))))))) (tS h (Bp [])))))
def Ns(aaZ:Bool)(aQ:Int):Option Int:=
 (bif aaZ then(some (0:Int)) else(some aQ))
variable{v11:Int}
theorem Y4(h:Ns v3 v1=some v11):sP 140 [(.bool v3),(Z6 v1)] [] (.int .i64 v11) []:=
 sG Tryz.func140 λΓ q=>tW q Fe [] [1,5] [] (gC h (λh=>Ae q [4] [] (tS h (Bp []))) λh=>Ae q [4] [] (tS h (Bp [])))
abbrev mZ:=(Int×TFunc×Int×Ao×List Be)
def Kl(a3:TFunc)(a5:Int)(a7:Ao)(aA:List Be):Option mZ:=
 ((Uh a3).bind λx1=>((Ns x1 (4:Int)).bind λx2=>(some (x2,a3,a5,a7,aA))))
variable{v12:List Be}{v13:mZ}
theorem Zs(h:Kl v0 v1 v2 v12=some v13):sP 87 [Wu] (Z3 v0.Params v0.Ret v0.Blocks v1 v2 v12 v12.length) (Z6 v13.1) (Z3 v13.2.1.Params v13.2.1.Ret v13.2.1.Blocks v13.2.2.1 v13.2.2.2.1 v13.2.2.2.2 v13.2.2.2.2.length):=
 sG Tryz.func87 λΓ q=>Ae q [0] Iy (tB h λx1 y1 h=>tB h λx2 y2 h=>tT q [2] Iy [(Z7 x1),(JP x2)] (c2 (MR y1) (Y4 y2)) (tS h (Bp Zf)))
def Ml(aW:Int):Option Bool:=
 (some (bif (decide ((1:Int)<=aW)) then(decide (aW<=64)) else false))
theorem W7(h:Ml v1=some v3):sP 129 [(Z6 v1)] [] (.bool v3) []:=
 sG Tryz.func129 λΓ q=>Ae q [0] [] (tU q [2] [] (c2 (gI ((decide ((1:Int)<=v1))==true)) (M7 (decide ((1:Int)<=v1)))) (tS h (Bp [])))
def Kh(aK:Int)(aW:Int):Option Bool:=
 (some (bif (decide ((0:Int)<=aK)) then(decide (aK<aW)) else false))
theorem Sc(h:Kh v1 v11=some v3):sP 170 [(Z6 v1),(Z6 v11)] [] (.bool v3) []:=
 sG Tryz.func170 λΓ q=>Ae q Fe [] (tU q [4] [] (J7 ((decide ((0:Int)<=v1))==true) (c1 (M7 (decide ((0:Int)<=v1))))) (tS h (Bp [])))
def Fh(aQ:Jm)(aW:Int):Int->Option (LR Int (Unit ⊕ Bool)):=
 λ(i7:Int)=>(bif (decide (i7<(aQ.To.length:Int))) then(Aw (As i7 aQ.To.length) ((bif (((aQ.To.getD i7.toNat 0)==0)==false) then Kh (aQ.To.getD i7.toNat 0) aW else some false).bind λx9=>(bif (bif ((aQ.To.getD i7.toNat 0)==0) then true else(!x9)) then(some (.done (.inr false))) else(some (.next (w64 (i7+1))))))) else(some (.done (.inl ()))))
def Yx(Γ:H4)(aQ:Jm)(aW:Int)(r:Bool):Exit->St->Prop:=fK Tryz.prog Γ Tryz.f130.results.toList [] (.bool r) []
def Q15(aQ:Jm)(i7:Int):=((aQ.To.getD i7.toNat 0)==0)
def Pm(aQ:Jm)(aW:Int):Option Bool:=
 (Option.bind (α:=(Int ⊕ Bool)) (Option.bind (α:=Bool) (bif (aQ.Kind==0) then(some (aQ.Kind==0)) else(some (aQ.Kind==3))) (λx3=>(bif x3 then(some (.inl (0:Int))) else(bif (aQ.Kind==1) then(some (.inl (1:Int))) else(bif (aQ.Kind==2) then(some (.inl (2:Int))) else(some (.inr false))))))) (λx5=>(match x5 with|(.inl i1)=>(bif ((aQ.To.length:Int)!=i1) then(some false) else((Ad (Fh aQ aW) (0:Int)).bind (λx10=>(match x10 with|(.inl _)=>(some true)|(.inr r12)=>(some r12)))))|(.inr r13)=>(some r13))))
theorem KS(h:Pm v8 v1=some v3):sP 130 [(.agg (jY v8)),(Z6 v1)] [] (.bool v3) []:=
 sG Tryz.func130 λΓ q=>tW q Ng [2] Wm [2] (tB h λx5 y5 h=>gJ y5 (λx_=>match x_ with|(.inl i1)=>aG Γ .normal (⟨[(1,(Z6 v1)),N8,(5,(Z6 i1))],[(2,.row 46 [(Z6 v8.Kind),(Z6 v8.Arg),(Mw v8.To)])],[]⟩:St)|(.inr r_)=>aR (Yx Γ v8 v1 r_)) (λy h=>Ae q [1,2,5,9] [2] (tB h λx3 y3 h=>gJ y3 (λb2=>aG Γ .normal (⟨[(1,(Z6 v1)),N8,(5,La),(9,(Z6 v8.Kind)),(10,(.bool b2))],[(2,.row 46 [(Z6 v8.Kind),(Z6 v8.Arg),(Mw v8.To)])],[]⟩:St)) (λy h=>Ae q [1,2,5,9,10] [2] (gC h (λh=>tS h (gK (A3 Gt))) λh=>Ae q [1,2,5,9,10] [2] (tS h (gK (A3 Gt))))) (gA (gC h (λh=>tS h (gK (A3 (A8 Wm [2] q)))) λh=>Ae q [1,2,9,13] [2] (gC h (λh=>Ae q Wm [2] (tS h (gK (A3 Gt)))) λh=>Ae q [1,2,15] [2] (gC h (λh=>Ae q Wm [2] (tS h (gK (A3 Gt)))) λh=>Ae q [4] [] (tS h (gK (Mk (H5 [] (Le.refl _ _))))))))))) (match x5,h with | .inl i1,h=>gA (Ae q [1,2,21] [2] (gC h (λh=>Ae q [4] [] (tS h (Bp []))) λh=>Ae q il [] (tL q h il [] (λu i7=>(Cn u [(25,(Z6 i7))] [])) (λu x_=>match x_ with|(.inl _)=>aG Γ (.exit 1) (⟨[],[],[]⟩:St)|(.inr r_)=>aR (Yx Γ v8 v1 r_)) (λi7 y h=>Ae q [1,23,24,25,26] [] (gC h (λh=>tV q [1,7,23,24,25] [] h λh=>tB h λx9 y9 h=>tT q [1,23,24,25,36] [] [(Z7 x9)] (J7 ((Q15 v8 i7)==false) (c3 (λ(hg:((Q15 v8 i7)==false)=true)=>(Sc (Ba hg y9))) (gI ((Q15 v8 i7)==false)) (I4 (Q15 v8 i7)))) (gC h (λh=>Ae q [4] [] (tS h (gO (Mk (H5 [] (Le.refl _ _)))))) λh=>Ae q il [] (tN h))) λh=>tS h (gO (A3 (A8 [] [] q))))) λx10 h=>(match x10,h with | .inl _,h=>gA (Ae q [4] [] (tS h (Bp []))) | .inr r12,h=>gAr (λst' hk=>tS h (gK hk)))))) | .inr r13,h=>gAr (λst' hk=>tS h (gK hk))))
abbrev rV:=(Int×J8)
abbrev yT6:=(LR (Int×J8) J8)
def M9(a6:J8)(i2:Int):rV->Option yT6:=
 λ((i6,l7):rV)=>(bif (decide (i6<((a6.getD i2.toNat []).length:Int))) then(Aw (As i6 (a6.getD i2.toNat []).length) (Aw (As ((a6.getD i2.toNat []).getD i6.toNat 0) l7.length) (Aw (As ((a6.getD i2.toNat []).getD i6.toNat 0) l7.length) (Aw ((l7.getD ((a6.getD i2.toNat []).getD i6.toNat 0).toNat []).length+([i2]:Ao).length<=room) (Aw (As ((a6.getD i2.toNat []).getD i6.toNat 0) l7.length) (some (.next ((w64 (i6+1)),(l7.set ((a6.getD i2.toNat []).getD i6.toNat 0).toNat ((l7.getD ((a6.getD i2.toNat []).getD i6.toNat 0).toNat [])++([i2]:Ao))))))))))) else(some (.done l7)))
def Kp(a6:J8):rV->Option yT6:=
 λ((i2,l3):rV)=>(bif (decide (i2<(a6.length:Int))) then(Aw (As i2 a6.length) ((Ad (M9 a6 i2) ((0:Int),l3)).bind (λx14=>(some (.next ((w64 (i2+1)),x14)))))) else(some (.done l3)))
def sC(i2:Int):=([i2]:Ao)
def md(a6:J8)(i2:Int)(i6:Int):=((a6.getD i2.toNat []).getD i6.toNat 0)
def nH(l7:J8)(a6:J8)(i2:Int)(i6:Int):=(l7.getD (md a6 i2 i6).toNat [])
def vr(a6:J8):=(List.replicate (a6.length:Int).toNat ([]:Ao))
def yf(l7:J8)(a6:J8)(i2:Int)(i6:Int):=(l7.set (md a6 i2 i6).toNat ((nH l7 a6 i2 i6)++(sC i2)))
def Q19(a6:J8):List NI:=[(0,(FY a6)),(3,(.vsl 10 (a6.length:Int).toNat))]
def Q18(l7:J8)(i2:Int)(a6:J8)(i6:Int):List NI:=[(3,(.vsl 10 l7.length)),(4,(Z6 i2)),(11,(FY a6)),(12,(JQ a6.length)),(13,(Z6 i2)),(18,(AV.list 1 Am 0 (a6.getD i2.toNat []) .none)),(19,(.int .i64 ((a6.getD i2.toNat []).length:Int))),(20,(Z6 i6))]
def Q22(l7:J8)(i2:Int)(a6:J8)(i6:Int):List NI:=[(3,(.vsl 10 l7.length)),(4,(Z6 i2)),(7,(Z6 (md a6 i2 i6))),(11,(FY a6)),(12,(JQ a6.length)),(13,(Z6 i2)),(18,(AV.list 1 Am 0 (a6.getD i2.toNat []) .none)),(19,(.int .i64 ((a6.getD i2.toNat []).length:Int))),(20,(Z6 i6))]
def Nu(a6:J8):Option J8:=
 (Aw (0<=(a6.length:Int)/\(a6.length:Int)<=(a6.length:Int)/\(a6.length:Int)<=(room:Int)) ((Ad (Kp a6) ((0:Int),(List.replicate (a6.length:Int).toNat ([]:Ao)))).bind (λx16=>(some x16))))
variable{v14:J8}{v15:J8}
theorem Y6(h:Nu v14=some v15):sP 132 [(FY v14)] [] (rP v15 20000) [(20000,.tok 1 22 v15.length)]:=
 sG Tryz.func132 λΓ q=>have hΓ:=q.own;gR q [0] [] [(2,xy)] [] (c1 (Bc 1 Kk [])) (tV q R0 [10] h λh=>O6 (⟨(Q19 v14),[(10,.arr 1 22 ((v14.length:Int).toNat) (λi_=>AV.eraseAll (λn_=>B3 n_ [10]) ((λ_=>[UT]) i_)))],[]⟩:St) (M1 (Le.trans (Gu (st':=⟨(Q19 v14),[(10,.arr 1 22 ((v14.length:Int).toNat) (Oz 1 Am (0:Int) (vr v14) (λ_=>.exact)))],[]⟩) (TmpsLe.refl _) (.arr cx .nil)) (Le.trans (Le.trans (dI (r:=10) (b:=70010) Am (0:Int) (vr v14) 3 rfl rfl (S2 ..).symm (λh_=>absurd h_ (by decide))) (H6 (st':=⟨(Q19 v14),[(10,.arr 1 22 ((v14.length:Int).toNat) (Oz 1 Am (0:Int) (vr v14) (Tag.fam 70010)))],[(70010,⟨1,3,Nn (vr v14)⟩)]⟩) (by kernel_rfl))) (H6 (Bl (λk_:Nat=>(⟨[(0,(FY v14)),(3,(.vsl 10 k_))],[(cJ 10 k_ (vr v14) 70010)],[(70010,⟨1,3,Nn (vr v14)⟩)]⟩:St)) (show(v14.length:Int).toNat=(vr v14).length from(S2 ..).symm))))) (Ae q TL V4 (tL q h TL V4 (λu (i2,l3)=>(Cn u [(3,(.vsl 10 l3.length)),(13,(Z6 i2))] [(cJ 10 l3.length l3 70010)] [(70010,⟨1,3,Nn l3⟩)])) (λu l4=>aG Γ (.exit 0) (⟨[(3,(.vsl 10 l4.length))],[(cJ 10 l4.length l4 70010)],[(70010,⟨1,3,Nn l4⟩)]⟩:St)) (λ⟨i2,l3⟩ y h=>Ae q [3,11,12,13,14] V4 (gC h (λh=>tV q [3,4,5,11,12,13] V4 h λh=>Ae q kR V4 (tL q h kR V4 (λu (i6,l7)=>(Cn u [(3,(.vsl 10 l7.length)),(20,(Z6 i6))] [(cJ 10 l7.length l7 70010)] [(70010,⟨1,3,Nn l7⟩)])) (λu l8=>aG Γ (.exit 2) (Nc TL V4 u [(3,(.vsl 10 l8.length))] [(cJ 10 l8.length l8 70010)] [(70010,⟨1,3,Nn l8⟩)])) (λ⟨i6,l7⟩ y h=>Ae q [3,4,11,12,13,18,19,20,21] V4 (gC h (λh=>tV q [3,4,7,11,12,13,18,19,20] V4 h λh=>O6 (⟨(Q22 l7 i2 v14 i6),[(cJ 10 l7.length l7 70010)],[(70010,⟨1,3,Nn l7⟩)]⟩:St) (tC h λc10_ h=>tC h λc11_ h=>tC h λc12_ h=>tC h λc13_ h=>M1 (Le.trans (jm (r:=10) (b:=70010) (k:=60010) Am (0:Int) l7 (md v14 i2 i6).toNat 3 rfl rfl rfl rfl (Qo c10_) (by kernel_rfl) (.here .nil)) (H6 (st':=⟨(Q22 l7 i2 v14 i6),[(10,.arr 1 22 l7.length (Oz 1 Am (0:Int) l7 (Hi 70010 (md v14 i2 i6).toNat 60010))),(60010,.tok 1 3 ((nH l7 v14 i2 i6).length))],[(70010,⟨1,3,BJ l7 (md v14 i2 i6).toNat⟩)]⟩) (by kernel_rfl))) (gR q kR [10,60010,70010] [(29,(HL (nH l7 v14 i2 i6) 60010)),(31,(su (sC i2))),(32,(AV.list 1 Am 0 ((nH l7 v14 i2 i6)++(sC i2)) (.own 60010)))] [] (yC c11_ (Eq.refl l7.length) (show(AVle (((Oz 1 Am (0:Int) l7 (Hi 70010 (md v14 i2 i6).toNat 60010)) (md v14 i2 i6).toNat).getD 0 .any) (HL (nH l7 v14 i2 i6) 60010)) from WR) (Az 1 Am (0:Int) (sC i2)) (Eq.refl ((nH l7 v14 i2 i6).length)) c12_ (Cu 1 60010 Am (0:Int) (nH l7 v14 i2 i6) (sC i2)) (Br (nH l7 v14 i2 i6) (sC i2)) c13_ (c1 (Eq.refl l7.length))) (O6 (⟨(Q18 l7 i2 v14 i6),[(10,.arr 1 22 l7.length (λi_=>AV.eraseAll (λn_=>B3 n_ [10,60010,70010]) ((Fb (Oz 1 Am (0:Int) l7 (Hi 70010 (md v14 i2 i6).toNat 60010)) (md v14 i2 i6).toNat 0 [(AV.list 1 Am 0 ((nH l7 v14 i2 i6)++(sC i2)) (.own 60010))]) i_))),(60010,.tok 1 3 (((nH l7 v14 i2 i6)++(sC i2)).length))],[(70010,⟨1,3,BJ l7 (md v14 i2 i6).toNat⟩)]⟩:St) (M1 (Le.trans (Le.trans (pC (r:=10) (b:=70010) (k:=60010) Am (0:Int) l7 (md v14 i2 i6).toNat ((nH l7 v14 i2 i6)++(sC i2)) 3 rfl (dy (Qo c10_) rfl rfl) rfl rfl rfl rfl (Qo c10_) (by kernel_rfl) (.here (.tok .nil)) (by rw[hΓ];rfl)) (H6 (st':=⟨(Q18 l7 i2 v14 i6),[(cJ 10 l7.length (yf l7 v14 i2 i6) 70010)],[(70010,⟨1,3,Nn (yf l7 v14 i2 i6)⟩)]⟩) (by kernel_rfl))) (H6 (Bl (λk_:Nat=>(⟨[(3,(.vsl 10 k_)),(4,(Z6 i2)),(11,(FY v14)),(12,(JQ v14.length)),(13,(Z6 i2)),(18,(AV.list 1 Am 0 (v14.getD i2.toNat []) .none)),(19,(.int .i64 ((v14.getD i2.toNat []).length:Int))),(20,(Z6 i6))],[(cJ 10 k_ (yf l7 v14 i2 i6) 70010)],[(70010,⟨1,3,Nn (yf l7 v14 i2 i6)⟩)]⟩:St)) (show l7.length=(yf l7 v14 i2 i6).length from(D0 ..).symm)))) (Ae q kR V4 (tN h))))))) λh=>tS h (gO (A3 (A8 TL V4 q))))) λx14 h=>gA (Ae q TL V4 (tN h)))) λh=>tS h (gO (A3 (A8 [3] V4 q))))) λx16 h=>gA (Ae q [2] V4 (O6 (⟨[(2,(.vsl 10 x16.length))],[(cJ 10 x16.length x16 70010)],[(70010,⟨1,3,Nn x16⟩)]⟩:St) (tS h (gK (e:=.ret) (H5 [(10,20000)] (Le.trans (Gm (nm:=10) (sz:=1) (n:=x16.length) (e:=22) (f:=(Oz 1 Am (0:Int) x16 (Tag.fam 70010))) (g:=(λi=>Kk (x16.getD i []))) rfl ⟨rfl,trivial⟩ (λ_ _=>rfl) (by rw[hΓ];rfl)) (A8 (st':=⟨[(2,(rP x16 10))],[(10,.tok 1 22 x16.length)],[]⟩) [2] [10] q)))))))))))
def Ht(a0:TFunc):rV->Option (LR (Int×J8) (J8 ⊕ (TGraph×Int))):=
 λ((i3,l4):rV)=>(bif (decide (i3<(a0.Blocks.length:Int))) then(Aw (As i3 a0.Blocks.length) ((Pm (⟨(a0.Blocks.getD i3.toNat default).End.Kind,(a0.Blocks.getD i3.toNat default).End.Arg,(a0.Blocks.getD i3.toNat default).End.To⟩:Jm) (a0.Blocks.length:Int)).bind λx7=>(bif (!x7) then(some (.done (.inr ((⟨([]:J8),([]:J8)⟩:TGraph),(5:Int))))) else((JE ((a0.Blocks.getD i3.toNat default).End.To)).bind λx8=>(Aw (As i3 l4.length) (some (.next ((w64 (i3+1)),(l4.set i3.toNat x8))))))))) else(some (.done (.inl l4))))
abbrev iJ:=(TGraph×Int)
def fC(Γ:H4)(a0:TFunc)(r:iJ):Exit->St->Prop:=fK Tryz.prog Γ Tryz.f75.results.toList [] (.tuple [(e8 r.1),(Z6 r.2)]) []
def wJ:AV:=UT
def xn:List NI:=[N8,(3,(.int .i64 (5:Int)))]
def Q29(a0:TFunc)(i3:Int):=(a0.Blocks.getD i3.toNat default)
def Q27:AV:=Z93
def Q28(a0:TFunc):=(List.replicate (a0.Blocks.length:Int).toNat ([]:Ao))
def vG:List AV:=[xy,xy]
def Uj(a0:TFunc):Option iJ:=
 ((Ml (a0.Blocks.length:Int)).bind λx1=>(bif (!x1) then(some ((⟨([]:J8),([]:J8)⟩:TGraph),(5:Int))) else(Aw (0<=(a0.Blocks.length:Int)/\(a0.Blocks.length:Int)<=(a0.Blocks.length:Int)/\(a0.Blocks.length:Int)<=(room:Int)) ((Ad (Ht a0) ((0:Int),(List.replicate (a0.Blocks.length:Int).toNat ([]:Ao)))).bind (λx10=>(match x10 with|(.inl l5)=>((Nu l5).bind λx12=>(some ((⟨l5,x12⟩:TGraph),(0:Int))))|(.inr r13)=>(some r13)))))))
variable{v16:iJ}
theorem MT(h:Uj v0=some v16):sP 75 [(Yz v0)] [] (.tuple [(e8 v16.1),(Z6 v16.2)]) []:=
 sG Tryz.func75 λΓ q=>have hΓ:=q.own;tW q Ng Ng DF Ng (tB h λx1 y1 h=>tT q [1,2,4,13] Ng [(Z7 x1)] (c1 (W7 y1)) (gC h (λh=>gR q Cb [2] [(14,(.agg vG))] [] (c1 (show(AVle (.agg [wJ,wJ]) (.agg vG)) from(AVle.agg (.cons Dv (.cons Dv .nil))))) (O6 (⟨xn,[(L5 97 vG)],[]⟩:St) (tS h (gK (e:=.ret) (H5 [] (show Le Γ _ (⟨xn,[(mj Q27)],[]⟩:St) from Le.trans (A8 (st':=⟨xn,[(L5 97 vG)],[]⟩) Cb [2] q) (Gu (.cons (AVle.refl _) (.cons (AVle.refl _) .nil)) (.row (.cons AVle.untag (.cons AVle.untag .nil)) .nil)))))))) λh=>tV q TZ [1,2,16] h λh=>by exact M1 (Le.trans (Vf 16 (show ∀ k_,k_<((v0.Blocks.length:Int).toNat)->AVleL ((λi_=>AV.eraseAll (λn_=>B3 n_ [1,2,16]) ((λ_=>[wJ]) i_)) k_) ((λi=>Kk ((Q28 v0).getD i [])) k_) from(λk hk=>Rb (e:=Kk) (d:=[]) (.cons (λ_ _ _ _ _ hh=>AVle.untag _ _ _ _ _ (Dv _ _ _ _ _ hh)) .nil) _ k (Ri hk)))) (Vg (λ(k_:Nat) u=>(Cn u [(5,(.vsl 16 k_))] [(16,.arr 1 22 k_ (λi=>Kk ((Q28 v0).getD i [])))])) (show(v0.Blocks.length:Int).toNat=(Q28 v0).length from(S2 ..).symm))) (Ae q bZ Wn (tL q h bZ Wn (λu (i3,l4)=>(Cn u [(5,(.vsl 16 l4.length)),(20,(Z6 i3))] [(16,.arr 1 22 l4.length (λi=>Kk (l4.getD i [])))])) (λu x_=>match x_ with|(.inl l5)=>aG Γ (.exit 0) (Nc Tf Wn u [(5,(.vsl 16 l5.length))] [(16,.arr 1 22 l5.length (λi=>Kk (l5.getD i [])))])|(.inr r_)=>aR (fC Γ v0 r_)) (λ⟨i3,l4⟩ y h=>Ae q [2,4,5,18,19,20,21] Wn (gC h (λh=>tV q [2,4,5,6,7,18,19,20] [2,7,16] h λh=>tB h λx7 y7 h=>tT q [2,4,5,6,7,18,19,20,29] [2,7,16] [(Z7 x7)] (c1 (KS y7)) (gC h (λh=>gR q Cb [2] [(30,(.agg vG))] [] (c1 (show(AVle (.agg [wJ,wJ]) (.agg vG)) from(AVle.agg (.cons Dv (.cons Dv .nil))))) (O6 (⟨xn,[(L5 97 vG)],[]⟩:St) (tS h (gO (Mk (H5 [] (show Le Γ _ (⟨xn,[(mj Q27)],[]⟩:St) from Le.trans (A8 (st':=⟨xn,[(L5 97 vG)],[]⟩) Cb [2] q) (Gu (.cons (AVle.refl _) (.cons (AVle.refl _) .nil)) (.row (.cons AVle.untag (.cons AVle.untag .nil)) .nil))))))))) λh=>tB h λx8 y8 h=>tC h λc9_ h=>tT q bZ Wn [⟨[],[],(Mw x8),[],[],[]⟩] (c3 (iH ((Q29 v0 i3).End.To) x8 y8) c9_ (Eq.refl l4.length)) (M1 (Le.trans (Vf 16 (show ∀ k_,k_<l4.length->AVleL ((λi_=>AV.eraseAll (λn_=>B3 n_ Wn) ((Fb (λi=>Kk (l4.getD i [])) i3.toNat 0 [(Mw x8)]) i_)) k_) ((λi=>Kk ((l4.set i3.toNat x8).getD i [])) k_) from(Bj (D0 ..).symm (λk_ hk_=>(Bl (AV.eraseAll (λn_=>B3 n_ Wn)) ((Hd (λ_ _=>rfl) (Jx c9_) rfl) k_ hk_)).trans rfl)))) (Vg (λ(k_:Nat) u=>(Cn u [(5,(.vsl 16 k_))] [(16,.arr 1 22 k_ (λi=>Kk ((l4.set i3.toNat x8).getD i [])))])) (show l4.length=(l4.set i3.toNat x8).length from(D0 ..).symm))) (Ae q bZ Wn (tN h))))) λh=>tS h (gO (A3 (A8 Tf Wn q))))) λx10 h=>(match x10,h with | .inl l5,h=>gA (O6 (⟨[N8,(5,(.vsl 16 l5.length))],[(mj wJ),(16,.arr 1 22 l5.length (λi=>Kk (l5.getD i [])))],[]⟩:St) (M1 (Le.trans (Gm (nm:=16) (sz:=1) (n:=l5.length) (e:=22) (f:=(λi=>Kk (l5.getD i []))) (g:=(λi=>Kk (l5.getD i []))) rfl ⟨rfl,trivial⟩ (λ_ _=>rfl) (by rw[hΓ];rfl)) (H6 (st':=⟨[N8,(5,(rP l5 16))],[(mj wJ),(16,.tok 1 22 l5.length)],[]⟩) (by kernel_rfl))) (tB h λx12 y12 h=>tT q Cb [2,16,41] [⟨[],[(20000,41)],(rP x12 20000),[(20000,.tok 1 22 x12.length)],[],[]⟩] (c1 (Y6 y12)) (tS h (Bp []))))) | .inr r13,h=>gAr (λst' hk=>tS h (gK hk)))))))
def Hj(a6:J8)(i2:Int):Hn->Option (LR (Int×Int) (Unit ⊕ Bool)):=
 λ((i4,i5):Hn)=>(bif (decide (i5<((a6.getD i2.toNat []).length:Int))) then(Aw (As i5 (a6.getD i2.toNat []).length) ((bif ((decide (((a6.getD i2.toNat []).getD i5.toNat 0)<=i4))==false) then Kh ((a6.getD i2.toNat []).getD i5.toNat 0) (a6.length:Int) else some false).bind λx7=>(bif (bif (decide (((a6.getD i2.toNat []).getD i5.toNat 0)<=i4)) then true else(!x7)) then(some (.done (.inr false))) else(some (.next (((a6.getD i2.toNat []).getD i5.toNat 0),(w64 (i5+1)))))))) else(some (.done (.inl ()))))
def Df(a6:J8):Int->Option (LR Int (Unit ⊕ Bool)):=
 λ(i2:Int)=>(bif (decide (i2<(a6.length:Int))) then(Aw (As i2 a6.length) ((Ad (Hj a6 i2) ((-1:Int),(0:Int))).bind (λx8=>(match x8 with|(.inl _)=>(some (.next (w64 (i2+1))))|(.inr r10)=>(some (.done (.inr r10))))))) else(some (.done (.inl ()))))
def Yy(Γ:H4)(a6:J8)(r:Bool):Exit->St->Prop:=fK Tryz.prog Γ Tryz.f204.results.toList [] (.bool r) []
def Q30(a6:J8)(i2:Int)(i5:Int)(i4:Int):=(decide (((a6.getD i2.toNat []).getD i5.toNat 0)<=i4))
def Pn(a6:J8):Option Bool:=
 ((Ml (a6.length:Int)).bind λx1=>(bif (!x1) then(some false) else((Ad (Df a6) (0:Int)).bind (λx11=>(match x11 with|(.inl _)=>(some true)|(.inr r13)=>(some r13))))))
theorem KT(h:Pn v14=some v3):sP 204 [(FY v14)] [] (.bool v3) []:=
 sG Tryz.func204 λΓ q=>Ae q [0] [] (tB h λx1 y1 h=>tT q [0,11] [] [(Z7 x1)] (c1 (W7 y1)) (gC h (λh=>Ae q [2] [] (tS h (Bp []))) λh=>Ae q TM [] (tL q h TM [] (λu i2=>(Cn u [(14,(Z6 i2))] [])) (λu x_=>match x_ with|(.inl _)=>aG Γ (.exit 0) (⟨[],[],[]⟩:St)|(.inr r_)=>aR (Yy Γ v14 r_)) (λi2 y h=>Ae q [0,12,13,14,15] [] (gC h (λh=>tV q bc [] h λh=>tW q [0,4,5,12,13,14] [] kS [] (tL q h kS [] (λu (i4,i5)=>(Cn u [(5,(Z6 i4)),(20,(Z6 i5))] [])) (λu x_=>match x_ with|(.inl _)=>aG Γ (.exit 2) (Nc TM [] u [] [])|(.inr r_)=>aR (Yy Γ v14 r_)) (λ⟨i4,i5⟩ y h=>Ae q [0,5,12,13,14,18,19,20,21] [] (gC h (λh=>tV q [0,5,7,12,13,14,18,19,20] [] h λh=>tB h λx7 y7 h=>tT q [0,7,12,13,14,18,19,20,33] [] [(Z7 x7)] (Sh ((Q30 v14 i2 i5 i4)==false) (c3 (λ(hg:((Q30 v14 i2 i5 i4)==false)=true)=>(Sc (Ba hg y7))) (gI ((Q30 v14 i2 i5 i4)==false)) (I4 (Q30 v14 i2 i5 i4)))) (gC h (λh=>Ae q [2] [] (tS h (gO (Mk (H5 [] (Le.refl _ _)))))) λh=>tW q kS [] kS [] (tN h))) λh=>tS h (gO (A3 (A8 TM [] q))))) λx8 h=>(match x8,h with | .inl _,h=>gA (Ae q TM [] (tN h)) | .inr r10,h=>gAr (λst' hk=>tS h (gO (Mk hk)))))) λh=>tS h (gO (A3 (A8 [] [] q))))) λx11 h=>(match x11,h with | .inl _,h=>gA (Ae q [2] [] (tS h (Bp []))) | .inr r13,h=>gAr (λst' hk=>tS h (gK hk))))))
def Eo(aa4:Ao)(aa6:Ao):Int->Option (LR Int (Unit ⊕ Bool)):=
 λ(i1:Int)=>(bif (decide (i1<(aa4.length:Int))) then(Aw (As i1 aa4.length) (Aw (As i1 aa6.length) (bif ((aa4.getD i1.toNat 0)!=(aa6.getD i1.toNat 0)) then(some (.done (.inr false))) else(some (.next (w64 (i1+1))))))) else(some (.done (.inl ()))))
def Xn(Γ:H4)(aa4:Ao)(aa6:Ao)(r:Bool):Exit->St->Prop:=fK Tryz.prog Γ Tryz.f134.results.toList [] (.bool r) []
def Ei(aa4:Ao)(aa6:Ao):Option Bool:=
 (bif ((aa4.length:Int)!=(aa6.length:Int)) then(some false) else((Ad (Eo aa4 aa6) (0:Int)).bind (λx4=>(match x4 with|(.inl _)=>(some true)|(.inr r6)=>(some r6)))))
variable{v17:Ao}
theorem Lw(h:Ei v2 v17=some v3):sP 134 [(Mw v2),(Mw v17)] [] (.bool v3) []:=
 sG Tryz.func134 λΓ q=>tW q Fe [] DA [] (gC h (λh=>Ae q [4] [] (tS h (Bp []))) λh=>Ae q jA [] (tL q h jA [] (λu i1=>(Cn u [(13,(Z6 i1))] [])) (λu x_=>match x_ with|(.inl _)=>aG Γ (.exit 0) (⟨[],[],[]⟩:St)|(.inr r_)=>aR (Xn Γ v2 v17 r_)) (λi1 y h=>Ae q [0,1,12,13,14] [] (gC h (λh=>Ae q [0,1,5,12,13] [] (tC h λc2_ h=>tC h λc3_ h=>tU q [0,1,12,13,24] [] (c2 c2_ c3_) (gC h (λh=>Ae q [4] [] (tS h (gO (Mk (H5 [] (Le.refl _ _)))))) λh=>Ae q jA [] (tN h)))) λh=>tS h (gO (A3 (A8 [] [] q))))) λx4 h=>(match x4,h with | .inl _,h=>gA (Ae q [4] [] (tS h (Bp []))) | .inr r6,h=>gAr (λst' hk=>tS h (gK hk)))))
def B2(aa4:J8)(aa6:J8):Int->Option (LR Int (Unit ⊕ Bool)):=
 λ(i1:Int)=>(bif (decide (i1<(aa4.length:Int))) then(Aw (As i1 aa4.length) (Aw (As i1 aa6.length) ((Ei (aa4.getD i1.toNat []) (aa6.getD i1.toNat [])).bind λx4=>(bif (!x4) then(some (.done (.inr false))) else(some (.next (w64 (i1+1)))))))) else(some (.done (.inl ()))))
def Po(Γ:H4)(aa4:J8)(aa6:J8)(r:Bool):Exit->St->Prop:=fK Tryz.prog Γ Tryz.f205.results.toList [] (.bool r) []
def Dg(aa4:J8)(aa6:J8):Option Bool:=
 (bif ((aa4.length:Int)!=(aa6.length:Int)) then(some false) else((Ad (B2 aa4 aa6) (0:Int)).bind (λx5=>(match x5 with|(.inl _)=>(some true)|(.inr r7)=>(some r7)))))
theorem Pb(h:Dg v14 v15=some v3):sP 205 [(FY v14),(FY v15),(.clo 134 [] [])] [] (.bool v3) []:=
 sG Tryz.func205 λΓ q=>tW q UJ [] [0,1,2,14] [] (gC h (λh=>Ae q [6] [] (tS h (Bp []))) λh=>Ae q iW [] (tL q h iW [] (λu i1=>(Cn u [(17,(Z6 i1))] [])) (λu x_=>match x_ with|(.inl _)=>aG Γ (.exit 0) (⟨[],[],[]⟩:St)|(.inr r_)=>aR (Po Γ v14 v15 r_)) (λi1 y h=>Ae q [1,2,15,16,17,18] [] (gC h (λh=>tV q [1,2,7,8,15,16,17] [] h λh=>tV q [1,2,8,9,15,16,17] [] h λh=>tB h λx4 y4 h=>tT q [1,2,15,16,17,30] [] [(Z7 x4)] (c1 (Lw y4)) (gC h (λh=>Ae q [6] [] (tS h (gO (Mk (H5 [] (Le.refl _ _)))))) λh=>Ae q iW [] (tN h))) λh=>tS h (gO (A3 (A8 [] [] q))))) λx5 h=>(match x5,h with | .inl _,h=>gA (Ae q [6] [] (tS h (Bp []))) | .inr r7,h=>gAr (λst' hk=>tS h (gK hk)))))
def Vt(a4:TGraph):Option Bool:=
 ((Pn a4.Succ).bind λx1=>((bif (x1==true) then Nu a4.Succ else some []).bind λx2=>((bif (x1==true) then Dg a4.Pred x2 else some false).bind λx3=>(some (bif x1 then x3 else false)))))
variable{v18:TGraph}
theorem ay(h:Vt v18=some v3):sP 175 [(e8 v18)] [] (.bool v3) []:=
 sG Tryz.func175 λΓ q=>Ae q [1] [1] (tB h λx1 y1 h=>tB h λx2 y2 h=>tB h λx3 y3 h=>tT q [2] [] [(Z7 x1),⟨[],[],(FY x2),[],[],[]⟩,(Z7 x3)] (ci (KT y1) (Sh (x1==true) (ci (show((x1==true)=true->(sP 132 [(FY v18.Succ)] [] (FY x2) [])) from(λhg=>(Spec.drop (Y6 (Ba hg y2))))) (J7 (x1==true) (c2 (λ(hg:(x1==true)=true)=>(Pb (Ba hg y3))) (M7 x1)))))) (tS h (Bp [])))
abbrev yT8:=(Int×Int×Ao)
def Bh :yT8->Option (LR (Int×Int×Ao) Ao):=
 λ((i1,i2,l3):yT8)=>(bif (decide (i1<i2)) then(Aw (As i2 l3.length) (Aw (As i1 l3.length) (Aw (As i1 l3.length) (Aw (As i2 l3.length) (some (.next ((w64 (i1+1)),(w64 (i2-1)),((l3.set i1.toNat (l3.getD i2.toNat 0)).set i2.toNat (l3.getD i1.toNat 0))))))))) else(some (.done l3)))
def Q31(l3:Ao)(i1:Int)(i2:Int):=((l3.set i1.toNat (l3.getD i2.toNat 0)).set i2.toNat (l3.getD i1.toNat 0))
def E9(aL:Ao):Option Ao:=
 ((Ad (S:=yT8) (X:=Ao) Bh ((0:Int),(w64 ((aL.length:Int)-1)),aL)).bind (λx9=>(some x9)))
theorem On(h:E9 v2=some v17):sP 176 [(.vsl 34000 v2.length)] [(Z4 34000 v2)] (.tuple []) [(Z4 34000 v17)]:=
 sG Tryz.func176 λΓ q=>Ae q HB [34000] (tL q h HB [34000] (λu (i1,i2,l3)=>(Cn u [(0,(.vsl 34000 l3.length)),(2,(Z6 i1)),(3,(Z6 i2))] [(Z4 34000 l3)])) (λu l4=>aG Γ (.exit 0) (⟨[],[(Z4 34000 l4)],[]⟩:St)) (λ⟨i1,i2,l3⟩ y h=>Ae q [0,2,3,9] [34000] (gC h (λh=>tC h λc5_ h=>tC h λc6_ h=>tC h λc7_ h=>tC h λc8_ h=>tU q HB [34000] (c8 c5_ (Eq.refl l3.length) c6_ (Eq.refl l3.length) c7_ (Eq.refl l3.length) c8_ (Eq.refl l3.length)) (M1 (Le.trans (Vf 34000 (show ∀ k_,k_<l3.length->AVleL ((λi_=>AV.eraseAll (λn_=>B3 n_ [34000]) ((Fb (Fb (λi=>Am (l3.getD i 0)) i1.toNat 0 [(.int .i64 (l3.getD i2.toNat 0))]) i2.toNat 0 [(.int .i64 (l3.getD i1.toNat 0))]) i_)) k_) ((λi=>Am ((Q31 l3 i1 i2).getD i 0)) k_) from(Bj (Eq.trans (D0 ..).symm (D0 ..).symm) (λk_ hk_=>(Bl (AV.eraseAll (λn_=>B3 n_ [34000])) ((Hd (Hd (λ_ _=>rfl) (Jx c7_) rfl) (tq c8_) rfl) k_ hk_)).trans rfl)))) (Vg (λ(k_:Nat) u=>(Cn u [(0,(.vsl 34000 k_))] [(34000,.arr 1 3 k_ (λi=>Am ((Q31 l3 i1 i2).getD i 0)))])) (show l3.length=(Q31 l3 i1 i2).length from(Eq.trans (D0 ..).symm (D0 ..).symm)))) (Ae q HB [34000] (tN h)))) λh=>tS h (gO (A3 (A8 [] [34000] q))))) λx9 h=>mn (λst' hl10=>tS h (gK (e:=.normal) (H5 [(34000,34000)] hl10))))
abbrev yT9:=(LR Ao (Ao ⊕ (List Bool×Ao×Ao)))
def KI(a4:TGraph)(a1:Int):Ao->Option yT9:=
 λ(l9:Ao)=>(Aw (As ([a1].getD (w64 (([a1].length:Int)-1)).toNat (0:Int)) 64) (Aw (As ([a1].getD (w64 (([a1].length:Int)-1)).toNat (0:Int)) a4.Succ.length) (bif (decide ((l9.getD ([a1].getD (w64 (([a1].length:Int)-1)).toNat (0:Int)).toNat (0:Int))<((a4.Succ.getD ([a1].getD (w64 (([a1].length:Int)-1)).toNat (0:Int)).toNat []).length:Int))) then(Aw (As ([a1].getD (w64 (([a1].length:Int)-1)).toNat (0:Int)) a4.Succ.length) (Aw (As ([a1].getD (w64 (([a1].length:Int)-1)).toNat (0:Int)) 64) (Aw (As (l9.getD ([a1].getD (w64 (([a1].length:Int)-1)).toNat (0:Int)).toNat (0:Int)) (a4.Succ.getD ([a1].getD (w64 (([a1].length:Int)-1)).toNat (0:Int)).toNat []).length) (Aw (As ([a1].getD (w64 (([a1].length:Int)-1)).toNat (0:Int)) 64) (Aw (As ([a1].getD (w64 (([a1].length:Int)-1)).toNat (0:Int)) 64) (Aw (As ((a4.Succ.getD ([a1].getD (w64 (([a1].length:Int)-1)).toNat (0:Int)).toNat []).getD (l9.getD ([a1].getD (w64 (([a1].length:Int)-1)).toNat (0:Int)).toNat (0:Int)).toNat (0:Int)) 64) (bif (!((Qd 64 false (List.replicate 64 false) a1.toNat true).getD ((a4.Succ.getD ([a1].getD (w64 (([a1].length:Int)-1)).toNat (0:Int)).toNat []).getD (l9.getD ([a1].getD (w64 (([a1].length:Int)-1)).toNat (0:Int)).toNat (0:Int)).toNat (0:Int)).toNat false)) then(Aw (As ((a4.Succ.getD ([a1].getD (w64 (([a1].length:Int)-1)).toNat (0:Int)).toNat []).getD (l9.getD ([a1].getD (w64 (([a1].length:Int)-1)).toNat (0:Int)).toNat (0:Int)).toNat (0:Int)) 64) (Aw ([a1].length+([((a4.Succ.getD ([a1].getD (w64 (([a1].length:Int)-1)).toNat (0:Int)).toNat []).getD (l9.getD ([a1].getD (w64 (([a1].length:Int)-1)).toNat (0:Int)).toNat (0:Int)).toNat (0:Int))]:Ao).length<=room) (some (.done (.inr ((Qd 64 false (Qd 64 false (List.replicate 64 false) a1.toNat true) ((a4.Succ.getD ([a1].getD (w64 (([a1].length:Int)-1)).toNat (0:Int)).toNat []).getD (l9.getD ([a1].getD (w64 (([a1].length:Int)-1)).toNat (0:Int)).toNat (0:Int)).toNat (0:Int)).toNat true),(Qd 64 (0:Int) l9 ([a1].getD (w64 (([a1].length:Int)-1)).toNat (0:Int)).toNat (w64 ((l9.getD ([a1].getD (w64 (([a1].length:Int)-1)).toNat (0:Int)).toNat (0:Int))+1))),([a1]++([((a4.Succ.getD ([a1].getD (w64 (([a1].length:Int)-1)).toNat (0:Int)).toNat []).getD (l9.getD ([a1].getD (w64 (([a1].length:Int)-1)).toNat (0:Int)).toNat (0:Int)).toNat (0:Int))]:Ao)))))))) else(some (.next (Qd 64 (0:Int) l9 ([a1].getD (w64 (([a1].length:Int)-1)).toNat (0:Int)).toNat (w64 ((l9.getD ([a1].getD (w64 (([a1].length:Int)-1)).toNat (0:Int)).toNat (0:Int))+1)))))))))))) else(some (.done (.inl l9))))))
def Jo(a4:TGraph)(l1:List Bool)(l3:Ao):Ao->Option yT9:=
 λ(l32:Ao)=>(Aw (As (l3.getD (w64 ((l3.length:Int)-1)).toNat (0:Int)) 64) (Aw (As (l3.getD (w64 ((l3.length:Int)-1)).toNat (0:Int)) a4.Succ.length) (bif (decide ((l32.getD (l3.getD (w64 ((l3.length:Int)-1)).toNat (0:Int)).toNat (0:Int))<((a4.Succ.getD (l3.getD (w64 ((l3.length:Int)-1)).toNat (0:Int)).toNat []).length:Int))) then(Aw (As (l3.getD (w64 ((l3.length:Int)-1)).toNat (0:Int)) a4.Succ.length) (Aw (As (l3.getD (w64 ((l3.length:Int)-1)).toNat (0:Int)) 64) (Aw (As (l32.getD (l3.getD (w64 ((l3.length:Int)-1)).toNat (0:Int)).toNat (0:Int)) (a4.Succ.getD (l3.getD (w64 ((l3.length:Int)-1)).toNat (0:Int)).toNat []).length) (Aw (As (l3.getD (w64 ((l3.length:Int)-1)).toNat (0:Int)) 64) (Aw (As (l3.getD (w64 ((l3.length:Int)-1)).toNat (0:Int)) 64) (Aw (As ((a4.Succ.getD (l3.getD (w64 ((l3.length:Int)-1)).toNat (0:Int)).toNat []).getD (l32.getD (l3.getD (w64 ((l3.length:Int)-1)).toNat (0:Int)).toNat (0:Int)).toNat (0:Int)) 64) (bif (!(l1.getD ((a4.Succ.getD (l3.getD (w64 ((l3.length:Int)-1)).toNat (0:Int)).toNat []).getD (l32.getD (l3.getD (w64 ((l3.length:Int)-1)).toNat (0:Int)).toNat (0:Int)).toNat (0:Int)).toNat false)) then(Aw (As ((a4.Succ.getD (l3.getD (w64 ((l3.length:Int)-1)).toNat (0:Int)).toNat []).getD (l32.getD (l3.getD (w64 ((l3.length:Int)-1)).toNat (0:Int)).toNat (0:Int)).toNat (0:Int)) 64) (Aw (l3.length+([((a4.Succ.getD (l3.getD (w64 ((l3.length:Int)-1)).toNat (0:Int)).toNat []).getD (l32.getD (l3.getD (w64 ((l3.length:Int)-1)).toNat (0:Int)).toNat (0:Int)).toNat (0:Int))]:Ao).length<=room) (some (.done (.inr ((Qd 64 false l1 ((a4.Succ.getD (l3.getD (w64 ((l3.length:Int)-1)).toNat (0:Int)).toNat []).getD (l32.getD (l3.getD (w64 ((l3.length:Int)-1)).toNat (0:Int)).toNat (0:Int)).toNat (0:Int)).toNat true),(Qd 64 (0:Int) l32 (l3.getD (w64 ((l3.length:Int)-1)).toNat (0:Int)).toNat (w64 ((l32.getD (l3.getD (w64 ((l3.length:Int)-1)).toNat (0:Int)).toNat (0:Int))+1))),(l3++([((a4.Succ.getD (l3.getD (w64 ((l3.length:Int)-1)).toNat (0:Int)).toNat []).getD (l32.getD (l3.getD (w64 ((l3.length:Int)-1)).toNat (0:Int)).toNat (0:Int)).toNat (0:Int))]:Ao)))))))) else(some (.next (Qd 64 (0:Int) l32 (l3.getD (w64 ((l3.length:Int)-1)).toNat (0:Int)).toNat (w64 ((l32.getD (l3.getD (w64 ((l3.length:Int)-1)).toNat (0:Int)).toNat (0:Int))+1)))))))))))) else(some (.done (.inl l32))))))
abbrev qf:=(List Bool×Ao×Ao×Ao)
def Ee(a4:TGraph):qf->Option (LR (List Bool×Ao×Ao×Ao) Ao):=
 λ(s_:qf)=>match s_ with|(l1,l2,l3,l4)=>(Aw (As (w64 ((l3.length:Int)-1)) l3.length) ((Ad (Jo a4 l1 l3) l2).bind (λx47=>(match x47 with|(.inl l33)=>(Aw (l4.length+([(l3.getD (w64 ((l3.length:Int)-1)).toNat (0:Int))]:Ao).length<=room) (Aw (0<=(w64 ((l3.length:Int)-1))/\0+(w64 ((l3.length:Int)-1)).toNat<=l3.length) (bif (decide ((0:Int)<((l3.take (w64 ((l3.length:Int)-1)).toNat).length:Int))) then(some (.next (l1,l33,(l3.take (w64 ((l3.length:Int)-1)).toNat),(l4++([(l3.getD (w64 ((l3.length:Int)-1)).toNat (0:Int))]:Ao))))) else((E9 (l4++([(l3.getD (w64 ((l3.length:Int)-1)).toNat (0:Int))]:Ao))).bind λx51=>(Aw ((l4++([(l3.getD (w64 ((l3.length:Int)-1)).toNat (0:Int))]:Ao)).length=x51.length) (some (.done x51)))))))|(.inr (l34,l35,l36))=>(some (.next (l34,l35,l36,l4)))))))
def UY(Γ:H4)(a4:TGraph)(a1:Int)(r:Ao):Exit->St->Prop:=fK Tryz.prog Γ Tryz.f141.results.toList [] (HL r 20000) [(Tq 20000 r.length)]
def xq(l1:List Bool):=(λi=>eB (l1.getD i false))
def me(l3:Ao):=(l3.getD (w64 ((l3.length:Int)-1)).toNat (0:Int))
def nW(l4:Ao)(l3:Ao):=(l4++([(me l3)]:Ao))
def zE(l10:Ao):=(λi=>Am (l10.getD i 0))
def zF(l33:Ao):=(λi=>Am (l33.getD i 0))
def er:=(λn_=>B3 n_ [2,5,6,25,36007])
def wV(a1:Int):=(λi=>Am ([a1].getD i 0))
def jI(a1:Int):=([a1].getD (w64 (([a1].length:Int)-1)).toNat (0:Int))
def rM(a1:Int):=(([]:Ao)++([(jI a1)]:Ao))
def xu(a1:Int):=(λi=>Am ((rM a1).getD i 0))
def xr(l4:Ao)(l3:Ao):=(λi=>Am ((nW l4 l3).getD i 0))
def xp:AV:=jK
def Q42:=(λi=>Am (([]:Ao).getD i 0))
def wT(l3:Ao):=(0+(w64 ((l3.length:Int)-1)).toNat)
def xo(a1:Int):=(0+(w64 (([a1].length:Int)-1)).toNat)
def Q52(a1:Int):=([a1].take (w64 (([a1].length:Int)-1)).toNat)
def Q41:=(λi=>Am ((List.replicate 64 (0:Int)).getD i 0))
def nT(a4:TGraph):List AV:=[(FY a4.Succ),(FY a4.Pred)]
def vH(a1:Int):=(λi=>eB ((Qd 64 false (List.replicate 64 false) a1.toNat true).getD i false))
def rL(a4:TGraph)(l3:Ao)(l32:Ao):=((a4.Succ.getD (me l3).toNat []).getD (l32.getD (me l3).toNat (0:Int)).toNat (0:Int))
def rK(a4:TGraph)(a1:Int)(l9:Ao):=((a4.Succ.getD (jI a1).toNat []).getD (l9.getD (jI a1).toNat (0:Int)).toNat (0:Int))
def Q51:=(Z36:St)
def Q55(a1:Int):List NI:=[N8,ni,nh,(7,(.vsl 36007 (rM a1).length)),(8,(.vsl 25 (xo a1)))]
def Q48(a1:Int)(a4:TGraph):=(⟨[N8,ni,nh,(7,(.vsl 36007 ([]:Ao).length)),(8,(.vsl 25 [a1].length)),(9,(Z6 (jI a1)))],[(L5 97 (nT a4)),(PM (vH a1)),(ml Q41),(25,.arr 1 3 ([a1].length) (wV a1)),(36007,.arr 1 3 (([]:Ao).length) Q42)],[]⟩:St)
def Ld(a4:TGraph)(a1:Int):Option Ao:=
 ((Tc (S:=qf) (X:=Ao) ((Vt a4).bind λx5=>((bif ((!x5)==false) then Kh a1 (a4.Succ.length:Int) else some false).bind λx6=>(bif (bif (!x5) then true else(!x6)) then(some (.done ([]:Ao))) else(Aw (As a1 64) (Aw (As (w64 (([a1].length:Int)-1)) [a1].length) ((Ad (KI a4 a1) (List.replicate 64 (0:Int))).bind (λx24=>(match x24 with|(.inl l10)=>(Aw (([]:Ao).length+([([a1].getD (w64 (([a1].length:Int)-1)).toNat (0:Int))]:Ao).length<=room) (Aw (0<=(w64 (([a1].length:Int)-1))/\0+(w64 (([a1].length:Int)-1)).toNat<=[a1].length) (bif (decide ((0:Int)<(([a1].take (w64 (([a1].length:Int)-1)).toNat).length:Int))) then(some (.next ((Qd 64 false (List.replicate 64 false) a1.toNat true),l10,([a1].take (w64 (([a1].length:Int)-1)).toNat),(([]:Ao)++([([a1].getD (w64 (([a1].length:Int)-1)).toNat (0:Int))]:Ao))))) else((E9 (([]:Ao)++([([a1].getD (w64 (([a1].length:Int)-1)).toNat (0:Int))]:Ao))).bind λx28=>(Aw ((([]:Ao)++([([a1].getD (w64 (([a1].length:Int)-1)).toNat (0:Int))]:Ao)).length=x28.length) (some (.done x28)))))))|(.inr (l11,l12,l13))=>(some (.next (l11,l12,l13,([]:Ao)))))))))))) (Ee a4)).bind (λx54=>(some x54)))
theorem BT(h:Ld v18 v1=some v2):sP 141 [(e8 v18),(Z6 v1)] [] (HL v2 20000) [(Tq 20000 v2.length)]:=
 sG Tryz.func141 λΓ q=>have hΓ:=q.own;gR q Ng [2] [(4,xp)] [] (c1 (Bc 1 Am (0:Int))) (tB h λx54 y54 h=>gS y54 (λ(s_:qf)=>match s_ with|(l1,l2,l3,l4)=>0) (λ(s_:qf)=>match s_ with|(l1,l2,l3,l4)=>(⟨[N8,ni,nh,(V6 36007 l4.length),(8,(.vsl 25 l3.length))],[(L5 97 (nT v18)),(PM (xq l1)),(zO l2),(Z4 25 l3),(Z4 36007 l4)],[]⟩:St)) (λr_=>aR (UY Γ v18 v1 r_)) (λy h=>tB h λx5 y5 h=>tB h λx6 y6 h=>tT q [1,2,21] [2] [(Z7 x5),(Z7 x6)] (ci (ay y5) (QH ((!x5)==false) (c3 (λ(hg:((!x5)==false)=true)=>(Sc (Ba hg y6))) (gI ((!x5)==false)) (I4 (!x5))))) (gC h (λh=>gR q [4] [] [(4,xp)] [] (c1 (Bc 1 Am (0:Int))) (O6 (⟨[(4,xp)],[],[]⟩:St) (tS h (mo (Mk (H5 TN (show Le Γ _ Q51 from Le.trans (A8 (st':=⟨[(4,xp)],[],[]⟩) [4] [] q) (Le.trans (Lb (t:=4) (nm:=6004) (sz':=1) Q42 3 rfl rfl (.inl ⟨rfl,rfl⟩) (λh_=>absurd h_ (by decide))) (A8 (st':=Q51) [4] [6004] q))))))))) λh=>gR q Wm Tf [ni] [] trivial (M1 (Vf 5 (show ∀ k_,k_<64->AVleL ((λi_=>AV.eraseAll (λn_=>B3 n_ Tf) ((λi=>(((List.replicate 64 [(.bool false)]).flatten).drop (i*1)).take 1) i_)) k_) ((λi=>eB ((List.replicate 64 false).getD i false)) k_) from(WQ (e:=eB) (d:=false) (z:=[(.bool false)]) rfl rfl rfl))) (gR q [1,2,5,6] V5 [nh] [] trivial (M1 (Vf 6 (show ∀ k_,k_<64->AVleL ((λi_=>AV.eraseAll (λn_=>B3 n_ V5) ((λi=>(((List.replicate 64 [La]).flatten).drop (i*1)).take 1) i_)) k_) (Q41 k_) from(WQ (e:=Am) (d:=(0:Int)) (z:=[La]) rfl rfl rfl))) (gR q io V5 [(7,xp)] [] (c1 (Bc 1 Am (0:Int))) (tC h λc7_ h=>tU q io V5 (c2 c7_ (Eq.refl 64)) (M1 (Vf 5 (show ∀ k_,k_<64->AVleL ((λi_=>AV.eraseAll (λn_=>B3 n_ V5) ((Fb (λi=>eB ((List.replicate 64 false).getD i false)) v1.toNat 0 [(.bool true)]) i_)) k_) ((vH v1) k_) from(Bj rfl (λk_ hk_=>(Bl (AV.eraseAll (λn_=>B3 n_ V5)) ((Xc (λ_ _=>rfl) (Qo c7_) rfl) k_ hk_)).trans rfl)))) (gR q DE bo [(25,(.vsl 25 1))] [] trivial (M1 (Le.trans (Vf 25 (show ∀ k_,k_<1->AVleL ((λi_=>AV.eraseAll (λn_=>B3 n_ bo) ((λi_=>([(Z6 v1)].drop (i_*1)).take 1) i_)) k_) ((wV v1) k_) from(Bj rfl (bK (n:=0) gw rfl)))) (Vg (λ(k_:Nat) u=>(Cn u [(8,(.vsl 25 k_))] [(25,.arr 1 3 k_ (wV v1))])) (show 1=[v1].length from rfl))) (tC h λc8_ h=>tU q FS bo (c2 c8_ (Eq.refl ([v1].length))) (M1 (st':=(Q48 v1 v18)) (Le.trans (A8 (st':=⟨[N8,ni,nh,(7,xp),(8,(.vsl 25 [v1].length)),(9,(Z6 (jI v1)))],[(L5 97 (nT v18)),(PM (vH v1)),(ml Q41),(25,.arr 1 3 ([v1].length) (wV v1))],[]⟩) FS bo q) (Le.trans (ai (t:=7) (nm:=36007) (sz':=1) Q42 3 rfl rfl) (A8 (st':=(Q48 v1 v18)) FS Qe q))) (tL q h FS Qe (λu l9=>(Cn u [] [(zO l9)])) (λu x_=>match x_ with|(.inl l10)=>aG Γ (.exit 0) (Cn u [] [(ml (zE l10))])|(.inr (l11,l12,l13))=>aG Γ (.goto 0) (Nc DE Qe u [(8,(.vsl 25 l13.length))] [(5,.arr 1 212 64 (λi=>eB (l11.getD i false))),(zO l12),(Z4 25 l13)])) (λl9 y h=>tC h λc14_ h=>tC h λc15_ h=>tU q [2,5,6,7,8,9,41] Qe (c3 c14_ (Eq.refl 64) c15_) (gC h (λh=>tC h λc16_ h=>tC h λc17_ h=>tC h λc18_ h=>tU q bY Qe (c4 c16_ c17_ (Eq.refl 64) c18_) (tC h λc19_ h=>tC h λc20_ h=>tU q bY Qe (c4 c19_ (Eq.refl 64) c20_ (Eq.refl 64)) (M1 (Vf 6 (show ∀ k_,k_<64->AVleL ((λi_=>AV.eraseAll er ((Fb (λi=>Am (l9.getD i 0)) (jI v1).toNat 0 [(.int .i64 (w64 ((l9.getD (jI v1).toNat (0:Int))+1)))]) i_)) k_) ((λi=>Am ((Qd 64 (0:Int) l9 (jI v1).toNat (w64 ((l9.getD (jI v1).toNat (0:Int))+1))).getD i 0)) k_) from(Bj rfl (λk_ hk_=>(Bl (AV.eraseAll er) ((Xc (λ_ _=>rfl) (Qo c20_) rfl) k_ hk_)).trans rfl)))) (tC h λc21_ h=>tU q qz Qe (c2 c21_ (Eq.refl 64)) (gC h (λh=>tC h λc22_ h=>tU q [2,5,6,7,8,10] Qe (c2 c22_ (Eq.refl 64)) (M1 (Vf 5 (show ∀ k_,k_<64->AVleL ((λi_=>AV.eraseAll er ((Fb (vH v1) (rK v18 v1 l9).toNat 0 [(.bool true)]) i_)) k_) ((λi=>eB ((Qd 64 false (Qd 64 false (List.replicate 64 false) v1.toNat true) (rK v18 v1 l9).toNat true).getD i false)) k_) from(Bj rfl (λk_ hk_=>(Bl (AV.eraseAll er) ((Xc (λ_ _=>rfl) (Qo c22_) rfl) k_ hk_)).trans rfl)))) (tC h λc23_ h=>gR q DE Qe [(65,(mh (rK v18 v1 l9)))] [] (c3 (Az 1 Am (0:Int) ([(rK v18 v1 l9)]:Ao)) (Eq.refl ([v1].length)) c23_) (tS h (gO (A3 (Le.trans (Le.trans (Vf 25 (show ∀ k_,k_<([v1].length+([(rK v18 v1 l9)]:Ao).length)->AVleL ((λi_=>AV.eraseAll er ((O3 ([v1].length) (wV v1) (λi=>Am (([(rK v18 v1 l9)]:Ao).getD i 0))) i_)) k_) ((λi=>Am (([v1]++([(rK v18 v1 l9)]:Ao)).getD i 0)) k_) from(Bj (Br _ _) (λk_ hk_=>(Bl (AV.eraseAll er) ((Ww (λ_ _=>rfl) (λ_ _=>rfl)) k_ hk_)).trans rfl)))) (Vg (λ(k_:Nat) u=>(Cn u [(8,(.vsl 25 k_))] [(25,.arr 1 3 k_ (λi=>Am (([v1]++([(rK v18 v1 l9)]:Ao)).getD i 0)))])) (show([v1].length+([(rK v18 v1 l9)]:Ao).length)=([v1]++([(rK v18 v1 l9)]:Ao)).length from(Br _ _)))) Gt))))))) λh=>tS h (gN (A8 FS Qe q))))))) λh=>tS h (gO (A3 (A8 FS Qe q))))) λx24 h=>(match x24,h with | .inl l10,h=>gA (tC h λc26_ h=>gR q DE Qe [(69,(mh (jI v1)))] [] (c3 (Az 1 Am (0:Int) ([(jI v1)]:Ao)) (Eq.refl (([]:Ao).length)) c26_) (M1 (Le.trans (Vf 36007 (show ∀ k_,k_<(([]:Ao).length+([(jI v1)]:Ao).length)->AVleL ((λi_=>AV.eraseAll er ((O3 (([]:Ao).length) Q42 (λi=>Am (([(jI v1)]:Ao).getD i 0))) i_)) k_) ((xu v1) k_) from(Bj (Br _ _) (λk_ hk_=>(Bl (AV.eraseAll er) ((Ww (λ_ _=>rfl) (λ_ _=>rfl)) k_ hk_)).trans rfl)))) (Vg (λ(k_:Nat) u=>(Cn u [(V6 36007 k_)] [(36007,.arr 1 3 k_ (xu v1))])) (show(([]:Ao).length+([(jI v1)]:Ao).length)=(rM v1).length from(Br _ _)))) (tC h λc27_ h=>tU q DE Qe (c1 c27_) (O6 (⟨[N8,ni,nh,(7,(.vsl 36007 (rM v1).length)),(8,(.vsub 25 [v1].length 0 (xo v1)))],[(L5 97 (nT v18)),(PM (vH v1)),(ml (zE l10)),(25,.arr 1 3 ([v1].length) (wV v1)),(36007,.arr 1 3 ((rM v1).length) (xu v1))],[]⟩:St) (M1 (Le.trans (Le.trans (dK (t:=8) (r:=25) (k:=(xo v1)) rfl rfl c27_.2 (by kernel_rfl) (.row (by kernel_rfl) (.arr (λ_=>by kernel_rfl) (.arr (λ_=>by kernel_rfl) (.arr (λ_=>by kernel_rfl) (.arr (λ_=>by kernel_rfl) .nil))))) (by rw[hΓ];rfl)) (H6 (st':=⟨(Q55 v1),[(L5 97 (nT v18)),(PM (vH v1)),(ml (zE l10)),(25,.arr 1 3 (xo v1) (wV v1)),(36007,.arr 1 3 ((rM v1).length) (xu v1))],[]⟩) (by kernel_rfl))) (Le.trans (Gu (st':=⟨(Q55 v1),[(L5 97 (nT v18)),(PM (vH v1)),(ml (zE l10)),(25,.arr 1 3 (xo v1) (λi=>Am ((Q52 v1).getD i 0))),(36007,.arr 1 3 ((rM v1).length) (xu v1))],[]⟩) (TmpsLe.refl _) (.same (.same (.same (.arr (kG (e:=Am) (d:=(0:Int))) (.same .nil)))))) (H6 (Bl (λk_:Nat=>(⟨[N8,ni,nh,(7,(.vsl 36007 (rM v1).length)),(8,(.vsl 25 k_))],[(L5 97 (nT v18)),(PM (vH v1)),(ml (zE l10)),(25,.arr 1 3 k_ (λi=>Am ((Q52 v1).getD i 0))),(36007,.arr 1 3 ((rM v1).length) (xu v1))],[]⟩:St)) (show(xo v1)=(Q52 v1).length from eP c27_.2))))) (Ae q [2,5,6,7,8,78] Qe (gC h (λh=>tS h (ov (A8 DE Qe q))) λh=>tB h λx28 y28 h=>tC h λc29_ h=>tT q [7] [36007] [⟨[(36007,34000)],[],(.tuple []),[(Z4 34000 x28)],[],[]⟩] (c1 (On y28)) (M1 (Vg (λ(k_:Nat) u=>(Cn u [(V6 36007 k_)] [])) (show(rM v1).length=x28.length from c29_)) (Ae q [4] [36007] (O6 ((k8 36007 x28.length x28):St) (tS h (mo (Mk (H5 [(36007,20000)] (Le.trans (Gm (nm:=36007) (sz:=1) (n:=x28.length) (e:=3) (f:=(λi=>Am (x28.getD i 0))) (g:=(λi=>Am (x28.getD i 0))) rfl ⟨rfl,trivial⟩ (λ_ _=>rfl) (by rw[hΓ];rfl)) (H6 (st':=(yA x28 36007 x28.length)) (by kernel_rfl))))))))))))))))) | .inr ⟨l11,l12,l13⟩,h=>mn (λst' hl30=>tS h (ov (Le.trans hl30 Gt))))))))))))))))) (λ⟨l1,l2,l3,l4⟩ y h=>tC h λc31_ h=>tU q FS Qe (c2 c31_ (Eq.refl l3.length)) (tL q h FS Qe (λu l32=>(Cn u [] [(zO l32)])) (λu x_=>match x_ with|(.inl l33)=>aG Γ (.exit 0) (Cn u [] [(ml (zF l33))])|(.inr (l34,l35,l36))=>aG Γ (.goto 0) (Nc DE Qe u [(8,(.vsl 25 l36.length))] [(5,.arr 1 212 64 (λi=>eB (l34.getD i false))),(zO l35),(Z4 25 l36)])) (λl32 y h=>tC h λc37_ h=>tC h λc38_ h=>tU q [2,5,6,7,8,9,41] Qe (c3 c37_ (Eq.refl 64) c38_) (gC h (λh=>tC h λc39_ h=>tC h λc40_ h=>tC h λc41_ h=>tU q bY Qe (c4 c39_ c40_ (Eq.refl 64) c41_) (tC h λc42_ h=>tC h λc43_ h=>tU q bY Qe (c4 c42_ (Eq.refl 64) c43_ (Eq.refl 64)) (M1 (Vf 6 (show ∀ k_,k_<64->AVleL ((λi_=>AV.eraseAll er ((Fb (λi=>Am (l32.getD i 0)) (me l3).toNat 0 [(.int .i64 (w64 ((l32.getD (me l3).toNat (0:Int))+1)))]) i_)) k_) ((λi=>Am ((Qd 64 (0:Int) l32 (me l3).toNat (w64 ((l32.getD (me l3).toNat (0:Int))+1))).getD i 0)) k_) from(Bj rfl (λk_ hk_=>(Bl (AV.eraseAll er) ((Xc (λ_ _=>rfl) (Qo c43_) rfl) k_ hk_)).trans rfl)))) (tC h λc44_ h=>tU q qz Qe (c2 c44_ (Eq.refl 64)) (gC h (λh=>tC h λc45_ h=>tU q [2,5,6,7,8,10] Qe (c2 c45_ (Eq.refl 64)) (M1 (Vf 5 (show ∀ k_,k_<64->AVleL ((λi_=>AV.eraseAll er ((Fb (xq l1) (rL v18 l3 l32).toNat 0 [(.bool true)]) i_)) k_) ((λi=>eB ((Qd 64 false l1 (rL v18 l3 l32).toNat true).getD i false)) k_) from(Bj rfl (λk_ hk_=>(Bl (AV.eraseAll er) ((Xc (λ_ _=>rfl) (Qo c45_) rfl) k_ hk_)).trans rfl)))) (tC h λc46_ h=>gR q DE Qe [(65,(mh (rL v18 l3 l32)))] [] (c3 (Az 1 Am (0:Int) ([(rL v18 l3 l32)]:Ao)) (Eq.refl l3.length) c46_) (tS h (gO (A3 (Le.trans (Le.trans (Vf 25 (show ∀ k_,k_<(l3.length+([(rL v18 l3 l32)]:Ao).length)->AVleL ((λi_=>AV.eraseAll er ((O3 l3.length (λi=>Am (l3.getD i 0)) (λi=>Am (([(rL v18 l3 l32)]:Ao).getD i 0))) i_)) k_) ((λi=>Am ((l3++([(rL v18 l3 l32)]:Ao)).getD i 0)) k_) from(Bj (Br _ _) (λk_ hk_=>(Bl (AV.eraseAll er) ((Ww (λ_ _=>rfl) (λ_ _=>rfl)) k_ hk_)).trans rfl)))) (Vg (λ(k_:Nat) u=>(Cn u [(8,(.vsl 25 k_))] [(25,.arr 1 3 k_ (λi=>Am ((l3++([(rL v18 l3 l32)]:Ao)).getD i 0)))])) (show(l3.length+([(rL v18 l3 l32)]:Ao).length)=(l3++([(rL v18 l3 l32)]:Ao)).length from(Br _ _)))) Gt))))))) λh=>tS h (gN (A8 FS Qe q))))))) λh=>tS h (gO (A3 (A8 FS Qe q))))) λx47 h=>(match x47,h with | .inl l33,h=>gA (tC h λc49_ h=>gR q DE Qe [(69,(mh (me l3)))] [] (c3 (Az 1 Am (0:Int) ([(me l3)]:Ao)) (Eq.refl l4.length) c49_) (M1 (Le.trans (Vf 36007 (show ∀ k_,k_<(l4.length+([(me l3)]:Ao).length)->AVleL ((λi_=>AV.eraseAll er ((O3 l4.length (λi=>Am (l4.getD i 0)) (λi=>Am (([(me l3)]:Ao).getD i 0))) i_)) k_) ((xr l4 l3) k_) from(Bj (Br _ _) (λk_ hk_=>(Bl (AV.eraseAll er) ((Ww (λ_ _=>rfl) (λ_ _=>rfl)) k_ hk_)).trans rfl)))) (Vg (λ(k_:Nat) u=>(Cn u [(V6 36007 k_)] [(36007,.arr 1 3 k_ (xr l4 l3))])) (show(l4.length+([(me l3)]:Ao).length)=(nW l4 l3).length from(Br _ _)))) (tC h λc50_ h=>tU q DE Qe (c1 c50_) (O6 (⟨[N8,ni,nh,(7,(.vsl 36007 (nW l4 l3).length)),(8,(.vsub 25 l3.length 0 (wT l3)))],[(L5 97 (nT v18)),(PM (xq l1)),(ml (zF l33)),(Z4 25 l3),(36007,.arr 1 3 ((nW l4 l3).length) (xr l4 l3))],[]⟩:St) (M1 (Le.trans (Le.trans (dK (t:=8) (r:=25) (k:=(wT l3)) rfl rfl c50_.2 (by kernel_rfl) (.row (by kernel_rfl) (.arr (λ_=>by kernel_rfl) (.arr (λ_=>by kernel_rfl) (.arr (λ_=>by kernel_rfl) (.arr (λ_=>by kernel_rfl) .nil))))) (by rw[hΓ];rfl)) (H6 (st':=⟨[N8,ni,nh,(7,(.vsl 36007 (nW l4 l3).length)),(8,(.vsl 25 (wT l3)))],[(L5 97 (nT v18)),(PM (xq l1)),(ml (zF l33)),(25,.arr 1 3 (wT l3) (λi=>Am (l3.getD i 0))),(36007,.arr 1 3 ((nW l4 l3).length) (xr l4 l3))],[]⟩) (by kernel_rfl))) (Le.trans (Gu (st':=⟨[N8,ni,nh,(7,(.vsl 36007 (nW l4 l3).length)),(8,(.vsl 25 (wT l3)))],[(L5 97 (nT v18)),(PM (xq l1)),(ml (zF l33)),(25,.arr 1 3 (wT l3) (λi=>Am ((l3.take (w64 ((l3.length:Int)-1)).toNat).getD i 0))),(36007,.arr 1 3 ((nW l4 l3).length) (xr l4 l3))],[]⟩) (TmpsLe.refl _) (.same (.same (.same (.arr (kG (e:=Am) (d:=(0:Int))) (.same .nil)))))) (H6 (Bl (λk_:Nat=>(⟨[N8,ni,nh,(7,(.vsl 36007 (nW l4 l3).length)),(8,(.vsl 25 k_))],[(L5 97 (nT v18)),(PM (xq l1)),(ml (zF l33)),(25,.arr 1 3 k_ (λi=>Am ((l3.take (w64 ((l3.length:Int)-1)).toNat).getD i 0))),(36007,.arr 1 3 ((nW l4 l3).length) (xr l4 l3))],[]⟩:St)) (show(wT l3)=(l3.take (w64 ((l3.length:Int)-1)).toNat).length from eP c50_.2))))) (Ae q [2,5,6,7,8,78] Qe (gC h (λh=>tS h (ov (A8 DE Qe q))) λh=>tB h λx51 y51 h=>tC h λc52_ h=>tT q [7] [36007] [⟨[(36007,34000)],[],(.tuple []),[(Z4 34000 x51)],[],[]⟩] (c1 (On y51)) (M1 (Vg (λ(k_:Nat) u=>(Cn u [(V6 36007 k_)] [])) (show(nW l4 l3).length=x51.length from c52_)) (Ae q [4] [36007] (O6 ((k8 36007 x51.length x51):St) (tS h (mo (Mk (H5 [(36007,20000)] (Le.trans (Gm (nm:=36007) (sz:=1) (n:=x51.length) (e:=3) (f:=(λi=>Am (x51.getD i 0))) (g:=(λi=>Am (x51.getD i 0))) rfl ⟨rfl,trivial⟩ (λ_ _=>rfl) (by rw[hΓ];rfl)) (H6 (st':=(yA x51 36007 x51.length)) (by kernel_rfl))))))))))))))))) | .inr ⟨l34,l35,l36⟩,h=>mn (λst' hl53=>tS h (ov (Le.trans hl53 Gt)))))) (gAr (λst' hk=>tS h (gK hk))))
def IC(aD:Int)(aa5:Int):Option Hn:=
 (some ((Fj ((Fj ((Fj ((Xf .u64 aD (32:Int))*(Xf .u64 aa5 (32:Int))))+(Xf .u64 (Fj ((Fj ((Xf .u64 aD (32:Int))*(Vl .and .u64 aa5 (4294967295:Int))))+(Xf .u64 (Fj ((Vl .and .u64 aD (4294967295:Int))*(Vl .and .u64 aa5 (4294967295:Int)))) (32:Int)))) (32:Int))))+(Xf .u64 (Fj ((Vl .and .u64 (Fj ((Fj ((Xf .u64 aD (32:Int))*(Vl .and .u64 aa5 (4294967295:Int))))+(Xf .u64 (Fj ((Vl .and .u64 aD (4294967295:Int))*(Vl .and .u64 aa5 (4294967295:Int)))) (32:Int)))) (4294967295:Int))+(Fj ((Vl .and .u64 aD (4294967295:Int))*(Xf .u64 aa5 (32:Int)))))) (32:Int)))),(Fj (aD*aa5))))
variable{v19:Hn}
theorem VS(h:IC v1 v11=some v19):sP 213 [(JV v1),(JV v11)] [] (.tuple [(JV v19.1),(JV v19.2)]) []:=
 sG Tryz.func213 λΓ q=>tW q Fe [] [0,1,6] [] (tU q UA [] (c1 (show(0<=(32:Int)) from(by decide))) (Ae q TO [] (tU q [0,1,6,7,8,9] [] (c1 (show(0<=(32:Int)) from(by decide))) (Ae q [0,1,6,7,8,9,10] [] (tU q [0,1,6,7,9,11] [] (c1 (show(0<=(32:Int)) from(by decide))) (Ae q [0,1,6,7,9,11,12] [] (tU q [0,1,6,7,9,12,13] [] (c1 (show(0<=(32:Int)) from(by decide))) (Ae q [0,1,7,9,12,13] [] (tU q [0,1,4] [] (c1 (show(0<=(32:Int)) from(by decide))) (Ae q Px [] (tS h (Bp []))))))))))))
def R7(aD:Int)(aa5:Int):Option Hn:=
 ((IC aD aa5).bind λx1=>(some (x1.1,x1.2)))
theorem MQ(h:R7 v1 v11=some v19):sP 189 [(JV v1),(JV v11)] [] (.tuple [(JV v19.1),(JV v19.2)]) []:=
 sG Tryz.func189 λΓ q=>Ae q Fe [] (bw false (tB h λx1 y1 h=>tT q [8,9] [] [⟨[],[],(.tuple [(JV x1.1),(JV x1.2)]),[],[],[]⟩] (c1 (VS y1)) (Ae q Px [] (tS h (Bp [])))))
abbrev GU:=(Int×Ao)
abbrev u3:=(LR (Int×Ao) Ao)
def C7 :GU->Option u3:=
 λ((i7,l8):GU)=>(bif (decide (i7<(l8.length:Int))) then(Aw (0<=i7/\0+i7.toNat<=l8.length) (Aw (0<=i7/\0+i7.toNat<=l8.length) (some (.next ((w64 (i7+((Nat.min ((0+i7.toNat)-0) (l8.length-(0+i7.toNat))):Int))),(fy l8 (0+i7.toNat) (Nat.min ((0+i7.toNat)-0) (l8.length-(0+i7.toNat))) (λi=>l8.getD (0+i) 0))))))) else(some (.done l8)))
def nX(x3:Hn):=(List.replicate (w64 x3.2).toNat (0:Int))
def Q58(x3:Hn)(aD:Ao):=(fy (nX x3) 0 (Nat.min aD.length ((nX x3).length-0)) (λi=>aD.getD i 0))
def Q57(l8:Ao)(i7:Int):=(fy l8 (0+i7.toNat) (Nat.min ((0+i7.toNat)-0) (l8.length-(0+i7.toNat))) (λi=>l8.getD (0+i) 0))
def Ir(aD:Ao)(aaE:Int):Option Ao:=
 (Option.bind (α:=Unit) (bif (decide (aaE<0)) then none else(some ())) (λx1=>(match x1 with|_=>((R7 (Fj (aD.length:Int)) (Fj aaE)).bind λx3=>(Option.bind (α:=Unit) (bif (bif (decide ((0:Int)<x3.1)) then true else(decide ((9223372036854775807:Int)<x3.2))) then none else(some ())) (λx4=>(match x4 with|_=>(Aw (0<=(w64 x3.2)/\(w64 x3.2)<=(w64 x3.2)/\(w64 x3.2)<=(room:Int)) ((Ad (S:=GU) (X:=Ao) C7 (((Nat.min aD.length ((List.replicate (w64 x3.2).toNat (0:Int)).length-0)):Int),(fy (List.replicate (w64 x3.2).toNat (0:Int)) 0 (Nat.min aD.length ((List.replicate (w64 x3.2).toNat (0:Int)).length-0)) (λi=>aD.getD i 0)))).bind (λx12=>(some x12)))))))))))
theorem Wj(h:Ir v2 v1=some v17):sP 177 [(Mw v2),(Z6 v1)] [] (.vsl 20000 v17.length) [(Z4 20000 v17)]:=
 sG Tryz.func177 λΓ q=>gR q Fe [] [(4,jK)] [] (c1 (Bc 1 Am (0:Int))) (tB h λx1 y1 h=>gJ y1 (λ_=>aG Γ .normal (⟨[(0,(Mw v2)),(1,(Z6 v1))],[],[]⟩:St)) (λy h=>Ae q DA [] (gC h (λh=>nomatch h) λh=>tS h (gK (A3 (A8 Fe [] q))))) (gA (tB h λx3 y3 h=>tT q [0,5,6] [] [⟨[],[],(.tuple [(JV x3.1),(JV x3.2)]),[],[],[]⟩] (c1 (MQ y3)) (tB h λx4 y4 h=>gJ y4 (λ_=>aG Γ .normal (⟨[(0,(Mw v2)),(6,(JV x3.2))],[],[]⟩:St)) (λy h=>tU q [0,6,26] [] (c2 (gI ((decide ((0:Int)<x3.1))==false)) (I4 (decide ((0:Int)<x3.1)))) (gC h (λh=>nomatch h) λh=>tS h (gK (A3 (A8 [0,6] [] q))))) (gA (tV q [0,7] [30] h λh=>by exact M1 (Le.trans (Vf 30 (show ∀ k_,k_<((w64 x3.2).toNat)->AVleL ((λi_=>AV.eraseAll (λn_=>B3 n_ [30]) ((λ_=>[La]) i_)) k_) ((λi=>Am ((nX x3).getD i 0)) k_) from(λk hk=>Rb (e:=Am) (d:=(0:Int)) (.cons (AVle.refl _) .nil) _ k (Ri hk)))) (Vg (λ(k_:Nat) u=>(Cn u [(V6 30 k_)] [(30,.arr 1 3 k_ (λi=>Am ((nX x3).getD i 0)))])) (show(w64 x3.2).toNat=(nX x3).length from(S2 ..).symm))) (tU q [7,8] [30] (c1 (Eq.refl ((nX x3).length))) (M1 (Le.trans (Vf 30 (show ∀ k_,k_<((nX x3).length)->AVleL ((λi_=>AV.eraseAll (λn_=>B3 n_ [30]) ((fw (λi=>Am ((nX x3).getD i 0)) 0 (Nat.min v2.length ((nX x3).length-0)) (λi=>Am (v2.getD i 0))) i_)) k_) ((λi=>Am ((Q58 x3 v2).getD i 0)) k_) from(Bj (Jq ..) (λk_ hk_=>(Bl (AV.eraseAll (λn_=>B3 n_ [30])) ((OW (e:=Am) (d:=(0:Int)) (l:=(nX x3)) (s:=(λi=>v2.getD i 0)) (λ_ _=>rfl) (λ_ _=>rfl)) k_ hk_)).trans rfl)))) (Vg (λ(k_:Nat) u=>(Cn u [(V6 30 k_)] [(30,.arr 1 3 k_ (λi=>Am ((Q58 x3 v2).getD i 0)))])) (show(nX x3).length=(Q58 x3 v2).length from(Jq ..)))) (tL q h [7,8] [30] (λu (i7,l8)=>(Cn u [(V6 30 l8.length),(8,(Z6 i7))] [(Z4 30 l8)])) (λu l9=>aG Γ (.exit 0) (⟨[(V6 30 l9.length)],[(Z4 30 l9)],[]⟩:St)) (λ⟨i7,l8⟩ y h=>Ae q [7,8,37] [30] (gC h (λh=>tC h λc10_ h=>tC h λc11_ h=>tU q [7,8] [30] (c4 c10_ c11_ (Eq.refl l8.length) (Eq.refl l8.length)) (tS h (gN (Le.trans (Le.trans (Vf 30 (show ∀ k_,k_<l8.length->AVleL ((λi_=>AV.eraseAll (λn_=>B3 n_ [30]) ((fw (λi=>Am (l8.getD i 0)) (0+i7.toNat) (Nat.min ((0+i7.toNat)-0) (l8.length-(0+i7.toNat))) (λi=>(λi=>Am (l8.getD i 0)) (0+i))) i_)) k_) ((λi=>Am ((Q57 l8 i7).getD i 0)) k_) from(Bj (Jq ..) (λk_ hk_=>(Bl (AV.eraseAll (λn_=>B3 n_ [30])) ((OW (e:=Am) (d:=(0:Int)) (l:=l8) (s:=(λi=>l8.getD (0+i) 0)) (λ_ _=>rfl) (λ_ _=>rfl)) k_ hk_)).trans rfl)))) (Vg (λ(k_:Nat) u=>(Cn u [(V6 30 k_)] [(30,.arr 1 3 k_ (λi=>Am ((Q57 l8 i7).getD i 0)))])) (show l8.length=(Q57 l8 i7).length from(Jq ..)))) Gt)))) λh=>tS h (gO (A3 (A8 [7] [30] q))))) λx12 h=>gA (Ae q [4] [30] (tS h (Bp [(30,20000)]))))))))))))
abbrev WJ:=(Int×List Bool)
abbrev qg:=(LR (Int×List Bool) (List Bool))
def Lc(a9:Ao):WJ->Option qg:=
 λ((i2,l3):WJ)=>(bif (i2 !=-1) then(Aw (As i2 l3.length) (Aw (As i2 a9.length) (some (.next ((a9.getD i2.toNat 0),(l3.set i2.toNat true)))))) else(some (.done l3)))
def Je(a9:Ao)(l4:List Bool):Int->Option (LR Int Int):=
 λ(i9:Int)=>(Aw (As i9 l4.length) (bif (!(l4.getD i9.toNat false)) then(Aw (As i9 a9.length) (some (.next (a9.getD i9.toNat 0)))) else(some (.done i9))))
def R9(a9:Ao)(aN:Int)(aP:Int):Option Int:=
 (Aw (0<=(a9.length:Int)/\(a9.length:Int)<=(a9.length:Int)/\(a9.length:Int)<=(room:Int)) ((Ad (Lc a9) (aN,(List.replicate (a9.length:Int).toNat false))).bind (λx7=>((Ad (Je a9 x7) aP).bind (λx13=>(some x13))))))
variable{v20:Int}
theorem MS(h:R9 v2 v1 v11=some v20):sP 206 [(Mw v2),(Z6 v1),(Z6 v11)] [] (.int .i64 v20) []:=
 sG Tryz.func206 λΓ q=>Ae q UJ [] (tV q [0,1,2,7] [11] h λh=>by exact M1 (Le.trans (Vf 11 (show ∀ k_,k_<((v2.length:Int).toNat)->AVleL ((λi_=>AV.eraseAll (λn_=>B3 n_ [11]) ((λ_=>[(.bool false)]) i_)) k_) ((λi=>eB ((List.replicate (v2.length:Int).toNat false).getD i false)) k_) from(λk hk=>Rb (e:=eB) (d:=false) (.cons (AVle.refl _) .nil) _ k (Ri hk)))) (Vg (λ(k_:Nat) u=>(Cn u [(V6 11 k_)] [(11,.arr 1 4 k_ (λi=>eB ((List.replicate (v2.length:Int).toNat false).getD i false)))])) (show(v2.length:Int).toNat=(List.replicate (v2.length:Int).toNat false).length from(S2 ..).symm))) (Ae q bs [11] (tL q h bs [11] (λu (i2,l3)=>(Cn u [(V6 11 l3.length),(8,(Z6 i2))] [(lA 11 l3)])) (λu l4=>aG Γ (.exit 0) (Nc UK [11] u [(V6 11 l4.length)] [(lA 11 l4)])) (λ⟨i2,l3⟩ y h=>Ae q [0,2,7,8,14] [11] (gC h (λh=>tC h λc5_ h=>tU q bs [11] (c2 c5_ (Eq.refl l3.length)) (M1 (Le.trans (Vf 11 (show ∀ k_,k_<l3.length->AVleL ((λi_=>AV.eraseAll (λn_=>B3 n_ [11]) ((Fb (λi=>eB (l3.getD i false)) i2.toNat 0 [(.bool true)]) i_)) k_) ((λi=>eB ((l3.set i2.toNat true).getD i false)) k_) from(Bj (D0 ..).symm (λk_ hk_=>(Bl (AV.eraseAll (λn_=>B3 n_ [11])) ((Hd (λ_ _=>rfl) (Jx c5_) rfl) k_ hk_)).trans rfl)))) (Vg (λ(k_:Nat) u=>(Cn u [(V6 11 k_)] [(11,.arr 1 4 k_ (λi=>eB ((l3.set i2.toNat true).getD i false)))])) (show l3.length=(l3.set i2.toNat true).length from(D0 ..).symm))) (tV q bs [11] h λh=>tN h))) λh=>tS h (gO (A3 (A8 UK [11] q))))) λx7 h=>gA (tL q h UK [11] (λu i9=>(Cn u [(2,(Z6 i9))] [])) (λu i10=>aG Γ (.exit 2) (⟨[(2,(Z6 i10))],[],[]⟩:St)) (λi9 y h=>tC h λc11_ h=>tU q [0,2,7,26] [11] (c2 c11_ (Eq.refl x7.length)) (gC h (λh=>tV q UK [11] h λh=>tN h) λh=>tS h (gO (A3 (A8 [2] [] q))))) λx13 h=>gA (Ae q [6] [] (tS h (Bp [])))))))
open Go Go.RowKit
set_option maxRecDepth 100000
set_option maxHeartbeats 2000000
def Fp(a9:Ao)(aB:Ao):Hn->Option iI:=
 λ((i1,i2):Hn)=>(bif (decide (i2<(aB.length:Int))) then(Option.bind (α:=Int) (Aw (As i2 aB.length) (Aw (As (aB.getD i2.toNat 0) a9.length) (bif ((a9.getD (aB.getD i2.toNat 0).toNat (0:Int))==-2) then(some i1) else(bif (i1==-2) then(some (aB.getD i2.toNat 0)) else((R9 a9 i1 (aB.getD i2.toNat 0)).bind λx7=>(some x7)))))) (λx8=>(some (.next (x8,(w64 (i2+1))))))) else(some (.done i1)))
def Mz(a9:Ao)(aB:Ao):Option Int:=
 ((Ad (Fp a9 aB) ((-2:Int),(0:Int))).bind (λx10=>(some x10)))
theorem BS(h:Mz v2 v17=some v1):sP 178 [(Mw v2),(Mw v17)] [] (.int .i64 v1) []:=
 sG Tryz.func178 λΓ q=>tW q Fe [] Pf [] (Ae q LM [] (tL q h LM [] (λu (i1,i2)=>(Cn u [(5,(Z6 i1)),(10,(Z6 i2))] [])) (λu i3=>aG Γ (.exit 0) (⟨[(5,(Z6 i3))],[],[]⟩:St)) (λ⟨i1,i2⟩ y h=>Ae q [0,5,8,9,10,11] [] (gC h (λh=>tB h λx8 y8 h=>gJ y8 (λi4=>aG Γ .normal (⟨[(0,(Mw v2)),(5,(Z6 i4)),(8,(Mw v17)),(9,(JQ v17.length)),(10,(Z6 i2))],[],[]⟩:St)) (λy h=>tV q [0,5,7,8,9,10] [] h λh=>tV q [0,5,7,8,9,10,18] [] h λh=>gC h (λh=>tS h (gK (A3 (A8 LM [] q)))) λh=>Ae q [0,5,7,8,9,10,24] [] (gC h (λh=>Ae q LM [] (tS h (gK (A3 Gt)))) λh=>tB h λx7 y7 h=>tT q LM [] [(JP x7)] (c1 (MS y7)) (tS h (gK (A3 Gt))))) (gA (Ae q LM [] (tN h)))) λh=>tS h (gO (A3 (A8 [5] [] q))))) λx10 h=>gA (Ae q [4] [] (tS h (Bp [])))))
abbrev u4:=(Bool×Int×Ao)
abbrev Aaq:=(LR (Bool×Int×Ao) (Bool×Ao))
abbrev qh:=(Bool×Ao)
def E2(a4:TGraph)(x3:Ao):u4->Option Aaq:=
 λ((b7,i8,l9):u4)=>(bif (decide (i8<((x3.drop (1:Int).toNat).length:Int))) then(Option.bind (α:=qh) (Aw (As i8 (x3.drop (1:Int).toNat).length) (Aw (As ((x3.drop (1:Int).toNat).getD i8.toNat 0) a4.Pred.length) ((Mz l9 (a4.Pred.getD ((x3.drop (1:Int).toNat).getD i8.toNat 0).toNat [])).bind λx16=>(Aw (As ((x3.drop (1:Int).toNat).getD i8.toNat 0) l9.length) (bif (x16 !=(l9.getD ((x3.drop (1:Int).toNat).getD i8.toNat 0).toNat (0:Int))) then(Aw (As ((x3.drop (1:Int).toNat).getD i8.toNat 0) l9.length) (some (true,(l9.set ((x3.drop (1:Int).toNat).getD i8.toNat 0).toNat x16)))) else(some (b7,l9))))))) (λ(b12,l13)=>(some (.next (b12,(w64 (i8+1)),l13))))) else(some (.done (b7,l9))))
def V9(a4:TGraph)(l1:Ao):u4->Option Aaq:=
 λ((b24,i25,l26):u4)=>(bif (decide (i25<((l1.drop (1:Int).toNat).length:Int))) then(Option.bind (α:=qh) (Aw (As i25 (l1.drop (1:Int).toNat).length) (Aw (As ((l1.drop (1:Int).toNat).getD i25.toNat 0) a4.Pred.length) ((Mz l26 (a4.Pred.getD ((l1.drop (1:Int).toNat).getD i25.toNat 0).toNat [])).bind λx33=>(Aw (As ((l1.drop (1:Int).toNat).getD i25.toNat 0) l26.length) (bif (x33 !=(l26.getD ((l1.drop (1:Int).toNat).getD i25.toNat 0).toNat (0:Int))) then(Aw (As ((l1.drop (1:Int).toNat).getD i25.toNat 0) l26.length) (some (true,(l26.set ((l1.drop (1:Int).toNat).getD i25.toNat 0).toNat x33)))) else(some (b24,l26))))))) (λ(b29,l30)=>(some (.next (b29,(w64 (i25+1)),l30))))) else(some (.done (b24,l26))))
abbrev mX:=(Ao×Ao)
def Hs(a4:TGraph):mX->Option (LR (Ao×Ao) Ao):=
 λ(s_:mX)=>match s_ with|(l1,l2)=>(Aw (0<=(1:Int)/\(1:Int)<=(l1.length:Int)) ((Ad (V9 a4 l1) (false,(0:Int),l2)).bind (λx38=>(match x38 with|(b27,l28)=>(bif b27 then(some (.next (l1,l28))) else(some (.done l28)))))))
def fB(Γ:H4)(a4:TGraph)(aa7:Int)(r:Ao):Exit->St->Prop:=fK Tryz.prog Γ Tryz.f142.results.toList [] (HL r 20000) [(Tq 20000 r.length)]
def xw:=(λn_=>B3 n_ [2,13,21])
def Q61:List NI:=[(4,jK)]
def Q60(x3:Ao)(i8:Int):=((x3.drop (1:Int).toNat).getD i8.toNat 0)
def Q59(l1:Ao)(i25:Int):=((l1.drop (1:Int).toNat).getD i25.toNat 0)
def Q62(a4:TGraph):List AV:=[(FY a4.Succ),(FY a4.Pred)]
def Q64:=(Z36:St)
def Ui(a4:TGraph)(aa7:Int):Option Ao:=
 ((Tc (S:=mX) (X:=Ao) ((Ld a4 aa7).bind λx3=>(bif ((x3.length:Int)==0) then(some (.done ([]:Ao))) else((Ir ([(-2:Int)]:Ao) (a4.Succ.length:Int)).bind λx4=>(Aw (As aa7 x4.length) (Aw (0<=(1:Int)/\(1:Int)<=(x3.length:Int)) ((Ad (E2 a4 x3) (false,(0:Int),(x4.set aa7.toNat (-1:Int)))).bind (λ(b10,l11)=>(bif b10 then(some (.next (x3,l11))) else(some (.done l11)))))))))) (Hs a4)).bind (λx40=>(some x40)))
theorem dh(h:Ui v18 v1=some v2):sP 142 [(e8 v18),(Z6 v1)] [] (HL v2 20000) [(Tq 20000 v2.length)]:=
 sG Tryz.func142 λΓ q=>have hΓ:=q.own;gR q Ng [2] Q61 [] (c1 (Bc 1 Am (0:Int))) (tB h λx40 y40 h=>gS y40 (λ(s_:mX)=>match s_ with|(l1,l2)=>0) (λ(s_:mX)=>match s_ with|(l1,l2)=>(⟨[N8,(5,(HL l1 13)),(6,(.vsl 21 l2.length))],[(L5 97 (Q62 v18)),(Tq 13 l1.length),(Z4 21 l2)],[]⟩:St)) (λr_=>aR (fB Γ v18 v1 r_)) (λy h=>tB h λx3 y3 h=>tT q Wm [2,13] [(we 13 x3 x3.length)] (c1 (BT y3)) (Ae q [1,2,5,16] [2,13] (gC h (λh=>gR q [4] [] Q61 [] (c1 (Bc 1 Am (0:Int))) (O6 (⟨Q61,[],[]⟩:St) (tS h (mo (Mk (H5 TN (show Le Γ _ Q64 from Le.trans (A8 (st':=⟨Q61,[],[]⟩) [4] [] q) (Le.trans (Lb (t:=4) (nm:=6004) (sz':=1) (λi=>Am (([]:Ao).getD i 0)) 3 rfl rfl (.inl ⟨rfl,rfl⟩) (λh_=>absurd h_ (by decide))) (A8 (st':=Q64) [4] [6004] q))))))))) λh=>tB h λx4 y4 h=>gR q [1,2,5,6] Kb [(17,(AV.list 1 Am 0 ([(-2:Int)]:Ao) .exact))] [⟨[],[(20000,21)],(.vsl 20000 x4.length),[(Z4 20000 x4)],[],[]⟩] (c2 (Az 1 Am (0:Int) ([(-2:Int)]:Ao)) (Wj y4)) (tC h λc5_ h=>tU q V5 Kb (c2 c5_ (Eq.refl x4.length)) (M1 (Le.trans (Vf 21 (show ∀ k_,k_<x4.length->AVleL ((λi_=>AV.eraseAll xw ((Fb (λi=>Am (x4.getD i 0)) v1.toNat 0 [(.int .i64 (-1:Int))]) i_)) k_) ((λi=>Am ((x4.set v1.toNat (-1:Int)).getD i 0)) k_) from(Bj (D0 ..).symm (λk_ hk_=>(Bl (AV.eraseAll xw) ((Hd (λ_ _=>rfl) (Jx c5_) rfl) k_ hk_)).trans rfl)))) (Vg (λ(k_:Nat) u=>(Cn u [(6,(.vsl 21 k_))] [(21,.arr 1 3 k_ (λi=>Am ((x4.set v1.toNat (-1:Int)).getD i 0)))])) (show x4.length=(x4.set v1.toNat (-1:Int)).length from(D0 ..).symm))) (Ae q LT Kb (tC h λc6_ h=>gR q FP Kb [(26,(AV.list 1 Am 0 (x3.drop (1:Int).toNat) .none))] [] (c2 c6_ (show(AVle (Z69 x3) (AV.list 1 Am 0 (x3.drop (1:Int).toNat) .none)) from ZP)) (tL q h FP Kb (λu (b7,i8,l9)=>(Cn u [(6,(.vsl 21 l9.length)),(7,(.bool b7)),(28,(Z6 i8))] [(Z4 21 l9)])) (λu (b10,l11)=>aG Γ (.exit 0) (Nc LT Kb u [(6,(.vsl 21 l11.length)),(7,(.bool b10))] [(Z4 21 l11)])) (λ⟨b7,i8,l9⟩ y h=>Ae q qt Kb (gC h (λh=>tB h λx19 y19 h=>gJ y19 (λ(b12,l13)=>aG Γ .normal (⟨[N8,(5,(HL x3 13)),(6,(.vsl 21 l13.length)),(7,(.bool b12)),(26,(AV.list 1 Am 0 (x3.drop (1:Int).toNat) .none)),(27,(.int .i64 ((x3.drop (1:Int).toNat).length:Int))),(28,(Z6 i8))],[(L5 97 (Q62 v18)),(Tq 13 x3.length),(Z4 21 l13)],[]⟩:St)) (λy h=>tV q qw Kb h λh=>tC h λc15_ h=>tB h λx16 y16 h=>tT q qp Kb [⟨[],[],(Z6 x16),[],[21],[]⟩] (c4 c15_ (BS y16) (show(MH []) from trivial) (Eq.refl l9.length)) (tC h λc17_ h=>tU q qo Kb (c2 c17_ (Eq.refl l9.length)) (gC h (λh=>tC h λc18_ h=>tU q FP Kb (c2 c18_ (Eq.refl l9.length)) (tS h (gK (A3 (Le.trans (Le.trans (Vf 21 (show ∀ k_,k_<l9.length->AVleL ((λi_=>AV.eraseAll xw ((Fb (λi=>Am (l9.getD i 0)) (Q60 x3 i8).toNat 0 [(Z6 x16)]) i_)) k_) ((λi=>Am ((l9.set (Q60 x3 i8).toNat x16).getD i 0)) k_) from(Bj (D0 ..).symm (λk_ hk_=>(Bl (AV.eraseAll xw) ((Hd (λ_ _=>rfl) (Jx c18_) rfl) k_ hk_)).trans rfl)))) (Vg (λ(k_:Nat) u=>(Cn u [(6,(.vsl 21 k_))] [(21,.arr 1 3 k_ (λi=>Am ((l9.set (Q60 x3 i8).toNat x16).getD i 0)))])) (show l9.length=(l9.set (Q60 x3 i8).toNat x16).length from(D0 ..).symm))) Gt))))) λh=>tS h (gK (A3 (A8 FP Kb q)))))) (match x19,h with|⟨b12,l13⟩,h=>gA (Ae q FP Kb (tN h)))) λh=>tS h (gO (A3 (A8 LT Kb q))))) λx21 h=>(match x21,h with|⟨b10,l11⟩,h=>gA (Ae q [2,5,6,50] Kb (gC h (λh=>tS h (ov (A8 V5 Kb q))) λh=>Ae q [4] [21] (O6 ((k8 21 l11.length l11):St) (tS h (mo (Mk (H5 [(21,20000)] (Le.trans (Gm (nm:=21) (sz:=1) (n:=l11.length) (e:=3) (f:=(λi=>Am (l11.getD i 0))) (g:=(λi=>Am (l11.getD i 0))) rfl ⟨rfl,trivial⟩ (λ_ _=>rfl) (by rw[hΓ];rfl)) (H6 (st':=(yA l11 21 l11.length)) (by kernel_rfl))))))))))))))))))) (λ⟨l1,l2⟩ y h=>Ae q LT Kb (tC h λc23_ h=>gR q FP Kb [(26,(AV.list 1 Am 0 (l1.drop (1:Int).toNat) .none))] [] (c2 c23_ (show(AVle (Z69 l1) (AV.list 1 Am 0 (l1.drop (1:Int).toNat) .none)) from ZP)) (tL q h FP Kb (λu (b24,i25,l26)=>(Cn u [(6,(.vsl 21 l26.length)),(7,(.bool b24)),(28,(Z6 i25))] [(Z4 21 l26)])) (λu (b27,l28)=>aG Γ (.exit 0) (Nc LT Kb u [(6,(.vsl 21 l28.length)),(7,(.bool b27))] [(Z4 21 l28)])) (λ⟨b24,i25,l26⟩ y h=>Ae q qt Kb (gC h (λh=>tB h λx36 y36 h=>gJ y36 (λ(b29,l30)=>aG Γ .normal (⟨[N8,(5,(HL l1 13)),(6,(.vsl 21 l30.length)),(7,(.bool b29)),(26,(AV.list 1 Am 0 (l1.drop (1:Int).toNat) .none)),(27,(.int .i64 ((l1.drop (1:Int).toNat).length:Int))),(28,(Z6 i25))],[(L5 97 (Q62 v18)),(Tq 13 l1.length),(Z4 21 l30)],[]⟩:St)) (λy h=>tV q qw Kb h λh=>tC h λc32_ h=>tB h λx33 y33 h=>tT q qp Kb [⟨[],[],(Z6 x33),[],[21],[]⟩] (c4 c32_ (BS y33) (show(MH []) from trivial) (Eq.refl l26.length)) (tC h λc34_ h=>tU q qo Kb (c2 c34_ (Eq.refl l26.length)) (gC h (λh=>tC h λc35_ h=>tU q FP Kb (c2 c35_ (Eq.refl l26.length)) (tS h (gK (A3 (Le.trans (Le.trans (Vf 21 (show ∀ k_,k_<l26.length->AVleL ((λi_=>AV.eraseAll xw ((Fb (λi=>Am (l26.getD i 0)) (Q59 l1 i25).toNat 0 [(Z6 x33)]) i_)) k_) ((λi=>Am ((l26.set (Q59 l1 i25).toNat x33).getD i 0)) k_) from(Bj (D0 ..).symm (λk_ hk_=>(Bl (AV.eraseAll xw) ((Hd (λ_ _=>rfl) (Jx c35_) rfl) k_ hk_)).trans rfl)))) (Vg (λ(k_:Nat) u=>(Cn u [(6,(.vsl 21 k_))] [(21,.arr 1 3 k_ (λi=>Am ((l26.set (Q59 l1 i25).toNat x33).getD i 0)))])) (show l26.length=(l26.set (Q59 l1 i25).toNat x33).length from(D0 ..).symm))) Gt))))) λh=>tS h (gK (A3 (A8 FP Kb q)))))) (match x36,h with|⟨b29,l30⟩,h=>gA (Ae q FP Kb (tN h)))) λh=>tS h (gO (A3 (A8 LT Kb q))))) λx38 h=>(match x38,h with|⟨b27,l28⟩,h=>gA (Ae q [2,5,6,50] Kb (gC h (λh=>tS h (ov (A8 V5 Kb q))) λh=>Ae q [4] [21] (O6 ((k8 21 l28.length l28):St) (tS h (mo (Mk (H5 [(21,20000)] (Le.trans (Gm (nm:=21) (sz:=1) (n:=l28.length) (e:=3) (f:=(λi=>Am (l28.getD i 0))) (g:=(λi=>Am (l28.getD i 0))) rfl ⟨rfl,trivial⟩ (λ_ _=>rfl) (by rw[hΓ];rfl)) (H6 (st':=(yA l28 21 l28.length)) (by kernel_rfl)))))))))))))) (gAr (λst' hk=>tS h (gK hk))))
def Pu(aaG:List Bf)(aaP:Ao):Int->Option (LR Int (Unit ⊕ Bool)):=
 λ(i1:Int)=>(bif (decide (i1<(aaG.length:Int))) then(Aw (As i1 aaG.length) ((Ei ((aaG.getD i1.toNat default).From) aaP).bind λx3=>(bif (bif (!x3) then true else((((aaG.getD i1.toNat default).Args).length:Int)!=(aaP.length:Int))) then(some (.done (.inr false))) else(some (.next (w64 (i1+1))))))) else(some (.done (.inl ()))))
def NU(Γ:H4)(aaG:List Bf)(aaP:Ao)(r:Bool):Exit->St->Prop:=fK Tryz.prog Γ Tryz.f143.results.toList [] (.bool r) []
def Pk(aaG:List Bf)(aaP:Ao):Option Bool:=
 ((Ad (Pu aaG aaP) (0:Int)).bind (λx4=>(match x4 with|(.inl _)=>(some true)|(.inr r6)=>(some r6))))
theorem KQ(h:Pk v5 v2=some v3):sP 143 [(wi v5),(Mw v2)] [] (.bool v3) []:=
 sG Tryz.func143 λΓ q=>tW q Fe [] Nd [] (tL q h Nd [] (λu i1=>(Cn u [(9,(Z6 i1))] [])) (λu x_=>match x_ with|(.inl _)=>aG Γ (.exit 0) (⟨[],[],[]⟩:St)|(.inr r_)=>aR (NU Γ v5 v2 r_)) (λi1 y h=>Ae q NQ [] (gC h (λh=>tV q NR [6] h λh=>tB h λx3 y3 h=>tT q [1,7,8,9,25] [] [(Z7 x3)] (ci (Lw y3) (xC ((!x3)==false) (c1 (I4 (!x3))))) (gC h (λh=>Ae q [4] [] (tS h (gO (Mk (H5 [] (Le.refl _ _)))))) λh=>Ae q Nd [] (tN h))) λh=>tS h (gO (A3 (A8 [] [] q))))) λx4 h=>(match x4,h with | .inl _,h=>gA (Ae q [4] [] (tS h (Bp []))) | .inr r6,h=>gAr (λst' hk=>tS h (gK hk))))
def Q65(aQ:Jm):=(bif (aQ.Kind==0) then true else(aQ.Kind==2))
def Pj(aQ:Jm):Option Bool:=
 (some (bif (bif (aQ.Kind==0) then true else(aQ.Kind==2)) then true else(aQ.Arg==0)))
theorem KP(h:Pj v8=some v3):sP 144 [(.agg (jY v8))] [] (.bool v3) []:=
 sG Tryz.func144 λΓ q=>Ae q [1] [1] (tU q [2] [] (J7 ((v8.Kind==0)==false) (ci (I4 (v8.Kind==0)) (J7 ((Q65 v8)==false) (c1 (I4 (Q65 v8)))))) (tS h (Bp [])))
def Dd(a3:TFunc)(a5:Int)(aA:List Be)(x1:iJ)(x3:Ao):Int->Option (LR Int (Unit ⊕ (Int×TFunc×Int×Ao×List Be))):=
 λ(i4:Int)=>(bif (decide (i4<(a3.Blocks.length:Int))) then(Aw (As i4 a3.Blocks.length) (Aw (As i4 x1.1.Pred.length) ((Pk ((a3.Blocks.getD i4.toNat default).Phis) (x1.1.Pred.getD i4.toNat [])).bind λx7=>((bif ((!x7)==false) then Pj (⟨(a3.Blocks.getD i4.toNat default).End.Kind,(a3.Blocks.getD i4.toNat default).End.Arg,(a3.Blocks.getD i4.toNat default).End.To⟩:Jm) else some false).bind λx8=>(bif (bif (!x7) then true else(!x8)) then(some (.done (.inr ((5:Int),a3,a5,x3,aA)))) else(some (.next (w64 (i4+1))))))))) else(some (.done (.inl ()))))
def Xm(Γ:H4)(a3:TFunc)(a5:Int)(a7:Ao)(aA:List Be)(r:mZ):Exit->St->Prop:=fK Tryz.prog Γ Tryz.f88.results.toList (Z3 a3.Params a3.Ret a3.Blocks a5 a7 aA aA.length) (Z6 r.1) (Z3 r.2.1.Params r.2.1.Ret r.2.1.Blocks r.2.2.1 r.2.2.2.1 r.2.2.2.2 r.2.2.2.2.length)
def Q68(x1:iJ):=((x1.2 !=0)==false)
def Q67(x3:Ao)(a3:TFunc)(a5:Int)(aA:List Be):List OM:=[(Tq 31 x3.length),(30000,.row 105 [(Mw a3.Params),(Z6 a3.Ret),(VD a3.Blocks),(Z6 a5),(Mw x3),.nilm,(AV.list 5 Ol default aA (.own 37006))]),(M0 37006 198 aA.length)]
def Q66(x3:Ao)(a3:TFunc)(a5:Int)(aA:List Be):List OM:=[(Tq 31 x3.length),(30000,.row 105 [(Mw a3.Params),(Z6 a3.Ret),(VD a3.Blocks),(Z6 a5),(HL x3 31),.nilm,(AV.list 5 Ol default aA (.own 37006))]),(M0 37006 198 aA.length)]
def I5(a3:TFunc)(a5:Int)(a7:Ao)(aA:List Be):Option mZ:=
 ((Uj a3).bind λx1=>((bif ((x1.2 !=0)==false) then Ld x1.1 (0:Int) else some []).bind λx2=>(bif (bif (x1.2 !=0) then true else(decide ((x2.length:Int)<(a3.Blocks.length:Int)))) then(some ((5:Int),a3,a5,a7,aA)) else((Ui x1.1 (0:Int)).bind λx3=>((Ad (Dd a3 a5 aA x1 x3) (0:Int)).bind (λx9=>(match x9 with|(.inl _)=>(some ((0:Int),a3,a5,x3,aA))|(.inr r11)=>(some r11))))))))
theorem W5(h:I5 v0 v1 v2 v12=some v13):sP 88 [Wu] (Z3 v0.Params v0.Ret v0.Blocks v1 v2 v12 v12.length) (Z6 v13.1) (Z3 v13.2.1.Params v13.2.1.Ret v13.2.1.Blocks v13.2.2.1 v13.2.2.2.1 v13.2.2.2.2 v13.2.2.2.2.length):=
 sG Tryz.func88 λΓ q=>Ae q [0] Iy (tB h λx1 y1 h=>tT q Tn TK [(wg x1.1 x1.2)] (c1 (MT y1)) (tB h λx2 y2 h=>tT q [0,3,28] TK [⟨[],[],(Mw x2),[],[],[]⟩] (PY (gI (Q68 x1)) (show((Q68 x1)=true->(sP 141 [(e8 x1.1),La] [] (Mw x2) [])) from(λhg=>(Spec.drop (BT (Ba hg y2))))) (gI8 (Q68 x1) (c1 (I4 (x1.2 !=0))))) (gC h (λh=>Ae q [2] Iy (tS h (Bp Zf))) λh=>tB h λx3 y3 h=>tT q R0 YV [(we 31 x3 x3.length)] (c1 (dh y3)) (Ae q ip YV (tL q h ip YV (λu i4=>(Cn u [(40,(Z6 i4))] [])) (λu x_=>match x_ with|(.inl _)=>aG Γ (.exit 0) (Nc [] YY u [] [])|(.inr r_)=>aR (Xm Γ v0 v1 v2 v12 r_)) (λi4 y h=>Ae q [3,38,39,40,41] YV (gC h (λh=>tV q [3,5,6,38,39,40] [3,6,31,30000,37006] h λh=>tC h λc6_ h=>tB h λx7 y7 h=>tB h λx8 y8 h=>tT q [3,38,39,40,59] YV [(Z7 x7),(Z7 x8)] (PY c6_ (KQ y7) (J7 ((!x7)==false) (c3 (λ(hg:((!x7)==false)=true)=>(KP (Ba hg y8))) (gI ((!x7)==false)) (I4 (!x7))))) (gC h (λh=>Ae q [2] YY (O6 (⟨[(2,(.int .i64 (5:Int)))],(Q66 x3 v0 v1 v12),[]⟩:St) (tS h (gO (Mk (H5 Zf (show Le Γ _ (⟨[(2,(.int .i64 (5:Int)))],(Q67 x3 v0 v1 v12),[]⟩:St) from Le.trans (A8 (st':=⟨[(2,(.int .i64 (5:Int)))],(Q66 x3 v0 v1 v12),[]⟩) [2] YY q) (Gu (.cons (AVle.refl _) .nil) (.same (.row (.cons (AVle.refl _) (.cons (AVle.refl _) (.cons (AVle.refl _) (.cons (AVle.refl _) (.cons AVle.untag (.cons (AVle.refl _) (.cons (AVle.refl _) .nil))))))) (.same .nil))))))))))) λh=>Ae q ip YV (tN h))) λh=>tS h (gO (A3 (A8 [] YY q))))) λx9 h=>(match x9,h with | .inl _,h=>gA (Ae q [2] YY (O6 (⟨[(2,La)],(Q66 x3 v0 v1 v12),[]⟩:St) (tS h (gK (e:=.ret) (H5 Zf (show Le Γ _ (⟨[(2,La)],(Q67 x3 v0 v1 v12),[]⟩:St) from Le.trans (A8 (st':=⟨[(2,La)],(Q66 x3 v0 v1 v12),[]⟩) [2] YY q) (Gu (.cons (AVle.refl _) .nil) (.same (.row (.cons (AVle.refl _) (.cons (AVle.refl _) (.cons (AVle.refl _) (.cons (AVle.refl _) (.cons AVle.untag (.cons (AVle.refl _) (.cons (AVle.refl _) .nil))))))) (.same .nil)))))))))) | .inr r11,h=>gAr (λst' hk=>tS h (gK hk))))))))
def Lh(aI:Int):Option Bool:=
 (Option.bind (α:=Bool) (bif (aI==1) then(some (aI==1)) else(bif (aI==8) then(some (aI==8)) else(bif (aI==16) then(some (aI==16)) else(bif (aI==32) then(some (aI==32)) else(some (aI==64)))))) (λx2=>(bif x2 then(some true) else(some false))))
theorem N3(h:Lh v1=some v3):sP 146 [(Z6 v1)] [] (.bool v3) []:=
 sG Tryz.func146 λΓ q=>tW q [0] [] [3] [] (tB h λx2 y2 h=>gJ y2 (λb1=>aG Γ .normal (⟨[(4,(.bool b1))],[],[]⟩:St)) (λy h=>Ae q [3,4] [] (gC h (λh=>tS h (gK (A3 (A8 [4] [] q)))) λh=>Ae q [3,4] [] (gC h (λh=>tS h (gK (A3 (A8 [4] [] q)))) λh=>Ae q [3,4] [] (gC h (λh=>tS h (gK (A3 (A8 [4] [] q)))) λh=>Ae q [3,4] [] (gC h (λh=>tS h (gK (A3 (A8 [4] [] q)))) λh=>Ae q [4] [] (tS h (gK (A3 Gt)))))))) (gA (gC h (λh=>Ae q [2] [] (tS h (Bp []))) λh=>Ae q [2] [] (tS h (Bp [])))))
def Ps(aB:Ao):Int->Option (LR Int (Unit ⊕ Bool)):=
 λ(i1:Int)=>(bif (decide (i1<(aB.length:Int))) then(Aw (As i1 aB.length) ((Lh (aB.getD i1.toNat 0)).bind λx3=>(bif (!x3) then(some (.done (.inr false))) else(some (.next (w64 (i1+1))))))) else(some (.done (.inl ()))))
def NT(Γ:H4)(aB:Ao)(r:Bool):Exit->St->Prop:=fK Tryz.prog Γ Tryz.f145.results.toList [] (.bool r) []
def Pi(aB:Ao):Option Bool:=
 ((Ad (Ps aB) (0:Int)).bind (λx4=>(match x4 with|(.inl _)=>(some true)|(.inr r6)=>(some r6))))
theorem KO(h:Pi v2=some v3):sP 145 [(Mw v2),(.clo 146 [] [])] [] (.bool v3) []:=
 sG Tryz.func145 λΓ q=>tW q Fe [] Nd [] (tL q h Nd [] (λu i1=>(Cn u [(9,(Z6 i1))] [])) (λu x_=>match x_ with|(.inl _)=>aG Γ (.exit 0) (⟨[],[],[]⟩:St)|(.inr r_)=>aR (NT Γ v2 r_)) (λi1 y h=>Ae q NQ [] (gC h (λh=>tV q NR [] h λh=>tB h λx3 y3 h=>tT q UR [] [(Z7 x3)] (c1 (N3 y3)) (gC h (λh=>Ae q [4] [] (tS h (gO (Mk (H5 [] (Le.refl _ _)))))) λh=>Ae q Nd [] (tN h))) λh=>tS h (gO (A3 (A8 [] [] q))))) λx4 h=>(match x4,h with | .inl _,h=>gA (Ae q [4] [] (tS h (Bp []))) | .inr r6,h=>gAr (λst' hk=>tS h (gK hk))))
def R8(aJ:Bf):Option Bool:=
 ((Lh aJ.Bits).bind λx1=>(some x1))
theorem IG(h:R8 v4=some v3):sP 180 [(.agg (Gs v4))] [] (.bool v3) []:=
 sG Tryz.func180 λΓ q=>Ae q [1] [1] (tB h λx1 y1 h=>tT q [2] [] [(Z7 x1)] (c1 (N3 y1)) (tS h (Bp [])))
def L9(aB:List Bf):Int->Option (LR Int (Unit ⊕ Bool)):=
 λ(i1:Int)=>(bif (decide (i1<(aB.length:Int))) then(Aw (As i1 aB.length) ((R8 (aB.getD i1.toNat default)).bind λx3=>(bif (!x3) then(some (.done (.inr false))) else(some (.next (w64 (i1+1))))))) else(some (.done (.inl ()))))
def EK(Γ:H4)(aB:List Bf)(r:Bool):Exit->St->Prop:=fK Tryz.prog Γ Tryz.f179.results.toList [] (.bool r) []
def Lm(aB:List Bf):Option Bool:=
 ((Ad (L9 aB) (0:Int)).bind (λx4=>(match x4 with|(.inl _)=>(some true)|(.inr r6)=>(some r6))))
theorem BQ(h:Lm v5=some v3):sP 179 [(wi v5),(.clo 180 [] [])] [] (.bool v3) []:=
 sG Tryz.func179 λΓ q=>tW q Fe [] Nd [] (tL q h Nd [] (λu i1=>(Cn u [(9,(Z6 i1))] [])) (λu x_=>match x_ with|(.inl _)=>aG Γ (.exit 0) (⟨[],[],[]⟩:St)|(.inr r_)=>aR (EK Γ v5 r_)) (λi1 y h=>Ae q NQ [] (gC h (λh=>tV q NR [6] h λh=>tB h λx3 y3 h=>tT q UR [] [(Z7 x3)] (c1 (IG y3)) (gC h (λh=>Ae q [4] [] (tS h (gO (Mk (H5 [] (Le.refl _ _)))))) λh=>Ae q Nd [] (tN h))) λh=>tS h (gO (A3 (A8 [] [] q))))) λx4 h=>(match x4,h with | .inl _,h=>gA (Ae q [4] [] (tS h (Bp []))) | .inr r6,h=>gAr (λst' hk=>tS h (gK hk))))
def O8(aa3:Int):Option Bool:=
 (some (bif (decide ((0:Int)<=aa3)) then(decide (aa3<=22)) else false))
theorem BZ(h:O8 v1=some v3):sP 197 [(Z6 v1)] [] (.bool v3) []:=
 sG Tryz.func197 λΓ q=>Ae q [0] [] (tU q [2] [] (c2 (gI ((decide ((0:Int)<=v1))==true)) (M7 (decide ((0:Int)<=v1)))) (tS h (Bp [])))
def Q69(x5:Bool)(aI:Int):=(bif x5 then(decide ((8:Int)<=aI)) else false)
def Tx(aI:Int)(aV:Int):Option Bool:=
 (bif (aV==1) then((Lh aI).bind λx1=>(some x1)) else(Option.bind (α:=Bool) (bif (aV==2) then(some (aV==2)) else(bif (aV==4) then(some (aV==4)) else(bif (aV==8) then(some (aV==8)) else(some (aV==16))))) (λx3=>(bif x3 then((Lh aI).bind λx5=>(some (bif (bif x5 then(decide ((8:Int)<=aI)) else false) then(decide (((w64 (aI*aV)):Int)<=128)) else false))) else(some false)))))
theorem WA(h:Tx v1 v11=some v3):sP 240 [(Z6 v1),(Z6 v11)] [] (.bool v3) []:=
 sG Tryz.func240 λΓ q=>tW q Fe [] Pf [] (Ae q UB [] (gC h (λh=>tB h λx1 y1 h=>tT q [4] [] [(Z7 x1)] (c1 (N3 y1)) (tS h (Bp []))) λh=>tB h λx3 y3 h=>gJ y3 (λb2=>aG Γ .normal (⟨[(0,(Z6 v1)),(1,(Z6 v11)),(10,(.bool b2))],[],[]⟩:St)) (λy h=>Ae q [0,1,5,10] [] (gC h (λh=>tS h (gK (A3 (A8 DA [] q)))) λh=>Ae q [0,1,5,10] [] (gC h (λh=>tS h (gK (A3 (A8 DA [] q)))) λh=>Ae q [0,1,5,10] [] (gC h (λh=>tS h (gK (A3 (A8 DA [] q)))) λh=>Ae q DA [] (tS h (gK (A3 Gt))))))) (gA (gC h (λh=>tB h λx5 y5 h=>tT q [4] [] [(Z7 x5)] (bv (N3 y5) (gI (x5==true)) (M7 x5) (Sh ((Q69 x5 v1)==true) (c1 (M7 (Q69 x5 v1))))) (tS h (Bp []))) λh=>Ae q [4] [] (tS h (Bp []))))))
def Q70(a2:A2):List OM:=[(1,.row 51 (vO a2.Kind a2.Bits a2.Lanes a2.Dst a2.Args a2.Imm))]
def Oe(a2:A2):Option Bool:=
 (Option.bind (α:=Bool) (bif (a2.Kind==16) then(some (a2.Kind==16)) else(some (a2.Kind==17))) (λx2=>(bif x2 then(some (decide ((8:Int)<=a2.Bits))) else(Option.bind (α:=Bool) (bif (a2.Kind==18) then(some (a2.Kind==18)) else(some (a2.Kind==19))) (λx5=>(bif x5 then(some (bif (decide ((8:Int)<=a2.Bits)) then(a2.Lanes==1) else false)) else(Option.bind (α:=Bool) (bif (a2.Kind==4) then(some (a2.Kind==4)) else(bif (a2.Kind==10) then(some (a2.Kind==10)) else(bif (a2.Kind==11) then(some (a2.Kind==11)) else(bif (a2.Kind==12) then(some (a2.Kind==12)) else(bif (a2.Kind==14) then(some (a2.Kind==14)) else(bif (a2.Kind==15) then(some (a2.Kind==15)) else(some (a2.Kind==20)))))))) (λx8=>(bif x8 then(some (a2.Lanes==1)) else(Option.bind (α:=Bool) (bif (a2.Kind==21) then(some (a2.Kind==21)) else(some (a2.Kind==22))) (λx11=>(bif x11 then(some (decide ((1:Int)<a2.Lanes))) else(some true)))))))))))))
theorem IL(h:Oe v6=some v3):sP 241 [(UU v6)] [] (.bool v3) []:=
 sG Tryz.func241 λΓ q=>tW q [1] [1] R3 [1] (tB h λx2 y2 h=>gJ y2 (λb1=>aG Γ .normal (⟨[Zn,(4,(Z6 v6.Kind)),(5,(.bool b1))],(Q70 v6),[]⟩:St)) (λy h=>Ae q [1,4,5] [1] (gC h (λh=>tS h (gK (A3 Gt))) λh=>Ae q [1,4,5] [1] (tS h (gK (A3 Gt))))) (gA (gC h (λh=>Ae q [2] [] (tS h (Bp []))) λh=>tB h λx5 y5 h=>gJ y5 (λb4=>aG Γ .normal (⟨[Zn,(4,(Z6 v6.Kind)),(11,(.bool b4))],(Q70 v6),[]⟩:St)) (λy h=>Ae q [1,4,11] [1] (gC h (λh=>tS h (gK (A3 Gt))) λh=>Ae q [1,4,11] [1] (tS h (gK (A3 Gt))))) (gA (gC h (λh=>tU q [2] [] (J7 ((decide ((8:Int)<=v6.Bits))==true) (c1 (M7 (decide ((8:Int)<=v6.Bits))))) (tS h (Bp []))) λh=>tB h λx8 y8 h=>gJ y8 (λb7=>aG Γ .normal (⟨[Zn,(4,(Z6 v6.Kind)),(22,(.bool b7))],(Q70 v6),[]⟩:St)) (λy h=>Ae q GZ [1] (gC h (λh=>tS h (gK (A3 Gt))) λh=>Ae q GZ [1] (gC h (λh=>tS h (gK (A3 Gt))) λh=>Ae q GZ [1] (gC h (λh=>tS h (gK (A3 Gt))) λh=>Ae q GZ [1] (gC h (λh=>tS h (gK (A3 Gt))) λh=>Ae q GZ [1] (gC h (λh=>tS h (gK (A3 Gt))) λh=>Ae q GZ [1] (gC h (λh=>tS h (gK (A3 Gt))) λh=>Ae q GZ [1] (tS h (gK (A3 Gt)))))))))) (gA (gC h (λh=>Ae q [2] [] (tS h (Bp []))) λh=>tB h λx11 y11 h=>gJ y11 (λb10=>aG Γ .normal (⟨[Zn,(33,(.bool b10))],(Q70 v6),[]⟩:St)) (λy h=>Ae q [1,4,33] [1] (gC h (λh=>tS h (gK (A3 (A8 [1,33] [1] q)))) λh=>Ae q [1,33] [1] (tS h (gK (A3 Gt))))) (gA (gC h (λh=>Ae q [2] [] (tS h (Bp []))) λh=>Ae q [2] [] (tS h (Bp [])))))))))))
def X5(aC:Int)(aI:Int):Option Int:=
 ((Lh aI).bind λx1=>(bif (!x1) then(some (0:Int)) else(Aw (0<=(w64 ((64:Int)-aI))) (Aw (0<=(w64 ((64:Int)-aI))) (some (Xf .u64 (SK .u64 aC (w64 ((64:Int)-aI))) (w64 ((64:Int)-aI))))))))
theorem dj(h:X5 v1 v11=some v20):sP 105 [(JV v1),(Z6 v11)] [] (.int .u64 v20) []:=
 sG Tryz.func105 λΓ q=>Ae q Fe [] (tB h λx1 y1 h=>tT q [0,1,7] [] [(Z7 x1)] (c1 (N3 y1)) (gC h (λh=>Ae q [4] [] (tS h (Bp []))) λh=>tC h λc2_ h=>tC h λc3_ h=>tU q [4] [] (c2 c2_ c3_) (tS h (Bp []))))
def Nx(aa8:Int):Option Bool:=
 ((bif ((decide (aa8<=64))==true) then Lh (w64 aa8) else some false).bind λx1=>(some (bif (decide (aa8<=64)) then x1 else false)))
theorem Y9(h:Nx v1=some v3):sP 254 [(JV v1)] [] (.bool v3) []:=
 sG Tryz.func254 λΓ q=>Ae q [0] [] (tB h λx1 y1 h=>tT q [2] [] [(Z7 x1)] (J7 ((decide (v1<=64))==true) (c2 (λ(hg:((decide (v1<=64))==true)=true)=>(N3 (Ba hg y1))) (M7 (decide (v1<=64))))) (tS h (Bp [])))
def Qz(a2:A2):Option Bool:=
 (bif (a2.Kind==0) then((X5 a2.Imm a2.Bits).bind λx1=>(some (x1==a2.Imm))) else(bif (a2.Kind==14) then((Nx a2.Imm).bind λx2=>(some (bif x2 then(decide (a2.Imm<(Fj a2.Bits))) else false))) else(bif (a2.Kind==15) then((Nx a2.Imm).bind λx3=>(some (bif x3 then(decide (((Fj a2.Bits):Int)<a2.Imm)) else false))) else(bif (a2.Kind==22) then(some (decide (a2.Imm<(Fj a2.Lanes)))) else(some (a2.Imm==0))))))
theorem OJ(h:Qz v6=some v3):sP 242 [(UU v6)] [] (.bool v3) []:=
 sG Tryz.func242 λΓ q=>tW q [1] [1] R3 [1] (Ae q [1,4,5] [1] (gC h (λh=>tB h λx1 y1 h=>tT q [2] [] [⟨[],[],(JV x1),[],[],[]⟩] (c1 (dj y1)) (tS h (Bp []))) λh=>Ae q [1,4,15] [1] (gC h (λh=>tB h λx2 y2 h=>tT q [2] [] [(Z7 x2)] (ci (Y9 y2) (xC (x2==true) (c1 (M7 x2)))) (tS h (Bp []))) λh=>Ae q [1,4,28] [1] (gC h (λh=>tB h λx3 y3 h=>tT q [2] [] [(Z7 x3)] (ci (Y9 y3) (xC (x3==true) (c1 (M7 x3)))) (tS h (Bp []))) λh=>Ae q [1,41] [1] (gC h (λh=>Ae q [2] [] (tS h (Bp []))) λh=>Ae q [2] [] (tS h (Bp [])))))))
abbrev LG:=((Int×Int))
abbrev qi:=(List (Int×Int))
def Iu(a_shapes:List LG):Option qi:=
 (some a_shapes)
variable{v21:List LG}{v22:List LG}
theorem Jg(h:Iu v21=some v22):sP 245 [(sn v21)] [] (sn v22) []:=
 sG Tryz.func245 λΓ q=>gR q [0] [] [(2,zN)] [] (c1 (Bc 2 Bq ((0:Int),(0:Int)))) (Ae q [2] [] (tS h (Bp [])))
abbrev xi:=(Int×List (Int×Int))
def C6 :xi->Option (LR (Int×List (Int×Int)) (List (Int×Int))):=
 λ((i7,l8):xi)=>(bif (decide (i7<(l8.length:Int))) then(Aw (0<=i7/\0+i7.toNat<=l8.length) (Aw (0<=i7/\0+i7.toNat<=l8.length) (some (.next ((w64 (i7+((Nat.min ((0+i7.toNat)-0) (l8.length-(0+i7.toNat))):Int))),(fy l8 (0+i7.toNat) (Nat.min ((0+i7.toNat)-0) (l8.length-(0+i7.toNat))) (λi=>l8.getD (0+i) ((0:Int),(0:Int))))))))) else(some (.done l8)))
def nY(x3:Hn):=(List.replicate (w64 x3.2).toNat ((0:Int),(0:Int)))
def Q73(x3:Hn)(aD:List LG):=(fy (nY x3) 0 (Nat.min aD.length ((nY x3).length-0)) (λi=>aD.getD i ((0:Int),(0:Int))))
def Q72(l8:List LG)(i7:Int):=(fy l8 (0+i7.toNat) (Nat.min ((0+i7.toNat)-0) (l8.length-(0+i7.toNat))) (λi=>l8.getD (0+i) ((0:Int),(0:Int))))
def B7(aD:List LG)(aaE:Int):Option qi:=
 (Option.bind (α:=Unit) (bif (decide (aaE<0)) then none else(some ())) (λx1=>(match x1 with|_=>((R7 (Fj (aD.length:Int)) (Fj aaE)).bind λx3=>(Option.bind (α:=Unit) (bif (bif (decide ((0:Int)<x3.1)) then true else(decide ((9223372036854775807:Int)<x3.2))) then none else(some ())) (λx4=>(match x4 with|_=>(Aw (0<=(w64 x3.2)/\(w64 x3.2)<=(w64 x3.2)/\(w64 x3.2)<=(room:Int)) ((Ad (S:=xi) (X:=List Hn) C6 (((Nat.min aD.length ((List.replicate (w64 x3.2).toNat ((0:Int),(0:Int))).length-0)):Int),(fy (List.replicate (w64 x3.2).toNat ((0:Int),(0:Int))) 0 (Nat.min aD.length ((List.replicate (w64 x3.2).toNat ((0:Int),(0:Int))).length-0)) (λi=>aD.getD i ((0:Int),(0:Int)))))).bind (λx12=>(some x12)))))))))))
theorem Ta(h:B7 v21 v1=some v22):sP 246 [(sn v21),(Z6 v1)] [] (wh v22 20000) [(20000,.tok 2 88 v22.length)]:=
 sG Tryz.func246 λΓ q=>have hΓ:=q.own;gR q Fe [] [(4,zN)] [] (c1 (Bc 2 Bq ((0:Int),(0:Int)))) (tB h λx1 y1 h=>gJ y1 (λ_=>aG Γ .normal (⟨[(0,(sn v21)),(1,(Z6 v1))],[],[]⟩:St)) (λy h=>Ae q DA [] (gC h (λh=>nomatch h) λh=>tS h (gK (A3 (A8 Fe [] q))))) (gA (tB h λx3 y3 h=>tT q [0,5,6] [] [⟨[],[],(.tuple [(JV x3.1),(JV x3.2)]),[],[],[]⟩] (c1 (MQ y3)) (tB h λx4 y4 h=>gJ y4 (λ_=>aG Γ .normal (⟨[(0,(sn v21)),(6,(JV x3.2))],[],[]⟩:St)) (λy h=>tU q [0,6,26] [] (c2 (gI ((decide ((0:Int)<x3.1))==false)) (I4 (decide ((0:Int)<x3.1)))) (gC h (λh=>nomatch h) λh=>tS h (gK (A3 (A8 [0,6] [] q))))) (gA (tV q [0,7] [30] h λh=>by exact M1 (Le.trans (Vf 30 (show ∀ k_,k_<((w64 x3.2).toNat)->AVleL ((λi_=>AV.eraseAll (λn_=>B3 n_ [30]) ((λ_=>[La,La]) i_)) k_) ((λi=>Bq ((nY x3).getD i ((0:Int),(0:Int)))) k_) from(λk hk=>Rb (e:=Bq) (d:=((0:Int),(0:Int))) (.cons (AVle.refl _) (.cons (AVle.refl _) .nil)) _ k (Ri hk)))) (Vg (λ(k_:Nat) u=>(Cn u [(V6 30 k_)] [(30,.arr 2 88 k_ (λi=>Bq ((nY x3).getD i ((0:Int),(0:Int)))))])) (show(w64 x3.2).toNat=(nY x3).length from(S2 ..).symm))) (tU q [7,8] [30] (c1 (Eq.refl ((nY x3).length))) (M1 (Le.trans (Vf 30 (show ∀ k_,k_<((nY x3).length)->AVleL ((λi_=>AV.eraseAll (λn_=>B3 n_ [30]) ((fw (λi=>Bq ((nY x3).getD i ((0:Int),(0:Int)))) 0 (Nat.min v21.length ((nY x3).length-0)) (λi=>Bq (v21.getD i ((0:Int),(0:Int))))) i_)) k_) ((λi=>Bq ((Q73 x3 v21).getD i ((0:Int),(0:Int)))) k_) from(Bj (Jq ..) (λk_ hk_=>(Bl (AV.eraseAll (λn_=>B3 n_ [30])) ((OW (e:=Bq) (d:=((0:Int),(0:Int))) (l:=(nY x3)) (s:=(λi=>v21.getD i ((0:Int),(0:Int)))) (λ_ _=>rfl) (λ_ _=>rfl)) k_ hk_)).trans rfl)))) (Vg (λ(k_:Nat) u=>(Cn u [(V6 30 k_)] [(30,.arr 2 88 k_ (λi=>Bq ((Q73 x3 v21).getD i ((0:Int),(0:Int)))))])) (show(nY x3).length=(Q73 x3 v21).length from(Jq ..)))) (tL q h [7,8] [30] (λu (i7,l8)=>(Cn u [(V6 30 l8.length),(8,(Z6 i7))] (Z85 l8))) (λu l9=>aG Γ (.exit 0) (⟨[(V6 30 l9.length)],(Z85 l9),[]⟩:St)) (λ⟨i7,l8⟩ y h=>Ae q [7,8,37] [30] (gC h (λh=>tC h λc10_ h=>tC h λc11_ h=>tU q [7,8] [30] (c4 c10_ c11_ (Eq.refl l8.length) (Eq.refl l8.length)) (tS h (gN (Le.trans (Le.trans (Vf 30 (show ∀ k_,k_<l8.length->AVleL ((λi_=>AV.eraseAll (λn_=>B3 n_ [30]) ((fw (λi=>Bq (l8.getD i ((0:Int),(0:Int)))) (0+i7.toNat) (Nat.min ((0+i7.toNat)-0) (l8.length-(0+i7.toNat))) (λi=>(λi=>Bq (l8.getD i ((0:Int),(0:Int)))) (0+i))) i_)) k_) ((λi=>Bq ((Q72 l8 i7).getD i ((0:Int),(0:Int)))) k_) from(Bj (Jq ..) (λk_ hk_=>(Bl (AV.eraseAll (λn_=>B3 n_ [30])) ((OW (e:=Bq) (d:=((0:Int),(0:Int))) (l:=l8) (s:=(λi=>l8.getD (0+i) ((0:Int),(0:Int)))) (λ_ _=>rfl) (λ_ _=>rfl)) k_ hk_)).trans rfl)))) (Vg (λ(k_:Nat) u=>(Cn u [(V6 30 k_)] [(30,.arr 2 88 k_ (λi=>Bq ((Q72 l8 i7).getD i ((0:Int),(0:Int)))))])) (show l8.length=(Q72 l8 i7).length from(Jq ..)))) Gt)))) λh=>tS h (gO (A3 (A8 [7] [30] q))))) λx12 h=>gA (Ae q [4] [30] (O6 (⟨[(4,(.vsl 30 x12.length))],(Z85 x12),[]⟩:St) (tS h (gK (e:=.ret) (H5 [(30,20000)] (Le.trans (Gm (nm:=30) (sz:=2) (n:=x12.length) (e:=88) (f:=(λi=>Bq (x12.getD i ((0:Int),(0:Int))))) (g:=(λi=>Bq (x12.getD i ((0:Int),(0:Int))))) rfl ⟨rfl,trivial⟩ (λ_ _=>rfl) (by rw[hΓ];rfl)) (H6 (st':=⟨[(4,(wh x12 30))],[(30,.tok 2 88 x12.length)],[]⟩) (by kernel_rfl)))))))))))))))))
def Q74(a2:A2):List OM:=[(1,.row 51 (vO a2.Kind a2.Bits a2.Lanes a2.Dst a2.Args a2.Imm)),(3,.row 88 [mi,mi]),(4,.row 88 [(JQ 64),mi]),(5,.row 88 [(Z6 a2.Bits),(Z6 a2.Lanes)]),(6,.row 88 [(Z6 a2.Bits),mi])]
def Q0(a2:A2):Option qi:=
 (bif (a2.Kind==0) then((Iu ([]:List Hn)).bind λx1=>(some x1)) else(bif (a2.Kind==13) then((Iu ([((1:Int),(1:Int)),(a2.Bits,a2.Lanes),(a2.Bits,a2.Lanes)]:List Hn)).bind λx2=>(some x2)) else(Option.bind (α:=Bool) (bif (a2.Kind==14) then(some (a2.Kind==14)) else(some (a2.Kind==15))) (λx4=>(bif x4 then((Iu ([((w64 a2.Imm),(1:Int))]:List Hn)).bind λx6=>(some x6)) else(bif (a2.Kind==16) then((Iu ([((64:Int),(1:Int))]:List Hn)).bind λx7=>(some x7)) else(bif (a2.Kind==17) then((Iu ([((64:Int),(1:Int)),(a2.Bits,a2.Lanes)]:List Hn)).bind λx8=>(some x8)) else(Option.bind (α:=Bool) (bif (a2.Kind==18) then(some (a2.Kind==18)) else(some (a2.Kind==19))) (λx10=>(bif x10 then((Iu ([((1:Int),(1:Int)),((64:Int),(1:Int)),(a2.Bits,(1:Int))]:List Hn)).bind λx12=>(some x12)) else(bif (a2.Kind==20) then((Iu ([((1:Int),(1:Int)),(a2.Bits,(1:Int)),(a2.Bits,(1:Int)),(a2.Bits,(1:Int))]:List Hn)).bind λx13=>(some x13)) else(bif (a2.Kind==21) then((B7 ([(a2.Bits,(1:Int))]:List Hn) a2.Lanes).bind λx14=>((Iu x14).bind λx15=>(some x15))) else(bif (a2.Kind==22) then((Iu ([(a2.Bits,a2.Lanes)]:List Hn)).bind λx16=>(some x16)) else((Iu ([(a2.Bits,a2.Lanes),(a2.Bits,a2.Lanes)]:List Hn)).bind λx17=>(some x17)))))))))))))))
theorem FE(h:Q0 v6=some v21):sP 210 [(UU v6)] [] (sn v21) []:=
 sG Tryz.func210 λΓ q=>gR q [1] [1] [(2,zN)] [] (c1 (Bc 2 Bq ((0:Int),(0:Int)))) (tW q Ho Ho Oq Oq (tW q [1,3,4,5,6,18] Oq [1,3,4,5,6,18,19] Oq (gC h (λh=>tB h λx1 y1 h=>tT q [2] [] [(lC x1)] (c1 (show(sP 245 [(.slice 0 0 (λ_=>[]) .none)] [] (sn x1) []) from(Spec.args (.cons OT .nil) (Jg y1)))) (tS h (Bp []))) λh=>Ae q [1,3,4,5,6,18,22] Oq (gC h (λh=>tB h λx2 y2 h=>gR q [2] [] [(27,(AV.list 2 Bq ((0:Int),(0:Int)) ([((1:Int),(1:Int)),(v6.Bits,v6.Lanes),(v6.Bits,v6.Lanes)]:List Hn) .exact))] [(lC x2)] (c2 (Az 2 Bq ((0:Int),(0:Int)) ([((1:Int),(1:Int)),(v6.Bits,v6.Lanes),(v6.Bits,v6.Lanes)]:List Hn)) (Jg y2)) (tS h (Bp []))) λh=>tB h λx4 y4 h=>gJ y4 (λb3=>aG Γ .normal (⟨[Zn,JU,LZ,VF,JT,(18,(Z6 v6.Kind)),(29,(.bool b3))],(Q74 v6),[]⟩:St)) (λy h=>Ae q [1,3,4,5,6,18,29] Oq (gC h (λh=>tS h (gK (A3 Gt))) λh=>Ae q [1,3,4,5,6,18,29] Oq (tS h (gK (A3 Gt))))) (gA (gC h (λh=>tB h λx6 y6 h=>gR q [2] [] [(36,(AV.list 2 Bq ((0:Int),(0:Int)) ([((w64 v6.Imm),(1:Int))]:List Hn) .exact))] [(lC x6)] (c2 (Az 2 Bq ((0:Int),(0:Int)) ([((w64 v6.Imm),(1:Int))]:List Hn)) (Jg y6)) (tS h (Bp []))) λh=>Ae q [1,3,4,5,6,18,38] Oq (gC h (λh=>tB h λx7 y7 h=>gR q [2] [] [(41,(AV.list 2 Bq ((0:Int),(0:Int)) ([((64:Int),(1:Int))]:List Hn) .exact))] [(lC x7)] (c2 (Az 2 Bq ((0:Int),(0:Int)) ([((64:Int),(1:Int))]:List Hn)) (Jg y7)) (tS h (Bp []))) λh=>Ae q [1,3,4,5,6,18,43] Oq (gC h (λh=>tB h λx8 y8 h=>gR q [2] [] [(47,(AV.list 2 Bq ((0:Int),(0:Int)) ([((64:Int),(1:Int)),(v6.Bits,v6.Lanes)]:List Hn) .exact))] [(lC x8)] (c2 (Az 2 Bq ((0:Int),(0:Int)) ([((64:Int),(1:Int)),(v6.Bits,v6.Lanes)]:List Hn)) (Jg y8)) (tS h (Bp []))) λh=>tB h λx10 y10 h=>gJ y10 (λb9=>aG Γ .normal (⟨[Zn,JU,LZ,VF,JT,(18,(Z6 v6.Kind)),(49,(.bool b9))],(Q74 v6),[]⟩:St)) (λy h=>Ae q [1,3,4,5,6,18,49] Oq (gC h (λh=>tS h (gK (A3 Gt))) λh=>Ae q [1,3,4,5,6,18,49] Oq (tS h (gK (A3 Gt))))) (gA (gC h (λh=>tB h λx12 y12 h=>gR q [2] [] [(55,(AV.list 2 Bq ((0:Int),(0:Int)) ([((1:Int),(1:Int)),((64:Int),(1:Int)),(v6.Bits,(1:Int))]:List Hn) .exact))] [(lC x12)] (c2 (Az 2 Bq ((0:Int),(0:Int)) ([((1:Int),(1:Int)),((64:Int),(1:Int)),(v6.Bits,(1:Int))]:List Hn)) (Jg y12)) (tS h (Bp []))) λh=>Ae q [1,3,5,6,18,57] JL (gC h (λh=>tB h λx13 y13 h=>gR q [2] [] [(63,(AV.list 2 Bq ((0:Int),(0:Int)) ([((1:Int),(1:Int)),(v6.Bits,(1:Int)),(v6.Bits,(1:Int)),(v6.Bits,(1:Int))]:List Hn) .exact))] [(lC x13)] (c2 (Az 2 Bq ((0:Int),(0:Int)) ([((1:Int),(1:Int)),(v6.Bits,(1:Int)),(v6.Bits,(1:Int)),(v6.Bits,(1:Int))]:List Hn)) (Jg y13)) (tS h (Bp []))) λh=>Ae q [1,5,6,18,65] [1,5,6] (gC h (λh=>tB h λx14 y14 h=>tB h λx15 y15 h=>gR q [2] [] [(68,(AV.list 2 Bq ((0:Int),(0:Int)) ([(v6.Bits,(1:Int))]:List Hn) .exact))] [⟨[],[(20000,71)],(wh x14 20000),[(20000,.tok 2 88 x14.length)],[],[]⟩,(lC x15)] (c3 (Az 2 Bq ((0:Int),(0:Int)) ([(v6.Bits,(1:Int))]:List Hn)) (Ta y14) (Jg y15)) (tS h (Bp []))) λh=>Ae q [5,73] [5] (gC h (λh=>tB h λx16 y16 h=>gR q [2] [] [(76,(AV.list 2 Bq ((0:Int),(0:Int)) ([(v6.Bits,v6.Lanes)]:List Hn) .exact))] [(lC x16)] (c2 (Az 2 Bq ((0:Int),(0:Int)) ([(v6.Bits,v6.Lanes)]:List Hn)) (Jg y16)) (tS h (Bp []))) λh=>tB h λx17 y17 h=>gR q [2] [] [(80,(AV.list 2 Bq ((0:Int),(0:Int)) ([(v6.Bits,v6.Lanes),(v6.Bits,v6.Lanes)]:List Hn) .exact))] [(lC x17)] (c2 (Az 2 Bq ((0:Int),(0:Int)) ([(v6.Bits,v6.Lanes),(v6.Bits,v6.Lanes)]:List Hn)) (Jg y17)) (tS h (Bp [])))))))))))))))
def Nw(aC:Int):Option Bool:=
 (some (bif (decide ((1:Int)<=aC)) then(decide (aC<=1023)) else false))
theorem Y8(h:Nw v1=some v3):sP 255 [(Z6 v1)] [] (.bool v3) []:=
 sG Tryz.func255 λΓ q=>Ae q [0] [] (tU q [2] [] (c2 (gI ((decide ((1:Int)<=v1))==true)) (M7 (decide ((1:Int)<=v1)))) (tS h (Bp [])))
def Kv(a2:A2):Int->Option (LR Int (Unit ⊕ Bool)):=
 λ(i2:Int)=>(bif (decide (i2<(a2.Args.length:Int))) then(Aw (As i2 a2.Args.length) ((Nw (a2.Args.getD i2.toNat 0)).bind λx4=>(bif (!x4) then(some (.done (.inr false))) else(some (.next (w64 (i2+1))))))) else(some (.done (.inl ()))))
def PH(Γ:H4)(a2:A2)(r:Bool):Exit->St->Prop:=fK Tryz.prog Γ Tryz.f243.results.toList [] (.bool r) []
def Qw(a2:A2):Option Bool:=
 ((Q0 a2).bind λx1=>(bif ((a2.Args.length:Int)!=(x1.length:Int)) then(some false) else((Ad (Kv a2) (0:Int)).bind (λx5=>(match x5 with|(.inl _)=>(some true)|(.inr r7)=>(some r7))))))
theorem OG(h:Qw v6=some v3):sP 243 [(UU v6)] [] (.bool v3) []:=
 sG Tryz.func243 λΓ q=>Ae q [1] [1] (tB h λx1 y1 h=>tT q [1,11] [1] [(lC x1)] (c1 (FE y1)) (gC h (λh=>Ae q [2] [] (tS h (Bp []))) λh=>Ae q [13,14,15] [] (tL q h [13,14,15] [] (λu i2=>(Cn u [(15,(Z6 i2))] [])) (λu x_=>match x_ with|(.inl _)=>aG Γ (.exit 0) (⟨[],[],[]⟩:St)|(.inr r_)=>aR (PH Γ v6 r_)) (λi2 y h=>Ae q [13,14,15,16] [] (gC h (λh=>tV q [4,13,14,15] [] h λh=>tB h λx4 y4 h=>tT q [13,14,15,21] [] [(Z7 x4)] (c1 (Y8 y4)) (gC h (λh=>Ae q [2] [] (tS h (gO (Mk (H5 [] (Le.refl _ _)))))) λh=>Ae q [13,14,15] [] (tN h))) λh=>tS h (gO (A3 (A8 [] [] q))))) λx5 h=>(match x5,h with | .inl _,h=>gA (Ae q [2] [] (tS h (Bp []))) | .inr r7,h=>gAr (λst' hk=>tS h (gK hk))))))
def Q75(a2:A2):List OM:=[(1,.row 51 (vO a2.Kind a2.Bits a2.Lanes a2.Dst a2.Args a2.Imm))]
def Qy(a2:A2):Option Hn:=
 (Option.bind (α:=Bool) (bif (a2.Kind==17) then(some (a2.Kind==17)) else(some (a2.Kind==19))) (λx2=>(bif x2 then(some ((0:Int),(0:Int))) else(Option.bind (α:=Bool) (bif (a2.Kind==10) then(some (a2.Kind==10)) else(bif (a2.Kind==11) then(some (a2.Kind==11)) else(some (a2.Kind==12)))) (λx5=>(bif x5 then(some ((1:Int),(1:Int))) else(bif (a2.Kind==22) then(some (a2.Bits,(1:Int))) else(some (a2.Bits,a2.Lanes)))))))))
theorem FD(h:Qy v6=some v19):sP 209 [(UU v6)] [] (.tuple [(Z6 v19.1),(Z6 v19.2)]) []:=
 sG Tryz.func209 λΓ q=>tW q [1] [1] [1,5] [1] (tB h λx2 y2 h=>gJ y2 (λb1=>aG Γ .normal (⟨[Zn,(5,(Z6 v6.Kind)),(6,(.bool b1))],(Q75 v6),[]⟩:St)) (λy h=>Ae q [1,5,6] [1] (gC h (λh=>tS h (gK (A3 Gt))) λh=>Ae q [1,5,6] [1] (tS h (gK (A3 Gt))))) (gA (gC h (λh=>Ae q Cb [] (tS h (Bp []))) λh=>tB h λx5 y5 h=>gJ y5 (λb4=>aG Γ .normal (⟨[Zn,(5,(Z6 v6.Kind)),(9,(.bool b4))],(Q75 v6),[]⟩:St)) (λy h=>Ae q [1,5,9] [1] (gC h (λh=>tS h (gK (A3 Gt))) λh=>Ae q [1,5,9] [1] (gC h (λh=>tS h (gK (A3 Gt))) λh=>Ae q [1,5,9] [1] (tS h (gK (A3 Gt)))))) (gA (gC h (λh=>Ae q Cb [] (tS h (Bp []))) λh=>Ae q [1,13] [1] (gC h (λh=>Ae q Cb [] (tS h (Bp []))) λh=>Ae q Cb [] (tS h (Bp []))))))))
def Qx(a2:A2):Option Bool:=
 ((Qy a2).bind λx1=>(bif (x1.1==0) then(some (a2.Dst==0)) else((Nw a2.Dst).bind λx2=>(some x2))))
theorem OH(h:Qx v6=some v3):sP 244 [(UU v6)] [] (.bool v3) []:=
 sG Tryz.func244 λΓ q=>Ae q [1] [1] (tB h λx1 y1 h=>tT q Iz [1] [(sq x1.1 x1.2)] (c1 (FD y1)) (Ae q [1,11] [1] (gC h (λh=>Ae q [2] [] (tS h (Bp []))) λh=>tB h λx2 y2 h=>tT q [2] [] [(Z7 x2)] (c1 (Y8 y2)) (tS h (Bp [])))))
def vI(x1:Bool)(x2:Bool):=(bif (!x1) then true else(!x2))
def Sa(a2:A2):Option Bool:=
 ((O8 a2.Kind).bind λx1=>((bif ((!x1)==false) then Tx a2.Bits a2.Lanes else some false).bind λx2=>((bif ((bif (!x1) then true else(!x2))==false) then Oe a2 else some false).bind λx3=>((bif ((bif (bif (!x1) then true else(!x2)) then true else(!x3))==false) then Qz a2 else some false).bind λx4=>(bif (bif (bif (bif (!x1) then true else(!x2)) then true else(!x3)) then true else(!x4)) then(some false) else((Qw a2).bind λx5=>((bif (x5==true) then Qx a2 else some false).bind λx6=>(some (bif x5 then x6 else false)))))))))
theorem BX(h:Sa v6=some v3):sP 207 [(UU v6)] [] (.bool v3) []:=
 sG Tryz.func207 λΓ q=>Ae q [1] [1] (tB h λx1 y1 h=>tB h λx2 y2 h=>tB h λx3 y3 h=>tB h λx4 y4 h=>tT q [1,24] [1] [(Z7 x1),(Z7 x2),(Z7 x3),(Z7 x4)] (ci (BZ y1) (QH ((!x1)==false) (yC (λ(hg:((!x1)==false)=true)=>(WA (Ba hg y2))) (gI ((!x1)==false)) (I4 (!x1)) (gI ((vI x1 x2)==false)) (λ(hg:((vI x1 x2)==false)=true)=>(IL (Ba hg y3))) (gI ((vI x1 x2)==false)) (I4 (vI x1 x2)) (gI ((bif (vI x1 x2) then true else(!x3))==false)) (λ(hg:((bif (vI x1 x2) then true else(!x3))==false)=true)=>(OJ (Ba hg y4))) (c2 (gI ((bif (vI x1 x2) then true else(!x3))==false)) (I4 (bif (vI x1 x2) then true else(!x3))))))) (gC h (λh=>Ae q [2] [] (tS h (Bp []))) λh=>tB h λx5 y5 h=>tB h λx6 y6 h=>tT q [2] [] [(Z7 x5),(Z7 x6)] (c4 (OG y5) (gI (x5==true)) (λ(hg:(x5==true)=true)=>(OH (Ba hg y6))) (M7 x5)) (tS h (Bp []))))
def Tu(a2:A2)(aa0:Int):Option Bool:=
 (bif (aa0==0) then(some (bif (decide (a2.Kind<=17)) then(a2.Lanes==1) else false)) else(bif (aa0==1) then(some (bif (decide (a2.Kind<=20)) then(a2.Lanes==1) else false)) else(some true)))
theorem VV(h:Tu v6 v1=some v3):sP 208 [(UU v6),(Z6 v1)] [] (.bool v3) []:=
 sG Tryz.func208 λΓ q=>tW q Ng [2] Tf [2] (Ae q V5 [2] (gC h (λh=>tU q [4] [] (J7 ((decide (v6.Kind<=17))==true) (c1 (M7 (decide (v6.Kind<=17))))) (tS h (Bp []))) λh=>Ae q Wn [2] (gC h (λh=>tU q [4] [] (J7 ((decide (v6.Kind<=20))==true) (c1 (M7 (decide (v6.Kind<=20))))) (tS h (Bp []))) λh=>Ae q [4] [] (tS h (Bp [])))))
abbrev CS:=(Bool×TFunc×Int×Ao×List Be)
def Ib(a2:A2)(a3:TFunc)(a5:Int)(a7:Ao)(aA:List Be):Option CS:=
 ((Sa a2).bind λx1=>((bif (x1==true) then Tu a2 a5 else some false).bind λx2=>(some ((bif x1 then x2 else false),a3,a5,a7,aA))))
variable{v23:CS}
theorem Wg(h:Ib v6 v0 v1 v2 v12=some v23):sP 182 [Wu,(UU v6)] (Z3 v0.Params v0.Ret v0.Blocks v1 v2 v12 v12.length) (.bool v23.1) (Z3 v23.2.1.Params v23.2.1.Ret v23.2.1.Blocks v23.2.2.1 v23.2.2.2.1 v23.2.2.2.2 v23.2.2.2.2.length):=
 sG Tryz.func182 λΓ q=>Ae q R0 TK (tB h λx1 y1 h=>tB h λx2 y2 h=>tT q [4] Iy [(Z7 x1),(Z7 x2)] (ci (BX y1) (xC (x1==true) (c2 (λ(hg:(x1==true)=true)=>(VV (Ba hg y2))) (M7 x1)))) (tS h (Bp Zf)))
abbrev Te:=(Int×Ao×Int×List Ab×Int×Ao×List Be)
abbrev Aar:=(LR (Int×Ao×Int×List Ab×Int×Ao×List Be) ((Ao×Int×List Ab×Int×Ao×List Be) ⊕ (Bool×TFunc×Int×Ao×List Be)))
def G5(aB:List A2):Te->Option Aar:=
 λ((i1,l2,i3,l4,i5,l6,l7):Te)=>(bif (decide (i1<(aB.length:Int))) then(Aw (As i1 aB.length) ((Ib (aB.getD i1.toNat default) (⟨l2,i3,l4⟩:TFunc) i5 l6 l7).bind λx15=>(bif (!x15.1) then(some (.done (.inr (false,x15.2.1,x15.2.2.1,x15.2.2.2.1,x15.2.2.2.2)))) else(some (.next ((w64 (i1+1)),x15.2.1.Params,x15.2.1.Ret,x15.2.1.Blocks,x15.2.2.1,x15.2.2.2.1,x15.2.2.2.2)))))) else(some (.done (.inl (l2,i3,l4,i5,l6,l7)))))
def FV(Γ:H4)(aB:List A2)(a3:TFunc)(a5:Int)(a7:Ao)(aA:List Be)(r:CS):Exit->St->Prop:=fK Tryz.prog Γ Tryz.f181.results.toList (Z3 a3.Params a3.Ret a3.Blocks a5 a7 aA aA.length) (.bool r.1) (Z3 r.2.1.Params r.2.1.Ret r.2.1.Blocks r.2.2.1 r.2.2.2.1 r.2.2.2.2 r.2.2.2.2.length)
def L8(aB:List A2)(a3:TFunc)(a5:Int)(a7:Ao)(aA:List Be):Option CS:=
 ((Ad (G5 aB) ((0:Int),a3.Params,a3.Ret,a3.Blocks,a5,a7,aA)).bind (λx16=>(match x16 with|(.inl (l8,i9,l10,i11,l12,l13))=>(some (true,(⟨l8,i9,l10⟩:TFunc),i11,l12,l13))|(.inr r18)=>(some r18))))
theorem EQ(h:L8 v7 v0 v1 v2 v12=some v23):sP 181 [(bu v7),(.clo 182 [Wu] [])] (Z3 v0.Params v0.Ret v0.Blocks v1 v2 v12 v12.length) (.bool v23.1) (Z3 v23.2.1.Params v23.2.1.Ret v23.2.1.Blocks v23.2.2.1 v23.2.2.2.1 v23.2.2.2.2 v23.2.2.2.2.length):=
 sG Tryz.func181 λΓ q=>tW q Fe Iy Nd Iy (tL q h Nd Iy (λu (i1,l2,i3,l4,i5,l6,l7)=>(Cn u [(9,(Z6 i1))] (Z3 l2 i3 l4 i5 l6 l7 l7.length))) (λu x_=>match x_ with|(.inl (l8,i9,l10,i11,l12,l13))=>aG Γ (.exit 0) (⟨[],(Z3 l8 i9 l10 i11 l12 l13 l13.length),[]⟩:St)|(.inr r_)=>aR (FV Γ v7 v0 v1 v2 v12 r_)) (λ⟨i1,l2,i3,l4,i5,l6,l7⟩ y h=>Ae q NQ Iy (gC h (λh=>tV q NR [6,30000,37006] h λh=>tB h λx15 y15 h=>tT q UR Iy [(Z80 x15.1 x15.2.1.Params x15.2.1.Ret x15.2.1.Blocks x15.2.2.1 x15.2.2.2.1 x15.2.2.2.2 x15.2.2.2.2.length)] (c1 (Wg y15)) (gC h (λh=>Ae q [4] Iy (tS h (gO (Mk (H5 Zf (Le.refl _ _)))))) λh=>Ae q Nd Iy (tN h))) λh=>tS h (gO (A3 (A8 [] Iy q))))) λx16 h=>(match x16,h with | .inl ⟨l8,i9,l10,i11,l12,l13⟩,h=>gA (Ae q [4] Iy (tS h (Bp Zf))) | .inr r18,h=>gAr (λst' hk=>tS h (gK hk))))
def Q79(x1:Bool)(x2:CS)(a7:Ao):AV:=(Z74 x1 x2.2.2.2.1 a7)
def Q78(x1:Bool)(x2:CS)(a3:TFunc):AV:=(Z74 x1 x2.2.1.Params a3.Params)
def Q77(x1:Bool)(x2:CS)(a3:TFunc):AV:=(.slice 5 (bif (x1==true) then x2.2.1.Blocks.length else a3.Blocks.length) (λi=>bif (x1==true) then Bd (x2.2.1.Blocks.getD i default) else Bd (a3.Blocks.getD i default)) .none)
def Ga(aH:Ab)(a3:TFunc)(a5:Int)(a7:Ao)(aA:List Be):Option CS:=
 ((Lm aH.Phis).bind λx1=>((bif (x1==true) then L8 aH.Ops a3 a5 a7 aA else some (false,(default:TFunc),(0:Int),[],[])).bind λx2=>(some ((bif x1 then x2.1 else false),(⟨(bif (x1==true) then x2.2.1.Params else a3.Params),(bif (x1==true) then x2.2.1.Ret else a3.Ret),(bif (x1==true) then x2.2.1.Blocks else a3.Blocks)⟩:TFunc),(bif (x1==true) then x2.2.2.1 else a5),(bif (x1==true) then x2.2.2.2.1 else a7),(bif (x1==true) then x2.2.2.2.2 else aA)))))
theorem Ty(h:Ga v9 v0 v1 v2 v12=some v23):sP 148 [Wu,(.agg (Bd v9))] (Z3 v0.Params v0.Ret v0.Blocks v1 v2 v12 v12.length) (.bool v23.1) (Z3 v23.2.1.Params v23.2.1.Ret v23.2.1.Blocks v23.2.2.1 v23.2.2.2.1 v23.2.2.2.2 v23.2.2.2.2.length):=
 sG Tryz.func148 λΓ q=>Ae q R0 TK (tB h λx1 y1 h=>tB h λx2 y2 h=>tT q [4] Iy [(Z7 x1),(Z80 x2.1 x2.2.1.Params x2.2.1.Ret x2.2.1.Blocks x2.2.2.1 x2.2.2.2.1 x2.2.2.2.2 x2.2.2.2.2.length)] (ci (BQ y1) (QH (x1==true) (c2 (λ(hg:(x1==true)=true)=>(EQ (Ba hg y2))) (M7 x1)))) (tS h (gK (e:=.ret) (H5 Zf (Le.trans (leB (λg_ u=>(Cn u [] [(30000,.row 105 [(Q78 x1 x2 v0),(.int .i64 (bif (x1==true) then x2.2.1.Ret else v0.Ret)),(Q77 x1 x2 v0),(.int .i64 (bif (x1==true) then x2.2.2.1 else v1)),(Q79 x1 x2 v2),.nilm,(Z46 g_ x2.2.2.2.2 v12)]),(37006,.tok 5 198 (bif g_ then x2.2.2.2.2.length else v12.length))])) (λg_ u=>(Cn u [] [(30000,.row 105 [(Q78 x1 x2 v0),(.int .i64 (bif (x1==true) then x2.2.1.Ret else v0.Ret)),(Q77 x1 x2 v0),(.int .i64 (bif (x1==true) then x2.2.2.1 else v1)),(Q79 x1 x2 v2),.nilm,(AV.list 5 Ol default (bif g_ then x2.2.2.2.2 else v12) (.own 37006))]),(37006,.tok 5 198 ((bif g_ then x2.2.2.2.2 else v12).length))])) (x1==true)) (Le.trans (tw 30000 0 (show AVle (Q78 x1 x2 v0) (AV.list 1 Am 0 (bif (x1==true) then x2.2.1.Params else v0.Params) .none) from Ki)) (Le.trans (tw 30000 2 (show AVle (Q77 x1 x2 v0) (AV.list 5 Bd default (bif (x1==true) then x2.2.1.Blocks else v0.Blocks) .none) from Ki)) (tw 30000 4 (show AVle (Q79 x1 x2 v2) (AV.list 1 Am 0 (bif (x1==true) then x2.2.2.2.1 else v2) .none) from Ki)))))))))
def E1(aB:List Ab):Te->Option Aar:=
 λ((i1,l2,i3,l4,i5,l6,l7):Te)=>(bif (decide (i1<(aB.length:Int))) then(Aw (As i1 aB.length) ((Ga (aB.getD i1.toNat default) (⟨l2,i3,l4⟩:TFunc) i5 l6 l7).bind λx15=>(bif (!x15.1) then(some (.done (.inr (false,x15.2.1,x15.2.2.1,x15.2.2.2.1,x15.2.2.2.2)))) else(some (.next ((w64 (i1+1)),x15.2.1.Params,x15.2.1.Ret,x15.2.1.Blocks,x15.2.2.1,x15.2.2.2.1,x15.2.2.2.2)))))) else(some (.done (.inl (l2,i3,l4,i5,l6,l7)))))
def Zk(Γ:H4)(aB:List Ab)(a3:TFunc)(a5:Int)(a7:Ao)(aA:List Be)(r:CS):Exit->St->Prop:=fK Tryz.prog Γ Tryz.f147.results.toList (Z3 a3.Params a3.Ret a3.Blocks a5 a7 aA aA.length) (.bool r.1) (Z3 r.2.1.Params r.2.1.Ret r.2.1.Blocks r.2.2.1 r.2.2.2.1 r.2.2.2.2 r.2.2.2.2.length)
def Jy(aB:List Ab)(a3:TFunc)(a5:Int)(a7:Ao)(aA:List Be):Option CS:=
 ((Ad (E1 aB) ((0:Int),a3.Params,a3.Ret,a3.Blocks,a5,a7,aA)).bind (λx16=>(match x16 with|(.inl (l8,i9,l10,i11,l12,l13))=>(some (true,(⟨l8,i9,l10⟩:TFunc),i11,l12,l13))|(.inr r18)=>(some r18))))
theorem X7(h:Jy v10 v0 v1 v2 v12=some v23):sP 147 [(VD v10),(.clo 148 [Wu] [])] (Z3 v0.Params v0.Ret v0.Blocks v1 v2 v12 v12.length) (.bool v23.1) (Z3 v23.2.1.Params v23.2.1.Ret v23.2.1.Blocks v23.2.2.1 v23.2.2.2.1 v23.2.2.2.2 v23.2.2.2.2.length):=
 sG Tryz.func147 λΓ q=>tW q Fe Iy Nd Iy (tL q h Nd Iy (λu (i1,l2,i3,l4,i5,l6,l7)=>(Cn u [(9,(Z6 i1))] (Z3 l2 i3 l4 i5 l6 l7 l7.length))) (λu x_=>match x_ with|(.inl (l8,i9,l10,i11,l12,l13))=>aG Γ (.exit 0) (⟨[],(Z3 l8 i9 l10 i11 l12 l13 l13.length),[]⟩:St)|(.inr r_)=>aR (Zk Γ v10 v0 v1 v2 v12 r_)) (λ⟨i1,l2,i3,l4,i5,l6,l7⟩ y h=>Ae q NQ Iy (gC h (λh=>tV q NR [6,30000,37006] h λh=>tB h λx15 y15 h=>tT q UR Iy [(Z80 x15.1 x15.2.1.Params x15.2.1.Ret x15.2.1.Blocks x15.2.2.1 x15.2.2.2.1 x15.2.2.2.2 x15.2.2.2.2.length)] (c1 (Ty y15)) (gC h (λh=>Ae q [4] Iy (tS h (gO (Mk (H5 Zf (Le.refl _ _)))))) λh=>Ae q Nd Iy (tN h))) λh=>tS h (gO (A3 (A8 [] Iy q))))) λx16 h=>(match x16,h with | .inl ⟨l8,i9,l10,i11,l12,l13⟩,h=>gA (Ae q [4] Iy (tS h (Bp Zf))) | .inr r18,h=>gAr (λst' hk=>tS h (gK hk))))
def k7(x1:Bool)(x2:Bool):=((bif x1 then x2 else false)==true)
def Q83(x1:Bool)(x2:Bool)(x3:CS)(a7:Ao):AV:=(Z23 (k7 x1 x2) x3.2.2.2.1 a7)
def Q82(x1:Bool)(x2:Bool)(x3:CS)(a3:TFunc):AV:=(Z23 (k7 x1 x2) x3.2.1.Params a3.Params)
def Q81(x1:Bool)(x2:Bool)(x3:CS)(a3:TFunc):AV:=(Z67 (k7 x1 x2) x3.2.1.Blocks a3.Blocks)
def Jz(a3:TFunc)(a5:Int)(a7:Ao)(aA:List Be):Option mZ:=
 ((Pi a3.Params).bind λx1=>((bif (x1==true) then Lh a3.Ret else some false).bind λx2=>((bif ((bif x1 then x2 else false)==true) then Jy a3.Blocks a3 a5 a7 aA else some (false,(default:TFunc),(0:Int),[],[])).bind λx3=>((Ns (bif (bif x1 then x2 else false) then x3.1 else false) (6:Int)).bind λx4=>(some (x4,(⟨(bif ((bif x1 then x2 else false)==true) then x3.2.1.Params else a3.Params),(bif ((bif x1 then x2 else false)==true) then x3.2.1.Ret else a3.Ret),(bif ((bif x1 then x2 else false)==true) then x3.2.1.Blocks else a3.Blocks)⟩:TFunc),(bif ((bif x1 then x2 else false)==true) then x3.2.2.1 else a5),(bif ((bif x1 then x2 else false)==true) then x3.2.2.2.1 else a7),(bif ((bif x1 then x2 else false)==true) then x3.2.2.2.2 else aA)))))))
theorem X8(h:Jz v0 v1 v2 v12=some v13):sP 89 [Wu] (Z3 v0.Params v0.Ret v0.Blocks v1 v2 v12 v12.length) (Z6 v13.1) (Z3 v13.2.1.Params v13.2.1.Ret v13.2.1.Blocks v13.2.2.1 v13.2.2.2.1 v13.2.2.2.2 v13.2.2.2.2.length):=
 sG Tryz.func89 λΓ q=>Ae q [0] Iy (tB h λx1 y1 h=>tB h λx2 y2 h=>tB h λx3 y3 h=>tT q [3] Iy [(Z7 x1),(Z7 x2),(Z80 x3.1 x3.2.1.Params x3.2.1.Ret x3.2.1.Blocks x3.2.2.1 x3.2.2.2.1 x3.2.2.2.2 x3.2.2.2.2.length)] (ci (KO y1) (xC (x1==true) (PY (λ(hg:(x1==true)=true)=>(N3 (Ba hg y2))) (M7 x1) (gI7 (k7 x1 x2) (c2 (λ(hg:(k7 x1 x2)=true)=>(X7 (Ba hg y3))) (M7 (bif x1 then x2 else false))))))) (M1 (Le.trans (leB (λg_ u=>(Cn u [] [(30000,.row 105 [(Q82 x1 x2 x3 v0),(vP (k7 x1 x2) x3.2.1.Ret v0.Ret),(Q81 x1 x2 x3 v0),(vP (k7 x1 x2) x3.2.2.1 v1),(Q83 x1 x2 x3 v2),.nilm,(Z46 g_ x3.2.2.2.2 v12)]),(37006,.tok 5 198 (bif g_ then x3.2.2.2.2.length else v12.length))])) (λg_ u=>(Cn u [] [(30000,.row 105 [(Q82 x1 x2 x3 v0),(vP (k7 x1 x2) x3.2.1.Ret v0.Ret),(Q81 x1 x2 x3 v0),(vP (k7 x1 x2) x3.2.2.1 v1),(Q83 x1 x2 x3 v2),.nilm,(AV.list 5 Ol default (bif g_ then x3.2.2.2.2 else v12) (.own 37006))]),(37006,.tok 5 198 ((bif g_ then x3.2.2.2.2 else v12).length))])) (k7 x1 x2)) (Le.trans (tw 30000 0 (show AVle (Q82 x1 x2 x3 v0) (AV.list 1 Am 0 (bif (k7 x1 x2) then x3.2.1.Params else v0.Params) .none) from Ki)) (Le.trans (tw 30000 2 (show AVle (Q81 x1 x2 x3 v0) (AV.list 5 Bd default (bif (k7 x1 x2) then x3.2.1.Blocks else v0.Blocks) .none) from Ki)) (tw 30000 4 (show AVle (Q83 x1 x2 x3 v2) (AV.list 1 Am 0 (bif (k7 x1 x2) then x3.2.2.2.1 else v2) .none) from Ki))))) (tB h λx4 y4 h=>tT q [2] Iy [(JP x4)] (c1 (Y4 y4)) (tS h (Bp Zf)))))
def D7(aI:Int):Option Hn:=
 (some (aI,(1:Int)))
theorem Mn(h:D7 v1=some v19):sP 149 [(Z6 v1)] [] (.agg (Bq v19)) []:=
 sG Tryz.func149 λΓ q=>tW q [0,2] [2] [2] [2] (tS h (Bp []))
def xx:=(λ(v_:Ax)=>((Xp v_):AV))
abbrev Pe:=(Int×Ax)
abbrev eY:=(Bool×TFunc×Int×Ao×List Be×List (Int×Ax))
def Gb(aC:Int)(aaB:Hn)(aK:L4)(a3:TFunc)(a5:Int)(a7:Ao)(a8:List Pe)(aA:List Be):Option eY:=
 (bif (bif (bif (Ke a8 aC) then true else(decide (aC<1))) then true else(decide ((1023:Int)<aC))) then(some (false,a3,a5,a7,aA,a8)) else(some (true,a3,a5,a7,aA,(Ov a8 aC (⟨aaB,aK⟩:Ax)))))
variable{v24:L4}{v25:List Pe}{v26:eY}
abbrev u5:=(Int×AV)
theorem P1(h:Gb v1 v19 v24 v0 v11 v2 v25 v12=some v26):sP 183 [Wu,(Z6 v1),(.agg (Bq v19)),(.agg (OX v24))] [(Z1 v0.Params v0.Ret v0.Blocks v11 v2 9100005 v12),(M0 37006 198 v12.length),(9100005,.obj (.map true .i64 (Dw (λ(v_:Ax)=>((Xp v_):AV)) v25)))] (.bool v26.1) [(Z1 v26.2.1.Params v26.2.1.Ret v26.2.1.Blocks v26.2.2.1 v26.2.2.2.1 9100005 v26.2.2.2.2.1),(M0 37006 198 v26.2.2.2.2.1.length),(9100005,.obj (.map true .i64 (Dw (λ(v_:Ax)=>((Xp v_):AV)) v26.2.2.2.2.2)))]:=
 sG Tryz.func183 λΓ q=>Ae q UA kU (gR q [0,1,6,7,10] kU [(17,(.tuple [(vN v25 v1),(.bool (Ke v25 v1))]))] [] (c1 (show(AVle (.tuple [Mc (.agg [La,La,La,La]) (Dw xx v25) v1,.bool (Ke (Dw xx v25) v1)]) (.tuple [(vN v25 v1),(.bool (Ke v25 v1))])) from(dX (f:=xx) (l:=v25) (AVle.refl _) rfl))) (tU q [0,1,6,7,28] kU (c4 (gI ((Ke v25 v1)==false)) (I4 (Ke v25 v1)) (gI ((bif (Ke v25 v1) then true else(decide (v1<1)))==false)) (I4 (bif (Ke v25 v1) then true else(decide (v1<1))))) (gC h (λh=>Ae q [8] Iv (tS h (Bp ET))) λh=>Ae q [] Iv (M1 (Vg (λ(k_:List u5) u=>Cn u [] [(9100005,.obj (.map true .i64 k_))]) (show(Ov (Dw xx v25) v1 (.agg [(Z6 v19.1),(Z6 v19.2),(Z6 v24.block),(Z6 v24.at_)]))=(Dw xx (Ov v25 v1 (⟨v19,v24⟩:Ax))) from(jo (f:=xx) (l:=v25) (v:=(⟨v19,v24⟩:Ax)) rfl rfl))) (Ae q [8] Iv (tS h (Bp ET)))))))
def Qu(a2:A2):Option Hn:=
 ((Sa a2).bind λx1=>(bif (!x1) then(some ((0:Int),(0:Int))) else((Qy a2).bind λx2=>(some (x2.1,x2.2)))))
theorem VZ(h:Qu v6=some v19):sP 184 [(UU v6)] [] (.tuple [(Z6 v19.1),(Z6 v19.2)]) []:=
 sG Tryz.func184 λΓ q=>Ae q [1] [1] (tB h λx1 y1 h=>tT q [1,6] [1] [(Z7 x1)] (c1 (BX y1)) (gC h (λh=>Ae q Cb [] (tS h (Bp []))) λh=>tB h λx2 y2 h=>tT q Cb [] [(sq x2.1 x2.2)] (c1 (FD y2)) (tS h (Bp []))))
open Go Go.RowKit
set_option maxRecDepth 100000
set_option maxHeartbeats 2000000
abbrev u6:=(Int×Ao×Int×List Ab×Int×Ao×List Be×List (Int×Ax))
abbrev Aas:=(LR (Int×Ao×Int×List Ab×Int×Ao×List Be×List (Int×Ax)) ((Ao×Int×List Ab×Int×Ao×List Be×List (Int×Ax)) ⊕ (Bool×TFunc×Int×Ao×List Be×List (Int×Ax))))
def Di(aa9:Int)(aH:Ab):u6->Option Aas:=
 λ((i1,l2,i3,l4,i5,l6,l7,l8):u6)=>(bif (decide (i1<(aH.Phis.length:Int))) then(Aw (As i1 aH.Phis.length) ((D7 ((aH.Phis.getD i1.toNat default).Bits)).bind λx17=>((Gb ((aH.Phis.getD i1.toNat default).Dst) x17 (⟨aa9,(-1:Int)⟩:L4) (⟨l2,i3,l4⟩:TFunc) i5 l6 l8 l7).bind λx18=>(bif (!x18.1) then(some (.done (.inr (false,x18.2.1,x18.2.2.1,x18.2.2.2.1,x18.2.2.2.2.1,x18.2.2.2.2.2)))) else(some (.next ((w64 (i1+1)),x18.2.1.Params,x18.2.1.Ret,x18.2.1.Blocks,x18.2.2.1,x18.2.2.2.1,x18.2.2.2.2.1,x18.2.2.2.2.2))))))) else(some (.done (.inl (l2,i3,l4,i5,l6,l7,l8)))))
def Cj(aa9:Int)(aH:Ab):u6->Option Aas:=
 λ((i21,l22,i23,l24,i25,l26,l27,l28):u6)=>(bif (decide (i21<(aH.Ops.length:Int))) then(Aw (As i21 aH.Ops.length) ((Qu (aH.Ops.getD i21.toNat default)).bind λx37=>((bif ((decide ((0:Int)<x37.1))==true) then Gb ((aH.Ops.getD i21.toNat default).Dst) (x37.1,x37.2) (⟨aa9,i21⟩:L4) (⟨l22,i23,l24⟩:TFunc) i25 l26 l28 l27 else some (false,(default:TFunc),(0:Int),[],[],[])).bind λx38=>(bif (bif (decide ((0:Int)<x37.1)) then(!x38.1) else false) then(some (.done (.inr (false,(⟨(bif ((decide ((0:Int)<x37.1))==true) then x38.2.1.Params else l22),(bif ((decide ((0:Int)<x37.1))==true) then x38.2.1.Ret else i23),(bif ((decide ((0:Int)<x37.1))==true) then x38.2.1.Blocks else l24)⟩:TFunc),(bif ((decide ((0:Int)<x37.1))==true) then x38.2.2.1 else i25),(bif ((decide ((0:Int)<x37.1))==true) then x38.2.2.2.1 else l26),(bif ((decide ((0:Int)<x37.1))==true) then x38.2.2.2.2.1 else l27),(bif ((decide ((0:Int)<x37.1))==true) then x38.2.2.2.2.2 else l28))))) else(some (.next ((w64 (i21+1)),(bif ((decide ((0:Int)<x37.1))==true) then x38.2.1.Params else l22),(bif ((decide ((0:Int)<x37.1))==true) then x38.2.1.Ret else i23),(bif ((decide ((0:Int)<x37.1))==true) then x38.2.1.Blocks else l24),(bif ((decide ((0:Int)<x37.1))==true) then x38.2.2.1 else i25),(bif ((decide ((0:Int)<x37.1))==true) then x38.2.2.2.1 else l26),(bif ((decide ((0:Int)<x37.1))==true) then x38.2.2.2.2.1 else l27),(bif ((decide ((0:Int)<x37.1))==true) then x38.2.2.2.2.2 else l28)))))))) else(some (.done (.inl (l22,i23,l24,i25,l26,l27,l28)))))
def Ok(Γ:H4)(aa9:Int)(aH:Ab)(a3:TFunc)(a5:Int)(a7:Ao)(a8:List Pe)(aA:List Be)(r:eY):Exit->St->Prop:=fK Tryz.prog Γ Tryz.f150.results.toList [(Z1 a3.Params a3.Ret a3.Blocks a5 a7 9100005 aA),(M0 37006 198 aA.length),(9100005,.obj (.map true .i64 (Dw (λ(v_:Ax)=>((Xp v_):AV)) a8)))] (.bool r.1) [(Z1 r.2.1.Params r.2.1.Ret r.2.1.Blocks r.2.2.1 r.2.2.2.1 9100005 r.2.2.2.2.1),(M0 37006 198 r.2.2.2.2.1.length),(9100005,.obj (.map true .i64 (Dw (λ(v_:Ax)=>((Xp v_):AV)) r.2.2.2.2.2)))]
def et(x37:Hn):=((decide ((0:Int)<x37.1))==true)
def sg:=(λ(v_:Ax)=>((Xp v_):AV))
def Q89(x37:Hn)(x38:eY)(l26:Ao):AV:=(Z23 (et x37) x38.2.2.2.1 l26)
def Q90(x37:Hn)(x38:eY)(l24:List Ab):AV:=(Z67 (et x37) x38.2.1.Blocks l24)
def Q88(x37:Hn)(x38:eY)(l22:Ao):AV:=(Z23 (et x37) x38.2.1.Params l22)
def Gx(aa9:Int)(aH:Ab)(a3:TFunc)(a5:Int)(a7:Ao)(a8:List Pe)(aA:List Be):Option eY:=
 ((Ad (Di aa9 aH) ((0:Int),a3.Params,a3.Ret,a3.Blocks,a5,a7,aA,a8)).bind (λx19=>(match x19 with|(.inl (l9,i10,l11,i12,l13,l14,l15))=>((Ad (Cj aa9 aH) ((0:Int),l9,i10,l11,i12,l13,l14,l15)).bind (λx39=>(match x39 with|(.inl (l29,i30,l31,i32,l33,l34,l35))=>(some (true,(⟨l29,i30,l31⟩:TFunc),i32,l33,l34,l35))|(.inr r41)=>(some r41))))|(.inr r42)=>(some r42))))
theorem Uo(h:Gx v1 v9 v0 v11 v2 v25 v12=some v26):sP 150 [Wu,(Z6 v1),(.agg (Bd v9))] [(Z1 v0.Params v0.Ret v0.Blocks v11 v2 9100005 v12),(M0 37006 198 v12.length),(9100005,.obj (.map true .i64 (Dw (λ(v_:Ax)=>((Xp v_):AV)) v25)))] (.bool v26.1) [(Z1 v26.2.1.Params v26.2.1.Ret v26.2.1.Blocks v26.2.2.1 v26.2.2.2.1 9100005 v26.2.2.2.2.1),(M0 37006 198 v26.2.2.2.2.1.length),(9100005,.obj (.map true .i64 (Dw (λ(v_:Ax)=>((Xp v_):AV)) v26.2.2.2.2.2)))]:=
 sG Tryz.func150 λΓ q=>tW q Pf NO iS NO (tL q h iS NO (λu (i1,l2,i3,l4,i5,l6,l7,l8)=>(Cn u [(16,(Z6 i1))] [(Z1 l2 i3 l4 i5 l6 9100005 l7),(M0 37006 198 l7.length),(9100005,.obj (.map true .i64 (Dw sg l8)))])) (λu x_=>match x_ with|(.inl (l9,i10,l11,i12,l13,l14,l15))=>aG Γ (.exit 0) (Nc Pf NO u [] [(Z1 l9 i10 l11 i12 l13 9100005 l14),(M0 37006 198 l14.length),(9100005,.obj (.map true .i64 (Dw sg l15)))])|(.inr r_)=>aR (Ok Γ v1 v9 v0 v11 v2 v25 v12 r_)) (λ⟨i1,l2,i3,l4,i5,l6,l7,l8⟩ y h=>Ae q [0,1,5,14,15,16,17] NO (gC h (λh=>tV q [0,1,5,8,14,15,16] [5,8,30000,37006,9100005] h λh=>tB h λx17 y17 h=>tB h λx18 y18 h=>tT q [0,1,5,14,15,16,29] NO [(zR x17),⟨ET,[],(.bool x18.1),[(Z1 x18.2.1.Params x18.2.1.Ret x18.2.1.Blocks x18.2.2.1 x18.2.2.2.1 9100005 x18.2.2.2.2.1),(M0 37006 198 x18.2.2.2.2.1.length),(9100005,.obj (.map true .i64 (Dw sg x18.2.2.2.2.2)))],[],[]⟩] (c2 (Mn y17) (P1 y18)) (gC h (λh=>Ae q [6] Iv (tS h (gO (Mk (H5 ET (Le.refl _ _)))))) λh=>Ae q iS NO (tN h))) λh=>tS h (gO (A3 (A8 Pf NO q))))) λx19 h=>(match x19,h with | .inl ⟨l9,i10,l11,i12,l13,l14,l15⟩,h=>gA (Ae q iX Iv (tL q h iX Iv (λu (i21,l22,i23,l24,i25,l26,l27,l28)=>(Cn u [(34,(Z6 i21))] [(Z1 l22 i23 l24 i25 l26 9100005 l27),(M0 37006 198 l27.length),(9100005,.obj (.map true .i64 (Dw sg l28)))])) (λu x_=>match x_ with|(.inl (l29,i30,l31,i32,l33,l34,l35))=>aG Γ (.exit 2) (⟨[],[(Z1 l29 i30 l31 i32 l33 9100005 l34),(M0 37006 198 l34.length),(9100005,.obj (.map true .i64 (Dw sg l35)))],[]⟩:St)|(.inr r_)=>aR (Ok Γ v1 v9 v0 v11 v2 v25 v12 r_)) (λ⟨i21,l22,i23,l24,i25,l26,l27,l28⟩ y h=>Ae q [0,1,32,33,34,35] Iv (gC h (λh=>tV q [0,1,9,10,32,33,34] qx h λh=>tB h λx37 y37 h=>tT q [0,1,9,10,11,12,32,33,34] qx [(sq x37.1 x37.2)] (c1 (VZ y37)) (tB h λx38 y38 h=>tT q [0,1,32,33,34,58] Iv [⟨ET,[],(.bool x38.1),[(Z1 x38.2.1.Params x38.2.1.Ret x38.2.1.Blocks x38.2.2.1 x38.2.2.2.1 9100005 x38.2.2.2.2.1),(M0 37006 198 x38.2.2.2.2.1.length),(9100005,.obj (.map true .i64 (Dw sg x38.2.2.2.2.2)))],[],[]⟩] (gI9 (et x37) (c3 (λ(hg:(et x37)=true)=>(P1 (Ba hg y38))) (gI (et x37)) (M7 (decide ((0:Int)<x37.1))))) (M1 (Le.trans (Vg (λ(k_:List u5) u=>Cn u [] [(9100005,.obj (.map true .i64 k_))]) (show(bif (et x37) then(Dw sg x38.2.2.2.2.2) else(Dw sg l28))=(Dw sg (bif (et x37) then x38.2.2.2.2.2 else l28)) from(oG rfl rfl))) (Le.trans (leB (λg_ u=>(Cn u [] [(30000,.row 105 [(Q88 x37 x38 l22),(vP (et x37) x38.2.1.Ret i23),(Q90 x37 x38 l24),(vP (et x37) x38.2.2.1 i25),(Q89 x37 x38 l26),(.omap 9100005),(Z46 g_ x38.2.2.2.2.1 l27)]),(37006,.tok 5 198 (bif g_ then x38.2.2.2.2.1.length else l27.length))])) (λg_ u=>(Cn u [] [(30000,.row 105 [(Q88 x37 x38 l22),(vP (et x37) x38.2.1.Ret i23),(Q90 x37 x38 l24),(vP (et x37) x38.2.2.1 i25),(Q89 x37 x38 l26),(.omap 9100005),(AV.list 5 Ol default (bif g_ then x38.2.2.2.2.1 else l27) (.own 37006))]),(37006,.tok 5 198 ((bif g_ then x38.2.2.2.2.1 else l27).length))])) (et x37)) (Le.trans (tw 30000 0 (show AVle (Q88 x37 x38 l22) (AV.list 1 Am 0 (bif (et x37) then x38.2.1.Params else l22) .none) from Ki)) (Le.trans (tw 30000 2 (show AVle (Q90 x37 x38 l24) (AV.list 5 Bd default (bif (et x37) then x38.2.1.Blocks else l24) .none) from Ki)) (tw 30000 4 (show AVle (Q89 x37 x38 l26) (AV.list 1 Am 0 (bif (et x37) then x38.2.2.2.1 else l26) .none) from Ki)))))) (gC h (λh=>Ae q [6] Iv (tS h (gO (Mk (H5 ET (Le.refl _ _)))))) λh=>Ae q iX Iv (tN h))))) λh=>tS h (gO (A3 (A8 [] Iv q))))) λx39 h=>(match x39,h with | .inl ⟨l29,i30,l31,i32,l33,l34,l35⟩,h=>gA (Ae q [6] Iv (tS h (Bp ET))) | .inr r41,h=>gAr (λst' hk=>tS h (gK hk))))) | .inr r42,h=>gAr (λst' hk=>tS h (gK hk))))
abbrev Aat:=(Int×List (Int×Ax))
def Gc(a3:TFunc):Aat->Option (LR (Int×List (Int×Ax)) (List (Int×Ax))):=
 λ((i1,l2):Aat)=>(bif (decide (i1<(a3.Params.length:Int))) then(Aw (As i1 a3.Params.length) ((D7 (a3.Params.getD i1.toNat 0)).bind λx5=>(some (.next ((w64 (i1+1)),(Ov l2 (w64 (i1+1)) (⟨x5,(⟨(0:Int),(-1:Int)⟩:L4)⟩:Ax))))))) else(some (.done l2)))
abbrev Aau:=(Int×List (Int×Ax)×Ao×Int×List Ab×Int×Ao×List Be)
def D6(a3:TFunc):Aau->Option (LR (Int×List (Int×Ax)×Ao×Int×List Ab×Int×Ao×List Be) ((List (Int×Ax)×Ao×Int×List Ab×Int×Ao×List Be) ⊕ (Int×TFunc×Int×Ao×List Be×List (Int×Ax)))):=
 λ((i8,l9,l10,i11,l12,i13,l14,l15):Aau)=>(bif (decide (i8<(a3.Blocks.length:Int))) then(Aw (As i8 a3.Blocks.length) ((Gx i8 (a3.Blocks.getD i8.toNat default) (⟨l10,i11,l12⟩:TFunc) i13 l14 l9 l15).bind λx24=>(bif (!x24.1) then(some (.done (.inr ((7:Int),x24.2.1,x24.2.2.1,x24.2.2.2.1,x24.2.2.2.2.1,x24.2.2.2.2.2)))) else(some (.next ((w64 (i8+1)),x24.2.2.2.2.2,x24.2.1.Params,x24.2.1.Ret,x24.2.1.Blocks,x24.2.2.1,x24.2.2.2.1,x24.2.2.2.2.1)))))) else(some (.done (.inl (l9,l10,i11,l12,i13,l14,l15)))))
abbrev u7:=(Int×TFunc×Int×Ao×List Be×List (Int×Ax))
def Wr(Γ:H4)(a3:TFunc)(a5:Int)(a7:Ao)(aA:List Be)(r:u7):Exit->St->Prop:=fK Tryz.prog Γ Tryz.f90.results.toList (Z3 a3.Params a3.Ret a3.Blocks a5 a7 aA aA.length) (Z6 r.1) [(Z1 r.2.1.Params r.2.1.Ret r.2.1.Blocks r.2.2.1 r.2.2.2.1 9200005 r.2.2.2.2.1),(M0 37006 198 r.2.2.2.2.1.length),(9200005,.obj (.map false .i64 (Dw (λ(v_:Ax)=>((Xp v_):AV)) r.2.2.2.2.2)))]
def jJ:=(λ(v_:Ax)=>((Xp v_):AV))
def Q92(l16:List Pe)(l17:Ao)(i18:Int)(l19:List Ab)(i20:Int)(l21:Ao)(l22:List Be):List OM:=[(8,.obj (.map true .i64 (Dw jJ l16))),(zL l17 i18 l19 i20 l21 l22),(M0 37006 198 l22.length)]
def H9(a3:TFunc)(a5:Int)(a7:Ao)(aA:List Be):Option u7:=
 ((Ad (Gc a3) ((0:Int),([]:List Pe))).bind (λx6=>((Ad (D6 a3) ((0:Int),x6,a3.Params,a3.Ret,a3.Blocks,a5,a7,aA)).bind (λx25=>(match x25 with|(.inl (l16,l17,i18,l19,i20,l21,l22))=>(some ((0:Int),(⟨l17,i18,l19⟩:TFunc),i20,l21,l22,l16))|(.inr r27)=>(some r27))))))
variable{v27:u7}
theorem Wd(h:H9 v0 v1 v2 v12=some v27):sP 90 [Wu] (Z3 v0.Params v0.Ret v0.Blocks v1 v2 v12 v12.length) (Z6 v27.1) [(Z1 v27.2.1.Params v27.2.1.Ret v27.2.1.Blocks v27.2.2.1 v27.2.2.2.1 9200005 v27.2.2.2.2.1),(M0 37006 198 v27.2.2.2.2.1.length),(9200005,.obj (.map false .i64 (Dw (λ(v_:Ax)=>((Xp v_):AV)) v27.2.2.2.2.2)))]:=
 sG Tryz.func90 λΓ q=>tW q [0] Iy [0] Rp (M1 (Vg (λ(k_:List u5) u=>Cn u [] [(8,.obj (.map true .i64 k_))]) (show[]=(Dw jJ ([]:List Pe)) from rfl)) (Ae q bj Rp (tL q h bj Rp (λu (i1,l2)=>(Cn u [(17,(Z6 i1))] [(8,.obj (.map true .i64 (Dw jJ l2)))])) (λu l3=>aG Γ (.exit 0) (Nc [0] Rp u [] [(8,.obj (.map true .i64 (Dw jJ l3)))])) (λ⟨i1,l2⟩ y h=>Ae q [0,15,16,17,18] Rp (gC h (λh=>tV q [0,3,4,15,16,17] Rp h λh=>tB h λx5 y5 h=>tT q bj Rp [(zR x5)] (c1 (Mn y5)) (M1 (Vg (λ(k_:List u5) u=>Cn u [] [(8,.obj (.map true .i64 k_))]) (show(Ov (Dw jJ l2) (w64 (i1+1)) (.agg [(Z6 x5.1),(Z6 x5.2),La,(.int .i64 (-1:Int))]))=(Dw jJ (Ov l2 (w64 (i1+1)) (⟨x5,(⟨(0:Int),(-1:Int)⟩:L4)⟩:Ax))) from(jo (f:=jJ) (l:=l2) (v:=(⟨x5,(⟨(0:Int),(-1:Int)⟩:L4)⟩:Ax)) rfl rfl))) (Ae q bj Rp (tN h)))) λh=>tS h (gO (A3 (A8 [0] Rp q))))) λx6 h=>gA (Ae q iq Rp (tL q h iq Rp (λu (i8,l9,l10,i11,l12,i13,l14,l15)=>(Cn u [(39,(Z6 i8))] [(8,.obj (.map true .i64 (Dw jJ l9))),(zL l10 i11 l12 i13 l14 l15),(M0 37006 198 l15.length)])) (λu x_=>match x_ with|(.inl (l16,l17,i18,l19,i20,l21,l22))=>aG Γ (.exit 2) (⟨[],(Q92 l16 l17 i18 l19 i20 l21 l22),[]⟩:St)|(.inr r_)=>aR (Wr Γ v0 v1 v2 v12 r_)) (λ⟨i8,l9,l10,i11,l12,i13,l14,l15⟩ y h=>Ae q [0,37,38,39,40] Rp (gC h (λh=>tV q [0,5,6,37,38,39] [6,8,30000,37006] h λh=>tB h λx24 y24 h=>tT q [0,37,38,39,48] Rp [⟨[(30000,30000),(37006,37006),(8,9100005)],[],(.bool x24.1),[(Z1 x24.2.1.Params x24.2.1.Ret x24.2.1.Blocks x24.2.2.1 x24.2.2.2.1 9100005 x24.2.2.2.2.1),(M0 37006 198 x24.2.2.2.2.1.length),(9100005,.obj (.map true .i64 (Dw jJ x24.2.2.2.2.2)))],[],[]⟩] (c1 (Uo y24)) (gC h (λh=>Ae q [2] Rp (O6 (⟨[(2,(.int .i64 (7:Int)))],[(8,.obj (.map true .i64 (Dw jJ x24.2.2.2.2.2))),(zL x24.2.1.Params x24.2.1.Ret x24.2.1.Blocks x24.2.2.1 x24.2.2.2.1 x24.2.2.2.2.1),(M0 37006 198 x24.2.2.2.2.1.length)],[]⟩:St) (tS h (gO (Mk (H5 qn (Le.trans (pB (nm:=8) (.map false .i64 (Dw jJ x24.2.2.2.2.2)) rfl (λ_ _ _ _ h_=>dZ h_)) (A8 (st':=⟨[(2,(.int .i64 (7:Int)))],[(8,.obj (.map false .i64 (Dw jJ x24.2.2.2.2.2))),(zL x24.2.1.Params x24.2.1.Ret x24.2.1.Blocks x24.2.2.1 x24.2.2.2.1 x24.2.2.2.2.1),(M0 37006 198 x24.2.2.2.2.1.length)],[]⟩) [2] Rp q)))))))) λh=>Ae q iq Rp (tN h))) λh=>tS h (gO (A3 (A8 [] Rp q))))) λx25 h=>(match x25,h with | .inl ⟨l16,l17,i18,l19,i20,l21,l22⟩,h=>gA (Ae q [2] Rp (O6 (⟨[(2,La)],(Q92 l16 l17 i18 l19 i20 l21 l22),[]⟩:St) (tS h (gK (e:=.ret) (H5 qn (Le.trans (pB (nm:=8) (.map false .i64 (Dw jJ l16)) rfl (λ_ _ _ _ h_=>dZ h_)) (A8 (st':=⟨[(2,La)],[(8,.obj (.map false .i64 (Dw jJ l16))),(zL l17 i18 l19 i20 l21 l22),(M0 37006 198 l22.length)],[]⟩) [2] Rp q))))))) | .inr r27,h=>gAr (λst' hk=>tS h (gK hk))))))))
abbrev Aav:=(L4×TFunc×Int×Ao×List Be)
def Gn(aa9:Int)(a3:TFunc)(a5:Int)(a7:Ao)(a8:List Pe)(aA:List Be):Option Aav:=
 (Aw (As aa9 a3.Blocks.length) (some ((⟨aa9,(((a3.Blocks.getD aa9.toNat default).Ops).length:Int)⟩:L4),a3,a5,a7,aA)))
variable{v28:Aav}
theorem Nz(h:Gn v1 v0 v11 v2 v25 v12=some v28):sP 186 [Wu,(Z6 v1)] [(Z1 v0.Params v0.Ret v0.Blocks v11 v2 9100005 v12),(M0 37006 198 v12.length),(9100005,.obj (.map false .i64 (Dw (λ(v_:Ax)=>((Xp v_):AV)) v25)))] (.agg (OX v28.1)) [(Z1 v28.2.1.Params v28.2.1.Ret v28.2.1.Blocks v28.2.2.1 v28.2.2.2.1 9100005 v28.2.2.2.2),(M0 37006 198 v28.2.2.2.2.length),(9100005,.obj (.map false .i64 (Dw (λ(v_:Ax)=>((Xp v_):AV)) v25)))]:=
 sG Tryz.func186 λΓ q=>Ae q [0,1,4] q8 (tV q [4] q8 h λh=>tS h (Bp ET))
abbrev u9:=(TFunc×Int×Ao×List Be)
def Es(aC:Int)(aaB:Hn)(aK:L4)(a3:TFunc)(a5:Int)(a7:Ao)(a8:List Pe)(aA:List Be):Option u9:=
 (Aw (aA.length+([(⟨aC,aaB,aK⟩:Be)]:List Be).length<=room) (some (a3,a5,a7,(aA++([(⟨aC,aaB,aK⟩:Be)]:List Be)))))
variable{v29:u9}
theorem K5(h:Es v1 v19 v24 v0 v11 v2 v25 v12=some v29):sP 185 [Wu,(Z6 v1),(.agg (Bq v19)),(.agg (OX v24))] [(Z1 v0.Params v0.Ret v0.Blocks v11 v2 9100005 v12),(M0 37006 198 v12.length),(9100005,.obj (.map false .i64 (Dw (λ(v_:Ax)=>((Xp v_):AV)) v25)))] (.tuple []) [(Z1 v29.1.Params v29.1.Ret v29.1.Blocks v29.2.1 v29.2.2.1 9100005 v29.2.2.2),(M0 37006 198 v29.2.2.2.length),(9100005,.obj (.map false .i64 (Dw (λ(v_:Ax)=>((Xp v_):AV)) v25)))]:=
 sG Tryz.func185 λΓ q=>Ae q UA kU (tC h λc1_ h=>gR q [] Iv [(17,(AV.list 5 Ol default ([(⟨v1,v19,v24⟩:Be)]:List Be) .exact)),(18,(AV.list 5 Ol default (v12++([(⟨v1,v19,v24⟩:Be)]:List Be)) (.own 37006)))] [] (c5 (Az 5 Ol (default:Be) ([(⟨v1,v19,v24⟩:Be)]:List Be)) (Eq.refl v12.length) c1_ (Cu 5 37006 Ol (default:Be) v12 ([(⟨v1,v19,v24⟩:Be)]:List Be)) (Br v12 ([(⟨v1,v19,v24⟩:Be)]:List Be))) (tS h (gK (e:=.normal) (H5 ET (Le.refl _ _)))))
def Q93:List NI:=[(2,zN)]
def Qv(a2:A2):Option qi:=
 ((Sa a2).bind λx1=>(bif (!x1) then(some ([]:List Hn)) else((Q0 a2).bind λx2=>(some x2))))
theorem WB(h:Qv v6=some v21):sP 187 [(UU v6)] [] (sn v21) []:=
 sG Tryz.func187 λΓ q=>gR q [1] [1] Q93 [] (c1 (Bc 2 Bq ((0:Int),(0:Int)))) (tB h λx1 y1 h=>tT q [1,5] [1] [(Z7 x1)] (c1 (BX y1)) (gC h (λh=>gR q [2] [] Q93 [] (c1 (Bc 2 Bq ((0:Int),(0:Int)))) (O6 (⟨Q93,[],[]⟩:St) (tS h (gK (e:=.ret) (H5 [] (show Le Γ _ (⟨[(2,(AV.list 2 Bq ((0:Int),(0:Int)) ([]:List Hn) .none))],[],[]⟩:St) from Le.trans (A8 (st':=⟨Q93,[],[]⟩) [2] [] q) (Gu (.cons AVle.untag .nil) .nil))))))) λh=>tB h λx2 y2 h=>tT q [2] [] [(lC x2)] (c1 (FE y2)) (tS h (Bp []))))
abbrev qj:=(LR (Int×Ao×Int×List Ab×Int×Ao×List Be) (Ao×Int×List Ab×Int×Ao×List Be))
def D1(a3:TFunc)(a8:List Pe)(i1:Int)(i21:Int):Te->Option qj:=
 λ((i35,l36,i37,l38,i39,l40,l41):Te)=>(bif (decide (i35<(((((a3.Blocks.getD i1.toNat default).Phis).getD i21.toNat default).Args).length:Int))) then(Aw (As i35 ((((a3.Blocks.getD i1.toNat default).Phis).getD i21.toNat default).Args).length) ((D7 ((((a3.Blocks.getD i1.toNat default).Phis).getD i21.toNat default).Bits)).bind λx49=>(Aw (As i35 ((((a3.Blocks.getD i1.toNat default).Phis).getD i21.toNat default).From).length) ((Gn (((((a3.Blocks.getD i1.toNat default).Phis).getD i21.toNat default).From).getD i35.toNat 0) (⟨l36,i37,l38⟩:TFunc) i39 l40 a8 l41).bind λx51=>((Es (((((a3.Blocks.getD i1.toNat default).Phis).getD i21.toNat default).Args).getD i35.toNat 0) x49 x51.1 x51.2.1 x51.2.2.1 x51.2.2.2.1 a8 x51.2.2.2.2).bind λx52=>(some (.next ((w64 (i35+1)),x52.1.Params,x52.1.Ret,x52.1.Blocks,x52.2.1,x52.2.2.1,x52.2.2.2)))))))) else(some (.done (l36,i37,l38,i39,l40,l41))))
def D2(a3:TFunc)(a8:List Pe)(i1:Int):Te->Option qj:=
 λ((i21,l22,i23,l24,i25,l26,l27):Te)=>(bif (decide (i21<(((a3.Blocks.getD i1.toNat default).Phis).length:Int))) then(Aw (As i21 ((a3.Blocks.getD i1.toNat default).Phis).length) ((Ad (D1 a3 a8 i1 i21) ((0:Int),l22,i23,l24,i25,l26,l27)).bind (λ(l42,i43,l44,i45,l46,l47)=>(some (.next ((w64 (i21+1)),l42,i43,l44,i45,l46,l47)))))) else(some (.done (l22,i23,l24,i25,l26,l27))))
def D3(a3:TFunc)(a8:List Pe)(i1:Int)(i57:Int)(x71:List LG):Te->Option qj:=
 λ((i72,l73,i74,l75,i76,l77,l78):Te)=>(bif (decide (i72<(x71.length:Int))) then(Aw (As i72 x71.length) (Aw (As i72 ((((a3.Blocks.getD i1.toNat default).Ops).getD i57.toNat default).Args).length) ((Es (((((a3.Blocks.getD i1.toNat default).Ops).getD i57.toNat default).Args).getD i72.toNat 0) (x71.getD i72.toNat ((0:Int),(0:Int))) (⟨i1,i57⟩:L4) (⟨l73,i74,l75⟩:TFunc) i76 l77 a8 l78).bind λx87=>(some (.next ((w64 (i72+1)),x87.1.Params,x87.1.Ret,x87.1.Blocks,x87.2.1,x87.2.2.1,x87.2.2.2)))))) else(some (.done (l73,i74,l75,i76,l77,l78))))
def D4(a3:TFunc)(a8:List Pe)(i1:Int):Te->Option qj:=
 λ((i57,l58,i59,l60,i61,l62,l63):Te)=>(bif (decide (i57<(((a3.Blocks.getD i1.toNat default).Ops).length:Int))) then(Aw (As i57 ((a3.Blocks.getD i1.toNat default).Ops).length) ((Qv (((a3.Blocks.getD i1.toNat default).Ops).getD i57.toNat default)).bind λx71=>((Ad (D3 a3 a8 i1 i57 x71) ((0:Int),l58,i59,l60,i61,l62,l63)).bind (λ(l79,i80,l81,i82,l83,l84)=>(some (.next ((w64 (i57+1)),l79,i80,l81,i82,l83,l84))))))) else(some (.done (l58,i59,l60,i61,l62,l63))))
def D5(a3:TFunc)(a8:List Pe):Te->Option qj:=
 λ((i1,l2,i3,l4,i5,l6,l7):Te)=>(bif (decide (i1<(a3.Blocks.length:Int))) then(Option.bind (α:=(Ao×Int×List Ab×Int×Ao×List Be)) (Aw (As i1 a3.Blocks.length) ((Ad (D2 a3 a8 i1) ((0:Int),l2,i3,l4,i5,l6,l7)).bind (λx55=>(match x55 with|(l28,i29,l30,i31,l32,l33)=>((Ad (D4 a3 a8 i1) ((0:Int),l28,i29,l30,i31,l32,l33)).bind (λx90=>(match x90 with|(l64,i65,l66,i67,l68,l69)=>(bif (((a3.Blocks.getD i1.toNat default).End.Kind:Int)==0) then((D7 i65).bind λx92=>((Gn i1 (⟨l64,i65,l66⟩:TFunc) i67 l68 a8 l69).bind λx93=>((Es ((a3.Blocks.getD i1.toNat default).End.Arg) x92 x93.1 x93.2.1 x93.2.2.1 x93.2.2.2.1 a8 x93.2.2.2.2).bind λx94=>(some (x94.1.Params,x94.1.Ret,x94.1.Blocks,x94.2.1,x94.2.2.1,x94.2.2.2))))) else(bif (((a3.Blocks.getD i1.toNat default).End.Kind:Int)==2) then((D7 (1:Int)).bind λx95=>((Gn i1 (⟨l64,i65,l66⟩:TFunc) i67 l68 a8 l69).bind λx96=>((Es ((a3.Blocks.getD i1.toNat default).End.Arg) x95 x96.1 x96.2.1 x96.2.2.1 x96.2.2.2.1 a8 x96.2.2.2.2).bind λx97=>(some (x97.1.Params,x97.1.Ret,x97.1.Blocks,x97.2.1,x97.2.2.1,x97.2.2.2))))) else(some (l64,i65,l66,i67,l68,l69))))))))))) (λx98=>(match x98 with|(l14,i15,l16,i17,l18,l19)=>(some (.next ((w64 (i1+1)),l14,i15,l16,i17,l18,l19)))))) else(some (.done (l2,i3,l4,i5,l6,l7))))
def Q95(a3:TFunc)(i1:Int):=(a3.Blocks.getD i1.toNat default)
def vJ(a8:List Pe):=(Dw (λ(v_:Ax)=>((Xp v_):AV)) a8)
def H8(a3:TFunc)(a5:Int)(a7:Ao)(a8:List Pe)(aA:List Be):Option u9:=
 ((Ad (D5 a3 a8) ((0:Int),a3.Params,a3.Ret,a3.Blocks,a5,a7,aA)).bind (λ(l8,i9,l10,i11,l12,l13)=>(some ((⟨l8,i9,l10⟩:TFunc),i11,l12,l13))))
theorem Wc(h:H8 v0 v1 v2 v25 v12=some v29):sP 151 [Wu] [(Z1 v0.Params v0.Ret v0.Blocks v1 v2 9100005 v12),(M0 37006 198 v12.length),(9100005,.obj (.map false .i64 (Dw (λ(v_:Ax)=>((Xp v_):AV)) v25)))] (.tuple []) [(Z1 v29.1.Params v29.1.Ret v29.1.Blocks v29.2.1 v29.2.2.1 9100005 v29.2.2.2),(M0 37006 198 v29.2.2.2.length),(9100005,.obj (.map false .i64 (Dw (λ(v_:Ax)=>((Xp v_):AV)) v25)))]:=
 sG Tryz.func151 λΓ q=>Ae q LO Iv (tL q h LO Iv (λu (i1,l2,i3,l4,i5,l6,l7)=>(Cn u [(18,(Z6 i1))] (ZK l2 i3 l4 i5 l6 l7 l7.length))) (λu (l8,i9,l10,i11,l12,l13)=>aG Γ (.exit 0) (Nc [] Iv u [] (ZK l8 i9 l10 i11 l12 l13 l13.length))) (λ⟨i1,l2,i3,l4,i5,l6,l7⟩ y h=>Ae q [0,16,17,18,19] Iv (gC h (λh=>tB h λx98 y98 h=>gJ y98 (λ(l14,i15,l16,i17,l18,l19)=>aG Γ .normal (⟨[(0,Wu),(16,(VD v0.Blocks)),(17,(JQ v0.Blocks.length)),(18,(Z6 i1))],(Z8 l14 i15 l16 i17 l18 l19 l19.length (vJ v25)),[]⟩:St)) (λy h=>tV q eh Tg h λh=>Ae q ed Tg (tL q h ed Tg (λu (i21,l22,i23,l24,i25,l26,l27)=>(Cn u [(26,(Z6 i21))] (ZK l22 i23 l24 i25 l26 l27 l27.length))) (λu (l28,i29,l30,i31,l32,l33)=>aG Γ (.exit 2) (Nc eh Tg u [] (ZK l28 i29 l30 i31 l32 l33 l33.length))) (λ⟨i21,l22,i23,l24,i25,l26,l27⟩ y h=>Ae q [0,2,3,16,17,18,24,25,26,27] Tg (gC h (λh=>tV q [0,2,3,5,16,17,18,24,25,26] JJ h λh=>Ae q kO JJ (tL q h kO JJ (λu (i35,l36,i37,l38,i39,l40,l41)=>(Cn u [(33,(Z6 i35))] (ZK l36 i37 l38 i39 l40 l41 l41.length))) (λu (l42,i43,l44,i45,l46,l47)=>aG Γ (.exit 4) (Nc ed Tg u [] (ZK l42 i43 l44 i45 l46 l47 l47.length))) (λ⟨i35,l36,i37,l38,i39,l40,l41⟩ y h=>Ae q [0,2,3,5,16,17,18,24,25,26,31,32,33,34] JJ (gC h (λh=>tV q [0,2,3,5,6,7,16,17,18,24,25,26,31,32,33] JJ h λh=>tB h λx49 y49 h=>tC h λc50_ h=>tB h λx51 y51 h=>tB h λx52 y52 h=>tT q kO JJ [(zR x49),(Z72 x51.1 x51.2.1.Params x51.2.1.Ret x51.2.1.Blocks x51.2.2.1 x51.2.2.2.1 x51.2.2.2.2 x51.2.2.2.2.length (vJ v25)),(zM x52.1.Params x52.1.Ret x52.1.Blocks x52.2.1 x52.2.2.1 x52.2.2.2 x52.2.2.2.length (vJ v25))] (c4 (Mn y49) c50_ (Nz y51) (K5 y52)) (Ae q kO JJ (tN h))) λh=>tS h (gO (A3 (A8 ed Tg q))))) λx53 h=>(match x53,h with|⟨l42,i43,l44,i45,l46,l47⟩,h=>gA (Ae q ed Tg (tN h))))) λh=>tS h (gO (A3 (A8 eh Tg q))))) λx55 h=>(match x55,h with|⟨l28,i29,l30,i31,l32,l33⟩,h=>gA (Ae q ee Tg (tL q h ee Tg (λu (i57,l58,i59,l60,i61,l62,l63)=>(Cn u [(56,(Z6 i57))] (ZK l58 i59 l60 i61 l62 l63 l63.length))) (λu (l64,i65,l66,i67,l68,l69)=>aG Γ (.exit 6) (Nc eh Tg u [] (ZK l64 i65 l66 i67 l68 l69 l69.length))) (λ⟨i57,l58,i59,l60,i61,l62,l63⟩ y h=>Ae q [0,2,3,16,17,18,54,55,56,57] Tg (gC h (λh=>tV q [0,2,3,8,9,16,17,18,54,55,56] YS h λh=>tB h λx71 y71 h=>tT q kN YS [(lC x71)] (c1 (WB y71)) (tL q h kN YS (λu (i72,l73,i74,l75,i76,l77,l78)=>(Cn u [(64,(Z6 i72))] (ZK l73 i74 l75 i76 l77 l78 l78.length))) (λu (l79,i80,l81,i82,l83,l84)=>aG Γ (.exit 8) (Nc ee Tg u [] (ZK l79 i80 l81 i82 l83 l84 l84.length))) (λ⟨i72,l73,i74,l75,i76,l77,l78⟩ y h=>Ae q [0,2,3,8,9,16,17,18,54,55,56,62,63,64,65] YS (gC h (λh=>tV q [0,2,3,8,9,10,11,16,17,18,54,55,56,62,63,64] [3,9,11,30000,37006,9100005] h λh=>tC h λc86_ h=>tB h λx87 y87 h=>tT q kN YS [(zM x87.1.Params x87.1.Ret x87.1.Blocks x87.2.1 x87.2.2.1 x87.2.2.2 x87.2.2.2.length (vJ v25))] (c2 c86_ (K5 y87)) (Ae q kN YS (tN h))) λh=>tS h (gO (A3 (A8 ee Tg q))))) λx88 h=>(match x88,h with|⟨l79,i80,l81,i82,l83,l84⟩,h=>gA (Ae q ee Tg (tN h))))) λh=>tS h (gO (A3 (A8 eh Tg q))))) λx90 h=>(match x90,h with|⟨l64,i65,l66,i67,l68,l69⟩,h=>gA (tW q [0,2,3,16,17,18,84] Tg [0,2,3,16,17,18,84,85] Tg (gC h (λh=>tB h λx92 y92 h=>tB h λx93 y93 h=>tB h λx94 y94 h=>tT q LO Iv [(zR x92),(Z72 x93.1 x93.2.1.Params x93.2.1.Ret x93.2.1.Blocks x93.2.2.1 x93.2.2.2.1 x93.2.2.2.2 x93.2.2.2.2.length (vJ v25)),(zM x94.1.Params x94.1.Ret x94.1.Blocks x94.2.1 x94.2.2.1 x94.2.2.2 x94.2.2.2.length (vJ v25))] (c3 (Mn y92) (Nz y93) (K5 y94)) (tS h (gK (A3 Gt)))) λh=>Ae q [0,2,3,16,17,18,101] Tg (gC h (λh=>tB h λx95 y95 h=>tB h λx96 y96 h=>tB h λx97 y97 h=>tT q LO Iv [(zR x95),(Z72 x96.1 x96.2.1.Params x96.2.1.Ret x96.2.1.Blocks x96.2.2.1 x96.2.2.2.1 x96.2.2.2.2 x96.2.2.2.2.length (vJ v25)),(zM x97.1.Params x97.1.Ret x97.1.Blocks x97.2.1 x97.2.2.1 x97.2.2.2 x97.2.2.2.length (vJ v25))] (c3 (Mn y95) (Nz y96) (K5 y97)) (tS h (gK (A3 Gt)))) λh=>tS h (gK (A3 (A8 LO Iv q)))))))))))) (match x98,h with|⟨l14,i15,l16,i17,l18,l19⟩,h=>gA (Ae q LO Iv (tN h)))) λh=>tS h (gO (A3 (A8 [] Iv q))))) λx100 h=>(match x100,h with|⟨l8,i9,l10,i11,l12,l13⟩,h=>mn (λst' hl101=>tS h (gK (e:=.normal) (H5 ET hl101)))))
def Lt(aX:Be)(a3:TFunc)(a5:Int)(a7:Ao)(a8:List Pe)(aA:List Be):Option CS:=
 (some ((Ke a8 aX.v),a3,a5,a7,aA))
variable{v30:Be}
theorem Wf(h:Lt v30 v0 v1 v2 v25 v12=some v23):sP 152 [Wu,(.agg (Ol v30))] [(Z1 v0.Params v0.Ret v0.Blocks v1 v2 9100005 v12),(M0 37006 198 v12.length),(9100005,.obj (.map false .i64 (Dw (λ(v_:Ax)=>((Xp v_):AV)) v25)))] (.bool v23.1) [(Z1 v23.2.1.Params v23.2.1.Ret v23.2.1.Blocks v23.2.2.1 v23.2.2.2.1 9100005 v23.2.2.2.2),(M0 37006 198 v23.2.2.2.2.length),(9100005,.obj (.map false .i64 (Dw (λ(v_:Ax)=>((Xp v_):AV)) v25)))]:=
 sG Tryz.func152 λΓ q=>Ae q R0 Tg (gR q [6] Iv [(14,(.tuple [(vN v25 v30.v),(.bool (Ke v25 v30.v))]))] [] (c1 (show(AVle (.tuple [Mc (.agg [La,La,La,La]) (Dw (λ(v_:Ax)=>((Xp v_):AV)) v25) v30.v,.bool (Ke (Dw (λ(v_:Ax)=>((Xp v_):AV)) v25) v30.v)]) (.tuple [(vN v25 v30.v),(.bool (Ke v25 v30.v))])) from(dX (f:=(λ(v_:Ax)=>((Xp v_):AV))) (l:=v25) (AVle.refl _) rfl))) (Ae q [4] Iv (tS h (Bp ET))))
def Nr(aX:Be)(a3:TFunc)(a5:Int)(a7:Ao)(a8:List Pe)(aA:List Be):Option CS:=
 (some (((((Mc (default:Ax) a8 aX.v).shape.1:Int)==aX.shape.1)&&((((Mc (default:Ax) a8 aX.v).shape.2:Int)==aX.shape.2)&&true)),a3,a5,a7,aA))
theorem Zr(h:Nr v30 v0 v1 v2 v25 v12=some v23):sP 153 [Wu,(.agg (Ol v30))] [(Z1 v0.Params v0.Ret v0.Blocks v1 v2 9100005 v12),(M0 37006 198 v12.length),(9100005,.obj (.map false .i64 (Dw (λ(v_:Ax)=>((Xp v_):AV)) v25)))] (.bool v23.1) [(Z1 v23.2.1.Params v23.2.1.Ret v23.2.1.Blocks v23.2.2.1 v23.2.2.2.1 9100005 v23.2.2.2.2),(M0 37006 198 v23.2.2.2.2.length),(9100005,.obj (.map false .i64 (Dw (λ(v_:Ax)=>((Xp v_):AV)) v25)))]:=
 sG Tryz.func153 λΓ q=>Ae q R0 Tg (gR q [4] Iv [(11,(vN v25 v30.v))] [] (c1 (show(AVle (Mc (.agg [La,La,La,La]) (Dw (λ(v_:Ax)=>((Xp v_):AV)) v25) v30.v) (vN v25 v30.v)) from(ap (f:=(λ(v_:Ax)=>((Xp v_):AV))) (l:=v25) (AVle.refl _) rfl))) (tS h (Bp ET)))
def Ci(aL:Ao)(aC:Int):Int->Option (LR Int (Unit ⊕ Int)):=
 λ(i1:Int)=>(bif (decide (i1<(aL.length:Int))) then(Aw (As i1 aL.length) (bif (aC==(aL.getD i1.toNat 0)) then(some (.done (.inr i1))) else(some (.next (w64 (i1+1)))))) else(some (.done (.inl ()))))
def Xo(Γ:H4)(aL:Ao)(aC:Int)(r:Int):Exit->St->Prop:=fK Tryz.prog Γ Tryz.f163.results.toList [] (.int .i64 r) []
def Ej(aL:Ao)(aC:Int):Option Int:=
 ((Ad (Ci aL aC) (0:Int)).bind (λx3=>(match x3 with|(.inl _)=>(some (-1:Int))|(.inr r5)=>(some r5))))
theorem P3(h:Ej v2 v1=some v11):sP 163 [(Mw v2),(Z6 v1)] [] (.int .i64 v11) []:=
 sG Tryz.func163 λΓ q=>tW q Fe [] JM [] (tL q h JM [] (λu i1=>(Cn u [(8,(Z6 i1))] [])) (λu x_=>match x_ with|(.inl _)=>aG Γ (.exit 0) (⟨[],[],[]⟩:St)|(.inr r_)=>aR (Xo Γ v2 v1 r_)) (λi1 y h=>Ae q ir [] (gC h (λh=>Ae q iu [] (tV q iV [] h λh=>gC h (λh=>Ae q [4] [] (tS h (gO (Mk (H5 [] (Le.refl _ _)))))) λh=>Ae q JM [] (tN h))) λh=>tS h (gO (A3 (A8 [] [] q))))) λx3 h=>(match x3,h with | .inl _,h=>gA (Ae q [4] [] (tS h (Bp []))) | .inr r5,h=>gAr (λst' hk=>tS h (gK hk))))
def My(a9:Ao)(aK:Int):Option Bool:=
 (some (bif (decide ((0:Int)<=aK)) then(decide (aK<(a9.length:Int))) else false))
theorem BR(h:My v2 v1=some v3):sP 257 [(Mw v2),(Z6 v1)] [] (.bool v3) []:=
 sG Tryz.func257 λΓ q=>Ae q Fe [] (tU q [4] [] (Sh ((decide ((0:Int)<=v1))==true) (c1 (M7 (decide ((0:Int)<=v1))))) (tS h (Bp [])))
def Dj(a9:Ao)(aaF:Int)(aa7:Int):GU->Option (LR (Int×Ao) (Ao ⊕ (Bool×Ao))):=
 λ((i1,l2):GU)=>(bif (i1 !=aa7) then(Aw (As i1 l2.length) (bif ((l2.getD i1.toNat 0)!=0) then(Aw (As i1 l2.length) (some (.done (.inr (((l2.getD i1.toNat 0)!=(w64 (aaF+1))),l2))))) else(Aw (As i1 a9.length) ((My a9 (a9.getD i1.toNat 0)).bind λx7=>(bif (!x7) then(some (.done (.inr (false,l2)))) else(Aw (As i1 l2.length) (Aw (As i1 a9.length) (some (.next ((a9.getD i1.toNat 0),(l2.set i1.toNat (w64 (aaF+1))))))))))))) else(some (.done (.inl l2))))
def bx(Γ:H4)(a9:Ao)(aaS:Ao)(aaF:Int)(aa7:Int)(r:qh):Exit->St->Prop:=fK Tryz.prog Γ Tryz.f256.results.toList [(Z4 34001 aaS)] (.bool r.1) [(Z4 34001 r.2)]
def Vs(a9:Ao)(aaS:Ao)(aaF:Int)(aa7:Int):Option qh:=
 ((Ad (Dj a9 aaF aa7) (aaF,aaS)).bind (λx10=>(match x10 with|(.inl l3)=>(some (true,l3))|(.inr r12)=>(some r12))))
variable{v31:qh}
theorem aw(h:Vs v2 v17 v1 v11=some v31):sP 256 [(Mw v2),(.vsl 34001 v17.length),(Z6 v1),(Z6 v11)] [(Z4 34001 v17)] (.bool v31.1) [(Z4 34001 v31.2)]:=
 sG Tryz.func256 λΓ q=>tW q [0,1,2,3] [34001] [0,1,2,3,9] [34001] (Ae q bg [34001] (tL q h bg [34001] (λu (i1,l2)=>(Cn u [(1,(.vsl 34001 l2.length)),(10,(Z6 i1))] [(Z4 34001 l2)])) (λu x_=>match x_ with|(.inl l3)=>aG Γ (.exit 0) (⟨[],[(Z4 34001 l3)],[]⟩:St)|(.inr r_)=>aR (bx Γ v2 v17 v1 v11 r_)) (λ⟨i1,l2⟩ y h=>Ae q [0,1,3,9,10,16] [34001] (gC h (λh=>tC h λc4_ h=>tU q [0,1,3,9,10,25] [34001] (c2 c4_ (Eq.refl l2.length)) (gC h (λh=>tC h λc5_ h=>tU q [8] [34001] (c2 c5_ (Eq.refl l2.length)) (tS h (gO (Mk (H5 ij (Le.refl _ _)))))) λh=>tC h λc6_ h=>tB h λx7 y7 h=>tT q [0,1,3,9,10,38] [34001] [(Z7 x7)] (c2 c6_ (BR y7)) (gC h (λh=>Ae q [8] [34001] (tS h (gO (Mk (H5 ij (Le.refl _ _)))))) λh=>tC h λc8_ h=>tU q bg [34001] (c2 c8_ (Eq.refl l2.length)) (M1 (Le.trans (Vf 34001 (show ∀ k_,k_<l2.length->AVleL ((λi_=>AV.eraseAll (λn_=>B3 n_ [34001]) ((Fb (λi=>Am (l2.getD i 0)) i1.toNat 0 [(.int .i64 (w64 (v1+1)))]) i_)) k_) ((λi=>Am ((l2.set i1.toNat (w64 (v1+1))).getD i 0)) k_) from(Bj (D0 ..).symm (λk_ hk_=>(Bl (AV.eraseAll (λn_=>B3 n_ [34001])) ((Hd (λ_ _=>rfl) (Jx c8_) rfl) k_ hk_)).trans rfl)))) (Vg (λ(k_:Nat) u=>(Cn u [(1,(.vsl 34001 k_))] [(34001,.arr 1 3 k_ (λi=>Am ((l2.set i1.toNat (w64 (v1+1))).getD i 0)))])) (show l2.length=(l2.set i1.toNat (w64 (v1+1))).length from(D0 ..).symm))) (tV q bg [34001] h λh=>tN h))))) λh=>tS h (gO (A3 (A8 [] [34001] q))))) λx10 h=>(match x10,h with | .inl l3,h=>gA (Ae q [8] [34001] (tS h (Bp ij))) | .inr r12,h=>gAr (λst' hk=>tS h (gK hk)))))
def Gv(a9:Ao)(x1:Int):GU->Option (LR (Int×Ao) (Unit ⊕ Bool)):=
 λ((i3,l4):GU)=>(bif (decide (i3<(a9.length:Int))) then(Aw (As i3 a9.length) ((bif (((a9.getD i3.toNat 0)!=-2)==true) then Vs a9 l4 i3 x1 else some (false,[])).bind λx6=>(Aw ((((a9.getD i3.toNat 0)!=-2)==true)=true->(l4.length=x6.2.length)) (bif (bif ((a9.getD i3.toNat 0)!=-2) then(!x6.1) else false) then(some (.done (.inr false))) else(some (.next ((w64 (i3+1)),(bif (((a9.getD i3.toNat 0)!=-2)==true) then x6.2 else l4)))))))) else(some (.done (.inl ()))))
def ZB(Γ:H4)(a9:Ao)(r:Bool):Exit->St->Prop:=fK Tryz.prog Γ Tryz.f247.results.toList [] (.bool r) []
def rN(a9:Ao)(i3:Int):=(((a9.getD i3.toNat 0)!=-2)==true)
def Tv(a9:Ao):Option Bool:=
 ((Ej a9 (-1:Int)).bind λx1=>(bif (decide (x1<0)) then(some false) else(Aw (0<=(a9.length:Int)/\(a9.length:Int)<=(a9.length:Int)/\(a9.length:Int)<=(room:Int)) ((Ad (Gv a9 x1) ((0:Int),(List.replicate (a9.length:Int).toNat (0:Int)))).bind (λx8=>(match x8 with|(.inl _)=>(some true)|(.inr r10)=>(some r10)))))))
theorem VW(h:Tv v2=some v3):sP 247 [(Mw v2)] [] (.bool v3) []:=
 sG Tryz.func247 λΓ q=>Ae q [0] [] (tB h λx1 y1 h=>tT q R0 [] [(JP x1)] (c1 (P3 y1)) (Ae q [0,3,9] [] (gC h (λh=>Ae q [2] [] (tS h (Bp []))) λh=>tV q Tn [12] h λh=>by exact M1 (Le.trans (Vf 12 (show ∀ k_,k_<((v2.length:Int).toNat)->AVleL ((λi_=>AV.eraseAll (λn_=>B3 n_ [12]) ((λ_=>[La]) i_)) k_) ((λi=>Am ((List.replicate (v2.length:Int).toNat (0:Int)).getD i 0)) k_) from(λk hk=>Rb (e:=Am) (d:=(0:Int)) (.cons (AVle.refl _) .nil) _ k (Ri hk)))) (Vg (λ(k_:Nat) u=>(Cn u [(4,(.vsl 12 k_))] [(12,.arr 1 3 k_ (λi=>Am ((List.replicate (v2.length:Int).toNat (0:Int)).getD i 0)))])) (show(v2.length:Int).toNat=(List.replicate (v2.length:Int).toNat (0:Int)).length from(S2 ..).symm))) (Ae q ic [12] (tL q h ic [12] (λu (i3,l4)=>(Cn u [(4,(.vsl 12 l4.length)),(15,(Z6 i3))] [(Z4 12 l4)])) (λu x_=>match x_ with|(.inl _)=>aG Γ (.exit 0) (⟨[],[],[]⟩:St)|(.inr r_)=>aR (ZB Γ v2 r_)) (λ⟨i3,l4⟩ y h=>Ae q [0,3,4,14,15,16] [12] (gC h (λh=>Ae q [0,3,4,5,14,15] [12] (tC h λc5_ h=>tB h λx6 y6 h=>tC h λc7_ h=>tT q [0,3,4,14,15,30] [12] [⟨[(12,34001)],[],(.bool x6.1),[(Z4 34001 x6.2)],[],[]⟩] (ci c5_ (QH (rN v2 i3) (c3 (λ(hg:(rN v2 i3)=true)=>(aw (Ba hg y6))) (gI (rN v2 i3)) (M7 ((v2.getD i3.toNat 0)!=-2))))) (M1 (Le.trans (Vf 12 (show ∀ k_,k_<(bif (rN v2 i3) then x6.2.length else l4.length)->AVleL ((λi_=>AV.eraseAll (λn_=>B3 n_ [12]) ((λi=>bif (rN v2 i3) then(λi=>Am (x6.2.getD i 0)) i else(λi=>Am (l4.getD i 0)) i) i_)) k_) ((λi=>Am ((bif (rN v2 i3) then x6.2 else l4).getD i 0)) k_) from(Bj jR (λk_ hk_=>(Bl (AV.eraseAll (λn_=>B3 n_ [12])) ((λ_ _=>s7) k_ hk_)).trans rfl)))) (Le.trans (Vg (λ(k_:Nat) u=>(Cn u [] [(12,.arr 1 3 k_ (λi=>Am ((bif (rN v2 i3) then x6.2 else l4).getD i 0)))])) (show(bif (rN v2 i3) then x6.2.length else l4.length)=(bif (rN v2 i3) then x6.2 else l4).length from jR)) (Vg (λ(k_:Nat) u=>(Cn u [(4,(.vsl 12 k_))] [])) (show l4.length=(bif (rN v2 i3) then x6.2 else l4).length from(s8 c7_))))) (gC h (λh=>Ae q [2] [] (tS h (gO (Mk (H5 [] (Le.refl _ _)))))) λh=>Ae q ic [12] (tN h))))) λh=>tS h (gO (A3 (A8 [] [] q))))) λx8 h=>(match x8,h with | .inl _,h=>gA (Ae q [2] [] (tS h (Bp []))) | .inr r10,h=>gAr (λst' hk=>tS h (gK hk))))))))
def Nt(a9:Ao)(aK:Int):Option Bool:=
 ((My a9 aK).bind λx1=>(Aw ((x1==true)=true->(As aK a9.length)) (some (bif x1 then((a9.getD aK.toNat 0)!=-2) else false))))
theorem Y5(h:Nt v2 v1=some v3):sP 248 [(Mw v2),(Z6 v1)] [] (.bool v3) []:=
 sG Tryz.func248 λΓ q=>Ae q Fe [] (tB h λx1 y1 h=>tC h λc2_ h=>tT q [4] [] [(Z7 x1)] (ci (BR y1) (J7 (x1==true) (ci c2_ (J7 (x1==true) (c1 (M7 x1)))))) (tS h (Bp [])))
def Vr(a9:Ao)(aN:Int)(aP:Int):Option Bool:=
 ((Tv a9).bind λx1=>((bif (x1==true) then Nt a9 aN else some false).bind λx2=>((bif ((bif x1 then x2 else false)==true) then Nt a9 aP else some false).bind λx3=>(some (bif (bif x1 then x2 else false) then x3 else false)))))
theorem au(h:Vr v2 v1 v11=some v3):sP 211 [(Mw v2),(Z6 v1),(Z6 v11)] [] (.bool v3) []:=
 sG Tryz.func211 λΓ q=>Ae q UJ [] (tB h λx1 y1 h=>tB h λx2 y2 h=>tB h λx3 y3 h=>tT q [6] [] [(Z7 x1),(Z7 x2),(Z7 x3)] (ci (VW y1) (J7 (x1==true) (PY (λ(hg:(x1==true)=true)=>(Y5 (Ba hg y2))) (M7 x1) (J7 ((bif x1 then x2 else false)==true) (c2 (λ(hg:((bif x1 then x2 else false)==true)=true)=>(Y5 (Ba hg y3))) (M7 (bif x1 then x2 else false))))))) (tS h (Bp [])))
def X3(a9:Ao)(aN:Int)(aP:Int):Option Bool:=
 ((Vr a9 aN aP).bind λx1=>((bif (x1==true) then R9 a9 aN aP else some (0:Int)).bind λx2=>(some (bif x1 then(x2==aN) else false))))
theorem dg(h:X3 v2 v1 v11=some v3):sP 188 [(Mw v2),(Z6 v1),(Z6 v11)] [] (.bool v3) []:=
 sG Tryz.func188 λΓ q=>Ae q UJ [] (tB h λx1 y1 h=>tB h λx2 y2 h=>tT q [6] [] [(Z7 x1),(JP x2)] (ci (au y1) (Sh (x1==true) (ci (λ(hg:(x1==true)=true)=>(MS (Ba hg y2))) (J7 (x1==true) (c1 (M7 x1)))))) (tS h (Bp [])))
def Ia(aX:Be)(a3:TFunc)(a5:Int)(a7:Ao)(a8:List Pe)(aA:List Be):Option CS:=
 (bif (((Mc (default:Ax) a8 aX.v).place.block:Int)==aX.place.block) then(some ((decide (((Mc (default:Ax) a8 aX.v).place.at_:Int)<aX.place.at_)),a3,a5,a7,aA)) else((X3 a7 ((Mc (default:Ax) a8 aX.v).place.block) aX.place.block).bind λx1=>(some (x1,a3,a5,a7,aA))))
theorem We(h:Ia v30 v0 v1 v2 v25 v12=some v23):sP 154 [Wu,(.agg (Ol v30))] [(Z1 v0.Params v0.Ret v0.Blocks v1 v2 9100005 v12),(M0 37006 198 v12.length),(9100005,.obj (.map false .i64 (Dw (λ(v_:Ax)=>((Xp v_):AV)) v25)))] (.bool v23.1) [(Z1 v23.2.1.Params v23.2.1.Ret v23.2.1.Blocks v23.2.2.1 v23.2.2.2.1 9100005 v23.2.2.2.2),(M0 37006 198 v23.2.2.2.2.length),(9100005,.obj (.map false .i64 (Dw (λ(v_:Ax)=>((Xp v_):AV)) v25)))]:=
 sG Tryz.func154 λΓ q=>Ae q R0 Tg (gR q [0,3,5] JJ [(12,(vN v25 v30.v))] [] (c1 (show(AVle (Mc (.agg [La,La,La,La]) (Dw (λ(v_:Ax)=>((Xp v_):AV)) v25) v30.v) (vN v25 v30.v)) from(ap (f:=(λ(v_:Ax)=>((Xp v_):AV))) (l:=v25) (AVle.refl _) rfl))) (Ae q [0,3,5,19] JJ (gC h (λh=>Ae q [4] Iv (tS h (Bp ET))) λh=>tB h λx1 y1 h=>tT q [4] Iv [(Z7 x1)] (c1 (dg y1)) (tS h (Bp ET)))))
abbrev xj:=(LR (Int×Ao×Int×List Ab×Int×Ao×List Be) ((Ao×Int×List Ab×Int×Ao×List Be) ⊕ (Ao×Int×List Ab×Int×Ao×List Be)))
def Fm(a8:List Pe)(x8:u9):Te->Option xj:=
 λ((i9,l10,i11,l12,i13,l14,l15):Te)=>(bif (decide (i9<(x8.2.2.2.length:Int))) then(Aw (As i9 x8.2.2.2.length) ((Lt (x8.2.2.2.getD i9.toNat default) (⟨l10,i11,l12⟩:TFunc) i13 l14 a8 l15).bind λx29=>(bif (!x29.1) then(some (.done (.inr (x29.2.1.Params,x29.2.1.Ret,x29.2.1.Blocks,x29.2.2.1,x29.2.2.2.1,x29.2.2.2.2)))) else(some (.next ((w64 (i9+1)),x29.2.1.Params,x29.2.1.Ret,x29.2.1.Blocks,x29.2.2.1,x29.2.2.2.1,x29.2.2.2.2)))))) else(some (.done (.inl (l10,i11,l12,i13,l14,l15)))))
def Fn(a8:List Pe)(l21:List Be):Te->Option xj:=
 λ((i32,l33,i34,l35,i36,l37,l38):Te)=>(bif (decide (i32<(l21.length:Int))) then(Aw (As i32 l21.length) ((Nr (l21.getD i32.toNat default) (⟨l33,i34,l35⟩:TFunc) i36 l37 a8 l38).bind λx52=>(bif (!x52.1) then(some (.done (.inr (x52.2.1.Params,x52.2.1.Ret,x52.2.1.Blocks,x52.2.2.1,x52.2.2.2.1,x52.2.2.2.2)))) else(some (.next ((w64 (i32+1)),x52.2.1.Params,x52.2.1.Ret,x52.2.1.Blocks,x52.2.2.1,x52.2.2.2.1,x52.2.2.2.2)))))) else(some (.done (.inl (l33,i34,l35,i36,l37,l38)))))
def Fo(a8:List Pe)(l44:List Be):Te->Option xj:=
 λ((i55,l56,i57,l58,i59,l60,l61):Te)=>(bif (decide (i55<(l44.length:Int))) then(Aw (As i55 l44.length) ((Ia (l44.getD i55.toNat default) (⟨l56,i57,l58⟩:TFunc) i59 l60 a8 l61).bind λx75=>(bif (!x75.1) then(some (.done (.inr (x75.2.1.Params,x75.2.1.Ret,x75.2.1.Blocks,x75.2.2.1,x75.2.2.2.1,x75.2.2.2.2)))) else(some (.next ((w64 (i55+1)),x75.2.1.Params,x75.2.1.Ret,x75.2.1.Blocks,x75.2.2.1,x75.2.2.2.1,x75.2.2.2.2)))))) else(some (.done (.inl (l56,i57,l58,i59,l60,l61)))))
def P0 :Te->Option (LR (Int×Ao×Int×List Ab×Int×Ao×List Be) (Int×TFunc×Int×Ao×List Be)):=
 λ(s_:Te)=>match s_ with|(i1,l2,i3,l4,i5,l6,l7)=>(some (.done (i1,(⟨l2,i3,l4⟩:TFunc),i5,l6,l7)))
def AJ(Γ:H4)(a3:TFunc)(a5:Int)(a7:Ao)(a8:List Pe)(aA:List Be)(r:mZ):Exit->St->Prop:=fK Tryz.prog Γ Tryz.f91.results.toList [(Z1 a3.Params a3.Ret a3.Blocks a5 a7 9100005 aA),(M0 37006 198 aA.length),(9100005,.obj (.map false .i64 (Dw (λ(v_:Ax)=>((Xp v_):AV)) a8)))] (Z6 r.1) [(Z1 r.2.1.Params r.2.1.Ret r.2.1.Blocks r.2.2.1 r.2.2.2.1 9100005 r.2.2.2.2),(M0 37006 198 r.2.2.2.2.length),(9100005,.obj (.map false .i64 (Dw (λ(v_:Ax)=>((Xp v_):AV)) a8)))]
def zG(a8:List Pe):=(Dw (λ(v_:Ax)=>((Xp v_):AV)) a8)
def Km(a3:TFunc)(a5:Int)(a7:Ao)(a8:List Pe)(aA:List Be):Option mZ:=
 ((Tc (S:=Te) (X:=mZ) ((H8 a3 a5 a7 a8 aA).bind λx8=>((Ad (Fm a8 x8) ((0:Int),x8.1.Params,x8.1.Ret,x8.1.Blocks,x8.2.1,x8.2.2.1,x8.2.2.2)).bind (λx30=>(match x30 with|(.inl (l16,i17,l18,i19,l20,l21))=>((Ad (Fn a8 l21) ((0:Int),l16,i17,l18,i19,l20,l21)).bind (λx53=>(match x53 with|(.inl (l39,i40,l41,i42,l43,l44))=>((Ad (Fo a8 l44) ((0:Int),l39,i40,l41,i42,l43,l44)).bind (λx76=>(match x76 with|(.inl (l62,i63,l64,i65,l66,l67))=>(some (.done ((0:Int),(⟨l62,i63,l64⟩:TFunc),i65,l66,l67)))|(.inr (l68,i69,l70,i71,l72,l73))=>(some (.next ((7:Int),l68,i69,l70,i71,l72,l73))))))|(.inr (l45,i46,l47,i48,l49,l50))=>(some (.next ((6:Int),l45,i46,l47,i48,l49,l50))))))|(.inr (l22,i23,l24,i25,l26,l27))=>(some (.next ((7:Int),l22,i23,l24,i25,l26,l27))))))) P0).bind (λx81=>(some x81)))
theorem Zt(h:Km v0 v1 v2 v25 v12=some v13):sP 91 [Wu] [(Z1 v0.Params v0.Ret v0.Blocks v1 v2 9100005 v12),(M0 37006 198 v12.length),(9100005,.obj (.map false .i64 (Dw (λ(v_:Ax)=>((Xp v_):AV)) v25)))] (Z6 v13.1) [(Z1 v13.2.1.Params v13.2.1.Ret v13.2.1.Blocks v13.2.2.1 v13.2.2.2.1 9100005 v13.2.2.2.2),(M0 37006 198 v13.2.2.2.2.length),(9100005,.obj (.map false .i64 (Dw (λ(v_:Ax)=>((Xp v_):AV)) v25)))]:=
 sG Tryz.func91 λΓ q=>Ae q [0] Iv (tB h λx81 y81 h=>gS y81 (λ(s_:Te)=>match s_ with|(i1,l2,i3,l4,i5,l6,l7)=>0) (λ(s_:Te)=>match s_ with|(i1,l2,i3,l4,i5,l6,l7)=>(⟨[(4,(Z6 i1))],(Z8 l2 i3 l4 i5 l6 l7 l7.length (zG v25)),[]⟩:St)) (λr_=>aR (AJ Γ v0 v1 v2 v25 v12 r_)) (λy h=>tB h λx8 y8 h=>tT q [0] Iv [(zM x8.1.Params x8.1.Ret x8.1.Blocks x8.2.1 x8.2.2.1 x8.2.2.2 x8.2.2.2.length (zG v25))] (c1 (Wc y8)) (tW q R0 Tg R0 Tg (Ae q FU Iv (gU 3 (Ae q bm Iv (bw true (tU q jB Wp (c1 (show(As (0:Int) 3) from(by decide))) (tW q ig Wp JK Wp (tL q h JK Wp (λu (i9,l10,i11,l12,i13,l14,l15)=>(Cn u [(32,(Z6 i9))] (ZK l10 i11 l12 i13 l14 l15 l15.length))) (λu x_=>match x_ with|(.inl (l16,i17,l18,i19,l20,l21))=>aG Γ (.exit 2) (Nc FU Iv u [] (ZK l16 i17 l18 i19 l20 l21 l21.length))|(.inr (l22,i23,l24,i25,l26,l27))=>aG Γ (.goto 0) (Nc [4] Iv u [] (ZK l22 i23 l24 i25 l26 l27 l27.length))) (λ⟨i9,l10,i11,l12,i13,l14,l15⟩ y h=>Ae q rI Wp (gC h (λh=>tV q iK iM h λh=>tB h λx29 y29 h=>tT q rJ Wp [(Z94 x29.1 x29.2.1.Params x29.2.1.Ret x29.2.1.Blocks x29.2.2.1 x29.2.2.2.1 x29.2.2.2.2 x29.2.2.2.2.length (zG v25))] (c1 (Wf y29)) (gC h (λh=>tS h (gO (A3 (A8 [4] Iv q)))) λh=>Ae q JK Wp (tN h))) λh=>tS h (gO (A3 (A8 FU Iv q))))) λx30 h=>(match x30,h with | .inl ⟨l16,i17,l18,i19,l20,l21⟩,h=>gA (tW q FU Iv bm Iv (bw true (tU q jB Wp (c1 (show(As (1:Int) 3) from(by decide))) (tW q ig Wp JK Wp (tL q h JK Wp (λu (i32,l33,i34,l35,i36,l37,l38)=>(Cn u [(32,(Z6 i32))] (ZK l33 i34 l35 i36 l37 l38 l38.length))) (λu x_=>match x_ with|(.inl (l39,i40,l41,i42,l43,l44))=>aG Γ (.exit 2) (Nc FU Iv u [] (ZK l39 i40 l41 i42 l43 l44 l44.length))|(.inr (l45,i46,l47,i48,l49,l50))=>aG Γ (.goto 0) (Nc [4] Iv u [] (ZK l45 i46 l47 i48 l49 l50 l50.length))) (λ⟨i32,l33,i34,l35,i36,l37,l38⟩ y h=>Ae q rI Wp (gC h (λh=>tV q iK iM h λh=>tB h λx52 y52 h=>tT q rJ Wp [(Z94 x52.1 x52.2.1.Params x52.2.1.Ret x52.2.1.Blocks x52.2.2.1 x52.2.2.2.1 x52.2.2.2.2 x52.2.2.2.2.length (zG v25))] (c1 (Zr y52)) (gC h (λh=>tS h (gO (A3 (A8 [4] Iv q)))) λh=>Ae q JK Wp (tN h))) λh=>tS h (gO (A3 (A8 FU Iv q))))) λx53 h=>(match x53,h with | .inl ⟨l39,i40,l41,i42,l43,l44⟩,h=>gA (tW q FU Iv bm Iv (bw true (tU q jB Wp (c1 (show(As (2:Int) 3) from(by decide))) (tW q ig Wp JK Wp (tL q h JK Wp (λu (i55,l56,i57,l58,i59,l60,l61)=>(Cn u [(32,(Z6 i55))] (ZK l56 i57 l58 i59 l60 l61 l61.length))) (λu x_=>match x_ with|(.inl (l62,i63,l64,i65,l66,l67))=>aG Γ (.exit 2) (Nc FU Iv u [] (ZK l62 i63 l64 i65 l66 l67 l67.length))|(.inr (l68,i69,l70,i71,l72,l73))=>aG Γ (.goto 0) (Nc [4] Iv u [] (ZK l68 i69 l70 i71 l72 l73 l73.length))) (λ⟨i55,l56,i57,l58,i59,l60,l61⟩ y h=>Ae q rI Wp (gC h (λh=>tV q iK iM h λh=>tB h λx75 y75 h=>tT q rJ Wp [(Z94 x75.1 x75.2.1.Params x75.2.1.Ret x75.2.1.Blocks x75.2.2.1 x75.2.2.2.1 x75.2.2.2.2 x75.2.2.2.2.length (zG v25))] (c1 (We y75)) (gC h (λh=>tS h (gO (A3 (A8 [4] Iv q)))) λh=>Ae q JK Wp (tN h))) λh=>tS h (gO (A3 (A8 FU Iv q))))) λx76 h=>(match x76,h with | .inl ⟨l62,i63,l64,i65,l66,l67⟩,h=>gA (tW q FU Iv bm Iv (bw false (Ae q [2] Iv (tS h (mo (Mk (H5 ET (Le.refl _ _)))))))) | .inr ⟨l68,i69,l70,i71,l72,l73⟩,h=>mn (λst' hl78=>tS h (ov (Le.trans hl78 Gt))))))))) | .inr ⟨l45,i46,l47,i48,l49,l50⟩,h=>mn (λst' hl79=>tS h (ov (Le.trans hl79 Gt))))))))) | .inr ⟨l22,i23,l24,i25,l26,l27⟩,h=>mn (λst' hl80=>tS h (ov (Le.trans hl80 Gt))))))))))))) (λ⟨i1,l2,i3,l4,i5,l6,l7⟩ y h=>Ae q [2] Iv (tS h (mo (Mk (H5 ET (Le.refl _ _)))))) (gAr (λst' hk=>tS h (gK hk))))
def m6:=(λ(v_:Ax)=>((Xp v_):AV))
def yF(x1:mZ):List OM:=(Z3 x1.2.1.Params x1.2.1.Ret x1.2.1.Blocks x1.2.2.1 x1.2.2.2.1 x1.2.2.2.2 x1.2.2.2.2.length)
def yG(x2:mZ):List OM:=(Z3 x2.2.1.Params x2.2.1.Ret x2.2.1.Blocks x2.2.2.1 x2.2.2.2.1 x2.2.2.2.2 x2.2.2.2.2.length)
def yH(x3:mZ):List OM:=(Z3 x3.2.1.Params x3.2.1.Ret x3.2.1.Blocks x3.2.2.1 x3.2.2.2.1 x3.2.2.2.2 x3.2.2.2.2.length)
def J0(a3:TFunc)(a5:Int)(a7:Ao)(aA:List Be):Option u7:=
 ((Kl a3 a5 a7 aA).bind λx1=>(bif (x1.1 !=0) then(some (x1.1,x1.2.1,x1.2.2.1,x1.2.2.2.1,x1.2.2.2.2,([]:List Pe))) else((I5 x1.2.1 x1.2.2.1 x1.2.2.2.1 x1.2.2.2.2).bind λx2=>(bif (x2.1 !=0) then(some (x2.1,x2.2.1,x2.2.2.1,x2.2.2.2.1,x2.2.2.2.2,([]:List Pe))) else((Jz x2.2.1 x2.2.2.1 x2.2.2.2.1 x2.2.2.2.2).bind λx3=>(bif (x3.1 !=0) then(some (x3.1,x3.2.1,x3.2.2.1,x3.2.2.2.1,x3.2.2.2.2,([]:List Pe))) else((H9 x3.2.1 x3.2.2.1 x3.2.2.2.1 x3.2.2.2.2).bind λx4=>(bif (x4.1 !=0) then(some (x4.1,x4.2.1,x4.2.2.1,x4.2.2.2.1,x4.2.2.2.2.1,x4.2.2.2.2.2)) else((Km x4.2.1 x4.2.2.1 x4.2.2.2.1 x4.2.2.2.2.2 x4.2.2.2.2.1).bind λx5=>(bif (x5.1 !=0) then(some (x5.1,x5.2.1,x5.2.2.1,x5.2.2.2.1,x5.2.2.2.2,x4.2.2.2.2.2)) else(some ((0:Int),x5.2.1,x5.2.2.1,x5.2.2.2.1,x5.2.2.2.2,x4.2.2.2.2.2))))))))))))
theorem X9(h:J0 v0 v1 v2 v12=some v27):sP 50 [Wu] (Z3 v0.Params v0.Ret v0.Blocks v1 v2 v12 v12.length) (Z6 v27.1) [(Z1 v27.2.1.Params v27.2.1.Ret v27.2.1.Blocks v27.2.2.1 v27.2.2.2.1 9200005 v27.2.2.2.2.1),(M0 37006 198 v27.2.2.2.2.1.length),(9200005,.obj (.map false .i64 (Dw (λ(v_:Ax)=>((Xp v_):AV)) v27.2.2.2.2.2)))]:=
 sG Tryz.func50 λΓ q=>tW q [0] Iy [3] TK (Ae q LW Iy (gU 5 (Ae q LU Iy (bw true (tU q UG Iy (c1 (show(As (0:Int) 5) from(by decide))) (tB h λx1 y1 h=>tT q UH Iy [(sj 37006 x1.1 (yF x1))] (c1 (Zs y1)) (Ae q TP Iy (gC h (λh=>Ae q [2] Iy (O6 (⟨[(2,(Z6 x1.1))],(yF x1),[]⟩:St) (tS h (gK (e:=.ret) (H5 rE (Le.trans (X2 (r:=30000) (j:=5) (nm:=9300005) .i64 rfl rfl (nl rfl) rfl) (A8 (st':=⟨[(2,(Z6 x1.1))],[(Z1 x1.2.1.Params x1.2.1.Ret x1.2.1.Blocks x1.2.2.1 x1.2.2.2.1 9300005 x1.2.2.2.2),(M0 37006 198 x1.2.2.2.2.length),(9300005,.obj (.map false .i64 (Dw m6 ([]:List Pe))))],[]⟩) [2] iQ q))))))) λh=>tW q LW Iy LU Iy (bw true (tU q UG Iy (c1 (show(As (1:Int) 5) from(by decide))) (tB h λx2 y2 h=>tT q UH Iy [(sj 37006 x2.1 (yG x2))] (c1 (W5 y2)) (Ae q TP Iy (gC h (λh=>Ae q [2] Iy (O6 (⟨[(2,(Z6 x2.1))],(yG x2),[]⟩:St) (tS h (gK (e:=.ret) (H5 rE (Le.trans (X2 (r:=30000) (j:=5) (nm:=9300005) .i64 rfl rfl (nl rfl) rfl) (A8 (st':=⟨[(2,(Z6 x2.1))],[(Z1 x2.2.1.Params x2.2.1.Ret x2.2.1.Blocks x2.2.2.1 x2.2.2.2.1 9300005 x2.2.2.2.2),(M0 37006 198 x2.2.2.2.2.length),(9300005,.obj (.map false .i64 (Dw m6 ([]:List Pe))))],[]⟩) [2] iQ q))))))) λh=>tW q LW Iy LU Iy (bw true (tU q UG Iy (c1 (show(As (2:Int) 5) from(by decide))) (tB h λx3 y3 h=>tT q UH Iy [(sj 37006 x3.1 (yH x3))] (c1 (X8 y3)) (Ae q TP Iy (gC h (λh=>Ae q [2] Iy (O6 (⟨[(2,(Z6 x3.1))],(yH x3),[]⟩:St) (tS h (gK (e:=.ret) (H5 rE (Le.trans (X2 (r:=30000) (j:=5) (nm:=9300005) .i64 rfl rfl (nl rfl) rfl) (A8 (st':=⟨[(2,(Z6 x3.1))],[(Z1 x3.2.1.Params x3.2.1.Ret x3.2.1.Blocks x3.2.2.1 x3.2.2.2.1 9300005 x3.2.2.2.2),(M0 37006 198 x3.2.2.2.2.length),(9300005,.obj (.map false .i64 (Dw m6 ([]:List Pe))))],[]⟩) [2] iQ q))))))) λh=>tW q LW Iy LU Iy (bw true (tU q UG Iy (c1 (show(As (3:Int) 5) from(by decide))) (tB h λx4 y4 h=>tT q UH Zg [⟨Zf,[(9200005,13000005)],(Z6 x4.1),[(Z1 x4.2.1.Params x4.2.1.Ret x4.2.1.Blocks x4.2.2.1 x4.2.2.2.1 9200005 x4.2.2.2.2.1),(M0 37006 198 x4.2.2.2.2.1.length),(9200005,.obj (.map false .i64 (Dw m6 x4.2.2.2.2.2)))],[],[]⟩] (c1 (Wd y4)) (Ae q TP Zg (gC h (λh=>Ae q [2] Zg (tS h (Bp rD))) λh=>tW q LW Zg LU Zg (bw true (tU q UG Zg (c1 (show(As (4:Int) 5) from(by decide))) (tB h λx5 y5 h=>tT q UH Zg [⟨[(30000,30000),(37006,37006),(13000005,9100005)],[],(Z6 x5.1),[(Z1 x5.2.1.Params x5.2.1.Ret x5.2.1.Blocks x5.2.2.1 x5.2.2.2.1 9100005 x5.2.2.2.2),(M0 37006 198 x5.2.2.2.2.length),(9100005,.obj (.map false .i64 (Dw m6 x4.2.2.2.2.2)))],[],[]⟩] (c1 (Zt y5)) (Ae q TP Zg (gC h (λh=>Ae q [2] Zg (tS h (Bp rD))) λh=>tW q LW Zg LU Zg (bw false (Ae q [2] Zg (tS h (Bp rD))))))))))))))))))))))))))))))))
open Go Go.RowKit
set_option maxRecDepth 100000
set_option maxHeartbeats 2000000
def yJ(a0:TFunc)(aa0:Int):AV:=(.agg [(Mw a0.Params),(Z6 a0.Ret),(VD a0.Blocks),(Z6 aa0),jK,.nilm,(AV.list 5 Ol default ([]:List Be) .exact)])
def yI(a0:TFunc)(aa0:Int):=(⟨[VF],[(5,.row 105 [(Mw a0.Params),(Z6 a0.Ret),(VD a0.Blocks),(Z6 aa0),jK,.nilm,(AV.list 5 Ol default ([]:List Be) .exact)])],[]⟩:St)
def vj(a0:TFunc)(aa0:Int):=(⟨[VF],[(5,.row 105 [(Mw a0.Params),(Z6 a0.Ret),(VD a0.Blocks),(Z6 aa0),jK,.nilm,(AV.list 5 Ol default ([]:List Be) (.own 50506))]),(50506,.tok 5 198 (([]:List Be).length))],[]⟩:St)
def Sj(a0:TFunc)(aa0:Int):Option Int:=
 (bif (bif (decide (aa0<0)) then true else(decide ((2:Int)<aa0))) then(some (1:Int)) else((J0 a0 aa0 ([]:Ao) ([]:List Be)).bind λx1=>(some x1.1)))
theorem RG(h:Sj v0 v1=some v11):sP 15 [(Yz v0),(Z6 v1)] [] (.int .i64 v11) []:=
 sG Tryz.func15 λΓ q=>Ae q Ng [2] (tU q [1,2,11] [2] (c2 (gI ((decide (v1<0))==false)) (I4 (decide (v1<0)))) (gC h (λh=>Ae q [4] [] (tS h (Bp []))) λh=>gR q [5] [5] [(14,(yJ v0 v1))] [] (c1 (show(AVle (.agg [(Mw v0.Params),(Z6 v0.Ret),(VD v0.Blocks),(Z6 v1),UT,.nilm,UT]) (yJ v0 v1)) from(AVle.agg (.cons (AVle.refl _) (.cons (AVle.refl _) (.cons (AVle.refl _) (.cons (AVle.refl _) (.cons Dv (.cons (AVle.refl _) (.cons Dv .nil)))))))))) (O6 (yI v0 v1) (M1 (show Le Γ _ (vj v0 v1) from Le.trans (A8 (st':=(yI v0 v1)) [5] [5] q) (Le.trans (MN (r:=5) (j:=6) (nm:=50506) (sz':=5) (λi=>Ol (([]:List Be).getD i default)) 198 rfl rfl (nl rfl) rfl (.inl ⟨rfl,rfl⟩) (λh_=>absurd h_ (by decide))) (A8 (st':=(vj v0 v1)) [5] [5,50506] q))) (M1 (show Le Γ _ (⟨[VF],[(5,.row 105 [(Mw v0.Params),(Z6 v0.Ret),(VD v0.Blocks),(Z6 v1),(AV.list 1 Am 0 ([]:Ao) .none),.nilm,(AV.list 5 Ol default ([]:List Be) (.own 50506))]),(50506,.tok 5 198 (([]:List Be).length))],[]⟩:St) from Le.trans (A8 (st':=(vj v0 v1)) [5] [5,50506] q) (Gu (.cons (AVle.refl _) .nil) (.row (.cons (AVle.refl _) (.cons (AVle.refl _) (.cons (AVle.refl _) (.cons (AVle.refl _) (.cons AVle.untag (.cons (AVle.refl _) (.cons (AVle.refl _) .nil))))))) (.same .nil)))) (tB h λx1 y1 h=>tT q [4] [] [⟨[(5,30000),(50506,37006)],[(9200005,10000505)],(Z6 x1.1),[(Z1 x1.2.1.Params x1.2.1.Ret x1.2.1.Blocks x1.2.2.1 x1.2.2.2.1 9200005 x1.2.2.2.2.1),(M0 37006 198 x1.2.2.2.2.1.length),(9200005,.obj (.map false .i64 (Dw (λ(v_:Ax)=>((Xp v_):AV)) x1.2.2.2.2.2)))],[],[]⟩] (c1 (X9 y1)) (tS h (Bp []))))))))
def S8(aaU:List Ab)(aaV:J8)(aK:Int):Option Unit:=
 (some ())
variable{v32:Unit}
theorem KU(h:S8 v10 v14 v1=some v32):sP 76 [(VD v10),(FY v14),(Z6 v1)] [] (.agg [(Z9 v10 v14 v1),(Z9 v10 v14 v1),(Z9 v10 v14 v1),(.clo 135 [] []),(.clo 135 [] []),(Z9 v10 v14 v1)]) []:=
 sG Tryz.func76 λΓ q=>gR q [3,4,5,6] [6] [(3,(.rpo [])),(4,(.rpo [])),(5,(.rpo []))] [] trivial (tW q Wo [6] [6,7,8] [6] (Ae q [6] [6] (tS h (Bp []))))
def Aa2(a1:List Ab)(aY:Int):=((((a1.getD aY.toNat default).End.Kind:Int)!=1)==false)
def fE(a1:List Ab)(aY:Int):=(bif (((a1.getD aY.toNat default).End.Kind:Int)!=1) then true else(decide ((0:Int)<(((a1.getD aY.toNat default).Phis).length:Int))))
abbrev bQ:=(Int×Int×Bool)
def Ge(aY:Int)(a1:List Ab)(aO:J8)(aZ:Int):Option bQ:=
 (Aw (As aY a1.length) (Aw (((bif (((a1.getD aY.toNat default).End.Kind:Int)!=1) then true else(decide ((0:Int)<(((a1.getD aY.toNat default).Phis).length:Int))))==false)=true->(As aY aO.length)) ((bif ((bif (((a1.getD aY.toNat default).End.Kind:Int)!=1) then true else(decide ((0:Int)<(((a1.getD aY.toNat default).Phis).length:Int))))==false) then Ei (aO.getD aY.toNat []) ([aZ]:Ao) else some false).bind λx3=>(bif (bif (bif (((a1.getD aY.toNat default).End.Kind:Int)!=1) then true else(decide ((0:Int)<(((a1.getD aY.toNat default).Phis).length:Int)))) then true else(!x3)) then(some ((-1:Int),(-1:Int),false)) else(Aw (As (0:Int) ((a1.getD aY.toNat default).End.To).length) (some (aY,(((a1.getD aY.toNat default).End.To).getD (0:Int).toNat (0:Int)),true)))))))
variable{v33:bQ}
theorem Me(h:Ge v1 v10 v14 v11=some v33):sP 133 [(Z6 v1),(.rpo [(VD v10)]),(.rpo [(FY v14)]),(.rpo [(Z6 v11)])] [] (.tuple [(Z6 v33.1),(Z6 v33.2.1),(.bool v33.2.2)]) []:=
 sG Tryz.func133 λΓ q=>Ae q [0,1,2,3] [] (tV q [0,2,3,8] [8] h λh=>tC h λc2_ h=>tB h λx3 y3 h=>gR q [0,8,32] [8] [(29,(mh v11))] [(Z7 x3)] (Sh (Aa2 v10 v1) (ci (I4 (((v10.getD v1.toNat default).End.Kind:Int)!=1)) (J7 ((fE v10 v1)==false) (ci c2_ (J7 ((fE v10 v1)==false) (ci (show(((fE v10 v1)==false)=true->(AVle (wZ v11) (mh v11))) from(λhg=>@(Az 1 Am (0:Int) ([v11]:Ao)))) (J7 ((fE v10 v1)==false) (c3 (λ(hg:((fE v10 v1)==false)=true)=>(Lw (Ba hg y3))) (gI ((fE v10 v1)==false)) (I4 (fE v10 v1)))))))))) (gC h (λh=>Ae q UI [] (tS h (Bp []))) λh=>tV q UI [] h λh=>tS h (Bp [])))
def rZ(x2:bQ)(x4:bQ):=(bif (!x2.2.2) then true else(!x4.2.2))
abbrev SX:=(THammock×Bool)
def Na(aK:Int)(aa1:Ao)(aaH:List Ab)(aaI:J8)(aaJ:Int)(aaK:List Ab)(aaL:J8)(aaM:Int):Option SX:=
 (Aw (As (0:Int) aa1.length) ((Ge (aa1.getD (0:Int).toNat (0:Int)) aaH aaI aaJ).bind λx2=>(Aw (As (1:Int) aa1.length) ((Ge (aa1.getD (1:Int).toNat (0:Int)) aaK aaL aaM).bind λx4=>(bif (bif (bif (bif (!x2.2.2) then true else(!x4.2.2)) then true else(x2.2.1 !=x4.2.1)) then true else(x2.2.1==aK)) then(some ((⟨(0:Int),(0:Int),(0:Int),(0:Int)⟩:THammock),false)) else(some ((⟨aK,x2.1,x4.1,x2.2.1⟩:THammock),true)))))))
variable{v34:List Ab}{v35:SX}
theorem GM(h:Na v1 v2 v10 v14 v11 v34 v15 v20=some v35):sP 77 [(Z6 v1),(Mw v2),(.agg [(Z9 v10 v14 v11),(Z9 v34 v15 v20)])] [] (.tuple [(e7 v35.1),(.bool v35.2)]) []:=
 sG Tryz.func77 λΓ q=>Ae q UB [5,6] (tC h λc1_ h=>tB h λx2 y2 h=>tT q iR [5,6] [(xz x2.1 x2.2.1 x2.2.2)] (c3 (show(As (0:Int) 2) from(by decide)) c1_ (Me y2)) (tC h λc3_ h=>tB h λx4 y4 h=>tT q iN [6] [(xz x4.1 x4.2.1 x4.2.2)] (c3 (show(As (1:Int) 2) from(by decide)) c3_ (Me y4)) (tU q iU [6] (PY (gI ((!x2.2.2)==false)) (I4 (!x2.2.2)) (J7 ((rZ x2 x4)==false) (ci (I4 (rZ x2 x4)) (J7 ((bif (rZ x2 x4) then true else(x2.2.1 !=x4.2.1))==false) (c1 (I4 (bif (rZ x2 x4) then true else(x2.2.1 !=x4.2.1)))))))) (gC h (λh=>Ae q Wo [6] (tS h (Bp []))) λh=>Ae q Wo [6] (tS h (Bp []))))))
def Kt(aY:Int):Option bQ:=
 (some ((-1:Int),aY,true))
theorem Ur(h:Kt v1=some v33):sP 135 [(Z6 v1)] [] (.tuple [(Z6 v33.1),(Z6 v33.2.1),(.bool v33.2.2)]) []:=
 sG Tryz.func135 λΓ q=>tW q [0] [] [2,3,4] [] (tS h (Bp []))
def re(x2:bQ)(x4:bQ):=(bif (!x2.2.2) then true else(!x4.2.2))
def Kr(aK:Int)(aa1:Ao)(aaH:List Ab)(aaI:J8)(aaJ:Int):Option SX:=
 (Aw (As (0:Int) aa1.length) ((Ge (aa1.getD (0:Int).toNat (0:Int)) aaH aaI aaJ).bind λx2=>(Aw (As (1:Int) aa1.length) ((Kt (aa1.getD (1:Int).toNat (0:Int))).bind λx4=>(bif (bif (bif (bif (!x2.2.2) then true else(!x4.2.2)) then true else(x2.2.1 !=x4.2.1)) then true else(x2.2.1==aK)) then(some ((⟨(0:Int),(0:Int),(0:Int),(0:Int)⟩:THammock),false)) else(some ((⟨aK,x2.1,x4.1,x2.2.1⟩:THammock),true)))))))
theorem Zv(h:Kr v1 v2 v10 v14 v11=some v35):sP 77 [(Z6 v1),(Mw v2),(.agg [(Z9 v10 v14 v11),(.clo 135 [] [])])] [] (.tuple [(e7 v35.1),(.bool v35.2)]) []:=
 sG Tryz.func77 λΓ q=>Ae q UB [5,6] (tC h λc1_ h=>tB h λx2 y2 h=>tT q iR [5,6] [(xz x2.1 x2.2.1 x2.2.2)] (c3 (show(As (0:Int) 2) from(by decide)) c1_ (Me y2)) (tC h λc3_ h=>tB h λx4 y4 h=>tT q iN [6] [(xz x4.1 x4.2.1 x4.2.2)] (c3 (show(As (1:Int) 2) from(by decide)) c3_ (Ur y4)) (tU q iU [6] (PY (gI ((!x2.2.2)==false)) (I4 (!x2.2.2)) (J7 ((re x2 x4)==false) (ci (I4 (re x2 x4)) (J7 ((bif (re x2 x4) then true else(x2.2.1 !=x4.2.1))==false) (c1 (I4 (bif (re x2 x4) then true else(x2.2.1 !=x4.2.1)))))))) (gC h (λh=>Ae q Wo [6] (tS h (Bp []))) λh=>Ae q Wo [6] (tS h (Bp []))))))
def rf(x2:bQ)(x4:bQ):=(bif (!x2.2.2) then true else(!x4.2.2))
def Ks(aK:Int)(aa1:Ao)(aaK:List Ab)(aaL:J8)(aaM:Int):Option SX:=
 (Aw (As (0:Int) aa1.length) ((Kt (aa1.getD (0:Int).toNat (0:Int))).bind λx2=>(Aw (As (1:Int) aa1.length) ((Ge (aa1.getD (1:Int).toNat (0:Int)) aaK aaL aaM).bind λx4=>(bif (bif (bif (bif (!x2.2.2) then true else(!x4.2.2)) then true else(x2.2.1 !=x4.2.1)) then true else(x2.2.1==aK)) then(some ((⟨(0:Int),(0:Int),(0:Int),(0:Int)⟩:THammock),false)) else(some ((⟨aK,x2.1,x4.1,x2.2.1⟩:THammock),true)))))))
theorem Zw(h:Ks v1 v2 v10 v14 v11=some v35):sP 77 [(Z6 v1),(Mw v2),(.agg [(.clo 135 [] []),(Z9 v10 v14 v11)])] [] (.tuple [(e7 v35.1),(.bool v35.2)]) []:=
 sG Tryz.func77 λΓ q=>Ae q UB [5,6] (tC h λc1_ h=>tB h λx2 y2 h=>tT q iR [5,6] [(xz x2.1 x2.2.1 x2.2.2)] (c3 (show(As (0:Int) 2) from(by decide)) c1_ (Ur y2)) (tC h λc3_ h=>tB h λx4 y4 h=>tT q iN [6] [(xz x4.1 x4.2.1 x4.2.2)] (c3 (show(As (1:Int) 2) from(by decide)) c3_ (Me y4)) (tU q iU [6] (PY (gI ((!x2.2.2)==false)) (I4 (!x2.2.2)) (J7 ((rf x2 x4)==false) (ci (I4 (rf x2 x4)) (J7 ((bif (rf x2 x4) then true else(x2.2.1 !=x4.2.1))==false) (c1 (I4 (bif (rf x2 x4) then true else(x2.2.1 !=x4.2.1)))))))) (gC h (λh=>Ae q Wo [6] (tS h (Bp []))) λh=>Ae q Wo [6] (tS h (Bp []))))))
def Ob(a0:TFunc)(x2:iJ):(List THammock×Int)->Option (LR (List THammock×Int) (List THammock)):=
 λ((l3,i4):(List THammock×Int))=>(bif (decide (i4<(a0.Blocks.length:Int))) then(Option.bind (α:=List THammock) (Aw (As i4 a0.Blocks.length) (Aw (((((a0.Blocks.getD i4.toNat default).End.Kind:Int)!=2)==false)=true->(As (0:Int) ((a0.Blocks.getD i4.toNat default).End.To).length)) (Aw (((((a0.Blocks.getD i4.toNat default).End.Kind:Int)!=2)==false)=true->(As (1:Int) ((a0.Blocks.getD i4.toNat default).End.To).length)) (bif (bif (((a0.Blocks.getD i4.toNat default).End.Kind:Int)!=2) then true else((((a0.Blocks.getD i4.toNat default).End.To).getD (0:Int).toNat (0:Int))==(((a0.Blocks.getD i4.toNat default).End.To).getD (1:Int).toNat (0:Int)))) then(some l3) else((S8 a0.Blocks x2.1.Pred i4).bind λx10=>((Na i4 ((a0.Blocks.getD i4.toNat default).End.To) a0.Blocks x2.1.Pred i4 a0.Blocks x2.1.Pred i4).bind λx11=>(bif x11.2 then(Aw (l3.length+([x11.1]:List THammock).length<=room) (some (l3++([x11.1]:List THammock)))) else((Kr i4 ((a0.Blocks.getD i4.toNat default).End.To) a0.Blocks x2.1.Pred i4).bind λx13=>(bif x13.2 then(Aw (l3.length+([x13.1]:List THammock).length<=room) (some (l3++([x13.1]:List THammock)))) else((Ks i4 ((a0.Blocks.getD i4.toNat default).End.To) a0.Blocks x2.1.Pred i4).bind λx15=>(bif x15.2 then(Aw (l3.length+([x15.1]:List THammock).length<=room) (some (l3++([x15.1]:List THammock)))) else(some l3)))))))))))) (λx17=>(some (.next (x17,(w64 (i4+1))))))) else(some (.done l3)))
def KJ :Empty->Option (LR Empty (List THammock)):=
 λ(s_:Empty)=>nomatch s_
def UZ(Γ:H4)(a0:TFunc)(r:List THammock):Exit->St->Prop:=fK Tryz.prog Γ Tryz.f39.results.toList [] (rO r 20000) [(20000,.tok 4 27 r.length)]
def fF(a0:TFunc):AV:=(VD a0.Blocks)
def kY:AV:=(AV.list 4 Db default ([]:List THammock) .exact)
def vk(a0:TFunc)(i4:Int):=((((a0.Blocks.getD i4.toNat default).End.Kind:Int)!=2)==false)
def yL:=(⟨[(2,(AV.list 4 Db default ([]:List THammock) (.own 6002)))],[(6002,.tok 4 27 (([]:List THammock).length))],[]⟩:St)
def rg(a0:TFunc)(x2:iJ)(i4:Int):AV:=(.clo 133 [] [(.rpo [(fF a0)]),(.rpo [(FY x2.1.Pred)]),(.rpo [(Z6 i4)])])
def yK(a0:TFunc)(x2:iJ):=(⟨[Zn,JU,(5,(AV.list 4 Db default ([]:List THammock) (.own 5005))),(21,(fF a0)),(22,(JQ a0.Blocks.length)),(23,La)],[(1,.row 25 [(Mw a0.Params),(Z6 a0.Ret),(fF a0)]),(3,.row 97 [(FY x2.1.Succ),(FY x2.1.Pred)]),(5005,.tok 4 27 (([]:List THammock).length))],[]⟩:St)
def Lg(a0:TFunc):Option (List THammock):=
 ((Tc (S:=Empty) (X:=List THammock) ((Sj a0 (2:Int)).bind λx1=>(bif (x1 !=0) then(some (.done ([]:List THammock))) else((Uj a0).bind λx2=>((Ad (Ob a0 x2) (([]:List THammock),(0:Int))).bind (λx19=>(some (.done x19))))))) KJ).bind (λx21=>(some x21)))
variable{v36:List THammock}
theorem Up(h:Lg v0=some v36):sP 39 [(Yz v0)] [] (rO v36 20000) [(20000,.tok 4 27 v36.length)]:=
 sG Tryz.func39 λΓ q=>gR q [1] [1] [(2,kY)] [] (c1 (Bc 4 Db (default:THammock))) (tB h λx21 y21 h=>gS y21 (λ(s_:Empty)=>nomatch s_) (λ(s_:Empty)=>nomatch s_) (λr_=>aR (UZ Γ v0 r_)) (λy h=>tB h λx1 y1 h=>tT q DC [1] [(JP x1)] (c1 (RG y1)) (gC h (λh=>gR q [2] [] [(2,kY)] [] (c1 (Bc 4 Db (default:THammock))) (O6 (⟨[(2,kY)],[],[]⟩:St) (tS h (mo (Mk (H5 LP (show Le Γ _ yL from Le.trans (A8 (st':=⟨[(2,kY)],[],[]⟩) [2] [] q) (Le.trans (Lb (t:=2) (nm:=6002) (sz':=4) (λi=>Db (([]:List THammock).getD i default)) 27 rfl rfl (.inl ⟨rfl,rfl⟩) (λh_=>absurd h_ (by decide))) (A8 (st':=yL) [2] [6002] q))))))))) λh=>tB h λx2 y2 h=>tT q Iz Iz [(wg x2.1 x2.2)] (c1 (MT y2)) (gR q HC Iz [(5,kY)] [] (c1 (Bc 4 Db (default:THammock))) (Ae q FQ Iz (M1 (st':=(yK v0 x2)) (Le.trans (A8 (st':=⟨[Zn,JU,(5,kY),(21,(fF v0)),(22,(JQ v0.Blocks.length)),(23,La)],[(1,.row 25 [(Mw v0.Params),(Z6 v0.Ret),(fF v0)]),(3,.row 97 [(FY x2.1.Succ),(FY x2.1.Pred)])],[]⟩) FQ Iz q) (Le.trans (Lb (t:=5) (nm:=5005) (sz':=4) (λi=>Db (([]:List THammock).getD i default)) 27 rfl rfl (.inl ⟨rfl,rfl⟩) (λh_=>absurd h_ (by decide))) (A8 (st':=(yK v0 x2)) FQ JN q))) (tL q h FQ JN (λu (l3,i4)=>(Cn u [(5,(rO l3 5005)),(23,(Z6 i4))] [(5005,.tok 4 27 l3.length)])) (λu l5=>aG Γ (.exit 0) (⟨[(5,(rO l5 5005))],[(5005,.tok 4 27 l5.length)],[]⟩:St)) (λ⟨l3,i4⟩ y h=>Ae q [1,3,5,21,22,23,24] JN (gC h (λh=>tB h λx17 y17 h=>gJ y17 (λl6=>aG Γ .normal (⟨[Zn,JU,(5,(rO l6 5005)),(21,(fF v0)),(22,(JQ v0.Blocks.length)),(23,(Z6 i4))],[(1,.row 25 [(Mw v0.Params),(Z6 v0.Ret),(fF v0)]),(3,.row 97 [(FY x2.1.Succ),(FY x2.1.Pred)]),(5005,.tok 4 27 l6.length)],[]⟩:St)) (λy h=>tV q [1,3,5,6,7,21,22,23] FT h λh=>tC h λc8_ h=>tC h λc9_ h=>tU q [1,3,5,6,7,21,22,23,44] FT (Sh (vk v0 i4) (ci c8_ (QH (vk v0 i4) (ci c9_ (Sh (vk v0 i4) (c1 (I4 (((v0.Blocks.getD i4.toNat default).End.Kind:Int)!=2)))))))) (gC h (λh=>tS h (gK (A3 (A8 FQ JN q)))) λh=>tB h λx10 y10 h=>tT q kQ FT [⟨[],[],(.agg [(rg v0 x2 i4),(rg v0 x2 i4),(rg v0 x2 i4),(.clo 135 [] []),(.clo 135 [] []),(rg v0 x2 i4)]),[],[],[]⟩] (c1 (KU y10)) (gU 3 (Ae q kP FT (bw true (tU q rH iY (c1 (show(As (0:Int) 3) from(by decide))) (tB h λx11 y11 h=>tT q rF YX [(sk x11.1 x11.2)] (c1 (GM y11)) (Ae q rG YX (gC h (λh=>tC h λc12_ h=>gR q FQ JN (Z52 x11.1 l3) [] (c5 (Az 4 Db (default:THammock) ([x11.1]:List THammock)) (Eq.refl l3.length) c12_ (Cu 4 5005 Db (default:THammock) l3 ([x11.1]:List THammock)) (Br l3 ([x11.1]:List THammock))) (tS h (gK (A3 Gt)))) λh=>tW q kQ FT kP FT (bw true (tU q rH iY (c1 (show(As (1:Int) 3) from(by decide))) (tB h λx13 y13 h=>tT q rF YX [(sk x13.1 x13.2)] (c1 (Zv y13)) (Ae q rG YX (gC h (λh=>tC h λc14_ h=>gR q FQ JN (Z52 x13.1 l3) [] (c5 (Az 4 Db (default:THammock) ([x13.1]:List THammock)) (Eq.refl l3.length) c14_ (Cu 4 5005 Db (default:THammock) l3 ([x13.1]:List THammock)) (Br l3 ([x13.1]:List THammock))) (tS h (gK (A3 Gt)))) λh=>tW q kQ FT kP FT (bw true (tU q rH iY (c1 (show(As (2:Int) 3) from(by decide))) (tB h λx15 y15 h=>tT q rF YX [(sk x15.1 x15.2)] (c1 (Zw y15)) (Ae q rG YX (gC h (λh=>tC h λc16_ h=>gR q FQ JN (Z52 x15.1 l3) [] (c5 (Az 4 Db (default:THammock) ([x15.1]:List THammock)) (Eq.refl l3.length) c16_ (Cu 4 5005 Db (default:THammock) l3 ([x15.1]:List THammock)) (Br l3 ([x15.1]:List THammock))) (tS h (gK (A3 Gt)))) λh=>tW q kQ FT kP FT (bw false (tS h (gK (A3 (A8 FQ JN q)))))))))))))))))))))))) (gA (Ae q FQ JN (tN h)))) λh=>tS h (gO (A3 (A8 [5] [5005] q))))) λx19 h=>gA (Ae q [2] [5005] (tS h (mo (Mk (H5 [(5005,20000)] (Le.refl _ _)))))))))))) nofun (gAr (λst' hk=>tS h (gK hk))))
def m_slices_Index_api_Hammock_api_Hammock_L1(aL:List THammock)(aC:THammock):Int->Option (LR Int (Unit ⊕ Int)):=
 λ(i1:Int)=>(bif (decide (i1<(aL.length:Int))) then(Aw (As i1 aL.length) (bif ((aC.At==(aL.getD i1.toNat default).At)&&((aC.Then==(aL.getD i1.toNat default).Then)&&((aC.Else==(aL.getD i1.toNat default).Else)&&((aC.Join==(aL.getD i1.toNat default).Join)&&true)))) then(some (.done (.inr i1))) else(some (.next (w64 (i1+1)))))) else(some (.done (.inl ()))))
def Nk(Γ:H4)(aL:List THammock)(aC:THammock)(r:Int):Exit->St->Prop:=fK Tryz.prog Γ Tryz.f196.results.toList [] (.int .i64 r) []
def Ea(aL:List THammock)(aC:THammock):Option Int:=
 ((Ad (m_slices_Index_api_Hammock_api_Hammock_L1 aL aC) (0:Int)).bind (λx3=>(match x3 with|(.inl _)=>(some (-1:Int))|(.inr r5)=>(some r5))))
variable{v37:THammock}
theorem Nj(h:Ea v36 v37=some v1):sP 196 [(AV.list 4 Db default v36 .none),(e7 v37)] [] (.int .i64 v1) []:=
 sG Tryz.func196 λΓ q=>tW q R0 [3] [0,3,7,8] [3] (tL q h [0,3,7,8] [3] (λu i1=>(Cn u [(8,(Z6 i1))] [])) (λu x_=>match x_ with|(.inl _)=>aG Γ (.exit 0) (⟨[],[],[]⟩:St)|(.inr r_)=>aR (Nk Γ v36 v37 r_)) (λi1 y h=>Ae q [0,3,7,8,9] [3] (gC h (λh=>Ae q [0,3,5,7,8] [3] (tV q [0,3,5,7,8,16] [3] h λh=>gC h (λh=>Ae q [4] [] (tS h (gO (Mk (H5 [] (Le.refl _ _)))))) λh=>Ae q [0,3,7,8] [3] (tN h))) λh=>tS h (gO (A3 (A8 [] [] q))))) λx3 h=>(match x3,h with | .inl _,h=>gA (Ae q [4] [] (tS h (Bp []))) | .inr r5,h=>gAr (λst' hk=>tS h (gK hk))))
def Dk(aL:List THammock)(aC:THammock):Option Bool:=
 ((Ea aL aC).bind λx1=>(some (decide ((0:Int)<=x1))))
theorem Mi(h:Dk v36 v37=some v3):sP 164 [(AV.list 4 Db default v36 .none),(e7 v37)] [] (.bool v3) []:=
 sG Tryz.func164 λΓ q=>Ae q R0 [3] (tB h λx1 y1 h=>tT q [4] [] [(JP x1)] (c1 (Nj y1)) (tS h (Bp [])))
def Tw(a0:TFunc)(aE:THammock):Option Bool:=
 ((Lg a0).bind λx1=>((Dk x1 aE).bind λx2=>(some x2)))
theorem VX(h:Tw v0 v37=some v3):sP 112 [(Yz v0),(e7 v37)] [] (.bool v3) []:=
 sG Tryz.func112 λΓ q=>Ae q Cb Cb (tB h λx1 y1 h=>tB h λx2 y2 h=>tT q [4] [] [⟨[],[(20000,6)],(rO x1 20000),[(20000,.tok 4 27 x1.length)],[],[]⟩,(Z7 x2)] (c2 (Up y1) (Mi y2)) (tS h (Bp [])))
def D8(a0:TFunc)(aE:THammock):(List A2×Int)->Option (LR (List A2×Int) (List A2)):=
 λ((l2,i3):(List A2×Int))=>(bif (decide (i3<(([aE.Then,aE.Else]:Ao).length:Int))) then(Option.bind (α:=List A2) (Aw (As i3 ([aE.Then,aE.Else]:Ao).length) (bif ((([aE.Then,aE.Else]:Ao).getD i3.toNat 0)!=-1) then(Aw (As (([aE.Then,aE.Else]:Ao).getD i3.toNat 0) a0.Blocks.length) (Aw (l2.length+((a0.Blocks.getD (([aE.Then,aE.Else]:Ao).getD i3.toNat 0).toNat (default:Ab)).Ops).length<=room) (some (l2++(a0.Blocks.getD (([aE.Then,aE.Else]:Ao).getD i3.toNat 0).toNat (default:Ab)).Ops)))) else(some l2))) (λx9=>(some (.next (x9,(w64 (i3+1))))))) else(some (.done l2)))
def ZF(aE:THammock):=([aE.Then,aE.Else]:Ao)
def kZ:AV:=vM
def vl(a0:TFunc)(aE:THammock)(i3:Int):=(a0.Blocks.getD ((ZF aE).getD i3.toNat 0).toNat (default:Ab))
def vm(a0:TFunc):List AV:=(Z5 a0.Params a0.Ret a0.Blocks)
def yN:=(⟨[(4,(si 6004)),(5,(.bool false))],[(6004,.tok 6 51 (([]:List A2).length))],[]⟩:St)
def yM(aE:THammock)(a0:TFunc):=(⟨[N8,(6,(si 5006)),(17,(su (ZF aE))),(18,(.int .i64 ((ZF aE).length:Int))),(19,La)],[(L5 25 (vm a0)),(5006,.tok 6 51 (([]:List A2).length))],[]⟩:St)
def Kq(a0:TFunc)(aE:THammock):Option (List A2×Bool):=
 ((Tw a0 aE).bind λx1=>(bif (!x1) then(some (([]:List A2),false)) else((Ad (D8 a0 aE) (([]:List A2),(0:Int))).bind (λx11=>(some (x11,true))))))
variable{v38:(List A2×Bool)}
theorem Uq(h:Kq v0 v37=some v38):sP 59 [(Yz v0),(e7 v37)] [] (.tuple [(jL v38.1 20000),(.bool v38.2)]) [(NX 20000 v38.1.length)]:=
 sG Tryz.func59 λΓ q=>gR q Cb Cb [(4,kZ)] [] (c1 (Bc 6 Kd (default:A2))) (tB h λx1 y1 h=>tT q [2,3,12] Cb [(Z7 x1)] (c1 (VX y1)) (gC h (λh=>gR q Px [] [(4,kZ)] [] (c1 (Bc 6 Kd (default:A2))) (O6 (⟨[(4,kZ),(5,(.bool false))],[],[]⟩:St) (tS h (gK (e:=.ret) (H5 TN (show Le Γ _ yN from Le.trans (A8 (st':=⟨[(4,kZ),(5,(.bool false))],[],[]⟩) Px [] q) (Le.trans (Lb (t:=4) (nm:=6004) (sz':=6) (λi=>Kd (([]:List A2).getD i default)) 51 rfl rfl (.inl ⟨rfl,rfl⟩) (λh_=>absurd h_ (by decide))) (A8 (st':=yN) Px [6004] q)))))))) λh=>gR q HD Cb [(6,kZ)] [] (c1 (Bc 6 Kd (default:A2))) (gR q UQ [2] [(17,(su (ZF v37)))] [] (c1 (Az 1 Am (0:Int) (ZF v37))) (M1 (st':=(yM v37 v0)) (Le.trans (A8 (st':=⟨[N8,(6,kZ),(17,(su (ZF v37))),(18,(.int .i64 ((ZF v37).length:Int))),(19,La)],[(L5 25 (vm v0))],[]⟩) UQ [2] q) (Le.trans (Lb (t:=6) (nm:=5006) (sz':=6) (λi=>Kd (([]:List A2).getD i default)) 51 rfl rfl (.inl ⟨rfl,rfl⟩) (λh_=>absurd h_ (by decide))) (A8 (st':=(yM v37 v0)) UQ DB q))) (tL q h UQ DB (λu (l2,i3)=>(Cn u [(6,(jL l2 5006)),(19,(Z6 i3))] [(NX 5006 l2.length)])) (λu l4=>aG Γ (.exit 0) (⟨[(6,(jL l4 5006))],[(NX 5006 l4.length)],[]⟩:St)) (λ⟨l2,i3⟩ y h=>Ae q [2,6,17,18,19,20] DB (gC h (λh=>tB h λx9 y9 h=>gJ y9 (λl5=>aG Γ .normal (⟨[N8,(6,(jL l5 5006)),(17,(su (ZF v37))),(18,(.int .i64 ((ZF v37).length:Int))),(19,(Z6 i3))],[(L5 25 (vm v0)),(NX 5006 l5.length)],[]⟩:St)) (λy h=>tV q [2,6,8,17,18,19] DB h λh=>Ae q [2,6,8,17,18,19,24] DB (gC h (λh=>tC h λc7_ h=>tC h λc8_ h=>gR q UQ DB [(32,(AV.list 6 Kd default (l2++(vl v0 v37 i3).Ops) (.own 5006)))] [] (c5 c7_ (Eq.refl l2.length) c8_ (Cu 6 5006 Kd (default:A2) l2 ((vl v0 v37 i3).Ops)) (Br l2 ((vl v0 v37 i3).Ops))) (tS h (gK (A3 Gt)))) λh=>tS h (gK (A3 (A8 UQ DB q))))) (gA (Ae q UQ DB (tN h)))) λh=>tS h (gO (A3 (A8 [6] [5006] q))))) λx11 h=>gA (Ae q Px [5006] (tS h (Bp [(5006,20000)]))))))))
def Ma(a2:A2):Option Bool:=
 (some (a2.Lanes !=1))
theorem ER(h:Ma v6=some v3):sP 61 [(UU v6)] [] (.bool v3) []:=
 sG Tryz.func61 λΓ q=>tW q [1] [1] [2] [] (tS h (Bp []))
def m_slices_IndexFunc_api_Op_api_Op_L1(aL:List A2):Int->Option (LR Int (Unit ⊕ Int)):=
 λ(i1:Int)=>(bif (decide (i1<(aL.length:Int))) then(Aw (As i1 aL.length) ((Ma (aL.getD i1.toNat default)).bind λx3=>(bif x3 then(some (.done (.inr i1))) else(some (.next (w64 (i1+1))))))) else(some (.done (.inl ()))))
def Qg(Γ:H4)(aL:List A2)(r:Int):Exit->St->Prop:=fK Tryz.prog Γ Tryz.f113.results.toList [] (.int .i64 r) []
def Gj(aL:List A2):Option Int:=
 ((Ad (m_slices_IndexFunc_api_Op_api_Op_L1 aL) (0:Int)).bind (λx4=>(match x4 with|(.inl _)=>(some (-1:Int))|(.inr r6)=>(some r6))))
theorem Qc(h:Gj v7=some v1):sP 113 [(bu v7),(.clo 61 [] [])] [] (.int .i64 v1) []:=
 sG Tryz.func113 λΓ q=>tW q Fe [] JM [] (tL q h JM [] (λu i1=>(Cn u [(8,(Z6 i1))] [])) (λu x_=>match x_ with|(.inl _)=>aG Γ (.exit 0) (⟨[],[],[]⟩:St)|(.inr r_)=>aR (Qg Γ v7 r_)) (λi1 y h=>Ae q ir [] (gC h (λh=>Ae q iu [] (tC h λc2_ h=>tB h λx3 y3 h=>tT q iV [] [(Z7 x3)] (c2 c2_ (ER y3)) (gC h (λh=>Ae q [4] [] (tS h (gO (Mk (H5 [] (Le.refl _ _)))))) λh=>Ae q JM [] (tN h)))) λh=>tS h (gO (A3 (A8 [] [] q))))) λx4 h=>(match x4,h with | .inl _,h=>gA (Ae q [4] [] (tS h (Bp []))) | .inr r6,h=>gAr (λst' hk=>tS h (gK hk))))
def C8(aL:List A2):Option Bool:=
 ((Gj aL).bind λx1=>(some (decide ((0:Int)<=x1))))
theorem Ox(h:C8 v7=some v3):sP 60 [(bu v7),(.clo 61 [] [])] [] (.bool v3) []:=
 sG Tryz.func60 λΓ q=>Ae q Fe [] (tB h λx1 y1 h=>tT q [4] [] [(JP x1)] (c1 (Qc y1)) (tS h (Bp [])))
def Oc(a0:TFunc)(aE:THammock):Option Bool:=
 ((Kq a0 aE).bind λx1=>((bif (x1.2==true) then C8 x1.1 else some false).bind λx2=>(some (bif x1.2 then(!x2) else false))))
theorem II(h:Oc v0 v37=some v3):sP 25 [(Yz v0),(e7 v37)] [] (.bool v3) []:=
 sG Tryz.func25 λΓ q=>Ae q Cb Cb (tB h λx1 y1 h=>tT q [5,6] [10] [⟨[],bp,(.tuple [(jL x1.1 20000),(.bool x1.2)]),[(NX 20000 x1.1.length)],[],[]⟩] (c1 (Uq y1)) (tB h λx2 y2 h=>tT q [4] [] [(Z7 x2)] (c4 (gI (x1.2==true)) (λ(hg:(x1.2==true)=true)=>(Ox (Ba hg y2))) (gI (x1.2==true)) (M7 x1.2)) (tS h (Bp []))))
def Pg(a0:TFunc)(i2:Int):Hn->Option iI:=
 λ((i5,i6):Hn)=>(bif (decide (i6<(((a0.Blocks.getD i2.toNat default).Phis).length:Int))) then(Aw (As i6 ((a0.Blocks.getD i2.toNat default).Phis).length) (some (.next ((if i5<(((a0.Blocks.getD i2.toNat default).Phis).getD i6.toNat default).Dst then(((a0.Blocks.getD i2.toNat default).Phis).getD i6.toNat default).Dst else i5),(w64 (i6+1)))))) else(some (.done i5)))
def Ph(a0:TFunc)(i2:Int):Hn->Option iI:=
 λ((i11,i12):Hn)=>(bif (decide (i12<(((a0.Blocks.getD i2.toNat default).Ops).length:Int))) then(Aw (As i12 ((a0.Blocks.getD i2.toNat default).Ops).length) (some (.next ((if i11<(((a0.Blocks.getD i2.toNat default).Ops).getD i12.toNat default).Dst then(((a0.Blocks.getD i2.toNat default).Ops).getD i12.toNat default).Dst else i11),(w64 (i12+1)))))) else(some (.done i11)))
def S7(a0:TFunc):Hn->Option iI:=
 λ((i1,i2):Hn)=>(bif (decide (i2<(a0.Blocks.length:Int))) then(Aw (As i2 a0.Blocks.length) ((Ad (Pg a0 i2) (i1,(0:Int))).bind (λx9=>((Ad (Ph a0 i2) (x9,(0:Int))).bind (λx15=>(some (.next (x15,(w64 (i2+1)))))))))) else(some (.done i1)))
def Tt(a0:TFunc):Option Int:=
 ((Ad (S7 a0) ((a0.Params.length:Int),(0:Int))).bind (λx17=>(some x17)))
theorem VU(h:Tt v0=some v1):sP 26 [(Yz v0)] [] (.int .i64 v1) []:=
 sG Tryz.func26 λΓ q=>tW q [1] [1] Iz [1] (Ae q TQ [] (tL q h TQ [] (λu (i1,i2)=>(Cn u [(3,(Z6 i1)),(16,(Z6 i2))] [])) (λu i3=>aG Γ (.exit 0) (⟨[(3,(Z6 i3))],[],[]⟩:St)) (λ⟨i1,i2⟩ y h=>Ae q [3,14,15,16,17] [] (gC h (λh=>tV q iZ [5] h λh=>Ae q kT [5] (tL q h kT [5] (λu (i5,i6)=>(Cn u [(3,(Z6 i5)),(23,(Z6 i6))] [])) (λu i7=>aG Γ (.exit 2) (Nc iZ [5] u [(3,(Z6 i7))] [])) (λ⟨i5,i6⟩ y h=>Ae q [3,5,14,15,16,21,22,23,24] [5] (gC h (λh=>tV q [3,5,7,14,15,16,21,22,23] [5,7] h λh=>tW q kT [5] kT [5] (tN h)) λh=>tS h (gO (A3 (A8 iZ [5] q))))) λx9 h=>gA (Ae q kW [] (tL q h kW [] (λu (i11,i12)=>(Cn u [(3,(Z6 i11)),(35,(Z6 i12))] [])) (λu i13=>aG Γ (.exit 4) (Nc TQ [] u [(3,(Z6 i13))] [])) (λ⟨i11,i12⟩ y h=>Ae q [3,14,15,16,33,34,35,36] [] (gC h (λh=>tV q [3,9,14,15,16,33,34,35] [9] h λh=>tW q kW [] kW [] (tN h)) λh=>tS h (gO (A3 (A8 TQ [] q))))) λx15 h=>gA (Ae q TQ [] (tN h)))))) λh=>tS h (gO (A3 (A8 [3] [] q))))) λx17 h=>gA (Ae q [2] [] (tS h (Bp [])))))
def ka:AV:=vM
def yO:=(⟨[(2,(si 6002))],[(6002,.tok 6 51 (([]:List A2).length))],[]⟩:St)
def Fa(aL:List A2):Option (List A2):=
 (Aw (([]:List A2).length+aL.length<=room) (some (([]:List A2)++aL)))
variable{v39:List A2}
theorem Sy(h:Fa v7=some v39):sP 62 [(bu v7)] [] (jL v39 20000) [(NX 20000 v39.length)]:=by
 refine EG mix Tryz.func62 (λΓ hq=>?_);unfold Fa at h;refine gR hq [0] [] [(2,ka)] [] (c1 (Bc 6 Kd (default:A2))) ?_;refine Ae hq Yv [] ?_;refine ze true v7.length (λhb=>?_) (λhb=>?_)
 ·replace h:=pW (some ([]:List A2)) (λ(l2:List A2)=>(Aw (([]:List A2).length+l2.length<=room) (some (([]:List A2)++l2)))) h (hb rfl) rfl (λh0=>by first|exact h0|simpa [Aw,room] using h0);clear hb;refine gR hq [2] [] [(2,ka)] [] (c1 (Bc 6 Kd (default:A2))) ?_;refine O6 (⟨[(2,ka)],[],[]⟩:St) ?_;cases h;exact gK (e:=.ret) (H5 LP (show Le Γ _ yO from Le.trans (A8 (st':=⟨[(2,ka)],[],[]⟩) [2] [] hq) (Le.trans (Lb (t:=2) (nm:=6002) (sz':=6) (λi=>Kd (([]:List A2).getD i default)) 51 rfl rfl (.inl ⟨rfl,rfl⟩) (λh_=>absurd h_ (by decide))) (A8 (st':=yO) [2] [6002] hq))))
 ·clear hb;obtain⟨hc1,h⟩:=O4 h;refine gR hq [2] [7] [(5,ka),(7,(AV.list 6 Kd default (([]:List A2)++v7) (.own 7)))] [] (ci (show(AVle (.slice 6 0 (λi=>([]:List (List AV)).getD i []) .exact) ka) from ff rfl (λi hi=>absurd hi (V1 i))) (ci hc1 (ci (show(51=Zc->([]:List A2).length=0\/0<v7.length) from(λh_=>absurd h_ (by decide))) (ci (Cu 6 7 Kd (default:A2) ([]:List A2) v7) (c1 (Br ([]:List A2) v7)))))) ?_;cases h;exact Bp [(7,20000)]
def rh:List NI:=[(4,vM)]
def vn(a3:TFunc)(a5:THammock)(a7:List A2)(a8:Int):List OM:=(OP a3.Params a3.Ret a3.Blocks a5.At a5.Then a5.Else a5.Join a7 a8 a7.length)
def Fq(aK:Int)(a3:TFunc)(a5:THammock)(a7:List A2)(a8:Int):Option (List A2):=
 (bif (aK==-1) then(some ([]:List A2)) else(Aw (As aK a3.Blocks.length) (some ((a3.Blocks.getD aK.toNat default).Ops))))
theorem Pa(h:Fq v1 v0 v37 v7 v11=some v39):sP 115 [Wu,(Z6 v1)] (OP v0.Params v0.Ret v0.Blocks v37.At v37.Then v37.Else v37.Join v7 v11 v7.length) (bu v39) (OP v0.Params v0.Ret v0.Blocks v37.At v37.Then v37.Else v37.Join v7 v11 v7.length):=
 sG Tryz.func115 λΓ q=>gR q Fe Mj rh [] (c1 (Bc 6 Kd (default:A2))) (Ae q [0,1,6] Mj (gC h (λh=>gR q [4] Mj rh [] (c1 (Bc 6 Kd (default:A2))) (O6 (⟨rh,(vn v0 v37 v7 v11),[]⟩:St) (tS h (gK (e:=.ret) (H5 Yw (show Le Γ _ (⟨[(4,(AV.list 6 Kd default ([]:List A2) .none))],(vn v0 v37 v7 v11),[]⟩:St) from Le.trans (A8 (st':=⟨rh,(vn v0 v37 v7 v11),[]⟩) [4] Mj q) (Gu (.cons AVle.untag .nil) (.same (.same .nil))))))))) λh=>tV q [4] Mj h λh=>tS h (Bp Yw)))
def ri(aaN:Int)(aI:Int)(a8:Int)(aaO:Ao)(aa8:Int):=([(⟨aaN,aI,(1:Int),(w64 (a8+1)),aaO,aa8⟩:A2)]:List A2)
abbrev mY:=(Int×TFunc×THammock×List A2×Int)
def Ce(aaN:Int)(aI:Int)(aa8:Int)(aaO:Ao)(a3:TFunc)(a5:THammock)(a7:List A2)(a8:Int):Option mY:=
 (Aw (a7.length+([(⟨aaN,aI,(1:Int),(w64 (a8+1)),aaO,aa8⟩:A2)]:List A2).length<=room) (some ((w64 (a8+1)),a3,a5,(a7++([(⟨aaN,aI,(1:Int),(w64 (a8+1)),aaO,aa8⟩:A2)]:List A2)),(w64 (a8+1)))))
variable{v40:Int}{v41:mY}
theorem Ek(h:Ce v1 v11 v20 v2 v0 v37 v7 v40=some v41):sP 117 [Wu,(Z6 v1),(Z6 v11),(JV v20),(Mw v2)] (OP v0.Params v0.Ret v0.Blocks v37.At v37.Then v37.Else v37.Join v7 v40 v7.length) (Z6 v41.1) (OP v41.2.1.Params v41.2.1.Ret v41.2.1.Blocks v41.2.2.1.At v41.2.2.1.Then v41.2.2.1.Else v41.2.2.1.Join v41.2.2.2.1 v41.2.2.2.2 v41.2.2.2.1.length):=
 sG Tryz.func117 λΓ q=>tW q iv Mj iv Mj (tC h λc1_ h=>gR q [0] Mj (zK 32 (ri v1 v11 v40 v2 v20) 33 v7) [] (c5 (Az 6 Kd (default:A2) (ri v1 v11 v40 v2 v20)) (Eq.refl v7.length) c1_ (Cu 6 37007 Kd (default:A2) v7 (ri v1 v11 v40 v2 v20)) (Br v7 (ri v1 v11 v40 v2 v20))) (Ae q [10] Mj (tS h (Bp Yw))))
def ke(a1:A2):=(a1.Args.drop (1:Int).toNat)
def PI(a1:A2):=(a1.Args.getD (0:Int).toNat (0:Int))
def kd(a1:A2):=(a1.Args.getD (1:Int).toNat (0:Int))
def yP(a1:A2):List AV:=[Wu,La,(Z6 a1.Bits),(.int .u64 (0:Int)),(.slice 0 0 (λ_=>[]) .none)]
def m7:List AV:=[La,La,La,La,UT,(.int .u64 (0:Int))]
def rj(a3:TFunc)(a5:THammock)(a7:List A2)(a8:Int):List AV:=(Z2 a3.Params a3.Ret a3.Blocks a5.At a5.Then a5.Else a5.Join a7 a8)
def vo(x13:mY):List AV:=(Z2 x13.2.1.Params x13.2.1.Ret x13.2.1.Blocks x13.2.2.1.At x13.2.2.1.Then x13.2.2.1.Else x13.2.2.1.Join x13.2.2.2.1 x13.2.2.2.2)
def vp(x18:mY):List AV:=(Z2 x18.2.1.Params x18.2.1.Ret x18.2.1.Blocks x18.2.2.1.At x18.2.2.1.Then x18.2.2.1.Else x18.2.2.1.Join x18.2.2.2.1 x18.2.2.2.2)
abbrev xk:=(A2×TFunc×THammock×List A2×Int)
def Ig(a1:A2)(aO:Int)(a3:TFunc)(a5:THammock)(a7:List A2)(a8:Int):Option xk:=
 (Option.bind (α:=(Int×Ao×Ao×Int×List Ab×Int×Int×Int×Int×List A2×Int)) (bif (a1.Kind==16) then(Aw (As (0:Int) a1.Args.length) ((Ce (0:Int) a1.Bits (0:Int) ([]:Ao) a3 a5 a7 a8).bind λx13=>(some ((18:Int),([aO,(a1.Args.getD (0:Int).toNat (0:Int)),x13.1]:Ao),x13.2.1.Params,x13.2.1.Ret,x13.2.1.Blocks,x13.2.2.1.At,x13.2.2.1.Then,x13.2.2.1.Else,x13.2.2.1.Join,x13.2.2.2.1,x13.2.2.2.2)))) else(bif (a1.Kind==17) then(Aw (As (0:Int) a1.Args.length) (Aw (As (1:Int) a1.Args.length) (some ((19:Int),([aO,(a1.Args.getD (0:Int).toNat (0:Int)),(a1.Args.getD (1:Int).toNat (0:Int))]:Ao),a3.Params,a3.Ret,a3.Blocks,a5.At,a5.Then,a5.Else,a5.Join,a7,a8)))) else(bif (a1.Kind==4) then(Aw (As (0:Int) a1.Args.length) (Aw (As (1:Int) a1.Args.length) ((Ce (0:Int) a1.Bits (0:Int) ([]:Ao) a3 a5 a7 a8).bind λx18=>(some ((20:Int),([aO,(a1.Args.getD (0:Int).toNat (0:Int)),(a1.Args.getD (1:Int).toNat (0:Int)),x18.1]:Ao),x18.2.1.Params,x18.2.1.Ret,x18.2.1.Blocks,x18.2.2.1.At,x18.2.2.1.Then,x18.2.2.1.Else,x18.2.2.1.Join,x18.2.2.2.1,x18.2.2.2.2))))) else(Option.bind (α:=Bool) (bif (a1.Kind==18) then(some (a1.Kind==18)) else(bif (a1.Kind==19) then(some (a1.Kind==19)) else(some (a1.Kind==20)))) (λx20=>(bif x20 then(Aw (As (0:Int) a1.Args.length) ((Ce (5:Int) (1:Int) (0:Int) ([(a1.Args.getD (0:Int).toNat (0:Int)),aO]:Ao) a3 a5 a7 a8).bind λx23=>(Aw (0<=(1:Int)/\(1:Int)<=(a1.Args.length:Int)) (Aw (([x23.1]:Ao).length+(a1.Args.drop (1:Int).toNat).length<=room) (some (a1.Kind,(([x23.1]:Ao)++(a1.Args.drop (1:Int).toNat)),x23.2.1.Params,x23.2.1.Ret,x23.2.1.Blocks,x23.2.2.1.At,x23.2.2.1.Then,x23.2.2.1.Else,x23.2.2.1.Join,x23.2.2.2.1,x23.2.2.2.2)))))) else(some (a1.Kind,a1.Args,a3.Params,a3.Ret,a3.Blocks,a5.At,a5.Then,a5.Else,a5.Join,a7,a8)))))))) (λ(i1,l2,l3,i4,l5,i6,i7,i8,i9,l10,i11)=>(some ((⟨i1,a1.Bits,a1.Lanes,a1.Dst,l2,a1.Imm⟩:A2),(⟨l3,i4,l5⟩:TFunc),(⟨i6,i7,i8,i9⟩:THammock),l10,i11))))
variable{v42:xk}
theorem Wi(h:Ig v6 v1 v0 v37 v7 v11=some v42):sP 165 [Wu,(UU v6),(Z6 v1)] (OP v0.Params v0.Ret v0.Blocks v37.At v37.Then v37.Else v37.Join v7 v11 v7.length) (UU v42.1) (OP v42.2.1.Params v42.2.1.Ret v42.2.1.Blocks v42.2.2.1.At v42.2.2.1.Then v42.2.2.1.Else v42.2.2.1.Join v42.2.2.2.1 v42.2.2.2.2 v42.2.2.2.1.length):=
 sG Tryz.func165 λΓ q=>Ae q [0,2,4,6] Ro (tB h λx26 y26 h=>gJ y26 (λ(i1,l2,l3,i4,l5,i6,i7,i8,i9,l10,i11)=>aG Γ .normal (⟨[LZ,JT],[(4,.row 51 (vO i1 v6.Bits v6.Lanes v6.Dst l2 v6.Imm)),(6,.row 51 m7),(30000,.row 71 (Z2 l3 i4 l5 i6 i7 i8 i9 l10 i11)),(NX 37007 l10.length)],[]⟩:St)) (λy h=>tW q [0,2,4,6,9] Ro [0,2,4,6,9,10] Ro (gC h (λh=>tC h λc12_ h=>tB h λx13 y13 h=>gR q Vc Ro [(21,(zQ v1 (PI v6) x13.1))] [⟨Yw,[],(Z6 x13.1),(lB (vo x13) x13.2.2.2.1.length),[],[]⟩] (c3 c12_ (show(sP 117 (yP v6) (lB (rj v0 v37 v7 v11) v7.length) (Z6 x13.1) (lB (vo x13) x13.2.2.2.1.length)) from(Spec.args (.cons (AVle.refl _) (.cons (AVle.refl _) (.cons (AVle.refl _) (.cons (AVle.refl _) (.cons OT .nil))))) (Ek y13))) (Az 1 Am (0:Int) ([v1,(PI v6),x13.1]:Ao))) (tS h (gK (A3 (Le.trans (A8 (st':=⟨[LZ,JT],[(4,.row 51 [(JQ 18),(Z6 v6.Bits),(Z6 v6.Lanes),(Z6 v6.Dst),(zQ v1 (PI v6) x13.1),(JV v6.Imm)]),(6,.row 51 m7),(30000,.row 71 (vo x13)),(NX 37007 x13.2.2.2.1.length)],[]⟩) Vc Ro q) (Gu (.cons (AVle.refl _) (.cons (AVle.refl _) .nil)) (.row (.cons (AVle.refl _) (.cons (AVle.refl _) (.cons (AVle.refl _) (.cons (AVle.refl _) (.cons AVle.untag (.cons (AVle.refl _) .nil)))))) (.same (.same (.same .nil)))))))))) λh=>Ae q [0,2,4,6,9,24] Ro (gC h (λh=>tC h λc14_ h=>tC h λc15_ h=>gR q Vc Ro [(35,(zQ v1 (PI v6) (kd v6)))] [] (c3 c14_ c15_ (Az 1 Am (0:Int) ([v1,(PI v6),(kd v6)]:Ao))) (tS h (gK (A3 (Le.trans (A8 (st':=⟨[LZ,JT],[(4,.row 51 [(JQ 19),(Z6 v6.Bits),(Z6 v6.Lanes),(Z6 v6.Dst),(zQ v1 (PI v6) (kd v6)),(JV v6.Imm)]),(6,.row 51 m7),(30000,.row 71 (rj v0 v37 v7 v11)),(NX 37007 v7.length)],[]⟩) Vc Ro q) (Gu (.cons (AVle.refl _) (.cons (AVle.refl _) .nil)) (.row (.cons (AVle.refl _) (.cons (AVle.refl _) (.cons (AVle.refl _) (.cons (AVle.refl _) (.cons AVle.untag (.cons (AVle.refl _) .nil)))))) (.same (.same (.same .nil)))))))))) λh=>Ae q [0,2,4,6,9,38] Ro (gC h (λh=>tC h λc16_ h=>tC h λc17_ h=>tB h λx18 y18 h=>gR q Vc Ro [(53,(AV.list 1 Am 0 ([v1,(PI v6),(kd v6),x18.1]:Ao) .exact))] [⟨Yw,[],(Z6 x18.1),(lB (vp x18) x18.2.2.2.1.length),[],[]⟩] (c4 c16_ c17_ (show(sP 117 (yP v6) (lB (rj v0 v37 v7 v11) v7.length) (Z6 x18.1) (lB (vp x18) x18.2.2.2.1.length)) from(Spec.args (.cons (AVle.refl _) (.cons (AVle.refl _) (.cons (AVle.refl _) (.cons (AVle.refl _) (.cons OT .nil))))) (Ek y18))) (Az 1 Am (0:Int) ([v1,(PI v6),(kd v6),x18.1]:Ao))) (tS h (gK (A3 (Le.trans (A8 (st':=⟨[LZ,JT],[(4,.row 51 [(JQ 20),(Z6 v6.Bits),(Z6 v6.Lanes),(Z6 v6.Dst),(AV.list 1 Am 0 ([v1,(PI v6),(kd v6),x18.1]:Ao) .exact),(JV v6.Imm)]),(6,.row 51 m7),(30000,.row 71 (vp x18)),(NX 37007 x18.2.2.2.1.length)],[]⟩) Vc Ro q) (Gu (.cons (AVle.refl _) (.cons (AVle.refl _) .nil)) (.row (.cons (AVle.refl _) (.cons (AVle.refl _) (.cons (AVle.refl _) (.cons (AVle.refl _) (.cons AVle.untag (.cons (AVle.refl _) .nil)))))) (.same (.same (.same .nil)))))))))) λh=>tB h λx20 y20 h=>gJ y20 (λb19=>aG Γ .normal (⟨[(0,Wu),(2,(Z6 v1)),LZ,JT,(56,(.bool b19))],[(4,.row 51 (vO v6.Kind v6.Bits v6.Lanes v6.Dst v6.Args v6.Imm)),(6,.row 51 m7),(30000,.row 71 (rj v0 v37 v7 v11)),(NX 37007 v7.length)],[]⟩:St)) (λy h=>Ae q [0,2,4,6,9,56] Ro (gC h (λh=>tS h (gK (A3 (A8 ik Ro q)))) λh=>Ae q [0,2,4,6,9,56] Ro (gC h (λh=>tS h (gK (A3 (A8 ik Ro q)))) λh=>Ae q ik Ro (tS h (gK (A3 Gt)))))) (gA (gC h (λh=>tC h λc22_ h=>tB h λx23 y23 h=>gR q [4,6,7] Ro [(66,(sr (PI v6) v1))] [(sl x23.1 x23.2.1.Params x23.2.1.Ret x23.2.1.Blocks x23.2.2.1.At x23.2.2.1.Then x23.2.2.1.Else x23.2.2.1.Join x23.2.2.2.1 x23.2.2.2.2 x23.2.2.2.1.length)] (c3 c22_ (Az 1 Am (0:Int) ([(PI v6),v1]:Ao)) (Ek y23)) (tC h λc24_ h=>tC h λc25_ h=>gR q Vc [4,6,73,30000,37007] [(69,(mh x23.1)),(72,(Mw (ke v6))),(73,(AV.list 1 Am 0 (([x23.1]:Ao)++(ke v6)) (.own 73)))] [] (c7 (Az 1 Am (0:Int) ([x23.1]:Ao)) c24_ (show(AVle (Z69 v6.Args) (Mw (ke v6))) from ZP) c25_ (show(3=Zc->([x23.1]:Ao).length=0\/0<(ke v6).length) from(λh_=>absurd h_ (by decide))) (Cu 1 73 Am (0:Int) ([x23.1]:Ao) (ke v6)) (Br ([x23.1]:Ao) (ke v6))) (tS h (gK (A3 (A8 Vc Ro q)))))) λh=>tS h (gK (A3 (A8 Vc Ro q))))))))) (match x26,h with|⟨i1,l2,l3,i4,l5,i6,i7,i8,i9,l10,i11⟩,h=>gA (Ae q [6] [6,30000,37007] (tS h (Bp Yw)))))
abbrev xl:=(Int×Ao×Int×List Ab×Int×Int×Int×Int×List A2×Int)
def Gz(aaQ:List A2)(aaW:Int):xl->Option (LR (Int×Ao×Int×List Ab×Int×Int×Int×Int×List A2×Int) (Ao×Int×List Ab×Int×Int×Int×Int×List A2×Int)):=
 λ((i1,l2,i3,l4,i5,i6,i7,i8,l9,i10):xl)=>(bif (decide (i1<(aaQ.length:Int))) then(Aw (As i1 aaQ.length) ((Ig (aaQ.getD i1.toNat default) aaW (⟨l2,i3,l4⟩:TFunc) (⟨i5,i6,i7,i8⟩:THammock) l9 i10).bind λx21=>(Aw (x21.2.2.2.1.length+([(⟨x21.1.Kind,x21.1.Bits,x21.1.Lanes,x21.1.Dst,x21.1.Args,x21.1.Imm⟩:A2)]:List A2).length<=room) (some (.next ((w64 (i1+1)),x21.2.1.Params,x21.2.1.Ret,x21.2.1.Blocks,x21.2.2.1.At,x21.2.2.1.Then,x21.2.2.1.Else,x21.2.2.1.Join,(x21.2.2.2.1++([(⟨x21.1.Kind,x21.1.Bits,x21.1.Lanes,x21.1.Dst,x21.1.Args,x21.1.Imm⟩:A2)]:List A2)),x21.2.2.2.2)))))) else(some (.done (l2,i3,l4,i5,i6,i7,i8,l9,i10))))
def rk(x21:xk):=([(⟨x21.1.Kind,x21.1.Bits,x21.1.Lanes,x21.1.Dst,x21.1.Args,x21.1.Imm⟩:A2)]:List A2)
abbrev vA:=(TFunc×THammock×List A2×Int)
def Ef(aaQ:List A2)(aaW:Int)(a3:TFunc)(a5:THammock)(a7:List A2)(a8:Int):Option vA:=
 ((Ad (Gz aaQ aaW) ((0:Int),a3.Params,a3.Ret,a3.Blocks,a5.At,a5.Then,a5.Else,a5.Join,a7,a8)).bind (λ(l11,i12,l13,i14,i15,i16,i17,l18,i19)=>(some ((⟨l11,i12,l13⟩:TFunc),(⟨i14,i15,i16,i17⟩:THammock),l18,i19))))
variable{v43:vA}
theorem P2(h:Ef v7 v1 v0 v37 v39 v11=some v43):sP 114 [Wu,(bu v7),(Z6 v1)] (OP v0.Params v0.Ret v0.Blocks v37.At v37.Then v37.Else v37.Join v39 v11 v39.length) (.tuple []) (OP v43.1.Params v43.1.Ret v43.1.Blocks v43.2.1.At v43.2.1.Then v43.2.1.Else v43.2.1.Join v43.2.2.1 v43.2.2.2 v43.2.2.1.length):=
 sG Tryz.func114 λΓ q=>Ae q bh Mj (tL q h bh Mj (λu (i1,l2,i3,l4,i5,i6,i7,i8,l9,i10)=>(Cn u [(10,(Z6 i1))] (OP l2 i3 l4 i5 i6 i7 i8 l9 i10 l9.length))) (λu (l11,i12,l13,i14,i15,i16,i17,l18,i19)=>aG Γ (.exit 0) (⟨[],(OP l11 i12 l13 i14 i15 i16 i17 l18 i19 l18.length),[]⟩:St)) (λ⟨i1,l2,i3,l4,i5,i6,i7,i8,l9,i10⟩ y h=>Ae q [0,2,8,9,10,11] Mj (gC h (λh=>tV q [0,2,7,8,9,10] [7,30000,37007] h λh=>tB h λx21 y21 h=>tT q [0,2,7,8,9,10] [7,30000,37007] [⟨Yw,[],(UU x21.1),(OP x21.2.1.Params x21.2.1.Ret x21.2.1.Blocks x21.2.2.1.At x21.2.2.1.Then x21.2.2.1.Else x21.2.2.1.Join x21.2.2.2.1 x21.2.2.2.2 x21.2.2.2.1.length),[],[]⟩] (c1 (Wi y21)) (tC h λc22_ h=>gR q bh Mj (zK 24 (rk x21) 25 x21.2.2.2.1) [] (c5 (Az 6 Kd (default:A2) (rk x21)) (Eq.refl x21.2.2.2.1.length) c22_ (Cu 6 37007 Kd (default:A2) x21.2.2.2.1 (rk x21)) (Br x21.2.2.2.1 (rk x21))) (Ae q bh Mj (tN h)))) λh=>tS h (gO (A3 (A8 [] Mj q))))) λx23 h=>(match x23,h with|⟨l11,i12,l13,i14,i15,i16,i17,l18,i19⟩,h=>mn (λst' hl24=>tS h (gK (e:=.normal) (H5 Yw hl24)))))
def Vu(aa3:Int):Option Bool:=
 (Option.bind (α:=Bool) (bif (aa3==4) then(some (aa3==4)) else(bif (aa3==16) then(some (aa3==16)) else(bif (aa3==17) then(some (aa3==17)) else(bif (aa3==18) then(some (aa3==18)) else(bif (aa3==19) then(some (aa3==19)) else(some (aa3==20))))))) (λx2=>(bif x2 then(some false) else((O8 aa3).bind λx4=>(some x4)))))
theorem bD(h:Vu v1=some v3):sP 166 [(Z6 v1)] [] (.bool v3) []:=
 sG Tryz.func166 λΓ q=>tW q [0] [] R0 [] (tB h λx2 y2 h=>gJ y2 (λb1=>aG Γ .normal (⟨[(0,(Z6 v1)),(4,(.bool b1))],[],[]⟩:St)) (λy h=>Ae q Tn [] (gC h (λh=>tS h (gK (A3 (A8 Yv [] q)))) λh=>Ae q Tn [] (gC h (λh=>tS h (gK (A3 (A8 Yv [] q)))) λh=>Ae q Tn [] (gC h (λh=>tS h (gK (A3 (A8 Yv [] q)))) λh=>Ae q Tn [] (gC h (λh=>tS h (gK (A3 (A8 Yv [] q)))) λh=>Ae q Tn [] (gC h (λh=>tS h (gK (A3 (A8 Yv [] q)))) λh=>Ae q Yv [] (tS h (gK (A3 Gt))))))))) (gA (gC h (λh=>Ae q [2] [] (tS h (Bp []))) λh=>tB h λx4 y4 h=>tT q [2] [] [(Z7 x4)] (c1 (BZ y4)) (tS h (Bp [])))))
def Ou(a2:A2):Option Bool:=
 ((Vu a2.Kind).bind λx1=>(some (!x1)))
theorem BV(h:Ou v6=some v3):sP 116 [(UU v6)] [] (.bool v3) []:=
 sG Tryz.func116 λΓ q=>Ae q [1] [1] (tB h λx1 y1 h=>tT q [2] [] [(Z7 x1)] (c1 (bD y1)) (tS h (Bp [])))
def m_slices_IndexFunc_api_Op_api_Op_v2_L1(aL:List A2):Int->Option (LR Int (Unit ⊕ Int)):=
 λ(i1:Int)=>(bif (decide (i1<(aL.length:Int))) then(Aw (As i1 aL.length) ((Ou (aL.getD i1.toNat default)).bind λx3=>(bif x3 then(some (.done (.inr i1))) else(some (.next (w64 (i1+1))))))) else(some (.done (.inl ()))))
def O1(Γ:H4)(aL:List A2)(r:Int):Exit->St->Prop:=fK Tryz.prog Γ Tryz.f113.results.toList [] (.int .i64 r) []
def E8(aL:List A2):Option Int:=
 ((Ad (m_slices_IndexFunc_api_Op_api_Op_v2_L1 aL) (0:Int)).bind (λx4=>(match x4 with|(.inl _)=>(some (-1:Int))|(.inr r6)=>(some r6))))
theorem Oy(h:E8 v7=some v1):sP 113 [(bu v7),(.clo 116 [] [])] [] (.int .i64 v1) []:=
 sG Tryz.func113 λΓ q=>tW q Fe [] JM [] (tL q h JM [] (λu i1=>(Cn u [(8,(Z6 i1))] [])) (λu x_=>match x_ with|(.inl _)=>aG Γ (.exit 0) (⟨[],[],[]⟩:St)|(.inr r_)=>aR (O1 Γ v7 r_)) (λi1 y h=>Ae q ir [] (gC h (λh=>Ae q iu [] (tC h λc2_ h=>tB h λx3 y3 h=>tT q iV [] [(Z7 x3)] (c2 c2_ (BV y3)) (gC h (λh=>Ae q [4] [] (tS h (gO (Mk (H5 [] (Le.refl _ _)))))) λh=>Ae q JM [] (tN h)))) λh=>tS h (gO (A3 (A8 [] [] q))))) λx4 h=>(match x4,h with | .inl _,h=>gA (Ae q [4] [] (tS h (Bp []))) | .inr r6,h=>gAr (λst' hk=>tS h (gK hk))))
def Cl(aL:List A2):Option Bool:=
 ((E8 aL).bind λx1=>(some (decide ((0:Int)<=x1))))
theorem Ni(h:Cl v7=some v3):sP 60 [(bu v7),(.clo 116 [] [])] [] (.bool v3) []:=
 sG Tryz.func60 λΓ q=>Ae q Fe [] (tB h λx1 y1 h=>tT q [4] [] [(JP x1)] (c1 (Oy y1)) (tS h (Bp [])))
def rl(x2:vA):List AV:=(Z2 x2.1.Params x2.1.Ret x2.1.Blocks x2.2.1.At x2.2.1.Then x2.2.1.Else x2.2.1.Join x2.2.2.1 x2.2.2.2)
def yR(a3:TFunc)(a5:THammock)(a7:List A2)(a8:Int):List AV:=(Z2 a3.Params a3.Ret a3.Blocks a5.At a5.Then a5.Else a5.Join a7 a8)
def yQ(x15:mY):List OM:=(OP x15.2.1.Params x15.2.1.Ret x15.2.1.Blocks x15.2.2.1.At x15.2.2.1.Then x15.2.2.1.Else x15.2.2.1.Join x15.2.2.2.1 x15.2.2.2.2 x15.2.2.2.1.length)
def Hu(aaD:Int)(a3:TFunc)(a5:THammock)(a7:List A2)(a8:Int):Option vA:=
 ((Fq a5.Then a3 a5 a7 a8).bind λx1=>((Ef x1 aaD a3 a5 a7 a8).bind λx2=>((Fq x2.2.1.Else x2.1 x2.2.1 x2.2.2.1 x2.2.2.2).bind λx3=>(Option.bind (α:=xl) ((Cl x3).bind λx14=>(bif x14 then((Ce (0:Int) (1:Int) (1:Int) ([]:Ao) x2.1 x2.2.1 x2.2.2.1 x2.2.2.2).bind λx15=>((Ce (7:Int) (1:Int) (0:Int) ([aaD,x15.1]:Ao) x15.2.1 x15.2.2.1 x15.2.2.2.1 x15.2.2.2.2).bind λx16=>(some (x16.1,x16.2.1.Params,x16.2.1.Ret,x16.2.1.Blocks,x16.2.2.1.At,x16.2.2.1.Then,x16.2.2.1.Else,x16.2.2.1.Join,x16.2.2.2.1,x16.2.2.2.2)))) else(some ((0:Int),x2.1.Params,x2.1.Ret,x2.1.Blocks,x2.2.1.At,x2.2.1.Then,x2.2.1.Else,x2.2.1.Join,x2.2.2.1,x2.2.2.2)))) (λ(i4,l5,i6,l7,i8,i9,i10,i11,l12,i13)=>((Ef x3 i4 (⟨l5,i6,l7⟩:TFunc) (⟨i8,i9,i10,i11⟩:THammock) l12 i13).bind λx19=>(some (x19.1,x19.2.1,x19.2.2.1,x19.2.2.2))))))))
theorem Vh(h:Hu v1 v0 v37 v7 v11=some v43):sP 63 [Wu,(Z6 v1)] (OP v0.Params v0.Ret v0.Blocks v37.At v37.Then v37.Else v37.Join v7 v11 v7.length) (.tuple []) (OP v43.1.Params v43.1.Ret v43.1.Blocks v43.2.1.At v43.2.1.Then v43.2.1.Else v43.2.1.Join v43.2.2.1 v43.2.2.2 v43.2.2.1.length):=
 sG Tryz.func63 λΓ q=>tB h λx1 y1 h=>tB h λx2 y2 h=>tT q Fe Mj [⟨Yw,[],(bu x1),(lB (yR v0 v37 v7 v11) v7.length),[],Mj⟩,⟨Yw,[],(.tuple []),(lB (rl x2) x2.2.2.1.length),[],[]⟩] (ci (Pa y1) (rkc [(.row 71 (yR v0 v37 v7 v11)),(.tok 6 51 v7.length)] (c1 (P2 y2)))) (tB h λx3 y3 h=>tT q [0,1,4] Mj [⟨Yw,[],(bu x3),(lB (rl x2) x2.2.2.1.length),[],Mj⟩] (ci (Pa y3) (rkl [(.row 71 (rl x2)),(.tok 6 51 x2.2.2.1.length)])) (Ae q [0,1,4,5] Mj (tB h λx17 y17 h=>gJ y17 (λ(i4,l5,i6,l7,i8,i9,i10,i11,l12,i13)=>aG Γ .normal (⟨[(0,Wu),(4,(bu x3)),(5,(Z6 i4))],(OP l5 i6 l7 i8 i9 i10 i11 l12 i13 l12.length),[]⟩:St)) (λy h=>tB h λx14 y14 h=>tT q [0,1,4,5,24] Mj [(Z7 x14)] (c1 (Ni y14)) (gC h (λh=>tB h λx15 y15 h=>tB h λx16 y16 h=>gR q [0,4,5] Mj [(29,(sr v1 x15.1))] [(sj 37007 x15.1 (yQ x15)),(sl x16.1 x16.2.1.Params x16.2.1.Ret x16.2.1.Blocks x16.2.2.1.At x16.2.2.1.Then x16.2.2.1.Else x16.2.2.1.Join x16.2.2.2.1 x16.2.2.2.2 x16.2.2.2.1.length)] (c3 (show(sP 117 [Wu,La,mi,(.int .u64 (1:Int)),(.slice 0 0 (λ_=>[]) .none)] (lB (rl x2) x2.2.2.1.length) (Z6 x15.1) (yQ x15)) from(Spec.args (.cons (AVle.refl _) (.cons (AVle.refl _) (.cons (AVle.refl _) (.cons (AVle.refl _) (.cons OT .nil))))) (Ek y15))) (Az 1 Am (0:Int) ([v1,x15.1]:Ao)) (Ek y16)) (tS h (gK (A3 Gt)))) λh=>tS h (gK (A3 (A8 [0,4,5] Mj q))))) (match x17,h with|⟨i4,l5,i6,l7,i8,i9,i10,i11,l12,i13⟩,h=>gA (tB h λx19 y19 h=>tT q [] Mj [⟨Yw,[],(.tuple []),(OP x19.1.Params x19.1.Ret x19.1.Blocks x19.2.1.At x19.2.1.Then x19.2.1.Else x19.2.1.Join x19.2.2.1 x19.2.2.2 x19.2.2.1.length),[],[]⟩] (c1 (P2 y19)) (tS h (gK (e:=.normal) (H5 Yw (Le.refl _ _)))))))))
def G6(aaX:Int)(a3:TFunc)(a5:THammock)(a7:List A2)(a8:Int):Option Int:=
 (bif (aaX==-1) then(some a5.At) else(some aaX))
theorem Re(h:G6 v1 v0 v37 v7 v11=some v20):sP 118 [Wu,(Z6 v1)] (OP v0.Params v0.Ret v0.Blocks v37.At v37.Then v37.Else v37.Join v7 v11 v7.length) (.int .i64 v20) (OP v0.Params v0.Ret v0.Blocks v37.At v37.Then v37.Else v37.Join v7 v11 v7.length):=
 sG Tryz.func118 λΓ q=>tW q Fe Mj [0,1,6] Mj (gC h (λh=>Ae q [4] Mj (tS h (Bp Yw))) λh=>Ae q [4] Mj (tS h (Bp Yw)))
def Sv(aJ:Bf)(aK:Int):Option Int:=
 ((Ej aJ.From aK).bind λx1=>(Aw (As x1 aJ.Args.length) (some (aJ.Args.getD x1.toNat 0))))
theorem IJ(h:Sv v4 v1=some v11):sP 120 [(.agg (Gs v4)),(Z6 v1)] [] (.int .i64 v11) []:=
 sG Tryz.func120 λΓ q=>Ae q Ng [2] (tB h λx1 y1 h=>tC h λc2_ h=>tT q [4] [] [(JP x1)] (c2 (P3 y1) c2_) (tS h (Bp [])))
def I6(aI:Int)(aaD:Int)(aaR:Int)(aaT:Int)(a3:TFunc)(a5:THammock)(a7:List A2)(a8:Int):Option mY:=
 (bif (aaR==aaT) then(some (aaR,a3,a5,a7,a8)) else((Ce (13:Int) aI (0:Int) ([aaD,aaR,aaT]:Ao) a3 a5 a7 a8).bind λx1=>(some (x1.1,x1.2.1,x1.2.2.1,x1.2.2.2.1,x1.2.2.2.2))))
variable{v44:Int}
theorem W8(h:I6 v1 v11 v20 v40 v0 v37 v7 v44=some v41):sP 119 [Wu,(Z6 v1),(Z6 v11),(Z6 v20),(Z6 v40)] (OP v0.Params v0.Ret v0.Blocks v37.At v37.Then v37.Else v37.Join v7 v44 v7.length) (Z6 v41.1) (OP v41.2.1.Params v41.2.1.Ret v41.2.1.Blocks v41.2.2.1.At v41.2.2.1.Then v41.2.2.1.Else v41.2.2.1.Join v41.2.2.2.1 v41.2.2.2.2 v41.2.2.2.1.length):=
 sG Tryz.func119 λΓ q=>tW q iv Mj [0,1,2,3,4,13] Mj (gC h (λh=>Ae q [10] Mj (tS h (Bp Yw))) λh=>tB h λx1 y1 h=>gR q [10] Mj [(20,(zQ v11 v20 v40))] [(sl x1.1 x1.2.1.Params x1.2.1.Ret x1.2.1.Blocks x1.2.2.1.At x1.2.2.1.Then x1.2.2.1.Else x1.2.2.1.Join x1.2.2.2.1 x1.2.2.2.2 x1.2.2.2.1.length)] (c2 (Az 1 Am (0:Int) ([v11,v20,v40]:Ao)) (Ek y1)) (tS h (Bp Yw)))
def Pl(aD:Int):Option Bool:=
 (some (aD !=aD))
theorem W6(h:Pl v1=some v3):sP 228 [(Z6 v1)] [] (.bool v3) []:=
 sG Tryz.func228 λΓ q=>tW q [0] [] [2] [] (tS h (Bp []))
def Ug(aD:Int)(aa5:Int):Option Bool:=
 ((Pl aD).bind λx1=>((bif (x1==true) then Pl aa5 else some false).bind λx2=>(some (bif (bif x1 then(!x2) else false) then true else(decide (aD<aa5))))))
theorem OB(h:Ug v1 v11=some v3):sP 198 [(Z6 v1),(Z6 v11)] [] (.bool v3) []:=
 sG Tryz.func198 λΓ q=>Ae q Fe [] (tB h λx1 y1 h=>tB h λx2 y2 h=>tT q [4] [] [(Z7 x1),(Z7 x2)] (d5_ (W6 y1) (gI (x1==true)) (λ(hg:(x1==true)=true)=>(W6 (Ba hg y2))) (gI (x1==true)) (M7 x1) (J7 ((bif x1 then(!x2) else false)==false) (c1 (I4 (bif x1 then(!x2) else false))))) (tS h (Bp [])))
def Mb(aD:Int):Option Bool:=
 (some (aD !=aD))
theorem Ti(h:Mb v1=some v3):sP 199 [(Z6 v1)] [] (.bool v3) []:=
 sG Tryz.func199 λΓ q=>tW q [0] [] [2] [] (tS h (Bp []))
def B1(aD:Ao)(aa2:Int):Hn->Option iI:=
 λ((i1,i2):Hn)=>(bif (decide (i1<i2)) then(Aw (As (w64 (Xf .u64 (Fj (w64 (i1+i2))) (1:Int))) aD.length) ((Ug (aD.getD (w64 (Xf .u64 (Fj (w64 (i1+i2))) (1:Int))).toNat (0:Int)) aa2).bind λx5=>(bif x5 then(some (.next ((w64 ((w64 (Xf .u64 (Fj (w64 (i1+i2))) (1:Int)))+1)),i2))) else(some (.next (i1,(w64 (Xf .u64 (Fj (w64 (i1+i2))) (1:Int))))))))) else(some (.done i1)))
def m8(x6:Int)(aD:Ao):=((decide (x6<(aD.length:Int)))==true)
def VA(x6:Int)(aD:Ao)(aa2:Int):=((m8 x6 aD)&&(((aD.getD x6.toNat 0)==aa2)==false))
def Eu(aD:Ao)(aa2:Int):Option (Int×Bool):=
 ((Ad (B1 aD aa2) ((0:Int),(aD.length:Int))).bind (λx6=>(Aw (((decide (x6<(aD.length:Int)))==true)=true->(As x6 aD.length)) (Aw ((((decide (x6<(aD.length:Int)))==true)&&(((aD.getD x6.toNat 0)==aa2)==false))=true->(As x6 aD.length)) ((bif (((decide (x6<(aD.length:Int)))==true)&&(((aD.getD x6.toNat 0)==aa2)==false)) then Mb (aD.getD x6.toNat 0) else some false).bind λx10=>((bif ((((decide (x6<(aD.length:Int)))==true)&&(((aD.getD x6.toNat 0)==aa2)==false))&&(x10==true)) then Mb aa2 else some false).bind λx11=>(some (x6,(bif (decide (x6<(aD.length:Int))) then(bif ((aD.getD x6.toNat 0)==aa2) then true else(bif x10 then x11 else false)) else false)))))))))
variable{v45:(Int×Bool)}
theorem Sd(h:Eu v2 v1=some v45):sP 167 [(Mw v2),(Z6 v1)] [] (.tuple [(Z6 v45.1),(.bool v45.2)]) []:=
 sG Tryz.func167 λΓ q=>tW q Fe [] [0,1,6] [] (Ae q TO [] (tL q h TO [] (λu (i1,i2)=>(Cn u [(7,(Z6 i1)),(8,(Z6 i2))] [])) (λu i3=>aG Γ (.exit 0) (Nc UA [] u [(7,(Z6 i3))] [])) (λ⟨i1,i2⟩ y h=>Ae q [0,1,6,7,8,15] [] (gC h (λh=>tU q [0,1,6,7,8,9] [] (c1 (show(0<=(1:Int)) from(by decide))) (tC h λc4_ h=>tB h λx5 y5 h=>tT q [0,1,6,7,8,9,27] [] [(Z7 x5)] (c2 c4_ (OB y5)) (gC h (λh=>Ae q TO [] (tN h)) λh=>Ae q TO [] (tN h)))) λh=>tS h (gO (A3 (A8 UA [] q))))) λx6 h=>gA (tC h λc8_ h=>tC h λc9_ h=>tB h λx10 y10 h=>tB h λx11 y11 h=>tT q Px [] [(Z7 x10),(Z7 x11)] (J7 (m8 x6 v2) (ci c8_ (QH (m8 x6 v2) (J7 (VA x6 v2 v1) (ci c9_ (J7 (VA x6 v2 v1) (c9 (λ(hg:(VA x6 v2 v1)=true)=>(Ti (Ba hg y10))) (gI (VA x6 v2 v1)) (gI ((VA x6 v2 v1)&&(x10==true))) (λ(hg:((VA x6 v2 v1)&&(x10==true))=true)=>(Ti (Ba hg y11))) (gI (VA x6 v2 v1)) (show((VA x6 v2 v1)=true->(x10=true->((VA x6 v2 v1)&&(x10==true))=true)) from(λhg=>(aT hg))) (gI (m8 x6 v2)) (show((m8 x6 v2)=true->(((v2.getD x6.toNat 0)==v1)=false->(VA x6 v2 v1)=true)) from(λhg=>(aF hg))) (M7 (decide (x6<(v2.length:Int))))))))))) (tS h (Bp [])))))
end
end Go.Proofs.YtlnbjgmjaioagaaGreat
