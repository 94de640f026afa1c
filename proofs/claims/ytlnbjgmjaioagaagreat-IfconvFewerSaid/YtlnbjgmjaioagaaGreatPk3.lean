/-
  The machine, the program's functions and the laws' arithmetic: part 3 of 6.
-/
import Derived.Test.YtlnbjgmjaioagaaGreatPk2
import Derived.Test.YtlnbjgmjaioagaaGreatProg
set_option linter.unusedSectionVars false
set_option linter.unusedVariables false
set_option linter.unusedSimpArgs false
namespace Go.Proofs.YtlnbjgmjaioagaaGreat
noncomputable section
abbrev Ao:=List Int
abbrev Kc:=List (List Int)
def I4:=[30000,37006,9100005]
def EV:=[(30000,30000),(37006,37006),(9100005,9100005)]
def I7:=[30000,37006]
def Tg:=[3,30000,37006,9100005]
def Yy:=[(30000,30000),(37007,37007)]
def Qg:=[2,5,6,25,36007]
def Jy:=[1,5,5003]
def Wo:=[6,30000,37006,9100005]
def Mo:=[30000,37007]
def Hp:=[1,3,4]
def Gn:=[1,3,4,5]
def Zg:=[(30000,30000),(37006,37006)]
def Cc:=[2,3]
def Rp:=[4,6,30000,37007]
def Tm:=[5,10,36011,36012]
def Kd:=[2,13,21]
def Ot:=[1,3,4,5,6]
def Rq:=[8,30000,37006]
def NQ:=[1,2,3,4,5,10,11,12,18,19,20]
def Nh:=[1,7,8,9]
def Zh:=[30000,37006,13000005]
def Jn:=[2,5,7]
def JM:=[3,5,30000,37006,9100005]
def JN:=[0,4,6,21,22,30,31,32]
def Fg:=[0,1]
def FQ:=[2,5,6,7,26,27,28]
def V3:=[2,7,77,70077]
def Ln:=[37,75]
def Ni:=[1,5003]
def FR:=[1,3,5,21,22,23]
def FS:=[1,2,4,10,11,12]
def NR:=[5,30000,37006,9100005]
def kP:=[0,2,3,8,9,16,17,18,54,55,56,62,63,64]
def I8:=[1,3]
def kQ:=[0,2,3,5,16,17,18,24,25,26,31,32,33]
def Tn:=[1,6,5003]
def Rr:=[1,5,14]
def Ph:=[0,1,5]
def L2:=[3,14]
def FT:=[2,5,6,7,8,9]
def Zi:=[1,2,7,5005]
def UL:=[1,2,4,5,6,7,8,10]
def YT:=[3,9,30000,37006,9100005]
def UM:=[0,2,6,7,90,91,92]
def DG:=[2,5,6,7,8]
def eg:=[0,2,3,16,17,18,24,25,26]
def eh:=[0,2,3,16,17,18,54,55,56]
def Vd:=[2,33,59]
def YU:=[0,1,5,6,7,37,38,39]
def rF:=[(30000,30000),(37006,37006),(13000005,9200005)]
def rG:=[(30000,30000),(37006,37006),(9300005,9200005)]
def kR:=[1,3,5,6,7,21,22,23,50,51,52]
def V4:=[10,70010]
def FU:=[1,3,7,5005]
def UN:=[1,2,7,5005,5008]
def Nj:=[1,2]
def Tq:=[0,3,4]
def kS:=[1,3,5,6,7,21,22,23,50,51]
def UO:=[5007,30000,37007]
def YV:=[2,6,43,5602,30000]
def NS:=[1,5,7,11,12]
def UP:=[2,35,37,46,51]
def rH:=[1,3,5,6,7,10,11,21,22,23,50,51]
def rI:=[1,3,5,6,7,10,21,22,23,50,51,63]
def NT:=[1,7,8,9,10]
def V5:=[2,5,6]
def YW:=[3,31,30000,37006]
def UQ:=[2,6,17,18,19]
def YX:=[1,5,7,11,12,13]
def ek:=[1,2,5,6,7,8,9,10]
def NU:=[1,6,7,8,9]
def kT:=[3,4,11,12,13,18,19,20]
def kU:=[0,5,12,13,14,18,19,20]
def kV:=[3,5,14,15,16,21,22,23]
def Zj:=[2,4,11]
def Zk:=[2,4,10]
def Xl:=[1,4,7]
def kW:=[6,7,30000,37006,9100005]
def kX:=[1,5,7,11,12,13,14,15]
def rJ:=[1,3,5,6,7,9,21,22,23,50,51]
def YY:=[1,3,7,10,5005]
def UR:=[1,7,8,9,16]
def FV:=[0,21,22]
def R4:=[0,3]
def YZ:=[31,30000,37006]
def R5:=[1,4]
def JO:=[1,3,5,6]
def JP:=[0,1,7,8]
def JQ:=[1,3,5005]
def kY:=[3,14,15,16,33,34,35]
def JR:=[1,3,4,6]
def ZA:=[1,2,5,6,7,8]
def en:=[0,2,3,16,17,18]
def er:=[1,2,4,6,7,8,9]
def et:=[2,5,7,10,11,12]
def NV:=[33,59,103]
def S4:=[2,4]
def DH:=[1,2,4]
def rK:=[0,4,6,21,22,30,31,32,33]
def rL:=[0,4,6,21,22,30,31,32,40]
def Vb:=[2,4,6]
def HA:=[0,4,12,13]
def LP:=[0,5,8,9,10]
def iM:=[0,4,6,8,21,22,30,31,32]
def bV:=[1,2,4,5,13,14,15]
def LQ:=[1,5,72,5003]
def DA:=[2,5,7,9]
def DB:=[2,4,6,9]
def TH:=[2,3,7,8,9,10]
def TI:=[1,2,6,8,9,10]
def qp:=[(30000,30000),(37006,37006),(8,9200005)]
def bW:=[1,3,4,5,9,10,11]
def HB:=[1,3,7,17]
def Wl:=[1,2,5]
def P0:=[4,5]
def LS:=[0,16,17,18]
def LT:=[(6002,20000)]
def iN:=[1,2,4,5,6,7,13,14,15]
def TJ:=[0,2,4,7,8,9]
def LU:=[1,2,4,5,6]
def LV:=[1,5,7,5003]
def bX:=[2,5,6,7,8,9,10]
def iO:=[6,8,30000,37006,9100005]
def TK:=[3,30000,37006]
def bY:=[2,4,5,18,19,20]
def iP:=[0,6,8,9,10,11,12,13]
def bZ:=[2,3,25,43,30000]
def ba:=[1,3,4,5,6,7,8]
def Yw:=[2,3,5]
def DC:=[0,1,10]
def TL:=[3,11,12,13]
def TM:=[0,12,13,14]
def TN:=[(6004,20000)]
def TO:=[0,1,6,7,8]
def TP:=[6,18,19,25]
def TQ:=[3,14,15,16]
def TR:=[0,2,4,7,8]
def TS:=[2,3,7,8,9]
def TT:=[1,3,5,6,7]
def TU:=[1,3,5,6,8]
def TV:=[1,3,4,5,9]
def iQ:=[1,5,7,11,12,13,14]
def TW:=[1,2,4,6,7]
def Tf:=[2,5]
def bb:=[0,4,12,13,14]
def LW:=[2,5,6,7]
def LX:=[18,19,20]
def DD:=[2,5006]
def bc:=[1,5,11,12,13]
def iR:=[1,2,4,5,6,7,8,9]
def Wm:=[2,16]
def qq:=[2,5,6,7,9,10,26,27,28,44]
def HC:=[1,4,22]
def HD:=[1,3,17]
def TX:=[5,7,12,13]
def iS:=[30000,37006,9300005]
def be:=[2,6,43,30000]
def iT:=[0,1,5,6,8,9,10]
def Vc:=[4,6]
def LY:=[2,35,37]
def TY:=[2,5,7,10]
def bf:=[0,1,3,9,10]
def bg:=[0,2,8,9,10]
def HE:=[0,2,3]
def iU:=[0,1,5,14,15,16]
def HF:=[1,3,5]
def HG:=[2,3,6]
def iV:=[1,2,4,5,6,7,8]
def HH:=[1,2,6]
def qr:=[2,5,6,7,9,10,26,27,28]
def bh:=[3,10,11,12]
def TZ:=[1,2,4,5]
def UA:=[0,1,6,7]
def UB:=[0,1,5,6]
def bi:=[0,15,16,17]
def bj:=[0,21,22,23]
def Wn:=[6,7]
def iW:=[0,6,8,9,11,49]
def UC:=[0,2,4,5]
def UD:=[1,2,5005]
def UE:=[2,3,7,8]
def UF:=[2,3,8005]
def bm:=[1,3,4,5,7]
def qs:=[(36011,34000),(55,34002)]
def qt:=[(36012,34000),(60,34002)]
def qu:=[(30000,30000),(25,37007)]
def iX:=[0,1,5,7,8,16]
def qv:=[2,5,6,7,26,27,28,29]
def DE:=[1,14]
def qw:=[1,2,4,6,10,11,12,20]
def qx:=[1,2,4,7,10,11,12,28]
def DF:=[2,33]
def UG:=[5,18,19]
def UH:=[6,18,19]
def iY:=[1,2,15,16,17]
def qy:=[2,5,6,7,9,26,27,28]
def iZ:=[0,1,32,33,34]
def qz:=[10,30000,37006,9100005]
def ia:=[1,3,7,9,5005]
def ib:=[3,5,14,15,16]
def Yx:=[0,4]
def q8:=[1,2,4,7,8,10,11,12]
def ic:=[1,3,5,6,7,8]
def ig:=[1,2,4,6,7,8]
def bn:=[2,5,6,25]
def q9:=[2,5,6,7,8,9,10,60]
def rA:=[4,30000,37006,9100005]
def bo:=[(20000,10)]
def rB:=[2,6,9,43,5602,30000]
def bp:=[2,4,6,10]
def bq:=[2,4,7,10]
def ii:=[0,3,4,14,15]
def ij:=[0,4,6,21,22]
def ik:=[2,5,7,10,11]
def rC:=[1,2,4,10,11,12,13]
def br:=[0,2,7,8]
def il:=[(34001,34001)]
def LZ:=[18,19]
def io:=[0,2,4,6,56]
def rD:=[2,7,77,60077,70077]
def MA:=[15,18]
def bs:=[2,5,7,8]
def rE:=[9,5007,30000,37007]
def UI:=[5,6,7]
def ip:=[1,23,24,25]
def UJ:=[0,1,2]
def iq:=[1,2,5,6,7]
def UK:=[0,2,7]
def ir:=[3,38,39,40]
def iu:=[0,37,38,39]
def iv:=[0,1,7,8,9]
def iw:=[0,1,5,7,8]
def iy:=[0,1,2,3,4]
def iz:=[0,2,4,5,6]
def jA:=[(5003,20000)]
def jB:=[2,35,37,46]
def jC:=[0,1,12,13]
def jD:=[0,6,21,22]
def jE:=[2,43,30000]
def jF:=[(14,20000)]
open Go Go.RowKit
set_option maxRecDepth 100000
set_option maxHeartbeats 2000000
def An(x:Int):List AV:=[(.int .i64 x)]
def Km(x:Ao):List AV:=[(AV.list 1 An 0 x .none)]
structure Bh where
 Bits:Int
 Dst:Int
 From:Ao
 Args:Ao
 deriving Inhabited,DecidableEq
def Gu(x:Bh):List AV:=[(.int .i64 x.Bits),(.int .i64 x.Dst),(AV.list 1 An 0 x.From .none),(AV.list 1 An 0 x.Args .none)]
def xC(x:List Bh):List AV:=[(AV.list 4 Gu default x .none)]
def Abj(x:Int):List AV:=[(.int .u64 x)]
structure A2 where
 Kind:Int
 Bits:Int
 Lanes:Int
 Dst:Int
 Args:Ao
 Imm:Int
 deriving Inhabited,DecidableEq
def Kf(x:A2):List AV:=[(.int .i64 x.Kind),(.int .i64 x.Bits),(.int .i64 x.Lanes),(.int .i64 x.Dst),(AV.list 1 An 0 x.Args .none),(.int .u64 x.Imm)]
def zh(x:List A2):List AV:=[(AV.list 6 Kf default x .none)]
structure Jo where
 Kind:Int
 Arg:Int
 To:Ao
 deriving Inhabited,DecidableEq
def ja(x:Jo):List AV:=[(.int .i64 x.Kind),(.int .i64 x.Arg),(AV.list 1 An 0 x.To .none)]
structure Ab where
 Phis:List Bh
 Ops:List A2
 End:Jo
 deriving Inhabited,DecidableEq
def Be(x:Ab):List AV:=[(AV.list 4 Gu default x.Phis .none),(AV.list 6 Kf default x.Ops .none),(.int .i64 x.End.Kind),(.int .i64 x.End.Arg),(AV.list 1 An 0 x.End.To .none)]
def od(x:List Ab):List AV:=[(AV.list 5 Be default x .none)]
structure TFunc where
 Params:Ao
 Ret:Int
 Blocks:List Ab
 deriving Inhabited,DecidableEq
def eTFunc(x:TFunc):List AV:=[(AV.list 1 An 0 x.Params .none),(.int .i64 x.Ret),(AV.list 5 Be default x.Blocks .none)]
structure THammock where
 At:Int
 Then:Int
 Else:Int
 Join:Int
 deriving Inhabited,DecidableEq
def Dd(x:THammock):List AV:=[(.int .i64 x.At),(.int .i64 x.Then),(.int .i64 x.Else),(.int .i64 x.Join)]
abbrev Ho:=(Int×Int)
def Br(x:Ho):List AV:=[(.int .i64 x.1),(.int .i64 x.2)]
structure L8 where
 block:Int
 at_:Int
 deriving Inhabited,DecidableEq
def PB(x:L8):List AV:=[(.int .i64 x.block),(.int .i64 x.at_)]
structure Bg where
 v:Int
 shape:Ho
 place:L8
 deriving Inhabited,DecidableEq
def Om(x:Bg):List AV:=[(.int .i64 x.v),(.int .i64 x.shape.1),(.int .i64 x.shape.2),(.int .i64 x.place.block),(.int .i64 x.place.at_)]
structure TGraph where
 Succ:Kc
 Pred:Kc
 deriving Inhabited,DecidableEq
def jb(x:TGraph):List AV:=[(AV.list 1 Km [] x.Succ .none),(AV.list 1 Km [] x.Pred .none)]
def eB(x:Bool):List AV:=[(.bool x)]
structure Ax where
 shape:Ho
 place:L8
 deriving Inhabited,DecidableEq
def jd(x:Ax):List AV:=[(.int .i64 x.shape.1),(.int .i64 x.shape.2),(.int .i64 x.place.block),(.int .i64 x.place.at_)]
structure Qk where
 f:TFunc
 h:THammock
 ops:List A2
 last:Int
 deriving Inhabited,DecidableEq
structure Ce where
 V:Int
 Block:Int
 At:Int
 Shape:Ho
 deriving Inhabited,DecidableEq
def P1(x:Ce):List AV:=[(.int .i64 x.V),(.int .i64 x.Block),(.int .i64 x.At),(.int .i64 x.Shape.1),(.int .i64 x.Shape.2)]
structure Db where
 V:Int
 Block:Int
 At:Int
 Shape:Ho
 deriving Inhabited,DecidableEq
def O7(x:Db):List AV:=[(.int .i64 x.V),(.int .i64 x.Block),(.int .i64 x.At),(.int .i64 x.Shape.1),(.int .i64 x.Shape.2)]
def tf(x:List Bool):List AV:=[(AV.list 1 eB false x .none)]
def Wx(x:Int):List AV:=[(.int .u8 x)]
structure wZ where
 Write:Bool
 At:Int
 Byte:Int
 deriving Inhabited,DecidableEq
structure Abp where
 bytes:Ao
 trace:List wZ
 deriving Inhabited,DecidableEq
structure Abq where
 Code:Int
 Value:Int
 Steps:Int
 deriving Inhabited,DecidableEq
theorem mix:Tryz.prog.follows .mixedOrders=true:=by kernel_rfl
abbrev sP:=Spec Tryz.prog
abbrev OQ:=(Nat×Own)
theorem sG {f : FuncId} {fn : Func} {args : List AV} {H H' : List OQ} {res : AV} (hf : Tryz.prog.funcs[f]? = some fn) (k : ∀ Γ : H6, RgQ Tryz.prog Γ fn.ntmps H → GG Tryz.prog Γ (fK Tryz.prog Γ fn.results.toList H res H') (vY (ZS fn) []) (KG args H)) (hb : fn.body.isSome = true := by kernel_rfl) (hname : (fn.name == "runtime.NumGoroutine") = false := by kernel_rfl) (hlen : Nat.ble args.length fn.ntmps = true := by kernel_rfl) (hpl : RT H = true := by kernel_rfl) : sP f args H res H' := EI mix hf k hb hname hlen hpl
def En:List Ab:=([(⟨([]:List Bh),([]:List A2),(⟨(2:Int),(1:Int),([(1:Int),(2:Int)]:Ao)⟩:Jo)⟩:Ab),(⟨([]:List Bh),([(⟨(0:Int),(8:Int),(1:Int),(2:Int),([]:Ao),(1:Int)⟩:A2)]:List A2),(⟨(1:Int),(0:Int),([(3:Int)]:Ao)⟩:Jo)⟩:Ab),(⟨([]:List Bh),([(⟨(0:Int),(8:Int),(1:Int),(3:Int),([]:Ao),(2:Int)⟩:A2)]:List A2),(⟨(1:Int),(0:Int),([(3:Int)]:Ao)⟩:Jo)⟩:Ab),(⟨([(⟨(8:Int),(4:Int),([(1:Int),(2:Int)]:Ao),([(2:Int),(3:Int)]:Ao)⟩:Bh)]:List Bh),([]:List A2),(⟨(0:Int),(4:Int),([]:Ao)⟩:Jo)⟩:Ab)]:List Ab)
def Z1:=λza zb zc zd zf zg zm=>((30000,.row 105 [(AV.list 1 An 0 za .none),(.int .i64 zb),(AV.list 5 Be default zc .none),(.int .i64 zd),(AV.list 1 An 0 zf .none),(.omap zg),(AV.list 5 Om default zm (.own 37006))]):Nat×Own)
def Z2:=λza zb zc zd zf zg zm zn zp=>([(AV.list 1 An 0 za .none),(.int .i64 zb),(AV.list 5 Be default zc .none),(.int .i64 zd),(.int .i64 zf),(.int .i64 zg),(.int .i64 zm),(AV.list 6 Kf default zn (.own 37007)),(.int .i64 zp)]:List AV)
def Z3:=λza zb zc zd zf zg zm=>([(30000,.row 105 [(AV.list 1 An 0 za .none),(.int .i64 zb),(AV.list 5 Be default zc .none),(.int .i64 zd),(AV.list 1 An 0 zf .none),.nilm,(AV.list 5 Om default zg (.own 37006))]),(37006,.tok 5 198 zm)]:List OQ)
def Z4:=λza (zb:Ao)=>((za,.arr 1 3 zb.length (λi=>An (zb.getD i 0))):Nat×Own)
def Z5:=λza zb zc=>([(AV.list 1 An 0 za .none),(.int .i64 zb),(AV.list 5 Be default zc .none)]:List AV)
def Z6:=λza=>((.int .i64 za):AV)
def Z7:=λza=>(⟨[],[],(.bool za),[],[],[]⟩:Ve)
def Z8:=λza zb zc zd zf zg zm zn=>([(Z1 za zb zc zd zf 9100005 zg),(37006,.tok 5 198 zm),(9100005,.obj (.map false .i64 zn))]:List OQ)
def Z9:=λza zb zc=>((.clo 133 [] [(.rpo [(AV.list 5 Be default za .none)]),(.rpo [(AV.list 1 Km [] zb .none)]),(.rpo [(Z6 zc)])]):AV)
def My:=λza=>((AV.list 1 An 0 za .none):AV)
def sq:=λza=>((AV.list 2 Br ((0:Int),(0:Int)) za .none):AV)
def mi:=λza zb=>(⟨[(14,32000)],[],(AV.list 1 Wx 0 za (.own 32000)),[(32000,.tok 1 5 zb)],[],[]⟩:Ve)
def cI:=λza zb zc zd=>((za,.arr 1 22 zb (O0 1 An (0:Int) zc (Tag.fam zd))):Nat×Own)
def Lc:=((.int .i64 (0:Int)):AV)
def ZL:=λza zb zc zd zf zg zm=>([(Z1 za zb zc zd zf 9100005 zg),(37006,.tok 5 198 zm)]:List OQ)
def vN:=λza zb zc=>(⟨[],[(20000,za)],(AV.list 1 Wx 0 zb (.own 20000)),[(20000,.tok 1 5 zc)],[],[]⟩:Ve)
def OT:=λza zb zc zd zf zg zm zn zp zq=>([(30000,.row 71 (Z2 za zb zc zd zf zg zm zn zp)),(37007,.tok 6 51 zq)]:List OQ)
def HO:=λza zb=>((AV.list 1 An 0 za (.own zb)):AV)
def zN:=λza zb zc zd zf zg=>((30000,.row 105 [(My za),(Z6 zb),(AV.list 5 Be default zc .none),(Z6 zd),(My zf),(.omap 8),(AV.list 5 Om default zg (.own 37006))]):Nat×Own)
def Ob:=((2,(.ptr 2 0)):Nat×AV)
def FZ:=λza=>((AV.list 1 Km [] za .none):AV)
def mj:=λza=>((3,(AV.list 5 O7 default za (.own 5003))):Nat×AV)
def Z23:=λza (zb:Ao) (zc:Ao)=>((.slice 1 (bif za then zb.length else zc.length) (λi=>bif za then An (zb.getD i 0) else An (zc.getD i 0)) .none):AV)
def VD:=λza=>((AV.list 5 Be default za .none):AV)
def lC:=λza (zb:List Bool)=>((za,.arr 1 4 zb.length (λi=>eB (zb.getD i false))):Nat×Own)
def lD:=λza zb=>([(30000,.row 71 za),(37007,.tok 6 51 zb)]:List OQ)
def UT:=((.slice 0 0 (λ_=>[]) .exact):AV)
def jM:=((AV.list 1 An 0 ([]:Ao) .exact):AV)
def JS:=λza=>(⟨[],[],(Z6 za),[],[],[]⟩:Ve)
def VE:=λza zb=>((AV.list 1 eB false za (.own zb)):AV)
def Xq:=λza=>((.agg (jd za)):AV)
def bt:=λza=>((AV.list 6 Kf default za .none):AV)
def ml:=λza=>((AV.list 1 An 0 ([za]:Ao) .exact):AV)
def wg:=λza zb zc zd zf=>((37,.arr 1 143 za (λi_=>AV.eraseAll zb ((Fd zc zd 0 [(.vsl 46 zf)]) i_))):Nat×Own)
def zO:=λza zb zc zd zf zg zm zn=>(⟨[(30000,30000),(37006,37006),(9100005,9100005)],[],(.tuple []),(Z8 za zb zc zd zf zg zm zn),[],[]⟩:Ve)
def Z36:=(⟨[(4,(AV.list 1 An 0 ([]:Ao) (.own 6004)))],[(6004,.tok 1 3 (([]:Ao).length))],[]⟩:St)
def Y1:=λza=>((.agg (eTFunc za)):AV)
def Zo:=((1,(.ptr 1 0)):Nat×AV)
def wh:=λza zb zc=>(⟨[],[(20000,za)],(HO zb 20000),[(20000,.tok 1 3 zc)],[],[]⟩:Ve)
def vO:=((AV.list 6 Kf default ([]:List A2) .exact):AV)
def JT:=λza=>((.int .i64 (za:Int)):AV)
def jN:=λza zb=>((AV.list 6 Kf default za (.own zb)):AV)
abbrev NL:=(Nat×AV)
def Z43:=λza zb zc zd=>([(za,(AV.list 5 O7 default zb .exact)),(zc,(AV.list 5 O7 default (zd++zb) (.own 5003)))]:List NL)
def sv:=λza=>((3,(AV.list 5 P1 default za (.own 5003))):Nat×AV)
def cJ:=λza zb=>((AV.list 1 Wx 0 za (.own zb)):AV)
def Z46:=λza (zb:List Bg) (zc:List Bg)=>((.slice 5 (bif za then zb.length else zc.length) (λi=>bif za then Om (zb.getD i default) else Om (zc.getD i default)) (.own 37006)):AV)
def zP:=((AV.list 2 Br ((0:Int),(0:Int)) ([]:List Ho) .exact):AV)
def Wt:=((.ptr 30000 0):AV)
def wi:=λza zb=>(⟨[],[],(.tuple [(.agg (jb za)),(Z6 zb)]),[],[],[]⟩:Ve)
def wj:=λza zb=>((AV.list 2 Br ((0:Int),(0:Int)) za (.own zb)):AV)
def vP:=λza zb=>((.agg (jd (Mh (default:Ax) za zb))):AV)
def Z52:=λza zb=>([(66,(AV.list 4 Dd default ([za]:List THammock) .exact)),(67,(AV.list 4 Dd default (zb++([za]:List THammock)) (.own 5005)))]:List NL)
def Sh:=λza zb=>((za,.tok 1 4 zb):Nat×Own)
def lE:=λza=>(⟨[],[],(sq za),[],[],[]⟩:Ve)
def vQ:=λza zb zc zd zf zg=>([(Z6 za),(Z6 zb),(Z6 zc),(Z6 zd),(My zf),(.int .u64 zg)]:List AV)
def yA:=((AV.list 1 Km [] ([]:Kc) .exact):AV)
def yB:=λza zb zc=>(⟨[],[],(.tuple [(Z6 za),(Z6 zb),(.bool zc)]),[],[],[]⟩:Ve)
def M2:=λza zb zc=>((za,.tok 5 zb zc):Nat×Own)
def rQ:=λza zb=>((AV.list 4 Dd default za (.own zb)):AV)
def L9:=λza zb=>((2,.row za zb):Nat×Own)
def Z61:=λza zb zc zd=>([(za,(AV.list 5 P1 default zb .exact)),(zc,(AV.list 5 P1 default (zd++zb) (.own 5003)))]:List NL)
def VF:=((5,(.ptr 5 0)):Nat×AV)
def MC:=((4,(.ptr 4 0)):Nat×AV)
def e9:=λza=>((.agg (Dd za)):AV)
def V6:=λza zb=>((7,(.vsl za zb)):Nat×AV)
def rR:=λza zb=>((AV.list 1 Km [] za (.own zb)):AV)
def Z67:=λza (zb:List Ab) (zc:List Ab)=>((.slice 5 (bif za then zb.length else zc.length) (λi=>bif za then Be (zb.getD i default) else Be (zc.getD i default)) .none):AV)
def nj:=λza zb=>((7,.row 97 [za,(.vsl 77 zb)]):Nat×Own)
def Z69:=λ(za:Ao)=>((.slice 1 (za.length-(1:Int).toNat) (λi=>An (za.getD ((1:Int).toNat+i) 0)) .none):AV)
def mn:=((.int .i64 (1:Int)):AV)
def zQ:=λ(za:Ao)=>((6,.arr 1 213 64 (λi=>An (za.getD i 0))):Nat×Own)
def Z72:=λza zb zc zd zf zg zm zn zp=>(⟨[(30000,30000),(37006,37006),(9100005,9100005)],[],(.agg (PB za)),(Z8 zb zc zd zf zg zm zn zp),[],[]⟩:Ve)
def fA:=λza=>((.agg (jb za)):AV)
def Z74:=λza (zb:Ao) (zc:Ao)=>((.slice 1 (bif (za==true) then zb.length else zc.length) (λi=>bif (za==true) then An (zb.getD i 0) else An (zc.getD i 0)) .none):AV)
def sx:=λza=>((AV.list 1 An 0 za .exact):AV)
def wk:=λza=>((AV.list 4 Gu default za .none):AV)
def mo:=λza=>((2,.row 97 [za,za]):Nat×Own)
def yC:=λza zb zc=>(⟨[(4,(HO za zb))],[(zb,.tok 1 3 zc)],[]⟩:St)
def UU:=λza=>((.agg (Kf za)):AV)
def Z80:=λza zb zc zd zf zg zm zn=>(⟨[(30000,30000),(37006,37006)],[],(.bool za),(Z3 zb zc zd zf zg zm zn),[],[]⟩:Ve)
def Z81:=(⟨[(2,(AV.list 2 Br ((0:Int),(0:Int)) ([]:List Ho) (.own 6002)))],[(6002,.tok 2 88 (([]:List Ho).length))],[]⟩:St)
def zR:=λza zb=>(⟨[],[],(.tuple [(Y1 za),(Z6 zb)]),[],[],[]⟩:Ve)
def Z83:=λza=>((za,.arr 1 3 (([]:Ao).length) (λi=>An (([]:Ao).getD i 0))):Nat×Own)
def nk:=((6,(.vpt 6 64 0 0)):Nat×AV)
def Z85:=λ(za:List Ho)=>([(30,.arr 2 88 za.length (λi=>Br (za.getD i ((0:Int),(0:Int)))))]:List OQ)
def vR:=λza zb zc=>((.int .i64 (bif za then zb else zc)):AV)
def Z87:=λza zb zc=>((.agg [za,(.int .i64 (8:Int)),zb,(.int .i64 (3:Int)),zc,(.int .u64 (2:Int))]):AV)
def zS:=λza zb zc=>((AV.list 1 An 0 ([za,zb,zc]:Ao) .exact):AV)
def Z89:=((AV.list 4 Gu default ([]:List Bh) .exact):AV)
def np:=((5,(.vpt 5 64 0 0)):Nat×AV)
def OA:=λza zb=>((za,.tok 6 51 zb):Nat×Own)
def Z92:=λza zb zc=>((.agg [za,(.int .i64 (8:Int)),zb,(.int .i64 (2:Int)),zc,(.int .u64 (1:Int))]):AV)
def Z93:=((AV.list 1 Km [] ([]:Kc) .none):AV)
def Z94:=λza zb zc zd zf zg zm zn zp=>(⟨[(30000,30000),(37006,37006),(9100005,9100005)],[],(.bool za),(Z8 zb zc zd zf zg zm zn zp),[],[]⟩:Ve)
def zT:=λza=>(⟨[],[],(.agg (Br za)),[],[],[]⟩:Ve)
def mp:=λza=>((6,.arr 1 213 64 za):Nat×Own)
def JY:=λza=>((.int .u64 za):AV)
def yD:=λza zb=>((AV.list 4 Gu default za (.own zb)):AV)
def sy:=((.int .i64 (4:Int)):AV)
def sk:=λza=>((AV.list 6 Kf default ([]:List A2) (.own za)):AV)
def sl:=λza zb zc=>(⟨[(30000,30000),(za,za)],[],(Z6 zb),zc,[],[]⟩:Ve)
def sn:=λza zb=>(⟨[],[],(.tuple [(e9 za),(.bool zb)]),[],[],[]⟩:Ve)
def so:=λza zb zc zd zf zg zm zn zp zq zt=>(⟨[(30000,30000),(37007,37007)],[],(Z6 za),(OT zb zc zd zf zg zm zn zp zq zt),[],[]⟩:Ve)
def wb:=λza=>((.slice 1 1 (λi=>([[(Z6 za)]]:List (List AV)).getD i []) .exact):AV)
def PQ:=λza=>((5,.arr 1 212 64 za):Nat×Own)
def nh:=λza=>((.clo 122 [] [(.rptr (Dd za))]):AV)
def zM:=λza zb zc zd=>([(za,(AV.list 6 Kf default zb .exact)),(zc,(AV.list 6 Kf default (zd++zb) (.own 37007)))]:List NL)
def ni:=λza zb zc zd=>((37,.arr 1 143 za (Fd zb zc 0 [(.vsl 46 zd)])):Nat×Own)
def wc:=λza zb zc zd zf zg zm zn zp=>([(30000,.row 71 [(My za),(Z6 zb),(VD zc),(Z6 zd),(Z6 zf),(Z6 zg),(Z6 zm),(bt zn),(Z6 zp)])]:List OQ)
def lA:=λza zb zc=>(⟨[(4,(.vsl za zb))],[(Z4 za zc)],[]⟩:St)
def JV:=((7,(.ptr 7 0)):Nat×AV)
def JW:=((6,(.ptr 6 0)):Nat×AV)
def sr:=((AV.list 1 Wx 0 ([]:Ao) .exact):AV)
def lB:=λza=>(⟨[],[],(Y1 za),[],[],[]⟩:Ve)
def Z115:=(⟨[(2,(AV.list 1 Wx 0 ([]:Ao) (.own 6002)))],[(6002,.tok 1 5 (([]:Ao).length))],[]⟩:St)
def wd:=((AV.list 5 Be default ([]:List Ab) .exact):AV)
def JX:=((3,(.ptr 3 0)):Nat×AV)
def Ts:=λza zb=>((za,.tok 1 3 zb):Nat×Own)
def ss:=λza zb=>(⟨[],[],(.tuple [(Z6 za),(Z6 zb)]),[],[],[]⟩:Ve)
def su:=λza zb=>((AV.list 1 An 0 ([za,zb]:Ao) .exact):AV)
def we:=λza zb zc=>((6,.row 25 [za,(Z6 zb),(AV.list 5 Be default zc (.own 5602))]):Nat×Own)

def Q8:AV:=Lc
def fF:AV:=mn
def vH:AV:=UT
def Q5:AV:=jM
def Q12:AV:=vO
def Q7:AV:=Z89
def Q4:AV:=(AV.list 1 An 0 ([(3:Int)]:Ao) .exact)
def Q6:AV:=(AV.list 1 An 0 ([(1:Int),(2:Int)]:Ao) .exact)
def Q2:AV:=(AV.list 6 Kf default ([(⟨(0:Int),(8:Int),(1:Int),(2:Int),([]:Ao),(1:Int)⟩:A2)]:List A2) .exact)
def Q3:AV:=(AV.list 6 Kf default ([(⟨(0:Int),(8:Int),(1:Int),(3:Int),([]:Ao),(2:Int)⟩:A2)]:List A2) .exact)
def Q1:AV:=(AV.list 4 Gu default ([(⟨(8:Int),(4:Int),([(1:Int),(2:Int)]:Ao),([(2:Int),(3:Int)]:Ao)⟩:Bh)]:List Bh) .exact)
def Q9:=(⟨[(0,(.ptr 0 0))],[(0,.row 25 [(AV.list 1 An 0 ([(1:Int)]:Ao) .exact),(.int .i64 (8:Int)),(AV.list 5 Be default En .exact)])],[]⟩:St)
def m_locksteplaw15_diamond :Option TFunc:=
 (some (⟨([(1:Int)]:Ao),(8:Int),En⟩:TFunc))
theorem Hx  (r:TFunc) (h:m_locksteplaw15_diamond=some r):sP 22 [] [] (Y1 r) []:=
 sG Tryz.func22 λΓ q=>Ae q [0] [0] (gR q [0] [0] [(1,(AV.list 1 An 0 ([(1:Int)]:Ao) .exact)),(2,Q6),(4,(.agg [Q7,Q12,(.int .i64 (2:Int)),fF,Q6])),(5,(Z92 Q8 fF Q5)),(6,Q2),(7,Q4),(9,(.agg [Q7,Q2,fF,Q8,Q4])),(10,(Z87 Q8 fF Q5)),(11,Q3),(12,Q4),(14,(.agg [Q7,Q3,fF,Q8,Q4])),(15,Q6),(16,(AV.list 1 An 0 ([(2:Int),(3:Int)]:Ao) .exact)),(18,Q1),(19,(.agg [Q8,sy,Q5])),(20,(.agg [Q1,Q12,Q8,sy,Q5])),(21,(AV.list 5 Be default En .exact))] [] (yE (Az 1 An (0:Int) ([(1:Int)]:Ao)) (Az 1 An (0:Int) ([(1:Int),(2:Int)]:Ao)) (show(AVle (.agg [vH,vH,(.int .i64 (2:Int)),fF,Q6]) (.agg [Q7,Q12,(.int .i64 (2:Int)),fF,Q6])) from(AVle.agg (.cons Dv (.cons Dv (.cons (AVle.refl _) (.cons (AVle.refl _) (.cons (AVle.refl _) .nil))))))) (show(AVle (Z92 Q8 fF vH) (Z92 Q8 fF Q5)) from(AVle.agg (.cons (AVle.refl _) (.cons (AVle.refl _) (.cons (AVle.refl _) (.cons (AVle.refl _) (.cons Dv (.cons (AVle.refl _) .nil)))))))) (Az 6 Kf (default:A2) ([(⟨(0:Int),(8:Int),(1:Int),(2:Int),([]:Ao),(1:Int)⟩:A2)]:List A2)) (Az 1 An (0:Int) ([(3:Int)]:Ao)) (show(AVle (.agg [vH,Q2,fF,Q8,Q4]) (.agg [Q7,Q2,fF,Q8,Q4])) from(AVle.agg (.cons Dv (.cons (AVle.refl _) (.cons (AVle.refl _) (.cons (AVle.refl _) (.cons (AVle.refl _) .nil))))))) (show(AVle (Z87 Q8 fF vH) (Z87 Q8 fF Q5)) from(AVle.agg (.cons (AVle.refl _) (.cons (AVle.refl _) (.cons (AVle.refl _) (.cons (AVle.refl _) (.cons Dv (.cons (AVle.refl _) .nil)))))))) (Az 6 Kf (default:A2) ([(⟨(0:Int),(8:Int),(1:Int),(3:Int),([]:Ao),(2:Int)⟩:A2)]:List A2)) (c8 (Az 1 An (0:Int) ([(3:Int)]:Ao)) (show(AVle (.agg [vH,Q3,fF,Q8,Q4]) (.agg [Q7,Q3,fF,Q8,Q4])) from(AVle.agg (.cons Dv (.cons (AVle.refl _) (.cons (AVle.refl _) (.cons (AVle.refl _) (.cons (AVle.refl _) .nil))))))) (Az 1 An (0:Int) ([(1:Int),(2:Int)]:Ao)) (Az 1 An (0:Int) ([(2:Int),(3:Int)]:Ao)) (Az 4 Gu (default:Bh) ([(⟨(8:Int),(4:Int),([(1:Int),(2:Int)]:Ao),([(2:Int),(3:Int)]:Ao)⟩:Bh)]:List Bh)) (show(AVle (.agg [Q8,sy,vH]) (.agg [Q8,sy,Q5])) from(AVle.agg (.cons (AVle.refl _) (.cons (AVle.refl _) (.cons Dv .nil))))) (show(AVle (.agg [Q1,vH,Q8,sy,Q5]) (.agg [Q1,Q12,Q8,sy,Q5])) from(AVle.agg (.cons (AVle.refl _) (.cons Dv (.cons (AVle.refl _) (.cons (AVle.refl _) (.cons (AVle.refl _) .nil))))))) (Az 5 Be (default:Ab) En))) (O8 Q9 (tS h (gK (e:=.ret) (H7 [] (show Le Γ _ (⟨[(0,(.ptr 0 0))],[(0,.row 25 [(AV.list 1 An 0 ([(1:Int)]:Ao) .none),(.int .i64 (8:Int)),(AV.list 5 Be default En .none)])],[]⟩:St) from Le.trans (A8 (st':=Q9) [0] [0] q) (Gw (.cons (AVle.refl _) .nil) (.row (.cons AVle.untag (.cons (AVle.refl _) (.cons AVle.untag .nil))) .nil))))))))
abbrev iK:=(LR (Int×Int) Int)
def Qq(a0:TFunc):Ho->Option iK:=
 λ((i1,i2):Ho)=>(bif (decide (i2<(a0.Blocks.length:Int))) then(Aw (As i2 a0.Blocks.length) (some (.next ((w64 (i1+(w64 ((((a0.Blocks.getD i2.toNat default).Phis).length:Int)+(((a0.Blocks.getD i2.toNat default).Ops).length:Int))))),(w64 (i2+1)))))) else(some (.done i1)))
def Vq(a0:TFunc):Option Int:=
 ((Ad (Qq a0) ((a0.Blocks.length:Int),(0:Int))).bind (λx5=>(some x5)))
variable{v0:TFunc}{v1:Int}
theorem au(h:Vq v0=some v1):sP 68 [(Y1 v0)] [] (.int .i64 v1) []:=
 sG Tryz.func68 λΓ q=>tW q [1] [1] I8 [1] (Ae q bh [] (tL q h bh [] (λu (i1,i2)=>(Cn u [(3,(Z6 i1)),(12,(Z6 i2))] [])) (λu i3=>aG Γ (.exit 0) (⟨[(3,(Z6 i3))],[],[]⟩:St)) (λ⟨i1,i2⟩ y h=>Ae q [3,10,11,12,13] [] (gC h (λh=>tV q [3,5,10,11,12] [5] h λh=>tW q bh [] bh [] (tN h)) λh=>tS h (gO (A3 (A8 [3] [] q))))) λx5 h=>gA (Ae q [2] [] (tS h (Bq [])))))
def Kq(aB:Ao):Int->Option (LR Int (Unit ⊕ Bool)):=
 λ(i1:Int)=>(bif (decide (i1<(aB.length:Int))) then(Aw (As i1 aB.length) (bif (bif (decide ((aB.getD i1.toNat 0)<0)) then true else(decide ((2147483647:Int)<(aB.getD i1.toNat 0)))) then(some (.done (.inr false))) else(some (.next (w64 (i1+1)))))) else(some (.done (.inl ()))))
def HK(Γ:H6)(aB:Ao)(r:Bool):Exit->St->Prop:=fK Tryz.prog Γ Tryz.f69.results.toList [] (.bool r) []
def Dt(aB:Ao):Option Bool:=
 ((Ad (Kq aB) (0:Int)).bind (λx3=>(match x3 with|(.inl _)=>(some true)|(.inr r5)=>(some r5))))
variable{v2:Ao}{v3:Bool}
theorem Hn(h:Dt v2=some v3):sP 69 [(My v2)] [] (.bool v3) []:=
 sG Tryz.func69 λΓ q=>tW q [0] [] UI [] (tL q h UI [] (λu i1=>(Cn u [(7,(Z6 i1))] [])) (λu x_=>match x_ with|(.inl _)=>aG Γ (.exit 0) (⟨[],[],[]⟩:St)|(.inr r_)=>aR (HK Γ v2 r_)) (λi1 y h=>Ae q [5,6,7,8] [] (gC h (λh=>tV q [4,5,6,7] [] h λh=>tU q [5,6,7,16] [] (c2 (gI ((decide ((v2.getD i1.toNat 0)<0))==false)) (I9 (decide ((v2.getD i1.toNat 0)<0)))) (gC h (λh=>Ae q [2] [] (tS h (gO (Mp (H7 [] (Le.refl _ _)))))) λh=>Ae q UI [] (tN h))) λh=>tS h (gO (A3 (A8 [] [] q))))) λx3 h=>(match x3,h with | .inl _,h=>gA (Ae q [2] [] (tS h (Bq []))) | .inr r5,h=>gAr (λst' hk=>tS h (gK hk))))
def Iy(aB:Ao):Option Bool:=
 ((bif ((decide ((aB.length:Int)<=64))==true) then Dt aB else some false).bind λx1=>(some (bif (decide ((aB.length:Int)<=64)) then x1 else false)))
theorem Oi(h:Iy v2=some v3):sP 169 [(My v2)] [] (.bool v3) []:=
 sG Tryz.func169 λΓ q=>Ae q [0] [] (tB h λx1 y1 h=>tT q [2] [] [(Z7 x1)] (c3 (gI ((decide ((v2.length:Int)<=64))==true)) (λ(hg:((decide ((v2.length:Int)<=64))==true)=true)=>(Hn (Ba hg y1))) (Na (decide ((v2.length:Int)<=64)))) (tS h (Bq [])))
def Qs(aJ:Bh):Option Bool:=
 ((Dt ([aJ.Bits,aJ.Dst]:Ao)).bind λx1=>((bif (x1==true) then Iy aJ.From else some false).bind λx2=>((bif ((bif x1 then x2 else false)==true) then Iy aJ.Args else some false).bind λx3=>(some (bif (bif x1 then x2 else false) then x3 else false)))))
variable{v4:Bh}
theorem OJ(h:Qs v4=some v3):sP 125 [(.agg (Gu v4))] [] (.bool v3) []:=
 sG Tryz.func125 λΓ q=>Ae q [1] [1] (tB h λx1 y1 h=>tB h λx2 y2 h=>tB h λx3 y3 h=>gR q [2] [] [(7,(su v4.Bits v4.Dst))] [(Z7 x1),(Z7 x2),(Z7 x3)] (QD (Az 1 An (0:Int) ([v4.Bits,v4.Dst]:Ao)) (Hn y1) (Kb (x1==true) (QD (λ(hg:(x1==true)=true)=>(Oi (Ba hg y2))) (Na x1) (Kb ((bif x1 then x2 else false)==true) (c2 (λ(hg:((bif x1 then x2 else false)==true)=true)=>(Oi (Ba hg y3))) (Na (bif x1 then x2 else false))))))) (tS h (Bq [])))
def Hs(aB:List Bh):Int->Option (LR Int (Unit ⊕ Bool)):=
 λ(i1:Int)=>(bif (decide (i1<(aB.length:Int))) then(Aw (As i1 aB.length) ((Qs (aB.getD i1.toNat default)).bind λx3=>(bif (!x3) then(some (.done (.inr false))) else(some (.next (w64 (i1+1))))))) else(some (.done (.inl ()))))
def Zm(Γ:H6)(aB:List Bh)(r:Bool):Exit->St->Prop:=fK Tryz.prog Γ Tryz.f124.results.toList [] (.bool r) []
def J5(aB:List Bh):Option Bool:=
 ((Ad (Hs aB) (0:Int)).bind (λx4=>(match x4 with|(.inl _)=>(some true)|(.inr r6)=>(some r6))))
variable{v5:List Bh}
theorem Yb(h:J5 v5=some v3):sP 124 [(wk v5),(.clo 125 [] [])] [] (.bool v3) []:=
 sG Tryz.func124 λΓ q=>tW q Fg [] Nh [] (tL q h Nh [] (λu i1=>(Cn u [(9,(Z6 i1))] [])) (λu x_=>match x_ with|(.inl _)=>aG Γ (.exit 0) (⟨[],[],[]⟩:St)|(.inr r_)=>aR (Zm Γ v5 r_)) (λi1 y h=>Ae q NT [] (gC h (λh=>tV q NU [6] h λh=>tB h λx3 y3 h=>tT q UR [] [(Z7 x3)] (c1 (OJ y3)) (gC h (λh=>Ae q [4] [] (tS h (gO (Mp (H7 [] (Le.refl _ _)))))) λh=>Ae q Nh [] (tN h))) λh=>tS h (gO (A3 (A8 [] [] q))))) λx4 h=>(match x4,h with | .inl _,h=>gA (Ae q [4] [] (tS h (Bq []))) | .inr r6,h=>gAr (λst' hk=>tS h (gK hk))))
def Sl(a2:A2):Option Bool:=
 ((Dt ([a2.Kind,a2.Bits,a2.Lanes,a2.Dst]:Ao)).bind λx1=>((bif (x1==true) then Iy a2.Args else some false).bind λx2=>(some (bif x1 then x2 else false))))
variable{v6:A2}
theorem RK(h:Sl v6=some v3):sP 127 [(UU v6)] [] (.bool v3) []:=
 sG Tryz.func127 λΓ q=>Ae q [1] [1] (tB h λx1 y1 h=>tB h λx2 y2 h=>gR q [2] [] [(11,(AV.list 1 An 0 ([v6.Kind,v6.Bits,v6.Lanes,v6.Dst]:Ao) .exact))] [(Z7 x1),(Z7 x2)] (QD (Az 1 An (0:Int) ([v6.Kind,v6.Bits,v6.Lanes,v6.Dst]:Ao)) (Hn y1) (Kb (x1==true) (c2 (λ(hg:(x1==true)=true)=>(Oi (Ba hg y2))) (Na x1)))) (tS h (Bq [])))
def Ih(aB:List A2):Int->Option (LR Int (Unit ⊕ Bool)):=
 λ(i1:Int)=>(bif (decide (i1<(aB.length:Int))) then(Aw (As i1 aB.length) ((Sl (aB.getD i1.toNat default)).bind λx3=>(bif (!x3) then(some (.done (.inr false))) else(some (.next (w64 (i1+1))))))) else(some (.done (.inl ()))))
def AM(Γ:H6)(aB:List A2)(r:Bool):Exit->St->Prop:=fK Tryz.prog Γ Tryz.f126.results.toList [] (.bool r) []
def Kp(aB:List A2):Option Bool:=
 ((Ad (Ih aB) (0:Int)).bind (λx4=>(match x4 with|(.inl _)=>(some true)|(.inr r6)=>(some r6))))
variable{v7:List A2}
theorem Zw(h:Kp v7=some v3):sP 126 [(bt v7),(.clo 127 [] [])] [] (.bool v3) []:=
 sG Tryz.func126 λΓ q=>tW q Fg [] Nh [] (tL q h Nh [] (λu i1=>(Cn u [(9,(Z6 i1))] [])) (λu x_=>match x_ with|(.inl _)=>aG Γ (.exit 0) (⟨[],[],[]⟩:St)|(.inr r_)=>aR (AM Γ v7 r_)) (λi1 y h=>Ae q NT [] (gC h (λh=>tV q NU [6] h λh=>tB h λx3 y3 h=>tT q UR [] [(Z7 x3)] (c1 (RK y3)) (gC h (λh=>Ae q [4] [] (tS h (gO (Mp (H7 [] (Le.refl _ _)))))) λh=>Ae q Nh [] (tN h))) λh=>tS h (gO (A3 (A8 [] [] q))))) λx4 h=>(match x4,h with | .inl _,h=>gA (Ae q [4] [] (tS h (Bq []))) | .inr r6,h=>gAr (λst' hk=>tS h (gK hk))))
def Qr(aQ:Jo):Option Bool:=
 ((Dt ([aQ.Kind,aQ.Arg]:Ao)).bind λx1=>((bif (x1==true) then Iy aQ.To else some false).bind λx2=>(some (bif x1 then x2 else false))))
variable{v8:Jo}
theorem OH(h:Qr v8=some v3):sP 128 [(.agg (ja v8))] [] (.bool v3) []:=
 sG Tryz.func128 λΓ q=>Ae q [1] [1] (tB h λx1 y1 h=>tB h λx2 y2 h=>gR q [2] [] [(7,(su v8.Kind v8.Arg))] [(Z7 x1),(Z7 x2)] (QD (Az 1 An (0:Int) ([v8.Kind,v8.Arg]:Ao)) (Hn y1) (Kb (x1==true) (c2 (λ(hg:(x1==true)=true)=>(Oi (Ba hg y2))) (Na x1)))) (tS h (Bq [])))
def Oc(aH:Ab):Option Bool:=
 ((J5 aH.Phis).bind λx1=>((bif (x1==true) then Kp aH.Ops else some false).bind λx2=>((bif ((bif x1 then x2 else false)==true) then Qr (⟨aH.End.Kind,aH.End.Arg,aH.End.To⟩:Jo) else some false).bind λx3=>(some (bif (bif x1 then x2 else false) then x3 else false)))))
variable{v9:Ab}
theorem IK(h:Oc v9=some v3):sP 71 [(.agg (Be v9))] [] (.bool v3) []:=
 sG Tryz.func71 λΓ q=>Ae q [1] [1] (tB h λx1 y1 h=>tB h λx2 y2 h=>tB h λx3 y3 h=>tT q [2] [] [(Z7 x1),(Z7 x2),(Z7 x3)] (ci (Yb y1) (Kb (x1==true) (QD (λ(hg:(x1==true)=true)=>(Zw (Ba hg y2))) (Na x1) (Kb ((bif x1 then x2 else false)==true) (c2 (λ(hg:((bif x1 then x2 else false)==true)=true)=>(OH (Ba hg y3))) (Na (bif x1 then x2 else false))))))) (tS h (Bq [])))
def Gg(aB:List Ab):Int->Option (LR Int (Unit ⊕ Bool)):=
 λ(i1:Int)=>(bif (decide (i1<(aB.length:Int))) then(Aw (As i1 aB.length) ((Oc (aB.getD i1.toNat default)).bind λx3=>(bif (!x3) then(some (.done (.inr false))) else(some (.next (w64 (i1+1))))))) else(some (.done (.inl ()))))
def Wr(Γ:H6)(aB:List Ab)(r:Bool):Exit->St->Prop:=fK Tryz.prog Γ Tryz.f70.results.toList [] (.bool r) []
def Ig(aB:List Ab):Option Bool:=
 ((Ad (Gg aB) (0:Int)).bind (λx4=>(match x4 with|(.inl _)=>(some true)|(.inr r6)=>(some r6))))
variable{v10:List Ab}
theorem Wh(h:Ig v10=some v3):sP 70 [(VD v10),(.clo 71 [] [])] [] (.bool v3) []:=
 sG Tryz.func70 λΓ q=>tW q Fg [] Nh [] (tL q h Nh [] (λu i1=>(Cn u [(9,(Z6 i1))] [])) (λu x_=>match x_ with|(.inl _)=>aG Γ (.exit 0) (⟨[],[],[]⟩:St)|(.inr r_)=>aR (Wr Γ v10 r_)) (λi1 y h=>Ae q NT [] (gC h (λh=>tV q NU [6] h λh=>tB h λx3 y3 h=>tT q UR [] [(Z7 x3)] (c1 (IK y3)) (gC h (λh=>Ae q [4] [] (tS h (gO (Mp (H7 [] (Le.refl _ _)))))) λh=>Ae q Nh [] (tN h))) λh=>tS h (gO (A3 (A8 [] [] q))))) λx4 h=>(match x4,h with | .inl _,h=>gA (Ae q [4] [] (tS h (Bq []))) | .inr r6,h=>gAr (λst' hk=>tS h (gK hk))))
def Q14(a0:TFunc):=(decide ((a0.Blocks.length:Int)<1))
def Q13(a0:TFunc):=(decide ((16:Int)<(a0.Params.length:Int)))
def Ui(a0:TFunc):Option Bool:=
 (bif (bif (decide ((a0.Blocks.length:Int)<1)) then true else(decide ((64:Int)<(a0.Blocks.length:Int)))) then(some false) else((bif ((decide ((16:Int)<(a0.Params.length:Int)))==false) then Vq a0 else some (0:Int)).bind λx1=>(bif (bif (decide ((16:Int)<(a0.Params.length:Int))) then true else(decide ((512:Int)<x1))) then(some false) else((Dt a0.Params).bind λx2=>((bif (x2==true) then Dt ([a0.Ret]:Ao) else some false).bind λx3=>((bif ((bif x2 then x3 else false)==true) then Ig a0.Blocks else some false).bind λx4=>(some (bif (bif x2 then x3 else false) then x4 else false))))))))
theorem MU(h:Ui v0=some v3):sP 28 [(Y1 v0)] [] (.bool v3) []:=
 sG Tryz.func28 λΓ q=>Ae q [1] [1] (tU q [1,12] [1] (Si ((Q14 v0)==false) (c1 (I9 (Q14 v0)))) (gC h (λh=>Ae q [2] [] (tS h (Bq []))) λh=>tB h λx1 y1 h=>tT q [1,21] [1] [(JS x1)] (c4 (gI ((Q13 v0)==false)) (λ(hg:((Q13 v0)==false)=true)=>(au (Ba hg y1))) (gI ((Q13 v0)==false)) (I9 (Q13 v0))) (gC h (λh=>Ae q [2] [] (tS h (Bq []))) λh=>tB h λx2 y2 h=>tB h λx3 y3 h=>tB h λx4 y4 h=>gR q [2] [] [(28,(ml v0.Ret))] [(Z7 x2),(Z7 x3),(Z7 x4)] (ci (Hn y2) (Kb (x2==true) (zZ (show((x2==true)=true->(AVle (wb v0.Ret) (ml v0.Ret))) from(λhg=>@(Az 1 An (0:Int) ([v0.Ret]:Ao)))) (gI (x2==true)) (λ(hg:(x2==true)=true)=>(Hn (Ba hg y3))) (Na x2) (Kb ((bif x2 then x3 else false)==true) (c2 (λ(hg:((bif x2 then x3 else false)==true)=true)=>(Wh (Ba hg y4))) (Na (bif x2 then x3 else false))))))) (tS h (Bq [])))))
def Nv(aaZ:Bool)(aQ:Int):Option Int:=
 (bif aaZ then(some (0:Int)) else(some aQ))
variable{v11:Int}
theorem Y6(h:Nv v3 v1=some v11):sP 140 [(.bool v3),(Z6 v1)] [] (.int .i64 v11) []:=
 sG Tryz.func140 λΓ q=>tW q Fg [] [1,5] [] (gC h (λh=>Ae q [4] [] (tS h (Bq []))) λh=>Ae q [4] [] (tS h (Bq [])))
abbrev mc:=(Int×TFunc×Int×Ao×List Bg)
def Kn(a3:TFunc)(a5:Int)(a7:Ao)(aA:List Bg):Option mc:=
 ((Ui a3).bind λx1=>((Nv x1 (4:Int)).bind λx2=>(some (x2,a3,a5,a7,aA))))
variable{v12:List Bg}{v13:mc}
theorem Zu(h:Kn v0 v1 v2 v12=some v13):sP 87 [Wt] (Z3 v0.Params v0.Ret v0.Blocks v1 v2 v12 v12.length) (Z6 v13.1) (Z3 v13.2.1.Params v13.2.1.Ret v13.2.1.Blocks v13.2.2.1 v13.2.2.2.1 v13.2.2.2.2 v13.2.2.2.2.length):=
 sG Tryz.func87 λΓ q=>Ae q [0] I7 (tB h λx1 y1 h=>tB h λx2 y2 h=>tT q [2] I7 [(Z7 x1),(JS x2)] (c2 (MU y1) (Y6 y2)) (tS h (Bq Zg)))
def Mq(aW:Int):Option Bool:=
 (some (bif (decide ((1:Int)<=aW)) then(decide (aW<=64)) else false))
theorem W6(h:Mq v1=some v3):sP 129 [(Z6 v1)] [] (.bool v3) []:=
 sG Tryz.func129 λΓ q=>Ae q [0] [] (tU q [2] [] (c2 (gI ((decide ((1:Int)<=v1))==true)) (Na (decide ((1:Int)<=v1)))) (tS h (Bq [])))
def Kj(aK:Int)(aW:Int):Option Bool:=
 (some (bif (decide ((0:Int)<=aK)) then(decide (aK<aW)) else false))
theorem Sd(h:Kj v1 v11=some v3):sP 170 [(Z6 v1),(Z6 v11)] [] (.bool v3) []:=
 sG Tryz.func170 λΓ q=>Ae q Fg [] (tU q [4] [] (Kb ((decide ((0:Int)<=v1))==true) (c1 (Na (decide ((0:Int)<=v1))))) (tS h (Bq [])))
def Fj(aQ:Jo)(aW:Int):Int->Option (LR Int (Unit ⊕ Bool)):=
 λ(i7:Int)=>(bif (decide (i7<(aQ.To.length:Int))) then(Aw (As i7 aQ.To.length) ((bif (((aQ.To.getD i7.toNat 0)==0)==false) then Kj (aQ.To.getD i7.toNat 0) aW else some false).bind λx9=>(bif (bif ((aQ.To.getD i7.toNat 0)==0) then true else(!x9)) then(some (.done (.inr false))) else(some (.next (w64 (i7+1))))))) else(some (.done (.inl ()))))
def Yz(Γ:H6)(aQ:Jo)(aW:Int)(r:Bool):Exit->St->Prop:=fK Tryz.prog Γ Tryz.f130.results.toList [] (.bool r) []
def Q15(aQ:Jo)(i7:Int):=((aQ.To.getD i7.toNat 0)==0)
def Pp(aQ:Jo)(aW:Int):Option Bool:=
 (Option.bind (α:=(Int ⊕ Bool)) (Option.bind (α:=Bool) (bif (aQ.Kind==0) then(some (aQ.Kind==0)) else(some (aQ.Kind==3))) (λx3=>(bif x3 then(some (.inl (0:Int))) else(bif (aQ.Kind==1) then(some (.inl (1:Int))) else(bif (aQ.Kind==2) then(some (.inl (2:Int))) else(some (.inr false))))))) (λx5=>(match x5 with|(.inl i1)=>(bif ((aQ.To.length:Int)!=i1) then(some false) else((Ad (Fj aQ aW) (0:Int)).bind (λx10=>(match x10 with|(.inl _)=>(some true)|(.inr r12)=>(some r12)))))|(.inr r13)=>(some r13))))
theorem KV(h:Pp v8 v1=some v3):sP 130 [(.agg (ja v8)),(Z6 v1)] [] (.bool v3) []:=
 sG Tryz.func130 λΓ q=>tW q Nj [2] Wl [2] (tB h λx5 y5 h=>gJ y5 (λx_=>match x_ with|(.inl i1)=>aG Γ .normal (⟨[(1,(Z6 v1)),Ob,(5,(Z6 i1))],[(2,.row 46 [(Z6 v8.Kind),(Z6 v8.Arg),(My v8.To)])],[]⟩:St)|(.inr r_)=>aR (Yz Γ v8 v1 r_)) (λy h=>Ae q [1,2,5,9] [2] (tB h λx3 y3 h=>gJ y3 (λb2=>aG Γ .normal (⟨[(1,(Z6 v1)),Ob,(5,Lc),(9,(Z6 v8.Kind)),(10,(.bool b2))],[(2,.row 46 [(Z6 v8.Kind),(Z6 v8.Arg),(My v8.To)])],[]⟩:St)) (λy h=>Ae q [1,2,5,9,10] [2] (gC h (λh=>tS h (gK (A3 Gv))) λh=>Ae q [1,2,5,9,10] [2] (tS h (gK (A3 Gv))))) (gA (gC h (λh=>tS h (gK (A3 (A8 Wl [2] q)))) λh=>Ae q [1,2,9,13] [2] (gC h (λh=>Ae q Wl [2] (tS h (gK (A3 Gv)))) λh=>Ae q [1,2,15] [2] (gC h (λh=>Ae q Wl [2] (tS h (gK (A3 Gv)))) λh=>Ae q [4] [] (tS h (gK (Mp (H7 [] (Le.refl _ _))))))))))) (match x5,h with | .inl i1,h=>gA (Ae q [1,2,21] [2] (gC h (λh=>Ae q [4] [] (tS h (Bq []))) λh=>Ae q ip [] (tL q h ip [] (λu i7=>(Cn u [(25,(Z6 i7))] [])) (λu x_=>match x_ with|(.inl _)=>aG Γ (.exit 1) (⟨[],[],[]⟩:St)|(.inr r_)=>aR (Yz Γ v8 v1 r_)) (λi7 y h=>Ae q [1,23,24,25,26] [] (gC h (λh=>tV q [1,7,23,24,25] [] h λh=>tB h λx9 y9 h=>tT q [1,23,24,25,36] [] [(Z7 x9)] (Kb ((Q15 v8 i7)==false) (c3 (λ(hg:((Q15 v8 i7)==false)=true)=>(Sd (Ba hg y9))) (gI ((Q15 v8 i7)==false)) (I9 (Q15 v8 i7)))) (gC h (λh=>Ae q [4] [] (tS h (gO (Mp (H7 [] (Le.refl _ _)))))) λh=>Ae q ip [] (tN h))) λh=>tS h (gO (A3 (A8 [] [] q))))) λx10 h=>(match x10,h with | .inl _,h=>gA (Ae q [4] [] (tS h (Bq []))) | .inr r12,h=>gAr (λst' hk=>tS h (gK hk)))))) | .inr r13,h=>gAr (λst' hk=>tS h (gK hk))))
abbrev rX:=(Int×Kc)
abbrev yT6:=(LR (Int×Kc) Kc)
def Nc(a6:Kc)(i2:Int):rX->Option yT6:=
 λ((i6,l7):rX)=>(bif (decide (i6<((a6.getD i2.toNat []).length:Int))) then(Aw (As i6 (a6.getD i2.toNat []).length) (Aw (As ((a6.getD i2.toNat []).getD i6.toNat 0) l7.length) (Aw (As ((a6.getD i2.toNat []).getD i6.toNat 0) l7.length) (Aw ((l7.getD ((a6.getD i2.toNat []).getD i6.toNat 0).toNat []).length+([i2]:Ao).length<=room) (Aw (As ((a6.getD i2.toNat []).getD i6.toNat 0) l7.length) (some (.next ((w64 (i6+1)),(l7.set ((a6.getD i2.toNat []).getD i6.toNat 0).toNat ((l7.getD ((a6.getD i2.toNat []).getD i6.toNat 0).toNat [])++([i2]:Ao))))))))))) else(some (.done l7)))
def Kr(a6:Kc):rX->Option yT6:=
 λ((i2,l3):rX)=>(bif (decide (i2<(a6.length:Int))) then(Aw (As i2 a6.length) ((Ad (Nc a6 i2) ((0:Int),l3)).bind (λx14=>(some (.next ((w64 (i2+1)),x14)))))) else(some (.done l3)))
def sE(i2:Int):=([i2]:Ao)
def mg(a6:Kc)(i2:Int)(i6:Int):=((a6.getD i2.toNat []).getD i6.toNat 0)
def nK(l7:Kc)(a6:Kc)(i2:Int)(i6:Int):=(l7.getD (mg a6 i2 i6).toNat [])
def vu(a6:Kc):=(List.replicate (a6.length:Int).toNat ([]:Ao))
def yh(l7:Kc)(a6:Kc)(i2:Int)(i6:Int):=(l7.set (mg a6 i2 i6).toNat ((nK l7 a6 i2 i6)++(sE i2)))
def Q19(a6:Kc):List NL:=[(0,(FZ a6)),(3,(.vsl 10 (a6.length:Int).toNat))]
def Q18(l7:Kc)(i2:Int)(a6:Kc)(i6:Int):List NL:=[(3,(.vsl 10 l7.length)),(4,(Z6 i2)),(11,(FZ a6)),(12,(JT a6.length)),(13,(Z6 i2)),(18,(AV.list 1 An 0 (a6.getD i2.toNat []) .none)),(19,(.int .i64 ((a6.getD i2.toNat []).length:Int))),(20,(Z6 i6))]
def Q22(l7:Kc)(i2:Int)(a6:Kc)(i6:Int):List NL:=[(3,(.vsl 10 l7.length)),(4,(Z6 i2)),(7,(Z6 (mg a6 i2 i6))),(11,(FZ a6)),(12,(JT a6.length)),(13,(Z6 i2)),(18,(AV.list 1 An 0 (a6.getD i2.toNat []) .none)),(19,(.int .i64 ((a6.getD i2.toNat []).length:Int))),(20,(Z6 i6))]
def Nx(a6:Kc):Option Kc:=
 (Aw (0<=(a6.length:Int)/\(a6.length:Int)<=(a6.length:Int)/\(a6.length:Int)<=(room:Int)) ((Ad (Kr a6) ((0:Int),(List.replicate (a6.length:Int).toNat ([]:Ao)))).bind (λx16=>(some x16))))
variable{v14:Kc}{v15:Kc}
theorem Y8(h:Nx v14=some v15):sP 132 [(FZ v14)] [] (rR v15 20000) [(20000,.tok 1 22 v15.length)]:=
 sG Tryz.func132 λΓ q=>have hΓ:=q.own;gR q [0] [] [(2,yA)] [] (c1 (Bd 1 Km [])) (tV q R4 [10] h λh=>O8 (⟨(Q19 v14),[(10,.arr 1 22 ((v14.length:Int).toNat) (λi_=>AV.eraseAll (λn_=>B4 n_ [10]) ((λ_=>[UT]) i_)))],[]⟩:St) (M3 (Le.trans (Gw (st':=⟨(Q19 v14),[(10,.arr 1 22 ((v14.length:Int).toNat) (O0 1 An (0:Int) (vu v14) (λ_=>.exact)))],[]⟩) (TmpsLe.refl _) (.arr cx .nil)) (Le.trans (Le.trans (dI (r:=10) (b:=70010) An (0:Int) (vu v14) 3 rfl rfl (S3 ..).symm (λh_=>absurd h_ (by decide))) (H8 (st':=⟨(Q19 v14),[(10,.arr 1 22 ((v14.length:Int).toNat) (O0 1 An (0:Int) (vu v14) (Tag.fam 70010)))],[(70010,⟨1,3,Nr (vu v14)⟩)]⟩) (by kernel_rfl))) (H8 (Bn (λk_:Nat=>(⟨[(0,(FZ v14)),(3,(.vsl 10 k_))],[(cI 10 k_ (vu v14) 70010)],[(70010,⟨1,3,Nr (vu v14)⟩)]⟩:St)) (show(v14.length:Int).toNat=(vu v14).length from(S3 ..).symm))))) (Ae q TL V4 (tL q h TL V4 (λu (i2,l3)=>(Cn u [(3,(.vsl 10 l3.length)),(13,(Z6 i2))] [(cI 10 l3.length l3 70010)] [(70010,⟨1,3,Nr l3⟩)])) (λu l4=>aG Γ (.exit 0) (⟨[(3,(.vsl 10 l4.length))],[(cI 10 l4.length l4 70010)],[(70010,⟨1,3,Nr l4⟩)]⟩:St)) (λ⟨i2,l3⟩ y h=>Ae q [3,11,12,13,14] V4 (gC h (λh=>tV q [3,4,5,11,12,13] V4 h λh=>Ae q kT V4 (tL q h kT V4 (λu (i6,l7)=>(Cn u [(3,(.vsl 10 l7.length)),(20,(Z6 i6))] [(cI 10 l7.length l7 70010)] [(70010,⟨1,3,Nr l7⟩)])) (λu l8=>aG Γ (.exit 2) (Ng TL V4 u [(3,(.vsl 10 l8.length))] [(cI 10 l8.length l8 70010)] [(70010,⟨1,3,Nr l8⟩)])) (λ⟨i6,l7⟩ y h=>Ae q [3,4,11,12,13,18,19,20,21] V4 (gC h (λh=>tV q [3,4,7,11,12,13,18,19,20] V4 h λh=>O8 (⟨(Q22 l7 i2 v14 i6),[(cI 10 l7.length l7 70010)],[(70010,⟨1,3,Nr l7⟩)]⟩:St) (tC h λc10_ h=>tC h λc11_ h=>tC h λc12_ h=>tC h λc13_ h=>M3 (Le.trans (jo (r:=10) (b:=70010) (k:=60010) An (0:Int) l7 (mg v14 i2 i6).toNat 3 rfl rfl rfl rfl (Qp c10_) (by kernel_rfl) (.here .nil)) (H8 (st':=⟨(Q22 l7 i2 v14 i6),[(10,.arr 1 22 l7.length (O0 1 An (0:Int) l7 (Hj 70010 (mg v14 i2 i6).toNat 60010))),(60010,.tok 1 3 ((nK l7 v14 i2 i6).length))],[(70010,⟨1,3,BK l7 (mg v14 i2 i6).toNat⟩)]⟩) (by kernel_rfl))) (gR q kT [10,60010,70010] [(29,(HO (nK l7 v14 i2 i6) 60010)),(31,(sx (sE i2))),(32,(AV.list 1 An 0 ((nK l7 v14 i2 i6)++(sE i2)) (.own 60010)))] [] (yE c11_ (Eq.refl l7.length) (show(AVle (((O0 1 An (0:Int) l7 (Hj 70010 (mg v14 i2 i6).toNat 60010)) (mg v14 i2 i6).toNat).getD 0 .any) (HO (nK l7 v14 i2 i6) 60010)) from WS) (Az 1 An (0:Int) (sE i2)) (Eq.refl ((nK l7 v14 i2 i6).length)) c12_ (Cv 1 60010 An (0:Int) (nK l7 v14 i2 i6) (sE i2)) (Bs (nK l7 v14 i2 i6) (sE i2)) c13_ (c1 (Eq.refl l7.length))) (O8 (⟨(Q18 l7 i2 v14 i6),[(10,.arr 1 22 l7.length (λi_=>AV.eraseAll (λn_=>B4 n_ [10,60010,70010]) ((Fd (O0 1 An (0:Int) l7 (Hj 70010 (mg v14 i2 i6).toNat 60010)) (mg v14 i2 i6).toNat 0 [(AV.list 1 An 0 ((nK l7 v14 i2 i6)++(sE i2)) (.own 60010))]) i_))),(60010,.tok 1 3 (((nK l7 v14 i2 i6)++(sE i2)).length))],[(70010,⟨1,3,BK l7 (mg v14 i2 i6).toNat⟩)]⟩:St) (M3 (Le.trans (Le.trans (pE (r:=10) (b:=70010) (k:=60010) An (0:Int) l7 (mg v14 i2 i6).toNat ((nK l7 v14 i2 i6)++(sE i2)) 3 rfl (dy (Qp c10_) rfl rfl) rfl rfl rfl rfl (Qp c10_) (by kernel_rfl) (.here (.tok .nil)) (by rw[hΓ];rfl)) (H8 (st':=⟨(Q18 l7 i2 v14 i6),[(cI 10 l7.length (yh l7 v14 i2 i6) 70010)],[(70010,⟨1,3,Nr (yh l7 v14 i2 i6)⟩)]⟩) (by kernel_rfl))) (H8 (Bn (λk_:Nat=>(⟨[(3,(.vsl 10 k_)),(4,(Z6 i2)),(11,(FZ v14)),(12,(JT v14.length)),(13,(Z6 i2)),(18,(AV.list 1 An 0 (v14.getD i2.toNat []) .none)),(19,(.int .i64 ((v14.getD i2.toNat []).length:Int))),(20,(Z6 i6))],[(cI 10 k_ (yh l7 v14 i2 i6) 70010)],[(70010,⟨1,3,Nr (yh l7 v14 i2 i6)⟩)]⟩:St)) (show l7.length=(yh l7 v14 i2 i6).length from(D0 ..).symm)))) (Ae q kT V4 (tN h))))))) λh=>tS h (gO (A3 (A8 TL V4 q))))) λx14 h=>gA (Ae q TL V4 (tN h)))) λh=>tS h (gO (A3 (A8 [3] V4 q))))) λx16 h=>gA (Ae q [2] V4 (O8 (⟨[(2,(.vsl 10 x16.length))],[(cI 10 x16.length x16 70010)],[(70010,⟨1,3,Nr x16⟩)]⟩:St) (tS h (gK (e:=.ret) (H7 [(10,20000)] (Le.trans (Gp (nm:=10) (sz:=1) (n:=x16.length) (e:=22) (f:=(O0 1 An (0:Int) x16 (Tag.fam 70010))) (g:=(λi=>Km (x16.getD i []))) rfl ⟨rfl,trivial⟩ (λ_ _=>rfl) (by rw[hΓ];rfl)) (A8 (st':=⟨[(2,(rR x16 10))],[(10,.tok 1 22 x16.length)],[]⟩) [2] [10] q)))))))))))
def Hu(a0:TFunc):rX->Option (LR (Int×Kc) (Kc ⊕ (TGraph×Int))):=
 λ((i3,l4):rX)=>(bif (decide (i3<(a0.Blocks.length:Int))) then(Aw (As i3 a0.Blocks.length) ((Pp (⟨(a0.Blocks.getD i3.toNat default).End.Kind,(a0.Blocks.getD i3.toNat default).End.Arg,(a0.Blocks.getD i3.toNat default).End.To⟩:Jo) (a0.Blocks.length:Int)).bind λx7=>(bif (!x7) then(some (.done (.inr ((⟨([]:Kc),([]:Kc)⟩:TGraph),(5:Int))))) else((JH ((a0.Blocks.getD i3.toNat default).End.To)).bind λx8=>(Aw (As i3 l4.length) (some (.next ((w64 (i3+1)),(l4.set i3.toNat x8))))))))) else(some (.done (.inl l4))))
abbrev iL:=(TGraph×Int)
def fE(Γ:H6)(a0:TFunc)(r:iL):Exit->St->Prop:=fK Tryz.prog Γ Tryz.f75.results.toList [] (.tuple [(fA r.1),(Z6 r.2)]) []
def wL:AV:=UT
def xp:List NL:=[Ob,(3,(.int .i64 (5:Int)))]
def Q29(a0:TFunc)(i3:Int):=(a0.Blocks.getD i3.toNat default)
def Q27:AV:=Z93
def Q28(a0:TFunc):=(List.replicate (a0.Blocks.length:Int).toNat ([]:Ao))
def vI:List AV:=[yA,yA]
def Uk(a0:TFunc):Option iL:=
 ((Mq (a0.Blocks.length:Int)).bind λx1=>(bif (!x1) then(some ((⟨([]:Kc),([]:Kc)⟩:TGraph),(5:Int))) else(Aw (0<=(a0.Blocks.length:Int)/\(a0.Blocks.length:Int)<=(a0.Blocks.length:Int)/\(a0.Blocks.length:Int)<=(room:Int)) ((Ad (Hu a0) ((0:Int),(List.replicate (a0.Blocks.length:Int).toNat ([]:Ao)))).bind (λx10=>(match x10 with|(.inl l5)=>((Nx l5).bind λx12=>(some ((⟨l5,x12⟩:TGraph),(0:Int))))|(.inr r13)=>(some r13)))))))
variable{v16:iL}
theorem MW(h:Uk v0=some v16):sP 75 [(Y1 v0)] [] (.tuple [(fA v16.1),(Z6 v16.2)]) []:=
 sG Tryz.func75 λΓ q=>have hΓ:=q.own;tW q Nj Nj DH Nj (tB h λx1 y1 h=>tT q [1,2,4,13] Nj [(Z7 x1)] (c1 (W6 y1)) (gC h (λh=>gR q Cc [2] [(14,(.agg vI))] [] (c1 (show(AVle (.agg [wL,wL]) (.agg vI)) from(AVle.agg (.cons Dv (.cons Dv .nil))))) (O8 (⟨xp,[(L9 97 vI)],[]⟩:St) (tS h (gK (e:=.ret) (H7 [] (show Le Γ _ (⟨xp,[(mo Q27)],[]⟩:St) from Le.trans (A8 (st':=⟨xp,[(L9 97 vI)],[]⟩) Cc [2] q) (Gw (.cons (AVle.refl _) (.cons (AVle.refl _) .nil)) (.row (.cons AVle.untag (.cons AVle.untag .nil)) .nil)))))))) λh=>tV q TZ [1,2,16] h λh=>by exact M3 (Le.trans (Vf 16 (show ∀ k_,k_<((v0.Blocks.length:Int).toNat)->AVleL ((λi_=>AV.eraseAll (λn_=>B4 n_ [1,2,16]) ((λ_=>[wL]) i_)) k_) ((λi=>Km ((Q28 v0).getD i [])) k_) from(λk hk=>Rd (e:=Km) (d:=[]) (.cons (λ_ _ _ _ _ hh=>AVle.untag _ _ _ _ _ (Dv _ _ _ _ _ hh)) .nil) _ k (Rk hk)))) (Vg (λ(k_:Nat) u=>(Cn u [(5,(.vsl 16 k_))] [(16,.arr 1 22 k_ (λi=>Km ((Q28 v0).getD i [])))])) (show(v0.Blocks.length:Int).toNat=(Q28 v0).length from(S3 ..).symm))) (Ae q bY Wm (tL q h bY Wm (λu (i3,l4)=>(Cn u [(5,(.vsl 16 l4.length)),(20,(Z6 i3))] [(16,.arr 1 22 l4.length (λi=>Km (l4.getD i [])))])) (λu x_=>match x_ with|(.inl l5)=>aG Γ (.exit 0) (Ng Tf Wm u [(5,(.vsl 16 l5.length))] [(16,.arr 1 22 l5.length (λi=>Km (l5.getD i [])))])|(.inr r_)=>aR (fE Γ v0 r_)) (λ⟨i3,l4⟩ y h=>Ae q [2,4,5,18,19,20,21] Wm (gC h (λh=>tV q [2,4,5,6,7,18,19,20] [2,7,16] h λh=>tB h λx7 y7 h=>tT q [2,4,5,6,7,18,19,20,29] [2,7,16] [(Z7 x7)] (c1 (KV y7)) (gC h (λh=>gR q Cc [2] [(30,(.agg vI))] [] (c1 (show(AVle (.agg [wL,wL]) (.agg vI)) from(AVle.agg (.cons Dv (.cons Dv .nil))))) (O8 (⟨xp,[(L9 97 vI)],[]⟩:St) (tS h (gO (Mp (H7 [] (show Le Γ _ (⟨xp,[(mo Q27)],[]⟩:St) from Le.trans (A8 (st':=⟨xp,[(L9 97 vI)],[]⟩) Cc [2] q) (Gw (.cons (AVle.refl _) (.cons (AVle.refl _) .nil)) (.row (.cons AVle.untag (.cons AVle.untag .nil)) .nil))))))))) λh=>tB h λx8 y8 h=>tC h λc9_ h=>tT q bY Wm [⟨[],[],(My x8),[],[],[]⟩] (c3 (iJ ((Q29 v0 i3).End.To) x8 y8) c9_ (Eq.refl l4.length)) (M3 (Le.trans (Vf 16 (show ∀ k_,k_<l4.length->AVleL ((λi_=>AV.eraseAll (λn_=>B4 n_ Wm) ((Fd (λi=>Km (l4.getD i [])) i3.toNat 0 [(My x8)]) i_)) k_) ((λi=>Km ((l4.set i3.toNat x8).getD i [])) k_) from(Bl (D0 ..).symm (λk_ hk_=>(Bn (AV.eraseAll (λn_=>B4 n_ Wm)) ((Hg (λ_ _=>rfl) (J1 c9_) rfl) k_ hk_)).trans rfl)))) (Vg (λ(k_:Nat) u=>(Cn u [(5,(.vsl 16 k_))] [(16,.arr 1 22 k_ (λi=>Km ((l4.set i3.toNat x8).getD i [])))])) (show l4.length=(l4.set i3.toNat x8).length from(D0 ..).symm))) (Ae q bY Wm (tN h))))) λh=>tS h (gO (A3 (A8 Tf Wm q))))) λx10 h=>(match x10,h with | .inl l5,h=>gA (O8 (⟨[Ob,(5,(.vsl 16 l5.length))],[(mo wL),(16,.arr 1 22 l5.length (λi=>Km (l5.getD i [])))],[]⟩:St) (M3 (Le.trans (Gp (nm:=16) (sz:=1) (n:=l5.length) (e:=22) (f:=(λi=>Km (l5.getD i []))) (g:=(λi=>Km (l5.getD i []))) rfl ⟨rfl,trivial⟩ (λ_ _=>rfl) (by rw[hΓ];rfl)) (H8 (st':=⟨[Ob,(5,(rR l5 16))],[(mo wL),(16,.tok 1 22 l5.length)],[]⟩) (by kernel_rfl))) (tB h λx12 y12 h=>tT q Cc [2,16,41] [⟨[],[(20000,41)],(rR x12 20000),[(20000,.tok 1 22 x12.length)],[],[]⟩] (c1 (Y8 y12)) (tS h (Bq []))))) | .inr r13,h=>gAr (λst' hk=>tS h (gK hk)))))))
def Hk(a6:Kc)(i2:Int):Ho->Option (LR (Int×Int) (Unit ⊕ Bool)):=
 λ((i4,i5):Ho)=>(bif (decide (i5<((a6.getD i2.toNat []).length:Int))) then(Aw (As i5 (a6.getD i2.toNat []).length) ((bif ((decide (((a6.getD i2.toNat []).getD i5.toNat 0)<=i4))==false) then Kj ((a6.getD i2.toNat []).getD i5.toNat 0) (a6.length:Int) else some false).bind λx7=>(bif (bif (decide (((a6.getD i2.toNat []).getD i5.toNat 0)<=i4)) then true else(!x7)) then(some (.done (.inr false))) else(some (.next (((a6.getD i2.toNat []).getD i5.toNat 0),(w64 (i5+1)))))))) else(some (.done (.inl ()))))
def Dh(a6:Kc):Int->Option (LR Int (Unit ⊕ Bool)):=
 λ(i2:Int)=>(bif (decide (i2<(a6.length:Int))) then(Aw (As i2 a6.length) ((Ad (Hk a6 i2) ((-1:Int),(0:Int))).bind (λx8=>(match x8 with|(.inl _)=>(some (.next (w64 (i2+1))))|(.inr r10)=>(some (.done (.inr r10))))))) else(some (.done (.inl ()))))
def Y0(Γ:H6)(a6:Kc)(r:Bool):Exit->St->Prop:=fK Tryz.prog Γ Tryz.f204.results.toList [] (.bool r) []
def Q30(a6:Kc)(i2:Int)(i5:Int)(i4:Int):=(decide (((a6.getD i2.toNat []).getD i5.toNat 0)<=i4))
def Pq(a6:Kc):Option Bool:=
 ((Mq (a6.length:Int)).bind λx1=>(bif (!x1) then(some false) else((Ad (Dh a6) (0:Int)).bind (λx11=>(match x11 with|(.inl _)=>(some true)|(.inr r13)=>(some r13))))))
theorem KW(h:Pq v14=some v3):sP 204 [(FZ v14)] [] (.bool v3) []:=
 sG Tryz.func204 λΓ q=>Ae q [0] [] (tB h λx1 y1 h=>tT q [0,11] [] [(Z7 x1)] (c1 (W6 y1)) (gC h (λh=>Ae q [2] [] (tS h (Bq []))) λh=>Ae q TM [] (tL q h TM [] (λu i2=>(Cn u [(14,(Z6 i2))] [])) (λu x_=>match x_ with|(.inl _)=>aG Γ (.exit 0) (⟨[],[],[]⟩:St)|(.inr r_)=>aR (Y0 Γ v14 r_)) (λi2 y h=>Ae q [0,12,13,14,15] [] (gC h (λh=>tV q bb [] h λh=>tW q [0,4,5,12,13,14] [] kU [] (tL q h kU [] (λu (i4,i5)=>(Cn u [(5,(Z6 i4)),(20,(Z6 i5))] [])) (λu x_=>match x_ with|(.inl _)=>aG Γ (.exit 2) (Ng TM [] u [] [])|(.inr r_)=>aR (Y0 Γ v14 r_)) (λ⟨i4,i5⟩ y h=>Ae q [0,5,12,13,14,18,19,20,21] [] (gC h (λh=>tV q [0,5,7,12,13,14,18,19,20] [] h λh=>tB h λx7 y7 h=>tT q [0,7,12,13,14,18,19,20,33] [] [(Z7 x7)] (Si ((Q30 v14 i2 i5 i4)==false) (c3 (λ(hg:((Q30 v14 i2 i5 i4)==false)=true)=>(Sd (Ba hg y7))) (gI ((Q30 v14 i2 i5 i4)==false)) (I9 (Q30 v14 i2 i5 i4)))) (gC h (λh=>Ae q [2] [] (tS h (gO (Mp (H7 [] (Le.refl _ _)))))) λh=>tW q kU [] kU [] (tN h))) λh=>tS h (gO (A3 (A8 TM [] q))))) λx8 h=>(match x8,h with | .inl _,h=>gA (Ae q TM [] (tN h)) | .inr r10,h=>gAr (λst' hk=>tS h (gO (Mp hk)))))) λh=>tS h (gO (A3 (A8 [] [] q))))) λx11 h=>(match x11,h with | .inl _,h=>gA (Ae q [2] [] (tS h (Bq []))) | .inr r13,h=>gAr (λst' hk=>tS h (gK hk))))))
def Eo(aa4:Ao)(aa6:Ao):Int->Option (LR Int (Unit ⊕ Bool)):=
 λ(i1:Int)=>(bif (decide (i1<(aa4.length:Int))) then(Aw (As i1 aa4.length) (Aw (As i1 aa6.length) (bif ((aa4.getD i1.toNat 0)!=(aa6.getD i1.toNat 0)) then(some (.done (.inr false))) else(some (.next (w64 (i1+1))))))) else(some (.done (.inl ()))))
def Xo(Γ:H6)(aa4:Ao)(aa6:Ao)(r:Bool):Exit->St->Prop:=fK Tryz.prog Γ Tryz.f134.results.toList [] (.bool r) []
def Ei(aa4:Ao)(aa6:Ao):Option Bool:=
 (bif ((aa4.length:Int)!=(aa6.length:Int)) then(some false) else((Ad (Eo aa4 aa6) (0:Int)).bind (λx4=>(match x4 with|(.inl _)=>(some true)|(.inr r6)=>(some r6)))))
variable{v17:Ao}
theorem Lx(h:Ei v2 v17=some v3):sP 134 [(My v2),(My v17)] [] (.bool v3) []:=
 sG Tryz.func134 λΓ q=>tW q Fg [] DC [] (gC h (λh=>Ae q [4] [] (tS h (Bq []))) λh=>Ae q jC [] (tL q h jC [] (λu i1=>(Cn u [(13,(Z6 i1))] [])) (λu x_=>match x_ with|(.inl _)=>aG Γ (.exit 0) (⟨[],[],[]⟩:St)|(.inr r_)=>aR (Xo Γ v2 v17 r_)) (λi1 y h=>Ae q [0,1,12,13,14] [] (gC h (λh=>Ae q [0,1,5,12,13] [] (tC h λc2_ h=>tC h λc3_ h=>tU q [0,1,12,13,24] [] (c2 c2_ c3_) (gC h (λh=>Ae q [4] [] (tS h (gO (Mp (H7 [] (Le.refl _ _)))))) λh=>Ae q jC [] (tN h)))) λh=>tS h (gO (A3 (A8 [] [] q))))) λx4 h=>(match x4,h with | .inl _,h=>gA (Ae q [4] [] (tS h (Bq []))) | .inr r6,h=>gAr (λst' hk=>tS h (gK hk)))))
def B3(aa4:Kc)(aa6:Kc):Int->Option (LR Int (Unit ⊕ Bool)):=
 λ(i1:Int)=>(bif (decide (i1<(aa4.length:Int))) then(Aw (As i1 aa4.length) (Aw (As i1 aa6.length) ((Ei (aa4.getD i1.toNat []) (aa6.getD i1.toNat [])).bind λx4=>(bif (!x4) then(some (.done (.inr false))) else(some (.next (w64 (i1+1)))))))) else(some (.done (.inl ()))))
def Pr(Γ:H6)(aa4:Kc)(aa6:Kc)(r:Bool):Exit->St->Prop:=fK Tryz.prog Γ Tryz.f205.results.toList [] (.bool r) []
def Di(aa4:Kc)(aa6:Kc):Option Bool:=
 (bif ((aa4.length:Int)!=(aa6.length:Int)) then(some false) else((Ad (B3 aa4 aa6) (0:Int)).bind (λx5=>(match x5 with|(.inl _)=>(some true)|(.inr r7)=>(some r7)))))
theorem Pd(h:Di v14 v15=some v3):sP 205 [(FZ v14),(FZ v15),(.clo 134 [] [])] [] (.bool v3) []:=
 sG Tryz.func205 λΓ q=>tW q UJ [] [0,1,2,14] [] (gC h (λh=>Ae q [6] [] (tS h (Bq []))) λh=>Ae q iY [] (tL q h iY [] (λu i1=>(Cn u [(17,(Z6 i1))] [])) (λu x_=>match x_ with|(.inl _)=>aG Γ (.exit 0) (⟨[],[],[]⟩:St)|(.inr r_)=>aR (Pr Γ v14 v15 r_)) (λi1 y h=>Ae q [1,2,15,16,17,18] [] (gC h (λh=>tV q [1,2,7,8,15,16,17] [] h λh=>tV q [1,2,8,9,15,16,17] [] h λh=>tB h λx4 y4 h=>tT q [1,2,15,16,17,30] [] [(Z7 x4)] (c1 (Lx y4)) (gC h (λh=>Ae q [6] [] (tS h (gO (Mp (H7 [] (Le.refl _ _)))))) λh=>Ae q iY [] (tN h))) λh=>tS h (gO (A3 (A8 [] [] q))))) λx5 h=>(match x5,h with | .inl _,h=>gA (Ae q [6] [] (tS h (Bq []))) | .inr r7,h=>gAr (λst' hk=>tS h (gK hk)))))
def Vt(a4:TGraph):Option Bool:=
 ((Pq a4.Succ).bind λx1=>((bif (x1==true) then Nx a4.Succ else some []).bind λx2=>((bif (x1==true) then Di a4.Pred x2 else some false).bind λx3=>(some (bif x1 then x3 else false)))))
variable{v18:TGraph}
theorem bB(h:Vt v18=some v3):sP 175 [(fA v18)] [] (.bool v3) []:=
 sG Tryz.func175 λΓ q=>Ae q [1] [1] (tB h λx1 y1 h=>tB h λx2 y2 h=>tB h λx3 y3 h=>tT q [2] [] [(Z7 x1),⟨[],[],(FZ x2),[],[],[]⟩,(Z7 x3)] (ci (KW y1) (Si (x1==true) (ci (show((x1==true)=true->(sP 132 [(FZ v18.Succ)] [] (FZ x2) [])) from(λhg=>(Spec.drop (Y8 (Ba hg y2))))) (Kb (x1==true) (c2 (λ(hg:(x1==true)=true)=>(Pd (Ba hg y3))) (Na x1)))))) (tS h (Bq [])))
abbrev yT8:=(Int×Int×Ao)
def Bj :yT8->Option (LR (Int×Int×Ao) Ao):=
 λ((i1,i2,l3):yT8)=>(bif (decide (i1<i2)) then(Aw (As i2 l3.length) (Aw (As i1 l3.length) (Aw (As i1 l3.length) (Aw (As i2 l3.length) (some (.next ((w64 (i1+1)),(w64 (i2-1)),((l3.set i1.toNat (l3.getD i2.toNat 0)).set i2.toNat (l3.getD i1.toNat 0))))))))) else(some (.done l3)))
def Q31(l3:Ao)(i1:Int)(i2:Int):=((l3.set i1.toNat (l3.getD i2.toNat 0)).set i2.toNat (l3.getD i1.toNat 0))
def Fb(aL:Ao):Option Ao:=
 ((Ad (S:=yT8) (X:=Ao) Bj ((0:Int),(w64 ((aL.length:Int)-1)),aL)).bind (λx9=>(some x9)))
theorem Oo(h:Fb v2=some v17):sP 176 [(.vsl 34000 v2.length)] [(Z4 34000 v2)] (.tuple []) [(Z4 34000 v17)]:=
 sG Tryz.func176 λΓ q=>Ae q HE [34000] (tL q h HE [34000] (λu (i1,i2,l3)=>(Cn u [(0,(.vsl 34000 l3.length)),(2,(Z6 i1)),(3,(Z6 i2))] [(Z4 34000 l3)])) (λu l4=>aG Γ (.exit 0) (⟨[],[(Z4 34000 l4)],[]⟩:St)) (λ⟨i1,i2,l3⟩ y h=>Ae q [0,2,3,9] [34000] (gC h (λh=>tC h λc5_ h=>tC h λc6_ h=>tC h λc7_ h=>tC h λc8_ h=>tU q HE [34000] (c8 c5_ (Eq.refl l3.length) c6_ (Eq.refl l3.length) c7_ (Eq.refl l3.length) c8_ (Eq.refl l3.length)) (M3 (Le.trans (Vf 34000 (show ∀ k_,k_<l3.length->AVleL ((λi_=>AV.eraseAll (λn_=>B4 n_ [34000]) ((Fd (Fd (λi=>An (l3.getD i 0)) i1.toNat 0 [(.int .i64 (l3.getD i2.toNat 0))]) i2.toNat 0 [(.int .i64 (l3.getD i1.toNat 0))]) i_)) k_) ((λi=>An ((Q31 l3 i1 i2).getD i 0)) k_) from(Bl (Eq.trans (D0 ..).symm (D0 ..).symm) (λk_ hk_=>(Bn (AV.eraseAll (λn_=>B4 n_ [34000])) ((Hg (Hg (λ_ _=>rfl) (J1 c7_) rfl) (tu c8_) rfl) k_ hk_)).trans rfl)))) (Vg (λ(k_:Nat) u=>(Cn u [(0,(.vsl 34000 k_))] [(34000,.arr 1 3 k_ (λi=>An ((Q31 l3 i1 i2).getD i 0)))])) (show l3.length=(Q31 l3 i1 i2).length from(Eq.trans (D0 ..).symm (D0 ..).symm)))) (Ae q HE [34000] (tN h)))) λh=>tS h (gO (A3 (A8 [] [34000] q))))) λx9 h=>mq (λst' hl10=>tS h (gK (e:=.normal) (H7 [(34000,34000)] hl10))))
abbrev yT9:=(LR Ao (Ao ⊕ (List Bool×Ao×Ao)))
def KL(a4:TGraph)(a1:Int):Ao->Option yT9:=
 λ(l9:Ao)=>(Aw (As ([a1].getD (w64 (([a1].length:Int)-1)).toNat (0:Int)) 64) (Aw (As ([a1].getD (w64 (([a1].length:Int)-1)).toNat (0:Int)) a4.Succ.length) (bif (decide ((l9.getD ([a1].getD (w64 (([a1].length:Int)-1)).toNat (0:Int)).toNat (0:Int))<((a4.Succ.getD ([a1].getD (w64 (([a1].length:Int)-1)).toNat (0:Int)).toNat []).length:Int))) then(Aw (As ([a1].getD (w64 (([a1].length:Int)-1)).toNat (0:Int)) a4.Succ.length) (Aw (As ([a1].getD (w64 (([a1].length:Int)-1)).toNat (0:Int)) 64) (Aw (As (l9.getD ([a1].getD (w64 (([a1].length:Int)-1)).toNat (0:Int)).toNat (0:Int)) (a4.Succ.getD ([a1].getD (w64 (([a1].length:Int)-1)).toNat (0:Int)).toNat []).length) (Aw (As ([a1].getD (w64 (([a1].length:Int)-1)).toNat (0:Int)) 64) (Aw (As ([a1].getD (w64 (([a1].length:Int)-1)).toNat (0:Int)) 64) (Aw (As ((a4.Succ.getD ([a1].getD (w64 (([a1].length:Int)-1)).toNat (0:Int)).toNat []).getD (l9.getD ([a1].getD (w64 (([a1].length:Int)-1)).toNat (0:Int)).toNat (0:Int)).toNat (0:Int)) 64) (bif (!((Qf 64 false (List.replicate 64 false) a1.toNat true).getD ((a4.Succ.getD ([a1].getD (w64 (([a1].length:Int)-1)).toNat (0:Int)).toNat []).getD (l9.getD ([a1].getD (w64 (([a1].length:Int)-1)).toNat (0:Int)).toNat (0:Int)).toNat (0:Int)).toNat false)) then(Aw (As ((a4.Succ.getD ([a1].getD (w64 (([a1].length:Int)-1)).toNat (0:Int)).toNat []).getD (l9.getD ([a1].getD (w64 (([a1].length:Int)-1)).toNat (0:Int)).toNat (0:Int)).toNat (0:Int)) 64) (Aw ([a1].length+([((a4.Succ.getD ([a1].getD (w64 (([a1].length:Int)-1)).toNat (0:Int)).toNat []).getD (l9.getD ([a1].getD (w64 (([a1].length:Int)-1)).toNat (0:Int)).toNat (0:Int)).toNat (0:Int))]:Ao).length<=room) (some (.done (.inr ((Qf 64 false (Qf 64 false (List.replicate 64 false) a1.toNat true) ((a4.Succ.getD ([a1].getD (w64 (([a1].length:Int)-1)).toNat (0:Int)).toNat []).getD (l9.getD ([a1].getD (w64 (([a1].length:Int)-1)).toNat (0:Int)).toNat (0:Int)).toNat (0:Int)).toNat true),(Qf 64 (0:Int) l9 ([a1].getD (w64 (([a1].length:Int)-1)).toNat (0:Int)).toNat (w64 ((l9.getD ([a1].getD (w64 (([a1].length:Int)-1)).toNat (0:Int)).toNat (0:Int))+1))),([a1]++([((a4.Succ.getD ([a1].getD (w64 (([a1].length:Int)-1)).toNat (0:Int)).toNat []).getD (l9.getD ([a1].getD (w64 (([a1].length:Int)-1)).toNat (0:Int)).toNat (0:Int)).toNat (0:Int))]:Ao)))))))) else(some (.next (Qf 64 (0:Int) l9 ([a1].getD (w64 (([a1].length:Int)-1)).toNat (0:Int)).toNat (w64 ((l9.getD ([a1].getD (w64 (([a1].length:Int)-1)).toNat (0:Int)).toNat (0:Int))+1)))))))))))) else(some (.done (.inl l9))))))
def Jq(a4:TGraph)(l1:List Bool)(l3:Ao):Ao->Option yT9:=
 λ(l32:Ao)=>(Aw (As (l3.getD (w64 ((l3.length:Int)-1)).toNat (0:Int)) 64) (Aw (As (l3.getD (w64 ((l3.length:Int)-1)).toNat (0:Int)) a4.Succ.length) (bif (decide ((l32.getD (l3.getD (w64 ((l3.length:Int)-1)).toNat (0:Int)).toNat (0:Int))<((a4.Succ.getD (l3.getD (w64 ((l3.length:Int)-1)).toNat (0:Int)).toNat []).length:Int))) then(Aw (As (l3.getD (w64 ((l3.length:Int)-1)).toNat (0:Int)) a4.Succ.length) (Aw (As (l3.getD (w64 ((l3.length:Int)-1)).toNat (0:Int)) 64) (Aw (As (l32.getD (l3.getD (w64 ((l3.length:Int)-1)).toNat (0:Int)).toNat (0:Int)) (a4.Succ.getD (l3.getD (w64 ((l3.length:Int)-1)).toNat (0:Int)).toNat []).length) (Aw (As (l3.getD (w64 ((l3.length:Int)-1)).toNat (0:Int)) 64) (Aw (As (l3.getD (w64 ((l3.length:Int)-1)).toNat (0:Int)) 64) (Aw (As ((a4.Succ.getD (l3.getD (w64 ((l3.length:Int)-1)).toNat (0:Int)).toNat []).getD (l32.getD (l3.getD (w64 ((l3.length:Int)-1)).toNat (0:Int)).toNat (0:Int)).toNat (0:Int)) 64) (bif (!(l1.getD ((a4.Succ.getD (l3.getD (w64 ((l3.length:Int)-1)).toNat (0:Int)).toNat []).getD (l32.getD (l3.getD (w64 ((l3.length:Int)-1)).toNat (0:Int)).toNat (0:Int)).toNat (0:Int)).toNat false)) then(Aw (As ((a4.Succ.getD (l3.getD (w64 ((l3.length:Int)-1)).toNat (0:Int)).toNat []).getD (l32.getD (l3.getD (w64 ((l3.length:Int)-1)).toNat (0:Int)).toNat (0:Int)).toNat (0:Int)) 64) (Aw (l3.length+([((a4.Succ.getD (l3.getD (w64 ((l3.length:Int)-1)).toNat (0:Int)).toNat []).getD (l32.getD (l3.getD (w64 ((l3.length:Int)-1)).toNat (0:Int)).toNat (0:Int)).toNat (0:Int))]:Ao).length<=room) (some (.done (.inr ((Qf 64 false l1 ((a4.Succ.getD (l3.getD (w64 ((l3.length:Int)-1)).toNat (0:Int)).toNat []).getD (l32.getD (l3.getD (w64 ((l3.length:Int)-1)).toNat (0:Int)).toNat (0:Int)).toNat (0:Int)).toNat true),(Qf 64 (0:Int) l32 (l3.getD (w64 ((l3.length:Int)-1)).toNat (0:Int)).toNat (w64 ((l32.getD (l3.getD (w64 ((l3.length:Int)-1)).toNat (0:Int)).toNat (0:Int))+1))),(l3++([((a4.Succ.getD (l3.getD (w64 ((l3.length:Int)-1)).toNat (0:Int)).toNat []).getD (l32.getD (l3.getD (w64 ((l3.length:Int)-1)).toNat (0:Int)).toNat (0:Int)).toNat (0:Int))]:Ao)))))))) else(some (.next (Qf 64 (0:Int) l32 (l3.getD (w64 ((l3.length:Int)-1)).toNat (0:Int)).toNat (w64 ((l32.getD (l3.getD (w64 ((l3.length:Int)-1)).toNat (0:Int)).toNat (0:Int))+1)))))))))))) else(some (.done (.inl l32))))))
abbrev qh:=(List Bool×Ao×Ao×Ao)
def Ee(a4:TGraph):qh->Option (LR (List Bool×Ao×Ao×Ao) Ao):=
 λ(s_:qh)=>match s_ with|(l1,l2,l3,l4)=>(Aw (As (w64 ((l3.length:Int)-1)) l3.length) ((Ad (Jq a4 l1 l3) l2).bind (λx47=>(match x47 with|(.inl l33)=>(Aw (l4.length+([(l3.getD (w64 ((l3.length:Int)-1)).toNat (0:Int))]:Ao).length<=room) (Aw (0<=(w64 ((l3.length:Int)-1))/\0+(w64 ((l3.length:Int)-1)).toNat<=l3.length) (bif (decide ((0:Int)<((l3.take (w64 ((l3.length:Int)-1)).toNat).length:Int))) then(some (.next (l1,l33,(l3.take (w64 ((l3.length:Int)-1)).toNat),(l4++([(l3.getD (w64 ((l3.length:Int)-1)).toNat (0:Int))]:Ao))))) else((Fb (l4++([(l3.getD (w64 ((l3.length:Int)-1)).toNat (0:Int))]:Ao))).bind λx51=>(Aw ((l4++([(l3.getD (w64 ((l3.length:Int)-1)).toNat (0:Int))]:Ao)).length=x51.length) (some (.done x51)))))))|(.inr (l34,l35,l36))=>(some (.next (l34,l35,l36,l4)))))))
def UY(Γ:H6)(a4:TGraph)(a1:Int)(r:Ao):Exit->St->Prop:=fK Tryz.prog Γ Tryz.f141.results.toList [] (HO r 20000) [(Ts 20000 r.length)]
def xu(l1:List Bool):=(λi=>eB (l1.getD i false))
def mh(l3:Ao):=(l3.getD (w64 ((l3.length:Int)-1)).toNat (0:Int))
def nZ(l4:Ao)(l3:Ao):=(l4++([(mh l3)]:Ao))
def zG(l10:Ao):=(λi=>An (l10.getD i 0))
def zI(l33:Ao):=(λi=>An (l33.getD i 0))
def e7:=(λn_=>B4 n_ [2,5,6,25,36007])
def wX(a1:Int):=(λi=>An ([a1].getD i 0))
def jK(a1:Int):=([a1].getD (w64 (([a1].length:Int)-1)).toNat (0:Int))
def rO(a1:Int):=(([]:Ao)++([(jK a1)]:Ao))
def xx(a1:Int):=(λi=>An ((rO a1).getD i 0))
def xw(l4:Ao)(l3:Ao):=(λi=>An ((nZ l4 l3).getD i 0))
def xr:AV:=jM
def Q42:=(λi=>An (([]:Ao).getD i 0))
def wV(l3:Ao):=(0+(w64 ((l3.length:Int)-1)).toNat)
def xq(a1:Int):=(0+(w64 (([a1].length:Int)-1)).toNat)
def Q52(a1:Int):=([a1].take (w64 (([a1].length:Int)-1)).toNat)
def Q41:=(λi=>An ((List.replicate 64 (0:Int)).getD i 0))
def nW(a4:TGraph):List AV:=[(FZ a4.Succ),(FZ a4.Pred)]
def vJ(a1:Int):=(λi=>eB ((Qf 64 false (List.replicate 64 false) a1.toNat true).getD i false))
def rN(a4:TGraph)(l3:Ao)(l32:Ao):=((a4.Succ.getD (mh l3).toNat []).getD (l32.getD (mh l3).toNat (0:Int)).toNat (0:Int))
def rM(a4:TGraph)(a1:Int)(l9:Ao):=((a4.Succ.getD (jK a1).toNat []).getD (l9.getD (jK a1).toNat (0:Int)).toNat (0:Int))
def Q51:=(Z36:St)
def Q55(a1:Int):List NL:=[Ob,np,nk,(7,(.vsl 36007 (rO a1).length)),(8,(.vsl 25 (xq a1)))]
def Q48(a1:Int)(a4:TGraph):=(⟨[Ob,np,nk,(7,(.vsl 36007 ([]:Ao).length)),(8,(.vsl 25 [a1].length)),(9,(Z6 (jK a1)))],[(L9 97 (nW a4)),(PQ (vJ a1)),(mp Q41),(25,.arr 1 3 ([a1].length) (wX a1)),(36007,.arr 1 3 (([]:Ao).length) Q42)],[]⟩:St)
def Lh(a4:TGraph)(a1:Int):Option Ao:=
 ((Tc (S:=qh) (X:=Ao) ((Vt a4).bind λx5=>((bif ((!x5)==false) then Kj a1 (a4.Succ.length:Int) else some false).bind λx6=>(bif (bif (!x5) then true else(!x6)) then(some (.done ([]:Ao))) else(Aw (As a1 64) (Aw (As (w64 (([a1].length:Int)-1)) [a1].length) ((Ad (KL a4 a1) (List.replicate 64 (0:Int))).bind (λx24=>(match x24 with|(.inl l10)=>(Aw (([]:Ao).length+([([a1].getD (w64 (([a1].length:Int)-1)).toNat (0:Int))]:Ao).length<=room) (Aw (0<=(w64 (([a1].length:Int)-1))/\0+(w64 (([a1].length:Int)-1)).toNat<=[a1].length) (bif (decide ((0:Int)<(([a1].take (w64 (([a1].length:Int)-1)).toNat).length:Int))) then(some (.next ((Qf 64 false (List.replicate 64 false) a1.toNat true),l10,([a1].take (w64 (([a1].length:Int)-1)).toNat),(([]:Ao)++([([a1].getD (w64 (([a1].length:Int)-1)).toNat (0:Int))]:Ao))))) else((Fb (([]:Ao)++([([a1].getD (w64 (([a1].length:Int)-1)).toNat (0:Int))]:Ao))).bind λx28=>(Aw ((([]:Ao)++([([a1].getD (w64 (([a1].length:Int)-1)).toNat (0:Int))]:Ao)).length=x28.length) (some (.done x28)))))))|(.inr (l11,l12,l13))=>(some (.next (l11,l12,l13,([]:Ao)))))))))))) (Ee a4)).bind (λx54=>(some x54)))
theorem BU(h:Lh v18 v1=some v2):sP 141 [(fA v18),(Z6 v1)] [] (HO v2 20000) [(Ts 20000 v2.length)]:=
 sG Tryz.func141 λΓ q=>have hΓ:=q.own;gR q Nj [2] [(4,xr)] [] (c1 (Bd 1 An (0:Int))) (tB h λx54 y54 h=>gS y54 (λ(s_:qh)=>match s_ with|(l1,l2,l3,l4)=>0) (λ(s_:qh)=>match s_ with|(l1,l2,l3,l4)=>(⟨[Ob,np,nk,(V6 36007 l4.length),(8,(.vsl 25 l3.length))],[(L9 97 (nW v18)),(PQ (xu l1)),(zQ l2),(Z4 25 l3),(Z4 36007 l4)],[]⟩:St)) (λr_=>aR (UY Γ v18 v1 r_)) (λy h=>tB h λx5 y5 h=>tB h λx6 y6 h=>tT q [1,2,21] [2] [(Z7 x5),(Z7 x6)] (ci (bB y5) (QL ((!x5)==false) (c3 (λ(hg:((!x5)==false)=true)=>(Sd (Ba hg y6))) (gI ((!x5)==false)) (I9 (!x5))))) (gC h (λh=>gR q [4] [] [(4,xr)] [] (c1 (Bd 1 An (0:Int))) (O8 (⟨[(4,xr)],[],[]⟩:St) (tS h (mr (Mp (H7 TN (show Le Γ _ Q51 from Le.trans (A8 (st':=⟨[(4,xr)],[],[]⟩) [4] [] q) (Le.trans (Ld (t:=4) (nm:=6004) (sz':=1) Q42 3 rfl rfl (.inl ⟨rfl,rfl⟩) (λh_=>absurd h_ (by decide))) (A8 (st':=Q51) [4] [6004] q))))))))) λh=>gR q Wl Tf [np] [] trivial (M3 (Vf 5 (show ∀ k_,k_<64->AVleL ((λi_=>AV.eraseAll (λn_=>B4 n_ Tf) ((λi=>(((List.replicate 64 [(.bool false)]).flatten).drop (i*1)).take 1) i_)) k_) ((λi=>eB ((List.replicate 64 false).getD i false)) k_) from(WR (e:=eB) (d:=false) (z:=[(.bool false)]) rfl rfl rfl))) (gR q [1,2,5,6] V5 [nk] [] trivial (M3 (Vf 6 (show ∀ k_,k_<64->AVleL ((λi_=>AV.eraseAll (λn_=>B4 n_ V5) ((λi=>(((List.replicate 64 [Lc]).flatten).drop (i*1)).take 1) i_)) k_) (Q41 k_) from(WR (e:=An) (d:=(0:Int)) (z:=[Lc]) rfl rfl rfl))) (gR q iq V5 [(7,xr)] [] (c1 (Bd 1 An (0:Int))) (tC h λc7_ h=>tU q iq V5 (c2 c7_ (Eq.refl 64)) (M3 (Vf 5 (show ∀ k_,k_<64->AVleL ((λi_=>AV.eraseAll (λn_=>B4 n_ V5) ((Fd (λi=>eB ((List.replicate 64 false).getD i false)) v1.toNat 0 [(.bool true)]) i_)) k_) ((vJ v1) k_) from(Bl rfl (λk_ hk_=>(Bn (AV.eraseAll (λn_=>B4 n_ V5)) ((Xb (λ_ _=>rfl) (Qp c7_) rfl) k_ hk_)).trans rfl)))) (gR q DG bn [(25,(.vsl 25 1))] [] trivial (M3 (Le.trans (Vf 25 (show ∀ k_,k_<1->AVleL ((λi_=>AV.eraseAll (λn_=>B4 n_ bn) ((λi_=>([(Z6 v1)].drop (i_*1)).take 1) i_)) k_) ((wX v1) k_) from(Bl rfl (bL (n:=0) gy rfl)))) (Vg (λ(k_:Nat) u=>(Cn u [(8,(.vsl 25 k_))] [(25,.arr 1 3 k_ (wX v1))])) (show 1=[v1].length from rfl))) (tC h λc8_ h=>tU q FT bn (c2 c8_ (Eq.refl ([v1].length))) (M3 (st':=(Q48 v1 v18)) (Le.trans (A8 (st':=⟨[Ob,np,nk,(7,xr),(8,(.vsl 25 [v1].length)),(9,(Z6 (jK v1)))],[(L9 97 (nW v18)),(PQ (vJ v1)),(mp Q41),(25,.arr 1 3 ([v1].length) (wX v1))],[]⟩) FT bn q) (Le.trans (aj (t:=7) (nm:=36007) (sz':=1) Q42 3 rfl rfl) (A8 (st':=(Q48 v1 v18)) FT Qg q))) (tL q h FT Qg (λu l9=>(Cn u [] [(zQ l9)])) (λu x_=>match x_ with|(.inl l10)=>aG Γ (.exit 0) (Cn u [] [(mp (zG l10))])|(.inr (l11,l12,l13))=>aG Γ (.goto 0) (Ng DG Qg u [(8,(.vsl 25 l13.length))] [(5,.arr 1 212 64 (λi=>eB (l11.getD i false))),(zQ l12),(Z4 25 l13)])) (λl9 y h=>tC h λc14_ h=>tC h λc15_ h=>tU q [2,5,6,7,8,9,41] Qg (c3 c14_ (Eq.refl 64) c15_) (gC h (λh=>tC h λc16_ h=>tC h λc17_ h=>tC h λc18_ h=>tU q bX Qg (c4 c16_ c17_ (Eq.refl 64) c18_) (tC h λc19_ h=>tC h λc20_ h=>tU q bX Qg (c4 c19_ (Eq.refl 64) c20_ (Eq.refl 64)) (M3 (Vf 6 (show ∀ k_,k_<64->AVleL ((λi_=>AV.eraseAll e7 ((Fd (λi=>An (l9.getD i 0)) (jK v1).toNat 0 [(.int .i64 (w64 ((l9.getD (jK v1).toNat (0:Int))+1)))]) i_)) k_) ((λi=>An ((Qf 64 (0:Int) l9 (jK v1).toNat (w64 ((l9.getD (jK v1).toNat (0:Int))+1))).getD i 0)) k_) from(Bl rfl (λk_ hk_=>(Bn (AV.eraseAll e7) ((Xb (λ_ _=>rfl) (Qp c20_) rfl) k_ hk_)).trans rfl)))) (tC h λc21_ h=>tU q q9 Qg (c2 c21_ (Eq.refl 64)) (gC h (λh=>tC h λc22_ h=>tU q [2,5,6,7,8,10] Qg (c2 c22_ (Eq.refl 64)) (M3 (Vf 5 (show ∀ k_,k_<64->AVleL ((λi_=>AV.eraseAll e7 ((Fd (vJ v1) (rM v18 v1 l9).toNat 0 [(.bool true)]) i_)) k_) ((λi=>eB ((Qf 64 false (Qf 64 false (List.replicate 64 false) v1.toNat true) (rM v18 v1 l9).toNat true).getD i false)) k_) from(Bl rfl (λk_ hk_=>(Bn (AV.eraseAll e7) ((Xb (λ_ _=>rfl) (Qp c22_) rfl) k_ hk_)).trans rfl)))) (tC h λc23_ h=>gR q DG Qg [(65,(ml (rM v18 v1 l9)))] [] (c3 (Az 1 An (0:Int) ([(rM v18 v1 l9)]:Ao)) (Eq.refl ([v1].length)) c23_) (tS h (gO (A3 (Le.trans (Le.trans (Vf 25 (show ∀ k_,k_<([v1].length+([(rM v18 v1 l9)]:Ao).length)->AVleL ((λi_=>AV.eraseAll e7 ((O5 ([v1].length) (wX v1) (λi=>An (([(rM v18 v1 l9)]:Ao).getD i 0))) i_)) k_) ((λi=>An (([v1]++([(rM v18 v1 l9)]:Ao)).getD i 0)) k_) from(Bl (Bs _ _) (λk_ hk_=>(Bn (AV.eraseAll e7) ((Wv (λ_ _=>rfl) (λ_ _=>rfl)) k_ hk_)).trans rfl)))) (Vg (λ(k_:Nat) u=>(Cn u [(8,(.vsl 25 k_))] [(25,.arr 1 3 k_ (λi=>An (([v1]++([(rM v18 v1 l9)]:Ao)).getD i 0)))])) (show([v1].length+([(rM v18 v1 l9)]:Ao).length)=([v1]++([(rM v18 v1 l9)]:Ao)).length from(Bs _ _)))) Gv))))))) λh=>tS h (gN (A8 FT Qg q))))))) λh=>tS h (gO (A3 (A8 FT Qg q))))) λx24 h=>(match x24,h with | .inl l10,h=>gA (tC h λc26_ h=>gR q DG Qg [(69,(ml (jK v1)))] [] (c3 (Az 1 An (0:Int) ([(jK v1)]:Ao)) (Eq.refl (([]:Ao).length)) c26_) (M3 (Le.trans (Vf 36007 (show ∀ k_,k_<(([]:Ao).length+([(jK v1)]:Ao).length)->AVleL ((λi_=>AV.eraseAll e7 ((O5 (([]:Ao).length) Q42 (λi=>An (([(jK v1)]:Ao).getD i 0))) i_)) k_) ((xx v1) k_) from(Bl (Bs _ _) (λk_ hk_=>(Bn (AV.eraseAll e7) ((Wv (λ_ _=>rfl) (λ_ _=>rfl)) k_ hk_)).trans rfl)))) (Vg (λ(k_:Nat) u=>(Cn u [(V6 36007 k_)] [(36007,.arr 1 3 k_ (xx v1))])) (show(([]:Ao).length+([(jK v1)]:Ao).length)=(rO v1).length from(Bs _ _)))) (tC h λc27_ h=>tU q DG Qg (c1 c27_) (O8 (⟨[Ob,np,nk,(7,(.vsl 36007 (rO v1).length)),(8,(.vsub 25 [v1].length 0 (xq v1)))],[(L9 97 (nW v18)),(PQ (vJ v1)),(mp (zG l10)),(25,.arr 1 3 ([v1].length) (wX v1)),(36007,.arr 1 3 ((rO v1).length) (xx v1))],[]⟩:St) (M3 (Le.trans (Le.trans (dK (t:=8) (r:=25) (k:=(xq v1)) rfl rfl c27_.2 (by kernel_rfl) (.row (by kernel_rfl) (.arr (λ_=>by kernel_rfl) (.arr (λ_=>by kernel_rfl) (.arr (λ_=>by kernel_rfl) (.arr (λ_=>by kernel_rfl) .nil))))) (by rw[hΓ];rfl)) (H8 (st':=⟨(Q55 v1),[(L9 97 (nW v18)),(PQ (vJ v1)),(mp (zG l10)),(25,.arr 1 3 (xq v1) (wX v1)),(36007,.arr 1 3 ((rO v1).length) (xx v1))],[]⟩) (by kernel_rfl))) (Le.trans (Gw (st':=⟨(Q55 v1),[(L9 97 (nW v18)),(PQ (vJ v1)),(mp (zG l10)),(25,.arr 1 3 (xq v1) (λi=>An ((Q52 v1).getD i 0))),(36007,.arr 1 3 ((rO v1).length) (xx v1))],[]⟩) (TmpsLe.refl _) (.same (.same (.same (.arr (kI (e:=An) (d:=(0:Int))) (.same .nil)))))) (H8 (Bn (λk_:Nat=>(⟨[Ob,np,nk,(7,(.vsl 36007 (rO v1).length)),(8,(.vsl 25 k_))],[(L9 97 (nW v18)),(PQ (vJ v1)),(mp (zG l10)),(25,.arr 1 3 k_ (λi=>An ((Q52 v1).getD i 0))),(36007,.arr 1 3 ((rO v1).length) (xx v1))],[]⟩:St)) (show(xq v1)=(Q52 v1).length from eP c27_.2))))) (Ae q [2,5,6,7,8,78] Qg (gC h (λh=>tS h (oz (A8 DG Qg q))) λh=>tB h λx28 y28 h=>tC h λc29_ h=>tT q [7] [36007] [⟨[(36007,34000)],[],(.tuple []),[(Z4 34000 x28)],[],[]⟩] (c1 (Oo y28)) (M3 (Vg (λ(k_:Nat) u=>(Cn u [(V6 36007 k_)] [])) (show(rO v1).length=x28.length from c29_)) (Ae q [4] [36007] (O8 ((lA 36007 x28.length x28):St) (tS h (mr (Mp (H7 [(36007,20000)] (Le.trans (Gp (nm:=36007) (sz:=1) (n:=x28.length) (e:=3) (f:=(λi=>An (x28.getD i 0))) (g:=(λi=>An (x28.getD i 0))) rfl ⟨rfl,trivial⟩ (λ_ _=>rfl) (by rw[hΓ];rfl)) (H8 (st':=(yC x28 36007 x28.length)) (by kernel_rfl))))))))))))))))) | .inr ⟨l11,l12,l13⟩,h=>mq (λst' hl30=>tS h (oz (Le.trans hl30 Gv))))))))))))))))) (λ⟨l1,l2,l3,l4⟩ y h=>tC h λc31_ h=>tU q FT Qg (c2 c31_ (Eq.refl l3.length)) (tL q h FT Qg (λu l32=>(Cn u [] [(zQ l32)])) (λu x_=>match x_ with|(.inl l33)=>aG Γ (.exit 0) (Cn u [] [(mp (zI l33))])|(.inr (l34,l35,l36))=>aG Γ (.goto 0) (Ng DG Qg u [(8,(.vsl 25 l36.length))] [(5,.arr 1 212 64 (λi=>eB (l34.getD i false))),(zQ l35),(Z4 25 l36)])) (λl32 y h=>tC h λc37_ h=>tC h λc38_ h=>tU q [2,5,6,7,8,9,41] Qg (c3 c37_ (Eq.refl 64) c38_) (gC h (λh=>tC h λc39_ h=>tC h λc40_ h=>tC h λc41_ h=>tU q bX Qg (c4 c39_ c40_ (Eq.refl 64) c41_) (tC h λc42_ h=>tC h λc43_ h=>tU q bX Qg (c4 c42_ (Eq.refl 64) c43_ (Eq.refl 64)) (M3 (Vf 6 (show ∀ k_,k_<64->AVleL ((λi_=>AV.eraseAll e7 ((Fd (λi=>An (l32.getD i 0)) (mh l3).toNat 0 [(.int .i64 (w64 ((l32.getD (mh l3).toNat (0:Int))+1)))]) i_)) k_) ((λi=>An ((Qf 64 (0:Int) l32 (mh l3).toNat (w64 ((l32.getD (mh l3).toNat (0:Int))+1))).getD i 0)) k_) from(Bl rfl (λk_ hk_=>(Bn (AV.eraseAll e7) ((Xb (λ_ _=>rfl) (Qp c43_) rfl) k_ hk_)).trans rfl)))) (tC h λc44_ h=>tU q q9 Qg (c2 c44_ (Eq.refl 64)) (gC h (λh=>tC h λc45_ h=>tU q [2,5,6,7,8,10] Qg (c2 c45_ (Eq.refl 64)) (M3 (Vf 5 (show ∀ k_,k_<64->AVleL ((λi_=>AV.eraseAll e7 ((Fd (xu l1) (rN v18 l3 l32).toNat 0 [(.bool true)]) i_)) k_) ((λi=>eB ((Qf 64 false l1 (rN v18 l3 l32).toNat true).getD i false)) k_) from(Bl rfl (λk_ hk_=>(Bn (AV.eraseAll e7) ((Xb (λ_ _=>rfl) (Qp c45_) rfl) k_ hk_)).trans rfl)))) (tC h λc46_ h=>gR q DG Qg [(65,(ml (rN v18 l3 l32)))] [] (c3 (Az 1 An (0:Int) ([(rN v18 l3 l32)]:Ao)) (Eq.refl l3.length) c46_) (tS h (gO (A3 (Le.trans (Le.trans (Vf 25 (show ∀ k_,k_<(l3.length+([(rN v18 l3 l32)]:Ao).length)->AVleL ((λi_=>AV.eraseAll e7 ((O5 l3.length (λi=>An (l3.getD i 0)) (λi=>An (([(rN v18 l3 l32)]:Ao).getD i 0))) i_)) k_) ((λi=>An ((l3++([(rN v18 l3 l32)]:Ao)).getD i 0)) k_) from(Bl (Bs _ _) (λk_ hk_=>(Bn (AV.eraseAll e7) ((Wv (λ_ _=>rfl) (λ_ _=>rfl)) k_ hk_)).trans rfl)))) (Vg (λ(k_:Nat) u=>(Cn u [(8,(.vsl 25 k_))] [(25,.arr 1 3 k_ (λi=>An ((l3++([(rN v18 l3 l32)]:Ao)).getD i 0)))])) (show(l3.length+([(rN v18 l3 l32)]:Ao).length)=(l3++([(rN v18 l3 l32)]:Ao)).length from(Bs _ _)))) Gv))))))) λh=>tS h (gN (A8 FT Qg q))))))) λh=>tS h (gO (A3 (A8 FT Qg q))))) λx47 h=>(match x47,h with | .inl l33,h=>gA (tC h λc49_ h=>gR q DG Qg [(69,(ml (mh l3)))] [] (c3 (Az 1 An (0:Int) ([(mh l3)]:Ao)) (Eq.refl l4.length) c49_) (M3 (Le.trans (Vf 36007 (show ∀ k_,k_<(l4.length+([(mh l3)]:Ao).length)->AVleL ((λi_=>AV.eraseAll e7 ((O5 l4.length (λi=>An (l4.getD i 0)) (λi=>An (([(mh l3)]:Ao).getD i 0))) i_)) k_) ((xw l4 l3) k_) from(Bl (Bs _ _) (λk_ hk_=>(Bn (AV.eraseAll e7) ((Wv (λ_ _=>rfl) (λ_ _=>rfl)) k_ hk_)).trans rfl)))) (Vg (λ(k_:Nat) u=>(Cn u [(V6 36007 k_)] [(36007,.arr 1 3 k_ (xw l4 l3))])) (show(l4.length+([(mh l3)]:Ao).length)=(nZ l4 l3).length from(Bs _ _)))) (tC h λc50_ h=>tU q DG Qg (c1 c50_) (O8 (⟨[Ob,np,nk,(7,(.vsl 36007 (nZ l4 l3).length)),(8,(.vsub 25 l3.length 0 (wV l3)))],[(L9 97 (nW v18)),(PQ (xu l1)),(mp (zI l33)),(Z4 25 l3),(36007,.arr 1 3 ((nZ l4 l3).length) (xw l4 l3))],[]⟩:St) (M3 (Le.trans (Le.trans (dK (t:=8) (r:=25) (k:=(wV l3)) rfl rfl c50_.2 (by kernel_rfl) (.row (by kernel_rfl) (.arr (λ_=>by kernel_rfl) (.arr (λ_=>by kernel_rfl) (.arr (λ_=>by kernel_rfl) (.arr (λ_=>by kernel_rfl) .nil))))) (by rw[hΓ];rfl)) (H8 (st':=⟨[Ob,np,nk,(7,(.vsl 36007 (nZ l4 l3).length)),(8,(.vsl 25 (wV l3)))],[(L9 97 (nW v18)),(PQ (xu l1)),(mp (zI l33)),(25,.arr 1 3 (wV l3) (λi=>An (l3.getD i 0))),(36007,.arr 1 3 ((nZ l4 l3).length) (xw l4 l3))],[]⟩) (by kernel_rfl))) (Le.trans (Gw (st':=⟨[Ob,np,nk,(7,(.vsl 36007 (nZ l4 l3).length)),(8,(.vsl 25 (wV l3)))],[(L9 97 (nW v18)),(PQ (xu l1)),(mp (zI l33)),(25,.arr 1 3 (wV l3) (λi=>An ((l3.take (w64 ((l3.length:Int)-1)).toNat).getD i 0))),(36007,.arr 1 3 ((nZ l4 l3).length) (xw l4 l3))],[]⟩) (TmpsLe.refl _) (.same (.same (.same (.arr (kI (e:=An) (d:=(0:Int))) (.same .nil)))))) (H8 (Bn (λk_:Nat=>(⟨[Ob,np,nk,(7,(.vsl 36007 (nZ l4 l3).length)),(8,(.vsl 25 k_))],[(L9 97 (nW v18)),(PQ (xu l1)),(mp (zI l33)),(25,.arr 1 3 k_ (λi=>An ((l3.take (w64 ((l3.length:Int)-1)).toNat).getD i 0))),(36007,.arr 1 3 ((nZ l4 l3).length) (xw l4 l3))],[]⟩:St)) (show(wV l3)=(l3.take (w64 ((l3.length:Int)-1)).toNat).length from eP c50_.2))))) (Ae q [2,5,6,7,8,78] Qg (gC h (λh=>tS h (oz (A8 DG Qg q))) λh=>tB h λx51 y51 h=>tC h λc52_ h=>tT q [7] [36007] [⟨[(36007,34000)],[],(.tuple []),[(Z4 34000 x51)],[],[]⟩] (c1 (Oo y51)) (M3 (Vg (λ(k_:Nat) u=>(Cn u [(V6 36007 k_)] [])) (show(nZ l4 l3).length=x51.length from c52_)) (Ae q [4] [36007] (O8 ((lA 36007 x51.length x51):St) (tS h (mr (Mp (H7 [(36007,20000)] (Le.trans (Gp (nm:=36007) (sz:=1) (n:=x51.length) (e:=3) (f:=(λi=>An (x51.getD i 0))) (g:=(λi=>An (x51.getD i 0))) rfl ⟨rfl,trivial⟩ (λ_ _=>rfl) (by rw[hΓ];rfl)) (H8 (st':=(yC x51 36007 x51.length)) (by kernel_rfl))))))))))))))))) | .inr ⟨l34,l35,l36⟩,h=>mq (λst' hl53=>tS h (oz (Le.trans hl53 Gv)))))) (gAr (λst' hk=>tS h (gK hk))))
def IF(aD:Int)(aa5:Int):Option Ho:=
 (some ((Fl ((Fl ((Fl ((Xe .u64 aD (32:Int))*(Xe .u64 aa5 (32:Int))))+(Xe .u64 (Fl ((Fl ((Xe .u64 aD (32:Int))*(Vl .and .u64 aa5 (4294967295:Int))))+(Xe .u64 (Fl ((Vl .and .u64 aD (4294967295:Int))*(Vl .and .u64 aa5 (4294967295:Int)))) (32:Int)))) (32:Int))))+(Xe .u64 (Fl ((Vl .and .u64 (Fl ((Fl ((Xe .u64 aD (32:Int))*(Vl .and .u64 aa5 (4294967295:Int))))+(Xe .u64 (Fl ((Vl .and .u64 aD (4294967295:Int))*(Vl .and .u64 aa5 (4294967295:Int)))) (32:Int)))) (4294967295:Int))+(Fl ((Vl .and .u64 aD (4294967295:Int))*(Xe .u64 aa5 (32:Int)))))) (32:Int)))),(Fl (aD*aa5))))
variable{v19:Ho}
theorem VS(h:IF v1 v11=some v19):sP 213 [(JY v1),(JY v11)] [] (.tuple [(JY v19.1),(JY v19.2)]) []:=
 sG Tryz.func213 λΓ q=>tW q Fg [] [0,1,6] [] (tU q UA [] (c1 (show(0<=(32:Int)) from(by decide))) (Ae q TO [] (tU q [0,1,6,7,8,9] [] (c1 (show(0<=(32:Int)) from(by decide))) (Ae q [0,1,6,7,8,9,10] [] (tU q [0,1,6,7,9,11] [] (c1 (show(0<=(32:Int)) from(by decide))) (Ae q [0,1,6,7,9,11,12] [] (tU q [0,1,6,7,9,12,13] [] (c1 (show(0<=(32:Int)) from(by decide))) (Ae q [0,1,7,9,12,13] [] (tU q [0,1,4] [] (c1 (show(0<=(32:Int)) from(by decide))) (Ae q P0 [] (tS h (Bq []))))))))))))
def R9(aD:Int)(aa5:Int):Option Ho:=
 ((IF aD aa5).bind λx1=>(some (x1.1,x1.2)))
theorem MT(h:R9 v1 v11=some v19):sP 189 [(JY v1),(JY v11)] [] (.tuple [(JY v19.1),(JY v19.2)]) []:=
 sG Tryz.func189 λΓ q=>Ae q Fg [] (bv false (tB h λx1 y1 h=>tT q [8,9] [] [⟨[],[],(.tuple [(JY x1.1),(JY x1.2)]),[],[],[]⟩] (c1 (VS y1)) (Ae q P0 [] (tS h (Bq [])))))
abbrev GV:=(Int×Ao)
abbrev u5:=(LR (Int×Ao) Ao)
def C8 :GV->Option u5:=
 λ((i7,l8):GV)=>(bif (decide (i7<(l8.length:Int))) then(Aw (0<=i7/\0+i7.toNat<=l8.length) (Aw (0<=i7/\0+i7.toNat<=l8.length) (some (.next ((w64 (i7+((Nat.min ((0+i7.toNat)-0) (l8.length-(0+i7.toNat))):Int))),(f6 l8 (0+i7.toNat) (Nat.min ((0+i7.toNat)-0) (l8.length-(0+i7.toNat))) (λi=>l8.getD (0+i) 0))))))) else(some (.done l8)))
def na(x3:Ho):=(List.replicate (w64 x3.2).toNat (0:Int))
def Q58(x3:Ho)(aD:Ao):=(f6 (na x3) 0 (Nat.min aD.length ((na x3).length-0)) (λi=>aD.getD i 0))
def Q57(l8:Ao)(i7:Int):=(f6 l8 (0+i7.toNat) (Nat.min ((0+i7.toNat)-0) (l8.length-(0+i7.toNat))) (λi=>l8.getD (0+i) 0))
def Iv(aD:Ao)(aaE:Int):Option Ao:=
 (Option.bind (α:=Unit) (bif (decide (aaE<0)) then none else(some ())) (λx1=>(match x1 with|_=>((R9 (Fl (aD.length:Int)) (Fl aaE)).bind λx3=>(Option.bind (α:=Unit) (bif (bif (decide ((0:Int)<x3.1)) then true else(decide ((9223372036854775807:Int)<x3.2))) then none else(some ())) (λx4=>(match x4 with|_=>(Aw (0<=(w64 x3.2)/\(w64 x3.2)<=(w64 x3.2)/\(w64 x3.2)<=(room:Int)) ((Ad (S:=GV) (X:=Ao) C8 (((Nat.min aD.length ((List.replicate (w64 x3.2).toNat (0:Int)).length-0)):Int),(f6 (List.replicate (w64 x3.2).toNat (0:Int)) 0 (Nat.min aD.length ((List.replicate (w64 x3.2).toNat (0:Int)).length-0)) (λi=>aD.getD i 0)))).bind (λx12=>(some x12)))))))))))
theorem Wj(h:Iv v2 v1=some v17):sP 177 [(My v2),(Z6 v1)] [] (.vsl 20000 v17.length) [(Z4 20000 v17)]:=
 sG Tryz.func177 λΓ q=>gR q Fg [] [(4,jM)] [] (c1 (Bd 1 An (0:Int))) (tB h λx1 y1 h=>gJ y1 (λ_=>aG Γ .normal (⟨[(0,(My v2)),(1,(Z6 v1))],[],[]⟩:St)) (λy h=>Ae q DC [] (gC h (λh=>nomatch h) λh=>tS h (gK (A3 (A8 Fg [] q))))) (gA (tB h λx3 y3 h=>tT q [0,5,6] [] [⟨[],[],(.tuple [(JY x3.1),(JY x3.2)]),[],[],[]⟩] (c1 (MT y3)) (tB h λx4 y4 h=>gJ y4 (λ_=>aG Γ .normal (⟨[(0,(My v2)),(6,(JY x3.2))],[],[]⟩:St)) (λy h=>tU q [0,6,26] [] (c2 (gI ((decide ((0:Int)<x3.1))==false)) (I9 (decide ((0:Int)<x3.1)))) (gC h (λh=>nomatch h) λh=>tS h (gK (A3 (A8 [0,6] [] q))))) (gA (tV q [0,7] [30] h λh=>by exact M3 (Le.trans (Vf 30 (show ∀ k_,k_<((w64 x3.2).toNat)->AVleL ((λi_=>AV.eraseAll (λn_=>B4 n_ [30]) ((λ_=>[Lc]) i_)) k_) ((λi=>An ((na x3).getD i 0)) k_) from(λk hk=>Rd (e:=An) (d:=(0:Int)) (.cons (AVle.refl _) .nil) _ k (Rk hk)))) (Vg (λ(k_:Nat) u=>(Cn u [(V6 30 k_)] [(30,.arr 1 3 k_ (λi=>An ((na x3).getD i 0)))])) (show(w64 x3.2).toNat=(na x3).length from(S3 ..).symm))) (tU q [7,8] [30] (c1 (Eq.refl ((na x3).length))) (M3 (Le.trans (Vf 30 (show ∀ k_,k_<((na x3).length)->AVleL ((λi_=>AV.eraseAll (λn_=>B4 n_ [30]) ((fy (λi=>An ((na x3).getD i 0)) 0 (Nat.min v2.length ((na x3).length-0)) (λi=>An (v2.getD i 0))) i_)) k_) ((λi=>An ((Q58 x3 v2).getD i 0)) k_) from(Bl (Jt ..) (λk_ hk_=>(Bn (AV.eraseAll (λn_=>B4 n_ [30])) ((PA (e:=An) (d:=(0:Int)) (l:=(na x3)) (s:=(λi=>v2.getD i 0)) (λ_ _=>rfl) (λ_ _=>rfl)) k_ hk_)).trans rfl)))) (Vg (λ(k_:Nat) u=>(Cn u [(V6 30 k_)] [(30,.arr 1 3 k_ (λi=>An ((Q58 x3 v2).getD i 0)))])) (show(na x3).length=(Q58 x3 v2).length from(Jt ..)))) (tL q h [7,8] [30] (λu (i7,l8)=>(Cn u [(V6 30 l8.length),(8,(Z6 i7))] [(Z4 30 l8)])) (λu l9=>aG Γ (.exit 0) (⟨[(V6 30 l9.length)],[(Z4 30 l9)],[]⟩:St)) (λ⟨i7,l8⟩ y h=>Ae q [7,8,37] [30] (gC h (λh=>tC h λc10_ h=>tC h λc11_ h=>tU q [7,8] [30] (c4 c10_ c11_ (Eq.refl l8.length) (Eq.refl l8.length)) (tS h (gN (Le.trans (Le.trans (Vf 30 (show ∀ k_,k_<l8.length->AVleL ((λi_=>AV.eraseAll (λn_=>B4 n_ [30]) ((fy (λi=>An (l8.getD i 0)) (0+i7.toNat) (Nat.min ((0+i7.toNat)-0) (l8.length-(0+i7.toNat))) (λi=>(λi=>An (l8.getD i 0)) (0+i))) i_)) k_) ((λi=>An ((Q57 l8 i7).getD i 0)) k_) from(Bl (Jt ..) (λk_ hk_=>(Bn (AV.eraseAll (λn_=>B4 n_ [30])) ((PA (e:=An) (d:=(0:Int)) (l:=l8) (s:=(λi=>l8.getD (0+i) 0)) (λ_ _=>rfl) (λ_ _=>rfl)) k_ hk_)).trans rfl)))) (Vg (λ(k_:Nat) u=>(Cn u [(V6 30 k_)] [(30,.arr 1 3 k_ (λi=>An ((Q57 l8 i7).getD i 0)))])) (show l8.length=(Q57 l8 i7).length from(Jt ..)))) Gv)))) λh=>tS h (gO (A3 (A8 [7] [30] q))))) λx12 h=>gA (Ae q [4] [30] (tS h (Bq [(30,20000)]))))))))))))
abbrev WK:=(Int×List Bool)
abbrev qi:=(LR (Int×List Bool) (List Bool))
def Lg(a9:Ao):WK->Option qi:=
 λ((i2,l3):WK)=>(bif (i2 !=-1) then(Aw (As i2 l3.length) (Aw (As i2 a9.length) (some (.next ((a9.getD i2.toNat 0),(l3.set i2.toNat true)))))) else(some (.done l3)))
def Jj(a9:Ao)(l4:List Bool):Int->Option (LR Int Int):=
 λ(i9:Int)=>(Aw (As i9 l4.length) (bif (!(l4.getD i9.toNat false)) then(Aw (As i9 a9.length) (some (.next (a9.getD i9.toNat 0)))) else(some (.done i9))))
def Sb(a9:Ao)(aN:Int)(aP:Int):Option Int:=
 (Aw (0<=(a9.length:Int)/\(a9.length:Int)<=(a9.length:Int)/\(a9.length:Int)<=(room:Int)) ((Ad (Lg a9) (aN,(List.replicate (a9.length:Int).toNat false))).bind (λx7=>((Ad (Jj a9 x7) aP).bind (λx13=>(some x13))))))
variable{v20:Int}
theorem MV(h:Sb v2 v1 v11=some v20):sP 206 [(My v2),(Z6 v1),(Z6 v11)] [] (.int .i64 v20) []:=
 sG Tryz.func206 λΓ q=>Ae q UJ [] (tV q [0,1,2,7] [11] h λh=>by exact M3 (Le.trans (Vf 11 (show ∀ k_,k_<((v2.length:Int).toNat)->AVleL ((λi_=>AV.eraseAll (λn_=>B4 n_ [11]) ((λ_=>[(.bool false)]) i_)) k_) ((λi=>eB ((List.replicate (v2.length:Int).toNat false).getD i false)) k_) from(λk hk=>Rd (e:=eB) (d:=false) (.cons (AVle.refl _) .nil) _ k (Rk hk)))) (Vg (λ(k_:Nat) u=>(Cn u [(V6 11 k_)] [(11,.arr 1 4 k_ (λi=>eB ((List.replicate (v2.length:Int).toNat false).getD i false)))])) (show(v2.length:Int).toNat=(List.replicate (v2.length:Int).toNat false).length from(S3 ..).symm))) (Ae q br [11] (tL q h br [11] (λu (i2,l3)=>(Cn u [(V6 11 l3.length),(8,(Z6 i2))] [(lC 11 l3)])) (λu l4=>aG Γ (.exit 0) (Ng UK [11] u [(V6 11 l4.length)] [(lC 11 l4)])) (λ⟨i2,l3⟩ y h=>Ae q [0,2,7,8,14] [11] (gC h (λh=>tC h λc5_ h=>tU q br [11] (c2 c5_ (Eq.refl l3.length)) (M3 (Le.trans (Vf 11 (show ∀ k_,k_<l3.length->AVleL ((λi_=>AV.eraseAll (λn_=>B4 n_ [11]) ((Fd (λi=>eB (l3.getD i false)) i2.toNat 0 [(.bool true)]) i_)) k_) ((λi=>eB ((l3.set i2.toNat true).getD i false)) k_) from(Bl (D0 ..).symm (λk_ hk_=>(Bn (AV.eraseAll (λn_=>B4 n_ [11])) ((Hg (λ_ _=>rfl) (J1 c5_) rfl) k_ hk_)).trans rfl)))) (Vg (λ(k_:Nat) u=>(Cn u [(V6 11 k_)] [(11,.arr 1 4 k_ (λi=>eB ((l3.set i2.toNat true).getD i false)))])) (show l3.length=(l3.set i2.toNat true).length from(D0 ..).symm))) (tV q br [11] h λh=>tN h))) λh=>tS h (gO (A3 (A8 UK [11] q))))) λx7 h=>gA (tL q h UK [11] (λu i9=>(Cn u [(2,(Z6 i9))] [])) (λu i10=>aG Γ (.exit 2) (⟨[(2,(Z6 i10))],[],[]⟩:St)) (λi9 y h=>tC h λc11_ h=>tU q [0,2,7,26] [11] (c2 c11_ (Eq.refl x7.length)) (gC h (λh=>tV q UK [11] h λh=>tN h) λh=>tS h (gO (A3 (A8 [2] [] q))))) λx13 h=>gA (Ae q [6] [] (tS h (Bq [])))))))
open Go Go.RowKit
set_option maxRecDepth 100000
set_option maxHeartbeats 2000000
def Fs(a9:Ao)(aB:Ao):Ho->Option iK:=
 λ((i1,i2):Ho)=>(bif (decide (i2<(aB.length:Int))) then(Option.bind (α:=Int) (Aw (As i2 aB.length) (Aw (As (aB.getD i2.toNat 0) a9.length) (bif ((a9.getD (aB.getD i2.toNat 0).toNat (0:Int))==-2) then(some i1) else(bif (i1==-2) then(some (aB.getD i2.toNat 0)) else((Sb a9 i1 (aB.getD i2.toNat 0)).bind λx7=>(some x7)))))) (λx8=>(some (.next (x8,(w64 (i2+1))))))) else(some (.done i1)))
def M1(a9:Ao)(aB:Ao):Option Int:=
 ((Ad (Fs a9 aB) ((-2:Int),(0:Int))).bind (λx10=>(some x10)))
theorem BT(h:M1 v2 v17=some v1):sP 178 [(My v2),(My v17)] [] (.int .i64 v1) []:=
 sG Tryz.func178 λΓ q=>tW q Fg [] Ph [] (Ae q LP [] (tL q h LP [] (λu (i1,i2)=>(Cn u [(5,(Z6 i1)),(10,(Z6 i2))] [])) (λu i3=>aG Γ (.exit 0) (⟨[(5,(Z6 i3))],[],[]⟩:St)) (λ⟨i1,i2⟩ y h=>Ae q [0,5,8,9,10,11] [] (gC h (λh=>tB h λx8 y8 h=>gJ y8 (λi4=>aG Γ .normal (⟨[(0,(My v2)),(5,(Z6 i4)),(8,(My v17)),(9,(JT v17.length)),(10,(Z6 i2))],[],[]⟩:St)) (λy h=>tV q [0,5,7,8,9,10] [] h λh=>tV q [0,5,7,8,9,10,18] [] h λh=>gC h (λh=>tS h (gK (A3 (A8 LP [] q)))) λh=>Ae q [0,5,7,8,9,10,24] [] (gC h (λh=>Ae q LP [] (tS h (gK (A3 Gv)))) λh=>tB h λx7 y7 h=>tT q LP [] [(JS x7)] (c1 (MV y7)) (tS h (gK (A3 Gv))))) (gA (Ae q LP [] (tN h)))) λh=>tS h (gO (A3 (A8 [5] [] q))))) λx10 h=>gA (Ae q [4] [] (tS h (Bq [])))))
abbrev u6:=(Bool×Int×Ao)
abbrev Aas:=(LR (Bool×Int×Ao) (Bool×Ao))
abbrev qj:=(Bool×Ao)
def E4(a4:TGraph)(x3:Ao):u6->Option Aas:=
 λ((b7,i8,l9):u6)=>(bif (decide (i8<((x3.drop (1:Int).toNat).length:Int))) then(Option.bind (α:=qj) (Aw (As i8 (x3.drop (1:Int).toNat).length) (Aw (As ((x3.drop (1:Int).toNat).getD i8.toNat 0) a4.Pred.length) ((M1 l9 (a4.Pred.getD ((x3.drop (1:Int).toNat).getD i8.toNat 0).toNat [])).bind λx16=>(Aw (As ((x3.drop (1:Int).toNat).getD i8.toNat 0) l9.length) (bif (x16 !=(l9.getD ((x3.drop (1:Int).toNat).getD i8.toNat 0).toNat (0:Int))) then(Aw (As ((x3.drop (1:Int).toNat).getD i8.toNat 0) l9.length) (some (true,(l9.set ((x3.drop (1:Int).toNat).getD i8.toNat 0).toNat x16)))) else(some (b7,l9))))))) (λ(b12,l13)=>(some (.next (b12,(w64 (i8+1)),l13))))) else(some (.done (b7,l9))))
def V9(a4:TGraph)(l1:Ao):u6->Option Aas:=
 λ((b24,i25,l26):u6)=>(bif (decide (i25<((l1.drop (1:Int).toNat).length:Int))) then(Option.bind (α:=qj) (Aw (As i25 (l1.drop (1:Int).toNat).length) (Aw (As ((l1.drop (1:Int).toNat).getD i25.toNat 0) a4.Pred.length) ((M1 l26 (a4.Pred.getD ((l1.drop (1:Int).toNat).getD i25.toNat 0).toNat [])).bind λx33=>(Aw (As ((l1.drop (1:Int).toNat).getD i25.toNat 0) l26.length) (bif (x33 !=(l26.getD ((l1.drop (1:Int).toNat).getD i25.toNat 0).toNat (0:Int))) then(Aw (As ((l1.drop (1:Int).toNat).getD i25.toNat 0) l26.length) (some (true,(l26.set ((l1.drop (1:Int).toNat).getD i25.toNat 0).toNat x33)))) else(some (b24,l26))))))) (λ(b29,l30)=>(some (.next (b29,(w64 (i25+1)),l30))))) else(some (.done (b24,l26))))
abbrev ma:=(Ao×Ao)
def Ht(a4:TGraph):ma->Option (LR (Ao×Ao) Ao):=
 λ(s_:ma)=>match s_ with|(l1,l2)=>(Aw (0<=(1:Int)/\(1:Int)<=(l1.length:Int)) ((Ad (V9 a4 l1) (false,(0:Int),l2)).bind (λx38=>(match x38 with|(b27,l28)=>(bif b27 then(some (.next (l1,l28))) else(some (.done l28)))))))
def fD(Γ:H6)(a4:TGraph)(aa7:Int)(r:Ao):Exit->St->Prop:=fK Tryz.prog Γ Tryz.f142.results.toList [] (HO r 20000) [(Ts 20000 r.length)]
def xy:=(λn_=>B4 n_ [2,13,21])
def Q61:List NL:=[(4,jM)]
def Q60(x3:Ao)(i8:Int):=((x3.drop (1:Int).toNat).getD i8.toNat 0)
def Q59(l1:Ao)(i25:Int):=((l1.drop (1:Int).toNat).getD i25.toNat 0)
def Q62(a4:TGraph):List AV:=[(FZ a4.Succ),(FZ a4.Pred)]
def Q64:=(Z36:St)
def Uj(a4:TGraph)(aa7:Int):Option Ao:=
 ((Tc (S:=ma) (X:=Ao) ((Lh a4 aa7).bind λx3=>(bif ((x3.length:Int)==0) then(some (.done ([]:Ao))) else((Iv ([(-2:Int)]:Ao) (a4.Succ.length:Int)).bind λx4=>(Aw (As aa7 x4.length) (Aw (0<=(1:Int)/\(1:Int)<=(x3.length:Int)) ((Ad (E4 a4 x3) (false,(0:Int),(x4.set aa7.toNat (-1:Int)))).bind (λ(b10,l11)=>(bif b10 then(some (.next (x3,l11))) else(some (.done l11)))))))))) (Ht a4)).bind (λx40=>(some x40)))
theorem dh(h:Uj v18 v1=some v2):sP 142 [(fA v18),(Z6 v1)] [] (HO v2 20000) [(Ts 20000 v2.length)]:=
 sG Tryz.func142 λΓ q=>have hΓ:=q.own;gR q Nj [2] Q61 [] (c1 (Bd 1 An (0:Int))) (tB h λx40 y40 h=>gS y40 (λ(s_:ma)=>match s_ with|(l1,l2)=>0) (λ(s_:ma)=>match s_ with|(l1,l2)=>(⟨[Ob,(5,(HO l1 13)),(6,(.vsl 21 l2.length))],[(L9 97 (Q62 v18)),(Ts 13 l1.length),(Z4 21 l2)],[]⟩:St)) (λr_=>aR (fD Γ v18 v1 r_)) (λy h=>tB h λx3 y3 h=>tT q Wl [2,13] [(wh 13 x3 x3.length)] (c1 (BU y3)) (Ae q [1,2,5,16] [2,13] (gC h (λh=>gR q [4] [] Q61 [] (c1 (Bd 1 An (0:Int))) (O8 (⟨Q61,[],[]⟩:St) (tS h (mr (Mp (H7 TN (show Le Γ _ Q64 from Le.trans (A8 (st':=⟨Q61,[],[]⟩) [4] [] q) (Le.trans (Ld (t:=4) (nm:=6004) (sz':=1) (λi=>An (([]:Ao).getD i 0)) 3 rfl rfl (.inl ⟨rfl,rfl⟩) (λh_=>absurd h_ (by decide))) (A8 (st':=Q64) [4] [6004] q))))))))) λh=>tB h λx4 y4 h=>gR q [1,2,5,6] Kd [(17,(AV.list 1 An 0 ([(-2:Int)]:Ao) .exact))] [⟨[],[(20000,21)],(.vsl 20000 x4.length),[(Z4 20000 x4)],[],[]⟩] (c2 (Az 1 An (0:Int) ([(-2:Int)]:Ao)) (Wj y4)) (tC h λc5_ h=>tU q V5 Kd (c2 c5_ (Eq.refl x4.length)) (M3 (Le.trans (Vf 21 (show ∀ k_,k_<x4.length->AVleL ((λi_=>AV.eraseAll xy ((Fd (λi=>An (x4.getD i 0)) v1.toNat 0 [(.int .i64 (-1:Int))]) i_)) k_) ((λi=>An ((x4.set v1.toNat (-1:Int)).getD i 0)) k_) from(Bl (D0 ..).symm (λk_ hk_=>(Bn (AV.eraseAll xy) ((Hg (λ_ _=>rfl) (J1 c5_) rfl) k_ hk_)).trans rfl)))) (Vg (λ(k_:Nat) u=>(Cn u [(6,(.vsl 21 k_))] [(21,.arr 1 3 k_ (λi=>An ((x4.set v1.toNat (-1:Int)).getD i 0)))])) (show x4.length=(x4.set v1.toNat (-1:Int)).length from(D0 ..).symm))) (Ae q LW Kd (tC h λc6_ h=>gR q FQ Kd [(26,(AV.list 1 An 0 (x3.drop (1:Int).toNat) .none))] [] (c2 c6_ (show(AVle (Z69 x3) (AV.list 1 An 0 (x3.drop (1:Int).toNat) .none)) from ZQ)) (tL q h FQ Kd (λu (b7,i8,l9)=>(Cn u [(6,(.vsl 21 l9.length)),(7,(.bool b7)),(28,(Z6 i8))] [(Z4 21 l9)])) (λu (b10,l11)=>aG Γ (.exit 0) (Ng LW Kd u [(6,(.vsl 21 l11.length)),(7,(.bool b10))] [(Z4 21 l11)])) (λ⟨b7,i8,l9⟩ y h=>Ae q qv Kd (gC h (λh=>tB h λx19 y19 h=>gJ y19 (λ(b12,l13)=>aG Γ .normal (⟨[Ob,(5,(HO x3 13)),(6,(.vsl 21 l13.length)),(7,(.bool b12)),(26,(AV.list 1 An 0 (x3.drop (1:Int).toNat) .none)),(27,(.int .i64 ((x3.drop (1:Int).toNat).length:Int))),(28,(Z6 i8))],[(L9 97 (Q62 v18)),(Ts 13 x3.length),(Z4 21 l13)],[]⟩:St)) (λy h=>tV q qy Kd h λh=>tC h λc15_ h=>tB h λx16 y16 h=>tT q qr Kd [⟨[],[],(Z6 x16),[],[21],[]⟩] (c4 c15_ (BT y16) (show(MK []) from trivial) (Eq.refl l9.length)) (tC h λc17_ h=>tU q qq Kd (c2 c17_ (Eq.refl l9.length)) (gC h (λh=>tC h λc18_ h=>tU q FQ Kd (c2 c18_ (Eq.refl l9.length)) (tS h (gK (A3 (Le.trans (Le.trans (Vf 21 (show ∀ k_,k_<l9.length->AVleL ((λi_=>AV.eraseAll xy ((Fd (λi=>An (l9.getD i 0)) (Q60 x3 i8).toNat 0 [(Z6 x16)]) i_)) k_) ((λi=>An ((l9.set (Q60 x3 i8).toNat x16).getD i 0)) k_) from(Bl (D0 ..).symm (λk_ hk_=>(Bn (AV.eraseAll xy) ((Hg (λ_ _=>rfl) (J1 c18_) rfl) k_ hk_)).trans rfl)))) (Vg (λ(k_:Nat) u=>(Cn u [(6,(.vsl 21 k_))] [(21,.arr 1 3 k_ (λi=>An ((l9.set (Q60 x3 i8).toNat x16).getD i 0)))])) (show l9.length=(l9.set (Q60 x3 i8).toNat x16).length from(D0 ..).symm))) Gv))))) λh=>tS h (gK (A3 (A8 FQ Kd q)))))) (match x19,h with|⟨b12,l13⟩,h=>gA (Ae q FQ Kd (tN h)))) λh=>tS h (gO (A3 (A8 LW Kd q))))) λx21 h=>(match x21,h with|⟨b10,l11⟩,h=>gA (Ae q [2,5,6,50] Kd (gC h (λh=>tS h (oz (A8 V5 Kd q))) λh=>Ae q [4] [21] (O8 ((lA 21 l11.length l11):St) (tS h (mr (Mp (H7 [(21,20000)] (Le.trans (Gp (nm:=21) (sz:=1) (n:=l11.length) (e:=3) (f:=(λi=>An (l11.getD i 0))) (g:=(λi=>An (l11.getD i 0))) rfl ⟨rfl,trivial⟩ (λ_ _=>rfl) (by rw[hΓ];rfl)) (H8 (st':=(yC l11 21 l11.length)) (by kernel_rfl))))))))))))))))))) (λ⟨l1,l2⟩ y h=>Ae q LW Kd (tC h λc23_ h=>gR q FQ Kd [(26,(AV.list 1 An 0 (l1.drop (1:Int).toNat) .none))] [] (c2 c23_ (show(AVle (Z69 l1) (AV.list 1 An 0 (l1.drop (1:Int).toNat) .none)) from ZQ)) (tL q h FQ Kd (λu (b24,i25,l26)=>(Cn u [(6,(.vsl 21 l26.length)),(7,(.bool b24)),(28,(Z6 i25))] [(Z4 21 l26)])) (λu (b27,l28)=>aG Γ (.exit 0) (Ng LW Kd u [(6,(.vsl 21 l28.length)),(7,(.bool b27))] [(Z4 21 l28)])) (λ⟨b24,i25,l26⟩ y h=>Ae q qv Kd (gC h (λh=>tB h λx36 y36 h=>gJ y36 (λ(b29,l30)=>aG Γ .normal (⟨[Ob,(5,(HO l1 13)),(6,(.vsl 21 l30.length)),(7,(.bool b29)),(26,(AV.list 1 An 0 (l1.drop (1:Int).toNat) .none)),(27,(.int .i64 ((l1.drop (1:Int).toNat).length:Int))),(28,(Z6 i25))],[(L9 97 (Q62 v18)),(Ts 13 l1.length),(Z4 21 l30)],[]⟩:St)) (λy h=>tV q qy Kd h λh=>tC h λc32_ h=>tB h λx33 y33 h=>tT q qr Kd [⟨[],[],(Z6 x33),[],[21],[]⟩] (c4 c32_ (BT y33) (show(MK []) from trivial) (Eq.refl l26.length)) (tC h λc34_ h=>tU q qq Kd (c2 c34_ (Eq.refl l26.length)) (gC h (λh=>tC h λc35_ h=>tU q FQ Kd (c2 c35_ (Eq.refl l26.length)) (tS h (gK (A3 (Le.trans (Le.trans (Vf 21 (show ∀ k_,k_<l26.length->AVleL ((λi_=>AV.eraseAll xy ((Fd (λi=>An (l26.getD i 0)) (Q59 l1 i25).toNat 0 [(Z6 x33)]) i_)) k_) ((λi=>An ((l26.set (Q59 l1 i25).toNat x33).getD i 0)) k_) from(Bl (D0 ..).symm (λk_ hk_=>(Bn (AV.eraseAll xy) ((Hg (λ_ _=>rfl) (J1 c35_) rfl) k_ hk_)).trans rfl)))) (Vg (λ(k_:Nat) u=>(Cn u [(6,(.vsl 21 k_))] [(21,.arr 1 3 k_ (λi=>An ((l26.set (Q59 l1 i25).toNat x33).getD i 0)))])) (show l26.length=(l26.set (Q59 l1 i25).toNat x33).length from(D0 ..).symm))) Gv))))) λh=>tS h (gK (A3 (A8 FQ Kd q)))))) (match x36,h with|⟨b29,l30⟩,h=>gA (Ae q FQ Kd (tN h)))) λh=>tS h (gO (A3 (A8 LW Kd q))))) λx38 h=>(match x38,h with|⟨b27,l28⟩,h=>gA (Ae q [2,5,6,50] Kd (gC h (λh=>tS h (oz (A8 V5 Kd q))) λh=>Ae q [4] [21] (O8 ((lA 21 l28.length l28):St) (tS h (mr (Mp (H7 [(21,20000)] (Le.trans (Gp (nm:=21) (sz:=1) (n:=l28.length) (e:=3) (f:=(λi=>An (l28.getD i 0))) (g:=(λi=>An (l28.getD i 0))) rfl ⟨rfl,trivial⟩ (λ_ _=>rfl) (by rw[hΓ];rfl)) (H8 (st':=(yC l28 21 l28.length)) (by kernel_rfl)))))))))))))) (gAr (λst' hk=>tS h (gK hk))))
def Px(aaG:List Bh)(aaP:Ao):Int->Option (LR Int (Unit ⊕ Bool)):=
 λ(i1:Int)=>(bif (decide (i1<(aaG.length:Int))) then(Aw (As i1 aaG.length) ((Ei ((aaG.getD i1.toNat default).From) aaP).bind λx3=>(bif (bif (!x3) then true else((((aaG.getD i1.toNat default).Args).length:Int)!=(aaP.length:Int))) then(some (.done (.inr false))) else(some (.next (w64 (i1+1))))))) else(some (.done (.inl ()))))
def NX(Γ:H6)(aaG:List Bh)(aaP:Ao)(r:Bool):Exit->St->Prop:=fK Tryz.prog Γ Tryz.f143.results.toList [] (.bool r) []
def Pn(aaG:List Bh)(aaP:Ao):Option Bool:=
 ((Ad (Px aaG aaP) (0:Int)).bind (λx4=>(match x4 with|(.inl _)=>(some true)|(.inr r6)=>(some r6))))
theorem KT(h:Pn v5 v2=some v3):sP 143 [(wk v5),(My v2)] [] (.bool v3) []:=
 sG Tryz.func143 λΓ q=>tW q Fg [] Nh [] (tL q h Nh [] (λu i1=>(Cn u [(9,(Z6 i1))] [])) (λu x_=>match x_ with|(.inl _)=>aG Γ (.exit 0) (⟨[],[],[]⟩:St)|(.inr r_)=>aR (NX Γ v5 v2 r_)) (λi1 y h=>Ae q NT [] (gC h (λh=>tV q NU [6] h λh=>tB h λx3 y3 h=>tT q [1,7,8,9,25] [] [(Z7 x3)] (ci (Lx y3) (xE ((!x3)==false) (c1 (I9 (!x3))))) (gC h (λh=>Ae q [4] [] (tS h (gO (Mp (H7 [] (Le.refl _ _)))))) λh=>Ae q Nh [] (tN h))) λh=>tS h (gO (A3 (A8 [] [] q))))) λx4 h=>(match x4,h with | .inl _,h=>gA (Ae q [4] [] (tS h (Bq []))) | .inr r6,h=>gAr (λst' hk=>tS h (gK hk))))
def Q65(aQ:Jo):=(bif (aQ.Kind==0) then true else(aQ.Kind==2))
def Pm(aQ:Jo):Option Bool:=
 (some (bif (bif (aQ.Kind==0) then true else(aQ.Kind==2)) then true else(aQ.Arg==0)))
theorem KS(h:Pm v8=some v3):sP 144 [(.agg (ja v8))] [] (.bool v3) []:=
 sG Tryz.func144 λΓ q=>Ae q [1] [1] (tU q [2] [] (Kb ((v8.Kind==0)==false) (ci (I9 (v8.Kind==0)) (Kb ((Q65 v8)==false) (c1 (I9 (Q65 v8)))))) (tS h (Bq [])))
def Df(a3:TFunc)(a5:Int)(aA:List Bg)(x1:iL)(x3:Ao):Int->Option (LR Int (Unit ⊕ (Int×TFunc×Int×Ao×List Bg))):=
 λ(i4:Int)=>(bif (decide (i4<(a3.Blocks.length:Int))) then(Aw (As i4 a3.Blocks.length) (Aw (As i4 x1.1.Pred.length) ((Pn ((a3.Blocks.getD i4.toNat default).Phis) (x1.1.Pred.getD i4.toNat [])).bind λx7=>((bif ((!x7)==false) then Pm (⟨(a3.Blocks.getD i4.toNat default).End.Kind,(a3.Blocks.getD i4.toNat default).End.Arg,(a3.Blocks.getD i4.toNat default).End.To⟩:Jo) else some false).bind λx8=>(bif (bif (!x7) then true else(!x8)) then(some (.done (.inr ((5:Int),a3,a5,x3,aA)))) else(some (.next (w64 (i4+1))))))))) else(some (.done (.inl ()))))
def Xn(Γ:H6)(a3:TFunc)(a5:Int)(a7:Ao)(aA:List Bg)(r:mc):Exit->St->Prop:=fK Tryz.prog Γ Tryz.f88.results.toList (Z3 a3.Params a3.Ret a3.Blocks a5 a7 aA aA.length) (Z6 r.1) (Z3 r.2.1.Params r.2.1.Ret r.2.1.Blocks r.2.2.1 r.2.2.2.1 r.2.2.2.2 r.2.2.2.2.length)
def Q68(x1:iL):=((x1.2 !=0)==false)
def Q67(x3:Ao)(a3:TFunc)(a5:Int)(aA:List Bg):List OQ:=[(Ts 31 x3.length),(30000,.row 105 [(My a3.Params),(Z6 a3.Ret),(VD a3.Blocks),(Z6 a5),(My x3),.nilm,(AV.list 5 Om default aA (.own 37006))]),(M2 37006 198 aA.length)]
def Q66(x3:Ao)(a3:TFunc)(a5:Int)(aA:List Bg):List OQ:=[(Ts 31 x3.length),(30000,.row 105 [(My a3.Params),(Z6 a3.Ret),(VD a3.Blocks),(Z6 a5),(HO x3 31),.nilm,(AV.list 5 Om default aA (.own 37006))]),(M2 37006 198 aA.length)]
def Ja(a3:TFunc)(a5:Int)(a7:Ao)(aA:List Bg):Option mc:=
 ((Uk a3).bind λx1=>((bif ((x1.2 !=0)==false) then Lh x1.1 (0:Int) else some []).bind λx2=>(bif (bif (x1.2 !=0) then true else(decide ((x2.length:Int)<(a3.Blocks.length:Int)))) then(some ((5:Int),a3,a5,a7,aA)) else((Uj x1.1 (0:Int)).bind λx3=>((Ad (Df a3 a5 aA x1 x3) (0:Int)).bind (λx9=>(match x9 with|(.inl _)=>(some ((0:Int),a3,a5,x3,aA))|(.inr r11)=>(some r11))))))))
theorem W4(h:Ja v0 v1 v2 v12=some v13):sP 88 [Wt] (Z3 v0.Params v0.Ret v0.Blocks v1 v2 v12 v12.length) (Z6 v13.1) (Z3 v13.2.1.Params v13.2.1.Ret v13.2.1.Blocks v13.2.2.1 v13.2.2.2.1 v13.2.2.2.2 v13.2.2.2.2.length):=
 sG Tryz.func88 λΓ q=>Ae q [0] I7 (tB h λx1 y1 h=>tT q Tq TK [(wi x1.1 x1.2)] (c1 (MW y1)) (tB h λx2 y2 h=>tT q [0,3,28] TK [⟨[],[],(My x2),[],[],[]⟩] (QD (gI (Q68 x1)) (show((Q68 x1)=true->(sP 141 [(fA x1.1),Lc] [] (My x2) [])) from(λhg=>(Spec.drop (BU (Ba hg y2))))) (gI8 (Q68 x1) (c1 (I9 (x1.2 !=0))))) (gC h (λh=>Ae q [2] I7 (tS h (Bq Zg))) λh=>tB h λx3 y3 h=>tT q R4 YW [(wh 31 x3 x3.length)] (c1 (dh y3)) (Ae q ir YW (tL q h ir YW (λu i4=>(Cn u [(40,(Z6 i4))] [])) (λu x_=>match x_ with|(.inl _)=>aG Γ (.exit 0) (Ng [] YZ u [] [])|(.inr r_)=>aR (Xn Γ v0 v1 v2 v12 r_)) (λi4 y h=>Ae q [3,38,39,40,41] YW (gC h (λh=>tV q [3,5,6,38,39,40] [3,6,31,30000,37006] h λh=>tC h λc6_ h=>tB h λx7 y7 h=>tB h λx8 y8 h=>tT q [3,38,39,40,59] YW [(Z7 x7),(Z7 x8)] (QD c6_ (KT y7) (Kb ((!x7)==false) (c3 (λ(hg:((!x7)==false)=true)=>(KS (Ba hg y8))) (gI ((!x7)==false)) (I9 (!x7))))) (gC h (λh=>Ae q [2] YZ (O8 (⟨[(2,(.int .i64 (5:Int)))],(Q66 x3 v0 v1 v12),[]⟩:St) (tS h (gO (Mp (H7 Zg (show Le Γ _ (⟨[(2,(.int .i64 (5:Int)))],(Q67 x3 v0 v1 v12),[]⟩:St) from Le.trans (A8 (st':=⟨[(2,(.int .i64 (5:Int)))],(Q66 x3 v0 v1 v12),[]⟩) [2] YZ q) (Gw (.cons (AVle.refl _) .nil) (.same (.row (.cons (AVle.refl _) (.cons (AVle.refl _) (.cons (AVle.refl _) (.cons (AVle.refl _) (.cons AVle.untag (.cons (AVle.refl _) (.cons (AVle.refl _) .nil))))))) (.same .nil))))))))))) λh=>Ae q ir YW (tN h))) λh=>tS h (gO (A3 (A8 [] YZ q))))) λx9 h=>(match x9,h with | .inl _,h=>gA (Ae q [2] YZ (O8 (⟨[(2,Lc)],(Q66 x3 v0 v1 v12),[]⟩:St) (tS h (gK (e:=.ret) (H7 Zg (show Le Γ _ (⟨[(2,Lc)],(Q67 x3 v0 v1 v12),[]⟩:St) from Le.trans (A8 (st':=⟨[(2,Lc)],(Q66 x3 v0 v1 v12),[]⟩) [2] YZ q) (Gw (.cons (AVle.refl _) .nil) (.same (.row (.cons (AVle.refl _) (.cons (AVle.refl _) (.cons (AVle.refl _) (.cons (AVle.refl _) (.cons AVle.untag (.cons (AVle.refl _) (.cons (AVle.refl _) .nil))))))) (.same .nil)))))))))) | .inr r11,h=>gAr (λst' hk=>tS h (gK hk))))))))
def Lj(aI:Int):Option Bool:=
 (Option.bind (α:=Bool) (bif (aI==1) then(some (aI==1)) else(bif (aI==8) then(some (aI==8)) else(bif (aI==16) then(some (aI==16)) else(bif (aI==32) then(some (aI==32)) else(some (aI==64)))))) (λx2=>(bif x2 then(some true) else(some false))))
theorem N6(h:Lj v1=some v3):sP 146 [(Z6 v1)] [] (.bool v3) []:=
 sG Tryz.func146 λΓ q=>tW q [0] [] [3] [] (tB h λx2 y2 h=>gJ y2 (λb1=>aG Γ .normal (⟨[(4,(.bool b1))],[],[]⟩:St)) (λy h=>Ae q [3,4] [] (gC h (λh=>tS h (gK (A3 (A8 [4] [] q)))) λh=>Ae q [3,4] [] (gC h (λh=>tS h (gK (A3 (A8 [4] [] q)))) λh=>Ae q [3,4] [] (gC h (λh=>tS h (gK (A3 (A8 [4] [] q)))) λh=>Ae q [3,4] [] (gC h (λh=>tS h (gK (A3 (A8 [4] [] q)))) λh=>Ae q [4] [] (tS h (gK (A3 Gv)))))))) (gA (gC h (λh=>Ae q [2] [] (tS h (Bq []))) λh=>Ae q [2] [] (tS h (Bq [])))))
def Pw(aB:Ao):Int->Option (LR Int (Unit ⊕ Bool)):=
 λ(i1:Int)=>(bif (decide (i1<(aB.length:Int))) then(Aw (As i1 aB.length) ((Lj (aB.getD i1.toNat 0)).bind λx3=>(bif (!x3) then(some (.done (.inr false))) else(some (.next (w64 (i1+1))))))) else(some (.done (.inl ()))))
def NW(Γ:H6)(aB:Ao)(r:Bool):Exit->St->Prop:=fK Tryz.prog Γ Tryz.f145.results.toList [] (.bool r) []
def Pl(aB:Ao):Option Bool:=
 ((Ad (Pw aB) (0:Int)).bind (λx4=>(match x4 with|(.inl _)=>(some true)|(.inr r6)=>(some r6))))
theorem KR(h:Pl v2=some v3):sP 145 [(My v2),(.clo 146 [] [])] [] (.bool v3) []:=
 sG Tryz.func145 λΓ q=>tW q Fg [] Nh [] (tL q h Nh [] (λu i1=>(Cn u [(9,(Z6 i1))] [])) (λu x_=>match x_ with|(.inl _)=>aG Γ (.exit 0) (⟨[],[],[]⟩:St)|(.inr r_)=>aR (NW Γ v2 r_)) (λi1 y h=>Ae q NT [] (gC h (λh=>tV q NU [] h λh=>tB h λx3 y3 h=>tT q UR [] [(Z7 x3)] (c1 (N6 y3)) (gC h (λh=>Ae q [4] [] (tS h (gO (Mp (H7 [] (Le.refl _ _)))))) λh=>Ae q Nh [] (tN h))) λh=>tS h (gO (A3 (A8 [] [] q))))) λx4 h=>(match x4,h with | .inl _,h=>gA (Ae q [4] [] (tS h (Bq []))) | .inr r6,h=>gAr (λst' hk=>tS h (gK hk))))
def Sa(aJ:Bh):Option Bool:=
 ((Lj aJ.Bits).bind λx1=>(some x1))
theorem IJ(h:Sa v4=some v3):sP 180 [(.agg (Gu v4))] [] (.bool v3) []:=
 sG Tryz.func180 λΓ q=>Ae q [1] [1] (tB h λx1 y1 h=>tT q [2] [] [(Z7 x1)] (c1 (N6 y1)) (tS h (Bq [])))
def Me(aB:List Bh):Int->Option (LR Int (Unit ⊕ Bool)):=
 λ(i1:Int)=>(bif (decide (i1<(aB.length:Int))) then(Aw (As i1 aB.length) ((Sa (aB.getD i1.toNat default)).bind λx3=>(bif (!x3) then(some (.done (.inr false))) else(some (.next (w64 (i1+1))))))) else(some (.done (.inl ()))))
def EM(Γ:H6)(aB:List Bh)(r:Bool):Exit->St->Prop:=fK Tryz.prog Γ Tryz.f179.results.toList [] (.bool r) []
def Lo(aB:List Bh):Option Bool:=
 ((Ad (Me aB) (0:Int)).bind (λx4=>(match x4 with|(.inl _)=>(some true)|(.inr r6)=>(some r6))))
theorem BR(h:Lo v5=some v3):sP 179 [(wk v5),(.clo 180 [] [])] [] (.bool v3) []:=
 sG Tryz.func179 λΓ q=>tW q Fg [] Nh [] (tL q h Nh [] (λu i1=>(Cn u [(9,(Z6 i1))] [])) (λu x_=>match x_ with|(.inl _)=>aG Γ (.exit 0) (⟨[],[],[]⟩:St)|(.inr r_)=>aR (EM Γ v5 r_)) (λi1 y h=>Ae q NT [] (gC h (λh=>tV q NU [6] h λh=>tB h λx3 y3 h=>tT q UR [] [(Z7 x3)] (c1 (IJ y3)) (gC h (λh=>Ae q [4] [] (tS h (gO (Mp (H7 [] (Le.refl _ _)))))) λh=>Ae q Nh [] (tN h))) λh=>tS h (gO (A3 (A8 [] [] q))))) λx4 h=>(match x4,h with | .inl _,h=>gA (Ae q [4] [] (tS h (Bq []))) | .inr r6,h=>gAr (λst' hk=>tS h (gK hk))))
def Pa(aa3:Int):Option Bool:=
 (some (bif (decide ((0:Int)<=aa3)) then(decide (aa3<=22)) else false))
theorem CA(h:Pa v1=some v3):sP 197 [(Z6 v1)] [] (.bool v3) []:=
 sG Tryz.func197 λΓ q=>Ae q [0] [] (tU q [2] [] (c2 (gI ((decide ((0:Int)<=v1))==true)) (Na (decide ((0:Int)<=v1)))) (tS h (Bq [])))
def Q69(x5:Bool)(aI:Int):=(bif x5 then(decide ((8:Int)<=aI)) else false)
def Ty(aI:Int)(aV:Int):Option Bool:=
 (bif (aV==1) then((Lj aI).bind λx1=>(some x1)) else(Option.bind (α:=Bool) (bif (aV==2) then(some (aV==2)) else(bif (aV==4) then(some (aV==4)) else(bif (aV==8) then(some (aV==8)) else(some (aV==16))))) (λx3=>(bif x3 then((Lj aI).bind λx5=>(some (bif (bif x5 then(decide ((8:Int)<=aI)) else false) then(decide (((w64 (aI*aV)):Int)<=128)) else false))) else(some false)))))
theorem WB(h:Ty v1 v11=some v3):sP 240 [(Z6 v1),(Z6 v11)] [] (.bool v3) []:=
 sG Tryz.func240 λΓ q=>tW q Fg [] Ph [] (Ae q UB [] (gC h (λh=>tB h λx1 y1 h=>tT q [4] [] [(Z7 x1)] (c1 (N6 y1)) (tS h (Bq []))) λh=>tB h λx3 y3 h=>gJ y3 (λb2=>aG Γ .normal (⟨[(0,(Z6 v1)),(1,(Z6 v11)),(10,(.bool b2))],[],[]⟩:St)) (λy h=>Ae q [0,1,5,10] [] (gC h (λh=>tS h (gK (A3 (A8 DC [] q)))) λh=>Ae q [0,1,5,10] [] (gC h (λh=>tS h (gK (A3 (A8 DC [] q)))) λh=>Ae q [0,1,5,10] [] (gC h (λh=>tS h (gK (A3 (A8 DC [] q)))) λh=>Ae q DC [] (tS h (gK (A3 Gv))))))) (gA (gC h (λh=>tB h λx5 y5 h=>tT q [4] [] [(Z7 x5)] (bu (N6 y5) (gI (x5==true)) (Na x5) (Si ((Q69 x5 v1)==true) (c1 (Na (Q69 x5 v1))))) (tS h (Bq []))) λh=>Ae q [4] [] (tS h (Bq []))))))
def Q70(a2:A2):List OQ:=[(1,.row 51 (vQ a2.Kind a2.Bits a2.Lanes a2.Dst a2.Args a2.Imm))]
def Of(a2:A2):Option Bool:=
 (Option.bind (α:=Bool) (bif (a2.Kind==16) then(some (a2.Kind==16)) else(some (a2.Kind==17))) (λx2=>(bif x2 then(some (decide ((8:Int)<=a2.Bits))) else(Option.bind (α:=Bool) (bif (a2.Kind==18) then(some (a2.Kind==18)) else(some (a2.Kind==19))) (λx5=>(bif x5 then(some (bif (decide ((8:Int)<=a2.Bits)) then(a2.Lanes==1) else false)) else(Option.bind (α:=Bool) (bif (a2.Kind==4) then(some (a2.Kind==4)) else(bif (a2.Kind==10) then(some (a2.Kind==10)) else(bif (a2.Kind==11) then(some (a2.Kind==11)) else(bif (a2.Kind==12) then(some (a2.Kind==12)) else(bif (a2.Kind==14) then(some (a2.Kind==14)) else(bif (a2.Kind==15) then(some (a2.Kind==15)) else(some (a2.Kind==20)))))))) (λx8=>(bif x8 then(some (a2.Lanes==1)) else(Option.bind (α:=Bool) (bif (a2.Kind==21) then(some (a2.Kind==21)) else(some (a2.Kind==22))) (λx11=>(bif x11 then(some (decide ((1:Int)<a2.Lanes))) else(some true)))))))))))))
theorem IQ(h:Of v6=some v3):sP 241 [(UU v6)] [] (.bool v3) []:=
 sG Tryz.func241 λΓ q=>tW q [1] [1] R5 [1] (tB h λx2 y2 h=>gJ y2 (λb1=>aG Γ .normal (⟨[Zo,(4,(Z6 v6.Kind)),(5,(.bool b1))],(Q70 v6),[]⟩:St)) (λy h=>Ae q [1,4,5] [1] (gC h (λh=>tS h (gK (A3 Gv))) λh=>Ae q [1,4,5] [1] (tS h (gK (A3 Gv))))) (gA (gC h (λh=>Ae q [2] [] (tS h (Bq []))) λh=>tB h λx5 y5 h=>gJ y5 (λb4=>aG Γ .normal (⟨[Zo,(4,(Z6 v6.Kind)),(11,(.bool b4))],(Q70 v6),[]⟩:St)) (λy h=>Ae q [1,4,11] [1] (gC h (λh=>tS h (gK (A3 Gv))) λh=>Ae q [1,4,11] [1] (tS h (gK (A3 Gv))))) (gA (gC h (λh=>tU q [2] [] (Kb ((decide ((8:Int)<=v6.Bits))==true) (c1 (Na (decide ((8:Int)<=v6.Bits))))) (tS h (Bq []))) λh=>tB h λx8 y8 h=>gJ y8 (λb7=>aG Γ .normal (⟨[Zo,(4,(Z6 v6.Kind)),(22,(.bool b7))],(Q70 v6),[]⟩:St)) (λy h=>Ae q HC [1] (gC h (λh=>tS h (gK (A3 Gv))) λh=>Ae q HC [1] (gC h (λh=>tS h (gK (A3 Gv))) λh=>Ae q HC [1] (gC h (λh=>tS h (gK (A3 Gv))) λh=>Ae q HC [1] (gC h (λh=>tS h (gK (A3 Gv))) λh=>Ae q HC [1] (gC h (λh=>tS h (gK (A3 Gv))) λh=>Ae q HC [1] (gC h (λh=>tS h (gK (A3 Gv))) λh=>Ae q HC [1] (tS h (gK (A3 Gv)))))))))) (gA (gC h (λh=>Ae q [2] [] (tS h (Bq []))) λh=>tB h λx11 y11 h=>gJ y11 (λb10=>aG Γ .normal (⟨[Zo,(33,(.bool b10))],(Q70 v6),[]⟩:St)) (λy h=>Ae q [1,4,33] [1] (gC h (λh=>tS h (gK (A3 (A8 [1,33] [1] q)))) λh=>Ae q [1,33] [1] (tS h (gK (A3 Gv))))) (gA (gC h (λh=>Ae q [2] [] (tS h (Bq []))) λh=>Ae q [2] [] (tS h (Bq [])))))))))))
def X6(aC:Int)(aI:Int):Option Int:=
 ((Lj aI).bind λx1=>(bif (!x1) then(some (0:Int)) else(Aw (0<=(w64 ((64:Int)-aI))) (Aw (0<=(w64 ((64:Int)-aI))) (some (Xe .u64 (SN .u64 aC (w64 ((64:Int)-aI))) (w64 ((64:Int)-aI))))))))
theorem dj(h:X6 v1 v11=some v20):sP 105 [(JY v1),(Z6 v11)] [] (.int .u64 v20) []:=
 sG Tryz.func105 λΓ q=>Ae q Fg [] (tB h λx1 y1 h=>tT q [0,1,7] [] [(Z7 x1)] (c1 (N6 y1)) (gC h (λh=>Ae q [4] [] (tS h (Bq []))) λh=>tC h λc2_ h=>tC h λc3_ h=>tU q [4] [] (c2 c2_ c3_) (tS h (Bq []))))
def N0(aa8:Int):Option Bool:=
 ((bif ((decide (aa8<=64))==true) then Lj (w64 aa8) else some false).bind λx1=>(some (bif (decide (aa8<=64)) then x1 else false)))
theorem Zb(h:N0 v1=some v3):sP 254 [(JY v1)] [] (.bool v3) []:=
 sG Tryz.func254 λΓ q=>Ae q [0] [] (tB h λx1 y1 h=>tT q [2] [] [(Z7 x1)] (Kb ((decide (v1<=64))==true) (c2 (λ(hg:((decide (v1<=64))==true)=true)=>(N6 (Ba hg y1))) (Na (decide (v1<=64))))) (tS h (Bq [])))
def Q0(a2:A2):Option Bool:=
 (bif (a2.Kind==0) then((X6 a2.Imm a2.Bits).bind λx1=>(some (x1==a2.Imm))) else(bif (a2.Kind==14) then((N0 a2.Imm).bind λx2=>(some (bif x2 then(decide (a2.Imm<(Fl a2.Bits))) else false))) else(bif (a2.Kind==15) then((N0 a2.Imm).bind λx3=>(some (bif x3 then(decide (((Fl a2.Bits):Int)<a2.Imm)) else false))) else(bif (a2.Kind==22) then(some (decide (a2.Imm<(Fl a2.Lanes)))) else(some (a2.Imm==0))))))
theorem ON(h:Q0 v6=some v3):sP 242 [(UU v6)] [] (.bool v3) []:=
 sG Tryz.func242 λΓ q=>tW q [1] [1] R5 [1] (Ae q [1,4,5] [1] (gC h (λh=>tB h λx1 y1 h=>tT q [2] [] [⟨[],[],(JY x1),[],[],[]⟩] (c1 (dj y1)) (tS h (Bq []))) λh=>Ae q [1,4,15] [1] (gC h (λh=>tB h λx2 y2 h=>tT q [2] [] [(Z7 x2)] (ci (Zb y2) (xE (x2==true) (c1 (Na x2)))) (tS h (Bq []))) λh=>Ae q [1,4,28] [1] (gC h (λh=>tB h λx3 y3 h=>tT q [2] [] [(Z7 x3)] (ci (Zb y3) (xE (x3==true) (c1 (Na x3)))) (tS h (Bq []))) λh=>Ae q [1,41] [1] (gC h (λh=>Ae q [2] [] (tS h (Bq []))) λh=>Ae q [2] [] (tS h (Bq [])))))))
abbrev LJ:=((Int×Int))
abbrev qk:=(List (Int×Int))
def Iz(a_shapes:List LJ):Option qk:=
 (some a_shapes)
variable{v21:List LJ}{v22:List LJ}
theorem Jk(h:Iz v21=some v22):sP 245 [(sq v21)] [] (sq v22) []:=
 sG Tryz.func245 λΓ q=>gR q [0] [] [(2,zP)] [] (c1 (Bd 2 Br ((0:Int),(0:Int)))) (Ae q [2] [] (tS h (Bq [])))
abbrev xk:=(Int×List (Int×Int))
def C7 :xk->Option (LR (Int×List (Int×Int)) (List (Int×Int))):=
 λ((i7,l8):xk)=>(bif (decide (i7<(l8.length:Int))) then(Aw (0<=i7/\0+i7.toNat<=l8.length) (Aw (0<=i7/\0+i7.toNat<=l8.length) (some (.next ((w64 (i7+((Nat.min ((0+i7.toNat)-0) (l8.length-(0+i7.toNat))):Int))),(f6 l8 (0+i7.toNat) (Nat.min ((0+i7.toNat)-0) (l8.length-(0+i7.toNat))) (λi=>l8.getD (0+i) ((0:Int),(0:Int))))))))) else(some (.done l8)))
def nb(x3:Ho):=(List.replicate (w64 x3.2).toNat ((0:Int),(0:Int)))
def Q73(x3:Ho)(aD:List LJ):=(f6 (nb x3) 0 (Nat.min aD.length ((nb x3).length-0)) (λi=>aD.getD i ((0:Int),(0:Int))))
def Q72(l8:List LJ)(i7:Int):=(f6 l8 (0+i7.toNat) (Nat.min ((0+i7.toNat)-0) (l8.length-(0+i7.toNat))) (λi=>l8.getD (0+i) ((0:Int),(0:Int))))
def B9(aD:List LJ)(aaE:Int):Option qk:=
 (Option.bind (α:=Unit) (bif (decide (aaE<0)) then none else(some ())) (λx1=>(match x1 with|_=>((R9 (Fl (aD.length:Int)) (Fl aaE)).bind λx3=>(Option.bind (α:=Unit) (bif (bif (decide ((0:Int)<x3.1)) then true else(decide ((9223372036854775807:Int)<x3.2))) then none else(some ())) (λx4=>(match x4 with|_=>(Aw (0<=(w64 x3.2)/\(w64 x3.2)<=(w64 x3.2)/\(w64 x3.2)<=(room:Int)) ((Ad (S:=xk) (X:=List Ho) C7 (((Nat.min aD.length ((List.replicate (w64 x3.2).toNat ((0:Int),(0:Int))).length-0)):Int),(f6 (List.replicate (w64 x3.2).toNat ((0:Int),(0:Int))) 0 (Nat.min aD.length ((List.replicate (w64 x3.2).toNat ((0:Int),(0:Int))).length-0)) (λi=>aD.getD i ((0:Int),(0:Int)))))).bind (λx12=>(some x12)))))))))))
theorem Ta(h:B9 v21 v1=some v22):sP 246 [(sq v21),(Z6 v1)] [] (wj v22 20000) [(20000,.tok 2 88 v22.length)]:=
 sG Tryz.func246 λΓ q=>have hΓ:=q.own;gR q Fg [] [(4,zP)] [] (c1 (Bd 2 Br ((0:Int),(0:Int)))) (tB h λx1 y1 h=>gJ y1 (λ_=>aG Γ .normal (⟨[(0,(sq v21)),(1,(Z6 v1))],[],[]⟩:St)) (λy h=>Ae q DC [] (gC h (λh=>nomatch h) λh=>tS h (gK (A3 (A8 Fg [] q))))) (gA (tB h λx3 y3 h=>tT q [0,5,6] [] [⟨[],[],(.tuple [(JY x3.1),(JY x3.2)]),[],[],[]⟩] (c1 (MT y3)) (tB h λx4 y4 h=>gJ y4 (λ_=>aG Γ .normal (⟨[(0,(sq v21)),(6,(JY x3.2))],[],[]⟩:St)) (λy h=>tU q [0,6,26] [] (c2 (gI ((decide ((0:Int)<x3.1))==false)) (I9 (decide ((0:Int)<x3.1)))) (gC h (λh=>nomatch h) λh=>tS h (gK (A3 (A8 [0,6] [] q))))) (gA (tV q [0,7] [30] h λh=>by exact M3 (Le.trans (Vf 30 (show ∀ k_,k_<((w64 x3.2).toNat)->AVleL ((λi_=>AV.eraseAll (λn_=>B4 n_ [30]) ((λ_=>[Lc,Lc]) i_)) k_) ((λi=>Br ((nb x3).getD i ((0:Int),(0:Int)))) k_) from(λk hk=>Rd (e:=Br) (d:=((0:Int),(0:Int))) (.cons (AVle.refl _) (.cons (AVle.refl _) .nil)) _ k (Rk hk)))) (Vg (λ(k_:Nat) u=>(Cn u [(V6 30 k_)] [(30,.arr 2 88 k_ (λi=>Br ((nb x3).getD i ((0:Int),(0:Int)))))])) (show(w64 x3.2).toNat=(nb x3).length from(S3 ..).symm))) (tU q [7,8] [30] (c1 (Eq.refl ((nb x3).length))) (M3 (Le.trans (Vf 30 (show ∀ k_,k_<((nb x3).length)->AVleL ((λi_=>AV.eraseAll (λn_=>B4 n_ [30]) ((fy (λi=>Br ((nb x3).getD i ((0:Int),(0:Int)))) 0 (Nat.min v21.length ((nb x3).length-0)) (λi=>Br (v21.getD i ((0:Int),(0:Int))))) i_)) k_) ((λi=>Br ((Q73 x3 v21).getD i ((0:Int),(0:Int)))) k_) from(Bl (Jt ..) (λk_ hk_=>(Bn (AV.eraseAll (λn_=>B4 n_ [30])) ((PA (e:=Br) (d:=((0:Int),(0:Int))) (l:=(nb x3)) (s:=(λi=>v21.getD i ((0:Int),(0:Int)))) (λ_ _=>rfl) (λ_ _=>rfl)) k_ hk_)).trans rfl)))) (Vg (λ(k_:Nat) u=>(Cn u [(V6 30 k_)] [(30,.arr 2 88 k_ (λi=>Br ((Q73 x3 v21).getD i ((0:Int),(0:Int)))))])) (show(nb x3).length=(Q73 x3 v21).length from(Jt ..)))) (tL q h [7,8] [30] (λu (i7,l8)=>(Cn u [(V6 30 l8.length),(8,(Z6 i7))] (Z85 l8))) (λu l9=>aG Γ (.exit 0) (⟨[(V6 30 l9.length)],(Z85 l9),[]⟩:St)) (λ⟨i7,l8⟩ y h=>Ae q [7,8,37] [30] (gC h (λh=>tC h λc10_ h=>tC h λc11_ h=>tU q [7,8] [30] (c4 c10_ c11_ (Eq.refl l8.length) (Eq.refl l8.length)) (tS h (gN (Le.trans (Le.trans (Vf 30 (show ∀ k_,k_<l8.length->AVleL ((λi_=>AV.eraseAll (λn_=>B4 n_ [30]) ((fy (λi=>Br (l8.getD i ((0:Int),(0:Int)))) (0+i7.toNat) (Nat.min ((0+i7.toNat)-0) (l8.length-(0+i7.toNat))) (λi=>(λi=>Br (l8.getD i ((0:Int),(0:Int)))) (0+i))) i_)) k_) ((λi=>Br ((Q72 l8 i7).getD i ((0:Int),(0:Int)))) k_) from(Bl (Jt ..) (λk_ hk_=>(Bn (AV.eraseAll (λn_=>B4 n_ [30])) ((PA (e:=Br) (d:=((0:Int),(0:Int))) (l:=l8) (s:=(λi=>l8.getD (0+i) ((0:Int),(0:Int)))) (λ_ _=>rfl) (λ_ _=>rfl)) k_ hk_)).trans rfl)))) (Vg (λ(k_:Nat) u=>(Cn u [(V6 30 k_)] [(30,.arr 2 88 k_ (λi=>Br ((Q72 l8 i7).getD i ((0:Int),(0:Int)))))])) (show l8.length=(Q72 l8 i7).length from(Jt ..)))) Gv)))) λh=>tS h (gO (A3 (A8 [7] [30] q))))) λx12 h=>gA (Ae q [4] [30] (O8 (⟨[(4,(.vsl 30 x12.length))],(Z85 x12),[]⟩:St) (tS h (gK (e:=.ret) (H7 [(30,20000)] (Le.trans (Gp (nm:=30) (sz:=2) (n:=x12.length) (e:=88) (f:=(λi=>Br (x12.getD i ((0:Int),(0:Int))))) (g:=(λi=>Br (x12.getD i ((0:Int),(0:Int))))) rfl ⟨rfl,trivial⟩ (λ_ _=>rfl) (by rw[hΓ];rfl)) (H8 (st':=⟨[(4,(wj x12 30))],[(30,.tok 2 88 x12.length)],[]⟩) (by kernel_rfl)))))))))))))))))
def Q74(a2:A2):List OQ:=[(1,.row 51 (vQ a2.Kind a2.Bits a2.Lanes a2.Dst a2.Args a2.Imm)),(3,.row 88 [mn,mn]),(4,.row 88 [(JT 64),mn]),(5,.row 88 [(Z6 a2.Bits),(Z6 a2.Lanes)]),(6,.row 88 [(Z6 a2.Bits),mn])]
def Ra(a2:A2):Option qk:=
 (bif (a2.Kind==0) then((Iz ([]:List Ho)).bind λx1=>(some x1)) else(bif (a2.Kind==13) then((Iz ([((1:Int),(1:Int)),(a2.Bits,a2.Lanes),(a2.Bits,a2.Lanes)]:List Ho)).bind λx2=>(some x2)) else(Option.bind (α:=Bool) (bif (a2.Kind==14) then(some (a2.Kind==14)) else(some (a2.Kind==15))) (λx4=>(bif x4 then((Iz ([((w64 a2.Imm),(1:Int))]:List Ho)).bind λx6=>(some x6)) else(bif (a2.Kind==16) then((Iz ([((64:Int),(1:Int))]:List Ho)).bind λx7=>(some x7)) else(bif (a2.Kind==17) then((Iz ([((64:Int),(1:Int)),(a2.Bits,a2.Lanes)]:List Ho)).bind λx8=>(some x8)) else(Option.bind (α:=Bool) (bif (a2.Kind==18) then(some (a2.Kind==18)) else(some (a2.Kind==19))) (λx10=>(bif x10 then((Iz ([((1:Int),(1:Int)),((64:Int),(1:Int)),(a2.Bits,(1:Int))]:List Ho)).bind λx12=>(some x12)) else(bif (a2.Kind==20) then((Iz ([((1:Int),(1:Int)),(a2.Bits,(1:Int)),(a2.Bits,(1:Int)),(a2.Bits,(1:Int))]:List Ho)).bind λx13=>(some x13)) else(bif (a2.Kind==21) then((B9 ([(a2.Bits,(1:Int))]:List Ho) a2.Lanes).bind λx14=>((Iz x14).bind λx15=>(some x15))) else(bif (a2.Kind==22) then((Iz ([(a2.Bits,a2.Lanes)]:List Ho)).bind λx16=>(some x16)) else((Iz ([(a2.Bits,a2.Lanes),(a2.Bits,a2.Lanes)]:List Ho)).bind λx17=>(some x17)))))))))))))))
theorem FG(h:Ra v6=some v21):sP 210 [(UU v6)] [] (sq v21) []:=
 sG Tryz.func210 λΓ q=>gR q [1] [1] [(2,zP)] [] (c1 (Bd 2 Br ((0:Int),(0:Int)))) (tW q Hp Hp Ot Ot (tW q [1,3,4,5,6,18] Ot [1,3,4,5,6,18,19] Ot (gC h (λh=>tB h λx1 y1 h=>tT q [2] [] [(lE x1)] (c1 (show(sP 245 [(.slice 0 0 (λ_=>[]) .none)] [] (sq x1) []) from(Spec.args (.cons OX .nil) (Jk y1)))) (tS h (Bq []))) λh=>Ae q [1,3,4,5,6,18,22] Ot (gC h (λh=>tB h λx2 y2 h=>gR q [2] [] [(27,(AV.list 2 Br ((0:Int),(0:Int)) ([((1:Int),(1:Int)),(v6.Bits,v6.Lanes),(v6.Bits,v6.Lanes)]:List Ho) .exact))] [(lE x2)] (c2 (Az 2 Br ((0:Int),(0:Int)) ([((1:Int),(1:Int)),(v6.Bits,v6.Lanes),(v6.Bits,v6.Lanes)]:List Ho)) (Jk y2)) (tS h (Bq []))) λh=>tB h λx4 y4 h=>gJ y4 (λb3=>aG Γ .normal (⟨[Zo,JX,MC,VF,JW,(18,(Z6 v6.Kind)),(29,(.bool b3))],(Q74 v6),[]⟩:St)) (λy h=>Ae q [1,3,4,5,6,18,29] Ot (gC h (λh=>tS h (gK (A3 Gv))) λh=>Ae q [1,3,4,5,6,18,29] Ot (tS h (gK (A3 Gv))))) (gA (gC h (λh=>tB h λx6 y6 h=>gR q [2] [] [(36,(AV.list 2 Br ((0:Int),(0:Int)) ([((w64 v6.Imm),(1:Int))]:List Ho) .exact))] [(lE x6)] (c2 (Az 2 Br ((0:Int),(0:Int)) ([((w64 v6.Imm),(1:Int))]:List Ho)) (Jk y6)) (tS h (Bq []))) λh=>Ae q [1,3,4,5,6,18,38] Ot (gC h (λh=>tB h λx7 y7 h=>gR q [2] [] [(41,(AV.list 2 Br ((0:Int),(0:Int)) ([((64:Int),(1:Int))]:List Ho) .exact))] [(lE x7)] (c2 (Az 2 Br ((0:Int),(0:Int)) ([((64:Int),(1:Int))]:List Ho)) (Jk y7)) (tS h (Bq []))) λh=>Ae q [1,3,4,5,6,18,43] Ot (gC h (λh=>tB h λx8 y8 h=>gR q [2] [] [(47,(AV.list 2 Br ((0:Int),(0:Int)) ([((64:Int),(1:Int)),(v6.Bits,v6.Lanes)]:List Ho) .exact))] [(lE x8)] (c2 (Az 2 Br ((0:Int),(0:Int)) ([((64:Int),(1:Int)),(v6.Bits,v6.Lanes)]:List Ho)) (Jk y8)) (tS h (Bq []))) λh=>tB h λx10 y10 h=>gJ y10 (λb9=>aG Γ .normal (⟨[Zo,JX,MC,VF,JW,(18,(Z6 v6.Kind)),(49,(.bool b9))],(Q74 v6),[]⟩:St)) (λy h=>Ae q [1,3,4,5,6,18,49] Ot (gC h (λh=>tS h (gK (A3 Gv))) λh=>Ae q [1,3,4,5,6,18,49] Ot (tS h (gK (A3 Gv))))) (gA (gC h (λh=>tB h λx12 y12 h=>gR q [2] [] [(55,(AV.list 2 Br ((0:Int),(0:Int)) ([((1:Int),(1:Int)),((64:Int),(1:Int)),(v6.Bits,(1:Int))]:List Ho) .exact))] [(lE x12)] (c2 (Az 2 Br ((0:Int),(0:Int)) ([((1:Int),(1:Int)),((64:Int),(1:Int)),(v6.Bits,(1:Int))]:List Ho)) (Jk y12)) (tS h (Bq []))) λh=>Ae q [1,3,5,6,18,57] JO (gC h (λh=>tB h λx13 y13 h=>gR q [2] [] [(63,(AV.list 2 Br ((0:Int),(0:Int)) ([((1:Int),(1:Int)),(v6.Bits,(1:Int)),(v6.Bits,(1:Int)),(v6.Bits,(1:Int))]:List Ho) .exact))] [(lE x13)] (c2 (Az 2 Br ((0:Int),(0:Int)) ([((1:Int),(1:Int)),(v6.Bits,(1:Int)),(v6.Bits,(1:Int)),(v6.Bits,(1:Int))]:List Ho)) (Jk y13)) (tS h (Bq []))) λh=>Ae q [1,5,6,18,65] [1,5,6] (gC h (λh=>tB h λx14 y14 h=>tB h λx15 y15 h=>gR q [2] [] [(68,(AV.list 2 Br ((0:Int),(0:Int)) ([(v6.Bits,(1:Int))]:List Ho) .exact))] [⟨[],[(20000,71)],(wj x14 20000),[(20000,.tok 2 88 x14.length)],[],[]⟩,(lE x15)] (c3 (Az 2 Br ((0:Int),(0:Int)) ([(v6.Bits,(1:Int))]:List Ho)) (Ta y14) (Jk y15)) (tS h (Bq []))) λh=>Ae q [5,73] [5] (gC h (λh=>tB h λx16 y16 h=>gR q [2] [] [(76,(AV.list 2 Br ((0:Int),(0:Int)) ([(v6.Bits,v6.Lanes)]:List Ho) .exact))] [(lE x16)] (c2 (Az 2 Br ((0:Int),(0:Int)) ([(v6.Bits,v6.Lanes)]:List Ho)) (Jk y16)) (tS h (Bq []))) λh=>tB h λx17 y17 h=>gR q [2] [] [(80,(AV.list 2 Br ((0:Int),(0:Int)) ([(v6.Bits,v6.Lanes),(v6.Bits,v6.Lanes)]:List Ho) .exact))] [(lE x17)] (c2 (Az 2 Br ((0:Int),(0:Int)) ([(v6.Bits,v6.Lanes),(v6.Bits,v6.Lanes)]:List Ho)) (Jk y17)) (tS h (Bq [])))))))))))))))
def Nz(aC:Int):Option Bool:=
 (some (bif (decide ((1:Int)<=aC)) then(decide (aC<=1023)) else false))
theorem Za(h:Nz v1=some v3):sP 255 [(Z6 v1)] [] (.bool v3) []:=
 sG Tryz.func255 λΓ q=>Ae q [0] [] (tU q [2] [] (c2 (gI ((decide ((1:Int)<=v1))==true)) (Na (decide ((1:Int)<=v1)))) (tS h (Bq [])))
def Kx(a2:A2):Int->Option (LR Int (Unit ⊕ Bool)):=
 λ(i2:Int)=>(bif (decide (i2<(a2.Args.length:Int))) then(Aw (As i2 a2.Args.length) ((Nz (a2.Args.getD i2.toNat 0)).bind λx4=>(bif (!x4) then(some (.done (.inr false))) else(some (.next (w64 (i2+1))))))) else(some (.done (.inl ()))))
def PL(Γ:H6)(a2:A2)(r:Bool):Exit->St->Prop:=fK Tryz.prog Γ Tryz.f243.results.toList [] (.bool r) []
def Qx(a2:A2):Option Bool:=
 ((Ra a2).bind λx1=>(bif ((a2.Args.length:Int)!=(x1.length:Int)) then(some false) else((Ad (Kx a2) (0:Int)).bind (λx5=>(match x5 with|(.inl _)=>(some true)|(.inr r7)=>(some r7))))))
theorem OL(h:Qx v6=some v3):sP 243 [(UU v6)] [] (.bool v3) []:=
 sG Tryz.func243 λΓ q=>Ae q [1] [1] (tB h λx1 y1 h=>tT q [1,11] [1] [(lE x1)] (c1 (FG y1)) (gC h (λh=>Ae q [2] [] (tS h (Bq []))) λh=>Ae q [13,14,15] [] (tL q h [13,14,15] [] (λu i2=>(Cn u [(15,(Z6 i2))] [])) (λu x_=>match x_ with|(.inl _)=>aG Γ (.exit 0) (⟨[],[],[]⟩:St)|(.inr r_)=>aR (PL Γ v6 r_)) (λi2 y h=>Ae q [13,14,15,16] [] (gC h (λh=>tV q [4,13,14,15] [] h λh=>tB h λx4 y4 h=>tT q [13,14,15,21] [] [(Z7 x4)] (c1 (Za y4)) (gC h (λh=>Ae q [2] [] (tS h (gO (Mp (H7 [] (Le.refl _ _)))))) λh=>Ae q [13,14,15] [] (tN h))) λh=>tS h (gO (A3 (A8 [] [] q))))) λx5 h=>(match x5,h with | .inl _,h=>gA (Ae q [2] [] (tS h (Bq []))) | .inr r7,h=>gAr (λst' hk=>tS h (gK hk))))))
def Q75(a2:A2):List OQ:=[(1,.row 51 (vQ a2.Kind a2.Bits a2.Lanes a2.Dst a2.Args a2.Imm))]
def Qz(a2:A2):Option Ho:=
 (Option.bind (α:=Bool) (bif (a2.Kind==17) then(some (a2.Kind==17)) else(some (a2.Kind==19))) (λx2=>(bif x2 then(some ((0:Int),(0:Int))) else(Option.bind (α:=Bool) (bif (a2.Kind==10) then(some (a2.Kind==10)) else(bif (a2.Kind==11) then(some (a2.Kind==11)) else(some (a2.Kind==12)))) (λx5=>(bif x5 then(some ((1:Int),(1:Int))) else(bif (a2.Kind==22) then(some (a2.Bits,(1:Int))) else(some (a2.Bits,a2.Lanes)))))))))
theorem FF(h:Qz v6=some v19):sP 209 [(UU v6)] [] (.tuple [(Z6 v19.1),(Z6 v19.2)]) []:=
 sG Tryz.func209 λΓ q=>tW q [1] [1] [1,5] [1] (tB h λx2 y2 h=>gJ y2 (λb1=>aG Γ .normal (⟨[Zo,(5,(Z6 v6.Kind)),(6,(.bool b1))],(Q75 v6),[]⟩:St)) (λy h=>Ae q [1,5,6] [1] (gC h (λh=>tS h (gK (A3 Gv))) λh=>Ae q [1,5,6] [1] (tS h (gK (A3 Gv))))) (gA (gC h (λh=>Ae q Cc [] (tS h (Bq []))) λh=>tB h λx5 y5 h=>gJ y5 (λb4=>aG Γ .normal (⟨[Zo,(5,(Z6 v6.Kind)),(9,(.bool b4))],(Q75 v6),[]⟩:St)) (λy h=>Ae q [1,5,9] [1] (gC h (λh=>tS h (gK (A3 Gv))) λh=>Ae q [1,5,9] [1] (gC h (λh=>tS h (gK (A3 Gv))) λh=>Ae q [1,5,9] [1] (tS h (gK (A3 Gv)))))) (gA (gC h (λh=>Ae q Cc [] (tS h (Bq []))) λh=>Ae q [1,13] [1] (gC h (λh=>Ae q Cc [] (tS h (Bq []))) λh=>Ae q Cc [] (tS h (Bq []))))))))
def Qy(a2:A2):Option Bool:=
 ((Qz a2).bind λx1=>(bif (x1.1==0) then(some (a2.Dst==0)) else((Nz a2.Dst).bind λx2=>(some x2))))
theorem OM(h:Qy v6=some v3):sP 244 [(UU v6)] [] (.bool v3) []:=
 sG Tryz.func244 λΓ q=>Ae q [1] [1] (tB h λx1 y1 h=>tT q I8 [1] [(ss x1.1 x1.2)] (c1 (FF y1)) (Ae q [1,11] [1] (gC h (λh=>Ae q [2] [] (tS h (Bq []))) λh=>tB h λx2 y2 h=>tT q [2] [] [(Z7 x2)] (c1 (Za y2)) (tS h (Bq [])))))
def vK(x1:Bool)(x2:Bool):=(bif (!x1) then true else(!x2))
def Sc(a2:A2):Option Bool:=
 ((Pa a2.Kind).bind λx1=>((bif ((!x1)==false) then Ty a2.Bits a2.Lanes else some false).bind λx2=>((bif ((bif (!x1) then true else(!x2))==false) then Of a2 else some false).bind λx3=>((bif ((bif (bif (!x1) then true else(!x2)) then true else(!x3))==false) then Q0 a2 else some false).bind λx4=>(bif (bif (bif (bif (!x1) then true else(!x2)) then true else(!x3)) then true else(!x4)) then(some false) else((Qx a2).bind λx5=>((bif (x5==true) then Qy a2 else some false).bind λx6=>(some (bif x5 then x6 else false)))))))))
theorem BZ(h:Sc v6=some v3):sP 207 [(UU v6)] [] (.bool v3) []:=
 sG Tryz.func207 λΓ q=>Ae q [1] [1] (tB h λx1 y1 h=>tB h λx2 y2 h=>tB h λx3 y3 h=>tB h λx4 y4 h=>tT q [1,24] [1] [(Z7 x1),(Z7 x2),(Z7 x3),(Z7 x4)] (ci (CA y1) (QL ((!x1)==false) (yE (λ(hg:((!x1)==false)=true)=>(WB (Ba hg y2))) (gI ((!x1)==false)) (I9 (!x1)) (gI ((vK x1 x2)==false)) (λ(hg:((vK x1 x2)==false)=true)=>(IQ (Ba hg y3))) (gI ((vK x1 x2)==false)) (I9 (vK x1 x2)) (gI ((bif (vK x1 x2) then true else(!x3))==false)) (λ(hg:((bif (vK x1 x2) then true else(!x3))==false)=true)=>(ON (Ba hg y4))) (c2 (gI ((bif (vK x1 x2) then true else(!x3))==false)) (I9 (bif (vK x1 x2) then true else(!x3))))))) (gC h (λh=>Ae q [2] [] (tS h (Bq []))) λh=>tB h λx5 y5 h=>tB h λx6 y6 h=>tT q [2] [] [(Z7 x5),(Z7 x6)] (c4 (OL y5) (gI (x5==true)) (λ(hg:(x5==true)=true)=>(OM (Ba hg y6))) (Na x5)) (tS h (Bq []))))
def Tv(a2:A2)(aa0:Int):Option Bool:=
 (bif (aa0==0) then(some (bif (decide (a2.Kind<=17)) then(a2.Lanes==1) else false)) else(bif (aa0==1) then(some (bif (decide (a2.Kind<=20)) then(a2.Lanes==1) else false)) else(some true)))
theorem VV(h:Tv v6 v1=some v3):sP 208 [(UU v6),(Z6 v1)] [] (.bool v3) []:=
 sG Tryz.func208 λΓ q=>tW q Nj [2] Tf [2] (Ae q V5 [2] (gC h (λh=>tU q [4] [] (Kb ((decide (v6.Kind<=17))==true) (c1 (Na (decide (v6.Kind<=17))))) (tS h (Bq []))) λh=>Ae q Wm [2] (gC h (λh=>tU q [4] [] (Kb ((decide (v6.Kind<=20))==true) (c1 (Na (decide (v6.Kind<=20))))) (tS h (Bq []))) λh=>Ae q [4] [] (tS h (Bq [])))))
abbrev CT:=(Bool×TFunc×Int×Ao×List Bg)
def Ie(a2:A2)(a3:TFunc)(a5:Int)(a7:Ao)(aA:List Bg):Option CT:=
 ((Sc a2).bind λx1=>((bif (x1==true) then Tv a2 a5 else some false).bind λx2=>(some ((bif x1 then x2 else false),a3,a5,a7,aA))))
variable{v23:CT}
theorem Wg(h:Ie v6 v0 v1 v2 v12=some v23):sP 182 [Wt,(UU v6)] (Z3 v0.Params v0.Ret v0.Blocks v1 v2 v12 v12.length) (.bool v23.1) (Z3 v23.2.1.Params v23.2.1.Ret v23.2.1.Blocks v23.2.2.1 v23.2.2.2.1 v23.2.2.2.2 v23.2.2.2.2.length):=
 sG Tryz.func182 λΓ q=>Ae q R4 TK (tB h λx1 y1 h=>tB h λx2 y2 h=>tT q [4] I7 [(Z7 x1),(Z7 x2)] (ci (BZ y1) (xE (x1==true) (c2 (λ(hg:(x1==true)=true)=>(VV (Ba hg y2))) (Na x1)))) (tS h (Bq Zg)))
abbrev Te:=(Int×Ao×Int×List Ab×Int×Ao×List Bg)
abbrev Aat:=(LR (Int×Ao×Int×List Ab×Int×Ao×List Bg) ((Ao×Int×List Ab×Int×Ao×List Bg) ⊕ (Bool×TFunc×Int×Ao×List Bg)))
def G7(aB:List A2):Te->Option Aat:=
 λ((i1,l2,i3,l4,i5,l6,l7):Te)=>(bif (decide (i1<(aB.length:Int))) then(Aw (As i1 aB.length) ((Ie (aB.getD i1.toNat default) (⟨l2,i3,l4⟩:TFunc) i5 l6 l7).bind λx15=>(bif (!x15.1) then(some (.done (.inr (false,x15.2.1,x15.2.2.1,x15.2.2.2.1,x15.2.2.2.2)))) else(some (.next ((w64 (i1+1)),x15.2.1.Params,x15.2.1.Ret,x15.2.1.Blocks,x15.2.2.1,x15.2.2.2.1,x15.2.2.2.2)))))) else(some (.done (.inl (l2,i3,l4,i5,l6,l7)))))
def FW(Γ:H6)(aB:List A2)(a3:TFunc)(a5:Int)(a7:Ao)(aA:List Bg)(r:CT):Exit->St->Prop:=fK Tryz.prog Γ Tryz.f181.results.toList (Z3 a3.Params a3.Ret a3.Blocks a5 a7 aA aA.length) (.bool r.1) (Z3 r.2.1.Params r.2.1.Ret r.2.1.Blocks r.2.2.1 r.2.2.2.1 r.2.2.2.2 r.2.2.2.2.length)
def Md(aB:List A2)(a3:TFunc)(a5:Int)(a7:Ao)(aA:List Bg):Option CT:=
 ((Ad (G7 aB) ((0:Int),a3.Params,a3.Ret,a3.Blocks,a5,a7,aA)).bind (λx16=>(match x16 with|(.inl (l8,i9,l10,i11,l12,l13))=>(some (true,(⟨l8,i9,l10⟩:TFunc),i11,l12,l13))|(.inr r18)=>(some r18))))
theorem ES(h:Md v7 v0 v1 v2 v12=some v23):sP 181 [(bt v7),(.clo 182 [Wt] [])] (Z3 v0.Params v0.Ret v0.Blocks v1 v2 v12 v12.length) (.bool v23.1) (Z3 v23.2.1.Params v23.2.1.Ret v23.2.1.Blocks v23.2.2.1 v23.2.2.2.1 v23.2.2.2.2 v23.2.2.2.2.length):=
 sG Tryz.func181 λΓ q=>tW q Fg I7 Nh I7 (tL q h Nh I7 (λu (i1,l2,i3,l4,i5,l6,l7)=>(Cn u [(9,(Z6 i1))] (Z3 l2 i3 l4 i5 l6 l7 l7.length))) (λu x_=>match x_ with|(.inl (l8,i9,l10,i11,l12,l13))=>aG Γ (.exit 0) (⟨[],(Z3 l8 i9 l10 i11 l12 l13 l13.length),[]⟩:St)|(.inr r_)=>aR (FW Γ v7 v0 v1 v2 v12 r_)) (λ⟨i1,l2,i3,l4,i5,l6,l7⟩ y h=>Ae q NT I7 (gC h (λh=>tV q NU [6,30000,37006] h λh=>tB h λx15 y15 h=>tT q UR I7 [(Z80 x15.1 x15.2.1.Params x15.2.1.Ret x15.2.1.Blocks x15.2.2.1 x15.2.2.2.1 x15.2.2.2.2 x15.2.2.2.2.length)] (c1 (Wg y15)) (gC h (λh=>Ae q [4] I7 (tS h (gO (Mp (H7 Zg (Le.refl _ _)))))) λh=>Ae q Nh I7 (tN h))) λh=>tS h (gO (A3 (A8 [] I7 q))))) λx16 h=>(match x16,h with | .inl ⟨l8,i9,l10,i11,l12,l13⟩,h=>gA (Ae q [4] I7 (tS h (Bq Zg))) | .inr r18,h=>gAr (λst' hk=>tS h (gK hk))))
def Q79(x1:Bool)(x2:CT)(a7:Ao):AV:=(Z74 x1 x2.2.2.2.1 a7)
def Q78(x1:Bool)(x2:CT)(a3:TFunc):AV:=(Z74 x1 x2.2.1.Params a3.Params)
def Q77(x1:Bool)(x2:CT)(a3:TFunc):AV:=(.slice 5 (bif (x1==true) then x2.2.1.Blocks.length else a3.Blocks.length) (λi=>bif (x1==true) then Be (x2.2.1.Blocks.getD i default) else Be (a3.Blocks.getD i default)) .none)
def Gd(aH:Ab)(a3:TFunc)(a5:Int)(a7:Ao)(aA:List Bg):Option CT:=
 ((Lo aH.Phis).bind λx1=>((bif (x1==true) then Md aH.Ops a3 a5 a7 aA else some (false,(default:TFunc),(0:Int),[],[])).bind λx2=>(some ((bif x1 then x2.1 else false),(⟨(bif (x1==true) then x2.2.1.Params else a3.Params),(bif (x1==true) then x2.2.1.Ret else a3.Ret),(bif (x1==true) then x2.2.1.Blocks else a3.Blocks)⟩:TFunc),(bif (x1==true) then x2.2.2.1 else a5),(bif (x1==true) then x2.2.2.2.1 else a7),(bif (x1==true) then x2.2.2.2.2 else aA)))))
theorem Tz(h:Gd v9 v0 v1 v2 v12=some v23):sP 148 [Wt,(.agg (Be v9))] (Z3 v0.Params v0.Ret v0.Blocks v1 v2 v12 v12.length) (.bool v23.1) (Z3 v23.2.1.Params v23.2.1.Ret v23.2.1.Blocks v23.2.2.1 v23.2.2.2.1 v23.2.2.2.2 v23.2.2.2.2.length):=
 sG Tryz.func148 λΓ q=>Ae q R4 TK (tB h λx1 y1 h=>tB h λx2 y2 h=>tT q [4] I7 [(Z7 x1),(Z80 x2.1 x2.2.1.Params x2.2.1.Ret x2.2.1.Blocks x2.2.2.1 x2.2.2.2.1 x2.2.2.2.2 x2.2.2.2.2.length)] (ci (BR y1) (QL (x1==true) (c2 (λ(hg:(x1==true)=true)=>(ES (Ba hg y2))) (Na x1)))) (tS h (gK (e:=.ret) (H7 Zg (Le.trans (leB (λg_ u=>(Cn u [] [(30000,.row 105 [(Q78 x1 x2 v0),(.int .i64 (bif (x1==true) then x2.2.1.Ret else v0.Ret)),(Q77 x1 x2 v0),(.int .i64 (bif (x1==true) then x2.2.2.1 else v1)),(Q79 x1 x2 v2),.nilm,(Z46 g_ x2.2.2.2.2 v12)]),(37006,.tok 5 198 (bif g_ then x2.2.2.2.2.length else v12.length))])) (λg_ u=>(Cn u [] [(30000,.row 105 [(Q78 x1 x2 v0),(.int .i64 (bif (x1==true) then x2.2.1.Ret else v0.Ret)),(Q77 x1 x2 v0),(.int .i64 (bif (x1==true) then x2.2.2.1 else v1)),(Q79 x1 x2 v2),.nilm,(AV.list 5 Om default (bif g_ then x2.2.2.2.2 else v12) (.own 37006))]),(37006,.tok 5 198 ((bif g_ then x2.2.2.2.2 else v12).length))])) (x1==true)) (Le.trans (tz 30000 0 (show AVle (Q78 x1 x2 v0) (AV.list 1 An 0 (bif (x1==true) then x2.2.1.Params else v0.Params) .none) from Kk)) (Le.trans (tz 30000 2 (show AVle (Q77 x1 x2 v0) (AV.list 5 Be default (bif (x1==true) then x2.2.1.Blocks else v0.Blocks) .none) from Kk)) (tz 30000 4 (show AVle (Q79 x1 x2 v2) (AV.list 1 An 0 (bif (x1==true) then x2.2.2.2.1 else v2) .none) from Kk)))))))))
def E3(aB:List Ab):Te->Option Aat:=
 λ((i1,l2,i3,l4,i5,l6,l7):Te)=>(bif (decide (i1<(aB.length:Int))) then(Aw (As i1 aB.length) ((Gd (aB.getD i1.toNat default) (⟨l2,i3,l4⟩:TFunc) i5 l6 l7).bind λx15=>(bif (!x15.1) then(some (.done (.inr (false,x15.2.1,x15.2.2.1,x15.2.2.2.1,x15.2.2.2.2)))) else(some (.next ((w64 (i1+1)),x15.2.1.Params,x15.2.1.Ret,x15.2.1.Blocks,x15.2.2.1,x15.2.2.2.1,x15.2.2.2.2)))))) else(some (.done (.inl (l2,i3,l4,i5,l6,l7)))))
def Zl(Γ:H6)(aB:List Ab)(a3:TFunc)(a5:Int)(a7:Ao)(aA:List Bg)(r:CT):Exit->St->Prop:=fK Tryz.prog Γ Tryz.f147.results.toList (Z3 a3.Params a3.Ret a3.Blocks a5 a7 aA aA.length) (.bool r.1) (Z3 r.2.1.Params r.2.1.Ret r.2.1.Blocks r.2.2.1 r.2.2.2.1 r.2.2.2.2 r.2.2.2.2.length)
def J2(aB:List Ab)(a3:TFunc)(a5:Int)(a7:Ao)(aA:List Bg):Option CT:=
 ((Ad (E3 aB) ((0:Int),a3.Params,a3.Ret,a3.Blocks,a5,a7,aA)).bind (λx16=>(match x16 with|(.inl (l8,i9,l10,i11,l12,l13))=>(some (true,(⟨l8,i9,l10⟩:TFunc),i11,l12,l13))|(.inr r18)=>(some r18))))
theorem X8(h:J2 v10 v0 v1 v2 v12=some v23):sP 147 [(VD v10),(.clo 148 [Wt] [])] (Z3 v0.Params v0.Ret v0.Blocks v1 v2 v12 v12.length) (.bool v23.1) (Z3 v23.2.1.Params v23.2.1.Ret v23.2.1.Blocks v23.2.2.1 v23.2.2.2.1 v23.2.2.2.2 v23.2.2.2.2.length):=
 sG Tryz.func147 λΓ q=>tW q Fg I7 Nh I7 (tL q h Nh I7 (λu (i1,l2,i3,l4,i5,l6,l7)=>(Cn u [(9,(Z6 i1))] (Z3 l2 i3 l4 i5 l6 l7 l7.length))) (λu x_=>match x_ with|(.inl (l8,i9,l10,i11,l12,l13))=>aG Γ (.exit 0) (⟨[],(Z3 l8 i9 l10 i11 l12 l13 l13.length),[]⟩:St)|(.inr r_)=>aR (Zl Γ v10 v0 v1 v2 v12 r_)) (λ⟨i1,l2,i3,l4,i5,l6,l7⟩ y h=>Ae q NT I7 (gC h (λh=>tV q NU [6,30000,37006] h λh=>tB h λx15 y15 h=>tT q UR I7 [(Z80 x15.1 x15.2.1.Params x15.2.1.Ret x15.2.1.Blocks x15.2.2.1 x15.2.2.2.1 x15.2.2.2.2 x15.2.2.2.2.length)] (c1 (Tz y15)) (gC h (λh=>Ae q [4] I7 (tS h (gO (Mp (H7 Zg (Le.refl _ _)))))) λh=>Ae q Nh I7 (tN h))) λh=>tS h (gO (A3 (A8 [] I7 q))))) λx16 h=>(match x16,h with | .inl ⟨l8,i9,l10,i11,l12,l13⟩,h=>gA (Ae q [4] I7 (tS h (Bq Zg))) | .inr r18,h=>gAr (λst' hk=>tS h (gK hk))))
def k9(x1:Bool)(x2:Bool):=((bif x1 then x2 else false)==true)
def Q83(x1:Bool)(x2:Bool)(x3:CT)(a7:Ao):AV:=(Z23 (k9 x1 x2) x3.2.2.2.1 a7)
def Q82(x1:Bool)(x2:Bool)(x3:CT)(a3:TFunc):AV:=(Z23 (k9 x1 x2) x3.2.1.Params a3.Params)
def Q81(x1:Bool)(x2:Bool)(x3:CT)(a3:TFunc):AV:=(Z67 (k9 x1 x2) x3.2.1.Blocks a3.Blocks)
def J3(a3:TFunc)(a5:Int)(a7:Ao)(aA:List Bg):Option mc:=
 ((Pl a3.Params).bind λx1=>((bif (x1==true) then Lj a3.Ret else some false).bind λx2=>((bif ((bif x1 then x2 else false)==true) then J2 a3.Blocks a3 a5 a7 aA else some (false,(default:TFunc),(0:Int),[],[])).bind λx3=>((Nv (bif (bif x1 then x2 else false) then x3.1 else false) (6:Int)).bind λx4=>(some (x4,(⟨(bif ((bif x1 then x2 else false)==true) then x3.2.1.Params else a3.Params),(bif ((bif x1 then x2 else false)==true) then x3.2.1.Ret else a3.Ret),(bif ((bif x1 then x2 else false)==true) then x3.2.1.Blocks else a3.Blocks)⟩:TFunc),(bif ((bif x1 then x2 else false)==true) then x3.2.2.1 else a5),(bif ((bif x1 then x2 else false)==true) then x3.2.2.2.1 else a7),(bif ((bif x1 then x2 else false)==true) then x3.2.2.2.2 else aA)))))))
theorem X9(h:J3 v0 v1 v2 v12=some v13):sP 89 [Wt] (Z3 v0.Params v0.Ret v0.Blocks v1 v2 v12 v12.length) (Z6 v13.1) (Z3 v13.2.1.Params v13.2.1.Ret v13.2.1.Blocks v13.2.2.1 v13.2.2.2.1 v13.2.2.2.2 v13.2.2.2.2.length):=
 sG Tryz.func89 λΓ q=>Ae q [0] I7 (tB h λx1 y1 h=>tB h λx2 y2 h=>tB h λx3 y3 h=>tT q [3] I7 [(Z7 x1),(Z7 x2),(Z80 x3.1 x3.2.1.Params x3.2.1.Ret x3.2.1.Blocks x3.2.2.1 x3.2.2.2.1 x3.2.2.2.2 x3.2.2.2.2.length)] (ci (KR y1) (xE (x1==true) (QD (λ(hg:(x1==true)=true)=>(N6 (Ba hg y2))) (Na x1) (gI7 (k9 x1 x2) (c2 (λ(hg:(k9 x1 x2)=true)=>(X8 (Ba hg y3))) (Na (bif x1 then x2 else false))))))) (M3 (Le.trans (leB (λg_ u=>(Cn u [] [(30000,.row 105 [(Q82 x1 x2 x3 v0),(vR (k9 x1 x2) x3.2.1.Ret v0.Ret),(Q81 x1 x2 x3 v0),(vR (k9 x1 x2) x3.2.2.1 v1),(Q83 x1 x2 x3 v2),.nilm,(Z46 g_ x3.2.2.2.2 v12)]),(37006,.tok 5 198 (bif g_ then x3.2.2.2.2.length else v12.length))])) (λg_ u=>(Cn u [] [(30000,.row 105 [(Q82 x1 x2 x3 v0),(vR (k9 x1 x2) x3.2.1.Ret v0.Ret),(Q81 x1 x2 x3 v0),(vR (k9 x1 x2) x3.2.2.1 v1),(Q83 x1 x2 x3 v2),.nilm,(AV.list 5 Om default (bif g_ then x3.2.2.2.2 else v12) (.own 37006))]),(37006,.tok 5 198 ((bif g_ then x3.2.2.2.2 else v12).length))])) (k9 x1 x2)) (Le.trans (tz 30000 0 (show AVle (Q82 x1 x2 x3 v0) (AV.list 1 An 0 (bif (k9 x1 x2) then x3.2.1.Params else v0.Params) .none) from Kk)) (Le.trans (tz 30000 2 (show AVle (Q81 x1 x2 x3 v0) (AV.list 5 Be default (bif (k9 x1 x2) then x3.2.1.Blocks else v0.Blocks) .none) from Kk)) (tz 30000 4 (show AVle (Q83 x1 x2 x3 v2) (AV.list 1 An 0 (bif (k9 x1 x2) then x3.2.2.2.1 else v2) .none) from Kk))))) (tB h λx4 y4 h=>tT q [2] I7 [(JS x4)] (c1 (Y6 y4)) (tS h (Bq Zg)))))
def D8(aI:Int):Option Ho:=
 (some (aI,(1:Int)))
theorem Ms(h:D8 v1=some v19):sP 149 [(Z6 v1)] [] (.agg (Br v19)) []:=
 sG Tryz.func149 λΓ q=>tW q [0,2] [2] [2] [2] (tS h (Bq []))
def xz:=(λ(v_:Ax)=>((Xq v_):AV))
abbrev Pg:=(Int×Ax)
abbrev eY:=(Bool×TFunc×Int×Ao×List Bg×List (Int×Ax))
def Ge(aC:Int)(aaB:Ho)(aK:L8)(a3:TFunc)(a5:Int)(a7:Ao)(a8:List Pg)(aA:List Bg):Option eY:=
 (bif (bif (bif (Kg a8 aC) then true else(decide (aC<1))) then true else(decide ((1023:Int)<aC))) then(some (false,a3,a5,a7,aA,a8)) else(some (true,a3,a5,a7,aA,(Ow a8 aC (⟨aaB,aK⟩:Ax)))))
variable{v24:L8}{v25:List Pg}{v26:eY}
abbrev u7:=(Int×AV)
theorem P3(h:Ge v1 v19 v24 v0 v11 v2 v25 v12=some v26):sP 183 [Wt,(Z6 v1),(.agg (Br v19)),(.agg (PB v24))] [(Z1 v0.Params v0.Ret v0.Blocks v11 v2 9100005 v12),(M2 37006 198 v12.length),(9100005,.obj (.map true .i64 (Dw (λ(v_:Ax)=>((Xq v_):AV)) v25)))] (.bool v26.1) [(Z1 v26.2.1.Params v26.2.1.Ret v26.2.1.Blocks v26.2.2.1 v26.2.2.2.1 9100005 v26.2.2.2.2.1),(M2 37006 198 v26.2.2.2.2.1.length),(9100005,.obj (.map true .i64 (Dw (λ(v_:Ax)=>((Xq v_):AV)) v26.2.2.2.2.2)))]:=
 sG Tryz.func183 λΓ q=>Ae q UA kW (gR q [0,1,6,7,10] kW [(17,(.tuple [(vP v25 v1),(.bool (Kg v25 v1))]))] [] (c1 (show(AVle (.tuple [Mh (.agg [Lc,Lc,Lc,Lc]) (Dw xz v25) v1,.bool (Kg (Dw xz v25) v1)]) (.tuple [(vP v25 v1),(.bool (Kg v25 v1))])) from(dX (f:=xz) (l:=v25) (AVle.refl _) rfl))) (tU q [0,1,6,7,28] kW (c4 (gI ((Kg v25 v1)==false)) (I9 (Kg v25 v1)) (gI ((bif (Kg v25 v1) then true else(decide (v1<1)))==false)) (I9 (bif (Kg v25 v1) then true else(decide (v1<1))))) (gC h (λh=>Ae q [8] I4 (tS h (Bq EV))) λh=>Ae q [] I4 (M3 (Vg (λ(k_:List u7) u=>Cn u [] [(9100005,.obj (.map true .i64 k_))]) (show(Ow (Dw xz v25) v1 (.agg [(Z6 v19.1),(Z6 v19.2),(Z6 v24.block),(Z6 v24.at_)]))=(Dw xz (Ow v25 v1 (⟨v19,v24⟩:Ax))) from(jq (f:=xz) (l:=v25) (v:=(⟨v19,v24⟩:Ax)) rfl rfl))) (Ae q [8] I4 (tS h (Bq EV)))))))
def Qv(a2:A2):Option Ho:=
 ((Sc a2).bind λx1=>(bif (!x1) then(some ((0:Int),(0:Int))) else((Qz a2).bind λx2=>(some (x2.1,x2.2)))))
theorem WA(h:Qv v6=some v19):sP 184 [(UU v6)] [] (.tuple [(Z6 v19.1),(Z6 v19.2)]) []:=
 sG Tryz.func184 λΓ q=>Ae q [1] [1] (tB h λx1 y1 h=>tT q [1,6] [1] [(Z7 x1)] (c1 (BZ y1)) (gC h (λh=>Ae q Cc [] (tS h (Bq []))) λh=>tB h λx2 y2 h=>tT q Cc [] [(ss x2.1 x2.2)] (c1 (FF y2)) (tS h (Bq []))))
open Go Go.RowKit
set_option maxRecDepth 100000
set_option maxHeartbeats 2000000
abbrev u9:=(Int×Ao×Int×List Ab×Int×Ao×List Bg×List (Int×Ax))
abbrev Aau:=(LR (Int×Ao×Int×List Ab×Int×Ao×List Bg×List (Int×Ax)) ((Ao×Int×List Ab×Int×Ao×List Bg×List (Int×Ax)) ⊕ (Bool×TFunc×Int×Ao×List Bg×List (Int×Ax))))
def Dl(aa9:Int)(aH:Ab):u9->Option Aau:=
 λ((i1,l2,i3,l4,i5,l6,l7,l8):u9)=>(bif (decide (i1<(aH.Phis.length:Int))) then(Aw (As i1 aH.Phis.length) ((D8 ((aH.Phis.getD i1.toNat default).Bits)).bind λx17=>((Ge ((aH.Phis.getD i1.toNat default).Dst) x17 (⟨aa9,(-1:Int)⟩:L8) (⟨l2,i3,l4⟩:TFunc) i5 l6 l8 l7).bind λx18=>(bif (!x18.1) then(some (.done (.inr (false,x18.2.1,x18.2.2.1,x18.2.2.2.1,x18.2.2.2.2.1,x18.2.2.2.2.2)))) else(some (.next ((w64 (i1+1)),x18.2.1.Params,x18.2.1.Ret,x18.2.1.Blocks,x18.2.2.1,x18.2.2.2.1,x18.2.2.2.2.1,x18.2.2.2.2.2))))))) else(some (.done (.inl (l2,i3,l4,i5,l6,l7,l8)))))
def Cj(aa9:Int)(aH:Ab):u9->Option Aau:=
 λ((i21,l22,i23,l24,i25,l26,l27,l28):u9)=>(bif (decide (i21<(aH.Ops.length:Int))) then(Aw (As i21 aH.Ops.length) ((Qv (aH.Ops.getD i21.toNat default)).bind λx37=>((bif ((decide ((0:Int)<x37.1))==true) then Ge ((aH.Ops.getD i21.toNat default).Dst) (x37.1,x37.2) (⟨aa9,i21⟩:L8) (⟨l22,i23,l24⟩:TFunc) i25 l26 l28 l27 else some (false,(default:TFunc),(0:Int),[],[],[])).bind λx38=>(bif (bif (decide ((0:Int)<x37.1)) then(!x38.1) else false) then(some (.done (.inr (false,(⟨(bif ((decide ((0:Int)<x37.1))==true) then x38.2.1.Params else l22),(bif ((decide ((0:Int)<x37.1))==true) then x38.2.1.Ret else i23),(bif ((decide ((0:Int)<x37.1))==true) then x38.2.1.Blocks else l24)⟩:TFunc),(bif ((decide ((0:Int)<x37.1))==true) then x38.2.2.1 else i25),(bif ((decide ((0:Int)<x37.1))==true) then x38.2.2.2.1 else l26),(bif ((decide ((0:Int)<x37.1))==true) then x38.2.2.2.2.1 else l27),(bif ((decide ((0:Int)<x37.1))==true) then x38.2.2.2.2.2 else l28))))) else(some (.next ((w64 (i21+1)),(bif ((decide ((0:Int)<x37.1))==true) then x38.2.1.Params else l22),(bif ((decide ((0:Int)<x37.1))==true) then x38.2.1.Ret else i23),(bif ((decide ((0:Int)<x37.1))==true) then x38.2.1.Blocks else l24),(bif ((decide ((0:Int)<x37.1))==true) then x38.2.2.1 else i25),(bif ((decide ((0:Int)<x37.1))==true) then x38.2.2.2.1 else l26),(bif ((decide ((0:Int)<x37.1))==true) then x38.2.2.2.2.1 else l27),(bif ((decide ((0:Int)<x37.1))==true) then x38.2.2.2.2.2 else l28)))))))) else(some (.done (.inl (l22,i23,l24,i25,l26,l27,l28)))))
def Ol(Γ:H6)(aa9:Int)(aH:Ab)(a3:TFunc)(a5:Int)(a7:Ao)(a8:List Pg)(aA:List Bg)(r:eY):Exit->St->Prop:=fK Tryz.prog Γ Tryz.f150.results.toList [(Z1 a3.Params a3.Ret a3.Blocks a5 a7 9100005 aA),(M2 37006 198 aA.length),(9100005,.obj (.map true .i64 (Dw (λ(v_:Ax)=>((Xq v_):AV)) a8)))] (.bool r.1) [(Z1 r.2.1.Params r.2.1.Ret r.2.1.Blocks r.2.2.1 r.2.2.2.1 9100005 r.2.2.2.2.1),(M2 37006 198 r.2.2.2.2.1.length),(9100005,.obj (.map true .i64 (Dw (λ(v_:Ax)=>((Xq v_):AV)) r.2.2.2.2.2)))]
def e8(x37:Ho):=((decide ((0:Int)<x37.1))==true)
def sj:=(λ(v_:Ax)=>((Xq v_):AV))
def Q89(x37:Ho)(x38:eY)(l26:Ao):AV:=(Z23 (e8 x37) x38.2.2.2.1 l26)
def Q90(x37:Ho)(x38:eY)(l24:List Ab):AV:=(Z67 (e8 x37) x38.2.1.Blocks l24)
def Q88(x37:Ho)(x38:eY)(l22:Ao):AV:=(Z23 (e8 x37) x38.2.1.Params l22)
def Gz(aa9:Int)(aH:Ab)(a3:TFunc)(a5:Int)(a7:Ao)(a8:List Pg)(aA:List Bg):Option eY:=
 ((Ad (Dl aa9 aH) ((0:Int),a3.Params,a3.Ret,a3.Blocks,a5,a7,aA,a8)).bind (λx19=>(match x19 with|(.inl (l9,i10,l11,i12,l13,l14,l15))=>((Ad (Cj aa9 aH) ((0:Int),l9,i10,l11,i12,l13,l14,l15)).bind (λx39=>(match x39 with|(.inl (l29,i30,l31,i32,l33,l34,l35))=>(some (true,(⟨l29,i30,l31⟩:TFunc),i32,l33,l34,l35))|(.inr r41)=>(some r41))))|(.inr r42)=>(some r42))))
theorem Up(h:Gz v1 v9 v0 v11 v2 v25 v12=some v26):sP 150 [Wt,(Z6 v1),(.agg (Be v9))] [(Z1 v0.Params v0.Ret v0.Blocks v11 v2 9100005 v12),(M2 37006 198 v12.length),(9100005,.obj (.map true .i64 (Dw (λ(v_:Ax)=>((Xq v_):AV)) v25)))] (.bool v26.1) [(Z1 v26.2.1.Params v26.2.1.Ret v26.2.1.Blocks v26.2.2.1 v26.2.2.2.1 9100005 v26.2.2.2.2.1),(M2 37006 198 v26.2.2.2.2.1.length),(9100005,.obj (.map true .i64 (Dw (λ(v_:Ax)=>((Xq v_):AV)) v26.2.2.2.2.2)))]:=
 sG Tryz.func150 λΓ q=>tW q Ph NR iU NR (tL q h iU NR (λu (i1,l2,i3,l4,i5,l6,l7,l8)=>(Cn u [(16,(Z6 i1))] [(Z1 l2 i3 l4 i5 l6 9100005 l7),(M2 37006 198 l7.length),(9100005,.obj (.map true .i64 (Dw sj l8)))])) (λu x_=>match x_ with|(.inl (l9,i10,l11,i12,l13,l14,l15))=>aG Γ (.exit 0) (Ng Ph NR u [] [(Z1 l9 i10 l11 i12 l13 9100005 l14),(M2 37006 198 l14.length),(9100005,.obj (.map true .i64 (Dw sj l15)))])|(.inr r_)=>aR (Ol Γ v1 v9 v0 v11 v2 v25 v12 r_)) (λ⟨i1,l2,i3,l4,i5,l6,l7,l8⟩ y h=>Ae q [0,1,5,14,15,16,17] NR (gC h (λh=>tV q [0,1,5,8,14,15,16] [5,8,30000,37006,9100005] h λh=>tB h λx17 y17 h=>tB h λx18 y18 h=>tT q [0,1,5,14,15,16,29] NR [(zT x17),⟨EV,[],(.bool x18.1),[(Z1 x18.2.1.Params x18.2.1.Ret x18.2.1.Blocks x18.2.2.1 x18.2.2.2.1 9100005 x18.2.2.2.2.1),(M2 37006 198 x18.2.2.2.2.1.length),(9100005,.obj (.map true .i64 (Dw sj x18.2.2.2.2.2)))],[],[]⟩] (c2 (Ms y17) (P3 y18)) (gC h (λh=>Ae q [6] I4 (tS h (gO (Mp (H7 EV (Le.refl _ _)))))) λh=>Ae q iU NR (tN h))) λh=>tS h (gO (A3 (A8 Ph NR q))))) λx19 h=>(match x19,h with | .inl ⟨l9,i10,l11,i12,l13,l14,l15⟩,h=>gA (Ae q iZ I4 (tL q h iZ I4 (λu (i21,l22,i23,l24,i25,l26,l27,l28)=>(Cn u [(34,(Z6 i21))] [(Z1 l22 i23 l24 i25 l26 9100005 l27),(M2 37006 198 l27.length),(9100005,.obj (.map true .i64 (Dw sj l28)))])) (λu x_=>match x_ with|(.inl (l29,i30,l31,i32,l33,l34,l35))=>aG Γ (.exit 2) (⟨[],[(Z1 l29 i30 l31 i32 l33 9100005 l34),(M2 37006 198 l34.length),(9100005,.obj (.map true .i64 (Dw sj l35)))],[]⟩:St)|(.inr r_)=>aR (Ol Γ v1 v9 v0 v11 v2 v25 v12 r_)) (λ⟨i21,l22,i23,l24,i25,l26,l27,l28⟩ y h=>Ae q [0,1,32,33,34,35] I4 (gC h (λh=>tV q [0,1,9,10,32,33,34] qz h λh=>tB h λx37 y37 h=>tT q [0,1,9,10,11,12,32,33,34] qz [(ss x37.1 x37.2)] (c1 (WA y37)) (tB h λx38 y38 h=>tT q [0,1,32,33,34,58] I4 [⟨EV,[],(.bool x38.1),[(Z1 x38.2.1.Params x38.2.1.Ret x38.2.1.Blocks x38.2.2.1 x38.2.2.2.1 9100005 x38.2.2.2.2.1),(M2 37006 198 x38.2.2.2.2.1.length),(9100005,.obj (.map true .i64 (Dw sj x38.2.2.2.2.2)))],[],[]⟩] (gI9 (e8 x37) (c3 (λ(hg:(e8 x37)=true)=>(P3 (Ba hg y38))) (gI (e8 x37)) (Na (decide ((0:Int)<x37.1))))) (M3 (Le.trans (Vg (λ(k_:List u7) u=>Cn u [] [(9100005,.obj (.map true .i64 k_))]) (show(bif (e8 x37) then(Dw sj x38.2.2.2.2.2) else(Dw sj l28))=(Dw sj (bif (e8 x37) then x38.2.2.2.2.2 else l28)) from(oI rfl rfl))) (Le.trans (leB (λg_ u=>(Cn u [] [(30000,.row 105 [(Q88 x37 x38 l22),(vR (e8 x37) x38.2.1.Ret i23),(Q90 x37 x38 l24),(vR (e8 x37) x38.2.2.1 i25),(Q89 x37 x38 l26),(.omap 9100005),(Z46 g_ x38.2.2.2.2.1 l27)]),(37006,.tok 5 198 (bif g_ then x38.2.2.2.2.1.length else l27.length))])) (λg_ u=>(Cn u [] [(30000,.row 105 [(Q88 x37 x38 l22),(vR (e8 x37) x38.2.1.Ret i23),(Q90 x37 x38 l24),(vR (e8 x37) x38.2.2.1 i25),(Q89 x37 x38 l26),(.omap 9100005),(AV.list 5 Om default (bif g_ then x38.2.2.2.2.1 else l27) (.own 37006))]),(37006,.tok 5 198 ((bif g_ then x38.2.2.2.2.1 else l27).length))])) (e8 x37)) (Le.trans (tz 30000 0 (show AVle (Q88 x37 x38 l22) (AV.list 1 An 0 (bif (e8 x37) then x38.2.1.Params else l22) .none) from Kk)) (Le.trans (tz 30000 2 (show AVle (Q90 x37 x38 l24) (AV.list 5 Be default (bif (e8 x37) then x38.2.1.Blocks else l24) .none) from Kk)) (tz 30000 4 (show AVle (Q89 x37 x38 l26) (AV.list 1 An 0 (bif (e8 x37) then x38.2.2.2.1 else l26) .none) from Kk)))))) (gC h (λh=>Ae q [6] I4 (tS h (gO (Mp (H7 EV (Le.refl _ _)))))) λh=>Ae q iZ I4 (tN h))))) λh=>tS h (gO (A3 (A8 [] I4 q))))) λx39 h=>(match x39,h with | .inl ⟨l29,i30,l31,i32,l33,l34,l35⟩,h=>gA (Ae q [6] I4 (tS h (Bq EV))) | .inr r41,h=>gAr (λst' hk=>tS h (gK hk))))) | .inr r42,h=>gAr (λst' hk=>tS h (gK hk))))
abbrev Aav:=(Int×List (Int×Ax))
def Gf(a3:TFunc):Aav->Option (LR (Int×List (Int×Ax)) (List (Int×Ax))):=
 λ((i1,l2):Aav)=>(bif (decide (i1<(a3.Params.length:Int))) then(Aw (As i1 a3.Params.length) ((D8 (a3.Params.getD i1.toNat 0)).bind λx5=>(some (.next ((w64 (i1+1)),(Ow l2 (w64 (i1+1)) (⟨x5,(⟨(0:Int),(-1:Int)⟩:L8)⟩:Ax))))))) else(some (.done l2)))
abbrev Aaw:=(Int×List (Int×Ax)×Ao×Int×List Ab×Int×Ao×List Bg)
def D7(a3:TFunc):Aaw->Option (LR (Int×List (Int×Ax)×Ao×Int×List Ab×Int×Ao×List Bg) ((List (Int×Ax)×Ao×Int×List Ab×Int×Ao×List Bg) ⊕ (Int×TFunc×Int×Ao×List Bg×List (Int×Ax)))):=
 λ((i8,l9,l10,i11,l12,i13,l14,l15):Aaw)=>(bif (decide (i8<(a3.Blocks.length:Int))) then(Aw (As i8 a3.Blocks.length) ((Gz i8 (a3.Blocks.getD i8.toNat default) (⟨l10,i11,l12⟩:TFunc) i13 l14 l9 l15).bind λx24=>(bif (!x24.1) then(some (.done (.inr ((7:Int),x24.2.1,x24.2.2.1,x24.2.2.2.1,x24.2.2.2.2.1,x24.2.2.2.2.2)))) else(some (.next ((w64 (i8+1)),x24.2.2.2.2.2,x24.2.1.Params,x24.2.1.Ret,x24.2.1.Blocks,x24.2.2.1,x24.2.2.2.1,x24.2.2.2.2.1)))))) else(some (.done (.inl (l9,l10,i11,l12,i13,l14,l15)))))
abbrev vA:=(Int×TFunc×Int×Ao×List Bg×List (Int×Ax))
def Wq(Γ:H6)(a3:TFunc)(a5:Int)(a7:Ao)(aA:List Bg)(r:vA):Exit->St->Prop:=fK Tryz.prog Γ Tryz.f90.results.toList (Z3 a3.Params a3.Ret a3.Blocks a5 a7 aA aA.length) (Z6 r.1) [(Z1 r.2.1.Params r.2.1.Ret r.2.1.Blocks r.2.2.1 r.2.2.2.1 9200005 r.2.2.2.2.1),(M2 37006 198 r.2.2.2.2.1.length),(9200005,.obj (.map false .i64 (Dw (λ(v_:Ax)=>((Xq v_):AV)) r.2.2.2.2.2)))]
def jL:=(λ(v_:Ax)=>((Xq v_):AV))
def Q92(l16:List Pg)(l17:Ao)(i18:Int)(l19:List Ab)(i20:Int)(l21:Ao)(l22:List Bg):List OQ:=[(8,.obj (.map true .i64 (Dw jL l16))),(zN l17 i18 l19 i20 l21 l22),(M2 37006 198 l22.length)]
def Ib(a3:TFunc)(a5:Int)(a7:Ao)(aA:List Bg):Option vA:=
 ((Ad (Gf a3) ((0:Int),([]:List Pg))).bind (λx6=>((Ad (D7 a3) ((0:Int),x6,a3.Params,a3.Ret,a3.Blocks,a5,a7,aA)).bind (λx25=>(match x25 with|(.inl (l16,l17,i18,l19,i20,l21,l22))=>(some ((0:Int),(⟨l17,i18,l19⟩:TFunc),i20,l21,l22,l16))|(.inr r27)=>(some r27))))))
variable{v27:vA}
theorem Wd(h:Ib v0 v1 v2 v12=some v27):sP 90 [Wt] (Z3 v0.Params v0.Ret v0.Blocks v1 v2 v12 v12.length) (Z6 v27.1) [(Z1 v27.2.1.Params v27.2.1.Ret v27.2.1.Blocks v27.2.2.1 v27.2.2.2.1 9200005 v27.2.2.2.2.1),(M2 37006 198 v27.2.2.2.2.1.length),(9200005,.obj (.map false .i64 (Dw (λ(v_:Ax)=>((Xq v_):AV)) v27.2.2.2.2.2)))]:=
 sG Tryz.func90 λΓ q=>tW q [0] I7 [0] Rq (M3 (Vg (λ(k_:List u7) u=>Cn u [] [(8,.obj (.map true .i64 k_))]) (show[]=(Dw jL ([]:List Pg)) from rfl)) (Ae q bi Rq (tL q h bi Rq (λu (i1,l2)=>(Cn u [(17,(Z6 i1))] [(8,.obj (.map true .i64 (Dw jL l2)))])) (λu l3=>aG Γ (.exit 0) (Ng [0] Rq u [] [(8,.obj (.map true .i64 (Dw jL l3)))])) (λ⟨i1,l2⟩ y h=>Ae q [0,15,16,17,18] Rq (gC h (λh=>tV q [0,3,4,15,16,17] Rq h λh=>tB h λx5 y5 h=>tT q bi Rq [(zT x5)] (c1 (Ms y5)) (M3 (Vg (λ(k_:List u7) u=>Cn u [] [(8,.obj (.map true .i64 k_))]) (show(Ow (Dw jL l2) (w64 (i1+1)) (.agg [(Z6 x5.1),(Z6 x5.2),Lc,(.int .i64 (-1:Int))]))=(Dw jL (Ow l2 (w64 (i1+1)) (⟨x5,(⟨(0:Int),(-1:Int)⟩:L8)⟩:Ax))) from(jq (f:=jL) (l:=l2) (v:=(⟨x5,(⟨(0:Int),(-1:Int)⟩:L8)⟩:Ax)) rfl rfl))) (Ae q bi Rq (tN h)))) λh=>tS h (gO (A3 (A8 [0] Rq q))))) λx6 h=>gA (Ae q iu Rq (tL q h iu Rq (λu (i8,l9,l10,i11,l12,i13,l14,l15)=>(Cn u [(39,(Z6 i8))] [(8,.obj (.map true .i64 (Dw jL l9))),(zN l10 i11 l12 i13 l14 l15),(M2 37006 198 l15.length)])) (λu x_=>match x_ with|(.inl (l16,l17,i18,l19,i20,l21,l22))=>aG Γ (.exit 2) (⟨[],(Q92 l16 l17 i18 l19 i20 l21 l22),[]⟩:St)|(.inr r_)=>aR (Wq Γ v0 v1 v2 v12 r_)) (λ⟨i8,l9,l10,i11,l12,i13,l14,l15⟩ y h=>Ae q [0,37,38,39,40] Rq (gC h (λh=>tV q [0,5,6,37,38,39] [6,8,30000,37006] h λh=>tB h λx24 y24 h=>tT q [0,37,38,39,48] Rq [⟨[(30000,30000),(37006,37006),(8,9100005)],[],(.bool x24.1),[(Z1 x24.2.1.Params x24.2.1.Ret x24.2.1.Blocks x24.2.2.1 x24.2.2.2.1 9100005 x24.2.2.2.2.1),(M2 37006 198 x24.2.2.2.2.1.length),(9100005,.obj (.map true .i64 (Dw jL x24.2.2.2.2.2)))],[],[]⟩] (c1 (Up y24)) (gC h (λh=>Ae q [2] Rq (O8 (⟨[(2,(.int .i64 (7:Int)))],[(8,.obj (.map true .i64 (Dw jL x24.2.2.2.2.2))),(zN x24.2.1.Params x24.2.1.Ret x24.2.1.Blocks x24.2.2.1 x24.2.2.2.1 x24.2.2.2.2.1),(M2 37006 198 x24.2.2.2.2.1.length)],[]⟩:St) (tS h (gO (Mp (H7 qp (Le.trans (pD (nm:=8) (.map false .i64 (Dw jL x24.2.2.2.2.2)) rfl (λ_ _ _ _ h_=>dZ h_)) (A8 (st':=⟨[(2,(.int .i64 (7:Int)))],[(8,.obj (.map false .i64 (Dw jL x24.2.2.2.2.2))),(zN x24.2.1.Params x24.2.1.Ret x24.2.1.Blocks x24.2.2.1 x24.2.2.2.1 x24.2.2.2.2.1),(M2 37006 198 x24.2.2.2.2.1.length)],[]⟩) [2] Rq q)))))))) λh=>Ae q iu Rq (tN h))) λh=>tS h (gO (A3 (A8 [] Rq q))))) λx25 h=>(match x25,h with | .inl ⟨l16,l17,i18,l19,i20,l21,l22⟩,h=>gA (Ae q [2] Rq (O8 (⟨[(2,Lc)],(Q92 l16 l17 i18 l19 i20 l21 l22),[]⟩:St) (tS h (gK (e:=.ret) (H7 qp (Le.trans (pD (nm:=8) (.map false .i64 (Dw jL l16)) rfl (λ_ _ _ _ h_=>dZ h_)) (A8 (st':=⟨[(2,Lc)],[(8,.obj (.map false .i64 (Dw jL l16))),(zN l17 i18 l19 i20 l21 l22),(M2 37006 198 l22.length)],[]⟩) [2] Rq q))))))) | .inr r27,h=>gAr (λst' hk=>tS h (gK hk))))))))
abbrev Aax:=(L8×TFunc×Int×Ao×List Bg)
def Gq(aa9:Int)(a3:TFunc)(a5:Int)(a7:Ao)(a8:List Pg)(aA:List Bg):Option Aax:=
 (Aw (As aa9 a3.Blocks.length) (some ((⟨aa9,(((a3.Blocks.getD aa9.toNat default).Ops).length:Int)⟩:L8),a3,a5,a7,aA)))
variable{v28:Aax}
theorem N2(h:Gq v1 v0 v11 v2 v25 v12=some v28):sP 186 [Wt,(Z6 v1)] [(Z1 v0.Params v0.Ret v0.Blocks v11 v2 9100005 v12),(M2 37006 198 v12.length),(9100005,.obj (.map false .i64 (Dw (λ(v_:Ax)=>((Xq v_):AV)) v25)))] (.agg (PB v28.1)) [(Z1 v28.2.1.Params v28.2.1.Ret v28.2.1.Blocks v28.2.2.1 v28.2.2.2.1 9100005 v28.2.2.2.2),(M2 37006 198 v28.2.2.2.2.length),(9100005,.obj (.map false .i64 (Dw (λ(v_:Ax)=>((Xq v_):AV)) v25)))]:=
 sG Tryz.func186 λΓ q=>Ae q [0,1,4] rA (tV q [4] rA h λh=>tS h (Bq EV))
abbrev vB:=(TFunc×Int×Ao×List Bg)
def Es(aC:Int)(aaB:Ho)(aK:L8)(a3:TFunc)(a5:Int)(a7:Ao)(a8:List Pg)(aA:List Bg):Option vB:=
 (Aw (aA.length+([(⟨aC,aaB,aK⟩:Bg)]:List Bg).length<=room) (some (a3,a5,a7,(aA++([(⟨aC,aaB,aK⟩:Bg)]:List Bg)))))
variable{v29:vB}
theorem K7(h:Es v1 v19 v24 v0 v11 v2 v25 v12=some v29):sP 185 [Wt,(Z6 v1),(.agg (Br v19)),(.agg (PB v24))] [(Z1 v0.Params v0.Ret v0.Blocks v11 v2 9100005 v12),(M2 37006 198 v12.length),(9100005,.obj (.map false .i64 (Dw (λ(v_:Ax)=>((Xq v_):AV)) v25)))] (.tuple []) [(Z1 v29.1.Params v29.1.Ret v29.1.Blocks v29.2.1 v29.2.2.1 9100005 v29.2.2.2),(M2 37006 198 v29.2.2.2.length),(9100005,.obj (.map false .i64 (Dw (λ(v_:Ax)=>((Xq v_):AV)) v25)))]:=
 sG Tryz.func185 λΓ q=>Ae q UA kW (tC h λc1_ h=>gR q [] I4 [(17,(AV.list 5 Om default ([(⟨v1,v19,v24⟩:Bg)]:List Bg) .exact)),(18,(AV.list 5 Om default (v12++([(⟨v1,v19,v24⟩:Bg)]:List Bg)) (.own 37006)))] [] (c5 (Az 5 Om (default:Bg) ([(⟨v1,v19,v24⟩:Bg)]:List Bg)) (Eq.refl v12.length) c1_ (Cv 5 37006 Om (default:Bg) v12 ([(⟨v1,v19,v24⟩:Bg)]:List Bg)) (Bs v12 ([(⟨v1,v19,v24⟩:Bg)]:List Bg))) (tS h (gK (e:=.normal) (H7 EV (Le.refl _ _)))))
def Q93:List NL:=[(2,zP)]
def Qw(a2:A2):Option qk:=
 ((Sc a2).bind λx1=>(bif (!x1) then(some ([]:List Ho)) else((Ra a2).bind λx2=>(some x2))))
theorem WC(h:Qw v6=some v21):sP 187 [(UU v6)] [] (sq v21) []:=
 sG Tryz.func187 λΓ q=>gR q [1] [1] Q93 [] (c1 (Bd 2 Br ((0:Int),(0:Int)))) (tB h λx1 y1 h=>tT q [1,5] [1] [(Z7 x1)] (c1 (BZ y1)) (gC h (λh=>gR q [2] [] Q93 [] (c1 (Bd 2 Br ((0:Int),(0:Int)))) (O8 (⟨Q93,[],[]⟩:St) (tS h (gK (e:=.ret) (H7 [] (show Le Γ _ (⟨[(2,(AV.list 2 Br ((0:Int),(0:Int)) ([]:List Ho) .none))],[],[]⟩:St) from Le.trans (A8 (st':=⟨Q93,[],[]⟩) [2] [] q) (Gw (.cons AVle.untag .nil) .nil))))))) λh=>tB h λx2 y2 h=>tT q [2] [] [(lE x2)] (c1 (FG y2)) (tS h (Bq []))))
abbrev ql:=(LR (Int×Ao×Int×List Ab×Int×Ao×List Bg) (Ao×Int×List Ab×Int×Ao×List Bg))
def D2(a3:TFunc)(a8:List Pg)(i1:Int)(i21:Int):Te->Option ql:=
 λ((i35,l36,i37,l38,i39,l40,l41):Te)=>(bif (decide (i35<(((((a3.Blocks.getD i1.toNat default).Phis).getD i21.toNat default).Args).length:Int))) then(Aw (As i35 ((((a3.Blocks.getD i1.toNat default).Phis).getD i21.toNat default).Args).length) ((D8 ((((a3.Blocks.getD i1.toNat default).Phis).getD i21.toNat default).Bits)).bind λx49=>(Aw (As i35 ((((a3.Blocks.getD i1.toNat default).Phis).getD i21.toNat default).From).length) ((Gq (((((a3.Blocks.getD i1.toNat default).Phis).getD i21.toNat default).From).getD i35.toNat 0) (⟨l36,i37,l38⟩:TFunc) i39 l40 a8 l41).bind λx51=>((Es (((((a3.Blocks.getD i1.toNat default).Phis).getD i21.toNat default).Args).getD i35.toNat 0) x49 x51.1 x51.2.1 x51.2.2.1 x51.2.2.2.1 a8 x51.2.2.2.2).bind λx52=>(some (.next ((w64 (i35+1)),x52.1.Params,x52.1.Ret,x52.1.Blocks,x52.2.1,x52.2.2.1,x52.2.2.2)))))))) else(some (.done (l36,i37,l38,i39,l40,l41))))
def D3(a3:TFunc)(a8:List Pg)(i1:Int):Te->Option ql:=
 λ((i21,l22,i23,l24,i25,l26,l27):Te)=>(bif (decide (i21<(((a3.Blocks.getD i1.toNat default).Phis).length:Int))) then(Aw (As i21 ((a3.Blocks.getD i1.toNat default).Phis).length) ((Ad (D2 a3 a8 i1 i21) ((0:Int),l22,i23,l24,i25,l26,l27)).bind (λ(l42,i43,l44,i45,l46,l47)=>(some (.next ((w64 (i21+1)),l42,i43,l44,i45,l46,l47)))))) else(some (.done (l22,i23,l24,i25,l26,l27))))
def D4(a3:TFunc)(a8:List Pg)(i1:Int)(i57:Int)(x71:List LJ):Te->Option ql:=
 λ((i72,l73,i74,l75,i76,l77,l78):Te)=>(bif (decide (i72<(x71.length:Int))) then(Aw (As i72 x71.length) (Aw (As i72 ((((a3.Blocks.getD i1.toNat default).Ops).getD i57.toNat default).Args).length) ((Es (((((a3.Blocks.getD i1.toNat default).Ops).getD i57.toNat default).Args).getD i72.toNat 0) (x71.getD i72.toNat ((0:Int),(0:Int))) (⟨i1,i57⟩:L8) (⟨l73,i74,l75⟩:TFunc) i76 l77 a8 l78).bind λx87=>(some (.next ((w64 (i72+1)),x87.1.Params,x87.1.Ret,x87.1.Blocks,x87.2.1,x87.2.2.1,x87.2.2.2)))))) else(some (.done (l73,i74,l75,i76,l77,l78))))
def D5(a3:TFunc)(a8:List Pg)(i1:Int):Te->Option ql:=
 λ((i57,l58,i59,l60,i61,l62,l63):Te)=>(bif (decide (i57<(((a3.Blocks.getD i1.toNat default).Ops).length:Int))) then(Aw (As i57 ((a3.Blocks.getD i1.toNat default).Ops).length) ((Qw (((a3.Blocks.getD i1.toNat default).Ops).getD i57.toNat default)).bind λx71=>((Ad (D4 a3 a8 i1 i57 x71) ((0:Int),l58,i59,l60,i61,l62,l63)).bind (λ(l79,i80,l81,i82,l83,l84)=>(some (.next ((w64 (i57+1)),l79,i80,l81,i82,l83,l84))))))) else(some (.done (l58,i59,l60,i61,l62,l63))))
def D6(a3:TFunc)(a8:List Pg):Te->Option ql:=
 λ((i1,l2,i3,l4,i5,l6,l7):Te)=>(bif (decide (i1<(a3.Blocks.length:Int))) then(Option.bind (α:=(Ao×Int×List Ab×Int×Ao×List Bg)) (Aw (As i1 a3.Blocks.length) ((Ad (D3 a3 a8 i1) ((0:Int),l2,i3,l4,i5,l6,l7)).bind (λx55=>(match x55 with|(l28,i29,l30,i31,l32,l33)=>((Ad (D5 a3 a8 i1) ((0:Int),l28,i29,l30,i31,l32,l33)).bind (λx90=>(match x90 with|(l64,i65,l66,i67,l68,l69)=>(bif (((a3.Blocks.getD i1.toNat default).End.Kind:Int)==0) then((D8 i65).bind λx92=>((Gq i1 (⟨l64,i65,l66⟩:TFunc) i67 l68 a8 l69).bind λx93=>((Es ((a3.Blocks.getD i1.toNat default).End.Arg) x92 x93.1 x93.2.1 x93.2.2.1 x93.2.2.2.1 a8 x93.2.2.2.2).bind λx94=>(some (x94.1.Params,x94.1.Ret,x94.1.Blocks,x94.2.1,x94.2.2.1,x94.2.2.2))))) else(bif (((a3.Blocks.getD i1.toNat default).End.Kind:Int)==2) then((D8 (1:Int)).bind λx95=>((Gq i1 (⟨l64,i65,l66⟩:TFunc) i67 l68 a8 l69).bind λx96=>((Es ((a3.Blocks.getD i1.toNat default).End.Arg) x95 x96.1 x96.2.1 x96.2.2.1 x96.2.2.2.1 a8 x96.2.2.2.2).bind λx97=>(some (x97.1.Params,x97.1.Ret,x97.1.Blocks,x97.2.1,x97.2.2.1,x97.2.2.2))))) else(some (l64,i65,l66,i67,l68,l69))))))))))) (λx98=>(match x98 with|(l14,i15,l16,i17,l18,l19)=>(some (.next ((w64 (i1+1)),l14,i15,l16,i17,l18,l19)))))) else(some (.done (l2,i3,l4,i5,l6,l7))))
def Q95(a3:TFunc)(i1:Int):=(a3.Blocks.getD i1.toNat default)
def vL(a8:List Pg):=(Dw (λ(v_:Ax)=>((Xq v_):AV)) a8)
def Ia(a3:TFunc)(a5:Int)(a7:Ao)(a8:List Pg)(aA:List Bg):Option vB:=
 ((Ad (D6 a3 a8) ((0:Int),a3.Params,a3.Ret,a3.Blocks,a5,a7,aA)).bind (λ(l8,i9,l10,i11,l12,l13)=>(some ((⟨l8,i9,l10⟩:TFunc),i11,l12,l13))))
theorem Wc(h:Ia v0 v1 v2 v25 v12=some v29):sP 151 [Wt] [(Z1 v0.Params v0.Ret v0.Blocks v1 v2 9100005 v12),(M2 37006 198 v12.length),(9100005,.obj (.map false .i64 (Dw (λ(v_:Ax)=>((Xq v_):AV)) v25)))] (.tuple []) [(Z1 v29.1.Params v29.1.Ret v29.1.Blocks v29.2.1 v29.2.2.1 9100005 v29.2.2.2),(M2 37006 198 v29.2.2.2.length),(9100005,.obj (.map false .i64 (Dw (λ(v_:Ax)=>((Xq v_):AV)) v25)))]:=
 sG Tryz.func151 λΓ q=>Ae q LS I4 (tL q h LS I4 (λu (i1,l2,i3,l4,i5,l6,l7)=>(Cn u [(18,(Z6 i1))] (ZL l2 i3 l4 i5 l6 l7 l7.length))) (λu (l8,i9,l10,i11,l12,l13)=>aG Γ (.exit 0) (Ng [] I4 u [] (ZL l8 i9 l10 i11 l12 l13 l13.length))) (λ⟨i1,l2,i3,l4,i5,l6,l7⟩ y h=>Ae q [0,16,17,18,19] I4 (gC h (λh=>tB h λx98 y98 h=>gJ y98 (λ(l14,i15,l16,i17,l18,l19)=>aG Γ .normal (⟨[(0,Wt),(16,(VD v0.Blocks)),(17,(JT v0.Blocks.length)),(18,(Z6 i1))],(Z8 l14 i15 l16 i17 l18 l19 l19.length (vL v25)),[]⟩:St)) (λy h=>tV q en Tg h λh=>Ae q eg Tg (tL q h eg Tg (λu (i21,l22,i23,l24,i25,l26,l27)=>(Cn u [(26,(Z6 i21))] (ZL l22 i23 l24 i25 l26 l27 l27.length))) (λu (l28,i29,l30,i31,l32,l33)=>aG Γ (.exit 2) (Ng en Tg u [] (ZL l28 i29 l30 i31 l32 l33 l33.length))) (λ⟨i21,l22,i23,l24,i25,l26,l27⟩ y h=>Ae q [0,2,3,16,17,18,24,25,26,27] Tg (gC h (λh=>tV q [0,2,3,5,16,17,18,24,25,26] JM h λh=>Ae q kQ JM (tL q h kQ JM (λu (i35,l36,i37,l38,i39,l40,l41)=>(Cn u [(33,(Z6 i35))] (ZL l36 i37 l38 i39 l40 l41 l41.length))) (λu (l42,i43,l44,i45,l46,l47)=>aG Γ (.exit 4) (Ng eg Tg u [] (ZL l42 i43 l44 i45 l46 l47 l47.length))) (λ⟨i35,l36,i37,l38,i39,l40,l41⟩ y h=>Ae q [0,2,3,5,16,17,18,24,25,26,31,32,33,34] JM (gC h (λh=>tV q [0,2,3,5,6,7,16,17,18,24,25,26,31,32,33] JM h λh=>tB h λx49 y49 h=>tC h λc50_ h=>tB h λx51 y51 h=>tB h λx52 y52 h=>tT q kQ JM [(zT x49),(Z72 x51.1 x51.2.1.Params x51.2.1.Ret x51.2.1.Blocks x51.2.2.1 x51.2.2.2.1 x51.2.2.2.2 x51.2.2.2.2.length (vL v25)),(zO x52.1.Params x52.1.Ret x52.1.Blocks x52.2.1 x52.2.2.1 x52.2.2.2 x52.2.2.2.length (vL v25))] (c4 (Ms y49) c50_ (N2 y51) (K7 y52)) (Ae q kQ JM (tN h))) λh=>tS h (gO (A3 (A8 eg Tg q))))) λx53 h=>(match x53,h with|⟨l42,i43,l44,i45,l46,l47⟩,h=>gA (Ae q eg Tg (tN h))))) λh=>tS h (gO (A3 (A8 en Tg q))))) λx55 h=>(match x55,h with|⟨l28,i29,l30,i31,l32,l33⟩,h=>gA (Ae q eh Tg (tL q h eh Tg (λu (i57,l58,i59,l60,i61,l62,l63)=>(Cn u [(56,(Z6 i57))] (ZL l58 i59 l60 i61 l62 l63 l63.length))) (λu (l64,i65,l66,i67,l68,l69)=>aG Γ (.exit 6) (Ng en Tg u [] (ZL l64 i65 l66 i67 l68 l69 l69.length))) (λ⟨i57,l58,i59,l60,i61,l62,l63⟩ y h=>Ae q [0,2,3,16,17,18,54,55,56,57] Tg (gC h (λh=>tV q [0,2,3,8,9,16,17,18,54,55,56] YT h λh=>tB h λx71 y71 h=>tT q kP YT [(lE x71)] (c1 (WC y71)) (tL q h kP YT (λu (i72,l73,i74,l75,i76,l77,l78)=>(Cn u [(64,(Z6 i72))] (ZL l73 i74 l75 i76 l77 l78 l78.length))) (λu (l79,i80,l81,i82,l83,l84)=>aG Γ (.exit 8) (Ng eh Tg u [] (ZL l79 i80 l81 i82 l83 l84 l84.length))) (λ⟨i72,l73,i74,l75,i76,l77,l78⟩ y h=>Ae q [0,2,3,8,9,16,17,18,54,55,56,62,63,64,65] YT (gC h (λh=>tV q [0,2,3,8,9,10,11,16,17,18,54,55,56,62,63,64] [3,9,11,30000,37006,9100005] h λh=>tC h λc86_ h=>tB h λx87 y87 h=>tT q kP YT [(zO x87.1.Params x87.1.Ret x87.1.Blocks x87.2.1 x87.2.2.1 x87.2.2.2 x87.2.2.2.length (vL v25))] (c2 c86_ (K7 y87)) (Ae q kP YT (tN h))) λh=>tS h (gO (A3 (A8 eh Tg q))))) λx88 h=>(match x88,h with|⟨l79,i80,l81,i82,l83,l84⟩,h=>gA (Ae q eh Tg (tN h))))) λh=>tS h (gO (A3 (A8 en Tg q))))) λx90 h=>(match x90,h with|⟨l64,i65,l66,i67,l68,l69⟩,h=>gA (tW q [0,2,3,16,17,18,84] Tg [0,2,3,16,17,18,84,85] Tg (gC h (λh=>tB h λx92 y92 h=>tB h λx93 y93 h=>tB h λx94 y94 h=>tT q LS I4 [(zT x92),(Z72 x93.1 x93.2.1.Params x93.2.1.Ret x93.2.1.Blocks x93.2.2.1 x93.2.2.2.1 x93.2.2.2.2 x93.2.2.2.2.length (vL v25)),(zO x94.1.Params x94.1.Ret x94.1.Blocks x94.2.1 x94.2.2.1 x94.2.2.2 x94.2.2.2.length (vL v25))] (c3 (Ms y92) (N2 y93) (K7 y94)) (tS h (gK (A3 Gv)))) λh=>Ae q [0,2,3,16,17,18,101] Tg (gC h (λh=>tB h λx95 y95 h=>tB h λx96 y96 h=>tB h λx97 y97 h=>tT q LS I4 [(zT x95),(Z72 x96.1 x96.2.1.Params x96.2.1.Ret x96.2.1.Blocks x96.2.2.1 x96.2.2.2.1 x96.2.2.2.2 x96.2.2.2.2.length (vL v25)),(zO x97.1.Params x97.1.Ret x97.1.Blocks x97.2.1 x97.2.2.1 x97.2.2.2 x97.2.2.2.length (vL v25))] (c3 (Ms y95) (N2 y96) (K7 y97)) (tS h (gK (A3 Gv)))) λh=>tS h (gK (A3 (A8 LS I4 q)))))))))))) (match x98,h with|⟨l14,i15,l16,i17,l18,l19⟩,h=>gA (Ae q LS I4 (tN h)))) λh=>tS h (gO (A3 (A8 [] I4 q))))) λx100 h=>(match x100,h with|⟨l8,i9,l10,i11,l12,l13⟩,h=>mq (λst' hl101=>tS h (gK (e:=.normal) (H7 EV hl101)))))
def Lv(aX:Bg)(a3:TFunc)(a5:Int)(a7:Ao)(a8:List Pg)(aA:List Bg):Option CT:=
 (some ((Kg a8 aX.v),a3,a5,a7,aA))
variable{v30:Bg}
theorem Wf(h:Lv v30 v0 v1 v2 v25 v12=some v23):sP 152 [Wt,(.agg (Om v30))] [(Z1 v0.Params v0.Ret v0.Blocks v1 v2 9100005 v12),(M2 37006 198 v12.length),(9100005,.obj (.map false .i64 (Dw (λ(v_:Ax)=>((Xq v_):AV)) v25)))] (.bool v23.1) [(Z1 v23.2.1.Params v23.2.1.Ret v23.2.1.Blocks v23.2.2.1 v23.2.2.2.1 9100005 v23.2.2.2.2),(M2 37006 198 v23.2.2.2.2.length),(9100005,.obj (.map false .i64 (Dw (λ(v_:Ax)=>((Xq v_):AV)) v25)))]:=
 sG Tryz.func152 λΓ q=>Ae q R4 Tg (gR q [6] I4 [(14,(.tuple [(vP v25 v30.v),(.bool (Kg v25 v30.v))]))] [] (c1 (show(AVle (.tuple [Mh (.agg [Lc,Lc,Lc,Lc]) (Dw (λ(v_:Ax)=>((Xq v_):AV)) v25) v30.v,.bool (Kg (Dw (λ(v_:Ax)=>((Xq v_):AV)) v25) v30.v)]) (.tuple [(vP v25 v30.v),(.bool (Kg v25 v30.v))])) from(dX (f:=(λ(v_:Ax)=>((Xq v_):AV))) (l:=v25) (AVle.refl _) rfl))) (Ae q [4] I4 (tS h (Bq EV))))
def Nu(aX:Bg)(a3:TFunc)(a5:Int)(a7:Ao)(a8:List Pg)(aA:List Bg):Option CT:=
 (some (((((Mh (default:Ax) a8 aX.v).shape.1:Int)==aX.shape.1)&&((((Mh (default:Ax) a8 aX.v).shape.2:Int)==aX.shape.2)&&true)),a3,a5,a7,aA))
theorem Zt(h:Nu v30 v0 v1 v2 v25 v12=some v23):sP 153 [Wt,(.agg (Om v30))] [(Z1 v0.Params v0.Ret v0.Blocks v1 v2 9100005 v12),(M2 37006 198 v12.length),(9100005,.obj (.map false .i64 (Dw (λ(v_:Ax)=>((Xq v_):AV)) v25)))] (.bool v23.1) [(Z1 v23.2.1.Params v23.2.1.Ret v23.2.1.Blocks v23.2.2.1 v23.2.2.2.1 9100005 v23.2.2.2.2),(M2 37006 198 v23.2.2.2.2.length),(9100005,.obj (.map false .i64 (Dw (λ(v_:Ax)=>((Xq v_):AV)) v25)))]:=
 sG Tryz.func153 λΓ q=>Ae q R4 Tg (gR q [4] I4 [(11,(vP v25 v30.v))] [] (c1 (show(AVle (Mh (.agg [Lc,Lc,Lc,Lc]) (Dw (λ(v_:Ax)=>((Xq v_):AV)) v25) v30.v) (vP v25 v30.v)) from(aq (f:=(λ(v_:Ax)=>((Xq v_):AV))) (l:=v25) (AVle.refl _) rfl))) (tS h (Bq EV)))
def Ci(aL:Ao)(aC:Int):Int->Option (LR Int (Unit ⊕ Int)):=
 λ(i1:Int)=>(bif (decide (i1<(aL.length:Int))) then(Aw (As i1 aL.length) (bif (aC==(aL.getD i1.toNat 0)) then(some (.done (.inr i1))) else(some (.next (w64 (i1+1)))))) else(some (.done (.inl ()))))
def Xp(Γ:H6)(aL:Ao)(aC:Int)(r:Int):Exit->St->Prop:=fK Tryz.prog Γ Tryz.f163.results.toList [] (.int .i64 r) []
def Ej(aL:Ao)(aC:Int):Option Int:=
 ((Ad (Ci aL aC) (0:Int)).bind (λx3=>(match x3 with|(.inl _)=>(some (-1:Int))|(.inr r5)=>(some r5))))
theorem P5(h:Ej v2 v1=some v11):sP 163 [(My v2),(Z6 v1)] [] (.int .i64 v11) []:=
 sG Tryz.func163 λΓ q=>tW q Fg [] JP [] (tL q h JP [] (λu i1=>(Cn u [(8,(Z6 i1))] [])) (λu x_=>match x_ with|(.inl _)=>aG Γ (.exit 0) (⟨[],[],[]⟩:St)|(.inr r_)=>aR (Xp Γ v2 v1 r_)) (λi1 y h=>Ae q iv [] (gC h (λh=>Ae q iw [] (tV q iX [] h λh=>gC h (λh=>Ae q [4] [] (tS h (gO (Mp (H7 [] (Le.refl _ _)))))) λh=>Ae q JP [] (tN h))) λh=>tS h (gO (A3 (A8 [] [] q))))) λx3 h=>(match x3,h with | .inl _,h=>gA (Ae q [4] [] (tS h (Bq []))) | .inr r5,h=>gAr (λst' hk=>tS h (gK hk))))
def M0(a9:Ao)(aK:Int):Option Bool:=
 (some (bif (decide ((0:Int)<=aK)) then(decide (aK<(a9.length:Int))) else false))
theorem BS(h:M0 v2 v1=some v3):sP 257 [(My v2),(Z6 v1)] [] (.bool v3) []:=
 sG Tryz.func257 λΓ q=>Ae q Fg [] (tU q [4] [] (Si ((decide ((0:Int)<=v1))==true) (c1 (Na (decide ((0:Int)<=v1))))) (tS h (Bq [])))
def Dm(a9:Ao)(aaF:Int)(aa7:Int):GV->Option (LR (Int×Ao) (Ao ⊕ (Bool×Ao))):=
 λ((i1,l2):GV)=>(bif (i1 !=aa7) then(Aw (As i1 l2.length) (bif ((l2.getD i1.toNat 0)!=0) then(Aw (As i1 l2.length) (some (.done (.inr (((l2.getD i1.toNat 0)!=(w64 (aaF+1))),l2))))) else(Aw (As i1 a9.length) ((M0 a9 (a9.getD i1.toNat 0)).bind λx7=>(bif (!x7) then(some (.done (.inr (false,l2)))) else(Aw (As i1 l2.length) (Aw (As i1 a9.length) (some (.next ((a9.getD i1.toNat 0),(l2.set i1.toNat (w64 (aaF+1))))))))))))) else(some (.done (.inl l2))))
def bw(Γ:H6)(a9:Ao)(aaS:Ao)(aaF:Int)(aa7:Int)(r:qj):Exit->St->Prop:=fK Tryz.prog Γ Tryz.f256.results.toList [(Z4 34001 aaS)] (.bool r.1) [(Z4 34001 r.2)]
def Vs(a9:Ao)(aaS:Ao)(aaF:Int)(aa7:Int):Option qj:=
 ((Ad (Dm a9 aaF aa7) (aaF,aaS)).bind (λx10=>(match x10 with|(.inl l3)=>(some (true,l3))|(.inr r12)=>(some r12))))
variable{v31:qj}
theorem ax(h:Vs v2 v17 v1 v11=some v31):sP 256 [(My v2),(.vsl 34001 v17.length),(Z6 v1),(Z6 v11)] [(Z4 34001 v17)] (.bool v31.1) [(Z4 34001 v31.2)]:=
 sG Tryz.func256 λΓ q=>tW q [0,1,2,3] [34001] [0,1,2,3,9] [34001] (Ae q bf [34001] (tL q h bf [34001] (λu (i1,l2)=>(Cn u [(1,(.vsl 34001 l2.length)),(10,(Z6 i1))] [(Z4 34001 l2)])) (λu x_=>match x_ with|(.inl l3)=>aG Γ (.exit 0) (⟨[],[(Z4 34001 l3)],[]⟩:St)|(.inr r_)=>aR (bw Γ v2 v17 v1 v11 r_)) (λ⟨i1,l2⟩ y h=>Ae q [0,1,3,9,10,16] [34001] (gC h (λh=>tC h λc4_ h=>tU q [0,1,3,9,10,25] [34001] (c2 c4_ (Eq.refl l2.length)) (gC h (λh=>tC h λc5_ h=>tU q [8] [34001] (c2 c5_ (Eq.refl l2.length)) (tS h (gO (Mp (H7 il (Le.refl _ _)))))) λh=>tC h λc6_ h=>tB h λx7 y7 h=>tT q [0,1,3,9,10,38] [34001] [(Z7 x7)] (c2 c6_ (BS y7)) (gC h (λh=>Ae q [8] [34001] (tS h (gO (Mp (H7 il (Le.refl _ _)))))) λh=>tC h λc8_ h=>tU q bf [34001] (c2 c8_ (Eq.refl l2.length)) (M3 (Le.trans (Vf 34001 (show ∀ k_,k_<l2.length->AVleL ((λi_=>AV.eraseAll (λn_=>B4 n_ [34001]) ((Fd (λi=>An (l2.getD i 0)) i1.toNat 0 [(.int .i64 (w64 (v1+1)))]) i_)) k_) ((λi=>An ((l2.set i1.toNat (w64 (v1+1))).getD i 0)) k_) from(Bl (D0 ..).symm (λk_ hk_=>(Bn (AV.eraseAll (λn_=>B4 n_ [34001])) ((Hg (λ_ _=>rfl) (J1 c8_) rfl) k_ hk_)).trans rfl)))) (Vg (λ(k_:Nat) u=>(Cn u [(1,(.vsl 34001 k_))] [(34001,.arr 1 3 k_ (λi=>An ((l2.set i1.toNat (w64 (v1+1))).getD i 0)))])) (show l2.length=(l2.set i1.toNat (w64 (v1+1))).length from(D0 ..).symm))) (tV q bf [34001] h λh=>tN h))))) λh=>tS h (gO (A3 (A8 [] [34001] q))))) λx10 h=>(match x10,h with | .inl l3,h=>gA (Ae q [8] [34001] (tS h (Bq il))) | .inr r12,h=>gAr (λst' hk=>tS h (gK hk)))))
def Gx(a9:Ao)(x1:Int):GV->Option (LR (Int×Ao) (Unit ⊕ Bool)):=
 λ((i3,l4):GV)=>(bif (decide (i3<(a9.length:Int))) then(Aw (As i3 a9.length) ((bif (((a9.getD i3.toNat 0)!=-2)==true) then Vs a9 l4 i3 x1 else some (false,[])).bind λx6=>(Aw ((((a9.getD i3.toNat 0)!=-2)==true)=true->(l4.length=x6.2.length)) (bif (bif ((a9.getD i3.toNat 0)!=-2) then(!x6.1) else false) then(some (.done (.inr false))) else(some (.next ((w64 (i3+1)),(bif (((a9.getD i3.toNat 0)!=-2)==true) then x6.2 else l4)))))))) else(some (.done (.inl ()))))
def ZC(Γ:H6)(a9:Ao)(r:Bool):Exit->St->Prop:=fK Tryz.prog Γ Tryz.f247.results.toList [] (.bool r) []
def rP(a9:Ao)(i3:Int):=(((a9.getD i3.toNat 0)!=-2)==true)
def Tw(a9:Ao):Option Bool:=
 ((Ej a9 (-1:Int)).bind λx1=>(bif (decide (x1<0)) then(some false) else(Aw (0<=(a9.length:Int)/\(a9.length:Int)<=(a9.length:Int)/\(a9.length:Int)<=(room:Int)) ((Ad (Gx a9 x1) ((0:Int),(List.replicate (a9.length:Int).toNat (0:Int)))).bind (λx8=>(match x8 with|(.inl _)=>(some true)|(.inr r10)=>(some r10)))))))
theorem VW(h:Tw v2=some v3):sP 247 [(My v2)] [] (.bool v3) []:=
 sG Tryz.func247 λΓ q=>Ae q [0] [] (tB h λx1 y1 h=>tT q R4 [] [(JS x1)] (c1 (P5 y1)) (Ae q [0,3,9] [] (gC h (λh=>Ae q [2] [] (tS h (Bq []))) λh=>tV q Tq [12] h λh=>by exact M3 (Le.trans (Vf 12 (show ∀ k_,k_<((v2.length:Int).toNat)->AVleL ((λi_=>AV.eraseAll (λn_=>B4 n_ [12]) ((λ_=>[Lc]) i_)) k_) ((λi=>An ((List.replicate (v2.length:Int).toNat (0:Int)).getD i 0)) k_) from(λk hk=>Rd (e:=An) (d:=(0:Int)) (.cons (AVle.refl _) .nil) _ k (Rk hk)))) (Vg (λ(k_:Nat) u=>(Cn u [(4,(.vsl 12 k_))] [(12,.arr 1 3 k_ (λi=>An ((List.replicate (v2.length:Int).toNat (0:Int)).getD i 0)))])) (show(v2.length:Int).toNat=(List.replicate (v2.length:Int).toNat (0:Int)).length from(S3 ..).symm))) (Ae q ii [12] (tL q h ii [12] (λu (i3,l4)=>(Cn u [(4,(.vsl 12 l4.length)),(15,(Z6 i3))] [(Z4 12 l4)])) (λu x_=>match x_ with|(.inl _)=>aG Γ (.exit 0) (⟨[],[],[]⟩:St)|(.inr r_)=>aR (ZC Γ v2 r_)) (λ⟨i3,l4⟩ y h=>Ae q [0,3,4,14,15,16] [12] (gC h (λh=>Ae q [0,3,4,5,14,15] [12] (tC h λc5_ h=>tB h λx6 y6 h=>tC h λc7_ h=>tT q [0,3,4,14,15,30] [12] [⟨[(12,34001)],[],(.bool x6.1),[(Z4 34001 x6.2)],[],[]⟩] (ci c5_ (QL (rP v2 i3) (c3 (λ(hg:(rP v2 i3)=true)=>(ax (Ba hg y6))) (gI (rP v2 i3)) (Na ((v2.getD i3.toNat 0)!=-2))))) (M3 (Le.trans (Vf 12 (show ∀ k_,k_<(bif (rP v2 i3) then x6.2.length else l4.length)->AVleL ((λi_=>AV.eraseAll (λn_=>B4 n_ [12]) ((λi=>bif (rP v2 i3) then(λi=>An (x6.2.getD i 0)) i else(λi=>An (l4.getD i 0)) i) i_)) k_) ((λi=>An ((bif (rP v2 i3) then x6.2 else l4).getD i 0)) k_) from(Bl jT (λk_ hk_=>(Bn (AV.eraseAll (λn_=>B4 n_ [12])) ((λ_ _=>s9) k_ hk_)).trans rfl)))) (Le.trans (Vg (λ(k_:Nat) u=>(Cn u [] [(12,.arr 1 3 k_ (λi=>An ((bif (rP v2 i3) then x6.2 else l4).getD i 0)))])) (show(bif (rP v2 i3) then x6.2.length else l4.length)=(bif (rP v2 i3) then x6.2 else l4).length from jT)) (Vg (λ(k_:Nat) u=>(Cn u [(4,(.vsl 12 k_))] [])) (show l4.length=(bif (rP v2 i3) then x6.2 else l4).length from(tA c7_))))) (gC h (λh=>Ae q [2] [] (tS h (gO (Mp (H7 [] (Le.refl _ _)))))) λh=>Ae q ii [12] (tN h))))) λh=>tS h (gO (A3 (A8 [] [] q))))) λx8 h=>(match x8,h with | .inl _,h=>gA (Ae q [2] [] (tS h (Bq []))) | .inr r10,h=>gAr (λst' hk=>tS h (gK hk))))))))
def Nw(a9:Ao)(aK:Int):Option Bool:=
 ((M0 a9 aK).bind λx1=>(Aw ((x1==true)=true->(As aK a9.length)) (some (bif x1 then((a9.getD aK.toNat 0)!=-2) else false))))
theorem Y7(h:Nw v2 v1=some v3):sP 248 [(My v2),(Z6 v1)] [] (.bool v3) []:=
 sG Tryz.func248 λΓ q=>Ae q Fg [] (tB h λx1 y1 h=>tC h λc2_ h=>tT q [4] [] [(Z7 x1)] (ci (BS y1) (Kb (x1==true) (ci c2_ (Kb (x1==true) (c1 (Na x1)))))) (tS h (Bq [])))
def Vr(a9:Ao)(aN:Int)(aP:Int):Option Bool:=
 ((Tw a9).bind λx1=>((bif (x1==true) then Nw a9 aN else some false).bind λx2=>((bif ((bif x1 then x2 else false)==true) then Nw a9 aP else some false).bind λx3=>(some (bif (bif x1 then x2 else false) then x3 else false)))))
theorem aw(h:Vr v2 v1 v11=some v3):sP 211 [(My v2),(Z6 v1),(Z6 v11)] [] (.bool v3) []:=
 sG Tryz.func211 λΓ q=>Ae q UJ [] (tB h λx1 y1 h=>tB h λx2 y2 h=>tB h λx3 y3 h=>tT q [6] [] [(Z7 x1),(Z7 x2),(Z7 x3)] (ci (VW y1) (Kb (x1==true) (QD (λ(hg:(x1==true)=true)=>(Y7 (Ba hg y2))) (Na x1) (Kb ((bif x1 then x2 else false)==true) (c2 (λ(hg:((bif x1 then x2 else false)==true)=true)=>(Y7 (Ba hg y3))) (Na (bif x1 then x2 else false))))))) (tS h (Bq [])))
def X4(a9:Ao)(aN:Int)(aP:Int):Option Bool:=
 ((Vr a9 aN aP).bind λx1=>((bif (x1==true) then Sb a9 aN aP else some (0:Int)).bind λx2=>(some (bif x1 then(x2==aN) else false))))
theorem dg(h:X4 v2 v1 v11=some v3):sP 188 [(My v2),(Z6 v1),(Z6 v11)] [] (.bool v3) []:=
 sG Tryz.func188 λΓ q=>Ae q UJ [] (tB h λx1 y1 h=>tB h λx2 y2 h=>tT q [6] [] [(Z7 x1),(JS x2)] (ci (aw y1) (Si (x1==true) (ci (λ(hg:(x1==true)=true)=>(MV (Ba hg y2))) (Kb (x1==true) (c1 (Na x1)))))) (tS h (Bq [])))
def Ic(aX:Bg)(a3:TFunc)(a5:Int)(a7:Ao)(a8:List Pg)(aA:List Bg):Option CT:=
 (bif (((Mh (default:Ax) a8 aX.v).place.block:Int)==aX.place.block) then(some ((decide (((Mh (default:Ax) a8 aX.v).place.at_:Int)<aX.place.at_)),a3,a5,a7,aA)) else((X4 a7 ((Mh (default:Ax) a8 aX.v).place.block) aX.place.block).bind λx1=>(some (x1,a3,a5,a7,aA))))
theorem We(h:Ic v30 v0 v1 v2 v25 v12=some v23):sP 154 [Wt,(.agg (Om v30))] [(Z1 v0.Params v0.Ret v0.Blocks v1 v2 9100005 v12),(M2 37006 198 v12.length),(9100005,.obj (.map false .i64 (Dw (λ(v_:Ax)=>((Xq v_):AV)) v25)))] (.bool v23.1) [(Z1 v23.2.1.Params v23.2.1.Ret v23.2.1.Blocks v23.2.2.1 v23.2.2.2.1 9100005 v23.2.2.2.2),(M2 37006 198 v23.2.2.2.2.length),(9100005,.obj (.map false .i64 (Dw (λ(v_:Ax)=>((Xq v_):AV)) v25)))]:=
 sG Tryz.func154 λΓ q=>Ae q R4 Tg (gR q [0,3,5] JM [(12,(vP v25 v30.v))] [] (c1 (show(AVle (Mh (.agg [Lc,Lc,Lc,Lc]) (Dw (λ(v_:Ax)=>((Xq v_):AV)) v25) v30.v) (vP v25 v30.v)) from(aq (f:=(λ(v_:Ax)=>((Xq v_):AV))) (l:=v25) (AVle.refl _) rfl))) (Ae q [0,3,5,19] JM (gC h (λh=>Ae q [4] I4 (tS h (Bq EV))) λh=>tB h λx1 y1 h=>tT q [4] I4 [(Z7 x1)] (c1 (dg y1)) (tS h (Bq EV)))))
abbrev xl:=(LR (Int×Ao×Int×List Ab×Int×Ao×List Bg) ((Ao×Int×List Ab×Int×Ao×List Bg) ⊕ (Ao×Int×List Ab×Int×Ao×List Bg)))
def Fo(a8:List Pg)(x8:vB):Te->Option xl:=
 λ((i9,l10,i11,l12,i13,l14,l15):Te)=>(bif (decide (i9<(x8.2.2.2.length:Int))) then(Aw (As i9 x8.2.2.2.length) ((Lv (x8.2.2.2.getD i9.toNat default) (⟨l10,i11,l12⟩:TFunc) i13 l14 a8 l15).bind λx29=>(bif (!x29.1) then(some (.done (.inr (x29.2.1.Params,x29.2.1.Ret,x29.2.1.Blocks,x29.2.2.1,x29.2.2.2.1,x29.2.2.2.2)))) else(some (.next ((w64 (i9+1)),x29.2.1.Params,x29.2.1.Ret,x29.2.1.Blocks,x29.2.2.1,x29.2.2.2.1,x29.2.2.2.2)))))) else(some (.done (.inl (l10,i11,l12,i13,l14,l15)))))
def Fp(a8:List Pg)(l21:List Bg):Te->Option xl:=
 λ((i32,l33,i34,l35,i36,l37,l38):Te)=>(bif (decide (i32<(l21.length:Int))) then(Aw (As i32 l21.length) ((Nu (l21.getD i32.toNat default) (⟨l33,i34,l35⟩:TFunc) i36 l37 a8 l38).bind λx52=>(bif (!x52.1) then(some (.done (.inr (x52.2.1.Params,x52.2.1.Ret,x52.2.1.Blocks,x52.2.2.1,x52.2.2.2.1,x52.2.2.2.2)))) else(some (.next ((w64 (i32+1)),x52.2.1.Params,x52.2.1.Ret,x52.2.1.Blocks,x52.2.2.1,x52.2.2.2.1,x52.2.2.2.2)))))) else(some (.done (.inl (l33,i34,l35,i36,l37,l38)))))
def Fq(a8:List Pg)(l44:List Bg):Te->Option xl:=
 λ((i55,l56,i57,l58,i59,l60,l61):Te)=>(bif (decide (i55<(l44.length:Int))) then(Aw (As i55 l44.length) ((Ic (l44.getD i55.toNat default) (⟨l56,i57,l58⟩:TFunc) i59 l60 a8 l61).bind λx75=>(bif (!x75.1) then(some (.done (.inr (x75.2.1.Params,x75.2.1.Ret,x75.2.1.Blocks,x75.2.2.1,x75.2.2.2.1,x75.2.2.2.2)))) else(some (.next ((w64 (i55+1)),x75.2.1.Params,x75.2.1.Ret,x75.2.1.Blocks,x75.2.2.1,x75.2.2.2.1,x75.2.2.2.2)))))) else(some (.done (.inl (l56,i57,l58,i59,l60,l61)))))
def P2 :Te->Option (LR (Int×Ao×Int×List Ab×Int×Ao×List Bg) (Int×TFunc×Int×Ao×List Bg)):=
 λ(s_:Te)=>match s_ with|(i1,l2,i3,l4,i5,l6,l7)=>(some (.done (i1,(⟨l2,i3,l4⟩:TFunc),i5,l6,l7)))
def AL(Γ:H6)(a3:TFunc)(a5:Int)(a7:Ao)(a8:List Pg)(aA:List Bg)(r:mc):Exit->St->Prop:=fK Tryz.prog Γ Tryz.f91.results.toList [(Z1 a3.Params a3.Ret a3.Blocks a5 a7 9100005 aA),(M2 37006 198 aA.length),(9100005,.obj (.map false .i64 (Dw (λ(v_:Ax)=>((Xq v_):AV)) a8)))] (Z6 r.1) [(Z1 r.2.1.Params r.2.1.Ret r.2.1.Blocks r.2.2.1 r.2.2.2.1 9100005 r.2.2.2.2),(M2 37006 198 r.2.2.2.2.length),(9100005,.obj (.map false .i64 (Dw (λ(v_:Ax)=>((Xq v_):AV)) a8)))]
def zJ(a8:List Pg):=(Dw (λ(v_:Ax)=>((Xq v_):AV)) a8)
def Ko(a3:TFunc)(a5:Int)(a7:Ao)(a8:List Pg)(aA:List Bg):Option mc:=
 ((Tc (S:=Te) (X:=mc) ((Ia a3 a5 a7 a8 aA).bind λx8=>((Ad (Fo a8 x8) ((0:Int),x8.1.Params,x8.1.Ret,x8.1.Blocks,x8.2.1,x8.2.2.1,x8.2.2.2)).bind (λx30=>(match x30 with|(.inl (l16,i17,l18,i19,l20,l21))=>((Ad (Fp a8 l21) ((0:Int),l16,i17,l18,i19,l20,l21)).bind (λx53=>(match x53 with|(.inl (l39,i40,l41,i42,l43,l44))=>((Ad (Fq a8 l44) ((0:Int),l39,i40,l41,i42,l43,l44)).bind (λx76=>(match x76 with|(.inl (l62,i63,l64,i65,l66,l67))=>(some (.done ((0:Int),(⟨l62,i63,l64⟩:TFunc),i65,l66,l67)))|(.inr (l68,i69,l70,i71,l72,l73))=>(some (.next ((7:Int),l68,i69,l70,i71,l72,l73))))))|(.inr (l45,i46,l47,i48,l49,l50))=>(some (.next ((6:Int),l45,i46,l47,i48,l49,l50))))))|(.inr (l22,i23,l24,i25,l26,l27))=>(some (.next ((7:Int),l22,i23,l24,i25,l26,l27))))))) P2).bind (λx81=>(some x81)))
theorem Zv(h:Ko v0 v1 v2 v25 v12=some v13):sP 91 [Wt] [(Z1 v0.Params v0.Ret v0.Blocks v1 v2 9100005 v12),(M2 37006 198 v12.length),(9100005,.obj (.map false .i64 (Dw (λ(v_:Ax)=>((Xq v_):AV)) v25)))] (Z6 v13.1) [(Z1 v13.2.1.Params v13.2.1.Ret v13.2.1.Blocks v13.2.2.1 v13.2.2.2.1 9100005 v13.2.2.2.2),(M2 37006 198 v13.2.2.2.2.length),(9100005,.obj (.map false .i64 (Dw (λ(v_:Ax)=>((Xq v_):AV)) v25)))]:=
 sG Tryz.func91 λΓ q=>Ae q [0] I4 (tB h λx81 y81 h=>gS y81 (λ(s_:Te)=>match s_ with|(i1,l2,i3,l4,i5,l6,l7)=>0) (λ(s_:Te)=>match s_ with|(i1,l2,i3,l4,i5,l6,l7)=>(⟨[(4,(Z6 i1))],(Z8 l2 i3 l4 i5 l6 l7 l7.length (zJ v25)),[]⟩:St)) (λr_=>aR (AL Γ v0 v1 v2 v25 v12 r_)) (λy h=>tB h λx8 y8 h=>tT q [0] I4 [(zO x8.1.Params x8.1.Ret x8.1.Blocks x8.2.1 x8.2.2.1 x8.2.2.2 x8.2.2.2.length (zJ v25))] (c1 (Wc y8)) (tW q R4 Tg R4 Tg (Ae q FV I4 (gU 3 (Ae q bj I4 (bv true (tU q jD Wo (c1 (show(As (0:Int) 3) from(by decide))) (tW q ij Wo JN Wo (tL q h JN Wo (λu (i9,l10,i11,l12,i13,l14,l15)=>(Cn u [(32,(Z6 i9))] (ZL l10 i11 l12 i13 l14 l15 l15.length))) (λu x_=>match x_ with|(.inl (l16,i17,l18,i19,l20,l21))=>aG Γ (.exit 2) (Ng FV I4 u [] (ZL l16 i17 l18 i19 l20 l21 l21.length))|(.inr (l22,i23,l24,i25,l26,l27))=>aG Γ (.goto 0) (Ng [4] I4 u [] (ZL l22 i23 l24 i25 l26 l27 l27.length))) (λ⟨i9,l10,i11,l12,i13,l14,l15⟩ y h=>Ae q rK Wo (gC h (λh=>tV q iM iO h λh=>tB h λx29 y29 h=>tT q rL Wo [(Z94 x29.1 x29.2.1.Params x29.2.1.Ret x29.2.1.Blocks x29.2.2.1 x29.2.2.2.1 x29.2.2.2.2 x29.2.2.2.2.length (zJ v25))] (c1 (Wf y29)) (gC h (λh=>tS h (gO (A3 (A8 [4] I4 q)))) λh=>Ae q JN Wo (tN h))) λh=>tS h (gO (A3 (A8 FV I4 q))))) λx30 h=>(match x30,h with | .inl ⟨l16,i17,l18,i19,l20,l21⟩,h=>gA (tW q FV I4 bj I4 (bv true (tU q jD Wo (c1 (show(As (1:Int) 3) from(by decide))) (tW q ij Wo JN Wo (tL q h JN Wo (λu (i32,l33,i34,l35,i36,l37,l38)=>(Cn u [(32,(Z6 i32))] (ZL l33 i34 l35 i36 l37 l38 l38.length))) (λu x_=>match x_ with|(.inl (l39,i40,l41,i42,l43,l44))=>aG Γ (.exit 2) (Ng FV I4 u [] (ZL l39 i40 l41 i42 l43 l44 l44.length))|(.inr (l45,i46,l47,i48,l49,l50))=>aG Γ (.goto 0) (Ng [4] I4 u [] (ZL l45 i46 l47 i48 l49 l50 l50.length))) (λ⟨i32,l33,i34,l35,i36,l37,l38⟩ y h=>Ae q rK Wo (gC h (λh=>tV q iM iO h λh=>tB h λx52 y52 h=>tT q rL Wo [(Z94 x52.1 x52.2.1.Params x52.2.1.Ret x52.2.1.Blocks x52.2.2.1 x52.2.2.2.1 x52.2.2.2.2 x52.2.2.2.2.length (zJ v25))] (c1 (Zt y52)) (gC h (λh=>tS h (gO (A3 (A8 [4] I4 q)))) λh=>Ae q JN Wo (tN h))) λh=>tS h (gO (A3 (A8 FV I4 q))))) λx53 h=>(match x53,h with | .inl ⟨l39,i40,l41,i42,l43,l44⟩,h=>gA (tW q FV I4 bj I4 (bv true (tU q jD Wo (c1 (show(As (2:Int) 3) from(by decide))) (tW q ij Wo JN Wo (tL q h JN Wo (λu (i55,l56,i57,l58,i59,l60,l61)=>(Cn u [(32,(Z6 i55))] (ZL l56 i57 l58 i59 l60 l61 l61.length))) (λu x_=>match x_ with|(.inl (l62,i63,l64,i65,l66,l67))=>aG Γ (.exit 2) (Ng FV I4 u [] (ZL l62 i63 l64 i65 l66 l67 l67.length))|(.inr (l68,i69,l70,i71,l72,l73))=>aG Γ (.goto 0) (Ng [4] I4 u [] (ZL l68 i69 l70 i71 l72 l73 l73.length))) (λ⟨i55,l56,i57,l58,i59,l60,l61⟩ y h=>Ae q rK Wo (gC h (λh=>tV q iM iO h λh=>tB h λx75 y75 h=>tT q rL Wo [(Z94 x75.1 x75.2.1.Params x75.2.1.Ret x75.2.1.Blocks x75.2.2.1 x75.2.2.2.1 x75.2.2.2.2 x75.2.2.2.2.length (zJ v25))] (c1 (We y75)) (gC h (λh=>tS h (gO (A3 (A8 [4] I4 q)))) λh=>Ae q JN Wo (tN h))) λh=>tS h (gO (A3 (A8 FV I4 q))))) λx76 h=>(match x76,h with | .inl ⟨l62,i63,l64,i65,l66,l67⟩,h=>gA (tW q FV I4 bj I4 (bv false (Ae q [2] I4 (tS h (mr (Mp (H7 EV (Le.refl _ _)))))))) | .inr ⟨l68,i69,l70,i71,l72,l73⟩,h=>mq (λst' hl78=>tS h (oz (Le.trans hl78 Gv))))))))) | .inr ⟨l45,i46,l47,i48,l49,l50⟩,h=>mq (λst' hl79=>tS h (oz (Le.trans hl79 Gv))))))))) | .inr ⟨l22,i23,l24,i25,l26,l27⟩,h=>mq (λst' hl80=>tS h (oz (Le.trans hl80 Gv))))))))))))) (λ⟨i1,l2,i3,l4,i5,l6,l7⟩ y h=>Ae q [2] I4 (tS h (mr (Mp (H7 EV (Le.refl _ _)))))) (gAr (λst' hk=>tS h (gK hk))))
def m9:=(λ(v_:Ax)=>((Xq v_):AV))
def yH(x1:mc):List OQ:=(Z3 x1.2.1.Params x1.2.1.Ret x1.2.1.Blocks x1.2.2.1 x1.2.2.2.1 x1.2.2.2.2 x1.2.2.2.2.length)
def yI(x2:mc):List OQ:=(Z3 x2.2.1.Params x2.2.1.Ret x2.2.1.Blocks x2.2.2.1 x2.2.2.2.1 x2.2.2.2.2 x2.2.2.2.2.length)
def yJ(x3:mc):List OQ:=(Z3 x3.2.1.Params x3.2.1.Ret x3.2.1.Blocks x3.2.2.1 x3.2.2.2.1 x3.2.2.2.2 x3.2.2.2.2.length)
def J4(a3:TFunc)(a5:Int)(a7:Ao)(aA:List Bg):Option vA:=
 ((Kn a3 a5 a7 aA).bind λx1=>(bif (x1.1 !=0) then(some (x1.1,x1.2.1,x1.2.2.1,x1.2.2.2.1,x1.2.2.2.2,([]:List Pg))) else((Ja x1.2.1 x1.2.2.1 x1.2.2.2.1 x1.2.2.2.2).bind λx2=>(bif (x2.1 !=0) then(some (x2.1,x2.2.1,x2.2.2.1,x2.2.2.2.1,x2.2.2.2.2,([]:List Pg))) else((J3 x2.2.1 x2.2.2.1 x2.2.2.2.1 x2.2.2.2.2).bind λx3=>(bif (x3.1 !=0) then(some (x3.1,x3.2.1,x3.2.2.1,x3.2.2.2.1,x3.2.2.2.2,([]:List Pg))) else((Ib x3.2.1 x3.2.2.1 x3.2.2.2.1 x3.2.2.2.2).bind λx4=>(bif (x4.1 !=0) then(some (x4.1,x4.2.1,x4.2.2.1,x4.2.2.2.1,x4.2.2.2.2.1,x4.2.2.2.2.2)) else((Ko x4.2.1 x4.2.2.1 x4.2.2.2.1 x4.2.2.2.2.2 x4.2.2.2.2.1).bind λx5=>(bif (x5.1 !=0) then(some (x5.1,x5.2.1,x5.2.2.1,x5.2.2.2.1,x5.2.2.2.2,x4.2.2.2.2.2)) else(some ((0:Int),x5.2.1,x5.2.2.1,x5.2.2.2.1,x5.2.2.2.2,x4.2.2.2.2.2))))))))))))
theorem Ya(h:J4 v0 v1 v2 v12=some v27):sP 50 [Wt] (Z3 v0.Params v0.Ret v0.Blocks v1 v2 v12 v12.length) (Z6 v27.1) [(Z1 v27.2.1.Params v27.2.1.Ret v27.2.1.Blocks v27.2.2.1 v27.2.2.2.1 9200005 v27.2.2.2.2.1),(M2 37006 198 v27.2.2.2.2.1.length),(9200005,.obj (.map false .i64 (Dw (λ(v_:Ax)=>((Xq v_):AV)) v27.2.2.2.2.2)))]:=
 sG Tryz.func50 λΓ q=>tW q [0] I7 [3] TK (Ae q LZ I7 (gU 5 (Ae q LX I7 (bv true (tU q UG I7 (c1 (show(As (0:Int) 5) from(by decide))) (tB h λx1 y1 h=>tT q UH I7 [(sl 37006 x1.1 (yH x1))] (c1 (Zu y1)) (Ae q TP I7 (gC h (λh=>Ae q [2] I7 (O8 (⟨[(2,(Z6 x1.1))],(yH x1),[]⟩:St) (tS h (gK (e:=.ret) (H7 rG (Le.trans (X3 (r:=30000) (j:=5) (nm:=9300005) .i64 rfl rfl (nl rfl) rfl) (A8 (st':=⟨[(2,(Z6 x1.1))],[(Z1 x1.2.1.Params x1.2.1.Ret x1.2.1.Blocks x1.2.2.1 x1.2.2.2.1 9300005 x1.2.2.2.2),(M2 37006 198 x1.2.2.2.2.length),(9300005,.obj (.map false .i64 (Dw m9 ([]:List Pg))))],[]⟩) [2] iS q))))))) λh=>tW q LZ I7 LX I7 (bv true (tU q UG I7 (c1 (show(As (1:Int) 5) from(by decide))) (tB h λx2 y2 h=>tT q UH I7 [(sl 37006 x2.1 (yI x2))] (c1 (W4 y2)) (Ae q TP I7 (gC h (λh=>Ae q [2] I7 (O8 (⟨[(2,(Z6 x2.1))],(yI x2),[]⟩:St) (tS h (gK (e:=.ret) (H7 rG (Le.trans (X3 (r:=30000) (j:=5) (nm:=9300005) .i64 rfl rfl (nl rfl) rfl) (A8 (st':=⟨[(2,(Z6 x2.1))],[(Z1 x2.2.1.Params x2.2.1.Ret x2.2.1.Blocks x2.2.2.1 x2.2.2.2.1 9300005 x2.2.2.2.2),(M2 37006 198 x2.2.2.2.2.length),(9300005,.obj (.map false .i64 (Dw m9 ([]:List Pg))))],[]⟩) [2] iS q))))))) λh=>tW q LZ I7 LX I7 (bv true (tU q UG I7 (c1 (show(As (2:Int) 5) from(by decide))) (tB h λx3 y3 h=>tT q UH I7 [(sl 37006 x3.1 (yJ x3))] (c1 (X9 y3)) (Ae q TP I7 (gC h (λh=>Ae q [2] I7 (O8 (⟨[(2,(Z6 x3.1))],(yJ x3),[]⟩:St) (tS h (gK (e:=.ret) (H7 rG (Le.trans (X3 (r:=30000) (j:=5) (nm:=9300005) .i64 rfl rfl (nl rfl) rfl) (A8 (st':=⟨[(2,(Z6 x3.1))],[(Z1 x3.2.1.Params x3.2.1.Ret x3.2.1.Blocks x3.2.2.1 x3.2.2.2.1 9300005 x3.2.2.2.2),(M2 37006 198 x3.2.2.2.2.length),(9300005,.obj (.map false .i64 (Dw m9 ([]:List Pg))))],[]⟩) [2] iS q))))))) λh=>tW q LZ I7 LX I7 (bv true (tU q UG I7 (c1 (show(As (3:Int) 5) from(by decide))) (tB h λx4 y4 h=>tT q UH Zh [⟨Zg,[(9200005,13000005)],(Z6 x4.1),[(Z1 x4.2.1.Params x4.2.1.Ret x4.2.1.Blocks x4.2.2.1 x4.2.2.2.1 9200005 x4.2.2.2.2.1),(M2 37006 198 x4.2.2.2.2.1.length),(9200005,.obj (.map false .i64 (Dw m9 x4.2.2.2.2.2)))],[],[]⟩] (c1 (Wd y4)) (Ae q TP Zh (gC h (λh=>Ae q [2] Zh (tS h (Bq rF))) λh=>tW q LZ Zh LX Zh (bv true (tU q UG Zh (c1 (show(As (4:Int) 5) from(by decide))) (tB h λx5 y5 h=>tT q UH Zh [⟨[(30000,30000),(37006,37006),(13000005,9100005)],[],(Z6 x5.1),[(Z1 x5.2.1.Params x5.2.1.Ret x5.2.1.Blocks x5.2.2.1 x5.2.2.2.1 9100005 x5.2.2.2.2),(M2 37006 198 x5.2.2.2.2.length),(9100005,.obj (.map false .i64 (Dw m9 x4.2.2.2.2.2)))],[],[]⟩] (c1 (Zv y5)) (Ae q TP Zh (gC h (λh=>Ae q [2] Zh (tS h (Bq rF))) λh=>tW q LZ Zh LX Zh (bv false (Ae q [2] Zh (tS h (Bq rF))))))))))))))))))))))))))))))))
open Go Go.RowKit
set_option maxRecDepth 100000
set_option maxHeartbeats 2000000
def yL(a0:TFunc)(aa0:Int):AV:=(.agg [(My a0.Params),(Z6 a0.Ret),(VD a0.Blocks),(Z6 aa0),jM,.nilm,(AV.list 5 Om default ([]:List Bg) .exact)])
def yK(a0:TFunc)(aa0:Int):=(⟨[VF],[(5,.row 105 [(My a0.Params),(Z6 a0.Ret),(VD a0.Blocks),(Z6 aa0),jM,.nilm,(AV.list 5 Om default ([]:List Bg) .exact)])],[]⟩:St)
def vl(a0:TFunc)(aa0:Int):=(⟨[VF],[(5,.row 105 [(My a0.Params),(Z6 a0.Ret),(VD a0.Blocks),(Z6 aa0),jM,.nilm,(AV.list 5 Om default ([]:List Bg) (.own 50506))]),(50506,.tok 5 198 (([]:List Bg).length))],[]⟩:St)
def Sk(a0:TFunc)(aa0:Int):Option Int:=
 (bif (bif (decide (aa0<0)) then true else(decide ((2:Int)<aa0))) then(some (1:Int)) else((J4 a0 aa0 ([]:Ao) ([]:List Bg)).bind λx1=>(some x1.1)))
theorem RJ(h:Sk v0 v1=some v11):sP 15 [(Y1 v0),(Z6 v1)] [] (.int .i64 v11) []:=
 sG Tryz.func15 λΓ q=>Ae q Nj [2] (tU q [1,2,11] [2] (c2 (gI ((decide (v1<0))==false)) (I9 (decide (v1<0)))) (gC h (λh=>Ae q [4] [] (tS h (Bq []))) λh=>gR q [5] [5] [(14,(yL v0 v1))] [] (c1 (show(AVle (.agg [(My v0.Params),(Z6 v0.Ret),(VD v0.Blocks),(Z6 v1),UT,.nilm,UT]) (yL v0 v1)) from(AVle.agg (.cons (AVle.refl _) (.cons (AVle.refl _) (.cons (AVle.refl _) (.cons (AVle.refl _) (.cons Dv (.cons (AVle.refl _) (.cons Dv .nil)))))))))) (O8 (yK v0 v1) (M3 (show Le Γ _ (vl v0 v1) from Le.trans (A8 (st':=(yK v0 v1)) [5] [5] q) (Le.trans (MQ (r:=5) (j:=6) (nm:=50506) (sz':=5) (λi=>Om (([]:List Bg).getD i default)) 198 rfl rfl (nl rfl) rfl (.inl ⟨rfl,rfl⟩) (λh_=>absurd h_ (by decide))) (A8 (st':=(vl v0 v1)) [5] [5,50506] q))) (M3 (show Le Γ _ (⟨[VF],[(5,.row 105 [(My v0.Params),(Z6 v0.Ret),(VD v0.Blocks),(Z6 v1),(AV.list 1 An 0 ([]:Ao) .none),.nilm,(AV.list 5 Om default ([]:List Bg) (.own 50506))]),(50506,.tok 5 198 (([]:List Bg).length))],[]⟩:St) from Le.trans (A8 (st':=(vl v0 v1)) [5] [5,50506] q) (Gw (.cons (AVle.refl _) .nil) (.row (.cons (AVle.refl _) (.cons (AVle.refl _) (.cons (AVle.refl _) (.cons (AVle.refl _) (.cons AVle.untag (.cons (AVle.refl _) (.cons (AVle.refl _) .nil))))))) (.same .nil)))) (tB h λx1 y1 h=>tT q [4] [] [⟨[(5,30000),(50506,37006)],[(9200005,10000505)],(Z6 x1.1),[(Z1 x1.2.1.Params x1.2.1.Ret x1.2.1.Blocks x1.2.2.1 x1.2.2.2.1 9200005 x1.2.2.2.2.1),(M2 37006 198 x1.2.2.2.2.1.length),(9200005,.obj (.map false .i64 (Dw (λ(v_:Ax)=>((Xq v_):AV)) x1.2.2.2.2.2)))],[],[]⟩] (c1 (Ya y1)) (tS h (Bq []))))))))
def S8(aaU:List Ab)(aaV:Kc)(aK:Int):Option Unit:=
 (some ())
variable{v32:Unit}
theorem KY(h:S8 v10 v14 v1=some v32):sP 76 [(VD v10),(FZ v14),(Z6 v1)] [] (.agg [(Z9 v10 v14 v1),(Z9 v10 v14 v1),(Z9 v10 v14 v1),(.clo 135 [] []),(.clo 135 [] []),(Z9 v10 v14 v1)]) []:=
 sG Tryz.func76 λΓ q=>gR q [3,4,5,6] [6] [(3,(.rpo [])),(4,(.rpo [])),(5,(.rpo []))] [] trivial (tW q Wn [6] [6,7,8] [6] (Ae q [6] [6] (tS h (Bq []))))
def Aa4(a1:List Ab)(aY:Int):=((((a1.getD aY.toNat default).End.Kind:Int)!=1)==false)
def fG(a1:List Ab)(aY:Int):=(bif (((a1.getD aY.toNat default).End.Kind:Int)!=1) then true else(decide ((0:Int)<(((a1.getD aY.toNat default).Phis).length:Int))))
abbrev bR:=(Int×Int×Bool)
def Gh(aY:Int)(a1:List Ab)(aO:Kc)(aZ:Int):Option bR:=
 (Aw (As aY a1.length) (Aw (((bif (((a1.getD aY.toNat default).End.Kind:Int)!=1) then true else(decide ((0:Int)<(((a1.getD aY.toNat default).Phis).length:Int))))==false)=true->(As aY aO.length)) ((bif ((bif (((a1.getD aY.toNat default).End.Kind:Int)!=1) then true else(decide ((0:Int)<(((a1.getD aY.toNat default).Phis).length:Int))))==false) then Ei (aO.getD aY.toNat []) ([aZ]:Ao) else some false).bind λx3=>(bif (bif (bif (((a1.getD aY.toNat default).End.Kind:Int)!=1) then true else(decide ((0:Int)<(((a1.getD aY.toNat default).Phis).length:Int)))) then true else(!x3)) then(some ((-1:Int),(-1:Int),false)) else(Aw (As (0:Int) ((a1.getD aY.toNat default).End.To).length) (some (aY,(((a1.getD aY.toNat default).End.To).getD (0:Int).toNat (0:Int)),true)))))))
variable{v33:bR}
theorem Mj(h:Gh v1 v10 v14 v11=some v33):sP 133 [(Z6 v1),(.rpo [(VD v10)]),(.rpo [(FZ v14)]),(.rpo [(Z6 v11)])] [] (.tuple [(Z6 v33.1),(Z6 v33.2.1),(.bool v33.2.2)]) []:=
 sG Tryz.func133 λΓ q=>Ae q [0,1,2,3] [] (tV q [0,2,3,8] [8] h λh=>tC h λc2_ h=>tB h λx3 y3 h=>gR q [0,8,32] [8] [(29,(ml v11))] [(Z7 x3)] (Si (Aa4 v10 v1) (ci (I9 (((v10.getD v1.toNat default).End.Kind:Int)!=1)) (Kb ((fG v10 v1)==false) (ci c2_ (Kb ((fG v10 v1)==false) (ci (show(((fG v10 v1)==false)=true->(AVle (wb v11) (ml v11))) from(λhg=>@(Az 1 An (0:Int) ([v11]:Ao)))) (Kb ((fG v10 v1)==false) (c3 (λ(hg:((fG v10 v1)==false)=true)=>(Lx (Ba hg y3))) (gI ((fG v10 v1)==false)) (I9 (fG v10 v1)))))))))) (gC h (λh=>Ae q UI [] (tS h (Bq []))) λh=>tV q UI [] h λh=>tS h (Bq [])))
def rf(x2:bR)(x4:bR):=(bif (!x2.2.2) then true else(!x4.2.2))
abbrev TA:=(THammock×Bool)
def Nd(aK:Int)(aa1:Ao)(aaH:List Ab)(aaI:Kc)(aaJ:Int)(aaK:List Ab)(aaL:Kc)(aaM:Int):Option TA:=
 (Aw (As (0:Int) aa1.length) ((Gh (aa1.getD (0:Int).toNat (0:Int)) aaH aaI aaJ).bind λx2=>(Aw (As (1:Int) aa1.length) ((Gh (aa1.getD (1:Int).toNat (0:Int)) aaK aaL aaM).bind λx4=>(bif (bif (bif (bif (!x2.2.2) then true else(!x4.2.2)) then true else(x2.2.1 !=x4.2.1)) then true else(x2.2.1==aK)) then(some ((⟨(0:Int),(0:Int),(0:Int),(0:Int)⟩:THammock),false)) else(some ((⟨aK,x2.1,x4.1,x2.2.1⟩:THammock),true)))))))
variable{v34:List Ab}{v35:TA}
theorem GN(h:Nd v1 v2 v10 v14 v11 v34 v15 v20=some v35):sP 77 [(Z6 v1),(My v2),(.agg [(Z9 v10 v14 v11),(Z9 v34 v15 v20)])] [] (.tuple [(e9 v35.1),(.bool v35.2)]) []:=
 sG Tryz.func77 λΓ q=>Ae q UB [5,6] (tC h λc1_ h=>tB h λx2 y2 h=>tT q iT [5,6] [(yB x2.1 x2.2.1 x2.2.2)] (c3 (show(As (0:Int) 2) from(by decide)) c1_ (Mj y2)) (tC h λc3_ h=>tB h λx4 y4 h=>tT q iP [6] [(yB x4.1 x4.2.1 x4.2.2)] (c3 (show(As (1:Int) 2) from(by decide)) c3_ (Mj y4)) (tU q iW [6] (QD (gI ((!x2.2.2)==false)) (I9 (!x2.2.2)) (Kb ((rf x2 x4)==false) (ci (I9 (rf x2 x4)) (Kb ((bif (rf x2 x4) then true else(x2.2.1 !=x4.2.1))==false) (c1 (I9 (bif (rf x2 x4) then true else(x2.2.1 !=x4.2.1)))))))) (gC h (λh=>Ae q Wn [6] (tS h (Bq []))) λh=>Ae q Wn [6] (tS h (Bq []))))))
def Kv(aY:Int):Option bR:=
 (some ((-1:Int),aY,true))
theorem Us(h:Kv v1=some v33):sP 135 [(Z6 v1)] [] (.tuple [(Z6 v33.1),(Z6 v33.2.1),(.bool v33.2.2)]) []:=
 sG Tryz.func135 λΓ q=>tW q [0] [] [2,3,4] [] (tS h (Bq []))
def rg(x2:bR)(x4:bR):=(bif (!x2.2.2) then true else(!x4.2.2))
def Kt(aK:Int)(aa1:Ao)(aaH:List Ab)(aaI:Kc)(aaJ:Int):Option TA:=
 (Aw (As (0:Int) aa1.length) ((Gh (aa1.getD (0:Int).toNat (0:Int)) aaH aaI aaJ).bind λx2=>(Aw (As (1:Int) aa1.length) ((Kv (aa1.getD (1:Int).toNat (0:Int))).bind λx4=>(bif (bif (bif (bif (!x2.2.2) then true else(!x4.2.2)) then true else(x2.2.1 !=x4.2.1)) then true else(x2.2.1==aK)) then(some ((⟨(0:Int),(0:Int),(0:Int),(0:Int)⟩:THammock),false)) else(some ((⟨aK,x2.1,x4.1,x2.2.1⟩:THammock),true)))))))
theorem Zx(h:Kt v1 v2 v10 v14 v11=some v35):sP 77 [(Z6 v1),(My v2),(.agg [(Z9 v10 v14 v11),(.clo 135 [] [])])] [] (.tuple [(e9 v35.1),(.bool v35.2)]) []:=
 sG Tryz.func77 λΓ q=>Ae q UB [5,6] (tC h λc1_ h=>tB h λx2 y2 h=>tT q iT [5,6] [(yB x2.1 x2.2.1 x2.2.2)] (c3 (show(As (0:Int) 2) from(by decide)) c1_ (Mj y2)) (tC h λc3_ h=>tB h λx4 y4 h=>tT q iP [6] [(yB x4.1 x4.2.1 x4.2.2)] (c3 (show(As (1:Int) 2) from(by decide)) c3_ (Us y4)) (tU q iW [6] (QD (gI ((!x2.2.2)==false)) (I9 (!x2.2.2)) (Kb ((rg x2 x4)==false) (ci (I9 (rg x2 x4)) (Kb ((bif (rg x2 x4) then true else(x2.2.1 !=x4.2.1))==false) (c1 (I9 (bif (rg x2 x4) then true else(x2.2.1 !=x4.2.1)))))))) (gC h (λh=>Ae q Wn [6] (tS h (Bq []))) λh=>Ae q Wn [6] (tS h (Bq []))))))
def rh(x2:bR)(x4:bR):=(bif (!x2.2.2) then true else(!x4.2.2))
def Ku(aK:Int)(aa1:Ao)(aaK:List Ab)(aaL:Kc)(aaM:Int):Option TA:=
 (Aw (As (0:Int) aa1.length) ((Kv (aa1.getD (0:Int).toNat (0:Int))).bind λx2=>(Aw (As (1:Int) aa1.length) ((Gh (aa1.getD (1:Int).toNat (0:Int)) aaK aaL aaM).bind λx4=>(bif (bif (bif (bif (!x2.2.2) then true else(!x4.2.2)) then true else(x2.2.1 !=x4.2.1)) then true else(x2.2.1==aK)) then(some ((⟨(0:Int),(0:Int),(0:Int),(0:Int)⟩:THammock),false)) else(some ((⟨aK,x2.1,x4.1,x2.2.1⟩:THammock),true)))))))
theorem Zy(h:Ku v1 v2 v10 v14 v11=some v35):sP 77 [(Z6 v1),(My v2),(.agg [(.clo 135 [] []),(Z9 v10 v14 v11)])] [] (.tuple [(e9 v35.1),(.bool v35.2)]) []:=
 sG Tryz.func77 λΓ q=>Ae q UB [5,6] (tC h λc1_ h=>tB h λx2 y2 h=>tT q iT [5,6] [(yB x2.1 x2.2.1 x2.2.2)] (c3 (show(As (0:Int) 2) from(by decide)) c1_ (Us y2)) (tC h λc3_ h=>tB h λx4 y4 h=>tT q iP [6] [(yB x4.1 x4.2.1 x4.2.2)] (c3 (show(As (1:Int) 2) from(by decide)) c3_ (Mj y4)) (tU q iW [6] (QD (gI ((!x2.2.2)==false)) (I9 (!x2.2.2)) (Kb ((rh x2 x4)==false) (ci (I9 (rh x2 x4)) (Kb ((bif (rh x2 x4) then true else(x2.2.1 !=x4.2.1))==false) (c1 (I9 (bif (rh x2 x4) then true else(x2.2.1 !=x4.2.1)))))))) (gC h (λh=>Ae q Wn [6] (tS h (Bq []))) λh=>Ae q Wn [6] (tS h (Bq []))))))
def Jr(a0:TFunc)(x2:iL):(List THammock×Int)->Option (LR (List THammock×Int) (List THammock)):=
 λ((l3,i4):(List THammock×Int))=>(bif (decide (i4<(a0.Blocks.length:Int))) then(Option.bind (α:=List THammock) (Aw (As i4 a0.Blocks.length) (Aw (((((a0.Blocks.getD i4.toNat default).End.Kind:Int)!=2)==false)=true->(As (0:Int) ((a0.Blocks.getD i4.toNat default).End.To).length)) (Aw (((((a0.Blocks.getD i4.toNat default).End.Kind:Int)!=2)==false)=true->(As (1:Int) ((a0.Blocks.getD i4.toNat default).End.To).length)) (bif (bif (((a0.Blocks.getD i4.toNat default).End.Kind:Int)!=2) then true else((((a0.Blocks.getD i4.toNat default).End.To).getD (0:Int).toNat (0:Int))==(((a0.Blocks.getD i4.toNat default).End.To).getD (1:Int).toNat (0:Int)))) then(some l3) else((S8 a0.Blocks x2.1.Pred i4).bind λx10=>((Nd i4 ((a0.Blocks.getD i4.toNat default).End.To) a0.Blocks x2.1.Pred i4 a0.Blocks x2.1.Pred i4).bind λx11=>(bif x11.2 then(Aw (l3.length+([x11.1]:List THammock).length<=room) (some (l3++([x11.1]:List THammock)))) else((Kt i4 ((a0.Blocks.getD i4.toNat default).End.To) a0.Blocks x2.1.Pred i4).bind λx13=>(bif x13.2 then(Aw (l3.length+([x13.1]:List THammock).length<=room) (some (l3++([x13.1]:List THammock)))) else((Ku i4 ((a0.Blocks.getD i4.toNat default).End.To) a0.Blocks x2.1.Pred i4).bind λx15=>(bif x15.2 then(Aw (l3.length+([x15.1]:List THammock).length<=room) (some (l3++([x15.1]:List THammock)))) else(some l3)))))))))))) (λx17=>(some (.next (x17,(w64 (i4+1))))))) else(some (.done l3)))
def KM :Empty->Option (LR Empty (List THammock)):=
 λ(s_:Empty)=>nomatch s_
def UZ(Γ:H6)(a0:TFunc)(r:List THammock):Exit->St->Prop:=fK Tryz.prog Γ Tryz.f39.results.toList [] (rQ r 20000) [(20000,.tok 4 27 r.length)]
def fH(a0:TFunc):AV:=(VD a0.Blocks)
def ka:AV:=(AV.list 4 Dd default ([]:List THammock) .exact)
def vm(a0:TFunc)(i4:Int):=((((a0.Blocks.getD i4.toNat default).End.Kind:Int)!=2)==false)
def yN:=(⟨[(2,(AV.list 4 Dd default ([]:List THammock) (.own 6002)))],[(6002,.tok 4 27 (([]:List THammock).length))],[]⟩:St)
def ri(a0:TFunc)(x2:iL)(i4:Int):AV:=(.clo 133 [] [(.rpo [(fH a0)]),(.rpo [(FZ x2.1.Pred)]),(.rpo [(Z6 i4)])])
def yM(a0:TFunc)(x2:iL):=(⟨[Zo,JX,(5,(AV.list 4 Dd default ([]:List THammock) (.own 5005))),(21,(fH a0)),(22,(JT a0.Blocks.length)),(23,Lc)],[(1,.row 25 [(My a0.Params),(Z6 a0.Ret),(fH a0)]),(3,.row 97 [(FZ x2.1.Succ),(FZ x2.1.Pred)]),(5005,.tok 4 27 (([]:List THammock).length))],[]⟩:St)
def Li(a0:TFunc):Option (List THammock):=
 ((Tc (S:=Empty) (X:=List THammock) ((Sk a0 (2:Int)).bind λx1=>(bif (x1 !=0) then(some (.done ([]:List THammock))) else((Uk a0).bind λx2=>((Ad (Jr a0 x2) (([]:List THammock),(0:Int))).bind (λx19=>(some (.done x19))))))) KM).bind (λx21=>(some x21)))
variable{v36:List THammock}
theorem Uq(h:Li v0=some v36):sP 39 [(Y1 v0)] [] (rQ v36 20000) [(20000,.tok 4 27 v36.length)]:=
 sG Tryz.func39 λΓ q=>gR q [1] [1] [(2,ka)] [] (c1 (Bd 4 Dd (default:THammock))) (tB h λx21 y21 h=>gS y21 (λ(s_:Empty)=>nomatch s_) (λ(s_:Empty)=>nomatch s_) (λr_=>aR (UZ Γ v0 r_)) (λy h=>tB h λx1 y1 h=>tT q DE [1] [(JS x1)] (c1 (RJ y1)) (gC h (λh=>gR q [2] [] [(2,ka)] [] (c1 (Bd 4 Dd (default:THammock))) (O8 (⟨[(2,ka)],[],[]⟩:St) (tS h (mr (Mp (H7 LT (show Le Γ _ yN from Le.trans (A8 (st':=⟨[(2,ka)],[],[]⟩) [2] [] q) (Le.trans (Ld (t:=2) (nm:=6002) (sz':=4) (λi=>Dd (([]:List THammock).getD i default)) 27 rfl rfl (.inl ⟨rfl,rfl⟩) (λh_=>absurd h_ (by decide))) (A8 (st':=yN) [2] [6002] q))))))))) λh=>tB h λx2 y2 h=>tT q I8 I8 [(wi x2.1 x2.2)] (c1 (MW y2)) (gR q HF I8 [(5,ka)] [] (c1 (Bd 4 Dd (default:THammock))) (Ae q FR I8 (M3 (st':=(yM v0 x2)) (Le.trans (A8 (st':=⟨[Zo,JX,(5,ka),(21,(fH v0)),(22,(JT v0.Blocks.length)),(23,Lc)],[(1,.row 25 [(My v0.Params),(Z6 v0.Ret),(fH v0)]),(3,.row 97 [(FZ x2.1.Succ),(FZ x2.1.Pred)])],[]⟩) FR I8 q) (Le.trans (Ld (t:=5) (nm:=5005) (sz':=4) (λi=>Dd (([]:List THammock).getD i default)) 27 rfl rfl (.inl ⟨rfl,rfl⟩) (λh_=>absurd h_ (by decide))) (A8 (st':=(yM v0 x2)) FR JQ q))) (tL q h FR JQ (λu (l3,i4)=>(Cn u [(5,(rQ l3 5005)),(23,(Z6 i4))] [(5005,.tok 4 27 l3.length)])) (λu l5=>aG Γ (.exit 0) (⟨[(5,(rQ l5 5005))],[(5005,.tok 4 27 l5.length)],[]⟩:St)) (λ⟨l3,i4⟩ y h=>Ae q [1,3,5,21,22,23,24] JQ (gC h (λh=>tB h λx17 y17 h=>gJ y17 (λl6=>aG Γ .normal (⟨[Zo,JX,(5,(rQ l6 5005)),(21,(fH v0)),(22,(JT v0.Blocks.length)),(23,(Z6 i4))],[(1,.row 25 [(My v0.Params),(Z6 v0.Ret),(fH v0)]),(3,.row 97 [(FZ x2.1.Succ),(FZ x2.1.Pred)]),(5005,.tok 4 27 l6.length)],[]⟩:St)) (λy h=>tV q [1,3,5,6,7,21,22,23] FU h λh=>tC h λc8_ h=>tC h λc9_ h=>tU q [1,3,5,6,7,21,22,23,44] FU (Si (vm v0 i4) (ci c8_ (QL (vm v0 i4) (ci c9_ (Si (vm v0 i4) (c1 (I9 (((v0.Blocks.getD i4.toNat default).End.Kind:Int)!=2)))))))) (gC h (λh=>tS h (gK (A3 (A8 FR JQ q)))) λh=>tB h λx10 y10 h=>tT q kS FU [⟨[],[],(.agg [(ri v0 x2 i4),(ri v0 x2 i4),(ri v0 x2 i4),(.clo 135 [] []),(.clo 135 [] []),(ri v0 x2 i4)]),[],[],[]⟩] (c1 (KY y10)) (gU 3 (Ae q kR FU (bv true (tU q rJ ia (c1 (show(As (0:Int) 3) from(by decide))) (tB h λx11 y11 h=>tT q rH YY [(sn x11.1 x11.2)] (c1 (GN y11)) (Ae q rI YY (gC h (λh=>tC h λc12_ h=>gR q FR JQ (Z52 x11.1 l3) [] (c5 (Az 4 Dd (default:THammock) ([x11.1]:List THammock)) (Eq.refl l3.length) c12_ (Cv 4 5005 Dd (default:THammock) l3 ([x11.1]:List THammock)) (Bs l3 ([x11.1]:List THammock))) (tS h (gK (A3 Gv)))) λh=>tW q kS FU kR FU (bv true (tU q rJ ia (c1 (show(As (1:Int) 3) from(by decide))) (tB h λx13 y13 h=>tT q rH YY [(sn x13.1 x13.2)] (c1 (Zx y13)) (Ae q rI YY (gC h (λh=>tC h λc14_ h=>gR q FR JQ (Z52 x13.1 l3) [] (c5 (Az 4 Dd (default:THammock) ([x13.1]:List THammock)) (Eq.refl l3.length) c14_ (Cv 4 5005 Dd (default:THammock) l3 ([x13.1]:List THammock)) (Bs l3 ([x13.1]:List THammock))) (tS h (gK (A3 Gv)))) λh=>tW q kS FU kR FU (bv true (tU q rJ ia (c1 (show(As (2:Int) 3) from(by decide))) (tB h λx15 y15 h=>tT q rH YY [(sn x15.1 x15.2)] (c1 (Zy y15)) (Ae q rI YY (gC h (λh=>tC h λc16_ h=>gR q FR JQ (Z52 x15.1 l3) [] (c5 (Az 4 Dd (default:THammock) ([x15.1]:List THammock)) (Eq.refl l3.length) c16_ (Cv 4 5005 Dd (default:THammock) l3 ([x15.1]:List THammock)) (Bs l3 ([x15.1]:List THammock))) (tS h (gK (A3 Gv)))) λh=>tW q kS FU kR FU (bv false (tS h (gK (A3 (A8 FR JQ q)))))))))))))))))))))))) (gA (Ae q FR JQ (tN h)))) λh=>tS h (gO (A3 (A8 [5] [5005] q))))) λx19 h=>gA (Ae q [2] [5005] (tS h (mr (Mp (H7 [(5005,20000)] (Le.refl _ _)))))))))))) nofun (gAr (λst' hk=>tS h (gK hk))))
def m_slices_Index_api_Hammock_api_Hammock_L1(aL:List THammock)(aC:THammock):Int->Option (LR Int (Unit ⊕ Int)):=
 λ(i1:Int)=>(bif (decide (i1<(aL.length:Int))) then(Aw (As i1 aL.length) (bif ((aC.At==(aL.getD i1.toNat default).At)&&((aC.Then==(aL.getD i1.toNat default).Then)&&((aC.Else==(aL.getD i1.toNat default).Else)&&((aC.Join==(aL.getD i1.toNat default).Join)&&true)))) then(some (.done (.inr i1))) else(some (.next (w64 (i1+1)))))) else(some (.done (.inl ()))))
def Nn(Γ:H6)(aL:List THammock)(aC:THammock)(r:Int):Exit->St->Prop:=fK Tryz.prog Γ Tryz.f196.results.toList [] (.int .i64 r) []
def Eb(aL:List THammock)(aC:THammock):Option Int:=
 ((Ad (m_slices_Index_api_Hammock_api_Hammock_L1 aL aC) (0:Int)).bind (λx3=>(match x3 with|(.inl _)=>(some (-1:Int))|(.inr r5)=>(some r5))))
variable{v37:THammock}
theorem Nm(h:Eb v36 v37=some v1):sP 196 [(AV.list 4 Dd default v36 .none),(e9 v37)] [] (.int .i64 v1) []:=
 sG Tryz.func196 λΓ q=>tW q R4 [3] [0,3,7,8] [3] (tL q h [0,3,7,8] [3] (λu i1=>(Cn u [(8,(Z6 i1))] [])) (λu x_=>match x_ with|(.inl _)=>aG Γ (.exit 0) (⟨[],[],[]⟩:St)|(.inr r_)=>aR (Nn Γ v36 v37 r_)) (λi1 y h=>Ae q [0,3,7,8,9] [3] (gC h (λh=>Ae q [0,3,5,7,8] [3] (tV q [0,3,5,7,8,16] [3] h λh=>gC h (λh=>Ae q [4] [] (tS h (gO (Mp (H7 [] (Le.refl _ _)))))) λh=>Ae q [0,3,7,8] [3] (tN h))) λh=>tS h (gO (A3 (A8 [] [] q))))) λx3 h=>(match x3,h with | .inl _,h=>gA (Ae q [4] [] (tS h (Bq []))) | .inr r5,h=>gAr (λst' hk=>tS h (gK hk))))
def Dn(aL:List THammock)(aC:THammock):Option Bool:=
 ((Eb aL aC).bind λx1=>(some (decide ((0:Int)<=x1))))
theorem Mn(h:Dn v36 v37=some v3):sP 164 [(AV.list 4 Dd default v36 .none),(e9 v37)] [] (.bool v3) []:=
 sG Tryz.func164 λΓ q=>Ae q R4 [3] (tB h λx1 y1 h=>tT q [4] [] [(JS x1)] (c1 (Nm y1)) (tS h (Bq [])))
def Tx(a0:TFunc)(aE:THammock):Option Bool:=
 ((Li a0).bind λx1=>((Dn x1 aE).bind λx2=>(some x2)))
theorem VX(h:Tx v0 v37=some v3):sP 112 [(Y1 v0),(e9 v37)] [] (.bool v3) []:=
 sG Tryz.func112 λΓ q=>Ae q Cc Cc (tB h λx1 y1 h=>tB h λx2 y2 h=>tT q [4] [] [⟨[],[(20000,6)],(rQ x1 20000),[(20000,.tok 4 27 x1.length)],[],[]⟩,(Z7 x2)] (c2 (Uq y1) (Mn y2)) (tS h (Bq [])))
def D9(a0:TFunc)(aE:THammock):(List A2×Int)->Option (LR (List A2×Int) (List A2)):=
 λ((l2,i3):(List A2×Int))=>(bif (decide (i3<(([aE.Then,aE.Else]:Ao).length:Int))) then(Option.bind (α:=List A2) (Aw (As i3 ([aE.Then,aE.Else]:Ao).length) (bif ((([aE.Then,aE.Else]:Ao).getD i3.toNat 0)!=-1) then(Aw (As (([aE.Then,aE.Else]:Ao).getD i3.toNat 0) a0.Blocks.length) (Aw (l2.length+((a0.Blocks.getD (([aE.Then,aE.Else]:Ao).getD i3.toNat 0).toNat (default:Ab)).Ops).length<=room) (some (l2++(a0.Blocks.getD (([aE.Then,aE.Else]:Ao).getD i3.toNat 0).toNat (default:Ab)).Ops)))) else(some l2))) (λx9=>(some (.next (x9,(w64 (i3+1))))))) else(some (.done l2)))
def ZG(aE:THammock):=([aE.Then,aE.Else]:Ao)
def kd:AV:=vO
def vn(a0:TFunc)(aE:THammock)(i3:Int):=(a0.Blocks.getD ((ZG aE).getD i3.toNat 0).toNat (default:Ab))
def vo(a0:TFunc):List AV:=(Z5 a0.Params a0.Ret a0.Blocks)
def yP:=(⟨[(4,(sk 6004)),(5,(.bool false))],[(6004,.tok 6 51 (([]:List A2).length))],[]⟩:St)
def yO(aE:THammock)(a0:TFunc):=(⟨[Ob,(6,(sk 5006)),(17,(sx (ZG aE))),(18,(.int .i64 ((ZG aE).length:Int))),(19,Lc)],[(L9 25 (vo a0)),(5006,.tok 6 51 (([]:List A2).length))],[]⟩:St)
def Ks(a0:TFunc)(aE:THammock):Option (List A2×Bool):=
 ((Tx a0 aE).bind λx1=>(bif (!x1) then(some (([]:List A2),false)) else((Ad (D9 a0 aE) (([]:List A2),(0:Int))).bind (λx11=>(some (x11,true))))))
variable{v38:(List A2×Bool)}
theorem Ur(h:Ks v0 v37=some v38):sP 59 [(Y1 v0),(e9 v37)] [] (.tuple [(jN v38.1 20000),(.bool v38.2)]) [(OA 20000 v38.1.length)]:=
 sG Tryz.func59 λΓ q=>gR q Cc Cc [(4,kd)] [] (c1 (Bd 6 Kf (default:A2))) (tB h λx1 y1 h=>tT q [2,3,12] Cc [(Z7 x1)] (c1 (VX y1)) (gC h (λh=>gR q P0 [] [(4,kd)] [] (c1 (Bd 6 Kf (default:A2))) (O8 (⟨[(4,kd),(5,(.bool false))],[],[]⟩:St) (tS h (gK (e:=.ret) (H7 TN (show Le Γ _ yP from Le.trans (A8 (st':=⟨[(4,kd),(5,(.bool false))],[],[]⟩) P0 [] q) (Le.trans (Ld (t:=4) (nm:=6004) (sz':=6) (λi=>Kf (([]:List A2).getD i default)) 51 rfl rfl (.inl ⟨rfl,rfl⟩) (λh_=>absurd h_ (by decide))) (A8 (st':=yP) P0 [6004] q)))))))) λh=>gR q HG Cc [(6,kd)] [] (c1 (Bd 6 Kf (default:A2))) (gR q UQ [2] [(17,(sx (ZG v37)))] [] (c1 (Az 1 An (0:Int) (ZG v37))) (M3 (st':=(yO v37 v0)) (Le.trans (A8 (st':=⟨[Ob,(6,kd),(17,(sx (ZG v37))),(18,(.int .i64 ((ZG v37).length:Int))),(19,Lc)],[(L9 25 (vo v0))],[]⟩) UQ [2] q) (Le.trans (Ld (t:=6) (nm:=5006) (sz':=6) (λi=>Kf (([]:List A2).getD i default)) 51 rfl rfl (.inl ⟨rfl,rfl⟩) (λh_=>absurd h_ (by decide))) (A8 (st':=(yO v37 v0)) UQ DD q))) (tL q h UQ DD (λu (l2,i3)=>(Cn u [(6,(jN l2 5006)),(19,(Z6 i3))] [(OA 5006 l2.length)])) (λu l4=>aG Γ (.exit 0) (⟨[(6,(jN l4 5006))],[(OA 5006 l4.length)],[]⟩:St)) (λ⟨l2,i3⟩ y h=>Ae q [2,6,17,18,19,20] DD (gC h (λh=>tB h λx9 y9 h=>gJ y9 (λl5=>aG Γ .normal (⟨[Ob,(6,(jN l5 5006)),(17,(sx (ZG v37))),(18,(.int .i64 ((ZG v37).length:Int))),(19,(Z6 i3))],[(L9 25 (vo v0)),(OA 5006 l5.length)],[]⟩:St)) (λy h=>tV q [2,6,8,17,18,19] DD h λh=>Ae q [2,6,8,17,18,19,24] DD (gC h (λh=>tC h λc7_ h=>tC h λc8_ h=>gR q UQ DD [(32,(AV.list 6 Kf default (l2++(vn v0 v37 i3).Ops) (.own 5006)))] [] (c5 c7_ (Eq.refl l2.length) c8_ (Cv 6 5006 Kf (default:A2) l2 ((vn v0 v37 i3).Ops)) (Bs l2 ((vn v0 v37 i3).Ops))) (tS h (gK (A3 Gv)))) λh=>tS h (gK (A3 (A8 UQ DD q))))) (gA (Ae q UQ DD (tN h)))) λh=>tS h (gO (A3 (A8 [6] [5006] q))))) λx11 h=>gA (Ae q P0 [5006] (tS h (Bq [(5006,20000)]))))))))
def Mf(a2:A2):Option Bool:=
 (some (a2.Lanes !=1))
theorem ET(h:Mf v6=some v3):sP 61 [(UU v6)] [] (.bool v3) []:=
 sG Tryz.func61 λΓ q=>tW q [1] [1] [2] [] (tS h (Bq []))
def m_slices_IndexFunc_api_Op_api_Op_L1(aL:List A2):Int->Option (LR Int (Unit ⊕ Int)):=
 λ(i1:Int)=>(bif (decide (i1<(aL.length:Int))) then(Aw (As i1 aL.length) ((Mf (aL.getD i1.toNat default)).bind λx3=>(bif x3 then(some (.done (.inr i1))) else(some (.next (w64 (i1+1))))))) else(some (.done (.inl ()))))
def Qi(Γ:H6)(aL:List A2)(r:Int):Exit->St->Prop:=fK Tryz.prog Γ Tryz.f113.results.toList [] (.int .i64 r) []
def Gm(aL:List A2):Option Int:=
 ((Ad (m_slices_IndexFunc_api_Op_api_Op_L1 aL) (0:Int)).bind (λx4=>(match x4 with|(.inl _)=>(some (-1:Int))|(.inr r6)=>(some r6))))
theorem Qe(h:Gm v7=some v1):sP 113 [(bt v7),(.clo 61 [] [])] [] (.int .i64 v1) []:=
 sG Tryz.func113 λΓ q=>tW q Fg [] JP [] (tL q h JP [] (λu i1=>(Cn u [(8,(Z6 i1))] [])) (λu x_=>match x_ with|(.inl _)=>aG Γ (.exit 0) (⟨[],[],[]⟩:St)|(.inr r_)=>aR (Qi Γ v7 r_)) (λi1 y h=>Ae q iv [] (gC h (λh=>Ae q iw [] (tC h λc2_ h=>tB h λx3 y3 h=>tT q iX [] [(Z7 x3)] (c2 c2_ (ET y3)) (gC h (λh=>Ae q [4] [] (tS h (gO (Mp (H7 [] (Le.refl _ _)))))) λh=>Ae q JP [] (tN h)))) λh=>tS h (gO (A3 (A8 [] [] q))))) λx4 h=>(match x4,h with | .inl _,h=>gA (Ae q [4] [] (tS h (Bq []))) | .inr r6,h=>gAr (λst' hk=>tS h (gK hk))))
def C9(aL:List A2):Option Bool:=
 ((Gm aL).bind λx1=>(some (decide ((0:Int)<=x1))))
theorem Oy(h:C9 v7=some v3):sP 60 [(bt v7),(.clo 61 [] [])] [] (.bool v3) []:=
 sG Tryz.func60 λΓ q=>Ae q Fg [] (tB h λx1 y1 h=>tT q [4] [] [(JS x1)] (c1 (Qe y1)) (tS h (Bq [])))
def Od(a0:TFunc)(aE:THammock):Option Bool:=
 ((Ks a0 aE).bind λx1=>((bif (x1.2==true) then C9 x1.1 else some false).bind λx2=>(some (bif x1.2 then(!x2) else false))))
theorem IL(h:Od v0 v37=some v3):sP 25 [(Y1 v0),(e9 v37)] [] (.bool v3) []:=
 sG Tryz.func25 λΓ q=>Ae q Cc Cc (tB h λx1 y1 h=>tT q [5,6] [10] [⟨[],bo,(.tuple [(jN x1.1 20000),(.bool x1.2)]),[(OA 20000 x1.1.length)],[],[]⟩] (c1 (Ur y1)) (tB h λx2 y2 h=>tT q [4] [] [(Z7 x2)] (c4 (gI (x1.2==true)) (λ(hg:(x1.2==true)=true)=>(Oy (Ba hg y2))) (gI (x1.2==true)) (Na x1.2)) (tS h (Bq []))))
def Pj(a0:TFunc)(i2:Int):Ho->Option iK:=
 λ((i5,i6):Ho)=>(bif (decide (i6<(((a0.Blocks.getD i2.toNat default).Phis).length:Int))) then(Aw (As i6 ((a0.Blocks.getD i2.toNat default).Phis).length) (some (.next ((if i5<(((a0.Blocks.getD i2.toNat default).Phis).getD i6.toNat default).Dst then(((a0.Blocks.getD i2.toNat default).Phis).getD i6.toNat default).Dst else i5),(w64 (i6+1)))))) else(some (.done i5)))
def Pk(a0:TFunc)(i2:Int):Ho->Option iK:=
 λ((i11,i12):Ho)=>(bif (decide (i12<(((a0.Blocks.getD i2.toNat default).Ops).length:Int))) then(Aw (As i12 ((a0.Blocks.getD i2.toNat default).Ops).length) (some (.next ((if i11<(((a0.Blocks.getD i2.toNat default).Ops).getD i12.toNat default).Dst then(((a0.Blocks.getD i2.toNat default).Ops).getD i12.toNat default).Dst else i11),(w64 (i12+1)))))) else(some (.done i11)))
def S7(a0:TFunc):Ho->Option iK:=
 λ((i1,i2):Ho)=>(bif (decide (i2<(a0.Blocks.length:Int))) then(Aw (As i2 a0.Blocks.length) ((Ad (Pj a0 i2) (i1,(0:Int))).bind (λx9=>((Ad (Pk a0 i2) (x9,(0:Int))).bind (λx15=>(some (.next (x15,(w64 (i2+1)))))))))) else(some (.done i1)))
def Tu(a0:TFunc):Option Int:=
 ((Ad (S7 a0) ((a0.Params.length:Int),(0:Int))).bind (λx17=>(some x17)))
theorem VU(h:Tu v0=some v1):sP 26 [(Y1 v0)] [] (.int .i64 v1) []:=
 sG Tryz.func26 λΓ q=>tW q [1] [1] I8 [1] (Ae q TQ [] (tL q h TQ [] (λu (i1,i2)=>(Cn u [(3,(Z6 i1)),(16,(Z6 i2))] [])) (λu i3=>aG Γ (.exit 0) (⟨[(3,(Z6 i3))],[],[]⟩:St)) (λ⟨i1,i2⟩ y h=>Ae q [3,14,15,16,17] [] (gC h (λh=>tV q ib [5] h λh=>Ae q kV [5] (tL q h kV [5] (λu (i5,i6)=>(Cn u [(3,(Z6 i5)),(23,(Z6 i6))] [])) (λu i7=>aG Γ (.exit 2) (Ng ib [5] u [(3,(Z6 i7))] [])) (λ⟨i5,i6⟩ y h=>Ae q [3,5,14,15,16,21,22,23,24] [5] (gC h (λh=>tV q [3,5,7,14,15,16,21,22,23] [5,7] h λh=>tW q kV [5] kV [5] (tN h)) λh=>tS h (gO (A3 (A8 ib [5] q))))) λx9 h=>gA (Ae q kY [] (tL q h kY [] (λu (i11,i12)=>(Cn u [(3,(Z6 i11)),(35,(Z6 i12))] [])) (λu i13=>aG Γ (.exit 4) (Ng TQ [] u [(3,(Z6 i13))] [])) (λ⟨i11,i12⟩ y h=>Ae q [3,14,15,16,33,34,35,36] [] (gC h (λh=>tV q [3,9,14,15,16,33,34,35] [9] h λh=>tW q kY [] kY [] (tN h)) λh=>tS h (gO (A3 (A8 TQ [] q))))) λx15 h=>gA (Ae q TQ [] (tN h)))))) λh=>tS h (gO (A3 (A8 [3] [] q))))) λx17 h=>gA (Ae q [2] [] (tS h (Bq [])))))
def ke:AV:=vO
def yQ:=(⟨[(2,(sk 6002))],[(6002,.tok 6 51 (([]:List A2).length))],[]⟩:St)
def Fc(aL:List A2):Option (List A2):=
 (Aw (([]:List A2).length+aL.length<=room) (some (([]:List A2)++aL)))
variable{v39:List A2}
theorem Sz(h:Fc v7=some v39):sP 62 [(bt v7)] [] (jN v39 20000) [(OA 20000 v39.length)]:=by
 refine EI mix Tryz.func62 (λΓ hq=>?_);unfold Fc at h;refine gR hq [0] [] [(2,ke)] [] (c1 (Bd 6 Kf (default:A2))) ?_;refine Ae hq Yx [] ?_;refine zi true v7.length (λhb=>?_) (λhb=>?_)
 ·replace h:=pY (some ([]:List A2)) (λ(l2:List A2)=>(Aw (([]:List A2).length+l2.length<=room) (some (([]:List A2)++l2)))) h (hb rfl) rfl (λh0=>by first|exact h0|simpa [Aw,room] using h0);clear hb;refine gR hq [2] [] [(2,ke)] [] (c1 (Bd 6 Kf (default:A2))) ?_;refine O8 (⟨[(2,ke)],[],[]⟩:St) ?_;cases h;exact gK (e:=.ret) (H7 LT (show Le Γ _ yQ from Le.trans (A8 (st':=⟨[(2,ke)],[],[]⟩) [2] [] hq) (Le.trans (Ld (t:=2) (nm:=6002) (sz':=6) (λi=>Kf (([]:List A2).getD i default)) 51 rfl rfl (.inl ⟨rfl,rfl⟩) (λh_=>absurd h_ (by decide))) (A8 (st':=yQ) [2] [6002] hq))))
 ·clear hb;obtain⟨hc1,h⟩:=O6 h;refine gR hq [2] [7] [(5,ke),(7,(AV.list 6 Kf default (([]:List A2)++v7) (.own 7)))] [] (ci (show(AVle (.slice 6 0 (λi=>([]:List (List AV)).getD i []) .exact) ke) from fh rfl (λi hi=>absurd hi (V1 i))) (ci hc1 (ci (show(51=Ze->([]:List A2).length=0\/0<v7.length) from(λh_=>absurd h_ (by decide))) (ci (Cv 6 7 Kf (default:A2) ([]:List A2) v7) (c1 (Bs ([]:List A2) v7)))))) ?_;cases h;exact Bq [(7,20000)]
def rj:List NL:=[(4,vO)]
def vp(a3:TFunc)(a5:THammock)(a7:List A2)(a8:Int):List OQ:=(OT a3.Params a3.Ret a3.Blocks a5.At a5.Then a5.Else a5.Join a7 a8 a7.length)
def Ft(aK:Int)(a3:TFunc)(a5:THammock)(a7:List A2)(a8:Int):Option (List A2):=
 (bif (aK==-1) then(some ([]:List A2)) else(Aw (As aK a3.Blocks.length) (some ((a3.Blocks.getD aK.toNat default).Ops))))
theorem Pc(h:Ft v1 v0 v37 v7 v11=some v39):sP 115 [Wt,(Z6 v1)] (OT v0.Params v0.Ret v0.Blocks v37.At v37.Then v37.Else v37.Join v7 v11 v7.length) (bt v39) (OT v0.Params v0.Ret v0.Blocks v37.At v37.Then v37.Else v37.Join v7 v11 v7.length):=
 sG Tryz.func115 λΓ q=>gR q Fg Mo rj [] (c1 (Bd 6 Kf (default:A2))) (Ae q [0,1,6] Mo (gC h (λh=>gR q [4] Mo rj [] (c1 (Bd 6 Kf (default:A2))) (O8 (⟨rj,(vp v0 v37 v7 v11),[]⟩:St) (tS h (gK (e:=.ret) (H7 Yy (show Le Γ _ (⟨[(4,(AV.list 6 Kf default ([]:List A2) .none))],(vp v0 v37 v7 v11),[]⟩:St) from Le.trans (A8 (st':=⟨rj,(vp v0 v37 v7 v11),[]⟩) [4] Mo q) (Gw (.cons AVle.untag .nil) (.same (.same .nil))))))))) λh=>tV q [4] Mo h λh=>tS h (Bq Yy)))
def rk(aaN:Int)(aI:Int)(a8:Int)(aaO:Ao)(aa8:Int):=([(⟨aaN,aI,(1:Int),(w64 (a8+1)),aaO,aa8⟩:A2)]:List A2)
abbrev mb:=(Int×TFunc×THammock×List A2×Int)
def Cf(aaN:Int)(aI:Int)(aa8:Int)(aaO:Ao)(a3:TFunc)(a5:THammock)(a7:List A2)(a8:Int):Option mb:=
 (Aw (a7.length+([(⟨aaN,aI,(1:Int),(w64 (a8+1)),aaO,aa8⟩:A2)]:List A2).length<=room) (some ((w64 (a8+1)),a3,a5,(a7++([(⟨aaN,aI,(1:Int),(w64 (a8+1)),aaO,aa8⟩:A2)]:List A2)),(w64 (a8+1)))))
variable{v40:Int}{v41:mb}
theorem Ek(h:Cf v1 v11 v20 v2 v0 v37 v7 v40=some v41):sP 117 [Wt,(Z6 v1),(Z6 v11),(JY v20),(My v2)] (OT v0.Params v0.Ret v0.Blocks v37.At v37.Then v37.Else v37.Join v7 v40 v7.length) (Z6 v41.1) (OT v41.2.1.Params v41.2.1.Ret v41.2.1.Blocks v41.2.2.1.At v41.2.2.1.Then v41.2.2.1.Else v41.2.2.1.Join v41.2.2.2.1 v41.2.2.2.2 v41.2.2.2.1.length):=
 sG Tryz.func117 λΓ q=>tW q iy Mo iy Mo (tC h λc1_ h=>gR q [0] Mo (zM 32 (rk v1 v11 v40 v2 v20) 33 v7) [] (c5 (Az 6 Kf (default:A2) (rk v1 v11 v40 v2 v20)) (Eq.refl v7.length) c1_ (Cv 6 37007 Kf (default:A2) v7 (rk v1 v11 v40 v2 v20)) (Bs v7 (rk v1 v11 v40 v2 v20))) (Ae q [10] Mo (tS h (Bq Yy))))
def kh(a1:A2):=(a1.Args.drop (1:Int).toNat)
def PM(a1:A2):=(a1.Args.getD (0:Int).toNat (0:Int))
def kg(a1:A2):=(a1.Args.getD (1:Int).toNat (0:Int))
def yR(a1:A2):List AV:=[Wt,Lc,(Z6 a1.Bits),(.int .u64 (0:Int)),(.slice 0 0 (λ_=>[]) .none)]
def nA:List AV:=[Lc,Lc,Lc,Lc,UT,(.int .u64 (0:Int))]
def rl(a3:TFunc)(a5:THammock)(a7:List A2)(a8:Int):List AV:=(Z2 a3.Params a3.Ret a3.Blocks a5.At a5.Then a5.Else a5.Join a7 a8)
def vq(x13:mb):List AV:=(Z2 x13.2.1.Params x13.2.1.Ret x13.2.1.Blocks x13.2.2.1.At x13.2.2.1.Then x13.2.2.1.Else x13.2.2.1.Join x13.2.2.2.1 x13.2.2.2.2)
def vr(x18:mb):List AV:=(Z2 x18.2.1.Params x18.2.1.Ret x18.2.1.Blocks x18.2.2.1.At x18.2.2.1.Then x18.2.2.1.Else x18.2.2.1.Join x18.2.2.2.1 x18.2.2.2.2)
abbrev xm:=(A2×TFunc×THammock×List A2×Int)
def Ii(a1:A2)(aO:Int)(a3:TFunc)(a5:THammock)(a7:List A2)(a8:Int):Option xm:=
 (Option.bind (α:=(Int×Ao×Ao×Int×List Ab×Int×Int×Int×Int×List A2×Int)) (bif (a1.Kind==16) then(Aw (As (0:Int) a1.Args.length) ((Cf (0:Int) a1.Bits (0:Int) ([]:Ao) a3 a5 a7 a8).bind λx13=>(some ((18:Int),([aO,(a1.Args.getD (0:Int).toNat (0:Int)),x13.1]:Ao),x13.2.1.Params,x13.2.1.Ret,x13.2.1.Blocks,x13.2.2.1.At,x13.2.2.1.Then,x13.2.2.1.Else,x13.2.2.1.Join,x13.2.2.2.1,x13.2.2.2.2)))) else(bif (a1.Kind==17) then(Aw (As (0:Int) a1.Args.length) (Aw (As (1:Int) a1.Args.length) (some ((19:Int),([aO,(a1.Args.getD (0:Int).toNat (0:Int)),(a1.Args.getD (1:Int).toNat (0:Int))]:Ao),a3.Params,a3.Ret,a3.Blocks,a5.At,a5.Then,a5.Else,a5.Join,a7,a8)))) else(bif (a1.Kind==4) then(Aw (As (0:Int) a1.Args.length) (Aw (As (1:Int) a1.Args.length) ((Cf (0:Int) a1.Bits (0:Int) ([]:Ao) a3 a5 a7 a8).bind λx18=>(some ((20:Int),([aO,(a1.Args.getD (0:Int).toNat (0:Int)),(a1.Args.getD (1:Int).toNat (0:Int)),x18.1]:Ao),x18.2.1.Params,x18.2.1.Ret,x18.2.1.Blocks,x18.2.2.1.At,x18.2.2.1.Then,x18.2.2.1.Else,x18.2.2.1.Join,x18.2.2.2.1,x18.2.2.2.2))))) else(Option.bind (α:=Bool) (bif (a1.Kind==18) then(some (a1.Kind==18)) else(bif (a1.Kind==19) then(some (a1.Kind==19)) else(some (a1.Kind==20)))) (λx20=>(bif x20 then(Aw (As (0:Int) a1.Args.length) ((Cf (5:Int) (1:Int) (0:Int) ([(a1.Args.getD (0:Int).toNat (0:Int)),aO]:Ao) a3 a5 a7 a8).bind λx23=>(Aw (0<=(1:Int)/\(1:Int)<=(a1.Args.length:Int)) (Aw (([x23.1]:Ao).length+(a1.Args.drop (1:Int).toNat).length<=room) (some (a1.Kind,(([x23.1]:Ao)++(a1.Args.drop (1:Int).toNat)),x23.2.1.Params,x23.2.1.Ret,x23.2.1.Blocks,x23.2.2.1.At,x23.2.2.1.Then,x23.2.2.1.Else,x23.2.2.1.Join,x23.2.2.2.1,x23.2.2.2.2)))))) else(some (a1.Kind,a1.Args,a3.Params,a3.Ret,a3.Blocks,a5.At,a5.Then,a5.Else,a5.Join,a7,a8)))))))) (λ(i1,l2,l3,i4,l5,i6,i7,i8,i9,l10,i11)=>(some ((⟨i1,a1.Bits,a1.Lanes,a1.Dst,l2,a1.Imm⟩:A2),(⟨l3,i4,l5⟩:TFunc),(⟨i6,i7,i8,i9⟩:THammock),l10,i11))))
variable{v42:xm}
theorem Wi(h:Ii v6 v1 v0 v37 v7 v11=some v42):sP 165 [Wt,(UU v6),(Z6 v1)] (OT v0.Params v0.Ret v0.Blocks v37.At v37.Then v37.Else v37.Join v7 v11 v7.length) (UU v42.1) (OT v42.2.1.Params v42.2.1.Ret v42.2.1.Blocks v42.2.2.1.At v42.2.2.1.Then v42.2.2.1.Else v42.2.2.1.Join v42.2.2.2.1 v42.2.2.2.2 v42.2.2.2.1.length):=
 sG Tryz.func165 λΓ q=>Ae q [0,2,4,6] Rp (tB h λx26 y26 h=>gJ y26 (λ(i1,l2,l3,i4,l5,i6,i7,i8,i9,l10,i11)=>aG Γ .normal (⟨[MC,JW],[(4,.row 51 (vQ i1 v6.Bits v6.Lanes v6.Dst l2 v6.Imm)),(6,.row 51 nA),(30000,.row 71 (Z2 l3 i4 l5 i6 i7 i8 i9 l10 i11)),(OA 37007 l10.length)],[]⟩:St)) (λy h=>tW q [0,2,4,6,9] Rp [0,2,4,6,9,10] Rp (gC h (λh=>tC h λc12_ h=>tB h λx13 y13 h=>gR q Vc Rp [(21,(zS v1 (PM v6) x13.1))] [⟨Yy,[],(Z6 x13.1),(lD (vq x13) x13.2.2.2.1.length),[],[]⟩] (c3 c12_ (show(sP 117 (yR v6) (lD (rl v0 v37 v7 v11) v7.length) (Z6 x13.1) (lD (vq x13) x13.2.2.2.1.length)) from(Spec.args (.cons (AVle.refl _) (.cons (AVle.refl _) (.cons (AVle.refl _) (.cons (AVle.refl _) (.cons OX .nil))))) (Ek y13))) (Az 1 An (0:Int) ([v1,(PM v6),x13.1]:Ao))) (tS h (gK (A3 (Le.trans (A8 (st':=⟨[MC,JW],[(4,.row 51 [(JT 18),(Z6 v6.Bits),(Z6 v6.Lanes),(Z6 v6.Dst),(zS v1 (PM v6) x13.1),(JY v6.Imm)]),(6,.row 51 nA),(30000,.row 71 (vq x13)),(OA 37007 x13.2.2.2.1.length)],[]⟩) Vc Rp q) (Gw (.cons (AVle.refl _) (.cons (AVle.refl _) .nil)) (.row (.cons (AVle.refl _) (.cons (AVle.refl _) (.cons (AVle.refl _) (.cons (AVle.refl _) (.cons AVle.untag (.cons (AVle.refl _) .nil)))))) (.same (.same (.same .nil)))))))))) λh=>Ae q [0,2,4,6,9,24] Rp (gC h (λh=>tC h λc14_ h=>tC h λc15_ h=>gR q Vc Rp [(35,(zS v1 (PM v6) (kg v6)))] [] (c3 c14_ c15_ (Az 1 An (0:Int) ([v1,(PM v6),(kg v6)]:Ao))) (tS h (gK (A3 (Le.trans (A8 (st':=⟨[MC,JW],[(4,.row 51 [(JT 19),(Z6 v6.Bits),(Z6 v6.Lanes),(Z6 v6.Dst),(zS v1 (PM v6) (kg v6)),(JY v6.Imm)]),(6,.row 51 nA),(30000,.row 71 (rl v0 v37 v7 v11)),(OA 37007 v7.length)],[]⟩) Vc Rp q) (Gw (.cons (AVle.refl _) (.cons (AVle.refl _) .nil)) (.row (.cons (AVle.refl _) (.cons (AVle.refl _) (.cons (AVle.refl _) (.cons (AVle.refl _) (.cons AVle.untag (.cons (AVle.refl _) .nil)))))) (.same (.same (.same .nil)))))))))) λh=>Ae q [0,2,4,6,9,38] Rp (gC h (λh=>tC h λc16_ h=>tC h λc17_ h=>tB h λx18 y18 h=>gR q Vc Rp [(53,(AV.list 1 An 0 ([v1,(PM v6),(kg v6),x18.1]:Ao) .exact))] [⟨Yy,[],(Z6 x18.1),(lD (vr x18) x18.2.2.2.1.length),[],[]⟩] (c4 c16_ c17_ (show(sP 117 (yR v6) (lD (rl v0 v37 v7 v11) v7.length) (Z6 x18.1) (lD (vr x18) x18.2.2.2.1.length)) from(Spec.args (.cons (AVle.refl _) (.cons (AVle.refl _) (.cons (AVle.refl _) (.cons (AVle.refl _) (.cons OX .nil))))) (Ek y18))) (Az 1 An (0:Int) ([v1,(PM v6),(kg v6),x18.1]:Ao))) (tS h (gK (A3 (Le.trans (A8 (st':=⟨[MC,JW],[(4,.row 51 [(JT 20),(Z6 v6.Bits),(Z6 v6.Lanes),(Z6 v6.Dst),(AV.list 1 An 0 ([v1,(PM v6),(kg v6),x18.1]:Ao) .exact),(JY v6.Imm)]),(6,.row 51 nA),(30000,.row 71 (vr x18)),(OA 37007 x18.2.2.2.1.length)],[]⟩) Vc Rp q) (Gw (.cons (AVle.refl _) (.cons (AVle.refl _) .nil)) (.row (.cons (AVle.refl _) (.cons (AVle.refl _) (.cons (AVle.refl _) (.cons (AVle.refl _) (.cons AVle.untag (.cons (AVle.refl _) .nil)))))) (.same (.same (.same .nil)))))))))) λh=>tB h λx20 y20 h=>gJ y20 (λb19=>aG Γ .normal (⟨[(0,Wt),(2,(Z6 v1)),MC,JW,(56,(.bool b19))],[(4,.row 51 (vQ v6.Kind v6.Bits v6.Lanes v6.Dst v6.Args v6.Imm)),(6,.row 51 nA),(30000,.row 71 (rl v0 v37 v7 v11)),(OA 37007 v7.length)],[]⟩:St)) (λy h=>Ae q [0,2,4,6,9,56] Rp (gC h (λh=>tS h (gK (A3 (A8 io Rp q)))) λh=>Ae q [0,2,4,6,9,56] Rp (gC h (λh=>tS h (gK (A3 (A8 io Rp q)))) λh=>Ae q io Rp (tS h (gK (A3 Gv)))))) (gA (gC h (λh=>tC h λc22_ h=>tB h λx23 y23 h=>gR q [4,6,7] Rp [(66,(su (PM v6) v1))] [(so x23.1 x23.2.1.Params x23.2.1.Ret x23.2.1.Blocks x23.2.2.1.At x23.2.2.1.Then x23.2.2.1.Else x23.2.2.1.Join x23.2.2.2.1 x23.2.2.2.2 x23.2.2.2.1.length)] (c3 c22_ (Az 1 An (0:Int) ([(PM v6),v1]:Ao)) (Ek y23)) (tC h λc24_ h=>tC h λc25_ h=>gR q Vc [4,6,73,30000,37007] [(69,(ml x23.1)),(72,(My (kh v6))),(73,(AV.list 1 An 0 (([x23.1]:Ao)++(kh v6)) (.own 73)))] [] (c7 (Az 1 An (0:Int) ([x23.1]:Ao)) c24_ (show(AVle (Z69 v6.Args) (My (kh v6))) from ZQ) c25_ (show(3=Ze->([x23.1]:Ao).length=0\/0<(kh v6).length) from(λh_=>absurd h_ (by decide))) (Cv 1 73 An (0:Int) ([x23.1]:Ao) (kh v6)) (Bs ([x23.1]:Ao) (kh v6))) (tS h (gK (A3 (A8 Vc Rp q)))))) λh=>tS h (gK (A3 (A8 Vc Rp q))))))))) (match x26,h with|⟨i1,l2,l3,i4,l5,i6,i7,i8,i9,l10,i11⟩,h=>gA (Ae q [6] [6,30000,37007] (tS h (Bq Yy)))))
abbrev xn:=(Int×Ao×Int×List Ab×Int×Int×Int×Int×List A2×Int)
def G1(aaQ:List A2)(aaW:Int):xn->Option (LR (Int×Ao×Int×List Ab×Int×Int×Int×Int×List A2×Int) (Ao×Int×List Ab×Int×Int×Int×Int×List A2×Int)):=
 λ((i1,l2,i3,l4,i5,i6,i7,i8,l9,i10):xn)=>(bif (decide (i1<(aaQ.length:Int))) then(Aw (As i1 aaQ.length) ((Ii (aaQ.getD i1.toNat default) aaW (⟨l2,i3,l4⟩:TFunc) (⟨i5,i6,i7,i8⟩:THammock) l9 i10).bind λx21=>(Aw (x21.2.2.2.1.length+([(⟨x21.1.Kind,x21.1.Bits,x21.1.Lanes,x21.1.Dst,x21.1.Args,x21.1.Imm⟩:A2)]:List A2).length<=room) (some (.next ((w64 (i1+1)),x21.2.1.Params,x21.2.1.Ret,x21.2.1.Blocks,x21.2.2.1.At,x21.2.2.1.Then,x21.2.2.1.Else,x21.2.2.1.Join,(x21.2.2.2.1++([(⟨x21.1.Kind,x21.1.Bits,x21.1.Lanes,x21.1.Dst,x21.1.Args,x21.1.Imm⟩:A2)]:List A2)),x21.2.2.2.2)))))) else(some (.done (l2,i3,l4,i5,i6,i7,i8,l9,i10))))
def rm(x21:xm):=([(⟨x21.1.Kind,x21.1.Bits,x21.1.Lanes,x21.1.Dst,x21.1.Args,x21.1.Imm⟩:A2)]:List A2)
abbrev vC:=(TFunc×THammock×List A2×Int)
def Ef(aaQ:List A2)(aaW:Int)(a3:TFunc)(a5:THammock)(a7:List A2)(a8:Int):Option vC:=
 ((Ad (G1 aaQ aaW) ((0:Int),a3.Params,a3.Ret,a3.Blocks,a5.At,a5.Then,a5.Else,a5.Join,a7,a8)).bind (λ(l11,i12,l13,i14,i15,i16,i17,l18,i19)=>(some ((⟨l11,i12,l13⟩:TFunc),(⟨i14,i15,i16,i17⟩:THammock),l18,i19))))
variable{v43:vC}
theorem P4(h:Ef v7 v1 v0 v37 v39 v11=some v43):sP 114 [Wt,(bt v7),(Z6 v1)] (OT v0.Params v0.Ret v0.Blocks v37.At v37.Then v37.Else v37.Join v39 v11 v39.length) (.tuple []) (OT v43.1.Params v43.1.Ret v43.1.Blocks v43.2.1.At v43.2.1.Then v43.2.1.Else v43.2.1.Join v43.2.2.1 v43.2.2.2 v43.2.2.1.length):=
 sG Tryz.func114 λΓ q=>Ae q bg Mo (tL q h bg Mo (λu (i1,l2,i3,l4,i5,i6,i7,i8,l9,i10)=>(Cn u [(10,(Z6 i1))] (OT l2 i3 l4 i5 i6 i7 i8 l9 i10 l9.length))) (λu (l11,i12,l13,i14,i15,i16,i17,l18,i19)=>aG Γ (.exit 0) (⟨[],(OT l11 i12 l13 i14 i15 i16 i17 l18 i19 l18.length),[]⟩:St)) (λ⟨i1,l2,i3,l4,i5,i6,i7,i8,l9,i10⟩ y h=>Ae q [0,2,8,9,10,11] Mo (gC h (λh=>tV q [0,2,7,8,9,10] [7,30000,37007] h λh=>tB h λx21 y21 h=>tT q [0,2,7,8,9,10] [7,30000,37007] [⟨Yy,[],(UU x21.1),(OT x21.2.1.Params x21.2.1.Ret x21.2.1.Blocks x21.2.2.1.At x21.2.2.1.Then x21.2.2.1.Else x21.2.2.1.Join x21.2.2.2.1 x21.2.2.2.2 x21.2.2.2.1.length),[],[]⟩] (c1 (Wi y21)) (tC h λc22_ h=>gR q bg Mo (zM 24 (rm x21) 25 x21.2.2.2.1) [] (c5 (Az 6 Kf (default:A2) (rm x21)) (Eq.refl x21.2.2.2.1.length) c22_ (Cv 6 37007 Kf (default:A2) x21.2.2.2.1 (rm x21)) (Bs x21.2.2.2.1 (rm x21))) (Ae q bg Mo (tN h)))) λh=>tS h (gO (A3 (A8 [] Mo q))))) λx23 h=>(match x23,h with|⟨l11,i12,l13,i14,i15,i16,i17,l18,i19⟩,h=>mq (λst' hl24=>tS h (gK (e:=.normal) (H7 Yy hl24)))))
def Vu(aa3:Int):Option Bool:=
 (Option.bind (α:=Bool) (bif (aa3==4) then(some (aa3==4)) else(bif (aa3==16) then(some (aa3==16)) else(bif (aa3==17) then(some (aa3==17)) else(bif (aa3==18) then(some (aa3==18)) else(bif (aa3==19) then(some (aa3==19)) else(some (aa3==20))))))) (λx2=>(bif x2 then(some false) else((Pa aa3).bind λx4=>(some x4)))))
theorem bE(h:Vu v1=some v3):sP 166 [(Z6 v1)] [] (.bool v3) []:=
 sG Tryz.func166 λΓ q=>tW q [0] [] R4 [] (tB h λx2 y2 h=>gJ y2 (λb1=>aG Γ .normal (⟨[(0,(Z6 v1)),(4,(.bool b1))],[],[]⟩:St)) (λy h=>Ae q Tq [] (gC h (λh=>tS h (gK (A3 (A8 Yx [] q)))) λh=>Ae q Tq [] (gC h (λh=>tS h (gK (A3 (A8 Yx [] q)))) λh=>Ae q Tq [] (gC h (λh=>tS h (gK (A3 (A8 Yx [] q)))) λh=>Ae q Tq [] (gC h (λh=>tS h (gK (A3 (A8 Yx [] q)))) λh=>Ae q Tq [] (gC h (λh=>tS h (gK (A3 (A8 Yx [] q)))) λh=>Ae q Yx [] (tS h (gK (A3 Gv))))))))) (gA (gC h (λh=>Ae q [2] [] (tS h (Bq []))) λh=>tB h λx4 y4 h=>tT q [2] [] [(Z7 x4)] (c1 (CA y4)) (tS h (Bq [])))))
def Ov(a2:A2):Option Bool:=
 ((Vu a2.Kind).bind λx1=>(some (!x1)))
theorem BW(h:Ov v6=some v3):sP 116 [(UU v6)] [] (.bool v3) []:=
 sG Tryz.func116 λΓ q=>Ae q [1] [1] (tB h λx1 y1 h=>tT q [2] [] [(Z7 x1)] (c1 (bE y1)) (tS h (Bq [])))
def m_slices_IndexFunc_api_Op_api_Op_v2_L1(aL:List A2):Int->Option (LR Int (Unit ⊕ Int)):=
 λ(i1:Int)=>(bif (decide (i1<(aL.length:Int))) then(Aw (As i1 aL.length) ((Ov (aL.getD i1.toNat default)).bind λx3=>(bif x3 then(some (.done (.inr i1))) else(some (.next (w64 (i1+1))))))) else(some (.done (.inl ()))))
def O3(Γ:H6)(aL:List A2)(r:Int):Exit->St->Prop:=fK Tryz.prog Γ Tryz.f113.results.toList [] (.int .i64 r) []
def Fa(aL:List A2):Option Int:=
 ((Ad (m_slices_IndexFunc_api_Op_api_Op_v2_L1 aL) (0:Int)).bind (λx4=>(match x4 with|(.inl _)=>(some (-1:Int))|(.inr r6)=>(some r6))))
theorem Oz(h:Fa v7=some v1):sP 113 [(bt v7),(.clo 116 [] [])] [] (.int .i64 v1) []:=
 sG Tryz.func113 λΓ q=>tW q Fg [] JP [] (tL q h JP [] (λu i1=>(Cn u [(8,(Z6 i1))] [])) (λu x_=>match x_ with|(.inl _)=>aG Γ (.exit 0) (⟨[],[],[]⟩:St)|(.inr r_)=>aR (O3 Γ v7 r_)) (λi1 y h=>Ae q iv [] (gC h (λh=>Ae q iw [] (tC h λc2_ h=>tB h λx3 y3 h=>tT q iX [] [(Z7 x3)] (c2 c2_ (BW y3)) (gC h (λh=>Ae q [4] [] (tS h (gO (Mp (H7 [] (Le.refl _ _)))))) λh=>Ae q JP [] (tN h)))) λh=>tS h (gO (A3 (A8 [] [] q))))) λx4 h=>(match x4,h with | .inl _,h=>gA (Ae q [4] [] (tS h (Bq []))) | .inr r6,h=>gAr (λst' hk=>tS h (gK hk))))
def Cl(aL:List A2):Option Bool:=
 ((Fa aL).bind λx1=>(some (decide ((0:Int)<=x1))))
theorem Nl(h:Cl v7=some v3):sP 60 [(bt v7),(.clo 116 [] [])] [] (.bool v3) []:=
 sG Tryz.func60 λΓ q=>Ae q Fg [] (tB h λx1 y1 h=>tT q [4] [] [(JS x1)] (c1 (Oz y1)) (tS h (Bq [])))
def rp(x2:vC):List AV:=(Z2 x2.1.Params x2.1.Ret x2.1.Blocks x2.2.1.At x2.2.1.Then x2.2.1.Else x2.2.1.Join x2.2.2.1 x2.2.2.2)
def yT(a3:TFunc)(a5:THammock)(a7:List A2)(a8:Int):List AV:=(Z2 a3.Params a3.Ret a3.Blocks a5.At a5.Then a5.Else a5.Join a7 a8)
def yS(x15:mb):List OQ:=(OT x15.2.1.Params x15.2.1.Ret x15.2.1.Blocks x15.2.2.1.At x15.2.2.1.Then x15.2.2.1.Else x15.2.2.1.Join x15.2.2.2.1 x15.2.2.2.2 x15.2.2.2.1.length)
def Hv(aaD:Int)(a3:TFunc)(a5:THammock)(a7:List A2)(a8:Int):Option vC:=
 ((Ft a5.Then a3 a5 a7 a8).bind λx1=>((Ef x1 aaD a3 a5 a7 a8).bind λx2=>((Ft x2.2.1.Else x2.1 x2.2.1 x2.2.2.1 x2.2.2.2).bind λx3=>(Option.bind (α:=xn) ((Cl x3).bind λx14=>(bif x14 then((Cf (0:Int) (1:Int) (1:Int) ([]:Ao) x2.1 x2.2.1 x2.2.2.1 x2.2.2.2).bind λx15=>((Cf (7:Int) (1:Int) (0:Int) ([aaD,x15.1]:Ao) x15.2.1 x15.2.2.1 x15.2.2.2.1 x15.2.2.2.2).bind λx16=>(some (x16.1,x16.2.1.Params,x16.2.1.Ret,x16.2.1.Blocks,x16.2.2.1.At,x16.2.2.1.Then,x16.2.2.1.Else,x16.2.2.1.Join,x16.2.2.2.1,x16.2.2.2.2)))) else(some ((0:Int),x2.1.Params,x2.1.Ret,x2.1.Blocks,x2.2.1.At,x2.2.1.Then,x2.2.1.Else,x2.2.1.Join,x2.2.2.1,x2.2.2.2)))) (λ(i4,l5,i6,l7,i8,i9,i10,i11,l12,i13)=>((Ef x3 i4 (⟨l5,i6,l7⟩:TFunc) (⟨i8,i9,i10,i11⟩:THammock) l12 i13).bind λx19=>(some (x19.1,x19.2.1,x19.2.2.1,x19.2.2.2))))))))
theorem Vh(h:Hv v1 v0 v37 v7 v11=some v43):sP 63 [Wt,(Z6 v1)] (OT v0.Params v0.Ret v0.Blocks v37.At v37.Then v37.Else v37.Join v7 v11 v7.length) (.tuple []) (OT v43.1.Params v43.1.Ret v43.1.Blocks v43.2.1.At v43.2.1.Then v43.2.1.Else v43.2.1.Join v43.2.2.1 v43.2.2.2 v43.2.2.1.length):=
 sG Tryz.func63 λΓ q=>tB h λx1 y1 h=>tB h λx2 y2 h=>tT q Fg Mo [⟨Yy,[],(bt x1),(lD (yT v0 v37 v7 v11) v7.length),[],Mo⟩,⟨Yy,[],(.tuple []),(lD (rp x2) x2.2.2.1.length),[],[]⟩] (ci (Pc y1) (rkc [(.row 71 (yT v0 v37 v7 v11)),(.tok 6 51 v7.length)] (c1 (P4 y2)))) (tB h λx3 y3 h=>tT q [0,1,4] Mo [⟨Yy,[],(bt x3),(lD (rp x2) x2.2.2.1.length),[],Mo⟩] (ci (Pc y3) (rkl [(.row 71 (rp x2)),(.tok 6 51 x2.2.2.1.length)])) (Ae q [0,1,4,5] Mo (tB h λx17 y17 h=>gJ y17 (λ(i4,l5,i6,l7,i8,i9,i10,i11,l12,i13)=>aG Γ .normal (⟨[(0,Wt),(4,(bt x3)),(5,(Z6 i4))],(OT l5 i6 l7 i8 i9 i10 i11 l12 i13 l12.length),[]⟩:St)) (λy h=>tB h λx14 y14 h=>tT q [0,1,4,5,24] Mo [(Z7 x14)] (c1 (Nl y14)) (gC h (λh=>tB h λx15 y15 h=>tB h λx16 y16 h=>gR q [0,4,5] Mo [(29,(su v1 x15.1))] [(sl 37007 x15.1 (yS x15)),(so x16.1 x16.2.1.Params x16.2.1.Ret x16.2.1.Blocks x16.2.2.1.At x16.2.2.1.Then x16.2.2.1.Else x16.2.2.1.Join x16.2.2.2.1 x16.2.2.2.2 x16.2.2.2.1.length)] (c3 (show(sP 117 [Wt,Lc,mn,(.int .u64 (1:Int)),(.slice 0 0 (λ_=>[]) .none)] (lD (rp x2) x2.2.2.1.length) (Z6 x15.1) (yS x15)) from(Spec.args (.cons (AVle.refl _) (.cons (AVle.refl _) (.cons (AVle.refl _) (.cons (AVle.refl _) (.cons OX .nil))))) (Ek y15))) (Az 1 An (0:Int) ([v1,x15.1]:Ao)) (Ek y16)) (tS h (gK (A3 Gv)))) λh=>tS h (gK (A3 (A8 [0,4,5] Mo q))))) (match x17,h with|⟨i4,l5,i6,l7,i8,i9,i10,i11,l12,i13⟩,h=>gA (tB h λx19 y19 h=>tT q [] Mo [⟨Yy,[],(.tuple []),(OT x19.1.Params x19.1.Ret x19.1.Blocks x19.2.1.At x19.2.1.Then x19.2.1.Else x19.2.1.Join x19.2.2.1 x19.2.2.2 x19.2.2.1.length),[],[]⟩] (c1 (P4 y19)) (tS h (gK (e:=.normal) (H7 Yy (Le.refl _ _)))))))))
def G8(aaX:Int)(a3:TFunc)(a5:THammock)(a7:List A2)(a8:Int):Option Int:=
 (bif (aaX==-1) then(some a5.At) else(some aaX))
theorem Rg(h:G8 v1 v0 v37 v7 v11=some v20):sP 118 [Wt,(Z6 v1)] (OT v0.Params v0.Ret v0.Blocks v37.At v37.Then v37.Else v37.Join v7 v11 v7.length) (.int .i64 v20) (OT v0.Params v0.Ret v0.Blocks v37.At v37.Then v37.Else v37.Join v7 v11 v7.length):=
 sG Tryz.func118 λΓ q=>tW q Fg Mo [0,1,6] Mo (gC h (λh=>Ae q [4] Mo (tS h (Bq Yy))) λh=>Ae q [4] Mo (tS h (Bq Yy)))
def Sw(aJ:Bh)(aK:Int):Option Int:=
 ((Ej aJ.From aK).bind λx1=>(Aw (As x1 aJ.Args.length) (some (aJ.Args.getD x1.toNat 0))))
theorem IM(h:Sw v4 v1=some v11):sP 120 [(.agg (Gu v4)),(Z6 v1)] [] (.int .i64 v11) []:=
 sG Tryz.func120 λΓ q=>Ae q Nj [2] (tB h λx1 y1 h=>tC h λc2_ h=>tT q [4] [] [(JS x1)] (c2 (P5 y1) c2_) (tS h (Bq [])))
def Jb(aI:Int)(aaD:Int)(aaR:Int)(aaT:Int)(a3:TFunc)(a5:THammock)(a7:List A2)(a8:Int):Option mb:=
 (bif (aaR==aaT) then(some (aaR,a3,a5,a7,a8)) else((Cf (13:Int) aI (0:Int) ([aaD,aaR,aaT]:Ao) a3 a5 a7 a8).bind λx1=>(some (x1.1,x1.2.1,x1.2.2.1,x1.2.2.2.1,x1.2.2.2.2))))
variable{v44:Int}
theorem W7(h:Jb v1 v11 v20 v40 v0 v37 v7 v44=some v41):sP 119 [Wt,(Z6 v1),(Z6 v11),(Z6 v20),(Z6 v40)] (OT v0.Params v0.Ret v0.Blocks v37.At v37.Then v37.Else v37.Join v7 v44 v7.length) (Z6 v41.1) (OT v41.2.1.Params v41.2.1.Ret v41.2.1.Blocks v41.2.2.1.At v41.2.2.1.Then v41.2.2.1.Else v41.2.2.1.Join v41.2.2.2.1 v41.2.2.2.2 v41.2.2.2.1.length):=
 sG Tryz.func119 λΓ q=>tW q iy Mo [0,1,2,3,4,13] Mo (gC h (λh=>Ae q [10] Mo (tS h (Bq Yy))) λh=>tB h λx1 y1 h=>gR q [10] Mo [(20,(zS v11 v20 v40))] [(so x1.1 x1.2.1.Params x1.2.1.Ret x1.2.1.Blocks x1.2.2.1.At x1.2.2.1.Then x1.2.2.1.Else x1.2.2.1.Join x1.2.2.2.1 x1.2.2.2.2 x1.2.2.2.1.length)] (c2 (Az 1 An (0:Int) ([v11,v20,v40]:Ao)) (Ek y1)) (tS h (Bq Yy)))
def Po(aD:Int):Option Bool:=
 (some (aD !=aD))
theorem W5(h:Po v1=some v3):sP 228 [(Z6 v1)] [] (.bool v3) []:=
 sG Tryz.func228 λΓ q=>tW q [0] [] [2] [] (tS h (Bq []))
def Uh(aD:Int)(aa5:Int):Option Bool:=
 ((Po aD).bind λx1=>((bif (x1==true) then Po aa5 else some false).bind λx2=>(some (bif (bif x1 then(!x2) else false) then true else(decide (aD<aa5))))))
theorem OG(h:Uh v1 v11=some v3):sP 198 [(Z6 v1),(Z6 v11)] [] (.bool v3) []:=
 sG Tryz.func198 λΓ q=>Ae q Fg [] (tB h λx1 y1 h=>tB h λx2 y2 h=>tT q [4] [] [(Z7 x1),(Z7 x2)] (d5_ (W5 y1) (gI (x1==true)) (λ(hg:(x1==true)=true)=>(W5 (Ba hg y2))) (gI (x1==true)) (Na x1) (Kb ((bif x1 then(!x2) else false)==false) (c1 (I9 (bif x1 then(!x2) else false))))) (tS h (Bq [])))
def Mg(aD:Int):Option Bool:=
 (some (aD !=aD))
theorem Ti(h:Mg v1=some v3):sP 199 [(Z6 v1)] [] (.bool v3) []:=
 sG Tryz.func199 λΓ q=>tW q [0] [] [2] [] (tS h (Bq []))
def B2(aD:Ao)(aa2:Int):Ho->Option iK:=
 λ((i1,i2):Ho)=>(bif (decide (i1<i2)) then(Aw (As (w64 (Xe .u64 (Fl (w64 (i1+i2))) (1:Int))) aD.length) ((Uh (aD.getD (w64 (Xe .u64 (Fl (w64 (i1+i2))) (1:Int))).toNat (0:Int)) aa2).bind λx5=>(bif x5 then(some (.next ((w64 ((w64 (Xe .u64 (Fl (w64 (i1+i2))) (1:Int)))+1)),i2))) else(some (.next (i1,(w64 (Xe .u64 (Fl (w64 (i1+i2))) (1:Int))))))))) else(some (.done i1)))
def nB(x6:Int)(aD:Ao):=((decide (x6<(aD.length:Int)))==true)
def VA(x6:Int)(aD:Ao)(aa2:Int):=((nB x6 aD)&&(((aD.getD x6.toNat 0)==aa2)==false))
def Eu(aD:Ao)(aa2:Int):Option (Int×Bool):=
 ((Ad (B2 aD aa2) ((0:Int),(aD.length:Int))).bind (λx6=>(Aw (((decide (x6<(aD.length:Int)))==true)=true->(As x6 aD.length)) (Aw ((((decide (x6<(aD.length:Int)))==true)&&(((aD.getD x6.toNat 0)==aa2)==false))=true->(As x6 aD.length)) ((bif (((decide (x6<(aD.length:Int)))==true)&&(((aD.getD x6.toNat 0)==aa2)==false)) then Mg (aD.getD x6.toNat 0) else some false).bind λx10=>((bif ((((decide (x6<(aD.length:Int)))==true)&&(((aD.getD x6.toNat 0)==aa2)==false))&&(x10==true)) then Mg aa2 else some false).bind λx11=>(some (x6,(bif (decide (x6<(aD.length:Int))) then(bif ((aD.getD x6.toNat 0)==aa2) then true else(bif x10 then x11 else false)) else false)))))))))
variable{v45:(Int×Bool)}
theorem Se(h:Eu v2 v1=some v45):sP 167 [(My v2),(Z6 v1)] [] (.tuple [(Z6 v45.1),(.bool v45.2)]) []:=
 sG Tryz.func167 λΓ q=>tW q Fg [] [0,1,6] [] (Ae q TO [] (tL q h TO [] (λu (i1,i2)=>(Cn u [(7,(Z6 i1)),(8,(Z6 i2))] [])) (λu i3=>aG Γ (.exit 0) (Ng UA [] u [(7,(Z6 i3))] [])) (λ⟨i1,i2⟩ y h=>Ae q [0,1,6,7,8,15] [] (gC h (λh=>tU q [0,1,6,7,8,9] [] (c1 (show(0<=(1:Int)) from(by decide))) (tC h λc4_ h=>tB h λx5 y5 h=>tT q [0,1,6,7,8,9,27] [] [(Z7 x5)] (c2 c4_ (OG y5)) (gC h (λh=>Ae q TO [] (tN h)) λh=>Ae q TO [] (tN h)))) λh=>tS h (gO (A3 (A8 UA [] q))))) λx6 h=>gA (tC h λc8_ h=>tC h λc9_ h=>tB h λx10 y10 h=>tB h λx11 y11 h=>tT q P0 [] [(Z7 x10),(Z7 x11)] (Kb (nB x6 v2) (ci c8_ (QL (nB x6 v2) (Kb (VA x6 v2 v1) (ci c9_ (Kb (VA x6 v2 v1) (c9 (λ(hg:(VA x6 v2 v1)=true)=>(Ti (Ba hg y10))) (gI (VA x6 v2 v1)) (gI ((VA x6 v2 v1)&&(x10==true))) (λ(hg:((VA x6 v2 v1)&&(x10==true))=true)=>(Ti (Ba hg y11))) (gI (VA x6 v2 v1)) (show((VA x6 v2 v1)=true->(x10=true->((VA x6 v2 v1)&&(x10==true))=true)) from(λhg=>(aT hg))) (gI (nB x6 v2)) (show((nB x6 v2)=true->(((v2.getD x6.toNat 0)==v1)=false->(VA x6 v2 v1)=true)) from(λhg=>(aF hg))) (Na (decide (x6<(v2.length:Int))))))))))) (tS h (Bq [])))))
end
end Go.Proofs.YtlnbjgmjaioagaaGreat
