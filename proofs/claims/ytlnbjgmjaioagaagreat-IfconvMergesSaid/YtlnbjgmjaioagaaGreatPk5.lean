/-
  The machine, the program's functions and the laws' arithmetic: part 5 of 6.
-/
import Derived.Test.YtlnbjgmjaioagaaGreatPk4
import Derived.Lib.RowBridge
import Derived.OpenShut
import Derived.ShutString
set_option linter.unusedSectionVars false
set_option linter.unusedVariables false
set_option linter.unusedSimpArgs false
namespace Go.Proofs.YtlnbjgmjaioagaaGreat
noncomputable section
open Go Go.RowKit
abbrev Iall(w:World):Nat->Nat->Prop:=λb o=>∃ u,w.cell? ⟨b,o,none⟩=some u
structure oS(w:World)(cs:List Value)(avs:List AV):Prop where
 len:cs.length=avs.length
 one:∀ j,j<avs.length->(cs.getD j undef).oneCell'=true
 rep:∀ j,j<avs.length->RepV (Iall w) w (cs.getD j undef) (avs.getD j .any)
structure Opens(P:Program)(t:TypeId){α:Type}(e:α->List AV)(ok:α->Prop):Prop where
 get:∀{H:Type} {enc:TypeId×Value->H} {w:World} {base:Nat} {spare:Nat->Bool} {held:Bool} {fuel:Nat} {cs:List Value} {x:DataW H×List MemPlace},
  DataW.trod enc P w base spare held fuel t cs=some x->∃ a,ok a/\oS w cs (e a)
theorem RT{w:World}{v:Value}{x:AV}(h1:v.oneCell'=true)(h:RepV (Iall w) w v x):oS w [v] [x]:=
 ⟨rfl,λj hj=>(by
   grind),λj hj=>(by
   grind)⟩
theorem ZX{P:Program}{t:TypeId}{k:IntKind}{e:Int->List AV}(ht:P.underlying t=some (.int k))(he:∀ n,e n=[.int k n]):Opens P t e (λn=>(Lit.int k n).wf=true):=by
 refine⟨?_⟩;intro H enc w base spare held fuel cs x h;obtain⟨n,rfl,rfl,hw⟩:=DataW.trod_int ht h;exact⟨n,hw,by rw[he];exact RT rfl (.int _ _)⟩
theorem iM{w:World}{base:Nat}{a:Addr}{n:Nat}{cs:List Value}(h:w.cells? base a n=some cs):cs.length=n/\∀ i,i<n->w.cell? (a.add i)=some (cs.getD i undef):=by
 unfold World.cells? at h
 split at h
 ·have hl:=mapM_some_length h;simp at hl;refine⟨hl,λi hi=>?_⟩;have:=mapM_some_get h i i (by simp[hi]);rw[this];simp[ show i<cs.length by omega]
 ·cases h
theorem Wp{P:Program}{t el:TypeId}{α:Type}{e:α->List AV}{ok:α->Prop}{sz:Nat}{d:α}{e':List α->List AV}(ht:P.underlying t=some (.slice el))(hs:P.cellsOf el=sz)(h1:1<=sz)(he:Opens P el e ok)(hlen:∀ a,(e a).length=sz)
  (he':∀ l,e' l=[AV.list sz e d l .none]):Opens P t e' (λl=>(∀ a∈l,ok a)/\l.length<=maxLen):=by
 refine⟨?_⟩;intro H enc w base spare held fuel cs x h;rcases DataW.trod_slice ht h with⟨rfl,rfl⟩|⟨a,len,cap,elems,rest,n,_,rfl,rfl,hb,hl,hm,hlen2,hel,_⟩
 ·exact⟨[],⟨by simp,by simp⟩,by rw[he'];exact RT rfl (.slice none 0 0 sz _ (λ_=>undef) (zzL7 _) (by simp) (λh=>by simp at h) (λ_=>rfl) (λj hj=>by simp at hj) (λi hi=>by simp at hi) (λi c hi=>by simp at hi))⟩
 ·have each:∀ i:Fin len,∃ b,ok b/\∃ cs,w.cells? base (a.add (i.1*sz)) sz=some cs/\oS w cs (e b):=λ⟨i,hi⟩=>by
   have:=hel i hi;rw[hs,PG (by omega),zzL98]at this;obtain⟨cs,hcs,htr⟩:=this;obtain⟨b,hb,hr⟩:=he.get htr;exact⟨b,hb,cs,hcs,hr⟩
  let f:Fin len->α:=λi=>(each i).choose
  have hf:∀ i,ok (f i)/\∃ cs,w.cells? base (a.add (i.1*sz)) sz=some cs/\oS w cs (e (f i)):=λi=>(each i).choose_spec
  have hlf:(List.ofFn f).length=len:=by simp
  refine⟨List.ofFn f,⟨λb hb=>?_,by simp;omega⟩,?_⟩
  ·obtain⟨i,rfl⟩:=List.mem_ofFn.1 hb;exact(hf i).1
  rw[he'];refine RT rfl ?_
  have hcell0:∀ i (hi:i<len),∀ c,c<sz->∃ u,w.cell? ((a.add (i*sz)).add c)=some u/\u.oneCell'=true/\RepV (Iall w) w u ((e (f ⟨i,hi⟩)).getD c .any):=λi hi c hc=>by
   obtain⟨_,cs,hcs,hr⟩:=hf ⟨i,hi⟩;obtain⟨hl,hg⟩:=iM hcs;exact⟨_,hg c hc,hr.one c (by rw[hlen];exact hc),hr.rep c (by rw[hlen];exact hc)⟩
  have hspot:0<len->a.spot=none:=λhp=>by
   obtain⟨u,hu,_⟩:=hcell0 0 hp 0 h1;have h2:=World.cell?_spot hu
   simpa [Addr.add] using h2
  have hcell:∀ i (hi:i<len),∀ c,c<sz->∃ u,w.cell? ⟨a.block,a.off+(i*sz+c),none⟩=some u/\u.oneCell'=true/\RepV (Iall w) w u ((e (f ⟨i,hi⟩)).getD c .any):=λi hi c hc=>by
   obtain⟨u,hu,h1,h2⟩:=hcell0 i hi c hc;have hsp:=hspot (by omega);rw[N2 hsp,T0]at hu;exact⟨u,by rw[<- HE];exact hu,h1,h2⟩
  have hdm:∀ j,j<len*sz->∃ i c,i<len/\c<sz/\j=i*sz+c:=λj hj=>by
   refine⟨j / sz,j % sz,(ay (by omega)).2 hj,Zv _ (by omega),?_⟩;rw[Zu];exact(PK j sz).symm
  unfold AV.list;rw[hlf];refine .slice (some a) len cap sz _ (λj=>(w.cell? ⟨a.block,a.off+j,none⟩).getD undef) hl hm (λhp=>⟨a,rfl,hspot hp,λj hj=>?_,λj hj=>?_⟩) (λh=>by cases h) (λj hj=>?_) (λi hi=>hlen _) (λi c hi hc=>?_)
  ·obtain⟨i,c,hi,hc,rfl⟩:=hdm j hj;obtain⟨u,hu,_⟩:=hcell i hi c hc;exact⟨u,hu⟩
  ·obtain⟨i,c,hi,hc,rfl⟩:=hdm j hj;obtain⟨u,hu,_⟩:=hcell i hi c hc;rw[hu];rfl
  ·obtain⟨i,c,hi,hc,rfl⟩:=hdm j hj;obtain⟨u,hu,h1,_⟩:=hcell i hi c hc;simp only[hu];exact h1
  ·grind
structure bM(P:Program)(fs:List Field)(off N:Nat){α:Type}(e:α->List AV)(ok:α->Prop):Prop where
 get:∀{H:Type} {enc:TypeId×Value->H} {w:World} {base:Nat} {spare:Nat->Bool} {held:Bool} {n:Nat} {cs:List Value},cs.length=N->
  (∀ f∈fs,∃ x,DataW.trod enc P w base spare held n f.type ((cs.drop f.offset).take (P.cellsOf f.type))=some x)->∃ a,ok a/\oS w (cs.drop off) (e a)
theorem S3{P:Program}{N:Nat}:bM P [] N N (λ_:Unit=>[]) (λ_=>True):=by
 refine⟨?_⟩;intro H enc w base spare held n cs hN _;rw[List.drop_eq_nil_of_le (by omega)];exact⟨(),trivial,rfl,(λj hj=>by simp at hj),(λj hj=>by simp at hj)⟩
theorem B1{P:Program}{f:Field}{fs:List Field}{off sz N:Nat}{α β:Type}{e:α->List AV}{ok:α->Prop}{e':β->List AV}{ok':β->Prop}(hoff:f.offset=off)(hsz:P.cellsOf f.type=sz)(hle:off+sz<=N)
  (h:Opens P f.type e ok) (h':bM P fs (off+sz) N e' ok'):bM P (f::fs) off N (λp:α×β=>e p.1++e' p.2) (λp=>ok p.1/\ok' p.2):=by
 refine⟨?_⟩;intro H enc w base spare held n cs hN hall;obtain⟨x,hx⟩:=hall f (by simp);rw[hoff,hsz]at hx;obtain⟨a,ha,hr⟩:=h.get hx;obtain⟨b,hb,hr'⟩:=h'.get hN (λg hg=>hall g (by simp[hg]))
 have hl:(e a).length=sz:=by rw[<- hr.len];simp;omega
 have hl':(e' b).length=N-(off+sz):=by rw[<- hr'.len];simp;omega
 have hsplit:cs.drop off=(cs.drop off).take sz++cs.drop (off+sz):=by rw[<- List.drop_drop];exact(List.take_append_drop sz _).symm
 have hl2:((cs.drop off).take sz).length=sz:=by simp;omega
 refine⟨(a,b),⟨ha,hb⟩,?_,λj hj=>?_,λj hj=>?_⟩
 ·simp[hl,hl'];omega
 ·rw[hsplit];replace hj:j<(e a++e' b).length:=hj
  show _
  by_cases hlt:j<sz
  ·have:=hr.one j (by omega);rwa[List.getD,Wu (by omega)]
  ·have:=hr'.one (j-sz) (by simp at hj;omega);rwa[List.getD,Wt (by omega),hl2]
 ·rw[hsplit];replace hj:j<(e a++e' b).length:=hj
  show RepV (Iall w) w _ ((e a++e' b).getD j .any)
  by_cases hlt:j<sz
  ·have:=hr.rep j (by omega);rwa[List.getD,Wu (by omega),List.getD,Wu (by omega)]
  ·have:=hr'.rep (j-sz) (by simp at hj;omega);rwa[List.getD,Wt (by omega),hl2,List.getD,Wt (by omega),hl]
theorem O1{P:Program}{t:TypeId}{fs:Array Field}{N:Nat}{α:Type}{e:α->List AV}{ok:α->Prop}(ht:P.underlying t=some (.struct fs))(hN:P.cellsOf t=N)(h:bM P fs.toList 0 N e ok):Opens P t e ok:=by
 refine⟨?_⟩;intro H enc w base spare held fuel cs x hx;obtain⟨xs,n,_,_,hl,hxl,hall⟩:=DataW.trod_struct ht hx
 have:=h.get  (hl.trans hN)      (λf hf=>by
  obtain⟨i,hi,rfl⟩:=List.mem_iff_getElem.1 hf
  have hi' :=by simpa using hi
  have:=hall i fs.toList[i] (by simp[hi']);rw[PG (by omega)]at this
  exact⟨_,this⟩)
 simpa using this
theorem Opens.to{P:Program}{t:TypeId}{α β:Type}{e:α->List AV}{ok:α->Prop}(h:Opens P t e ok){e':β->List AV}{ok':β->Prop}(g:α->β)(he:∀ a,e' (g a)=e a)(hok:∀ a,ok a->ok' (g a)):Opens P t e' ok':=by
 refine⟨?_⟩;intro H enc w base spare held fuel cs x hx;obtain⟨a,ha,hr⟩:=h.get hx;exact⟨g a,hok a ha,by rw[he];exact hr⟩
theorem arg_one{P:Program}{t:TypeId}{α:Type}{e:α->List AV}{ok:α->Prop}(h:Opens P t e ok){x:α->AV}(he:∀ a,e a=[x a]){H:Type}{enc:TypeId×Value->H}{w:World}{base:Nat}{spare:Nat->Bool}{held:Bool}{v:Value}{d:DataW H}{ps:List MemPlace}
  (hv:v.cells = #[v]) (hd:DataW.Trod enc P w base spare held t v d ps):∃ a,ok a/\RepV (Iall w) w v (x a):=by
 obtain⟨fuel,hf⟩:=hd;obtain⟨a,ha,hr⟩:=h.get hf;refine⟨a,ha,?_⟩;have:=hr.rep 0 (by simp[he])
 simpa [hv,he] using this
theorem arg_agg{P:Program}{t:TypeId}{α:Type}{e:α->List AV}{ok:α->Prop}(h:Opens P t e ok){H:Type}{enc:TypeId×Value->H}{w:World}{base:Nat}{spare:Nat->Bool}{held:Bool}{cs:Array Value}{d:DataW H}{ps:List MemPlace}
  (hd:DataW.Trod enc P w base spare held t (.agg cs) d ps):∃ a,ok a/\RepV (Iall w) w (.agg cs) (.agg (e a)):=by
 obtain⟨fuel,hf⟩:=hd;obtain⟨a,ha,hr⟩:=h.get hf;have e1:(Value.agg cs).cells.toList=cs.toList:=rfl;rw[e1]at hr
 have e2:∀ j,cs.toList.getD j undef=cs.getD j undef:=λj=>by simp_all
 refine⟨a,ha,.agg _ _ (by simpa using hr.len) (λj hj=>?_) (λj hj=>?_)⟩
 ·rw[<- e2];exact hr.one j hj
 ·rw[<- e2];exact hr.rep j hj
def okI64(n:Int):Prop:=(Lit.int .i64 n).wf=true
theorem op_3:Opens Tryz.prog 3 Aj okI64:=ZX Tryz.underlying3 (λ_=>rfl)
def MI(l:List (Int)):Prop:=(∀ a∈l,okI64 a)/\l.length<=maxLen
theorem fW:Opens Tryz.prog 22 Kz MI:=Wp (d:=(0:Int)) Tryz.underlying22 (by kernel_rfl) (by decide) op_3 (λ_=>rfl) (λ_=>rfl)
def rO(a:A1):Prop:=okI64 a.Bits/\okI64 a.Dst/\MI a.From/\MI a.Args/\True
theorem Ack:Opens Tryz.prog 56 Dv rO:=Opens.to (O1 (N:=4) Tryz.underlying56 (by kernel_rfl) (B1 (off:=0) (sz:=1) (N:=4) rfl (by kernel_rfl) (by decide) op_3 (B1 (off:=1) (sz:=1) (N:=4) rfl (by kernel_rfl) (by decide) op_3 (B1 (off:=2) (sz:=1) (N:=4) rfl (by kernel_rfl) (by decide) fW (B1 (off:=3) (sz:=1) (N:=4) rfl (by kernel_rfl) (by decide) fW S3))))) (λp=>⟨p.1,p.2.1,p.2.2.1,p.2.2.2.1⟩) (λ_=>rfl) (λ_ h=>h)
def lO(l:List (A1)):Prop:=(∀ a∈l,rO a)/\l.length<=maxLen
theorem Acf:Opens Tryz.prog 44 zE lO:=Wp (d:=(default:A1)) Tryz.underlying44 (by kernel_rfl) (by decide) Ack (λ_=>rfl) (λ_=>rfl)
def xV(n:Int):Prop:=(Lit.int .u64 n).wf=true
theorem Aci:Opens Tryz.prog 49 Ad3 xV:=ZX Tryz.underlying49 (λ_=>rfl)
def xU(a:Ay):Prop:=okI64 a.Kind/\okI64 a.Bits/\okI64 a.Lanes/\okI64 a.Dst/\MI a.Args/\xV a.Imm/\True
theorem Acj:Opens Tryz.prog 51 Ig xU:=Opens.to (O1 (N:=6) Tryz.underlying51 (by kernel_rfl) (B1 (off:=0) (sz:=1) (N:=6) rfl (by kernel_rfl) (by decide) op_3 (B1 (off:=1) (sz:=1) (N:=6) rfl (by kernel_rfl) (by decide) op_3 (B1 (off:=2) (sz:=1) (N:=6) rfl (by kernel_rfl) (by decide) op_3 (B1 (off:=3) (sz:=1) (N:=6) rfl (by kernel_rfl) (by decide) op_3 (B1 (off:=4) (sz:=1) (N:=6) rfl (by kernel_rfl) (by decide) fW (B1 (off:=5) (sz:=1) (N:=6) rfl (by kernel_rfl) (by decide) Aci S3))))))) (λp=>⟨p.1,p.2.1,p.2.2.1,p.2.2.2.1,p.2.2.2.2.1,p.2.2.2.2.2.1⟩) (λ_=>rfl) (λ_ h=>h)
def rK(l:List (Ay)):Prop:=(∀ a∈l,xU a)/\l.length<=maxLen
theorem Ace:Opens Tryz.prog 39 Ab2 rK:=Wp (d:=(default:Ay)) Tryz.underlying39 (by kernel_rfl) (by decide) Acj (λ_=>rfl) (λ_=>rfl)
def rN(a:H7):Prop:=okI64 a.Kind/\okI64 a.Arg/\MI a.To/\True
theorem Acg:Opens Tryz.prog 46 ky rN:=Opens.to (O1 (N:=3) Tryz.underlying46 (by kernel_rfl) (B1 (off:=0) (sz:=1) (N:=3) rfl (by kernel_rfl) (by decide) op_3 (B1 (off:=1) (sz:=1) (N:=3) rfl (by kernel_rfl) (by decide) op_3 (B1 (off:=2) (sz:=1) (N:=3) rfl (by kernel_rfl) (by decide) fW S3)))) (λp=>⟨p.1,p.2.1,p.2.2.1⟩) (λ_=>rfl) (λ_ h=>h)
def fJ(a:Ab):Prop:=lO a.Phis/\rK a.Ops/\rN a.End/\True
theorem Ach:Opens Tryz.prog 48 Bc fJ:=Opens.to (O1 (N:=5) Tryz.underlying48 (by kernel_rfl) (B1 (off:=0) (sz:=1) (N:=5) rfl (by kernel_rfl) (by decide) Acf (B1 (off:=1) (sz:=1) (N:=5) rfl (by kernel_rfl) (by decide) Ace (B1 (off:=2) (sz:=3) (N:=5) rfl (by kernel_rfl) (by decide) Acg S3)))) (λp=>⟨p.1,p.2.1,p.2.2.1⟩) (λ_=>rfl) (λ_ h=>h)
def ZU(l:List (Ab)):Prop:=(∀ a∈l,fJ a)/\l.length<=maxLen
theorem Acd:Opens Tryz.prog 23 qS ZU:=Wp (d:=(default:Ab)) Tryz.underlying23 (by kernel_rfl) (by decide) Ach (λ_=>rfl) (λ_=>rfl)
def okTFunc(a:TFunc):Prop:=MI a.Params/\okI64 a.Ret/\ZU a.Blocks/\True
theorem op_25:Opens Tryz.prog 25 eTFunc okTFunc:=Opens.to (O1 (N:=3) Tryz.underlying25 (by kernel_rfl) (B1 (off:=0) (sz:=1) (N:=3) rfl (by kernel_rfl) (by decide) fW (B1 (off:=1) (sz:=1) (N:=3) rfl (by kernel_rfl) (by decide) op_3 (B1 (off:=2) (sz:=1) (N:=3) rfl (by kernel_rfl) (by decide) Acd S3)))) (λp=>⟨p.1,p.2.1,p.2.2.1⟩) (λ_=>rfl) (λ_ h=>h)
def okTHammock(a:THammock):Prop:=okI64 a.At/\okI64 a.Then/\okI64 a.Else/\okI64 a.Join/\True
theorem op_27:Opens Tryz.prog 27 eTHammock okTHammock:=Opens.to (O1 (N:=4) Tryz.underlying27 (by kernel_rfl) (B1 (off:=0) (sz:=1) (N:=4) rfl (by kernel_rfl) (by decide) op_3 (B1 (off:=1) (sz:=1) (N:=4) rfl (by kernel_rfl) (by decide) op_3 (B1 (off:=2) (sz:=1) (N:=4) rfl (by kernel_rfl) (by decide) op_3 (B1 (off:=3) (sz:=1) (N:=4) rfl (by kernel_rfl) (by decide) op_3 S3))))) (λp=>⟨p.1,p.2.1,p.2.2.1,p.2.2.2.1⟩) (λ_=>rfl) (λ_ h=>h)
def numB(n:Int):Bool:=decide (0<=n)&&decide (n<=2147483647)
def listB(l:List Int):Bool:=l.all numB&&decide (l.length<=64)
def IE(p:A1):Bool:=numB p.Bits&&numB p.Dst&&listB p.From&&listB p.Args
def gX(o:Ay):Bool:=numB o.Kind&&numB o.Bits&&numB o.Lanes&&numB o.Dst&&listB o.Args
def iT(e:H7):Bool:=numB e.Kind&&numB e.Arg&&listB e.To
def blockB(b:Ab):Bool:=b.Phis.all IE&&b.Ops.all gX&&iT b.End
def Vt(b:Ab):Nat:=b.Phis.length+b.Ops.length+1
def Sn(f:TFunc):Nat:=(f.Blocks.map Vt).sum
def sizeW(f:TFunc):Int:=w64 (Sn f)
def Qx(f:TFunc):Bool:=decide (1<=f.Blocks.length)&&decide (f.Blocks.length<=64)&&decide (f.Params.length<=16)&&listB f.Params&&numB f.Ret&&decide (sizeW f<=512)&&f.Blocks.all blockB
def eI(p:A1):Nat:=1+p.From.length+p.Args.length
def eH(o:Ay):Nat:=1+o.Args.length
def XL(b:Ab):Nat:=1+b.End.To.length+(b.Phis.map eI).sum+(b.Ops.map eH).sum
def iU(f:TFunc):Nat:=f.Params.length+(f.Blocks.map XL).sum
theorem Qk:maxLen=9223372036854775807:=rfl
structure NT(f:TFunc):Prop where
 params:f.Params.length<=maxLen
 blocks:f.Blocks.length<=maxLen
 block:∀ b∈f.Blocks,b.Phis.length<=maxLen/\b.Ops.length<=maxLen/\b.End.To.length<=maxLen
 phi:∀ b∈f.Blocks,∀ p∈b.Phis,p.From.length<=maxLen/\p.Args.length<=maxLen
 op:∀ b∈f.Blocks,∀ o∈b.Ops,o.Args.length<=maxLen/\0<=o.Imm/\o.Imm<18446744073709551616
theorem inF{f:TFunc}(h:okTFunc f):NT f:=
 ⟨h.1.2,h.2.2.1.2,λb hb=>⟨(h.2.2.1.1 b hb).1.2,(h.2.2.1.1 b hb).2.1.2,(h.2.2.1.1 b hb).2.2.1.2.2.1.2⟩,λb hb p hp=>⟨((h.2.2.1.1 b hb).1.1 p hp).2.2.1.2,((h.2.2.1.1 b hb).1.1 p hp).2.2.2.1.2⟩,
  λb hb o ho=>⟨((h.2.2.1.1 b hb).2.1.1 o ho).2.2.2.2.1.2,zu ((h.2.2.1.1 b hb).2.1.1 o ho).2.2.2.2.2.1⟩⟩
theorem KY{n:Nat}(h:n<9223372036854775808):w64 (n:Int)=n:=Ic (by omega) (by omega)
theorem J7{i n:Nat}(h:i<n)(hn:n<=maxLen):w64 ((i:Int)+1)=((i+1:Nat):Int):=by rw[Qk]at hn;rw[show((i:Int)+1)=(i+1:Nat) by omega,KY (by omega)]
theorem UI(f:TFunc)(hf:NT f):∃ b,C1 f=some b:=by
 have h3:∃ x,Ad (Cv f) (f.Params.length,(0:Nat))=some x:=by
  refine Va f.Blocks.length _ (λn i hi=>?_) (λn=>?_) _ 0 _ (Ie _)
  ·have hmem:=Ah (d:=default) hi;obtain⟨b1,b2,_⟩:=hf.block _ hmem;have hI :=Ag hi;unfold Cv
   cases hc:(bif decide (i<(f.Blocks.length:Int)) then decide (n<=20000) else false) with
   | false=>right;simp only[hc];exact⟨_,rfl⟩
   | true=>
    left
    simp only[hc, Aa hI]
    obtain⟨x1,h1⟩:=Va (f.Blocks.getD i default).Phis.length (Ct f i) (λn j hj=>by
      unfold Ct;simp only[Aa hI,Cr]
      cases hc:(bif decide (j<((f.Blocks.getD i default).Phis.length:Int)) then decide (n<=20000) else false) with
      | false=>grind
      | true=>left;simp only[ Aa (Ag hj),J7 hj b1];exact⟨_,rfl⟩) (λn=>by
      unfold Ct;simp only[Aa hI,Cr]
      have:decide ((f.Blocks.getD i default).Phis.length<((f.Blocks.getD i default).Phis.length:Int))=false:=by simp
      simp only[this];exact⟨_,rfl⟩) _ 0 (w64 (w64 (n+1)+(f.Blocks.getD i default).End.To.length)) (Ie _)
    obtain⟨x2,h2⟩:=Va (f.Blocks.getD i default).Ops.length (Cu f i) (λn j hj=>by
      unfold Cu;simp only[Aa hI,Cr]
      cases hc:(bif decide (j<((f.Blocks.getD i default).Ops.length:Int)) then decide (n<=20000) else false) with
      | false=>grind
      | true=>left;simp only[ Aa (Ag hj),J7 hj b2];exact⟨_,rfl⟩) (λn=>by
      unfold Cu;simp only[Aa hI,Cr]
      have:decide ((f.Blocks.getD i default).Ops.length<((f.Blocks.getD i default).Ops.length:Int))=false:=by simp
      simp only[this];exact⟨_,rfl⟩) _ 0 x1 (Ie _)
    rw[show((0:Nat):Int)=0 from rfl]at h1 h2;simp only[Cr,h1,h2,Ak,J7 hi hf.blocks];exact⟨_,rfl⟩
  ·unfold Cv
   have:decide ((f.Blocks.length:Int)<(f.Blocks.length:Int))=false:=by simp
   simp only[this];exact⟨_,rfl⟩
 obtain⟨x,hx⟩:=h3;unfold C1;rw[show((0:Nat):Int)=0 from rfl]at hx;rw[hx];exact⟨_,rfl⟩
theorem ft(f:TFunc)(hf:NT f)(h0:f.Params.length<=64)(hb:∀ b∈f.Blocks,b.End.To.length<=64/\(∀ p∈b.Phis,p.From.length<=64/\p.Args.length<=64)/\∀ o∈b.Ops,o.Args.length<=64):C1 f=some (decide (iU f<=20000)):=by
 have h3:=KC f.Blocks (default:Ab) XL 20000 (Cv f) (λn i hi hn=>by
   have hmem:=Ah (d:=(default:Ab)) hi;obtain⟨b1,b2,b3⟩:=hf.block _ hmem;obtain⟨hTo,hPh,hOp⟩:=hb _ hmem;have hI1:As (i:Int) f.Blocks.length:=Ag hi
   have l1:=KC (f.Blocks.getD i default).Phis (default:A1) eI 20000 (Ct f i) (λn j hj hn=>by
     have hm:=Ah (d:=(default:A1)) hj;obtain⟨p1,p2⟩:=hPh _ hm
     have e1:decide ((j:Int)<((f.Blocks.getD i default).Phis.length:Int))=true:=by simpa using hj
     have e2:decide ((n:Int)<=20000)=true:=by simp;omega
     refine⟨n+eI ((f.Blocks.getD i default).Phis.getD j default),?_,λ_=>rfl,λh=>h⟩;unfold Ct;simp only[Aa hI1,Cr,e1,e2,Af,Aa (Ag hj),J7 hj b1]
     congr 3
     rw[Ic (n:=(n:Int)+1) (by omega) (by omega),Ic (n:=(n:Int)+1+_) (by omega) (by omega),Ic (by omega) (by omega)];simp only[eI]
     omega) (λn j hj hd=>by
     unfold Ct;simp only[Aa hI1,Cr]
     have:(bif decide ((j:Int)<((f.Blocks.getD i default).Phis.length:Int)) then decide ((n:Int)<=20000) else false)=false:=by
      rcases hd with rfl|h
      ·simp
      ·simp;omega
     rw[this];rfl)
   have l2:=KC (f.Blocks.getD i default).Ops (default:Ay) eH 20000 (Cu f i) (λn j hj hn=>by
     have hm:=Ah (d:=(default:Ay)) hj;have p1:=hOp _ hm
     have e1:decide ((j:Int)<((f.Blocks.getD i default).Ops.length:Int))=true:=by simpa using hj
     have e2:decide ((n:Int)<=20000)=true:=by simp;omega
     refine⟨n+eH ((f.Blocks.getD i default).Ops.getD j default),?_,λ_=>rfl,λh=>h⟩;unfold Cu;simp only[Aa hI1,Cr,e1,e2,Af,Aa (Ag hj),J7 hj b2]
     congr 3
     rw[Ic (n:=(n:Int)+1) (by omega) (by omega),Ic (by omega) (by omega)];simp only[eH]
     omega) (λn j hj hd=>by
     unfold Cu;simp only[Aa hI1,Cr]
     have:(bif decide ((j:Int)<((f.Blocks.getD i default).Ops.length:Int)) then decide ((n:Int)<=20000) else false)=false:=by
      rcases hd with rfl|h
      ·simp
      ·simp;omega
     rw[this];rfl)
   have e1:decide ((i:Int)<(f.Blocks.length:Int))=true:=by simpa using hi
   have e2:decide ((n:Int)<=20000)=true:=by simp;omega
   obtain⟨m1,q1,q2,q3⟩:=l1 _ 0 (n+1+(f.Blocks.getD i default).End.To.length) (Ie _);obtain⟨m2,q4,q5,q6⟩:=l2 _ 0 m1 (Ie _);rw[Qs]at q2 q3 q5 q6;refine⟨m2,?_,λhle=>?_,λhle=>?_⟩
   ·unfold Cv;simp only[e1,e2,Af,Aa hI1,Cr,J7 hi hf.blocks];rw[Ic (n:=(n:Int)+1) (by omega) (by omega),Ic (by omega) (by omega),show(n:Int)+1+((f.Blocks.getD i default).End.To.length:Int)=((n+1+(f.Blocks.getD i default).End.To.length:Nat):Int) by omega];rw[show((0:Nat):Int)=0 from rfl]at q1 q4;rw[q1,Ak,q4,Ak]
   ·simp only[XL]at hle ⊢;have:=q2 (by omega);rw[q5 (by omega)];omega
   ·simp only[XL];have h6:=q6 hle;have h3:=q3 (by omega);have:=q2 h3
    omega) (λn i hi hd=>by
   unfold Cv
   have:(bif decide ((i:Int)<(f.Blocks.length:Int)) then decide ((n:Int)<=20000) else false)=false:=by
    rcases hd with rfl|h
    ·simp
    ·simp;omega
   simp only[this,Ar]) f.Blocks.length 0 f.Params.length (Ie _)
 obtain⟨m,h1,h2,h4⟩:=h3;rw[Qs]at h2 h4;unfold C1;rw[show((0:Nat):Int)=0 from rfl]at h1;rw[h1,Ak]
 congr 1
 apply zzL71.2
 simp only[iU]
 constructor
 ·intro h;exact h4 (by omega)
 ·intro h;have:=h2 h;omega
theorem Wq(n:Int):Bp n=some (numB n):=by unfold Bp numB;cases decide (0<=n)<;>rfl
theorem Tw(l:List Int)(h:l.length<=maxLen):Df l=some (listB l):=by
 unfold Df;rw[Qk]at h
 have hloop:=Ha l 0 numB (F3 l) (.inl ()) (.inr false) (λi hi hp=>by
   unfold F3
   have:decide (i<(l.length:Int))=true:=by simpa using hi
   simp only[this,Af,Aa (Ag hi),Cr,Wq,Ak,hp,C0,Ar,A3 hi (by omega)]) (λi hi hp=>by
   unfold F3
   have:decide (i<(l.length:Int))=true:=by simpa using hi
   simp only[this,Af,Aa (Ag hi),Cr,Wq,Ak,hp,J0]) (by
   unfold F3
   simp) l.length 0 (by omega)
 rw[show(0:Int)=(0:Nat) from rfl,hloop,Qs];unfold listB
 have e:decide ((l.length:Int)<=64)=decide (l.length<=64):=by grind
 cases l.all _
 ·rfl
 ·simp[e]
theorem sD(f:TFunc)(hf:NT f):Li f=some (sizeW f):=by
 unfold Li
 have hl:=FO _ default Vt id (Ir f) (λn i hi=>by
   have e1:decide ((i:Int)<f.Blocks.length)=true:=by simpa using hi
   unfold Ir;simp only[e1,Af,Aa (Ag hi),Cr,J7 hi hf.blocks]
   congr 3
   rw[Ws,Ws,Int.add_assoc _,Ws];unfold Vt
   congr 1
   omega) (λn=>by
   unfold Ir
   simp) _ 0 0 (Ie _)
 rw[show w64 _=0 from rfl,show((0:Nat):Int)=0 from rfl]at hl;rw[hl];simp[Sn,sizeW]
theorem YQ{p q:Bool}:(bif p then true else q)=(p || q):=by cases p<;>rfl
theorem lc(f:TFunc)(hf:NT f):G1 f=some (Qx f):=by
 have hloop:Ad (Em f) ((0:Nat):Int)=some (bif (f.Blocks.drop 0).all blockB then .inl () else .inr false):=by
  have step:∀ i:Nat,i<f.Blocks.length->Em f (i:Int)=bif blockB (f.Blocks.getD i default) then some (.next ((i:Int)+1)) else some (.done (.inr false)):=λi hi=>by
   have hmem:=Ah (d:=(default:Ab)) hi;obtain⟨b1,b2,b3⟩:=hf.block _ hmem;have hPh:=hf.phi _ hmem;have hOp:=hf.op _ hmem;have hM:=Qk
   have e0:decide ((i:Int)<(f.Blocks.length:Int))=true:=by simpa using hi
   have l1:=Ha (f.Blocks.getD i default).Phis (default:A1) IE (Gt f i) (.inl ()) (.inr false) (λj hj hp=>by
     obtain⟨p1,p2⟩:=hPh _ (Ah (d:=(default:A1)) hj)
     have e1:decide ((j:Int)<((f.Blocks.getD i default).Phis.length:Int))=true:=by simpa using hj
     unfold Gt;simp only[e1,Af,Cr,Aa (Ag hj),Wq,Ak,Tw _ p1,Tw _ p2,A3 hj (by omega)]
     revert hp
     unfold IE
     cases numB ((f.Blocks.getD i default).Phis.getD j default).Bits<;>cases numB ((f.Blocks.getD i default).Phis.getD j default).Dst<;>cases listB ((f.Blocks.getD i default).Phis.getD j default).From<;>cases listB ((f.Blocks.getD i default).Phis.getD j default).Args<;>simp) (λj hj hp=>by
     obtain⟨p1,p2⟩:=hPh _ (Ah (d:=(default:A1)) hj)
     have e1:decide ((j:Int)<((f.Blocks.getD i default).Phis.length:Int))=true:=by simpa using hj
     unfold Gt;simp only[e1,Af,Cr,Aa (Ag hj),Wq,Ak,Tw _ p1,Tw _ p2,A3 hj (by omega)]
     revert hp
     unfold IE
     cases numB ((f.Blocks.getD i default).Phis.getD j default).Bits<;>cases numB ((f.Blocks.getD i default).Phis.getD j default).Dst<;>cases listB ((f.Blocks.getD i default).Phis.getD j default).From<;>cases listB ((f.Blocks.getD i default).Phis.getD j default).Args<;>simp) (by
     unfold Gt
     simp) _ 0 (Ie _)
   have l2:=Ha (f.Blocks.getD i default).Ops (default:Ay) gX (Gu f i) (.inl ()) (.inr false) (λj hj hp=>by
     obtain⟨p1,_⟩:=hOp _ (Ah (d:=(default:Ay)) hj)
     have e1:decide ((j:Int)<((f.Blocks.getD i default).Ops.length:Int))=true:=by simpa using hj
     unfold Gu;simp only[e1,Af,Cr,Aa (Ag hj),Wq,Ak,Tw _ p1,A3 hj (by omega)]
     revert hp
     unfold gX
     cases numB ((f.Blocks.getD i default).Ops.getD j default).Kind<;>cases numB ((f.Blocks.getD i default).Ops.getD j default).Bits<;>cases numB ((f.Blocks.getD i default).Ops.getD j default).Lanes<;>cases numB ((f.Blocks.getD i default).Ops.getD j default).Dst<;>cases listB ((f.Blocks.getD i default).Ops.getD j default).Args<;>simp) (λj hj hp=>by
     obtain⟨p1,_⟩:=hOp _ (Ah (d:=(default:Ay)) hj)
     have e1:decide ((j:Int)<((f.Blocks.getD i default).Ops.length:Int))=true:=by simpa using hj
     unfold Gu;simp only[e1,Af,Cr,Aa (Ag hj),Wq,Ak,Tw _ p1,A3 hj (by omega)]
     revert hp
     unfold gX
     cases numB ((f.Blocks.getD i default).Ops.getD j default).Kind<;>cases numB ((f.Blocks.getD i default).Ops.getD j default).Bits<;>cases numB ((f.Blocks.getD i default).Ops.getD j default).Lanes<;>cases numB ((f.Blocks.getD i default).Ops.getD j default).Dst<;>cases listB ((f.Blocks.getD i default).Ops.getD j default).Args<;>simp) (by
     unfold Gu
     simp) _ 0 (Ie _)
   rw[show((0:Nat):Int)=0 from rfl,Qs]at l1 l2;unfold Em;simp only[e0,Af,Aa (Ag hi),l1,Ak];unfold blockB
   cases(f.Blocks.getD i default).Phis.all IE with
   | false=>rfl
   | true=>
    simp only[Af,l2,Ak,Cr,Wq,Tw _ b3,A3 hi (by have:=hf.blocks;omega)]
    cases(f.Blocks.getD i default).Ops.all gX with
    | false=>rfl
    | true=>
     unfold iT
     cases numB (f.Blocks.getD i default).End.Kind<;>cases numB (f.Blocks.getD i default).End.Arg<;>cases listB (f.Blocks.getD i default).End.To<;>rfl
  exact Ha f.Blocks (default:Ab) blockB (Em f) (.inl ()) (.inr false) (λi hi hp=>by rw[step i hi,hp];rfl) (λi hi hp=>by rw[step i hi,hp];rfl) (by
   unfold Em
   simp) _ 0 (Ie _)
 rw[show((0:Nat):Int)=0 from rfl,Qs]at hloop;unfold G1 Qx;simp only[Tw _ hf.params,Wq,sD f hf,hloop]
 have e1:((f.Blocks.length:Int)==0) = !decide (1<=f.Blocks.length):=by
  rw[<- decide_not]
  by_cases h:f.Blocks.length=0
  ·simp[h]
  ·have h1:((f.Blocks.length:Int)==0)=false:=by simpa using h
   rw[h1];symm;apply Db;omega
 have e2:decide ((64:Int)<(f.Blocks.length:Int)) = !decide (f.Blocks.length<=64):=by rw[<- decide_not];apply zzL71.2;omega
 have e3:decide ((16:Int)<(f.Params.length:Int)) = !decide (f.Params.length<=16):=by rw[<- decide_not];apply zzL71.2;omega
 have e4:decide ((512:Int)<sizeW f) = !decide (sizeW f<=512):=by rw[<- decide_not];apply zzL71.2;omega
 rw[e1,e2,e3]
 generalize decide (1<=f.Blocks.length)=p1
 generalize decide (f.Blocks.length<=64)=p2
 generalize decide (f.Params.length<=16)=p3
 generalize listB f.Params=p4
 generalize numB f.Ret=p5
 cases p1 with
 | false=>simp
 | true=>cases p2 with
  | false=>simp
  | true=>cases p3 with
   | false=>simp
   | true=>cases p4 with
    | false=>simp
    | true=>cases p5 with
     | false=>simp
     | true=>
      simp only[C0,Bool.or_self,Af,Ar,Wv,Ak,e4]
      cases decide (sizeW f<=512) with
      | false=>simp
      | true=>cases f.Blocks.all blockB<;>simp
theorem LV{α:Type}[BEq α](l m:List α):(l.drop 0==m.drop 0)=(l==m):=by simp
theorem bt{α β:Type}(l:List α)(m:List β):((l.length:Int)!=(m.length:Int)) = !decide (l.length=m.length):=by
 grind
theorem JM{α:Type}[BEq α][LawfulBEq α][DecidableEq α](x y:α):(x==y)=decide (x=y):=by
 grind
theorem Vo(l m:List Int)(hl:l.length<=maxLen):Ba l m=some (decide (l=m)):=by
 unfold Ba;rw[Qk]at hl;rw[bt]
 by_cases he:l.length=m.length
 ·have hloop:=KB l m 0 (B2 l m) (.inl ()) (.inr false) he (λi hi hp=>by
    unfold B2
    have:decide (i<(l.length:Int))=true:=by simpa using hi
    simp only[this,Af,Aa (Ag hi),Aa (Ag (show i<m.length by omega)),Cr,bne,hp,C0,Ar,A3 hi (by omega)]) (λi hi hp=>by
    unfold B2
    have:decide ((i:Int)<l.length)=true:=by simpa using hi
    simp only[this,Af,Aa (Ag hi),Aa (Ag (show i<m.length by omega)),Cr,bne,hp,J0]) (by
    unfold B2
    simp) l.length 0 (by omega)
  rw[Gi he,C0, show(0:Int)=(0:Nat) from rfl,hloop,LV,JM]
  cases decide (l=m)<;>rfl
 ·have e3:decide (l=m)=false:=Db (by rintro rfl;exact he rfl);rw[Db he,e3];rfl
theorem sC(a b:Ay)(h:a.Args.length<=maxLen):Lh a b=some (decide (a=b)):=by
 unfold Lh;rw[Vo _ _ h];obtain⟨k,b1,n,d,ar,i⟩:=a;obtain⟨k',b1',n',d',ar',i'⟩:=b
 have:decide ((⟨k,b1,n,d,ar,i⟩:Ay)=⟨k',b1',n',d',ar',i'⟩)=((k==k')&&(b1==b1')&&(n==n')&&(d==d')&&(i==i')&&decide (ar=ar')):=by
  grind
 rw[this]
 cases(k==k')<;>cases(b1==b1')<;>cases(n==n')<;>cases(d==d')<;>cases(i==i')<;>rfl
theorem lX(p q:A1):(p==q)=((p.Bits==q.Bits)&&(p.Dst==q.Dst)&&decide (p.From=q.From)&&decide (p.Args=q.Args)):=by
 rw[ Ul];obtain⟨a,b,c,d⟩:=p;obtain⟨a',b',c',d'⟩:=q;simp[and_assoc]
theorem mt(x y:Ab):(x==y)=(decide (x.Phis=y.Phis)&&decide (x.Ops=y.Ops)&&((x.End.Kind==y.End.Kind)&&(x.End.Arg==y.End.Arg)&&decide (x.End.To=y.End.To))):=by
 rw[ Ul];obtain⟨p,o,⟨k,a,t⟩⟩:=x;obtain⟨p',o',⟨k',a',t'⟩⟩:=y;simp[and_assoc]
theorem qd(x y:TFunc):decide (x=y)=((x.Ret==y.Ret)&&decide (x.Params=y.Params)&&decide (x.Blocks=y.Blocks)):=by
 rw[Ul];obtain⟨p,r,b⟩:=x;obtain⟨p',r',b'⟩:=y
 constructor
 ·grind
 ·grind
theorem fm(a b:TFunc)(ha:NT a):Ia a b=some (decide (a=b)):=by
 have hM:=Qk;unfold Ia;rw[Vo _ _ ha.params,qd];simp only[bt]
 by_cases hr:a.Ret=b.Ret
 ·have e1:(a.Ret !=b.Ret)=false:=by simpa using hr
  have e1':(a.Ret==b.Ret)=true:=by simpa using hr
  rw[e1,e1']
  cases hp:decide (a.Params=b.Params) with
  | false=>rfl
  | true=>
   by_cases hlen:a.Blocks.length=b.Blocks.length
   ·have step:∀ i:Nat,i<a.Blocks.length->F2 a b (i:Int)=bif (a.Blocks.getD i default==b.Blocks.getD i default) then some (.next ((i:Int)+1)) else some (.done (.inr false)):=λi hi=>by
     have hmem:=Ah (d:=(default:Ab)) hi;obtain⟨b1,b2,b3⟩:=ha.block _ hmem;have hPh:=ha.phi _ hmem;have hOp:=ha.op _ hmem
     have e0:decide ((i:Int)<(a.Blocks.length:Int))=true:=by simpa using hi
     have hI:As (i:Int) b.Blocks.length:=Ag (by omega);rw[mt];unfold F2;simp only[e0,Af,Aa (Ag hi),Aa hI,Cr,Vo _ _ b3,bt]
     by_cases hphi:(a.Blocks.getD i default).Phis.length=(b.Blocks.getD i default).Phis.length
     ·by_cases hops:(a.Blocks.getD i default).Ops.length=(b.Blocks.getD i default).Ops.length
      ·rw[Gi hphi,Gi hops]
       have l1:=KB (a.Blocks.getD i default).Phis (b.Blocks.getD i default).Phis (default:A1) (F0 a b i) (.inl ()) (.inr false) hphi (λj hj hp=>by
         obtain⟨p1,p2⟩:=hPh _ (Ah (d:=(default:A1)) hj)
         have q0:decide ((j:Int)<((a.Blocks.getD i default).Phis.length:Int))=true:=by simpa using hj
         rw[lX]at hp;unfold F0;simp only[q0,Af,Cr,Aa (Ag hj),Aa (Ag (show j<(b.Blocks.getD i default).Phis.length by omega)),Vo _ _ p1,Vo _ _ p2,A3 hj (by omega),bne]
         revert hp
         cases(((a.Blocks.getD i default).Phis.getD j default).Bits==((b.Blocks.getD i default).Phis.getD j default).Bits)<;>cases(((a.Blocks.getD i default).Phis.getD j default).Dst==((b.Blocks.getD i default).Phis.getD j default).Dst)<;>cases decide (((a.Blocks.getD i default).Phis.getD j default).From=((b.Blocks.getD i default).Phis.getD j default).From)<;>cases decide (((a.Blocks.getD i default).Phis.getD j default).Args=((b.Blocks.getD i default).Phis.getD j default).Args)<;>simp) (λj hj hp=>by
         obtain⟨p1,p2⟩:=hPh _ (Ah (d:=(default:A1)) hj)
         have q0:decide ((j:Int)<((a.Blocks.getD i default).Phis.length:Int))=true:=by simpa using hj
         rw[lX]at hp;unfold F0;simp only[q0,Af,Cr,Aa (Ag hj),Aa (Ag (show j<(b.Blocks.getD i default).Phis.length by omega)),Vo _ _ p1,Vo _ _ p2,A3 hj (by omega),bne]
         revert hp
         cases(((a.Blocks.getD i default).Phis.getD j default).Bits==((b.Blocks.getD i default).Phis.getD j default).Bits)<;>cases(((a.Blocks.getD i default).Phis.getD j default).Dst==((b.Blocks.getD i default).Phis.getD j default).Dst)<;>cases decide (((a.Blocks.getD i default).Phis.getD j default).From=((b.Blocks.getD i default).Phis.getD j default).From)<;>cases decide (((a.Blocks.getD i default).Phis.getD j default).Args=((b.Blocks.getD i default).Phis.getD j default).Args)<;>simp) (by
         unfold F0
         simp) _ 0 (Ie _)
       have l2:=KB (a.Blocks.getD i default).Ops (b.Blocks.getD i default).Ops (default:Ay) (F1 a b i) (.inl ()) (.inr false) hops (λj hj hp=>by
         obtain⟨p1,_⟩:=hOp _ (Ah (d:=(default:Ay)) hj)
         have q0:decide ((j:Int)<((a.Blocks.getD i default).Ops.length:Int))=true:=by simpa using hj
         rw[JM]at hp;unfold F1
         simp only[q0,Af,Cr,Aa (Ag hj),Aa (Ag (show j<(b.Blocks.getD i default).Ops.length by omega)),sC _ _ p1,A3 hj (by omega),hp,Ak,C0,Ar]) (λj hj hp=>by
         obtain⟨p1,_⟩:=hOp _ (Ah (d:=(default:Ay)) hj)
         have q0:decide ((j:Int)<((a.Blocks.getD i default).Ops.length:Int))=true:=by simpa using hj
         rw[JM]at hp;unfold F1
         simp only[q0,Af,Cr,Aa (Ag hj),Aa (Ag (show j<(b.Blocks.getD i default).Ops.length by omega)),sC _ _ p1,hp,Ak,J0,Af]) (by
         unfold F1
         simp) _ 0 (Ie _)
       rw[show((0:Nat):Int)=0 from rfl,LV,JM]at l1 l2;simp only[l1,Ak,A3 hi (by have:=ha.blocks;omega),bne]
       cases((a.Blocks.getD i default).End.Kind==(b.Blocks.getD i default).End.Kind)<;>cases((a.Blocks.getD i default).End.Arg==(b.Blocks.getD i default).End.Arg)<;>cases decide ((a.Blocks.getD i default).End.To=(b.Blocks.getD i default).End.To)<;>cases decide ((a.Blocks.getD i default).Phis=(b.Blocks.getD i default).Phis)<;>simp only[C0,J0,Af,Ar,l2,EL,Bool.and_false,Hn,HD,Ak]
       all_goals first|rfl|(cases decide ((a.Blocks.getD i default).Ops=(b.Blocks.getD i default).Ops)<;>rfl)
      ·grind
     ·grind
    have hloop:=KB a.Blocks b.Blocks (default:Ab) (F2 a b) (.inl ()) (.inr false) hlen (λi hi hp=>by rw[step i hi,hp];rfl) (λi hi hp=>by rw[step i hi,hp];rfl) (by
     unfold F2
     simp) _ 0 (Ie _)
    rw[show((0:Nat):Int)=0 from rfl,LV,JM]at hloop;rw[Gi hlen];simp only[hloop,C0,Ar,Af,Ak,bne,Hn,EL,J0]
    all_goals first|rfl|(cases decide (a.Blocks=b.Blocks)<;>rfl)
   ·have:decide (a.Blocks=b.Blocks)=false:=Db λh=>hlen (by rw[h]);rw[Db hlen,this]
    rfl
 ·have e1:(a.Ret !=b.Ret)=true:=by simpa using hr
  have e1':(a.Ret==b.Ret)=false:=by simpa using hr
  rw[e1,e1']
  rfl
theorem rI{n:Int}:numB n=true↔0<=n/\n<=2147483647:=by simp[numB]
theorem listB_iff{l:List Int}:listB l=true↔qh l/\l.length<=64:=by
 simp[listB,qh,rI]
def Acx(n:Int):Prop:=0<=n/\n<18446744073709551616
structure OkB(b:Ab):Prop where
 may:blockB b=true
 phis:b.Phis.length<=512
 ops:b.Ops.length<=512
 imm:∀ o∈b.Ops,Acx o.Imm
structure OkF(f:TFunc):Prop where
 params:listB f.Params=true
 few:f.Params.length<=16
 ret:numB f.Ret=true
 blocks:f.Blocks.length<=64
 block:∀ b∈f.Blocks,OkB b
theorem blockB_iff{b:Ab}:blockB b=true↔(∀ p∈b.Phis,IE p=true)/\(∀ o∈b.Ops,gX o=true)/\iT b.End=true:=by
 simp[blockB,and_assoc]
theorem cd{α:Type}(l:List α)(g:α->Nat)(B:Nat)(h:∀ a∈l,g a<=B):(l.map g).sum<=l.length*B:=by
 induction l with
 | nil=>simp
 | cons a l ih=>
  have h1:=h a (by simp);have h2:=ih (λb hb=>h b (by simp[hb]));rw[Cz,List.sum_cons,Tz,J9];omega
theorem sK{α:Type}(l:List α)(g k:α->Nat)(h:∀ a∈l,g a<=k a):(l.map g).sum<=(l.map k).sum:=by
 induction l with
 | nil=>simp
 | cons a l ih=>
  grind
theorem SL{α:Type}(l:List α)(g:α->Nat)(h:∀ a∈l,1<=g a):l.length<=(l.map g).sum:=by
 induction l with
 | nil=>simp
 | cons a l ih=>
  grind
theorem iw{α:Type}{l:List α}{a:α}(g:α->Nat)(h:a∈l):g a<=(l.map g).sum:=by
 induction l with
 | nil=>cases h
 | cons b l ih=>
  grind
theorem OkF.size{f:TFunc}(h:OkF f):Sn f<=65600/\sizeW f=Sn f:=by
 have:Sn f<=f.Blocks.length*1025:=cd _ _ _ λb hb=>by
  have h1:=(h.block b hb).phis;have h2:=(h.block b hb).ops;simp only[Vt];omega
 have h2:=h.blocks
 have h3:Sn f<=65600:=by omega
 exact⟨h3,KY (by omega)⟩
theorem MG{f:TFunc}(h:Qx f=true):1<=f.Blocks.length/\f.Blocks.length<=64/\f.Params.length<=16/\listB f.Params=true/\numB f.Ret=true/\sizeW f<=512/\∀ b∈f.Blocks,blockB b=true:=by
 simp only[Qx,A4,Jd,zzL29]at h;exact⟨h.1.1.1.1.1.1,h.1.1.1.1.1.2,h.1.1.1.1.2,h.1.1.1.2,h.1.1.2,h.1.2,h.2⟩
theorem nX{f:TFunc}(h:Qx f=true):f.Params.length<=64/\∀ b∈f.Blocks,b.End.To.length<=64/\(∀ p∈b.Phis,p.From.length<=64/\p.Args.length<=64)/\∀ o∈b.Ops,o.Args.length<=64:=by
 obtain⟨_,_,h3,_,_,_,h7⟩:=MG h;refine⟨by omega,λb hb=>?_⟩;obtain⟨q1,q2,q3⟩:=blockB_iff.1 (h7 b hb);simp only[iT,A4]at q3;refine⟨(listB_iff.1 q3.2).2,λp hp=>?_,λo ho=>?_⟩
 ·have:=q1 p hp;simp only[IE,A4]at this;exact⟨(listB_iff.1 this.1.2).2,(listB_iff.1 this.2).2⟩
 ·have:=q2 o ho;simp only[gX,A4]at this;exact(listB_iff.1 this.2).2
theorem zV{f:TFunc}(hf:NT f)(h:Qx f=true)(hs:iU f<=20000):OkF f/\Sn f<=512:=by
 obtain⟨h1,h2,h3,h4,h5,h6,h7⟩:=MG h
 have hle:Sn f<=iU f:=by
  have:Sn f<=(f.Blocks.map XL).sum:=sK _ _ _ λb hb=>by
   have q1:b.Phis.length<=(b.Phis.map eI).sum:=SL _ _ λp hp=>by simp only[eI];omega
   have q2:b.Ops.length<=(b.Ops.map eH).sum:=SL _ _ λp hp=>by simp only[eH];omega
   simp only[Vt,XL];omega
  simp only[iU];omega
 have hw:sizeW f=Sn f:=KY (by omega)
 have h512:Sn f<=512:=by omega
 refine⟨⟨h4,h3,h5,h2,λb hb=>?_⟩,h512⟩;have hb512:Vt b<=Sn f:=iw _ hb;simp only[Vt]at hb512;exact⟨h7 b hb,by omega,by omega,λo ho=>(hf.op b hb o ho).2⟩
theorem PA(f:TFunc)(hf:NT f):∃ sm,C1 f=some sm/\(sm=true->Qx f=true->OkF f/\Sn f<=512/\1<=f.Blocks.length):=by
 obtain⟨sm,h⟩:=UI f hf;refine⟨sm,h,λh1 h2=>?_⟩;obtain⟨q1,q2⟩:=nX h2;rw[ft f hf q1 q2]at h;obtain⟨r1,r2⟩:=zV hf h2 (by grind);exact⟨r1,r2,(MG h2).1⟩
def KA(l:Int):Int:=bif l==0 then 17 else bif l==1 then 20 else 22
def R6(l:Int)(o:Ay):Bool:=Ih o&&!decide (KA l<o.Kind)&&!(decide (l<2)&&decide (1<o.Lanes))
def J3(l:Int)(b:Ab):Bool:=(b.Phis.all λp=>widthB p.Bits)&&b.Ops.all (R6 l)
def Vw(f:TFunc)(l:Int):Bool:=f.Params.all widthB&&f.Blocks.all (J3 l)&&widthB f.Ret
theorem wJ{m a b c:Bool}{x:Int}:(bif (bif (bif (!m) then true else a) then true else(bif b then c else false)) then(some (LR.done (Sum.inr false))) else some (LR.next x):Option (LR Int (Unit ⊕ Bool)))=some (bif (m&&!a&&!(b&&c)) then .next x else .done (.inr false)):=by
 grind
theorem ng{f:TFunc}(hf:OkF f){b:Ab}(hb:b∈f.Blocks){o:Ay}(ho:o∈b.Ops):dT o:=by
 have h1:=hf.block b hb;have h2:=(blockB_iff.1 h1.may).2.1 o ho;simp only[gX,A4]at h2;exact⟨⟨(h1.imm o ho).1,(h1.imm o ho).2⟩,by have:=(listB_iff.1 h2.2).2;omega⟩
theorem vp{f:TFunc}(hf:OkF f)(l:Int):Km f l=some (Vw f l):=by
 have hp:=Ha f.Params (0:Int) widthB (Fa f) (.inl ()) (.inr false) (λi hi hp=>by
   unfold Fa
   have:decide ((i:Int)<(f.Params.length:Int))=true:=by simpa using hi
   simp only[this,Af,Aa (Ag hi),Cr,Tv,Ak,hp,C0,Ar,A3 hi (by have:=hf.few;omega)]) (λi hi hp=>by
   unfold Fa
   have:decide ((i:Int)<(f.Params.length:Int))=true:=by simpa using hi
   simp only[this,Af,Aa (Ag hi),Cr,Tv,Ak,hp,J0]) (by
   unfold Fa;simp) f.Params.length 0 (by omega)
 have hb:=Ha f.Blocks (default:Ab) (J3 l) (Fb f l) (.inl ()) (.inr false)
 have hphi:∀ i:Nat,i<f.Blocks.length->Ad (Dr f (i:Int)) (0:Int)=some _:=λi hi=>by
  have hB:=hf.block _ (Ah (d:=(default:Ab)) hi)
  have:=Ha (f.Blocks.getD i default).Phis (default:A1) (λp=>widthB p.Bits) (Dr f (i:Int)) (.inl ()) (.inr false) (λj hj hp=>by
   unfold Dr
   have:decide ((j:Int)<((f.Blocks.getD i default).Phis.length:Int))=true:=by simpa using hj
   simp only[Aa (Ag hi),Cr,this,Af,Aa (Ag hj),Tv,Ak,hp,C0,Ar,A3 hj (by have:=hB.phis;omega)]) (λj hj hp=>by
   unfold Dr
   have:decide ((j:Int)<((f.Blocks.getD i default).Phis.length:Int))=true:=by simpa using hj
   simp only[Aa (Ag hi),Cr,this,Af,Aa (Ag hj),Tv,Ak,hp,J0]) (by
   unfold Dr;simp[Aa (Ag hi)]) (f.Blocks.getD i default).Phis.length 0 (by omega)
  rw[show(0:Int)=((0:Nat):Int) from rfl,this,Qs]
 have hops:∀ i:Nat,i<f.Blocks.length->Ad (Ds f l (i:Int)) (0:Int)=some _:=λi hi=>by
  have hmem:=Ah (d:=(default:Ab)) hi;have hB:=hf.block _ hmem
  have key:∀(j:Nat),j<(f.Blocks.getD i default).Ops.length->Ds f l (i:Int) (j:Int)=some (bif R6 l ((f.Blocks.getD i default).Ops.getD j default) then .next ((j:Int)+1) else .done (.inr false)):=λj hj=>by
   unfold Ds
   have hd:decide ((j:Int)<((f.Blocks.getD i default).Ops.length:Int))=true:=by simpa using hj
   have hok:=ng hf hmem (Ah (d:=(default:Ay)) hj);simp only[Aa (Ag hi),Cr,hd,Af,Aa (Ag hj),A3 hj (by have:=hB.ops;omega)];unfold R6 KA;cases h1:(l==1)<;>cases h0:(l==0)<;>simp only[Af,Ar,Ak,cT _ hok,wJ]
  have:=Ha (f.Blocks.getD i default).Ops (default:Ay) (R6 l) (Ds f l (i:Int)) (.inl ()) (.inr false) (λj hj hp=>by rw[key j hj,hp];rfl) (λj hj hp=>by rw[key j hj,hp];rfl) (by
   unfold Ds;simp[Aa (Ag hi)]) (f.Blocks.getD i default).Ops.length 0 (by omega)
  rw[show(0:Int)=((0:Nat):Int) from rfl,this,Qs]
 have hb':=hb (λi hi hp=>by
   unfold Fb
   have:decide ((i:Int)<(f.Blocks.length:Int))=true:=by simpa using hi
   simp only[J3,A4]at hp
   simp only[this,Af,hphi i hi,hops i hi,hp.1,hp.2,Ak,A3 hi (by have:=hf.blocks;omega)]) (λi hi hp=>by
   unfold Fb
   have:decide ((i:Int)<(f.Blocks.length:Int))=true:=by simpa using hi
   simp only[J3]at hp;simp only[this,Af,hphi i hi,hops i hi,Ak]
   cases h1:((f.Blocks.getD i default).Phis.all λp=>widthB p.Bits) with
   | false=>rfl
   | true=>grind) (by
   unfold Fb;simp) f.Blocks.length 0 (by omega)
 unfold Km Vw;rw[show(0:Int)=((0:Nat):Int) from rfl,hp,hb',Qs,Qs]
 cases f.Params.all widthB<;>cases f.Blocks.all (J3 l)<;>simp[Tv]
theorem KT:room=1099511627776:=rfl
theorem Ma{β:Type}(n A C:Nat)(E:Nat->List β)(hE:∀ i,i<n->(E i).length<=C)(f:List β×Int->Option (LR (List β×Int) (List β)))
  (hn:∀(acc:List β) (i:Nat),i<n->acc.length<=A+i*C->f (acc,(i:Int))=some (.next (acc++E i,(i:Int)+1)))
  (hd:∀ acc:List β,f (acc,(n:Int))=some (.done acc)):∀(k i:Nat) (acc:List β),i+k=n->acc.length<=A+i*C->Ad f (acc,(i:Int))=some (acc++(List.range' i k).flatMap E)
 | 0,i,acc,h,_=>by
  obtain rfl:i=n:=by omega
  rw[Am (hd acc)]
  simp
 | k+1,i,acc,h,hA=>by
  have hi:i<n:=by omega
  have h2:acc.length+C<=A+(i+1)*C:=by rw[J9];omega
  rw[Aq (hn acc i hi hA),show(i+1)=((i+1:Nat):Int) by omega,Ma n A C E hE f hn hd k _ _ (by omega) (by grind),HC,UZ,LC]
theorem Js{β:Type}(C:Nat)(E:Nat->List β):∀ l:List Nat,(∀ i∈l,(E i).length<=C)->(l.flatMap E).length<=l.length*C
 | [],_=>by simp
 | a::l,h=>by
  have h1:=h a (by simp);have h2:=Js C E l (λi hi=>h i (by simp[hi]));rw[UZ,G3,Tz,J9];omega
def N6(l:List Ch)(v:Int):Int:=match l.findIdx? (λd=>d.V==v) with|some i=>(i:Int)|none=>-1
theorem bu(l:List Ch)(v:Int)(hl:l.length<=1000000):Ef l v=some (N6 l v):=by
 have key:∀(k i:Nat),i+k=l.length->Ad (F8 l v) i=some (match(l.drop i).findIdx? (λd=>d.V==v) with|some j=>.inr (i+j:Nat)|none=>.inl ()):=by
  intro k
  induction k with
  | zero=>
   intro i h
   obtain rfl:i=l.length:=by omega
   rw[Am (x:=.inl ()) (by unfold F8;simp)]
   simp
  | succ k ih=>
   intro i h
   have hi:i<l.length:=by omega
   have hdr:l.drop i=l.getD i default::l.drop (i+1):=by simp_all
   have hd:decide (i<(l.length:Int))=true:=by simpa using hi
   rw[hdr,List.findIdx?_cons]
   cases hb:(l.getD i _).V==v with
   | true=>
    rw[Am (x:=.inr i) (by unfold F8;simp only[hd,Af,Aa (Ag hi),Cr,hb])]
    simp
   | false=>
    rw[Aq (s':=((i+1:Nat):Int)) (by unfold F8;simp only[hd, Aa (Ag hi),Cr,hb, A3 hi (by omega)];rfl),ih _ (by omega)]
    cases(l.drop _).findIdx? _ with
    | none=>simp
    | some j=>simp;omega
 unfold Ef N6;rw[show 0=((0:Nat):Int) from rfl,key l.length 0 (by omega),Qs]
 cases l.findIdx? _ with
 | none=>rfl
 | some j=>simp
def Qb(o:Ay):Int×Int:=bif Ih o then HV o.Kind o.Bits o.Lanes else(0,0)
def Jq(o:Ay):List (Int×Int):=bif Ih o then Zs o else[]
def Uh(f:TFunc):List Ch:=(List.range f.Params.length).flatMap λ(i:Nat)=>[⟨(i:Int)+1,-1,0,(f.Params.getD i 0,1)⟩]
def Wf(b:Ab)(i:Nat):List Ch:=(List.range b.Phis.length).flatMap λ(k:Nat)=>[⟨(b.Phis.getD k default).Dst,i,-1,((b.Phis.getD k default).Bits,1)⟩]
def HU(b:Ab)(i:Nat):List Ch:=(List.range b.Ops.length).flatMap λ(k:Nat)=>bif decide (0<(Qb (b.Ops.getD k default)).1) then[⟨(b.Ops.getD k default).Dst,i,k,Qb (b.Ops.getD k default)⟩] else[]
def U8(b:Ab)(i:Nat):List Ch:=Wf b i++HU b i
def Bf(f:TFunc):List Ch:=Uh f++(List.range f.Blocks.length).flatMap λi=>U8 (f.Blocks.getD i default) i
theorem NZ(b:Ab)(i:Nat):(Wf b i).length<=b.Phis.length:=by
 have:=Js 1 (λk=>[(⟨(b.Phis.getD k default).Dst,i,-1,((b.Phis.getD k default).Bits,1)⟩:Ch)]) (List.range b.Phis.length) (λ_ _=>zzL7 _)
 simpa [Wf] using this
theorem iS(b:Ab)(i:Nat):(HU b i).length<=b.Ops.length:=by
 have:=Js 1 (λk=>bif decide (0<(Qb (b.Ops.getD k default)).1) then[(⟨(b.Ops.getD k default).Dst,i,k,Qb (b.Ops.getD k default)⟩:Ch)] else[]) (List.range b.Ops.length) (λk _=>by grind)
 simpa [HU] using this
theorem YX{f:TFunc}(hf:OkF f){i:Nat}(hi:i<f.Blocks.length):(U8 (f.Blocks.getD i default) i).length<=1024:=by
 have hB:=hf.block _ (Ah (d:=default) hi);have h1:=NZ (f.Blocks.getD i default) i;have h2:=iS (f.Blocks.getD i default) i;have h3:=hB.phis;have h4:=hB.ops;rw[U8,G3];omega
theorem FI(f:TFunc):(Uh f).length=f.Params.length:=by
 have h:∀ l:List Nat,(l.map λ_=>1).sum=l.length:=λl=>by induction l with|nil=>rfl|cons a l ih=>simp[ih];omega
 simp[Uh, h]
theorem nB{f:TFunc}(hf:OkF f):(Bf f).length<=100000:=by
 have h1:=Js _ _ (List.range _) (λi hi=>YX hf (by simpa using hi));have h2:=FI f;have h3:=hf.few;have h4:=hf.blocks;rw[Sq]at h1;rw[Bf,G3];omega
theorem zP{f:TFunc}(hf:OkF f):Ln f=some (Bf f):=by
 have hp:=Ma f.Params.length 0 1 (λ(i:Nat)=>[(⟨(i:Int)+1,-1,0,(f.Params.getD i 0,1)⟩:Ch)]) (λ_ _=>zzL7 _) (Ix f) (λacc i hi hA=>by
   unfold Ix
   have hd:decide ((i:Int)<(f.Params.length:Int))=true:=by simpa using hi
   have hr:acc.length+([(⟨(i:Int)+1,(-1:Int),(0:Int),((f.Params.getD i 0),(1:Int))⟩:Ch)]:List (Ch)).length<=room:=by have:=hf.few;rw[KT];simp;omega
   simp only[hd,Af,Aa (Ag hi),Cr,A3 hi (by have:=hf.few;omega),Aa hr]) (λacc=>by unfold Ix;simp) f.Params.length 0 [] (by omega) (by simp)
 have hphi:∀(i:Nat),i<f.Blocks.length->∀ acc:List Ch,acc.length<=100000->Ad (F6 f (i:Int)) (acc,(0:Int))=some (acc++Wf (f.Blocks.getD i default) i):=λi hi acc hacc=>by
  have hB:=hf.block _ (Ah (d:=(default:Ab)) hi)
  have:=Ma (f.Blocks.getD i default).Phis.length 100000 1 (λ(k:Nat)=>[(⟨((f.Blocks.getD i default).Phis.getD k default).Dst,i,-1,(((f.Blocks.getD i default).Phis.getD k default).Bits,1)⟩:Ch)]) (λ_ _=>zzL7 _) (F6 f (i:Int)) (λacc k hk hA=>by
   unfold F6
   have hd:decide ((k:Int)<((f.Blocks.getD i default).Phis.length:Int))=true:=by simpa using hk
   have hr:∀ x:Ch,acc.length+([x]:List Ch).length<=room:=λx=>by have:=hB.phis;rw[KT];simp;omega
   simp only[Cr,hd,Af,Aa (Ag hk),A3 hk (by have:=hB.phis;omega),Aa (hr _)]) (λacc=>by unfold F6;simp) (f.Blocks.getD i default).Phis.length 0 acc (by omega) (by omega)
  rw[show(0:Int)=((0:Nat):Int) from rfl,this,Wf,Sp]
 have hop:∀(i:Nat),i<f.Blocks.length->∀ acc:List Ch,acc.length<=100000->Ad (F7 f (i:Int)) (acc,(0:Int))=some (acc++HU (f.Blocks.getD i default) i):=λi hi acc hacc=>by
  have hmem:=Ah (d:=(default:Ab)) hi;have hB:=hf.block _ hmem
  have:=Ma (f.Blocks.getD i default).Ops.length 100000 1 (λ(k:Nat)=>bif decide (0<(Qb ((f.Blocks.getD i default).Ops.getD k default)).1) then[(⟨((f.Blocks.getD i default).Ops.getD k default).Dst,i,k,Qb ((f.Blocks.getD i default).Ops.getD k default)⟩:Ch)] else[]) (λk _=>by grind) (F7 f (i:Int)) (λacc k hk hA=>by
   unfold F7;have hok:=ng hf hmem (Ah (d:=(default:Ay)) hk)
   have hd:decide ((k:Int)<((f.Blocks.getD i default).Ops.length:Int))=true:=by simpa using hk
   have hr:∀ x:Ch,acc.length+([x]:List Ch).length<=room:=λx=>by have:=hB.ops;rw[KT];simp;omega
   have hg:Hd ((f.Blocks.getD i default).Ops.getD k default)=some (Qb ((f.Blocks.getD i default).Ops.getD k default)):=np _ hok;simp only[Cr,hd,Af,Aa (Ag hk),hg,Ak,A3 hk (by have:=hB.ops;omega),Aa (hr _)]
   cases decide (0<(Qb ((f.Blocks.getD i default).Ops.getD k default)).1)<;>simp) (λacc=>by unfold F7;simp) (f.Blocks.getD i default).Ops.length 0 acc (by omega) (by omega)
  rw[show(0:Int)=((0:Nat):Int) from rfl,this,HU,Sp]
 have hb:=Ma f.Blocks.length 16 1024 (λi=>U8 (f.Blocks.getD i default) i) (λi hi=>YX hf hi) (Iy f) (λacc i hi hA=>by
   unfold Iy
   have hd:decide ((i:Int)<(f.Blocks.length:Int))=true:=by simpa using hi
   have hB:=hf.block _ (Ah (d:=(default:Ab)) hi);have h64:=hf.blocks;have h2:=NZ (f.Blocks.getD i default) i;have h3:=hB.phis
   simp only[hd,Af,Aa (Ag hi),hphi i hi acc (by omega),Ak,hop i hi (acc++Wf (f.Blocks.getD i default) i) (by rw[G3];omega),A3 hi (by omega),U8,LC]) (λacc=>by unfold Iy;simp) f.Blocks.length 0 (Uh f) (by omega) (by have:=FI f;have:=hf.few;omega)
 unfold Ln;rw[show(0:Int)=((0:Nat):Int) from rfl,hp,Ak,Um]
 have e:(List.range' 0 f.Params.length).flatMap (λ(i:Nat)=>[(⟨(i:Int)+1,-1,0,(f.Params.getD i 0,1)⟩:Ch)])=Uh f:=by rw[Uh,Sp]
 rw[e,hb,Ak,Bf,Sp]
def Pv(p:A1):List Dd:=(List.range p.Args.length).flatMap λ(j:Nat)=>[⟨p.Args.getD j 0,p.From.getD j 0,1000,(p.Bits,1)⟩]
def O2(b:Ab):List Dd:=(List.range b.Phis.length).flatMap λ(k:Nat)=>Pv (b.Phis.getD k default)
def Td(o:Ay)(i k:Nat):List Dd:=(List.range (Jq o).length).flatMap λ(j:Nat)=>[⟨o.Args.getD j 0,i,k,(Jq o).getD j (0,0)⟩]
def Vx(b:Ab)(i:Nat):List Dd:=(List.range b.Ops.length).flatMap λ(k:Nat)=>Td (b.Ops.getD k default) i k
def FZ(f:TFunc)(b:Ab)(i:Nat):List Dd:=(bif b.End.Kind==0 then[⟨b.End.Arg,i,1000,(f.Ret,1)⟩] else[])++(bif b.End.Kind==2 then[⟨b.End.Arg,i,1000,(1,1)⟩] else[])
def PC(f:TFunc)(b:Ab)(i:Nat):List Dd:=O2 b++Vx b i++FZ f b i
def B9(f:TFunc):List Dd:=(List.range f.Blocks.length).flatMap λ(i:Nat)=>PC f (f.Blocks.getD i default) i
theorem Zr{o:Ay}(h:o.Args.length<=64):(Jq o).length<=64/\(Jq o).length<=o.Args.length:=by
 unfold Jq
 cases hm:Ih o with
 | false=>simp
 | true=>
  simp only[Af]
  have :=by
   simp only[Ih,A4]at hm;exact hm.1.2.2
  have h2 :=by simpa using this
  have h3:(Zs o).length=o.Args.length:=by rw[Zs,Ns,Sq,<- h2,Cr]
  omega
theorem TF{f:TFunc}(hf:OkF f){b:Ab}(hb:b∈f.Blocks){p:A1}(hp:p∈b.Phis):p.From.length<=64/\p.Args.length<=64:=by
 have:=(blockB_iff.1 (hf.block b hb).may).1 p hp;simp only[IE,A4]at this;exact⟨(listB_iff.1 this.1.2).2,(listB_iff.1 this.2).2⟩
theorem ZW{f:TFunc}(hf:OkF f){b:Ab}(hb:b∈f.Blocks){o:Ay}(ho:o∈b.Ops):o.Args.length<=64:=by
 have:=(blockB_iff.1 (hf.block b hb).may).2.1 o ho;simp only[gX,A4]at this;exact(listB_iff.1 this.2).2
theorem KW(p:A1):(Pv p).length<=p.Args.length:=by
 have:=Js 1 (λj=>[(⟨p.Args.getD j 0,p.From.getD j 0,1000,(p.Bits,1)⟩:Dd)]) (List.range p.Args.length) (λ_ _=>zzL7 _)
 simpa [Pv] using this
theorem PD(o:Ay)(i k:Nat):(Td o i k).length<=(Jq o).length:=by
 have:=Js 1 (λj=>[(⟨o.Args.getD j 0,i,k,(Jq o).getD j (0,0)⟩:Dd)]) (List.range (Jq o).length) (λ_ _=>zzL7 _)
 simpa [Td] using this
theorem PE{f:TFunc}(hf:OkF f){b:Ab}(hb:b∈f.Blocks):(O2 b).length<=32768:=by
 have:=Js 64 (λk=>Pv (b.Phis.getD k default)) (List.range _) (λk hk=>by
  have h1:=KW (b.Phis.getD k default);have h2:=(TF hf hb (Ah (d:=default) (by simpa using hk))).2
  omega)
 have h3:=(hf.block b hb).phis;rw[Sq]at this;rw[O2];omega
theorem UO{f:TFunc}(hf:OkF f){b:Ab}(hb:b∈f.Blocks)(i:Nat):(Vx b i).length<=32768:=by
 have:=Js 64 (λk=>Td (b.Ops.getD k default) i k) (List.range _) (λk hk=>by
  have h1:=PD (b.Ops.getD k default) i k;have h2:=(Zr (ZW hf hb (Ah (d:=default) (by simpa using hk)))).1
  omega)
 have h3:=(hf.block b hb).ops;rw[Sq]at this;rw[Vx];omega
theorem f5(f:TFunc)(b:Ab)(i:Nat):(FZ f b i).length<=2:=by
 unfold FZ
 cases b.End.Kind==0<;>cases b.End.Kind==2<;>simp
theorem aq{f:TFunc}(hf:OkF f){i:Nat}(hi:i<f.Blocks.length):(PC f (f.Blocks.getD i default) i).length<=70000:=by
 have hmem:=Ah (d:=default) hi;have h1:=PE hf hmem;have h2:=UO hf hmem i;have h3:=f5 f (f.Blocks.getD i default) i;rw[PC,G3,G3];omega
theorem MW{f:TFunc}(hf:OkF f):(B9 f).length<=4480000:=by
 have h1:=Js _ _ (List.range _) (λi hi=>aq hf (by simpa using hi));have h4:=hf.blocks;rw[Sq]at h1;rw[B9];omega
def lY(f:TFunc):Prop:=∀ b∈f.Blocks,∀ p∈b.Phis,p.Args.length<=p.From.length
theorem zT{f:TFunc}(hf:OkF f)(hp:lY f):Lp f=some (B9 f):=by
 have hbig:∀{n:Nat},n<=100000000->∀ x:Dd,n+([x]:List Dd).length<=room:=λ{n} h x=>by rw[KT];simp;omega
 have h1:∀(i:Nat),i<f.Blocks.length->∀(k:Nat),k<(f.Blocks.getD i default).Phis.length->∀ acc:List Dd,acc.length<=50000000->Ad (F9 f (i:Int) (k:Int)) (acc,(0:Int))=some (acc++Pv ((f.Blocks.getD i default).Phis.getD k default)):=λi hi k hk acc hacc=>by
  have hmem:=Ah (d:=(default:Ab)) hi;have hpm:=Ah (d:=(default:A1)) hk;have hlen:=TF hf hmem hpm;have hfit:=hp _ hmem _ hpm
  have:=Ma ((f.Blocks.getD i default).Phis.getD k default).Args.length 50000000 1 (λ(j:Nat)=>[(⟨((f.Blocks.getD i default).Phis.getD k default).Args.getD j 0,((f.Blocks.getD i default).Phis.getD k default).From.getD j 0,1000,(((f.Blocks.getD i default).Phis.getD k default).Bits,1)⟩:Dd)]) (λ_ _=>zzL7 _) (F9 f (i:Int) (k:Int)) (λacc j hj hA=>by
   unfold F9
   have hd:decide ((j:Int)<(((f.Blocks.getD i default).Phis.getD k default).Args.length:Int))=true:=by simpa using hj
   simp only[Cr,hd,Af,Aa (Ag hj),Aa (Ag (Nat.lt_of_lt_of_le hj hfit)),A3 hj (by omega),Aa (hbig (n:=acc.length) (by omega) _)]) (λacc=>by unfold F9;simp) ((f.Blocks.getD i default).Phis.getD k default).Args.length 0 acc (by omega) (by omega)
  rw[show(0:Int)=((0:Nat):Int) from rfl,this,Pv,Sp]
 have h2:∀(i:Nat),i<f.Blocks.length->∀ acc:List Dd,acc.length<=40000000->Ad (Ga f (i:Int)) (acc,(0:Int))=some (acc++O2 (f.Blocks.getD i default)):=λi hi acc hacc=>by
  have hmem:=Ah (d:=(default:Ab)) hi;have hB:=hf.block _ hmem
  have:=Ma (f.Blocks.getD i default).Phis.length 40000000 64 (λ(k:Nat)=>Pv ((f.Blocks.getD i default).Phis.getD k default)) (λk hk=>by have:=KW ((f.Blocks.getD i default).Phis.getD k default);have:=(TF hf hmem (Ah (d:=(default:A1)) hk)).2;omega) (Ga f (i:Int)) (λacc k hk hA=>by
   unfold Ga
   have hd:decide ((k:Int)<((f.Blocks.getD i default).Phis.length:Int))=true:=by simpa using hk
   have h5:=hB.phis;have h6:k*64<=512*64:=Hw _ (by omega)
   simp only[Cr,hd,Af,Aa (Ag hk),h1 i hi k hk acc (by omega),Ak,A3 hk (by omega)]) (λacc=>by unfold Ga;simp) (f.Blocks.getD i default).Phis.length 0 acc (by omega) (by omega)
  rw[show(0:Int)=((0:Nat):Int) from rfl,this,O2,Sp]
 have h3:∀(i:Nat),i<f.Blocks.length->∀(k:Nat),k<(f.Blocks.getD i default).Ops.length->∀ acc:List Dd,acc.length<=50000000->Ad (Gb f (i:Int) (k:Int) (Jq ((f.Blocks.getD i default).Ops.getD k default))) (acc,(0:Int))=some (acc++Td ((f.Blocks.getD i default).Ops.getD k default) i k):=λi hi k hk acc hacc=>by
  have hmem:=Ah (d:=(default:Ab)) hi;have hom:=Ah (d:=(default:Ay)) hk;have hlen:=Zr (ZW hf hmem hom)
  have:=Ma (Jq ((f.Blocks.getD i default).Ops.getD k default)).length 50000000 1 (λ(j:Nat)=>[(⟨((f.Blocks.getD i default).Ops.getD k default).Args.getD j 0,i,k,(Jq ((f.Blocks.getD i default).Ops.getD k default)).getD j (0,0)⟩:Dd)]) (λ_ _=>zzL7 _) (Gb f (i:Int) (k:Int) (Jq ((f.Blocks.getD i default).Ops.getD k default))) (λacc j hj hA=>by
   unfold Gb
   have hd:decide ((j:Int)<((Jq ((f.Blocks.getD i default).Ops.getD k default)).length:Int))=true:=by simpa using hj
   simp only[Cr,hd,Af,Aa (Ag hk),Aa (Ag hj),Aa (Ag (Nat.lt_of_lt_of_le hj hlen.2)),A3 hj (by omega),Aa (hbig (n:=acc.length) (by omega) _)]) (λacc=>by unfold Gb;simp) (Jq ((f.Blocks.getD i default).Ops.getD k default)).length 0 acc (by omega) (by omega)
  rw[show(0:Int)=((0:Nat):Int) from rfl,this,Td,Sp]
 have h4:∀(i:Nat),i<f.Blocks.length->∀ acc:List Dd,acc.length<=40000000->Ad (Gc f (i:Int)) (acc,(0:Int))=some (acc++Vx (f.Blocks.getD i default) i):=λi hi acc hacc=>by
  have hmem:=Ah (d:=(default:Ab)) hi;have hB:=hf.block _ hmem
  have:=Ma (f.Blocks.getD i default).Ops.length 40000000 64 (λ(k:Nat)=>Td ((f.Blocks.getD i default).Ops.getD k default) i k) (λk hk=>by have:=PD ((f.Blocks.getD i default).Ops.getD k default) i k;have:=(Zr (ZW hf hmem (Ah (d:=(default:Ay)) hk))).1;omega) (Gc f (i:Int)) (λacc k hk hA=>by
   unfold Gc
   have hd:decide ((k:Int)<((f.Blocks.getD i default).Ops.length:Int))=true:=by simpa using hk
   have h5:=hB.ops;have h6:k*64<=512*64:=Hw _ (by omega);have ht:He ((f.Blocks.getD i default).Ops.getD k default)=some (Jq ((f.Blocks.getD i default).Ops.getD k default)):=nr _ (ng hf hmem (Ah (d:=(default:Ay)) hk))
   simp only[Cr,hd,Af,Aa (Ag hk),ht,Ak,h3 i hi k hk acc (by omega),A3 hk (by omega)]) (λacc=>by unfold Gc;simp) (f.Blocks.getD i default).Ops.length 0 acc (by omega) (by omega)
  rw[show(0:Int)=((0:Nat):Int) from rfl,this,Vx,Sp]
 have hb:=Ma f.Blocks.length 0 70000 (λ(i:Nat)=>PC f (f.Blocks.getD i default) i) (λi hi=>aq hf hi) (I5 f) (λacc i hi hA=>by
   unfold I5
   have hd:decide ((i:Int)<(f.Blocks.length:Int))=true:=by simpa using hi
   have hmem:=Ah (d:=(default:Ab)) hi;have h64:=hf.blocks;have q1:i*70000<=64*70000:=Hw _ (by omega);have q2:=PE hf hmem;have q3:=UO hf hmem i;have e1:=h4 i hi (acc++O2 (f.Blocks.getD i default)) (by rw[G3];omega)
   have l1:(acc++O2 (f.Blocks.getD i default)++Vx (f.Blocks.getD i default) i).length<=50000000:=by rw[G3,G3];omega
   simp only[hd,Af,Aa (Ag hi),h2 i hi acc (by omega),Ak,e1,Cr,Aa (hbig (n:=(acc++O2 (f.Blocks.getD i default)++Vx (f.Blocks.getD i default) i).length) (by omega) _),PC,FZ]
   cases(f.Blocks.getD i default).End.Kind==0 with
   | true=>
    simp only[Af,Ak]
    cases(f.Blocks.getD i default).End.Kind==2 with
    | true=>rw[Aa (by rw[G3];have:=hbig (n:=(acc++O2 (f.Blocks.getD i default)++Vx (f.Blocks.getD i default) i).length+1) (by omega) (default:Dd);simpa using this)];simp[A3 hi (by omega:f.Blocks.length<9223372036854775808)]
    | false=>simp[A3 hi (by omega:f.Blocks.length<9223372036854775808)]
   | false=>
    simp only[Ar,Ak]
    cases(f.Blocks.getD i default).End.Kind==2 with
    | true=>rw[Af,Aa (hbig (n:=(acc++O2 (f.Blocks.getD i default)++Vx (f.Blocks.getD i default) i).length) (by omega) _)];simp[A3 hi (by omega:f.Blocks.length<9223372036854775808)]
    | false=>simp[A3 hi (by omega:f.Blocks.length<9223372036854775808)]) (λacc=>by unfold I5;simp) f.Blocks.length 0 [] (by omega) (by simp)
 unfold Lp;rw[show(0:Int)=((0:Nat):Int) from rfl,hb,Ak,B9,Sp,Um]
def jD(n:Nat)(l:List Int)(i:Nat):Bool:=decide ((if i=0 then(-1:Int) else l.getD (i-1) 0)<l.getD i 0)&&(decide (0<=l.getD i 0)&&decide (l.getD i 0<n))
def oN(n:Nat)(l:List Int):Bool:=(List.range l.length).all (jD n l)
def Og(L:List (List Int)):Bool:=decide (1<=L.length)&&decide (L.length<=64)&&(List.range L.length).all λi=>oN L.length (L.getD i [])
def AF(L:List (List Int))(k i:Nat):Bool:=(L.getD k []).contains (i:Int)
def Kt(L:List (List Int))(m i:Nat):List Int:=((List.range m).filter λk=>AF L k i).map Int.ofNat
def Cg(L:List (List Int)):List (List Int):=(List.range L.length).map (Kt L L.length)
theorem Xz(a n:Int):Kw a n=some (decide (0<=a)&&decide (a<n)):=by
 unfold Kw
 cases decide (0<=a)<;>rfl
theorem ZP(n:Nat):M6 (n:Int)=some (decide (1<=n)&&decide (n<=64)):=by
 unfold M6
 have h1:decide ((1:Int)<=n)=decide (1<=n):=by grind
 have h2:decide (n<=(64:Int))=decide (n<=64):=by grind
 rw[h1,h2]
 cases decide (1<=n)<;>rfl
theorem UJ(L:List (List Int))(i:Nat)(hl:(L.getD i []).length<4611686018427387904) :
  Ad (Hq L (i:Int)) ((-1:Int),(0:Int))=some (bif oN L.length (L.getD i []) then .inl () else .inr false):=by
 refine Ij (Hq L i) (λj=>((if j=0 then -1 else(L.getD i []).getD (j-1) 0),(j:Nat))) _ _ _ _ (λj hj hp=>?_) (λj hj hp=>?_) ?_
 ·unfold jD at hp;simp only[A4,Jd]at hp;obtain⟨h1,h2,h3⟩:=hp;unfold Hq;simp only[Ap,Bo hj, Xz];rw[Ac (Fl hj)]
  have e1:decide ((L.getD i []).getD j 0<=(if j=0 then -1 else(L.getD i []).getD (j-1) 0))=false:=by simpa using h1
  simp only[e1,Gi h2,Gi h3,     C0];rw[w1 (show j<4611686018427387904 by omega)]
  simp
 ·unfold Hq;simp only[Ap,Bo hj, Xz];rw[Ac (Fl hj)]
  cases h1:decide ((L.getD i []).getD j 0<=(if j=0 then -1 else(L.getD i []).getD _ 0)) with
  | true=>grind
  | false=>
   have h1':decide ((if j=0 then -1 else(L.getD i []).getD (j-1) 0)<(L.getD i []).getD j 0)=true:=by simpa using h1
   unfold jD at hp;rw[h1',Hn]at hp;simp only[Wv,Af,Ar,Ak,hp,J0]
 ·unfold Hq;simp only[Ap,Cm,Ar]
def Fits(L:List (List Int)):Prop:=L.length<4611686018427387904/\∀ l∈L,l.length<4611686018427387904
theorem Fits.at{L:List (List Int)}(h:Fits L)(i:Nat):(L.getD i []).length<4611686018427387904:=by
 by_cases hi:i<L.length
 ·exact h.2 _ (Ah hi)
 ·grind
theorem nW(L:List (List Int))(h:Fits L):P6 L=some (Og L):=by
 unfold P6;rw[ZP,Ak];unfold Og
 cases hc:(decide (1<=L.length)&&decide (L.length<=64)) with
 | false=>rfl
 | true=>
  simp only[C0,Ar,Hn];have:=Ij (Dj L) (λj=>((j:Nat):Int)) (λi=>oN L.length (L.getD i [])) (.inl ()) (.inr false) L.length (λj hj hp=>?_) (λj hj hp=>?_) ?_
  ·rw[show Ad (Dj L) (0:Int)=_ from this]
   cases(List.range L.length).all λi=>oN L.length (L.getD i [])<;>rfl
  ·show Dj L (j:Int)=_
   unfold Dj;simp only[Bo hj,Af];rw[Ac (Fl hj),UJ L j (h.at j),hp];simp only[Af,Ak,w1 (show j<4611686018427387904 by have:=h.1;omega)]
  ·show Dj L (j:Int)=_
   unfold Dj;simp only[Bo hj,Af];rw[Ac (Fl hj),UJ L j (h.at j),hp]
   rfl
  ·show Dj L _=_
   unfold Dj;simp only[Cm,Ar]
theorem S9{α:Type}{n i:Nat}{g:Nat->α}{d:α}(h:i<n):((List.range n).map g).getD i d=g i:=by simp[ h]
theorem DZ{α:Type}{n i:Nat}{g:Nat->α}{x:α}:((List.range n).map g).set i x=(List.range n).map λj=>if j=i then x else g j:=by
 apply List.ext_getElem?
 intro j;rw[List.getElem?_set]
 by_cases hj:j<n
 ·grind
 ·grind
theorem Hi{α:Type}{n:Nat}{g h:Nat->α}(H:∀ i,i<n->g i=h i):(List.range n).map g=(List.range n).map h:=cn λi hi=>H i (zzL82.1 hi)
theorem mayS_iff{L:List (List Int)}:Og L=true↔1<=L.length/\L.length<=64/\∀ i,i<L.length->oN L.length (L.getD i [])=true:=by
 unfold Og;rw[A4,A4,all_range];simp only[Jd];exact⟨λ⟨⟨a,b⟩,c⟩=>⟨a,b,c⟩,λ⟨a,b,c⟩=>⟨⟨a,b⟩,c⟩⟩
theorem okL_iff{n:Nat}{l:List Int}:oN n l=true↔∀ i,i<l.length->(0<=l.getD i 0/\l.getD i 0<n)/\(0<i->l.getD (i-1) 0<l.getD i 0):=by
 unfold oN;rw[all_range];unfold jD;simp only[A4,Jd]
 constructor
 ·grind
 ·intro h i hi;obtain⟨⟨h2,h3⟩,h1⟩:=h i hi
  by_cases hz:i=0
  · omega
  ·grind
section
variable {n:Nat} {l:List Int} (h:oN n l=true)
include h
theorem DH{i:Nat}(hi:i<l.length):0<=l.getD i 0/\l.getD i 0<n:=(okL_iff.1 h i hi).1
theorem rL{i j:Nat}(hij:i<j)(hj:j<l.length):l.getD i 0<l.getD j 0:=by
 induction j with
 | zero=>omega
 | succ j ih=>
  have h1:=(okL_iff.1 h _ hj).2 (by omega)
  by_cases he:i=j
  ·rw[he];exact h1
  ·grind
theorem zW{i:Nat}(hi:i<l.length):(i:Int)<=l.getD i 0:=by
 induction i with
 | zero=>exact(DH h hi).1
 | succ i ih=>
  have:=rL h (show i<i+1 by omega) hi;omega
theorem FR:l.length<=n:=by
 by_cases hz:l.length=0
 ·omega
 ·have h1:=zW h (show l.length-1<l.length by omega);have h2:=(DH h (show l.length-1<l.length by omega)).2;omega
theorem cB{x:Int}(hx:x∈l):0<=x/\x<n:=by
 obtain⟨i,hi,rfl⟩:=Nc hx;have:=DH h hi;rwa[Ao _ _ _ hi]at this
end
theorem zX{n:Nat}{l:List Int}(h1:∀ x∈l,0<=x/\x<n)(h2:l.Pairwise (·<·)):oN n l=true:=by
 rw[okL_iff];intro i hi;rw[Ao _ _ _ hi];refine⟨h1 _ (NB hi),λhp=>?_⟩;rw[Ao _ _ _ (show i-1<l.length by omega)];exact(zzL110.1 h2) _ _ _ _ (by omega)
theorem U3{L:List (List Int)}(h:Og L=true):L.length<=64/\∀ l∈L,l.length<=64:=by
 obtain⟨h1,h2,h3⟩:=mayS_iff.1 h;refine⟨h2,λl hl=>?_⟩;obtain⟨i,hi,rfl⟩:=Nc hl;have:=FR (h3 i hi);rw[Ao _ _ _ hi]at this;omega
theorem vW{L:List (List Int)}(h:L.length<=1000/\∀ l∈L,l.length<=1000):Fits L:=⟨by omega,λl hl=>by have:=h.2 l hl;omega⟩
theorem DU(L:List (List Int))(k i:Nat):Kt L (k+1) i=Kt L k i++(if AF L k i=true then[(k:Int)] else[]):=by
 unfold Kt;rw[LE,MZ];cases hg:AF L k i<;>simp[hg]
theorem Zn(L:List (List Int))(k i:Nat):(Kt L k i).length<=k:=by
 unfold Kt;have:=List.length_filter_le (λk=>AF L k i) (List.range k)
 simpa using this
theorem ZE{l:List Int}{j:Nat}(hj:j<l.length):l.take (j+1)=l.take j++[l.getD j 0]:=by
 simp_all
def W4(L:List (List Int))(k j i:Nat):Bool:=((L.getD k []).take j).contains (i:Int)
def Pk(L:List (List Int))(k j:Nat):List (List Int):=(List.range L.length).map λi=>Kt L k i++(if W4 L k j i=true then[(k:Int)] else[])
theorem eC(L:List (List Int))(h:Og L=true)(k j:Nat)(hk:k<L.length)(hj:j<(L.getD k []).length) :
  (Pk L k j).set ((L.getD k []).getD j 0).toNat ((Pk L k j).getD ((L.getD k []).getD j 0).toNat []++[(k:Int)])=Pk L k (j+1):=by
 obtain⟨h1,h2,h3⟩:=mayS_iff.1 h;have hok:=h3 k hk;obtain⟨a0,a1⟩:=DH hok hj;unfold Pk;rw[S9 (by omega),DZ]
 apply Hi
 intro i hi
 have hnot:W4 L k j ((L.getD k []).getD j 0).toNat=false:=by
  unfold W4;rw[Mi a0]
  cases hc:((L.getD k []).take j).contains _ with
  | false=>rfl
  | true=>
   rw[zzL63]at hc;obtain⟨m,hm,he⟩:=Nc hc
   have hm':m<j:=by simp at hm;omega
   rw[List.getElem_take]at he;have:=rL hok hm' hj;rw[Ao _ _ _ (show m<(L.getD k []).length by omega)]at this;omega
 by_cases hi2:i=((L.getD k []).getD j 0).toNat
 ·rw[ hnot]
  have:W4 L k (j+1) i=true:=by
   unfold W4;rw[ZE hj, hi2,Mi a0]
   simp
  rw[this,hi2]
  simp
 ·rw[if_neg hi2]
  have:W4 L k (j+1) i=W4 L k j i:=by
   unfold W4;rw[ZE hj,Ul,zzL63,zzL63,zzL11]
   constructor
   ·grind
   ·exact .inl
  rw[this]
theorem ez(L:List (List Int))(h:Og L=true):Ob L=some (Cg L):=by
 obtain⟨h1,h2,h3⟩:=mayS_iff.1 h
 have hroom:(1000:Nat)<=room:=by decide
 unfold Ob;rw[Ac ⟨by omega,Int.le_refl _,by omega⟩,Ap]
 have inner:∀ k,k<L.length->Ad _ ((0:Int),Pk L k 0)=some (Pk L k (L.getD k []).length):=λk hk=>by
  have hok:=h3 k hk;refine Fs (Nq L (k:Int)) (λj=>(((j:Nat):Int),Pk L k j)) _ (L.getD k []).length (λj hj=>?_) ?_
  ·obtain⟨a0,a1⟩:=DH hok hj
   have hlen:(Pk L k j).length=L.length:=by simp[Pk]
   have hl64:=FR hok;unfold Nq;simp only[Ap,Bo hj,Af];have hb:As ((L.getD k []).getD j 0) (Pk L k j).length:=⟨a0,by rw[hlen];exact a1⟩
   have hrow:((Pk L k j).getD ((L.getD k []).getD j 0).toNat []).length<=k+1:=by
    unfold Pk;rw[S9 (by omega),G3];have:=Zn L k ((L.getD k []).getD j 0).toNat
    split
    ·rw[LB];omega
    ·rw[List.length_nil];omega
   rw[Ac (Fl hj),Ac hb,Ac hb,Ac (by grind),Ac hb,eC L h k j hk hj,w1 (by omega)]
  ·unfold Nq;simp only[Ap,Cm,Ar]
 have r0:∀ k,Pk L k 0=(List.range L.length).map (Kt L k):=λk=>by
  unfold Pk
  apply Hi
  intro i _;simp[W4]
 have r1:∀ k,Pk L k (L.getD k []).length=(List.range L.length).map (Kt L (k+1)):=λk=>by
  unfold Pk
  apply Hi
  intro i _;rw[DU];unfold W4 AF;rw[VB]
 have:Ad (K5 L) ((0:Int),(List.range L.length).map (Kt L 0))=some (Cg L):=Fs (K5 L) (λk=>(((k:Nat):Int),(List.range L.length).map (Kt L k))) (Cg L) L.length (λk hk=>?_) ?_
 ·have e0:(List.replicate L.length ([]:List Int))=(List.range L.length).map (Kt L 0):=by
   apply List.ext_getElem?
   intro i
   by_cases hi:i<L.length<;>simp[hi,List.getElem?_replicate,Kt]
  rw[e0,this];rfl
 ·unfold K5;simp only[Bo hk,Af];rw[Ac (Fl hk),<- r0,inner k hk,r1,w1 (by omega)]
  rfl
 ·unfold K5;simp only[Cm,Ar]
  rfl
theorem Wg{α:Type}[DecidableEq α]{a b:List α}{d:α}(h:a.length=b.length):((List.range a.length).all λi=>decide (a.getD i d=b.getD i d))=decide (a=b):=by
 rw[Ul,all_range,Jd]
 constructor
 ·intro hall
  apply PI h
  intro i h1 h2;have:=NA (hall i h1);rwa[Ao _ _ _ h1,Ao _ _ _ h2]at this
 ·rintro rfl i _
  simp
theorem JZ{a b:Nat}:(((a:Nat):Int)!=(b:Int))=decide (a≠b):=by
 grind
theorem bm{a b:Int}:(a !=b) = !decide (a=b):=by
 grind
theorem QW(a b:List Int)(hb:b.length<4611686018427387904):En a b=some (decide (a=b)):=by
 unfold En;rw[JZ]
 by_cases hl:a.length=b.length
 ·rw[Db (by simpa using hl)];have:Ad (Eu a b) 0=_:=Ij _ (λj=>(j:Int)) (λi=>decide (a.getD i 0=b.getD i 0)) (.inl ()) (.inr false) a.length (λj hj hp=>?_) (λj hj hp=>?_) ?_
  ·rw[this,Wg hl]
   cases decide (a=b)<;>rfl
  ·unfold Eu;simp only[Ap,Bo hj];rw[Ac (Fl hj),Ac (Fl (by omega)),bm,hp,w1 (by omega)]
   rfl
  ·unfold Eu;simp only[Ap,Bo hj];rw[Ac (Fl hj),Ac (Fl (by omega)),bm,hp]
   rfl
  ·unfold Eu;simp only[Cm,Ar]
 ·rw[Gi (by simpa using hl),Af,Db (λh=>hl (by rw[h]))]
theorem ir(a b:List Int)(ha:a.length<4611686018427387904):Ba a b=some (decide (a=b)):=by
 unfold Ba;rw[JZ]
 by_cases hl:a.length=b.length
 ·rw[Db (by simpa using hl)];have:Ad _ (0:Int)=_:=Ij (B2 a b) (λj=>(j:Nat)) (λi=>decide (a.getD i 0=b.getD i 0)) (.inl ()) (.inr false) a.length (λj hj hp=>?_) (λj hj hp=>?_) ?_
  ·rw[this,Wg hl]
   cases decide (a=b)<;>rfl
  ·unfold B2;simp only[Ap,Bo hj];rw[Ac (Fl hj),Ac (Fl (by omega)),bm,hp,w1 (by omega)]
   rfl
  ·unfold B2;simp only[Ap,Bo hj];rw[Ac (Fl hj),Ac (Fl (by omega)),bm,hp]
   rfl
  ·unfold B2;simp only[Cm,Ar]
 ·rw[Gi (by simpa using hl),Af,Db (λh=>hl (by rw[h]))]
theorem e7(a b:List (List Int))(hb:Fits b):Dk a b=some (decide (a=b)):=by
 unfold Dk;rw[JZ]
 by_cases hl:a.length=b.length
 ·rw[Db (by simpa using hl)];have hb1:=hb.1;have:Ad _ (0:Int)=_:=Ij (B6 a b) (λj=>(j:Nat)) (λi=>decide (a.getD i []=b.getD i [])) (.inl ()) (.inr false) a.length (λj hj hp=>?_) (λj hj hp=>?_) ?_
  ·rw[this,Wg hl]
   cases decide (a=b)<;>rfl
  ·unfold B6;simp only[Ap,Bo hj];rw[Ac (Fl hj),Ac (Fl (by omega)),QW _ _ (hb.at j),hp,w1 (by omega)]
   rfl
  ·unfold B6;simp only[Ap,Bo hj];rw[Ac (Fl hj),Ac (Fl (by omega)),QW _ _ (hb.at j),hp]
   rfl
  ·unfold B6;simp only[Cm,Ar]
 ·rw[Gi (by simpa using hl),Af,Db (λh=>hl (by rw[h]))]
theorem Qe(L:List (List Int)):(Cg L).length=L.length:=by simp[Cg]
theorem FS{L:List (List Int)}{i:Nat}(hi:i<L.length):(Cg L).getD i []=Kt L L.length i:=by unfold Cg;rw[S9 hi]
theorem Ux{L:List (List Int)}(h:Og L=true):(Cg L).length<=64/\∀ l∈Cg L,l.length<=64:=by
 obtain⟨h1,_⟩:=U3 h;refine⟨by rw[Qe];exact h1,λl hl=>?_⟩;obtain⟨i,hi,rfl⟩:=zzL21.1 hl;have:=Zn L L.length i;omega
theorem Vu{L:List (List Int)}(h:L.length<=64/\∀ l∈L,l.length<=64):Fits L:=vW ⟨by omega,λl hl=>by have:=h.2 l hl;omega⟩
def GJ(g:TGraph):Bool:=Og g.Succ&&decide (g.Pred=Cg g.Succ)
theorem xT(g:TGraph)(h:Fits g.Succ):Wl g=some (GJ g):=by
 unfold Wl GJ;rw[nW _ h]
 cases hm:Og _ with
 | false=>rfl
 | true=>
  simp only[Wv,Af,ez _ hm,Ak,e7 _ _ (Vu (Ux hm)),Hn]
def Kp(L:List (List Int)):TGraph:=⟨L,Cg L⟩
def g0:TGraph:=⟨[],[]⟩
theorem fD{L:List (List Int)}(h:Og L=true):GJ (Kp L)=true:=by simp[GJ,Kp,h]
theorem lH(l:List Int)(x:Int)(h:l.length<4611686018427387904):Ez l x=some (l.contains x):=by
 unfold Ez;have:Ad _ (0:Int)=_:=Ij (Gv l x) (λj=>(j:Nat)) (λi=>!decide (l.getD i 0=x)) (.inl ()) (.inr true) l.length (λj hj hp=>?_) (λj hj hp=>?_) ?_
 ·rw[this]
  have e:l.contains x = !((List.range l.length).all λi=>!decide (l.getD i 0=x)):=by
   rw[Ul,zzL63,Qr,<- Bool.not_eq_true,all_range]
   constructor
   ·intro hx hall;obtain⟨i,hi,rfl⟩:=Nc hx;have:=hall i hi;rw[Ao _ _ _ hi]at this;simp at this
   ·grind
  rw[e]
  cases(List.range _).all _<;>rfl
 ·unfold Gv;simp only[Ap,Bo hj]
  have:(l.getD j 0==x)=false:=by simpa using hp
  rw[Ac (Fl hj),this,w1 (by omega)]
  rfl
 ·unfold Gv;simp only[Ap,Bo hj]
  have:(l.getD j 0==x)=true:=by simpa using hp
  rw[Ac (Fl hj),this]
  rfl
 ·unfold Gv;simp only[Cm,Ar]
theorem aj{X:Type}(a b:List (List Int))(f:Int->Option (LR Int (Unit ⊕ Bool)))(ha:Fits a)(hl:a.length=b.length)
  (hn:∀ i:Nat,i<a.length->f (i:Int)=(Ba (a.getD i []) (b.getD i [])).bind λx=>bif (!x) then some (.done (.inr false)) else some (.next (w64 ((i:Int)+1)))) (he:f (a.length:Int)=some (.done (.inl ()))) :
  Ad f (0:Int)=some (bif decide (a=b) then .inl () else .inr false):=by
 have ha1:=ha.1;have:Ad f 0=_:=Ij f (λj=>(j:Int)) (λi=>decide (a.getD i []=b.getD i [])) _ (.inr false) _ (λj hj hp=>?_) (λj hj hp=>?_) he
 ·rw[this,Wg hl]
 ·rw[hn j hj,ir _ _ (ha.at j),hp,w1 (by omega)];rfl
 ·rw[hn j hj,ir _ _ (ha.at j),hp];rfl
theorem zS(a b:TGraph)(h1:Fits a.Succ)(h2:Fits a.Pred):Lj a b=some (decide (a=b)):=by
 have e:decide (a=b)=(decide (a.Succ=b.Succ)&&decide (a.Pred=b.Pred)):=by
  cases a;cases b
  simp
 rw[e];unfold Lj;rw[JZ,JZ]
 by_cases hs:a.Succ.length=b.Succ.length
 ·by_cases hp:a.Pred.length=b.Pred.length
  ·rw[Db (by simpa using hs), Db (by simpa using hp)]
   have s1:=aj (X:=Unit) _ _ (Iu a b) h1 hs (λi hi=>by
    unfold Iu;simp only[Ap,Bo hi,Af]
    rw[Ac (Fl hi),Ac (Fl (by omega))]) (by
    unfold Iu
    simp only[Cm,Ar])
   have s2:=aj (X:=Unit) _ _ (Iv a b) h2 hp (λi hi=>by
    unfold Iv;simp only[Ap,Bo hi,Af]
    rw[Ac (Fl hi),Ac (Fl (by omega))]) (by
    unfold Iv
    simp only[Cm,Ar])
   rw[s1]
   cases decide (a.Succ=b.Succ) with
   | false=>rfl
   | true=>
    grind
  ·grind
 ·grind
theorem Nn{R:Type}{c:Bool}{q:Prop}[Decidable q]{k:Option R}(h:q):Ax (c=true->q) k=k:=Ac λ_=>h
def pw(n:Nat)(l:List Int)(j:Nat):Bool:=
 bif (bif decide (l.getD j 0<0) then true else decide ((n:Int)<=l.getD j 0)) then true else(bif decide ((0:Int)<(j:Int)) then decide (l.getD j 0<=l.getD (j-1) 0) else false)
theorem px(n:Nat)(l:List Int)(j:Nat):pw n l j = !jD n l j:=by
 unfold pw jD
 by_cases h0:l.getD j 0<0
 ·grind
 ·grind
theorem OV(L:List (List Int))(i:Nat)(hi:i<L.length)(hl:(L.getD i []).length<4611686018427387904) :
  Ad (D3 L (i:Int)) (0:Int)=some (bif oN L.length (L.getD i []) then .inl () else .inr (g0,5)):=by
 have hw:∀ j:Nat,j<(L.getD i []).length->0<j->w64 (j-1)=(j-1:Nat):=λj hj hp=>by rw[Ic (by omega) (by omega)];omega
 have step:∀ j,j<(L.getD i []).length->D3 L i j=bif pw _ _ j then some _ else some (.next ((j+1:Nat))):=λj hj=>by
  unfold D3;simp only[Ap,Bo hj];rw[Ac (Fl hi),Ac (Fl hi),Ac (Fl hj),Nn (Fl hi),Nn (Fl hj),Nn (Fl hi),Nn (Fl hj),Nn (Fl hi),w1 (by omega)]
  by_cases hz:j=0
  ·subst hz
   have:decide (0<((0:Nat):Int))=false:=by decide
   rw[this];rw[show((false==true)=false) from rfl,Bool.and_false]
   rfl
  ·rw[hw j hj (by omega),Nn (Fl (by omega))]
   rfl
 have:=Ij (D3 L i) (λj=>(j:Nat)) (jD L.length (L.getD i [])) (.inl ()) (.inr (g0,5)) (L.getD i []).length (λj hj hp=>?_) (λj hj hp=>?_) ?_
 ·exact this
 ·rw[step j hj,px,hp];rfl
 ·rw[step j hj,px,hp];rfl
 ·unfold D3;simp only[Ap,Cm,Ar];rw[Ac (Fl hi)]
theorem YD(L:List (List Int))(h:Og L=true):Ad (D4 L) ((0:Int),List.replicate L.length ([]:List Int))=some (Cg L):=by
 obtain⟨h1,h2,h3⟩:=mayS_iff.1 h
 have hroom:(1000:Nat)<=room:=by decide
 have hfit:=Vu (U3 h)
 let R:Nat->Nat->List (List Int):=λi k=>(List.range L.length).map λj=>if j<i then Kt L L.length j else if j=i then Kt L k i else[]
 have inner:∀ i,i<L.length->Ad _ ((0:Int),R i 0)=some (R i L.length):=λi hi=>by
  refine Fs (It L (i:Int)) (λk=>(((k:Nat):Int),R i k)) (R i L.length) L.length (λk hk=>?_) ?_
  ·have hlen:(R i k).length=L.length:=by simp[R]
   have hat:(R i k).getD i []=Kt L k i:=by simp only[R];rw[S9 hi];simp
   unfold It;simp only[Ap,Bo hk,Af];rw[Ac (Fl hk),lH _ _ (hfit.at k),Ak,w1 (by omega)];have hg:AF L k i=(L.getD k []).contains (i:Int):=rfl;rw[<- hg,hat]
   have hs:(if AF L k i=true then(R i k).set i (Kt L k i++[(k:Int)]) else R i k)=R i (k+1):=by
    split
    ·rename_i hgo
     simp only[R];rw[DZ]
     apply Hi
     intro j hj
     by_cases hji:j=i
     ·subst hji;simp[DU,hgo]
     ·simp[hji]
    ·rename_i hgo
     simp only[R]
     apply Hi
     intro j hj
     by_cases hji:j=i
     ·subst hji;simp[DU,hgo]
     ·simp[hji]
   rw[<- hs]
   cases hgo:AF L k i with
   | false=>rfl
   | true=>
    have:=Zn L k i;simp only[Af];rw[Ac (by rw[hlen];exact Fl hi),Ac (by rw[hlen];exact Fl hi),Ac (by rw[LB];omega),Ac (by rw[hlen];exact Fl hi)]
    rfl
  ·unfold It;simp only[Cm,Ar]
 have:Ad (D4 L) ((0:Int),R 0 0)=some (Cg L):=Fs (D4 L) (λi=>(((i:Nat):Int),R i 0)) (Cg L) L.length (λi hi=>?_) ?_
 ·have e0:List.replicate L.length ([]:List Int)=R 0 0:=by
   simp only[R]
   apply List.ext_getElem?
   intro j
   by_cases hj:j<L.length<;>simp[hj,List.getElem?_replicate,Kt]
  rw[e0,this]
 ·unfold D4;simp only[Bo hi,Af];rw[inner i hi,w1 (by omega)];simp only[Ak]
  congr 3
  simp only[R]
  apply Hi
  intro j hj
  by_cases h4:j<i
  ·simp[h4,show j<i+1 by omega]
  ·by_cases h5:j=i
   ·subst h5;simp
   ·simp[h4,h5,show ¬ j<i+1 by omega];intro h6;simp[Kt]
 ·unfold D4;simp only[Cm,Ar]
  congr 2
  simp only[R,Cg]
  apply Hi
  intro j hj;simp[hj]
theorem SQ(L:List (List Int))(h:Fits L):Ib L=some (bif Og L then(Kp L,0) else(g0,5)):=by
 have hroom:1000<=room:=by decide
 unfold Ib
 have hc:(bif (L.length==(0:Int)) then true else decide (64<(L.length:Int))) = !(decide (1<=L.length)&&decide (L.length<=64)):=by
  grind
 rw[hc];have hm:Og L=((decide _&&decide _)&&(List.range _).all _):=rfl
 cases hb:(decide (1<=L.length)&&decide (L.length<=64)) with
 | false=>rw[hm,hb];rfl
 | true=>
  have hb':=hb;simp only[A4,Jd]at hb';have:Ad (F4 L) 0=_:=Ij _ (λj=>(j:Int)) (λi=>oN L.length (L.getD i [])) (.inl ()) (.inr (g0,5)) L.length (λj hj hp=>?_) (λj hj hp=>?_) ?_
  ·rw[this]
   cases hall:(List.range L.length).all _ with
   | false=>rw[hm,hb,hall];rfl
   | true=>
    have hmay:Og L=true:=by rw[hm,hb,hall];rfl
    rw[hmay];rw[Ac ⟨by omega,Int.le_refl _,by omega⟩,Ap,YD L hmay]
    rfl
  ·unfold F4;simp only[Bo hj];rw[OV L j hj (h.at j),hp,w1 (by omega)]
   rfl
  ·unfold F4;simp only[Bo hj];rw[OV L j hj (h.at j),hp]
   rfl
  ·unfold F4;simp only[Cm,Ar]
theorem JU{L:List (List Int)}(h:Og L=true):Fits (Kp L).Succ/\Fits (Kp L).Pred:=⟨Vu (U3 h),Vu (Ux h)⟩
theorem nS(g:TGraph)(h:Fits g.Succ):L8 g=some (GJ g):=by
 unfold L8 GJ;rw[SQ _ h,Ak]
 cases hm:Og _ with
 | false=>rfl
 | true=>
  simp only[Af,Wv];rw[zS _ _ (JU hm).1 (JU hm).2];simp only[Ak]
  congr 1
  apply zzL71.2
  cases g with
  | mk s p=>
   simp only[Kp,TGraph.mk.injEq,true_and];exact Xh
noncomputable section
def upd(s:Nat->Bool)(y:Nat):Nat->Bool:=λz=>decide (z=y) || s z
theorem upd_true{s:Nat->Bool}{y z:Nat}:upd s y z=true↔z=y\/s z=true:=by simp[upd]
theorem upd_false{s:Nat->Bool}{y z:Nat}:upd s y z=false↔z≠y/\s z=false:=by simp[upd]
inductive VL (S:Nat->List Nat):(Nat->Bool)->List Nat->(Nat->Bool)->List Nat->Prop
 | nil (s:Nat->Bool):VL S s [] s []
 | skip {s s':Nat->Bool} {y:Nat} {l o:List Nat} (h:s y=true) (t:VL S s l s' o):VL S s (y::l) s' o
 | step {s s1 s2:Nat->Bool} {y:Nat} {l o1 o2:List Nat} (h:s y=false) (a:VL S (upd s y) (S y) s1 o1) (b:VL S s1 l s2 o2):VL S s (y::l) s2 (o1++y::o2)
inductive Rch (S:Nat->List Nat):Nat->Nat->Prop
 | refl (x:Nat):Rch S x x
 | head {x y z:Nat} (h:y∈S x) (t:Rch S y z):Rch S x z
theorem Rch.tail{S:Nat->List Nat}{x y z:Nat}(h:Rch S x y)(hz:z∈S y):Rch S x z:=by
 induction h with
 | refl x=>exact .head hz (.refl _)
 | head h _ ih=>exact .head h (ih hz)
theorem Rch.trans{S:Nat->List Nat}{x y z:Nat}(h:Rch S x y)(k:Rch S y z):Rch S x z:=by
 induction h with
 | refl x=>exact k
 | head h _ ih=>exact .head h (ih k)
variable {S:Nat->List Nat} {s s':Nat->Bool} {l o:List Nat}
theorem VL.seen(h:VL S s l s' o)(z:Nat):s' z=true↔s z=true\/z∈o:=by
 induction h with
 | nil s=>simp
 | skip h _ ih=>exact ih
 | @step s s1 s2 y l o1 o2 h a b iha ihb=>
  rw[ihb,iha,upd_true]
  constructor
  ·grind
  ·grind
theorem VL.fresh(h:VL S s l s' o){z:Nat}(hz:z∈o):s z=false:=by
 induction h with
 | nil s=>cases hz
 | skip h _ ih=>exact ih hz
 | @step s s1 s2 y l o1 o2 h a b iha ihb=>
  rcases zzL11.1 hz with h1|h1
  ·exact(upd_false.1 (iha h1)).2
  ·rcases zzL31.1 h1 with rfl|h1
   ·exact h
   ·have:=ihb h1
    cases hs:s z with
    | false=>rfl
    | true=>rw[(a.seen z).2 (.inl (upd_true.2 (.inr hs)))]at this;cases this
theorem VL.nodup(h:VL S s l s' o):o.Nodup:=by
 induction h with
 | nil s=>exact List.nodup_nil
 | skip h _ ih=>exact ih
 | @step s s1 s2 y l o1 o2 h a b iha ihb=>
  rw[List.nodup_append];refine⟨iha,zzL117.2 ⟨λhy=>?_,ihb⟩,λu hu v hv=>?_⟩
  ·have:=b.fresh hy;rw[(a.seen y).2 (.inl (upd_true.2 (.inl rfl)))]at this
   cases this
  ·rintro rfl;rcases zzL31.1 hv with rfl|hv
   ·have:=a.fresh hu;rw[upd_true.2 (.inl rfl)]at this
    cases this
   ·have:=b.fresh hv;rw[(a.seen u).2 (.inr hu)]at this
    cases this
theorem VL.rch(h:VL S s l s' o){z:Nat}(hz:z∈o):∃ y∈l,Rch S y z:=by
 induction h with
 | nil s=>cases hz
 | skip h _ ih=>grind
 | @step s s1 s2 y l o1 o2 h a b iha ihb=>
  rcases zzL11.1 hz with h1|h1
  ·obtain⟨u,hu,hr⟩:=iha h1;exact⟨y,zzL44 ..,.head hu hr⟩
  ·rcases zzL31.1 h1 with rfl|h1
   ·exact⟨z,zzL44 ..,.refl z⟩
   ·grind
theorem VL.closed(h:VL S s l s' o):(∀ y∈l,s' y=true)/\∀ z∈o,∀ y∈S z,s' y=true:=by
 induction h with
 | nil s=>grind
 | @skip s s' y l o h t ih=>
  refine⟨λu hu=>?_,ih.2⟩;rcases zzL31.1 hu with rfl|hu
  ·exact(t.seen u).2 (.inl h)
  ·exact ih.1 u hu
 | @step s s1 s2 y l o1 o2 h a b iha ihb=>
  refine⟨λu hu=>?_,λz hz u hu=>?_⟩
  ·rcases zzL31.1 hu with rfl|hu
   ·exact(b.seen u).2 (.inl ((a.seen u).2 (.inl (upd_true.2 (.inl rfl)))))
   ·exact ihb.1 u hu
  ·rcases zzL11.1 hz with h1|h1
   ·exact(b.seen u).2 (.inl (iha.2 z h1 u hu))
   ·rcases zzL31.1 h1 with rfl|h1
    ·exact(b.seen u).2 (.inl (iha.1 u hu))
    ·exact ihb.2 z h1 u hu
theorem VL.above(h:VL S s l s' o)(hf:∀ z,∀ y∈S z,z<y){b:Nat}(hb:∀ y∈l,b<y):∀ z∈o,b<z:=by
 induction h generalizing b with
 | nil s=>intro z hz;cases hz
 | skip h _ ih=>exact ih (λy hy=>hb y (Mn _ hy))
 | @step s s1 s2 y l o1 o2 h a c iha ihb=>
  intro z hz;have hy:=hb y (zzL44 ..);rcases zzL11.1 hz with h1|h1
  ·exact iha (λu hu=>Nat.lt_trans hy (hf y u hu)) z h1
  ·rcases zzL31.1 h1 with rfl|h1
   ·exact hy
   ·exact ihb (λu hu=>hb u (Mn _ hu)) z h1
theorem VL.ahead(h:VL S s l s' o)(hf:∀ z,∀ y∈S z,z<y):∀ z∈o,∀ y∈S z,s y=true\/∃ A B,o=A++z::B/\y∈A:=by
 induction h with
 | nil s=>intro z hz;cases hz
 | skip h _ ih=>exact ih
 | @step s s1 s2 y l o1 o2 h a c iha ihb=>
  intro z hz u hu;rcases zzL11.1 hz with h1|h1
  ·have hzy :=a.above hf (λv hv=>hf y v hv) z h1;have hzu:=hf z u hu;rcases iha z h1 u hu with h2|⟨A,B,rfl,hA⟩
   ·rcases upd_true.1 h2 with rfl|h2
    ·omega
    ·exact .inl h2
   ·grind
  ·rcases zzL31.1 h1 with rfl|h1z
   ·have hzu:=hf z u hu;rcases(a.seen u).1 (a.closed.1 u hu) with h2|h2
    ·rcases upd_true.1 h2 with rfl|h2
     ·omega
     ·exact .inl h2
    ·grind
   ·rcases ihb z h1z u hu with h2|⟨A,B,rfl,hA⟩
    ·rcases(a.seen u).1 h2 with h3|h3
     ·rcases upd_true.1 h3 with rfl|h3
      ·obtain⟨P,Q,rfl⟩:=List.append_of_mem h1z;exact .inr ⟨o1++u::P,Q,by simp,by simp⟩
      ·exact .inl h3
     ·obtain⟨P,Q,rfl⟩:=List.append_of_mem h1z;exact .inr ⟨o1++y::P,Q,by simp,by simp[h3]⟩
    ·grind
def d8(n:Nat)(s:Nat->Bool):Nat:=((List.range n).filter λz=>!s z).length
theorem FH{n:Nat}{s:Nat->Bool}{y:Nat}(hy:y<n)(h:s y=false):d8 n (upd s y)+1=d8 n s:=by
 unfold d8
 induction n with
 | zero=>omega
 | succ n ih=>
  rw[LE,MZ,MZ,G3,G3]
  by_cases hyn:y=n
  ·subst hyn
   have e:(List.range y).filter (λz=>!upd s y z)=(List.range y).filter (λz=>!s z):=by
    apply List.filter_congr
    intro z hz;have:=zzL82.1 hz;simp[upd,show z≠y by omega]
   rw[e];simp[upd,h]
  ·have e:([n].filter λz=>!upd s y z).length=([n].filter λz=>!s z).length:=by
    simp only[List.filter_cons, upd];simp[Sd hyn]
   omega
theorem d9{n:Nat}{s s':Nat->Bool}(h:∀ z,s z=true->s' z=true):d8 n s'<=d8 n s:=by
 apply List.Sublist.length_le
 have:(List.range n).filter (λz=>!s' z)=((List.range n).filter λz=>!s z).filter λz=>!s' z:=by
  rw[List.filter_filter]
  apply List.filter_congr
  intro z _
  cases hs:s z with
  | false=>simp
  | true=>simp[h z hs]
 rw[this];exact List.filter_sublist
theorem VL.exist{n:Nat}(hS:∀ z,z<n->∀ y∈S z,y<n):∀(m:Nat) (s:Nat->Bool),d8 n s<=m->∀ l:List Nat,(∀ y∈l,y<n)->∃ s' o,VL S s l s' o:=by
 intro m
 induction m with
 | zero=>
  intro s hm l
  induction l with
  | nil=>intro _;exact⟨s,[],.nil s⟩
  | cons y l ih=>
   intro hl;obtain⟨s',o,h⟩:=ih (λz hz=>hl z (Mn _ hz))
   cases hy:s y with
   | true=>exact⟨s',o,.skip hy h⟩
   | false=>have:=FH (hl y (zzL44 ..)) hy;omega
 | succ m ih=>
  intro s hm l
  induction l generalizing s with
  | nil=>intro _;exact⟨s,[],.nil s⟩
  | cons y l ihl=>
   intro hl
   cases hy:s y with
   | true=>
    obtain⟨s',o,h⟩:=ihl s hm (λz hz=>hl z (Mn _ hz));exact⟨s',o,.skip hy h⟩
   | false=>
    have hyn:=hl y (zzL44 ..);have:=FH hyn hy;obtain⟨s1,o1,h1⟩:=ih (upd s y) (by omega) _ (hS y hyn);have h2:d8 n s1<=d8 n s:=d9 λz hz=>(h1.seen z).2 (.inl (upd_true.2 (.inr hz)));obtain⟨s2,o2,h3⟩:=ihl s1 (by omega) (λz hz=>hl z (Mn _ hz));exact⟨s2,_,.step hy h1 h3⟩
def one(r:Nat):Nat->Bool:=λz=>decide (z=r)
def Ord(S:Nat->List Nat)(r:Nat)(L:List Nat):Prop:=∃ s' o,VL S (one r) (S r) s' o/\L=r::o.reverse
theorem Ord.exist{n:Nat}(hS:∀ z,z<n->∀ y∈S z,y<n){r:Nat}(hr:r<n):∃ L,Ord S r L:=by
 obtain⟨s',o,h⟩:=VL.exist hS _ _ (zzL7 _) _ (hS r hr);exact⟨_,s',o,h,rfl⟩
theorem Ord.mem{r:Nat}{L:List Nat}(h:Ord S r L)(z:Nat):z∈L↔Rch S r z:=by
 obtain⟨s',o,h,rfl⟩:=h
 have hs:∀ z,s' z=true↔z=r\/z∈o:=λz=>by rw[h.seen];simp[one]
 have hc:∀ x,s' x=true->∀ y∈S x,s' y=true:=λx hx y hy=>by
  rcases(hs x).1 hx with rfl|hx
  ·exact h.closed.1 y hy
  ·exact h.closed.2 x hx y hy
 simp only[zzL31,List.mem_reverse];rw[<- hs z]
 constructor
 ·intro hz;rcases(hs z).1 hz with rfl|hz
  ·exact .refl _
  ·obtain⟨y,hy,hr⟩:=h.rch hz;exact .head hy hr
 ·intro hr
  have key:∀ x z,Rch S x z->s' x=true->s' z=true:=by
   intro x z hxz
   induction hxz with
   | refl x=>exact id
   | head hy _ ih=>grind
  exact key r z hr ((hs r).2 (.inl rfl))
theorem Ord.nodup{r:Nat}{L:List Nat}(h:Ord S r L):L.Nodup:=by
 obtain⟨s',o,h,rfl⟩:=h;refine zzL117.2 ⟨λhr=>?_,(List.reverse_perm o).nodup_iff.2 h.nodup⟩;have:=h.fresh (List.mem_reverse.1 hr);simp[one]at this
theorem Ord.fwd{r:Nat}{L:List Nat}(h:Ord S r L)(hf:∀ z,∀ y∈S z,z<y):∀ z∈L,∀ y∈S z,∃ A B,L=A++z::B/\y∈B:=by
 obtain⟨s',o,h,rfl⟩:=h;intro z hz y hy;have hzy:=hf z y hy;rcases zzL31.1 hz with rfl|hz
 ·refine⟨[],o.reverse,rfl,?_⟩;rcases(h.seen y).1 (h.closed.1 y hy) with h1|h1
  ·simp[one]at h1;omega
  ·grind
 ·have hz:=List.mem_reverse.1 hz;have hrz :=h.above hf (λv hv=>hf r v hv) z hz;rcases h.ahead hf z hz y hy with h1|⟨A,B,rfl,hA⟩
  ·simp[one]at h1;omega
  ·grind
end
theorem nT(l:List Int)(hl:l.length<4611686018427387904):Fi l=some l.reverse:=by
 unfold Fi
 by_cases h0:l.length=0
 ·obtain rfl:l=[]:=zzL114.1 h0
  have:Ad Bi ((0:Int),(w64 ((([]:List Int).length:Int)-1)),([]:List Int))=some []:=by
   apply Am
   unfold Bi;rw[Ic (by simp) (by simp)]
   rfl
  rw[this];rfl
 ·have hw:w64 ((l.length:Int)-1)=((l.length-1:Nat):Int):=by rw[Ic (by omega) (by omega)];omega
  rw[hw]
  let C:Nat->List Int:=λk=>(List.range l.length).map λi=>if i<k\/l.length-1-k<i then l.getD (l.length-1-i) 0 else l.getD i 0
  have hC:∀ k i,i<l.length->(C k).getD i 0=if i<k\/l.length-1-k<i then l.getD (l.length-1-i) 0 else l.getD i 0:=λk i hi=>by simp only[C];rw[S9 hi]
  have hlen:∀ k,(C k).length=l.length:=λk=>by simp[C]
  have:=Fs Bi (λk=>(((k:Nat):Int),((l.length-1-k:Nat):Int),C k)) l.reverse (l.length / 2) (λk hk=>?_) ?_
  ·have e0:C 0=l:=by
    apply PI (by simp[C])
    intro i h1 h2;have:=hC 0 i h2;rw[Ao _ _ _ h1,Ao _ _ _ h2]at this;rw[this,if_neg (by omega)]
   have this':Ad Bi ((0:Int),((l.length-1:Nat):Int),l)=some l.reverse:=by
    have h2:=this;simp only[e0]at h2;exact h2
   rw[this'];rfl
  ·show Bi (_,_,_)=_
   unfold Bi
   have hlt:k<l.length-1-k:=by omega
   simp only[Bo hlt,Af,Ap];rw[Ac (Fl (by rw[hlen];omega)),Ac (Fl (by rw[hlen];omega)),Ac (Fl (by rw[hlen];omega)),Ac (Fl (by rw[hlen];omega))];rw[w1 (by omega),show w64 (((l.length-1-k:Nat):Int)-1)=((l.length-1-(k+1):Nat):Int) by rw[Ic (by omega) (by omega)];omega]
   congr 4
   rw[hC k _ (by omega),hC k _ (by omega),if_neg (by omega),if_neg (by omega)];simp only[C];rw[DZ,DZ]
   apply Hi
   intro i hi
   by_cases h1:i=k
   ·subst h1;rw[if_neg (by omega),if_pos rfl,if_pos (by omega)]
   ·by_cases h2:i=l.length-1-k
    ·subst h2;rw[if_pos rfl,if_pos (by omega)]
     congr 1;omega
    ·rw[if_neg h2,if_neg h1]
     by_cases h3:i<k\/l.length-1-k<i
     ·rw[if_pos h3,if_pos (by omega)]
     ·rw[if_neg h3,if_neg (by omega)]
  ·show Bi (_,_,_)=_
   unfold Bi;have hd:decide (((l.length / 2:Nat):Int)<((l.length-1-l.length / 2:Nat):Int))=false:=Db (by omega);simp only[hd,Ar]
   congr 2
   apply PI (by simp[C])
   intro i h1 h2
   have h3:i<l.length:=by simpa [C] using h1
   have:=hC (l.length / 2) i h3;rw[Ao _ _ _ h1]at this;rw[this,List.getElem_reverse]
   split
   ·rw[Ao _ _ _ (by omega)]
   ·rw[Ao _ _ _ h3]
    congr 1;omega
theorem top{st:List Int}{a:Int}(h:st.length<4611686018427387904):(st++[a]).getD (w64 (((st++[a]).length:Int)-1)).toNat 0=a:=by
 have:w64 ((st++[a]).length-1)=(st.length:Int):=by rw[G3,LB,Ic (by omega) (by omega)];omega
 rw[this];simp[List.getD]
theorem Acw{st:List Int}{a:Int}(h:st.length<4611686018427387904):w64 (((st++[a]).length:Int)-1)=((st.length:Nat):Int):=by
 rw[G3,LB,Ic (by omega) (by omega)];omega
theorem tk{g:TGraph}{R:List Bool}{st T:List Int}{a:Nat}(hst:st.length<64)(ha:a<g.Succ.length)(h64:g.Succ.length<=64)(ht:T.getD a 0=((g.Succ.getD a []).length:Int)) :
  J2 g R (st++[(a:Int)]) T=some (.done (.inl T)):=by
 unfold J2;simp only[top (st:=st)  (by omega),Ap];rw[Ac (Fl (by omega)),Ac (Fl ha),ht,Cm,Ar]
theorem kZ{g:TGraph}{R:List Bool}{st T:List Int}{a t y:Nat}(hst:st.length<64)(ha:a<g.Succ.length)(h64:g.Succ.length<=64)(ht:T.getD a 0=(t:Int))(htl:t<(g.Succ.getD a []).length)(htm:t<64)
  (hy:(g.Succ.getD a []).getD t 0=(y:Int)) (hyn:y<g.Succ.length) :
  J2 g R (st++[(a:Int)]) T=bif R.getD y false then some (.next (Qz 64 (0:Int) T a ((t+1:Nat):Int))) else some (.done (.inr (Qz 64 false R y true,Qz 64 (0:Int) T a ((t+1:Nat):Int),(st++[(a:Int)])++[(y:Int)]))):=by
 have hroom:1000<=room:=by decide
 unfold J2;simp only[top (st:=st)  (by omega),Ap,ht,hy];rw[Ac (Fl (by omega)),Ac (Fl ha),Bo htl, Ac (Fl ha),Ac (Fl (by omega)),Ac (Fl htl),Ac (Fl (by omega)),Ac (Fl (by omega)),Ac (Fl (by omega)),w1 (by omega)]
 cases R.getD y _ with
 | true=>rfl
 | false=>
  simp only[J0,Af,Ar];rw[Ac (Fl (by omega)),Ac (by grind)]
theorem kY{g:TGraph}{R:List Bool}{st T Lf:List Int}{a:Nat}(hst:st.length<64)(hLf:Lf.length<64) :
  Ek g (R,T,st++[(a:Int)],Lf)=(Ad (J2 g R (st++[(a:Int)])) T).bind λx=>match x with
   | .inl T'=>if st=[] then some (.done (Lf++[(a:Int)]).reverse) else some (.next (R,T',st,Lf++[(a:Int)]))
   | .inr (R',T',st')=>some (.next (R',T',st',Lf)):=by
 have hroom:1000<=room:=by decide
 unfold Ek;simp only
 have hb:As (w64 ((st++[(a:Int)]).length-1)) (st++[(a:Int)]).length:=by rw[Acw (by omega)];exact Fl (by simp)
 rw[Ac hb]
 congr 1
 funext x
 cases x with
 | inr y =>  rfl
 | inl T'=>
  simp only[top (st:=st)  (by omega)];rw[Acw (by omega),Ap,Ac (by grind),Ac ⟨by omega,by simp⟩];have e:(st++[(a:Int)]).take _=st:=List.take_left' rfl;rw[e]
  cases st with
  | nil=>
   rw[if_pos rfl]
   have:decide (0<(([]:List Int).length:Int))=false:=by decide
   rw[this,Ar,nT _ (by simp;omega)];simp only[Ak];rw[Ac (by simp)]
  | cons b st'=>
   simp_all
theorem io{S X:Type}{f:S->Option (LR S X)}{a b:S}(h:f a=f b):Ad f a=Ad f b:=by
 cases hb:f b with
 | none=>rw[HY (h.trans hb),HY hb]
 | some r=>cases r with
  | done x=>rw[Am (h.trans hb),Am hb]
  | next s=>rw[Aq (h.trans hb),Aq hb]
theorem OY{S X:Type}{f:S->Option (LR S X)}{s:S}:Ua (f s) f=Ad f s:=by
 cases hb:f s with
 | none=>rw[HY hb];rfl
 | some r=>cases r with
  | done x=>rw[Am hb];rfl
  | next s'=>rw[Aq hb];rfl
def sN(L:List (List Int))(k:Nat):List Nat:=(L.getD k []).map Int.toNat
def RelS(R:List Bool)(s:Nat->Bool):Prop:=∀ z,z<64->R.getD z false=s z
theorem U0{α:Type}{d:α}{l:List α}{i:Nat}{x:α}{k:Nat}(hk:k<64):(Qz 64 d l i x).getD k d=if k=i then x else l.getD k d:=by
 rw[ak hk]
 by_cases h:k=i
 · simp
 ·have:Nat.beq k i=false:=by cases hb:Nat.beq k i with|false=>rfl|true=>simp_all
  rw[this,if_neg h];rfl
theorem RelS.set{R:List Bool}{s:Nat->Bool}(h:RelS R s){y:Nat}:RelS (Qz 64 false R y true) (upd s y):=λz hz=>by
 rw[U0 hz,h z hz]
 by_cases hzy:z=y
 ·simp[upd]
 ·simp[upd]
def Xo(o:List Nat):List Int:=o.map Int.ofNat
theorem jG{g:TGraph}(hm:Og g.Succ=true){s s':Nat->Bool}{l o:List Nat}(hv:VL (sN g.Succ) s l s' o) :
  ∀(R:List Bool) (T st Lf:List Int) (a t:Nat),RelS R s->a<g.Succ.length->l=(sN g.Succ a).drop t->T.getD a 0=(t:Int)->t<=(sN g.Succ a).length->s a=true->(∀ z,z<64->s z=false->T.getD z 0=0)->
   Lf.length+d8 64 s+st.length+1<=64->
   ∃(R':List Bool) (T':List Int),RelS R' s'/\(∀ z,z<64->s' z=false->T'.getD z 0=0)/\(∀ z,z<64->s z=true->z≠a->T'.getD z 0=T.getD z 0)/\Lf.length+o.length+d8 64 s'+st.length+1<=64 /\
    Ad (Ek g) (R,T,st++[(a:Int)],Lf)=if st=[] then some (Lf++Xo o++[(a:Int)]).reverse else Ad (Ek g) (R',T',st,Lf++Xo o++[(a:Int)]):=by
 obtain⟨hL1,hL64,hLok⟩:=mayS_iff.1 hm
 have hlenS:∀ a,(sN g.Succ a).length=(g.Succ.getD a []).length:=λa=>by simp[sN]
 have hdrop:∀(a t y:Nat) (l':List Nat),a<g.Succ.length->y::l'=(sN g.Succ a).drop t->t<(g.Succ.getD a []).length/\(g.Succ.getD a []).getD t 0=(y:Int)/\y<g.Succ.length/\l'=(sN g.Succ a).drop (t+1):=λa t y l' ha he=>by
  have ht:t<(sN g.Succ a).length:=by
   rcases zzL119 t (sN g.Succ a).length with h|h
   ·exact h
   ·rw[List.drop_eq_nil_of_le h]at he;cases he
  rw[cj ht]at he;simp only[Gl]at he;obtain⟨h1,h2⟩:=he
  have ht':t<(g.Succ.getD a []).length:=by rw[<- hlenS];exact ht
  obtain⟨b0,b1⟩:=DH (hLok a ha) ht'
  have h3:(sN g.Succ a)[t]=((g.Succ.getD a []).getD t 0).toNat:=by rw[Ao _ _ _ ht'];simp[sN]
  exact⟨ht',by omega,by omega,h2⟩
 induction hv with
 | nil s=>
  intro R T st Lf a t hR ha hl hT htl hsa hz hc
  have ht:t=(g.Succ.getD a []).length:=by
   have:=Bv List.length hl;simp at this;rw[hlenS]at htl this;omega
  refine⟨R,T,hR,hz,λ_ _ _ _=>rfl,by simpa using hc,?_⟩
  have hF:Ek g (R,T,st++[(a:Int)],Lf)=if st=[] then some (.done (Lf++[(a:Int)]).reverse) else some (.next (R,T,st,Lf++[(a:Int)])):=by
   rw[kY (by omega) (by omega),Am (tk (by omega) ha hL64 (by rw[hT,ht]))]
   rfl
  by_cases hst:st=[]
  ·rw[if_pos hst]at hF ⊢;rw[Am hF];simp[Xo]
  ·rw[if_neg hst]at hF ⊢;rw[Aq hF];simp[Xo]
 | @skip s s' y l o h tl ih=>
  intro R T st Lf a t hR ha hl hT htl hsa hz hc;obtain⟨h1,h2,h3,h4⟩:=hdrop a t y l ha hl;have hb:=FR (hLok a ha);have hs:=kZ (g:=g) (R:=R) (st:=st) (T:=T) (a:=a) (t:=t) (y:=y) (by omega) ha hL64 hT h1 (by omega) h2 h3;rw[hR y (by omega),h,Af]at hs;obtain⟨R',T',a1,a2,a3,a4,a5⟩:=ih R (Qz 64 (0:Int) T a ((t+1:Nat):Int)) st Lf a (t+1) hR ha h4 (by rw[U0 (by omega),if_pos rfl]) (by rw[hlenS];omega) hsa
   (λz hz1 hz2=>by rw[U0 hz1,if_neg (by rintro rfl;rw[hsa]at hz2;cases hz2)];exact hz z hz1 hz2) hc
  refine⟨R',T',a1,a2,λz hz1 hz2 hz3=>by rw[a3 z hz1 hz2 hz3,U0 hz1,if_neg hz3],a4,?_⟩;rw[<- a5]
  apply io
  rw[kY (by omega) (by omega),kY (by omega) (by omega),Aq hs]
 | @step s s1 s2 y l o1 o2 h tl tr ih1 ih2=>
  intro R T st Lf a t hR ha hl hT htl hsa hz hc;obtain⟨h1,h2,h3,h4⟩:=hdrop a t y l ha hl;have hb:=FR (hLok a ha)
  have hay:y≠a:=by rintro rfl;rw[hsa]at h;cases h
  have hs:=kZ (g:=g) (R:=R) (st:=st) (T:=T) (a:=a) (t:=t) (y:=y) (by omega) ha hL64 hT h1 (by omega) h2 h3;rw[hR y (by omega),h,Ar]at hs;have hcu:=FH (n:=64) (show y<64 by omega) h
  have hF:Ek g (R,T,st++[(a:Int)],Lf)=some (.next (Qz 64 false R y true,Qz 64 (0:Int) T a ((t+1:Nat):Int),(st++[(a:Int)])++[(y:Int)],Lf)):=by
   rw[kY (by omega) (by omega),Am hs]
   rfl
  obtain⟨R1,T1,b1,b2,b3,b4,b5⟩:=ih1 (Qz 64 false R y true) (Qz 64 (0:Int) T a ((t+1:Nat):Int)) (st++[(a:Int)]) Lf y 0 hR.set h3 (by simp)
   (by rw[U0 (by omega),if_neg hay];exact hz y (by omega) h) (Yh _) (upd_true.2 (.inl rfl))
   (λz hz1 hz2=>by
    obtain⟨c1,c2⟩:=upd_false.1 hz2;rw[U0 hz1,if_neg (by rintro rfl;rw[hsa]at c2;cases c2)]
    exact hz z hz1 c2) (by rw[G3,LB];omega)
  rw[if_neg (by simp)]at b5
  have hTa:T1.getD a 0=((t+1:Nat):Int):=by rw[b3 a (by omega) (upd_true.2 (.inr hsa)) (Sd hay),U0 (by omega),if_pos rfl]
  rw[G3,LB]at b4;obtain⟨R2,T2,c1,c2,c3,c4,c5⟩:=ih2 R1 T1 st (Lf++Xo o1++[(y:Int)]) a (t+1) b1 ha h4 hTa (by rw[hlenS];omega) ((tl.seen a).2 (.inl (upd_true.2 (.inr hsa)))) b2
   (by simp only[G3,LB,Xo,Ns];omega)
  refine⟨R2,T2,c1,c2,λz hz1 hz2 hz3=>?_,?_,?_⟩
  ·rw[c3 z hz1 ((tl.seen z).2 (.inl (upd_true.2 (.inr hz2)))) hz3,b3 z hz1 (upd_true.2 (.inr hz2)) (by rintro rfl;rw[h]at hz2;cases hz2),U0 hz1,if_neg hz3]
  ·simp only[G3,LB,Xo,Ns,Tz]at c4 ⊢;omega
  ·rw[Aq hF,b5,c5]
   have e:Lf++Xo o1++[(y:Int)]++Xo o2++[(a:Int)]=Lf++Xo (o1++y::o2)++[(a:Int)]:=by simp[Xo]
   rw[e]
theorem AQ{L:List (List Int)}(h:Og L=true):∀ z,z<L.length->∀ y∈sN L z,y<L.length:=λz hz y hy=>by
 obtain⟨_,_,h3⟩:=mayS_iff.1 h;obtain⟨x,hx,rfl⟩:=zzL21.1 hy;have:=cB (h3 z hz) hx;omega
theorem vQ{r:Nat}(hr:r<64):d8 64 (one r)=63:=by
 have h:=FH  (s:=λ_=>false) hr rfl
 have e:upd (λ_=>false) r=one r:=by funext z;simp[upd,one]
 rw[e]at h
 have:d8 64 (λ_=>false)=64:=by decide
 omega
theorem KR{α:Type}{n z:Nat}{d:α}:(List.replicate n d).getD z d=d:=by grind
theorem bv(g:TGraph)(h:Fits g.Succ)(hP:True)(r:Int) :
  (GJ g=true->0<=r->r<(g.Succ.length:Int)->∀ L,Ord (sN g.Succ) r.toNat L->Lv g r=some (Xo L)) /\
  ((GJ g&&(decide (0<=r)&&decide (r<(g.Succ.length:Int))))=false->Lv g r=some []):=by
 refine⟨λhm h0 h1 L hL=>?_,λhf=>?_⟩
 ·have hms:Og g.Succ=true:=by unfold GJ at hm;exact(A4 _ _▸hm).1
  obtain⟨hL1,hL64,hLok⟩:=mayS_iff.1 hms;obtain⟨s',o,hv,rfl⟩:=hL;have hrn :=Mi h0
  have hr:r.toNat<g.Succ.length:=by omega
  obtain⟨R',T',_,_,_,_,hmain⟩:=jG hms hv (Qz 64 false (List.replicate 64 false) r.toNat true) _ [] [] r.toNat 0
   (λz hz=>by rw[U0 hz,KR];by_cases hzr:z=r.toNat<;>simp[one,hzr]) hr (by simp) KR (Yh _) (by simp[one])
   (λz hz _=>KR) (by rw[vQ (by omega)];simp)
  rw[if_pos rfl,hrn]at hmain;unfold Lv;rw[xT _ h,hm,Ak];simp only[C0,Wv,Af,Ar,Xz,Gi h0,Gi h1,Bool.and_self,Ak];rw[Ac ⟨h0,by omega⟩];have hF:∀ X,Ad (Ek g) (Qz 64 false (List.replicate 64 false) r.toNat true,List.replicate 64 (0:Int),[]++[r],[])=some X->
    (Ua _ (Ek g)).bind (λx=>some x)=some X:=λX hX=>by
   rw[OY];rw[hX];rfl
  refine(hF _ hmain).trans ?_;simp only[Um,List.reverse_append,Xo,Cz,List.map_reverse,List.reverse_cons,List.reverse_nil]
  simp
  omega
 ·unfold Lv;rw[xT _ h,Ak]
  cases hm:GJ g with
  | false=>rfl
  | true=>
   rw[hm,Hn]at hf;simp only[C0,Wv,Af,Ar,Xz,hf,Ak,J0]
   rfl
def RelN(n:Nat)(R:List Bool)(s:Nat->Bool):Prop:=R.length=n/\∀ z,z<n->R.getD z false=s z
theorem RelN.set{n:Nat}{R:List Bool}{s:Nat->Bool}(h:RelN n R s){y:Nat}(hy:y<n):RelN n (R.set y true) (upd s y):=by
 refine⟨by rw[D6];exact h.1,λz hz=>?_⟩;rw[cg,List.getElem?_set]
 by_cases hzy:y=z
 ·subst hzy;simp[upd,h.1,hy]
 ·rw[if_neg hzy,<- cg,h.2 z hz];simp[upd,Sd hzy]
theorem U4:∀(n:Nat) (l:List Nat),l.Nodup->(∀ x∈l,x<n)->l.length<=n
 | 0,l,_,h=>by
  cases l with
  | nil=>simp
  | cons x l=>have:=h x (zzL44 ..);omega
 | n+1,l,hd,h=>by
  by_cases hn:n∈l
  ·have h1:=U4 n _ (hd.erase n) λx hx=>by
    grind
   rw[List.length_erase_of_mem hn]at h1;omega
  ·have h1:=U4 n l hd λx hx=>by
    grind
   omega
theorem II:∀{a b:List Int},a.Pairwise (·<·)->b.Pairwise (·<·)->(∀ x,x∈a↔x∈b)->a=b
 | [],[],_,_,_=>rfl
 | [],y::b,_,_,h=>by have:=(h y).2 (zzL44 ..);cases this
 | x::a,[],_,_,h=>by have:=(h x).1 (zzL44 ..);cases this
 | x::a,y::b,ha,hb,h=>by
  have ha':=zzL92.1 ha;have hb':=zzL92.1 hb
  have hxy:x=y:=by
   rcases zzL31.1 ((h x).1 (zzL44 ..)) with h1|h1
   ·exact h1
   ·rcases zzL31.1 ((h y).2 (zzL44 ..)) with h2|h2
    ·exact h2.symm
    ·grind
  congr 1
  refine II ha'.2 hb'.2 λz=>⟨λhz=>?_,λhz=>?_⟩
  ·grind
  ·grind
theorem CV(p:Nat->Bool)(n:Nat):(((List.range n).filter p).map Int.ofNat).Pairwise (·<·):=by
 rw[List.pairwise_map];have:=(List.pairwise_lt_range (n:=n)).filter p
 exact this.imp λh=>by simpa using h
theorem SU{p:Nat->Bool}{n:Nat}{x:Int}:x∈((List.range n).filter p).map Int.ofNat↔∃ k:Nat,x=(k:Int)/\k<n/\p k=true:=by
 grind
theorem qg{L:List (List Int)}{k i:Nat}:AF L k i=true↔(i:Int)∈L.getD k []:=by unfold AF;rw[zzL63]
theorem pz{b:Bool}{α:Type}{x:α}:(bif b then x else x)=x:=by cases b<;>rfl
theorem rC{L:List (List Int)}(h:Og L=true){x y:Nat}(hx:x<L.length):y∈sN L x↔(y:Int)∈L.getD x []:=by
 obtain⟨_,_,h3⟩:=mayS_iff.1 h;unfold sN;rw[zzL21]
 constructor
 ·rintro⟨z,hz,rfl⟩;have:=cB (h3 x hx) hz;rw[Mi this.1];exact hz
 ·grind
def mk(o:List Bool)(l:List Nat):List Bool:=l.foldl (λo y=>o.set y true) o
theorem iy(l:List Nat):∀ o:List Bool,(mk o l).length=o.length:=by
 induction l with
 | nil=>intro o;rfl
 | cons y l ih=>intro o;show(mk _ l).length=_;rw[ih,D6]
theorem mk_at{n:Nat}(l:List Nat):∀(o:List Bool),o.length=n->(∀ y∈l,y<n)->∀ z,(mk o l).getD z false=true↔o.getD z false=true\/z∈l:=by
 induction l with
 | nil =>  simp[mk]
 | cons y l ih=>
  intro o ho hl z
  show(mk _ l).getD z _=true↔_
  rw[ih _ (by grind) (λu hu=>hl u (Mn _ hu)) z]
  have e:(o.set y true).getD z false=true↔o.getD z false=true\/z=y:=by
   grind
  rw[e,zzL31]
  constructor
  ·grind
  ·rintro(h|h|h)
   ·exact .inl (.inl h)
   ·exact .inl (.inr h)
   ·exact .inr h
def sw(S:Nat->List Nat)(o:List Bool):Nat->List Bool
 | 0=>o
 | i+1=>if(sw S o i).getD i false=true then mk (sw S o i) (S i) else sw S o i
def KM(S:Nat->List Nat)(n:Nat)(o:List Bool):Nat->List Bool
 | 0=>o
 | j+1=>sw S (KM S n o j) n
section
variable {S:Nat->List Nat} {n:Nat} (hS:∀ z,z<n->∀ y∈S z,y<n)
theorem sw_len(o:List Bool):∀ i,(sw S o i).length=o.length:=by
 intro i
 induction i with
 | zero=>rfl
 | succ i ih=>unfold sw;split;rw[iy,ih];exact ih
theorem Zo(o:List Bool):∀ j,(KM S n o j).length=o.length:=by
 intro j
 induction j with
 | zero=>rfl
 | succ j ih=>unfold KM;rw[sw_len,ih]
include hS
theorem RB{o:List Bool}(ho:o.length=n):∀ i,i<=n->∀ z,o.getD z false=true->(sw S o i).getD z false=true:=by
 intro i
 induction i with
 | zero=>intro _ z h;exact h
 | succ i ih=>
  intro hi z h;unfold sw
  split
  ·exact(mk_at  _ _ (by rw[sw_len];exact ho) (hS i (by omega)) z).2 (.inl (ih (by omega) z h))
  ·exact ih (by omega) z h
theorem sL{o:List Bool}{r:Nat}(ho:o.length=n)(h:∀ z,o.getD z false=true->Rch S r z):∀ i,i<=n->∀ z,(sw S o i).getD z false=true->Rch S r z:=by
 intro i
 induction i with
 | zero=>intro _ z hz;exact h z hz
 | succ i ih=>
  intro hi z hz;unfold sw at hz
  split at hz
  ·rename_i hsi
   rcases(mk_at  _ _ (by rw[sw_len];exact ho) (hS i (by omega)) z).1 hz with h1|h1
   ·exact ih (by omega) z h1
   ·exact(ih (by omega) i hsi).tail h1
  ·exact ih (by omega) z hz
theorem wb{o:List Bool}(ho:o.length=n):∀ i,i<=n->∀ j,j<i->o.getD j false=true->∀ y∈S j,(sw S o i).getD y false=true:=by
 intro i
 induction i with
 | zero =>  omega
 | succ i ih=>
  intro hi j hj hoj y hy;unfold sw
  by_cases hji:j=i
  ·subst hji;have h1:=RB hS ho j (by omega) j hoj;rw[if_pos h1];exact(mk_at  _ _ (by rw[sw_len];exact ho) (hS j (by omega)) y).2 (.inr hy)
  ·have h1:=ih (by omega) j (by omega) hoj y hy
   split
   ·exact(mk_at  _ _ (by rw[sw_len];exact ho) (hS i (by omega)) y).2 (.inl h1)
   ·exact h1
theorem n7{o:List Bool}(ho:o.length=n)(hc:∀ j,j<n->o.getD j false=true->∀ y∈S j,o.getD y false=true):∀ i,i<=n->∀ z,(sw S o i).getD z false=true->o.getD z false=true:=by
 intro i
 induction i with
 | zero=>intro _ z h;exact h
 | succ i ih=>
  intro hi z hz;unfold sw at hz
  split at hz
  ·rcases(mk_at  _ _ (by rw[sw_len];exact ho) (hS i (by omega)) z).1 hz with h1|h1
   ·exact ih (by omega) z h1
   ·grind
  ·exact ih (by omega) z hz
theorem KN{r:Nat}(hr:r<n)(z:Nat):(KM S n ((List.replicate n false).set r true) n).getD z false=true↔Rch S r z:=by
 let o0:=(List.replicate n false).set r true
 have ho0:o0.length=n:=by simp[o0]
 have hat0:∀ z,o0.getD z false=true↔z=r:=λz=>by
  grind
 have hlen:∀ j,(KM S n o0 j).length=n:=λj=>by rw[Zo,ho0]
 have hsound:∀ j z,(KM S n o0 j).getD z false=true->Rch S r z:=by
  intro j
  induction j with
  | zero=>intro z hz;rw[(hat0 z).1 hz];exact .refl _
  | succ j ih=>intro z hz;exact sL hS (hlen j) ih n (zzL7 _) z hz
 have hmono:∀ j,∀ z,o0.getD z false=true->(KM S n o0 j).getD z false=true:=by
  intro j
  induction j with
  | zero=>intro z h;exact h
  | succ j ih=>intro z h;exact RB hS (hlen j) n (zzL7 _) z (ih z h)
 let C:Nat->Prop:=λj=>∀ i,i<n->(KM S n o0 j).getD i false=true->∀ y∈S i,(KM S n o0 j).getD y false=true
 have key:∀ j,C j\/d8 n (λz=>(KM S n o0 j).getD z false)+j+1<=n:=by
  intro j
  induction j with
  | zero=>
   refine .inr ?_;have h1:=FH (n:=n) (s:=λ_=>false) hr rfl
   have e:upd (λ_=>false) r=λz=>(KM S n o0 0).getD z false:=by
    funext z
    rw[Ul,upd_true]
    show _↔o0.getD z false=true
    rw[hat0]
    simp
   rw[e]at h1
   have hcl:d8 n (λ_=>false)=n:=by
    unfold d8;rw[List.filter_eq_self.2 (by simp)]
    simp
   omega
  | succ j ih=>
   by_cases hc:C j
   ·refine .inl λi hi h y hy=>?_;have h1:=n7 hS (hlen j) hc n (zzL7 _) i h;exact RB hS (hlen j) n (zzL7 _) y (hc i hi h1 y hy)
   ·rcases ih with ih|ih
    ·exact(hc ih).elim
    ·refine .inr ?_
     have hex:∃ i,i<n/\(KM S n o0 j).getD i false=true/\∃ y,y∈S i/\(KM S n o0 j).getD y false=false:=by
      grind
     obtain⟨i,hi,h1,y,hy,h2⟩:=hex;have h3:=wb hS (hlen j) n (zzL7 _) i hi h1 y hy;have hyn:=hS i hi y hy;have h4:=FH (n:=n) (s:=λz=>(KM S n o0 j).getD z false) hyn h2
     have h5:d8 n (λz=>(KM S n o0 (j+1)).getD z false)<=d8 n (upd (λz=>(KM S n o0 j).getD z false) y):=d9 λz hz=>by
      rcases upd_true.1 hz with rfl|hz
      ·exact h3
      ·exact RB hS (hlen j) n (zzL7 _) z hz
     omega
 constructor
 ·exact hsound n z
 ·intro hrch
  have hlt:∀ x z,Rch S x z->x<n->z<n/\((KM S n o0 n).getD x false=true->(KM S n o0 n).getD z false=true):=by
   intro x z hxz
   induction hxz with
   | refl x=>exact λhx=>⟨hx,id⟩
   | @head x y z hy _ ih=>
    grind
  exact(hlt r z hrch hr).2 (hmono n r ((hat0 r).2 rfl))
end
theorem vm{L:List (List Int)}(hm:Og L=true){r:Nat}(hr:r<L.length) :
  C2 (Kp L) (r:Int) (-1:Int)=some (KM (sN L) L.length ((List.replicate L.length false).set r true) L.length):=by
 obtain⟨h1,h2,h3⟩:=mayS_iff.1 hm
 have hroom:(1000:Nat)<=room:=by decide
 have hS:=AQ hm;have hgs:(Kp L).Succ=L:=rfl
 have hlenS:∀ a,(sN L a).length=(L.getD a []).length:=λa=>by simp[sN]
 have hin:∀(o:List Bool) (i:Nat),o.length=L.length->i<L.length->Ad (A7 (Kp L) (-1) (i:Int)) ((0:Int),o)=some (if o.getD i false=true then mk o (sN L i) else o):=λo i ho hi=>by
  have hb:=FR (h3 i hi)
  by_cases hoi:o.getD i false=true
  ·rw[if_pos hoi];have hmi:∀ k,(mk o ((sN L i).take k)).getD i false=true:=λk=>(mk_at (n:=L.length) _ _ ho (λy hy=>hS i hi y (List.mem_of_mem_take hy)) i).2 (.inl hoi)
   have hml:∀ k,(mk o ((sN L i).take k)).length=L.length:=λk=>by rw[iy,ho]
   refine Fs (A7 (Kp L) (-1) (i:Int)) (λk=>(((k:Nat):Int),mk o ((sN L i).take k))) _ (L.getD i []).length (λk hk=>?_) ?_
   ·unfold A7;obtain⟨a0,a1⟩:=DH (h3 i hi) hk;simp only[hgs,Ap,hmi];rw[Ac (Fl (by rw[hml];exact hi)),Nn (Fl hi),Af,Bo hk,Af,Ac (Fl hi),Ac (Fl hk)]
    have hne:((L.getD i []).getD k 0 !=(-1:Int))=true:=by rw[zzL83];omega
    rw[hne,Af,Ac (Fl hi),Ac (Fl hk),Ac ⟨a0,by rw[hml];exact a1⟩,w1 (by omega)]
    have e:mk o ((sN L i).take (k+1))=(mk o ((sN L i).take k)).set ((L.getD i []).getD k 0).toNat true:=by
     have hk':k<(sN L i).length:=by rw[hlenS];exact hk
     rw[lq hk'];unfold mk;rw[List.foldl_append]
     have:(sN L i)[k]=((L.getD i []).getD k 0).toNat:=by rw[Ao _ _ _ hk];simp[sN]
     rw[this]
     rfl
    rw[e]
    rfl
   ·unfold A7;simp only[hgs,Ap,hmi];rw[Ac (Fl (by rw[hml];exact hi)),Nn (Fl hi),Af,Cm,Ar]
    have:(sN L i).take (L.getD i []).length=sN L i:=by rw[<- hlenS];exact VB ..
    rw[this]
  ·have hof:o.getD i false=false:=by simpa using hoi
   rw[if_neg hoi]
   apply Am
   unfold A7;simp only[hgs,Ap,hof];rw[Ac (Fl (by rw[ho];exact hi)),Nn (Fl hi),Ar,Ar]
 have hsw:∀ o:List Bool,o.length=L.length->Ad (A8 (Kp L) (-1)) ((0:Int),o)=some (sw (sN L) o L.length):=λo ho=>by
  refine Fs (A8 (Kp L) (-1)) (λi=>(((i:Nat):Int),sw (sN L) o i)) _ L.length (λi hi=>?_) ?_
  ·show A8 (Kp L) (-1) (_,_)=_
   unfold A8
   have hl:(sw (sN L) o i).length=L.length:=by rw[sw_len,ho]
   simp only[hl,Bo hi,Af];rw[hin _ i hl hi,w1 (by omega)]
   rfl
  ·show A8 (Kp L) (-1) (_,_)=_
   unfold A8
   have hl:(sw (sN L) o L.length).length=L.length:=by rw[sw_len,ho]
   simp only[hl,Cm,Ar]
 unfold C2;simp only[hgs,Ap];rw[Ac ⟨by omega,Int.le_refl _,by omega⟩]
 have hne:((r:Int)==(-1:Int))=false:=by rw[zzL34];omega
 rw[hne,Ar,Ac (Fl (by simpa using hr))]
 have hl0:((List.replicate L.length false).set r true).length=L.length:=by simp
 have:Ad (A9 (Kp L) (-1)) ((0:Int),(List.replicate L.length false).set r true)=some (KM (sN L) L.length ((List.replicate L.length false).set r true) L.length):=by
  refine Fs (A9 (Kp L) (-1)) (λj=>(((j:Nat):Int),KM (sN L) L.length ((List.replicate L.length false).set r true) j)) _ L.length (λj hj=>?_) ?_
  ·show A9 (Kp L) (-1) (_,_)=_
   unfold A9
   have hl:(KM (sN L) L.length ((List.replicate L.length false).set r true) j).length=L.length:=by rw[Zo,hl0]
   simp only[hl,Bo hj,Af];rw[hsw _ hl,w1 (by omega)]
   rfl
  ·show A9 (Kp L) (-1) (_,_)=_
   unfold A9
   have hl:(KM (sN L) L.length ((List.replicate L.length false).set r true) L.length).length=L.length:=by rw[Zo,hl0]
   simp only[hl,Cm,Ar]
 rw[this]
 rfl
def pos:List Nat->Nat->Nat
 | [],_=>0
 | x::l,z=>if x=z then 0 else pos l z+1
theorem TM(x:Nat)(l:List Nat)(z:Nat):pos (x::l) z=if x=z then 0 else pos l z+1:=rfl
theorem wN{A l:List Nat}{z:Nat}(h:z∉A):pos (A++l) z=A.length+pos l z:=by
 induction A with
 | nil=>simp
 | cons x A ih=>
  have h1:x≠z:=λe=>h (by grind);have h2 :=λe=>h (Mn _ e);rw[IL,TM,if_neg h1,ih h2,Tz];omega
theorem RA{P:List Nat}(hd:P.Nodup){i:Nat}(hi:i<P.length):P[i]∉P.take i/\pos P P[i]=i:=by
 have e:P=P.take i++P[i]::P.drop (i+1):=by simp_all
 have hn:P[i]∉P.take i:=by
  grind
 refine⟨hn,?_⟩
 have h2:pos (P.take i++P[i]::P.drop (i+1)) P[i]=i:=by
  rw[wN hn]
  have:pos (P[i]::P.drop (i+1)) P[i]=0:=by rw[TM,if_pos rfl]
  rw[ LD];omega
 rw[<- e]at h2;exact h2
theorem pc{n:Nat}{p:Nat->Bool}:(List.range (n+1)).all p=((List.range n).all p&&p n):=by
 grind
theorem eD(d:Array Int)(hs:∀ i j,i<=j->j<d.size->d[i]!<=d[j]!):∀ m,m<=d.size->(∀ x∈Lib.compactUpTo d m,∃ j,j<m/\x=d[j]!)/\(∀ j,j<m->d[j]!∈Lib.compactUpTo d m)/\(Lib.compactUpTo d m).Pairwise (·<·):=by
 intro m
 induction m with
 | zero=>intro _;exact⟨(λx hx=>by simp[Lib.compactUpTo]at hx),(λj hj=>by omega),by simp[Lib.compactUpTo]⟩
 | succ m ih=>
  intro hm;obtain⟨h1,h2,h3⟩:=ih (by omega);rw[Lib.compactUpTo_succ]
  cases hk:Lib.keeps d m with
  | true=>
   rw[if_pos rfl];refine⟨λx hx=>?_,λj hj=>?_,?_⟩
   ·grind
   ·grind
   ·rw[zzL121];refine⟨h3,List.pairwise_singleton _ _,λx hx y hy=>?_⟩;obtain⟨j,hj,rfl⟩:=h1 x hx
    have hy':y=d[m]!:=by simpa using hy
    subst hy'
    have hk':m=0\/d[m]!≠d[m-1]!:=by simpa [Lib.keeps] using hk
    rcases hk' with h0|h0
    ·omega
    ·have a1:=hs j (m-1) (by omega) (by omega);have a2:=hs (m-1) m (by omega) (by omega);omega
  | false=>
   have hk':m≠0/\d[m]! = d[m-1]!:=by
    have:¬ (m=0\/d[m]!≠d[m-1]!):=by
     intro h
     have:Lib.keeps d m=true:=by simpa [Lib.keeps] using h
     rw[hk]at this;cases this
    exact⟨λh=>this (.inl h),Classical.not_not.1 λh=>this (.inr h)⟩
   simp only[UY,Ji,List.append_nil];refine⟨λx hx=>by grind,λj hj=>?_,h3⟩
   by_cases hjm:j=m
   ·subst hjm;rw[hk'.2];exact h2 _ (by omega)
   ·exact h2 j (by omega)
def KS(l:List Int):List Int:=Lib.compact (l.mergeSort λx y=>decide (x<=y))
theorem FU(l:List Int):(KS l).Pairwise (·<·)/\∀ x,x∈KS l↔x∈l:=by
 unfold KS Lib.compact;have hp:(l.mergeSort _).Pairwise (λa b=>decide (a<=b)=true):=List.pairwise_mergeSort (λa b c h1 h2=>by simp at *;omega) (λa b=>by simp;omega) l;have hm:∀ x,x∈(l.mergeSort λx y=>decide (x<=y))↔x∈l:=λx=>List.mem_mergeSort
 generalize l.mergeSort _=z at hp hm ⊢
 have hz:∀ j,j<z.length->z.toArray[j]! = z.getD j 0:=λj hj=>by simp[ hj]
 obtain⟨h1,h2,h3⟩:=eD z.toArray (λi j hij hj=>by
  have hj' :=by simpa using hj
  rw[hz i (by omega),hz j hj']
  by_cases he:i=j
  ·grind
  ·have:=(zzL110.1 hp) i j (by omega) hj' (by omega);rw[Ao _ _ _ _,Ao _ _ _ hj']
   simpa using this) z.length (by simp)
 refine⟨h3,λx=>?_⟩;rw[<- hm x]
 constructor
 ·grind
 ·intro hx;obtain⟨j,hj,rfl⟩:=Nc hx;have:=h2 j hj;rwa[hz j hj,Ao _ _ _ hj]at this
def te(n:Nat)(l:List Int):Bool:=(List.range l.length).all λi=>decide (0<l.getD i 0)&&decide (l.getD i 0<(n:Int))
def Vz(k:Int):Int:=([0,1,2,0]:List Int).getD k.toNat 0
def DE(e:H7):Bool:=(decide (0<=e.Kind)&&decide (e.Kind<=3))&&decide ((e.To.length:Int)=Vz e.Kind)
def Np(e:H7)(n:Nat):Bool:=DE e&&te n e.To
theorem toB_iff{n:Nat}{l:List Int}:te n l=true↔∀ x∈l,0<x/\x<n:=by
 unfold te;rw[all_range];simp only[A4,Jd]
 constructor
 ·intro h x hx;obtain⟨i,hi,rfl⟩:=Nc hx;have:=h i hi;rwa[Ao _ _ _ hi]at this
 ·simp_all
theorem qT(e:H7)(n:Nat)(hl:e.To.length<4611686018427387904):Ad (Fp e (n:Int)) (0:Int)=some (bif te n e.To then .inl () else .inr false):=by
 have step:∀ j ,j<e.To.length->Fp e n j=bif (decide (0<e.To.getD j 0)&&decide (e.To.getD j 0<n)) then some (.next ((j+1:Int))) else some _:=λj hj=>by
  unfold Fp;simp only[Ap,Bo hj, Xz,w1 (show j<4611686018427387904 by omega)];rw[Ac (Fl hj)]
  by_cases h0:e.To.getD j 0=0
  ·rw[h0];rfl
  ·grind
 have:=Ij (Fp e n) (λj=>(j:Nat)) (λi=>decide (0<e.To.getD i 0)&&decide (e.To.getD i 0<n)) (.inl ()) (.inr false) e.To.length (λj hj hp=>?_) (λj hj hp=>?_) ?_
 ·exact this
 ·grind
 ·rw[step j hj,hp];rfl
 ·unfold Fp;simp only[Cm,Ar]
theorem JR(e:H7)(n:Nat)(w:Int)(hw:0<=w/\w<=2) :
  (bif ((e.To.length:Int)!=w) then(some false) else((Ad (Fp e (n:Int)) (0:Int)).bind (λx10=>(match x10 with|(.inl _)=>(some true)|(.inr r12)=>(some r12)))))=some (decide ((e.To.length:Int)=w)&&te n e.To):=by
 by_cases h:e.To.length=w
 ·rw[show(e.To.length !=w)=false by simpa using h, qT e n (by omega),Gi h]
  cases te n _<;>rfl
 ·grind
theorem nP(e:H7)(n:Nat):P5 e (n:Int)=some (Np e n):=by
 unfold P5 Np DE
 by_cases h0:e.Kind=0
 ·rw[h0];exact JR e n 0 (by omega)
 by_cases h1:e.Kind=1
 ·rw[h1];exact JR e n 1 (by omega)
 by_cases h2:e.Kind=2
 ·rw[h2];exact JR e n 2 (by omega)
 by_cases h3:e.Kind=3
 ·rw[h3];exact JR e n 0 (by omega)
 have e0:(e.Kind==0)=false:=by rw[zzL34];exact h0
 have e1:(e.Kind==1)=false:=by rw[zzL34];exact h1
 have e2:(e.Kind==2)=false:=by rw[zzL34];exact h2
 have e3:(e.Kind==3)=false:=by rw[zzL34];exact h3
 rw[e0,e1,e2,e3]
 have:(decide (0<=e.Kind)&&decide (e.Kind<=3))=false:=by
  by_cases h:0<=e.Kind
  ·rw[Db (show ¬ e.Kind<=3 by omega)];simp
  ·rw[Db h];rfl
 rw[this]
 rfl
theorem qX{e:H7}{n:Nat}(h:Np e n=true):e.To.length<=2:=by
 unfold Np DE at h;simp only[A4,Jd]at h;obtain⟨⟨⟨h0,h1⟩,h2⟩,_⟩:=h
 have:Vz e.Kind<=2:=by
  have:e.Kind=0\/e.Kind=1\/e.Kind=2\/e.Kind=3:=by omega
  rcases this with h|h|h|h<;>rw[h]<;>decide
 omega
theorem bf{e:H7}{n:Nat}(h:Np e n=true):te n e.To=true:=by unfold Np at h;exact(A4 _ _▸h).2
def Bq(f:TFunc)(i:Nat):H7:=(f.Blocks.getD i (default:Ab)).End
def Bu(f:TFunc):List (List Int):=(List.range f.Blocks.length).map λi=>KS (Bq f i).To
def Sb(f:TFunc):Bool:=(decide (1<=f.Blocks.length)&&decide (f.Blocks.length<=64))&&(List.range f.Blocks.length).all λi=>Np (Bq f i) f.Blocks.length
theorem shape_iff{f:TFunc}:Sb f=true↔(1<=f.Blocks.length/\f.Blocks.length<=64)/\∀ i,i<f.Blocks.length->Np (Bq f i) f.Blocks.length=true:=by
 unfold Sb;rw[A4,A4,all_range];simp only[Jd]
theorem wW{f:TFunc}{i:Nat}(h:Np (Bq f i) f.Blocks.length=true):oN f.Blocks.length (KS (Bq f i).To)=true:=by
 obtain⟨h1,h2⟩:=FU (Bq f i).To;exact zX (λx hx=>by have:=(toB_iff.1 (bf h)) x ((h2 x).1 hx);omega) h1
theorem R9{f:TFunc}(h:Sb f=true):Og (Bu f)=true:=by
 obtain⟨⟨h1,h2⟩,h3⟩:=shape_iff.1 h
 have hl:(Bu f).length=f.Blocks.length:=by simp[Bu]
 refine mayS_iff.2 ⟨by omega,by omega,λi hi=>?_⟩;rw[hl]at hi ⊢;unfold Bu;rw[S9 hi];exact wW (h3 i hi)
theorem Aca(f:TFunc)(hf:f.Blocks.length<=maxLen):Ve f=some (bif Sb f then(Kp (Bu f),0) else(g0,5)):=by
 have hroom:(1000:Nat)<=room:=by decide
 unfold Ve;rw[ZP,Ak];have hsh:Sb f=((decide (1<=f.Blocks.length)&&decide (f.Blocks.length<=64))&&(List.range f.Blocks.length).all λi=>Np (Bq f i) f.Blocks.length):=rfl
 cases hc:(decide (1<=f.Blocks.length)&&decide (f.Blocks.length<=64)) with
 | false=>rw[hsh,hc];rfl
 | true=>
  have hc':=hc;simp only[A4,Jd]at hc';simp only[C0,Ar];rw[Ac ⟨by omega,Int.le_refl _,by omega⟩,Ap]
  let U:Nat->List (List Int):=λi=>(List.range f.Blocks.length).map λj=>if j<i then KS (Bq f j).To else[]
  have e0:List.replicate f.Blocks.length ([]:List Int)=U 0:=by
   simp only[U]
   apply List.ext_getElem?
   intro j
   by_cases hj:j<f.Blocks.length<;>simp[hj,List.getElem?_replicate]
  have eN:U f.Blocks.length=Bu f:=by
   simp only[U,Bu]
   apply Hi
   intro j hj;rw[if_pos hj]
  rw[e0]
  have hstep:∀ i:Nat,i<f.Blocks.length->H1 f ((i:Int),U i)=bif Np (Bq f i) f.Blocks.length then some (.next (((i+1:Nat):Int),U (i+1))) else some (.done (.inr (g0,5))):=λi hi=>by
   unfold H1;simp only[Bo hi,Af,Ap];rw[Ac (Fl hi)];have he:(⟨(f.Blocks.getD i (default:Ab)).End.Kind,(f.Blocks.getD i (default:Ab)).End.Arg,(f.Blocks.getD i (default:Ab)).End.To⟩:H7)=Bq f i:=rfl;rw[he,nP,Ak]
   cases hfit:Np (Bq f i) f.Blocks.length with
   | false=>rfl
   | true=>
    have hl2:=qX hfit;simp only[C0,Ar,Af]
    have hx:LA (f.Blocks.getD i (default:Ab)).End.To=some (KS (Bq f i).To):=by
     unfold LA;rw[lB,Ac (by show(Bq f i).To.length<=_;omega)]
     rfl
    rw[hx,Ak,Ac (Fl (by simp[U];omega)),w1 (by omega)]
    congr 3
    simp only[U];rw[DZ]
    apply Hi
    intro j hj
    by_cases h1:j=i
    ·subst h1;rw[if_pos rfl,if_pos (by omega)]
    ·rw[if_neg h1]
     by_cases h2:j<i
     ·rw[if_pos h2,if_pos (by omega)]
     ·rw[if_neg h2,if_neg (by omega)]
  have:=Ij (H1 f) (λi=>(((i:Nat):Int),U i)) (λi=>Np (Bq f i) f.Blocks.length) (.inl (U f.Blocks.length)) (.inr (g0,5)) f.Blocks.length (λi hi hp=>?_) (λi hi hp=>?_) ?_
  ·rw[show Ad (H1 f) ((0:Int),U 0)=_ from this,hsh,hc,eN,Hn]
   cases hall:(List.range f.Blocks.length).all λi=>Np (Bq f i) f.Blocks.length with
   | false=>rfl
   | true=>
    simp only[Af,Ak];rw[ez _ (R9 (by rw[hsh,hc,hall];rfl))]
    rfl
  ·show H1 f (_,_)=_
   rw[hstep i hi,hp];rfl
  ·show H1 f (_,_)=_
   rw[hstep i hi,hp];rfl
  ·show H1 f (_,_)=_
   unfold H1;simp only[Cm,Ar]
def MR(l:List Int)(k:Nat):List Int:=((List.range k).filter λz:Nat=>decide (1<=z)&&l.contains (z:Int)).map Int.ofNat
theorem rv{n:Nat}{l:List Int}(h:te n l=true):MR l n=KS l:=by
 obtain⟨h1,h2⟩:=FU l;refine II (CV _ _) h1 λx=>?_;rw[h2 x];unfold MR;rw[SU]
 constructor
 ·grind
 ·intro hx;have:=(toB_iff.1 h) x hx;refine⟨x.toNat,by omega,by omega,?_⟩;rw[Mi (by omega),zzL63.2 hx,Gi (by omega)]
  rfl
theorem nt(f:TFunc)(i:Nat)(hl:(Bq f i).To.length<4611686018427387904):Ad (E3 f (i:Int)) (0:Int)=some (bif te f.Blocks.length (Bq f i).To then .inl () else .inr (g0,5)):=by
 have hE:(f.Blocks.getD i _).End=Bq f i:=rfl
 have step:∀ j ,j<(Bq f i).To.length->E3 f i j=bif (decide (0<(Bq f i).To.getD j 0)&&decide ((Bq f i).To.getD j 0<f.Blocks.length)) then some (.next ((j+1:Nat))) else some _:=λj hj=>by
  unfold E3;simp only[Ap,hE,Bo hj, w1 (show j<4611686018427387904 by omega)];rw[Ac (Fl hj),Nn (Fl hj)]
  by_cases h0:(Bq f i).To.getD j 0<=0
  ·rw[Gi h0,Db (show ¬ 0<(Bq f i).To.getD j 0 by omega)];rfl
  ·rw[Db h0,Gi (show 0<(Bq f i).To.getD j 0 by omega)]
   by_cases h1:f.Blocks.length<=(Bq f i).To.getD j 0
   ·rw[Gi h1,Db (show ¬ (Bq f i).To.getD j 0<f.Blocks.length by omega)];rfl
   ·grind
 have:=Ij (E3 f i) (λj=>(j:Nat)) (λk=>decide (0<(Bq f i).To.getD k 0)&&decide ((Bq f i).To.getD k 0<f.Blocks.length)) (.inl ()) (.inr (g0,5)) (Bq f i).To.length (λj hj hp=>?_) (λj hj hp=>?_) ?_
 ·exact this
 ·grind
 ·rw[step j hj,hp];rfl
 ·unfold E3;simp only[Ap,hE,Cm,Ar]
theorem nu(f:TFunc)(i:Nat)(hn:1<=f.Blocks.length/\f.Blocks.length<=64)(hl:(Bq f i).To.length<4611686018427387904):Ad (Hg f (i:Int)) (([]:List Int),(1:Int))=some (MR (Bq f i).To f.Blocks.length):=by
 have hroom:1000<=room:=by decide
 have hE:(f.Blocks.getD i _).End=Bq f i:=rfl
 have e0:MR (Bq f i).To 1=[]:=by unfold MR;simp
 have key:=Fs (Hg f i) (λk=>(MR (Bq f i).To (k+1),(k+1:Nat))) (MR (Bq f i).To f.Blocks.length) (f.Blocks.length-1) (λk hk=>?_) ?_
 ·grind
 ·unfold Hg
  have hlen:(MR (Bq f i).To (k+1)).length<=k+1:=by
   unfold MR;have:=List.length_filter_le (λz =>decide (1<=z)&&(Bq f i).To.contains (z:Nat)) (List.range (k+1))
   simpa using this
  simp only[Ap,hE,Bo (show k+1<f.Blocks.length by omega)];rw[lH _ _ hl,Ak,w1 (by omega)]
  have hs:MR (Bq f i).To (k+1+1)=MR (Bq f i).To (k+1)++(if(Bq f i).To.contains ((k+1:Nat))=true then[(k+1:Int)] else[]):=by
   unfold MR;rw[LE,MZ]
   cases hg:(Bq f i).To.contains _ with
   | true=>grind
   | false=>grind
  rw[hs]
  cases hg:(Bq f i).To.contains _ with
  | true=>
   rw[ Ac (by grind)]
   rfl
  | false =>  simp
 ·unfold Hg;simp only[show f.Blocks.length-1+1=f.Blocks.length by omega,Cm,Ar]
theorem SR(f:TFunc)(hf:f.Blocks.length<=maxLen):Hr f=some (bif Sb f then(Kp (Bu f),0) else(g0,5)):=by
 have hroom:(1000:Nat)<=room:=by decide
 unfold Hr
 have hc:(bif ((f.Blocks.length:Int)==(0:Int)) then true else decide ((64:Int)<(f.Blocks.length:Int))) = !(decide (1<=f.Blocks.length)&&decide (f.Blocks.length<=64)):=by
  grind
 rw[hc];have hsh:Sb f=((decide (1<=f.Blocks.length)&&decide (f.Blocks.length<=64))&&(List.range f.Blocks.length).all λi=>Np (Bq f i) f.Blocks.length):=rfl
 cases hb:(decide (1<=f.Blocks.length)&&decide (f.Blocks.length<=64)) with
 | false=>rw[hsh,hb];rfl
 | true=>
  have hb':=hb;simp only[A4,Jd]at hb';simp only[C0,Ar]
  let U:Nat->List (List Int):=λi=>(List.range i).map λj=>MR (Bq f j).To f.Blocks.length
  have hstep:∀ i:Nat,i<f.Blocks.length->Cj f (U i,(i:Int))=bif Np (Bq f i) f.Blocks.length then some (.next (U (i+1),((i+1:Nat):Int))) else some (.done (.inr (g0,5))):=λi hi=>by
   unfold Cj;have hE:(f.Blocks.getD i (default:Ab)).End=Bq f i:=rfl;simp only[Bo hi,Af,Ap,hE];rw[Ac (Fl hi),w1 (by omega)]
   by_cases hk:0<=(Bq f i).Kind/\(Bq f i).Kind<=3
   ·rw[Db (show ¬ (Bq f i).Kind<0 by omega),Db (show ¬ (3:Int)<(Bq f i).Kind by omega)];simp only[Ar];rw[Nn (show As (Bq f i).Kind ([(0:Int),1,2,0]:List Int).length from⟨hk.1,by show(Bq f i).Kind<4;omega⟩)];have hw:([(0:Int),1,2,0]:List Int).getD (Bq f i).Kind.toNat 0=Vz (Bq f i).Kind:=rfl;rw[hw]
    have hkb:DE (Bq f i)=decide (((Bq f i).To.length:Int)=Vz (Bq f i).Kind):=by
     unfold DE;rw[Gi hk.1,Gi hk.2];rfl
    unfold Np;rw[hkb]
    by_cases hl:((Bq f i).To.length:Int)=Vz (Bq f i).Kind
    ·have hw2:Vz (Bq f i).Kind<=2:=by
      have:(Bq f i).Kind=0\/(Bq f i).Kind=1\/(Bq f i).Kind=2\/(Bq f i).Kind=3:=by omega
      rcases this with h|h|h|h<;>rw[h]<;>decide
     rw[show(((Bq f i).To.length:Int)!=Vz (Bq f i).Kind)=false by simpa using hl,Gi hl,Ar,nt f i (by omega),Hn]
     cases htb:te f.Blocks.length (Bq f i).To with
     | false=>rfl
     | true=>
      simp only[Af,Ak];rw[nu f i hb' (by omega)];simp only[Ak];rw[Ac (by simp only[U,Ns,Sq,LB];omega)]
      congr 3
      simp only[U];rw[LE,PJ]
      rfl
    ·rw[show(((Bq f i).To.length:Int)!=Vz (Bq f i).Kind)=true by simpa using hl,Db hl];rfl
   ·have hbad:(bif decide ((Bq f i).Kind<0) then true else decide ((3:Int)<(Bq f i).Kind))=true:=by
     by_cases h0:(Bq f i).Kind<0
     ·rw[Gi h0];rfl
     ·rw[Db h0,Gi (show(3:Int)<(Bq f i).Kind by omega)];rfl
    have hkb:DE (Bq f i)=false:=by
     unfold DE
     by_cases h0:0<=(Bq f i).Kind
     ·rw[Db (show ¬ (Bq f i).Kind<=3 by omega)];simp
     ·rw[Db h0];simp
    simp only[hbad];rw[Ac (by intro h;cases h)];unfold Np;rw[hkb]
    rfl
  have:=Ij (Cj f) (λi=>(U i,((i:Nat):Int))) (λi=>Np (Bq f i) f.Blocks.length) (.inl (U f.Blocks.length)) (.inr (g0,5)) f.Blocks.length (λi hi hp=>?_) (λi hi hp=>?_) ?_
  ·rw[show Ad (Cj f) (([]:List (List Int)),(0:Int))=_ from this,hsh,hb,Hn]
   cases hall:(List.range f.Blocks.length).all λi=>Np (Bq f i) f.Blocks.length with
   | false=>rfl
   | true=>
    have hshape:Sb f=true:=by rw[hsh,hb,hall];rfl
    have hm:=R9 hshape
    have hU:U f.Blocks.length=Bu f:=by
     simp only[U,Bu]
     apply Hi
     intro j hj;exact rv (bf ((shape_iff.1 hshape).2 j hj))
    simp only[Af,Ak];rw[hU,SQ _ (Vu (U3 hm)),hm]
    rfl
  ·show Cj f (_,_)=_
   rw[hstep i hi,hp];rfl
  ·show Cj f (_,_)=_
   rw[hstep i hi,hp];rfl
  ·show Cj f (_,_)=_
   unfold Cj;simp only[Cm,Ar]
inductive Rc (S:Nat->List Nat) (r:Nat):Nat->Prop
 | root:Rc S r r
 | step {x y:Nat} (h:Rc S r x) (hy:y∈S x):Rc S r y
inductive Av (S:Nat->List Nat) (r z:Nat):Nat->Prop
 | root (h:r≠z):Av S r z r
 | step {x y:Nat} (h:Av S r z x) (hy:y∈S x) (hz:y≠z):Av S r z y
inductive AvN (S:Nat->List Nat) (r z:Nat):Nat->Nat->Prop
 | root (h:r≠z) (k:Nat):AvN S r z k r
 | step {k x y:Nat} (h:AvN S r z k x) (hy:y∈S x) (hz:y≠z):AvN S r z (k+1) y
section
variable {S:Nat->List Nat} {r:Nat}
theorem rc_iff{x:Nat}:Rc S r x↔Rch S r x:=by
 constructor
 ·intro h
  induction h with
  | root=>exact .refl _
  | step _ hy ih=>exact ih.tail hy
 ·intro h
  have key:∀ a b,Rch S a b->Rc S r a->Rc S r b:=by
   intro a b hab
   induction hab with
   | refl x=>exact id
   | head hy _ ih=>exact λha=>ih (.step ha hy)
  exact key _ _ h .root
def wo(S:Nat->List Nat)(z:Nat):Nat->List Nat:=λx=>(S x).filter λy=>decide (y≠z)
theorem av_iff{z x:Nat}:Av S r z x↔r≠z/\Rch (wo S z) r x:=by
 constructor
 ·intro h
  induction h with
  | root h=>exact⟨h,.refl _⟩
  | step _ hy hz ih=>exact⟨ih.1,ih.2.tail (zzL95.2 ⟨hy,by simpa using hz⟩)⟩
 ·rintro⟨hr,h⟩
  have key:∀ a b,Rch (wo S z) a b->Av S r z a->Av S r z b:=by
   intro a b hab
   induction hab with
   | refl x=>exact id
   | head hy _ ih=>
    obtain⟨h1,h2⟩:=zzL95.1 hy;exact λha=>ih (.step ha h1 (by simpa using h2))
  exact key _ _ h (.root hr)
theorem Av.rc{z x:Nat}(h:Av S r z x):Rc S r x:=by
 induction h with
 | root _=>exact .root
 | step _ hy _ ih=>exact .step ih hy
theorem Av.ne{z x:Nat}(h:Av S r z x):x≠z:=by
 cases h with
 | root h=>exact h
 | step _ _ hz=>exact hz
theorem AvN.av{z k x:Nat}(h:AvN S r z k x):Av S r z x:=by
 induction h with
 | root h=>exact .root h
 | step _ hy hz ih=>exact .step ih hy hz
theorem AvN.up{z k x:Nat}(h:AvN S r z k x):AvN S r z (k+1) x:=by
 induction h with
 | root h k=>exact .root h _
 | step _ hy hz ih=>exact .step ih hy hz
theorem AvN.mono{z k m x:Nat}(h:AvN S r z k x)(hm:k<=m):AvN S r z m x:=by
 obtain⟨d,rfl⟩:=Nat.exists_eq_add_of_le hm;clear hm
 induction d with
 | zero=>exact h
 | succ d ih=>exact ih.up
theorem Av.avn{z x:Nat}(h:Av S r z x):∃ k,AvN S r z k x:=by
 induction h with
 | root h=>exact⟨0,.root h 0⟩
 | step _ hy hz ih=>obtain⟨k,hk⟩:=ih;exact⟨k+1,.step hk hy hz⟩
theorem AvN.via {z k x : Nat} (h : AvN S r z k x) (y : Nat) : AvN S r y k x ∨ AvN S r z k y := by
  induction h with
  | root h k => by_cases hy : r = y
                · subst hy; exact .inr (.root h _)
                · exact .inl (.root hy _)
  | @step k x w h hy hz ih =>
    rcases ih with h1 | h1
    · by_cases hw : w = y
      · subst hw; exact .inr (.step h hy hz)
      · exact .inl (.step h1 hy hw)
    · exact .inr h1.up
theorem mo(n:Nat):∃ K,∀ z,z<n->∀ x,x<n->Av S r z x->AvN S r z K x:=by
 have one:∀ z m,∃ K,∀ x,x<m->Av S r z x->AvN S r z K x:=by
  intro z m
  induction m with
  | zero=>simp_all
  | succ m ih=>
   obtain⟨K,hK⟩:=ih
   by_cases h:Av S r z m
   ·obtain⟨k,hk⟩:=h.avn;refine⟨max K k,λx hx ha=>?_⟩;rcases Nat.lt_succ_iff_lt_or_eq.1 hx with h1|rfl
    ·exact(hK x h1 ha).mono (Nat.le_max_left ..)
    ·exact hk.mono (Nat.le_max_right ..)
   ·refine⟨K,λx hx ha=>?_⟩;rcases Nat.lt_succ_iff_lt_or_eq.1 hx with h1|rfl
    ·exact hK x h1 ha
    ·exact absurd ha h
 have two:∀ m,∃ K,∀ z,z<m->∀ x,x<n->Av S r z x->AvN S r z K x:=by
  intro m
  induction m with
  | zero=>simp_all
  | succ m ih=>
   obtain⟨K,hK⟩:=ih;obtain⟨k,hk⟩:=one m n;refine⟨max K k,λz hz x hx ha=>?_⟩;rcases Nat.lt_succ_iff_lt_or_eq.1 hz with h1|rfl
   ·exact(hK z h1 x hx ha).mono (Nat.le_max_left ..)
   ·exact(hk x hx ha).mono (Nat.le_max_right ..)
 exact two n
end
inductive UpTo (par:Nat->Int):Nat->Nat->Prop
 | refl (x:Nat):UpTo par x x
 | up {x y z:Nat} (h:par x=(y:Int)) (t:UpTo par y z):UpTo par x z
inductive Fw (S:Nat->List Nat) (at_:Nat->Nat) (u:Nat):Nat->Prop
 | refl:Fw S at_ u u
 | step {v w:Nat} (h:Fw S at_ u v) (hw:w∈S v) (hl:at_ v<at_ w):Fw S at_ u w
section
variable {S:Nat->List Nat} {at_:Nat->Nat} {par:Nat->Int}
theorem Fw.le{u w:Nat}(h:Fw S at_ u w):at_ u<=at_ w:=by
 induction h with
 | refl=>exact zzL7 _
 | step _ _ hl ih=>omega
theorem Fw.trans{u v w:Nat}(h:Fw S at_ u v)(k:Fw S at_ v w):Fw S at_ u w:=by
 induction k with
 | refl=>exact h
 | step _ hw hl ih=>exact .step ih hw hl
theorem Fw.av{r d u w:Nat}(h:Fw S at_ u w)(ha:Av S r d u)(hd:at_ d<at_ u):Av S r d w:=by
 induction h with
 | refl=>exact ha
 | @step v w h hw hl ih=>exact .step ih hw (by rintro rfl;have:=h.le;omega)
theorem UpTo.trans{x y z:Nat}(h:UpTo par x y)(k:UpTo par y z):UpTo par x z:=by
 induction h with
 | refl x=>exact k
 | up h _ ih=>exact .up h (ih k)
theorem anc_up{x p z:Nat}(h:par x=(p:Int)):UpTo par x z↔z=x\/UpTo par p z:=by
 constructor
 ·intro k
  cases k with
  | refl=>exact .inl rfl
  | up h' t=>grind
 ·rintro(rfl|k)
  ·exact .refl _
  ·exact .up h k
theorem QO{x z:Nat}(h:∀ p:Nat,par x≠(p:Int)):UpTo par x z↔z=x:=by
 constructor
 ·intro k
  cases k with
  | refl=>rfl
  | up h' t=>exact absurd h' (h _)
 ·rintro rfl;exact .refl _
structure Inv(S:Nat->List Nat)(r n:Nat)(at_:Nat->Nat)(par:Nat->Int):Prop where
 top:par r = -1
 kind:∀ x,x<n->par x = -2\/x=r\/∃ z:Nat,par x=(z:Int)
 up:∀ x,x<n->∀ z:Nat,par x=(z:Int)->z<n/\par z≠-2/\at_ z<at_ x/\Fw S at_ z x
 rc:∀ x,x<n->par x≠-2->Rc S r x
 all:∀ x,x<n->par x≠-2->∀ d,¬ UpTo par x d->Av S r d x
end
section
variable {S:Nat->List Nat} {at_:Nat->Nat} {par:Nat->Int} {r n:Nat}
theorem Inv.anc(h:Inv S r n at_ par){x z:Nat}(k:UpTo par x z)(hx:x<n)(hp:par x≠-2):z<n/\par z≠-2/\at_ z<=at_ x/\Fw S at_ z x:=by
 induction k with
 | refl x=>exact⟨hx,hp,zzL7 _,.refl⟩
 | @up x y z hxy t ih=>
  obtain⟨h1,h2,h3,h4⟩:=h.up x hx y hxy;obtain⟨i1,i2,i3,i4⟩:=ih h1 h2;exact⟨i1,i2,by omega,i4.trans h4⟩
theorem Inv.root_anc(h:Inv S r n at_ par){z:Nat}:UpTo par r z↔z=r:=QO λp hp=>by rw[h.top]at hp;omega
theorem Inv.strict(h:Inv S r n at_ par){x z:Nat}(k:UpTo par x z)(hx:x<n)(hp:par x≠-2):z=x\/at_ z<at_ x:=by
 cases k with
 | refl=>exact .inl rfl
 | up hxy t=>
  obtain⟨h1,h2,h3,h4⟩:=h.up x hx _ hxy;obtain⟨i1,i2,i3,i4⟩:=h.anc t h1 h2;exact .inr (by omega)
theorem Inv.antisymm(h:Inv S r n at_ par){x z:Nat}(k:UpTo par x z)(m:UpTo par z x)(hx:x<n)(hp:par x≠-2):z=x:=by
 rcases h.strict k hx hp with rfl|h1
 ·rfl
 ·obtain⟨i1,i2,i3,i4⟩:=h.anc k hx hp;have:=(h.anc m i1 i2).2.2.1;omega
def MeetAt(par:Nat->Int)(a b m:Nat):Prop:=∀ w,UpTo par m w↔UpTo par a w/\UpTo par b w
theorem ZQ{a:Nat}:MeetAt par a a a:=λw=>by simp
theorem nZ{a b m:Nat}(h:MeetAt par a b m):MeetAt par b a m:=λw=>by rw[h w];exact And.comm
theorem Inv.meet_left(h:Inv S r n at_ par)(hinj:∀ x y,x<n->y<n->par x≠-2->par y≠-2->at_ x=at_ y->x=y){a b p m:Nat}(ha:a<n)(hpa:par a≠-2)(hb:b<n)(hpb:par b≠-2)(hab:a≠b)(hl:at_ b<=at_ a)(hp:par a=(p:Int))(k:MeetAt par p b m):MeetAt par a b m:=λw=>by
 rw[k w]
 constructor
 ·rintro⟨h1,h2⟩;exact⟨.up hp h1,h2⟩
 ·rintro⟨h1,h2⟩;rcases(anc_up hp).1 h1 with rfl|h1
  ·exfalso
   rcases h.strict h2 hb hpb with h3|h3
   ·exact hab h3
   ·omega
  ·exact⟨h1,h2⟩
end
section
variable {S:Nat->List Nat} {at_:Nat->Nat} {par:Nat->Int} {r n:Nat}
def S4(par:Nat->Int)(y:Nat)(v:Int):Nat->Int:=λx=>if x=y then v else par x
def gY(S:Nat->List Nat)(n:Nat)(par:Nat->Int)(y z:Nat):Prop:=∀ w,UpTo par z w↔∀ p,p<n->y∈S p->par p≠-2->UpTo par p w
theorem NV{y:Nat}{v:Int}{x z:Nat}(k:UpTo par x z)(hy:¬ UpTo par x y):UpTo (S4 par y v) x z:=by
 induction k with
 | refl x=>exact .refl _
 | @up x q z h t ih=>
  have hxy:x≠y:=by rintro rfl;exact hy (.refl _)
  refine .up  ?_ (ih λk=>hy (.up h k));unfold S4;rw[if_neg hxy];exact h
theorem dl{y:Nat}{v:Int}{x:Nat}(k:UpTo par x y):UpTo (S4 par y v) x y:=by
 induction k with
 | refl x=>exact .refl _
 | @up x q z h t ih=>
  by_cases hxy:x=z
  ·subst hxy;exact .refl _
  ·refine .up  ?_ ih;unfold S4;rw[if_neg hxy];exact h
theorem anc_upd_inv{y:Nat}{v:Int}{x w:Nat}(k:UpTo (S4 par y v) x w):UpTo par x w\/(UpTo par x y/\UpTo (S4 par y v) y w):=by
 induction k with
 | refl x=>exact .inl (.refl _)
 | @up x q w h t ih=>
  by_cases hxy:x=y
  ·subst hxy;exact .inr ⟨.refl _,.up h t⟩
  ·unfold S4 at h;rw[if_neg hxy]at h;rcases ih with h1|⟨h1,h2⟩
   ·exact .inl (.up h h1)
   ·exact .inr ⟨.up h h1,h2⟩
theorem low_or{y:Nat}{v:Int}{x d:Nat}(k:UpTo par x y)(hd:UpTo par x d):UpTo par y d\/UpTo (S4 par y v) x d:=by
 induction k with
 | refl x=>exact .inl hd
 | @up x q y hq t ih=>
  by_cases e:x=y
  ·subst e;exact .inl hd
  ·rcases(anc_up hq).1 hd with rfl|k
   ·exact .inr (.refl _)
   ·rcases ih k with h1|h1
    ·exact .inl h1
    ·exact .inr (.up  (by unfold S4;rw[if_neg e];exact hq) h1)
structure Better(S:Nat->List Nat)(r n:Nat)(at_:Nat->Nat)(par:Nat->Int)(y z:Nat):Prop where
 inv:Inv S r n at_ par
 hy:y<n
 hr:y≠r
 hz:z<n
 best:gY S n par y z
 fwd:∃ p,p<n/\y∈S p/\par p≠-2/\at_ p<at_ y
variable {y z:Nat}
theorem Better.zlt(h:Better S r n at_ par y z):UpTo par z z/\par z≠-2/\at_ z<at_ y/\Fw S at_ z y:=by
 obtain⟨p,hp,hyp,hpp,hl⟩:=h.fwd;obtain⟨h1,h2,h3,h4⟩:=h.inv.anc ((h.best z).1 (.refl _) p hp hyp hpp) hp hpp;exact⟨.refl _,h2,by omega,.step h4 hyp hl⟩
theorem Better.above(h:Better S r n at_ par y z){w:Nat}:UpTo (S4 par y z) z w↔UpTo par z w:=by
 obtain⟨_,h2,h3,_⟩:=h.zlt
 have hn:¬ UpTo par z y:=λk=>by have:=(h.inv.anc k h.hz h2).2.2.1;omega
 constructor
 ·intro k;rcases anc_upd_inv k with h1|⟨h1,_⟩
  ·exact h1
  ·exact absurd h1 hn
 ·intro k;exact NV k hn
theorem Better.here(h:Better S r n at_ par y z){w:Nat}:UpTo (S4 par y z) y w↔w=y\/UpTo par z w:=by
 rw[anc_up (p:=z) (by simp[S4]),h.above]
theorem Better.av_here(h:Better S r n at_ par y z){d:Nat}(hd:¬ UpTo (S4 par y z) y d):Av S r d y:=by
 rw[h.here]at hd;have h1:¬ ∀ p,p<n->y∈S p->par p≠-2->UpTo par p d:=λhh=>hd (.inr ((h.best d).2 hh));simp only[Classical.not_forall]at h1;obtain⟨p,hp,hyp,hpp,hnp⟩:=h1;exact .step (h.inv.all p hp hpp d hnp) hyp λe=>hd (.inl e.symm)
theorem Better.inv'(h:Better S r n at_ par y z):Inv S r n at_ (S4 par y z):=by
 obtain⟨hzz,hz2,hzl,hzf⟩:=h.zlt;obtain⟨p,hp,hyp,hpp,hl⟩:=h.fwd
 have hne:∀ x,S4 par y z x≠-2->x=y\/par x≠-2:=λx hx=>by
  by_cases e:x=y
  ·exact .inl e
  ·unfold S4 at hx;rw[if_neg e]at hx;exact .inr hx
 have hyv:S4 par y z y=z:=by simp[S4]
 have hyo:∀ x,x≠y->S4 par y z x=par x:=λx e=>by unfold S4;rw[if_neg e]
 refine⟨by rw[hyo _ (Sd h.hr)];exact h.inv.top,λx hx=>?_,λx hx w hw=>?_,λx hx hxp=>?_,λx hx hxp d hd=>?_⟩
 ·by_cases e:x=y
  ·grind
  ·rw[hyo x e];exact h.inv.kind x hx
 ·have hzn:∀ w,par w≠-2->S4 par y z w≠-2:=λw hw=>by
   grind
  by_cases e:x=y
  ·subst e;rw[hyv]at hw
   cases NC hw
   exact⟨h.hz,hzn _ hz2,hzl,hzf⟩
  ·rw[hyo x e]at hw;obtain⟨h1,h2,h3,h4⟩:=h.inv.up x hx w hw;exact⟨h1,hzn _ h2,h3,h4⟩
 ·rcases hne x hxp with rfl|h1
  ·exact .step (h.inv.rc p hp hpp) hyp
  ·exact h.inv.rc x hx h1
 ·by_cases e:x=y
  ·subst e;exact h.av_here hd
  ·rw[hyo x e]at hxp
   by_cases hxd:UpTo par x d
   ·
    by_cases hxy:UpTo par x y
    ·have hyd :=λk=>hd ((dl hxy).trans k);have hav:=h.av_here hyd;have hf:=(h.inv.anc hxy hx hxp).2.2.2
     have hdy:UpTo par y d:=by
      rcases low_or  hxy hxd with h1|h1
      ·exact h1
      ·exact absurd h1 hd
     by_cases hpy:par y = -2
     ·
      have :=by
       refine(QO  λp hp=>?_).1 hdy;rw[hpy]at hp;omega
      subst this;exact absurd (.refl _) hyd
     ·rcases h.inv.strict hdy h.hy hpy with rfl|hlt
      ·exact absurd (.refl _) hyd
      ·exact hf.av hav hlt
    ·exact absurd (NV hxd hxy) hd
   ·exact h.inv.all x hx hxp d hxd
end
section
variable {S:Nat->List Nat} {at_:Nat->Nat} {par:Nat->Int} {r n:Nat}
def QB(S:Nat->List Nat)(r n:Nat)(par:Nat->Int)(b:Nat->Nat):Prop:=∀ x,x<n->par x≠-2->∀ z,AvN S r z (b x) x->¬ UpTo par x z
def gZ(S:Nat->List Nat)(r n:Nat)(par:Nat->Int):Prop:=∀ x,x<n->Rc S r x->par x≠-2
def kX(S:Nat->List Nat)(r n:Nat)(par:Nat->Int):Prop:=∀ x,x<n->par x≠-2->∀ d,UpTo par x d↔¬ Av S r d x
theorem wQ(h:Inv S r n at_ par):QB S r n par λ_=>0:=λx hx hp z hz k=>by
 cases hz with
 | root hr _=>exact hr (h.root_anc.1 k).symm
theorem lZ(hS:∀ x,x<n->∀ w∈S x,w<n)(hr:r<n){x:Nat}(h:Rc S r x):x<n:=by
 induction h with
 | root=>exact hr
 | step _ hy ih=>exact hS _ ih _ hy
theorem Better.qb{y z k:Nat}{b:Nat->Nat}(h:Better S r n at_ par y z)(hS:∀ x,x<n->∀ w∈S x,w<n)(hrn:r<n)(full:gZ S r n par)(hb:∀ x,x<n->k<=b x/\b x<=k+1)(q:QB S r n par b) :
  QB S r n (S4 par y z) λx=>if x=y then k+1 else b x:=by
 have here:∀ w,AvN S r w (k+1) y->¬ UpTo _ y w:=λw hw hu=>by
  rcases h.here.1 hu with rfl|hu
  ·exact hw.av.ne rfl
  ·cases hw with
   | root hr _=>exact h.hr rfl
   | @step _ p _ hp hyp hne=>
    have hpn:=lZ hS hrn hp.av.rc;have hpp:=full p hpn hp.av.rc;exact q p hpn hpp w (hp.mono (hb p hpn).1) ((h.best w).1 hu p hpn hyp hpp)
 intro x hx hxp w hw hu
 dsimp only at hw
 by_cases e:x=y
 ·grind
 ·rw[if_neg e]at hw;unfold S4 at hxp;rw[if_neg e]at hxp;rcases anc_upd_inv hu with h1|⟨h1,h2⟩
  ·exact q x hx hxp w hw h1
  ·rcases hw.via y with h3|h3
   ·exact q x hx hxp y h3 h1
   ·exact here w (h3.mono (hb x hx).2) h2
theorem qU(h:Inv S r n at_ par){K:Nat}(hK:∀ z,z<n->∀ x,x<n->Av S r z x->AvN S r z K x)(q:QB S r n par λ_=>K):kX S r n par:=λx hx hp d=>by
 constructor
 ·intro hu ha;exact q x hx hp d (hK d (h.anc hu hx hp).1 x hx ha) hu
 ·intro ha;exact ck λhn=>ha (h.all x hx hp d hn)
theorem Better.same{y z:Nat}(h:Better S r n at_ par y z)(hS:∀ x,x<n->∀ w∈S x,w<n)(hrn:r<n)(full:gZ S r n par)(hy2:par y≠-2)(ex:kX S r n par):par y=(z:Int):=by
 obtain⟨hzz,hz2,hzl,hzf⟩:=h.zlt;rcases h.inv.kind y h.hy with h1|h1|⟨q,hq⟩
 ·exact absurd h1 hy2
 ·exact absurd h1 h.hr
 ·obtain⟨q1,q2,q3,q4⟩:=h.inv.up y h.hy q hq
  have key:∀ w,UpTo par z w↔UpTo par q w:=λw=>by
   rw[h.best w]
   constructor
   ·intro hall
    have hwy:¬ Av S r w y:=λha=>by
     cases ha with
     | root _=>exact h.hr rfl
     | @step p _ hp hyp hne=>
      have hpn:=lZ hS hrn hp.rc;have hpp:=full p hpn hp.rc;exact(ex p hpn hpp w).1 (hall p hpn hyp hpp) hp
    rcases(anc_up hq).1 ((ex y h.hy hy2 w).2 hwy) with rfl|hu
    ·have:=(h.inv.anc ((h.best _).2 hall) h.hz hz2).2.2.1;omega
    ·exact hu
   ·intro hu p hp hyp hpp;have hwy:UpTo par y w:=.up hq hu;refine(ex p hp hpp w).2 λha=>?_
    have hne:y≠w:=by rintro rfl;have:=(h.inv.anc hu q1 q2).2.2.1;omega
    exact(ex y h.hy hy2 w).1 hwy (.step ha hyp hne)
  have:=h.inv.antisymm ((key q).2 (.refl _)) ((key z).1 (.refl _)) h.hz hz2;rw[hq,this]
theorem nD(h:Inv S r n at_ par)(hS:∀ x,x<n->∀ w∈S x,w<n)(hrn:r<n)(full:gZ S r n par)(fix:∀ y,y<n->y≠r->Rc S r y->∃ z:Nat,par y=(z:Int)/\gY S n par y z):kX S r n par:=λx hx hp d=>by
 constructor
 ·intro hu ha
  induction ha with
  | root hne=>exact hne (h.root_anc.1 hu).symm
  | @step p y hp' hyp hne ih=>
   have hpn:=lZ hS hrn hp'.rc;have hpp:=full p hpn hp'.rc
   by_cases e:y=r
   ·subst e;exact hne (h.root_anc.1 hu).symm
   ·obtain⟨z,hz,hb⟩:=fix y hx e (.step hp'.rc hyp);rcases(anc_up hz).1 hu with rfl|hu
    ·exact hne rfl
    ·exact ih hpn hpp ((hb d).1 hu p hpn hyp hpp)
 ·intro ha;exact ck λhn=>ha (h.all x hx hp d hn)
end
def Bw(t:List Int):Nat->Int:=λx=>t.getD x 0
theorem fZ{t:List Int}{y:Nat}{v:Int}(hy:y<t.length):Bw (t.set y v)=S4 (Bw t) y v:=by
 funext x
 unfold Bw S4
 by_cases e:x=y
 ·grind
 ·grind
open Classical in
def Qa(S:Nat->List Nat)(n:Nat)(t:List Int)(y:Nat):Nat:=if h:∃ z,z<n/\gY S n (Bw t) y z then Classical.choose h else 0
def CB(S:Nat->List Nat)(n:Nat)(P:List Nat)(t:List Int):Nat->List Int
 | 0=>t
 | i+1=>(CB S n P t i).set (P.getD i 0) (Qa S n (CB S n P t i) (P.getD i 0):Int)
def WX(S:Nat->List Nat)(n:Nat)(P:List Nat)(t:List Int):Nat->List Int
 | 0=>t
 | j+1=>CB S n P (WX S n P t j) P.length
def Jz(n r:Nat):List Int:=(List.replicate n (-2:Int)).set r (-1)
structure Ordered(S:Nat->List Nat)(r n:Nat)(P:List Nat):Prop where
 hr:r<n
 hS:∀ x,x<n->∀ w∈S x,w<n
 nodup:(r::P).Nodup
 mem:∀ x,x∈r::P↔Rc S r x
 fwd:∀ i,i<P.length->∃ p,p∈r::P.take i/\P.getD i 0∈S p
section
variable {S:Nat->List Nat} {r n:Nat} {P:List Nat}
theorem Ordered.lt(o:Ordered S r n P){x:Nat}(h:x∈r::P):x<n:=lZ o.hS o.hr ((o.mem x).1 h)
theorem Xv{i:Nat}(hi:i<P.length):P.getD i 0∈P:=by grind
theorem Ordered.at_lt(o:Ordered S r n P){i:Nat}(hi:i<P.length){p:Nat}(hp:p∈r::P.take i):pos (r::P) p<pos (r::P) (P.getD i 0):=by
 have hd:=o.nodup
 have h1:pos (r::P) (P.getD i 0)=i+1:=by
  have:=(RA hd (i:=i+1) (by simpa using hi)).2;rw[Ao _ _ _ hi]
  simpa using this
 rw[h1];obtain⟨j,hj,rfl⟩:=Nc hp
 have hj':j<i+1:=by simp at hj;omega
 have hjl:j<(r::P).length:=by simp;omega
 have e:(r::P.take i)[j]=(r::P)[j]:=by
  grind
 rw[e,(RA hd hjl).2];exact hj'
theorem Ad4(o:Ordered S r n P):Inv S r n (pos (r::P)) (Bw (Jz n r))/\(Jz n r).length=n/\Bw (Jz n r) r≠-2:=by
 have hlen:(Jz n r).length=n:=by simp[Jz]
 have hr:=o.hr
 have at_:∀ x,x<n->Bw (Jz n r) x=if x=r then -1 else -2:=λx hx=>by
  unfold Bw Jz
  by_cases e:x=r
  ·grind
  ·grind
 have hno:∀ x,x<n->∀ p:Nat,Bw (Jz n r) x≠p:=λx hx p hp=>by grind
 refine⟨⟨by grind,λx hx=>?_,λx hx z hz=>absurd hz (hno x hx z),λx hx hp=>?_,λx hx hp d hd=>?_⟩,hlen,by grind⟩
 ·grind
 ·by_cases e:x=r
  ·subst e;exact .root
  ·grind
 ·by_cases e:x=r
  ·subst e;exact .root (λe=>hd (by rw[e];exact .refl _))
  ·grind
structure Ready(S:Nat->List Nat)(r n:Nat)(P:List Nat)(t:List Int)(i:Nat):Prop where
 inv:Inv S r n (pos (r::P)) (Bw t)
 len:t.length=n
 done:∀ x∈r::P.take i,Bw t x≠-2
theorem Inv.meets{at_:Nat->Nat}{par:Nat->Int}(h:Inv S r n at_ par)(hinj:∀ x y,x<n->y<n->par x≠-2->par y≠-2->at_ x=at_ y->x=y)(hr:at_ r=0):∀ m a b,at_ a+at_ b<=m->a<n->b<n->par a≠-2->par b≠-2->∃ c,MeetAt par a b c/\c<n/\par c≠-2:=by
 intro m
 induction m with
 | zero=>
  intro a b hm ha hb hpa hpb;have:a=b:=hinj a b ha hb hpa hpb (by omega);subst this;exact⟨a,ZQ,ha,hpa⟩
 | succ m ih=>
  have go:∀ a b,at_ a+at_ b<=m+1->a<n->b<n->par a≠-2->par b≠-2->at_ b<=at_ a->∃ c,MeetAt par a b c/\c<n/\par c≠-2:=λa b hm ha hb hpa hpb hl=>by
   by_cases e:a=b
   ·subst e;exact⟨a,ZQ,ha,hpa⟩
   ·rcases h.kind a ha with h1|h1|⟨p,hp⟩
    ·exact absurd h1 hpa
    ·subst h1;exact absurd (hinj a b ha hb hpa hpb (by omega)) e
    ·obtain⟨p1,p2,p3,p4⟩:=h.up a ha p hp;obtain⟨c,hc,hc2⟩:=ih p b (by omega) p1 hb p2 hpb;exact⟨c,h.meet_left hinj ha hpa hb hpb e hl hp hc,hc2⟩
  intro a b hm ha hb hpa hpb;rcases Nat.le_total (at_ b) (at_ a) with hl|hl
  ·exact go a b hm ha hb hpa hpb hl
  ·obtain⟨c,hc,hc2⟩:=go b a (by omega) hb ha hpb hpa hl;exact⟨c,nZ hc,hc2⟩
theorem Ready.inj(o:Ordered S r n P){t:List Int}{i:Nat}(h:Ready S r n P t i):∀ x y,x<n->y<n->Bw t x≠-2->Bw t y≠-2->pos (r::P) x=pos (r::P) y->x=y:=λx y hx hy hpx hpy he=>by
 have hm :=λx hx hp=>(o.mem x).2 (h.inv.rc x hx hp)
 have back:∀ x∈r::P,(r::P).getD (pos _ x) 0=x:=λx hx=>by
  obtain⟨j,hj,rfl⟩:=Nc hx;rw[(RA o.nodup hj).2,Ao _ _ _ hj]
 rw[<- back x (hm x hx hpx),<- back y (hm y hy hpy),he]
theorem fb:pos (r::P) r=0:=by rw[TM,if_pos rfl]
theorem Ready.meetAll(o:Ordered S r n P){t:List Int}{i:Nat}(h:Ready S r n P t i):∀ l:List Nat,(∀ p∈l,p<n/\Bw t p≠-2)->l≠[]->∃ z,z<n/\Bw t z≠-2/\∀ w,UpTo (Bw t) z w↔∀ p∈l,UpTo (Bw t) p w:=by
 intro l
 induction l with
 | nil=>grind
 | cons p l ih=>
  intro hl _;obtain⟨hp1,hp2⟩:=hl p (zzL44 ..)
  by_cases hl0:l=[]
  ·grind
  ·obtain⟨z,hz1,hz2,hz3⟩:=ih (λq hq=>hl q (Mn _ hq)) hl0;obtain⟨c,hc1,hc2,hc3⟩:=h.inv.meets (h.inj o) fb _ p z (zzL7 _) hp1 hz1 hp2 hz2;exact⟨c,hc2,hc3,λw=>by rw[hc1 w,hz3 w];simp⟩
theorem Ready.best(o:Ordered S r n P){t:List Int}{i:Nat}(h:Ready S r n P t i)(hi:i<P.length):Better S r n (pos (r::P)) (Bw t) (P.getD i 0) (Qa S n t (P.getD i 0)):=by
 have hy:=Xv hi;have hyr:P.getD i 0≠r:=λe=>(zzL117.1 o.nodup).1 (e▸hy);have hyn:=o.lt (Mn _ hy);obtain⟨p,hp,hyp⟩:=o.fwd i hi;have hp2:=h.done p hp
 have hpP:p∈r::P:=by
  grind
 have hpn:=o.lt hpP
 have hex:∃ z,z<n/\gY S n (Bw t) (P.getD i 0) z:=by
  classical
  obtain⟨z,hz1,hz2,hz3⟩:=h.meetAll o ((List.range n).filter λp=>decide (P.getD i 0∈S p/\Bw t p≠-2)) (λp hp=>by
   grind) (λe=>by
   simp_all)
  refine⟨z,hz1,λw=>?_⟩
  constructor
  ·grind
  ·grind
 have hb:Qa S n t (P.getD i 0)<n/\gY S n (Bw t) (P.getD i 0) (Qa S n t (P.getD i 0)):=by
  unfold Qa;rw[dif_pos hex];exact Classical.choose_spec hex
 exact⟨h.inv,hyn,hyr,hb.1,hb.2,p,hpn,hyp,hp2,o.at_lt hi hp⟩
theorem Ready.best_eq(o:Ordered S r n P){t:List Int}{i:Nat}(h:Ready S r n P t i)(hi:i<P.length){z:Nat}(hz:z<n)(hz2:Bw t z≠-2)(hb:gY S n (Bw t) (P.getD i 0) z):z=Qa S n t (P.getD i 0):=by
 have b:=h.best o hi;exact(h.inv.antisymm ((hb _).2 ((b.best _).1 (.refl _))) ((b.best _).2 ((hb _).1 (.refl _))) hz hz2).symm
theorem Ready.next(o:Ordered S r n P){t:List Int}{i:Nat}(h:Ready S r n P t i)(hi:i<P.length):Ready S r n P (t.set (P.getD i 0) (Qa S n t (P.getD i 0):Int)) (i+1):=by
 have b:=h.best o hi;have e:=fZ   (v:=Qa S n t (P.getD i 0)) (by rw[h.len];exact b.hy);refine⟨by rw[e];exact b.inv',by rw[D6];exact h.len,λx hx=>?_⟩;rw[e];unfold S4
 split
 ·omega
 ·refine h.done x ?_;rcases zzL31.1 hx with rfl|hx
  ·grind
  ·rw[lq hi]at hx;rcases zzL11.1 hx with hx|hx
   ·grind
   ·grind
theorem Ready.more(o:Ordered S r n P){t:List Int}(h:Ready S r n P t P.length)(i:Nat):Ready S r n P t i:=
 ⟨h.inv,h.len,λx hx=>h.done x (by
  grind)⟩
theorem Ready.full(o:Ordered S r n P){t:List Int}(h:Ready S r n P t P.length):gZ S r n (Bw t):=λx hx hr=>h.done x (by rw[VB];exact(o.mem x).2 hr)
theorem Ready.round(o:Ordered S r n P){t:List Int}(h:Ready S r n P t 0):∀ i,i<=P.length->Ready S r n P (CB S n P t i) i:=by
 intro i
 induction i with
 | zero=>intro _;exact h
 | succ i ih=>intro hi;exact(ih (by omega)).next o (by omega)
theorem zo(o:Ordered S r n P):Ready S r n P (Jz n r) 0:=by
 obtain⟨h1,h2,h3⟩:=Ad4 o;exact⟨h1,h2,λx hx=>by grind⟩
theorem Ready.rounds(o:Ordered S r n P):∀ j,Ready S r n P (WX S n P (Jz n r) j) 0:=by
 intro j
 induction j with
 | zero=>exact zo o
 | succ j ih=>exact((ih.round o) _ (zzL7 _)).more o 0
theorem Ready.rounds'(o:Ordered S r n P)(j:Nat):Ready S r n P (WX S n P (Jz n r) (j+1)) P.length:=(Ready.rounds o j).round o _ (zzL7 _)
theorem ri(o:Ordered S r n P){t:List Int}{k:Nat}(h:Ready S r n P t P.length)(q:QB S r n (Bw t) λ_=>k):QB S r n (Bw (CB S n P t P.length)) λ_=>k+1:=by
 have key:∀ i,i<=P.length->QB S r n (Bw (CB S n P t i)) (λx=>if x∈P.take i then k+1 else k)/\gZ S r n (Bw (CB S n P t i)):=by
  intro i
  induction i with
  | zero=>intro _;exact⟨by simpa [CB] using q,h.full o⟩
  | succ i ih=>
   intro hi;obtain⟨q1,f1⟩:=ih (by omega);have rd:=(h.more o 0).round o i (by omega);have b:=rd.best o (by omega);have e:=fZ   (v:=Qa S n (CB S n P t i) (P.getD i 0)) (by rw[rd.len];exact b.hy)
   constructor
   ·show QB S r n (Bw ((CB S n P t i).set _ _)) _
    rw[e];have:=b.qb (k:=k) o.hS o.hr f1 (λx _=>by split<;>omega) q1;intro x hx hp z hz;refine this x hx hp z ?_;rw[lq (by omega)]at hz
    by_cases e1:x=P.getD i 0
    ·grind
    ·grind
   ·show gZ S r n (Bw ((CB S n P t i).set _ _))
    rw[e];intro x hx hr;unfold S4
    split
    ·omega
    ·exact f1 x hx hr
 have q1:=(key _ (zzL7 _)).1;rw[VB]at q1;have rd:=(h.more o 0).round o _ (zzL7 _);intro x hx hp z hz;refine q1 x hx hp z ?_
 dsimp only at hz ⊢
 by_cases e:x∈P
 ·rw[if_pos e];exact hz
 ·rw[if_neg e]
  have hxr:x=r:=by
   rcases zzL31.1 ((o.mem x).2 (rd.inv.rc x hx hp)) with h1|h1
   ·exact h1
   ·exact absurd h1 e
  subst hxr;exact .root hz.av.ne k
def CM(S:Nat->List Nat)(n:Nat)(P:List Nat)(t:List Int):Prop:=∀ i,i<P.length->Bw t (P.getD i 0)=(Qa S n t (P.getD i 0):Int)
theorem EC{t:List Int}(o:Ordered S r n P)(hl:t.length=n)(h:CM S n P t):∀ i,i<=P.length->CB S n P t i=t:=by
 intro i
 induction i with
 | zero=>intro _;rfl
 | succ i ih=>
  intro hi;unfold CB;rw[ih (by omega),<- h i (by omega)]
  have hlt:P.getD i 0<t.length:=by rw[hl];exact o.lt (Mn _ (Xv (by omega)))
  unfold Bw;rw[Ao _ _ _ hlt];exact List.set_getElem_self hlt
theorem xY(o:Ordered S r n P):∃ J,(∀ j,j<J->¬ CM S n P (WX S n P (Jz n r) j))/\CM S n P (WX S n P (Jz n r) J):=by
 obtain⟨K,hK⟩:=mo   n
 have hq:∀ k,QB S r n (Bw (WX S n P (Jz n r) (k+1))) λ_=>k:=by
  intro k
  induction k with
  | zero=>exact wQ (Ready.rounds' o 0).inv
  | succ k ih=>exact ri o (Ready.rounds' o k) ih
 have hst :=λi hi=>by
  have rd:=Ready.rounds' o K;exact((rd.more o i).best o hi).same o.hS o.hr (rd.full o) (rd.done _ (Mn _ (by grind))) (qU rd.inv hK (hq K))
 have key:∀ m,(∃ J,J<=m/\CM S n P (WX S n P (Jz n r) J))->∃ J,(∀ j,j<J->¬ CM S n P (WX S n P (Jz n r) j))/\CM S n P (WX S n P (Jz n r) J):=by
  intro m
  induction m with
  | zero=>grind
  | succ m ih=>
   rintro⟨J,hJ,h⟩
   by_cases hm:∃ J,J<=m/\CM S n P (WX S n P (Jz n r) J)
   ·exact ih hm
   ·grind
 exact key _ ⟨K+1,zzL7 _,hst⟩
structure DomTree(S:Nat->List Nat)(r n:Nat)(P:List Nat)(t:List Int):Prop where
 inv:Inv S r n (pos (r::P)) (Bw t)
 len:t.length=n
 full:gZ S r n (Bw t)
 exact_:kX S r n (Bw t)
theorem PB(o:Ordered S r n P){j:Nat}(h:CM S n P (WX S n P (Jz n r) j)):DomTree S r n P (WX S n P (Jz n r) j):=by
 have rd:=Ready.rounds o j
 have hall :=by
  have:=rd.round o _ (zzL7 _);rwa[EC o rd.len h _ (zzL7 _)]at this
 refine⟨rd.inv,rd.len,hall.full o,nD rd.inv o.hS o.hr (hall.full o) λy hy hne hr=>?_⟩
 have hm:y∈P:=by
  rcases zzL31.1 ((o.mem y).2 hr) with h1|h1
  ·exact absurd h1 hne
  ·exact h1
 obtain⟨i,hi,rfl⟩:=Nc hm;have b:=(hall.more o i).best o hi;rw[Ao _ _ _ hi]at b;have hs:=h i hi;rw[Ao _ _ _ hi]at hs;exact⟨_,hs,b.best⟩
end
section
variable {S:Nat->List Nat} {s s':Nat->Bool} {l o:List Nat}
theorem VL.before(h:VL S s l s' o):∀ A z B,o=A++z::B->z∈l\/∃ p∈B,z∈S p:=by
 induction h with
 | nil s=>intro A z B e;simp at e
 | skip h _ ih=>
  grind
 | @step s s1 s2 y l o1 o2 h a b iha ihb=>
  intro A z B e;rcases List.append_eq_append_iff.1 e with⟨C,hC1,hC2⟩|⟨C,hC1,hC2⟩
  ·
   cases C with
   | nil=>
    grind
   | cons c C=>
    grind
  ·cases C with
   | nil=>
    grind
   | cons c C=>
    grind
theorem Ord.ordered{n r:Nat}{L:List Nat}(hr:r<n)(hS:∀ x,x<n->∀ w∈S x,w<n)(h:Ord S r L):∃ P,L=r::P/\Ordered S r n P:=by
 have h1:=h.nodup;have h2:=h.mem;obtain⟨s',o,hv,rfl⟩:=h;refine⟨o.reverse,rfl,hr,hS,h1,λx=>by rw[h2 x,rc_iff],λi hi=>?_⟩
 have e:o.reverse=o.reverse.take i++o.reverse[i]::o.reverse.drop (i+1):=by rw[<- cj hi,List.take_append_drop]
 have e2:o=(o.reverse.drop (i+1)).reverse++o.reverse[i]::(o.reverse.take i).reverse:=by
  have:=Bv List.reverse e
  simpa using this
 rw[Ao _ _ _ hi];rcases hv.before _ _ _ e2 with h3|⟨p,hp,hz⟩
 ·exact⟨r,zzL44 ..,h3⟩
 ·grind
end
def ln(S:Nat->List Nat)(w:Int):Nat->List Nat:=λx=>(S x).filter λy=>decide ((y:Int)≠w)
theorem sU(S:Nat->List Nat):ln S (-1)=S:=by
 funext x
 exact List.filter_eq_self.2 λy _=>Gi (by omega)
theorem wj(S:Nat->List Nat)(z:Nat):ln S (z:Int)=wo S z:=by
 funext x
 unfold ln wo
 congr 1
 funext y
 exact zzL71.2 ⟨λh e=>h (by rw[e]),λh e=>h (NC e)⟩
def Nk(L:List (List Int))(r:Nat)(w:Int):List Bool:=if(r:Int)=w then List.replicate L.length false else KM (ln (sN L) w) L.length ((List.replicate L.length false).set r true) L.length
theorem TQ(L:List (List Int))(r:Nat)(w:Int):(Nk L r w).length=L.length:=by
 unfold Nk
 split
 ·simp
 ·rw[Zo];simp
theorem e8{L:List (List Int)}(hm:Og L=true){r:Nat}(hr:r<L.length)(w:Int) :
  C2 (Kp L) (r:Int) w=some (Nk L r w):=by
 obtain⟨h1,h2,h3⟩:=mayS_iff.1 hm
 have hroom:(1000:Nat)<=room:=by decide
 have hS:=AQ hm;have hSw:∀ z,z<L.length->∀ y∈ln (sN L) w z,y<L.length:=λz hz y hy=>hS z hz y (zzL95.1 hy).1;have hgs:(Kp L).Succ=L:=rfl
 have hlenS:∀ a,(sN L a).length=(L.getD a []).length:=λa=>by simp[sN]
 let fl:List Nat->List Nat:=λl=>l.filter λy=>decide ((y:Int)≠w)
 have hin:∀(o:List Bool) (i:Nat),o.length=L.length->i<L.length->Ad (A7 (Kp L) w (i:Int)) ((0:Int),o)=some (if o.getD i false=true then mk o (ln (sN L) w i) else o):=λo i ho hi=>by
  have hb:=FR (h3 i hi)
  by_cases hoi:o.getD i false=true
  ·rw[if_pos hoi];have hmi:∀ k,(mk o (fl ((sN L i).take k))).getD i false=true:=λk=>(mk_at (n:=L.length) _ _ ho (λy hy=>hS i hi y (List.mem_of_mem_take (zzL95.1 hy).1)) i).2 (.inl hoi)
   have hml:∀ k,(mk o (fl ((sN L i).take k))).length=L.length:=λk=>by rw[iy,ho]
   refine Fs (A7 (Kp L) w (i:Int)) (λk=>(((k:Nat):Int),mk o (fl ((sN L i).take k)))) _ (L.getD i []).length (λk hk=>?_) ?_
   ·show A7 (Kp L) w (i:Int) (_,_)=_
    unfold A7;obtain⟨a0,a1⟩:=DH (h3 i hi) hk;simp only[hgs,Ap,hmi];rw[Ac (Fl (by rw[hml];exact hi)),Nn (Fl hi),Af,Bo hk,Af,Ac (Fl hi),Ac (Fl hk)]
    have hk':k<(sN L i).length:=by rw[hlenS];exact hk
    have hsk:(sN L i)[k]=((L.getD i []).getD k 0).toNat:=by rw[Ao _ _ _ hk];simp[sN]
    have hski:(((sN L i)[k]:Nat):Int)=(L.getD i []).getD k 0:=by rw[hsk];exact Mi a0
    have e:mk o (fl ((sN L i).take (k+1)))=if(L.getD i []).getD k 0=w then mk o (fl ((sN L i).take k)) else(mk o (fl ((sN L i).take k))).set ((L.getD i []).getD k 0).toNat true:=by
     rw[lq hk']
     show mk o (List.filter _ (_++[_]))=_
     rw[MZ]
     by_cases hw:(L.getD i []).getD k 0=w
     ·rw[if_pos hw]
      have:List.filter (λy:Nat=>decide ((y:Int)≠w)) [(sN L i)[k]]=[]:=by rw[List.filter_cons,hski,hw];simp
      rw[this,List.append_nil]
     ·rw[if_neg hw]
      have:List.filter (λy:Nat=>decide ((y:Int)≠w)) [(sN L i)[k]]=[(sN L i)[k]]:=by rw[List.filter_cons,hski,if_pos (Gi hw)];rfl
      rw[this];unfold mk;rw[List.foldl_append,hsk]
      rfl
    by_cases hw:(L.getD i []).getD k 0=w
    ·have hne:((L.getD i []).getD k 0 !=w)=false:=by rw[hw];simp
     rw[hne,Ar,Ak,w1 (by omega),e,if_pos hw]
    ·have hne:((L.getD i []).getD k 0 !=w)=true:=by rw[zzL83];exact hw
     rw[hne,Af,Ac (Fl hi),Ac (Fl hk),Ac ⟨a0,by rw[hml];exact a1⟩,w1 (by omega),e,if_neg hw]
     rfl
   ·show A7 (Kp L) w (i:Int) (_,_)=_
    unfold A7;simp only[hgs,Ap,hmi];rw[Ac (Fl (by rw[hml];exact hi)),Nn (Fl hi),Af,Cm,Ar]
    have:(sN L i).take (L.getD i []).length=sN L i:=by rw[<- hlenS];exact VB ..
    rw[this]
    rfl
  ·have hof:o.getD i false=false:=by simpa using hoi
   rw[if_neg hoi]
   apply Am
   unfold A7;simp only[hgs,Ap,hof];rw[Ac (Fl (by rw[ho];exact hi)),Nn (Fl hi),Ar,Ar]
 have hsw:∀ o:List Bool,o.length=L.length->Ad (A8 (Kp L) w) ((0:Int),o)=some (sw (ln (sN L) w) o L.length):=λo ho=>by
  refine Fs (A8 (Kp L) w) (λi=>(((i:Nat):Int),sw (ln (sN L) w) o i)) _ L.length (λi hi=>?_) ?_
  ·show A8 (Kp L) w (_,_)=_
   unfold A8
   have hl:(sw (ln (sN L) w) o i).length=L.length:=by rw[sw_len,ho]
   simp only[hl,Bo hi,Af];rw[hin _ i hl hi,w1 (by omega)]
   rfl
  ·show A8 (Kp L) w (_,_)=_
   unfold A8
   have hl:(sw (ln (sN L) w) o L.length).length=L.length:=by rw[sw_len,ho]
   simp only[hl,Cm,Ar]
 unfold C2;simp only[hgs,Ap];rw[Ac ⟨by omega,Int.le_refl _,by omega⟩];unfold Nk
 by_cases hrw:(r:Int)=w
 ·rw[if_pos hrw]
  have:((r:Int)==w)=true:=by simpa using hrw
  rw[this,Af]
 ·rw[if_neg hrw]
  have hne:((r:Int)==w)=false:=by rw[zzL34];exact hrw
  rw[hne,Ar,Ac (Fl (by simpa using hr))]
  have hl0:((List.replicate L.length false).set r true).length=L.length:=by simp
  have:Ad (A9 (Kp L) w) ((0:Int),(List.replicate L.length false).set r true)=some (KM (ln (sN L) w) L.length ((List.replicate L.length false).set r true) L.length):=by
   refine Fs (A9 (Kp L) w) (λj=>(((j:Nat):Int),KM (ln (sN L) w) L.length ((List.replicate L.length false).set r true) j)) _ L.length (λj hj=>?_) ?_
   ·show A9 (Kp L) w (_,_)=_
    unfold A9
    have hl:(KM (ln (sN L) w) L.length ((List.replicate L.length false).set r true) j).length=L.length:=by rw[Zo,hl0]
    simp only[hl,Bo hj,Af];rw[hsw _ hl,w1 (by omega)]
    rfl
   ·show A9 (Kp L) w (_,_)=_
    unfold A9
    have hl:(KM (ln (sN L) w) L.length ((List.replicate L.length false).set r true) L.length).length=L.length:=by rw[Zo,hl0]
    simp only[hl,Cm,Ar]
  rw[this]
  rfl
theorem rp{L:List (List Int)}(hm:Og L=true){r:Nat}(hr:r<L.length){b:Nat}:(Nk L r (-1)).getD b false=true↔Rc (sN L) r b:=by
 unfold Nk;rw[if_neg (by omega),sU,KN (AQ hm) hr b,rc_iff]
theorem jM{L:List (List Int)}(hm:Og L=true){r:Nat}(hr:r<L.length){a b:Nat}(hb:b<L.length):(Nk L r (a:Int)).getD b false=true↔Av (sN L) r a b:=by
 unfold Nk;rw[av_iff]
 by_cases h:r=a
 ·grind
 ·rw[if_neg (by omega),wj,KN (S:=wo _ a) (λz hz y hy=>AQ hm z hz y (zzL95.1 hy).1) hr b];simp[h]
def Qo(L:List (List Int))(r a b:Nat):Bool:=(Nk L r (-1)).getD b false&&!(Nk L r (a:Int)).getD b false
theorem fY{L:List (List Int)}(hm:Og L=true){r a b:Nat}(hr:r<L.length)(hb:b<L.length):Qo L r a b=true↔Rc (sN L) r b/\¬ Av (sN L) r a b:=by
 unfold Qo;rw[A4,Qr,<- Bool.not_eq_true,rp hm hr,jM hm hr hb]
def SY(L:List (List Int))(r a b:Nat):Bool:=(List.range L.length).all λc=>decide (c=b) || !Qo L r c b || Qo L r c a
def Vn(L:List (List Int))(r b:Nat):Nat->Int
 | 0=>-2
 | a+1=>if a≠b/\Qo L r a b=true/\SY L r a b=true then(a:Int) else Vn L r b a
def Zt(L:List (List Int))(r b:Nat):Int:=if b=r then -1 else Vn L r b L.length
def ED(L:List (List Int))(r:Nat):List Int:=(List.range L.length).map (Zt L r)
theorem ap(L:List (List Int))(r:Nat):(ED L r).length=L.length:=by simp[ED]
theorem sQ{L:List (List Int)}{r b:Nat}(hb:b<L.length):(ED L r).getD b 0=Zt L r b:=by unfold ED;rw[S9 hb]
theorem pick_cases(L:List (List Int))(r b:Nat):∀ m,(Vn L r b m = -2/\∀ a,a<m->¬ (a≠b/\Qo L r a b=true/\SY L r a b=true))\/∃ a,a<m/\Vn L r b m=(a:Int)/\a≠b/\Qo L r a b=true/\SY L r a b=true:=by
 intro m
 induction m with
 | zero=>exact .inl ⟨rfl,λa ha=>absurd ha (V2 a)⟩
 | succ m ih=>
  unfold Vn
  by_cases h:m≠b/\Qo L r m b=true/\SY L r m b=true
  ·grind
  ·grind
theorem DomTree.eq{L:List (List Int)}(hm:Og L=true){r:Nat}(hr:r<L.length){P t:List _}(o:Ordered (sN L) r L.length P)(h:DomTree (sN L) r L.length P t):t=ED L r:=by
 refine PI (by rw[h.len,ap]) λb h1 h2=>?_
 have hb:b<L.length:=by rw[<- h.len];exact h1
 rw[<- Ao _ _ 0 h1,<- Ao _ _ 0 h2,sQ hb]
 show Bw t b=_
 have hov:∀ a b,b<L.length->Bw t b≠-2->(Qo L r a b=true↔UpTo _ b a):=λa b hb hp=>by
  rw[fY hm hr hb,h.exact_ b hb hp];exact⟨λk=>k.2,λk=>⟨h.inv.rc b hb hp,k⟩⟩
 unfold Zt
 by_cases hbr:b=r
 ·subst hbr;rw[if_pos rfl];exact h.inv.top
 ·rw[if_neg hbr];rcases h.inv.kind b hb with hk|hk|⟨z,hz⟩
  ·
   have hn :=λk=>h.full b hb k hk;rcases pick_cases L r b _ with⟨h3,_⟩|⟨a,_,_,_,h6,_⟩
   ·rw[hk,h3]
   ·exact absurd ((fY hm hr hb).1 h6).1 hn
  ·exact absurd hk hbr
  ·obtain⟨z1,z2,z3,z4⟩:=h.inv.up b hb z hz
   have hp:Bw t b≠-2:=by omega
   have hzo :=(hov z b hb hp).2 (.up hz (.refl _))
   have hzb:z≠b:=by rintro rfl;omega
   have hnear:SY L r z b=true:=all_range.2 λc hc=>by
    by_cases e:c=b
    ·simp[e]
    ·cases ho:Qo L r c b with
     | false=>simp
     | true=>
      have:=(hov c b hb hp).1 ho;rcases(anc_up hz).1 this with h3|h3
      ·exact absurd h3 e
      ·grind
   rcases pick_cases L r b L.length with⟨_,h3⟩|⟨a,h3,h4,h5,h6,h7⟩
   ·grind
   ·rw[h4,hz];have haU:=(hov a b hb hp).1 h6
    have ha1:UpTo (Bw t) z a:=by
     rcases(anc_up hz).1 haU with h8|h8
     ·exact absurd h8 h5
     ·exact h8
    have hap:=(h.inv.anc ha1 z1 z2).2.1
    have hza :=by
     have:=all_range.1 h7 z z1;simp only[hzo,hzb, C0]at this;exact(hov z a h3 hap).1 this
    rw[h.inv.antisymm ha1 hza z1 z2]
theorem lJ{g:TGraph}(h:GJ g=true):Og g.Succ=true/\g=Kp g.Succ:=by
 unfold GJ at h;rw[A4]at h;refine⟨h.1,?_⟩;obtain⟨s,p⟩:=g;have:=NA h.2;simp only at this;unfold Kp;rw[this]
theorem JN{a b:Nat}:(((a:Nat):Int)==(b:Int))=decide (a=b):=by
 grind
theorem kq{a b:Nat}:(((a:Nat):Int)!=(b:Int)) = !decide (a=b):=by
 unfold bne;rw[JN]
section
variable {L:List (List Int)} (hm:Og L=true) {r:Nat} (hr:r<L.length)
def UA(L:List (List Int))(r a k:Nat):List Bool:=(List.range L.length).map λb=>if b<k then Qo L r a b else false
def TZ(L:List (List Int))(r a:Nat):List Bool:=(List.range L.length).map λb=>Qo L r a b
def nh(L:List (List Int))(r:Nat):List (List Bool):=(List.range L.length).map λa=>TZ L r a
theorem lV:(nh L r).length=L.length:=by simp[nh]
theorem rY{a:Nat}(ha:a<L.length):(nh L r).getD a []=TZ L r a:=by unfold nh;rw[S9 ha]
theorem fk{a:Nat}:(TZ L r a).length=L.length:=by simp[TZ]
theorem cU{a b:Nat}(hb:b<L.length):(TZ L r a).getD b false=Qo L r a b:=by unfold TZ;rw[S9 hb]
include hm hr
omit hr in
theorem wc(a:Nat)(l5:List (List Bool))(hl5:l5.length=L.length)(ha:a<L.length):Ad (C6 (Kp L) (Nk L r (-1)) (a:Int) l5 (Nk L r (a:Int))) ((0:Int),List.replicate L.length false)=some (TZ L r a):=by
 obtain⟨h1,h2,h3⟩:=mayS_iff.1 hm;have hgs:(Kp L).Succ=L:=rfl
 have e0:List.replicate L.length false=UA L r a 0:=by
  refine PI (by simp[UA]) λi h1 h2=>by simp[UA]
 have e1:TZ L r a=UA L r a L.length:=by
  unfold TZ UA
  exact Hi λi hi=>by rw[if_pos hi]
 have hlen:∀ k,(UA L r a k).length=L.length:=λk=>by simp[UA]
 rw[e0];refine Fs (C6 (Kp L) (Nk L r (-1)) (a:Int) l5 (Nk L r (a:Int))) (λk=>(((k:Nat):Int),UA L r a k)) _ L.length (λk hk=>?_) ?_
 ·show C6 (Kp L) _ _ _ _ (_,_)=_
  unfold C6;simp only[hgs,Ap,Bo hk,Af];rw[Ac (Fl (by rw[hl5];exact ha)),Ac (Fl (by rw[TQ];exact hk)),Ac (λ_=>Fl (by rw[TQ];exact hk)),Ac (Fl (by rw[hlen];exact hk)),w1 (by omega)]
  have:(UA L r a k).set k (bif (Nk L r (-1)).getD k false then !(Nk L r (a:Int)).getD k false else false)=UA L r a (k+1):=by
   unfold UA;rw[DZ];refine Hi λi hi=>?_
   by_cases e:i=k
   ·subst e;rw[if_pos rfl,if_pos (by omega)];unfold Qo
    cases(Nk L r (-1)).getD i false<;>rfl
   ·rw[if_neg e]
    by_cases e2:i<k
    ·rw[if_pos e2,if_pos (by omega)]
    ·rw[if_neg e2,if_neg (by omega)]
  rw[this]
 ·show C6 (Kp L) _ _ _ _ (_,_)=_
  unfold C6;simp only[hgs,Cm,Ar];rw[e1]
theorem wd:Ad (Iw (Kp L) (r:Int) (Nk L r (-1))) ((0:Int),List.replicate L.length ([]:List Bool))=some (nh L r):=by
 obtain⟨h1,h2,h3⟩:=mayS_iff.1 hm;have hgs:(Kp L).Succ=L:=rfl
 have hroom:1000<=room:=by decide
 let M:Nat->List _:=λk=>(List.range L.length).map λa=>if a<k then TZ L r a else[]
 have hM:∀ k,(M k).length=L.length:=λk=>by simp[M]
 have e0:List.replicate L.length []=M 0:=by
  refine PI (by simp[M]) λi h1 h2=>by simp[M]
 have e1:nh L r=M _:=Hi λi hi=>by rw[if_pos hi]
 rw[e0];refine Fs _ (λk=>(((k:Nat):Int),M k)) _ L.length (λk hk=>?_) ?_
 ·unfold Iw;simp only[hgs,Ap,Bo hk,Af];rw[Ac ⟨by omega,Int.le_refl _,by omega⟩,Ac (Fl (by rw[hM];exact hk)),e8 hm hr,Ak,wc hm k (M k) (hM k) hk,Ak,w1 (by omega)]
  have:(M k).set k (TZ L r k)=M (k+1):=by
   rw[DZ];refine Hi λi hi=>?_
   by_cases e:i=k
   ·grind
   ·grind
  rw[this]
 ·unfold Iw;simp only[hgs,Cm,Ar];rw[e1]
omit hr in
theorem we(a b:Nat)(ha:a<L.length)(hb:b<L.length):Ad (C7 (Kp L) (nh L r) (b:Int) (a:Int)) (true,(0:Int))=some (SY L r a b):=by
 obtain⟨h1,h2,h3⟩:=mayS_iff.1 hm;have hgs:(Kp L).Succ=L:=rfl
 let N:Nat->Bool:=λk=>(List.range k).all λc=>decide (c=b) || !Qo L r c b || Qo L r c a
 refine Fs (C7 (Kp L) (nh L r) (b:Int) (a:Int)) (λk=>(N k,((k:Nat):Int))) _ L.length (λk hk=>?_) ?_
 ·show C7 (Kp L) _ _ _ (_,_)=_
  unfold C7;simp only[hgs,Ap,Bo hk,Af,rY hk,lV,fk,cU hb,cU ha];rw[Ac (λ_=>Fl hk),Ac (λ_=>Fl hb),Ac (λ_=>Fl hk),Ac (λ_=>Fl ha),w1 (by omega),JN]
  have:(bif N k then(bif (bif decide (k=b) then true else !Qo L r k b) then true else Qo L r k a) else false)=N (k+1):=by
   show _=(List.range (k+1)).all _
   rw[pc]
   show _=(N k&&_)
   cases N k<;>cases decide (k=b)<;>cases Qo L r k b<;>rfl
  rw[this]
 ·show C7 (Kp L) _ _ _ (_,_)=_
  unfold C7;simp only[hgs,Cm,Ar]
  rfl
def So(L:List (List Int))(r b:Nat)(x:Int):List Int:=(List.range L.length).map λj=>if j<b then Zt L r j else if j=b then x else 0
omit hm hr in
theorem MU{b:Nat}{x:Int}:(So L r b x).length=L.length:=by simp[So]
omit hm hr in
theorem MV{b:Nat}{x y:Int}:(So L r b x).set b y=So L r b y:=by
 unfold So;rw[DZ];refine Hi λi hi=>?_
 by_cases e:i=b
 ·subst e;rw[if_pos rfl,if_neg (by omega),if_pos rfl]
 ·rw[if_neg e,if_neg e,if_neg e]
omit hm hr in
theorem UM{b:Nat}:So L r b (Zt L r b)=So L r (b+1) 0:=by
 unfold So;refine Hi λi hi=>?_
 by_cases e:i<b
 ·rw[if_pos e,if_pos (by omega)]
 ·rw[if_neg e]
  by_cases e2:i=b
  ·subst e2;rw[if_pos rfl,if_pos (by omega)]
  ·rw[if_neg e2,if_neg (by omega)];split<;>rfl
omit hr in
theorem wg(b:Nat)(hb:b<L.length)(hbr:b≠r):Ad (B3 (Kp L) (r:Int) (nh L r) (b:Int)) ((0:Int),So L r b (-2))=some (So L r b (Vn L r b L.length)):=by
 obtain⟨h1,h2,h3⟩:=mayS_iff.1 hm;have hgs:(Kp L).Succ=L:=rfl;refine Fs (B3 (Kp L) (r:Int) (nh L r) (b:Int)) (λk=>(((k:Nat):Int),So L r b (Vn L r b k))) _ L.length (λk hk=>?_) ?_
 ·show B3 (Kp L) _ _ _ (_,_)=_
  unfold B3
  have hne:decide (b=r)=false:=by simp[hbr]
  simp only[hgs,Ap,Bo hk,Af,rY hk,lV,fk,cU hb,JN,kq,hne,J0];rw[Ac (λ_=>Fl hk),Ac (λ_=>Fl hb),we hm k b hk hb]
  by_cases hkb:k=b
  ·have e:Vn L r b (k+1)=Vn L r b k:=by show(if _ then _ else _)=_;rw[if_neg (λh=>h.1 hkb)]
   rw[Gi hkb,Af,Af,Ak,w1 (by omega),e]
  ·rw[Db hkb,Ar]
   cases ho:Qo L r k b with
   | false=>
    have e:Vn L r b (k+1)=Vn L r b k:=by show(if _ then _ else _)=_;rw[if_neg (λh=>by rw[ho]at h;exact absurd h.2.1 (by decide))]
    rw[J0,Af,Ak,w1 (by omega),e]
   | true=>
    rw[C0,Ar,Ak]
    cases hn:SY L r k b with
    | false=>
     have e:Vn L r b (k+1)=Vn L r b k:=by show(if _ then _ else _)=_;rw[if_neg (λh=>by rw[hn]at h;exact absurd h.2.2 (by decide))]
     rw[Ar,Ak,w1 (by omega),e]
    | true=>
     have e:Vn L r b (k+1)=(k:Int):=by show(if _ then _ else _)=_;rw[if_pos ⟨hkb,ho,hn⟩]
     rw[Af,Ac (Fl (by rw[MU];exact hb)),Ak,w1 (by omega),e,MV]
 ·show B3 (Kp L) _ _ _ (_,_)=_
  unfold B3;simp only[hgs,Cm,Ar]
omit hr in
theorem wh:Ad (C8 (Kp L) (r:Int) (nh L r)) ((0:Int),List.replicate L.length (0:Int))=some (ED L r):=by
 obtain⟨h1,h2,h3⟩:=mayS_iff.1 hm;have hgs:(Kp L).Succ=L:=rfl
 have e0:List.replicate L.length (0:Int)=So L r 0 0:=by
  refine PI (by simp[So]) λi h1 h2=>by simp[So]
 have e1:ED L r=So L r L.length 0:=Hi λi hi=>by rw[if_pos hi]
 rw[e0];refine Fs (C8 (Kp L) (r:Int) (nh L r)) (λk=>(((k:Nat):Int),So L r k 0)) _ L.length (λk hk=>?_) ?_
 ·show C8 (Kp L) _ _ (_,_)=_
  unfold C8;simp only[hgs,Ap,Bo hk,Af];rw[Ac (Fl (by rw[MU];exact hk)),JN,MV,MV]
  by_cases hkr:k=r
  ·rw[Gi hkr,Af,Ac (Fl (by rw[MU];exact hk)),Ak]
   have hd:Ad (B3 (Kp L) (r:Int) (nh L r) (k:Int)) ((0:Int),So L r k (-1))=some (So L r k (-1)):=by
    apply Am
    unfold B3;simp only[kq,Gi hkr,C0,pz,Ar]
   rw[hd,Ak,w1 (by omega)]
   have:Zt L r k = -1:=by unfold Zt;rw[if_pos hkr]
   rw[<- this,UM]
  ·rw[Db hkr,Ar,Ak,wg hm k hk hkr,Ak,w1 (by omega)]
   have:Zt L r k=Vn L r k L.length:=by unfold Zt;rw[if_neg hkr]
   rw[<- this,UM]
 ·show C8 (Kp L) _ _ (_,_)=_
  unfold C8;simp only[hgs,Cm,Ar];rw[e1]
end
def UL(g:TGraph)(r:Int):List Int:=if GJ g=true/\0<=r/\r<(g.Succ.length:Int) then ED g.Succ r.toNat else[]
theorem iv(g:TGraph)(h:Fits g.Succ)(r:Int):Lm g r=some (UL g r):=by
 have hroom:1000<=room:=by decide
 unfold Lm UL;rw[nS g h,Ak]
 cases hmg:GJ g with
 | false=>
  rfl
 | true=>
  rw[C0,Ar]
  by_cases h0:r<0
  ·grind
  ·rw[Db h0,Ar]
   by_cases h1:g.Succ.length<=r
   ·grind
   ·rw[Db h1,Ar,if_pos ⟨rfl,by omega,by omega⟩];obtain⟨hms,hg⟩:=lJ hmg;obtain⟨hl1,hl2,hl3⟩:=mayS_iff.1 hms;obtain⟨q,rfl⟩:∃ q:Nat,r=q:=⟨r.toNat,by omega⟩
    have hq:q<g.Succ.length:=by omega
    rw[hg];have hgs:(Kp _).Succ=g.Succ:=rfl;simp only[hgs,Ap];rw[e8 hms hq,Ak,Ac ⟨by omega,Int.le_refl _,by omega⟩,wd hms hq,Ak,Ac ⟨by omega,Int.le_refl _,by omega⟩,wh hms,Ak]
def upD(t:List Int):Nat->Int->Option (List Int)
 | 0,_=>none
 | k+1,a=>if 0<=a/\a<(t.length:Int) then(if t.getD a.toNat 0 = -1 then some [a] else(upD t k (t.getD a.toNat 0)).map λl=>a::l) else none
def Ew(t:List Int)(a:Int):List Int:=(upD t t.length a).getD []
def Ad6(l:List Int):Option (List Int)->Unit ⊕ List Int
 | none=>.inl ()
 | some q=>.inr (l++q)
theorem ni(t:List Int)(ht:t.length<=1000):∀(k:Nat) (a:Int) (l:List Int),l.length+k=t.length->Ad (Ck t) (a,l)=some (Ad6 l (upD t k a)):=by
 have hroom:2000<=room:=by decide
 intro k
 induction k with
 | zero=>
  intro a l hl
  apply Am
  unfold Ck;have:decide ((l.length:Int)<t.length)=false:=Db (by omega);simp only[this]
  rfl
 | succ k ih=>
  intro a l hl;have hlt:decide (l.length<(t.length:Int))=true:=Gi (by omega);unfold upD
  by_cases h0:0<=a
  ·by_cases h1:a<t.length
   ·have hin:As a _:=⟨h0,h1⟩;rw[if_pos ⟨h0,h1⟩]
    by_cases ht1:t.getD a.toNat 0 = -1
    ·apply Am
     unfold Ck;simp only[hlt,Gi h0,Gi h1];rw[Ac (by simp;omega),Ac hin,ht1]
     rfl
    ·rw[if_neg ht1]
     have hs:Ck t (a,l)=some (.next (t.getD a.toNat 0,l++[a])):=by
      unfold Ck;have hb :=zzL34.2 ht1;simp only[hlt,Gi h0,Gi h1,Af];rw[Ac (by simp;omega),Ac hin,hb,Ar,Ac hin]
     rw[Aq hs,ih _ _ (by simp;omega)]
     cases upD t k _ with
     | none=>rfl
     | some q=>show some (Sum.inr _)=some (Sum.inr _);simp
   ·rw[if_neg (by omega)]
    apply Am
    unfold Ck;simp only[hlt,Gi h0,Db h1,Af]
    rfl
  ·rw[if_neg (by omega)]
   apply Am
   unfold Ck;simp only[hlt,Db h0,Af]
   rfl
theorem iu(t:List Int)(ht:t.length<=1000)(a:Int):F5 t a=some (Ew t a):=by
 unfold F5 Ew;rw[ni t ht t.length a [] (by simp)]
 cases upD t _ a with
 | none=>rfl
 | some q=>rfl
theorem lk(t:List Int):∀ k a q,upD t k a=some q->q.length<=k/\1<=q.length:=by
 intro k
 induction k with
 | zero=>intro a q h;cases h
 | succ k ih=>
  intro a q h;unfold upD at h
  split at h
  ·split at h
   ·cases h;simp
   ·cases hu:upD t k _ with
    | none=>rw[hu]at h;cases h
    | some q'=>grind
  ·cases h
theorem aa(t:List Int)(a:Int):(Ew t a).length<=t.length:=by
 unfold Ew
 cases h:upD t _ a with
 | none=>simp
 | some q=>exact(lk t _ _ _ h).1
theorem pathD_nil{t:List Int}{a:Int}:Ew t a=[]↔upD t t.length a=none:=by
 unfold Ew
 cases h:upD t _ a with
 | none=>simp
 | some q=>have:=(lk t _ _ _ h).2;simp;intro e;subst e;simp at this
def topsK(t:List Int)(k:Nat):Nat:=((List.range k).filter λa=>decide (t.getD a 0 = -1)).length
def rM(t:List Int)(a:Nat):Bool:=decide (t.getD a 0 = -2) || !decide (Ew t (a:Int)=[])
def Nl(t:List Int):Bool:=(List.range t.length).all (rM t)&&decide (topsK t t.length=1)
theorem IJ(t:List Int)(k:Nat):topsK t (k+1)=topsK t k+if t.getD k 0 = -1 then 1 else 0:=by
 unfold topsK;rw[LE,MZ]
 by_cases h:t.getD k 0 = -1
 ·grind
 ·grind
theorem sM(t:List Int)(k:Nat):topsK t k<=k:=by
 exact Qt (List.length_filter_le ..) (by simp)
theorem qs{l:List Int}:(((l.length:Nat):Int)==(0:Int))=decide (l=[]):=by
 cases l with
 | nil=>rfl
 | cons x l=>simp;omega
theorem jS(t:List Int)(ht:t.length<=1000):Ad (B0 t) ((0:Int),(0:Int))=some (bif (List.range t.length).all (rM t) then .inl ((topsK t t.length:Nat):Int) else .inr false):=by
 have body:∀ k,k<t.length->B0 t (((topsK t k:Nat):Int),(k:Int))=some (bif rM t k then .next (((topsK t (k+1):Nat):Int),((k+1:Nat):Int)) else .done (.inr false)):=λk hk=>by
  have hle:=sM t k;unfold B0;simp only[Ap,Bo hk,Af];rw[Ac (Fl hk)]
  have e1:(bif (t.getD k 0==(-1:Int)) then some (w64 (((topsK t k:Nat):Int)+1)) else some ((topsK t k:Nat):Int))=some ((topsK t (k+1):Nat):Int):=by
   rw[IJ]
   by_cases h:t.getD k 0 = -1
   ·rw[if_pos h,zzL45.2 h,Af,w1 (by omega)]
   ·rw[if_neg h,zzL34.2 h,Ar];rfl
  rw[e1,Ak]
  by_cases h2:t.getD k 0 = -2
  ·have hb:(t.getD k 0 !=(-2:Int))=false:=by rw[h2];rfl
   have ho:rM t k=true:=by unfold rM;rw[Gi h2];rfl
   rw[hb,show(false==true)=false from rfl,Ar,Ak,Ar,Ar,Ac (Fl hk),w1 (by omega),ho,Af]
  ·have hb:(t.getD k 0 !=(-2:Int))=true:=zzL83.2 h2
   have ho:rM t k = !decide (Ew t (k:Int)=[]):=by unfold rM;rw[Db h2];rfl
   rw[hb,show(true==true)=true from rfl,Af,iu t ht,Ak,Af,qs,Ac (Fl hk),w1 (by omega),ho]
   cases decide (Ew t (k:Int)=[])<;>rfl
 have:=Ij (B0 t) (λk=>(((topsK t k:Nat):Int),((k:Nat):Int))) (rM t) (.inl ((topsK t t.length:Nat):Int)) (.inr false) t.length (λi hi hp=>by
   show B0 t _=_;rw[body i hi,hp,Af]) (λi hi hp=>by
   show B0 t _=_;rw[body i hi,hp,Ar]) (by
   show B0 t _=_
   unfold B0
   simp only[Cm,Ar])
 exact this
theorem vn(t:List Int)(ht:t.length<=1000):Kk t=some (Nl t):=by
 unfold Kk Nl;rw[jS t ht]
 cases(List.range _).all _ with
 | false=>rfl
 | true=>
  rw[ Hn]
  show some _=_
  have:(1:Int)=(1:Nat):=rfl;rw[this,JN]
theorem find_first(p:Int->Bool):∀ l:List Int,(∃ n,n<l.length/\(∀ i,i<n->p (l.getD i 0)=false)/\p (l.getD n 0)=true/\l.find? p=some (l.getD n 0))\/((∀ i,i<l.length->p (l.getD i 0)=false)/\l.find? p=none):=by
 intro l
 induction l with
 | nil=>grind
 | cons x l ih=>
  cases hx:p x with
  | true=>exact .inl ⟨0,by simp,λi hi=>absurd hi (V2 i),by simpa using hx,by simp[ hx]⟩
  | false=>
   rcases ih with⟨n,h1,h2,h3,h4⟩|⟨h1,h2⟩
   ·refine .inl ⟨n+1,by simpa using h1,λi hi=>?_,by simpa using h3,by grind⟩
    cases i with
    | zero=>simpa using hx
    | succ i=>grind
   ·grind
def Si(t:List Int)(a b:Int):Int:=if Nl t=true then((Ew t a).find? λx=>(Ew t b).contains x).getD (-2) else -2
def OT(t:List Int)(a b:Int):Bool:=Si t a b==a&&Si t a b !=-2
theorem zR(t:List Int)(ht:t.length<=1000)(a b:Int):Ll t a b=some (Si t a b):=by
 unfold Ll Si;rw[vn t ht,Ak]
 cases Nl t with
 | false=>rfl
 | true=>
  rw[C0, iu t ht,Ak,iu t ht,Ak];have hp:=aa t a;have hq:=aa t b
  have body:∀ k,k<(Ew t a).length->D5 (Ew t a) (Ew t b) (k:Int)=some (bif (Ew t b).contains _ then .done _ else .next _):=λk hk=>by
   unfold D5;simp only[Ap,Bo hk];rw[Ac (Fl hk),lH _ _ (by omega), w1 (by omega),Ac (Fl hk)]
   cases(Ew t b).contains _<;>rfl
  rcases find_first (λx=>(Ew t b).contains x) (Ew t a) with⟨n,h1,h2,h3,h4⟩|⟨h1,h2⟩
  ·have:=Fs (D5 (Ew t a) (Ew t b)) (λk=>(k:Nat)) (.inr ((Ew t a).getD n 0)) n (λk hk=>by
    grind) (by
    grind)
   have e:Ad _ (0:Int)=_:=this;rw[e, h4]
   rfl
  ·have:=Fs (D5 (Ew t a) (Ew t b)) (λk=>((k:Nat):Int)) (.inl ()) (Ew t a).length (λk hk=>by
    grind) (by
    unfold D5
    simp only[Cm,Ar])
   have e:Ad _ (0:Int)=_:=this;rw[e, h2]
   rfl
section
variable {S:Nat->List Nat} {r n:Nat} {P:List Nat} {t:List Int}
theorem DomTree.up(h:DomTree S r n P t):∀ k x,x<n->Bw t x≠-2->pos (r::P) x<k->∃ q,upD t k (x:Int)=some q/\(∀ w:Int,w∈q↔∃ z:Nat,w=(z:Int)/\UpTo (Bw t) x z) /\
  ∀ p:Int->Bool,(q.find? p=none/\∀ z:Nat,UpTo (Bw t) x z->p (z:Int)=false)\/∃ f:Nat,q.find? p=some (f:Int)/\UpTo (Bw t) x f/\p (f:Int)=true/\∀ z:Nat,UpTo (Bw t) x z->p (z:Int)=true->UpTo (Bw t) f z:=by
 intro k
 induction k with
 | zero=>omega
 | succ k ih=>
  intro x hx hp hk
  have hxt:(0:Int)<=(x:Int)/\(x:Int)<(t.length:Int):=by rw[h.len];omega
  unfold upD;rw[if_pos hxt,Ap];have hpx:t.getD x 0=Bw t x:=rfl;rw[hpx];rcases h.inv.kind x hx with h1|rfl|⟨z,hz⟩
  ·exact absurd h1 hp
  ·rw[if_pos h.inv.top];refine⟨_,rfl,λw=>?_,λp=>?_⟩
   ·rw[zzL22]
    constructor
    ·rintro rfl;exact⟨x,rfl,.refl _⟩
    ·rintro⟨z,rfl,hz⟩;rw[h.inv.root_anc.1 hz]
   ·cases hpp:p (x:Int) with
    | false=>exact .inl ⟨by simp[List.find?,hpp],λz hz=>by rw[h.inv.root_anc.1 hz];exact hpp⟩
    | true=>exact .inr ⟨x,by simp[List.find?,hpp],.refl _,hpp,λz hz _=>hz⟩
  ·obtain⟨z1,z2,z3,z4⟩:=h.inv.up x hx z hz;rw[hz,if_neg (by omega)];obtain⟨q,hq1,hq2,hq3⟩:=ih z z1 z2 (by omega);rw[hq1];refine⟨(x:Int)::q,rfl,λw=>?_,λp=>?_⟩
   ·rw[zzL31,hq2 w]
    constructor
    ·rintro(rfl|⟨y,rfl,hy⟩)
     ·exact⟨x,rfl,.refl _⟩
     ·exact⟨y,rfl,.up hz hy⟩
    ·rintro⟨y,rfl,hy⟩;rcases(anc_up hz).1 hy with rfl|hy
     ·exact .inl rfl
     ·exact .inr ⟨y,rfl,hy⟩
   ·cases hpp:p (x:Int) with
    | true=>exact .inr ⟨x,by simp[List.find?,hpp],.refl _,hpp,λy hy _=>hy⟩
    | false=>
     have hf:((x:Int)::q).find? p=q.find? p:=by simp[List.find?,hpp]
     rw[hf];rcases hq3 p with⟨e1,e2⟩|⟨f,e1,e2,e3,e4⟩
     ·refine .inl ⟨e1,λy hy=>?_⟩;rcases(anc_up hz).1 hy with rfl|hy
      ·exact hpp
      ·exact e2 y hy
     ·refine .inr ⟨f,e1,.up hz e2,e3,λy hy hpy=>?_⟩;rcases(anc_up hz).1 hy with rfl|hy
      ·rw[hpp]at hpy;cases hpy
      ·exact e4 y hy hpy
theorem Ordered.pos_lt(o:Ordered S r n P){x:Nat}(hx:x∈r::P):pos (r::P) x<n:=by
 obtain⟨j,hj,rfl⟩:=Nc hx;rw[(RA o.nodup hj).2];have:=U4 n _ o.nodup λy hy=>o.lt hy;omega
theorem DomTree.path(h:DomTree S r n P t)(o:Ordered S r n P){x:Nat}(hx:x<n)(hp:Bw t x≠-2):Ew t (x:Int)≠[]/\(∀ w:Int,w∈Ew t (x:Int)↔∃ z:Nat,w=(z:Int)/\UpTo (Bw t) x z) /\
  ∀ p:Int->Bool,((Ew t (x:Int)).find? p=none/\∀ z:Nat,UpTo (Bw t) x z->p (z:Int)=false)\/∃ f:Nat,(Ew t (x:Int)).find? p=some (f:Int)/\UpTo (Bw t) x f/\p (f:Int)=true/\∀ z:Nat,UpTo (Bw t) x z->p (z:Int)=true->UpTo (Bw t) f z:=by
 have hm:=(o.mem x).2 (h.inv.rc x hx hp);obtain⟨q,h1,h2,h3⟩:=h.up n x hx hp (o.pos_lt hm)
 have e:Ew t x=q:=by unfold Ew;rw[h.len,h1];rfl
 rw[e];refine⟨λe=>?_,h2,h3⟩;have:=(h2 _).2 ⟨x,rfl,.refl _⟩;rw[e]at this
 cases this
theorem DomTree.nopath(h:DomTree S r n P t){x:Nat}(hx:x<n)(hp:Bw t x = -2):Ew t (x:Int)=[]:=by
 rw[pathD_nil]
 cases hl:t.length with
 | zero=>rfl
 | succ k=>
  unfold upD;rw[if_pos ⟨by omega,by rw[h.len];omega⟩,Ap,show t.getD x 0=Bw t x from rfl,hp]
  cases k with
  | zero=>rfl
  | succ k =>   rfl
theorem DomTree.right(h:DomTree S r n P t)(o:Ordered S r n P):Nl t=true:=by
 unfold Nl;rw[A4]
 constructor
 ·refine all_range.2 λx hx=>?_;rw[h.len]at hx;unfold rM
  by_cases hp:Bw t x = -2
  ·rw[show t.getD x 0=Bw t x from rfl,hp];rfl
  ·rw[Db (h.path o hx hp).1];simp
 ·apply Gi
  have key:∀ k,k<=n->topsK t k=if r<k then 1 else 0:=by
   intro k
   induction k with
   | zero=>intro _;rfl
   | succ k ih=>
    intro hk;rw[IJ]
    have hr:t.getD k 0 = -1↔k=r:=by
     constructor
     ·intro he;rcases h.inv.kind k (by omega) with h1|h1|⟨z,hz⟩
      ·rw[show t.getD k 0=Bw t k from rfl]at he;omega
      ·exact h1
      ·rw[show t.getD k 0=Bw t k from rfl]at he;omega
     ·rintro rfl;exact h.inv.top
    by_cases hkr:k=r
    ·grind
    ·grind
  rw[h.len,key n (zzL7 _),if_pos o.hr]
theorem DomTree.meet(h:DomTree S r n P t)(o:Ordered S r n P){a b:Nat}(ha:a<n)(hb:b<n)(hpa:Bw t a≠-2)(hpb:Bw t b≠-2):∃ m:Nat,Si t (a:Int) (b:Int)=(m:Int)/\MeetAt (Bw t) a b m/\m<n/\Bw t m≠-2:=by
 have rd:Ready S r n P t _:=⟨h.inv,h.len,λx hx=>by rw[VB]at hx;exact h.full x (o.lt hx) ((o.mem x).1 hx)⟩;obtain⟨c,hc1,hc2,hc3⟩:=h.inv.meets (rd.inj o) fb _ a b (zzL7 _) ha hb hpa hpb;refine⟨c,?_,hc1,hc2,hc3⟩;unfold Si;rw[if_pos (h.right o)];obtain⟨hca,hcb⟩:=(hc1 c).1 (.refl _)
 have hin:∀ z:Nat,(Ew t _).contains z=true↔UpTo (Bw t) b z:=λz=>by
  rw[zzL63,(h.path o hb hpb).2.1]
  constructor
  ·grind
  ·grind
 rcases(h.path o ha hpa).2.2 λx=>(Ew t b).contains x with⟨_,h2⟩|⟨f,h1,h2,h3,h4⟩
 ·grind
 ·rw[h1];have hfc:=h4 c hca ((hin c).2 hcb);have hcf:=(hc1 f).2 ⟨h2,(hin f).1 h3⟩;rw[h.inv.antisymm hcf hfc hc2 hc3]
  rfl
theorem DomTree.meet_none(h:DomTree S r n P t)(o:Ordered S r n P){a b:Nat}(ha:a<n)(hb:b<n)(hp:Bw t a = -2\/Bw t b = -2):Si t (a:Int) (b:Int) = -2:=by
 unfold Si;rw[if_pos (h.right o)];rcases hp with hp|hp
 ·rw[h.nopath ha hp];rfl
 ·rw[h.nopath hb hp]
  have:(Ew t a).find? (λx=>[].contains x)=none:=List.find?_eq_none.2 λx _=>by simp
  rw[this];rfl
theorem DomTree.over(h:DomTree S r n P t)(o:Ordered S r n P){a b:Nat}(ha:a<n)(hb:b<n):OT t (a:Int) (b:Int)=true↔Bw t b≠-2/\UpTo (Bw t) b a:=by
 unfold OT;rw[A4,zzL45,zzL83]
 by_cases hpa:Bw t a = -2
 ·rw[h.meet_none o ha hb (.inl hpa)]
  constructor
  ·omega
  ·rintro⟨h1,h2⟩;exact absurd hpa (h.inv.anc h2 hb h1).2.1
 ·by_cases hpb:Bw t b = -2
  ·rw[h.meet_none o ha hb (.inr hpb)]
   constructor
   ·omega
   ·grind
  ·obtain⟨m,hm1,hm2,hm3,hm4⟩:=h.meet o ha hb hpa hpb;rw[hm1]
   constructor
   ·rintro⟨h1,_⟩;have h1:=NC h1;subst h1;exact⟨hpb,((hm2 _).1 (.refl _)).2⟩
   ·rintro⟨_,h2⟩;have:=(hm2 a).2 ⟨.refl _,h2⟩;have h3:=((hm2 m).1 (.refl _)).1;rw[h.inv.antisymm h3 this ha hpa];exact⟨rfl,by omega⟩
theorem DomTree.over_dom(h:DomTree S r n P t)(o:Ordered S r n P){a b:Nat}(ha:a<n)(hb:b<n):OT t (a:Int) (b:Int)=true↔Rc S r b/\¬ Av S r a b:=by
 rw[h.over o ha hb]
 constructor
 ·rintro⟨h1,h2⟩;exact⟨h.inv.rc b hb h1,(h.exact_ b hb h1 a).1 h2⟩
 ·rintro⟨h1,h2⟩;have:=h.full b hb h1;exact⟨this,(h.exact_ b hb this a).2 h2⟩
end
section
variable {L:List (List Int)} (hm:Og L=true) {r:Nat} (hr:r<L.length)
include hm hr
theorem n8:∃ P,Ord (sN L) r (r::P)/\Ordered (sN L) r L.length P/\DomTree (sN L) r L.length P (ED L r):=by
 obtain⟨O,hO⟩:=Ord.exist (AQ hm) hr;obtain⟨P,rfl,o⟩:=hO.ordered hr (AQ hm);obtain⟨J,_,hJ⟩:=xY o;have hd:=PB o hJ;refine⟨P,hO,o,?_⟩;rw[<- hd.eq hm hr o];exact hd
end
theorem MD{X:Type}(n:Nat)(p:Nat->Bool)(f:Int->Option (LR Int X))(yes no:X)(hn:∀ i:Nat,i<n->p i=true->f (i:Int)=some (.next ((i:Int)+1)))
  (hf:∀ i:Nat,i<n->p i=false->f (i:Int)=some (.done no)) (he:f (n:Int)=some (.done yes)):Ad f (0:Int)=some (bif (List.range n).all p then yes else no):=by
 have hg:∀ i,i<(List.range n).length->(List.range n).getD i 0=i:=λi hi=>by grind
 have:=Ha (List.range n) 0 p f yes no (λi hi hp=>by grind) (λi hi hp=>by grind) (by simpa using he) n 0 (by simp);rw[show(0:Int)=(0:Nat) from rfl,this,Qs]
theorem yn{n:Nat}{p:Nat->Bool}(h:(List.range n).all p=true):∀ i,i<n->p i=true:=λi hi=>zzL29.1 h i (by simpa using hi)
def Tc(L:List (List Int)):List Bool:=KM (sN L) L.length ((List.replicate L.length false).set 0 true) L.length
def J5(l:List Int)(p:A1):Bool:=decide (p.From=l)&&((p.Args.length:Int)==(l.length:Int))
def Mq(L:List (List Int))(b:Ab)(i:Nat):Bool:=(Tc L).getD i false&&!((b.End.Kind==1 || b.End.Kind==3)&&(b.End.Arg !=0))&&b.Phis.all (J5 ((Cg L).getD i []))
def Fq(f:TFunc):Bool:=Sb f&&(List.range f.Blocks.length).all λi=>Mq (Bu f) (f.Blocks.getD i default) i
theorem Pu(f:TFunc):(Bu f).length=f.Blocks.length:=by simp[Bu]
theorem fe(L:List (List Int)):(Tc L).length=L.length:=by rw[Tc,Zo];simp
theorem vA{a b c d:Bool}{x:Option (LR Int (Unit ⊕ Bool))}:(bif (bif (!a) then true else(bif (bif b then true else c) then d else false)) then some (LR.done (Sum.inr false)) else x)=bif (a&&!((b || c)&&d)) then x else some (LR.done (Sum.inr false)):=by
 grind
theorem vo{f:TFunc}(hf:OkF f):Kl f=some (Fq f):=by
 have hmax:f.Blocks.length<=maxLen:=by
  have:=hf.blocks;have:(64:Nat)<=maxLen:=by decide
  omega
 unfold Kl Fq;rw[SR f hmax,Ak]
 cases hs:Sb f with
 | false=>rfl
 | true=>
  have hm:=R9 hs;have hlen:=Pu f;obtain⟨h1,h2⟩:=U3 hm
  have hpos:0<(Bu f).length:=by have:=(shape_iff.1 hs).1.1;omega
  simp only[Af,Hn];have hr:=vm hm hpos;rw[show(((0:Nat):Int))=0 from rfl]at hr;rw[hr,Ak]
  show((Ad (E9 f (Kp (Bu f),0) (Tc (Bu f))) 0).bind _)=_
  have hphi:∀ i,i<f.Blocks.length->Ad _ (0:Int)=some _:=λi hi=>by
   have hmem:=Ah (d:=(default:Ab)) hi;have hB:=hf.block _ hmem
   have hpl:(Kp (Bu f)).Pred.length=f.Blocks.length:=by rw[<- hlen];exact Qe _
   have hpi:As (i:Int) (Kp (Bu f)).Pred.length:=Ag (by omega)
   have key:∀ j,j<(f.Blocks.getD i default).Phis.length->E8 f (Kp (Bu f),0) (i:Int) (j:Int)=some (bif J5 ((Cg (Bu f)).getD i []) _ then .next ((j:Int)+1) else .done (.inr false)):=λj hj=>by
    have hp:=TF hf hmem (Ah (d:=(default:A1)) hj);unfold E8
    have hd:decide ((j:Int)<((f.Blocks.getD i default).Phis.length:Int))=true:=by simpa using hj
    have hi1:=ir ((f.Blocks.getD i default).Phis.getD j default).From ((Kp (Bu f)).Pred.getD i []) (by omega);simp only[Cr,hd,Af,Aa (Ag hj),Aa hpi,hi1,Ak];rw[Aa (λ_=>Ag hj),Aa (λ_=>hpi),A3 hj (by have:=hB.phis;omega)];unfold J5
    show(bif (bif (!decide (((f.Blocks.getD i default).Phis.getD j default).From=(Cg (Bu f)).getD i [])) then true else((((f.Blocks.getD i default).Phis.getD j default).Args.length:Int)!=(((Cg (Bu f)).getD i []).length:Int))) then _ else _)=_
    cases decide (((f.Blocks.getD i default).Phis.getD j default).From=(Cg (Bu f)).getD i []) with
    | false=>rfl
    | true=>
     grind
   have:=Ha (f.Blocks.getD i default).Phis (default:A1) (J5 ((Cg (Bu f)).getD i [])) (E8 f (Kp (Bu f),0) (i:Int)) (.inl ()) (.inr false) (λj hj hp=>by rw[key j hj,hp];rfl) (λj hj hp=>by rw[key j hj,hp];rfl) (by unfold E8;simp) (f.Blocks.getD i default).Phis.length 0 (by omega);rw[Qs]at this;exact this
  have hrl:=fe (Bu f)
  have key:∀ i,i<f.Blocks.length->E9 f (Kp (Bu f),0) (Tc (Bu f)) (i:Int)=some (bif Mq (Bu f) (f.Blocks.getD i default) i then .next ((i:Int)+1) else .done (.inr false)):=λi hi=>by
   unfold E9
   have hd:decide ((i:Int)<(f.Blocks.length:Int))=true:=by simpa using hi
   simp only[hd,Af,Aa (Ag hi),Aa (Ag (show i<(Tc (Bu f)).length by omega)),Cr,vA,hphi i hi,Ak,A3 hi (by have:=hf.blocks;omega)];unfold Mq
   cases((Tc (Bu f)).getD i false&&!(((f.Blocks.getD i default).End.Kind==1 || (f.Blocks.getD i default).End.Kind==3)&&((f.Blocks.getD i default).End.Arg !=0))) with
   | false=>rfl
   | true=>grind
  rw[MD f.Blocks.length (λi=>Mq (Bu f) (f.Blocks.getD i default) i) _ (.inl ()) (.inr false) (λi hi hp=>by rw[key i hi,hp];rfl) (λi hi hp=>by rw[key i hi,hp];rfl) (by unfold E9;simp)]
  cases(List.range f.Blocks.length).all _<;>rfl
theorem am{f:TFunc}(h:Fq f=true):lY f:=λb hb p hp=>by
 simp only[Fq,A4]at h;obtain⟨i,hi,rfl⟩:=Nc hb;have h1:=yn h.2 i hi;rw[Ao _ _ _ hi]at h1;simp only[Mq,A4]at h1;have h2:=zzL29.1 h1.2 p hp;simp only[J5,A4,Jd,zzL45]at h2;rw[h2.1];omega
def Vg(l:List Ch)(i:Nat):Bool:=valS (l.getD i default).V&&(N6 l (l.getD i default).V==(i:Int))
def Oz(l:List Ch)(u:Dd):Bool:=!decide (N6 l u.V<0)
def defOf(l:List Ch)(v:Int):Ch:=l.getD (N6 l v).toNat default
def GV(l:List Ch)(u:Dd):Bool:=((defOf l u.V).Shape.1==u.Shape.1)&&(((defOf l u.V).Shape.2==u.Shape.2)&&true)
def GU(l:List Ch)(t:List Int)(u:Dd):Bool:=
 (decide ((defOf l u.V).Block<0) || ((defOf l u.V).Block==u.Block&&decide ((defOf l u.V).At<u.At))) || (!((defOf l u.V).Block==u.Block)&&!(Si t (defOf l u.V).Block u.Block !=(defOf l u.V).Block))
def Ex(f:TFunc):List Int:=UL (Kp (Bu f)) 0
def UR(f:TFunc)(l:Int):Int:=
 bif !Fq f then 5 else bif !Vw f l then 6 else bif !(List.range (Bf f).length).all (Vg (Bf f)) then 7 else bif !(B9 f).all (Oz (Bf f)) then 7 else
 bif !(B9 f).all (GV (Bf f)) then 6 else bif !(B9 f).all (GU (Bf f) (Ex f)) then 7 else 0
def G5(f:TFunc)(l:Int):Int:=bif decide (l<0) || decide (2<l) then 1 else bif !Qx f then 4 else UR f l
theorem eP{l:List Ch}{v:Int}(h:¬ N6 l v<0):As (N6 l v) l.length:=by
 unfold N6 at h ⊢
 cases hx:l.findIdx? _ with
 | none=>grind
 | some i=>
  obtain⟨hi,_⟩:=List.findIdx?_eq_some_iff_getElem.1 hx;exact Ag hi
theorem fx{f:TFunc}(h:Sb f=true):(Ex f).length<=1000:=by
 have h1:=(U3 (R9 h)).1;unfold Ex UL
 split
 ·rw[ap];show(Bu f).length<=1000;omega
 ·simp
theorem vS(a b c:Bool)(m q x:Int):(Option.bind (α:=Unit ⊕ Int) (bif (bif a then true else(bif b then c else false)) then some (.inl ()) else((bif (b==false) then some m else some 0).bind λx31=>(bif (bif b then true else(x31 !=q)) then some (.inr 7) else some (.inl ())))) (λx32=>match x32 with | .inl _=>some (LR.next x) | .inr r34=>some (.done (.inr r34)))) =
  (some (bif (a || (b&&c)) || (!b&&!(m !=q)) then .next x else .done (.inr 7)):Option (LR Int (Unit ⊕ Int))):=by
 grind
theorem vq{f:TFunc}(hf:OkF f)(l:Int)(hm:G1 f=some (Qx f)):Dw f l=some (G5 f l):=by
 unfold Dw G5;rw[show(bif decide (l<(0:Int)) then true else decide ((2:Int)<l))=(decide (l<0) || decide (2<l)) by cases decide (l<(0:Int))<;>rfl]
 cases(decide (l<0) || decide (2<l)) with
 | true=>rfl
 | false=>
 simp only[Ar,hm,Ak]
 cases Qx f with
 | false=>rfl
 | true=>
 simp only[C0,Ar,vo hf,Ak,UR]
 cases hs:Fq f with
 | false=>rfl
 | true=>
 simp only[C0,Ar,vp hf,Ak]
 cases ht:Vw f l with
 | false=>rfl
 | true=>
 simp only[C0,Ar,zP hf,Ak];have hdl:=nB hf;have hul:=MW hf
 have hL1:Ad (S:=Int) (X:=(Unit ⊕ Int)) (E7 (Bf f)) (0:Int)=some (bif (List.range (Bf f).length).all (Vg (Bf f)) then .inl () else .inr 7):=by
  have key:∀ i,i<(Bf f).length->E7 (Bf f) (i:Int)=some (bif Vg (Bf f) i then .next ((i:Int)+1) else .done (.inr 7)):=λi hi=>by
   unfold E7 Vg
   have hd:decide ((i:Int)<((Bf f).length:Int))=true:=by simpa using hi
   simp only[hd,Af,Aa (Ag hi),Cr,FT,Ak,Aa (λ_=>Ag hi),bu (Bf f) _ (by omega),A3 hi (by omega)]
   cases valS ((Bf f).getD i default).V with
   | false=>rfl
   | true=>
    grind
  exact MD _ _ _ _ _ (λi hi hp=>by rw[key i hi,hp];rfl) (λi hi hp=>by rw[key i hi,hp];rfl) (by unfold E7;simp)
 rw[hL1,Ak]
 cases(List.range (Bf f).length).all (Vg (Bf f)) with
 | false=>rfl
 | true=>
 simp only[Af,C0,Ar,zT hf (am hs),Ak]
 have hL2:Ad (S:=Int) (X:=(Unit ⊕ Int)) (Dp (Bf f) (B9 f)) (0:Int)=some (bif (B9 f).all (Oz (Bf f)) then .inl () else .inr 7):=by
  have key:∀ i,i<(B9 f).length->Dp (Bf f) (B9 f) (i:Int)=some (bif Oz (Bf f) ((B9 f).getD i default) then .next ((i:Int)+1) else .done (.inr 7)):=λi hi=>by
   unfold Dp Oz
   have hd:decide ((i:Int)<((B9 f).length:Int))=true:=by simpa using hi
   simp only[hd,Af,Aa (Ag hi),Cr,bu (Bf f) _ (by omega),Ak,A3 hi (by omega)]
   cases decide (N6 (Bf f) ((B9 f).getD i default).V<0)<;>rfl
  have:=Ha (B9 f) default (Oz (Bf f)) (Dp (Bf f) (B9 f)) (.inl ()) (.inr 7) (λi hi hp=>by rw[key i hi,hp];rfl) (λi hi hp=>by rw[key i hi,hp];rfl) (by unfold Dp;simp) (B9 f).length 0 (by omega);rw[Qs]at this;exact this
 rw[hL2,Ak]
 cases hF:(B9 f).all (Oz (Bf f)) with
 | false=>rfl
 | true=>
 have hfound:∀ i,i<(B9 f).length->As (N6 (Bf f) ((B9 f).getD i default).V) (Bf f).length:=λi hi=>by
  have:=zzL29.1 hF _ (Ah (d:=(default:Dd)) hi);simp only[Oz,Qr,UX]at this;exact eP this
 simp only[Af,C0,Ar]
 have hL3:Ad (S:=Int) (X:=(Unit ⊕ Int)) (Dq (Bf f) (B9 f)) (0:Int)=some (bif (B9 f).all (GV (Bf f)) then .inl () else .inr 6):=by
  have key:∀ i,i<(B9 f).length->Dq (Bf f) (B9 f) (i:Int)=some (bif GV (Bf f) ((B9 f).getD i default) then .next ((i:Int)+1) else .done (.inr 6)):=λi hi=>by
   unfold Dq GV defOf
   have hd:decide ((i:Int)<((B9 f).length:Int))=true:=by simpa using hi
   simp only[hd,Af,Aa (Ag hi),Cr,bu (Bf f) _ (by omega),Ak,Aa (hfound i hi),A3 hi (by omega)]
   cases((((Bf f).getD (N6 (Bf f) ((B9 f).getD i default).V).toNat default).Shape.1==((B9 f).getD i default).Shape.1)&&((((Bf f).getD (N6 (Bf f) ((B9 f).getD i default).V).toNat default).Shape.2==((B9 f).getD i default).Shape.2)&&true))<;>rfl
  have:=Ha (B9 f) default (GV (Bf f)) (Dq (Bf f) (B9 f)) (.inl ()) (.inr 6) (λi hi hp=>by rw[key i hi,hp];rfl) (λi hi hp=>by rw[key i hi,hp];rfl) (by unfold Dq;simp) (B9 f).length 0 (by omega);rw[Qs]at this;exact this
 rw[hL3,Ak]
 cases(B9 f).all (GV (Bf f)) with
 | false=>rfl
 | true=>
 have hsB:Sb f=true:=by simp only[Fq,A4]at hs;exact hs.1
 have hmax:f.Blocks.length<=maxLen:=by
  have:=hf.blocks;have:(64:Nat)<=maxLen:=by decide
  omega
 simp only[Af,C0,Ar,SR f hmax,hsB,Ak];rw[iv _ (JU (R9 hsB)).1 0,Ak];have htl:=fx hsB
 have hL4:Ad (S:=Int) (X:=(Unit ⊕ Int)) (Cw (Bf f) (B9 f) (Ex f)) (0:Int)=some (bif (B9 f).all (GU (Bf f) (Ex f)) then .inl () else .inr 7):=by
  have key:∀ i,i<(B9 f).length->Cw (Bf f) (B9 f) (Ex f) (i:Int)=some (bif GU (Bf f) (Ex f) ((B9 f).getD i default) then .next ((i:Int)+1) else .done (.inr 7)):=λi hi=>by
   unfold Cw GU defOf
   have hd:decide ((i:Int)<((B9 f).length:Int))=true:=by simpa using hi
   simp only[hd,Af,Aa (Ag hi),Cr,bu (Bf f) _ (by omega),Ak,Aa (hfound i hi),A3 hi (by omega),zR (Ex f) htl];exact vS _ _ _ _ _ _
  have:=Ha (B9 f) default (GU (Bf f) (Ex f)) (Cw (Bf f) (B9 f) (Ex f)) (.inl ()) (.inr 7) (λi hi hp=>by rw[key i hi,hp];rfl) (λi hi hp=>by rw[key i hi,hp];rfl) (by unfold Cw;simp) (B9 f).length 0 (by omega);rw[Qs]at this;exact this
 show((Ad (Cw (Bf f) (B9 f) (Ex f)) 0).bind _)=_
 rw[hL4,Ak]
 cases(B9 f).all (GU (Bf f) (Ex f))<;>rfl
theorem ZO{α S:Type}(l:List α)(d:α)(g:S->α->S)(f:S×Int->Option (LR (S×Int) S))(hn:∀(s:S) (i:Nat),i<l.length->f (s,(i:Int))=some (.next (g s (l.getD i d),(i:Int)+1)))
  (hd:∀ s:S,f (s,(l.length:Int))=some (.done s)):∀(k i:Nat) (s:S),i+k=l.length->Ad f (s,(i:Int))=some ((l.drop i).foldl g s)
 | 0,i,s,h=>by
  obtain rfl:i=l.length:=by omega
  rw[Am (hd s)]
  simp
 | k+1,i,s,h=>by
  have hi:i<l.length:=by omega
  have hdr:l.drop i=l.getD i d::l.drop (i+1):=by simp_all
  rw[Aq (hn s i hi),show(i+1)=((i+1:Nat):Int) by omega,ZO l d g f hn hd k _ _ (by omega),hdr,Yf]
theorem Su{α S:Type}(l:List α)(d:α)(g:S->α->S)(f:S×Int->Option (LR (S×Int) S))(hn:∀(s:S) (i:Nat),i<l.length->f (s,(i:Int))=some (.next (g s (l.getD i d),(i:Int)+1)))
  (hd:∀ s:S,f (s,(l.length:Int))=some (.done s)) (s:S):Ad f (s,(0:Int))=some (l.foldl g s):=by
 have:=ZO l d g f hn hd l.length 0 s (by omega);exact this
def grow(n d:Int):Int:=bif decide (n<d) then d else n
def Qh(f:TFunc):Int:=f.Blocks.foldl (λn b=>b.Ops.foldl (λn o=>grow n o.Dst) (b.Phis.foldl (λn p=>grow n p.Dst) n)) (f.Params.length:Int)
theorem MX{i n:Nat}(h:i<n)(hn:n<=maxLen):w64 ((i:Int)+1)=(i:Int)+1:=A3 h (by rw[Qk]at hn;omega)
theorem zQ{f:TFunc}(hf:NT f):Lo f=some (Qh f):=by
 have h1:∀(i:Nat),i<f.Blocks.length->∀ n ,Ad (Iz f i) _=some ((f.Blocks.getD i _).Phis.foldl (λn p=>grow n _) n):=λi hi n=>by
  have hB:=hf.block _ (Ah (d:=default) hi);refine Su _ default _ _ (λs j hj=>?_) (λs=>?_) n
  ·unfold Iz grow
   have hd:decide (j<((f.Blocks.getD i default).Phis.length:Int))=true:=by simpa using hj
   simp only[Aa (Ag hi),Cr,hd, Aa (Ag hj),MX hj hB.1]
   cases decide (s<((f.Blocks.getD i _).Phis.getD j _).Dst)<;>rfl
  ·unfold Iz;simp[Aa (Ag hi)]
 have h2:∀(i:Nat),i<f.Blocks.length->∀ n ,Ad (I4 f i) _=some ((f.Blocks.getD i _).Ops.foldl (λn p=>grow n _) n):=λi hi n=>by
  have hB:=hf.block _ (Ah (d:=default) hi);refine Su _ default _ _ (λs j hj=>?_) (λs=>?_) n
  ·unfold I4 grow
   have hd:decide (j<((f.Blocks.getD i default).Ops.length:Int))=true:=by simpa using hj
   simp only[Aa (Ag hi),Cr,hd, Aa (Ag hj),MX hj hB.2.1]
   cases decide (s<((f.Blocks.getD i _).Ops.getD j _).Dst)<;>rfl
  ·unfold I4;simp[Aa (Ag hi)]
 unfold Lo Qh
 rw[Su f.Blocks default (λn b=>b.Ops.foldl (λn o=>grow n o.Dst) (b.Phis.foldl (λn p=>grow n p.Dst) n)) _ (λs i hi=>by
  unfold Mc
  have hd:decide (i<(f.Blocks.length:Int))=true:=by simpa using hi
  simp only[hd,Af,h1 i hi,h2 i hi,Ak,MX hi hf.blocks]) (λs=>by unfold Mc;simp)]
 rfl
def Sm(f:TFunc):Prop:=NT f/\C1 f=some true
theorem sH{f:TFunc}(h:Sm f)(hm:Qx f=true):OkF f:=by
 obtain⟨sm,h1,h2⟩:=PA f h.1;rw[h.2]at h1;exact(h2 (OI h1).symm hm).1
theorem nU{f:TFunc}(hf:NT f):∃ b,E4 f=some b/\(b=true->Sm f):=by
 obtain⟨x,hx⟩:∃ x,Ad _ ((0:Int),(0:Int))=some x:=by
  refine Va f.Blocks.length (Cc f) (λn i hi=>.inl ?_) (λn=>?_) f.Blocks.length 0 0 (by omega)
  ·unfold Cc
   have hd:decide (i<(f.Blocks.length:Int))=true:=by simpa using hi
   simp only[hd, Aa (Ag hi),J7 hi hf.blocks];exact⟨_,rfl⟩
  ·unfold Cc;exact⟨n,by simp⟩
 obtain⟨sm,h1⟩:=UI f hf;unfold E4;rw[hx, h1];refine⟨_,rfl,λhb=>⟨hf,?_⟩⟩
 cases sm with
 | true=>exact h1
 | false=>cases hb
theorem OK{f:TFunc}(h:Sm f)(l:Int):Dw f l=some (G5 f l):=by
 have hm:=lc f h.1
 cases hb:Qx f with
 | true=>exact vq (sH h hb) l hm
 | false=>
  unfold Dw G5;rw[show(bif decide _ then true else decide _)=(decide (l<0) || decide (2<l)) by grind]
  cases(decide (l<0) || decide (2<l)) with
  | true=>rfl
  | false=>grind
structure Abt(f:TFunc)(s:List (Int×(Int×Int))):Prop where
 none:G5 f 2≠0->s.length=0
 len:G5 f 2=0->s.length=(Bf f).length
 get:G5 f 2=0->∀ d∈Bf f,Mw ((0:Int),(0:Int)) s d.V=d.Shape
 has:G5 f 2=0->∀ v,Ks s v=true->∃ d∈Bf f,d.V=v
theorem Acv{f:TFunc}(hf:NT f)(h0:f.Params.length<=64)(hb:∀ b∈f.Blocks,b.End.To.length<=64/\(∀ p∈b.Phis,p.From.length<=64/\p.Args.length<=64)/\∀ o∈b.Ops,o.Args.length<=64)(he:iU f<=20000):Sm f:=
 ⟨hf,by rw[ft f hf h0 hb,Gi he]⟩
def xX(f:TFunc):Int:=
 bif !(List.range (Bf f).length).all (Vg (Bf f)) then 7 else bif !(B9 f).all (Oz (Bf f)) then 7 else
 bif !(B9 f).all (GV (Bf f)) then 6 else bif !(B9 f).all (GU (Bf f) (Ex f)) then 7 else 0
theorem N4{f:TFunc}{l:Int}(h0:0<=l)(h2:l<=2):G5 f l=0↔Qx f=true/\Fq f=true/\Vw f l=true/\xX f=0:=by
 unfold G5 UR;rw[Db (show ¬ l<0 by omega),Db (show ¬ 2<l by omega)]
 have e:(bif !(List.range _).all _ then 7 else bif !(B9 f).all _ then 7 else
  bif !(B9 f).all _ then 6 else bif !(B9 f).all _ then 7 else 0)=xX f:=rfl
 rw[e]
 cases Qx f<;>cases Fq f<;>cases Vw f l<;>simp
theorem qo{o:Ay}(h:Ih o=true):1<=o.Lanes:=by
 simp only[Ih,A4]at h;have:=shape_lanes h.1.1;omega
theorem fV{l m:Int}(hm:KA l=m)(o:Ay):R6 l o=true↔Ih o=true/\o.Kind<=m/\(l<2->o.Lanes<=1):=by
 unfold R6
 by_cases a:m<o.Kind<;>by_cases b:l<2<;>by_cases c:1<o.Lanes<;>cases Ih o<;>simp[ b]<;>omega
theorem wa{α:Type}(l:List α)(g:α->Nat):(l.map λa=>g a+1).sum=l.length+(l.map g).sum:=by
 induction l with
 | nil=>rfl
 | cons a l ih=>grind
theorem sS(a b:Int):w64 (a+w64 b)=w64 (a+b):=by rw[Int.add_comm,Ws,Int.add_comm]
theorem Acz(f:TFunc)(hf:NT f):Wi f=some (sizeW f):=by
 have hl:=FO f.Blocks default (λb=>b.Phis.length+b.Ops.length) id (Rl f) (λn i hi=>?_) (λn=>?_) _ 0 f.Blocks.length (Ie _)
 ·unfold Wi;rw[KY (by have:=hf.blocks;rw[Qk]at this;omega),show((0:Nat):Int)=0 from rfl]at hl;rw[hl,  sizeW,Sn,show Vt=(λb=>(b.Phis.length+b.Ops.length)+1) from rfl,wa]
  rfl
 ·have e1:decide (i<(f.Blocks.length:Int))=true:=Gi (by omega);unfold Rl;simp only[e1,Af,Aa (Ag hi),Cr,J7 hi hf.blocks,sS,Ws];rw[show n+((f.Blocks.getD i default).Phis.length+(f.Blocks.getD i default).Ops.length)=((n+((f.Blocks.getD i default).Phis.length+(f.Blocks.getD i default).Ops.length):Nat):Int) by omega]
 ·have e1:decide (f.Blocks.length<(f.Blocks.length:Int))=false:=by simp
  unfold Rl;simp only[e1,Ar,id]
theorem JK{α:Type}(l:List α)(d:α)(p:α->Bool)(f:Int->Option (LR Int (Unit ⊕ Bool)))(hn:∀ i:Nat,i<l.length->f i=bif p (l.getD i d) then some (.next ((i:Int)+1)) else some (.done (.inr false)))
  (he:f l.length=some (.done (.inl ()))):Ad f 0=some (bif l.all p then .inl () else .inr false):=by
 have:=Ha l d p f _ _ (λi hi hp=>by rw[hn i hi,hp];rfl) (λi hi hp=>by rw[hn i hi,hp];rfl) he _ 0 (Ie _)
 simpa using this
theorem nb(x:Int):(bif decide (x<0) then true else decide (2147483647<x)) = !numB x:=by
 unfold numB
 by_cases h1:x<0
 ·grind
 ·grind
theorem aw(l:List Int)(h:l.length<=maxLen):D0 l=some (l.all numB):=by
 have hl:=JK l 0 numB (K4 l) (λi hi=>?_) ?_
 ·unfold D0;rw[hl]
  cases l.all _<;>rfl
 ·have e1:decide ((i:Int)<l.length)=true:=Gi (by omega);unfold K4;simp only[e1, Aa (Ag hi),Cr,nb,J7 hi h]
  cases numB _<;>simp
 ·unfold K4
  simp
theorem GA(l:List Int)(h:l.length<=maxLen):I8 l=some (listB l):=by
 unfold I8;rw[aw l h]
 by_cases h1:l.length<=64
 ·have e1:decide ((l.length:Int)<=64)=true:=Gi (by omega);rw[e1];simp[listB,h1]
 ·have e1:decide ((l.length:Int)<=64)=false:=Db (by omega);rw[e1];simp[listB,h1]
theorem FW{l:List Int}(h:l.length<=10):l.length<=maxLen:=by rw[Qk];omega
theorem sZ(p:A1)(h1:p.From.length<=maxLen)(h2:p.Args.length<=maxLen):Rn p=some (IE p):=by
 unfold Rn IE;rw[aw _ (FW (by simp)),GA _ h1,GA _ h2];simp only[HF,List.all_nil,EL]
 cases numB p.Bits<;>cases numB p.Dst<;>cases listB p.From<;>cases listB p.Args<;>rfl
theorem wk(o:Ay)(h1:o.Args.length<=maxLen):Tb o=some (gX o):=by
 unfold Tb gX;rw[aw _ (FW (by simp)),GA _ h1];simp only[HF,List.all_nil,EL]
 cases numB o.Kind<;>cases numB o.Bits<;>cases numB o.Lanes<;>cases numB o.Dst<;>cases listB o.Args<;>rfl
theorem sX(e:H7)(h1:e.To.length<=maxLen):Rm e=some (iT e):=by
 unfold Rm iT;rw[aw _ (FW (by simp)),GA _ h1];simp only[HF,List.all_nil,EL]
 cases numB e.Kind<;>cases numB e.Arg<;>cases listB e.To<;>rfl
theorem SZ{X:Type}(b:Bool)(x y:X):(bif !b then x else y)=bif b then y else x:=by cases b<;>rfl
theorem oB(l:List A1)(hl:l.length<=maxLen)(h:∀ p∈l,p.From.length<=maxLen/\p.Args.length<=maxLen):Ki l=some (l.all IE):=by
 have hl':=JK l (default:A1) IE (Hz l) (λi hi=>?_) ?_
 ·unfold Ki;rw[hl']
  cases l.all IE<;>rfl
 ·have e1:decide ((i:Int)<(l.length:Int))=true:=Gi (by omega);have:=h _ (Ah (d:=(default:A1)) hi);unfold Hz;simp only[e1,Af,Aa (Ag hi),Cr,sZ _ this.1 this.2,Ak,SZ,J7 hi hl,Int.natCast_add,Int.natCast_one]
 ·unfold Hz
  simp
theorem sY(l:List Ay)(hl:l.length<=maxLen)(h:∀ o∈l,o.Args.length<=maxLen):K3 l=some (l.all gX):=by
 have hl':=JK l (default:Ay) gX (Ip l) (λi hi=>?_) ?_
 ·unfold K3;rw[hl']
  cases l.all gX<;>rfl
 ·have e1:decide ((i:Int)<(l.length:Int))=true:=Gi (by omega);have:=h _ (Ah (d:=(default:Ay)) hi);unfold Ip;simp only[e1,Af,Aa (Ag hi),Cr,wk _ this,Ak,SZ,J7 hi hl,Int.natCast_add,Int.natCast_one]
 ·unfold Ip
  simp
theorem ja(b:Ab)(h1:b.Phis.length<=maxLen)(h2:b.Ops.length<=maxLen)(h3:b.End.To.length<=maxLen)(h4:∀ p∈b.Phis,p.From.length<=maxLen/\p.Args.length<=maxLen)(h5:∀ o∈b.Ops,o.Args.length<=maxLen):Oq b=some (blockB b):=by
 unfold Oq blockB;rw[oB _ h1 h4,sY _ h2 h5,sX _ h3]
 cases b.Phis.all IE<;>cases b.Ops.all gX<;>cases iT b.End<;>rfl
theorem f6(f:TFunc)(hf:NT f):Io f.Blocks=some (f.Blocks.all blockB):=by
 have hl':=JK f.Blocks (default:Ab) blockB (Gq f.Blocks) (λi hi=>?_) ?_
 ·unfold Io;rw[hl']
  cases f.Blocks.all blockB<;>rfl
 ·have e1:decide ((i:Int)<(f.Blocks.length:Int))=true:=Gi (by omega);have hm:=Ah (d:=(default:Ab)) hi;have q:=hf.block _ hm;unfold Gq;simp only[e1,Af,Aa (Ag hi),Cr,ja _ q.1 q.2.1 q.2.2 (hf.phi _ hm) (λo ho=>(hf.op _ hm o ho).1),Ak,SZ,J7 hi hf.blocks,Int.natCast_add,Int.natCast_one]
 ·unfold Gq
  simp
theorem Acy(f:TFunc)(hf:NT f):Vc f=some (Qx f):=by
 unfold Vc Qx;rw[Acz f hf,aw _ hf.params,aw _ (FW (by simp)),f6 f hf];simp only[HF,List.all_nil,EL,listB]
 have d1:∀ n:Nat,decide ((n:Int)<1) = !decide (1<=n):=λn=>by by_cases h:1<=n<;>simp[h]<;>omega
 have d2:∀ n:Nat,decide ((64:Int)<(n:Int)) = !decide (n<=64):=λn=>by by_cases h:n<=64<;>simp[h]<;>omega
 have d3:∀ n:Nat,decide ((16:Int)<(n:Int)) = !decide (n<=16):=λn=>by by_cases h:n<=16<;>simp[h]<;>omega
 have d4:∀ n:Int,decide ((512:Int)<n) = !decide (n<=512):=λn=>by by_cases h:n<=512<;>simp[h]<;>omega
 simp only[d1,d2,d3,d4]
 have himp:decide (f.Params.length<=16)=true->decide (f.Params.length<=64)=true:=λh=>by simp at h ⊢;omega
 revert himp
 generalize decide (1<=f.Blocks.length)=c1
 generalize decide (f.Blocks.length<=64)=c2
 generalize decide (f.Params.length<=16)=c3
 generalize decide (f.Params.length<=64)=c4
 generalize f.Params.all numB=c6
 generalize numB f.Ret=c7
 generalize f.Blocks.all blockB=c8
 cases c3 with
 | true=>
  intro h;obtain rfl:=h rfl;simp only[C0,Wv,Af,Ak,Ar]
  generalize decide (sizeW f<=512)=c5
  cases c1<;>cases c2<;>cases c6<;>cases c7<;>cases c8<;>cases c5<;>rfl
 | false=>
  intro _
  cases c1<;>cases c2<;>rfl
inductive Tp (t:List Int):Nat->Nat->Nat->Prop
 | top {x:Nat} (hx:x<t.length) (h:t.getD x 0 = -1):Tp t x x 0
 | up {x y r k:Nat} (hx:x<t.length) (h:t.getD x 0=(y:Int)) (hk:Tp t y r k):Tp t x r (k+1)
section
variable {t:List Int}
theorem Tp.lt{x r k:Nat}(h:Tp t x r k):x<t.length:=by cases h<;>assumption
theorem Tp.tops{x r k:Nat}(h:Tp t x r k):r<t.length/\t.getD r 0 = -1:=by
 induction h with
 | top hx h=>exact⟨hx,h⟩
 | up _ _ _ ih=>exact ih
theorem Tp.det{x r k r' k':Nat}(h:Tp t x r k)(h':Tp t x r' k'):r=r'/\k=k':=by
 induction h generalizing k' with
 | top hx h=>cases h' with
  | top=>exact⟨rfl,rfl⟩
  | up _ h2 _=>omega
 | up hx h1 _ ih=>cases h' with
  | top _ h2=>omega
  | up _ h2 k2=>
   grind
theorem Tp.upTo{x r k:Nat}(h:Tp t x r k):UpTo (Bw t) x r:=by
 induction h with
 | top=>exact .refl _
 | up _ h _ ih=>exact .up h ih
theorem Tp.on{x r k z:Nat}(h:Tp t x r k)(hz:UpTo (Bw t) x z):∃ j,j<=k/\Tp t z r j/\(j=k->z=x):=by
 induction hz generalizing k with
 | refl x=>grind
 | up hp _ ih=>
  cases h with
  | top _ h2=>have :=hp.symm.trans h2;omega
  | up _ h2 k2=>
   have :=hp.symm.trans h2
   cases NC this
   obtain⟨j,h1,h3,_⟩:=ih k2;exact⟨j,by omega,h3,λe=>by omega⟩
theorem Tp.anti{x r k z:Nat}(h:Tp t x r k)(h1:UpTo (Bw t) x z)(h2:UpTo (Bw t) z x):z=x:=by
 obtain⟨j,j1,j2,j3⟩:=h.on h1;obtain⟨i,i1,i2,i3⟩:=j2.on h2;have:=h.det i2;exact j3 (by omega)
theorem Tp.list{x r k:Nat}(h:Tp t x r k):∃ l:List Nat,l.length=k+1/\l.Nodup/\∀ y∈l,y<t.length/\∃ j,j<=k/\Tp t y r j:=by
 induction h with
 | top hx h=>exact⟨[_],rfl,by simp,λy hy=>by rw[zzL22.1 hy];exact⟨hx,0,zzL7 _,.top hx h⟩⟩
 | @up x y r k hx h hk ih=>
  obtain⟨l,h1,h2,h3⟩:=ih;refine⟨x::l,by simp[h1],zzL117.2 ⟨λhm=>?_,h2⟩,λz hz=>?_⟩
  ·obtain⟨_,j,hj,hj2⟩:=h3 _ hm;have:=(Tp.up hx h hk).det hj2;omega
  ·rcases zzL31.1 hz with rfl|hz
   ·exact⟨hx,k+1,zzL7 _,.up hx h hk⟩
   ·grind
theorem Tp.short{x r k:Nat}(h:Tp t x r k):k<t.length:=by
 obtain⟨l,h1,h2,h3⟩:=h.list;have:=U4 _ l h2 λy hy=>(h3 y hy).1;omega
theorem Tp.upD{x r k:Nat}(h:Tp t x r k):∀ m,k<m->∃ q,upD t m (x:Int)=some q/\(∀ w:Int,w∈q↔∃ z:Nat,w=(z:Int)/\UpTo (Bw t) x z) /\
  ∀ p:Int->Bool,(q.find? p=none/\∀ z:Nat,UpTo (Bw t) x z->p (z:Int)=false)\/∃ f:Nat,q.find? p=some (f:Int)/\UpTo (Bw t) x f/\p (f:Int)=true/\∀ z:Nat,UpTo (Bw t) x z->p (z:Int)=true->UpTo (Bw t) f z:=by
 induction h with
 | @top x hx h=>
  intro m hm;obtain⟨m,rfl⟩:∃ i,m=i+1:=⟨m-1,by omega⟩
  have htop:∀ z,UpTo (Bw t) x z↔z=x:=λz=>QO λp hp=>by have:_=_:=hp.symm.trans h;omega
  unfold Go.Proofs.YtlnbjgmjaioagaaGreat.upD;rw[if_pos ⟨by omega,by omega⟩,Ap,if_pos h];refine⟨_,rfl,λw=>?_,λp=>?_⟩
  ·grind
  ·grind
 | @up x y r k hx h hk ih=>
  intro m hm;obtain⟨m,rfl⟩:∃ i,m=i+1:=⟨m-1,by omega⟩;unfold Go.Proofs.YtlnbjgmjaioagaaGreat.upD;rw[if_pos ⟨by omega,by omega⟩,Ap,if_neg (by omega),h];obtain⟨q,hq1,hq2,hq3⟩:=ih m (by omega);rw[hq1];refine⟨(x:Int)::q,rfl,λw=>?_,λp=>?_⟩
  ·rw[zzL31,hq2 w]
   constructor
   ·rintro(rfl|⟨y,rfl,hy⟩)
    ·exact⟨x,rfl,.refl _⟩
    ·exact⟨y,rfl,.up h hy⟩
   ·rintro⟨y,rfl,hy⟩;rcases(anc_up h).1 hy with rfl|hy
    ·exact .inl rfl
    ·exact .inr ⟨y,rfl,hy⟩
  ·cases hpp:p (x:Int) with
   | true=>exact .inr ⟨x,by simp[List.find?,hpp],.refl _,hpp,λy hy _=>hy⟩
   | false=>
    have hf:((x:Int)::q).find? p=q.find? p:=by simp[List.find?,hpp]
    rw[hf];rcases hq3 p with⟨e1,e2⟩|⟨f,e1,e2,e3,e4⟩
    ·refine .inl ⟨e1,λy hy=>?_⟩;rcases(anc_up h).1 hy with rfl|hy
     ·exact hpp
     ·exact e2 y hy
    ·refine .inr ⟨f,e1,.up h e2,e3,λy hy hpy=>?_⟩;rcases(anc_up h).1 hy with rfl|hy
     ·rw[hpp]at hpy;cases hpy
     ·exact e4 y hy hpy
theorem zr:∀ m (a:Int) q,upD t m a=some q->∃ x r k:Nat,a=(x:Int)/\k<m/\Tp t x r k:=by
 intro m
 induction m with
 | zero=>intro a q h;cases h
 | succ m ih=>
  intro a q h;unfold Go.Proofs.YtlnbjgmjaioagaaGreat.upD at h
  by_cases ha:0<=a/\a<t.length
  ·rw[if_pos ha]at h;have e :=Mi ha.1
   by_cases h1:t.getD a.toNat 0 = -1
   ·exact⟨a.toNat,a.toNat,0,e.symm,by omega,.top (by omega) h1⟩
   ·rw[if_neg h1]at h
    cases hu:Go.Proofs.YtlnbjgmjaioagaaGreat.upD t m _ with
    | none=>rw[hu]at h;cases h
    | some q'=>
     obtain⟨y,r,k,e1,e2,e3⟩:=ih _ _ hu;exact⟨a.toNat,r,k+1,e.symm,by omega,.up (by omega) e1 e3⟩
  ·grind
theorem pathD_tp{a:Int}:Ew t a≠[]↔∃ x r k:Nat,a=(x:Int)/\Tp t x r k:=by
 constructor
 ·intro h
  cases hu:upD t _ a with
  | none=>exact absurd (pathD_nil.2 hu) h
  | some q=>obtain⟨x,r,k,e1,_,e2⟩:=zr _ _ _ hu;exact⟨x,r,k,e1,e2⟩
 ·rintro⟨x,r,k,rfl,h⟩ e;obtain⟨q,hq,_⟩:=h.upD _ h.short;rw[pathD_nil.1 e]at hq;cases hq
theorem Tp.path{x r k:Nat}(h:Tp t x r k):(∀ w:Int,w∈Ew t (x:Int)↔∃ z:Nat,w=(z:Int)/\UpTo (Bw t) x z) /\
  ∀ p:Int->Bool,((Ew t (x:Int)).find? p=none/\∀ z:Nat,UpTo (Bw t) x z->p (z:Int)=false)\/∃ f:Nat,(Ew t (x:Int)).find? p=some (f:Int)/\UpTo (Bw t) x f/\p (f:Int)=true/\∀ z:Nat,UpTo (Bw t) x z->p (z:Int)=true->UpTo (Bw t) f z:=by
 obtain⟨q,h1,h2,h3⟩:=h.upD _ h.short
 have e:Ew t x=q:=by unfold Ew;rw[h1];rfl
 rw[e];exact⟨h2,h3⟩
theorem CZ{α:Type}{l:List α}{i j:Nat}{x d:α}(hi:i<l.length):(l.set i x).getD j d=if j=i then x else l.getD j d:=by
 grind
theorem vt{x r k:Nat}(h:Tp t x r k):∀ l:List Bool,l.length=t.length->∃ l',Ad (Lu t) ((x:Int),l)=some l'/\l'.length=t.length/\∀ z,z<t.length->(l'.getD z false=true↔l.getD z false=true\/UpTo (Bw t) x z):=by
 induction h with
 | @top x hx h=>
  intro l hl
  have hs:Lu t (x,l)=some (.next (-1,l.set x true)):=by
   unfold Lu
   have hb:((x:Int)!=-1)=true:=by rw[zzL83];omega
   simp only[hb,Af,Ap,h];rw[Ac (Fl (by omega)),Ac (Fl hx)]
  have hd:Lu t (-1,l.set x true)=some (.done (l.set x true)):=by
   rfl
  refine⟨l.set x _,by rw[Aq hs,Am hd],by simp[hl],λz hz=>?_⟩;rw[CZ (by omega)]
  have htop:UpTo (Bw t) x z↔z=x:=QO λp hp=>by have :=hp.symm.trans h;omega
  rw[htop]
  by_cases e:z=x
  ·simp[e]
  ·simp[e]
 | @up x y r k hx h hk ih=>
  intro l hl
  have hs:Lu t (x,l)=some (.next (y,l.set x true)):=by
   unfold Lu
   have hb:(x !=(-1:Int))=true:=by rw[zzL83];omega
   simp only[hb,Af,Ap,h];rw[Ac (Fl (by omega)),Ac (Fl hx)]
  obtain⟨l',e1,e2,e3⟩:=ih (l.set x _) (by simp[hl]);refine⟨l',by rw[Aq hs,e1],e2,λz hz=>?_⟩;rw[e3 z hz,CZ (by omega),anc_up (par:=Bw t) h]
  by_cases e:z=x
  ·simp[e]
  ·simp[e]
theorem vu{b r k:Nat}(h:Tp t b r k)(l:List Bool)(hl:l.length=t.length):l.getD r false=true->∃ c:Nat,Ad (Jv t l) (b:Int)=some (c:Int)/\UpTo (Bw t) b c/\l.getD c false=true/\∀ z,UpTo (Bw t) b z->l.getD z false=true->UpTo (Bw t) c z:=by
 induction h with
 | @top x hx h=>
  intro hr
  have hd:Jv t l x=some (.done x):=by
   unfold Jv;rw[Ac (Fl (by omega)),Ap,hr]
   rfl
  exact⟨x,Am hd,.refl _,hr,λz hz _=>hz⟩
 | @up x y r k hx h hk ih=>
  intro hr
  cases hx2:l.getD x _ with
  | true=>
   have hd:Jv t l x=some (.done x):=by
    unfold Jv;rw[Ac (Fl (by omega)),Ap,hx2]
    rfl
   exact⟨x,Am hd,.refl _,hx2,λz hz _=>hz⟩
  | false=>
   have hs:Jv t l x=some (.next y):=by
    unfold Jv;rw[Ac (Fl (by omega)),Ap,hx2,J0,Af,Ac (Fl hx),h]
   obtain⟨c,e1,e2,e3,e4⟩:=ih hr;refine⟨c,by rw[Aq hs,e1],.up h e2,e3,λz hz hlz=>?_⟩;rcases(anc_up  h).1 hz with rfl|hz
   ·grind
   ·exact e4 z hz hlz
theorem OL(ht:t.length<=1000){a b r k m:Nat}(ha:Tp t a r k)(hb:Tp t b r m):∃ c:Nat,Sx t (a:Int) (b:Int)=some (c:Int)/\MeetAt (Bw t) a b c:=by
 unfold Sx
 have hroom:1000<=room:=by decide
 rw[Ac ⟨by omega,by omega,by omega⟩,Ap];obtain⟨l',h1,h2,h3⟩:=vt ha (List.replicate t.length _) (by simp);rw[h1,Ak]
 have h3':∀ z,z<t.length->(l'.getD z false=true↔UpTo (Bw t) a z):=λz hz=>by grind
 obtain⟨c,e1,e2,e3,e4⟩:=vu hb l' h2 ((h3' r ha.tops.1).2 ha.upTo)
 have hc:c<t.length:=by grind
 refine⟨c,by rw[e1];rfl,λw=>⟨λhw=>⟨((h3' c hc).1 e3).trans hw,e2.trans hw⟩,λ⟨hw1,hw2⟩=>?_⟩⟩;obtain⟨j,_,hj,_⟩:=ha.on hw1;exact e4 w hw2 ((h3' w hj.lt).2 hw1)
theorem rB(hR:Nl t=true){a b r k m:Nat}(ha:Tp t a r k)(hb:Tp t b r m):∃ c:Nat,Si t (a:Int) (b:Int)=(c:Int)/\MeetAt (Bw t) a b c:=by
 unfold Si;rw[if_pos hR]
 have hcon:∀ z:Nat,(Ew t b).contains z=true↔UpTo (Bw t) b z:=λz=>by
  rw[zzL63,hb.path.1]
  constructor
  ·grind
  ·grind
 rcases ha.path.2 (λx=>(Ew t _).contains x) with⟨e1,e2⟩|⟨f,e1,e2,e3,e4⟩
 ·have:=e2 r ha.upTo;rw[(hcon r).2 hb.upTo]at this
  cases this
 ·exact⟨f,by rw[e1];rfl,λw=>⟨λhw=>⟨e2.trans hw,((hcon f).1 e3).trans hw⟩,λ⟨hw1,hw2⟩=>e4 w hw1 ((hcon w).2 hw2)⟩⟩
theorem MeetAt.same{a b r k c d:Nat}(ha:Tp t a r k)(hc:MeetAt (Bw t) a b c)(hd:MeetAt (Bw t) a b d):c=d:=by
 obtain⟨j,_,hj,_⟩:=ha.on ((hc c).1 (.refl _)).1;exact(hj.anti ((hc d).2 ((hd d).1 (.refl _))) ((hd c).2 ((hc c).1 (.refl _)))).symm
end
theorem m_index(t:List Int)(v:Int)(ht:t.length<=1000):(∃ r:Nat,r<t.length/\t.getD r 0=v/\(∀ i,i<r->t.getD i 0≠v)/\Eo t v=some (r:Int))\/((∀ i,i<t.length->t.getD i 0≠v)/\Eo t v=some (-1)):=by
 have key:∀ k i:Nat,i+k=t.length->(∀ j,j<i->t.getD j 0≠v)->
   (∃ r:Nat,r<t.length/\t.getD r 0=v/\(∀ i,i<r->t.getD i 0≠v)/\Ad (Cn t v) (i:Int)=some (.inr (r:Int)))\/((∀ i,i<t.length->t.getD i 0≠v)/\Ad (Cn t v) (i:Int)=some (.inl ())):=by
  intro k
  induction k with
  | zero=>
   intro i hi hj
   obtain rfl:i=t.length:=by omega
   refine .inr ⟨hj,Am ?_⟩;unfold Cn;rw[Cm];rfl
  | succ k ih=>
   intro i hi hj
   by_cases e:v=t.getD i 0
   ·refine .inl ⟨i,by omega,e.symm,hj,Am ?_⟩;unfold Cn;have hb:((v:Int)==t.getD i 0)=true:=zzL45.2 e;simp only[Bo (show i<t.length by omega),Af,Ap,hb];rw[Ac (Fl (by omega))]
   ·have hs:Cn t v (i:Int)=some (.next ((i+1:Nat):Int)):=by
     unfold Cn;have hb:((v:Int)==t.getD i 0)=false:=zzL34.2 e;simp only[Bo (show i<t.length by omega),Af,Ap,hb,Ar];rw[Ac (Fl (by omega)),w1 (by omega)]
    rw[Aq hs]
    exact ih (i+1) (by omega) λj hj2=>by
     by_cases ej:j=i
     ·subst ej;exact λh=>e h.symm
     ·exact hj j (by omega)
 have h0:=key t.length 0 (by omega) (λj hj=>absurd hj (V2 _));unfold Eo;rcases h0 with⟨r,h1,h2,h3,h4⟩|⟨h1,h2⟩
 ·exact .inl ⟨r,h1,h2,h3,by rw[show((0:Int))=((0:Nat):Int) from rfl,h4];rfl⟩
 ·exact .inr ⟨h1,by rw[show((0:Int))=((0:Nat):Int) from rfl,h2];rfl⟩
section
variable {t:List Int}
structure GO(t:List Int)(r f:Nat)(w:List Int):Prop where
 len:w.length=t.length
 old:∀ y,y<t.length->w.getD y 0≠0->(w.getD y 0<=(f:Int))/\∃ k,Tp t y r k
structure pK(t:List Int)(r f x:Nat)(w:List Int):Prop where
 len:w.length=t.length
 hx:x<t.length
 old:∀ y,y<t.length->w.getD y 0≠0->w.getD y 0<=(f:Int)/\(∃ k,Tp t y r k)\/w.getD y 0=((f+1:Nat):Int)/\∀ r' k,Tp t x r' k->∃ j,k<j/\Tp t y r' j
 fwd:∀ r' k,Tp t x r' k->∃ j,k<=j/\Tp t f r' j
 back:∀ r' k,Tp t f r' k->∃ j,Tp t x r' j
def ax(w:List Int):Nat:=w.countP λz=>z==0
theorem oF{w:List Int}{x:Nat}{v:Int}(hx:x<w.length)(h0:w.getD x 0=0)(hv:v≠0):ax (w.set x v)<ax w:=by
 unfold ax;rw[List.countP_set hx];rw[Ao _ _ _ hx]at h0;have hp:0<w.countP λz=>z==0:=List.countP_pos_iff.2 ⟨w[x],NB hx,by simp[h0]⟩;have hb :=zzL34.2 hv;simp only[h0,Wv,Nd,hb,UY,Ji];omega
theorem leads_loop(ht:t.length<=1000){r:Nat}(hr:r<t.length)(htop:t.getD r 0 = -1){f:Nat}(hf:f<t.length):∀(m x:Nat) (w:List Int),ax w<=m->pK t r f x w->
  (∃ w',Ad (Dm t (f:Int) (r:Int)) ((x:Int),w)=some (.inl w')/\GO t r (f+1) w'/\∃ k,Tp t f r k) \/
  ∃ b w',Ad (Dm t (f:Int) (r:Int)) ((x:Int),w)=some (.inr (b,w'))/\w'.length=t.length/\(b=true->GO t r (f+1) w'/\∃ k,Tp t f r k)/\(b=false->∀ k,¬ Tp t f r k):=by
 intro m
 induction m with
 | zero=>
  intro x w hz hw;exact go 0 (λx w hz=>absurd hz (V2 _)) x w hz hw
 | succ m ih=>
  intro x w hz hw;exact go (m+1) (λx w hz=>ih x w (Nat.le_of_lt_succ hz)) x w hz hw
where
 go (m:Nat) (ih:∀(x:Nat) (w:List Int),ax w<m->pK t r f x w->
  (∃ w',Ad (Dm t (f:Int) (r:Int)) ((x:Int),w)=some (.inl w')/\GO t r (f+1) w'/\∃ k,Tp t f r k) \/
  ∃ b w',Ad (Dm t (f:Int) (r:Int)) ((x:Int),w)=some (.inr (b,w'))/\w'.length=t.length/\(b=true->GO t r (f+1) w'/\∃ k,Tp t f r k)/\(b=false->∀ k,¬ Tp t f r k)) (x:Nat) (w:List Int) (hz:ax w<=m) (hw:pK t r f x w) :
  (∃ w',Ad (Dm t (f:Int) (r:Int)) ((x:Int),w)=some (.inl w')/\GO t r (f+1) w'/\∃ k,Tp t f r k) \/
  ∃ b w',Ad (Dm t (f:Int) (r:Int)) ((x:Int),w)=some (.inr (b,w'))/\w'.length=t.length/\(b=true->GO t r (f+1) w'/\∃ k,Tp t f r k)/\(b=false->∀ k,¬ Tp t f r k):=by
  have hxl:=hw.hx
  have told:∀ k,Tp t x r k->GO t r (f+1) w/\∃ k,Tp t f r k:=λk hk=>by
   obtain⟨j,_,hj⟩:=hw.fwd _ _ hk;refine⟨⟨hw.len,λy hy hy0=>?_⟩,j,hj⟩;rcases hw.old y hy hy0 with⟨h1,h2⟩|⟨h1,h2⟩
   ·exact⟨by omega,h2⟩
   ·obtain⟨i,_,hi⟩:=h2 _ _ hk;exact⟨by omega,i,hi⟩
  by_cases hxr:x=r
  ·subst hxr;refine .inl ⟨w,Am ?_,told 0 (.top hr htop)⟩;unfold Dm
   have hb:((x:Int)!=(x:Int))=false:=by simp
   simp only[hb,Ar]
  ·have hb:((x:Int)!=(r:Int))=true:=by rw[zzL83];omega
   have hin:As (x:Int) w.length:=Fl (by rw[hw.len];exact hxl)
   by_cases hw0:w.getD x 0=0
   ·have hb0:((w.getD x 0:Int)!=0)=false:=by rw[hw0];rfl
    by_cases hpl:0<=t.getD x 0/\t.getD x 0<(t.length:Int)
    ·have hwf:w64 ((f:Int)+1)=((f+1:Nat):Int):=w1 (by omega)
     have hs:Dm t (f:Int) (r:Int) ((x:Int),w)=some (.next (t.getD x 0,w.set x ((f+1:Nat):Int))):=by
      unfold Dm Ng;simp only[hb,Af,Ap,hb0,Ar];rw[Ac hin,Ac (Fl hxl),Gi hpl.1,Gi hpl.2,Af,Ak,C0,Ar,Ac hin,Ac (Fl hxl),hwf]
     rw[Aq hs];obtain⟨y,hy⟩:∃ y:Nat,t.getD x 0=(y:Int):=⟨(t.getD x 0).toNat,(Mi hpl.1).symm⟩;rw[hy]at hpl ⊢
     have hyl:y<t.length:=by omega
     have hst:∀ r' k,Tp t y r' k->Tp t x r' (k+1):=λr' k hk=>.up hxl hy hk
     have hset:∀ z,z<t.length->(w.set x ((f+1:Nat):Int)).getD z 0=if z=x then((f+1:Nat):Int) else w.getD z 0:=λz _=>CZ (by rw[hw.len];exact hxl)
     have hW:pK t r f y (w.set x ((f+1:Nat):Int)):=by
      refine⟨by simp[hw.len],hyl,λz hzl hz0=>?_,λr' k hk=>?_,λr' k hk=>?_⟩
      ·rw[hset z hzl]at hz0 ⊢
       by_cases e:z=x
       ·subst e;rw[if_pos rfl];exact .inr ⟨rfl,λr' k hk=>⟨k+1,by omega,hst r' k hk⟩⟩
       ·rw[if_neg e]at hz0 ⊢;rcases hw.old z hzl hz0 with h1|⟨h1,h2⟩
        ·exact .inl h1
        ·refine .inr ⟨h1,λr' k hk=>?_⟩;obtain⟨j,hj1,hj2⟩:=h2 _ _ (hst r' k hk);exact⟨j,by omega,hj2⟩
      ·obtain⟨j,hj1,hj2⟩:=hw.fwd _ _ (hst r' k hk);exact⟨j,by omega,hj2⟩
      ·obtain⟨j,hj⟩:=hw.back _ _ hk
       cases hj with
       | top _ h2=>omega
       | up _ h2 h3=>
        have:=hy.symm.trans h2
        cases NC this
        exact⟨_,h3⟩
     have hzz:=oF (x:=x) (v:=((f+1:Nat):Int)) (by rw[hw.len];exact hxl) hw0 (by omega);exact ih y _ (by omega) hW
    ·refine .inr ⟨false,w,Am ?_,hw.len,⟨λh=>(by cases h),λ_ k hk=>?_⟩⟩
     ·unfold Dm Ng;simp only[hb,Af,Ap,hb0,Ar];rw[Ac hin,Ac (Fl hxl)]
      have:(bif decide ((0:Int)<=t.getD x 0) then decide (t.getD x 0<(t.length:Int)) else false)=false:=by
       cases h1:decide ((0:Int)<=t.getD x 0) with
       | false=>rfl
       | true=>rw[Af];exact Db λh2=>hpl ⟨NA h1,h2⟩
      rw[this,Ak]
      rfl
     ·obtain⟨j,hj⟩:=hw.back _ _ hk
      cases hj with
      | top=>exact hxr rfl
      | up _ h2 h3=>have:=h3.lt;exact hpl ⟨by omega,by omega⟩
   ·have hb0:((w.getD x 0:Int)!=0)=true:=by rw[zzL83];exact hw0
    have hwf:w64 ((f:Int)+1)=((f+1:Nat):Int):=w1 (by omega);refine .inr ⟨w.getD x 0 !=((f+1:Nat):Int),w,Am ?_,hw.len,⟨λh=>?_,λh k hk=>?_⟩⟩
    ·unfold Dm;simp only[hb,Af,Ap,hb0];rw[Ac hin,Ac hin,hwf]
    ·rcases hw.old x hxl hw0 with⟨_,k,hk⟩|⟨h1,_⟩
     ·exact told k hk
     ·rw[h1]at h;simp at h
    ·have he:w.getD x 0=((f+1:Nat):Int):=by simpa using h
     obtain⟨j,hj⟩:=hw.back _ _ hk;rcases hw.old x hxl hw0 with⟨h1,_⟩|⟨_,h2⟩
     ·omega
     ·obtain⟨i,hi1,hi2⟩:=h2 _ _ hj;have:=hj.det hi2;omega
end
section
variable {t:List Int}
theorem vl(ht:t.length<=1000){r:Nat}(hr:r<t.length)(htop:t.getD r 0 = -1){f:Nat}(hf:f<t.length){w:List Int}(hw:GO t r f w) :
  ∃ b w',Wk t w (f:Int) (r:Int)=some (b,w')/\w'.length=t.length/\(b=true->GO t r (f+1) w'/\∃ k,Tp t f r k)/\(b=false->∀ k,¬ Tp t f r k):=by
 unfold Wk;have hW:pK t r f f w:=⟨hw.len,hf,λy hy h0=>.inl (hw.old y hy h0),λr' k hk=>⟨k,zzL7 _,hk⟩,λr' k hk=>⟨k,hk⟩⟩;rcases leads_loop ht hr htop hf _ f w (zzL7 _) hW with⟨w',e1,e2⟩|⟨b,w',e1,e2,e3,e4⟩
 ·exact⟨true,w',by rw[e1];rfl,e2.1.len,λ_=>e2,λh=>by cases h⟩
 ·grind
def YK(t:List Int)(r:Nat):Prop:=∀ f,f<t.length->t.getD f 0≠-2->∃ k,Tp t f r k
open Classical in
theorem eW(ht:t.length<=1000){r:Nat}(hr:r<t.length)(htop:t.getD r 0 = -1):∀(k f:Nat) (w:List Int),f+k=t.length->GO t r f w->(∀ y,y<f->t.getD y 0≠-2->∃ k,Tp t y r k)->
  Ad (G2 t (r:Int)) ((f:Int),w)=some (if YK t r then .inl () else .inr false):=by
 intro k
 induction k with
 | zero=>
  intro f w hk hw hd
  obtain rfl:f=t.length:=by omega
  apply Am
  unfold G2;simp only[Cm,Ar];rw[if_pos (show YK t r from hd)]
 | succ k ih=>
  intro f w hk hw hd
  have hf:f<t.length:=by omega
  by_cases h2:t.getD f 0 = -2
  ·have hb:((t.getD f 0:Int)!=(-2))=false:=by rw[h2];rfl
   have hs:G2 t (r:Int) ((f:Int),w)=some (.next (((f+1:Nat):Int),w)):=by
    unfold G2;simp only[Bo hf,Af,Ap,hb,show(false==true)=false from rfl,Ar,Ak];rw[Ac (Fl hf),Ac (λh=>by cases h),w1 (by omega)]
   rw[Aq hs];refine ih (f+1) w (by omega) ⟨hw.len,λy hy h0=>?_⟩ λy hy hy2=>?_
   ·obtain⟨e1,e2⟩:=hw.old y hy h0;exact⟨by omega,e2⟩
   ·by_cases e:y=f
    ·subst e;exact absurd h2 hy2
    ·exact hd y (by omega) hy2
  ·have hb:((t.getD f 0:Int)!=(-2))=true:=by rw[zzL83];exact h2
   obtain⟨b,w',e1,e2,e3,e4⟩:=vl ht hr htop hf hw
   cases b with
   | false=>
    rw[if_neg (λhA:YK t r=>by obtain⟨k,hk⟩:=hA f hf h2;exact e4 rfl k hk)]
    apply Am
    unfold G2;simp only[Bo hf,Af,Ap,hb,show(true==true)=true from rfl,e1,Ak];rw[Ac (Fl hf),Ac (λ_=>by rw[hw.len,e2])]
    rfl
   | true=>
    have hs:G2 t (r:Int) ((f:Int),w)=some (.next (((f+1:Nat):Int),w')):=by
     unfold G2;simp only[Bo hf,Af,Ap,hb,show(true==true)=true from rfl,e1,Ak];rw[Ac (Fl hf),Ac (λ_=>by rw[hw.len,e2]),w1 (by omega)]
     rfl
    rw[Aq hs];obtain⟨e5,e6⟩:=e3 rfl;refine ih (f+1) w' (by omega) e5 λy hy hy2=>?_
    by_cases e:y=f
    ·subst e;exact e6
    ·exact hd y (by omega) hy2
theorem sO:topsK t t.length=1↔∃ r,r<t.length/\t.getD r 0 = -1/\∀ x,x<t.length->t.getD x 0 = -1->x=r:=by
 have key:∀ n,(topsK t n=0↔∀ x,x<n->t.getD x 0≠-1)/\(topsK t n=1↔∃ r,r<n/\t.getD r 0 = -1/\∀ x,x<n->t.getD x 0 = -1->x=r):=by
  intro n
  induction n with
  | zero=>exact⟨⟨λ_ x hx=>absurd hx (V2 _),λ_=>rfl⟩,⟨λh=>by simp[topsK]at h,λ⟨r,h,_⟩=>absurd h (V2 _)⟩⟩
  | succ n ih=>
   rw[IJ]
   by_cases e:t.getD n 0 = -1
   ·rw[if_pos e];refine⟨⟨λh=>by omega,λh=>absurd e (h n (by omega))⟩,⟨λh=>⟨n,by omega,e,λx hx hx1=>?_⟩,λ⟨r,h1,h2,h3⟩=>?_⟩⟩
    ·by_cases ex:x=n
     ·exact ex
     ·grind
    ·have:=ih.1.2 λx hx hx1=>by
      grind
     omega
   ·grind
 exact(key _).2
theorem rightD_iff:Nl t=true↔∃ r,r<t.length/\t.getD r 0 = -1/\YK t r:=by
 unfold Nl;rw[A4,all_range,Jd,sO]
 constructor
 ·rintro⟨h1,r,h2,h3,h4⟩;refine⟨r,h2,h3,λf hf hf2=>?_⟩;have:=h1 f hf;unfold rM at this;rw[EN,Jd,Qr,UX]at this;rcases this with h|h
  ·exact absurd h hf2
  ·obtain⟨x,r',k,e,hk⟩:=pathD_tp.1 h
   cases NC e
   have:=h4 _ hk.tops.1 hk.tops.2;subst this;exact⟨k,hk⟩
 ·rintro⟨r,h2,h3,h4⟩;refine⟨λf hf=>?_,r,h2,h3,λx hx hx1=>?_⟩
  ·unfold rM;rw[EN,Jd,Qr,UX]
   by_cases e:t.getD f 0 = -2
   ·exact .inl e
   ·obtain⟨k,hk⟩:=h4 f hf e;exact .inr (pathD_tp.2 ⟨f,r,k,rfl,hk⟩)
  ·obtain⟨k,hk⟩:=h4 x hx (by omega);exact((hk.det (.top hx hx1)).1).symm
theorem af(hR:Nl t=true):∃ r,YK t r:=by obtain⟨r,_,_,h⟩:=rightD_iff.1 hR;exact⟨r,h⟩
theorem qw(ht:t.length<=1000):Ut t=some (Nl t):=by
 unfold Ut
 have hroom:1000<=room:=by decide
 rcases m_index t _ ht with⟨r,h1,h2,h3,h4⟩|⟨h1,h2⟩
 ·rw[h4,Ak,Db (by omega),Ar,Ac ⟨by omega,by omega,by omega⟩,Ap];have hl:=eW ht h1 h2 t.length 0 (List.replicate t.length 0) (by omega) ⟨by simp,λy hy h0=>absurd KR h0⟩ (λy hy=>absurd hy (V2 _));rw[show(((0:Nat):Int))=0 from rfl]at hl;rw[hl,Ak]
  by_cases hA:YK t r
  ·rw[if_pos hA,rightD_iff.2 ⟨r,h1,h2,hA⟩]
  ·rw[if_neg hA]
   have :=Bool.eq_false_iff.2 λhR=>by
    obtain⟨r',g1,g2,g3⟩:=rightD_iff.1 hR;obtain⟨k,hk⟩:=g3 r h1 (by omega);have:=(hk.det (.top h1 h2)).1;subst this;exact hA g3
   rw[this]
 ·rw[h2]
  have :=Bool.eq_false_iff.2 λhR=>by
   obtain⟨r',g1,g2,g3⟩:=rightD_iff.1 hR;exact h1 r' g1 g2
  rw[this]
  rfl
def HW(t:List Int)(a:Int):Bool:=decide (0<=a)&&decide (a<(t.length:Int))&&decide (t.getD a.toNat 0≠-2)
theorem SC(hR:Nl t=true){a:Int}:HW t a=true↔∃ x k r:Nat,a=(x:Int)/\Tp t x r k:=by
 unfold HW;rw[A4,A4,Jd,Jd,Jd]
 constructor
 ·rintro⟨⟨h1,h2⟩,h3⟩;obtain⟨r,hA⟩:=af hR;obtain⟨k,hk⟩:=hA _ (by omega) h3;exact⟨a.toNat,k,r,(Mi h1).symm,hk⟩
 ·rintro⟨x,k,r,rfl,h⟩;rw[Ap]
  cases h with
  | top _ h2=>omega
  | up _ h2 _=>omega
theorem iq(a:Int):Oa t a=some (HW t a):=by
 unfold Oa Ng HW;rw[Ak]
 cases h1:decide (0<=a) with
 | false=>rfl
 | true=>
  rw[Af,Hn]
  cases h2:decide (a<t.length) with
  | false=>rfl
  | true=>
   rw[Ac (λ_=>⟨NA h1,NA h2⟩),Af,Hn]
   congr 1
   rw[Ul,zzL83,Jd]
theorem vk(ht:t.length<=1000)(a b:Int):Wj t a b=some (Nl t&&HW t a&&HW t b):=by
 unfold Wj;rw[qw ht]
 cases Nl t with
 | false=>rfl
 | true=>
  simp only[  iq, Hn]
  cases HW t a with
  | false=>rfl
  | true=>grind
theorem nY{a b:Int}(h:(Nl t&&HW t a&&HW t b)=false):Si t a b = -2:=by
 unfold Si
 by_cases hR:Nl t=true
 ·rw[if_pos hR];rw[hR]at h
  have hno:∀ c,HW t c=false->Ew t c=[]:=λc hc=>by
   by_cases e:Ew t c=[]
   ·exact e
   ·obtain⟨x,r,k,e1,e2⟩:=pathD_tp.1 e;rw[(SC hR).2 ⟨x,k,r,e1,e2⟩]at hc;cases hc
  cases ha:HW t a with
  | false=>rw[hno a ha];rfl
  | true=>
   rw[ha]at h;rw[hno b h]
   have:((Ew t a).find? λx=>[].contains x)=none:=List.find?_eq_none.2 λx _=>by simp
   rw[this]
   rfl
 ·rw[if_neg hR]
theorem XR(ht:t.length<=1000){a b:Int}(h:(Nl t&&HW t a&&HW t b)=true):Sx t a b=some (Si t a b)/\0<=Si t a b:=by
 rw[A4,A4]at h;obtain⟨⟨hR,ha⟩,hb⟩:=h;obtain⟨x,k,r,rfl,hx⟩:=(SC hR).1 ha;obtain⟨y,m,r',rfl,hy⟩:=(SC hR).1 hb;obtain⟨rr,hA⟩:=af hR
 have top:∀{x r k},Tp t x r k->r=rr:=λ{x r k} h=>by
  obtain⟨i,hi⟩:=hA r h.tops.1 (by rw[h.tops.2];omega);exact((Tp.top h.tops.1 h.tops.2).det hi).1
 obtain rfl:=top hx;obtain rfl:=top hy;obtain⟨c,h1,h2⟩:=OL ht hx hy;obtain⟨d,h3,h4⟩:=rB hR hx hy;have:=h2.same hx h4;subst this;exact⟨by rw[h1,h3],by omega⟩
theorem zN(ht:t.length<=1000)(a b:Int):Y6 t a b=some (OT t a b):=by
 unfold Y6 OT;rw[vk ht]
 cases h:(Nl t&&HW t a&&HW t b) with
 | false=>
  rw[nY h]
  have:(-2==a&&(-2 !=-2))=false:=by simp
  rw[this]
  rfl
 | true=>
  obtain⟨h1,h2⟩:=XR ht h;simp only[show(true==true)=true from rfl,Af,h1,Ak]
  have:(Si t a b !=-2)=true:=by rw[zzL83];omega
  rw[this,EL]
end
theorem wB:∀ n:Fin 65,Sv (Jc 1) (Jc ((n.val:Nat):Int))=some (0,((n.val:Nat):Int)):=by decide +kernel
theorem na{n:Nat}(h:n<=64):Sv (Jc 1) (Jc (n:Int))=some (0,(n:Int)):=wB ⟨n,by omega⟩
theorem fj{v:Int}{n:Nat}(hn:n<=64):∀(m i:Nat) (l:List Int),n-i<=m->1<=i->i<=n->l.length=n->(∀ j,j<i->l.getD j 0=v)->Ad Da ((i:Int),l)=some (List.replicate n v):=by
 intro m
 induction m with
 | zero=>
  intro i l hm h1 h2 hl hv
  obtain rfl:i=n:=by omega
  exact fin l hl hv
 | succ m ih=>
  intro i l hm h1 h2 hl hv
  by_cases e:i=n
  ·grind
  ·have hs:Da ((i:Int),l)=some (.next (((i+Nat.min i (n-i):Nat):Int),iR l i (Nat.min i (n-i)) (λj=>l.getD (0+j) 0))):=by
    unfold Da;simp only[hl,Bo (show i<n by omega),Af,Ap,Ie,ND];have hc:(0:Int)<=(i:Int)/\i<=n:=⟨by omega,h2⟩;have hmn:Nat.min i (n-i)<=i:=Nat.min_le_left _ _;rw[Ac hc,Ac hc,Ic (by omega) (by omega),Int.natCast_add]
   rw[Aq hs];have hmn:Nat.min i (n-i)<=i/\Nat.min i (n-i)<=n-i:=⟨Nat.min_le_left _ _,Nat.min_le_right _ _⟩;have hge:1<=Nat.min i (n-i):=Nat.le_min.2 ⟨h1,by omega⟩;refine ih _ _ (by omega) (by omega) (by omega) (by rw[<- J4];exact hl) λj hj=>?_;rw[RS _ _ _ _ _ _ (by omega)]
   by_cases hji:i<=j/\j<i+Nat.min i (n-i)
   ·grind
   ·grind
where
 fin {v:Int} {i:Nat} (l:List Int) (hl:l.length=i) (hv:∀ j,j<i->l.getD j 0=v):Ad Da ((i:Int),l)=some (List.replicate i v):=by
  apply Am
  unfold Da;simp only[hl,Cm,Ar]
  congr 2
  refine PI (by simp[hl]) λj h1 h2=>?_;rw[<- Ao _ _ 0 h1,hv j (by omega)]
  simp
theorem qy{v:Int}{n:Nat}(h1:1<=n)(hn:n<=64):I6 [v] (n:Int)=some (List.replicate n v):=by
 have hroom:64<=room:=by decide
 unfold I6;rw[Db (by omega),Ar,Ak]
 show Option.bind (Sv (Jc 1) _) _=_
 rw[na hn,Ak];have e1:decide (0<0)=false:=rfl;have e2:decide (9223372036854775807<(n:Int))=false:=Db (by omega);simp only[ e2,Ar];have ew:w64 n=n:=Ic (by omega) (by omega);rw[ew,Ac ⟨by omega,by omega,by omega⟩,Ap,Ty,ND];have em:Nat.min [v].length n=1:=Nat.min_eq_left h1;rw[em,fj hn n 1 _ (by omega) (zzL7 _) h1 (by rw[<- J4];simp) (λj hj=>?_)]
 ·rfl
 ·rw[RS _ _ _ _ _ _ (by simp;omega),if_pos ⟨by omega,by omega⟩]
  have:j-0=0:=by omega
  rw[this];rfl
section
variable {S:Nat->List Nat} {r n:Nat} {P:List Nat}
theorem Inv.tp{at_:Nat->Nat}{t:List Int}(h:Inv S r n at_ (Bw t))(hl:t.length=n):∀ m x,at_ x<=m->x<n->Bw t x≠-2->∃ k,Tp t x r k:=by
 intro m
 induction m with
 | zero=>
  intro x hm hx hp;rcases h.kind x hx with h1|h1|⟨z,hz⟩
  ·exact absurd h1 hp
  ·subst h1;exact⟨0,.top (by omega) h.top⟩
  ·obtain⟨_,_,h3,_⟩:=h.up x hx z hz;omega
 | succ m ih=>
  intro x hm hx hp;rcases h.kind x hx with h1|h1|⟨z,hz⟩
  ·exact absurd h1 hp
  ·subst h1;exact⟨0,.top (by omega) h.top⟩
  ·obtain⟨z1,z2,z3,_⟩:=h.up x hx z hz;obtain⟨k,hk⟩:=ih z (by omega) z1 z2;exact⟨k+1,.up (by omega) hz hk⟩
def JC(t l:List Int)(i:Nat)(v:Int):Prop:=
 (v = -2/\∀ j,j<i->Bw t (l.getD j 0).toNat = -2) \/
 ∃ z:Nat,v=(z:Int)/\z<t.length/\Bw t z≠-2/\(∀ w,UpTo (Bw t) z w↔∀ j,j<i->Bw t (l.getD j 0).toNat≠-2->UpTo (Bw t) (l.getD j 0).toNat w)
theorem bz{at_:Nat->Nat}{t l:List Int}(ht:t.length<=64)(hll:l.length<=64)(h:Inv S r n at_ (Bw t))(hl:t.length=n)(hin:∀ x∈l,0<=x/\x<(n:Int)):∀(k i:Nat) (v:Int),i+k=l.length->JC t l i v->
  ∃ v',Ad (Fx t l) (v,(i:Int))=some v'/\JC t l l.length v':=by
 intro k
 induction k with
 | zero=>
  intro i v hi hv
  obtain rfl:i=l.length:=by omega
  refine⟨v,Am ?_,hv⟩;unfold Fx;simp only[Cm,Ar]
 | succ k ih=>
  intro i v hi hv
  have hil:i<l.length:=by omega
  obtain⟨x0,x1⟩:=hin _ (Ah (d:=0) hil);have hxe:(((l.getD i 0).toNat:Nat):Int)=l.getD i 0:=Mi x0;have hxin:As (l.getD i 0) t.length:=Ab5 x0 (by omega)
  have next:∀ v',Fx t l (v,(i:Int))=some (.next (v',((i+1:Nat):Int)))->JC t l (i+1) v'->∃ v',Ad (Fx t l) (v,(i:Int))=some v'/\JC t l l.length v':=λv' hs hv'=>by
   rw[Aq hs];exact ih (i+1) v' (by omega) hv'
  by_cases hp:Bw t (l.getD i 0).toNat = -2
  ·have hb:((t.getD (l.getD i 0).toNat 0:Int)==-2)=true:=zzL45.2 hp;refine next v ?_ ?_
   ·unfold Fx;simp only[Bo hil,Af,Ap,hb];rw[Ac (Fl hil),Ac hxin,Ak,w1 (by omega)]
   ·have hstep:∀ w,(∀ j,j<i->Bw t (l.getD j 0).toNat≠-2->UpTo (Bw t) (l.getD j 0).toNat w)↔∀ j,j<i+1->Bw t (l.getD j 0).toNat≠-2->UpTo (Bw t) (l.getD j 0).toNat w:=λw=>by
     refine⟨λhj j hj1 hj2=>?_,λhj j hj1=>hj j (by omega)⟩
     by_cases e:j=i
     ·subst e;exact absurd hp hj2
     ·exact hj j (by omega) hj2
    rcases hv with⟨h1,h2⟩|⟨z,h1,h2,h3,h4⟩
    ·refine .inl ⟨h1,λj hj=>?_⟩
     by_cases e:j=i
     ·subst e;exact hp
     ·exact h2 j (by omega)
    ·exact .inr ⟨z,h1,h2,h3,λw=>by rw[h4 w,hstep w]⟩
  ·have hb:((t.getD (l.getD i 0).toNat 0:Int)==-2)=false:=zzL34.2 hp;rcases hv with⟨h1,h2⟩|⟨z,h1,h2,h3,h4⟩
   ·subst h1;refine next (l.getD i 0) ?_ (.inr ⟨(l.getD i 0).toNat,hxe.symm,by omega,hp,λw=>⟨λhw j hj hj2=>?_,λhw=>hw i (by omega) hp⟩⟩)
    ·unfold Fx;simp only[Bo hil,Af,Ap,hb,Ar,show((-2:Int)==-2)=true from rfl];rw[Ac (Fl hil),Ac hxin,Ak,w1 (by omega)]
    ·by_cases e:j=i
     ·subst e;exact hw
     ·exact absurd (h2 j (by omega)) hj2
   ·subst h1;have hb2:((z:Int)==-2)=false:=zzL34.2 (by omega);obtain⟨k1,hk1⟩:=h.tp hl _ z (zzL7 _) (by omega) h3;obtain⟨k2,hk2⟩:=h.tp hl _ (l.getD i 0).toNat (zzL7 _) (by omega) hp;obtain⟨c,c1,c2⟩:=OL (by omega) hk1 hk2;have hcz:=(c2 c).1 (.refl _);obtain⟨jc,_,hjc,_⟩:=hk1.on hcz.1
    have hcp:Bw t c≠-2:=by
     show t.getD c 0≠-2
     cases hjc with
     | top _ h=>omega
     | up _ h _=>omega
    refine next (c:Int) ?_ (.inr ⟨c,rfl,hjc.lt,hcp,λw=>?_⟩)
    ·rw[hxe]at c1;unfold Fx;simp only[Bo hil,Af,Ap,hb,Ar,hb2,c1,Ak];rw[Ac (Fl hil),Ac hxin,Ak,w1 (by omega)]
    ·rw[c2 w,h4 w];refine⟨λ⟨a1,a2⟩ j hj hj2=>?_,λha=>⟨λj hj=>ha j (by omega),ha i (by omega) hp⟩⟩
     by_cases e:j=i
     ·subst e;exact a2
     ·exact a1 j (by omega) hj2
theorem nQ{at_:Nat->Nat}{t l:List Int}(ht:t.length<=64)(hll:l.length<=64)(h:Inv S r n at_ (Bw t))(hl:t.length=n)(hin:∀ x∈l,0<=x/\x<(n:Int)) :
  ∃ v,Nh t l=some v/\JC t l l.length v:=by
 obtain⟨v,h1,h2⟩:=bz ht hll h hl hin l.length 0 _ (by omega) (.inl ⟨rfl,λj hj=>absurd hj (V2 _)⟩);refine⟨v,?_,h2⟩;unfold Nh;rw[show((0:Int))=(0:Nat) from rfl,h1]
 rfl
end
section
variable {L:List (List Int)} (hm:Og L=true) {r:Nat} {P:List Nat}
include hm
theorem sE{p y:Nat}(hp:p<L.length):y∈sN L p↔AF L p y=true:=by
 rw[qg];obtain⟨_,_,h3⟩:=mayS_iff.1 hm
 constructor
 ·intro h;obtain⟨x,hx,rfl⟩:=zzL21.1 h;have:=cB (h3 p hp) hx;rw[Mi this.1];exact hx
 ·intro h;exact zzL21.2 ⟨_,h,Ap y⟩
theorem DV{y:Nat}(hy:y<L.length){x:Int}:x∈(Cg L).getD y []↔∃ p:Nat,x=(p:Int)/\p<L.length/\y∈sN L p:=by
 rw[FS hy];unfold Kt;rw[SU]
 constructor
 ·rintro⟨k,h1,h2,h3⟩;exact⟨k,h1,h2,(sE hm h2).2 h3⟩
 ·rintro⟨k,h1,h2,h3⟩;exact⟨k,h1,h2,(sE hm h2).1 h3⟩
theorem bx(o:Ordered (sN L) r L.length P){t:List Int}{i:Nat}(h:Ready (sN L) r L.length P t i)(hi:i<P.length) :
  Nh t ((Cg L).getD (P.getD i 0) [])=some (Qa (sN L) L.length t (P.getD i 0):Int):=by
 obtain⟨hL1,hL64,_⟩:=mayS_iff.1 hm;have hyn:P.getD i 0<L.length:=o.lt (Mn _ (Xv hi))
 have hlen:((Cg L).getD (P.getD i 0) []).length<=64:=by
  rw[FS hyn];have:=Zn L L.length (P.getD i 0);omega
 obtain⟨v,h1,h2⟩:=nQ (by rw[h.len];exact hL64) hlen h.inv h.len λx hx=>by
  obtain⟨p,rfl,hp,_⟩:=(DV hm hyn).1 hx;omega
 rw[h1];have hb:=h.best o hi
 have mem:∀ p,p<L.length->P.getD i 0∈sN L p->∃ j,j<((Cg L).getD (P.getD i 0) []).length/\(((Cg L).getD (P.getD i 0) []).getD j 0).toNat=p:=λp hp hy=>by
  obtain⟨j,hj,e⟩:=Nc ((DV hm hyn).2 ⟨p,rfl,hp,hy⟩);exact⟨j,hj,by rw[Ao _ _ _ hj,e,Ap]⟩
 have mem':∀ j,j<((Cg L).getD (P.getD i 0) []).length->(((Cg L).getD (P.getD i 0) []).getD j 0).toNat<L.length/\P.getD i 0∈sN L (((Cg L).getD (P.getD i 0) []).getD j 0).toNat:=λj hj=>by
  obtain⟨p,e,hp,hy⟩:=(DV hm hyn).1 (Ah (d:=(0:Int)) hj);rw[e,Ap];exact⟨hp,hy⟩
 rcases h2 with⟨rfl,h3⟩|⟨z,rfl,hz,hz2,h4⟩
 ·obtain⟨p,hp,hyp,hp2,_⟩:=hb.fwd;obtain⟨j,hj,e⟩:=mem p hp hyp;exact absurd (by rw[<- e];exact h3 j hj) hp2
 ·have hbest:gY (sN L) L.length (Bw t) (P.getD i 0) z:=λw=>by
   rw[h4 w];refine⟨λha p hp hyp hp2=>?_,λha j hj hj2=>?_⟩
   ·obtain⟨j,hj,e⟩:=mem p hp hyp;have:=ha j hj (by rw[e];exact hp2);rwa[e]at this
   ·grind
  rw[h.best_eq o hi (by rw[<- h.len];exact hz) hz2 hbest]
end
theorem fI{P:List Nat}{i:Nat}(h:i<P.length):(Xo P).getD i 0=((P.getD i 0:Nat):Int):=by
 unfold Xo;rw[Ao _ _ _ (by simpa using h),Ao _ _ _ h,List.getElem_map]
 rfl
theorem fo{t:List Int}{x:Nat}{v:Int}(hx:x<t.length)(h:t.getD x 0=v):t.set x v=t:=by
 subst h;rw[Ao _ _ _ hx];exact List.set_getElem_self hx
section
variable {L:List (List Int)} (hm:Og L=true) {r:Nat} {P:List Nat} (o:Ordered (sN L) r L.length P)
include hm o
theorem jT{t0:List Int}(h:Ready (sN L) r L.length P t0 0):∀(k i:Nat) (b:Bool),i+k=P.length->
  ∃ b',Ad (E6 (Kp L) (Xo (r::P))) (b,(i:Int),CB (sN L) L.length P t0 i)=some (b',CB (sN L) L.length P t0 P.length) /\
   (b'=false↔b=false/\∀ j,i<=j->j<P.length->Bw (CB (sN L) L.length P t0 j) (P.getD j 0)=(Qa (sN L) L.length (CB (sN L) L.length P t0 j) (P.getD j 0):Int)):=by
 have hP64:P.length<=64:=by
  have h1:=U4 L.length (r::P) o.nodup λx hx=>o.lt hx;have h2:=(mayS_iff.1 hm).2.1;simp at h1;omega
 have hdl:(Xo (r::P)).drop (1:Int).toNat=Xo P:=rfl
 have hlen:(Xo P).length=P.length:=by simp[Xo]
 intro k
 induction k with
 | zero=>
  intro i b hi
  obtain rfl:i=P.length:=by omega
  refine⟨b,Am ?_,λh=>⟨h,λj h1 h2=>by omega⟩,λh=>h.1⟩;unfold E6;simp only[hdl,hlen,Cm,Ar]
 | succ k ih=>
  intro i b hi
  have hil:i<P.length:=by omega
  have rd:=h.round o i (by omega);have hma:=bx hm o rd hil;have hyn:P.getD i 0<L.length:=o.lt (Mn _ (Xv hil))
  have hyt:P.getD i 0<(CB (sN L) L.length P t0 i).length:=by rw[rd.len];exact hyn
  have hpred:(Kp L).Pred=Cg L:=rfl
  by_cases he:Bw (CB (sN L) L.length P t0 i) (P.getD i 0)=(Qa (sN L) L.length (CB (sN L) L.length P t0 i) (P.getD i 0):Int)
  ·have hb:((Qa (sN L) L.length (CB (sN L) L.length P t0 i) (P.getD i 0):Int)!=(CB (sN L) L.length P t0 i).getD (P.getD i 0) 0)=false:=by
    have:(CB (sN L) L.length P t0 i).getD (P.getD i 0) 0=_:=he;rw[this];simp
   have hnx:CB (sN L) L.length P t0 (i+1)=CB (sN L) L.length P t0 i:=fo hyt he
   have hs:E6 (Kp L) (Xo (r::P)) (b,(i:Int),CB (sN L) L.length P t0 i)=some (.next (b,((i+1:Nat):Int),CB (sN L) L.length P t0 (i+1))):=by
    unfold E6;simp only[hdl,hlen,Bo hil,Af,Ap,fI hil,hpred,hma,Ak,hb,Ar];rw[Ac (Fl hil),Ac (Fl (by rw[Qe];exact hyn)),Ac (Fl hyt),Ak,w1 (by omega),hnx]
   obtain⟨b',e1,e2⟩:=ih (i+1) b (by omega);refine⟨b',by rw[Aq hs,e1],λh=>?_,λ⟨h1,h2⟩=>e2.2 ⟨h1,λj hj=>h2 j (by omega)⟩⟩;obtain⟨h1,h2⟩:=e2.1 h;refine⟨h1,λj hj1 hj2=>?_⟩
   by_cases e:j=i
   ·subst e;exact he
   ·exact h2 j (by omega) hj2
  ·have hb:((Qa (sN L) L.length (CB (sN L) L.length P t0 i) (P.getD i 0):Int)!=(CB (sN L) L.length P t0 i).getD (P.getD i 0) 0)=true:=by
    rw[zzL83];exact λe=>he e.symm
   have hs:E6 (Kp L) (Xo (r::P)) (b,(i:Int),CB (sN L) L.length P t0 i)=some (.next (true,((i+1:Nat):Int),CB (sN L) L.length P t0 (i+1))):=by
    unfold E6;simp only[hdl,hlen,Bo hil,Af,Ap,fI hil,hpred,hma,Ak,hb];rw[Ac (Fl hil),Ac (Fl (by rw[Qe];exact hyn)),Ac (Fl hyt),Ac (Fl hyt),Ak,w1 (by omega)]
    rfl
   obtain⟨b',e1,e2⟩:=ih (i+1) true (by omega);refine⟨b',by rw[Aq hs,e1],λh=>?_,λ⟨h1,h2⟩=>absurd (h2 i (zzL7 _) hil) he⟩;obtain⟨h1,_⟩:=e2.1 h;cases h1
theorem n3{t0:List Int}(h:Ready (sN L) r L.length P t0 0):∃ b,Ad (E6 (Kp L) (Xo (r::P))) (false,(0:Int),t0)=some (b,CB (sN L) L.length P t0 P.length)/\(b=false↔CM (sN L) L.length P t0):=by
 obtain⟨b,e1,e2⟩:=jT hm o h P.length 0 _ (by omega);refine⟨b,e1,e2.trans ⟨λ⟨_,h2⟩=>?_,λhs=>⟨rfl,λj _ hj=>?_⟩⟩⟩
 ·have key:∀ j,j<=P.length->CB (sN L) L.length P t0 j=t0:=by
   intro j
   induction j with
   | zero=>intro _;rfl
   | succ j ih=>
    intro hj;have ih':=ih (by omega);have rd:=h.round o j (by omega)
    have hyn:P.getD j 0<(CB (sN L) L.length P t0 j).length:=by rw[rd.len];exact o.lt (Mn _ (Xv (by omega)))
    have:CB _ _ P t0 (j+1)=CB _ _ P t0 j:=fo hyn (h2 j (Yh _) (by omega));rw[this,ih']
  intro i hi;have:=h2 i (Yh _) hi;rwa[key i (by omega)]at this
 ·rw[EC o h.len hs j (by omega)];exact hs j hj
open Classical in
theorem lj(j:Nat):H0 (Kp L) (Xo (r::P),WX (sN L) L.length P (Jz L.length r) j)=some (if CM (sN L) L.length P (WX (sN L) L.length P (Jz L.length r) j) then .done (WX (sN L) L.length P (Jz L.length r) (j+1)) else .next (Xo (r::P),WX (sN L) L.length P (Jz L.length r) (j+1))):=by
 obtain⟨b,e1,e2⟩:=n3 hm o (Ready.rounds o j);have hL2:W5 (Kp L) (Xo (r::P))=E6 (Kp L) (Xo (r::P)):=rfl
 have hlen:(0:Int)<=1/\(1:Int)<=((Xo (r::P)).length:Int):=by simp[Xo];omega
 unfold H0;simp only[hL2,e1,Ak];rw[Ac hlen]
 cases b with
 | false=>rw[if_pos (e2.1 rfl)];rfl
 | true=>rw[if_neg (λh=>by have:=e2.2 h;cases this)];rfl
theorem fy:∃ J,CM (sN L) L.length P (WX (sN L) L.length P (Jz L.length r) J)/\Ad (H0 (Kp L)) (Xo (r::P),Jz L.length r)=some (WX (sN L) L.length P (Jz L.length r) J):=by
 obtain⟨J,h1,h2⟩:=xY o;refine⟨J,h2,?_⟩
 have key:∀ d j,j+d=J->Ad (H0 (Kp L)) (Xo (r::P),WX (sN L) L.length P (Jz L.length r) j)=some (WX (sN L) L.length P (Jz L.length r) J):=by
  intro d
  induction d with
  | zero=>
   intro j hj
   obtain rfl:j=J:=by omega
   have hF:=lj hm o j;rw[if_pos h2]at hF;rw[Am hF];have:WX _ _ P _ (j+1)=WX _ _ P _ j:=EC o (Ready.rounds o j).len h2 _ (zzL7 _);rw[this]
  | succ d ih=>
   intro j hj;have hF:=lj hm o j;rw[if_neg (h1 j (by omega))]at hF;rw[Aq hF];exact ih _ (by omega)
 exact key J 0 (by omega)
end
theorem zO(g:TGraph)(r:Int)(h1:Fits g.Succ)(h2:Fits g.Pred):Vd g r=some (UL g r):=by
 unfold UL
 by_cases hc:GJ g=true/\0<=r/\r<g.Succ.length
 ·rw[if_pos hc];obtain⟨hG,h0,hlt⟩:=hc;obtain⟨hm,hg⟩:=lJ hG;obtain⟨hL1,hL64,_⟩:=mayS_iff.1 hm
  have hr:r.toNat<g.Succ.length:=by omega
  obtain⟨O,hO⟩:=Ord.exist (AQ hm) hr;have hord:=(bv g h1 trivial r).1 hG h0 hlt O hO;obtain⟨P,rfl,o⟩:=hO.ordered hr (AQ hm);obtain⟨J,hJ,hl⟩:=fy hm o;have ht:=(PB o hJ).eq hm hr o;rw[ht]at hl;have hlen:(((Xo (r.toNat::P)).length:Int)==0)=false:=zzL34.2 (by simp[Xo];omega)
  have hlen2:(0:Int)<=1/\(1:Int)<=(Xo (r.toNat::P)).length:=by simp[Xo];omega
  have hL2:W5 g _=E6 g (Xo (r.toNat::P)):=rfl
  have hst:(Ua (H0 g (Xo (r.toNat::P),Jz g.Succ.length r.toNat)) (H0 g))=some (ED g.Succ r.toNat):=by
   rw[OY,hg];exact hl
  unfold Vd;rw[hord,Ak,  qy hL1 hL64,Ak,Ac (Ab5 h0 (by simpa using hlt)),Ac hlen2]
  have:(H0 g (Xo (r.toNat::P),Jz g.Succ.length r.toNat))=(Ad (E6 g (Xo (r.toNat::P))) (false,0,(List.replicate g.Succ.length (-2)).set r.toNat (-1))).bind (λx22=>(match x22 with|(b10,l11)=>(bif b10 then(some (.next (Xo (r.toNat::P),l11))) else(some (.done l11))))):=by
   unfold H0 Jz;simp only[hL2];rw[Ac hlen2]
  rw[this]at hst;refine Eq.trans ?_ (Bv (λx =>x.bind λx42=>some x42) hst)
  rfl
 ·rw[if_neg hc];unfold Vd
  have:(GJ g&&(decide (0<=r)&&decide (r<g.Succ.length)))=false:=by
   grind
  rw[(bv g h1 trivial r).2 this]
  rfl
theorem yo{α:Type}(l:List α)(d:α)(p:α->Bool){X:Type}(f:Int->Option (LR Int X))(yes no:X)(hl:l.length<9223372036854775808)(hk:∀ i:Nat,i<l.length->f i=some (bif p (l.getD i d) then .next (w64 ((i:Int)+1)) else .done no))
  (he:f l.length=some (.done yes)):Ad f (0:Int)=some (bif l.all p then yes else no):=by
 have:=Ha l d p f yes no (λi hi hp=>by rw[hk i hi,hp,Af,A3 hi hl]) (λi hi hp=>by grind) he l.length 0 (by omega);rwa[Qs]at this
theorem zB(f:TFunc)(hf:NT f)(l:Int)(t:List Int)(u:List Be):K1 f l t u=some (bif Qx f then 0 else 4,f,l,t,u):=by
 unfold K1 N9;rw[Acy f hf]
 cases Qx f<;>rfl
theorem nA(phis:List A1)(l:List Int)(h1:phis.length<9223372036854775808)(h2:l.length<4611686018427387904):P3 phis l=some (phis.all (J5 l)):=by
 unfold P3
 rw[yo _ _ (J5 l) _ (.inl ()) _ h1 (λi hi=>by
  unfold Qd
  have hd:decide ((i:Int)<phis.length)=true:=by simpa using hi
  simp only[hd, Aa (Ag hi),Cr,QW _ _ h2, J5]
  cases decide ((phis.getD i _).From=l) with
  | false=>rfl
  | true=>
   grind) (by unfold Qd;simp)]
 cases phis.all _<;>rfl
def iB(e:H7):Bool:=!((e.Kind==1 || e.Kind==3)&&(e.Arg !=0))
theorem mw{n:Nat}(e:H7)(hk:Np e n=true):P2 e=some (iB e):=by
 have h4 :=by
  have:=(A4 _ _▸hk).1;unfold DE at this;simp only[A4,Jd]at this;omega
 unfold P2 iB
 have:e.Kind=0\/e.Kind=1\/e.Kind=2\/e.Kind=3:=by omega
 rcases this with h|h|h|h<;>rw[h]<;>cases hb:(e.Arg==0)<;>simp[hb,bne]
theorem jF{L:List (List Int)}(hm:Og L=true){P:List Nat}(h0:0<L.length)(o:Ord (sN L) 0 P):decide (P.length<L.length) = !(List.range L.length).all λi=>(Tc L).getD i false:=by
 have hin:∀ x∈P,x<L.length:=λx hx=>(by obtain⟨Q,rfl,oo⟩:=o.ordered h0 (AQ hm);exact oo.lt hx)
 have hr:∀ z,(Tc L).getD z _=true↔z∈P:=λz=>by
  rw[o.mem z];exact KN (AQ hm) h0 z
 cases ha:(List.range _).all _ with
 | true=>
  have:=((List.perm_ext_iff_of_nodup o.nodup List.nodup_range).2 λi=>⟨λh=>zzL82.2 (hin i h),λh=>(hr i).1 (zzL29.1 ha i h)⟩).length_eq;rw[Sq]at this
  simp;omega
 | false=>
  obtain⟨i,hi,hni⟩:∃ i,i<L.length/\i∉P:=ck λhc=>by
   grind
  have :=U4 L.length _ (zzL117.2 ⟨hni,o.nodup⟩) (λx hx=>by grind);simp at this ⊢;omega
theorem qK{f:TFunc}(hf:OkF f)(l:Int)(t:List Int)(u:List Be):∃ t',Jk f l t u=some (bif Fq f then 0 else 5,f,l,t',u)/\(Fq f=true->t'=Ex f):=by
 have hmax:f.Blocks.length<=maxLen:=by
  have:=hf.blocks;have:(64:Nat)<=maxLen:=by decide
  omega
 unfold Jk;rw[Aca f hmax,Ak]
 cases hs:Sb f with
 | false=>exact⟨t,by unfold Fq;rw[hs];rfl,λh=>by unfold Fq at h;rw[hs]at h;cases h⟩
 | true=>
  have hm:=R9 hs;have hlen:=Pu f
  have hpos:0<(Bu f).length:=by have:=(shape_iff.1 hs).1.1;omega
  obtain⟨h1,h2⟩:=JU hm;obtain⟨P,hP⟩:=Ord.exist (AQ hm) hpos;have ho:=(bv (Kp (Bu f)) h1 trivial 0).1 (fD hm) (by omega) (by show(0:Int)<((Bu f).length:Int);omega) P hP;have hfull:=jF hm hpos hP;simp only[Af, show((0:Int)!=0)=false from rfl,Ar,ho,Ak,show(false==false)=true from rfl]
  have e1:decide (((Xo P).length:Int)<(f.Blocks.length:Int))=decide (P.length<(Bu f).length):=by
   rw[hlen];apply zzL71.2;simp[Xo]
  rw[e1,hfull]
  have hsd:Fq f=(((List.range f.Blocks.length).all λi=>(Tc (Bu f)).getD i false)&&(List.range f.Blocks.length).all λi=>iB (f.Blocks.getD i default).End&&(f.Blocks.getD i default).Phis.all (J5 ((Cg (Bu f)).getD i []))):=by
   unfold Fq;rw[hs,Hn]
   have:∀(n:Nat) (p q:Nat->Bool),((List.range n).all λi=>p i&&q i)=((List.range n).all p&&(List.range n).all q):=λn p q=>by
    grind
   rw[<- this]
   congr 1
   funext i
   show(_&&_&&_)=_
   rw[Bool.and_assoc]
   rfl
  rw[hlen];rw[hsd]
  cases hr:(List.range f.Blocks.length).all _ with
  | false=>exact⟨t,rfl,λh=>by cases h⟩
  | true=>
   refine⟨Ex f,?_,λ_=>rfl⟩;rw[C0,Ar,zO _ 0 h1 h2,Ak,Hn];have hp:=Ux hm
   have hpl:(Kp (Bu f)).Pred.length=f.Blocks.length:=by rw[<- hlen];exact Qe _
   have key:Ad (Dh f l u (Kp (Bu f),0) (Ex f)) (0:Int)=some (bif (List.range f.Blocks.length).all (λi=>iB (f.Blocks.getD i default).End&&(f.Blocks.getD i default).Phis.all (J5 ((Cg (Bu f)).getD i []))) then .inl () else .inr ((5:Int),f,l,Ex f,u)):=by
    have hk:∀ i:Nat,i<f.Blocks.length->Dh f l u (Kp (Bu f),0) (Ex f) (i:Int)=some (bif (iB (f.Blocks.getD i default).End&&(f.Blocks.getD i default).Phis.all (J5 ((Cg (Bu f)).getD i []))) then .next ((i:Int)+1) else .done (.inr ((5:Int),f,l,Ex f,u))):=λi hi=>by
     have hB:=hf.block _ (Ah (d:=(default:Ab)) hi);have hpi:As (i:Int) (Kp (Bu f)).Pred.length:=Ag (by omega);have hpg:((Kp (Bu f)).Pred.getD i []).length<=64:=hp.2 _ (Ah (by rw[Qe];omega));unfold Dh
     have hd:decide ((i:Int)<(f.Blocks.length:Int))=true:=by simpa using hi
     simp only[hd,Af,Aa (Ag hi),Aa hpi,Cr,nA (f.Blocks.getD i default).Phis ((Kp (Bu f)).Pred.getD i []) (by have:=hB.phis;omega) (by omega),Ak];have ha :=mw (n:=f.Blocks.length) (f.Blocks.getD i default).End ((shape_iff.1 hs).2 i hi);rw[ha,A3 hi (by have:=hf.blocks;omega)]
     show _=some (bif (iB (f.Blocks.getD i default).End&&(f.Blocks.getD i default).Phis.all (J5 ((Kp (Bu f)).Pred.getD i []))) then _ else _)
     cases(f.Blocks.getD i default).Phis.all _<;>cases iB (f.Blocks.getD i default).End<;>rfl
    exact MD _ _ _ _ _ (λi hi hp=>by rw[hk i hi,hp];rfl) (λi hi hp=>by rw[hk i hi,hp];rfl) (by unfold Dh;simp)
   show((Ad (Dh f l u (Kp (Bu f),0) (Ex f)) (0:Int)).bind _)=_
   rw[key,Ak]
   cases(List.range f.Blocks.length).all _<;>rfl
theorem yw(o:Ay)(l:Int)(h0:0<=l)(h2:l<=2)(hk:Ih o=true):Us o l=some (!decide (KA l<o.Kind)&&!(decide (l<2)&&decide (1<o.Lanes))):=by
 have hl:=qo hk
 have hK :=by
  simp only[Ih,A4]at hk;have:=hk.1.2.1.1.1;unfold dR at this;simp only[A4,Jd]at this;omega
 unfold Us KA
 have:l=0\/l=1\/l=2:=by omega
 rcases this with rfl|rfl|rfl
 ·have ha:decide (o.Kind<=17) = !decide (17<o.Kind):=by grind
  have hb:(o.Lanes==1) = !decide (1<o.Lanes):=by grind
  show some _=some (!decide (17<o.Kind)&&!(true&&decide _))
  rw[ha,hb]
  cases decide (17<o.Kind)<;>cases decide (1<o.Lanes)<;>rfl
 ·have ha:decide (o.Kind<=20) = !decide (20<o.Kind):=by grind
  have hb:(o.Lanes==1) = !decide (1<o.Lanes):=by grind
  show some _=some (!decide (20<o.Kind)&&!(true&&decide _))
  rw[ha,hb]
  cases decide (20<o.Kind)<;>cases decide (1<o.Lanes)<;>rfl
 ·grind
theorem m9(o:Ay)(ho:dT o)(f:TFunc)(l:Int)(h0:0<=l)(h2:l<=2)(t:List Int)(u:List Be):In o f l t u=some (R6 l o,f,l,t,u):=by
 unfold In R6;rw[SG o ho,Ak]
 cases hk:Ih o with
 | false=>rfl
 | true=>
  rw[show(true==true)=true from rfl,Af,yw o l h0 h2 hk,Ak,Af,Hn]
theorem vB(b:Ab){f:TFunc}(hf:OkF f)(hb:b∈f.Blocks)(l:Int)(h0:0<=l)(h2:l<=2)(t:List Int)(u:List Be):Ms b.Ops f l t u=some (b.Ops.all (R6 l),f,l,t,u):=by
 have hB:=hf.block b hb
 have key:∀ k i ,i+k=b.Ops.length->Ad (Hb b.Ops) (i,f.Params,f.Ret,f.Blocks,l,t,u)=some (bif (b.Ops.drop i).all (R6 l) then .inl (f.Params,f.Ret,f.Blocks,l,t,u) else .inr (false,f,l,t,u)):=by
  intro k
  induction k with
  | zero=>
   intro i h
   obtain rfl:i=b.Ops.length:=by omega
   rw[Am (x:=.inl (f.Params,f.Ret,f.Blocks,l,t,u)) (by unfold Hb;simp)]
   simp
  | succ k ih=>
   intro i h
   have hi:i<b.Ops.length:=by omega
   have hd:decide (i<(b.Ops.length:Int))=true:=by simpa using hi
   have hdr:b.Ops.drop i=b.Ops.getD i default::b.Ops.drop (i+1):=by simp_all
   have hx:=m9 (b.Ops.getD i default) (ng hf hb (Ah hi)) f l h0 h2 t u;rw[hdr,HF]
   cases ho:R6 l _ with
   | true=>
    rw[ho]at hx
    rw[Aq (s':=(((i+1:Nat):Int),f.Params,f.Ret,f.Blocks,l,t,u)) (by
     unfold Hb;simp only[hd, Aa (Ag hi),Cr,hx,   A3 hi (by have:=hB.ops;omega)]
     rfl),ih _ (by omega),Hn]
   | false=>
    rw[ho]at hx
    rw[Am (x:=.inr (false,f,l,t,u)) (by
     unfold Hb
     simp only[hd,Af,Aa (Ag hi),Cr,hx,Ak,J0])]
    rfl
 unfold Ms;rw[show(0:Int)=(0:Nat) from rfl,key b.Ops.length 0 (by omega),Qs]
 cases b.Ops.all _<;>rfl
theorem qD(b:Ab)(h:b.Phis.length<9223372036854775808):L4 b.Phis=some (b.Phis.all λp=>widthB p.Bits):=by
 unfold L4
 rw[yo _ _ (λp=>widthB _) _ (.inl ()) _ h (λi hi=>by
  unfold Mt Sw
  have hd:decide (i<(b.Phis.length:Int))=true:=by simpa using hi
  simp only[hd, Aa (Ag hi),Cr,Ye]
  cases widthB _<;>rfl) (by unfold Mt;simp)]
 cases b.Phis.all _<;>rfl
theorem qC(p:List Int)(h:p.length<9223372036854775808):P1 p=some (p.all widthB):=by
 unfold P1
 rw[yo p 0 widthB _ (.inl ()) _ h (λi hi=>by
  unfold Qc
  have hd:decide (i<(p.length:Int))=true:=by simpa using hi
  simp only[hd, Aa (Ag hi),Cr,Ye]
  cases widthB _<;>rfl) (by unfold Qc;simp)]
 cases p.all _<;>rfl
theorem bb(b:Ab){f:TFunc}(hf:OkF f)(hb:b∈f.Blocks)(l:Int)(h0:0<=l)(h2:l<=2)(t:List Int)(u:List Be):Gm b f l t u=some (J3 l b,f,l,t,u):=by
 unfold Gm J3;rw[qD b (by have:=(hf.block b hb).phis;omega), vB b hf hb l h0 h2 t u]
 cases(b.Phis.all _)<;>rfl
theorem vK{f:TFunc}(hf:OkF f)(l:Int)(h0:0<=l)(h2:l<=2)(t:List Int)(u:List Be):Kg f l t u=some (bif Vw f l then 0 else 6,f,l,t,u):=by
 have key:∀ k i ,i+k=f.Blocks.length->Ad (E5 f.Blocks) (i,f.Params,f.Ret,f.Blocks,l,t,u)=some (bif (f.Blocks.drop i).all (J3 l) then .inl (f.Params,f.Ret,f.Blocks,l,t,u) else .inr (false,f,l,t,u)):=by
  intro k
  induction k with
  | zero=>
   intro i h
   obtain rfl:i=f.Blocks.length:=by omega
   rw[Am (x:=.inl (f.Params,f.Ret,f.Blocks,l,t,u)) (by unfold E5;simp)]
   simp
  | succ k ih=>
   intro i h
   have hi:i<f.Blocks.length:=by omega
   have hd:decide ((i:Int)<f.Blocks.length)=true:=by simpa using hi
   have hdr:f.Blocks.drop i=f.Blocks.getD i default::f.Blocks.drop (i+1):=by simp_all
   have hx:=bb (f.Blocks.getD i default) hf (Ah hi) l h0 h2 t u;rw[hdr,HF]
   cases ho:J3 l _ with
   | true=>
    rw[ho]at hx
    rw[Aq (s':=(((i+1:Nat):Int),f.Params,f.Ret,f.Blocks,l,t,u)) (by
     unfold E5;simp only[hd, Aa (Ag hi),Cr,hx,   A3 hi (by have:=hf.blocks;omega)]
     rfl),ih _ (by omega),Hn]
   | false=>
    rw[ho]at hx
    rw[Am (x:=.inr (false,f,l,t,u)) (by
     unfold E5
     simp only[hd,Af,Aa (Ag hi),Cr,hx,Ak,J0])]
    rfl
 have hall:Kf f.Blocks f l t u=some (f.Blocks.all (J3 l),f,l,t,u):=by
  unfold Kf;rw[show(0:Int)=(0:Nat) from rfl,key f.Blocks.length 0 (by omega),Qs]
  cases f.Blocks.all _<;>rfl
 unfold Kg Vw N9;rw[qC _ (by have:=hf.few;omega), hall,Ye]
 cases f.Params.all _<;>cases widthB f.Ret<;>cases f.Blocks.all _<;>rfl
def xL(d:Ch):Mp:=bif decide (d.Block<0) then⟨0,-1⟩ else⟨d.Block,d.At⟩
def UP(d:Ch):Az:=⟨d.Shape,xL d⟩
def dv(l:List Ch):List (Int×Az):=l.map λd=>(d.V,UP d)
def XJ(acc:List (Int×Az))(v:Int):Bool:=(Ks acc v || decide (v<1)) || decide (1023<v)
def Ly:List (Int×Az)->List Ch->Bool×List (Int×Az)
 | acc,[]=>(true,acc)
 | acc,d::ds=>bif XJ acc d.V then(false,acc) else Ly (Pf acc d.V (UP d)) ds
theorem LU:∀(a b:List Ch) (acc:List (Int×Az)),Ly acc (a++b)=bif (Ly acc a).1 then Ly (Ly acc a).2 b else Ly acc a
 | [],b,acc=>rfl
 | d::a,b,acc=>by
  rw[IL];simp only[Ly]
  cases XJ acc d.V with
  | true=>rfl
  | false =>  exact LU a b _
theorem SV{V:Type}(k:Int):∀ l:List (Int×V),Ks l k=l.any λq=>k==q.1
 | []=>rfl
 | (a,b)::l=>by rw[List.any_cons,<- SV k l];rfl
theorem MH{V:Type}(k:Int)(v:V):∀{l:List (Int×V)},Ks l k=false->Pf l k v=l++[(k,v)]
 | [],_=>rfl
 | (a,b)::l,h=>by
  simp only[Ks,cl]at h;simp only[Pf,h.1,Ar,MH k v h.2,IL]
theorem dz(v:Int)(s:Int×Int)(p:Mp)(f:TFunc)(l:Int)(t:List Int)(vs:List (Int×Az))(u:List Be) :
  Gn v s p f l t vs u=some (bif XJ vs v then(false,f,l,t,u,vs) else(true,f,l,t,u,Pf vs v ⟨s,p⟩)):=by
 unfold Gn XJ
 cases Ks vs v<;>cases decide (v<1)<;>cases decide (1023<v)<;>rfl
def wV(f:TFunc)(l:Int)(t:List Int)(u:List Be)(r:Bool×List (Int×Az)):(List Int×Int×List Ab×Int×List Int×List Be×List (Int×Az)) ⊕ (Bool×TFunc×Int×List Int×List Be×List (Int×Az)):=
 bif r.1 then .inl (f.Params,f.Ret,f.Blocks,l,t,u,r.2) else .inr (false,f,l,t,u,r.2)
theorem y0(b:Ab)(h:b.Phis.length<9223372036854775808)(i:Nat)(f:TFunc)(l:Int)(t:List Int)(u:List Be):∀(k j:Nat) (vs:List (Int×Az)),j+k=b.Phis.length->
  Ad (Dl (i:Int) b) ((j:Int),f.Params,f.Ret,f.Blocks,l,t,u,vs)=some (wV f l t u (Ly vs ((List.range' j k).flatMap λ(k:Nat)=>[(⟨(b.Phis.getD k default).Dst,i,-1,((b.Phis.getD k default).Bits,1)⟩:Ch)]))):=by
 intro k
 induction k with
 | zero=>
  intro j vs hj
  obtain rfl:j=b.Phis.length:=by omega
  rw[Am (x:=.inl (f.Params,f.Ret,f.Blocks,l,t,u,vs)) (by unfold Dl;simp)]
  rfl
 | succ k ih=>
  intro j vs hj
  have hi:j<b.Phis.length:=by omega
  have hd:decide (j<(b.Phis.length:Int))=true:=by simpa using hi
  have hx:=dz (b.Phis.getD j default).Dst ((b.Phis.getD j default).Bits,1) ⟨(i:Int),-1⟩ f l t vs u
  have hat:xL ⟨(b.Phis.getD j default).Dst,i,-1,((b.Phis.getD j default).Bits,1)⟩=⟨i,-1⟩:=by   rfl
  rw[HC,UZ,List.singleton_append];simp only[Ly]
  cases hb:XJ vs _ with
  | true=>
   rw[hb]at hx
   rw[Am  (by
    unfold Dl Ed;simp only[hd, Aa (Ag hi),Cr,Ak];rw[ hx]
    rfl)]
   rfl
  | false=>
   rw[hb]at hx
   rw[Aq (s':=(((j+1:Nat):Int),f.Params,f.Ret,f.Blocks,l,t,u,Pf vs _ _)) (by
    unfold Dl Ed;simp only[hd, Aa (Ag hi),Cr,Ak];rw[ hx,A3 hi h]
    rfl),ih _ _ (by omega)]
   unfold UP
   rfl
theorem Ab0{f0:TFunc}(hf:OkF f0){b:Ab}(hb:b∈f0.Blocks)(i:Nat)(f:TFunc)(l:Int)(t:List Int)(u:List Be):∀(k j:Nat) (vs:List (Int×Az)),j+k=b.Ops.length->
  Ad (Co (i:Int) b) ((j:Int),f.Params,f.Ret,f.Blocks,l,t,u,vs)=some (wV f l t u (Ly vs ((List.range' j k).flatMap λ(k:Nat)=>bif decide (0<(Qb (b.Ops.getD k default)).1) then[(⟨(b.Ops.getD k default).Dst,i,k,Qb (b.Ops.getD k default)⟩:Ch)] else[]))):=by
 have hB:=hf.block b hb;intro k
 induction k with
 | zero=>
  intro j vs hj
  obtain rfl:j=b.Ops.length:=by omega
  rw[Am (x:=.inl (f.Params,f.Ret,f.Blocks,l,t,u,vs)) (by unfold Co;simp)]
  rfl
 | succ k ih=>
  intro j vs hj
  have hi:j<b.Ops.length:=by omega
  have hd:decide ((j:Int)<(b.Ops.length:Int))=true:=by simpa using hi
  have hg:Rq _=some (Qb (b.Ops.getD j default)):=ig _ (ng hf hb (Ah hi));have hx:=dz (b.Ops.getD j default).Dst (Qb (b.Ops.getD j default)) (⟨(i:Int),(j:Int)⟩:Mp) f l t vs u
  have hat:xL (⟨(b.Ops.getD j default).Dst,i,j,Qb (b.Ops.getD j default)⟩:Ch)=⟨(i:Int),(j:Int)⟩:=by unfold xL; rfl
  rw[HC,UZ]
  cases hp:decide (0<(Qb _).1) with
  | false=>
   rw[Ar,Um,<- ih (j+1) vs (by omega),Aq (s':=(((j+1:Nat):Int),f.Params,f.Ret,f.Blocks,l,t,u,vs)) (by
    unfold Co;simp only[hd,Af,Aa (Ag hi),Cr,hg,Ak,hp];rw[A3 hi (by have:=hB.ops;omega)]
    rfl)]
  | true=>
   rw[Af,List.singleton_append];simp only[Ly]
   cases hb:XJ vs _ with
   | true=>
    rw[hb]at hx
    rw[Am  (by
     unfold Co;simp only[hd,Af,Aa (Ag hi),Cr,hg,Ak,hp];rw[show(true==true)=true from rfl,Af, hx]
     rfl)]
    rfl
   | false=>
    rw[hb]at hx
    rw[Aq (s':=(((j+1:Nat):Int),f.Params,f.Ret,f.Blocks,l,t,u,Pf vs _ _)) (by
     unfold Co;simp only[hd,Af,Aa (Ag hi),Cr,hg,Ak,hp];rw[show(true==true)=true from rfl,Af, hx,A3 hi (by have:=hB.ops;omega)]
     rfl),ih (j+1) _ (by omega)]
    unfold UP
    rfl
theorem d5{f:TFunc}(hf:OkF f){b:Ab}(hb:b∈f.Blocks)(i:Nat)(l:Int)(t:List Int)(u:List Be)(vs:List (Int×Az)) :
  G6 (i:Int) b f l t vs u=some ((Ly vs (U8 b i)).1,f,l,t,u,(Ly vs (U8 b i)).2):=by
 unfold G6 U8;rw[show 0=((0:Nat):Int) from rfl,y0 b (by have:=(hf.block b hb).phis;omega) i f l t u b.Phis.length 0 vs (by omega),Ak,LU];rw[show(List.range' 0 _).flatMap _=Wf b i by rw[Wf,Sp]];unfold wV
 cases h1:(Ly vs _).1 with
 | false=>grind
 | true=>
  simp only[Af];rw[Ab0 hf hb i f l t u b.Ops.length 0 _ (by omega)];rw[show(List.range' 0 _).flatMap _=HU b i by rw[HU,Sp]];unfold wV;cases h2:(Ly _ _).1<;>rfl
theorem ZT{l:List Ch}{i:Nat}(hi:i<l.length):Vg l i=true↔valS (l.getD i default).V=true/\∀ j,j<i->(l.getD j default).V≠(l.getD i default).V:=by
 unfold Vg;rw[A4];refine and_congr Iff.rfl ?_;unfold N6
 cases hx:l.findIdx? _ with
 | none=>
  rw[List.findIdx?_eq_none_iff]at hx;have:=hx _ (Ah (d:=default) hi);simp at this
 | some j=>
  obtain⟨hj,h1,h2⟩:=List.findIdx?_eq_some_iff_getElem.1 hx;simp only[zzL45]
  constructor
  ·grind
  ·intro h
   have hv:(l.getD j default).V=(l.getD i default).V:=by grind
   rcases Nat.lt_trichotomy j i with hlt|rfl|hgt
   ·grind
   ·rfl
   ·grind
theorem vv(l:List Ch)(v:Int):Ks (dv l) v=l.any λd=>v==d.V:=by
 rw[SV,dv,List.any_map];rfl
theorem RU:∀(ds pre:List Ch),(Ly (dv pre) ds).1=(List.range' pre.length ds.length).all (Vg (pre++ds))/\((Ly (dv pre) ds).1=true->(Ly (dv pre) ds).2=dv (pre++ds))
 | [],pre=>by simp[Ly]
 | d::ds,pre=>by
  have hi:pre.length<(pre++d::ds).length:=by simp
  have hg:(pre++d::ds).getD pre.length default=d:=by simp[List.getD]
  have hj:∀ j,j<pre.length->(pre++d::ds).getD j default=pre.getD j default:=λj h=>by grind
  have hok:Vg (pre++d::ds) pre.length = !XJ (dv pre) d.V:=by
   rw[Ul,ZT hi,hg];unfold XJ valS;rw[vv];simp only[Qr,cl,UX,List.any_eq_false,zzL45,A4,Jd]
   constructor
   ·rintro⟨⟨h1,h2⟩,h3⟩;refine⟨⟨λx hx he=>?_,by omega⟩,by omega⟩;obtain⟨j,hjl,rfl⟩:=Nc hx;have:=h3 j hjl;rw[hj j hjl,Ao _ _ _ hjl]at this;exact this he.symm
   ·grind
  rw[Tz,HC,HF,hok];simp only[Ly]
  cases hb:XJ _ d.V with
  | true=>grind
  | false=>
   have hn :=by
    unfold XJ at hb;simp only[cl]at hb;exact hb.1.1
   have hs:Pf (dv pre) d.V (UP d)=dv (pre++[d]):=by rw[MH _ _ hn,dv,dv,PJ];rfl
   have:=RU ds (pre++[d]);rw[G3,LC]at this;rw[ hs,J0];exact this
def pv(f:TFunc)(n:Nat):List (Int×Az):=(List.range n).map λ(j:Nat)=>((j:Int)+1,⟨(f.Params.getD j 0,1),⟨0,-1⟩⟩)
theorem Acm(f:TFunc):pv f f.Params.length=dv (Uh f):=by
 unfold pv dv Uh
 induction List.range _ with
 | nil=>rfl
 | cons a l ih=>rw[Cz, ih];rfl
theorem qJ{f:TFunc}(hf:OkF f):∀(k i:Nat),i+k=f.Params.length->Ad (Gp f) ((i:Int),pv f i)=some (pv f f.Params.length):=by
 intro k
 induction k with
 | zero=>
  intro i h
  obtain rfl:i=f.Params.length:=by omega
  exact Am (by unfold Gp;simp)
 | succ k ih=>
  intro i h
  have hi:i<f.Params.length:=by omega
  have hd:decide ((i:Int)<(f.Params.length:Int))=true:=by simpa using hi
  have hn:Ks (pv f i) ((i:Int)+1)=false:=by
   rw[SV,pv,List.any_map,List.any_eq_false];intro j hj;have:=zzL82.1 hj
   simp;omega
  have hs:Pf (pv f i) ((i:Int)+1) ⟨(f.Params.getD i 0,1),⟨0,-1⟩⟩=pv f (i+1):=by
   rw[MH _ _ hn,pv,pv,LE,PJ];rfl
  rw[Aq  (by
   unfold Gp Ed;simp only[hd,Af,Aa (Ag hi),Cr,Ak,A3 hi (by have:=hf.few;omega),hs]
   rfl)]
  exact ih (i+1) (by omega)
theorem qE{f:TFunc}(hf:OkF f)(l:Int)(t:List Int)(u:List Be):∀(k i:Nat) (vs:List (Int×Az)),i+k=f.Blocks.length->
  Ad (Ec f) ((i:Int),vs,f.Params,f.Ret,f.Blocks,l,t,u)=some (bif (Ly vs ((List.range' i k).flatMap λi=>U8 (f.Blocks.getD i default) i)).1 then .inl ((Ly vs ((List.range' i k).flatMap λi=>U8 (f.Blocks.getD i default) i)).2,f.Params,f.Ret,f.Blocks,l,t,u) else
   .inr (7,f,l,t,u,(Ly vs ((List.range' i k).flatMap λi=>U8 (f.Blocks.getD i default) i)).2)):=by
 intro k
 induction k with
 | zero=>
  intro i vs h
  obtain rfl:i=f.Blocks.length:=by omega
  rw[Am (x:=.inl (vs,f.Params,f.Ret,f.Blocks,l,t,u)) (by unfold Ec;simp)]
  rfl
 | succ k ih=>
  intro i vs h
  have hi:i<f.Blocks.length:=by omega
  have hd:decide (i<(f.Blocks.length:Int))=true:=by simpa using hi
  have hx:=d5 hf (Ah (d:=default) hi) i l t u vs;rw[HC,UZ,LU]
  cases hb:(Ly vs _).1 with
  | false=>
   rw[hb]at hx
   rw[Am  (by
    unfold Ec;simp only[hd, Aa (Ag hi),Cr];rw[ hx]
    rfl),Ar,hb]
   rfl
  | true=>
   rw[hb]at hx
   rw[Aq (s':=(((i+1:Nat):Int),(Ly vs _).2,f.Params,f.Ret,f.Blocks,l,t,u)) (by
    unfold Ec;simp only[hd, Aa (Ag hi),Cr];rw[ hx,A3 hi (by have:=hf.blocks;omega)]
    rfl),ih _ _ (by omega),Af]
theorem okP{f:TFunc}(hf:OkF f):∀ i,i<f.Params.length->Vg (Bf f) i=true:=λi hi=>by
 have hl:=FI f
 have hg:∀ j,j<f.Params.length->(Bf f).getD j default=⟨j+1,-1,0,(f.Params.getD j 0,1)⟩:=λj hj=>by
  have e:Uh f=(List.range f.Params.length).map λi=>⟨(i:Int)+1,-1,0,(f.Params.getD i 0,1)⟩:=by
   unfold Uh
   induction List.range _ with
   | nil=>rfl
   | cons a l ih=>grind
  rw[Bf,List.getD,Wu (by omega),e];simp[hj]
 have hle:i<(Bf f).length:=by rw[Bf,G3];omega
 rw[ZT hle,hg i hi];refine⟨?_,λj hj=>?_⟩
 ·have:=hf.few;simp only[valS,A4,Jd];omega
 ·grind
theorem m6{f:TFunc}(hf:OkF f)(l:Int)(t:List Int)(u:List Be):∃ vs,Il f l t u=some (bif (List.range (Bf f).length).all (Vg (Bf f)) then 0 else 7,f,l,t,u,vs)/\((List.range (Bf f).length).all (Vg (Bf f))=true->vs=dv (Bf f)):=by
 have hsp:=RU ((List.range f.Blocks.length).flatMap λi=>U8 (f.Blocks.getD i default) i) (Uh f)
 have hall:(List.range (Bf f).length).all (Vg (Bf f))=(Ly (dv (Uh f)) ((List.range f.Blocks.length).flatMap λi=>U8 (f.Blocks.getD i default) i)).1:=by
  rw[hsp.1]
  show(List.range _).all _=(List.range' _ _).all (Vg (Bf f))
  have hs:List.range (Bf f).length=List.range (Uh f).length++List.range' (Uh f).length ((List.range f.Blocks.length).flatMap λi=>U8 (f.Blocks.getD i default) i).length:=by
   rw[Sp,Sp,Bf,G3];have:=List.range'_append_1 (s:=0) (m:=(Uh f).length) (n:=((List.range f.Blocks.length).flatMap λi=>U8 (f.Blocks.getD i default) i).length);rw[Ie]at this;exact this.symm
  rw[hs,List.all_append];have :=zzL29.2 λi hi=>okP hf i (by rw[<- FI f];exact zzL82.1 hi);rw[this,Hn]
 unfold Il;have hp:=qJ hf f.Params.length 0 (by omega);have e0:pv f 0=[]:=rfl;rw[e0,show(((0:Nat):Int))=0 from rfl]at hp;rw[hp,Ak,Acm];have hb:=qE hf l t u f.Blocks.length 0 (dv (Uh f)) (by omega);rw[show(((0:Nat):Int))=0 from rfl,<- Sp]at hb;rw[hb, hall];refine⟨(Ly _ _).2,?_,hsp.2⟩
 cases(Ly _ _).1<;>rfl
theorem FP{β S X:Type}(B:Nat)(mk:Int->List β->S)(out:List β->X)(n:Nat)(E:Nat->List β)(f:S->Option (LR S X))(hn:∀(acc:List β) (i:Nat),i<n->(acc++E i).length<=B->f (mk i acc)=some (.next (mk ((i:Int)+1) (acc++E i))))
  (hd:∀ acc:List β,f (mk n acc)=some (.done (out acc))):∀(k i:Nat) (acc:List β),i+k=n->(acc++(List.range' i k).flatMap E).length<=B->Ad f (mk i acc)=some (out (acc++(List.range' i k).flatMap E))
 | 0,i,acc,h,_=>by
  obtain rfl:i=n:=by omega
  rw[Am (hd acc)]
  simp
 | k+1,i,acc,h,hB=>by
  have hi:i<n:=by omega
  rw[HC,UZ,<- LC]at hB ⊢;rw[Aq (hn acc i hi (by grind)),show(i+1)=((i+1:Nat):Int) by omega,FP B mk out n E f hn hd k _ _ (by omega) hB]
theorem fC{β γ:Type}(h:β->γ)(n:Nat)(g:Nat->β):(List.range' 0 n).flatMap (λj=>[h (g j)])=((List.range n).flatMap λj=>[g j]).map h:=by
 rw[List.map_flatMap,Sp];rfl
theorem SS{β γ:Type}(h:β->γ)(n:Nat)(g:Nat->List β):(List.range' 0 n).flatMap (λj=>(g j).map h)=((List.range n).flatMap g).map h:=by
 rw[List.map_flatMap,Sp]
def T9(f:TFunc)(b:Int):Int:=((f.Blocks.getD b.toNat default).Ops.length:Int)
def J6(f:TFunc)(u:Dd):Be:=⟨u.V,u.Shape,⟨u.Block,bif u.At==1000 then T9 f u.Block else u.At⟩⟩
theorem kv(f:TFunc)(l:Int)(t:List Int)(vs:List (Int×Az))(v:Int)(s:Int×Int)(p:Mp)(u:List Be)(h:(u++[(⟨v,s,p⟩:Be)]).length<=10000000):Ey v s p f l t vs u=some (f,l,t,u++[⟨v,s,p⟩]):=by
 unfold Ey;rw[Ac (by rw[G3]at h;rw[KT];omega)]
theorem qH(f:TFunc)(l:Int)(t:List Int)(vs:List (Int×Az))(b:Int)(hb:As b f.Blocks.length)(u:List Be):Gz b f l t vs u=some (⟨b,T9 f b⟩,f,l,t,u):=by
 unfold Gz;rw[Ac hb];rfl
section
variable {f:TFunc} (hf:OkF f) (l:Int) (t:List Int) (vs:List (Int×Az))
include hf
theorem yz(i k:Nat)(hi:i<f.Blocks.length)(hk:k<(f.Blocks.getD i default).Phis.length)(hfit:((f.Blocks.getD i default).Phis.getD k default).Args.length<=((f.Blocks.getD i default).Phis.getD k default).From.length)
  (hin:∀ x∈((f.Blocks.getD i default).Phis.getD k default).From,As x f.Blocks.length) (u:List Be) (hB:(u++(Pv ((f.Blocks.getD i default).Phis.getD k default)).map (J6 f)).length<=10000000) :
  Ad (D7 f vs (i:Int) (k:Int)) ((0:Int),f.Params,f.Ret,f.Blocks,l,t,u)=some (f.Params,f.Ret,f.Blocks,l,t,u++(Pv ((f.Blocks.getD i default).Phis.getD k default)).map (J6 f)):=by
 have hlen:=TF hf (Ah  hi) (Ah (d:=default) hk)
 generalize hp:(f.Blocks.getD i _).Phis.getD k _=p at *
 have e:=fC (J6 f) p.Args.length λj=>⟨p.Args.getD j 0,p.From.getD j 0,1000,(p.Bits,1)⟩
 have:=FP _ (λj u=>(j,f.Params,f.Ret,f.Blocks,l,t,u)) (λu=>(f.Params,f.Ret,f.Blocks,l,t,u)) _ (λj=>[J6 f _]) (D7 f vs i k) (λacc j hj hacc=>by
  unfold D7 Ed
  have hd:decide (j<(p.Args.length:Int))=true:=by simpa using hj
  have hjf:j<p.From.length:=by omega
  simp only[Cr,hp,hd,Af,Aa (Ag hj),Ak,Aa (Ag hjf)];rw[ qH f l t vs _ (hin _ (Ah hjf)),Ak];have eu:J6 f ⟨p.Args.getD j 0,p.From.getD j 0,1000,(p.Bits,1)⟩=⟨p.Args.getD j 0,(p.Bits,1),⟨p.From.getD j 0,T9 f _⟩⟩:=rfl;rw[eu]at hacc ⊢
  rw[kv f l t vs _ _ _ acc hacc,Ak,A3 hj (by omega)]) (λacc=>by unfold D7;simp only[Cr,hp,show decide (p.Args.length<(p.Args.length:Int))=false by simp,Ar]) p.Args.length 0 u (by omega) (by rw[e];exact hB)
 rw[e]at this;exact this
theorem vJ(i:Nat)(hi:i<f.Blocks.length)(hfit:∀ p∈(f.Blocks.getD i default).Phis,p.Args.length<=p.From.length/\∀ x∈p.From,As x f.Blocks.length)(u:List Be)(hB:(u++(O2 (f.Blocks.getD i default)).map (J6 f)).length<=10000000) :
  Ad (D8 f vs (i:Int)) ((0:Int),f.Params,f.Ret,f.Blocks,l,t,u)=some (f.Params,f.Ret,f.Blocks,l,t,u++(O2 (f.Blocks.getD i default)).map (J6 f)):=by
 have hBk:=hf.block _ (Ah (d:=default) hi);have e:=SS (J6 f) (f.Blocks.getD i default).Phis.length λk=>Pv ((f.Blocks.getD i default).Phis.getD k default)
 have:=FP _ (λj u=>(j,f.Params,f.Ret,f.Blocks,l,t,u)) (λu=>(f.Params,f.Ret,f.Blocks,l,t,u)) _ _ (D8 f vs i) (λacc k hk hacc=>by
  have hq:=hfit _ (Ah (d:=default) hk);have h1:=yz hf l t vs i k hi hk hq.1 hq.2 acc hacc;unfold D8
  have hd:decide ((k:Int)<(f.Blocks.getD i default).Phis.length)=true:=by simpa using hk
  simp only[Cr,hd,Af,Aa (Ag hk),h1,Ak,A3 hk (by have:=hBk.phis;omega)]) (λacc=>by unfold D8;simp) (f.Blocks.getD i default).Phis.length 0 u (by omega) (by rw[e];exact hB)
 rw[e]at this;exact this
theorem Abz(i k:Nat)(hi:i<f.Blocks.length)(hk:k<(f.Blocks.getD i default).Ops.length)(u:List Be)(hB:(u++(Td ((f.Blocks.getD i default).Ops.getD k default) i k).map (J6 f)).length<=10000000) :
  Ad (D9 f vs (i:Int) (k:Int) (Jq ((f.Blocks.getD i default).Ops.getD k default))) ((0:Int),f.Params,f.Ret,f.Blocks,l,t,u)=some (f.Params,f.Ret,f.Blocks,l,t,u++(Td ((f.Blocks.getD i default).Ops.getD k default) i k).map (J6 f)):=by
 have hBk:=hf.block _ (Ah (d:=default) hi);have hlen:=Zr (ZW hf (Ah  hi) (Ah (d:=default) hk));have hk512:=hBk.ops
 generalize hp:(f.Blocks.getD i _).Ops.getD k _=o at *
 have e:=fC (J6 f) (Jq o).length λj=>⟨o.Args.getD j 0,i,k,(Jq o).getD j (0,0)⟩
 have:=FP _ (λj u=>(j,f.Params,f.Ret,f.Blocks,l,t,u)) (λu=>(f.Params,f.Ret,f.Blocks,l,t,u)) _ (λj=>[J6 f _]) (D9 f vs i k (Jq o)) (λacc j hj hacc=>by
  have hkk:((k:Int)==1000)=false:=by simp;omega
  have eu:J6 f ⟨o.Args.getD j 0,i,k,(Jq o).getD j (0,0)⟩=⟨o.Args.getD j 0,(Jq o).getD j (0,0),⟨i,k⟩⟩:=by unfold J6;simp only[hkk,Ar]
  rw[eu]at hacc ⊢;unfold D9
  have hd:decide (j<((Jq o).length:Int))=true:=by simpa using hj
  have hja:j<o.Args.length:=by omega
  simp only[Cr,hp,hd,Af,Aa (Ag hj),Aa (Ag hja)]
  rw[ kv f l t vs _ _ _ acc hacc,Ak,A3 hj (by omega)]) (λacc=>by unfold D9;simp) (Jq o).length 0 u (by omega) (by rw[e];exact hB)
 rw[e]at this;exact this
theorem yy(i:Nat)(hi:i<f.Blocks.length)(u:List Be)(hB:(u++(Vx (f.Blocks.getD i default) i).map (J6 f)).length<=10000000) :
  Ad (Ea f vs (i:Int)) ((0:Int),f.Params,f.Ret,f.Blocks,l,t,u)=some (f.Params,f.Ret,f.Blocks,l,t,u++(Vx (f.Blocks.getD i default) i).map (J6 f)):=by
 have hmem:=Ah (d:=default) hi;have hBk:=hf.block _ hmem;have e:=SS (J6 f) (f.Blocks.getD i default).Ops.length λk=>Td ((f.Blocks.getD i default).Ops.getD k default) i k
 have:=FP _ (λj u=>(j,f.Params,f.Ret,f.Blocks,l,t,u)) (λu=>(f.Params,f.Ret,f.Blocks,l,t,u)) _ _ (Ea f vs i) (λacc k hk hacc=>by
  have h1:=Abz hf l t vs i k hi hk acc hacc;have ht:Rr _=some (Jq ((f.Blocks.getD i _).Ops.getD k default)):=ij _ (ng hf hmem (Ah hk));unfold Ea
  have hd:decide (k<((f.Blocks.getD i default).Ops.length:Int))=true:=by simpa using hk
  simp only[Cr,hd,Af,Aa (Ag hk),ht,h1,Ak,A3 hk (by have:=hBk.ops;omega)]) (λacc=>by unfold Ea;simp) (f.Blocks.getD i default).Ops.length 0 u (by omega) (by rw[e];exact hB)
 rw[e]at this;exact this
theorem mz(hfit:∀ b∈f.Blocks,∀ p∈b.Phis,p.Args.length<=p.From.length/\∀ x∈p.From,As x f.Blocks.length):Ik f l t vs []=some (f,l,t,(B9 f).map (J6 f)):=by
 have e:=SS (J6 f) f.Blocks.length λ(i:Nat)=>PC f (f.Blocks.getD i default) i;have hul:=MW hf
 have:=FP 10000000 (λj u=>(j,f.Params,f.Ret,f.Blocks,l,t,u)) (λu=>(f.Params,f.Ret,f.Blocks,l,t,u)) f.Blocks.length (λ(i:Nat)=>(PC f (f.Blocks.getD i default) i).map (J6 f)) (Eb f vs) (λacc i hi hacc=>by
  have hmem:=Ah (d:=(default:Ab)) hi;unfold PC at hacc ⊢;rw[PJ,PJ,<- LC,<- LC]at hacc ⊢;have l1:=hacc;simp only[G3,Ns]at l1;have h1:=vJ hf l t vs i hi (hfit _ hmem) acc (by simp only[G3,Ns];omega);have h2:=yy hf l t vs i hi (acc++(O2 (f.Blocks.getD i default)).map (J6 f)) (by simp only[G3,Ns];omega);have hinb:As (i:Int) f.Blocks.length:=Ag hi;unfold Eb Ed
  have hd:decide ((i:Int)<(f.Blocks.length:Int))=true:=by simpa using hi
  simp only[hd,Af,Aa (Ag hi),h1,Ak,h2,Cr];have hF:(⟨f.Params,f.Ret,f.Blocks⟩:TFunc)=f:=rfl;have hw:w64 ((i:Int)+1)=(i:Int)+1:=A3 hi (by have:=hf.blocks;omega);unfold FZ at hacc ⊢
  cases hz:((f.Blocks.getD i default).End.Kind==0) with
  | true=>
   have hz2:((f.Blocks.getD i default).End.Kind==2)=false:=by
    have:(f.Blocks.getD i default).End.Kind=0:=by simpa using hz
    rw[this];rfl
   rw[hz,hz2]at hacc;simp only[Af,Ar,hz2,List.append_nil,Cz,J8]at hacc ⊢;rw[hF,qH f l t vs _ hinb,Ak];simp only;rw[kv f l t vs _ _ _ _ (show(_++[(⟨_,_,⟨(i:Int),T9 f (i:Int)⟩⟩:Be)]).length<=10000000 from hacc),Ak,Ak,hw]
   rfl
  | false=>
   rw[hz]at hacc
   cases hz2:((f.Blocks.getD i default).End.Kind==2) with
   | true=>
    rw[hz2]at hacc;simp only[Af,Ar,Um,Cz,J8]at hacc ⊢;rw[hF,qH f l t vs _ hinb,Ak];simp only;rw[kv f l t vs _ _ _ _ (show(_++[(⟨_,_,⟨(i:Int),T9 f (i:Int)⟩⟩:Be)]).length<=10000000 from hacc),Ak,Ak,hw]
    rfl
   | false=>
    simp only[Ar,Um,J8,List.append_nil,Ak,hw]) (λacc=>by unfold Eb;simp) f.Blocks.length 0 [] (by omega) (by rw[e];simpa [B9] using(by omega:(B9 f).length<=10000000))
 rw[e,Um]at this;unfold Ik;rw[show(0:Int)=((0:Nat):Int) from rfl]
 show((Ad (Eb f vs) (((0:Nat):Int),f.Params,f.Ret,f.Blocks,l,t,[])).bind _)=_
 rw[this,Ak]
 rfl
end
end
end Go.Proofs.YtlnbjgmjaioagaaGreat
