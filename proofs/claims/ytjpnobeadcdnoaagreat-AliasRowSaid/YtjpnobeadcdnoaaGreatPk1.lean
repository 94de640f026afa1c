/-
  The machine, the program's functions and the laws' arithmetic: part 1 of 5.
-/
import Derived.Laws.BytesString
import Derived.Laws.Cells
import Derived.Laws.Cover3
import Derived.Laws.RangeAny
import Derived.Laws.Strings
import Derived.Lib.FrozenHead
import Derived.WalkKit
import Derived.WalkMore
set_option linter.unusedSectionVars false
set_option linter.unusedVariables false
set_option linter.unusedSimpArgs false
namespace Go.Proofs.YtjpnobeadcdnoaaGreat
noncomputable section
theorem Af:type_of% @Option.some.injEq:=@Option.some.injEq
theorem Ar:type_of% @Option.bind_some:=@Option.bind_some
theorem Ae:type_of% @cond_true:=@cond_true
theorem A6:type_of% @Bool.and_eq_true:=@Bool.and_eq_true
theorem B2:type_of% @Nat.eq_of_beq_eq_true:=@Nat.eq_of_beq_eq_true
theorem Az:type_of% @cond_false:=@cond_false
theorem Bu:type_of% @List.map_cons:=@List.map_cons
theorem zzL7:type_of% @Nat.le_refl:=@Nat.le_refl
theorem Cl:type_of% @List.cons.injEq:=@List.cons.injEq
theorem Ds:type_of% @Go.run_underlying:=@Go.run_underlying
theorem Dt:type_of% @Nat.mul_le_mul_right:=@Nat.mul_le_mul_right
theorem zzL11:type_of% @List.mem_append:=@List.mem_append
theorem Do:type_of% @Int.toNat_natCast:=@Int.toNat_natCast
theorem Du:type_of% @decide_eq_true_eq:=@decide_eq_true_eq
theorem Dv:type_of% @Go.Result.andThen_ok:=@Go.Result.andThen_ok
theorem zzL15:type_of% @List.mem_singleton:=@List.mem_singleton
theorem Dm:type_of% @decide_eq_false:=@decide_eq_false
theorem Em:type_of% @List.length_append:=@List.length_append
theorem Fh:type_of% @List.mem_cons_of_mem:=@List.mem_cons_of_mem
theorem Cf:type_of% @List.map_nil:=@List.map_nil
theorem Da:type_of% @decide_eq_true:=@decide_eq_true
theorem Bf:type_of% @and_true:=@and_true
theorem C2:type_of% @Go.Sem.run_bind:=@Go.Sem.run_bind
theorem G6:type_of% @Nat.le_of_ble_eq_true:=@Nat.le_of_ble_eq_true
theorem zzL24:type_of% @List.mem_cons:=@List.mem_cons
theorem zzL25:type_of% @beq_eq_false_iff_ne:=@beq_eq_false_iff_ne
theorem zzL26:type_of% @List.mem_map:=@List.mem_map
theorem zzL27:type_of% @List.all_eq_true:=@List.all_eq_true
theorem En:type_of% @Go.Sem.run_pure:=@Go.Sem.run_pure
theorem D9:type_of% @Nat.add_mul:=@Nat.add_mul
theorem Cg:type_of% @congrArg:=@congrArg
theorem Fi:type_of% @Bool.not_true:=@Bool.not_true
theorem Nb:type_of% @Array.getD_eq_getD_getElem?:=@Array.getD_eq_getD_getElem?
theorem Fp:type_of% @Nat.zero_add:=@Nat.zero_add
theorem Jn:type_of% @List.mem_cons_self:=@List.mem_cons_self
theorem zzL35:type_of% @List.mem_range:=@List.mem_range
theorem Oi:type_of% @List.getD_eq_getElem?_getD:=@List.getD_eq_getElem?_getD
theorem H8:type_of% @List.length_set:=@List.length_set
theorem Pg:type_of% @List.drop_eq_getElem_cons:=@List.drop_eq_getElem_cons
theorem Lq:type_of% @List.getElem_of_mem:=@List.getElem_of_mem
theorem Hn:type_of% @Bool.true_and:=@Bool.true_and
theorem Ii:type_of% @Prod.mk.injEq:=@Prod.mk.injEq
theorem Jo:type_of% @Go.run_sliceBound:=@Go.run_sliceBound
theorem Gz:type_of% @Nat.blt_eq:=@Nat.blt_eq
theorem Sj:type_of% @List.getElem?_eq_getElem:=@List.getElem?_eq_getElem
theorem E0:type_of% @if_false:=@if_false
theorem Lh:type_of% @Bool.not_false:=@Bool.not_false
theorem Nc:type_of% @List.length_cons:=@List.length_cons
theorem Ms:type_of% @Bool.eq_iff_iff:=@Bool.eq_iff_iff
theorem Mt:type_of% @Nat.not_lt_zero:=@Nat.not_lt_zero
theorem Lr:type_of% @List.drop_zero:=@List.drop_zero
theorem Vy:type_of% @List.getElem?_append_left:=@List.getElem?_append_left
theorem Nd:type_of% @List.length_map:=@List.length_map
theorem Kn:type_of% @Go.Addr.add_lit:=@Go.Addr.add_lit
theorem Vz:type_of% @Go.heap_alloc_new:=@Go.heap_alloc_new
theorem Ph:type_of% @Bool.not_eq_true':=@Bool.not_eq_true'
theorem Uf:type_of% @List.length_singleton:=@List.length_singleton
theorem zzL57:type_of% @List.mem_flatMap:=@List.mem_flatMap
theorem Qk:type_of% @of_decide_eq_true:=@of_decide_eq_true
theorem Ko:type_of% @Go.cell_of_row:=@Go.cell_of_row
theorem Ls:type_of% @Nat.add_zero:=@Nat.add_zero
theorem zzL61:type_of% @beq_iff_eq:=@beq_iff_eq
theorem Li:type_of% @Nat.zero_le:=@Nat.zero_le
theorem Ql:type_of% @beq_self_eq_true:=@beq_self_eq_true
theorem BL:type_of% @List.getElem?_append_right:=@List.getElem?_append_right
theorem zzL65:type_of% @Nat.eq_zero_or_pos:=@Nat.eq_zero_or_pos
theorem zzL66:type_of% @List.mem_filter:=@List.mem_filter
theorem V0:type_of% @Int.toNat_of_nonneg:=@Int.toNat_of_nonneg
theorem Hj:type_of% @if_true:=@if_true
theorem Hk:type_of% @Ne.symm:=@Ne.symm
theorem Yk:type_of% @List.length_replicate:=@List.length_replicate
theorem Ug:type_of% @List.flatMap_cons:=@List.flatMap_cons
theorem Pi:type_of% @List.all_cons:=@List.all_cons
theorem Oj:type_of% @Nat.le_trans:=@Nat.le_trans
theorem Sk:type_of% @List.range_succ:=@List.range_succ
theorem V1:type_of% @List.length_range:=@List.length_range
theorem zzL76:type_of% @Option.isSome_iff_exists:=@Option.isSome_iff_exists
theorem zzL77:type_of% @List.nodup_cons:=@List.nodup_cons
theorem Uh:type_of% @List.nil_append:=@List.nil_append
theorem Yl:type_of% @Bool.false_eq_true:=@Bool.false_eq_true
theorem Nf:type_of% @Array.ext':=@Array.ext'
theorem BM:type_of% @Go.World.cell?_of_block:=@Go.World.cell?_of_block
theorem BN:type_of% @List.range_eq_range':=@List.range_eq_range'
theorem Sl:type_of% @Nat.add_assoc:=@Nat.add_assoc
theorem zzL84:type_of% @Option.map_eq_some_iff:=@Option.map_eq_some_iff
theorem Ym:type_of% @List.append_assoc:=@List.append_assoc
theorem V2:type_of% @List.map_append:=@List.map_append
theorem V3:type_of% @Bool.or_eq_true:=@Bool.or_eq_true
theorem zzL88:type_of% @bne_iff_ne:=@bne_iff_ne
theorem GR:type_of% @List.contains_iff_mem:=@List.contains_iff_mem
theorem Yn:type_of% @List.range'_succ:=@List.range'_succ
theorem Yo:type_of% @List.getElem_mem:=@List.getElem_mem
theorem KK:type_of% @decide_eq_false_iff_not:=@decide_eq_false_iff_not
theorem V4:type_of% @Nat.lt_irrefl:=@Nat.lt_irrefl
theorem V5:type_of% @Int.ofNat.inj:=@Int.ofNat.inj
theorem V6:type_of% @List.sum_cons:=@List.sum_cons
theorem zzL96:type_of% @List.mem_reverse:=@List.mem_reverse
theorem BO:type_of% @List.cons_append:=@List.cons_append
theorem KL:type_of% @Nat.div_lt_iff_lt_mul:=@Nat.div_lt_iff_lt_mul
theorem zzL99:type_of% @List.pairwise_iff_getElem:=@List.pairwise_iff_getElem
theorem GM:type_of% @Classical.byContradiction:=@Classical.byContradiction
theorem Pz:type_of% @Nat.mul_comm:=@Nat.mul_comm
theorem Uc:type_of% @Nat.div_add_mod:=@Nat.div_add_mod
theorem Wx:type_of% @Function.comp_def:=@Function.comp_def
theorem R0:type_of% @Bool.and_self:=@Bool.and_self
theorem NI:type_of% @List.eq_nil_of_length_eq_zero:=@List.eq_nil_of_length_eq_zero
theorem zzL106:type_of% @List.length_eq_zero_iff:=@List.length_eq_zero_iff
theorem Z0:type_of% @Array.length_toList:=@Array.length_toList
theorem zzL108:type_of% @decide_eq_decide:=@decide_eq_decide
theorem Ud:type_of% @Bool.false_and:=@Bool.false_and
theorem Wy:type_of% @List.length_take:=@List.length_take
theorem Wz:type_of% @List.length_drop:=@List.length_drop
theorem W0:type_of% @List.take_length:=@List.take_length
theorem W1:type_of% @Option.map_some:=@Option.map_some
theorem GN:type_of% @Bool.or_eq_false_iff:=@Bool.or_eq_false_iff
theorem R3:type_of% @Nat.mul_one:=@Nat.mul_one
theorem VQ:type_of% @List.take_succ_eq_append_getElem:=@List.take_succ_eq_append_getElem
theorem AA:type_of% @List.ext_getElem:=@List.ext_getElem
theorem zzL118:type_of% @Nat.lt_succ_iff_lt_or_eq:=@Nat.lt_succ_iff_lt_or_eq
theorem Ue:type_of% @Nat.sub_zero:=@Nat.sub_zero
theorem AB:type_of% @Option.getD_some:=@Option.getD_some
theorem zzL121:type_of% @Option.bind_eq_some_iff:=@Option.bind_eq_some_iff
theorem zzL122:type_of% @List.pairwise_cons:=@List.pairwise_cons
theorem GO:type_of% @Go.Value.slice.injEq:=@Go.Value.slice.injEq
theorem GP:type_of% @List.getElem?_map:=@List.getElem?_map
theorem M9:type_of% @Go.wp_mono:=@Go.wp_mono
theorem zzL126:type_of% @List.pairwise_append:=@List.pairwise_append
theorem AC:type_of% @Bool.and_true:=@Bool.and_true
theorem Oh:type_of% @eq_comm:=@eq_comm
theorem NJ:type_of% @List.map_congr_left:=@List.map_congr_left
theorem AD:type_of% @Go.setRow_other:=@Go.setRow_other
theorem NK:type_of% @List.filter_append:=@List.filter_append
theorem W4:type_of% @Go.step_scope:=@Go.step_scope
theorem NL:type_of% @List.size_toArray:=@List.size_toArray
theorem AE:type_of% @Go.setRow_heap:=@Go.setRow_heap
theorem GQ:type_of% @Bool.false_or:=@Bool.false_or
theorem zzL136:type_of% @Nat.lt_or_ge:=@Nat.lt_or_ge
theorem OI{α:Type}{a b:α}(h:some a=some b):a=b:=Option.some.inj h
open Go Go.RowKit
def Bo(s:ByteArray):List Int:=s.data.toList.map λb=>(b.toNat:Int)
inductive Tag where
 | none
 | exact
 | own (nm:Nat)
 | fam (b i:Nat)
inductive AV where
 | any
 | undef
 | int (k:IntKind) (n:Int)
 | bool (b:Bool)
 | str (s:List Int)
 | nilp
 | cond (c:Bool) (x:AV)
 | ptr (nm off:Nat)
 | rptr (cells:List AV)
 | slice (sz n:Nat) (f:Nat->List AV) (tag:Tag)
 | agg (cs:List AV)
 | tuple (vs:List AV)
 | vsl (nm n:Nat)
 | vpt (nm n i j:Nat)
 | clo (f:Nat) (first caps:List AV)
 | vsub (nm n lo hi:Nat)
 | optr (nm mm:Nat)
 | nxt (b:Bool) (i r:Int)
 | nilq (pos:Bool) (n:Nat)
 | err (b:Bool)
 | omap (nm:Nat)
 | nilm
 | rpo (cells:List AV)
inductive AObj where
 | iter (l:List Int) (p:Nat)
 | map (nn:Bool) (k:IntKind) (l:List (Int×AV))
 | pmap (nn:Bool) (k:IntKind) (l:List (Int×AV))
 | miter (m:AV) (n:Nat) (seen:List Nat)
 | tab (k:IntKind) (l:List (Int×AV))
def UE:AObj->Prop
 | .map false _ []=>True
 | .pmap false _ []=>True
 | _=>False
def AObj.on(f:AV->AV):AObj->AObj
 | .iter l p=>.iter l p
 | .map nn k l=>.map nn k l
 | .pmap nn k l=>.pmap nn k l
 | .miter m n s=>.miter (f m) n s
 | .tab k l=>.tab k (l.map λp=>(p.1,f p.2))
def Vw:Go.TypeId:=999999
def cN(e:Go.TypeId):Bool:=[(73:Nat),(96:Nat),(97:Nat),(98:Nat),(103:Nat),(141:Nat),(156:Nat),(165:Nat),(166:Nat),(215:Nat)].any (λt=>Nat.beq t e)
abbrev ma:Prop:=False
def XC:Nat->Option (List AV)
 | _=>none
def A9:Nat:=18446744073709551616
def My(b i:Nat):Nat:=A9*(b+1)+i
inductive Own where
 | row (e:TypeId) (cells:List AV)
 | tok (sz:Nat) (e:TypeId) (m:Nat)
 | arr (sz:Nat) (e:TypeId) (m:Nat) (f:Nat->List AV)
 | obj (x:AObj)
inductive RepV (I:Nat->Nat->Prop) (w:World):Value->AV->Prop
 | any (v:Value):RepV I w v .any
 | undef:RepV I w undef .undef
 | int (k:IntKind) (n:Int):RepV I w (.int k n) (.int k n)
 | bool (b:Bool):RepV I w (.bool b) (.bool b)
 | str (s:ByteArray):RepV I w (.string s) (.str (Bo s))
 | nilp:RepV I w (.pointer none) .nilp
 | nilm:RepV I w (.map none) .nilm
 | clo (f:Nat):RepV I w (.func (.func f) #[] #[]) (.clo f [] [])
 | nxt1 (i r:Int):RepV I w (.tuple #[.bool true,.int .i64 i,.int .i32 r]) (.nxt true i r)
 | nxt0 (i r:Int):RepV I w (.tuple #[.bool false]) (.nxt false i r)
 | nilq (b pos:Bool) (n:Nat) (h:b=pos->n=0):RepV I w (.bool b) (.nilq pos n)
 | err0:RepV I w .nilIface (.err false)
 | err1 (t:TypeId) (v:Value):RepV I w (.iface t v) (.err true)
 | cond (v:Value) (c:Bool) (x:AV) (h:c=true->RepV I w v x) (h':c=false->v=Go.undef):RepV I w v (.cond c x)
 | rptr (a:Addr) (cells:List AV) (us:Nat->Value) (hs:a.spot=none)
   (hI:∀ j,j<cells.length->I a.block (a.off+j)) (hc:∀ j,j<cells.length->w.cell? ⟨a.block,a.off+j,none⟩=some (us j))
   (h1:∀ j,j<cells.length->(us j).oneCell'=true) (hr:∀ j,j<cells.length->RepV I w (us j) (cells.getD j .any)):RepV I w (.pointer (some a)) (.rptr cells)
 | slice (a:Option Addr) (n cap sz:Nat) (f:Nat->List AV) (us:Nat->Value) (hcap:n<=cap) (hmax:cap<=maxLen)
   (hz:0<n->∃ b,a=some b/\b.spot=none/\(∀ j,j<n*sz->I b.block (b.off+j))/\(∀ j,j<n*sz->w.cell? ⟨b.block,b.off+j,none⟩=some (us j)))
   (hn:a=none->cap=0)
   (h1:∀ j,j<n*sz->(us j).oneCell'=true)
   (hl:∀ i,i<n->(f i).length=sz)
   (hr:∀ i c,i<n->c<sz->RepV I w (us (i*sz+c)) ((f i).getD c .any)):RepV I w (.slice a n cap) (.slice sz n f .none)
 | agg (vs:Array Value) (cs:List AV) (hl:vs.size=cs.length) (h1:∀ j,j<cs.length->(vs.getD j Go.undef).oneCell'=true)
   (hr:∀ j,j<cs.length->RepV I w (vs.getD j Go.undef) (cs.getD j .any)):RepV I w (.agg vs) (.agg cs)
 | tuple (vs:Array Value) (cs:List AV) (hl:vs.size=cs.length)
   (hr:∀ j,j<cs.length->RepV I w (vs.getD j Go.undef) (cs.getD j .any)):RepV I w (.tuple vs) (.tuple cs)
def LH(t:Option (Nat×Nat))(n lo hi sz:Nat)(e:TypeId)(a:Option Addr)(cap:Nat):Prop:=
 (lo<hi->∃ g c,t=some (g,c)/\a=some ⟨g,lo*sz,none⟩)/\(lo=0->match t with|none=>cap=n|some (g,c)=>a=some ⟨g,0,none⟩/\(cap=c\/cN e=true))
inductive Rep (I:Nat->Nat->Prop) (own:Nat->Option Own) (θ:Nat->Option (Nat×Nat)) (w:World):Value->AV->Prop
 | val (v:Value) (x:AV) (h:RepV I w v x):Rep I own θ w v x
 | exact(a:Option Addr) (n sz:Nat) (f:Nat->List AV) (h:RepV I w (.slice a n n) (.slice sz n f .none)):Rep I own θ w (.slice a n n) (.slice sz n f .exact)
 | own (nm:Nat) (sz:Nat) (e:TypeId) (m:Nat) (a:Option Addr) (n cap:Nat) (f:Nat->List AV) (ho:own nm=some (.tok sz e m)) (hm:n<=m)
   (hv:n=m->match θ nm with|none=>cap=n|some (g,c)=>a=some ⟨g,0,none⟩/\cap=c)
   (h:RepV I w (.slice a n cap) (.slice sz n f .none)):Rep I own θ w (.slice a n cap) (.slice sz n f (.own nm))
 | fam (b i:Nat) (sz:Nat) (e:TypeId) (m:Nat) (a:Option Addr) (n cap:Nat) (f:Nat->List AV) (hi:i<A9) (ho:own (My b i)=some (.tok sz e m)) (hm:n<=m)
   (hv:n=m->match θ (My b i) with|none=>cap=n|some (g,c)=>a=some ⟨g,0,none⟩/\cap=c)
   (h:RepV I w (.slice a n cap) (.slice sz n f .none)):Rep I own θ w (.slice a n cap) (.slice sz n f (.fam b i))
 | ptr (nm off:Nat) (e:TypeId) (cells:List AV) (g c:Nat) (ho:own nm=some (.row e cells)) (hg:θ nm=some (g,c)):Rep I own θ w (.pointer (some ⟨g,off,none⟩)) (.ptr nm off)
 | vsl (nm sz:Nat) (e:TypeId) (m:Nat) (f:Nat->List AV) (a:Option Addr) (n cap:Nat) (ho:own nm=some (.arr sz e m f)) (hm:n<=m) (hcap:n<=cap) (hmax:cap<=maxLen) (hn:a=none->cap=0)
   (hv:n=m->match θ nm with|none=>cap=n|some (g,c)=>a=some ⟨g,0,none⟩/\cap=c):Rep I own θ w (.slice a n cap) (.vsl nm n)
 | vpt (nm sz:Nat) (e:TypeId) (m:Nat) (f:Nat->List AV) (n i j:Nat) (ad:Addr) (ho:own nm=some (.arr sz e m f)) (hm:n<=m) (hi:i<n)
   (hv:n=m->∃ g c,θ nm=some (g,c)/\ad=⟨g,i*sz+j,none⟩):Rep I own θ w (.pointer (some ad)) (.vpt nm n i j)
 | clo (f:Nat) (fs cs:Array Value) (xs ys:List AV) (hl:fs.size=xs.length) (hl':cs.size=ys.length) (hr:∀ j,j<xs.length->Rep I own θ w (fs.getD j Go.undef) (xs.getD j .any))
   (hr':∀ j,j<ys.length->Rep I own θ w (cs.getD j Go.undef) (ys.getD j .any)):Rep I own θ w (.func (.func f) fs cs) (.clo f xs ys)
 | vsub (nm sz:Nat) (e:TypeId) (m:Nat) (f:Nat->List AV) (n lo hi:Nat) (a:Option Addr) (cap:Nat) (ho:own nm=some (.arr sz e m f)) (hm:n<=m) (hlo:lo<=hi) (hhi:hi<=n) (hcap:hi-lo<=cap) (hmax:cap<=maxLen) (hn:a=none->cap=0)
   (hv:n=m->LH (θ nm) n lo hi sz e a cap):Rep I own θ w (.slice a (hi-lo) cap) (.vsub nm n lo hi)
 | optr (nm mm:Nat) (x:AObj) (g c:Nat) (ho:own nm=some (.obj x)) (hg:θ nm=some (g,c)):Rep I own θ w (.pointer (some ⟨g,0,none⟩)) (.optr nm mm)
 | omap (nm:Nat) (x:AObj) (ho:own nm=some (.obj x)):Rep I own θ w (.map ((θ nm).map (·.1))) (.omap nm)
 | cond (v:Value) (c:Bool) (x:AV) (h:c=true->Rep I own θ w v x) (h':c=false->v=Go.undef):Rep I own θ w v (.cond c x)
 | agg (vs:Array Value) (cs:List AV) (hl:vs.size=cs.length) (h1:∀ j,j<cs.length->(vs.getD j Go.undef).oneCell'=true)
   (hr:∀ j,j<cs.length->Rep I own θ w (vs.getD j Go.undef) (cs.getD j .any)):Rep I own θ w (.agg vs) (.agg cs)
 | tuple (vs:Array Value) (cs:List AV) (hl:vs.size=cs.length)
   (hr:∀ j,j<cs.length->Rep I own θ w (vs.getD j Go.undef) (cs.getD j .any)):Rep I own θ w (.tuple vs) (.tuple cs)
 | rpo (a:Addr) (cells:List AV) (us:Nat->Value) (hs:a.spot=none)
   (hI:∀ j,j<cells.length->I a.block (a.off+j)) (hc:∀ j,j<cells.length->w.cell? ⟨a.block,a.off+j,none⟩=some (us j))
   (h1:∀ j,j<cells.length->(us j).oneCell'=true) (hr:∀ j,j<cells.length->Rep I own θ w (us j) (cells.getD j .any)):Rep I own θ w (.pointer (some a)) (.rpo cells)
theorem RepV.mono{I I':Nat->Nat->Prop}{w w':World}{v:Value}{x:AV}(h:RepV I w v x)(hI:∀ b o,I b o->I' b o)
  (hw:∀ b o,I b o->w'.cell? ⟨b,o,none⟩=w.cell? ⟨b,o,none⟩):RepV I' w' v x:=by
 induction h with
 | any v=>exact .any v
 | undef=>exact .undef
 | int k n=>exact .int k n
 | bool b=>exact .bool b
 | str s=>exact .str s
 | clo f=>exact .clo f
 | nxt1 i r=>exact .nxt1 i r
 | nxt0 i r=>exact .nxt0 i r
 | nilq b pos n h=>exact .nilq b pos n h
 | err0=>exact .err0
 | err1 t v=>exact .err1 t v
 | nilp=>exact .nilp
 | nilm=>exact .nilm
 | cond v c x _ h' ih=>exact .cond v c x ih h'
 | rptr a cells us hs hI' hc h1 _ ih=>
  exact .rptr a _ us hs (λj hj=>hI _ _ (hI' j hj)) (λj hj=>(hw _ _ (hI' j hj)).trans (hc j hj)) h1 ih
 | slice a n cap sz f us hcap hmax hz hn h1 hl _ ih=>
  refine .slice a n cap sz f us hcap hmax (λhp=>?_) hn h1 hl ih
  grind
 | agg vs cs hl h1 _ ih=>exact .agg vs cs hl h1 ih
 | tuple vs cs hl _ ih=>exact .tuple vs cs hl ih
def OwnLe(o:Own)(t:Option (Nat×Nat))(o':Own)(t':Option (Nat×Nat)):Prop:=
 match o,o' with
 | .row e _,.row e' _=>e'=e/\t'=t
 | .tok sz e m,.tok sz' e' m'=>sz'=sz/\e'=e/\m<=m'/\(m=m'->t'=t)
 | .arr sz e m _,.arr sz' e' m' _=>sz'=sz/\e'=e/\m<=m'/\(m=m'->t'=t)
 | .obj _,.obj _=>t'=t
 | _,_=>False
theorem OwnLe.refl(o:Own)(t:Option (Nat×Nat)):OwnLe o t o t:=by cases o<;>simp[OwnLe]
theorem Rep.mono{I I':Nat->Nat->Prop}{own own':Nat->Option Own}{θ θ':Nat->Option (Nat×Nat)}{w w':World}{v:Value}{x:AV}
  (h:Rep I own θ w v x) (hI:∀ b o,I b o->I' b o) (hw:∀ b o,I b o->w'.cell? ⟨b,o,none⟩=w.cell? ⟨b,o,none⟩)
  (ho:∀ nm o,own nm=some o->∃ o',own' nm=some o'/\OwnLe o (θ nm) o' (θ' nm)):Rep I' own' θ' w' v x:=by
 induction h with
 | val v x h=>exact .val v x (h.mono hI hw)
 | exact a n sz f h=>exact .exact a n sz f (h.mono hI hw)
 | own nm sz e m a n cap f hn hm hv h=>
  obtain⟨o',ho',hle⟩:=ho nm _ hn
  cases o' with
  | row e cells=>trivial
  | arr=>trivial
  | obj=>trivial
  | tok sz' e' m'=>
   obtain⟨rfl,rfl,hmm,hθ⟩:=hle;refine .own nm _ _ m' a n cap f ho' (Oj hm hmm) (λhe=>?_) (h.mono hI hw)
   grind
 | fam b i sz e m a n cap f hi hn hm hv h=>
  obtain⟨o',ho',hle⟩:=ho (My b i) _ hn
  cases o' with
  | row e cells=>trivial
  | arr=>trivial
  | obj=>trivial
  | tok sz' e' m'=>
   obtain⟨rfl,rfl,hmm,hθ⟩:=hle;refine .fam b i _ _ m' a n cap f hi ho' (Oj hm hmm) (λhe=>?_) (h.mono hI hw)
   grind
 | ptr nm off e cells g c hn hg=>
  obtain⟨o',ho',hle⟩:=ho nm _ hn
  cases o' with
  | tok=>trivial
  | arr=>trivial
  | obj=>trivial
  | row e' cells'=>
   have e:θ' nm=θ nm:=hle.2;exact .ptr nm off e' cells' g c ho' (e.trans hg)
 | vsl nm sz e m f a n cap hn hm hcap hmax hnn hv=>
  obtain⟨o',ho',hle⟩:=ho nm _ hn
  cases o' with
  | row e cells=>trivial
  | tok=>trivial
  | obj=>trivial
  | arr sz' e' m' f'=>
   obtain⟨rfl,rfl,hmm,hθ⟩:=hle;refine .vsl nm _ _ m' f' a n cap ho' (Oj hm hmm) hcap hmax hnn (λhe=>?_)
   grind
 | vpt nm sz e m f n i j ad hn hm hi hv=>
  obtain⟨o',ho',hle⟩:=ho nm _ hn
  cases o' with
  | row e cells=>trivial
  | tok=>trivial
  | obj=>trivial
  | arr sz' e' m' f'=>
   obtain⟨rfl,rfl,hmm,hθ⟩:=hle;refine .vpt nm _ _ m' f' n i j ad ho' (Oj hm hmm) hi (λhe=>?_)
   grind
 | clo f fs cs xs ys hl hl' _ _ ih ih'=>exact .clo f fs cs xs ys hl hl' ih ih'
 | optr nm mm x g c hn hg=>
  obtain⟨o',ho',hle⟩:=ho nm _ hn
  cases o' with
  | row=>trivial
  | tok sz' e' m'=>trivial
  | arr sz' e' m' f'=>trivial
  | obj x'=>exact .optr nm mm x' g c ho' (by rw[hle,hg])
 | omap nm x hn=>
  obtain⟨o',ho',hle⟩:=ho nm _ hn
  cases o' with
  | row=>trivial
  | tok sz' e' m'=>trivial
  | arr sz' e' m' f'=>trivial
  | obj x'=>
   have e:θ' nm=θ nm:=hle;rw[<- e];exact .omap nm x' ho'
 | vsub nm sz e m f n lo hi a cap hn hm hlo hhi hcap hmax hnn hv=>
  obtain⟨o',ho',hle⟩:=ho nm _ hn
  cases o' with
  | row e cells=>trivial
  | tok=>trivial
  | obj=>trivial
  | arr sz' e' m' f'=>
   obtain⟨rfl,rfl,hmm,hθ⟩:=hle;refine .vsub nm _ _ m' f' n lo hi a cap ho' (Oj hm hmm) hlo hhi hcap hmax hnn (λhe=>?_)
   grind
 | cond v c x _ h' ih=>exact .cond v c x ih h'
 | agg vs cs hl h1 _ ih=>exact .agg vs cs hl h1 ih
 | tuple vs cs hl _ ih=>exact .tuple vs cs hl ih
 | rpo a cells us hs hI' hc h1 _ ih=>exact .rpo a cells us hs (λj hj=>hI _ _ (hI' j hj)) (λj hj=>(hw _ _ (hI' j hj)).trans (hc j hj)) h1 ih
mutual
def AV.strip:AV->AV
 | .slice sz n f _=>.slice sz n f .none
 | .ptr _ _=>.any
 | .vsl _ _=>.any
 | .vpt _ _ _ _=>.any
 | .vsub _ _ _ _=>.any
 | .optr _ _=>.any
 | .omap _=>.any
 | .rpo _=>.any
 | .clo f xs ys=>match xs,ys with|[],[]=>.clo f [] []|_,_=>.any
 | .agg cs=>.agg (AV.stripAll cs)
 | .tuple cs=>.tuple (AV.stripAll cs)
 | .cond c x=>.cond c x.strip
 | x=>x
def AV.stripAll:List AV->List AV
 | []=>[]
 | x::l=>x.strip::AV.stripAll l
end
theorem A7(l:List AV):(AV.stripAll l).length=l.length:=by induction l with|nil=>rfl|cons x l ih=>simp[AV.stripAll,ih]
theorem Dl(l:List AV)(j:Nat):(AV.stripAll l).getD j .any=(l.getD j .any).strip:=by
 induction l generalizing j with
 | nil=>rfl
 | cons x l ih=>cases j with
  | zero=>rfl
  | succ j=>simp_all [AV.stripAll]
theorem RepV.strip{I:Nat->Nat->Prop}{w:World}{v:Value}{x:AV}(h:RepV I w v x):RepV I w v x.strip:=by
 induction h with
 | any v=>exact .any v
 | undef=>exact .undef
 | int k n=>exact .int k n
 | bool b=>exact .bool b
 | str s=>exact .str s
 | clo f=>exact .clo f
 | nxt1 i r=>exact .nxt1 i r
 | nxt0 i r=>exact .nxt0 i r
 | nilq b pos n h=>exact .nilq b pos n h
 | err0=>exact .err0
 | err1 t v=>exact .err1 t v
 | nilp=>exact .nilp
 | nilm=>exact .nilm
 | cond v c x _ h' ih=>exact .cond v c _ ih h'
 | rptr a cells us hs hI' hc h1 hr _=>exact .rptr a _ us hs hI' hc h1 hr
 | slice a n cap sz f us hcap hmax hz hn h1 hl hr _=>exact .slice a n cap sz f us hcap hmax hz hn h1 hl hr
 | agg vs cs hl h1 _ ih=>exact .agg vs _ (by rw[A7,hl]) (λj hj=>h1 j (by rwa[A7]at hj)) (λj hj=>by grind [Dl,A7])
 | tuple vs cs hl _ ih=>exact .tuple vs _ (by rw[A7,hl]) (λj hj=>by grind [Dl,A7])
theorem Rep.strip{I:Nat->Nat->Prop}{own:Nat->Option Own}{θ:Nat->Option (Nat×Nat)}{w:World}{v:Value}{x:AV}(h:Rep I own θ w v x):RepV I w v x.strip:=by
 induction h with
 | val v x h=>exact h.strip
 | exact a n sz f h=>exact h
 | own nm sz e m a n cap f ho hm hv h=>exact h
 | fam b i sz e m a n cap f hi ho hm hv h=>exact h
 | ptr nm off e cells g c ho hg=>exact .any _
 | vsl=>exact .any _
 | vpt=>exact .any _
 | clo f fs cs xs ys hl hl' _ _ ih ih'=>
  cases xs with
  | nil=>cases ys with
   | nil=>
    obtain rfl:fs = #[]:=by grind
    obtain rfl:cs = #[]:=by grind
    exact .clo f
   | cons _ _=>exact .any _
  | cons _ _=>exact .any _
 | vsub=>exact .any _
 | optr=>exact .any _
 | omap=>exact .any _
 | rpo=>exact .any _
 | cond v c x _ h' ih=>exact .cond v c _ ih h'
 | agg vs cs hl h1 _ ih=>exact .agg vs _ (by rw[A7,hl]) (λj hj=>h1 j (by rwa[A7]at hj)) (λj hj=>by grind [Dl,A7])
 | tuple vs cs hl _ ih=>exact .tuple vs _ (by rw[A7,hl]) (λj hj=>by grind [Dl,A7])
mutual
theorem Mp:∀ x:AV,x.strip.strip=x.strip
 | .agg cs=>by simp only[AV.strip];rw[Of cs]
 | .tuple cs=>by simp only[AV.strip];rw[Of cs]
 | .cond c x=>by simp only[AV.strip];rw[Mp x]
 | .clo f [] []=>rfl
 | .clo f (_::_) _=>rfl
 | .clo f [] (_::_)=>rfl
 | .slice ..=>rfl
 | .ptr ..=>rfl
 | .vsl ..=>rfl
 | .vpt ..=>rfl
 | .vsub ..=>rfl
 | .optr ..=>rfl
 | .omap ..=>rfl
 | .any=>rfl
 | .undef=>rfl
 | .int ..=>rfl
 | .bool ..=>rfl
 | .str ..=>rfl
 | .nilp=>rfl
 | .nilm=>rfl
 | .nxt ..=>rfl
 | .nilq ..=>rfl
 | .err ..=>rfl
 | .rptr ..=>rfl
 | .rpo ..=>rfl
theorem Of:∀ l:List AV,AV.stripAll (AV.stripAll l)=AV.stripAll l
 | []=>rfl
 | x::l=>by simp only[AV.stripAll];rw[Mp x,Of l]
end
inductive ObjR (I:Nat->Nat->Prop) (own:Nat->Option Own) (θ:Nat->Option (Nat×Nat)) (w:World):Obj->AObj->Prop
 | iter (s:ByteArray) (p:Nat):ObjR I own θ w (.stringIter s p) (.iter (Bo s) p)
 | map (es:Array MapEntry) (nn:Bool) (k:IntKind) (l:List (Int×AV)) (hs:es.size=l.length)
   (hr:∀ i,i<l.length->∃ v,es[i]?=some { key:=.int k (l.getD i (0,.any)).1,val:=v,born:=i }/\RepV I w v (l.getD i (0,.any)).2/\(l.getD i (0,.any)).2.strip=(l.getD i (0,.any)).2):ObjR I own θ w (.map es l.length) (.map nn k l)
 | pmap (es:Array MapEntry) (nn:Bool) (k:IntKind) (l0 l:List (Int×AV)) (hp:l0.Perm l) (hk:(l.map (·.1)).Nodup) (hs:es.size=l0.length)
   (hr:∀ i,i<l0.length->∃ v,es[i]?=some { key:=.int k (l0.getD i (0,.any)).1,val:=v,born:=i }/\RepV I w v (l0.getD i (0,.any)).2/\(l0.getD i (0,.any)).2.strip=(l0.getD i (0,.any)).2):ObjR I own θ w (.map es l0.length) (.pmap nn k l)
 | miter (r:Option Nat) (m:AV) (n c:Nat) (seen:Array Nat) (hc:c=n) (hr:Rep I own θ w (.map r) m):ObjR I own θ w (.mapIter r n seen c) (.miter m n seen.toList.reverse)
 | tab (es:Array MapEntry) (k:IntKind) (l:List (Int×AV)) (hs:es.size=l.length)
   (hr:∀ i,i<l.length->∃ v,es[i]?=some { key:=.int k (l.getD i (0,.any)).1,val:=v,born:=i }/\Rep I own θ w v (l.getD i (0,.any)).2):ObjR I own θ w (.map es l.length) (.tab k l)
theorem ObjR.onV{I I':Nat->Nat->Prop}{own own':Nat->Option Own}{θ θ':Nat->Option (Nat×Nat)}{w w':World}{o:Obj}{x:AObj}(h:ObjR I own θ w o x)(f:AV->AV)(hv:∀ v y,y.strip=y->RepV I w v y->RepV I' w' v y)(hf:∀ v y,Rep I own θ w v y->Rep I' own' θ' w' v (f y)):ObjR I' own' θ' w' o (x.on f):=by
 cases h with
 | iter s p=>exact .iter s p
 | map es nn k l hs hr=>
  refine .map es nn k l hs λi hi=>?_
  grind
 | pmap es nn k l0 l hp hk hs hr=>
  refine .pmap es nn k l0 l hp hk hs λi hi=>?_
  grind
 | miter r m n c seen hc hr=>exact .miter r _ n c _ hc (hf _ _ hr)
 | tab es k l hs hr=>
  have:=ObjR.tab (I:=I') (own:=own') (θ:=θ') (w:=w') es k (l.map λp=>(p.1,f p.2)) (by grind) λi hi=>by
   grind
  rwa[Nd]at this
theorem ObjR.on{I I':Nat->Nat->Prop}{own own':Nat->Option Own}{θ θ':Nat->Option (Nat×Nat)}{w w':World}{o:Obj}{x:AObj}(h:ObjR I own θ w o x)(f:AV->AV)(hI:∀ b o,I b o->I' b o)(hw:∀ b o,I b o->w'.cell? ⟨b,o,none⟩=w.cell? ⟨b,o,none⟩)(hf:∀ v y,Rep I own θ w v y->Rep I' own' θ' w' v (f y)):ObjR I' own' θ' w' o (x.on f):=
 h.onV f (λ_ _ _ hv=>hv.mono hI hw) hf
theorem mi(x:AObj):x.on (λy=>y)=x:=by cases x<;>simp[AObj.on]
theorem ObjR.mono{I I':Nat->Nat->Prop}{own own':Nat->Option Own}{θ θ':Nat->Option (Nat×Nat)}{w w':World}{o:Obj}{x:AObj}(h:ObjR I own θ w o x)(hf:∀ v y,Rep I own θ w v y->Rep I' own' θ' w' v y):ObjR I' own' θ' w' o x:=by
 have:=h.onV _ (λv y hy hv=>by have:=(hf v y (.val _ _ hv)).strip;grind) hf
 grind [mi]
def R6(I:Nat->Nat->Prop)(own:Nat->Option Own)(θ:Nat->Option (Nat×Nat))(w:World)(nm:Nat)(x:AObj):Prop:=
 (∃ g c o,θ nm=some (g,c)/\w.heap[g]?=some o/\ObjR I own θ w o x/\∀ j,¬ I g j)\/(θ nm=none/\UE x)
structure G1(I:Nat->Nat->Prop)(own:Nat->Option Own)(θ:Nat->Option (Nat×Nat))(w:World):Prop where
 row:∀ nm e cells,own nm=some (.row e cells)->∃ g c vs,θ nm=some (g,c)/\w.heap[g]?=some (.cells vs e (0,0))/\vs.size=cells.length /\
  (∀ j,j<cells.length->(vs.getD j undef).oneCell'=true)/\(∀ j,j<cells.length->Rep I own θ w (vs.getD j undef) (cells.getD j .any))/\∀ j,¬ I g j
 tok:∀ nm sz e m,own nm=some (.tok sz e m)->∀ g c,θ nm=some (g,c)->∃ cur fz,w.heap[g]?=some (.cells cur e (0,fz))/\m<=c/\c<=maxLen/\cur.size=c*sz/\fz<=m*sz/\∀ j,I g j->j<m*sz
 inj:∀ nm nm' g c c',own nm≠none->own nm'≠none->θ nm=some (g,c)->θ nm'=some (g,c')->nm=nm'
 arr:∀ nm sz e m f,own nm=some (.arr sz e m f)->(θ nm=none->m=0)/\∀ g c,θ nm=some (g,c)->∃ cur,w.heap[g]?=some (.cells cur e (0,0))/\m<=c/\c<=maxLen/\cur.size=c*sz /\
  (∀ i,i<m->(f i).length=sz)/\(∀ i j,i<m->j<sz->(cur.getD (i*sz+j) undef).oneCell'=true/\Rep I own θ w (cur.getD (i*sz+j) undef) ((f i).getD j .any))/\∀ j,¬ I g j
 obj:∀ nm x,own nm=some (.obj x)->R6 I own θ w nm x
 tok8:∀ nm sz m,own nm=some (.tok sz Vw m)->θ nm=none->m=0
theorem Hv{I I':Nat->Nat->Prop}{own own':Nat->Option Own}{θ θ':Nat->Option (Nat×Nat)}{w w':World}{nm nm':Nat}{x x':AObj}(h:R6 I own θ w nm x)
  (hθ:θ' nm'=θ nm) (hh:∀ g c,θ nm=some (g,c)->w'.heap[g]?=w.heap[g]?) (hI:∀ g c j,θ nm=some (g,c)->I' g j->I g j) (hm:∀ o,ObjR I own θ w o x->ObjR I' own' θ' w' o x') (hn:UE x->UE x') :
  R6 I' own' θ' w' nm' x':=by
 rcases h with⟨g,c,o,h1,h2,h3,h4⟩|⟨h1,h2⟩
 ·exact .inl ⟨g,c,o,hθ.trans h1,(hh g c h1).trans h2,hm o h3,λj hj=>h4 j (hI g c j h1 hj)⟩
 ·exact .inr ⟨hθ.trans h1,hn h2⟩
theorem FE{f:AV->AV}{x:AObj}(h:UE x):UE (x.on f):=by cases x<;>trivial
theorem Pl{x:AObj}(h:UE x):UE x:=h
theorem Kt{I I':Nat->Nat->Prop}{own own':Nat->Option Own}{θ θ':Nat->Option (Nat×Nat)}{w w':World}{nm nm' sz m:Nat}{e:TypeId}{f f':Nat->List AV}
  (h:(θ nm=none->m=0)/\∀ g c,θ nm=some (g,c)->∃ cur,w.heap[g]?=some (.cells cur e (0,0))/\m<=c/\c<=maxLen/\cur.size=c*sz /\
   (∀ i,i<m->(f i).length=sz)/\(∀ i j,i<m->j<sz->(cur.getD (i*sz+j) undef).oneCell'=true/\Rep I own θ w (cur.getD (i*sz+j) undef) ((f i).getD j .any))/\∀ j,¬ I g j)
  (hθ:θ' nm'=θ nm) (hh:∀ g c,θ nm=some (g,c)->w'.heap[g]?=w.heap[g]?) (hI:∀ g c j,θ nm=some (g,c)->I' g j->I g j) (hf:∀ i,i<m->(f' i).length=(f i).length)
  (hr:∀ v i j,i<m->j<sz->Rep I own θ w v ((f i).getD j .any)->Rep I' own' θ' w' v ((f' i).getD j .any)) :
  (θ' nm'=none->m=0)/\∀ g c,θ' nm'=some (g,c)->∃ cur,w'.heap[g]?=some (.cells cur e (0,0))/\m<=c/\c<=maxLen/\cur.size=c*sz /\
   (∀ i,i<m->(f' i).length=sz)/\(∀ i j,i<m->j<sz->(cur.getD (i*sz+j) undef).oneCell'=true/\Rep I' own' θ' w' (cur.getD (i*sz+j) undef) ((f' i).getD j .any))/\∀ j,¬ I' g j:=by
 grind
structure Chg(own:Nat->Option Own)(θ:Nat->Option (Nat×Nat))(I:Nat->Nat->Prop)(w:World)
  (own':Nat->Option Own) (θ':Nat->Option (Nat×Nat)) (I':Nat->Nat->Prop) (w':World):Prop where
 imm:∀ b o,I b o->I' b o
 cell:∀ b o,I b o->w'.cell? ⟨b,o,none⟩=w.cell? ⟨b,o,none⟩
 le:∀ nm o,own nm=some o->∃ o',own' nm=some o'/\OwnLe o (θ nm) o' (θ' nm)
 rel:G1 I' own' θ' w'
 valid:∀ b o,I' b o->∃ u,w'.cell? ⟨b,o,none⟩=some u
 os:w'.os=w.os
 tape:w'.tape=w.tape
 output:w'.output=w.output
 drawn:ma->w.drawn<=w'.drawn
 grow:w.heap.size<=w'.heap.size
 frame:∀ b,b<w.heap.size->(∀ nm c,own nm≠none->θ nm≠some (b,c))->w'.heap[b]?=w.heap[b]?
 new:∀ nm g c,own' nm≠none->θ' nm=some (g,c)->w.heap.size<=g\/∃ nm' c',own nm'≠none/\θ nm'=some (g,c')
 immNew:∀ b o,I' b o->I b o\/w.heap.size<=b\/∃ nm c,own nm≠none/\θ nm=some (b,c)
theorem OwnLe.trans{a b c:Own}{t u s:Option (Nat×Nat)}(h:OwnLe a t b u)(k:OwnLe b u c s):OwnLe a t c s:=by
 cases a<;>cases b<;>cases c<;>simp_all [OwnLe]
 all_goals
  grind
theorem Chg.refl{own:Nat->Option Own}{θ:Nat->Option (Nat×Nat)}{I:Nat->Nat->Prop}{w:World}(h:G1 I own θ w)
  (hv:∀ b o,I b o->∃ u,w.cell? ⟨b,o,none⟩=some u):Chg own θ I w own θ I w where
 imm _ _ h:=h
 cell _ _ _:=rfl
 le _ o ho:=⟨o,ho,.refl _ _⟩
 rel:=h
 valid:=hv
 os:=rfl
 tape:=rfl
 output:=rfl
 drawn:=λ_=>zzL7 _
 grow:=zzL7 _
 frame _ _ _:=rfl
 new nm _ c h h':=.inr ⟨nm,c,h,h'⟩
 immNew _ _ h:=.inl h
theorem Chg.trans{o1 o2 o3:Nat->Option Own}{t1 t2 t3:Nat->Option (Nat×Nat)}{I1 I2 I3:Nat->Nat->Prop}{w1 w2 w3:World}
  (h:Chg o1 t1 I1 w1 o2 t2 I2 w2) (k:Chg o2 t2 I2 w2 o3 t3 I3 w3):Chg o1 t1 I1 w1 o3 t3 I3 w3 where
 imm b o hi:=k.imm b o (h.imm b o hi)
 cell b o hi:=(k.cell b o (h.imm b o hi)).trans (h.cell b o hi)
 le nm o ho:=by
  obtain⟨o',ho',hl⟩:=h.le nm o ho;obtain⟨o'',ho'',hl'⟩:=k.le nm o' ho';exact⟨o'',ho'',hl.trans hl'⟩
 rel:=k.rel
 valid:=k.valid
 os:=k.os.trans h.os
 tape:=k.tape.trans h.tape
 output:=k.output.trans h.output
 drawn:=λd=>Oj (h.drawn d) (k.drawn d)
 grow:=Oj h.grow k.grow
 frame b hb hn:=by
  refine(k.frame b (Nat.lt_of_lt_of_le hb h.grow) λnm c ho ht=>?_).trans (h.frame b hb hn);rcases h.new nm b c ho ht with h'|⟨nm',c',ho',ht'⟩
  ·omega
  grind
 new nm g c ho ht:=by
  rcases k.new nm g c ho ht with h'|⟨nm',c',ho',ht'⟩
  ·exact .inl (Oj h.grow h')
  ·exact h.new nm' g c' ho' ht'
 immNew b o hi:=by
  rcases k.immNew b o hi with h'|h'|⟨nm,c,ho,ht⟩
  ·exact h.immNew b o h'
  ·exact .inr (.inl (Oj h.grow h'))
  ·exact .inr (h.new nm b c ho ht)
theorem Rep.chg{own own':Nat->Option Own}{θ θ':Nat->Option (Nat×Nat)}{I I':Nat->Nat->Prop}{w w':World}{v:Value}{x:AV}
  (h:Rep I own θ w v x) (k:Chg own θ I w own' θ' I' w'):Rep I' own' θ' w' v x:=h.mono k.imm k.cell k.le
def nN(I:Nat->Nat->Prop)(w:World):Prop:=∀ g cells,XC g=some cells->RepV I w (.pointer (some ⟨g,0,none⟩)) (.rptr cells)
structure G0 where
 w0:World
 n:Nat
 own0:Nat->Option Own
 θ0:Nat->Option (Nat×Nat)
 I0:Nat->Nat->Prop
 glob:nN I0 w0
 lt0:∀ nm,own0 nm≠none->nm<A9
structure Sto where
 tmp:Nat->AV
 own:Nat->Option Own
structure Rel(Γ:G0)(σ:Sto)(I:Nat->Nat->Prop)(θ:Nat->Option (Nat×Nat))(a:Act)(w:World):Prop where
 size:a.tmps.size=Γ.n
 defers:a.defers=[]
 slots:∀ t,Rep I σ.own θ w (a.tmps.getD t undef) (σ.tmp t)
 chg:Chg Γ.own0 Γ.θ0 Γ.I0 Γ.w0 σ.own θ I w
theorem Rel.glob{Γ:G0}{σ:Sto}{I:Nat->Nat->Prop}{θ:Nat->Option (Nat×Nat)}{a:Act}{w:World}(h:Rel Γ σ I θ a w):nN I w:=λg cells hg=>(Γ.glob g _ hg).mono h.chg.imm h.chg.cell
def AVle(x y:AV):Prop:=∀(I:Nat->Nat->Prop) (own:Nat->Option Own) (θ:Nat->Option (Nat×Nat)) (w:World) (v:Value),Rep I own θ w v x->Rep I own θ w v y
theorem Xo{w:World}{g:Nat}{o:Obj}(h:w.heap[g]?=some o):g<w.heap.size:=by
 grind
theorem L8{w:World}{b o:Nat}{u:Value}(h:w.cell? ⟨b,o,none⟩=some u):b<w.heap.size:=World.block_lt_of_cell?  (h:=h)
theorem RepV.slice_inv{I:Nat->Nat->Prop}{w:World}{v:Value}{sz n:Nat}{f:Nat->List AV}{t:Tag}(h:RepV I w v (.slice sz n f t)) :
  t = .none/\∃(a:Option Addr) (cap:Nat) (us:Nat->Value),v = .slice a n cap/\n<=cap/\cap<=maxLen /\
   (0<n->∃ b,a=some b/\b.spot=none/\(∀ j,j<n*sz->I b.block (b.off+j))/\(∀ j,j<n*sz->w.cell? ⟨b.block,b.off+j,none⟩=some (us j))) /\
   (a=none->cap=0)/\(∀ j,j<n*sz->(us j).oneCell'=true)/\(∀ i,i<n->(f i).length=sz) /\
   (∀ i c,i<n->c<sz->RepV I w (us (i*sz+c)) ((f i).getD c .any)):=by
 cases h with
 | slice a n cap sz f us hcap hmax hz hn h1 hl hr=>exact⟨rfl,a,cap,us,rfl,hcap,hmax,hz,hn,h1,hl,hr⟩
theorem Rep.slice_val{I:Nat->Nat->Prop}{own:Nat->Option Own}{θ:Nat->Option (Nat×Nat)}{w:World}{v:Value}{sz n:Nat}{f:Nat->List AV}{t:Tag}
  (h:Rep I own θ w v (.slice sz n f t)):RepV I w v (.slice sz n f .none):=by
 cases h with
 | val v x h=>obtain⟨rfl,_⟩:=h.slice_inv;exact h
 | exact a n sz f h=>exact h
 | own nm sz e m a n cap f ho hm hv h=>exact h
 | fam b i sz e m a n cap f hi ho hm hv h=>exact h
theorem Rep.int_inv{I:Nat->Nat->Prop}{own:Nat->Option Own}{θ:Nat->Option (Nat×Nat)}{w:World}{v:Value}{k:IntKind}{n:Int}
  (h:Rep I own θ w v (.int k n)):v = .int k n:=by
 cases h with
 | val v x h=>cases h;rfl
theorem Rep.bool_inv{I:Nat->Nat->Prop}{own:Nat->Option Own}{θ:Nat->Option (Nat×Nat)}{w:World}{v:Value}{b:Bool}
  (h:Rep I own θ w v (.bool b)):v = .bool b:=by
 cases h with
 | val v x h=>cases h;rfl
theorem Rep.str_inv{I:Nat->Nat->Prop}{own:Nat->Option Own}{θ:Nat->Option (Nat×Nat)}{w:World}{v:Value}{s:List Int}
  (h:Rep I own θ w v (.str s)):∃ b,v = .string b/\Bo b=s:=by
 cases h with
 | val v x h=>cases h;simp
theorem Rep.undef_inv{I:Nat->Nat->Prop}{own:Nat->Option Own}{θ:Nat->Option (Nat×Nat)}{w:World}{v:Value}
  (h:Rep I own θ w v .undef):v=Go.undef:=by
 cases h with
 | val v x h=>cases h;rfl
theorem Rep.nilp_inv{I:Nat->Nat->Prop}{own:Nat->Option Own}{θ:Nat->Option (Nat×Nat)}{w:World}{v:Value}
  (h:Rep I own θ w v .nilp):v = .pointer none:=by
 cases h with
 | val v x h=>cases h;rfl
theorem Rep.ptr_inv{I:Nat->Nat->Prop}{own:Nat->Option Own}{θ:Nat->Option (Nat×Nat)}{w:World}{v:Value}{nm off:Nat}
  (h:Rep I own θ w v (.ptr nm off)):∃ e cells g c,own nm=some (.row e cells)/\θ nm=some (g,c)/\v = .pointer (some ⟨g,off,none⟩):=by
 cases h with
 | val v x h=>cases h
 | ptr nm off e cells g c ho hg=>grind
theorem Rep.optr_inv{I:Nat->Nat->Prop}{own:Nat->Option Own}{θ:Nat->Option (Nat×Nat)}{w:World}{v:Value}{nm mm:Nat}
  (h:Rep I own θ w v (.optr nm mm)):∃ x g c,own nm=some (.obj x)/\θ nm=some (g,c)/\v = .pointer (some ⟨g,0,none⟩):=by
 cases h with
 | val v x h=>cases h
 | optr nm mm x g c ho hg=>grind
theorem Rep.omap_inv{I:Nat->Nat->Prop}{own:Nat->Option Own}{θ:Nat->Option (Nat×Nat)}{w:World}{v:Value}{nm:Nat}
  (h:Rep I own θ w v (.omap nm)):∃ x,own nm=some (.obj x)/\v = .map ((θ nm).map (·.1)):=by
 cases h with
 | val v x h=>cases h
 | omap nm x ho=>grind
theorem Rep.nilm_inv{I:Nat->Nat->Prop}{own:Nat->Option Own}{θ:Nat->Option (Nat×Nat)}{w:World}{v:Value}
  (h:Rep I own θ w v .nilm):v = .map none:=by
 cases h with
 | val v x h=>cases h;rfl
theorem Rep.nxt_inv{I:Nat->Nat->Prop}{own:Nat->Option Own}{θ:Nat->Option (Nat×Nat)}{w:World}{v:Value}{b:Bool}{i r:Int}
  (h:Rep I own θ w v (.nxt b i r)):(b=true/\v = .tuple #[.bool true,.int .i64 i,.int .i32 r])\/(b=false/\v = .tuple #[.bool false]):=by
 cases h with
 | val v x h=>cases h with
  | nxt1=>simp
  | nxt0=>simp
theorem Rep.err_inv{I:Nat->Nat->Prop}{own:Nat->Option Own}{θ:Nat->Option (Nat×Nat)}{w:World}{v:Value}{b:Bool}
  (h:Rep I own θ w v (.err b)):(b=false/\v = .nilIface)\/(b=true/\∃ t x,v = .iface t x):=by
 cases h with
 | val v x h=>cases h with
  | err0=>simp
  | err1 t x=>simp
theorem Rep.vsl_inv{I:Nat->Nat->Prop}{own:Nat->Option Own}{θ:Nat->Option (Nat×Nat)}{w:World}{v:Value}{nm n:Nat}
  (h:Rep I own θ w v (.vsl nm n)):∃ sz e m f a cap,v = .slice a n cap/\own nm=some (.arr sz e m f)/\n<=m/\n<=cap/\cap<=maxLen/\(a=none->cap=0) /\
   (n=m->match θ nm with|none=>cap=n|some (g,c)=>a=some ⟨g,0,none⟩/\cap=c):=by
 cases h with
 | val v x h=>cases h
 | vsl nm sz e m f a n cap ho hm hcap hmax hn hv=>grind
theorem Rep.vpt_inv{I:Nat->Nat->Prop}{own:Nat->Option Own}{θ:Nat->Option (Nat×Nat)}{w:World}{v:Value}{nm n i j:Nat}
  (h:Rep I own θ w v (.vpt nm n i j)):∃ sz e m f ad,v = .pointer (some ad)/\own nm=some (.arr sz e m f)/\n<=m/\i<n/\(n=m->∃ g c,θ nm=some (g,c)/\ad=⟨g,i*sz+j,none⟩):=by
 cases h with
 | val v x h=>cases h
 | vpt nm sz e m f n i j ad ho hm hi hv=>grind
theorem Rep.vsub_inv{I:Nat->Nat->Prop}{own:Nat->Option Own}{θ:Nat->Option (Nat×Nat)}{w:World}{v:Value}{nm n lo hi:Nat}
  (h:Rep I own θ w v (.vsub nm n lo hi)):∃ sz e m f a cap,v = .slice a (hi-lo) cap/\own nm=some (.arr sz e m f)/\n<=m/\lo<=hi/\hi<=n/\hi-lo<=cap/\cap<=maxLen/\(a=none->cap=0) /\
   (n=m->LH (θ nm) n lo hi sz e a cap):=by
 cases h with
 | val v x h=>cases h
 | vsub nm sz e m f n lo hi a cap ho hm hlo hhi hcap hmax hn hv=>grind
theorem Rep.clo_inv{I:Nat->Nat->Prop}{own:Nat->Option Own}{θ:Nat->Option (Nat×Nat)}{w:World}{v:Value}{f:Nat}{xs ys:List AV}
  (h:Rep I own θ w v (.clo f xs ys)):∃ fs cs:Array Value,v = .func (.func f) fs cs/\fs.size=xs.length/\cs.size=ys.length/\(∀ j,j<xs.length->Rep I own θ w (fs.getD j Go.undef) (xs.getD j .any))/\(∀ j,j<ys.length->Rep I own θ w (cs.getD j Go.undef) (ys.getD j .any)):=by
 cases h with
 | val v x h=>cases h with|clo f=>simp
 | clo f fs cs xs ys hl hl' hr hr'=>grind
theorem Rep.rptr_inv{I:Nat->Nat->Prop}{own:Nat->Option Own}{θ:Nat->Option (Nat×Nat)}{w:World}{v:Value}{cells:List AV}
  (h:Rep I own θ w v (.rptr cells)):∃(a:Addr) (us:Nat->Value),v = .pointer (some a)/\a.spot=none/\(∀ j,j<cells.length->I a.block (a.off+j)) /\
   (∀ j,j<cells.length->w.cell? ⟨a.block,a.off+j,none⟩=some (us j))/\(∀ j,j<cells.length->(us j).oneCell'=true) /\
   (∀ j,j<cells.length->RepV I w (us j) (cells.getD j .any)):=by
 cases h with
 | val v x h=>cases h with|rptr a cells us hs hI hc h1 hr=>exact⟨a,us,rfl,hs,hI,hc,h1,hr⟩
theorem Rep.rpo_inv{I:Nat->Nat->Prop}{own:Nat->Option Own}{θ:Nat->Option (Nat×Nat)}{w:World}{v:Value}{cells:List AV}
  (h:Rep I own θ w v (.rpo cells)):∃(a:Addr) (us:Nat->Value),v = .pointer (some a)/\a.spot=none/\(∀ j,j<cells.length->I a.block (a.off+j)) /\
   (∀ j,j<cells.length->w.cell? ⟨a.block,a.off+j,none⟩=some (us j))/\(∀ j,j<cells.length->(us j).oneCell'=true) /\
   (∀ j,j<cells.length->Rep I own θ w (us j) (cells.getD j .any)):=by
 cases h with
 | val v x h=>cases h
 | rpo a cells us hs hI hc h1 hr=>exact⟨a,us,rfl,hs,hI,hc,h1,hr⟩
theorem Rep.agg_inv{I:Nat->Nat->Prop}{own:Nat->Option Own}{θ:Nat->Option (Nat×Nat)}{w:World}{v:Value}{cs:List AV}
  (h:Rep I own θ w v (.agg cs)):∃ vs,v = .agg vs/\vs.size=cs.length/\(∀ j,j<cs.length->(vs.getD j Go.undef).oneCell'=true) /\
   (∀ j,j<cs.length->Rep I own θ w (vs.getD j Go.undef) (cs.getD j .any)):=by
 cases h with
 | val v x h=>cases h with|agg vs cs hl h1 hr=>exact⟨vs,rfl,hl,h1,λj hj=>.val _ _ (hr j hj)⟩
 | agg vs cs hl h1 hr=>grind
theorem Rep.tuple_inv{I:Nat->Nat->Prop}{own:Nat->Option Own}{θ:Nat->Option (Nat×Nat)}{w:World}{v:Value}{cs:List AV}
  (h:Rep I own θ w v (.tuple cs)):∃ vs,v = .tuple vs/\vs.size=cs.length /\
   (∀ j,j<cs.length->Rep I own θ w (vs.getD j Go.undef) (cs.getD j .any)):=by
 cases h with
 | val v x h=>cases h with|tuple vs cs hl hr=>exact⟨vs,rfl,hl,λj hj=>.val _ _ (hr j hj)⟩
 | tuple vs cs hl hr=>grind
theorem Rep.cond_inv{I:Nat->Nat->Prop}{own:Nat->Option Own}{θ:Nat->Option (Nat×Nat)}{w:World}{v:Value}{c:Bool}{x:AV}
  (h:Rep I own θ w v (.cond c x)):(c=true->Rep I own θ w v x)/\(c=false->v=Go.undef):=by
 cases h with
 | val v x h=>cases h with|cond v c x h h'=>exact⟨λhc=>.val _ _ (h hc),h'⟩
 | cond v c x h h'=>grind
mutual
def AV.erase(keep:Nat->Bool):AV->AV
 | .slice sz n f (.own nm)=>.slice sz n f (bif keep nm then .own nm else .none)
 | .slice sz n f (.fam b i)=>.slice sz n f (bif keep b then .fam b i else .none)
 | .ptr nm off=>bif keep nm then .ptr nm off else .any
 | .vsl nm n=>bif keep nm then .vsl nm n else .any
 | .vpt nm n i j=>bif keep nm then .vpt nm n i j else .any
 | .vsub nm n lo hi=>bif keep nm then .vsub nm n lo hi else .any
 | .optr nm mm=>bif keep nm then .optr nm mm else .any
 | .omap nm=>bif keep nm then .omap nm else .any
 | .clo f xs ys=>.clo f (AV.eraseAll keep xs) (AV.eraseAll keep ys)
 | .agg cs=>.agg (AV.eraseAll keep cs)
 | .rpo cs=>.rpo (AV.eraseAll keep cs)
 | .tuple cs=>.tuple (AV.eraseAll keep cs)
 | .cond c x=>.cond c (x.erase keep)
 | x=>x
def AV.eraseAll(keep:Nat->Bool):List AV->List AV
 | []=>[]
 | x::l=>x.erase keep::AV.eraseAll keep l
end
theorem A5(keep:Nat->Bool)(l:List AV):(AV.eraseAll keep l).length=l.length:=by induction l with|nil=>rfl|cons x l ih=>simp[AV.eraseAll,ih]
theorem E2(keep:Nat->Bool)(l:List AV)(j:Nat):(AV.eraseAll keep l).getD j .any=(l.getD j .any).erase keep:=by
 induction l generalizing j with
 | nil=>rfl
 | cons x l ih=>cases j with
  | zero=>rfl
  | succ j=>simp_all [AV.eraseAll]
def Own.erase(keep:Nat->Bool):Own->Own
 | .row e cells=>.row e (AV.eraseAll keep cells)
 | .arr sz e m f=>.arr sz e m (λi=>AV.eraseAll keep (f i))
 | .obj x=>.obj (x.on (AV.erase keep))
 | .tok sz e m=>.tok sz e m
theorem RepV.erase{I:Nat->Nat->Prop}{w:World}{v:Value}{x:AV}(h:RepV I w v x)(keep:Nat->Bool):RepV I w v (x.erase keep):=by
 induction h with
 | any v=>exact .any v
 | undef=>exact .undef
 | int k n=>exact .int k n
 | bool b=>exact .bool b
 | str s=>exact .str s
 | clo f=>exact .clo f
 | nxt1 i r=>exact .nxt1 i r
 | nxt0 i r=>exact .nxt0 i r
 | nilq b pos n h=>exact .nilq b pos n h
 | err0=>exact .err0
 | err1 t v=>exact .err1 t v
 | nilp=>exact .nilp
 | nilm=>exact .nilm
 | cond v c x _ h' ih=>exact .cond v c _ ih h'
 | rptr a cells us hs hI' hc h1 hr _=>exact .rptr a _ us hs hI' hc h1 hr
 | slice a n cap sz f us hcap hmax hz hn h1 hl hr _=>exact .slice a n cap sz f us hcap hmax hz hn h1 hl hr
 | agg vs cs hl h1 _ ih=>exact .agg vs _ (by rw[A5,hl]) (λj hj=>h1 j (by rwa[A5]at hj)) (λj hj=>by grind [A5,E2])
 | tuple vs cs hl _ ih=>exact .tuple vs _ (by rw[A5,hl]) (λj hj=>by grind [A5,E2])
theorem Rep.erase{I:Nat->Nat->Prop}{own own':Nat->Option Own}{θ:Nat->Option (Nat×Nat)}{w:World}{v:Value}{x:AV}(h:Rep I own θ w v x)(keep:Nat->Bool)
  (ho:∀ nm o,own nm=some o->keep nm=true->own' nm=some (o.erase keep)) (hb:∀ b i sz e m,i<A9->own (My b i)=some (.tok sz e m)->keep b=true->own' (My b i)=some (.tok sz e m)):Rep I own' θ w v (x.erase keep):=by
 induction h with
 | val v x h=>exact .val _ _ (h.erase keep)
 | exact a n sz f h=>exact .exact a n sz f h
 | own nm sz e m a n cap f hn hm hv h=>
  simp only[AV.erase]
  cases hk:keep nm with
  | true=>exact .own nm sz e m a n cap f (ho nm _ hn hk) hm hv h
  | false=>exact .val _ _ h
 | fam b i sz e m a n cap f hi hn hm hv h=>
  simp only[AV.erase]
  cases hk:keep b with
  | true=>exact .fam b i sz e m a n cap f hi (hb b i _ _ _ hi hn hk) hm hv h
  | false=>exact .val _ _ h
 | ptr nm off e cells g c hn hg=>
  simp only[AV.erase]
  cases hk:keep nm with
  | true=>exact .ptr nm off e _ g c (ho nm _ hn hk) hg
  | false=>exact .val _ _ (.any _)
 | vsl nm sz e m f a n cap hn hm hcap hmax hnn hv=>
  simp only[AV.erase]
  cases hk:keep nm with
  | true=>exact .vsl nm sz e m _ a n cap (ho nm _ hn hk) hm hcap hmax hnn hv
  | false=>exact .val _ _ (.any _)
 | vpt nm sz e m f n i j ad hn hm hi hv=>
  simp only[AV.erase]
  cases hk:keep nm with
  | true=>exact .vpt nm sz e m _ n i j ad (ho nm _ hn hk) hm hi hv
  | false=>exact .val _ _ (.any _)
 | clo f fs cs xs ys hl hl' _ _ ih ih'=>exact .clo f fs cs _ _ (by rw[A5,hl]) (by rw[A5,hl']) (λj hj=>by grind [A5,E2]) (λj hj=>by grind [A5,E2])
 | vsub nm sz e m f n lo hi a cap hn hm hlo hhi hcap hmax hnn hv=>
  simp only[AV.erase]
  cases hk:keep nm with
  | true=>exact .vsub nm sz e m _ n lo hi a cap (ho nm _ hn hk) hm hlo hhi hcap hmax hnn hv
  | false=>exact .val _ _ (.any _)
 | optr nm mm x g c hn hg=>
  simp only[AV.erase]
  cases hk:keep nm with
  | true=>exact .optr nm _ _ g c (ho nm _ hn hk) hg
  | false=>exact .val _ _ (.any _)
 | omap nm x hn=>
  simp only[AV.erase]
  cases hk:keep nm with
  | true=>exact .omap nm _ (ho nm _ hn hk)
  | false=>exact .val _ _ (.any _)
 | cond v c x _ h' ih=>exact .cond v c _ ih h'
 | agg vs cs hl h1 _ ih=>exact .agg vs _ (by rw[A5,hl]) (λj hj=>h1 j (by rwa[A5]at hj)) (λj hj=>by grind [A5,E2])
 | tuple vs cs hl _ ih=>exact .tuple vs _ (by rw[A5,hl]) (λj hj=>by grind [A5,E2])
 | rpo a cells us hs hI' hc h1 _ ih=>exact .rpo a _ us hs (λj hj=>hI' j (by rwa[A5]at hj)) (λj hj=>hc j (by rwa[A5]at hj)) (λj hj=>h1 j (by rwa[A5]at hj)) (λj hj=>by grind [A5,E2])
theorem Dk(s:ByteArray):(Bo s).length=s.size:=by simp[Bo]
theorem HD(a b:ByteArray):Bo (a++b)=Bo a++Bo b:=by simp[Bo]
theorem Vm:∀{l m:List UInt8},l.map (λb=>(b.toNat:Int))=m.map (λb=>(b.toNat:Int))->l=m
 | [],[],_=>rfl
 | [],_::_,h=>by simp at h
 | _::_,[],h=>by simp at h
 | x::l,y::m,h=>by
  simp only[Bu,Cl]at h;obtain⟨h1,h2⟩:=h;have:x=y:=UInt8.toNat_inj.1 (by grind);rw[this,Vm h2]
theorem Qs(a b:ByteArray):(a.toList==b.toList)=(Bo a==Bo b):=by
 rw[ByteArray.toList_eq,ByteArray.toList_eq,Ms,zzL61]
 grind [Vm,Bo]
theorem DP(s:ByteArray)(l h:Nat):Bo (s.extract l h)=((Bo s).drop l).take (h-l):=by
 simp[Bo]
theorem TK(s:ByteArray)(i:Nat)(hi:i<s.size):s[i]?=some s[i]/\((s[i]).toNat:Int)=(Bo s).getD i 0:=by
 grind [ByteArray.getElem_eq_getElem_data,Bo,Sj,Dk,Oi]
def AU:List Int->List Int->Bool
 | _,[]=>false
 | [],_::_=>true
 | a::x,b::y=>decide (a<b) || (a==b&&AU x y)
theorem PM:∀ l m:List UInt8,Op.bytesLess l m=AU (l.map λb=>(b.toNat:Int)) (m.map λb=>(b.toNat:Int))
 | l,[]=>by cases l<;>rfl
 | [],_::_=>rfl
 | a::x,b::y=>by
  simp only[Op.bytesLess,Bu,AU,PM x y]
  have e1:decide (a<b)=decide ((a.toNat:Int)<b.toNat):=by
   apply zzL108.2
   rw[UInt8.lt_iff_toNat_lt];omega
  grind [UInt8.toNat_inj]
theorem Oy(a b:ByteArray):Op.bytesLess a.toList b.toList=AU (Bo a) (Bo b):=by
 rw[ByteArray.toList_eq,ByteArray.toList_eq,PM];rfl
def Ad{α:Type}:List (Nat×α)->Nat->Option α
 | [],_=>none
 | (k,v)::l,n=>bif Nat.beq k n then some v else Ad l n
def Dp(P:Program)(t:TypeId):Bool:=
 match P.underlying t with
 | some (.struct _)|some (.array _ _)=>true
 | _=>false
def A0(P:Program)(t:TypeId):Nat:=((P.info? t).map (·.size)).getD 0
def Bj(P:Program)(t:TypeId):Bool:=(P.info? t).isSome&&(P.underlying t).isSome
def AV.ofCell:Value->AV
 | .int k n=>.int k n
 | .bool b=>.bool b
 | .string s=>.str (Bo s)
 | .pointer none=>.nilp
 | .slice none 0 0=>.slice 0 0 (λ_=>[]) .exact
 | .nilIface=>.err false
 | .map none=>.nilm
 | _=>.any
def AV.ofValue:Value->AV
 | .agg cs=>bif cs.toList.all (·.oneCell') then .agg (cs.toList.map AV.ofCell) else .any
 | .tuple vs=>match vs.toList with|[]=>.undef|_=>.any
 | v=>AV.ofCell v
def AV.one:AV->Bool
 | .int _ _ | .bool _ | .str _ | .nilp | .err _ | .ptr _ _ | .rptr _ | .slice _ _ _ _ | .vsl _ _ | .vpt _ _ _ _ | .vsub _ _ _ _ | .clo _ _ _ | .omap _ | .nilm | .rpo _=>true
 | _=>false
def AV.cells:AV->Option (List AV)
 | .agg cs=>some cs
 | x=>bif x.one then some [x] else none
structure Eff where
 v:AV
 wo:List (Nat×Own)
 ob:List Prop
def Eff.pure(v:AV)(ob:List Prop):Option Eff:=some ⟨v,[],ob⟩
def Bv(i:Int)(n:Nat):Prop:=0<=i/\i<(n:Int)
def Ox(op:BinOp)(k:IntKind)(x y:Int):Int:=
 let a:=BitVec.ofInt k.bits x
 let b:=BitVec.ofInt k.bits y
 match op with
 | .and=>k.wrap (a &&& b).toNat
 | .or=>k.wrap (a ||| b).toNat
 | .xor=>k.wrap (a ^^^ b).toNat
 | _=>k.wrap (a &&& ~~~b).toNat
def UZ(k:IntKind)(x y:Int):Int:=k.wrap (x*2 ^ min y.toNat k.bits)
def Yf(k:IntKind)(x y:Int):Int:=x.fdiv (2 ^ min y.toNat k.bits)
def Vk(a b:IntKind):Bool:=
 match a,b with
 | .i8,.i8 | .i16,.i16 | .i32,.i32 | .i64,.i64 | .u8,.u8 | .u16,.u16 | .u32,.u32 | .u64,.u64=>true
 | _,_=>false
def kQ(op:BinOp)(k:IntKind)(a b:Int):Option Eff:=
 match op with
 | .add=>Eff.pure (.int k (k.wrap (a+b))) []
 | .sub=>Eff.pure (.int k (k.wrap (a-b))) []
 | .mul=>Eff.pure (.int k (k.wrap (a*b))) []
 | .quo=>Eff.pure (.int k (k.wrap (a.tdiv b))) [b≠0]
 | .rem=>Eff.pure (.int k (a.tmod b)) [b≠0]
 | .and=>Eff.pure (.int k (Ox .and k a b)) []
 | .or=>Eff.pure (.int k (Ox .or k a b)) []
 | .xor=>Eff.pure (.int k (Ox .xor k a b)) []
 | .andNot=>Eff.pure (.int k (Ox .andNot k a b)) []
 | .eql=>Eff.pure (.bool (a==b)) []
 | .neq=>Eff.pure (.bool (a !=b)) []
 | .lss=>Eff.pure (.bool (decide (a<b))) []
 | .leq=>Eff.pure (.bool (decide (a<=b))) []
 | .gtr=>Eff.pure (.bool (decide (b<a))) []
 | .geq=>Eff.pure (.bool (decide (b<=a))) []
 | _=>none
def kP(op:BinOp)(x y:AV):Option Eff:=
 match op,x,y with
 | .shl,.int k a,.int _ b=>Eff.pure (.int k (UZ k a b)) [0<=b]
 | .shr,.int k a,.int _ b=>Eff.pure (.int k (Yf k a b)) [0<=b]
 | op,.int k a,.int k' b=>bif Vk k k' then kQ op k a b else none
 | .eql,.str a,.str b=>Eff.pure (.bool (a==b)) []
 | .lss,.str a,.str b=>Eff.pure (.bool (AU a b)) []
 | .leq,.str a,.str b=>Eff.pure (.bool (AU a b || (a==b))) []
 | .gtr,.str a,.str b=>Eff.pure (.bool (!(AU a b || (a==b)))) []
 | .geq,.str a,.str b=>Eff.pure (.bool (!(AU a b))) []
 | .neq,.str a,.str b=>Eff.pure (.bool (!(a==b))) []
 | .add,.str a,.str b=>Eff.pure (.str (a++b)) [(a.length:Int)+b.length<=9223372036854775807]
 | _,_,_=>none
def Ur:List AV->List AV->Option Bool
 | [],[]=>some true
 | .int k a::xs,.int k' b::ys=>bif Vk k k' then(match Ur xs ys with|some r=>some ((a==b)&&r)|none=>none) else none
 | _,_=>none
def TV(P:Program)(t:TypeId):Bool:=match P.underlying t with|some (.int _)=>true|_=>false
def WS(P:Program)(t:TypeId):Bool:=match P.underlying t with|some .bool=>true|_=>false
def Qv (P : Program) : Nat → List Field → List AV → List AV → Option Bool
  | _, [], [], [] => some true
  | s, f :: l, .int k a :: xs, .int k' b :: ys => bif decide (f.name ≠ "_") && TV P f.type && Nat.beq f.offset s && Vk k k' then (match Qv P (s + 1) l xs ys with | some r => some ((a == b) && r) | none => none) else none
  | s, f :: l, .bool a :: xs, .bool b :: ys => bif decide (f.name ≠ "_") && WS P f.type && Nat.beq f.offset s then (match Qv P (s + 1) l xs ys with | some r => some ((a == b) && r) | none => none) else none
  | _, _, _, _ => none
def LL(P:Program)(t:TypeId)(xs ys:List AV):Option Bool:=
 match P.underlying t with
 | some (.struct fs)=>bif !(P.stoodInHeld t)&&!(P.eqGuardType P.depth t) then Qv P 0 fs.toList xs ys else none
 | some (.array len e)=>bif Bj P e&&TV P e&&Nat.beq (A0 P e) 1&&!(P.eqGuardType P.depth t)&&Nat.beq xs.length len&&Nat.beq ys.length len then Ur xs ys else none
 | _=>none
def cC(P:Program)(op:BinOp)(t:TypeId)(x y:AV):Option Eff:=
 match op,x,y with
 | .eql,.bool a,.bool b=>match P.underlying t with|some .bool=>Eff.pure (.bool (a==b)) []|_=>none
 | .neq,.bool a,.bool b=>match P.underlying t with|some .bool=>Eff.pure (.bool (a !=b)) []|_=>none
 | .eql,.agg xs,.agg ys=>match LL P t xs ys with|some r=>Eff.pure (.bool r) []|none=>none
 | .neq,.agg xs,.agg ys=>match LL P t xs ys with|some r=>Eff.pure (.bool (!r)) []|none=>none
 | _,_,_=>kP op x y
def oS(op:UnOp)(x:AV):Option Eff:=
 match op,x with
 | .not,.bool b=>Eff.pure (.bool (!b)) []
 | .neg,.int k n=>Eff.pure (.int k (k.wrap (0-n))) []
 | .xor,.int k n=>Eff.pure (.int k (Ox .xor k (if k.signed then -1 else k.max) n)) []
 | _,_=>none
def Jq(n:Nat)(f g:Nat->List AV)(i:Nat):List AV:=bif Nat.blt i n then f i else g (i-n)
def OT(sz:Nat):Nat->List AV->List (List AV)
 | 0,_=>[]
 | n+1,l=>l.take sz::OT sz n (l.drop sz)
def AV.view:AV->Option (Nat×Nat×Nat×Nat)
 | .vsl nm n=>some (nm,n,0,n)
 | .vsub nm n lo hi=>some (nm,n,lo,hi)
 | _=>none
def Og(x:AV):List Nat:=match x.view with|some (nm,_)=>[nm]|none=>[]
def Ce(o:Oper)(vs:List AV):List Nat:=
 match o.op,vs with
 | .load _ _,[.ptr nm _]=>[nm]
 | .store _ _ _,[.ptr nm _,_]=>[nm]
 | .load _ _,[.vpt nm _ _ _]=>[nm]
 | .store _ _ _,[.vpt nm _ _ _,_]=>[nm]
 | .indexAddr _ _ _,[.vsl nm _,_]=>[nm]
 | .indexAddr _ _ _,[.vsub nm _ _ _,_]=>[nm]
 | .indexAddr _ _ _,[.vpt nm _ _ _,_]=>[nm]
 | .slice _ _ _ _ _,.vsl nm _::_=>[nm]
 | .slice _ _ _ _ _,.vsub nm _ _ _::_=>[nm]
 | .slice _ _ _ _ _,.vpt nm _ _ _::_=>[nm]
 | .call { callee:=.builtin .copy,.. },[x,y]=>Og x++Og y
 | .call { callee:=.builtin .clear,.. },[x]=>Og x
 | .makeSlice _ _ _,_=>[o.dst.getD 0]
 | .buildSlice _ _ _,_=>[o.dst.getD 0]
 | .range _ _,[.omap nm]=>[o.dst.getD 0,nm]
 | .range _ _,_=>[o.dst.getD 0]
 | .next _ _,[.optr nm _]=>[nm]
 | .entry _,[.optr nm mm]=>[nm,mm]
 | .makeMap _ _,_=>[o.dst.getD 0]
 | .lookup _ _ _ _,[.omap nm,_]=>[nm]
 | .mapUpdate _ _ _ _,[.omap nm,_,_]=>[nm]
 | .insert _ _ _ _,[.omap nm,_,_]=>[nm]
 | .call { callee:=.builtin .len,.. },[.omap nm]=>[nm]
 | .call { callee:=.builtin .append,.. },[.vsl nm _,_]=>[nm]
 | .alloc _,_=>[o.dst.getD 0]
 | .box _ _,_=>[o.dst.getD 0]
 | .call { callee:=.builtin .append,.. },[.slice _ _ _ (.own nm),_]=>[nm]
 | .call { callee:=.builtin .append,.. },[.slice _ _ _ .exact,_]=>[o.dst.getD 0]
 | _,_=>[]
def room:Nat:=1099511627776
def Um(P:Program)(d:Nat)(ts:List TypeId)(vs:List AV)(es:List (Option Own)):Option Eff:=
 match ts,vs,es with
 | [t,t'],[.slice sz n f tag,.slice sz' n' f' _],[eo]=>
  match P.underlying t with
  | some (.slice e)=>
   let s:=A0 P e
   bif Nat.beq t t'&&Bj P e&&Nat.ble 1 s&&Nat.ble (((P.info? e).map (·.bytes)).getD 1000) 128&&((P.info? e).bind (·.zero)).isSome&&(Nat.beq sz s || Nat.beq n 0)&&(Nat.beq sz' s || Nat.beq n' 0)
    && Nat.beq ((((P.info? e).bind (·.zero)).map (·.cells.size)).getD 0) s then
    match tag,eo with
    | .own nm,some (.tok sz0 e0 m)=>
     bif Nat.beq sz0 s&&Nat.beq e0 e then
      some ⟨.slice s (n+n') (Jq n f f') (.own nm),[(nm,.tok s e (n+n'))],[m=n,n+n'<=room]⟩
     else none
    | .exact,none=>some ⟨.slice s (n+n') (Jq n f f') (.own d),[(d,.tok s e (n+n'))],[n+n'<=room,e=Vw->n=0\/0<n']⟩
    | _,_=>none
   else none
  | _=>none
 | _,_,_=>none
def Tc(place:Nat->Option (Nat×Nat))(cells:List AV):List (Nat×AV)->Option (List AV)
 | []=>some cells
 | (i,v)::rest=>
  match place i,v.cells with
  | some (off,size),some cs=>bif Nat.beq cs.length size&&Nat.ble (off+cs.length) cells.length then Tc place (cells.take off++cs++cells.drop (off+cs.length)) rest else none
  | _,_=>none
def Qj(P:Program)(t:TypeId):Option (List AV):=
 match(P.info? t).bind (·.zero) with
 | some z=>bif z.cells.toList.all (·.oneCell') then some (z.cells.toList.map AV.ofCell) else none
 | none=>none
def JP(P:Program)(t:TypeId)(cs:List AV)(off:Nat):Option AV:=
 bif Bj P t then
  bif Dp P t then(bif Nat.ble (off+A0 P t) cs.length then some (.agg ((cs.drop off).take (A0 P t))) else none)
  else(bif Nat.blt off cs.length then some (cs.getD off .any) else none)
 else none
def SY(P:Program)(t:TypeId)(is:List Nat)(vs:List AV):Option Eff:=
 match Qj P t,P.underlying t with
 | some z,some (.struct fields)=>
  bif fields.toList.all (λf=>Bj P f.type) then
   match Tc (λi=>(fields.toList.map λf=>(f.offset,A0 P f.type))[i]?) z (is.zip vs) with
   | some cs=>Eff.pure (.agg cs) []
   | none=>none
  else none
 | some z,some (.array _ e)=>
  bif Bj P e then
   match Tc (λi=>some (i*A0 P e,A0 P e)) z (is.zip vs) with
   | some cs=>Eff.pure (.agg cs) []
   | none=>none
  else none
 | _,_=>none
def S7(P:Program)(t:TypeId)(len:Nat)(is:List Nat)(vs:List AV):Option Eff:=
 match P.underlying t with
 | some (.slice e)=>
  match Qj P e with
  | some z=>
   bif Bj P e&&Nat.beq z.length (A0 P e)&&Nat.ble 1 (A0 P e)&&Nat.ble (len*A0 P e) 16777216 then
    match Tc (λi=>some (i*A0 P e,A0 P e)) ((List.replicate len z).flatten) (is.zip vs) with
    | some cs=>Eff.pure (.slice (A0 P e) len (λi=>(OT (A0 P e) len (AV.stripAll cs)).getD i []) .exact) []
    | none=>none
   else none
  | none=>none
 | _=>none
def AV.num:List AV->Int
 | [.int _ x]=>x
 | _=>0
def Yz(n:Nat)(f:Nat->List AV):List Int:=(List.range n).map λi=>AV.num (f i)
def bg(n:Nat)(f:Nat->List AV):Prop:=∀ i,i<n->f i=[.int .u8 (AV.num (f i))]/\0<=AV.num (f i)/\AV.num (f i)<256
def lp(P:Program)(t:TypeId):Bool:=match P.underlying t with|some (.int .u8)=>Bj P t&&Nat.beq (A0 P t) 1|_=>false
def Yx(lo hi mx:Bool)(vs:List AV):Option Eff:=
 match lo,hi,mx,vs with
 | false,false,false,[.str s]=>Eff.pure (.str s) []
 | true,false,false,[.str s,.int _ l]=>Eff.pure (.str (s.drop l.toNat)) [0<=l/\l<=s.length]
 | false,true,false,[.str s,.int _ h]=>Eff.pure (.str (s.take h.toNat)) [0<=h/\h<=s.length]
 | true,true,false,[.str s,.int _ l,.int _ h]=>Eff.pure (.str ((s.drop l.toNat).take (h.toNat-l.toNat))) [0<=l/\l<=h/\h<=s.length]
 | _,_,_,_=>none
def TB(P:Program)(t:TypeId)(lo hi mx:Bool)(vs:List AV):Option Eff:=
 match P.underlying t with
 | some (.slice e)=>
  bif Bj P e then
   match lo,hi,mx,vs with
   | false,false,false,[.slice sz n f _]=>bif Nat.beq sz (A0 P e) || Nat.beq n 0 then Eff.pure (.slice sz n f .none) [] else none
   | true,false,false,[.slice sz n f _,.int _ l]=>bif Nat.beq sz (A0 P e) || Nat.beq n 0 then Eff.pure (.slice sz (n-l.toNat) (λi=>f (l.toNat+i)) .none) [0<=l/\l<=n] else none
   | false,true,false,[.slice sz n f _,.int _ h]=>bif Nat.beq sz (A0 P e) || Nat.beq n 0 then Eff.pure (.slice sz h.toNat f .none) [0<=h/\h<=n] else none
   | false,true,true,[.slice sz n f _,.int _ h,.int _ m]=>bif Nat.beq sz (A0 P e) || Nat.beq n 0 then Eff.pure (.slice sz h.toNat f .exact) [0<=h/\h=m/\h<=n] else none
   | true,true,true,[.slice sz n f _,.int _ l,.int _ h,.int _ m]=>bif Nat.beq sz (A0 P e) || Nat.beq n 0 then Eff.pure (.slice sz (h.toNat-l.toNat) (λi=>f (l.toNat+i)) .exact) [0<=l/\l<=h/\h=m/\h<=n] else none
   | true,true,false,[.slice sz n f _,.int _ l,.int _ h]=>bif Nat.beq sz (A0 P e) || Nat.beq n 0 then Eff.pure (.slice sz (h.toNat-l.toNat) (λi=>f (l.toNat+i)) .none) [0<=l/\l<=h/\h<=n] else none
   | _,_,_,_=>none
  else none
 | some .string=>Yx lo hi mx vs
 | _=>none
def JQ(cells:List AV)(k:Nat):Nat->List AV
 | 0=>[]
 | n+1=>cells.getD k .any::JQ cells (k+1) n
def kS(P:Program)(o:Oper)(vs:List AV)(es:List (Option Own)):Option Eff:=
 match o.op with
 | .move _ | .assign _=>match vs with|[x]=>Eff.pure x []|_=>none
 | .binOp op t _ _ _=>match vs with|[x,y]=>cC P op t x y|_=>none
 | .unOp op _ _=>match vs with|[x]=>oS op x|_=>none
 | .convert src dst _=>
  match P.underlying src,P.underlying dst,vs with
  | some (.int _),some (.int k),[.int _ n]=>Eff.pure (.int k (k.wrap n)) []
  | some .string,some .string,[.str s]=>Eff.pure (.str s) []
  | some (.slice e),some .string,[.slice sz n f _]=>bif lp P e&&(Nat.beq sz 1 || Nat.beq n 0) then Eff.pure (.str (Yz n f)) [bg n f] else none
  | _,_,_=>none
 | .load t _=>
  bif Bj P t then
   match vs,es with
   | [.ptr _ off],[some (.row _ cells)]=>
    bif Dp P t then(bif Nat.ble (off+A0 P t) cells.length then Eff.pure (.agg ((cells.drop off).take (A0 P t))) [] else none)
    else(bif Nat.blt off cells.length then Eff.pure (cells.getD off .any) [] else none)
   | [.rptr cells],_=>
    bif Dp P t then(bif Nat.beq (A0 P t) cells.length then Eff.pure (.agg cells) [] else none)
    else(bif Nat.ble 1 cells.length then Eff.pure (cells.getD 0 .any) [] else none)
   | _,_=>none
  else none
 | .store t _ _=>
  bif Bj P t then
   match vs,es with
   | [.ptr nm off,x],[some (.row e cells)]=>
    match x.cells with
    | some cs=>bif Nat.beq cs.length (A0 P t)&&Nat.ble (off+cs.length) cells.length then some ⟨.undef,[(nm,.row e (cells.take off++cs++cells.drop (off+cs.length)))],[]⟩ else none
    | none=>none
   | _,_=>none
  else none
 | .fieldAddr s _ f=>
  match P.underlying s with
  | some (.struct fields)=>
   match fields[f]? with
   | some fd=>
    bif Bj P fd.type&&Nat.ble 1 (A0 P fd.type) then
     match vs with
     | [.ptr nm off]=>Eff.pure (.ptr nm (off+fd.offset)) []
     | [.rptr cells]=>bif Nat.ble (fd.offset+A0 P fd.type) cells.length then Eff.pure (.rptr ((cells.drop fd.offset).take (A0 P fd.type))) [] else none
     | _=>none
    else none
   | none=>none
  | _=>none
 | .field s _ f=>
  match P.underlying s,vs with
  | some (.struct fields),[.agg cs]=>
   match fields[f]? with
   | some fd=>match JP P fd.type cs fd.offset with|some x=>Eff.pure x []|none=>none
   | none=>none
  | _,_=>none
 | .indexAddr t _ _=>
  match P.underlying t,vs with
  | some (.slice e),[.slice sz n f _,.int _ i]=>
   bif Bj P e&&(Nat.beq sz (A0 P e) || Nat.beq n 0) then Eff.pure (.rptr (f i.toNat)) [Bv i n] else none
  | some (.array len e),[.ptr nm off,.int _ i]=>
   bif Bj P e then Eff.pure (.ptr nm (off+i.toNat*A0 P e)) [Bv i len] else none
  | some (.array len e),[.rptr cells,.int _ i]=>
   bif Bj P e&&Nat.beq cells.length (len*A0 P e) then Eff.pure (.rptr (JQ cells (i.toNat*A0 P e) (A0 P e))) [Bv i len] else none
  | _,_=>none
 | .index t _ _=>
  match P.underlying t,vs with
  | some (.array len e),[.agg cs,.int _ i]=>
   bif Bj P e&&!Dp P e&&Nat.beq (A0 P e) 1&&Nat.beq cs.length len then Eff.pure (cs.getD i.toNat .any) [Bv i len]
   else bif Bj P e&&Dp P e&&Nat.beq cs.length (len*A0 P e) then Eff.pure (.agg ((cs.drop (i.toNat*A0 P e)).take (A0 P e))) [Bv i len] else none
  | some .string,[.str s,.int _ i]=>Eff.pure (.int .u8 (s.getD i.toNat 0)) [Bv i s.length]
  | _,_=>none
 | .extract _ ix=>match vs with|[.tuple xs]=>(bif Nat.blt ix xs.length then Eff.pure (xs.getD ix .any) [] else none)|_=>none
 | .nilCheck _=>match vs with|[.ptr nm off]=>Eff.pure (.ptr nm off) []|[.rptr cs]=>Eff.pure (.rptr cs) []|_=>none
 | .alloc t=>
  match o.dst,Qj P t,es with
  | some d,some z,[none]=>bif Bj P t then some ⟨.ptr d 0,[(d,.row t z)],[]⟩ else none
  | _,_,_=>none
 | .box t _=>
  match o.dst,vs,es with
  | some d,[x],[none]=>match x.cells with|some cs=>some ⟨.ptr d 0,[(d,.row t cs)],[]⟩|none=>none
  | _,_,_=>none
 | .build t parts=>SY P t (parts.toList.map (·.1)) vs
 | .buildSlice t len parts=>S7 P t len (parts.toList.map (·.1)) vs
 | .slice t _ lo hi mx=>TB P t lo.isSome hi.isSome mx.isSome vs
 | .call { callee:=.builtin .len,argTypes,.. }=>
  match argTypes.toList with
  | [t]=>
   match P.underlying t,vs with
   | some (.slice _),[.slice _ n _ _]=>Eff.pure (.int .i64 n) []
   | some .string,[.str s]=>Eff.pure (.int .i64 s.length) []
   | some (.array n _),[_]=>Eff.pure (.int .i64 n) []
   | _,_=>none
  | _=>none
 | .call { callee:=.builtin .max,.. }=>match vs with|[.int k a,.int _ b]=>Eff.pure (.int k (if a<b then b else a)) []|_=>none
 | .call { callee:=.builtin .min,.. }=>match vs with|[.int k a,.int _ b]=>Eff.pure (.int k (if b<a then b else a)) []|_=>none
 | .call { callee:=.builtin .append,argTypes,.. }=>match o.dst with|some d=>Um P d argTypes.toList vs es|none=>none
 | _=>none
def Ll(f:Nat->List AV)(i j:Nat)(cs:List AV):Nat->List AV:=λk=>bif Nat.beq k i then(f i).take j++cs++(f i).drop (j+cs.length) else f k
def IE(P:Program)(t t' e:TypeId):Bool:=
 Nat.beq t t'&&Bj P e&&Nat.ble 1 (A0 P e)&&Nat.ble (((P.info? e).map (·.bytes)).getD 1000) 128&&((P.info? e).bind (·.zero)).isSome&&Nat.beq ((((P.info? e).bind (·.zero)).map (·.cells.size)).getD 0) (A0 P e)
def OY(f:Nat->List AV)(lo k:Nat)(g:Nat->List AV):Nat->List AV:=λi=>bif Nat.ble lo i&&Nat.blt i (lo+k) then g (i-lo) else f i
def je(P:Program)(ts:List TypeId)(x y:AV)(es:List (Option Own)):Option Eff:=
 match ts,x.view with
 | [t,_],some (nm,n,lo,hi)=>
  match P.underlying t,es with
  | some (.slice e),some (.arr sz e0 m f)::es'=>
   bif Bj P e&&Nat.beq sz (A0 P e) then
    match y.view,es' with
    | some (_,n',lo',hi'),[some (.arr sz' _ m' f')]=>
     bif Nat.beq sz' sz then some ⟨.int .i64 (Nat.min (hi'-lo') (hi-lo):Nat),[(nm,.arr sz e0 m (OY f lo (Nat.min (hi'-lo') (hi-lo)) (λi=>f' (lo'+i))))],[n=m,n'=m']⟩ else none
    | none,[]=>
     match y with
     | .slice sz' n' f' _=>bif Nat.beq sz' sz || Nat.beq n' 0 then some ⟨.int .i64 (Nat.min n' (hi-lo):Nat),[(nm,.arr sz e0 m (OY f lo (Nat.min n' (hi-lo)) f'))],[n=m]⟩ else none
     | _=>none
    | _,_=>none
   else none
  | _,_=>none
 | _,_=>none
def cE(P:Program)(ts:List TypeId)(x:AV)(es:List (Option Own)):Option Eff:=
 match ts,x.view with
 | [t],some (nm,n,lo,hi)=>
  match P.underlying t,es with
  | some (.slice e),[some (.arr sz e0 m f)]=>
   match Qj P e with
   | some z=>bif Bj P e&&Nat.beq sz (A0 P e)&&Nat.beq z.length (A0 P e) then some ⟨.any,[(nm,.arr sz e0 m (OY f lo (hi-lo) (λ_=>z)))],[n=m]⟩ else none
   | none=>none
  | _,_=>none
 | _,_=>none
def cG(P:Program)(t:TypeId)(lo hi mx:Bool)(x:AV)(vs:List AV):Option Eff:=
 match P.underlying t,x.view with
 | some (.slice e),some (nm,n,l0,h0)=>
  bif Bj P e then
   match lo,hi,mx,vs with
   | true,false,false,[.int _ l]=>Eff.pure (.vsub nm n (l0+l.toNat) h0) [0<=l/\l0+l.toNat<=h0]
   | false,true,false,[.int _ h]=>Eff.pure (.vsub nm n l0 (l0+h.toNat)) [0<=h/\l0+h.toNat<=h0]
   | true,true,false,[.int _ l,.int _ h]=>Eff.pure (.vsub nm n (l0+l.toNat) (l0+h.toNat)) [0<=l/\l<=h/\l0+h.toNat<=h0]
   | _,_,_,_=>none
  else none
 | _,_=>none
def cT(P:Program)(hint:Bool)(o:Oper)(vs:List AV)(es:List (Option Own)):Option Eff:=
 match o.op,vs,es with
 | .load t _,[.vpt _ n i j],[some (.arr sz _ m f)]=>
  bif Bj P t then
   bif Dp P t then(bif Nat.blt 500 sz then Eff.pure (.agg (((f i).drop j).take (A0 P t))) [n=m,j+A0 P t<=sz] else bif Nat.ble (j+A0 P t) sz then Eff.pure (.agg (((f i).drop j).take (A0 P t))) [n=m] else none)
   else(bif Nat.blt 500 sz then Eff.pure ((f i).getD j .any) [n=m,j<sz] else bif Nat.blt j sz then Eff.pure ((f i).getD j .any) [n=m] else none)
  else none
 | .store t _ _,[.vpt nm n i j,x],[some (.arr sz e m f)]=>
  match x.cells with
  | some cs=>
   bif Nat.blt 500 sz then(bif Bj P t&&Nat.beq cs.length (A0 P t) then some ⟨.undef,[(nm,.arr sz e m (Ll f i j cs))],[n=m,j+cs.length<=sz]⟩ else none)
   else bif Bj P t&&Nat.beq cs.length (A0 P t)&&Nat.ble (j+cs.length) sz then some ⟨.undef,[(nm,.arr sz e m (Ll f i j cs))],[n=m]⟩ else none
  | none=>none
 | .fieldAddr s _ k,[.vpt nm n i j],_=>
  match P.underlying s with
  | some (.struct fields)=>
   match fields[k]? with
   | some fd=>bif Bj P fd.type&&Nat.ble 1 (A0 P fd.type) then Eff.pure (.vpt nm n i (j+fd.offset)) [] else none
   | none=>none
  | _=>none
 | .indexAddr t _ _,[.vsl nm n,.int _ i],[some (.arr sz _ _ _)]=>
  match P.underlying t with
  | some (.slice e)=>bif Bj P e&&Nat.beq sz (A0 P e) then Eff.pure (.vpt nm n i.toNat 0) [Bv i n] else none
  | _=>none
 | .indexAddr t _ _,[.vsub nm n lo hi,.int _ i],[some (.arr sz _ _ _)]=>
  match P.underlying t with
  | some (.slice e)=>bif Bj P e&&Nat.beq sz (A0 P e) then Eff.pure (.vpt nm n (lo+i.toNat) 0) [Bv i (hi-lo)] else none
  | _=>none
 | .slice t _ lo hi mx,x::vs,[some (.arr sz _ _ _)]=>
  match P.underlying t with
  | some (.slice e)=>bif Nat.beq sz (A0 P e) then cG P t lo.isSome hi.isSome mx.isSome x vs else none
  | _=>none
 | .call { callee:=.builtin .copy,argTypes,.. },[x,y],es=>je P argTypes.toList x y es
 | .call { callee:=.builtin .clear,argTypes,.. },[x],es=>cE P argTypes.toList x es
 | .nilCheck _,[.vpt nm n i j],_=>Eff.pure (.vpt nm n i j) []
 | .nilCheck _,[.clo f xs ys],_=>Eff.pure (.clo f xs ys) []
 | .makeFunc (.func f) first captured,vs,_=>bif Nat.beq vs.length (first.toList.length+captured.toList.length) then Eff.pure (.clo f (vs.take first.toList.length) (vs.drop first.toList.length)) [] else none
 | .makeSlice t _ _,[.int _ l,.int _ c],[none]=>
  match o.dst,P.underlying t with
  | some d,some (.slice e)=>
   match Qj P e with
   | some z=>bif Bj P e&&Nat.ble 1 (A0 P e)&&Nat.beq z.length (A0 P e)&&Nat.ble (((P.info? e).map (·.bytes)).getD 1000) 128 then some ⟨.vsl d l.toNat,[(d,.arr (A0 P e) e l.toNat (λ_=>z))],[0<=l/\l<=c/\c<=(room:Int)]⟩ else none
   | none=>none
  | _,_=>none
 | .call { callee:=.builtin .len,argTypes,.. },[.vsl _ n],_=>
  match argTypes.toList with
  | [t]=>match P.underlying t with|some (.slice _)=>Eff.pure (.int .i64 n) []|_=>none
  | _=>none
 | .call { callee:=.builtin .len,argTypes,.. },[.vsub _ _ lo hi],_=>
  match argTypes.toList with
  | [t]=>match P.underlying t with|some (.slice _)=>Eff.pure (.int .i64 (hi-lo:Nat)) []|_=>none
  | _=>none
 | .call { callee:=.builtin .append,argTypes,.. },[.vsl nm n,.slice sz' n' f' _],[some (.arr sz0 e0 m f)]=>
  match argTypes.toList with
  | [t,t']=>
   match P.underlying t with
   | some (.slice e)=>bif IE P t t' e&&(Nat.beq sz' (A0 P e) || Nat.beq n' 0)&&Nat.beq sz0 (A0 P e)&&Nat.beq e0 e then some ⟨.vsl nm (n+n'),[(nm,.arr sz0 e0 (n+n') (Jq n f f'))],[n=m,n+n'<=room]⟩ else none
   | _=>none
  | _=>none
 | .call { callee:=.builtin .append,argTypes,.. },[.slice _ n _ .exact,.slice sz' n' f' _],[none]=>
  match argTypes.toList,o.dst with
  | [t,t'],some d=>
   match P.underlying t with
   | some (.slice e)=>bif hint&&IE P t t' e&&(Nat.beq sz' (A0 P e) || Nat.beq n' 0)&&Nat.beq n 0 then some ⟨.vsl d n',[(d,.arr (A0 P e) e n' f')],[n'<=room]⟩ else none
   | _=>none
  | _,_=>none
 | _,_,_=>none
def jH(s:List Int)(i:Nat):List AV:=[.int .u8 (s.getD i 0)]
def DJ(P:Program)(d:Nat)(ts:List TypeId)(vs:List AV)(es:List (Option Own)):Option Eff:=
 match ts,vs,es with
 | [t,t'],[.slice sz n f tag,.str s],[eo]=>
  match P.underlying t,P.underlying t' with
  | some (.slice e),some .string=>
   bif lp P e&&Nat.ble (((P.info? e).map (·.bytes)).getD 1000) 128&&(match(P.info? e).bind (·.zero) with|some (.int .u8 0)=>true|_=>false)&&(Nat.beq sz 1 || Nat.beq n 0) then
    match tag,eo with
    | .own nm,some (.tok sz0 e0 m)=>
     bif Nat.beq sz0 1&&Nat.beq e0 e then
      some ⟨.slice 1 (n+s.length) (Jq n f (jH s)) (.own nm),[(nm,.tok 1 e (n+s.length))],[m=n,n+s.length<=room]⟩
     else none
    | .exact,none=>some ⟨.slice 1 (n+s.length) (Jq n f (jH s)) (.own d),[(d,.tok 1 e (n+s.length))],[n+s.length<=room,e=Vw->n=0\/0<s.length]⟩
    | _,_=>none
   else none
  | _,_=>none
 | _,_,_=>none
def CO(l:List Int)(i:Nat):Nat×Nat:=
 let at' (k:Nat):Nat:=(l.getD (i+k) 0).toNat
 let cont (k:Nat):Bool:=decide (i+k<l.length)&&(at' k / 64==2)
 let b0:=at' 0
 if b0<0x80 then(b0,1)
 else if b0 / 32==6&&cont 1 then
  let c:=(b0 % 32)*64+at' 1 % 64
  if c>=0x80 then(c,2) else(Utf8.runeError,1)
 else if b0 / 16==14&&cont 1&&cont 2 then
  let c:=(b0 % 16)*4096+(at' 1 % 64)*64+at' 2 % 64
  if c>=0x800&&Utf8.valid c then(c,3) else(Utf8.runeError,1)
 else if b0 / 8==30&&cont 1&&cont 2&&cont 3 then
  let c:=(b0 % 8)*262144+(at' 1 % 64)*4096+(at' 2 % 64)*64+at' 3 % 64
  if c>=0x10000&&Utf8.valid c then(c,4) else(Utf8.runeError,1)
 else(Utf8.runeError,1)
def eZ(l:List Int)(i:Nat):Int:=((CO l i).1:Nat)
def RI(l:List Int)(i:Nat):Nat:=bif Nat.blt i l.length then i+(CO l i).2 else i
def Yw(P:Program)(t:TypeId)(len:Nat)(is:List Nat)(vs:List AV)(d:Nat):Option Eff:=
 match P.underlying t with
 | some (.slice e)=>
  match Qj P e with
  | some z=>
   bif Bj P e&&Nat.beq z.length (A0 P e)&&Nat.ble 1 (A0 P e)&&Nat.ble (len*A0 P e) 16777216 then
    match Tc (λi=>some (i*A0 P e,A0 P e)) ((List.replicate len z).flatten) (is.zip vs) with
    | some cs=>some ⟨.vsl d len,[(d,.arr (A0 P e) e len (λi=>(cs.drop (i*A0 P e)).take (A0 P e)))],[]⟩
    | none=>none
   else none
  | none=>none
 | _=>none
def cQ(P:Program)(hint:Bool)(o:Oper)(vs:List AV)(es:List (Option Own)):Option Eff:=
 match o.op,vs,es with
 | .range t _,[.str s],[none]=>match o.dst,P.underlying t with|some d,some .string=>some ⟨.optr d d,[(d,.obj (.iter s 0))],[]⟩|_,_=>none
 | .next _ true,[.optr nm _],[some (.obj (.iter l p))]=>some ⟨.nxt (Nat.blt p l.length) p (eZ l p),[(nm,.obj (.iter l (RI l p)))],[]⟩
 | .alloc t,[],[none]=>
  match o.dst,P.underlying t,Qj P t with
  | some d,some (.array len e),some z=>
   bif hint&&Bj P e&&Nat.ble 1 len&&Nat.beq z.length (len*A0 P e)&&Nat.ble len room then some ⟨.vpt d len 0 0,[(d,.arr (A0 P e) t len (λi=>(z.drop (i*A0 P e)).take (A0 P e)))],[]⟩ else none
  | some d,some (.struct _),some z=>bif hint&&Nat.blt 500 (A0 P t)&&Nat.beq z.length (1*A0 P t) then some ⟨.vpt d 1 0 0,[(d,.arr (A0 P t) t 1 (λi=>(z.drop (i*A0 P t)).take (A0 P t)))],[]⟩ else none
  | _,_,_=>none
 | .box t _,[.agg cs],[none]=>
  match o.dst,P.underlying t with
  | some d,some (.array len e)=>
   bif hint&&Bj P e&&Nat.ble 1 len&&Nat.beq cs.length (len*A0 P e)&&Nat.ble len room then some ⟨.vpt d len 0 0,[(d,.arr (A0 P e) t len (λi=>(cs.drop (i*A0 P e)).take (A0 P e)))],[]⟩ else none
  | some d,some (.struct _)=>bif hint&&Nat.blt 500 (A0 P t)&&Nat.beq cs.length (1*A0 P t) then some ⟨.vpt d 1 0 0,[(d,.arr (A0 P t) t 1 (λi=>(cs.drop (i*A0 P t)).take (A0 P t)))],[]⟩ else none
  | _,_=>none
 | .indexAddr t _ _,[.vpt nm n 0 0,.int _ i],[some (.arr sz _ _ _)]=>
  match P.underlying t with
  | some (.array len e)=>
   bif Nat.blt 500 sz then(bif Bj P e then Eff.pure (.vpt nm n 0 (0+i.toNat*A0 P e)) [Bv i len] else none)
   else bif Bj P e&&Nat.beq n len&&Nat.beq sz (A0 P e) then Eff.pure (.vpt nm n i.toNat 0) [Bv i n] else none
  | _=>none
 | .indexAddr t _ _,[.vpt nm n a j,.int _ i],[some (.arr sz _ _ _)]=>
  match P.underlying t with
  | some (.array len e)=>bif Nat.blt 500 sz&&Bj P e then Eff.pure (.vpt nm n a (j+i.toNat*A0 P e)) [Bv i len] else none
  | _=>none
 | .extract _ 0,[.nxt b _ _],_=>Eff.pure (.bool b) []
 | .extract _ 1,[.nxt b i _],_=>Eff.pure (.int .i64 i) [b=true]
 | .extract _ 2,[.nxt b _ r],_=>Eff.pure (.int .i32 r) [b=true]
 | .call { callee:=.builtin .append,argTypes,.. },[.slice sz n f tag,.str s],[eo]=>match o.dst with|some d=>DJ P d argTypes.toList [.slice sz n f tag,.str s] [eo]|none=>none
 | .binOp .eql t _ (.const .nilIface) _,[.err b,_],_=>match P.underlying t with|some (.interface _)=>Eff.pure (.bool (!b)) []|_=>none
 | .binOp .neq t _ (.const .nilIface) _,[.err b,_],_=>match P.underlying t with|some (.interface _)=>Eff.pure (.bool b) []|_=>none
 | .binOp .eql t _ (.const (.slice none 0 0)) _,[.slice _ n _ _,_],_=>match P.underlying t with|some (.slice _)=>Eff.pure (.nilq true n) []|_=>none
 | .binOp .neq t _ (.const (.slice none 0 0)) _,[.slice _ n _ _,_],_=>match P.underlying t with|some (.slice _)=>Eff.pure (.nilq false n) []|_=>none
 | .binOp .eql t _ (.const (.pointer none)) _,[.ptr _ _,_],_=>match P.underlying t with|some (.pointer _)=>Eff.pure (.bool false) []|_=>none
 | .binOp .neq t _ (.const (.pointer none)) _,[.ptr _ _,_],_=>match P.underlying t with|some (.pointer _)=>Eff.pure (.bool true) []|_=>none
 | .binOp .eql t _ (.const (.pointer none)) _,[.nilp,_],_=>match P.underlying t with|some (.pointer _)=>Eff.pure (.bool true) []|_=>none
 | .binOp .neq t _ (.const (.pointer none)) _,[.nilp,_],_=>match P.underlying t with|some (.pointer _)=>Eff.pure (.bool false) []|_=>none
 | .buildSlice t len parts,vs,[none]=>bif hint then(match o.dst with|some d=>Yw P t len (parts.toList.map (·.1)) vs d|none=>none) else none
 | _,_,_=>none
def mget{V:Type}(d:V):List (Int×V)->Int->V
 | [],_=>d
 | (a,b)::r,k=>bif k==a then b else mget d r k
def B6{V:Type}:List (Int×V)->Int->Bool
 | [],_=>false
 | (a,_)::r,k=>(k==a) || B6 r k
def Et{V:Type}:List (Int×V)->Int->V->List (Int×V)
 | [],k,v=>[(k,v)]
 | (a,b)::r,k,v=>bif k==a then(k,v)::r else(a,b)::Et r k v
def EN(P:Program)(t:TypeId):Option (IntKind×TypeId):=
 match P.underlying t with
 | some (.map kt e)=>match P.underlying kt with|some (.int k)=>some (k,e)|_=>none
 | _=>none
def KI(P:Program)(t:TypeId):Option AV:=((P.info? t).bind (·.zero)).map λv=>(AV.ofValue v).strip
def cS(P:Program)(o:Oper)(vs:List AV)(es:List (Option Own)):Option Eff:=
 match o.op,vs,es with
 | .makeMap t none,[],[none]=>match o.dst,EN P t with|some d,some (k,_)=>some ⟨.omap d,[(d,.obj (.map true k []))],[]⟩|_,_=>none
 | .makeMap t (some _),[.int _ _],[none]=>match o.dst,EN P t with|some d,some (k,_)=>some ⟨.omap d,[(d,.obj (.map true k []))],[]⟩|_,_=>none
 | .lookup t _ _ ok,[.omap _,.int k' i],[some (.obj (.map _ k l))]=>
  match EN P t with
  | some (k0,e)=>bif Vk k k'&&Vk k k0 then(match KI P e with|some z=>Eff.pure (bif ok then .tuple [mget z l i,.bool (B6 l i)] else mget z l i) []|none=>none) else none
  | none=>none
 | .mapUpdate t _ _ _,[.omap nm,.int k' i,x],[some (.obj (.map true k l))]=>
  match EN P t with
  | some (k0,_)=>bif Vk k k'&&Vk k k0 then some ⟨.undef,[(nm,.obj (.map true k (Et l i x.strip)))],[]⟩ else none
  | none=>none
 | .range t _,[.omap mm],[none,some (.obj (.map _ _ l))]=>match o.dst,EN P t with|some d,some _=>some ⟨.optr d mm,[(d,.obj (.miter (.omap mm) l.length []))],[]⟩|_,_=>none
 | .entry _,[.optr _ mm],[some (.obj (.miter (.omap m') n (i::_))),some (.obj (.map _ k l))]=>bif Nat.beq m' mm then some ⟨.tuple [.int k (l.getD i (0,.any)).1,(l.getD i (0,.any)).2],[],[n=l.length,i<l.length]⟩ else none
 | .call { callee:=.builtin .len,argTypes,.. },[.omap _],[some (.obj (.map _ _ l))]=>
  match argTypes.toList with
  | [t]=>match P.underlying t with|some (.map _ _)=>Eff.pure (.int .i64 l.length) []|_=>none
  | _=>none
 | .lookup t _ _ ok,[.omap _,.int k' i],[some (.obj (.pmap _ k l))]=>
  match EN P t with
  | some (k0,e)=>bif Vk k k'&&Vk k k0 then(match KI P e with|some z=>Eff.pure (bif ok then .tuple [mget z l i,.bool (B6 l i)] else mget z l i) []|none=>none) else none
  | none=>none
 | .call { callee:=.builtin .len,argTypes,.. },[.omap _],[some (.obj (.pmap _ _ l))]=>
  match argTypes.toList with
  | [t]=>match P.underlying t with|some (.map _ _)=>Eff.pure (.int .i64 l.length) []|_=>none
  | _=>none
 | _,_,_=>none
def Xl(n:Nat)(f:Nat->List AV):List AV:=(List.range n).flatMap f
def cP(P:Program)(o:Oper)(vs:List AV)(es:List (Option Own)):Option Eff:=
 match o.op,vs,es with
 | .load t _,[.vpt _ n 0 0],[some (.arr sz _ m f)]=>
  match P.underlying t with
  | some (.array len _)=>bif Bj P t&&Nat.beq n len&&Nat.beq (A0 P t) (n*sz) then Eff.pure (.agg (Xl n f)) [n=m] else none
  | _=>none
 | .store t _ _,[.vpt nm n 0 0,x],[some (.arr sz e m f)]=>
  match P.underlying t,x.cells with
  | some (.array len _),some cs=>bif Bj P t&&Nat.beq n len&&Nat.beq cs.length (A0 P t)&&Nat.beq (A0 P t) (n*sz) then some ⟨.undef,[(nm,.arr sz e m (λi=>(cs.drop (i*sz)).take sz))],[n=m]⟩ else none
  | _,_=>none
 | .slice t _ lo hi mx,.vpt nm n 0 0::vs,[some (.arr sz e _ _)]=>
  match P.underlying t with
  | some (.array len el)=>
   bif Bj P el&&Nat.beq n len&&Nat.beq sz (A0 P el)&&cN e then
    match lo.isSome,hi.isSome,mx.isSome,vs with
    | true,false,false,[.int _ l]=>Eff.pure (.vsub nm n (0+l.toNat) n) [0<=l/\0+l.toNat<=n]
    | false,true,false,[.int _ h]=>Eff.pure (.vsub nm n 0 (0+h.toNat)) [0<=h/\0+h.toNat<=n]
    | true,true,false,[.int _ l,.int _ h]=>Eff.pure (.vsub nm n (0+l.toNat) (0+h.toNat)) [0<=l/\l<=h/\0+h.toNat<=n]
    | false,false,false,[]=>Eff.pure (.vsub nm n 0 n) []
    | _,_,_,_=>none
   else none
  | _=>none
 | _,_,_=>none
def jl(P:Program)(t:TypeId):Bool:=match P.underlying t with|some (.func _ _ _)=>true|_=>false
def gf(P:Program)(t:TypeId)(nm:Nat)(k k':IntKind)(i:Int)(x:AV)(l:List (Int×AV)):Option Eff:=
 match EN P t with
 | some (k0,_)=>bif Vk k k'&&Vk k k0&&!B6 l i then some ⟨.undef,[(nm,.obj (.tab k (l++[(i,x)])))],[]⟩ else none
 | none=>none
def cU(P:Program)(hint:Nat)(o:Oper)(vs:List AV)(es:List (Option Own)):Option Eff:=
 match o.op,vs,es with
 | .box _ _,[x],[none]=>
  bif Nat.beq hint 2 then(match x with | .agg _=>none|x=>match x.cells with|some cs=>Eff.pure (.rpo cs) []|none=>none)
  else bif Nat.beq hint 3 then(match x.cells with|some cs=>Eff.pure (.rptr (AV.stripAll cs)) []|none=>none) else none
 | .slice t _ lo hi mx,.rptr cells::vs,_=>
  match P.underlying t with
  | some (.array len el)=>
   bif Bj P el&&Nat.beq cells.length (len*A0 P el)&&Nat.ble len room then
    match lo.isSome,hi.isSome,mx.isSome,vs with
    | true,false,false,[.int _ l]=>Eff.pure (.slice (A0 P el) (len-l.toNat) (λi=>(cells.drop ((l.toNat+i)*A0 P el)).take (A0 P el)) .none) [0<=l/\l.toNat<=len]
    | false,false,false,[]=>Eff.pure (.slice (A0 P el) (len-0) (λi=>(cells.drop ((0+i)*A0 P el)).take (A0 P el)) .none) []
    | _,_,_,_=>none
   else none
  | _=>none
 | .load t _,[.rpo cells],_=>bif Bj P t&&!Dp P t&&Nat.ble 1 cells.length then Eff.pure (cells.getD 0 .any) [] else none
 | .makeMap t none,[],[none]=>match o.dst,EN P t with|some d,some (k,e)=>bif jl P e then some ⟨.omap d,[(d,.obj (.tab k []))],[]⟩ else none|_,_=>none
 | .insert t _ _ _,[.omap nm,.int k' i,x],[some (.obj (.tab k l))]=>gf P t nm k k' i x l
 | .mapUpdate t _ _ _,[.omap nm,.int k' i,x],[some (.obj (.tab k l))]=>gf P t nm k k' i x l
 | .lookup t _ _ false,[.omap _,.int k' i],[some (.obj (.tab k l))]=>
  match EN P t with
  | some (k0,e)=>bif Vk k k'&&Vk k k0&&B6 l i&&(KI P e).isSome then Eff.pure (mget .any l i) [] else none
  | none=>none
 | _,_,_=>none
def cV(P:Program)(hint:Nat)(o:Oper)(vs:List AV)(es:List (Option Own)):Option Eff:=
 match cU P hint o vs es with
 | some e=>some e
 | none=>match cT P (Nat.beq hint 1) o vs es with
 | some e=>some e
 | none=>match cQ P (Nat.beq hint 1) o vs es with|some e=>some e|none=>match cS P o vs es with|some e=>some e|none=>match cP P o vs es with|some e=>some e|none=>kS P o vs es
mutual
def AV.ren(ρ:List (Nat×Nat)):AV->AV
 | .slice sz n f (.own nm)=>.slice sz n f (match Ad ρ nm with|some k=>.own k|none=>.none)
 | .slice sz n f .exact=>.slice sz n f .exact
 | .slice sz n f (.fam _ _)=>.slice sz n f .none
 | .ptr nm off=>match Ad ρ nm with|some k=>.ptr k off|none=>.any
 | .vsl nm n=>match Ad ρ nm with|some k=>.vsl k n|none=>.any
 | .vpt nm n i j=>match Ad ρ nm with|some k=>.vpt k n i j|none=>.any
 | .vsub nm n lo hi=>match Ad ρ nm with|some k=>.vsub k n lo hi|none=>.any
 | .optr nm mm=>match Ad ρ nm with|some k=>.optr k ((Ad ρ mm).getD 0)|none=>.any
 | .omap nm=>match Ad ρ nm with|some k=>.omap k|none=>.any
 | .clo f xs ys=>.clo f (AV.renAll ρ xs) (AV.renAll ρ ys)
 | .agg cs=>.agg (AV.renAll ρ cs)
 | .rpo cs=>.rpo (AV.renAll ρ cs)
 | .tuple cs=>.tuple (AV.renAll ρ cs)
 | .cond c x=>.cond c (x.ren ρ)
 | x=>x
def AV.renAll(ρ:List (Nat×Nat)):List AV->List AV
 | []=>[]
 | x::l=>x.ren ρ::AV.renAll ρ l
end
mutual
def AV.loose:AV->AV
 | .slice sz n f .exact=>.slice sz n f (bif Nat.beq sz 0 then .exact else .none)
 | .agg cs=>.agg (AV.looseAll cs)
 | x=>x
def AV.looseAll:List AV->List AV
 | []=>[]
 | x::l=>x.loose::AV.looseAll l
end
mutual
def AV.vs(l:List (Nat×Own)):AV->AV
 | .slice sz n f _=>.slice sz n f .none
 | .vsl nm n=>match Ad l nm with|some (.arr sz _ _ f)=>.slice sz n (λi=>AV.stripAll (f i)) .none|_=>.any
 | .vsub nm _ lo hi=>match Ad l nm with|some (.arr sz _ _ f)=>.slice sz (hi-lo) (λi=>AV.stripAll (f (lo+i))) .none|_=>.any
 | .agg cs=>.agg (AV.vsAll l cs)
 | x=>x.strip
def AV.vsAll(l:List (Nat×Own)):List AV->List AV
 | []=>[]
 | x::r=>x.vs l::AV.vsAll l r
end
def AV.vsA(l:List (Nat×Own)):AV->AV
 | .clo f xs ys=>.clo f (AV.stripAll xs) (AV.stripAll ys)
 | x=>x.vs l
mutual
def AV.vsOb(l:List (Nat×Own)):AV->List Prop
 | .vsl nm n=>match Ad l nm with|some (.arr _ _ m _)=>[n=m]|_=>[]
 | .vsub nm n _ _=>match Ad l nm with|some (.arr _ _ m _)=>[n=m]|_=>[]
 | .agg cs=>AV.vsObAll l cs
 | _=>[]
def AV.vsObAll(l:List (Nat×Own)):List AV->List Prop
 | []=>[]
 | x::r=>x.vsOb l++AV.vsObAll l r
end
mutual
def AV.flat:AV->Bool
 | .int _ _ | .bool _ | .str _ | .err _ | .undef | .any=>true
 | .agg cs=>AV.flatAll cs
 | .tuple cs=>AV.flatAll cs
 | _=>false
def AV.flatAll:List AV->Bool
 | []=>true
 | x::r=>x.flat&&AV.flatAll r
end
def AV.flatC:AV->Bool
 | .omap _=>true
 | .vsl _ _=>true
 | .ptr _ _=>true
 | .nilp=>true
 | x=>x.flat
def AV.flatR:AV->Bool
 | .tuple cs=>cs.all AV.flatC
 | x=>x.flatC
def AV.flatD:AV->Bool
 | .slice _ _ _ (.own _)=>true
 | x=>x.flatC
def AV.flatN:AV->Prop
 | .slice _ n _ (.own _)=>n=0
 | _=>True
def TS:List AV->Prop
 | []=>True
 | x::r=>x.flatN/\TS r
def jj:Own->Prop
 | .obj (.map _ _ l)=>∀ q∈l,q.2.flat=true
 | .obj (.pmap _ _ l)=>∀ q∈l,q.2.flat=true
 | .arr _ _ m f=>∀ i,i<m->AV.flatAll (f i)=true
 | .row _ cells=>cells.all AV.flatD=true/\TS cells
 | .tok _ _ _=>True
 | _=>False
def DY:List (Nat×Own)->Prop
 | []=>True
 | (_,o)::r=>jj o/\DY r
def M7:List Nat->List (Option Own)->List (Nat×Own)
 | n::ns,some o::es=>(n,o)::M7 ns es
 | _::ns,none::es=>M7 ns es
 | _,_=>[]
def Own.ren(ρ:List (Nat×Nat)):Own->Own
 | .row e cells=>.row e (AV.renAll ρ cells)
 | .arr sz e m f=>.arr sz e m (λi=>AV.renAll ρ (f i))
 | .obj x=>.obj (x.on (AV.ren ρ))
 | .tok sz e m=>.tok sz e m
structure R7 where
 hs:List (Nat×Nat)
 fr:List (Nat×Nat)
 res:AV
 H:List (Nat×Own)
 vw:List Nat
 ro:List Nat
structure bY where
 sz:Nat
 e:TypeId
 m:Nat->Option Nat
structure St where
 tmps:List (Nat×AV)
 own:List (Nat×Own)
 fam:List (Nat×bY)
def St.get(st:St)(t:Nat):AV:=match Ad st.tmps t with|some x=>x|none=>.any
def Cc(l:List (Nat×Own))(r:List (Nat×bY))(k:Nat):Option Own:=
 if k<A9 then Ad l k else(Ad r (k / A9-1)).bind λF=>(F.m (k % A9)).map (Own.tok F.sz F.e)
def St.sto(st:St):Sto:=⟨st.get,Cc st.own st.fam⟩
def Rl(ns:List Nat)(wo:List (Nat×Own)):Bool:=ns.all (λn=>Nat.blt n A9)&&wo.all (λp=>Nat.blt p.1 A9)
def FK(l:List (Nat×Own)):Bool:=l.all (λp=>Nat.blt p.1 A9)
def TR(get:Nat->AV):Operand->AV
 | .tmp t=>get t
 | .const v=>AV.ofValue v
 | .func f=>.clo f [] []
 | .global g=>match XC g with|some cells=>.rptr cells|none=>.any
def AV.uncond:AV->AV
 | .cond _ x=>x
 | x=>x
def AV.there(γ:Bool)(gd:Bool):AV->List Prop
 | .cond c _=>bif gd then[γ=true->c=true] else[c=true]
 | _=>[]
def kz(gd γ:Bool)(obs:List Prop):List Prop:=bif gd then obs.map λp=>(γ=true->p) else obs
def AV.boolIn:AV->Option (List Prop×Bool)
 | .bool x=>some ([],x)
 | .cond c (.bool x)=>some ([c=true],x)
 | _=>none
def cF(vs:List AV):Option Eff:=
 match vs with
 | [c,a,b]=>
  match c.uncond,a.boolIn,b.boolIn with
  | .bool cb,some (pa,xa),some (pb,xb)=>some ⟨.bool (bif cb then xa else xb),[],pa.map (λp=>(cb=true->p))++pb.map (λp=>(cb=false->p))⟩
  | _,_,_=>none
 | _=>none
def dT(want:Bool):AV->Option Bool
 | .bool b=>some (b==want)
 | .cond c (.bool b)=>some (c&&(b==want))
 | .undef=>some false
 | _=>none
def ED(o:Oper):Bool:=
 match o.op with
 | .call { callee:=.value _,.. }=>true
 | _=>false
def cq(o:Oper)(vs:List AV):Option (FuncId×List AV):=
 match o.op with
 | .call { callee:=.value (.func f),.. }=>some (f,vs.drop 1)
 | .call { callee:=.value (.tmp _),.. }=>match vs with | .clo f fs cs::rest=>some (f,fs++rest++cs)|_=>none
 | _=>none
def Wl(o:Oper):Bool:=match o.op with | .pick _ _ _=>true|_=>false
abbrev W9:=FuncId->List AV->List (Nat×Own)->AV->List (Nat×Own)->Prop
def Uo(r:R7):List Nat:=r.vw++(r.hs.map (·.1)++r.fr.map (·.2))
def D7(r:R7):List (Nat×Nat):=r.hs.map (λx=>(x.2,x.1))++r.fr
def Tf(hs:List (Nat×Nat))(es:List (Option Own)):Option (List (Nat×Own)):=
 match hs,es with
 | [],_=>some []
 | (_,k)::hs',some o::es'=>match Tf hs' es' with|some l=>some ((k,o)::l)|none=>none
 | _,_=>none
def CJ:List (Option Own)->Bool
 | []=>true
 | none::l=>CJ l
 | _::_=>false
def Cj(n:Nat):List Nat->Bool
 | []=>false
 | k::l=>Nat.beq k n || Cj n l
def Rm:List Nat->Bool
 | []=>true
 | k::l=>!Cj k l&&Rm l
def Ku(r:R7):List (Nat×Own):=r.H.map (λx=>(match Ad (D7 r) x.1 with|some c=>c|none=>0,x.2.ren (D7 r)))
def Ns(es:List (Option Own))(r:R7):Bool:=
 CJ (es.drop r.hs.length)&&Rm ((D7 r).map (·.2))&&Rm ((D7 r).map (·.1))&&Rm (r.H.map (·.1))&&Rm ((Ku r).map (·.1))&&r.H.all (λx=>Cj x.1 ((D7 r).map (·.1)))
def IY{α:Type}:List α->Bool
 | []=>true
 | _=>false
def eX(ro:List Nat)(wo:List (Nat×Own)):List (Nat×Own):=wo.filter λx=>!Cj x.1 ro
def eW(ro:List Nat)(wo:List (Nat×Own)):List (Nat×Nat)->List (Option Own)->List Prop
 | (n,_)::hs,e::es=>(bif Cj n ro then[Ad wo n=e] else[])++eW ro wo hs es
 | _,_=>[]
def SZ(S:W9)(f:FuncId)(vs:List AV)(es:List (Option Own))(r:R7):Option Eff:=
 match Tf r.hs es with
 | some H=>
  bif Ns es r then
   bif IY r.ro then some ⟨r.res.ren (D7 r),Ku r,[S f ((vs.map (AV.ren r.hs)).map AV.loose) (H.map λx=>(x.1,x.2.ren r.hs)) r.res r.H]⟩
   else bif r.ro.all λn=>Cj n (r.hs.map (·.1)) then
    some ⟨r.res.ren (D7 r),eX r.ro (Ku r),S f ((vs.map (AV.ren r.hs)).map AV.loose) (H.map λx=>(x.1,x.2.ren r.hs)) r.res r.H::eW r.ro (Ku r) r.hs es⟩
   else none
  else none
 | none=>none
def cD(S:W9)(f:FuncId)(vs:List AV)(es:List (Option Own))(r:R7):Option Eff:=
 bif IY r.vw then SZ S f vs es r else
 bif IY r.hs&&r.res.flatR&&Ns (es.drop r.vw.length) r then
  some ⟨r.res.ren (D7 r),Ku r,S f (vs.map (AV.vsA (M7 r.vw es))) [] r.res r.H::DY r.H::AV.vsObAll (M7 r.vw es) vs⟩
 else none
def Uu(γ gd:Bool):List AV->List Prop
 | c::_=>c.there γ gd
 | []=>[]
structure mS where
 v:AV
 wo:List (Nat×Own)
 ob:List Prop
def dZ(o:Oper):Bool:=match o.op with | .load _ _=>true|_=>false
def jp(o:Oper):Bool:=match o.op with | .box _ _=>true|_=>false
def YD(o:Oper)(c:Option AV):Nat:=bif dZ o then 0 else match c with|some (.vsl _ _)=>1|some (.vpt _ _ _ _)=>1|some (.rpo _)=>2|some (.rptr _)=>bif jp o then 3 else 0|_=>0
def UF(o:Oper)(c:Option AV):Option AV:=bif dZ o then c else match c with|some (.vsl _ _)=>none|some (.vpt _ _ _ _)=>none|some (.rpo _)=>none|some (.rptr _)=>bif jp o then none else c|c=>c
def XA(P:Program)(S:W9)(hint:Nat)(o:Oper)(vs:List AV)(es:List (Option Own))(r:Option R7):Option Eff:=
 bif Wl o then cF vs else
 bif ED o then
  match cq o (vs.map AV.uncond),r with
  | some (f,az),some r=>cD S f az es r
  | _,_=>none
 else cV P hint o (vs.map AV.uncond) es
def DR(y:AV)(wo:List (Nat×Own)):List (Nat×Own)×List Prop:=
 match y,wo with
 | .slice _ n _ (.own _),[(nm,.tok s t k)]=>([(nm,.tok s t n)],[k=n])
 | _,wo=>(wo,[])
def DQ(c:Option AV)(e:Eff):Eff:=
 match c with
 | none=>e
 | some y=>⟨y,(DR y e.wo).1,e.ob++(AVle e.v y::(DR y e.wo).2)⟩
def AV.merge(γ:Bool):AV->AV->Option AV
 | .int k a,.int k' b=>bif Vk k k' then some (.int k (bif γ then b else a)) else none
 | .bool a,.bool b=>some (.bool (bif γ then b else a))
 | .str a,.str b=>some (.str (bif γ then b else a))
 | .nilp,.nilp=>some .nilp
 | .omap n,.omap n'=>bif Nat.beq n n' then some (.omap n) else none
 | .any,.any=>some .any
 | .ptr n o,.ptr n' o'=>bif Nat.beq n n'&&Nat.beq o o' then some (.ptr n o) else none
 | .slice sz n f .none,.slice sz' n' f' .none=>bif Nat.beq sz sz' then some (.slice sz (bif γ then n' else n) (λi=>bif γ then f' i else f i) .none) else none
 | .slice sz n f (.own k),.slice sz' n' f' (.own k')=>bif Nat.beq sz sz'&&Nat.beq k k' then some (.slice sz (bif γ then n' else n) (λi=>bif γ then f' i else f i) (.own k)) else none
 | .nilm,.nilm=>some .nilm
 | .err a,.err b=>some (.err (bif γ then b else a))
 | .vsl n k,.vsl n' k'=>bif Nat.beq n n' then some (.vsl n (bif γ then k' else k)) else none
 | _,_=>none
def AV.mergeAll(γ:Bool):List AV->List AV->Option (List AV)
 | [],[]=>some []
 | x::l,y::m=>match x.merge γ y,AV.mergeAll γ l m with|some z,some r=>some (z::r)|_,_=>none
 | _,_=>none
def Own.merge(γ:Bool):Own->Own->Option Own
 | .row e l,.row e' m=>bif Nat.beq e e' then(match AV.mergeAll γ l m with|some r=>some (.row e r)|none=>none) else none
 | .arr sz e n f,.arr sz' e' n' f'=>bif Nat.beq sz sz'&&Nat.beq e e' then some (.arr sz e (bif γ then n' else n) (λi=>bif γ then f' i else f i)) else none
 | .tok sz e n,.tok sz' e' n'=>bif Nat.beq sz sz'&&Nat.beq e e' then some (.tok sz e (bif γ then n' else n)) else none
 | .obj (.map nn k l),.obj (.map nn' k' l')=>bif (nn==nn')&&Vk k k' then some (.obj (.map nn k (bif γ then l' else l))) else none
 | _,_=>none
def QL(ns:List Nat)(es:List (Option Own))(n:Nat):Option Own:=
 match ns,es with
 | k::ns,e::es=>bif Nat.beq k n then e else QL ns es n
 | _,_=>none
def O8(γ:Bool)(ns:List Nat)(es:List (Option Own)):List (Nat×Own)->Option (List (Nat×Own))
 | []=>some []
 | (n,o)::r=>
  match O8 γ ns es r with
  | none=>none
  | some r'=>
   match QL ns es n with
   | some o'=>match o'.merge γ o with|some z=>some ((n,z)::r')|none=>(match γ with|true=>some ((n,o)::r')|false=>some r')
   | none=>match γ with|true=>some ((n,o)::r')|false=>some r'
def ku(cs:List (Nat×AV))(o:Oper):Option AV:=match o.dst with|some d=>Ad cs d|none=>none
def Po(o:Oper)(vs:List AV)(r:Option R7):List Nat:=
 bif ED o then(match r with|some r=>Uo r|none=>[]) else Ce o (vs.map AV.uncond)
def ed(P:Program)(S:W9)(c:Option AV)(o:Oper)(vs:List AV)(gv:Option (AV×Bool))(es:List (Option Own))(r:Option R7):Option mS:=
 match gv with
 | none=>
  match(XA P S (YD o c) o vs es r).map (DQ (UF o c)) with
  | some e=>some ⟨e.v,e.wo,(bif Wl o then Uu true false vs else(vs.map (AV.there true false)).flatten)++e.ob⟩
  | none=>none
 | some (g,want)=>
  match dT want g,(XA P S (YD o c) o vs es r).map (DQ (UF o c)) with
  | some γ,some e=>
   match O8 γ (Po o vs r) es e.wo with
   | some wo=>some ⟨.cond γ e.v,wo,(bif Wl o then Uu γ true vs else(vs.map (AV.there γ true)).flatten)++kz true γ e.ob⟩
   | none=>none
  | _,_=>none
def Te(ops:List Oper)(get:Nat->AV)(o:Oper):Option (Option (AV×Bool)):=
 match o.guard with
 | none=>some none
 | some (j,want)=>
  match ops[j]? with
  | some oj=>match oj.dst with|some t=>some (some (get t,want))|none=>none
  | none=>none
def Cw{α:Type}(l:List (Nat×α))(k:Nat)(x:α):List (Nat×α):=
 match l with
 | []=>[(k,x)]
 | (k',y)::r=>bif Nat.beq k' k then(k,x)::r else(k',y)::Cw r k x
def FN{α:Type}(l:List (Nat×α)):List (Nat×α)->List (Nat×α)
 | []=>l
 | (k,x)::r=>Cw (FN l r) k x
def St.upd(st:St)(dst:Option Nat)(v:AV)(wo:List (Nat×Own)):St:=
 ⟨match dst with|some d=>Cw st.tmps d v|none=>st.tmps,FN st.own wo,st.fam⟩
structure Tr where
 rt:List Nat
 wt:Option Nat
 rn:List Nat
 wn:List Nat
def VD(o:Oper):List Nat:=o.op.operands.toList.filterMap λ| .tmp t=>some t|_=>none
def Ut(ops:List Oper)(o:Oper):List Nat:=
 match o.guard with
 | none=>[]
 | some (j,_)=>match ops[j]? with|some oj=>oj.dst.toList|none=>[]
def ju(o:Oper)(rs:List R7):Option R7:=bif ED o then rs.head? else none
def iq(o:Oper)(rs:List R7):List R7:=bif ED o then rs.tail else rs
def dB(n:Nat)(o:Oper):Bool:=match o.dst with|some d=>Nat.blt d n|none=>true
def cO(P:Program)(S:W9)(n:Nat)(cs:List (Nat×AV))(ops:List Oper):List Oper->St->List R7->Option (St×List Prop×List Tr)
 | [],st,_=>some (st,[],[])
 | o::rest,st,rs=>
  let vs:=o.op.operands.toList.map (TR st.get)
  let r:=ju o rs
  let ns:=Po o vs r
  match Te ops st.get o with
  | none=>none
  | some gv=>
   match ed P S (ku cs o) o vs gv (ns.map (Ad st.own)) r with
   | none=>none
   | some e=>
    bif dB n o&&Rl ns e.wo then
     match cO P S n cs ops rest (st.upd o.dst e.v e.wo) (iq o rs) with
     | none=>none
     | some (st',obs,trs)=>some (st',e.ob++obs,⟨Ut ops o++VD o,o.dst,ns,e.wo.map (·.1)⟩::trs)
    else none
def Dn(live names:List Nat)(st:St):St:=
 ⟨live.map λt=>(t,(st.get t).erase (λn=>Cj n names)),names.filterMap λn=>match Ad st.own n with|some o=>some (n,o.erase λn=>Cj n names)|none=>none,
  names.filterMap λn=>match Ad st.fam n with|some o=>some (n,o)|none=>none⟩
def A3(live names:List Nat)(st:St):St:=Dn live (names.filter λn=>Nat.blt n A9) st
def OX:List Prop->Prop
 | []=>True
 | p::l=>p/\OX l
def TT(x y:Tr):Bool:=
 (match x.wt with|some d=>!Cj d y.rt&&(match y.wt with|some d'=>!Nat.beq d d'|none=>true)|none=>true) &&
 (match y.wt with|some d=>!Cj d x.rt|none=>true) &&
 x.wn.all (λn=>!Cj n y.rn&&!Cj n y.wn)&&y.wn.all (λn=>!Cj n x.rn)
def lA(done:List Nat)(o:Oper):Nat:=
 o.after.toList.foldl (λs e=>bif Region.binds .any e then s ||| (2 ^ e.on ||| done.getD e.on 0) else s) 0
def WM(done:List Nat):List Oper->List Nat
 | []=>done
 | o::r=>WM (done++[lA done o]) r
def CQ:Nat->List Oper->Bool
 | _,[]=>true
 | i,o::r=>o.after.toList.all (λe=>!Region.binds .any e || Nat.blt e.on i)&&CQ (i+1) r
def WZ(ms:List Nat):Nat->List (Nat×Tr)->List Tr->Bool
 | _,_,[]=>true
 | i,prev,t::r=>prev.all (λp=>TT p.2 t || (ms.getD i 0).testBit p.1)&&WZ ms (i+1) ((i,t)::prev) r
def XQ(ops:List Oper)(trs:List Tr):Bool:=CQ 0 ops&&WZ (WM [] ops) 0 [] trs
def CL(P:Program)(S:W9)(n:Nat)(cs:List (Nat×AV))(live names:List Nat)(ops:List Oper)(draw:Bool)(st:St)(rs:List R7):Option (St×List Prop×Bool):=
 match cO P S n cs ops ops st rs with
 | some (st',obs,trs)=>some (A3 live names st',obs,bif draw then XQ ops trs else true)
 | none=>none
def Sto.upd(σ:Sto)(dst:Option Nat)(v:AV)(wo:List (Nat×Own)):Sto:=
 ⟨λt=>if dst=some t then v else σ.tmp t,λnm=>match Ad wo nm with|some o=>some o|none=>σ.own nm⟩
theorem BX(w:World)(o:Obj){r:Nat}(h:r<w.heap.size):(w.alloc o).heap[r]?=w.heap[r]?:=by
 show(w.heap.push o)[r]?=_
 rw[Array.getElem?_push_lt h,Array.getElem?_eq_getElem h]
theorem eL(a:Act)(d t:Nat)(v:Value)(hd:d<a.tmps.size):((a.put (some d) v).tmps.getD t undef)=if d=t then v else a.tmps.getD t undef:=by
 simp only[Act.put,Nb]
 grind
theorem U2{Γ:G0}{σ:Sto}{I I':Nat->Nat->Prop}{θ θ':Nat->Option (Nat×Nat)}{a:Act}{w w':World}{dst:Option Nat}{v:Value}{x:AV}{own':Nat->Option Own}
  (h:Rel Γ σ I θ a w) (k:Chg σ.own θ I w own' θ' I' w') (hv:Rep I' own' θ' w' v x) (hd:∀ d,dst=some d->d<Γ.n) :
  Rel Γ ⟨λt=>if dst=some t then x else σ.tmp t,own'⟩ I' θ' (a.put dst v) w':=by
 refine⟨?_,?_,λt=>?_,h.chg.trans k⟩
 ·cases dst<;>simp[Act.put,h.size]
 ·cases dst<;>simp[Act.put,h.defers]
 ·cases dst with
  | none=>simpa [Act.put] using(h.slots t).chg k
  | some d=>
   have hlt:=hd d rfl;rw[eL a d t v (by rw[h.size];exact hlt)]
   by_cases e:d=t
   ·grind
   ·simpa [e] using(h.slots t).chg k
def C3(P:Program)(Γ:G0)(σ:Sto)(o:Oper)(a:Act)(w:World)(x:AV)(wo:List (Nat×Own)):Prop:=
 ∀(K:Act->World->Prop) (Q:Exit->Act->World->Prop),(∀ I' θ' a' w',Rel Γ (σ.upd o.dst x wo) I' θ' a' w'->K a' w')->o.wp P a w K Q
section
variable {P:Program} {Γ:G0} {σ:Sto} {I:Nat->Nat->Prop} {θ:Nat->Option (Nat×Nat)} {a:Act} {w:World} {o:Oper}
theorem Ak(h:Rel Γ σ I θ a w)(hd:∀ d,o.dst=some d->d<Γ.n){v:Value}{x:AV}(hr:(execOp a.eval o).run P w = .ok (.value v) w)
  (hv:Rep I σ.own θ w v x):C3 P Γ σ o a w x []:=by
 intro K Q hK;unfold Oper.wp;rw[hr];exact hK I θ _ _ (U2 h (.refl h.chg.rel h.chg.valid) hv hd)
theorem F5(h:Rel Γ σ I θ a w)(hd:∀ d,o.dst=some d->d<Γ.n){v:Value}{x:AV}{w':World}{I':Nat->Nat->Prop}{θ':Nat->Option (Nat×Nat)}{wo:List (Nat×Own)}
  (hr:(execOp a.eval o).run P w = .ok (.value v) w') (k:Chg σ.own θ I w (σ.upd o.dst x wo).own θ' I' w')
  (hv:Rep I' (σ.upd o.dst x wo).own θ' w' v x):C3 P Γ σ o a w x wo:=by
 intro K Q hK;unfold Oper.wp;rw[hr];exact hK I' θ' _ _ (U2 h k hv hd)
theorem U0(h:Rel Γ σ I θ a w)(hd:∀ d,o.dst=some d->d<Γ.n){w':World}{I':Nat->Nat->Prop}{θ':Nat->Option (Nat×Nat)}{wo:List (Nat×Own)}
  (hr:(execOp a.eval o).run P w = .ok .skip w') (k:Chg σ.own θ I w (σ.upd o.dst .undef wo).own θ' I' w'):C3 P Γ σ o a w .undef wo:=by
 intro K Q hK;unfold Oper.wp;rw[hr];exact hK I' θ' _ _ (U2 h k (.val _ _ .undef) hd)
theorem XN(h:Rel Γ σ I θ a w)(hd:∀ d,o.dst=some d->d<Γ.n)(x:Operand)(ho:o.op = .move x\/o.op = .assign x){y:AV}
  (hv:Rep I σ.own θ w (a.eval x) y):C3 P Γ σ o a w y []:=
 Ak h hd (by rcases ho with ho|ho<;>simp[execOp,ho]) hv
theorem J6{a b:IntKind}(h:Vk a b=true):a=b:=by cases a<;>cases b<;>simp_all [Vk]
theorem TA {op : BinOp} {k : IntKind} {x y : Int} {e : Eff} (h : kQ op k x y = some e) (hob : ∀ p ∈ e.ob, p) (t : TypeId) :
    e.wo = [] ∧ ∃ v, RepV I w v e.v ∧ (binOp op t (.int k x) (.int k y)).run P w = .ok v w := by
  cases op <;> simp only [kQ, Eff.pure, Af, reduceCtorEq] at h <;> subst h <;> refine ⟨rfl, ?_⟩
  all_goals first
    | (refine ⟨_, .int _ _, ?_⟩; simp [binOp, Op.intArith]; done)
    | (refine ⟨_, .int _ _, ?_⟩; simp [binOp, Op.intBits, Ox]; done)
    | (refine ⟨_, .bool _, ?_⟩; simp [binOp, Op.intCmp])
    | (have hb  := hob _ (zzL15.2 rfl)
       refine ⟨_, .int _ _, ?_⟩; simp [binOp, Op.intDiv, hb])
theorem Qh{P:Program}{t:TypeId}(hu:P.underlying t=some .bool)(w:World)(a b:Bool):(Op.equal t (.bool a) (.bool b)).run P w = .ok (a==b) w:=by
 show(Op.equalIn 10000 t _ _).run P w=_
 unfold Op.equalIn;rw[C2,Ds hu w]
 simp
theorem SX{op:BinOp}{x y:AV}{vx vy:Value}{e:Eff}(h:kP op x y=some e)(hob:∀ p∈e.ob,p)(hx:Rep I σ.own θ w vx x)(hy:Rep I σ.own θ w vy y)(t:TypeId)(ox oy:Operand) :
  e.wo=[]/\∃ v,RepV I w v e.v/\(do eqGuard op t ox oy vx vy;binOp op t vx vy:Sem Value).run P w = .ok v w:=by
 have key:∀{u v:Value},(∀ cs,u≠.agg cs)->u≠.nilIface->∀ r,(binOp op t u v).run P w=r->(do eqGuard op t ox oy u v;binOp op t u v:Sem Value).run P w=r:=by
  intro u v h1 h2 r hr
  have:(eqGuard op t ox oy u v).run P w = .ok () w:=by
   unfold eqGuard
   cases u<;>cases op<;>simp_all
  simp[this,hr]
 unfold kP at h
 split at h
 ·simp only[Eff.pure,Af]at h;subst h;obtain rfl:=hx.int_inv;obtain rfl:=hy.int_inv;have hb:=hob _ (zzL15.2 rfl);refine⟨rfl,_,.int _ _,key (by simp) (by simp) _ ?_⟩;have hb':¬ (_<(0:Int)):=Int.not_lt.2 hb;simp[binOp,Op.shift,hb',UZ]
 ·simp only[Eff.pure,Af]at h;subst h;obtain rfl:=hx.int_inv;obtain rfl:=hy.int_inv;have hb:=hob _ (zzL15.2 rfl);refine⟨rfl,_,.int _ _,key (by simp) (by simp) _ ?_⟩;have hb':¬ (_<(0:Int)):=Int.not_lt.2 hb;simp[binOp,Op.shift,hb',Yf]
 ·obtain rfl:=hx.int_inv;obtain rfl:=hy.int_inv
  rename_i k a' k' b' _ _
  cases hk:Vk k k' with
  | false=>grind
  | true=>
   simp only[hk,Ae]at h;obtain rfl:=J6 hk;obtain⟨h1,v,hv,hr⟩:=TA (P:=P) (I:=I) (w:=w) h hob t
   grind
 ·simp only[Eff.pure,Af]at h;subst h;obtain⟨a,rfl,rfl⟩:=hx.str_inv;obtain⟨b,rfl,rfl⟩:=hy.str_inv;refine⟨rfl,_,.bool _,key (by simp) (by simp) _ ?_⟩;simp[binOp,Op.stringOp,Qs]
 ·simp only[Eff.pure,Af]at h;subst h;obtain⟨a,rfl,rfl⟩:=hx.str_inv;obtain⟨b,rfl,rfl⟩:=hy.str_inv;refine⟨rfl,_,.bool _,key (by simp) (by simp) _ ?_⟩;simp[binOp,Op.stringOp,Oy]
 ·simp only[Eff.pure,Af]at h;subst h;obtain⟨a,rfl,rfl⟩:=hx.str_inv;obtain⟨b,rfl,rfl⟩:=hy.str_inv;refine⟨rfl,_,.bool _,key (by simp) (by simp) _ ?_⟩;simp[binOp,Op.stringOp,Oy,Qs]
 ·simp only[Eff.pure,Af]at h;subst h;obtain⟨a,rfl,rfl⟩:=hx.str_inv;obtain⟨b,rfl,rfl⟩:=hy.str_inv;refine⟨rfl,_,.bool _,key (by simp) (by simp) _ ?_⟩;simp[binOp,Op.stringOp,Oy,Qs]
 ·simp only[Eff.pure,Af]at h;subst h;obtain⟨a,rfl,rfl⟩:=hx.str_inv;obtain⟨b,rfl,rfl⟩:=hy.str_inv;refine⟨rfl,_,.bool _,key (by simp) (by simp) _ ?_⟩;simp[binOp,Op.stringOp,Oy]
 ·simp only[Eff.pure,Af]at h;subst h;obtain⟨a,rfl,rfl⟩:=hx.str_inv;obtain⟨b,rfl,rfl⟩:=hy.str_inv;refine⟨rfl,_,.bool _,key (by simp) (by simp) _ ?_⟩;simp[binOp,Op.stringOp,Qs]
 ·simp only[Eff.pure,Af]at h;subst h;obtain⟨a,rfl,rfl⟩:=hx.str_inv;obtain⟨b,rfl,rfl⟩:=hy.str_inv;have hb:=hob _ (zzL15.2 rfl);simp only[Dk]at hb;refine⟨rfl,.string (a++b),(HD a b▸.str (a++b):RepV I w (.string (a++b)) (.str (Bo a++Bo b))),key (by simp) (by simp) _ ?_⟩;simp[binOp,Op.stringOp,hb]
 grind
theorem AO:∀{xs ys:List AV} {r:Bool},Ur xs ys=some r->xs.length=ys.length/\(∀ j,j<xs.length->∃ k a b,xs.getD j .any = .int k a/\ys.getD j .any = .int k b) /\
  (r=true↔∀ j,j<xs.length->∀ k a k' b,xs.getD j .any = .int k a->ys.getD j .any = .int k' b->a=b)
 | [],[],r,h=>by grind [Ur]
 | [],_::_,r,h=>by trivial
 | x::xs,[],r,h=>by grind [Ur]
 | x::xs,y::ys,r,h=>by
  cases x<;>cases y<;>simp only[Ur]at h<;>try (cases h;done)
  rename_i k a k' b
  cases hk:Vk k k' with
  | false=>grind
  | true=>
   obtain rfl:=J6 hk;simp only[hk,Ae]at h
   split at h
   ·rename_i q hq
    obtain⟨i1,i2,i3⟩:=AO hq;simp only[Af]at h;subst h;refine⟨by simp[i1],λj hj=>?_,?_⟩
    ·grind
    ·simp only[A6,zzL61,i3]
     constructor
     ·grind
     ·intro h2;exact⟨h2 0 (by simp) k a k b rfl rfl,λj hj k1 a1 k2 b1 e1 e2=>h2 (j+1) (by grind) k1 a1 k2 b1 (by grind) (by grind)⟩
   ·cases h
theorem Np{P:Program}{t:TypeId}{k:IntKind}(hu:P.underlying t=some (.int k))(vs:Array Value)(j:Nat)(v:Value)(h:vs[j]?=some v)(w:World):(part t vs j).run P w = .ok v w:=by
 simp_all [isAgg,part,Ds]
theorem KB{P:Program}{t:TypeId}{k:IntKind}(hu:P.underlying t=some (.int k))(d:Nat)(k':IntKind)(w:World)(a b:Int):(Op.equalIn (d+1) t (.int k' a) (.int k' b)).run P w = .ok (a==b) w:=by
 unfold Op.equalIn;rw[C2,Ds hu w]
 simp
theorem Tg{P:Program}{t:TypeId}(h:Bj P t=true):∃ i d,P.info? t=some i/\P.underlying t=some d/\A0 P t=i.size:=by
 simp only[Bj,A6,zzL76]at h
 grind [A0]
theorem Bg{P:Program}{t:TypeId}(h:Bj P t=true)(w:World):(sizeOf t).run P w = .ok (A0 P t) w:=by
 obtain⟨i,d,hi,hd,hs⟩:=Tg h;simp[sizeOf,typeInfo,hi,hs]
theorem FY{P:Program}{e:TypeId}{k:IntKind}(he:P.underlying e=some (.int k))(d:Nat)(w:World)(vs us:Array Value):∀(n s:Nat),
  (∀ j,s<=j->j<s+n->∃ k a b,vs[j]?=some (.int k a)/\us[j]?=some (.int k b))->
  ∃ q:Option Bool×Unit,(forIn (List.range' s n 1) ((none,()):Option Bool×Unit) λ(i:Nat) (_:Option Bool×Unit)=>(do
      let x <- part e vs i
      let y <- part e us i
      let z <- Op.equalIn (d+1) e x y
      if(!z)=true then pure (ForInStep.done (some false,())) else pure (ForInStep.yield (none,())):Sem (ForInStep (Option Bool×Unit)))).run P w = .ok q w /\
   ((q=(none,())/\∀ j,s<=j->j<s+n->vs[j]?=us[j]?)\/(q=(some false,())/\¬ ∀ j,s<=j->j<s+n->vs[j]?=us[j]?))
 | 0,s,_=>⟨(none,()),by simp,.inl ⟨rfl,λj h1 h2=>by omega⟩⟩
 | n+1,s,h=>by
  obtain⟨k1,x,y,hx,hy⟩:=h s (zzL7 _) (by omega);simp only[Yn,List.forIn_cons,C2,Np he _ _ _ hx,Np he _ _ _ hy,Dv,KB he]
  by_cases hxy:x=y
  ·subst hxy;simp only[Ql,Fi,Yl,E0,En,Dv];obtain⟨q,hq,hr⟩:=FY he d w vs us n (s+1) (λj h1 h2=>h j (by omega) (by omega))
   grind
  ·have e1:(x==y)=false:=by simpa using hxy
   simp only[e1,Lh,Hj,En,Dv]
   grind
theorem bJ{P:Program}{t e:TypeId}{k:IntKind}{len:Nat}(hu:P.underlying t=some (.array len e))(he:P.underlying e=some (.int k))(hT:Bj P e=true)(h1:A0 P e=1)(d:Nat)(w:World)(vs us:Array Value)(r:Bool)
  (hc:∀ j,j<len->∃ k a b,vs[j]?=some (.int k a)/\us[j]?=some (.int k b)) (hr:r=true↔∀ j,j<len->vs[j]?=us[j]?):(Op.equalIn (d+2) t (.agg vs) (.agg us)).run P w = .ok r w:=by
 unfold Op.equalIn;rw[C2,Ds hu w];simp only[Dv,C2,Bg hT,h1,R3];rw[Std.Legacy.Range.forIn_eq_forIn_range'];obtain⟨q,hq,hh⟩:=FY he d w vs us len 0 (λj _ h=>hc j (by omega));simp only[Std.Legacy.Range.size,Ue,Nat.add_sub_cancel,Nat.div_one];rw[hq];rcases hh with⟨rfl,h2⟩|⟨rfl,h2⟩
 ·simp_all
 ·have:r=false:=by
   grind
  simp[this]
theorem dX{P:Program}{e:TypeId}(hi:TV P e=true):∃ k,P.underlying e=some (.int k):=by
 grind [TV]
theorem ZF{P:Program}{e:TypeId}(hi:WS P e=true):P.underlying e=some .bool:=by
 grind [WS]
theorem Vs{P:Program}{t:TypeId}(hu:P.underlying t=some .bool)(vs:Array Value)(j:Nat)(v:Value)(h:vs[j]?=some v)(w:World):(part t vs j).run P w = .ok v w:=by
 simp_all [isAgg,part,Ds]
theorem UY{P:Program}{t:TypeId}(hu:P.underlying t=some .bool)(d:Nat)(w:World)(a b:Bool):(Op.equalIn (d+1) t (.bool a) (.bool b)).run P w = .ok (a==b) w:=by
 unfold Op.equalIn;rw[C2,Ds hu w]
 simp
theorem Wt {P : Program} {I : Nat → Nat → Prop} {own : Nat → Option Own} {θ : Nat → Option (Nat × Nat)} (d : Nat) (w : World) (vs us : Array Value) : ∀ (l : List Field) (s : Nat) (xs ys : List AV) (r : Bool), Qv P s l xs ys = some r →
    (∀ j, j < xs.length → ∃ v, vs[s + j]? = some v ∧ Rep I own θ w v (xs.getD j .any)) → (∀ j, j < ys.length → ∃ v, us[s + j]? = some v ∧ Rep I own θ w v (ys.getD j .any)) →
    ∃ q : Option Bool × Unit, (forIn l ((none, ()) : Option Bool × Unit) fun (f : Field) (_ : Option Bool × Unit) =>
            (if f.name ≠ "_" then do
              let x ← part f.type vs f.offset
              let y ← part f.type us f.offset
              let z ← Op.equalIn (d + 1) f.type x y
              if (!z) = true then pure (ForInStep.done (some false, ())) else pure (ForInStep.yield (none, ()))
            else pure (ForInStep.yield (none, ())) : Sem (ForInStep (Option Bool × Unit)))).run P w = .ok q w ∧
      ((q = (none, ()) ∧ r = true) ∨ (q = (some false, ()) ∧ r = false))
  | [], s, xs, ys, r, h, _, _ => by
    cases xs <;> cases ys <;> simp only [Qv, Af, reduceCtorEq] at h
    exact ⟨(none, ()), by simp, .inl ⟨rfl, h.symm⟩⟩
  | f :: l, s, xs, ys, r, h, hx, hy => by
    have next : ∀ {x y : AV} {xs ys : List AV}, (∀ j, j < (x :: xs).length → ∃ v, vs[s + j]? = some v ∧ Rep I own θ w v ((x :: xs).getD j .any)) → (∀ j, j < (y :: ys).length → ∃ v, us[s + j]? = some v ∧ Rep I own θ w v ((y :: ys).getD j .any)) →
        (∀ j, j < xs.length → ∃ v, vs[s + 1 + j]? = some v ∧ Rep I own θ w v (xs.getD j .any)) ∧ (∀ j, j < ys.length → ∃ v, us[s + 1 + j]? = some v ∧ Rep I own θ w v (ys.getD j .any)) := fun h1 h2 =>
      ⟨fun j hj => by obtain ⟨v, a, b⟩ := h1 (j + 1) (by simpa using hj); exact ⟨v, by rw [show s + 1 + j = s + (j + 1) by omega]; exact a, by simpa using b⟩, fun j hj => by obtain ⟨v, a, b⟩ := h2 (j + 1) (by simpa using hj); exact ⟨v, by rw [show s + 1 + j = s + (j + 1) by omega]; exact a, by simpa using b⟩⟩
    cases xs with
    | nil => cases ys <;> simp [Qv] at h
    | cons x xs' =>
      cases ys with
      | nil => simp [Qv] at h
      | cons y ys' =>
        cases x <;> cases y <;> simp only [Qv] at h <;> try (cases h; done)
        case int.int k a k' b =>
          cases hc : (decide (f.name ≠ "_") && TV P f.type && Nat.beq f.offset s && Vk k k') with
          | false => rw [hc] at h; cases h
          | true =>
            rw [hc, Ae] at h; simp only [A6, decide_eq_true_iff] at hc; obtain ⟨⟨⟨ho1, ho2⟩, ho3⟩, ho4⟩ := hc; obtain rfl := J6 ho4; obtain ⟨kk, he⟩ := dX ho2; have ho3 := B2 ho3; obtain ⟨v, hv, hv'⟩ := hx 0 (by simp); obtain ⟨u, hu, hu'⟩ := hy 0 (by simp); rw [Ls] at hv hu; have hv' := hv'.int_inv; have hu' := hu'.int_inv; subst hv' hu'; obtain ⟨n1, n2⟩ := next hx hy
            split at h
            · rename_i r' hr'
              simp only [Af] at h; simp only [List.forIn_cons, C2, if_pos ho1, ho3, Np he _ _ _ hv, Np he _ _ _ hu, Dv, KB he]
              by_cases hab : a = b
              · subst hab; simp only [Ql, Fi, Yl, E0, En, Dv]; obtain ⟨q, hq, hr⟩ := Wt d w vs us l (s + 1) xs' ys' r' hr' n1 n2; refine ⟨q, hq, ?_⟩; rw [Ql, Hn] at h; rw [← h]; exact hr
              · have e1 : (a == b) = false := by simpa using hab
                simp only [e1, Lh, Hj, En, Dv]; rw [e1, Ud] at h; exact ⟨_, rfl, .inr ⟨rfl, h.symm⟩⟩
            · cases h
        case bool.bool a b =>
          cases hc : (decide (f.name ≠ "_") && WS P f.type && Nat.beq f.offset s) with
          | false => rw [hc] at h; cases h
          | true =>
            rw [hc, Ae] at h; simp only [A6, decide_eq_true_iff] at hc; obtain ⟨⟨ho1, ho2⟩, ho3⟩ := hc; have he := ZF ho2; have ho3 := B2 ho3; obtain ⟨v, hv, hv'⟩ := hx 0 (by simp); obtain ⟨u, hu, hu'⟩ := hy 0 (by simp); rw [Ls] at hv hu; have hv' := hv'.bool_inv; have hu' := hu'.bool_inv; subst hv' hu'; obtain ⟨n1, n2⟩ := next hx hy
            split at h
            · rename_i r' hr'
              simp only [Af] at h; simp only [List.forIn_cons, C2, if_pos ho1, ho3, Vs he _ _ _ hv, Vs he _ _ _ hu, Dv, UY he]
              by_cases hab : a = b
              · subst hab; simp only [Ql, Fi, Yl, E0, En, Dv]; obtain ⟨q, hq, hr⟩ := Wt d w vs us l (s + 1) xs' ys' r' hr' n1 n2; refine ⟨q, hq, ?_⟩; rw [Ql, Hn] at h; rw [← h]; exact hr
              · have e1 : (a == b) = false := by simpa using hab
                simp only [e1, Lh, Hj, En, Dv]; rw [e1, Ud] at h; exact ⟨_, rfl, .inr ⟨rfl, h.symm⟩⟩
            · cases h
theorem ND{P:Program}{I:Nat->Nat->Prop}{own:Nat->Option Own}{θ:Nat->Option (Nat×Nat)}{t:TypeId}{fields:Array Field}(hu:P.underlying t=some (.struct fields))(hs:P.stoodInHeld t=false)(d:Nat)(w:World)(vs us:Array Value){xs ys:List AV}{r:Bool}(ho:Qv P 0 fields.toList xs ys=some r)
  (hx:∀ j,j<xs.length->∃ v,vs[0+j]?=some v/\Rep I own θ w v (xs.getD j .any)) (hy:∀ j,j<ys.length->∃ v,us[0+j]?=some v/\Rep I own θ w v (ys.getD j .any)):(Op.equalIn (d+2) t (.agg vs) (.agg us)).run P w = .ok r w:=by
 unfold Op.equalIn;rw[C2,Ds hu w];simp only[Dv];rw[<- Array.forIn_toList];obtain⟨q,hq,hh⟩:=Wt  d w vs us _ 0 xs ys r ho hx hy;simp only[show program.run P w = .ok P w from rfl,Dv,hs,Yl,E0,C2];rw[hq];rcases hh with⟨rfl,rfl⟩|⟨rfl,rfl⟩<;>simp
theorem AN{t:TypeId}{xs ys:List AV}{vx vy:Value}{r:Bool}(h:LL P t xs ys=some r)(hx:Rep I σ.own θ w vx (.agg xs))(hy:Rep I σ.own θ w vy (.agg ys))(op:BinOp)(ho:op = .eql\/op = .neq)(ox oy:Operand) :
  (do eqGuard op t ox oy vx vy;Op.equal t vx vy:Sem Bool).run P w = .ok r w/\∃ vs us,vx = .agg vs/\vy = .agg us:=by
 unfold LL at h
 split at h
 ·rename_i fs hu
  cases hc:(!(P.stoodInHeld t)&&!(P.eqGuardType P.depth t)) with
  | false=>grind
  | true=>
   simp only[hc,Ae]at h;simp only[A6,Ph]at hc;obtain⟨hst,hg⟩:=hc;obtain⟨vs,rfl,hv1,hv2,hv3⟩:=hx.agg_inv;obtain⟨us,rfl,hu1,hu2,hu3⟩:=hy.agg_inv;have hrun:=ND hu hst 9998 w vs us h (λj hj=>⟨vs.getD j undef,by simp_all,hv3 j hj⟩) (λj hj=>⟨us.getD j undef,by simp_all,hu3 j hj⟩);refine⟨?_,vs,us,rfl,rfl⟩
   have hguard:(eqGuard op t ox oy (.agg vs) (.agg us)).run P w = .ok () w:=by
    unfold eqGuard;rcases ho with rfl|rfl<;>simp[hg]
   rw[C2,hguard];exact hrun
 ·rename_i len e hu
  cases hc:(Bj P e&&TV P e&&Nat.beq (A0 P e) 1&&!(P.eqGuardType P.depth t)&&Nat.beq xs.length len&&Nat.beq ys.length len) with
  | false=>grind
  | true=>
   simp only[hc,Ae]at h;simp only[A6,Ph]at hc;obtain⟨⟨⟨⟨⟨hT,hi⟩,h1⟩,hg⟩,hl1⟩,hl2⟩:=hc;have h1:=B2 h1;have hl1:=B2 hl1
   obtain⟨k,hk⟩:∃ k,P.underlying e=some (.int k):=by
    grind [TV]
   obtain⟨q1,q2,q3⟩:=AO h;obtain⟨vs,rfl,hv1,hv2,hv3⟩:=hx.agg_inv;obtain⟨us,rfl,hu1,hu2,hu3⟩:=hy.agg_inv
   have hcell:∀ j,j<len->∃ k a b,vs[j]?=some (.int k a)/\us[j]?=some (.int k b)/\xs.getD j .any = .int k a/\ys.getD j .any = .int k b:=λj hj=>by
    obtain⟨k,a,b,e1,e2⟩:=q2 j (by omega);have r1:=hv3 j (by omega);have r2:=hu3 j (by omega);rw[e1]at r1;rw[e2]at r2;have r1:=r1.int_inv;have r2:=r2.int_inv
    have a1:vs[j]?=some (vs.getD j undef):=by simp[Array.getD,show j<vs.size by omega]
    have a2:us[j]?=some (us.getD j undef):=by simp[Array.getD,show j<us.size by omega]
    grind
   have hrun:=bJ hu hk hT h1 9998 w vs us r (λj hj=>by grind) (by
    grind)
   refine⟨?_,vs,us,rfl,rfl⟩
   have hguard:(eqGuard op t ox oy (.agg vs) (.agg us)).run P w = .ok () w:=by
    unfold eqGuard;rcases ho with rfl|rfl<;>simp[hg]
   rw[C2,hguard];exact hrun
 ·cases h
theorem OD{op:BinOp}{t:TypeId}{x y:AV}{vx vy:Value}{e:Eff}(h:cC P op t x y=some e)(hob:∀ p∈e.ob,p)(hx:Rep I σ.own θ w vx x)(hy:Rep I σ.own θ w vy y)(ox oy:Operand) :
  e.wo=[]/\∃ v,RepV I w v e.v/\(do eqGuard op t ox oy vx vy;binOp op t vx vy:Sem Value).run P w = .ok v w:=by
 have key:∀{u v:Value},(∀ cs,u≠.agg cs)->u≠.nilIface->∀ r,(binOp op t u v).run P w=r->(do eqGuard op t ox oy u v;binOp op t u v:Sem Value).run P w=r:=by
  intro u v h1 h2 r hr
  have:(eqGuard op t ox oy u v).run P w = .ok () w:=by
   unfold eqGuard
   cases u<;>cases op<;>simp_all
  simp[this,hr]
 unfold cC at h
 split at h
 ·split at h
  ·rename_i hu
   simp only[Eff.pure,Af]at h;subst h;obtain rfl:=hx.bool_inv;obtain rfl:=hy.bool_inv;refine⟨rfl,_,.bool _,key (by simp) (by simp) _ ?_⟩;have:=λa b=>Qh (P:=P) (t:=t) hu w a b;simp[binOp,this]
  ·cases h
 ·split at h
  ·rename_i hu
   simp only[Eff.pure,Af]at h;subst h;obtain rfl:=hx.bool_inv;obtain rfl:=hy.bool_inv;refine⟨rfl,_,.bool _,key (by simp) (by simp) _ ?_⟩
   grind [C2,Qh,En,Dv,binOp]
  ·cases h
 ·split at h
  ·rename_i r hr
   simp only[Eff.pure,Af]at h;subst h;obtain⟨hh,vs,us,rfl,rfl⟩:=AN hr hx hy .eql (.inl rfl) ox oy;refine⟨rfl,_,.bool _,?_⟩;rw[C2]at hh ⊢
   cases hg:(eqGuard .eql t ox oy (.agg vs) (.agg us)).run P w with
   | ok u w1=>
    grind [C2,En,Dv,binOp]
   | _=>rw[hg]at hh;cases hh
  ·cases h
 ·split at h
  ·rename_i r hr
   simp only[Eff.pure,Af]at h;subst h;obtain⟨hh,vs,us,rfl,rfl⟩:=AN hr hx hy .neq (.inr rfl) ox oy;refine⟨rfl,_,.bool _,?_⟩;rw[C2]at hh ⊢
   cases hg:(eqGuard .neq t ox oy (.agg vs) (.agg us)).run P w with
   | ok u w1=>
    grind [C2,En,Dv,binOp]
   | _=>rw[hg]at hh;cases hh
  ·cases h
 ·exact SX h hob hx hy t ox oy
theorem YY{op:UnOp}{x:AV}{vx:Value}{e:Eff}(h:oS op x=some e)(hx:Rep I σ.own θ w vx x) :
  e.wo=[]/\∃ v,RepV I w v e.v/\(Op.unary op vx).run P w = .ok v w:=by
 unfold oS at h
 split at h
 ·simp only[Eff.pure,Af]at h;subst h;obtain rfl:=hx.bool_inv;exact⟨rfl,_,.bool _,by rfl⟩
 ·simp only[Eff.pure,Af]at h;subst h;obtain rfl:=hx.int_inv;exact⟨rfl,_,.int _ _,by rfl⟩
 ·simp only[Eff.pure,Af]at h;subst h;obtain rfl:=hx.int_inv;exact⟨rfl,_,.int _ _,by rfl⟩
 grind
end
theorem Od{P:Program}{t:TypeId}(h:Bj P t=true)(w:World):(isAgg t).run P w = .ok (Dp P t) w:=by
 obtain⟨i,d,hi,hd,hs⟩:=Tg h;unfold isAgg Dp;rw[C2,Ds hd w,hd]
 cases d<;>simp
theorem Us{α:Type}{l:List α}{j:Nat}(d:α)(h:j<l.length):l[j]?=some (l.getD j d):=by simp[ h]
theorem Il{l:Array Value}{j:Nat}(h:j<l.size):l[j]?=some (l.getD j undef):=by simp[ h]
theorem Im{α:Type}(l:List α)(o n j:Nat)(d:α)(h:j<n):((l.drop o).take n).getD j d=l.getD (o+j) d:=by
 grind
theorem Iz(n j:Nat)(f:Nat->Value)(h:j<n):(((List.range n).map f).toArray).getD j undef=f j:=by
 simp[ h]
theorem Xk(vs:Array Value)(o n j:Nat)(h:j<n):(vs.extract o (o+n)).getD j undef=vs.getD (o+j) undef:=by
 simp only[Nb,Array.getElem?_extract]
 by_cases hs:o+j<vs.size
 ·rw[if_pos (by omega)]
 ·grind
theorem Un{l:Array Value}{j:Nat}(h:j<l.size):∃ u,l[j]?=some u/\l.getD j undef=u:=
 ⟨l[j],by simp[h],by simp[ h]⟩
theorem Uv(n j:Nat)(f:Nat->Value)(h:j<n):(((List.range n).map f)).getD j undef=f j:=by
 simp[ h]
section
variable {P:Program} {Γ:G0} {σ:Sto} {I:Nat->Nat->Prop} {θ:Nat->Option (Nat×Nat)} {a:Act} {w:World} {o:Oper}
theorem H6{t:TypeId}(ht:Bj P t=true)(hagg:Dp P t=true)(ad:Addr)(f:Nat->Value)(h:∀ j,j<A0 P t->w.cell? (ad.add j)=some (f j)) :
  (loadVar t ad).run P w = .ok (.agg ((List.range (A0 P t)).map f).toArray) w:=by
 simp only[loadVar,C2,Od ht,Dv,hagg,Hj,Bg ht];rw[run_loadCells w ad _ f h]
 rfl
theorem H7{t:TypeId}(ht:Bj P t=true)(hagg:Dp P t=false)(ad:Addr)(v:Value)(h:w.cell? ad=some v) :
  (loadVar t ad).run P w = .ok v w:=by
 simp[loadVar,Od ht,hagg,h]
theorem QJ(h:Rel Γ σ I θ a w)(hd:∀ d,o.dst=some d->d<Γ.n){t:TypeId}{x:Operand}(ho:o.op = .load t x)(ht:Bj P t=true){nm off:Nat}{cells:List AV}
  (hx:Rep I σ.own θ w (a.eval x) (.ptr nm off)) {e0:TypeId} (hown:σ.own nm=some (.row e0 cells)) :
  (Dp P t=true->off+A0 P t<=cells.length->C3 P Γ σ o a w (.agg ((cells.drop off).take (A0 P t))) []) /\
  (Dp P t=false->off<cells.length->C3 P Γ σ o a w (cells.getD off .any) []):=by
 obtain⟨e',cells',g,c,ho',hg,he⟩:=hx.ptr_inv;obtain⟨g',c',vs,hg',hh,hsz,h1,hrep,_⟩:=h.chg.rel.row nm _ _ hown;rw[hg]at hg';obtain⟨rfl,rfl⟩:=hg'
 have hcell:∀ j,j<cells.length->w.cell? _=some _:=λj hj=>by
  rw[Ko w g j vs _ _ hh];exact Il (by omega)
 refine⟨λhagg hle=>?_,λhagg hlt=>?_⟩
 ·have hr:(loadVar t ⟨g,off,none⟩).run P w = .ok _ w:=
   H6 ht hagg _ _ (λj hj=>by rw[Kn];exact hcell _ (by omega))
  refine Ak h hd (v:=.agg ((List.range (A0 P t)).map λj=>vs.getD (off+j) undef).toArray) ?_ ?_
  ·simp only[execOp,ho,he,Instr.loadAt,Instr.sureAddr,C2,En,Dv,hr]
  ·refine .agg _ _ (by simp;omega) (λj hj=>?_) (λj hj=>?_)
   ·have hj':j<A0 P t:=by simp at hj;omega
    rw[Iz _ _ _ hj'];exact h1 _ (by omega)
   ·have hj':j<A0 P t:=by simp at hj;omega
    rw[Iz _ _ _ hj',Im _ _ _ _ _ hj'];exact hrep _ (by omega)
 ·have hr:=H7  ht hagg _ _ (hcell off hlt);refine Ak h hd  ?_ (hrep off hlt);simp only[execOp,ho,he,Instr.loadAt,Instr.sureAddr,C2,En,Dv,hr]
theorem Ik{ad:Addr}(hs:ad.spot=none)(n:Nat):ad.add n=⟨ad.block,ad.off+n,none⟩:=by
 cases ad with
 | mk b o s =>  subst hs;exact Kn b o n
theorem MW(h:Rel Γ σ I θ a w)(hd:∀ d,o.dst=some d->d<Γ.n){t:TypeId}{x:Operand}(ho:o.op = .load t x)(ht:Bj P t=true){cells:List AV}
  (hx:Rep I σ.own θ w (a.eval x) (.rptr cells)) :
  (Dp P t=true->A0 P t=cells.length->C3 P Γ σ o a w (.agg cells) []) /\
  (Dp P t=false->1<=cells.length->C3 P Γ σ o a w (cells.getD 0 .any) []):=by
 obtain⟨ad,us,he,hs,_,hc,h1,hrep⟩:=hx.rptr_inv;refine⟨λhagg hle=>?_,λhagg hlt=>?_⟩
 ·have hr :=
   H6 ht hagg _ _ (λj hj=>by rw[Ik hs];exact hc _ (by omega))
  refine Ak h hd (v:=.agg ((List.range (A0 P t)).map us).toArray) ?_ ?_
  ·simp only[execOp,ho,he,Instr.loadAt,Instr.sureAddr,C2,En,Dv,hr]
  ·refine .val _ _ (.agg _ _ (by simp;omega) (λj hj=>?_) (λj hj=>?_))
   ·simp_all
   ·simp_all
 ·have hc0:=hc 0 (by omega);rw[Ls]at hc0
  have e:⟨ad.block,ad.off,none⟩=ad:=by cases ad;simp_all
  rw[e]at hc0;have hr:=H7  ht hagg ad _ hc0;refine Ak h hd  ?_ (.val _ _ (hrep 0 (by omega)));simp only[execOp,ho,he,Instr.loadAt,Instr.sureAddr,C2,En,Dv,hr]
theorem Oc{f:Field}(ht:Bj P f.type=true)(h1:1<=A0 P f.type)(ad:Addr):(fieldPlace ad f).run P w = .ok (ad.add f.offset) w:=by
 have hn:¬ (A0 P f.type=0):=by omega
 simp[fieldPlace,Bg ht,hn]
theorem Vr{cells:List AV}{ad:Addr}{us:Nat->Value}(hs:ad.spot=none)(hI:∀ j,j<cells.length->I ad.block (ad.off+j))
  (hc:∀ j,j<cells.length->w.cell? ⟨ad.block,ad.off+j,none⟩=some (us j)) (h1:∀ j,j<cells.length->(us j).oneCell'=true)
  (hr:∀ j,j<cells.length->RepV I w (us j) (cells.getD j .any)) (off n:Nat) (hle:off+n<=cells.length):RepV I w (.pointer (some (ad.add off))) (.rptr ((cells.drop off).take n)):=by
 have hl:((cells.drop off).take n).length=n:=by simp;omega
 rw[Ik hs];refine .rptr _ _ (λj=>us (off+j)) rfl (λj hj=>?_) (λj hj=>?_) (λj hj=>?_) (λj hj=>?_)<;>rw[hl]at hj
 ·grind
 ·grind
 ·exact h1 _ (by omega)
 ·grind
theorem MR(h:Rel Γ σ I θ a w)(hd:∀ d,o.dst=some d->d<Γ.n){s:TypeId}{x:Operand}{f:Nat}(ho:o.op = .fieldAddr s x f){fields:Array Field}{fd:Field}
  (hs:P.underlying s=some (.struct fields)) (hf:fields[f]?=some fd) (ht:Bj P fd.type=true) (h1:1<=A0 P fd.type) :
  (∀ nm off,Rep I σ.own θ w (a.eval x) (.ptr nm off)->C3 P Γ σ o a w (.ptr nm (off+fd.offset)) []) /\
  (∀ cells,Rep I σ.own θ w (a.eval x) (.rptr cells)->fd.offset+A0 P fd.type<=cells.length->C3 P Γ σ o a w (.rptr ((cells.drop fd.offset).take (A0 P fd.type))) []):=by
 refine⟨λnm off hx=>?_,λcells hx hle=>?_⟩
 ·obtain⟨e',cells',g,c,ho',hg,he⟩:=hx.ptr_inv;refine Ak h hd  ?_ (.ptr nm _ _ _ g c ho' hg);simp[execOp,ho,he,Instr.fieldAt,Instr.sureAddr,Ds hs,hf,Oc ht h1,Kn]
 ·obtain⟨ad,us,he,hs',hI,hc,h1',hrep⟩:=hx.rptr_inv;refine Ak h hd  ?_ (.val _ _ (Vr hs' hI hc h1' hrep _ _ hle));simp[execOp,ho,he,Instr.fieldAt,Instr.sureAddr,Ds hs,hf,Oc ht h1]
theorem FI{t:TypeId}{cs:List AV}{off:Nat}{x:AV}(h:JP P t cs off=some x){vs:Array Value}(hl:vs.size=cs.length)(h1:∀ j,j<cs.length->(vs.getD j undef).oneCell'=true)
  (hr:∀ j,j<cs.length->Rep I σ.own θ w (vs.getD j undef) (cs.getD j .any)):∃ v,(part t vs off).run P w = .ok v w/\Rep I σ.own θ w v x:=by
 unfold JP at h
 cases ht:Bj P t with
 | false=>simp[ht]at h
 | true=>
  simp only[ht]at h
  cases hagg:Dp P t with
  | true=>
   simp only[hagg,Ae]at h
   cases hle:Nat.ble (off+A0 P t) cs.length with
   | false=>simp[hle]at h
   | true=>
    simp only[hle,Ae,Af]at h;subst h;have hle':=G6 hle;refine⟨.agg (vs.extract off (off+A0 P t)),by simp[part,Od ht,hagg,Bg ht],.agg _ _ ?_ ?_ ?_⟩
    ·simp;omega
    ·intro j hj
     have hj':j<A0 P t:=by simp at hj;omega
     rw[Xk _ _ _ _ hj'];exact h1 _ (by omega)
    ·intro j hj
     have hj':j<A0 P t:=by simp at hj;omega
     rw[Xk _ _ _ _ hj',Im _ _ _ _ _ hj'];exact hr _ (by omega)
  | false=>
   simp only[hagg,Az]at h
   cases hlt:Nat.blt off cs.length with
   | false=>simp[hlt]at h
   | true=>
    simp only[hlt,Ae,Af]at h;subst h
    have hlt':off<cs.length:=by simp_all
    obtain⟨u,hu,hu'⟩:=Un (l:=vs) (j:=off) (by omega);have:=hr _ hlt';rw[hu']at this;refine⟨u,?_,this⟩;simp[part,Od ht,hagg,hu]
theorem d8(h:Rel Γ σ I θ a w)(hd:∀ d,o.dst=some d->d<Γ.n){s:TypeId}{x:Operand}{f:Nat}(ho:o.op = .field s x f){fields:Array Field}{fd:Field}
  (hs:P.underlying s=some (.struct fields)) (hf:fields[f]?=some fd) {cs:List AV} {y:AV} (hx:Rep I σ.own θ w (a.eval x) (.agg cs)) (hp:JP P fd.type cs fd.offset=some y):C3 P Γ σ o a w y []:=by
 obtain⟨vs,he,hl,h1,hr⟩:=hx.agg_inv;obtain⟨v,hv,hrep⟩:=FI  hp hl h1 hr;refine Ak h hd ?_ hrep;simp[execOp,ho,he,Instr.field,Ds hs,hf,asAgg,hv]
theorem FA(h:Rel Γ σ I θ a w)(hd:∀ d,o.dst=some d->d<Γ.n){t e:TypeId}{x i:Operand}(ho:o.op = .indexAddr t x i)(hu:P.underlying t=some (.slice e))(ht:Bj P e=true)
  {sz n:Nat} {f:Nat->List AV} {tag:Tag} {k:IntKind} {j:Int} (hx:Rep I σ.own θ w (a.eval x) (.slice sz n f tag)) (hi:Rep I σ.own θ w (a.eval i) (.int k j)) (hsz:sz=A0 P e\/n=0) (hb:Bv j n) :
  C3 P Γ σ o a w (.rptr (f j.toNat)) []:=by
 obtain⟨hb0,hb1⟩:=hb
 have hsz:sz=A0 P e:=by omega
 subst hsz;have hi':=hi.int_inv;obtain⟨_,ad,cap,us,he,hcap,hmax,hz,hn,h1,hl,hr⟩:=hx.slice_val.slice_inv;obtain⟨b,rfl,hs,hI,hc⟩:=hz (by omega)
 have hlt:j.toNat<n:=by omega
 have hlen:=hl _ hlt
 have hpos:∀ c,c<A0 P e->j.toNat*A0 P e+c<n*A0 P e:=λc hc=>by
  have:(j.toNat+1)*A0 P e<=n*A0 P e:=Dt _ hlt;rw[D9]at this;omega
 refine Ak h hd (v:=.pointer (some (b.add (j.toNat*A0 P e)))) ?_ (.val _ _ ?_)
 ·simp[execOp,ho,he,hi',Instr.indexAt,asIntOf,Ds hu,hb0,hb1,Bg ht]
 ·rw[Ik hs];refine .rptr _ _ (λc=>us (j.toNat*A0 P e+c)) rfl (λc hc'=>?_) (λc hc'=>?_) (λc hc'=>?_) (λc hc'=>?_)<;>rw[hlen]at hc'
  ·grind
  ·grind
  ·exact h1 _ (hpos c hc')
  ·exact hr _ _ hlt hc'
theorem QQ:∀(cells:List AV) (k n:Nat),k+n<=cells.length->JQ cells k n=(cells.drop k).take n
 | cells,k,0,_=>by simp[JQ]
 | cells,k,n+1,h=>by
  have hk:k<cells.length:=by omega
  rw[JQ,QQ _ _ n (by omega),Pg hk, List.getD,Sj hk]
  rfl
theorem Tu(h:Rel Γ σ I θ a w)(hd:∀ d,o.dst=some d->d<Γ.n){t e:TypeId}{len:Nat}{x i:Operand}(ho:o.op = .indexAddr t x i)(hu:P.underlying t=some (.array len e))(ht:Bj P e=true)
  {k:IntKind} {j:Int} (hi:Rep I σ.own θ w (a.eval i) (.int k j)) (hb:Bv j len) :
  (∀ nm off,Rep I σ.own θ w (a.eval x) (.ptr nm off)->C3 P Γ σ o a w (.ptr nm (off+j.toNat*A0 P e)) []) /\
  (∀ cells,Rep I σ.own θ w (a.eval x) (.rptr cells)->cells.length=len*A0 P e->C3 P Γ σ o a w (.rptr (JQ cells (j.toNat*A0 P e) (A0 P e))) []):=by
 obtain⟨hb0,hb1⟩:=hb;have hi':=hi.int_inv;refine⟨λnm off hx=>?_,λcells hx hle=>?_⟩
 ·obtain⟨e',cells',g,c,ho',hg,he⟩:=hx.ptr_inv;refine Ak h hd  ?_ (.ptr nm _ _ _ g c ho' hg);simp[execOp,ho,he,hi',Instr.indexAt,Instr.sureAddr,asIntOf,Ds hu,hb0,hb1,Bg ht,Kn]
 ·obtain⟨ad,us,he,hs',hI,hc,h1',hrep⟩:=hx.rptr_inv
  have hle':j.toNat*A0 P e+A0 P e<=cells.length:=by
   have:(j.toNat+1)*A0 P e<=len*A0 P e:=Dt _ (by omega);rw[D9]at this;omega
  rw[QQ _ _ _ hle'];refine Ak h hd  ?_ (.val _ _ (Vr hs' hI hc h1' hrep _ _ ?_))
  ·simp[execOp,ho,he,hi',Instr.indexAt,Instr.sureAddr,asIntOf,Ds hu,hb0,hb1,Bg ht]
  ·grind
theorem FB(h:Rel Γ σ I θ a w)(hd:∀ d,o.dst=some d->d<Γ.n){t e:TypeId}{len:Nat}{x i:Operand}(ho:o.op = .index t x i)(hu:P.underlying t=some (.array len e))(ht:Bj P e=true)
  (hagg:Dp P e=false) (hsz:A0 P e=1) {k:IntKind} {j:Int} {cs:List AV} (hl:cs.length=len) (hi:Rep I σ.own θ w (a.eval i) (.int k j)) (hb:Bv j len) (hx:Rep I σ.own θ w (a.eval x) (.agg cs)) :
  C3 P Γ σ o a w (cs.getD j.toNat .any) []:=by
 obtain⟨hb0,hb1⟩:=hb;have hi':=hi.int_inv;obtain⟨vs,he,hl',h1,hr⟩:=hx.agg_inv
 have hlt:j.toNat<cs.length:=by omega
 obtain⟨u,hg,hg'⟩:=Un (l:=vs) (j:=j.toNat) (by omega);have hv:=hr _ hlt;rw[hg']at hv;refine Ak h hd  ?_ hv;simp[execOp,ho,he,hi',Instr.index,asIntOf,Ds hu,hb0,hb1,Bg ht,hsz,part,Od ht,hagg,hg]
theorem MT(h:Rel Γ σ I θ a w)(hd:∀ d,o.dst=some d->d<Γ.n){t e:TypeId}{len:Nat}{x i:Operand}(ho:o.op = .index t x i)(hu:P.underlying t=some (.array len e))(ht:Bj P e=true)
  (hagg:Dp P e=true) {k:IntKind} {j:Int} {cs:List AV} (hl:cs.length=len*A0 P e) (hi:Rep I σ.own θ w (a.eval i) (.int k j)) (hb:Bv j len) (hx:Rep I σ.own θ w (a.eval x) (.agg cs)) :
  C3 P Γ σ o a w (.agg ((cs.drop (j.toNat*A0 P e)).take (A0 P e))) []:=by
 obtain⟨hb0,hb1⟩:=hb;have hi':=hi.int_inv;obtain⟨vs,he,hl',h1,hr⟩:=hx.agg_inv
 have hle:j.toNat*A0 P e+A0 P e<=cs.length:=by
  have:(j.toNat+1)*A0 P e<=len*A0 P e:=Dt _ (by omega);rw[D9]at this;omega
 have hp:JP P e cs (j.toNat*A0 P e)=some (.agg ((cs.drop (j.toNat*A0 P e)).take (A0 P e))):=by
  unfold JP;rw[ht,hagg,Nat.ble_eq_true_of_le hle]
  rfl
 obtain⟨v,hv,hrep⟩:=FI  hp hl' h1 hr;refine Ak h hd ?_ hrep;simp[execOp,ho,he,hi',Instr.index,asIntOf,Ds hu,hb0,hb1,Bg ht,hv]
theorem UI(h:Rel Γ σ I θ a w)(hd:∀ d,o.dst=some d->d<Γ.n){x:Operand}{ix:Nat}(ho:o.op = .extract x ix){xs:List AV}(hx:Rep I σ.own θ w (a.eval x) (.tuple xs))(hlt:ix<xs.length) :
  C3 P Γ σ o a w (xs.getD ix .any) []:=by
 obtain⟨vs,he,hl,hr⟩:=hx.tuple_inv;obtain⟨u,hg,hg'⟩:=Un (l:=vs) (j:=ix) (by omega);have hv:=hr _ hlt;rw[hg']at hv;refine Ak h hd  ?_ hv;simp[execOp,ho,he,Instr.extract,hg]
theorem BC(h:Rel Γ σ I θ a w)(hd:∀ d,o.dst=some d->d<Γ.n){x:Operand}(ho:o.op = .nilCheck x) :
  (∀ nm off,Rep I σ.own θ w (a.eval x) (.ptr nm off)->C3 P Γ σ o a w (.ptr nm off) [])/\(∀ cs,Rep I σ.own θ w (a.eval x) (.rptr cs)->C3 P Γ σ o a w (.rptr cs) []):=by
 refine⟨λnm off hx=>?_,λcs hx=>?_⟩
 ·obtain⟨e',cells',g,c,ho',hg,he⟩:=hx.ptr_inv;exact Ak h hd  (by simp[execOp,ho,he]) hx
 ·obtain⟨ad,us,he,_⟩:=hx.rptr_inv;exact Ak h hd  (by simp[execOp,ho,he]) hx
theorem EY(h:Rel Γ σ I θ a w)(hd:∀ d,o.dst=some d->d<Γ.n){s t:TypeId}{x:Operand}(ho:o.op = .convert s t x){k k' k0:IntKind}{n:Int}(hs:P.underlying s=some (.int k0))(ht:P.underlying t=some (.int k))
  (hx:Rep I σ.own θ w (a.eval x) (.int k' n)):C3 P Γ σ o a w (.int k (k.wrap n)) []:=by
 have hx':=hx.int_inv;refine Ak h hd  ?_ (.val _ _ (.int _ _));simp[execOp,ho,hx',convert,Ds hs,Ds ht,Conv.intToInt]
theorem EZ(h:Rel Γ σ I θ a w)(hd:∀ d,o.dst=some d->d<Γ.n){s t:TypeId}{x:Operand}(ho:o.op = .convert s t x){b:List Int}(hs:P.underlying s=some .string)(ht:P.underlying t=some .string)
  (hx:Rep I σ.own θ w (a.eval x) (.str b)):C3 P Γ σ o a w (.str b) []:=by
 obtain⟨b,hx',rfl⟩:=hx.str_inv;refine Ak h hd  ?_ (.val _ _ (.str _));simp[execOp,ho,hx',convert,Ds hs,Ds ht]
theorem MV(h:Rel Γ σ I θ a w)(hd:∀ d,o.dst=some d->d<Γ.n){t:TypeId}{x i:Operand}(ho:o.op = .index t x i)(hu:P.underlying t=some .string)
  {k:IntKind} {j:Int} {s:List Int} (hi:Rep I σ.own θ w (a.eval i) (.int k j)) (hb:Bv j s.length) (hx:Rep I σ.own θ w (a.eval x) (.str s)) :
  C3 P Γ σ o a w (.int .u8 (s.getD j.toNat 0)) []:=by
 obtain⟨b,he,rfl⟩:=hx.str_inv;obtain⟨hb0,hb1⟩:=hb;rw[Dk]at hb1;have hi':=hi.int_inv;obtain⟨g1,g2⟩:=TK b j.toNat (by omega);refine Ak h hd  ?_ (by rw[<- g2];exact .val _ _ (.int _ _));simp[execOp,ho,he,hi',Instr.index,asIntOf,Ds hu,hb0,g1]
theorem IV:∀(ns:List Int) (s:ByteArray),Bo (ns.foldl (λr n=>r.push (UInt8.ofNat n.toNat)) s)=Bo s++ns.map (λn=>((UInt8.ofNat n.toNat).toNat:Int))
 | [],s=>by simp
 | n::ns,s=>by
  rw[List.foldl_cons,IV ns];unfold Bo
  simp
theorem Zm(h:Rel Γ σ I θ a w)(hd:∀ d,o.dst=some d->d<Γ.n){s t e:TypeId}{x:Operand}(ho:o.op = .convert s t x){n sz:Nat}{f:Nat->List AV}{tag:Tag}(hs:P.underlying s=some (.slice e))(ht:P.underlying t=some .string)
  (he:P.underlying e=some (.int .u8)) (hsz:sz=1\/n=0) (hB:bg n f) (hx:Rep I σ.own θ w (a.eval x) (.slice sz n f tag)):C3 P Γ σ o a w (.str (Yz n f)) []:=by
 obtain⟨_,ad,cap,us,hex,hcap,hmax,hz,hn,h1,hl,hr⟩:=hx.slice_val.slice_inv
 have key:∀(S:ByteArray),Bo S=Yz n f->(Conv.bytesToString (.slice ad n cap)).run P w = .ok (.string S) w->C3 P Γ σ o a w (.str (Yz n f)) []:=λS hS hrun=>by
  refine Ak h hd (v:=.string S) ?_ (by rw[<- hS];exact .val _ _ (.str _));simp[execOp,ho,hex,convert,Ds hs,Ds ht,Ds he,hrun]
 rcases ad with _|b
 ·have:n=0:=by have:=hn rfl;omega
  subst this;exact key .empty rfl (by simp[Conv.bytesToString,En])
 ·refine key _ ?_ (run_bytesToString w b n cap (Yz n f) ?_)
  ·rw[IV]
   show[]++_=_
   rw[Uh]
   have:∀ l:List Int,(∀ x∈l,0<=x/\x<256)->l.map (λn=>((UInt8.ofNat n.toNat).toNat:Int))=l:=λl=>by
    induction l with
    | nil=>intro _;rfl
    | cons y l ih=>
     intro hy;have h0:=hy y (by simp);rw[Bu,ih λz hz=>hy z (by simp[hz])]
     congr 1
     rw[UInt8.toNat_ofNat'];omega
   refine this _ λy hy=>?_;obtain⟨i,hi,rfl⟩:=zzL26.1 hy;exact(hB i (zzL35.1 hi)).2
  ·have hcell:∀ j,j<n->w.cell? (b.add j)=some (us j):=λj hj=>by
    obtain⟨b',hb',hsp,_,hc⟩:=hz (by omega);obtain rfl:=OI hb'
    have hsz1:sz=1:=by omega
    subst hsz1;rw[<- hc j (by omega)]
    congr 1
    obtain⟨bl,of,sp⟩:=b;simp only at hsp;subst hsp;simp[Kn]
   rw[run_loadCells w b n us hcell]
   congr 2
   unfold Yz;rw[List.map_map]
   apply NJ
   intro j hj;have hj':=zzL35.1 hj
   have hsz1:sz=1:=by omega
   subst hsz1;have hv:=hr j 0 hj' (by omega);rw[(hB j hj').1]at hv;simp only[R3,Ls,List.getD_cons_zero]at hv
   generalize us j=v at hv
   cases hv
   rfl
theorem UJ(h:Rel Γ σ I θ a w)(hd:∀ d,o.dst=some d->d<Γ.n){t:TypeId}{xs:Array Operand}{x:Operand}{ts:Array TypeId}(ho:o.op = .call { callee:=.builtin .len,args:=xs,argTypes:=ts })(hxs:xs.toList=[x])(hts:ts.toList=[t]) :
  (∀ e sz n f tag,P.underlying t=some (.slice e)->Rep I σ.own θ w (a.eval x) (.slice sz n f tag)->C3 P Γ σ o a w (.int .i64 n) []) /\
  (∀ s,P.underlying t=some .string->Rep I σ.own θ w (a.eval x) (.str s)->C3 P Γ σ o a w (.int .i64 s.length) []) /\
  (∀ n e,P.underlying t=some (.array n e)->C3 P Γ σ o a w (.int .i64 n) []):=by
 obtain rfl:xs = #[x]:=by grind
 obtain rfl:ts = #[t]:=by grind
 refine⟨λe sz n f tag hu hx=>?_,λs hu hx=>?_,λn e hu=>?_⟩
 ·obtain⟨_,ad,cap,us,he,_⟩:=hx.slice_val.slice_inv;exact Ak h hd  (by simp[execOp,ho,resolve,invoke,builtin,Builtin.len_,he,Ds hu,goInt]) (.val _ _ (.int _ _))
 ·obtain⟨s,he,rfl⟩:=hx.str_inv;rw[Dk];exact Ak h hd  (by simp[execOp,ho,resolve,invoke,builtin,Builtin.len_,he,Ds hu,goInt]) (.val _ _ (.int _ _))
 ·exact Ak h hd  (by simp[execOp,ho,resolve,invoke,builtin,Builtin.len_,Ds hu,goInt]) (.val _ _ (.int _ _))
theorem lI(h:Rel Γ σ I θ a w)(hd:∀ d,o.dst=some d->d<Γ.n){xs:Array Operand}{x y:Operand}{ts:Array TypeId}(ho:o.op = .call { callee:=.builtin .min,args:=xs,argTypes:=ts })(hxs:xs.toList=[x,y])
  {k k':IntKind} {m n:Int} (hx:Rep I σ.own θ w (a.eval x) (.int k m)) (hy:Rep I σ.own θ w (a.eval y) (.int k' n)):C3 P Γ σ o a w (.int k (if n<m then n else m)) []:=by
 obtain rfl:xs = #[x,y]:=by grind
 have e1:=hx.int_inv;have e2:=hy.int_inv;exact Ak h hd  (by simp[execOp,ho,resolve,invoke,builtin,Builtin.min_,Builtin.min2,e1,e2]) (.val _ _ (.int _ _))
theorem lH(h:Rel Γ σ I θ a w)(hd:∀ d,o.dst=some d->d<Γ.n){xs:Array Operand}{x y:Operand}{ts:Array TypeId}(ho:o.op = .call { callee:=.builtin .max,args:=xs,argTypes:=ts })(hxs:xs.toList=[x,y])
  {k k':IntKind} {m n:Int} (hx:Rep I σ.own θ w (a.eval x) (.int k m)) (hy:Rep I σ.own θ w (a.eval y) (.int k' n)):C3 P Γ σ o a w (.int k (if m<n then n else m)) []:=by
 obtain rfl:xs = #[x,y]:=by grind
 have e1:=hx.int_inv;have e2:=hy.int_inv;exact Ak h hd  (by simp[execOp,ho,resolve,invoke,builtin,Builtin.max_,Builtin.max2,e1,e2]) (.val _ _ (.int _ _))
end
structure CellsOK(I:Nat->Nat->Prop)(own:Nat->Option Own)(θ:Nat->Option (Nat×Nat))(w:World)(vs:Array Value)(cs:List AV):Prop where
 size:vs.size=cs.length
 one:∀ j,j<cs.length->(vs.getD j undef).oneCell'=true
 rep:∀ j,j<cs.length->Rep I own θ w (vs.getD j undef) (cs.getD j .any)
theorem au{I:Nat->Nat->Prop}{own:Nat->Option Own}{θ:Nat->Option (Nat×Nat)}{w:World}{v:Value}{x:AV}(h1:x.one=true)(h:Rep I own θ w v x):v.oneCell'=true/\v.cells = #[v]:=by
 cases x<;>simp[AV.one]at h1
 case int=>obtain rfl:=h.int_inv;exact⟨rfl,rfl⟩
 case bool=>obtain rfl:=h.bool_inv;exact⟨rfl,rfl⟩
 case str=>obtain⟨_,rfl,_⟩:=h.str_inv;exact⟨rfl,rfl⟩
 case nilp=>obtain rfl:=h.nilp_inv;exact⟨rfl,rfl⟩
 case omap=>obtain⟨_,_,rfl⟩:=h.omap_inv;exact⟨rfl,rfl⟩
 case nilm=>obtain rfl:=h.nilm_inv;exact⟨rfl,rfl⟩
 case err=>rcases h.err_inv with⟨_,rfl⟩|⟨_,_,_,rfl⟩<;>exact⟨rfl,rfl⟩
 case ptr=>obtain⟨_,_,_,_,_,_,rfl⟩:=h.ptr_inv;exact⟨rfl,rfl⟩
 case vsl=>obtain⟨_,_,_,_,_,_,rfl,_⟩:=h.vsl_inv;exact⟨rfl,rfl⟩
 case vpt=>obtain⟨_,_,_,_,_,rfl,_⟩:=h.vpt_inv;exact⟨rfl,rfl⟩
 case clo=>obtain⟨_,_,rfl,_⟩:=h.clo_inv;exact⟨rfl,rfl⟩
 case vsub=>obtain⟨_,_,_,_,_,_,rfl,_⟩:=h.vsub_inv;exact⟨rfl,rfl⟩
 case rptr=>obtain⟨_,_,rfl,_⟩:=h.rptr_inv;exact⟨rfl,rfl⟩
 case rpo=>obtain⟨_,_,rfl,_⟩:=h.rpo_inv;exact⟨rfl,rfl⟩
 case slice=>obtain⟨_,_,_,_,rfl,_⟩:=h.slice_val.slice_inv;exact⟨rfl,rfl⟩
theorem Hl{I:Nat->Nat->Prop}{own:Nat->Option Own}{θ:Nat->Option (Nat×Nat)}{w:World}{v:Value}{x:AV}{cs:List AV}(hc:x.cells=some cs)(h:Rep I own θ w v x):CellsOK I own θ w v.cells cs:=by
 unfold AV.cells at hc
 split at hc
 ·simp only[Af]at hc;subst hc;obtain⟨vs,rfl,hl,h1,hr⟩:=h.agg_inv;exact⟨hl,h1,hr⟩
 ·cases h1:x.one with
  | false=>simp[h1]at hc
  | true=>
   simp only[h1,Ae,Af]at hc;subst hc;obtain⟨ho,he⟩:=au h1 h;rw[he]
   refine⟨rfl,λj hj=>?_,λj hj=>?_⟩<;>obtain rfl:j=0:=by simpa using hj
   ·simpa using ho
   ·simpa using h
theorem CellsOK.all{I:Nat->Nat->Prop}{own:Nat->Option Own}{θ:Nat->Option (Nat×Nat)}{w:World}{vs:Array Value}{cs:List AV}(h:CellsOK I own θ w vs cs):∀ v∈vs.toList,v.oneCell'=true:=by
 intro v hv;obtain⟨j,hj,rfl⟩:=List.mem_iff_getElem.1 hv;have:=h.one j (by rw[<- h.size];simpa using hj)
 simpa [Array.getD,show j<vs.size by simpa using hj] using this
def thUp(θ:Nat->Option (Nat×Nat))(d:Nat)(x:Option (Nat×Nat)):Nat->Option (Nat×Nat):=λnm=>if nm=d then x else θ nm
def An(own:Nat->Option Own)(d:Nat)(x:Own):Nat->Option Own:=λnm=>if nm=d then some x else own nm
theorem Hw{own own':Nat->Option Own}{θ θ':Nat->Option (Nat×Nat)}{I I':Nat->Nat->Prop}{w w':World}(h:G1 I own θ w)(sp:Nat->Prop)
  (hmono:∀ v x,Rep I own θ w v x->Rep I' own' θ' w' v x)
  (hold:∀ nm,¬ sp nm->own' nm=own nm/\θ' nm=θ nm)
  (hblk:∀ nm g c,¬ sp nm->own nm≠none->θ nm=some (g,c)->w'.heap[g]?=w.heap[g]?/\∀ j,I' g j->I g j)
  (hrow:∀ nm e cells,sp nm->own' nm=some (.row e cells)->∃ g c vs,θ' nm=some (g,c)/\w'.heap[g]?=some (.cells vs e (0,0))/\CellsOK I' own' θ' w' vs cells/\∀ j,¬ I' g j)
  (htok:∀ nm sz e m,sp nm->own' nm=some (.tok sz e m)->∀ g c,θ' nm=some (g,c)->∃ cur fz,w'.heap[g]?=some (.cells cur e (0,fz))/\m<=c/\c<=maxLen/\cur.size=c*sz/\fz<=m*sz/\∀ j,I' g j->j<m*sz)
  (hinj:∀ nm nm' g c c',sp nm->¬ sp nm'->own' nm≠none->own nm'≠none->θ' nm=some (g,c)->θ nm'=some (g,c')->False)
  (hsp:∀ nm nm',sp nm->sp nm'->nm=nm')
  (harr:∀ nm sz e m f,sp nm->own' nm=some (.arr sz e m f)->(θ' nm=none->m=0)/\∀ g c,θ' nm=some (g,c)->∃ cur,w'.heap[g]?=some (.cells cur e (0,0))/\m<=c/\c<=maxLen/\cur.size=c*sz /\
   (∀ i,i<m->(f i).length=sz)/\(∀ i j,i<m->j<sz->(cur.getD (i*sz+j) undef).oneCell'=true/\Rep I' own' θ' w' (cur.getD (i*sz+j) undef) ((f i).getD j .any))/\∀ j,¬ I' g j:=by
    intro nm sz e m f hs ho;first|exact hs.elim|(subst hs;simp[An]at ho))
  (hobj:∀ nm x,sp nm->own' nm=some (.obj x)->R6 I' own' θ' w' nm x:=by
    intro nm x hs ho;first|exact hs.elim|(subst hs;simp[An]at ho))
  (htok8:∀ nm sz m,sp nm->own' nm=some (.tok sz Vw m)->θ' nm=none->m=0:=by
    intro nm sz m hs ho;first|exact hs.elim|(subst hs;simp[An]at ho)):G1 I' own' θ' w':=by
 refine⟨λnm e cells ho=>?_,λnm sz e m ho g c hg=>?_,λnm nm' g c c' ho ho' hg hg'=>?_,λnm sz e m f ho=>?_,λnm x ho=>?_,λnm sz m ho hn=>?_⟩
 rotate_left 5
 ·by_cases hs:sp nm
  ·exact htok8 nm sz m hs ho hn
  ·obtain⟨e1,e2⟩:=hold nm hs;rw[e1]at ho;rw[e2]at hn;exact h.tok8 nm sz m ho hn
 rotate_left 4
 ·by_cases hs:sp nm
  ·exact hobj nm x hs ho
  ·obtain⟨e1,e2⟩:=hold nm hs;rw[e1]at ho;exact Hv (h.obj nm x ho) e2 (λg c hg=>(hblk nm g c hs (by simp[ho]) hg).1) (λg c j hg=>(hblk nm g c hs (by simp[ho]) hg).2 j) (λo h=>h.mono hmono) Pl
 ·by_cases hs:sp nm
  ·obtain⟨g,c,vs,h1,h2,h3,h4⟩:=hrow nm e cells hs ho;exact⟨g,c,vs,h1,h2,h3.size,h3.one,h3.rep,h4⟩
  ·obtain⟨e1,e2⟩:=hold nm hs;rw[e1]at ho;obtain⟨g,c,vs,h1,h2,h3,h4,h5,h6⟩:=h.row nm e cells ho;obtain⟨hb,hi⟩:=hblk nm g c hs (by simp[ho]) h1;exact⟨g,c,vs,e2.trans h1,hb.trans h2,h3,h4,λj hj=>hmono _ _ (h5 j hj),λj hj=>h6 j (hi j hj)⟩
 ·by_cases hs:sp nm
  ·exact htok nm sz e m hs ho g c hg
  ·obtain⟨e1,e2⟩:=hold nm hs;rw[e1]at ho;rw[e2]at hg;obtain⟨cur,fz,h2,h3,h4,h5,h6',h6⟩:=h.tok nm sz e m ho g c hg;obtain⟨hb,hi⟩:=hblk nm g c hs (by simp[ho]) hg;exact⟨cur,fz,hb.trans h2,h3,h4,h5,h6',λj hj=>h6 j (hi j hj)⟩
 ·by_cases hs:sp nm<;>by_cases hs':sp nm'
  ·exact hsp nm nm' hs hs'
  ·obtain⟨e1,e2⟩:=hold nm' hs';rw[e1]at ho';rw[e2]at hg';exact(hinj nm nm' g c c' hs hs' ho ho' hg hg').elim
  ·obtain⟨e1,e2⟩:=hold nm hs;rw[e1]at ho;rw[e2]at hg;exact(hinj nm' nm g c' c hs' hs ho' ho hg' hg).elim
  ·obtain⟨e1,e2⟩:=hold nm hs;obtain⟨e1',e2'⟩:=hold nm' hs';rw[e1]at ho;rw[e1']at ho';rw[e2]at hg;rw[e2']at hg';exact h.inj nm nm' g c c' ho ho' hg hg'
 ·by_cases hs:sp nm
  ·exact harr nm sz e m f hs ho
  ·obtain⟨e1,e2⟩:=hold nm hs;rw[e1]at ho;rw[e2];obtain⟨k1,k2⟩:=h.arr nm sz e m f ho;refine⟨k1,λg c hg=>?_⟩;obtain⟨cur,q1,q2,q3,q4,q5,q6,q7⟩:=k2 g c hg;obtain⟨hb,hi⟩:=hblk nm g c hs (by simp[ho]) hg;exact⟨cur,hb.trans q1,q2,q3,q4,q5,λi j hi hj=>⟨(q6 i j hi hj).1,hmono _ _ (q6 i j hi hj).2⟩,λj hj=>q7 j (hi j hj)⟩
section
variable {P:Program} {Γ:G0} {σ:Sto} {I:Nat->Nat->Prop} {θ:Nat->Option (Nat×Nat)} {a:Act} {w:World} {o:Oper}
theorem Ho(ob:Obj){b o:Nat}{u:Value}(h:w.cell? ⟨b,o,none⟩=some u):(w.alloc ob).cell? ⟨b,o,none⟩=w.cell? ⟨b,o,none⟩:=
 World.cell?_alloc_lt (w:=w) (o:=ob) (a:=⟨b,o,none⟩) (L8 h)
theorem Hg{own:Nat->Option Own}(h:G1 I own θ w){nm g c:Nat}(ho:own nm≠none)(hg:θ nm=some (g,c)):g<w.heap.size:=by
 cases hn:own nm with
 | none=>exact(ho hn).elim
 | some x=>cases x with
  | row e cells=>obtain⟨g',c',vs,h1,h2,_⟩:=h.row nm e _ hn;rw[hg]at h1; obtain⟨rfl,rfl⟩:=h1;exact Xo h2
  | tok sz e m=>obtain⟨cur,fz,h2,_⟩:=h.tok nm sz e m hn g c hg;exact Xo h2
  | arr sz e m f=>obtain⟨cur,h2,_⟩:=(h.arr nm sz e m f hn).2 g c hg;exact Xo h2
  | obj x=>
   rcases h.obj nm x hn with⟨g',c',o,h1,h2,_⟩|⟨h1,_⟩
   ·grind
   ·rw[hg]at h1;cases h1
theorem Bk(σ:Sto)(dst:Option Nat)(v:AV)(d:Nat)(x:Own):(σ.upd dst v [(d,x)]).own=An σ.own d x:=by
 funext nm
 simp only[Sto.upd,Ad,An]
 by_cases h:d=nm
 ·subst h;simp
 ·have:Nat.beq d nm=false:=by cases hb:Nat.beq d nm with|false=>rfl|true=>simp_all
  simp[this,Hk h]
theorem TL{own:Nat->Option Own}(hrel:G1 I own θ w)(hval:∀ b o,I b o->∃ u,w.cell? ⟨b,o,none⟩=some u){d:Nat}(hn:own d=none){vs:Array Value}{cs:List AV}(hc:CellsOK I own θ w vs cs)(e:TypeId) :
  Chg own θ I w (An own d (.row e cs)) (thUp θ d (some (w.heap.size,0))) I (w.alloc (.cells vs e)):=by
 have hcell:∀ b o,I b o->(w.alloc (.cells vs e)).cell? _=w.cell? _:=λb o hi=>by
  obtain⟨u,hu⟩:=hval b o hi;exact Ho _ hu
 have hle:∀ nm o,own nm=some o->∃ o',An own d (.row e cs) nm=some o'/\OwnLe o (θ nm) o' (thUp θ d (some (w.heap.size,0)) nm):=λnm o ho=>by
  have hne:nm≠d:=by grind
  exact⟨o,by simp[An,hne,ho],by simp[thUp,hne,OwnLe.refl]⟩
 have hmono:∀ v x,Rep I own θ w v x->Rep I _ _ _ v x:=λv x h=>h.mono (λ_ _ h=>h) hcell hle;refine{ imm:=λ_ _ h=>h,cell:=hcell,le:=hle,rel:=?_,valid:=λb o hi=>?_,os:=rfl,tape:=rfl,output:=rfl,drawn:=λ_=>zzL7 _,grow:=by simp,frame:=λb hb _=>BX w _ hb,new:=λnm g c ho hg=>?_,immNew:=λb o h=>.inl h }
 ·refine Hw hrel (·=d) hmono (λnm hne=>⟨by simp[An,hne],by simp[thUp,hne]⟩) (λnm g c hne ho hg=>⟨BX w _ (Hg hrel ho hg),λj h=>h⟩) ?_ ?_ ?_ (λ_ _ h h'=>h.trans h'.symm)
  ·rintro nm e' cells rfl ho;simp only[An,  Own.row.injEq]at ho;obtain⟨rfl,rfl⟩:=ho;refine⟨w.heap.size,0,vs,by simp[thUp],Vz w _,⟨hc.size,hc.one,λj hj=>hmono _ _ (hc.rep j hj)⟩,λj hj=>?_⟩;obtain⟨u,hu⟩:=hval _ _ hj;exact V4 _ (L8 hu)
  ·rintro nm sz e' m rfl ho;simp[An]at ho
  ·rintro nm nm' g c c' rfl hne _ ho' hg hg';simp only[thUp,Hj,Af,Ii]at hg;have:=Hg hrel ho' hg';omega
 ·grind
 ·by_cases hne:nm=d
  ·simp only[thUp,hne,Hj,Af,Ii]at hg;exact .inl (by omega)
  ·simp only[An,hne]at ho;simp only[thUp,hne]at hg;exact .inr ⟨nm,c,ho,hg⟩
theorem JN(h:Rel Γ σ I θ a w)(hd:∀ d,o.dst=some d->d<Γ.n){d:Nat}(_:o.dst=some d)(hn:σ.own d=none){vs:Array Value}{cs:List AV}(hc:CellsOK I σ.own θ w vs cs){e:TypeId}
  (hr:(execOp a.eval o).run P w = .ok (.value (.pointer (some ⟨w.heap.size,0,none⟩))) (w.alloc (.cells vs e))):C3 P Γ σ o a w (.ptr d 0) [(d,.row e cs)]:=by
 have k:=TL h.chg.rel h.chg.valid hn hc e;refine F5 h hd hr (by rw[Bk];exact k) ?_;rw[Bk];exact .ptr d 0 e cs _ 0 (by simp[An]) (by simp[thUp])
theorem lF(h:Rel Γ σ I θ a w)(hd:∀ d,o.dst=some d->d<Γ.n){d:Nat}(hdst:o.dst=some d)(hn:σ.own d=none){e:TypeId}{x:Operand}(ho:o.op = .box e x){y:AV}{cs:List AV}(hx:Rep I σ.own θ w (a.eval x) y)(hc:y.cells=some cs) :
  C3 P Γ σ o a w (.ptr d 0) [(d,.row e cs)]:=by
 refine JN  h hd hdst hn (Hl hc hx) ?_;simp[execOp,ho,Instr.box,newVar,newRow]
theorem FP(v:Value):Rep I σ.own θ w v (AV.ofCell v):=by
 unfold AV.ofCell
 split
 ·exact .val _ _ (.int _ _)
 ·exact .val _ _ (.bool _)
 ·exact .val _ _ (.str _)
 ·exact .val _ _ .nilp
 ·exact .exact _ _ _ _ (.slice _ 0 0 0 _ (λ_=>undef) (zzL7 _) (Li _) (λh=>by omega) (λ_=>rfl) (λj hj=>by omega) (λi hi=>by omega) (λi c hi=>by omega))
 ·exact .val _ _ .err0
 ·exact .val _ _ .nilm
 ·exact .val _ _ (.any _)
theorem Fs{vs:Array Value}(h:vs.toList.all (·.oneCell')=true):CellsOK I σ.own θ w vs (vs.toList.map AV.ofCell):=by
 refine⟨by simp,λj hj=>?_,λj hj=>?_⟩<;>have hj' :=by simpa using hj
 ·simp_all
 ·have:(vs.toList.map AV.ofCell).getD j .any=AV.ofCell (vs.getD j undef):=by simp_all
  rw[this];exact FP _
theorem Pc(v:Value):Rep I σ.own θ w v (AV.ofValue v):=by
 unfold AV.ofValue
 split
 ·rename_i cs
  cases hc:cs.toList.all _ with
  | false=>exact .val _ _ (.any _)
  | true=>
   have:=Fs (I:=I) (σ:=σ) (θ:=θ) (w:=w) hc;exact .agg _ _ this.size this.one this.rep
 ·rename_i vs
  split
  ·obtain rfl:vs = #[]:=by grind
   exact .val _ _ .undef
  ·exact .val _ _ (.any _)
 ·exact FP _
theorem Km{t:TypeId}{z:List AV}(h:Qj P t=some z):∃ i v,P.info? t=some i/\i.zero=some v/\v.cells.toList.all (·.oneCell')=true/\z=v.cells.toList.map AV.ofCell:=by
 unfold Qj at h
 split at h
 ·rename_i v hv
  obtain⟨i,hi,hz⟩:=zzL121.1 hv
  cases hc:v.cells.toList.all (·.oneCell') with
  | false=>simp[hc]at h
  | true=>grind
 ·simp at h
theorem Jw{t:TypeId}{i:TypeInfo}{v:Value}(hi:P.info? t=some i)(hz:i.zero=some v)(w:World):(zeroValue t).run P w = .ok v w:=by simp[zeroValue,typeInfo,hi,hz]
theorem dy(h:Rel Γ σ I θ a w)(hd:∀ d,o.dst=some d->d<Γ.n){d:Nat}(hdst:o.dst=some d)(hn:σ.own d=none){e:TypeId}(ho:o.op = .alloc e){z:List AV}(hz:Qj P e=some z) :
  C3 P Γ σ o a w (.ptr d 0) [(d,.row e z)]:=by
 obtain⟨i,v,hi,hv,h1,rfl⟩:=Km hz;refine JN  h hd hdst hn (Fs h1) ?_;simp[execOp,ho,Instr.alloc,Jw hi hv,newVar,newRow]
theorem F2{α:Type}(d:α)(l m:List α)(off j:Nat)(hle:off+m.length<=l.length) :
  (l.take off++m++l.drop (off+m.length)).getD j d=if off<=j/\j<off+m.length then m.getD (j-off) d else l.getD j d:=by
 have ht:(l.take off).length=off:=by simp;omega
 by_cases h1:j<off
 ·grind
 ·grind
theorem eD(h:Rel Γ σ I θ a w)(hd:∀ d,o.dst=some d->d<Γ.n){t:TypeId}{x y:Operand}(ho:o.op = .store t x y)(ht:Bj P t=true){nm off:Nat}{cells cs:List AV}{z:AV}
  (hx:Rep I σ.own θ w (a.eval x) (.ptr nm off)) (hy:Rep I σ.own θ w (a.eval y) z) {e:TypeId} (hown:σ.own nm=some (.row e cells)) (hc:z.cells=some cs) (hsz:cs.length=A0 P t) (hle:off+cs.length<=cells.length) :
  C3 P Γ σ o a w .undef [(nm,.row e (cells.take off++cs++cells.drop (off+cs.length)))]:=by
 obtain⟨e',cells',g,c,ho',hg,he⟩:=hx.ptr_inv;rw[hown]at ho';simp only[Af,Own.row.injEq]at ho';obtain⟨rfl,rfl⟩:=ho';obtain⟨g',c',vs,hg',hh,hvs,h1,hrep,hnI⟩:=h.chg.rel.row nm e cells hown;rw[hg]at hg';simp only[Af,Ii]at hg';obtain⟨rfl,rfl⟩:=hg';have hcs:=Hl hc hy;have hrel:=h.chg.rel
 have hvl:(a.eval y).cells.toList.length=cs.length:=by simp[hcs.size]
 have hst:=run_storeCells_at P g off e (a.eval y).cells.toList 0 vs w hh (by rw[hvl];omega) hcs.all;simp only[Ls]at hst
 have hrun:(execOp a.eval o).run P w = .ok .skip (w.setRow g (vs.toList.take off++(a.eval y).cells.toList++vs.toList.drop (off+(a.eval y).cells.toList.length)).toArray):=by
  have hn:¬ ((a.eval y).cells.size≠A0 P t):=by rw[hcs.size,hsz];simp
  simp only[execOp,ho,he,Instr.storeAt,Instr.sureAddr,C2,En,Dv,storeVar,Bg ht,if_neg hn,hst]
 refine U0 h hd (I':=I) (θ':=θ) hrun ?_;rw[Bk,hvl];have hother:∀ b,b≠g->(w.setRow g (vs.toList.take off++(a.eval y).cells.toList++vs.toList.drop (off+cs.length)).toArray).heap[b]?=w.heap[b]?:=λb hb=>AD w g b _ hb
 have hcell :=λb j hi=>
  BM (a:=⟨b,j,none⟩) (hother b (by rintro rfl;exact hnI j hi))
 have hle':∀ nm' o,σ.own nm'=some o->∃ o',An σ.own nm (.row e (cells.take off++cs++cells.drop (off+cs.length))) nm'=some o'/\OwnLe o (θ nm') o' (θ nm'):=λnm' o ho=>by
  by_cases hne:nm'=nm
  ·subst hne;rw[hown]at ho;obtain rfl:=OI ho;exact⟨.row e (cells.take off++cs++cells.drop (off+cs.length)),by simp[An],rfl,rfl⟩
  ·exact⟨o,by simp[An,hne,ho],.refl _ _⟩
 have hmono:∀ v x,Rep I σ.own θ w v x->Rep I (An σ.own nm (.row e (cells.take off++cs++cells.drop (off+cs.length)))) θ (w.setRow g (vs.toList.take off++(a.eval y).cells.toList++vs.toList.drop (off+cs.length)).toArray) v x:=
  λv x h=>h.mono (λ_ _ h=>h) hcell hle'
 refine{ imm:=λ_ _ h=>h,cell:=hcell,le:=hle',rel:=?_,valid:=λb j hi=>?_,os:=rfl,tape:=rfl,output:=rfl,drawn:=λ_=>zzL7 _,grow:=by simp,frame:=λb hb hn=>hother b ?_,new:=λnm' g c ho hg=>?_,immNew:=λb o h=>.inl h }
 ·refine Hw hrel (·=nm) hmono (λnm' hne=>⟨by simp[An,hne],rfl⟩) (λnm' g' c' hne ho hg'=>⟨hother g' ?_,λj h=>h⟩) ?_ ?_ ?_ (λ_ _ h h'=>h.trans h'.symm)
  ·rintro rfl;exact hne (hrel.inj nm' nm _ _ _ ho (by simp[hown]) hg' hg)
  ·rintro nm' e' cells' rfl ho;simp only[An,Hj,Af,Own.row.injEq]at ho;obtain⟨rfl,rfl⟩:=ho
   have hlen:(vs.toList.take off++(a.eval y).cells.toList++vs.toList.drop (off+cs.length)).length=cells.length:=by
    simp only[Em,Wy,Wz,Z0,hvs,hcs.size];omega
   have hlen2:(cells.take off++cs++cells.drop (off+cs.length)).length=cells.length:=by
    simp only[Em,Wy,Wz];omega
   have hget:∀ j,((vs.toList.take off++(a.eval y).cells.toList++vs.toList.drop (off+cs.length)).toArray).getD j undef=if off<=j/\j<off+cs.length then(a.eval y).cells.getD (j-off) undef else vs.getD j undef:=λj=>by
    have:=F2 undef vs.toList (a.eval y).cells.toList off j (by rw[hvl];simp;omega);rw[hvl]at this
    have e1:∀(l:List Value),(l.toArray).getD j undef=l.getD j undef:=λl=>by simp[Nb,List.getD]
    rw[e1,this]
    congr 1
    ·simp[Nb,List.getD]
    ·simp[Nb,List.getD]
   refine⟨g,c,_,hg,AE w g vs _ e _ hh,⟨by rw[hlen2];simpa using hlen,λj hj=>?_,λj hj=>?_⟩,hnI⟩<;>rw[hlen2]at hj<;>rw[hget]
   ·split
    ·exact hcs.one _ (by omega)
    ·exact h1 _ hj
   ·rw[F2 _ _ _ _ _ hle]
    split
    ·exact hmono _ _ (hcs.rep _ (by omega))
    ·exact hmono _ _ (hrep _ hj)
  ·rintro nm' sz e' m rfl ho;simp[An]at ho
  ·rintro nm' nm'' g' c1 c2 rfl hne _ ho' hg1 hg2;exact hne (hrel.inj nm'' nm' _ _ _ ho' (by simp[hown]) hg2 hg1)
 ·obtain⟨u,hu⟩:=h.chg.valid b j hi;exact⟨u,(hcell b j hi).trans hu⟩
 ·rintro rfl;exact hn nm c (by simp[hown]) hg
 ·refine .inr ⟨nm',c,?_,hg⟩
  by_cases hne:nm'=nm
  ·subst hne;simp[hown]
  ·simpa [An,hne] using ho
end
theorem Vj(off:Nat):∀(l:List Value) (i:Nat) (cs:Array Value) (k:Nat),off+i+l.length<=cs.size->
  ((l.zipIdx i).foldl (λ(cs:Array Value) (p:Value×Nat)=>cs.setIfInBounds (off+p.2) p.1) cs)[k]?=if off+i<=k/\k<off+i+l.length then l[k-(off+i)]? else cs[k]?
 | [],i,cs,k,_=>by simp;omega
 | v::l,i,cs,k,h=>by
  simp only[Nc]at h;simp only[List.zipIdx_cons,List.foldl_cons];rw[Vj off l _ _ k (by simp;omega)]
  by_cases h1:k=off+i
  ·grind
  ·grind
theorem Td(off:Nat):∀(l:List Value) (i:Nat) (cs:Array Value),
  ((l.zipIdx i).foldl (λ(cs:Array Value) (p:Value×Nat)=>cs.setIfInBounds (off+p.2) p.1) cs).size=cs.size
 | [],_,_=>rfl
 | _::l,i,cs=>by simp only[List.zipIdx_cons,List.foldl_cons];rw[Td off l _];simp
theorem ZT(off:Nat)(c cs:Array Value)(j:Nat)(h:off+c.size<=cs.size) :
  (c.zipIdx.foldl (λ(cs:Array Value) (p:Value×Nat)=>cs.setIfInBounds (off+p.2) p.1) cs).getD j undef=if off<=j/\j<off+c.size then c.getD (j-off) undef else cs.getD j undef:=by
 rw[<- Array.foldl_toList,Array.toList_zipIdx];have:=Vj off c.toList 0 cs j (by simpa using h);simp only[Ls,Z0,Array.getElem?_toList]at this;simp only[Nb,this]
 split<;>rfl
theorem DW(off:Nat)(c cs:Array Value):(c.zipIdx.foldl (λ(cs:Array Value) (p:Value×Nat)=>cs.setIfInBounds (off+p.2) p.1) cs).size=cs.size:=by
 rw[<- Array.foldl_toList,Array.toList_zipIdx];exact Td off _ 0 cs
section
variable {P:Program} {Γ:G0} {σ:Sto} {I:Nat->Nat->Prop} {θ:Nat->Option (Nat×Nat)} {a:Act} {w:World} {o:Oper}
inductive Oq (I:Nat->Nat->Prop) (own:Nat->Option Own) (θ:Nat->Option (Nat×Nat)) (w:World):List (Nat×Value)->List (Nat×AV)->Prop
 | nil:Oq I own θ w [] []
 | cons {i:Nat} {v:Value} {x:AV} {l:List (Nat×Value)} {m:List (Nat×AV)} (h:Rep I own θ w v x) (t:Oq I own θ w l m):Oq I own θ w ((i,v)::l) ((i,x)::m)
theorem Qy(place:Nat->Option (Nat×Nat)){l:List (Nat×Value)}{m:List (Nat×AV)}(hp:Oq I σ.own θ w l m):∀{vs:Array Value} {cs cs':List AV},CellsOK I σ.own θ w vs cs->Tc place cs m=some cs'->
  ∃ vs',Instr.fill place vs l=some vs'/\CellsOK I σ.own θ w vs' cs':=by
 induction hp with
 | nil=>intro vs cs cs' h hf;simp only[Tc,Af]at hf;subst hf;exact⟨vs,rfl,h⟩
 | @cons i v x l m hv _ ih=>
  intro vs cs cs' h hf;simp only[Tc]at hf
  cases hpl:place i with
  | none=>simp[hpl]at hf
  | some os=>
   obtain⟨off,size⟩:=os
   cases hx:x.cells with
   | none=>simp[ hx]at hf
   | some xs=>
    simp only[hpl,hx]at hf
    cases h1:Nat.beq xs.length size with
    | false=>simp[h1]at hf
    | true=>
     cases h2:Nat.ble (off+xs.length) cs.length with
     | false=>simp[ h2]at hf
     | true=>
      simp only[h1,h2, Ae]at hf;have h1':=B2 h1;have h2':=G6 h2;have hc:=Hl hx hv
      have hle:off+v.cells.size<=vs.size:=by rw[hc.size,h.size];exact h2'
      have hlen2:(cs.take off++xs++cs.drop (off+xs.length)).length=cs.length:=by
       grind
      obtain⟨vs',hf',hok⟩:=ih (vs:=v.cells.zipIdx.foldl (λcs p=>cs.setIfInBounds (off+p.2) p.1) vs) (by
       refine⟨by rw[DW,hlen2,h.size],λj hj=>?_,λj hj=>?_⟩<;>rw[hlen2]at hj<;>rw[ZT off _ _ j hle,hc.size]
       ·split
        ·exact hc.one _ (by omega)
        ·exact h.one _ hj
       ·rw[F2 _ _ _ _ _ h2']
        split
        ·exact hc.rep _ (by omega)
        ·exact h.rep _ hj) hf
      refine⟨vs',?_,hok⟩
      have hn:¬ (v.cells.size≠size || decide (off+v.cells.size>vs.size))=true:=by
       simp only[V3,Du,not_or];rw[hc.size];exact⟨by simpa using h1',by rw[h.size];omega⟩
      simp only[Instr.fill,hpl,if_neg hn];exact hf'
theorem dz(h:Rel Γ σ I θ a w)(hd:∀ d,o.dst=some d->d<Γ.n){t:TypeId}{parts:Array (Nat×Operand)}(ho:o.op = .build t parts){is:List Nat}{vs:List AV}
  (hp:Oq I σ.own θ w (parts.toList.map λp=>(p.1,a.eval p.2)) (is.zip vs)) {e:Eff} (he:SY P t is vs=some e):e.wo=[]/\C3 P Γ σ o a w e.v []:=by
 unfold SY at he
 split at he
 ·rename_i z fields hz hu
  cases hf:fields.toList.all (λf=>Bj P f.type) with
  | false=>simp[hf]at he
  | true=>
   simp only[hf,Ae]at he
   split at he
   ·rename_i cs hfill
    simp only[Eff.pure,Af]at he;subst he;obtain⟨i,v,hi,hv,h1,rfl⟩:=Km hz;obtain⟨vs',hfi,hok⟩:=Qy _ hp (Fs h1) hfill;refine⟨rfl,Ak h hd (v:=.agg vs') ?_ (.agg _ _ hok.size hok.one hok.rep)⟩;have hsz :=λf hm=>zzL27.1 hf f hm
    have hm:(fields.mapM (λf:Field=>do pure (f.offset,<- sizeOf f.type))).run P w = .ok (fields.map λf=>(f.offset,A0 P f.type)) w:=by
     rw[Array.mapM_eq_mapM_toList]
     have key:∀ l:List Field,(∀ f∈l,Bj P f.type=true)->(l.mapM (λf:Field=>do pure (f.offset,<- sizeOf f.type))).run P w = .ok (l.map λf=>(f.offset,A0 P f.type)) w:=by
      intro l
      induction l with
      | nil=>intro _;simp
      | cons f l ih=>
       intro hl;simp only[List.mapM_cons,C2,Bg (hl f (by simp)),Dv,En,ih (λg hg=>hl g (by simp[hg])),Bu]
     rw[Sem.run_map,key _ hsz];simp only[Dv,Result.ok.injEq,Bf]
     apply Nf
     simp
    have e1:(λx:Nat=>(fields.map λf:Field=>(f.offset,A0 P f.type))[x]?)=λi:Nat=>(fields.toList.map λf:Field=>(f.offset,A0 P f.type))[i]?:=by
     funext i;simp
    have e2:(parts.map λx=>(x.1,a.eval x.2)).toList=parts.toList.map λp=>(p.1,a.eval p.2):=by simp
    simp only[execOp,ho,Instr.build,C2,Jw hi hv,Dv,Ds hu,hm,En,e1,e2,hfi]
   ·simp at he
 ·rename_i z n e hz hu
  cases hf:Bj P e with
  | false=>simp[hf]at he
  | true=>
   simp only[hf,Ae]at he
   split at he
   ·rename_i cs hfill
    simp only[Eff.pure,Af]at he;subst he;obtain⟨i,v,hi,hv,h1,rfl⟩:=Km hz;obtain⟨vs',hfi,hok⟩:=Qy _ hp (Fs h1) hfill;refine⟨rfl,Ak h hd (v:=.agg vs') ?_ (.agg _ _ hok.size hok.one hok.rep)⟩
    have e2:(parts.map λx=>(x.1,a.eval x.2)).toList=parts.toList.map λp=>(p.1,a.eval p.2):=by simp
    simp only[execOp,ho,Instr.build,C2,Jw hi hv,Dv,Ds hu,Bg hf,En,e2,hfi]
   ·simp at he
 ·simp at he
def IX(I:Nat->Nat->Prop)(g n:Nat):Nat->Nat->Prop:=λb o=>I b o\/(b=g/\o<n)
theorem Wh{own:Nat->Option Own}(hrel:G1 I own θ w)(hval:∀ b o,I b o->∃ u,w.cell? ⟨b,o,none⟩=some u)(vs:Array Value)(e:TypeId) :
  Chg own θ I w own θ (IX I w.heap.size vs.size) (w.alloc (.cells vs e)):=by
 have hcell:∀ b o,I b o->(w.alloc (.cells vs e)).cell? _=w.cell? _:=λb o hi=>by
  obtain⟨u,hu⟩:=hval b o hi;exact Ho _ hu
 have hle:∀ nm o,own nm=some o->∃ o',own nm=some o'/\OwnLe o _ o' (θ nm):=λnm o ho=>⟨o,ho,.refl _ _⟩;have hmono:∀ v x,Rep I own θ w v x->Rep (IX I w.heap.size vs.size) own θ _ v x:=λv x h=>h.mono (λ_ _ h=>.inl h) hcell hle;refine{ imm:=λ_ _ h=>.inl h,cell:=hcell,le:=hle,rel:=?_,valid:=λb o hi=>?_,os:=rfl,tape:=rfl,output:=rfl,drawn:=λ_=>zzL7 _,grow:=by simp,frame:=λb hb _=>BX w _ hb,new:=λnm g c ho hg=>.inr ⟨nm,c,ho,hg⟩,immNew:=λb o h=>?_ }
 ·refine Hw hrel (λ_=>False) hmono (λnm _=>⟨rfl,rfl⟩) (λnm g c _ ho hg=>⟨BX w _ (Hg hrel ho hg),λj h=>?_⟩) (λ_ _ _ h=>h.elim) (λ_ _ _ _ h=>h.elim) (λ_ _ _ _ _ h=>h.elim) (λ_ _ h=>h.elim);have:=Hg hrel ho hg;rcases h with h|⟨h,_⟩
  ·exact h
  ·omega
 ·rcases hi with hi|⟨rfl,hlt⟩
  ·grind
  ·simp_all
 ·rcases h with h|⟨rfl,_⟩
  ·exact .inl h
  ·omega
theorem IK(sz:Nat):∀(n:Nat) (l:List AV) (i:Nat),i<n->(OT sz n l).getD i []=(l.drop (i*sz)).take sz
 | 0,_,i,h=>by omega
 | n+1,l,0,_=>by simp[OT]
 | n+1,l,i+1,h=>by
  have:=IK sz n (l.drop sz) i (by omega);simp only[OT,List.getD_cons_succ,this,List.drop_drop]
  congr 2
  rw[D9];omega
theorem US{w':World}{I':Nat->Nat->Prop}{vs:Array Value}{cs:List AV}(hc:∀ j,j<cs.length->(vs.getD j undef).oneCell'=true/\RepV I' w' (vs.getD j undef) (cs.getD j .any))
  {g cap n sz:Nat} (hn:cs.length=n*sz) (hcap:n<=cap) (hmax:cap<=maxLen) (hI:∀ j,j<n*sz->I' g j) (hcell:∀ j,j<n*sz->w'.cell? ⟨g,j,none⟩=some (vs.getD j undef))
  {f:Nat->List AV} (hf:∀ i,i<n->f i=(cs.drop (i*sz)).take sz) :
  RepV I' w' (.slice (some ⟨g,0,none⟩) n cap) (.slice sz n f .none):=by
 have hpos:∀ i c,i<n->c<sz->i*sz+c<n*sz:=λi c hi hc=>by
  have:(i+1)*sz<=n*sz:=Dt _ hi;rw[D9]at this;omega
 refine .slice _ n cap sz f _ hcap hmax (λ_=>⟨_,rfl,rfl,λj hj=>by simpa using hI j hj,λj hj=>by simpa using hcell j hj⟩) (by simp) (λj hj=>(hc j (by omega)).1) (λi hi=>?_) (λi c hi hc'=>?_)
 ·rw[hf i hi];have:(i+1)*sz<=n*sz:=Dt _ hi;rw[D9]at this
  simp;omega
 ·grind
theorem Q0{α:Type}(d:α)(z:List α)(len j:Nat)(hj:j<len*z.length):((List.replicate len z).flatten).getD j d=z.getD (j % z.length) d:=by
 induction len generalizing j with
 | zero=>omega
 | succ n ih=>
  rw[List.replicate_succ,List.flatten_cons]
  by_cases h:j<z.length
  ·rw[List.getD,Vy h,Nat.mod_eq_of_lt h];rfl
  ·rw[List.getD,BL (by omega)];rw[D9]at hj;have:=ih (j-z.length) (by omega);rw[List.getD]at this;rw[this,<- Nat.mod_eq_sub_mod (by omega)]
theorem Sa{vz:Array Value}{z:List AV}(h:CellsOK I σ.own θ w vz z)(len sz:Nat)(hs:z.length=sz)(h1:1<=sz) :
  CellsOK I σ.own θ w ((Array.range (len*sz)).map (vz[· % vz.size]!)) ((List.replicate len z).flatten):=by
 have hzl:((List.replicate len z).flatten).length=len*sz:=by simp[hs]
 have hv:vz.size=sz:=by rw[h.size,hs]
 have hget:∀ j,j<len*sz->((Array.range _).map (vz[· % vz.size]!)).getD j undef=vz.getD (j % sz) undef:=λj hj=>by
  have hm:j % sz<vz.size:=by rw[hv];exact Nat.mod_lt _ (by omega)
  rw[hv];rw[Nb,Array.getElem?_map,Array.getElem?_range,if_pos hj];simp[ hm]
 refine⟨by simp[hs],λj hj=>?_,λj hj=>?_⟩<;>rw[hzl]at hj<;>rw[hget j hj]<;>have hm:j % sz<z.length:=by rw[hs];exact Nat.mod_lt _ (by omega)
 ·exact h.one _ hm
 ·rw[Q0 _ _ _ _ (by rw[hs];exact hj),hs];exact h.rep _ hm
theorem Qx(place:Nat->Option (Nat×Nat)):∀(m:List (Nat×AV)) (cs cs':List AV),Tc place cs m=some cs'->cs'.length=cs.length
 | [],cs,cs',h=>by simp only[Tc,Af]at h;rw[h]
 | (i,x)::m,cs,cs',h=>by
  simp only[Tc]at h
  split at h
  ·rename_i off size xs _ _
   cases h1:(Nat.beq xs.length size&&Nat.ble (off+xs.length) cs.length) with
   | false=>simp[h1]at h
   | true=>
    simp only[h1]at h;rw[Qx _ m _ _ h];simp only[A6]at h1;have:=G6 h1.2
    simp;omega
  ·simp at h
theorem HL(h:Rel Γ σ I θ a w)(hd:∀ d,o.dst=some d->d<Γ.n){t:TypeId}{len:Nat}{parts:Array (Nat×Operand)}(ho:o.op = .buildSlice t len parts){is:List Nat}{vs:List AV}
  (hp:Oq I σ.own θ w (parts.toList.map λp=>(p.1,a.eval p.2)) (is.zip vs)) {e:Eff} (he:S7 P t len is vs=some e):e.wo=[]/\C3 P Γ σ o a w e.v []:=by
 unfold S7 at he
 split at he
 ·rename_i el hu
  split at he
  ·rename_i z hz
   cases hb:(Bj P el&&Nat.beq z.length (A0 P el)&&Nat.ble 1 (A0 P el)&&Nat.ble (len*A0 P el) 16777216) with
   | false=>simp[hb]at he
   | true=>
    simp only[hb,Ae]at he;simp only[A6]at hb;obtain⟨⟨⟨hT,hzl⟩,h1⟩,hmax⟩:=hb;have hzl:=B2 hzl;have h1:=G6 h1;have hmax:=G6 hmax
    split at he
    ·rename_i cs hfill
     simp only[Eff.pure,Af]at he;subst he;obtain⟨i,v,hi,hv,hone,rfl⟩:=Km hz;have hcells:=Sa (Fs (I:=I) (σ:=σ) (θ:=θ) (w:=w) hone) len (A0 P el) hzl h1;obtain⟨vs',hfi,hok⟩:=Qy _ hp hcells hfill;have hlen:=Qx _ _ _ _ hfill
     have hzl' :=by simpa using hzl
     have hcl:cs.length=len*A0 P el:=by rw[hlen];simp[hzl']
     have k:=Wh (own:=σ.own) h.chg.rel h.chg.valid vs' el
     have hlm:len<=maxLen:=by
      have:len*1<=len*A0 P el:=Nat.mul_le_mul_left _ h1;unfold maxLen;omega
     have hval:∀ j,j<cs.length->(vs'.getD j undef).oneCell'=true/\RepV _ _ (vs'.getD j undef) ((cs.getD j .any).strip):=λj hj=>
      ⟨hok.one j hj,((hok.rep j hj).chg k).strip⟩
     have hvs:vs'.size=len*A0 P el:=by rw[hok.size,hcl]
     have hrun:(execOp a.eval o).run P w = .ok (.value (.slice (some ⟨w.heap.size,0,none⟩) len len)) (w.alloc (.cells vs' el)):=by
      have e2:(parts.map λx=>(x.1,a.eval x.2)).toList=parts.toList.map λp=>(p.1,a.eval p.2):=by simp
      have hm2:¬ (len*A0 P el>2 ^ 24):=by omega
      by_cases h0:len*A0 P el=0
      ·have e3:(Array.range (len*A0 P el)).map (v.cells[· % v.cells.size]!)=(Array.range (len*A0 P el)).map ((#[]:Array Value)[· % (#[]:Array Value).size]!):=by
        rw[h0];simp
       rw[e3]at hfi;simp only[execOp,ho,Instr.buildSlice,C2,Dv,Ds hu,Bg hT,if_neg hm2,if_pos h0,En,e2,hfi];simp[newRow]
      ·simp only[execOp,ho,Instr.buildSlice,C2,Dv,Ds hu,Bg hT,if_neg hm2,if_neg h0,Jw hi hv,En,e2,hfi];simp[newRow]
     refine⟨rfl,F5 h hd hrun k ?_⟩;refine .exact _ _ _ _ (US (vs:=vs') (cs:=AV.stripAll cs) (λj hj=>?_) (by rw[A7];exact hcl) (zzL7 _) hlm (λj hj=>.inr ⟨rfl,by rw[hvs];exact hj⟩) (λj hj=>?_) (λi hi=>IK _ _ _ _ hi))
     ·rw[A7]at hj;rw[Dl];exact hval j hj
     ·simp_all
    ·simp at he
  ·simp at he
 ·simp at he
end
section
variable {P:Program} {Γ:G0} {σ:Sto} {I:Nat->Nat->Prop} {θ:Nat->Option (Nat×Nat)} {a:Act} {w:World} {o:Oper}
theorem Qf{ad:Option Addr}{n cap sz sz' l h m:Nat}{f:Nat->List AV}(hx:RepV I w (.slice ad n cap) (.slice sz n f .none))(hlh:l<=h)(hn:h<=n)(hm:m<=cap)(hhm:h<=m)(hsz:sz=sz'\/n=0) :
  RepV I w (.slice (if m=l then ad else ad.map (·.add (l*sz'))) (h-l) (m-l)) (.slice sz (h-l) (λi=>f (l+i)) .none):=by
 obtain⟨_,ad',cap',us,he,hcap,hmax,hz,hn',h1,hl,hr⟩:=hx.slice_inv;obtain⟨rfl,_,rfl⟩:=he
 have hpos:∀ j,j<(h-l)*sz->l*sz+j<n*sz:=λj hj=>by
  have:h*sz<=n*sz:=Dt _ hn;rw[Nat.sub_mul]at hj;omega
 refine .slice _ _ _ sz _ _ (by omega) (by omega) (λhp=>?_) (λhnn=>?_) (λj hj=>h1 _ (hpos j hj)) (λi hi=>hl _ (by omega)) (λi c hi hc=>?_)
 ·obtain rfl:sz=sz':=by grind
  obtain⟨b,rfl,hs,hI,hc⟩:=hz (by omega);rw[if_neg (by omega)];refine⟨b.add _,rfl,?_,λj hj=>?_,λj hj=>?_⟩
  ·rw[Ik hs]
  ·rw[Ik hs];have:=hI _ (hpos j hj)
   simpa [Sl] using this
  ·rw[Ik hs];have:=hc _ (hpos j hj)
   simpa [Sl] using this
 ·by_cases hc:m=l
  ·omega
  ·simp_all
 ·grind
theorem Nn{t el:TypeId}{x:Operand}{lo hi mx:Option Operand}(ho:o.op = .slice t x lo hi mx)(hu:P.underlying t=some (.slice el))(hT:Bj P el=true){ad:Option Addr}{n cap l h m:Nat}
  (hx:a.eval x = .slice ad n cap) (hb:(Instr.sliceBounds true n cap (lo.map a.eval) (hi.map a.eval) (mx.map a.eval)).run P w = .ok (l,h,m) w) :
  (execOp a.eval o).run P w = .ok (.value (.slice (if m=l then ad else ad.map (·.add (l*A0 P el))) (h-l) (m-l))) w:=by
 simp only[execOp,ho,hx,Instr.sliceAt,Instr.slice,C2,Ds hu,Dv,hb,Bg hT,En]
inductive RepL (I:Nat->Nat->Prop) (own:Nat->Option Own) (θ:Nat->Option (Nat×Nat)) (w:World):List Value->List AV->Prop
 | nil:RepL I own θ w [] []
 | cons {v:Value} {x:AV} {l:List Value} {m:List AV} (h:Rep I own θ w v x) (t:RepL I own θ w l m):RepL I own θ w (v::l) (x::m)
theorem RepL.one{v:Value}{vs:List AV}(h:RepL I σ.own θ w [v] vs):∃ x,vs=[x]/\Rep I σ.own θ w v x:=by
 cases h with|cons h t=>cases t;exact⟨_,rfl,h⟩
theorem RepL.two{v u:Value}{vs:List AV}(h:RepL I σ.own θ w [v,u] vs):∃ x y,vs=[x,y]/\Rep I σ.own θ w v x/\Rep I σ.own θ w u y:=by
 cases h with|cons h t=>obtain⟨y,rfl,hy⟩:=t.one;exact⟨_,_,rfl,h,hy⟩
theorem RepL.three{v u t:Value}{vs:List AV}(h:RepL I σ.own θ w [v,u,t] vs):∃ x y z,vs=[x,y,z]/\Rep I σ.own θ w v x/\Rep I σ.own θ w u y/\Rep I σ.own θ w t z:=by
 cases h with|cons h t=>obtain⟨y,z,rfl,hy,hz⟩:=t.two;exact⟨_,_,_,rfl,h,hy,hz⟩
theorem Zv{sz s n:Nat}(h:(Nat.beq sz s || Nat.beq n 0)=true):sz=s\/n=0:=by
 simp_all
theorem MX(h:Rel Γ σ I θ a w)(hd:∀ d,o.dst=some d->d<Γ.n){t:TypeId}{x:Operand}{lo hi mx:Option Operand}(ho:o.op = .slice t x lo hi mx)(hu:P.underlying t=some .string){e:Eff}{vs:List AV}
  (hvs:RepL I σ.own θ w ([a.eval x]++(lo.map a.eval).toList++(hi.map a.eval).toList++(mx.map a.eval).toList) vs) (he:Yx lo.isSome hi.isSome mx.isSome vs=some e) (hob:∀ p∈e.ob,p) :
  e.wo=[]/\C3 P Γ σ o a w e.v []:=by
 unfold Yx at he;have key:∀(b:ByteArray) (l h':Nat),a.eval x = .string b->(Instr.sliceBounds false b.size b.size (lo.map a.eval) (hi.map a.eval) none).run P w = .ok (l,h',b.size) w->mx=none->
   C3 P Γ σ o a w (.str (((Bo b).drop l).take (h'-l))) []:=λb l h' hx hb hm=>by
  subst hm;refine Ak h hd (v:=.string (b.extract l h')) ?_ (by rw[<- DP];exact .val _ _ (.str _));simp[execOp,ho,hx,Instr.sliceAt,Instr.slice,C2,Ds hu,Dv,hb,En]
 split at he
 ·rename_i s h1 h2 h3
  cases lo<;>simp at h1
  cases hi<;>simp at h2
  cases mx<;>simp at h3
  obtain⟨y,e1,hy⟩:=hvs.one
  obtain rfl:_=y:=by simpa using e1
  simp only[Eff.pure,Af]at he;subst he;obtain⟨b,hex,rfl⟩:=hy.str_inv;have:=key b 0 b.size hex (by simp[Instr.sliceBounds]) rfl;rw[Lr,Ue,List.take_of_length_le (by rw[Dk];exact zzL7 _)]at this;exact⟨rfl,this⟩
 ·rename_i s k l h1 h2 h3
  cases lo<;>simp at h1
  cases hi<;>simp at h2
  cases mx<;>simp at h3
  obtain⟨y,z,e1,hy,hz⟩:=hvs.two;simp only[Cl,Bf]at e1;obtain⟨rfl,rfl⟩:=e1;simp only[Eff.pure,Af]at he;subst he;obtain⟨hb0,hb1⟩:=hob _ (zzL15.2 rfl);obtain⟨b,hex,rfl⟩:=hy.str_inv;rw[Dk]at hb1;have hl:=hz.int_inv;have:=key b l.toNat b.size hex (by simp[Instr.sliceBounds,hl,Jo (P:=P) w k l b.size _ hb0 (by omega)]) rfl;rw[List.take_of_length_le (by rw[Wz,Dk];exact zzL7 _)]at this;exact⟨rfl,this⟩
 ·rename_i s k l h1 h2 h3
  cases lo<;>simp at h1
  cases hi<;>simp at h2
  cases mx<;>simp at h3
  obtain⟨y,z,e1,hy,hz⟩:=hvs.two;simp only[Cl,Bf]at e1;obtain⟨rfl,rfl⟩:=e1;simp only[Eff.pure,Af]at he;subst he;obtain⟨hb0,hb1⟩:=hob _ (zzL15.2 rfl);obtain⟨b,hex,rfl⟩:=hy.str_inv;rw[Dk]at hb1;have hl:=hz.int_inv;have:=key b 0 l.toNat hex (by simp[Instr.sliceBounds,hl,Jo (P:=P) w k l b.size _ hb0 (by omega)]) rfl;rw[Lr,Ue]at this;exact⟨rfl,this⟩
 ·rename_i s k l k' m h1 h2 h3
  cases lo<;>simp at h1
  cases hi<;>simp at h2
  cases mx<;>simp at h3
  obtain⟨y,z,u,e1,hy,hz,hu'⟩:=hvs.three;simp only[Cl,Bf]at e1;obtain⟨rfl,rfl,rfl⟩:=e1;simp only[Eff.pure,Af]at he;subst he;obtain⟨hb0,hb2,hb1⟩:=hob _ (zzL15.2 rfl);obtain⟨b,hex,rfl⟩:=hy.str_inv;rw[Dk]at hb1;have hl:=hz.int_inv;have hm:=hu'.int_inv;exact⟨rfl,key b l.toNat m.toNat hex (by simp[Instr.sliceBounds,hl,hm,Jo (P:=P) w k' m b.size _ (by omega) (by omega),Jo (P:=P) w k l m.toNat _ hb0 (by omega)]) rfl⟩
 ·simp at he
theorem eC(h:Rel Γ σ I θ a w)(hd:∀ d,o.dst=some d->d<Γ.n){t:TypeId}{x:Operand}{lo hi mx:Option Operand}(ho:o.op = .slice t x lo hi mx){e:Eff}{vs:List AV}
  (hvs:RepL I σ.own θ w ([a.eval x]++(lo.map a.eval).toList++(hi.map a.eval).toList++(mx.map a.eval).toList) vs) (he:TB P t lo.isSome hi.isSome mx.isSome vs=some e) (hob:∀ p∈e.ob,p) :
  e.wo=[]/\C3 P Γ σ o a w e.v []:=by
 unfold TB at he
 split at he
 ·rename_i el hu
  cases hT:Bj P el with
  | false=>simp[hT]at he
  | true=>
   simp only[hT,Ae]at he
   split at he
   ·rename_i sz n f tag h1 h2 h3
    cases lo<;>simp at h1
    cases hi<;>simp at h2
    cases mx<;>simp at h3
    obtain⟨y,e1,hy⟩:=hvs.one
    obtain rfl:_=y:=by simpa using e1
    cases hsz:(Nat.beq sz (A0 P el) || Nat.beq n 0) with
    | false=>simp[hsz]at he
    | true=>
     simp only[hsz,Ae,Eff.pure,Af]at he;subst he;have hv:=hy.slice_val;obtain⟨_,ad,cap,us,hex,hcap,hmax,_⟩:=hv.slice_inv;rw[hex]at hv;have hr:=Nn (P:=P) (a:=a) (w:=w) (l:=0) (h:=n) (m:=cap) ho hu hT hex (by simp[Instr.sliceBounds]);have hc:=Qf hv (l:=0) (h:=n) (m:=cap) (sz':=A0 P el) (by omega) (by omega) (by omega) hcap (Zv hsz);simp only[Ue,Fp]at hc hr;exact⟨rfl,Ak h hd hr (.val _ _ hc)⟩
   ·rename_i sz n f tag k l h1 h2 h3
    cases lo<;>simp at h1
    cases hi<;>simp at h2
    cases mx<;>simp at h3
    obtain⟨y,z,e1,hy,hz⟩:=hvs.two;simp only[Cl,Bf]at e1;obtain⟨rfl,rfl⟩:=e1
    cases hsz:(Nat.beq sz (A0 P el) || Nat.beq n 0) with
    | false=>simp[hsz]at he
    | true=>
     simp only[hsz,Ae,Eff.pure,Af]at he;subst he;obtain⟨hb0,hb1⟩:=hob _ (zzL15.2 rfl);have hv:=hy.slice_val;obtain⟨_,ad,cap,us,hex,hcap,hmax,_⟩:=hv.slice_inv;rw[hex]at hv;have hl:=hz.int_inv;have hr:=Nn (P:=P) (a:=a) (w:=w) (l:=l.toNat) (h:=n) (m:=cap) ho hu hT hex (by simp[Instr.sliceBounds,hl,Jo (P:=P) w k l n _ hb0 (by omega)]);have hc:=Qf hv (l:=l.toNat) (h:=n) (m:=cap) (sz':=A0 P el) (by omega) (by omega) (by omega) hcap (Zv hsz);exact⟨rfl,Ak h hd hr (.val _ _ hc)⟩
   ·rename_i sz n f tag k l h1 h2 h3
    cases lo<;>simp at h1
    cases hi<;>simp at h2
    cases mx<;>simp at h3
    obtain⟨y,z,e1,hy,hz⟩:=hvs.two;simp only[Cl,Bf]at e1;obtain⟨rfl,rfl⟩:=e1
    cases hsz:(Nat.beq sz (A0 P el) || Nat.beq n 0) with
    | false=>simp[hsz]at he
    | true=>
     simp only[hsz,Ae,Eff.pure,Af]at he;subst he;obtain⟨hb0,hb1⟩:=hob _ (zzL15.2 rfl);have hv:=hy.slice_val;obtain⟨_,ad,cap,us,hex,hcap,hmax,_⟩:=hv.slice_inv;rw[hex]at hv;have hl:=hz.int_inv;have hr:=Nn (P:=P) (a:=a) (w:=w) (l:=0) (h:=l.toNat) (m:=cap) ho hu hT hex (by simp[Instr.sliceBounds,hl,Jo (P:=P) w k l cap _ hb0 (by omega)]);have hc:=Qf hv (l:=0) (h:=l.toNat) (m:=cap) (sz':=A0 P el) (by omega) (by omega) (by omega) (by omega) (Zv hsz);simp only[Ue,Fp]at hc hr;exact⟨rfl,Ak h hd hr (.val _ _ hc)⟩
   ·rename_i sz n f tag k l k' m h1 h2 h3
    cases lo<;>simp at h1
    cases hi<;>simp at h2
    cases mx<;>simp at h3
    obtain⟨y,z,u,e1,hy,hz,hu'⟩:=hvs.three;simp only[Cl,Bf]at e1;obtain⟨rfl,rfl,rfl⟩:=e1
    cases hsz:(Nat.beq sz (A0 P el) || Nat.beq n 0) with
    | false=>simp[hsz]at he
    | true=>
     simp only[hsz,Ae,Eff.pure,Af]at he;subst he;obtain⟨hb0,rfl,hb1⟩:=hob _ (zzL15.2 rfl);have hv:=hy.slice_val;obtain⟨_,ad,cap,us,hex,hcap,hmax,_⟩:=hv.slice_inv;rw[hex]at hv;have hl:=hz.int_inv;have hm:=hu'.int_inv;have hr:=Nn (P:=P) (a:=a) (w:=w) (l:=0) (h:=l.toNat) (m:=l.toNat) ho hu hT hex (by simp[Instr.sliceBounds,hl,hm,Jo (P:=P) w k' l cap _ hb0 (by omega),Jo (P:=P) w k l l.toNat _ hb0 (by omega)]);have hc:=Qf hv (l:=0) (h:=l.toNat) (m:=l.toNat) (sz':=A0 P el) (by omega) (by omega) (by omega) (by omega) (Zv hsz);simp only[Ue,Fp]at hc hr;exact⟨rfl,Ak h hd hr (.exact _ _ _ _ hc)⟩
   ·rename_i sz n f tag k l k' m k'' q h1 h2 h3
    cases lo<;>simp at h1
    cases hi<;>simp at h2
    cases mx<;>simp at h3
    cases hvs with|cons hy hvs'=>
    obtain⟨z,u,v,e1,hz,hu',hq⟩:=hvs'.three;simp only[Cl,Bf]at e1;obtain⟨rfl,rfl,rfl⟩:=e1
    cases hsz:(Nat.beq sz (A0 P el) || Nat.beq n 0) with
    | false=>simp[hsz]at he
    | true=>
     simp only[hsz,Ae,Eff.pure,Af]at he;subst he;obtain⟨hb0,hb2,rfl,hb1⟩:=hob _ (zzL15.2 rfl);have hv:=hy.slice_val;obtain⟨_,ad,cap,us,hex,hcap,hmax,_⟩:=hv.slice_inv;rw[hex]at hv;have hl:=hz.int_inv;have hh:=hu'.int_inv;have hm:=hq.int_inv;have hr:=Nn (P:=P) (a:=a) (w:=w) (l:=l.toNat) (h:=m.toNat) (m:=m.toNat) ho hu hT hex (by simp[Instr.sliceBounds,hl,hh,hm,Jo (P:=P) w k'' m cap _ (by omega) (by omega),Jo (P:=P) w k' m m.toNat _ (by omega) (by omega),Jo (P:=P) w k l m.toNat _ (by omega) (by omega)]);have hc:=Qf hv (l:=l.toNat) (h:=m.toNat) (m:=m.toNat) (sz':=A0 P el) (by omega) (by omega) (by omega) (by omega) (Zv hsz);exact⟨rfl,Ak h hd hr (.exact _ _ _ _ hc)⟩
   ·rename_i sz n f tag k l k' m h1 h2 h3
    cases lo<;>simp at h1
    cases hi<;>simp at h2
    cases mx<;>simp at h3
    obtain⟨y,z,u,e1,hy,hz,hu'⟩:=hvs.three;simp only[Cl,Bf]at e1;obtain⟨rfl,rfl,rfl⟩:=e1
    cases hsz:(Nat.beq sz (A0 P el) || Nat.beq n 0) with
    | false=>simp[hsz]at he
    | true=>
     simp only[hsz,Ae,Eff.pure,Af]at he;subst he;obtain⟨hb0,hb2,hb1⟩:=hob _ (zzL15.2 rfl);have hv:=hy.slice_val;obtain⟨_,ad,cap,us,hex,hcap,hmax,_⟩:=hv.slice_inv;rw[hex]at hv;have hl:=hz.int_inv;have hm:=hu'.int_inv;have hr:=Nn (P:=P) (a:=a) (w:=w) (l:=l.toNat) (h:=m.toNat) (m:=cap) ho hu hT hex (by simp[Instr.sliceBounds,hl,hm,Jo (P:=P) w k' m cap _ (by omega) (by omega),Jo (P:=P) w k l m.toNat _ hb0 (by omega)]);have hc:=Qf hv (l:=l.toNat) (h:=m.toNat) (m:=cap) (sz':=A0 P el) (by omega) (by omega) (by omega) (by omega) (Zv hsz);exact⟨rfl,Ak h hd hr (.val _ _ hc)⟩
   ·simp at he
 ·rename_i hu
  exact MX h hd ho hu hvs he hob
 ·simp at he
end
section
variable {P:Program} {Γ:G0} {σ:Sto} {I:Nat->Nat->Prop} {θ:Nat->Option (Nat×Nat)} {a:Act} {w:World} {o:Oper}
theorem CM{own:Nat->Option Own}(hrel:G1 I own θ w){nm s m':Nat}{e:TypeId}{t':Option (Nat×Nat)}{I':Nat->Nat->Prop}{w':World}
  (hI:∀ b o,I b o->I' b o) (hcell:∀ b o,I b o->w'.cell? ⟨b,o,none⟩=w.cell? ⟨b,o,none⟩)
  (hle:own nm=none\/∃ m,own nm=some (.tok s e m)/\m<=m'/\(m=m'->t'=θ nm))
  (hblk:∀ b,b<w.heap.size->(∀ c,own nm≠none->θ nm≠some (b,c))->w'.heap[b]?=w.heap[b]?)
  (hnew:∀ b o,I' b o->I b o\/∃ c,t'=some (b,c)) (hval:∀ b o,I' b o->∃ u,w'.cell? ⟨b,o,none⟩=some u)
  (hos:w'.os=w.os) (htape:w'.tape=w.tape) (hout:w'.output=w.output) (hgrow:w.heap.size<=w'.heap.size)
  (htok:∀ g c,t'=some (g,c)->∃ cur fz,w'.heap[g]?=some (.cells cur e (0,fz))/\m'<=c/\c<=maxLen/\cur.size=c*s/\fz<=m'*s/\∀ j,I' g j->j<m'*s)
  (hloc:∀ g c,t'=some (g,c)->w.heap.size<=g\/(own nm≠none/\∃ c',θ nm=some (g,c'))) (h8:t'=none->e=Vw->m'=0) (hdrw:w.drawn<=w'.drawn:=by first|exact zzL7 _|exact Nat.le_succ _) :
  Chg own θ I w (An own nm (.tok s e m')) (thUp θ nm t') I' w':=by
 have hle':∀ nm' o,own nm'=some o->∃ o',An own nm (.tok s e m') nm'=some o'/\OwnLe o (θ nm') o' (thUp θ nm t' nm'):=λnm' o ho=>by
  by_cases hne:nm'=nm
  ·subst hne;rcases hle with h|⟨m,h,h1,h2⟩
   ·rw[h]at ho;cases ho
   ·rw[h]at ho;obtain rfl:=OI ho;exact⟨.tok s e m',by simp[An],rfl,rfl,h1,λhe=>by simpa [thUp] using h2 he⟩
  ·exact⟨o,by simp[An,hne,ho],by simp[thUp,hne,OwnLe.refl]⟩
 have hmono:∀ v x,Rep I own θ w v x->Rep I' (An own nm (.tok s e m')) (thUp θ nm t') w' v x:=λv x h=>h.mono hI hcell hle';have hother:∀ nm' g c,nm'≠nm->own nm'≠none->θ nm'=some (g,c)->∀ c',own nm≠none->θ nm≠some (g,c'):=λnm' g c hne ho hg c' ho' hg'=>hne (hrel.inj nm' nm g c c' ho ho' hg hg');refine{ imm:=hI,cell:=hcell,le:=hle',rel:=?_,valid:=hval,os:=hos,tape:=htape,output:=hout,drawn:=λ_=>hdrw,grow:=hgrow,frame:=λb hb hn=>hblk b hb (λc ho hg=>hn nm c ho hg),new:=λnm' g c ho hg=>?_,immNew:=λb o h=>?_ }
 ·refine Hw hrel (·=nm) hmono (λnm' hne=>⟨by simp[An,hne],by simp[thUp,hne]⟩) (λnm' g c hne ho hg=>⟨hblk g (Hg hrel ho hg) (hother nm' g c hne ho hg),λj hj=>?_⟩) ?_ ?_ ?_ (λ_ _ h h'=>h.trans h'.symm) (htok8:=by
   rintro nm' sz' m rfl ho hn;simp only[An,Hj,Af,Own.tok.injEq]at ho;obtain⟨rfl,rfl,rfl⟩:=ho
   exact h8 (by simpa [thUp] using hn) rfl)
  ·rcases hnew g j hj with h|⟨c',hc'⟩
   ·exact h
   ·rcases hloc g c' hc' with h|⟨h1,c'',h2⟩
    ·have:=Hg hrel ho hg;omega
    ·grind
  ·rintro nm' e' cells rfl ho;simp[An]at ho
  ·rintro nm' sz' e' m rfl ho g c hg;simp only[An,Hj,Af,Own.tok.injEq]at ho;obtain⟨rfl,rfl,rfl⟩:=ho;exact htok g c (by simpa [thUp] using hg)
  ·rintro nm' nm'' g c c' rfl hne _ ho' hg hg';rcases hloc g c (by simpa [thUp] using hg) with h|⟨h1,c'',h2⟩
   ·have:=Hg hrel ho' hg';omega
   ·exact hother nm'' g c' hne ho' hg' c'' h1 h2
 ·by_cases hne:nm'=nm
  ·subst hne;rcases hloc g c (by simpa [thUp] using hg) with h|⟨h1,c',h2⟩
   ·exact .inl h
   ·exact .inr ⟨nm',c',h1,h2⟩
  ·exact .inr ⟨nm',c,by simpa [An,hne] using ho,by simpa [thUp,hne] using hg⟩
 ·grind
theorem Ks{n i:Nat}(f g:Nat->List AV)(h:i<n):Jq n f g i=f i:=by
 have:Nat.blt i n=true:=by simp_all
 simp[Jq,this]
theorem Ou{n i:Nat}(f g:Nat->List AV)(h:n<=i):Jq n f g i=g (i-n):=by
 have:Nat.blt i n=false:=by cases hb:Nat.blt i n with|false=>rfl|true=>rw[Gz]at hb;omega
 simp[Jq,this]
theorem Wg{v:Value}{sz n:Nat}{f:Nat->List AV}(h:RepV I w v (.slice sz n f .none)):∃(ad:Option Addr) (cap:Nat) (cs:List Value),v = .slice ad n cap/\n<=cap/\cap<=maxLen/\(ad=none->cap=0)/\cs.length=n*sz /\
  (∀ u∈cs,u.oneCell'=true)/\(∀ i,i<n->(f i).length=sz)/\(∀ i c,i<n->c<sz->RepV I w (cs.getD (i*sz+c) undef) ((f i).getD c .any)) /\
  (0<n->∃ b,ad=some b/\b.spot=none/\(∀ j,j<n*sz->I b.block (b.off+j))/\(∀ j u,cs[j]?=some u->w.cell? (b.add j)=some u)):=by
 obtain⟨_,ad,cap,us,rfl,hcap,hmax,hz,hn,h1,hl,hr⟩:=h.slice_inv;refine⟨ad,cap,(List.range (n*sz)).map us,rfl,hcap,hmax,hn,by simp,λu hu=>?_,hl,λi c hi hc=>?_,λhp=>?_⟩
 ·grind
 ·have:(i+1)*sz<=n*sz:=Dt _ hi;rw[D9]at this;rw[Uv _ _ _ (by omega)];exact hr i c hi hc
 ·obtain⟨b,rfl,hs,hI,hc⟩:=hz hp;refine⟨b,rfl,hs,hI,λj u hu=>?_⟩;rw[GP]at hu
  by_cases hj:j<n*sz
  ·rw[List.getElem?_range hj]at hu;simp only[W1,Af]at hu;subst hu;rw[Ik hs];exact hc j hj
  ·grind
theorem QX{s n n':Nat}{f f':Nat->List AV}{cs cs':List Value}{I':Nat->Nat->Prop}{w':World}(hmono:∀ v x,RepV I w v x->RepV I' w' v x)
  (hl:cs.length=n*s) (hl':cs'.length=n'*s) (h1:∀ u∈cs,u.oneCell'=true) (h1':∀ u∈cs',u.oneCell'=true) (hf:∀ i,i<n->(f i).length=s) (hf':∀ i,i<n'->(f' i).length=s)
  (hr:∀ i c,i<n->c<s->RepV I w (cs.getD (i*s+c) undef) ((f i).getD c .any)) (hr':∀ i c,i<n'->c<s->RepV I w (cs'.getD (i*s+c) undef) ((f' i).getD c .any))
  {g cap:Nat} (hcap:n+n'<=cap) (hmax:cap<=maxLen) (hI:∀ j,j<(n+n')*s->I' g j) (hcell:∀ j,j<(n+n')*s->w'.cell? ⟨g,j,none⟩=some ((cs++cs').getD j undef)) :
  RepV I' w' (.slice (some ⟨g,0,none⟩) (n+n') cap) (.slice s (n+n') (Jq n f f') .none):=by
 refine .slice _ _ _ s _ (λj=>(cs++cs').getD j undef) hcap hmax (λ_=>⟨_,rfl,rfl,λj hj=>by simpa using hI j hj,λj hj=>by simpa using hcell j hj⟩) (by simp) (λj hj=>?_) (λi hi=>?_) (λi c hi hc=>?_)
 ·grind
 ·by_cases hlt:i<n
  ·rw[Ks _ _ hlt];exact hf i hlt
  ·rw[Ou _ _ (by omega)];exact hf' _ (by omega)
 ·apply hmono
  by_cases hlt:i<n
  ·rw[Ks _ _ hlt];have:(i+1)*s<=n*s:=Dt _ hlt
   have e:(cs++cs').getD (i*s+c) undef=cs.getD (i*s+c) undef:=by
    grind
   rw[e];exact hr i c hlt hc
  ·rw[Ou _ _ (by omega)];have h2:n*s<=i*s:=Dt _ (by omega)
   have e:(cs++cs').getD (i*s+c) undef=cs'.getD ((i-n)*s+c) undef:=by
    rw[List.getD,BL (by omega),hl]
    have:i*s+c-n*s=(i-n)*s+c:=by rw[Nat.sub_mul];omega
    rw[this];rfl
   rw[e];exact hr' _ c (by omega) hc
theorem Tx{v:Value}{sz s n:Nat}{f:Nat->List AV}(h:RepV I w v (.slice sz n f .none))(hs:sz=s\/n=0):RepV I w v (.slice s n f .none):=by
 rcases hs with rfl|rfl
 ·exact h
 ·obtain⟨_,ad,cap,us,rfl,hcap,hmax,hz,hn,h1,hl,hr⟩:=h.slice_inv;exact .slice ad 0 cap s f us hcap hmax (λh=>by omega) hn (λj hj=>by omega) (λi hi=>by omega) (λi c hi=>by omega)
def KY(P:Program)(ts:Array TypeId)(ty e:TypeId)(i:TypeInfo)(z:Value)(w:World)(ad:Option Addr)(n cap:Nat)(x:Value)(n':Nat)(cs cs':List Value):Prop:=
 (n'=0->(Builtin.append_ ts ty #[.slice ad n cap,x]).run P w = .ok (.slice ad n cap) w) /\
 (0<n'->n+n'<=cap->∀ g cur fz,ad=some ⟨g,0,none⟩->w.heap[g]?=some (.cells cur e (0,fz))->fz<=n*i.size->n*i.size+cs'.length<=cur.size->
  (Builtin.append_ ts ty #[.slice ad n cap,x]).run P w = .ok (.slice ad (n+n') cap) (w.setRow g (cur.toList.take (n*i.size)++cs'++cur.toList.drop (n*i.size+cs'.length)).toArray)) /\
 (0<n'->cap<n+n'->∃(zs:Array Value) (nc:Nat),n+n'<=nc/\nc<=maxLen/\zs.size=(nc-(n+n'))*z.cells.size /\
  (Builtin.append_ ts ty #[.slice ad n cap,x]).run P w = .ok (.slice (some ⟨w.heap.size,0,none⟩) (n+n') nc) (w.drew.alloc (.cells (cs.toArray++cs'.toArray++zs) e)))
theorem T3{t e:TypeId}{i:TypeInfo}{z:Value}(ty:TypeId)(ht:P.underlying t=some (.slice e))(hi:P.info? e=some i)(hz:i.zero=some z){ad bd:Option Addr}{n cap n' cap':Nat}{cs cs':List Value}
  (hl:cs.length=n*i.size) (hl':cs'.length=n'*i.size) (hcap:n<=cap) (hnn:ad=none->cap=0) (h1':∀ u∈cs',u.oneCell'=true)
  (hc:0<n->∃ b,ad=some b/\∀ j u,cs[j]?=some u->w.cell? (b.add j)=some u) (hc':0<n'->∃ b,bd=some b/\∀ j u,cs'[j]?=some u->w.cell? (b.add j)=some u)
  (hroom:(n+n')<=room) (hby:i.bytes<=128):KY P #[t,t] ty e i z w ad n cap (.slice bd n' cap') n' cs cs':=by
 unfold room at hroom;refine⟨λh0=>?_,λhp hr g cur fz had hh hfz hfit=>?_,λhp hg=>?_⟩
 ·subst h0
  cases bd<;>cases ad<;>simp[Builtin.append_,Ds ht,sizeOf,typeInfo,hi,Builtin.lenOf,hcap,Builtin.firstCells,loadCells,loadCellsFrom,storeCells]
 ·obtain⟨b,rfl,hcb⟩:=hc' hp;subst had;have hf:=run_firstCells_some (P:=P) w i.size n' b n' cap' cs' hl' hcb;have hst:=run_storeCells_atF P g (n*i.size) e (0,fz) cs' 0 cur w hh (by simpa using hfz) (by simpa using hfit) h1';simp only[Ls]at hst;simp[Builtin.append_,Ds ht,sizeOf,typeInfo,hi,Builtin.lenOf,hr,hf,Kn,hst]
 ·obtain⟨b,rfl,hcb⟩:=hc' hp
  have hby':(n+n')*i.bytes<=140737488355328:=by
   have:(n+n')*i.bytes<=1099511627776*128:=Nat.mul_le_mul hroom hby
   omega
  have hm:n+n'<=maxLen:=by unfold maxLen;omega
  refine⟨Builtin.zeroCells z.cells (grownCap w (n+n') cap e-(n+n')),grownCap w (n+n') cap e,grownCap_ge w _ _ e,grownCap_le_maxLen w _ _ e hm,size_zeroCells _ _,?_⟩
  cases ad with
  | none=>
   have h0:=hnn rfl;subst h0
   have hn0:n=0:=by omega
   subst hn0;have hcs:cs=[]:=NI (by simpa using hl);subst hcs;have:=run_append_nil (P:=P) w t ty e i z ht hi hz b n' cap' cs' hl' hcb hp (by omega) (by have:=hby';simp only[Fp]at this;omega)
   simpa using this
  | some ad=>
   have hco:∀ j u,cs[j]?=some u->w.cell? (ad.add j)=some u:=by
    grind
   exact run_append_grow (P:=P) w t ty e i z ht hi hz ad n cap cs hl hco b n' cap' cs' hl' hcb hg (by omega) (growslice_fits hg hby')
theorem S1{t u e:TypeId}{i:TypeInfo}(ty:TypeId)(ht:P.underlying t=some (.slice e))(hu:P.underlying u=some .string)(hi:P.info? e=some i)(hz:i.zero=some (.int .u8 0))(hs1:i.size=1){ad:Option Addr}{n cap:Nat}{cs:List Value}(s:ByteArray)
  (hl:cs.length=n*i.size) (hcap:n<=cap) (hnn:ad=none->cap=0)
  (hc:0<n->∃ b,ad=some b/\∀ j u,cs[j]?=some u->w.cell? (b.add j)=some u)
  (hroom:(n+s.size)<=room) (hby:i.bytes<=128):KY P #[t,u] ty e i (.int .u8 0) w ad n cap (.string s) s.size cs (Lib.strCells s):=by
 unfold room at hroom;refine⟨λh0=>?_,λhp hr g cur fz had hh hfz hfit=>?_,λhp hg=>?_⟩
 ·have hs:s=⟨#[]⟩:=by
   apply ByteArray.ext
   exact Array.eq_empty_of_size_eq_zero h0
  subst hs;have e0:(⟨#[]⟩:ByteArray).size=0:=rfl
  cases ad<;>simp[Builtin.append_,Ds ht,Ds hu,sizeOf,typeInfo,hi,Builtin.lenOf,hcap,Builtin.firstCells,storeCells,e0]
 ·subst had;rw[hs1,R3]at hfz ⊢;rw[hs1,R3,Lib.strCells_length]at hfit;rw[Lib.strCells_length];exact Lib.run_append_room_stringF (P:=P) w t u ty e i ht hu hi hs1 g n cap cur (0,fz) hh hfz s hr hfit
 ·have hby':(n+s.size)*i.bytes<=140737488355328:=by
   have:(n+s.size)*i.bytes<=1099511627776*128:=Nat.mul_le_mul hroom hby
   omega
  have hm:n+s.size<=maxLen:=by unfold maxLen;omega
  refine⟨Builtin.zeroCells (Value.int IntKind.u8 0).cells (grownCap w (n+s.size) cap e-(n+s.size)),grownCap w (n+s.size) cap e,grownCap_ge w _ _ e,grownCap_le_maxLen w _ _ e hm,size_zeroCells _ _,?_⟩
  have ec:(Lib.strCells s).toArray=s.data.map (λb=>Value.int .u8 b.toNat):=by
   apply Nf
   simp[Lib.strCells]
  cases ad with
  | none=>
   have h0:=hnn rfl;subst h0
   have hn0:n=0:=by omega
   subst hn0;have hcs:cs=[]:=NI (by simpa using hl);subst hcs;have:=run_append_nil_string (P:=P) w t u ty e i (.int .u8 0) ht hu hi hz s hp (by omega) (by have:=hby';simp only[Fp]at this;omega);rw[ec]
   simpa using this
  | some ad=>
   have hco:∀ j u,cs[j]?=some u->w.cell? (ad.add j)=some u:=by
    grind
   have:=Lib.run_append_grow_string (P:=P) w t u ty e i (.int .u8 0) ht hu hi hz ad n cap cs hl hco s hg (by omega) (growslice_fits hg hby');exact this
end
section
variable {P:Program} {Γ:G0} {σ:Sto} {I:Nat->Nat->Prop} {θ:Nat->Option (Nat×Nat)} {a:Act} {w:World} {o:Oper}
theorem O2(l:List Value)(j:Nat):(l.toArray).getD j undef=l.getD j undef:=by simp_all
theorem Rep.own_inv{own:Nat->Option Own}{v:Value}{sz n nm s0:Nat}{e0:TypeId}{f:Nat->List AV}(h:Rep I own θ w v (.slice sz n f (.own nm)))(ho:own nm=some (.tok s0 e0 n)) :
  ∃ ad cap,v = .slice ad n cap/\(match θ nm with|none=>cap=n|some (g,c)=>ad=some ⟨g,0,none⟩/\cap=c):=by
 cases h with
 | val v x h =>  cases h
 | own nm sz e m' ad n cap f ho' hm hv' h'=>
  grind
theorem Rep.exact_inv{own:Nat->Option Own}{v:Value}{sz n:Nat}{f:Nat->List AV}(h:Rep I own θ w v (.slice sz n f .exact)):∃ ad,v = .slice ad n n:=by
 cases h with
 | val v x h =>  cases h
 | exact ad n sz f h=>exact⟨ad,rfl⟩
theorem Ov(h:Rel Γ σ I θ a w){t e:TypeId}{i:TypeInfo}{z:Value}(ty:TypeId)(ht:P.underlying t=some (.slice e))(hi:P.info? e=some i)(hz:i.zero=some z)(hzs:z.cells.size=i.size)(hby:i.bytes<=128)
  {ts:Array TypeId} {n n':Nat} {f f':Nat->List AV} {vs vx:Value} (hvs:RepV I w vs (.slice i.size n f .none)) {cs':List Value} (hl':cs'.length=n'*i.size) (h1':∀ u∈cs',u.oneCell'=true)
  (hf':∀ k,k<n'->(f' k).length=i.size) (hr':∀ k c,k<n'->c<i.size->RepV I w (cs'.getD (k*i.size+c) undef) ((f' k).getD c .any)) (hroom:n+n'<=room)
  (hrun:∀(ad:Option Addr) (cap:Nat) (cs:List Value),cs.length=n*i.size->n<=cap->(ad=none->cap=0)->(0<n->∃ b,ad=some b/\∀ j u,cs[j]?=some u->w.cell? (b.add j)=some u)->KY P ts ty e i z w ad n cap vx n' cs cs') (nm:Nat) (h8:σ.own nm=none->e=Vw->n=0\/0<n')
  (hcase:(σ.own nm=none/\∃ ad,vs = .slice ad n n) \/
   (σ.own nm=some (.tok i.size e n)/\∃ ad cap,vs = .slice ad n cap/\(match θ nm with|none=>cap=n|some (g,c)=>ad=some ⟨g,0,none⟩/\cap=c))) :
  ∃ v w' I' θ',(Builtin.append_ ts ty #[vs,vx]).run P w = .ok v w'/\Chg σ.own θ I w (An σ.own nm (.tok i.size e (n+n'))) θ' I' w' /\
   Rep I' (An σ.own nm (.tok i.size e (n+n'))) θ' w' v (.slice i.size (n+n') (Jq n f f') (.own nm)):=by
 obtain⟨ad,cap,cs,rfl,hcap,hmax,hnn,hl,h1,hf,hr,hc⟩:=Wg hvs;have hrun:=hrun ad cap cs hl hcap hnn (λhp=>by obtain⟨b,h1,_,_,h4⟩:=hc hp;exact⟨b,h1,h4⟩);obtain⟨r0,r1,r2⟩:=hrun;have hrel:=h.chg.rel;have hval:=h.chg.valid
 have hmaxr:n+n'<=maxLen:=by unfold room at hroom;unfold maxLen;omega
 by_cases hz':n'=0
 ·subst hz';rcases hcase with⟨hno,ad',hv⟩|⟨hown,ad',cap1,hv,hθ⟩
  ·simp only[GO,true_and]at hv;obtain⟨rfl,hcn⟩:=hv;subst hcn;refine⟨_,w,I,thUp θ nm none,r0 rfl,CM hrel (λ_ _ h=>h) (λ_ _ _=>rfl) (.inl hno) (λ_ _ _=>rfl) (λ_ _ h=>.inl h) hval rfl rfl rfl (zzL7 _) (by simp) (by simp) (λ_ he=>by rcases h8 hno he with h|h<;>omega),?_⟩;refine .own nm _ e (cap+0) ad cap cap _ (by simp[An]) (zzL7 _) (λ_=>by simp[thUp]) ?_;refine .slice ad cap cap _ _ (λj=>cs.getD j undef) hcap hmax (λhp=>?_) hnn (λj hj=>?_) (λi hi=>by rw[Ks _ _ hi];exact hf i hi) (λi c hi hc''=>by rw[Ks _ _ hi];exact hr i c hi hc'')
   ·obtain⟨b,h1,h2,h3,h4⟩:=hc hp;refine⟨b,h1,h2,h3,λj hj=>?_⟩;have:=h4 j _ (Us undef (by omega));rwa[Ik h2]at this
   ·exact h1 _ (by rw[List.getD,Sj (by omega)];exact Yo _)
  ·simp only[GO,true_and]at hv;obtain⟨rfl,rfl⟩:=hv
   have hown':An σ.own nm (.tok i.size e (n+0))=σ.own:=by
    funext k
    by_cases hk:k=nm
    ·subst hk;simp[An,hown]
    ·simp[An,hk]
   rw[hown'];refine⟨_,w,I,θ,r0 rfl,.refl hrel hval,.own nm _ e n ad n cap _ hown (zzL7 _) (λ_=>hθ) ?_⟩;refine .slice ad n cap _ _ (λj=>cs.getD j undef) hcap hmax (λhp=>?_) hnn (λj hj=>?_) (λi hi=>by rw[Ks _ _ hi];exact hf i hi) (λi c hi hc''=>by rw[Ks _ _ hi];exact hr i c hi hc'')
   ·obtain⟨b,h1,h2,h3,h4⟩:=hc hp;refine⟨b,h1,h2,h3,λj hj=>?_⟩;have:=h4 j _ (Us undef (by omega));rwa[Ik h2]at this
   ·exact h1 _ (by rw[List.getD,Sj (by omega)];exact Yo _)
 ·have hp:0<n':=Nat.pos_of_ne_zero hz'
  have hlen:(cs++cs').length=(n+n')*i.size:=by rw[Em,hl,hl',D9]
  by_cases hg:cap<n+n'
  ·obtain⟨zs,nc,hnc,hnc',hzsz,hrun⟩:=r2 hp hg;have hheap:(w.drew.alloc (.cells (cs.toArray++cs'.toArray++zs) e)).heap[w.heap.size]?=some (.cells (cs.toArray++cs'.toArray++zs) e (0,0)):=Vz w.drew _
   have hcellI:∀ b o,I b o->(w.drew.alloc (.cells (cs.toArray++cs'.toArray++zs) e)).cell? ⟨b,o,none⟩=w.cell? ⟨b,o,none⟩:=λb o hi=>by
    obtain⟨u,hu⟩:=hval b o hi;exact Ho (w:=w.drew) _ (by simpa using hu)
   have hcellN:∀ j,j<(n+n')*i.size->(w.drew.alloc (.cells (cs.toArray++cs'.toArray++zs) e)).cell? ⟨w.heap.size,j,none⟩=some ((cs++cs').getD j undef):=λj hj=>by
    rw[Ko _ _ _ _ e (0,0) hheap];rw[Array.getElem?_append_left (by simp at hlen ⊢;omega)]
    have:cs.toArray++cs'.toArray=(cs++cs').toArray:=by simp
    rw[this]
    simpa using Us undef (by omega:j<(cs++cs').length)
   have hmono:∀ v x,RepV I w v x->RepV (IX I w.heap.size ((n+n')*i.size)) (w.drew.alloc (.cells (cs.toArray++cs'.toArray++zs) e)) v x:=λv x h=>h.mono (λ_ _ h=>.inl h) hcellI
   have hnI:∀ j,¬ I w.heap.size j:=λj hj=>by obtain⟨u,hu⟩:=hval _ _ hj;exact V4 _ (L8 hu)
   refine⟨_,_,IX I w.heap.size ((n+n')*i.size),thUp θ nm (some (w.heap.size,nc)),hrun,CM hrel (λ_ _ h=>.inl h) hcellI ?_ (λb hb _=>BX w.drew _ hb) (λb o h=>?_) (λb o h=>?_) rfl rfl rfl (by simp) (λg c hgc=>?_) (λg c hgc=>?_) (by simp),?_⟩
   ·rcases hcase with⟨hno,_⟩|⟨hown,_⟩
    ·exact .inl hno
    ·exact .inr ⟨n,hown,by omega,λhe=>by omega⟩
   ·rcases h with h|⟨rfl,_⟩
    ·exact .inl h
    ·exact .inr ⟨nc,rfl⟩
   ·rcases h with h|⟨rfl,hlt⟩
    ·obtain⟨u,hu⟩:=hval b o h;exact⟨u,(hcellI b o h).trans hu⟩
    ·exact⟨_,hcellN o hlt⟩
   ·simp only[Af,Ii]at hgc;obtain⟨rfl,rfl⟩:=hgc;refine⟨_,0,hheap,hnc,hnc',?_,Li _,λj hj=>?_⟩
    ·simp only[Array.size_append,NL,hl,hl',hzsz,hzs,<- D9]
     congr 1
     omega
    ·rcases hj with hj|⟨_,hj⟩
     ·exact(hnI j hj).elim
     ·exact hj
   ·simp only[Af,Ii]at hgc;exact .inl (by omega)
   ·exact .own nm _ e (n+n') _ _ nc _ (by simp[An]) (zzL7 _) (λ_=>by simp[thUp])
     (QX hmono hl hl' h1 h1' hf hf' hr hr' hnc hnc' (λj hj=>.inr ⟨rfl,hj⟩) hcellN)
  ·have hroom':n+n'<=cap:=by omega
   rcases hcase with⟨hno,ad',hv⟩|⟨hown,ad',cap1,hv,hθ⟩
   ·simp only[GO,true_and]at hv;omega
   ·simp only[GO,true_and]at hv;obtain⟨rfl,rfl⟩:=hv
    cases hθ':θ nm with
    | none=>rw[hθ']at hθ;simp only at hθ;omega
    | some gc=>
     obtain⟨g,c⟩:=gc;rw[hθ']at hθ;simp only at hθ;obtain⟨rfl,rfl⟩:=hθ;obtain⟨cur,fz,hh,hnc,hcm,hcs,hfz,hIg⟩:=hrel.tok nm _ e n hown g cap hθ'
     have hfit:n*i.size+cs'.length<=cur.size:=by rw[hl',hcs,<- D9];exact Dt _ hroom'
     have hrun:=r1 hp hroom' g cur fz rfl hh hfz hfit;have hother:∀ b,b≠g->(w.setRow g (cur.toList.take (n*i.size)++cs'++cur.toList.drop (n*i.size+cs'.length)).toArray).heap[b]?=w.heap[b]?:=λb hb=>AD w g b _ hb;have hnew:=AE w g cur (cur.toList.take (n*i.size)++cs'++cur.toList.drop (n*i.size+cs'.length)).toArray e _ hh
     have hget:∀ j,(cur.toList.take (n*i.size)++cs'++cur.toList.drop (n*i.size+cs'.length)).getD j undef=if n*i.size<=j/\j<n*i.size+cs'.length then cs'.getD (j-n*i.size) undef else cur.toList.getD j undef:=λj=>
      F2 undef _ _ _ _ (by simpa using hfit)
     have hsize:(cur.toList.take (n*i.size)++cs'++cur.toList.drop (n*i.size+cs'.length)).length=cur.size:=by
      simp only[Em,Wy,Wz,Z0];omega
     have hcellI:∀ b o,I b o->(w.setRow g (cur.toList.take (n*i.size)++cs'++cur.toList.drop (n*i.size+cs'.length)).toArray).cell? ⟨b,o,none⟩=w.cell? ⟨b,o,none⟩:=λb o hi=>by
      by_cases hb:b=g
      ·subst hb;have hlt:=hIg o hi;obtain⟨u,hu⟩:=hval _ _ hi;rw[Ko _ _ _ _ e (0,fz) hnew,Ko _ _ _ _ e (0,fz) hh];rw[Ko _ _ _ _ e (0,fz) hh]at hu
       have ho:o<cur.size:=by
        rcases zzL136 o cur.size with h'|h'
        ·exact h'
        ·rw[Array.getElem?_eq_none h']at hu;cases hu
       have hgo:=hget o;rw[if_neg (by omega)]at hgo;rw[List.getElem?_toArray,Us undef (by omega),hgo];simp[List.getD,ho]
      ·exact BM (a:=⟨b,o,none⟩) (hother b hb)
     have hcellN:∀ j,j<(n+n')*i.size->(w.setRow g (cur.toList.take (n*i.size)++cs'++cur.toList.drop (n*i.size+cs'.length)).toArray).cell? ⟨g,j,none⟩=some ((cs++cs').getD j undef):=λj hj=>by
      by_cases hlt:j<n*i.size
      ·have hn0:0<n:=by
        rcases zzL65 n with h0|h0
        ·rw[h0]at hlt;omega
        ·exact h0
       obtain⟨b,hb,_,hI4,h4⟩:=hc hn0;simp only[Af]at hb;subst hb;have hIj:=hI4 j hlt;simp only[Fp]at hIj;rw[hcellI g j hIj];have:=h4 j _ (Us undef (by omega));rw[Kn,Fp]at this;rw[this,List.getD,List.getD,Vy (by omega)]
      ·rw[Ko _ _ _ _ e (0,fz) hnew];have hgo:=hget j;rw[D9]at hj;rw[if_pos ⟨by omega,by omega⟩]at hgo;rw[List.getElem?_toArray,Us undef (by omega),hgo];simp only[List.getD];rw[BL (by omega),hl]
     have hmono:∀ v x,RepV I w v x->RepV (IX I g ((n+n')*i.size)) (w.setRow g (cur.toList.take (n*i.size)++cs'++cur.toList.drop (n*i.size+cs'.length)).toArray) v x:=λv x h=>h.mono (λ_ _ h=>.inl h) hcellI;have hnn1:n*i.size<=(n+n')*i.size:=Dt _ (by omega)
     refine⟨_,_,IX I g ((n+n')*i.size),thUp θ nm (some (g,cap)),hrun,CM hrel (λ_ _ h=>.inl h) hcellI (.inr ⟨n,hown,by omega,λhe=>by omega⟩)
      (λb hb hn=>hother b (by rintro rfl;exact hn cap (by simp[hown]) hθ')) (λb o h=>?_) (λb o h=>?_) rfl rfl rfl (by simp) (λg' c' hgc=>?_) (λg' c' hgc=>?_) (by simp),?_⟩
     ·rcases h with h|⟨rfl,_⟩
      ·exact .inl h
      ·exact .inr ⟨cap,rfl⟩
     ·rcases h with h|⟨rfl,hlt⟩
      ·obtain⟨u,hu⟩:=hval b o h;exact⟨u,(hcellI b o h).trans hu⟩
      ·exact⟨_,hcellN o hlt⟩
     ·simp only[Af,Ii]at hgc;obtain⟨rfl,rfl⟩:=hgc;refine⟨_,fz,hnew,hroom',hcm,by simpa [hcs] using hsize,Oj hfz hnn1,λj hj=>?_⟩;rcases hj with hj|⟨_,hj⟩
      ·have:=hIg j hj;omega
      ·exact hj
     ·simp only[Af,Ii]at hgc;obtain⟨rfl,rfl⟩:=hgc;exact .inr ⟨by simp[hown],cap,hθ'⟩
     ·exact .own nm _ e (n+n') _ _ cap _ (by simp[An]) (zzL7 _) (λ_=>by simp[thUp])
       (QX hmono hl hl' h1 h1' hf hf' hr hr' hroom' hcm (λj hj=>.inr ⟨rfl,hj⟩) hcellN)
theorem ar(h:Rel Γ σ I θ a w)(hd:∀ d,o.dst=some d->d<Γ.n){xs:Array Operand}{x y:Operand}{ts:Array TypeId}(ho:o.op = .call { callee:=.builtin .append,args:=xs,argTypes:=ts })(hxs:xs.toList=[x,y])
  {vs:List AV} {es:List (Option Own)} (hvs:RepL I σ.own θ w [a.eval x,a.eval y] vs) (hes:es=(Ce o vs).map σ.own) {d:Nat} (hdst:o.dst=some d) {e:Eff} (he:Um P d ts.toList vs es=some e) (hob:∀ p∈e.ob,p) :
  C3 P Γ σ o a w e.v e.wo:=by
 obtain⟨u,v,rfl,hu,hv⟩:=hvs.two;unfold Um at he
 split at he
 ·rename_i _ _ _ t t' sz n f tag sz' n' f' tag' eo hts hvv
  obtain⟨rfl,rfl⟩:=hvv
  split at he
  ·rename_i el hun
   dsimp only at he
   generalize hcond:(Nat.beq t t'&&Bj P el&&Nat.ble 1 _&&Nat.ble _ 128&&((P.info? el).bind _).isSome&&(Nat.beq sz _ || Nat.beq n 0)&&(Nat.beq sz' _ || Nat.beq n' 0)
    && Nat.beq _ _)=cond0 at he
   cases cond0 with
   | false=>simp at he
   | true=>
    simp only[Ae]at he;simp only[A6]at hcond;obtain⟨⟨⟨⟨⟨⟨⟨htt,hT⟩,hs1⟩,hby⟩,hzz⟩,hsz⟩,hsz'⟩,hzs⟩:=hcond;obtain rfl:=B2 htt;obtain⟨i,dd,hi,_,hsi⟩:=Tg hT;obtain⟨z,hz⟩:=zzL76.1 hzz;simp only[hi]at hz;simp only[hi,   hz]at hby hzs
    have hby:=G6 hby
    have hzq:=B2 hzs;rw[hsi]at hzq;have hV:=Tx hu.slice_val (Zv hsz);have hV':=Tx hv.slice_val (Zv hsz');rw[hsi]at hV hV' he
    obtain rfl:ts = #[t,t]:=by grind
    obtain rfl:xs = #[x,y]:=by grind
    obtain⟨bd,cap',cs',hve,hcap',hmax',hnn',hl',h1',hf',hr',hc'⟩:=Wg hV'
    have hruns:=λhroom ad cap (cs:List _) (hl:cs.length=n*i.size) hcap hnn hc=>
     T3  (w:=w)  (cap:=cap)  (cap':=cap') (ad:=ad) (bd:=bd) o.type hun hi hz hl hl' hcap hnn h1' hc (λhp=>by grind) hroom hby
    rw[<- hve]at hruns
    have hexec:∀ v w',(Builtin.append_ #[t,t] o.type #[a.eval x,a.eval y]).run P w = .ok v w'->(execOp a.eval o).run P w = .ok (.value v) w':=λv w' hr=>by
     simp[execOp,ho,resolve,invoke,builtin,hr]
    split at he
    ·rename_i nm sz0 e0 m
     cases hc0:(Nat.beq sz0 i.size&&Nat.beq e0 el) with
     | false=>simp[hc0]at he
     | true=>
      simp only[hc0,Ae,Af]at he;subst he;simp only[A6]at hc0;obtain rfl:=B2 hc0.1;obtain rfl:=B2 hc0.2;have hmn:m=n:=hob _ (by simp);have hroom:n+n'<=room:=hob _ (by simp);subst hmn
      have hown :=by
       simpa [Ce,ho] using hes.symm
      have hcase:=hu.own_inv hown;obtain⟨v',w',I',θ',hr,hk,hrep⟩:=Ov  h _ hun hi hz hzq hby hV hl' h1' hf' hr' hroom (hruns hroom) nm (λhn=>by grind) (.inr ⟨hown,hcase⟩);exact F5 h hd (hexec _ _ hr) (by rw[Bk];exact hk) (by rw[Bk];exact hrep)
    ·simp only[Af]at he;subst he;have hroom:n+n'<=room:=hob _ (by simp)
     have hown :=by
      simpa [Ce,ho,hdst] using hes.symm
     have hcase:=hu.exact_inv;obtain⟨v',w',I',θ',hr,hk,hrep⟩:=Ov  h _ hun hi hz hzq hby hV hl' h1' hf' hr' hroom (hruns hroom) d (λ_=>hob _ (by simp)) (.inl ⟨hown,hcase⟩);exact F5 h hd (hexec _ _ hr) (by rw[Bk];exact hk) (by rw[Bk];exact hrep)
    ·simp at he
  ·simp at he
 ·simp at he
end
section
variable {P:Program} {Γ:G0} {σ:Sto} {I:Nat->Nat->Prop} {θ:Nat->Option (Nat×Nat)} {a:Act} {w:World} {o:Oper}
theorem LN(h:Rel Γ σ I θ a w){nm sz m n i j:Nat}{e:TypeId}{f:Nat->List AV}{v:Value}(hown:σ.own nm=some (.arr sz e m f))(hx:Rep I σ.own θ w v (.vpt nm n i j))(hn:n=m) :
  ∃ g c cur,v = .pointer (some ⟨g,i*sz+j,none⟩)/\θ nm=some (g,c)/\w.heap[g]?=some (.cells cur e (0,0))/\i<m/\m<=c/\c<=maxLen/\cur.size=c*sz/\(∀ i,i<m->(f i).length=sz) /\
   (∀ i j,i<m->j<sz->(cur.getD (i*sz+j) undef).oneCell'=true/\Rep I σ.own θ w (cur.getD (i*sz+j) undef) ((f i).getD j .any))/\∀ j,¬ I g j:=by
 obtain⟨sz',e',m',f',ad,rfl,ho,hm,hi,hv⟩:=hx.vpt_inv;rw[hown]at ho;obtain⟨rfl,rfl,rfl,rfl⟩:=ho;obtain⟨g,c,hg,rfl⟩:=hv hn;obtain⟨cur,q1,q2,q3,q4,q5,q6,q7⟩:=(h.chg.rel.arr nm _ _ _ _ hown).2 g c hg
 grind
theorem pos_lt{i j m c sz:Nat}(hi:i<m)(hj:j<sz)(hc:m<=c):i*sz+j<c*sz:=by
 have:(i+1)*sz<=c*sz:=Dt _ (by omega)
 grind
theorem Pb(h:Rel Γ σ I θ a w)(hd:∀ d,o.dst=some d->d<Γ.n){t:TypeId}{x:Operand}(ho:o.op = .load t x)(ht:Bj P t=true){nm n i j sz m:Nat}{e:TypeId}{f:Nat->List AV}
  (hx:Rep I σ.own θ w (a.eval x) (.vpt nm n i j)) (hown:σ.own nm=some (.arr sz e m f)) (hn:n=m) :
  (Dp P t=true->j+A0 P t<=sz->C3 P Γ σ o a w (.agg (((f i).drop j).take (A0 P t))) []) /\
  (Dp P t=false->j<sz->C3 P Γ σ o a w ((f i).getD j .any) []):=by
 obtain⟨g,c,cur,he,hg,hh,hi,hmc,hcm,hsz,hf,hr,hI⟩:=LN h hown hx hn
 have hcell:∀ k,k<sz->w.cell? ⟨g,i*sz+k,none⟩=some (cur.getD (i*sz+k) undef):=λk hk=>by
  rw[Ko w g _ cur e (0,0) hh]
  grind [Il,pos_lt]
 refine⟨λhagg hle=>?_,λhagg hlt=>?_⟩
 ·have hrun:(loadVar t ⟨g,i*sz+j,none⟩).run P w = .ok (.agg ((List.range (A0 P t)).map λk=>cur.getD (i*sz+(j+k)) undef).toArray) w:=
   H6 ht hagg _ _ (λk hk=>by grind [Kn])
  refine Ak h hd (v:=.agg ((List.range (A0 P t)).map λk=>cur.getD (i*sz+(j+k)) undef).toArray) ?_ ?_
  ·simp only[execOp,ho,he,Instr.loadAt,Instr.sureAddr,C2,En,Dv,hrun]
  ·refine .agg _ _ (by grind) (λk hk=>?_) (λk hk=>?_)
   ·grind [Iz]
   grind [Iz]
 ·have hrun:=H7 (P:=P) ht hagg _ _ (hcell j hlt);refine Ak h hd  ?_ (hr i j hi hlt).2;simp only[execOp,ho,he,Instr.loadAt,Instr.sureAddr,C2,En,Dv,hrun]
theorem Zn(h:Rel Γ σ I θ a w)(hd:∀ d,o.dst=some d->d<Γ.n){s:TypeId}{x:Operand}{k:Nat}(ho:o.op = .fieldAddr s x k){fields:Array Field}{fd:Field}
  (hs:P.underlying s=some (.struct fields)) (hf:fields[k]?=some fd) (ht:Bj P fd.type=true) (h1:1<=A0 P fd.type) {nm n i j:Nat} (hx:Rep I σ.own θ w (a.eval x) (.vpt nm n i j)) :
  C3 P Γ σ o a w (.vpt nm n i (j+fd.offset)) []:=by
 obtain⟨sz',e',m',f',ad,he,ho',hm,hi,hv⟩:=hx.vpt_inv;refine Ak h hd (v:=.pointer (some (ad.add fd.offset))) ?_ (.vpt nm sz' e' m' f' n i _ _ ho' hm hi (λhn=>?_))
 ·simp_all [Oc,execOp,Instr.fieldAt,Ds,Instr.sureAddr]
 grind [Kn]
theorem MU(h:Rel Γ σ I θ a w)(hd:∀ d,o.dst=some d->d<Γ.n){t e:TypeId}{x i:Operand}(ho:o.op = .indexAddr t x i)(hu:P.underlying t=some (.slice e))(ht:Bj P e=true)
  {nm n:Nat} {k:IntKind} {j:Int} (hx:Rep I σ.own θ w (a.eval x) (.vsl nm n)) (hi:Rep I σ.own θ w (a.eval i) (.int k j)) (hb:Bv j n) (hs:∃ sz e' m f,σ.own nm=some (.arr sz e' m f)/\sz=A0 P e) :
  C3 P Γ σ o a w (.vpt nm n j.toNat 0) []:=by
 obtain⟨hb0,hb1⟩:=hb;obtain⟨sz,e',m,f,ad,cap,he,ho',hm,hcap,hmax,hn,hv⟩:=hx.vsl_inv;obtain⟨sz2,e2,m2,f2,ho2,hsz2⟩:=hs;have hi':=hi.int_inv
 have hne:ad≠none:=λh=>by grind
 obtain⟨b,rfl⟩:=Option.ne_none_iff_exists'.1 hne;refine Ak h hd (v:=.pointer (some (b.add (j.toNat*A0 P e)))) ?_ (.vpt nm _ e' m f n _ _ _ ho' hm (by omega) (λhnm=>?_))
 ·simp[execOp,ho,he,hi',Instr.indexAt,asIntOf,Ds hu,hb0,hb1,Bg ht]
 ·cases hθ:θ nm with
  | none=>
   have:=(h.chg.rel.arr nm _ _ _ _ ho').1 hθ;omega
  | some gc=>
   grind [Kn]
theorem I9{own:Nat->Option Own}(hrel:G1 I own θ w)(hval:∀ b o,I b o->∃ u,w.cell? ⟨b,o,none⟩=some u){nm s m':Nat}{e:TypeId}{f':Nat->List AV}{t':Option (Nat×Nat)}{w':World}
  (hcell:∀ b o,I b o->w'.cell? ⟨b,o,none⟩=w.cell? ⟨b,o,none⟩)
  (hle:own nm=none\/∃ m f,own nm=some (.arr s e m f)/\m<=m'/\(m=m'->t'=θ nm))
  (hblk:∀ b,b<w.heap.size->(∀ c,own nm≠none->θ nm≠some (b,c))->w'.heap[b]?=w.heap[b]?)
  (hos:w'.os=w.os) (htape:w'.tape=w.tape) (hout:w'.output=w.output) (hgrow:w.heap.size<=w'.heap.size)
  (hnone:t'=none->m'=0)
  (harr:∀ g c,t'=some (g,c)->∃ cur,w'.heap[g]?=some (.cells cur e (0,0))/\m'<=c/\c<=maxLen/\cur.size=c*s/\(∀ i,i<m'->(f' i).length=s) /\
   (∀ i j,i<m'->j<s->(cur.getD (i*s+j) undef).oneCell'=true/\((∀ v x,Rep I own θ w v x->Rep I (An own nm (.arr s e m' f')) (thUp θ nm t') w' v x)->Rep I (An own nm (.arr s e m' f')) (thUp θ nm t') w' (cur.getD (i*s+j) undef) ((f' i).getD j .any)))/\∀ j,¬ I g j)
  (hloc:∀ g c,t'=some (g,c)->w.heap.size<=g\/(own nm≠none/\∃ c',θ nm=some (g,c'))) (hdrw:w.drawn<=w'.drawn:=by first|exact zzL7 _|exact Nat.le_succ _) :
  Chg own θ I w (An own nm (.arr s e m' f')) (thUp θ nm t') I w':=by
 have hle':∀ nm' o,own nm'=some o->∃ o',An own nm (.arr s e m' f') nm'=some o'/\OwnLe o (θ nm') o' (thUp θ nm t' nm'):=λnm' o ho=>by
  by_cases hne:nm'=nm
  ·subst hne;rcases hle with h|⟨m,f,h,h1,h2⟩
   ·grind
   ·rw[h]at ho;obtain rfl:=OI ho;exact⟨.arr s e m' f',by simp[An],rfl,rfl,h1,λhe=>by grind [thUp]⟩
  grind [thUp,An,OwnLe.refl]
 have hmono:∀ v x,Rep I own θ w v x->Rep I (An own nm (.arr s e m' f')) (thUp θ nm t') w' v x:=λv x h=>h.mono (λ_ _ h=>h) hcell hle';have hother:∀ nm' g c,nm'≠nm->own nm'≠none->θ nm'=some (g,c)->∀ c',own nm≠none->θ nm≠some (g,c'):=λnm' g c hne ho hg c' ho' hg'=>hne (hrel.inj nm' nm g c c' ho ho' hg hg');refine{ imm:=λ_ _ h=>h,cell:=hcell,le:=hle',rel:=?_,valid:=λb o hi=>?_,os:=hos,tape:=htape,output:=hout,drawn:=λ_=>hdrw,grow:=hgrow,frame:=λb hb hn=>hblk b hb (λc ho hg=>hn nm c ho hg),new:=λnm' g c ho hg=>?_,immNew:=λb o h=>.inl h }
 ·refine Hw hrel (·=nm) hmono (λnm' hne=>⟨by simp[An,hne],by simp[thUp,hne]⟩) (λnm' g c hne ho hg=>⟨hblk g (Hg hrel ho hg) (hother nm' g c hne ho hg),λj hj=>hj⟩) ?_ ?_ ?_ (λ_ _ h h'=>h.trans h'.symm) ?_
  ·grind [An]
  ·grind [An]
  ·rintro nm' nm'' g c c' rfl hne _ ho' hg hg';rcases hloc g c (by grind [thUp]) with h|⟨h1,c'',h2⟩
   ·have:=Hg hrel ho' hg';omega
   grind
  ·rintro nm' sz' e' m f rfl ho;simp only[An,Hj,Af,Own.arr.injEq]at ho;obtain⟨rfl,rfl,rfl,rfl⟩:=ho
   grind [thUp]
 ·grind
 grind [thUp,An]
theorem U5{nm:Nat}{t:Option (Nat×Nat)}(h:θ nm=t):thUp θ nm t=θ:=by
 grind [thUp]
theorem Zr(f:Nat->List AV)(i j:Nat)(cs:List AV):Ll f i j cs i=(f i).take j++cs++(f i).drop (j+cs.length):=by
 simp[Ll]
theorem Zq(f:Nat->List AV){i j k:Nat}(cs:List AV)(h:k≠i):Ll f i j cs k=f k:=by
 grind [Ll,Nat.beq,absurd,B2]
theorem X7(h:Rel Γ σ I θ a w)(hd:∀ d,o.dst=some d->d<Γ.n){t:TypeId}{x y:Operand}(ho:o.op = .store t x y)(ht:Bj P t=true){nm n i j sz m:Nat}{e:TypeId}{f:Nat->List AV}{cs:List AV}{z:AV}
  (hx:Rep I σ.own θ w (a.eval x) (.vpt nm n i j)) (hy:Rep I σ.own θ w (a.eval y) z) (hown:σ.own nm=some (.arr sz e m f)) (hn:n=m) (hc:z.cells=some cs) (hsz:cs.length=A0 P t) (hle:j+cs.length<=sz) :
  C3 P Γ σ o a w .undef [(nm,.arr sz e m (Ll f i j cs))]:=by
 obtain⟨g,c,cur,he,hg,hh,hi,hmc,hcm,hcs,hf,hr,hI⟩:=LN h hown hx hn;have hcl:=Hl hc hy;have hrel:=h.chg.rel
 have hvl:(a.eval y).cells.toList.length=cs.length:=by simp[hcl.size]
 have hfit:i*sz+j+cs.length<=cur.size:=by
  have:(i+1)*sz<=c*sz:=Dt _ (by omega);rw[D9]at this;omega
 have hst:=run_storeCells_at P g (i*sz+j) e (a.eval y).cells.toList 0 cur w hh (by grind) hcl.all;simp only[Ls]at hst
 have hrun:(execOp a.eval o).run P w = .ok .skip (w.setRow g (cur.toList.take (i*sz+j)++(a.eval y).cells.toList++cur.toList.drop (i*sz+j+(a.eval y).cells.toList.length)).toArray):=by
  have hn:¬ ((a.eval y).cells.size≠A0 P t):=by rw[hcl.size,hsz];simp
  simp only[execOp,ho,he,Instr.storeAt,Instr.sureAddr,C2,En,Dv,storeVar,Bg ht,if_neg hn,hst]
 have hother:∀ b,b≠g->(w.setRow g (cur.toList.take (i*sz+j)++(a.eval y).cells.toList++cur.toList.drop (i*sz+j+cs.length)).toArray).heap[b]?=w.heap[b]?:=λb hb=>AD w g b _ hb;have hk:=I9 (w':=w.setRow g (cur.toList.take (i*sz+j)++(a.eval y).cells.toList++cur.toList.drop (i*sz+j+cs.length)).toArray) (t':=some (g,c)) (m':=m) (f':=Ll f i j cs) hrel h.chg.valid (nm:=nm) (s:=sz) (e:=e)
  (λb k hi=>BM (a:=⟨b,k,none⟩) (hother b (by grind))) (.inr ⟨m,f,hown,zzL7 _,λ_=>hg.symm⟩)
  (λb hb hn=>hother b (by grind)) rfl rfl rfl (by simp) (by simp) (λg' c' hgc=>?_) (λg' c' hgc=>?_)
 ·rw[U5 hg]at hk;refine U0 h hd (I':=I) (θ':=θ) hrun ?_
  grind [Bk]
 ·simp only[Af,Ii]at hgc;obtain⟨rfl,rfl⟩:=hgc
  have hget:∀ k,((cur.toList.take (i*sz+j)++(a.eval y).cells.toList++cur.toList.drop (i*sz+j+cs.length)).toArray).getD k undef=if i*sz+j<=k/\k<i*sz+j+cs.length then(a.eval y).cells.getD (k-(i*sz+j)) undef else cur.getD k undef:=λk=>by
   have:=F2 undef cur.toList (a.eval y).cells.toList (i*sz+j) k (by grind);rw[hvl]at this
   have e1:∀(l:List Value),(l.toArray).getD k undef=l.getD k undef:=λl=>by simp
   rw[e1,this]
   simp
  have hfl:∀ i',i'<m->(Ll f i j cs i').length=sz:=λi' hi'=>by
   by_cases hii:i'=i
   ·subst hii;have:=hf i' hi;rw[Zr]
    grind
   grind [Zq]
  refine⟨_,AE w g cur _ e _ hh,hmc,hcm,by grind,hfl,λi' j' hi' hj'=>?_,hI⟩;rw[hget]
  by_cases hii:i'=i
  ·subst hii;rw[Zr];have hl:=hf i' hi
   by_cases hin:j<=j'/\j'<j+cs.length
   ·rw[if_pos (by omega)]
    have e1:i'*sz+j'-(i'*sz+j)=j'-j:=by omega
    rw[e1,F2 _ _ _ _ _ (by omega),if_pos hin];exact⟨hcl.one _ (by omega),λhmono=>hmono _ _ (hcl.rep _ (by omega))⟩
   ·rw[if_neg (by omega),F2 _ _ _ _ _ (by omega),if_neg hin]
    grind
  ·have hout:¬ (i*sz+j<=i'*sz+j'/\i'*sz+j'<i*sz+j+cs.length):=by
    rcases Nat.lt_or_gt_of_ne hii with hlt|hgt
    ·have:(i'+1)*sz<=i*sz:=Dt _ hlt
     grind
    ·have:(i+1)*sz<=i'*sz:=Dt _ hgt
     grind
   rw[if_neg hout,Zq f cs hii]
   grind
 grind
theorem ij(h:Rel Γ σ I θ a w)(hd:∀ d,o.dst=some d->d<Γ.n){t e:TypeId}{x y:Operand}(ho:o.op = .makeSlice t x y)(hu:P.underlying t=some (.slice e))(ht:Bj P e=true){k k':IntKind}{l c:Int}
  (hx:Rep I σ.own θ w (a.eval x) (.int k l)) (hy:Rep I σ.own θ w (a.eval y) (.int k' c)) {d:Nat} (hdst:o.dst=some d) (hn:σ.own d=none) {z:List AV} (hz:Qj P e=some z) (hs1:1<=A0 P e) (hzl:z.length=A0 P e)
  (hby:((P.info? e).map (·.bytes)).getD 1000<=128) (hb:0<=l/\l<=c/\c<=(room:Int)):C3 P Γ σ o a w (.vsl d l.toNat) [(d,.arr (A0 P e) e l.toNat (λ_=>z))]:=by
 obtain⟨i,v,hi,hv,h1,rfl⟩:=Km hz;have hzc:=Fs (I:=I) (w:=w) (σ:=σ) (θ:=θ) h1
 have hsi:A0 P e=i.size:=by simp[A0,hi]
 simp only[hi,W1,AB]at hby
 have hroom:(room:Int)=1099511627776:=rfl;rw[hroom]at hb
 have hbytes:(i.bytes:Int)*c<=281474976710656:=by
  have h1:(i.bytes:Int)*c<=128*c:=Int.mul_le_mul_of_nonneg_right (by omega) (by omega);omega
 have hr:=run_make (P:=P) w t e i v hu hi hv k k' l c hb.1 hb.2.1 hbytes (by omega)
 have hsz:v.cells.size=A0 P e:=by simpa using hzl
 have hsize:(madeCells v.cells (c.toNat*i.size)).size=c.toNat*i.size:=by simp[madeCells]
 have hget:∀ i' j',i'<l.toNat->j'<A0 P e->(madeCells v.cells (c.toNat*i.size)).getD (i'*A0 P e+j') undef=v.cells.getD j' undef:=λi' j' hi' hj'=>by
  have hlt:=pos_lt (c:=c.toNat) hi' hj' (by omega)
  have hm:(i'*A0 P e+j') % v.cells.size=j':=by rw[hsz,Pz,Nat.mul_add_mod,Nat.mod_eq_of_lt hj']
  rw[<- hsi];simp only[madeCells,Nb,Array.getElem?_map]
  grind
 have hk:=I9 (w':=w.alloc (.cells (madeCells v.cells (c.toNat*i.size)) e)) (t':=some (w.heap.size,c.toNat)) (m':=l.toNat) (f':=λ_=>v.cells.toList.map AV.ofCell) (nm:=d) (s:=A0 P e) (e:=e) h.chg.rel h.chg.valid
  (λb o hi=>by obtain⟨u,hu⟩:=h.chg.valid b o hi;exact Ho _ hu) (.inl hn) (λb hb _=>BX w _ hb) rfl rfl rfl (by simp) (by simp) (λg c' hgc=>?_) (λg c' hgc=>?_)
 ·refine F5 h hd (v:=.slice (some ⟨w.heap.size,0,none⟩) l.toNat c.toNat) ?_ (by rw[Bk];exact hk) ?_
  ·have hx':=hx.int_inv;have hy':=hy.int_inv
   grind [C2,En,Dv,execOp]
  ·rw[Bk];exact .vsl d (A0 P e) e l.toNat (λ_=>v.cells.toList.map AV.ofCell) (some ⟨w.heap.size,0,none⟩) l.toNat c.toNat (by simp[An]) (zzL7 _) (by omega) (by grind [maxLen]) (by simp) (λ_=>by simp[thUp])
 ·simp only[Af,Ii]at hgc;obtain⟨rfl,rfl⟩:=hgc;refine⟨_,Vz w _,by omega,by grind [maxLen],by grind,λ_ _=>hzl,λi' j' hi' hj'=>?_,λj hj=>?_⟩
  ·rw[hget i' j' hi' hj'];exact⟨hzc.one _ (by omega),λhmono=>hmono _ _ (hzc.rep _ (by omega))⟩
  ·obtain⟨u,hu⟩:=h.chg.valid _ _ hj;exact V4 _ (L8 hu)
 grind
theorem R9(h:Rel Γ σ I θ a w){t e:TypeId}{i:TypeInfo}{z:Value}(ty:TypeId)(ht:P.underlying t=some (.slice e))(hi:P.info? e=some i)(hz:i.zero=some z)(hzs:z.cells.size=i.size)(hby:i.bytes<=128)
  {n n':Nat} {f f':Nat->List AV} {vs vx:Value} (hvx:RepV I w vx (.slice i.size n' f' .none)) (hroom:n+n'<=room) (nm:Nat)
  (hcase:(σ.own nm=none/\n=0/\∃ ad,vs = .slice ad 0 0)\/(σ.own nm=some (.arr i.size e n f)/\Rep I σ.own θ w vs (.vsl nm n))) :
  ∃ v w' θ',(Builtin.append_ #[t,t] ty #[vs,vx]).run P w = .ok v w'/\Chg σ.own θ I w (An σ.own nm (.arr i.size e (n+n') (Jq n f f'))) θ' I w' /\
   Rep I (An σ.own nm (.arr i.size e (n+n') (Jq n f f'))) θ' w' v (.vsl nm (n+n')):=by
 have hrel:=h.chg.rel;have hval:=h.chg.valid;obtain⟨bd,cap',cs',rfl,hcap',hmax',hnn',hl',h1',hf',hr',hc'⟩:=Wg hvx;obtain⟨ad,cap,cs,rfl,hcap,hmax,hnn,hl,h1,hf,hr,hc,hold⟩:∃(ad:Option Addr) (cap:Nat) (cs:List Value),vs = .slice ad n cap/\n<=cap/\cap<=maxLen/\(ad=none->cap=0)/\cs.length=n*i.size/\(∀ u∈cs,u.oneCell'=true) /\
   (∀ k,k<n->(f k).length=i.size)/\(∀ k c,k<n->c<i.size->Rep I σ.own θ w (cs.getD (k*i.size+c) undef) ((f k).getD c .any))/\(0<n->∃ b,ad=some b/\∀ j u,cs[j]?=some u->w.cell? (b.add j)=some u) /\
   ((cap=0/\(σ.own nm=none\/(θ nm=none/\σ.own nm=some (.arr i.size e n f)))) \/
    ∃ g cur,σ.own nm=some (.arr i.size e n f)/\θ nm=some (g,cap)/\ad=some ⟨g,0,none⟩/\w.heap[g]?=some (.cells cur e (0,0))/\cur.size=cap*i.size/\cs=cur.toList.take (n*i.size)/\∀ j,¬ I g j):=by
  rcases hcase with⟨hno,rfl,ad,rfl⟩|⟨hown,hrep⟩
  ·exact⟨ad,0,[],rfl,by omega,by simp,λ_=>rfl,by simp,by simp,λk hk=>by omega,λk c hk=>by omega,λh=>by omega,.inl ⟨rfl,.inl hno⟩⟩
  ·obtain⟨sz,e2,m,f2,ad,cap,rfl,ho,hm,hcap,hmax,hn,hv⟩:=hrep.vsl_inv;rw[hown]at ho;simp only[Af,Own.arr.injEq]at ho;obtain⟨rfl,rfl,rfl,rfl⟩:=ho;have hv:=hv rfl;obtain⟨k1,k2⟩:=hrel.arr nm _ _ _ _ hown
   cases hθ:θ nm with
   | none=>
    rw[hθ]at hv;simp only at hv;have hn0:=k1 hθ;subst hn0;exact⟨ad,cap,[],rfl,hcap,hmax,hn,by simp,by simp,λk hk=>by omega,λk c hk=>by omega,λh=>by omega,.inl ⟨hv,.inr ⟨rfl,hown⟩⟩⟩
   | some gc=>
    obtain⟨g,c⟩:=gc;rw[hθ]at hv;simp only at hv;obtain⟨rfl,rfl⟩:=hv;obtain⟨cur,q1,q2,q3,q4,q5,q6,q7⟩:=k2 g cap hθ
    have hle:n*i.size<=cur.size:=by rw[q4];exact Dt _ q2
    have hcl:(cur.toList.take (n*i.size)).length=n*i.size:=by simp;omega
    have hg:∀ j,j<n*i.size->(cur.toList.take (n*i.size)).getD j undef=cur.getD j undef:=λj hj=>by
     grind [Nb]
    refine⟨some ⟨g,0,none⟩,cap,cur.toList.take (n*i.size),rfl,hcap,hmax,(by simp),hcl,λu hu=>?_,q5,λk c hk hc=>?_,λ_=>⟨_,rfl,λj u hu=>?_⟩,.inr ⟨g,cur,hown,rfl,rfl,q1,q4,rfl,q7⟩⟩
    ·obtain⟨j,hj,rfl⟩:=List.mem_iff_getElem.1 hu;rw[hcl]at hj;have e1:=hg j hj;rw[List.getD,Sj (by omega)]at e1;simp only[AB]at e1;rw[e1]
     have hs:0<i.size:=by
      rcases zzL65 i.size with h0|h0
      ·rw[h0]at hj;omega
      ·exact h0
     have e2:j / i.size*i.size+j % i.size=j:=by rw[Pz];exact Uc j i.size
     grind [KL,Nat.mod_lt]
    ·grind [pos_lt]
    ·have hj:j<n*i.size:=by
      rcases zzL136 j (n*i.size) with h'|h'
      ·exact h'
      ·rw[List.getElem?_eq_none (by omega)]at hu;cases hu
     rw[Kn,Fp,Ko w g _ cur e (0,0) q1]
     grind
 have hrun:=T3 (P:=P) (w:=w) (n:=n) (cap:=cap) (n':=n') (cap':=cap') (ad:=ad) (bd:=bd) ty ht hi hz hl hl' hcap hnn h1' hc
  (λhp=>by grind) hroom hby
 obtain⟨r0,r1,r2⟩:=hrun
 have hmaxr:n+n'<=maxLen:=by unfold room at hroom;unfold maxLen;omega
 have happ:∀ k,k<n+n'->(Jq n f f' k).length=i.size:=λk hk=>by
  grind [Ks,Ou]
 have hlen:(cs++cs').length=(n+n')*i.size:=by rw[Em,hl,hl',D9]
 have hboth:∀ k c,k<n+n'->c<i.size->((cs++cs').getD (k*i.size+c) undef).oneCell'=true/\(∀{own':Nat->Option Own} {θ':Nat->Option (Nat×Nat)} {w':World},(∀ v x,Rep I σ.own θ w v x->Rep I own' θ' w' v x)->
   Rep I own' θ' w' ((cs++cs').getD (k*i.size+c) undef) ((Jq n f f' k).getD c .any)):=λk c hk hc=>by
  have hm:(cs++cs').getD (k*i.size+c) undef∈cs++cs':=by
   have:=pos_lt hk hc (zzL7 _);rw[List.getD,Sj (by omega)];exact Yo _
  refine⟨(zzL11.1 hm).elim (h1 _) (h1' _),λhmono=>?_⟩
  by_cases hlt:k<n
  ·rw[Ks _ _ hlt];have:=pos_lt hlt hc (zzL7 n)
   grind
  ·rw[Ou _ _ (by omega)];have h2:n*i.size<=k*i.size:=Dt _ (by omega)
   have e:(cs++cs').getD (k*i.size+c) undef=cs'.getD ((k-n)*i.size+c) undef:=by
    rw[List.getD,BL (by omega),hl,Nat.sub_mul]
    congr 2
    omega
   rw[e];exact hmono _ _ (.val _ _ (hr' (k-n) c (by omega) hc))
 by_cases hz':n'=0
 ·subst hz';rcases hold with⟨rfl,hno⟩|⟨g,cur,hown,hθ,rfl,hh,hcs,hcc,hI⟩
  ·have hn0:n=0:=by omega
   subst hn0
   have hk:=I9 (w':=w) (t':=none) (m':=0+0) (f':=Jq 0 f f') (nm:=nm) (s:=i.size) (e:=e) hrel hval (λ_ _ _=>rfl) (by
    grind) (λ_ _ _=>rfl) rfl rfl rfl (zzL7 _) (λ_=>rfl) (by simp) (by simp)
   exact⟨_,w,_,r0 rfl,hk,.vsl nm i.size e 0 (Jq 0 f f') ad 0 0 (by simp[An]) (zzL7 _) (zzL7 _) hmax hnn (λ_=>by simp[thUp])⟩
  ·have hk:=I9 (w':=w) (t':=some (g,cap)) (m':=n+0) (f':=Jq n f f') (nm:=nm) (s:=i.size) (e:=e) hrel hval (λ_ _ _=>rfl) (.inr ⟨n,f,hown,by omega,λ_=>hθ.symm⟩) (λ_ _ _=>rfl) rfl rfl rfl (zzL7 _) (by simp)
    (λg' c' hgc=>?_) (λg' c' hgc=>?_)
   ·exact⟨_,w,_,r0 rfl,hk,.vsl nm i.size e (n+0) (Jq n f f') (some ⟨g,0,none⟩) n cap (by simp[An]) (zzL7 _) hcap hmax hnn (λ_=>by simp[thUp])⟩
   ·simp only[Af,Ii]at hgc;obtain⟨rfl,rfl⟩:=hgc;refine⟨cur,hh,hcap,hmax,hcs,happ,λk c hk hc=>?_,hI⟩
    have hk':k<n:=by omega
    have:=hboth k c hk hc
    have e:(cs++cs').getD (k*i.size+c) undef=cur.getD (k*i.size+c) undef:=by
     have:=pos_lt hk' hc (zzL7 n);rw[List.getD,Vy (by omega),hcc];simp only[List.getElem?_take,this,Hj,Nb,Array.getElem?_toList]
    grind
   grind
 ·have hp:0<n':=Nat.pos_of_ne_zero hz'
  by_cases hg:cap<n+n'
  ·
   obtain⟨zs,nc,hnc,hnc',hzsz,hrun⟩:=r2 hp hg;have hheap:(w.drew.alloc (.cells (cs.toArray++cs'.toArray++zs) e)).heap[w.heap.size]?=some (.cells (cs.toArray++cs'.toArray++zs) e (0,0)):=Vz w.drew _;have hk:=I9 (w':=w.drew.alloc (.cells (cs.toArray++cs'.toArray++zs) e)) (t':=some (w.heap.size,nc)) (m':=n+n') (f':=Jq n f f') (nm:=nm) (s:=i.size) (e:=e) hrel hval
    (λb o hi=>by obtain⟨u,hu⟩:=hval b o hi;exact Ho (w:=w.drew) _ (by trivial))
    (by
     grind)
    (λb hb _=>BX w.drew _ hb) rfl rfl rfl (by simp) (by simp) (λg' c' hgc=>?_) (λg' c' hgc=>?_)
   ·exact⟨_,_,_,hrun,hk,.vsl nm i.size e (n+n') (Jq n f f') (some ⟨w.heap.size,0,none⟩) (n+n') nc (by simp[An]) (zzL7 _) hnc hnc' (by simp) (λ_=>by simp[thUp])⟩
   ·simp only[Af,Ii]at hgc;obtain⟨rfl,rfl⟩:=hgc;refine⟨_,hheap,hnc,hnc',?_,happ,λk c hk hc=>?_,λj hj=>?_⟩
    ·simp only[Array.size_append,NL,hl,hl',hzsz,hzs,<- D9]
     grind
    ·have:=hboth k c hk hc;have hlt:=pos_lt hk hc (zzL7 (n+n'))
     have e1:(cs.toArray++cs'.toArray++zs).getD (k*i.size+c) undef=(cs++cs').getD (k*i.size+c) undef:=by
      rw[Nb,Array.getElem?_append_left (by grind)]
      have:cs.toArray++cs'.toArray=(cs++cs').toArray:=by simp
      rw[this];simp[List.getD]
     grind
    ·obtain⟨u,hu⟩:=hval _ _ hj;exact V4 _ (L8 hu)
   grind
  ·
   rcases hold with⟨rfl,_⟩|⟨g,cur,hown,hθ,rfl,hh,hcs,hcc,hI⟩
   ·omega
   ·have hfit:n*i.size+cs'.length<=cur.size:=by rw[hl',hcs,<- D9];exact Dt _ (by omega)
    have hrun:=r1 hp (by omega) g cur 0 rfl hh (Li _) hfit;have hother:∀ b,b≠g->(w.setRow g (cur.toList.take (n*i.size)++cs'++cur.toList.drop (n*i.size+cs'.length)).toArray).heap[b]?=w.heap[b]?:=λb hb=>AD w g b _ hb;have hnew:=AE w g cur (cur.toList.take (n*i.size)++cs'++cur.toList.drop (n*i.size+cs'.length)).toArray e _ hh
    have hsize:(cur.toList.take (n*i.size)++cs'++cur.toList.drop (n*i.size+cs'.length)).length=cur.size:=by
     simp only[Em,Wy,Wz,Z0];omega
    have hk:=I9 (w':=w.setRow g (cur.toList.take (n*i.size)++cs'++cur.toList.drop (n*i.size+cs'.length)).toArray) (t':=some (g,cap)) (m':=n+n') (f':=Jq n f f') (nm:=nm) (s:=i.size) (e:=e) hrel hval
     (λb k hi=>BM (a:=⟨b,k,none⟩) (hother b (by grind))) (.inr ⟨n,f,hown,by omega,λhe=>by omega⟩)
     (λb hb hn=>hother b (by grind)) rfl rfl rfl (by simp) (by simp) (λg' c' hgc=>?_) (λg' c' hgc=>?_)
    ·exact⟨_,_,_,hrun,hk,.vsl nm i.size e (n+n') (Jq n f f') (some ⟨g,0,none⟩) (n+n') cap (by simp[An]) (zzL7 _) (by omega) hmax (by simp) (λ_=>by simp[thUp])⟩
    ·simp only[Af,Ii]at hgc;obtain⟨rfl,rfl⟩:=hgc;refine⟨_,hnew,by omega,hmax,by grind,happ,λk c hk hc=>?_,hI⟩;have:=hboth k c hk hc;have hlt:=pos_lt hk hc (zzL7 (n+n'))
     have e1:((cur.toList.take (n*i.size)++cs'++cur.toList.drop (n*i.size+cs'.length)).toArray).getD (k*i.size+c) undef=(cs++cs').getD (k*i.size+c) undef:=by
      rw[O2,<- hcc,List.getD,Vy (by omega)]
      rfl
     grind
    grind
end
section
variable {P:Program} {Γ:G0} {σ:Sto} {I:Nat->Nat->Prop} {θ:Nat->Option (Nat×Nat)} {a:Act} {w:World} {o:Oper}
theorem CW:∀(ps:List (Nat×Operand)) (vs:List AV),RepL I σ.own θ w (ps.map λp=>a.eval p.2) vs->Oq I σ.own θ w (ps.map λp=>(p.1,a.eval p.2)) ((ps.map (·.1)).zip vs)
 | [],_,h=>by  exact .nil
 | p::ps,_,h=>by cases h with|cons h t=>exact .cons h (CW ps _ t)
theorem TE(h:Rel Γ σ I θ a w)(hd:∀ d,o.dst=some d->d<Γ.n){vs:List AV}(hvs:RepL I σ.own θ w (o.op.operands.toList.map a.eval) vs){es:List (Option Own)}(hes:es=(Ce o vs).map σ.own)
  {e:Eff} (he:kS P o vs es=some e) (hob:∀ p∈e.ob,p):C3 P Γ σ o a w e.v e.wo:=by
 unfold kS at he
 split at he
 ·
  rename_i x ho
  simp only[ho,Op.operands,Bu,Cf]at hvs;obtain⟨y,rfl,hy⟩:=hvs.one;simp only[Eff.pure,Af]at he;subst he;exact XN h hd x (.inl ho) hy
 ·rename_i x ho
  simp only[ho,Op.operands,Bu,Cf]at hvs;obtain⟨y,rfl,hy⟩:=hvs.one;simp only[Eff.pure,Af]at he;subst he;exact XN h hd x (.inr ho) hy
 ·
  rename_i op xt x y yt ho
  simp only[ho,Op.operands,Bu,Cf]at hvs;obtain⟨u,v,rfl,hu,hv⟩:=hvs.two;obtain⟨hw,r,hr,hrun⟩:=OD (P:=P) he hob hu hv x y;rw[hw];refine Ak h hd (v:=r) ?_ (.val _ _ hr);simp only[C2]at hrun;simp only[execOp,ho,C2,En];rw[hrun]
  rfl
 ·rename_i op xt x ho
  simp only[ho,Op.operands,Bu,Cf]at hvs;obtain⟨u,rfl,hu⟩:=hvs.one;obtain⟨hw,r,hr,hrun⟩:=YY (P:=P) he hu;rw[hw];refine Ak h hd (v:=r) ?_ (.val _ _ hr);simp only[execOp,ho,C2,En,hrun,Dv]
 ·
  rename_i src dst x ho
  simp only[ho,Op.operands,Bu,Cf]at hvs;obtain⟨u,rfl,hu⟩:=hvs.one
  split at he
  ·rename_i k0 k k' n hs ht hv
   simp only[Cl,Bf]at hv;subst hv;simp only[Eff.pure,Af]at he;subst he;exact EY h hd ho hs ht hu
  ·rename_i s hs ht hv
   simp only[Cl,Bf]at hv;subst hv;simp only[Eff.pure,Af]at he;subst he;exact EZ h hd ho hs ht hu
  ·rename_i e0 sz n f tag hs ht hv
   simp only[Cl,Bf]at hv;subst hv
   cases hb:(lp P e0&&(Nat.beq sz 1 || Nat.beq n 0)) with
   | false=>simp[hb]at he
   | true=>
    simp only[hb,Ae,Eff.pure,Af]at he;subst he;simp only[A6,V3]at hb;obtain⟨hb1,hb2⟩:=hb
    have hu8:P.underlying e0=some (.int .u8):=by
     unfold lp at hb1
     split at hb1
     ·assumption
     ·simp at hb1
    exact Zm h hd ho hs ht hu8 (hb2.imp B2 B2) (hob _ (by simp)) hu
  ·simp at he
 ·
  rename_i t x ho
  simp only[ho,Op.operands,Bu,Cf]at hvs;obtain⟨u,rfl,hu⟩:=hvs.one
  cases hT:Bj P t with
  | false=>simp[hT]at he
  | true=>
   simp only[hT,Ae]at he
   split at he
   ·rename_i nm off e0 cells hv
    simp only[Cl,Bf]at hv;subst hv
    have hown:σ.own nm=some (.row e0 cells):=by simpa [Ce,ho] using hes.symm
    obtain⟨l1,l2⟩:=QJ (P:=P) h hd ho hT hu hown
    cases hagg:Dp P t with
    | true=>
     simp only[hagg,Ae]at he
     cases hb:Nat.ble (off+A0 P t) cells.length with
     | false=>simp[hb]at he
     | true=>
      simp only[hb,Ae,Eff.pure,Af]at he;subst he;exact l1 hagg (G6 hb)
    | false=>
     simp only[hagg,Az]at he
     cases hb:Nat.blt off cells.length with
     | false=>simp[hb]at he
     | true=>
      simp only[hb,Ae,Eff.pure,Af]at he;subst he;exact l2 hagg (by simpa [Gz] using hb)
   ·rename_i cells hv
    simp only[Cl,Bf]at hv;subst hv;obtain⟨l1,l2⟩:=MW (P:=P) h hd ho hT hu
    cases hagg:Dp P t with
    | true=>
     simp only[hagg,Ae]at he
     cases hb:Nat.beq (A0 P t) cells.length with
     | false=>simp[hb]at he
     | true=>
      simp only[hb,Ae,Eff.pure,Af]at he;subst he;exact l1 hagg (B2 hb)
    | false=>
     simp only[hagg,Az]at he
     cases hb:Nat.ble 1 cells.length with
     | false=>simp[hb]at he
     | true=>
      simp only[hb,Ae,Eff.pure,Af]at he;subst he;exact l2 hagg (G6 hb)
   ·simp at he
 ·
  rename_i t x y ho
  simp only[ho,Op.operands,Bu,Cf]at hvs;obtain⟨u,v,rfl,hu,hv⟩:=hvs.two
  cases hT:Bj P t with
  | false=>simp[hT]at he
  | true=>
   simp only[hT,Ae]at he
   split at he
   ·rename_i nm off z e0 cells hvv
    simp only[Cl,Bf]at hvv;obtain⟨rfl,rfl⟩:=hvv
    have hown:σ.own nm=some (.row e0 cells):=by simpa [Ce,ho] using hes.symm
    split at he
    ·rename_i cs hc
     cases hb:(Nat.beq cs.length (A0 P t)&&Nat.ble (off+cs.length) cells.length) with
     | false=>simp[hb]at he
     | true=>
      simp only[hb,Ae,Af]at he;subst he;simp only[A6]at hb;exact eD h hd ho hT hu hv hown hc (B2 hb.1) (G6 hb.2)
    ·simp at he
   ·simp at he
 ·
  rename_i s x f ho
  simp only[ho,Op.operands,Bu,Cf]at hvs;obtain⟨u,rfl,hu⟩:=hvs.one
  split at he
  ·rename_i fields hs
   split at he
   ·rename_i fd hf
    cases hb:(Bj P fd.type&&Nat.ble 1 (A0 P fd.type)) with
    | false=>simp[hb]at he
    | true=>
     simp only[hb,Ae]at he;simp only[A6]at hb;obtain⟨l1,l2⟩:=MR (P:=P) h hd ho hs hf hb.1 (G6 hb.2)
     split at he
     ·rename_i nm off hv
      simp only[Cl,Bf]at hv;subst hv;simp only[Eff.pure,Af]at he;subst he;exact l1 nm off hu
     ·rename_i cells hv
      simp only[Cl,Bf]at hv;subst hv
      cases hb2:Nat.ble (fd.offset+A0 P fd.type) cells.length with
      | false=>simp[hb2]at he
      | true=>
       simp only[hb2,Ae,Eff.pure,Af]at he;subst he;exact l2 cells hu (G6 hb2)
     ·simp at he
   ·simp at he
  ·simp at he
 ·
  rename_i s x f ho
  simp only[ho,Op.operands,Bu,Cf]at hvs;obtain⟨u,rfl,hu⟩:=hvs.one
  split at he
  ·rename_i fields cs hs hv
   simp only[Cl,Bf]at hv;subst hv
   split at he
   ·rename_i fd hf
    split at he
    ·rename_i y hp
     simp only[Eff.pure,Af]at he;subst he;exact d8 h hd ho hs hf hu hp
    ·simp at he
   ·simp at he
  ·simp at he
 ·
  rename_i t x i ho
  simp only[ho,Op.operands,Bu,Cf]at hvs;obtain⟨u,v,rfl,hu,hv⟩:=hvs.two
  split at he
  ·rename_i e0 sz n f tag k j hun hvv
   simp only[Cl,Bf]at hvv;obtain⟨rfl,rfl⟩:=hvv
   cases hb:(Bj P e0&&(Nat.beq sz (A0 P e0) || Nat.beq n 0)) with
   | false=>simp[hb]at he
   | true=>
    simp only[hb,Ae,Eff.pure,Af]at he;subst he;simp only[A6]at hb;exact FA h hd ho hun hb.1 hu hv (Zv (by simpa using hb.2)) (hob _ (by simp))
  ·rename_i len e0 nm off k j hun hvv
   simp only[Cl,Bf]at hvv;obtain⟨rfl,rfl⟩:=hvv
   cases hb:Bj P e0 with
   | false=>simp[hb]at he
   | true=>
    simp only[hb,Ae,Eff.pure,Af]at he;subst he;exact(Tu (P:=P) h hd ho hun hb hv (hob _ (by simp))).1 nm off hu
  ·rename_i len e0 cells k j hun hvv
   simp only[Cl,Bf]at hvv;obtain⟨rfl,rfl⟩:=hvv
   cases hb:(Bj P e0&&Nat.beq cells.length (len*A0 P e0)) with
   | false=>simp[hb]at he
   | true=>
    simp only[hb,Ae,Eff.pure,Af]at he;subst he;simp only[A6]at hb;exact(Tu (P:=P) h hd ho hun hb.1 hv (hob _ (by simp))).2 cells hu (B2 hb.2)
  ·simp at he
 ·
  rename_i t x i ho
  simp only[ho,Op.operands,Bu,Cf]at hvs;obtain⟨u,v,rfl,hu,hv⟩:=hvs.two
  split at he
  ·rename_i len e0 cs k j hun hvv
   simp only[Cl,Bf]at hvv;obtain⟨rfl,rfl⟩:=hvv
   cases hb:(Bj P e0&&!Dp P e0&&Nat.beq (A0 P e0) 1&&Nat.beq cs.length len) with
   | false=>
    rw[hb,Az]at he
    cases hb2:(Bj P e0&&Dp P e0&&Nat.beq cs.length (len*A0 P e0)) with
    | false=>simp[hb2]at he
    | true=>
     simp only[hb2,Ae,Eff.pure,Af]at he;subst he;simp only[A6]at hb2;exact MT h hd ho hun hb2.1.1 hb2.1.2 (B2 hb2.2) hv (hob _ (by simp)) hu
   | true=>
    simp only[hb,Ae,Eff.pure,Af]at he;subst he;simp only[A6,Ph]at hb;exact FB h hd ho hun hb.1.1.1 hb.1.1.2 (B2 hb.1.2) (B2 hb.2) hv (hob _ (by simp)) hu
  ·rename_i s0 k j hun hvv
   simp only[Cl,Bf]at hvv;obtain⟨rfl,rfl⟩:=hvv;simp only[Eff.pure,Af]at he;subst he;exact MV h hd ho hun hv (hob _ (by simp)) hu
  ·simp at he
 ·
  rename_i x ix ho
  simp only[ho,Op.operands,Bu,Cf]at hvs;obtain⟨u,rfl,hu⟩:=hvs.one
  split at he
  ·rename_i xs hv
   simp only[Cl,Bf]at hv;subst hv
   cases hb:Nat.blt ix xs.length with
   | false=>simp[hb]at he
   | true=>
    simp only[hb,Ae,Eff.pure,Af]at he;subst he;exact UI h hd ho hu (by simpa [Gz] using hb)
  ·simp at he
 ·
  rename_i x ho
  simp only[ho,Op.operands,Bu,Cf]at hvs;obtain⟨u,rfl,hu⟩:=hvs.one
  split at he
  ·rename_i nm off hv
   simp only[Cl,Bf]at hv;subst hv;simp only[Eff.pure,Af]at he;subst he;exact(BC (P:=P) h hd ho).1 nm off hu
  ·rename_i cs hv
   simp only[Cl,Bf]at hv;subst hv;simp only[Eff.pure,Af]at he;subst he;exact(BC (P:=P) h hd ho).2 cs hu
  ·simp at he
 ·
  rename_i t ho
  split at he
  ·rename_i d z hdst hz
   cases hb:Bj P t with
   | false=>simp[hb]at he
   | true=>
    simp only[hb,Ae,Af]at he;subst he;exact dy h hd hdst (by simpa [Ce,ho,hdst] using hes.symm) ho hz
  ·simp at he
 ·
  rename_i t x ho
  simp only[ho,Op.operands,Bu,Cf]at hvs;obtain⟨u,rfl,hu⟩:=hvs.one
  split at he
  ·rename_i d y hdst hv
   simp only[Cl,Bf]at hv;subst hv
   split at he
   ·rename_i cs hc
    simp only[Af]at he;subst he;exact lF h hd hdst (by simpa [Ce,ho,hdst] using hes.symm) ho hu hc
   ·simp at he
  ·simp at he
 ·
  rename_i t parts ho
  have hvs':RepL I σ.own θ w (parts.toList.map λp=>a.eval p.2) vs:=by
   simpa [ho,Op.operands,List.map_map,Wx] using hvs
  obtain⟨hw,hok⟩:=dz (P:=P) h hd ho (CW _ _ hvs') he;rw[hw];exact hok
 ·rename_i t len parts ho
  have hvs':RepL I σ.own θ w (parts.toList.map λp=>a.eval p.2) vs:=by
   simpa [ho,Op.operands,List.map_map,Wx] using hvs
  obtain⟨hw,hok⟩:=HL (P:=P) h hd ho (CW _ _ hvs') he;rw[hw];exact hok
 ·
  rename_i t x lo hi mx ho
  have hvs':RepL I σ.own θ w ([a.eval x]++(lo.map a.eval).toList++(hi.map a.eval).toList++(mx.map a.eval).toList) vs:=by
   have e:o.op.operands.toList.map a.eval=[a.eval x]++(lo.map a.eval).toList++(hi.map a.eval).toList++(mx.map a.eval).toList:=by
    rw[ho];cases lo<;>cases hi<;>cases mx<;>simp[Op.operands]
   rwa[e]at hvs
  obtain⟨hw,hok⟩:=eC (P:=P) h hd ho hvs' he hob;rw[hw];exact hok
 ·
  rename_i args ts ho
  split at he
  ·rename_i t hts
   have hargs:∀ u,vs=[u]->∃ x,args.toList=[x]/\Rep I σ.own θ w (a.eval x) u:=λu hu=>by
    subst hu
    have:o.op.operands.toList.map a.eval=args.toList.map a.eval:=by rw[ho];simp[Op.operands,Call.operands]
    rw[this]at hvs
    cases hl:args.toList with
    | nil=>rw[hl]at hvs;cases hvs
    | cons x l=>
     rw[hl]at hvs
     cases hvs with|cons h t=>cases l with
      | nil=>exact⟨x,rfl,h⟩
      | cons _ _=>cases t
   split at he
   ·rename_i e0 sz n f tag hun
    obtain⟨x,hx,hr⟩:=hargs _ rfl;simp only[Eff.pure,Af]at he;subst he;exact(UJ (P:=P) h hd ho hx hts).1 _ _ _ _ _ hun hr
   ·rename_i s hun
    obtain⟨x,hx,hr⟩:=hargs _ rfl;simp only[Eff.pure,Af]at he;subst he;exact(UJ (P:=P) h hd ho hx hts).2.1 _ hun hr
   ·rename_i n e0 y hun
    obtain⟨x,hx,hr⟩:=hargs _ rfl;simp only[Eff.pure,Af]at he;subst he;exact(UJ (P:=P) h hd ho hx hts).2.2 _ _ hun
   ·simp at he
  ·simp at he
 ·
  rename_i args ts ho
  split at he
  ·rename_i k m k' n
   simp only[Eff.pure,Af]at he;subst he
   have:o.op.operands.toList.map a.eval=args.toList.map a.eval:=by rw[ho];simp[Op.operands,Call.operands]
   rw[this]at hvs
   cases hl:args.toList with
   | nil=>rw[hl]at hvs;cases hvs
   | cons x l=>
    rw[hl]at hvs
    cases hvs with|cons h1 t=>cases l with
     | nil=>cases t
     | cons y l'=>cases t with|cons h2 t'=>cases l' with
      | nil=>exact lH h hd ho hl h1 h2
      | cons _ _=>cases t'
  ·simp at he
 ·
  rename_i args ts ho
  split at he
  ·rename_i k m k' n
   simp only[Eff.pure,Af]at he;subst he
   have:o.op.operands.toList.map a.eval=args.toList.map a.eval:=by rw[ho];simp[Op.operands,Call.operands]
   rw[this]at hvs
   cases hl:args.toList with
   | nil=>rw[hl]at hvs;cases hvs
   | cons x l=>
    rw[hl]at hvs
    cases hvs with|cons h1 t=>cases l with
     | nil=>cases t
     | cons y l'=>cases t with|cons h2 t'=>cases l' with
      | nil=>exact lI h hd ho hl h1 h2
      | cons _ _=>cases t'
  ·simp at he
 ·
  rename_i args ts ho
  split at he
  ·rename_i d hdst
   have:o.op.operands.toList.map a.eval=args.toList.map a.eval:=by rw[ho];simp[Op.operands,Call.operands]
   rw[this]at hvs
   cases hl:args.toList with
   | nil=>
    rw[hl]at hvs;cases hvs;unfold Um at he
    split at he<;>simp_all
   | cons x l=>
    cases l with
    | nil=>
     rw[hl]at hvs;obtain⟨u,rfl,_⟩:=hvs.one;unfold Um at he
     split at he<;>simp_all
    | cons y l'=>
     cases l' with
     | nil=>rw[hl]at hvs;exact ar h hd ho hl hvs hes hdst he hob
     | cons z l''=>
      rw[hl]at hvs
      cases hvs with|cons h1 t=>cases t with|cons h2 t=>cases t with|cons h3 t=>
      unfold Um at he
      split at he<;>simp_all
  ·simp at he
 ·simp at he
end
section
variable {P:Program} {Γ:G0} {σ:Sto} {I:Nat->Nat->Prop} {θ:Nat->Option (Nat×Nat)} {a:Act} {w:World} {o:Oper}
theorem Mr(h:Rel Γ σ I θ a w){x:AV}{nm n lo hi:Nat}(hv:x.view=some (nm,n,lo,hi)){v:Value}(hx:Rep I σ.own θ w v x):∃ sz e m f ad cap,v = .slice ad (hi-lo) cap/\σ.own nm=some (.arr sz e m f)/\n<=m/\lo<=hi/\hi<=n/\hi-lo<=cap/\cap<=maxLen/\(ad=none->cap=0) /\
  (n=m->LH (θ nm) n lo hi sz e ad cap):=by
 cases x<;>simp[AV.view]at hv
 case vsl nm' n'=>
  obtain⟨rfl,rfl,rfl,rfl⟩:=hv;obtain⟨sz,e,m,f,ad,cap,rfl,ho,hm,hcap,hmax,hn,hvv⟩:=hx.vsl_inv;refine⟨sz,e,m,f,ad,cap,by simp,ho,hm,Li _,zzL7 _,by omega,hmax,hn,λhnm=>⟨λhlt=>?_,λ_=>?_⟩⟩
  rotate_left
  ·grind
  cases hθ:θ nm' with
  | none=>have:=(h.chg.rel.arr nm' _ _ _ _ ho).1 hθ;omega
  | some gc=>
   grind
 case vsub nm' n' lo' hi'=>
  obtain⟨rfl,rfl,rfl,rfl⟩:=hv;obtain⟨sz,e,m,f,ad,cap,rfl,ho,hm,h1,h2,hcap,hmax,hn,hvv⟩:=hx.vsub_inv;exact⟨sz,e,m,f,ad,cap,rfl,ho,hm,h1,h2,hcap,hmax,hn,hvv⟩
theorem U3{ad:Option Addr}{n cap sz k:Nat}{us:Nat->Value}(h:0<k->∃ b,ad=some b/\b.spot=none/\∀ j,j<k*sz->w.cell? ⟨b.block,b.off+j,none⟩=some (us j)) :
  (Builtin.firstCells sz k (.slice ad n cap)).run P w = .ok ((List.range (k*sz)).map us).toArray w:=by
 rcases zzL65 k with rfl|hk
 ·cases ad with
  | none=>simp[Builtin.firstCells]
  | some b=>simp[Builtin.firstCells,loadCells,loadCellsFrom]
 ·obtain⟨b,rfl,hs,hc⟩:=h hk
  show(loadCells b _).run P w=_
  refine run_loadCells_list  (w:=w) b ((List.range _).map us) (λj v hj=>?_) |>.trans ?_ |> λh=>by simpa using h
  ·rw[GP]at hj
   by_cases hlt:j<k*sz
   ·rw[List.getElem?_range hlt]at hj;simp only[W1,Af]at hj;subst hj;rw[Ik hs];exact hc j hlt
   ·grind
  ·rfl
structure bz(P:Program)(I:Nat->Nat->Prop)(own:Nat->Option Own)(θ:Nat->Option (Nat×Nat))(w:World)(sz k:Nat)(v:Value)(g:Nat->List AV)(cs:List Value):Prop where
 run:(Builtin.firstCells sz k v).run P w = .ok cs.toArray w
 len:cs.length=k*sz
 one:∀ u∈cs,u.oneCell'=true
 rep:∀ i c,i<k->c<sz->Rep I own θ w (cs.getD (i*sz+c) undef) ((g i).getD c .any)
 wid:∀ i,i<k->(g i).length=sz
theorem CY{i j k sz:Nat}(hi:i<k)(hj:j<sz):i*sz+j<k*sz:=pos_lt hi hj (zzL7 k)
theorem jG{v:Value}{sz sz' n k:Nat}{f:Nat->List AV}(hk:k<=n)(hsz:sz'=sz\/n=0)(h:RepV I w v (.slice sz' n f .none)):∃ cs,bz P I σ.own θ w sz k v f cs:=by
 obtain⟨_,ad,cap,us,rfl,hcap,hmax,hz,hn,h1,hl,hr⟩:=h.slice_inv
 by_cases hk0:k=0
 ·subst hk0;exact⟨[],by simpa using U3   (us:=us) (k:=0) (λh=>by omega),by simp,by simp,λi c hi=>by omega,λi hi=>by omega⟩
 ·obtain rfl:sz'=sz:=by omega
  obtain⟨b,rfl,hs,hI,hc⟩:=hz (by omega);have hle:k*sz'<=n*sz':=Dt _ hk;refine⟨(List.range _).map us,U3 (λ_=>⟨b,rfl,hs,λj hj=>hc j (by omega)⟩),by simp,λu hu=>?_,λi c hi hcc=>?_,λi hi=>hl i (by omega)⟩
  ·grind
  ·rw[Uv _ _ _ (CY hi hcc)];exact .val _ _ (hr i c (by omega) hcc)
theorem eb(h:Rel Γ σ I θ a w){x:AV}{nm n lo hi sz m k:Nat}{e:TypeId}{f:Nat->List AV}(hv:x.view=some (nm,n,lo,hi)){v:Value}(hx:Rep I σ.own θ w v x)(hown:σ.own nm=some (.arr sz e m f))(hn:n=m)(hk:k<=hi-lo) :
  ∃ cs,bz P I σ.own θ w sz k v (λi=>f (lo+i)) cs:=by
 obtain⟨sz',e',m',f',ad,cap,rfl,ho,hm,hlo,hhi,hcap,hmax,hnn,hvv⟩:=Mr h hv hx;rw[hown]at ho;simp only[Af,Own.arr.injEq]at ho;obtain⟨rfl,rfl,rfl,rfl⟩:=ho
 by_cases hk0:k=0
 ·subst hk0;exact⟨[],by simpa using U3 (P:=P) (w:=w) (us:=λ_=>undef) (k:=0) (λh=>by omega),by simp,by simp,λi c hi=>by omega,λi hi=>by omega⟩
 ·obtain⟨g,c,hg,rfl⟩:=(hvv hn).1 (by omega);obtain⟨cur,q1,q2,q3,q4,q5,q6,q7⟩:=(h.chg.rel.arr nm _ _ _ _ hown).2 g c hg
  have hfit:∀ j,j<k*sz->lo*sz+j<c*sz:=λj hj=>by
   have:(lo+k)*sz<=c*sz:=Dt _ (by omega);rw[D9]at this;omega
  refine⟨(List.range (k*sz)).map λj=>cur.getD (lo*sz+j) undef,U3 (λ_=>⟨_,rfl,rfl,λj hj=>?_⟩),by simp,λu hu=>?_,λi c' hi hcc=>?_,λi hi=>q5 _ (by omega)⟩
  ·rw[Ko w g _ cur e (0,0) q1];exact Il (by rw[q4];exact hfit j hj)
  ·obtain⟨j,hj,rfl⟩:=zzL26.1 hu;have hj:=zzL35.1 hj
   have hs:0<sz:=by
    rcases zzL65 sz with h0|h0
    ·rw[h0]at hj;omega
    ·exact h0
   have e1:lo*sz+j=(lo+j / sz)*sz+j % sz:=by
    rw[D9,Sl]
    congr 1
    rw[Pz];exact(Uc j sz).symm
   have e2:j / sz<k:=Nat.div_lt_of_lt_mul (by rw[Pz];exact hj);rw[e1];exact(q6 (lo+j / sz) (j % sz) (by omega) (Nat.mod_lt _ hs)).1
  ·rw[Uv _ _ _ (CY hi hcc),<- Sl,<- D9];exact(q6 (lo+i) c' (by omega) hcc).2
theorem TM(f g:Nat->List AV){lo k i:Nat}(h:lo<=i/\i<lo+k):OY f lo k g i=g (i-lo):=by
 have h1 :=Nat.ble_eq_true_of_le h.1
 have h2:Nat.blt i (lo+k)=true:=by simp_all
 simp[OY,h1,h2]
theorem Xf(f g:Nat->List AV){lo k i:Nat}(h:¬ (lo<=i/\i<lo+k)):OY f lo k g i=f i:=by
 have:(Nat.ble lo i&&Nat.blt i (lo+k))=false:=by
  cases h1:Nat.ble lo i with
  | false=>rfl
  | true=>
   cases h2:Nat.blt i _ with
   | false=>rfl
   | true=>rw[Gz]at h2;exact(h ⟨G6 h1,h2⟩).elim
 simp[OY,this]
theorem JT(h:Rel Γ σ I θ a w){nm n lo hi sz m k cap':Nat}{e0:TypeId}{f g:Nat->List AV}{ad':Option Addr}(hown:σ.own nm=some (.arr sz e0 m f))(hn:n=m)(hlo:lo<=hi)(hhi:hi<=n)(hvv:LH (θ nm) n lo hi sz e0 ad' cap')(hkl:k<=hi-lo)
  {cs:List Value} (hcsl:cs.length=k*sz) (hone:∀ u∈cs,u.oneCell'=true) (hrep:∀ i c,i<k->c<sz->Rep I σ.own θ w (cs.getD (i*sz+c) undef) ((g i).getD c .any)) (hwid:∀ i,i<k->(g i).length=sz) :
  ∃ w',(match ad' with|some b=>storeCells b cs|none=>pure ()).run P w = .ok () w'/\Chg σ.own θ I w (An σ.own nm (.arr sz e0 m (OY f lo k g))) θ I w':=by
 obtain⟨q0,q⟩:=h.chg.rel.arr nm _ _ _ _ hown;have hrel:=h.chg.rel;rcases zzL65 k with h0|hpos
 ·have hcs:cs=[]:=zzL106.1 (by rw[hcsl,h0];simp);refine⟨w,by cases ad'<;>simp[hcs,storeCells],?_⟩;have hself:thUp θ nm (θ nm)=θ:=U5 rfl
  have hk2:=I9 (w':=w) (t':=θ nm) (m':=m) (f':=OY f lo k g) hrel h.chg.valid (nm:=nm) (s:=sz) (e:=e0) (λ_ _ _=>rfl) (.inr ⟨m,f,hown,zzL7 _,λ_=>rfl⟩) (λ_ _ _=>rfl) rfl rfl rfl (zzL7 _) q0 (λg' c' hg=>by
   obtain⟨cur,r1,r2,r3,r4,r5,r6,r7⟩:=q g' c' hg;refine⟨cur,r1,r2,r3,r4,λi hi=>by rw[Xf f g (by omega)];exact r5 i hi,λi j hi hj=>?_,r7⟩;rw[Xf f g (by omega)]
   exact⟨(r6 i j hi hj).1,λhmono=>hmono _ _ (r6 i j hi hj).2⟩) (λg' c' hg=>.inr ⟨by simp[hown],c',hg⟩)
  rwa[hself]at hk2
 ·obtain⟨g0,c,hg,rfl⟩:=hvv.1 (by omega);obtain⟨cur,r1,r2,r3,r4,r5,r6,r7⟩:=q g0 c hg
  have hfit:lo*sz+cs.length<=cur.size:=by
   have:(lo+k)*sz<=c*sz:=Dt _ (by omega);rw[D9]at this;rw[hcsl,r4];exact this
  have hst:=run_storeCells_at P g0 (lo*sz) e0 cs 0 cur w r1 (by simpa using hfit) hone;simp only[Ls]at hst;have hother:∀ b,b≠g0->(w.setRow g0 (cur.toList.take (lo*sz)++cs++cur.toList.drop (lo*sz+cs.length)).toArray).heap[b]?=w.heap[b]?:=λb hb=>AD w g0 b _ hb;refine⟨_,hst,?_⟩;have hk2:=I9 (w':=w.setRow g0 (cur.toList.take (lo*sz)++cs++cur.toList.drop (lo*sz+cs.length)).toArray) (t':=some (g0,c)) (m':=m) (f':=OY f lo k g) hrel h.chg.valid (nm:=nm) (s:=sz) (e:=e0)
   (λb j hi=>BM (a:=⟨b,j,none⟩) (hother b (by rintro rfl;exact r7 j hi))) (.inr ⟨m,f,hown,zzL7 _,λ_=>hg.symm⟩)
   (λb hb hn=>hother b (by rintro rfl;exact hn c (by simp[hown]) hg)) rfl rfl rfl (by simp) (by simp) (λg' c' hgc=>?_) (λg' c' hgc=>?_)
  ·rwa[U5 hg]at hk2
  ·simp only[Af,Ii]at hgc;obtain⟨rfl,rfl⟩:=hgc
   have hlen:(cur.toList.take (lo*sz)++cs++cur.toList.drop (lo*sz+cs.length)).length=cur.size:=by
    simp only[Em,Wy,Wz,Z0];omega
   have hget:∀ j,((cur.toList.take (lo*sz)++cs++cur.toList.drop (lo*sz+cs.length)).toArray).getD j undef=if lo*sz<=j/\j<lo*sz+cs.length then cs.getD (j-lo*sz) undef else cur.getD j undef:=λj=>by
    have:=F2 undef cur.toList cs (lo*sz) j (by simpa using hfit)
    have e1:∀(l:List Value),(l.toArray).getD j undef=l.getD j undef:=λl=>by simp[Nb,List.getD]
    rw[e1,this]
    congr 1
    simp[Nb,List.getD]
   refine⟨_,AE w g0 cur _ e0 _ r1,r2,r3,by simp only[NL];rw[hlen,r4],λi hi=>?_,λi j hi hj=>?_,r7⟩
   ·by_cases hin:lo<=i/\i<lo+k
    ·rw[TM f g hin];exact hwid _ (by omega)
    ·rw[Xf f g hin];exact r5 i hi
   ·rw[hget]
    by_cases hin:lo<=i/\i<lo+k
    ·have h1:(i-lo)*sz+j<k*sz:=CY (by omega) hj
     have h2:i*sz+j=lo*sz+((i-lo)*sz+j):=by
      rw[<- Sl,<- D9]
      congr 2
      omega
     rw[if_pos (by rw[hcsl];omega),TM f g hin]
     have h3:i*sz+j-lo*sz=(i-lo)*sz+j:=by omega
     rw[h3]
     have hmem:cs.getD ((i-lo)*sz+j) undef∈cs:=by
      have:(i-lo)*sz+j<cs.length:=by rw[hcsl];exact h1
      simp[List.getD,this]
     exact⟨hone _ hmem,λhmono=>hmono _ _ (hrep (i-lo) j (by omega) hj)⟩
    ·have hout:¬ (lo*sz<=i*sz+j/\i*sz+j<lo*sz+cs.length):=by
      rw[hcsl,<- D9];rcases zzL136 i lo with hlt|hge
      ·have:(i+1)*sz<=lo*sz:=Dt _ hlt;rw[D9]at this;omega
      ·have:(lo+k)*sz<=i*sz:=Dt _ (by omega);omega
     rw[if_neg hout,Xf f g hin];exact⟨(r6 i j hi hj).1,λhmono=>hmono _ _ (r6 i j hi hj).2⟩
  ·simp only[Af,Ii]at hgc;obtain⟨rfl,rfl⟩:=hgc;exact .inr ⟨by simp[hown],c,hg⟩
theorem XM(h:Rel Γ σ I θ a w)(hd:∀ d,o.dst=some d->d<Γ.n){t t' e:TypeId}{x y:Operand}(ho:o.op = .call { callee:=.builtin .copy,args:=#[x,y],argTypes:=#[t,t'] })(hu:P.underlying t=some (.slice e))(hT:Bj P e=true)
  {dx:AV} {nm n lo hi sz m:Nat} {e0:TypeId} {f g:Nat->List AV} (hv:dx.view=some (nm,n,lo,hi)) (hx:Rep I σ.own θ w (a.eval x) dx) (hown:σ.own nm=some (.arr sz e0 m f)) (hn:n=m) (hsz:sz=A0 P e)
  {ad:Option Addr} {len cap:Nat} (hy:a.eval y = .slice ad len cap) {cs:List Value} (hs:bz P I σ.own θ w sz (Nat.min len (hi-lo)) (a.eval y) g cs) :
  C3 P Γ σ o a w (.int .i64 (Nat.min len (hi-lo):Nat)) [(nm,.arr sz e0 m (OY f lo (Nat.min len (hi-lo)) g))]:=by
 obtain⟨sz',e',m',f',ad',cap',hex,ho',hm,hlo,hhi,hcap,hmax,hnn,hvv⟩:=Mr h hv hx;rw[hown]at ho';simp only[Af,Own.arr.injEq]at ho';obtain⟨rfl,rfl,rfl,rfl⟩:=ho';obtain⟨k,hk⟩:∃ k,k=Nat.min len (hi-lo):=⟨_,rfl⟩;rw[<- hk]at hs ⊢
 have hkl:k<=hi-lo:=by rw[hk];exact Nat.min_le_right _ _
 have key:=JT (P:=P) h hown hn hlo hhi (hvv hn) hkl hs.len hs.one hs.rep hs.wid;obtain⟨w',hst,hchg⟩:=key
 have hrun:(execOp a.eval o).run P w = .ok (.value (goInt k)) w':=by
  have hlenof:(Builtin.lenOf (a.eval y)).run P w = .ok len w:=by rw[hy];rfl
  have hfc:=hs.run;rw[hsz]at hfc
  have hcp:(Builtin.copy_ #[t,t'] o.type #[a.eval x,a.eval y]).run P w = .ok (goInt k) w':=by
   simp only[Builtin.copy_];simp[hex,Ds hu,hlenof,Bg hT,<- hk,hfc]
   cases ad' with
   | none=>simp at hst;subst hst;simp
   | some b=>simp only at hst;simp[hst]
  simp[execOp,ho,resolve,invoke,builtin,hcp]
 exact F5 (w':=w') (I':=I) (θ':=θ) h hd (v:=goInt k) hrun (by rw[Bk];exact hchg) (.val _ _ (.int _ _))
theorem d7(h:Rel Γ σ I θ a w)(hd:∀ d,o.dst=some d->d<Γ.n){t e:TypeId}{x:Operand}(ho:o.op = .call { callee:=.builtin .clear,args:=#[x],argTypes:=#[t] })(hu:P.underlying t=some (.slice e))
  {dx:AV} {nm n lo hi sz m:Nat} {e0:TypeId} {f:Nat->List AV} (hv:dx.view=some (nm,n,lo,hi)) (hx:Rep I σ.own θ w (a.eval x) dx) (hown:σ.own nm=some (.arr sz e0 m f)) (hn:n=m) (hsz:sz=A0 P e) {z:List AV} (hz:Qj P e=some z) (hzl:z.length=A0 P e) :
  C3 P Γ σ o a w .any [(nm,.arr sz e0 m (OY f lo (hi-lo) (λ_=>z)))]:=by
 obtain⟨sz',e',m',f',ad',cap',hex,ho',hm,hlo,hhi,hcap,hmax,hnn,hvv⟩:=Mr h hv hx;rw[hown]at ho';simp only[Af,Own.arr.injEq]at ho';obtain⟨rfl,rfl,rfl,rfl⟩:=ho';obtain⟨i,v,hi',hzv,h1,rfl⟩:=Km hz;have hzc:=Fs (I:=I) (w:=w) (σ:=σ) (θ:=θ) h1
 have hvs:v.cells.size=sz:=by rw[hsz];simpa using hzl
 have hcl:(Builtin.zeroCells v.cells (hi-lo)).toList.length=(hi-lo)*sz:=by simp[Builtin.zeroCells,hvs]
 have hget:∀ j,j<(hi-lo)*sz->(Builtin.zeroCells v.cells (hi-lo)).toList.getD j undef=v.cells.getD (j % sz) undef:=λj hj=>by
  have hs:0<sz:=by
   rcases zzL65 sz with h0|h0
   ·rw[h0]at hj;omega
   ·exact h0
  have hlt:j % sz<v.cells.size:=by rw[hvs];exact Nat.mod_lt _ hs
  simp only[Builtin.zeroCells,hvs];rw[show(Array.map (λi=>v.cells[i % sz]!) (Array.range ((hi-lo)*sz))).toList=(List.range ((hi-lo)*sz)).map (λi=>v.cells[i % sz]!) by simp,Uv _ _ _ hj];simp[hlt]
 have key:=JT (P:=P) (k:=hi-lo) (g:=λ_=>v.cells.toList.map AV.ofCell) (cs:=(Builtin.zeroCells v.cells (hi-lo)).toList) h hown hn hlo hhi (hvv hn) (zzL7 _) hcl (λu hu=>by
   obtain⟨j,hj,rfl⟩:=Lq hu;have e1:=hget j (by rw[<- hcl];exact hj);rw[Oi,Sj hj,AB]at e1;rw[e1]
   have hs:0<sz:=by
    rcases zzL65 sz with h0|h0
    ·rw[hcl,h0]at hj;omega
    ·exact h0
   exact hzc.one _ (by rw[Nd];simpa [hvs] using Nat.mod_lt j hs))
  (λi c hi hc=>by
   rw[hget _ (CY hi hc),Pz,Nat.mul_add_mod,Nat.mod_eq_of_lt hc]
   exact hzc.rep _ (by simpa [hvs] using hc))
  (λi hi=>by rw[hzl,hsz])
 obtain⟨w',hst,hchg⟩:=key
 have hrun:(execOp a.eval o).run P w = .ok (.value (.tuple #[])) w':=by
  have hcp:(Builtin.clear_ #[t] o.type #[a.eval x]).run P w = .ok (.tuple #[]) w':=by
   have hzr:=Jw (P:=P) hi' hzv w;rw[hex]
   cases hk:hi-lo with
   | zero=>
    have hcs:(Builtin.zeroCells v.cells (hi-lo)).toList=[]:=zzL106.1 (by rw[hcl,hk];simp);rw[hcs]at hst
    have:w'=w:=by cases ad'<;>simp[storeCells]at hst<;>exact hst.symm
    subst this
    cases ad'<;>simp[Builtin.clear_,Ds hu]
   | succ q=>
    cases had:ad' with
    | none=>have:=hnn had;omega
    | some b=>
     rw[had,hk]at hst;simp only at hst;simp[Builtin.clear_,Ds hu,hzr,hst]
  simp[execOp,ho,resolve,invoke,builtin,hcp]
 exact F5 (w':=w') (I':=I) (θ':=θ) h hd (v:=.tuple #[]) hrun (by rw[Bk];exact hchg) (.val _ _ (.any _))
theorem HP(h:Rel Γ σ I θ a w)(hd:∀ d,o.dst=some d->d<Γ.n){t e:TypeId}{x i:Operand}(ho:o.op = .indexAddr t x i)(hu:P.underlying t=some (.slice e))(ht:Bj P e=true)
  {nm n lo hi:Nat} {k:IntKind} {j:Int} (hx:Rep I σ.own θ w (a.eval x) (.vsub nm n lo hi)) (hi':Rep I σ.own θ w (a.eval i) (.int k j)) (hb:Bv j (hi-lo)) {sz m:Nat} {e':TypeId} {f:Nat->List AV} (hown:σ.own nm=some (.arr sz e' m f)) (hs:sz=A0 P e) :
  C3 P Γ σ o a w (.vpt nm n (lo+j.toNat) 0) []:=by
 obtain⟨hb0,hb1⟩:=hb;obtain⟨sz2,e2,m2,f2,ad,cap,he,ho',hm,hlo,hhi,hcap,hmax,hn,hv⟩:=hx.vsub_inv;rw[hown]at ho';obtain⟨rfl,rfl,rfl,rfl⟩:=ho';subst hs;have hi':=hi'.int_inv
 have hne:ad≠none:=λh=>by have:=hn h;omega
 obtain⟨b,rfl⟩:=Option.ne_none_iff_exists'.1 hne;refine Ak h hd (v:=.pointer (some (b.add (j.toNat*A0 P e)))) ?_ (.vpt nm _ _ _ f n _ _ _ hown hm (by omega) (λhnm=>?_))
 ·have hb2 :=hb1;simp[execOp,ho,he,hi',Instr.indexAt,asIntOf,Ds hu,hb0,hb2,Bg ht]
 ·obtain⟨g,c,hg,hb⟩:=(hv hnm).1 (by omega);simp only[Af]at hb;subst hb;exact⟨g,c,hg,by rw[Kn,Ls,D9]⟩
theorem FR(h:Rel Γ σ I θ a w){x:AV}{nm n l0 h0:Nat}(hv:x.view=some (nm,n,l0,h0)){ad:Option Addr}{len cap:Nat}(hx:Rep I σ.own θ w (.slice ad len cap) x){l k sz m:Nat}{e:TypeId}{f:Nat->List AV}(hown:σ.own nm=some (.arr sz e m f))(hlk:l<=k)(hk:l0+k<=h0)(hlen:len=h0-l0) :
  Rep I σ.own θ w (.slice (if cap=l then ad else ad.map (·.add (l*sz))) (k-l) (cap-l)) (.vsub nm n (l0+l) (l0+k)):=by
 obtain⟨sz',e',m',f',ad',cap',hex,ho,hm,hlo,hhi,hcap,hmax,hnn,hvv⟩:=Mr h hv hx;obtain⟨rfl,_,rfl⟩:=hex;rw[hown]at ho;obtain⟨rfl,rfl,rfl,rfl⟩:=ho
 have e1:k-l=(l0+k)-(l0+l):=by omega
 rw[e1];refine .vsub nm sz e m f n _ _ _ _ hown hm (by omega) (by omega) (by omega) (by omega) (λhnone=>?_) (λhnm=>⟨λhlt=>?_,λh00=>?_⟩)
 ·by_cases hc:cap=l
  ·omega
  ·simp_all
 ·obtain⟨g,c,hg,rfl⟩:=(hvv hnm).1 (by omega);refine⟨g,c,hg,?_⟩;rw[if_neg (by omega)];simp[Kn,D9]
 ·have hz:=(hvv hnm).2 (by omega)
  have hl0:l=0:=by omega
  subst hl0
  cases hθ:θ nm with
  | none=>grind
  | some gc=>
   rw[hθ]at hz;obtain⟨rfl,hz⟩:=hz;refine⟨?_,by simpa using hz⟩
   by_cases hc:cap=0
   ·simp[hc]
   ·simp[ Kn]
theorem il(h:Rel Γ σ I θ a w)(hd:∀ d,o.dst=some d->d<Γ.n){t el:TypeId}{y:Operand}{lo hi mx:Option Operand}(ho:o.op = .slice t y lo hi mx)(hu:P.underlying t=some (.slice el)){e:Eff}{x:AV}{vs:List AV}
  (hvs:RepL I σ.own θ w ([a.eval y]++(lo.map a.eval).toList++(hi.map a.eval).toList++(mx.map a.eval).toList) (x::vs)) (he:cG P t lo.isSome hi.isSome mx.isSome x vs=some e) (hob:∀ p∈e.ob,p)
  (hown:∀ nm n l0 h0,x.view=some (nm,n,l0,h0)->∃ sz e m f,σ.own nm=some (.arr sz e m f)/\sz=A0 P el) :
  e.wo=[]/\C3 P Γ σ o a w e.v []:=by
 unfold cG at he
 split at he
 ·rename_i el' nm n l0 h0 hu' hv
  rw[hu]at hu';simp only[Af,TypeDesc.slice.injEq]at hu';subst hu';obtain⟨sz,e1,m,f,hown,rfl⟩:=hown nm n l0 h0 hv
  cases hT:Bj P el with
  | false=>simp[hT]at he
  | true=>
   simp only[hT,Ae]at he
   split at he
   ·rename_i k l h1 h2 h3
    cases lo<;>simp at h1
    cases hi<;>simp at h2
    cases mx<;>simp at h3
    obtain⟨p,q,e1,hy,hz⟩:=hvs.two;simp only[Cl,Bf]at e1;obtain⟨rfl,rfl⟩:=e1;simp only[Eff.pure,Af]at he;subst he;obtain⟨hb0,hb1⟩:=hob _ (zzL15.2 rfl);obtain⟨_,_,_,_,ad,cap,hex,_,_,hlo,hhi,hcap,hmax,_⟩:=Mr h hv hy;rw[hex]at hy;have hl:=hz.int_inv;have hr:=Nn (P:=P) (a:=a) (w:=w) (l:=l.toNat) (h:=h0-l0) (m:=cap) ho hu hT hex (by simp[Instr.sliceBounds,hl,Jo (P:=P) w k l (h0-l0) _ hb0 (by omega)]);have hrep:=FR h hv hy (l:=l.toNat) (k:=h0-l0) hown (by omega) (by omega) rfl;rw[show l0+(h0-l0)=h0 by omega]at hrep;exact⟨rfl,Ak h hd hr hrep⟩
   ·rename_i k l h1 h2 h3
    cases lo<;>simp at h1
    cases hi<;>simp at h2
    cases mx<;>simp at h3
    obtain⟨p,q,e1,hy,hz⟩:=hvs.two;simp only[Cl,Bf]at e1;obtain⟨rfl,rfl⟩:=e1;simp only[Eff.pure,Af]at he;subst he;obtain⟨hb0,hb1⟩:=hob _ (zzL15.2 rfl);obtain⟨_,_,_,_,ad,cap,hex,_,_,hlo,hhi,hcap,hmax,_⟩:=Mr h hv hy;rw[hex]at hy;have hl:=hz.int_inv;have hr:=Nn (P:=P) (a:=a) (w:=w) (l:=0) (h:=l.toNat) (m:=cap) ho hu hT hex (by simp[Instr.sliceBounds,hl,Jo (P:=P) w k l cap _ hb0 (by omega)]);have hrep:=FR h hv hy (l:=0) (k:=l.toNat) hown (by omega) (by omega) rfl;rw[Ls]at hrep;exact⟨rfl,Ak h hd hr hrep⟩
   ·rename_i k l k' m' h1 h2 h3
    cases lo<;>simp at h1
    cases hi<;>simp at h2
    cases mx<;>simp at h3
    obtain⟨p,q,u,e1,hy,hz,hz'⟩:=hvs.three;simp only[Cl,Bf]at e1;obtain⟨rfl,rfl,rfl⟩:=e1;simp only[Eff.pure,Af]at he;subst he;obtain⟨hb0,hb1,hb2⟩:=hob _ (zzL15.2 rfl);obtain⟨_,_,_,_,ad,cap,hex,_,_,hlo,hhi,hcap,hmax,_⟩:=Mr h hv hy;rw[hex]at hy;have hl:=hz.int_inv;have hl':=hz'.int_inv;have hr:=Nn (P:=P) (a:=a) (w:=w) (l:=l.toNat) (h:=m'.toNat) (m:=cap) ho hu hT hex (by simp[Instr.sliceBounds,hl,hl',Jo (P:=P) w k l m'.toNat _ hb0 (by omega),Jo (P:=P) w k' m' cap _ (by omega) (by omega)]);have hrep:=FR h hv hy (l:=l.toNat) (k:=m'.toNat) hown (by omega) (by omega) rfl;exact⟨rfl,Ak h hd hr hrep⟩
   ·simp at he
 ·simp at he
end
theorem iI(s:ByteArray)(i:Nat):(s.get! i).toNat=((Bo s).getD i 0).toNat:=by
 unfold Bo
 by_cases h:i<s.size
 ·have h':i<s.data.toList.length:=h;rw[List.getD,GP]
  have e:s.get! i=s.data.toList[i]:=by
   show s.data[i]! = _
   rw[getElem!_pos _ i h]
   rfl
  grind
 ·have h':¬ i<s.data.toList.length:=h;rw[List.getD,List.getElem?_eq_none (by grind)]
  have e:s.get! i=0:=by
   show s.data[i]! = _
   rw[getElem!_neg _ i h]
   rfl
  rw[e];rfl
theorem IM(s:ByteArray)(i:Nat):Utf8.decode s i=CO (Bo s) i:=by
 simp[CO,iI,Dk,Utf8.decode]
section
variable {P:Program} {Γ:G0} {σ:Sto} {I:Nat->Nat->Prop} {θ:Nat->Option (Nat×Nat)} {a:Act} {w:World} {o:Oper}
theorem Nw{own:Nat->Option Own}(hrel:G1 I own θ w)(hval:∀ b o,I b o->∃ u,w.cell? ⟨b,o,none⟩=some u){d:Nat}(hn:own d=none){ob:Obj}{x:AObj}(hc:ObjR I own θ w ob x) :
  Chg own θ I w (An own d (.obj x)) (thUp θ d (some (w.heap.size,0))) I (w.alloc ob):=by
 have hcell:∀ b o,I b o->(w.alloc ob).cell? ⟨b,o,none⟩=w.cell? ⟨b,o,none⟩:=λb o hi=>by
  grind [Ho]
 have hle:∀ nm o,own nm=some o->∃ o',An own d (.obj x) nm=some o'/\OwnLe o (θ nm) o' (thUp θ d (some (w.heap.size,0)) nm):=λnm o ho=>by
  grind [thUp,An,OwnLe.refl]
 have hmono:∀ v y,Rep I own θ w v y->Rep I _ _ _ v y:=λv y h=>h.mono (λ_ _ h=>h) hcell hle;refine{ imm:=λ_ _ h=>h,cell:=hcell,le:=hle,rel:=?_,valid:=λb o hi=>?_,os:=rfl,tape:=rfl,output:=rfl,drawn:=λ_=>zzL7 _,grow:=by simp,frame:=λb hb _=>BX w _ hb,new:=λnm g c ho hg=>?_,immNew:=λb o h=>.inl h }
 ·refine Hw hrel (·=d) hmono (λnm hne=>⟨by simp[An,hne],by simp[thUp,hne]⟩) (λnm g c hne ho hg=>⟨BX w _ (Hg hrel ho hg),λj h=>h⟩) ?_ ?_ ?_ (λ_ _ h h'=>h.trans h'.symm) (hobj:=?_)
  ·grind [An]
  ·grind [An]
  ·rintro nm nm' g c c' rfl hne _ ho' hg hg';simp only[thUp,Hj,Af,Ii]at hg;have:=Hg hrel ho' hg';omega
  ·rintro nm y rfl ho;simp only[An,Hj,Af,Own.obj.injEq]at ho;subst ho;refine .inl ⟨w.heap.size,0,ob,by simp[thUp],Vz w _,hc.mono hmono,λj hj=>?_⟩;obtain⟨u,hu⟩:=hval _ _ hj;exact V4 _ (L8 hu)
 ·grind
 ·by_cases hne:nm=d
  ·grind [thUp]
  ·simp only[An,hne]at ho
   grind [thUp]
def On(w:World)(g:Nat)(ob:Obj):World:={ w with heap:=w.heap.setIfInBounds g ob }
theorem Wu(w:World)(g b:Nat)(ob:Obj)(h:b≠g):(On w g ob).heap[b]?=w.heap[b]?:=by
 grind [On]
theorem bL(w:World)(g:Nat)(ob:Obj)(h:g<w.heap.size):(On w g ob).heap[g]?=some ob:=by
 grind [On]
theorem Nx{own:Nat->Option Own}(hrel:G1 I own θ w)(hval:∀ b o,I b o->∃ u,w.cell? ⟨b,o,none⟩=some u){d g c:Nat}{x:AObj}(hn:own d=some (.obj x))(hg:θ d=some (g,c)){ob:Obj}{y:AObj}(hc:ObjR I own θ w ob y) :
  Chg own θ I w (An own d (.obj y)) θ I (On w g ob):=by
 obtain⟨o0,h2,h3,h4⟩:∃ o,w.heap[g]?=some o/\ObjR I own θ w o x/\∀ j,¬ I g j:=by
  rcases hrel.obj d x hn with⟨g',c',o0,h1,h2,h3,h4⟩|⟨h1,_⟩
  ·grind
  grind
 have hlt:=Xo h2
 have hcell:∀ b j,I b j->(On w g ob).cell? ⟨b,j,none⟩=w.cell? _:=λb j hi=>
  BM  (Wu w g b ob (by grind))
 have hle:∀ nm' o,own nm'=some o->∃ o',An own d (.obj y) nm'=some o'/\OwnLe o (θ nm') o' (θ nm'):=λnm' o ho=>by
  by_cases hne:nm'=d
  ·subst hne;rw[hn]at ho;obtain rfl:=OI ho;exact⟨.obj y,by simp[An],rfl⟩
  ·exact⟨o,by grind [An],.refl _ _⟩
 have hmono:∀ v z,Rep I own θ w v z->Rep I _ θ _ v z:=λv z h=>h.mono (λ_ _ h=>h) hcell hle;refine{ imm:=λ_ _ h=>h,cell:=hcell,le:=hle,rel:=?_,valid:=λb j hi=>?_,os:=rfl,tape:=rfl,output:=rfl,drawn:=λ_=>zzL7 _,grow:=by simp[On],frame:=λb hb hn'=>Wu w g b ob ?_,new:=λnm' g' c' ho hg'=>?_,immNew:=λb o h=>.inl h }
 ·refine Hw hrel (·=d) hmono (λnm' hne=>⟨by simp[An,hne],rfl⟩) (λnm' g' c' hne ho hg'=>⟨Wu w g g' ob ?_,λj h=>h⟩) ?_ ?_ ?_ (λ_ _ h h'=>h.trans h'.symm) (hobj:=?_)
  ·rintro rfl;exact hne (hrel.inj nm' d _ _ _ ho (by simp[hn]) hg' hg)
  ·grind [An]
  ·grind [An]
  ·rintro nm' nm'' g' c1 c2 rfl hne _ ho' hg1 hg2;exact hne (hrel.inj nm'' nm' _ _ _ ho' (by simp[hn]) hg2 hg1)
  ·rintro nm' z rfl ho;simp only[An,Hj,Af,Own.obj.injEq]at ho;subst ho;exact .inl ⟨g,c,ob,hg,bL w g ob hlt,hc.mono hmono,h4⟩
 ·grind
 ·grind
 grind [An]
theorem AZ(h:Rel Γ σ I θ a w)(hd:∀ d,o.dst=some d->d<Γ.n){t e:TypeId}(ho:o.op = .alloc t){d:Nat}(hdst:o.dst=some d)(hn:σ.own d=none){z:List AV}(hz:Qj P t=some z){len:Nat}
  (h1:1<=len) (hzl:z.length=len*A0 P e) (hr:len<=room):C3 P Γ σ o a w (.vpt d len 0 0) [(d,.arr (A0 P e) t len (λi=>(z.drop (i*A0 P e)).take (A0 P e)))]:=by
 obtain⟨i,v,hi,hv,hone,rfl⟩:=Km hz;have hzc:=Fs (I:=I) (w:=w) (σ:=σ) (θ:=θ) hone
 have hsz :=by simpa using hzl
 have hk:=I9 (w':=w.alloc (.cells v.cells t)) (t':=some (w.heap.size,len)) (m':=len) (f':=λi=>((v.cells.toList.map AV.ofCell).drop (i*A0 P e)).take (A0 P e)) (nm:=d) (s:=A0 P e) (e:=t) h.chg.rel h.chg.valid
  (λb o hi=>by obtain⟨u,hu⟩:=h.chg.valid b o hi;exact Ho _ hu) (.inl hn) (λb hb _=>BX w _ hb) rfl rfl rfl (by simp) (by simp) (λg c' hgc=>?_) (λg c' hgc=>?_)
 ·refine F5 h hd (v:=.pointer (some ⟨w.heap.size,0,none⟩)) ?_ (by rw[Bk];exact hk) ?_
  ·simp_all [newRow,execOp,newVar,Instr.alloc,Jw]
  ·rw[Bk];refine .vpt d (A0 P e) t len _ len 0 0 _ (by simp[An];rfl) (zzL7 _) h1 (λ_=>⟨w.heap.size,len,by simp[thUp],by simp⟩)
 ·obtain⟨rfl,rfl⟩:=hgc
  have hchunk:∀ i',i'<len->i'*A0 P e+A0 P e<=len*A0 P e:=λi' hi'=>by
   have:(i'+1)*A0 P e<=len*A0 P e:=Dt _ hi'
   grind
  refine⟨_,Vz w _,zzL7 _,by grind [room,maxLen],hsz,λi' hi'=>?_,λi' j' hi' hj'=>?_,λj hj=>?_⟩
  ·grind
  ·have e1:(((v.cells.toList.map AV.ofCell).drop (i'*A0 P e)).take (A0 P e)).getD j' .any=(v.cells.toList.map AV.ofCell).getD (i'*A0 P e+j') .any:=by
    grind
   exact⟨hzc.one _ (by grind),λhmono=>by rw[e1];exact hmono _ _ (hzc.rep _ (by grind))⟩
  ·obtain⟨u,hu⟩:=h.chg.valid _ _ hj;exact V4 _ (L8 hu)
 grind
theorem JM(h:Rel Γ σ I θ a w)(hd:∀ d,o.dst=some d->d<Γ.n){t e:TypeId}{x:Operand}(ho:o.op = .box t x){d:Nat}(hdst:o.dst=some d)(hn:σ.own d=none){cs:List AV}(hx:Rep I σ.own θ w (a.eval x) (.agg cs)){len:Nat}
  (h1:1<=len) (hzl:cs.length=len*A0 P e) (hr:len<=room):C3 P Γ σ o a w (.vpt d len 0 0) [(d,.arr (A0 P e) t len (λi=>(cs.drop (i*A0 P e)).take (A0 P e)))]:=by
 have hzc:=Hl   rfl hx
 have hsz:(a.eval x).cells.size=len*A0 P e:=by rw[hzc.size,hzl]
 have hk:=I9 (w':=w.alloc (.cells (a.eval x).cells t)) (t':=some (w.heap.size,len)) (m':=len) (f':=λi=>(cs.drop (i*A0 P e)).take (A0 P e))  (s:=A0 P e) (e:=t) h.chg.rel h.chg.valid
  (λb o hi=>by obtain⟨u,hu⟩:=h.chg.valid b o hi;exact Ho _ hu) (.inl hn) (λb hb _=>BX w _ hb) rfl rfl rfl (by simp) (by simp) (λg c' hgc=>?_) (λg c' hgc=>?_)
 ·refine F5 h hd (v:=.pointer (some ⟨w.heap.size,0,none⟩)) ?_ (by rw[Bk];exact hk) ?_
  ·simp[execOp,ho,Instr.box,newVar,newRow]
  ·rw[Bk];refine .vpt d (A0 P e) t len _ len 0 0 _ (by simp[An];rfl) (zzL7 _) h1 (λ_=>⟨w.heap.size,len,by simp[thUp],by simp⟩)
 ·obtain⟨rfl,rfl⟩:=hgc
  have hchunk:∀ i',i'<len->i'*A0 P e+A0 P e<=len*A0 P e:=λi' hi'=>by
   have:(i'+1)*A0 P e<=len*A0 P e:=Dt _ hi'
   grind
  refine⟨_,Vz w _,zzL7 _,by grind [room,maxLen],hsz,λi' hi'=>?_,λi' j' hi' hj'=>?_,λj hj=>?_⟩
  ·grind
  ·have e1:((cs.drop (i'*A0 P e)).take (A0 P e)).getD j' .any=cs.getD (i'*A0 P e+j') .any:=by
    grind
   exact⟨hzc.one _ (by grind),λhmono=>by rw[e1];exact hmono _ _ (hzc.rep _ (by grind))⟩
  ·obtain⟨u,hu⟩:=h.chg.valid _ _ hj;exact V4 _ (L8 hu)
 grind
theorem QD(h:Rel Γ σ I θ a w)(hd:∀ d,o.dst=some d->d<Γ.n){t:TypeId}{len:Nat}{parts:Array (Nat×Operand)}(ho:o.op = .buildSlice t len parts){d:Nat}(hdst:o.dst=some d)(hn:σ.own d=none){is:List Nat}{vs:List AV}
  (hp:Oq I σ.own θ w (parts.toList.map λp=>(p.1,a.eval p.2)) (is.zip vs)) {e:Eff} (he:Yw P t len is vs d=some e):C3 P Γ σ o a w e.v e.wo:=by
 unfold Yw at he
 split at he
 ·rename_i el hu
  split at he
  ·rename_i z hz
   cases hb:(Bj P el&&Nat.beq z.length (A0 P el)&&Nat.ble 1 (A0 P el)&&Nat.ble (len*A0 P el) 16777216) with
   | false=>grind
   | true=>
    simp only[hb,Ae]at he;simp only[A6]at hb;obtain⟨⟨⟨hT,hzl⟩,h1⟩,hmax⟩:=hb;have hzl:=B2 hzl;have h1:=G6 h1;have hmax:=G6 hmax
    split at he
    ·rename_i cs hfill
     simp only[Af]at he;subst he;obtain⟨i,v,hi,hv,hone,rfl⟩:=Km hz;have hcells:=Sa (Fs (I:=I) (σ:=σ) (θ:=θ) (w:=w) hone) len (A0 P el) hzl h1;obtain⟨vs',hfi,hok⟩:=Qy _ hp hcells hfill;have hlen:=Qx _ _ _ _ hfill
     have hzl':v.cells.size=A0 P el:=by simpa using hzl
     have hcl:cs.length=len*A0 P el:=by rw[hlen];simp[hzl']
     have hlm:len<=maxLen:=by
      have:len*1<=len*A0 P el:=Nat.mul_le_mul_left _ h1;unfold maxLen;omega
     have hvs:vs'.size=len*A0 P el:=by rw[hok.size,hcl]
     have hrun:(execOp a.eval o).run P w = .ok (.value (.slice (some ⟨w.heap.size,0,none⟩) len len)) (w.alloc (.cells vs' el)):=by
      have e2:(parts.map λx=>(x.1,a.eval x.2)).toList=parts.toList.map λp=>(p.1,a.eval p.2):=by simp
      have hm2:¬ (len*A0 P el>2 ^ 24):=by omega
      by_cases h0:len*A0 P el=0
      ·have e3:(Array.range (len*A0 P el)).map (v.cells[· % v.cells.size]!)=(Array.range (len*A0 P el)).map ((#[]:Array Value)[· % (#[]:Array Value).size]!):=by
        rw[h0];simp
       rw[e3]at hfi;simp only[execOp,ho,Instr.buildSlice,C2,Dv,Ds hu,Bg hT,if_neg hm2,if_pos h0,En,e2,hfi]
       rfl
      ·simp only[execOp,ho,Instr.buildSlice,C2,Dv,Ds hu,Bg hT,if_neg hm2,if_neg h0,Jw hi hv,En,e2,hfi]
       rfl
     have hk:=I9 (w':=w.alloc (.cells vs' el)) (t':=some (w.heap.size,len)) (m':=len) (f':=λi=>(cs.drop (i*A0 P el)).take (A0 P el)) (nm:=d) (s:=A0 P el) (e:=el) h.chg.rel h.chg.valid
      (λb o hi=>by obtain⟨u,hu⟩:=h.chg.valid b o hi;exact Ho _ hu) (.inl hn) (λb hb _=>BX w _ hb) rfl rfl rfl (by simp) (by simp) (λg c' hgc=>?_) (λg c' hgc=>?_)
     ·refine F5 h hd hrun (by rw[Bk];exact hk) ?_;rw[Bk];refine .vsl d (A0 P el) el len _ (some ⟨w.heap.size,0,none⟩) len len (by simp[An];rfl) (zzL7 _) (zzL7 _) hlm (λh=>by cases h) (λ_=>?_);simp[thUp]
     ·simp only[Af,Ii]at hgc;obtain⟨rfl,rfl⟩:=hgc
      have hchunk:∀ i',i'<len->i'*A0 P el+A0 P el<=len*A0 P el:=λi' hi'=>by
       have:(i'+1)*A0 P el<=len*A0 P el:=Dt _ hi'
       grind
      refine⟨_,Vz w _,zzL7 _,hlm,hvs,λi' hi'=>?_,λi' j' hi' hj'=>?_,λj hj=>?_⟩
      ·grind
      ·have:=hchunk i' hi'
       have e1:((cs.drop (i'*A0 P el)).take (A0 P el)).getD j' .any=cs.getD (i'*A0 P el+j') .any:=by
        rw[List.getD,List.getElem?_take,if_pos hj',List.getElem?_drop,List.getD]
       exact⟨hok.one _ (by omega),λhmono=>by rw[e1];exact hmono _ _ (hok.rep _ (by omega))⟩
      ·obtain⟨u,hu⟩:=h.chg.valid _ _ hj;exact V4 _ (L8 hu)
     grind
    grind
  grind
 grind
theorem HO(h:Rel Γ σ I θ a w)(hd:∀ d,o.dst=some d->d<Γ.n){t e:TypeId}{len:Nat}{x i:Operand}(ho:o.op = .indexAddr t x i)(hu:P.underlying t=some (.array len e))(ht:Bj P e=true)
  {nm:Nat} {k:IntKind} {j:Int} (hx:Rep I σ.own θ w (a.eval x) (.vpt nm len 0 0)) (hi:Rep I σ.own θ w (a.eval i) (.int k j)) (hb:Bv j len) {sz:Nat} {e':TypeId} {m:Nat} {f:Nat->List AV} (hown:σ.own nm=some (.arr sz e' m f)) (hsz:sz=A0 P e) :
  C3 P Γ σ o a w (.vpt nm len j.toNat 0) []:=by
 obtain⟨hb0,hb1⟩:=hb;obtain⟨sz2,e2,m2,f2,ad,he,ho2,hm,hi0,hv⟩:=hx.vpt_inv;rw[hown]at ho2;obtain⟨rfl,rfl,rfl,rfl⟩:=ho2;have hi':=hi.int_inv;refine Ak h hd (v:=.pointer (some (ad.add (j.toNat*A0 P e)))) ?_ (.vpt nm _ e' m f len _ _ _ hown hm (by omega) (λhnm=>?_))
 ·simp[execOp,ho,he,hi',Instr.indexAt,Instr.sureAddr,asIntOf,Ds hu,hb0,hb1,Bg ht]
 grind [Kn]
theorem X5(h:Rel Γ σ I θ a w)(hd:∀ d,o.dst=some d->d<Γ.n){t e:TypeId}{len:Nat}{x i:Operand}(ho:o.op = .indexAddr t x i)(hu:P.underlying t=some (.array len e))(ht:Bj P e=true)
  {nm n p q:Nat} {k:IntKind} {j:Int} (hx:Rep I σ.own θ w (a.eval x) (.vpt nm n p q)) (hi:Rep I σ.own θ w (a.eval i) (.int k j)) (hb:Bv j len):C3 P Γ σ o a w (.vpt nm n p (q+j.toNat*A0 P e)) []:=by
 obtain⟨hb0,hb1⟩:=hb;obtain⟨sz2,e2,m2,f2,ad,he,ho2,hm,hi0,hv⟩:=hx.vpt_inv;have hi':=hi.int_inv;refine Ak h hd (v:=.pointer (some (ad.add (j.toNat*A0 P e)))) ?_ (.vpt nm _ _ m2 f2 n _ _ _ ho2 hm hi0 (λhnm=>?_))
 ·simp[execOp,ho,he,hi',Instr.indexAt,Instr.sureAddr,asIntOf,Ds hu,hb0,hb1,Bg ht]
 grind [Kn]
theorem Vu{I:Nat->Nat->Prop}{own:Nat->Option Own}{θ:Nat->Option (Nat×Nat)}{w:World}{v:Value}{sz n:Nat}{f:Nat->List AV}{t:Tag}(h:Rep I own θ w v (.slice sz n f t)) :
  ∃ a cap,v = .slice a n cap/\(a=none->n=0):=by
 have key:∀{v:Value},RepV I w v (.slice sz n f _)->∃ a cap,v = .slice a n cap/\(a=none->n=0):=λh=>by
  cases h with
  | slice a _ cap _ _ us hcap hmax hz hn h1 hl hr=>grind
 cases h with
 | val v x h=>cases h with
  | slice a _ cap _ _ us hcap hmax hz hn h1 hl hr=>grind
 | exact a _ _ _ h=>grind
 | own nm _ e m a _ cap _ ho hm hv h=>grind
 | fam b i _ e m a _ cap _ hi ho hm hv h=>grind
theorem HY(s:ByteArray)(k:Nat)(hk:k<(Bo s).length):(Lib.strCells s).getD k undef = .int .u8 ((Bo s).getD k 0):=by
 grind [List.getD,GP,Bo,Sj,Lib.strCells]
theorem UH(h:Rel Γ σ I θ a w)(hd:∀ d,o.dst=some d->d<Γ.n){xs:Array Operand}{x y:Operand}{ts:Array TypeId}(ho:o.op = .call { callee:=.builtin .append,args:=xs,argTypes:=ts })(hxs:xs.toList=[x,y])
  {vs:List AV} {es:List (Option Own)} (hvs:RepL I σ.own θ w [a.eval x,a.eval y] vs) (hes:es=(Ce o vs).map σ.own) {d:Nat} (hdst:o.dst=some d) {e:Eff} (he:DJ P d ts.toList vs es=some e) (hob:∀ p∈e.ob,p) :
  C3 P Γ σ o a w e.v e.wo:=by
 obtain⟨u,v,rfl,hu,hv⟩:=hvs.two;unfold DJ at he
 split at he
 ·rename_i _ _ _ t t' sz n f tag s eo hts hvv
  simp only[Cl,Bf]at hvv;obtain⟨rfl,rfl⟩:=hvv
  split at he
  ·rename_i el hun hun'
   generalize hcond:(lp P el&&Nat.ble (((P.info? el).map (·.bytes)).getD 1000) 128&&(match(P.info? el).bind (·.zero) with|some (.int .u8 0)=>true|_=>false)&&(Nat.beq sz 1 || Nat.beq n 0))=cond0 at he
   cases cond0 with
   | false=>simp at he
   | true=>
    simp only[Ae]at he;simp only[A6]at hcond;obtain⟨⟨⟨h8,hby⟩,hzz⟩,hsz⟩:=hcond
    have hT:Bj P el=true/\A0 P el=1:=by
     unfold lp at h8
     split at h8
     ·simp_all
     ·cases h8
    obtain⟨i,dd,hi,_,hsi⟩:=Tg hT.1;have hs1:i.size=1:=hsi.symm.trans hT.2
    have hz:i.zero=some (.int .u8 0):=by
     rw[hi,Ar]at hzz
     split at hzz
     ·assumption
     ·cases hzz
    simp only[hi,W1,AB]at hby
    have hby:=G6 hby
    obtain⟨b,hb,rfl⟩:=hv.str_inv;have hlen:(Bo b).length=b.size:=Dk b;have hV:=Tx hu.slice_val (Zv hsz)
    obtain rfl:ts = #[t,t']:=by grind
    obtain rfl:xs = #[x,y]:=by grind
    have hV:RepV I w (a.eval x) (.slice i.size n f .none):=by rw[hs1];exact hV
    have hl':(Lib.strCells b).length=(Bo b).length*i.size:=by rw[Lib.strCells_length,hlen,hs1,R3]
    have hf':∀ k,k<(Bo b).length->(jH (Bo b) k).length=i.size:=λk _=>by rw[hs1];rfl
    have hr':∀ k c,k<(Bo b).length->c<i.size->RepV I w ((Lib.strCells b).getD (k*i.size+c) undef) ((jH (Bo b) k).getD c .any):=λk c hk hc=>by
     rw[hs1]at hc
     obtain rfl:c=0:=by omega
     rw[hs1,R3,Ls,HY b k hk];exact .int _ _
    have hruns:=λ(hroom:n+b.size<=room) (ad:Option Addr) (cap:Nat) (cs:List Value) (hl:cs.length=n*i.size) (hcap:n<=cap) (hnn:ad=none->cap=0) (hc:0<n->∃ b,ad=some b/\∀ j u,cs[j]?=some u->w.cell? (b.add j)=some u)=>
     S1 (P:=P) (w:=w) (n:=n) (cap:=cap) (ad:=ad) (cs:=cs) o.type hun hun' hi hz hs1 b hl hcap hnn hc hroom hby
    rw[<- hlen,<- hb]at hruns
    have hexec:∀ v w',(Builtin.append_ #[t,t'] o.type #[a.eval x,a.eval y]).run P w = .ok v w'->(execOp a.eval o).run P w = .ok (.value v) w':=λv w' hr=>by
     simp[execOp,ho,resolve,invoke,builtin,hr]
    split at he
    ·rename_i nm sz0 e0 m
     cases hc0:(Nat.beq sz0 1&&Nat.beq e0 el) with
     | false=>grind
     | true=>
      simp only[hc0,Ae,Af]at he;subst he;simp only[A6]at hc0;obtain rfl:=B2 hc0.1;obtain rfl:=B2 hc0.2;have hmn:m=n:=hob _ (by simp);have hroom:n+(Bo b).length<=room:=hob _ (by simp);subst hmn
      have hown:σ.own nm=some (.tok i.size e0 m):=by
       rw[hs1]
       simpa [Ce,ho] using hes.symm
      have hown1:σ.own nm=some (.tok 1 e0 m):=by rw[hown,hs1]
      have hcase:=hu.own_inv hown1;obtain⟨v',w',I',θ',hr,hk,hrep⟩:=Ov (P:=P) h o.type hun hi hz (by rw[hs1];rfl) hby hV hl' (Lib.strCells_oneCell b) hf' hr' hroom (hruns hroom) nm (λhn=>by grind) (.inr ⟨hown,hcase⟩);rw[hs1]at hk hrep;exact F5 h hd (hexec _ _ hr) (by rw[Bk];exact hk) (by grind [Bk])
    ·simp only[Af]at he;subst he;have hroom:n+(Bo b).length<=room:=hob _ (by simp)
     have hown:σ.own d=none:=by
      simpa [Ce,ho,hdst] using hes.symm
     have hcase:=hu.exact_inv;obtain⟨v',w',I',θ',hr,hk,hrep⟩:=Ov (P:=P) h o.type hun hi hz (by rw[hs1];rfl) hby hV hl' (Lib.strCells_oneCell b) hf' hr' hroom (hruns hroom) d (λ_=>hob _ (by simp)) (.inl ⟨hown,hcase⟩);rw[hs1]at hk hrep;exact F5 h hd (hexec _ _ hr) (by rw[Bk];exact hk) (by grind [Bk])
    grind
  grind
 grind
theorem Pe{t e:TypeId}{x:Addr}(ht:P.underlying t=some (.pointer e)):(Op.equal t (.pointer (some x)) (.pointer none)).run P w = .ok false w:=by
 have h:∀ d ,(Op.equalIn (d+1) t (.pointer (some x)) (.pointer none)).run P w = .ok false w:=λd=>by simp[Op.equalIn,Ds ht]
 exact h _
theorem Pd{t e:TypeId}(ht:P.underlying t=some (.pointer e)):(Op.equal t (.pointer none) (.pointer none)).run P w = .ok true w:=by
 have h:∀ d ,(Op.equalIn (d+1) t (.pointer none) (.pointer none)).run P w = .ok true w:=λd=>by simp[Op.equalIn,Ds ht]
 exact h _
theorem T5{t:TypeId}{ms:Array (String×TypeId)}(ht:P.underlying t=some (.interface ms)):(Op.equal t .nilIface .nilIface).run P w = .ok true w:=by
 have h:∀ d ,(Op.equalIn (d+1) t .nilIface .nilIface).run P w = .ok true w:=λd=>by simp[Op.equalIn,Ds ht]
 exact h _
theorem T4{t u:TypeId}{x:Value}{ms:Array (String×TypeId)}(ht:P.underlying t=some (.interface ms)):(Op.equal t (.iface u x) .nilIface).run P w = .ok false w:=by
 have h:∀ d ,(Op.equalIn (d+1) t (.iface u x) .nilIface).run P w = .ok false w:=λd=>by simp[Op.equalIn,Ds ht]
 exact h _
theorem OJ(h:Rel Γ σ I θ a w)(hd:∀ d,o.dst=some d->d<Γ.n){vs:List AV}(hvs:RepL I σ.own θ w (o.op.operands.toList.map a.eval) vs){es:List (Option Own)}(hes:es=(Ce o vs).map σ.own)
  {hint:Bool} {e:Eff} (he:cQ P hint o vs es=some e) (hob:∀ p∈e.ob,p):C3 P Γ σ o a w e.v e.wo:=by
 unfold cQ at he
 split at he
 ·
  rename_i t x s ho
  simp only[ho,Op.operands,Bu,Cf]at hvs;obtain⟨u,hu',hu⟩:=hvs.one;simp only[Cl,Bf]at hu';subst hu'
  split at he
  ·rename_i d hdst hty
   simp only[Af]at he;subst he
   have hn:σ.own d=none:=by simpa [Ce,ho,hdst] using hes.symm
   obtain⟨b,hb,rfl⟩:=hu.str_inv;have k:=Nw h.chg.rel h.chg.valid hn (ob:=.stringIter b 0) (.iter b 0);refine F5 h hd (v:=.pointer (some ⟨w.heap.size,0,none⟩)) (w':=w.alloc (.stringIter b 0)) ?_ (by rw[Bk];exact k) ?_
   ·simp only[execOp,ho,hb];rw[show(Instr.range t (.string b))=Instr.range t (.string b) from rfl];simp[Instr.range,Ds hty]
   ·rw[Bk];exact .optr d d (.iter (Bo b) 0) w.heap.size 0 (by simp[An]) (by simp[thUp])
  grind
 ·
  rename_i x nm mm l p ho
  simp only[ho,Op.operands,Bu,Cf]at hvs;obtain⟨u,hu',hu⟩:=hvs.one;simp only[Cl,Bf]at hu';subst hu';simp only[Af]at he;subst he
  have hown:σ.own nm=some (.obj (.iter l p)):=by simpa [Ce,ho] using hes.symm
  obtain⟨y,g,c,ho',hg,hv⟩:=hu.optr_inv
  obtain⟨ob,h2,h3⟩:∃ ob,w.heap[g]?=some ob/\ObjR I σ.own θ w ob (.iter l p):=by
   rcases h.chg.rel.obj nm _ hown with⟨g',c',ob,h1,h2,h3,h4⟩|⟨h1,_⟩
   ·grind
   grind
  cases h3 with
  | iter s=>
   have hsz:(Bo s).length=s.size:=Dk s
   by_cases hp:p<s.size
   ·have hb:Nat.blt p (Bo s).length=true:=by rw[hsz,Gz];exact hp
    have k:=Nx h.chg.rel h.chg.valid hown hg (ob:=.stringIter s (p+(Utf8.decode s p).2)) (.iter s (p+(Utf8.decode s p).2))
    have es:RI (Bo s) p=p+(Utf8.decode s p).2:=by unfold RI;grind [IM]
    rw[es,hb];refine F5 h hd (v:=.tuple #[.bool true,.int .i64 p,.int .i32 (eZ (Bo s) p)]) (w':=On w g (.stringIter s (p+(Utf8.decode s p).2))) ?_ (by rw[Bk];exact k) (.val _ _ (.nxt1 _ _));simp only[execOp,ho,hv];simp[Instr.next,getObj,setObj,Sem.run,h2,hp,goInt,On,eZ,IM]
   ·have hb:Nat.blt p (Bo s).length=false:=by
     cases hq:Nat.blt p (Bo s).length with
     | false=>rfl
     | true=>rw[Gz,hsz]at hq;exact absurd hq hp
    have es:RI (Bo s) p=p:=by unfold RI;rw[hb,Az]
    rw[es,hb]
    have hup:An σ.own nm (.obj (.iter (Bo s) p))=σ.own:=by
     funext k
     simp only[An]
     split
     ·rename_i e;rw[e,hown]
     ·rfl
    refine F5 h hd (v:=.tuple #[.bool false]) (w':=w) (I':=I) (θ':=θ) ?_ (by rw[Bk,hup];exact .refl h.chg.rel h.chg.valid) (.val _ _ (.nxt0 _ _));simp only[execOp,ho,hv];simp[Instr.next,getObj,Sem.run,h2,hp]
 ·
  rename_i t ho
  split at he
  ·rename_i d len e0 z hdst hun hz
   have hn:σ.own d=none:=by simpa [Ce,ho,hdst] using hes.symm
   cases hb:(hint&&Bj P e0&&Nat.ble 1 len&&Nat.beq z.length (len*A0 P e0)&&Nat.ble len room) with
   | false=>grind
   | true=>
    simp only[hb,Ae,Af]at he;subst he;simp only[A6]at hb
    grind [G6,B2,AZ]
  ·rename_i d fs z hdst hun hz
   have hn:σ.own d=none:=by simpa [Ce,ho,hdst] using hes.symm
   cases hb:(hint&&Nat.blt 500 (A0 P t)&&Nat.beq z.length (1*A0 P t)) with
   | false=>rw[hb]at he;cases he
   | true=>
    simp only[hb,Ae,Af]at he;subst he;simp only[A6]at hb;exact AZ (e:=t) h hd ho hdst hn hz (zzL7 _) (B2 hb.2) (by decide)
  grind
 ·
  rename_i t x cs ho
  simp only[ho,Op.operands,Bu,Cf]at hvs;obtain⟨u,hu',hu⟩:=hvs.one;simp only[Cl,Bf]at hu';subst hu'
  split at he
  ·rename_i d len e0 hdst hun
   have hn:σ.own d=none:=by simpa [Ce,ho,hdst] using hes.symm
   cases hb:(hint&&Bj P e0&&Nat.ble 1 len&&Nat.beq cs.length (len*A0 P e0)&&Nat.ble len room) with
   | false=>grind
   | true=>
    simp only[hb,Ae,Af]at he;subst he;simp only[A6]at hb
    grind [G6,JM,B2]
  ·rename_i d fs hdst hun
   have hn:σ.own d=none:=by simpa [Ce,ho,hdst] using hes.symm
   cases hb:(hint&&Nat.blt 500 (A0 P t)&&Nat.beq cs.length (1*A0 P t)) with
   | false=>rw[hb]at he;cases he
   | true=>
    simp only[hb,Ae,Af]at he;subst he;simp only[A6]at hb;exact JM (e:=t) h hd ho hdst hn hu (zzL7 _) (B2 hb.2) (by decide)
  grind
 ·
  rename_i t x y nm n k i sz e' m f ho
  simp only[ho,Op.operands,Bu,Cf]at hvs;obtain⟨u,v,hu',hu,hv⟩:=hvs.two;simp only[Cl,Bf]at hu';obtain⟨rfl,rfl⟩:=hu'
  have hown:σ.own nm=some (.arr sz e' m f):=by simpa [Ce,ho] using hes.symm
  split at he
  ·rename_i len e0 hun
   cases hB:Nat.blt 500 sz with
   | true=>
    cases hT:Bj P e0 with
    | false=>simp[hB,hT]at he
    | true=>
     simp only[hB,hT,Ae,Eff.pure,Af]at he;subst he;exact X5 h hd ho hun hT hu hv (hob _ (by simp))
   | false=>
   simp only[hB,Az]at he
   cases hb:(Bj P e0&&Nat.beq n len&&Nat.beq sz (A0 P e0)) with
   | false=>grind
   | true=>
    simp only[hb,Ae,Eff.pure,Af]at he;subst he;simp only[A6]at hb;obtain rfl:=B2 hb.1.2;exact HO h hd ho hun hb.1.1 hu hv (hob _ (by simp)) hown (B2 hb.2)
  grind
 ·
  rename_i t x y nm n p q k i sz e' m f hnp ho
  simp only[ho,Op.operands,Bu,Cf]at hvs;obtain⟨u,v,hu',hu,hv⟩:=hvs.two;simp only[Cl,Bf]at hu';obtain⟨rfl,rfl⟩:=hu'
  split at he
  ·rename_i len e0 hun
   cases hB:(Nat.blt 500 sz&&Bj P e0) with
   | false=>simp[hB]at he
   | true=>
    simp only[hB,Ae,Eff.pure,Af]at he;subst he;simp only[A6]at hB;exact X5 h hd ho hun hB.2 hu hv (hob _ (by simp))
  ·simp at he
 ·
  rename_i x b i r ho
  simp only[ho,Op.operands,Bu,Cf]at hvs;obtain⟨u,hu',hu⟩:=hvs.one;simp only[Cl,Bf]at hu';subst hu';simp only[Eff.pure,Af]at he;subst he;rcases hu.nxt_inv with⟨rfl,hv⟩|⟨rfl,hv⟩<;>exact Ak h hd (by simp[execOp,ho,hv,Instr.extract]) (.val _ _ (.bool _))
 ·
  rename_i x b i r ho
  simp only[ho,Op.operands,Bu,Cf]at hvs;obtain⟨u,hu',hu⟩:=hvs.one;simp only[Cl,Bf]at hu';subst hu';simp only[Eff.pure,Af]at he;subst he;rcases hu.nxt_inv with⟨rfl,hv⟩|⟨hb,hv⟩
  ·exact Ak h hd (by simp[execOp,ho,hv,Instr.extract]) (.val _ _ (.int _ _))
  simp_all
 ·
  rename_i x b i r ho
  simp only[ho,Op.operands,Bu,Cf]at hvs;obtain⟨u,hu',hu⟩:=hvs.one;simp only[Cl,Bf]at hu';subst hu';simp only[Eff.pure,Af]at he;subst he;rcases hu.nxt_inv with⟨rfl,hv⟩|⟨hb,hv⟩
  ·exact Ak h hd (by simp[execOp,ho,hv,Instr.extract]) (.val _ _ (.int _ _))
  simp_all
 ·
  rename_i xs ts sz n f tg s eo ho
  split at he
  ·rename_i d hdst
   have this:o.op.operands.toList.map a.eval=xs.toList.map a.eval:=by rw[ho];simp[Op.operands,Call.operands]
   rw[this]at hvs
   cases hl:xs.toList with
   | nil=>rw[hl]at hvs;cases hvs
   | cons x l=>
    cases l with
    | nil=>rw[hl]at hvs;trivial
    | cons y l'=>
     cases l' with
     | nil=>grind [UH]
     | cons _ _=>rw[hl]at hvs;trivial
  grind
 ·
  rename_i t x y b u' ho
  simp only[ho,Op.operands,Bu,Cf]at hvs;obtain⟨u,v,hu',hu,hv⟩:=hvs.two;simp only[Cl,Bf]at hu';obtain⟨rfl,rfl⟩:=hu'
  split at he
  ·rename_i ms hun
   simp only[Eff.pure,Af]at he;subst he;have he:a.eval (.const .nilIface) = .nilIface:=rfl;rcases hu.err_inv with⟨rfl,hv⟩|⟨rfl,t',z,hv⟩
   ·exact Ak h hd (v:=.bool true) (by simp_all [T5,execOp,eqGuard_nil_constR,binOp]) (.val _ _ (.bool _))
   ·exact Ak h hd (v:=.bool false) (by simp_all [eqGuard_at_iface,execOp,binOp,T4]) (.val _ _ (.bool _))
  grind
 ·
  rename_i t x y b u' ho
  simp only[ho,Op.operands,Bu,Cf]at hvs;obtain⟨u,v,hu',hu,hv⟩:=hvs.two;simp only[Cl,Bf]at hu';obtain⟨rfl,rfl⟩:=hu'
  split at he
  ·rename_i ms hun
   simp only[Eff.pure,Af]at he;subst he;have he:a.eval (.const .nilIface) = .nilIface:=rfl;rcases hu.err_inv with⟨rfl,hv⟩|⟨rfl,t',z,hv⟩
   ·exact Ak h hd (v:=.bool false) (by simp_all [T5,execOp,eqGuard_nil_constR,binOp]) (.val _ _ (.bool _))
   ·exact Ak h hd (v:=.bool true) (by simp_all [eqGuard_at_iface,execOp,binOp,T4]) (.val _ _ (.bool _))
  grind
 ·
  rename_i t x y sz n f tg u' ho
  simp only[ho,Op.operands,Bu,Cf]at hvs;obtain⟨u,v,hu',hu,hv⟩:=hvs.two;simp only[Cl,Bf]at hu';obtain⟨rfl,rfl⟩:=hu'
  split at he
  ·rename_i e1 hun
   simp only[Eff.pure,Af]at he;subst he;obtain⟨ad,cap,hv,hn⟩:=Vu hu
   have hg:∀ op,(eqGuard op t x (.const (.slice none 0 0)) (.slice ad n cap) (.slice none 0 0)).run P w = .ok () w:=λop=>by cases op<;>rfl
   have he:a.eval (.const (.slice none 0 0)) = .slice none 0 0:=rfl;exact Ak h hd (v:=.bool ad.isNone) (by simp_all [execOp,run_equal_slice_nil,binOp]) (.val _ _ (.nilq _ _ _ (λhb=>hn (by simp_all))))
  grind
 ·
  rename_i t x y sz n f tg u' ho
  simp only[ho,Op.operands,Bu,Cf]at hvs;obtain⟨u,v,hu',hu,hv⟩:=hvs.two;simp only[Cl,Bf]at hu';obtain⟨rfl,rfl⟩:=hu'
  split at he
  ·rename_i e1 hun
   simp only[Eff.pure,Af]at he;subst he;obtain⟨ad,cap,hv,hn⟩:=Vu hu
   have hg:∀ op,(eqGuard op t x (.const (.slice none 0 0)) (.slice ad n cap) (.slice none 0 0)).run P w = .ok () w:=λop=>by cases op<;>rfl
   have he:a.eval (.const (.slice none 0 0)) = .slice none 0 0:=rfl;exact Ak h hd (v:=.bool (!ad.isNone)) (by simp_all [execOp,run_equal_slice_nil,binOp]) (.val _ _ (.nilq _ _ _ (λhb=>hn (by simp_all))))
  grind
 ·
  rename_i t x y nm off u' ho
  simp only[ho,Op.operands,Bu,Cf]at hvs;obtain⟨u,v,hu',hu,hv⟩:=hvs.two;simp only[Cl,Bf]at hu';obtain⟨rfl,rfl⟩:=hu'
  split at he
  ·rename_i e1 hun
   simp only[Eff.pure,Af]at he;subst he;have he:a.eval (.const (.pointer none)) = .pointer none:=rfl;obtain⟨_,_,g,c,_,_,hv⟩:=hu.ptr_inv
   have hg:∀ op,(eqGuard op t x (.const (.pointer none)) (.pointer (some ⟨g,off,none⟩)) (.pointer none)).run P w = .ok () w:=λop=>by cases op<;>rfl
   exact Ak h hd (v:=.bool false) (by simp_all [execOp,Pe,binOp]) (.val _ _ (.bool _))
  grind
 ·
  rename_i t x y nm off u' ho
  simp only[ho,Op.operands,Bu,Cf]at hvs;obtain⟨u,v,hu',hu,hv⟩:=hvs.two;simp only[Cl,Bf]at hu';obtain⟨rfl,rfl⟩:=hu'
  split at he
  ·rename_i e1 hun
   simp only[Eff.pure,Af]at he;subst he;have he:a.eval (.const (.pointer none)) = .pointer none:=rfl;obtain⟨_,_,g,c,_,_,hv⟩:=hu.ptr_inv
   have hg:∀ op,(eqGuard op t x (.const (.pointer none)) (.pointer (some ⟨g,off,none⟩)) (.pointer none)).run P w = .ok () w:=λop=>by cases op<;>rfl
   exact Ak h hd (v:=.bool true) (by simp_all [execOp,Pe,binOp]) (.val _ _ (.bool _))
  grind
 ·
  rename_i t x y u' ho
  simp only[ho,Op.operands,Bu,Cf]at hvs;obtain⟨u,v,hu',hu,hv⟩:=hvs.two;simp only[Cl,Bf]at hu';obtain⟨rfl,rfl⟩:=hu'
  split at he
  ·rename_i e1 hun
   simp only[Eff.pure,Af]at he;subst he;have he:a.eval (.const (.pointer none)) = .pointer none:=rfl;have hv:=hu.nilp_inv
   have hg:∀ op,(eqGuard op t x (.const (.pointer none)) (.pointer none) (.pointer none)).run P w = .ok () w:=λop=>by cases op<;>rfl
   exact Ak h hd (v:=.bool true) (by simp_all [execOp,Pd,binOp]) (.val _ _ (.bool _))
  grind
 ·
  rename_i t x y u' ho
  simp only[ho,Op.operands,Bu,Cf]at hvs;obtain⟨u,v,hu',hu,hv⟩:=hvs.two;simp only[Cl,Bf]at hu';obtain⟨rfl,rfl⟩:=hu'
  split at he
  ·rename_i e1 hun
   simp only[Eff.pure,Af]at he;subst he;have he:a.eval (.const (.pointer none)) = .pointer none:=rfl;have hv:=hu.nilp_inv
   have hg:∀ op,(eqGuard op t x (.const (.pointer none)) (.pointer none) (.pointer none)).run P w = .ok () w:=λop=>by cases op<;>rfl
   exact Ak h hd (v:=.bool false) (by simp_all [execOp,Pd,binOp]) (.val _ _ (.bool _))
  grind
 ·
  rename_i t len parts ho
  cases hint with
  | false=>simp at he
  | true=>
   simp only[Ae]at he
   split at he
   ·rename_i d hdst
    have hn:σ.own d=none:=by simpa [Ce,ho,hdst] using hes.symm
    have hvs':=hvs;rw[show o.op.operands.toList.map a.eval=parts.toList.map (λp=>a.eval p.2) by simp[ho,Op.operands,List.map_map,Wx]]at hvs';exact QD h hd ho hdst hn (CW _ _ hvs') he
   grind
 grind
end
end
end Go.Proofs.YtjpnobeadcdnoaaGreat
