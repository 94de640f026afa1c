/-
  The machine, the program's functions and the laws' arithmetic: part 1 of 6.
-/
import Derived.Laws.BytesString
import Derived.Laws.Cells
import Derived.Laws.Cover3
import Derived.Laws.RangeAny
import Derived.Laws.Strings
import Derived.Lib.FrozenHead
import Derived.WalkKit
import Derived.WalkMore
set_option linter.unusedSectionVars false
set_option linter.defProp false
set_option linter.unusedVariables false
set_option linter.unusedSimpArgs false
namespace Go.Proofs.YtjpnobeadcdnoaaGreat
noncomputable section
theorem Aj:type_of% @Option.some.injEq:=@Option.some.injEq
theorem Ai:type_of% @Option.bind_some:=@Option.bind_some
theorem Ae:type_of% @cond_true:=@cond_true
theorem An:type_of% @cond_false:=@cond_false
theorem Be:type_of% @Bool.and_eq_true:=@Bool.and_eq_true
theorem Cq:type_of% @Nat.eq_of_beq_eq_true:=@Nat.eq_of_beq_eq_true
theorem Ec:type_of% @Int.toNat_natCast:=@Int.toNat_natCast
theorem zzL7:type_of% @Nat.le_refl:=@Nat.le_refl
theorem Dq:type_of% @List.cons.injEq:=@List.cons.injEq
theorem Cy:type_of% @List.map_cons:=@List.map_cons
theorem Bv:type_of% @decide_eq_true:=@decide_eq_true
theorem B7:type_of% @decide_eq_false:=@decide_eq_false
theorem Em:type_of% @Nat.mul_le_mul_right:=@Nat.mul_le_mul_right
theorem Cl:type_of% @Go.run_underlying:=@Go.run_underlying
theorem En:type_of% @decide_eq_true_eq:=@decide_eq_true_eq
theorem Fh:type_of% @Go.Result.andThen_ok:=@Go.Result.andThen_ok
theorem Gk:type_of% @List.length_append:=@List.length_append
theorem zzL17:type_of% @beq_eq_false_iff_ne:=@beq_eq_false_iff_ne
theorem zzL18:type_of% @List.mem_append:=@List.mem_append
theorem Dn:type_of% @List.map_nil:=@List.map_nil
theorem Bz:type_of% @and_true:=@and_true
theorem K1:type_of% @Nat.le_of_ble_eq_true:=@Nat.le_of_ble_eq_true
theorem Ed:type_of% @Go.Sem.run_bind:=@Go.Sem.run_bind
theorem E7:type_of% @Bool.not_true:=@Bool.not_true
theorem zzL24:type_of% @List.mem_singleton:=@List.mem_singleton
theorem G9:type_of% @List.length_set:=@List.length_set
theorem Ci:type_of% @congrArg:=@congrArg
theorem zzL27:type_of% @List.mem_map:=@List.mem_map
theorem zzL28:type_of% @List.mem_cons:=@List.mem_cons
theorem E8:type_of% @Nat.add_mul:=@Nat.add_mul
theorem zzL30:type_of% @List.all_eq_true:=@List.all_eq_true
theorem Nf:type_of% @List.mem_cons_of_mem:=@List.mem_cons_of_mem
theorem Ss:type_of% @Array.getD_eq_getD_getElem?:=@Array.getD_eq_getD_getElem?
theorem Ha:type_of% @Nat.zero_add:=@Nat.zero_add
theorem Hb:type_of% @Go.Sem.run_pure:=@Go.Sem.run_pure
theorem Js:type_of% @List.drop_zero:=@List.drop_zero
theorem Tf:type_of% @List.getElem?_eq_getElem:=@List.getElem?_eq_getElem
theorem Qv:type_of% @List.range_eq_range':=@List.range_eq_range'
theorem Qw:type_of% @List.getElem_of_mem:=@List.getElem_of_mem
theorem Ly:type_of% @Bool.true_and:=@Bool.true_and
theorem Mr:type_of% @Bool.not_false:=@Bool.not_false
theorem Px:type_of% @List.append_assoc:=@List.append_assoc
theorem Ms:type_of% @Prod.mk.injEq:=@Prod.mk.injEq
theorem W8:type_of% @List.drop_eq_getElem_cons:=@List.drop_eq_getElem_cons
theorem zzL44:type_of% @List.mem_range:=@List.mem_range
theorem Uq:type_of% @List.length_replicate:=@List.length_replicate
theorem Ok:type_of% @Go.run_sliceBound:=@Go.run_sliceBound
theorem Zc:type_of% @List.getElem?_append_left:=@List.getElem?_append_left
theorem K2:type_of% @Nat.blt_eq:=@Nat.blt_eq
theorem Su:type_of% @Bool.not_eq_true':=@Bool.not_eq_true'
theorem Hz:type_of% @if_false:=@if_false
theorem zzL51:type_of% @List.mem_cons_self:=@List.mem_cons_self
theorem CM:type_of% @List.getElem?_append_right:=@List.getElem?_append_right
theorem EU:type_of% @List.getD_eq_getElem?_getD:=@List.getD_eq_getElem?_getD
theorem Ur:type_of% @List.flatMap_cons:=@List.flatMap_cons
theorem O3:type_of% @Go.Addr.add_lit:=@Go.Addr.add_lit
theorem EV:type_of% @Go.heap_alloc_new:=@Go.heap_alloc_new
theorem Us:type_of% @Nat.not_lt_zero:=@Nat.not_lt_zero
theorem Vp:type_of% @beq_self_eq_true:=@beq_self_eq_true
theorem Vq:type_of% @List.length_cons:=@List.length_cons
theorem Py:type_of% @Go.cell_of_row:=@Go.cell_of_row
theorem zzL61:type_of% @beq_iff_eq:=@beq_iff_eq
theorem Vr:type_of% @Bool.or_eq_true:=@Bool.or_eq_true
theorem EW:type_of% @List.length_singleton:=@List.length_singleton
theorem CN:type_of% @Int.toNat_of_nonneg:=@Int.toNat_of_nonneg
theorem Zd:type_of% @List.length_range:=@List.length_range
theorem Sv:type_of% @Nat.add_zero:=@Nat.add_zero
theorem Rh:type_of% @Nat.zero_le:=@Nat.zero_le
theorem zzL68:type_of% @Nat.eq_zero_or_pos:=@Nat.eq_zero_or_pos
theorem Ut:type_of% @Nat.add_assoc:=@Nat.add_assoc
theorem W9:type_of% @List.nil_append:=@List.nil_append
theorem Tg:type_of% @Nat.le_trans:=@Nat.le_trans
theorem zzL72:type_of% @List.mem_flatMap:=@List.mem_flatMap
theorem Lz:type_of% @if_true:=@if_true
theorem Ze:type_of% @List.length_map:=@List.length_map
theorem zzL75:type_of% @bne_iff_ne:=@bne_iff_ne
theorem zzL76:type_of% @decide_eq_decide:=@decide_eq_decide
theorem YO:type_of% @List.eq_nil_of_length_eq_zero:=@List.eq_nil_of_length_eq_zero
theorem EX:type_of% @of_decide_eq_true:=@of_decide_eq_true
theorem zzL79:type_of% @Option.isSome_iff_exists:=@Option.isSome_iff_exists
theorem zzL80:type_of% @List.contains_iff_mem:=@List.contains_iff_mem
theorem zzL81:type_of% @List.nodup_cons:=@List.nodup_cons
theorem IY:type_of% @Bool.false_eq_true:=@Bool.false_eq_true
theorem TG:type_of% @decide_eq_false_iff_not:=@decide_eq_false_iff_not
theorem EY:type_of% @List.range'_succ:=@List.range'_succ
theorem Th:type_of% @Array.ext':=@Array.ext'
theorem NL:type_of% @Go.World.cell?_of_block:=@Go.World.cell?_of_block
theorem EZ:type_of% @List.ext_getElem:=@List.ext_getElem
theorem Ol:type_of% @Ne.symm:=@Ne.symm
theorem zzL89:type_of% @Option.map_eq_some_iff:=@Option.map_eq_some_iff
theorem zzL90:type_of% @List.mem_filter:=@List.mem_filter
theorem TH:type_of% @Nat.div_lt_iff_lt_mul:=@Nat.div_lt_iff_lt_mul
theorem TI:type_of% @Bool.or_eq_false_iff:=@Bool.or_eq_false_iff
theorem IZ:type_of% @Nat.div_add_mod:=@Nat.div_add_mod
theorem JA:type_of% @List.range_succ:=@List.range_succ
theorem CO:type_of% @Nat.mul_comm:=@Nat.mul_comm
theorem FA:type_of% @Nat.lt_irrefl:=@Nat.lt_irrefl
theorem FB:type_of% @Bool.and_self:=@Bool.and_self
theorem FC:type_of% @List.all_cons:=@List.all_cons
theorem NM:type_of% @List.length_drop:=@List.length_drop
theorem CI:type_of% @List.take_length:=@List.take_length
theorem ba:type_of% @List.take_succ_eq_append_getElem:=@List.take_succ_eq_append_getElem
theorem CJ:type_of% @List.cons_append:=@List.cons_append
theorem Yr:type_of% @Bool.false_and:=@Bool.false_and
theorem zzL104:type_of% @List.pairwise_cons:=@List.pairwise_cons
theorem zzL105:type_of% @List.pairwise_iff_getElem:=@List.pairwise_iff_getElem
theorem CK:type_of% @Bool.eq_iff_iff:=@Bool.eq_iff_iff
theorem GH:type_of% @Function.comp_def:=@Function.comp_def
theorem zzL108:type_of% @Option.bind_eq_some_iff:=@Option.bind_eq_some_iff
theorem zzL109:type_of% @List.length_eq_zero_iff:=@List.length_eq_zero_iff
theorem LG:type_of% @Array.length_toList:=@Array.length_toList
theorem GI:type_of% @List.length_take:=@List.length_take
theorem GJ:type_of% @Option.getD_some:=@Option.getD_some
theorem LH:type_of% @List.filter_append:=@List.filter_append
theorem bb:type_of% @Classical.byContradiction:=@Classical.byContradiction
theorem Ys:type_of% @Nat.mul_one:=@Nat.mul_one
theorem LI:type_of% @List.getElem_mem:=@List.getElem_mem
theorem CL:type_of% @Nat.sub_zero:=@Nat.sub_zero
theorem LJ:type_of% @List.map_append:=@List.map_append
theorem LK:type_of% @List.foldl_cons:=@List.foldl_cons
theorem LL:type_of% @Option.map_some:=@Option.map_some
theorem TC:type_of% @Go.Value.slice.injEq:=@Go.Value.slice.injEq
theorem TD:type_of% @List.getElem?_map:=@List.getElem?_map
theorem S8:type_of% @Go.wp_mono:=@Go.wp_mono
theorem zzL124:type_of% @List.pairwise_append:=@List.pairwise_append
theorem zzL125:type_of% @List.mem_reverse:=@List.mem_reverse
theorem LM:type_of% @Int.ofNat.inj:=@Int.ofNat.inj
theorem LN:type_of% @Bool.and_true:=@Bool.and_true
theorem bc:type_of% @List.map_congr_left:=@List.map_congr_left
theorem LO:type_of% @Go.setRow_other:=@Go.setRow_other
theorem Wb:type_of% @eq_comm:=@eq_comm
theorem GK:type_of% @Go.step_scope:=@Go.step_scope
theorem be:type_of% @List.size_toArray:=@List.size_toArray
theorem LP:type_of% @Go.setRow_heap:=@Go.setRow_heap
theorem TE:type_of% @Bool.false_or:=@Bool.false_or
theorem TF:type_of% @List.sum_cons:=@List.sum_cons
theorem zzL136:type_of% @Nat.lt_or_ge:=@Nat.lt_or_ge
theorem OI{α:Type}{a b:α}(h:some a=some b):a=b:=Option.some.inj h
open Go Go.RowKit
def Ck(s:ByteArray):List Int:=s.data.toList.map λb=>(b.toNat:Int)
inductive Tag where
 | none
 | exact
 | own (nm:Nat)
 | fam (b i:Nat)
inductive AV where
 | any
 | undef
 | int (k:IntKind) (n:Int)
 | bool (b:Bool)
 | str (s:List Int)
 | nilp
 | cond (c:Bool) (x:AV)
 | ptr (nm off:Nat)
 | rptr (cells:List AV)
 | slice (sz n:Nat) (f:Nat->List AV) (tag:Tag)
 | agg (cs:List AV)
 | tuple (vs:List AV)
 | vsl (nm n:Nat)
 | vpt (nm n i j:Nat)
 | clo (f:Nat) (first caps:List AV)
 | vsub (nm n lo hi:Nat)
 | optr (nm mm:Nat)
 | nxt (b:Bool) (i r:Int)
 | nilq (pos:Bool) (n:Nat)
 | err (b:Bool)
 | omap (nm:Nat)
 | nilm
 | rpo (cells:List AV)
inductive AObj where
 | iter (l:List Int) (p:Nat)
 | map (nn:Bool) (k:IntKind) (l:List (Int×AV))
 | pmap (nn:Bool) (k:IntKind) (l:List (Int×AV))
 | miter (m:AV) (n:Nat) (seen:List Nat)
 | tab (k:IntKind) (l:List (Int×AV))
def gW:AObj->Prop
 | .map false _ []=>True
 | .pmap false _ []=>True
 | _=>False
def AObj.on(f:AV->AV):AObj->AObj
 | .iter l p=>.iter l p
 | .map nn k l=>.map nn k l
 | .pmap nn k l=>.pmap nn k l
 | .miter m n s=>.miter (f m) n s
 | .tab k l=>.tab k (l.map λp=>(p.1,f p.2))
def ES:Go.TypeId:=999999
def nr(e:Go.TypeId):Bool:=[(73:Nat),(96:Nat),(97:Nat),(98:Nat),(103:Nat),(141:Nat),(156:Nat),(165:Nat),(166:Nat),(215:Nat)].any (λt=>Nat.beq t e)
abbrev ye:Prop:=False
def jU:Nat->Option (List AV)
 | _=>none
def Bp:Nat:=18446744073709551616
def Sx(b i:Nat):Nat:=Bp*(b+1)+i
inductive Own where
 | row (e:TypeId) (cells:List AV)
 | tok (sz:Nat) (e:TypeId) (m:Nat)
 | arr (sz:Nat) (e:TypeId) (m:Nat) (f:Nat->List AV)
 | obj (x:AObj)
inductive RepV (I:Nat->Nat->Prop) (w:World):Value->AV->Prop
 | any (v:Value):RepV I w v .any
 | undef:RepV I w undef .undef
 | int (k:IntKind) (n:Int):RepV I w (.int k n) (.int k n)
 | bool (b:Bool):RepV I w (.bool b) (.bool b)
 | str (s:ByteArray):RepV I w (.string s) (.str (Ck s))
 | nilp:RepV I w (.pointer none) .nilp
 | nilm:RepV I w (.map none) .nilm
 | clo (f:Nat):RepV I w (.func (.func f) #[] #[]) (.clo f [] [])
 | nxt1 (i r:Int):RepV I w (.tuple #[.bool true,.int .i64 i,.int .i32 r]) (.nxt true i r)
 | nxt0 (i r:Int):RepV I w (.tuple #[.bool false]) (.nxt false i r)
 | nilq (b pos:Bool) (n:Nat) (h:b=pos->n=0):RepV I w (.bool b) (.nilq pos n)
 | err0:RepV I w .nilIface (.err false)
 | err1 (t:TypeId) (v:Value):RepV I w (.iface t v) (.err true)
 | cond (v:Value) (c:Bool) (x:AV) (h:c=true->RepV I w v x) (h':c=false->v=Go.undef):RepV I w v (.cond c x)
 | rptr (a:Addr) (cells:List AV) (us:Nat->Value) (hs:a.spot=none)
   (hI:∀ j,j<cells.length->I a.block (a.off+j)) (hc:∀ j,j<cells.length->w.cell? ⟨a.block,a.off+j,none⟩=some (us j))
   (h1:∀ j,j<cells.length->(us j).oneCell'=true) (hr:∀ j,j<cells.length->RepV I w (us j) (cells.getD j .any)):RepV I w (.pointer (some a)) (.rptr cells)
 | slice (a:Option Addr) (n cap sz:Nat) (f:Nat->List AV) (us:Nat->Value) (hcap:n<=cap) (hmax:cap<=maxLen)
   (hz:0<n->∃ b,a=some b/\b.spot=none/\(∀ j,j<n*sz->I b.block (b.off+j))/\(∀ j,j<n*sz->w.cell? ⟨b.block,b.off+j,none⟩=some (us j)))
   (hn:a=none->cap=0)
   (h1:∀ j,j<n*sz->(us j).oneCell'=true)
   (hl:∀ i,i<n->(f i).length=sz)
   (hr:∀ i c,i<n->c<sz->RepV I w (us (i*sz+c)) ((f i).getD c .any)):RepV I w (.slice a n cap) (.slice sz n f .none)
 | agg (vs:Array Value) (cs:List AV) (hl:vs.size=cs.length) (h1:∀ j,j<cs.length->(vs.getD j Go.undef).oneCell'=true)
   (hr:∀ j,j<cs.length->RepV I w (vs.getD j Go.undef) (cs.getD j .any)):RepV I w (.agg vs) (.agg cs)
 | tuple (vs:Array Value) (cs:List AV) (hl:vs.size=cs.length)
   (hr:∀ j,j<cs.length->RepV I w (vs.getD j Go.undef) (cs.getD j .any)):RepV I w (.tuple vs) (.tuple cs)
def ZN(t:Option (Nat×Nat))(n lo hi sz:Nat)(e:TypeId)(a:Option Addr)(cap:Nat):Prop:=
 (lo<hi->∃ g c,t=some (g,c)/\a=some ⟨g,lo*sz,none⟩)/\(lo=0->match t with|none=>cap=n|some (g,c)=>a=some ⟨g,0,none⟩/\(cap=c\/nr e=true))
inductive Rep (I:Nat->Nat->Prop) (own:Nat->Option Own) (θ:Nat->Option (Nat×Nat)) (w:World):Value->AV->Prop
 | val (v:Value) (x:AV) (h:RepV I w v x):Rep I own θ w v x
 | exact(a:Option Addr) (n sz:Nat) (f:Nat->List AV) (h:RepV I w (.slice a n n) (.slice sz n f .none)):Rep I own θ w (.slice a n n) (.slice sz n f .exact)
 | own (nm:Nat) (sz:Nat) (e:TypeId) (m:Nat) (a:Option Addr) (n cap:Nat) (f:Nat->List AV) (ho:own nm=some (.tok sz e m)) (hm:n<=m)
   (hv:n=m->match θ nm with|none=>cap=n|some (g,c)=>a=some ⟨g,0,none⟩/\cap=c)
   (h:RepV I w (.slice a n cap) (.slice sz n f .none)):Rep I own θ w (.slice a n cap) (.slice sz n f (.own nm))
 | fam (b i:Nat) (sz:Nat) (e:TypeId) (m:Nat) (a:Option Addr) (n cap:Nat) (f:Nat->List AV) (hi:i<Bp) (ho:own (Sx b i)=some (.tok sz e m)) (hm:n<=m)
   (hv:n=m->match θ (Sx b i) with|none=>cap=n|some (g,c)=>a=some ⟨g,0,none⟩/\cap=c)
   (h:RepV I w (.slice a n cap) (.slice sz n f .none)):Rep I own θ w (.slice a n cap) (.slice sz n f (.fam b i))
 | ptr (nm off:Nat) (e:TypeId) (cells:List AV) (g c:Nat) (ho:own nm=some (.row e cells)) (hg:θ nm=some (g,c)):Rep I own θ w (.pointer (some ⟨g,off,none⟩)) (.ptr nm off)
 | vsl (nm sz:Nat) (e:TypeId) (m:Nat) (f:Nat->List AV) (a:Option Addr) (n cap:Nat) (ho:own nm=some (.arr sz e m f)) (hm:n<=m) (hcap:n<=cap) (hmax:cap<=maxLen) (hn:a=none->cap=0)
   (hv:n=m->match θ nm with|none=>cap=n|some (g,c)=>a=some ⟨g,0,none⟩/\cap=c):Rep I own θ w (.slice a n cap) (.vsl nm n)
 | vpt (nm sz:Nat) (e:TypeId) (m:Nat) (f:Nat->List AV) (n i j:Nat) (ad:Addr) (ho:own nm=some (.arr sz e m f)) (hm:n<=m) (hi:i<n)
   (hv:n=m->∃ g c,θ nm=some (g,c)/\ad=⟨g,i*sz+j,none⟩):Rep I own θ w (.pointer (some ad)) (.vpt nm n i j)
 | clo (f:Nat) (fs cs:Array Value) (xs ys:List AV) (hl:fs.size=xs.length) (hl':cs.size=ys.length) (hr:∀ j,j<xs.length->Rep I own θ w (fs.getD j Go.undef) (xs.getD j .any))
   (hr':∀ j,j<ys.length->Rep I own θ w (cs.getD j Go.undef) (ys.getD j .any)):Rep I own θ w (.func (.func f) fs cs) (.clo f xs ys)
 | vsub (nm sz:Nat) (e:TypeId) (m:Nat) (f:Nat->List AV) (n lo hi:Nat) (a:Option Addr) (cap:Nat) (ho:own nm=some (.arr sz e m f)) (hm:n<=m) (hlo:lo<=hi) (hhi:hi<=n) (hcap:hi-lo<=cap) (hmax:cap<=maxLen) (hn:a=none->cap=0)
   (hv:n=m->ZN (θ nm) n lo hi sz e a cap):Rep I own θ w (.slice a (hi-lo) cap) (.vsub nm n lo hi)
 | optr (nm mm:Nat) (x:AObj) (g c:Nat) (ho:own nm=some (.obj x)) (hg:θ nm=some (g,c)):Rep I own θ w (.pointer (some ⟨g,0,none⟩)) (.optr nm mm)
 | omap (nm:Nat) (x:AObj) (ho:own nm=some (.obj x)):Rep I own θ w (.map ((θ nm).map (·.1))) (.omap nm)
 | cond (v:Value) (c:Bool) (x:AV) (h:c=true->Rep I own θ w v x) (h':c=false->v=Go.undef):Rep I own θ w v (.cond c x)
 | agg (vs:Array Value) (cs:List AV) (hl:vs.size=cs.length) (h1:∀ j,j<cs.length->(vs.getD j Go.undef).oneCell'=true)
   (hr:∀ j,j<cs.length->Rep I own θ w (vs.getD j Go.undef) (cs.getD j .any)):Rep I own θ w (.agg vs) (.agg cs)
 | tuple (vs:Array Value) (cs:List AV) (hl:vs.size=cs.length)
   (hr:∀ j,j<cs.length->Rep I own θ w (vs.getD j Go.undef) (cs.getD j .any)):Rep I own θ w (.tuple vs) (.tuple cs)
 | rpo (a:Addr) (cells:List AV) (us:Nat->Value) (hs:a.spot=none)
   (hI:∀ j,j<cells.length->I a.block (a.off+j)) (hc:∀ j,j<cells.length->w.cell? ⟨a.block,a.off+j,none⟩=some (us j))
   (h1:∀ j,j<cells.length->(us j).oneCell'=true) (hr:∀ j,j<cells.length->Rep I own θ w (us j) (cells.getD j .any)):Rep I own θ w (.pointer (some a)) (.rpo cells)
theorem RepV.mono{I I':Nat->Nat->Prop}{w w':World}{v:Value}{x:AV}(h:RepV I w v x)(hI:∀ b o,I b o->I' b o)
  (hw:∀ b o,I b o->w'.cell? ⟨b,o,none⟩=w.cell? ⟨b,o,none⟩):RepV I' w' v x:=by
 induction h with
 | any v=>exact .any v
 | undef=>exact .undef
 | int k n=>exact .int k n
 | bool b=>exact .bool b
 | str s=>exact .str s
 | clo f=>exact .clo f
 | nxt1 i r=>exact .nxt1 i r
 | nxt0 i r=>exact .nxt0 i r
 | nilq b pos n h=>exact .nilq b pos n h
 | err0=>exact .err0
 | err1 t v=>exact .err1 t v
 | nilp=>exact .nilp
 | nilm=>exact .nilm
 | cond v c x _ h' ih=>exact .cond v c x ih h'
 | rptr a cells us hs hI' hc h1 _ ih=>
  exact .rptr a _ us hs (λj hj=>hI _ _ (hI' j hj)) (λj hj=>(hw _ _ (hI' j hj)).trans (hc j hj)) h1 ih
 | slice a n cap sz f us hcap hmax hz hn h1 hl _ ih=>
  refine .slice a n cap sz f us hcap hmax (λhp=>?_) hn h1 hl ih
  grind
 | agg vs cs hl h1 _ ih=>exact .agg vs cs hl h1 ih
 | tuple vs cs hl _ ih=>exact .tuple vs cs hl ih
def OwnLe(o:Own)(t:Option (Nat×Nat))(o':Own)(t':Option (Nat×Nat)):Prop:=
 match o,o' with
 | .row e _,.row e' _=>e'=e/\t'=t
 | .tok sz e m,.tok sz' e' m'=>sz'=sz/\e'=e/\m<=m'/\(m=m'->t'=t)
 | .arr sz e m _,.arr sz' e' m' _=>sz'=sz/\e'=e/\m<=m'/\(m=m'->t'=t)
 | .obj _,.obj _=>t'=t
 | _,_=>False
theorem OwnLe.refl(o:Own)(t:Option (Nat×Nat)):OwnLe o t o t:=by cases o<;>simp[OwnLe]
theorem Rep.mono{I I':Nat->Nat->Prop}{own own':Nat->Option Own}{θ θ':Nat->Option (Nat×Nat)}{w w':World}{v:Value}{x:AV}
  (h:Rep I own θ w v x) (hI:∀ b o,I b o->I' b o) (hw:∀ b o,I b o->w'.cell? ⟨b,o,none⟩=w.cell? ⟨b,o,none⟩)
  (ho:∀ nm o,own nm=some o->∃ o',own' nm=some o'/\OwnLe o (θ nm) o' (θ' nm)):Rep I' own' θ' w' v x:=by
 induction h with
 | val v x h=>exact .val v x (h.mono hI hw)
 | exact a n sz f h=>exact .exact a n sz f (h.mono hI hw)
 | own nm sz e m a n cap f hn hm hv h=>
  obtain⟨o',ho',hle⟩:=ho nm _ hn
  cases o' with
  | row e cells=>trivial
  | arr=>trivial
  | obj=>trivial
  | tok sz' e' m'=>
   obtain⟨rfl,rfl,hmm,hθ⟩:=hle;refine .own nm _ _ m' a n cap f ho' (Tg hm hmm) (λhe=>?_) (h.mono hI hw)
   grind
 | fam b i sz e m a n cap f hi hn hm hv h=>
  obtain⟨o',ho',hle⟩:=ho (Sx b i) _ hn
  cases o' with
  | row e cells=>trivial
  | arr=>trivial
  | obj=>trivial
  | tok sz' e' m'=>
   obtain⟨rfl,rfl,hmm,hθ⟩:=hle;refine .fam b i _ _ m' a n cap f hi ho' (Tg hm hmm) (λhe=>?_) (h.mono hI hw)
   grind
 | ptr nm off e cells g c hn hg=>
  obtain⟨o',ho',hle⟩:=ho nm _ hn
  cases o' with
  | tok=>trivial
  | arr=>trivial
  | obj=>trivial
  | row e' cells'=>
   have e:θ' nm=θ nm:=hle.2;exact .ptr nm off e' cells' g c ho' (e.trans hg)
 | vsl nm sz e m f a n cap hn hm hcap hmax hnn hv=>
  obtain⟨o',ho',hle⟩:=ho nm _ hn
  cases o' with
  | row e cells=>trivial
  | tok=>trivial
  | obj=>trivial
  | arr sz' e' m' f'=>
   obtain⟨rfl,rfl,hmm,hθ⟩:=hle;refine .vsl nm _ _ m' f' a n cap ho' (Tg hm hmm) hcap hmax hnn (λhe=>?_)
   grind
 | vpt nm sz e m f n i j ad hn hm hi hv=>
  obtain⟨o',ho',hle⟩:=ho nm _ hn
  cases o' with
  | row e cells=>trivial
  | tok=>trivial
  | obj=>trivial
  | arr sz' e' m' f'=>
   obtain⟨rfl,rfl,hmm,hθ⟩:=hle;refine .vpt nm _ _ m' f' n i j ad ho' (Tg hm hmm) hi (λhe=>?_)
   grind
 | clo f fs cs xs ys hl hl' _ _ ih ih'=>exact .clo f fs cs xs ys hl hl' ih ih'
 | optr nm mm x g c hn hg=>
  obtain⟨o',ho',hle⟩:=ho nm _ hn
  cases o' with
  | row=>trivial
  | tok sz' e' m'=>trivial
  | arr sz' e' m' f'=>trivial
  | obj x'=>exact .optr nm mm x' g c ho' (by rw[hle,hg])
 | omap nm x hn=>
  obtain⟨o',ho',hle⟩:=ho nm _ hn
  cases o' with
  | row=>trivial
  | tok sz' e' m'=>trivial
  | arr sz' e' m' f'=>trivial
  | obj x'=>
   have e:θ' nm=θ nm:=hle;rw[<- e];exact .omap nm x' ho'
 | vsub nm sz e m f n lo hi a cap hn hm hlo hhi hcap hmax hnn hv=>
  obtain⟨o',ho',hle⟩:=ho nm _ hn
  cases o' with
  | row e cells=>trivial
  | tok=>trivial
  | obj=>trivial
  | arr sz' e' m' f'=>
   obtain⟨rfl,rfl,hmm,hθ⟩:=hle;refine .vsub nm _ _ m' f' n lo hi a cap ho' (Tg hm hmm) hlo hhi hcap hmax hnn (λhe=>?_)
   grind
 | cond v c x _ h' ih=>exact .cond v c x ih h'
 | agg vs cs hl h1 _ ih=>exact .agg vs cs hl h1 ih
 | tuple vs cs hl _ ih=>exact .tuple vs cs hl ih
 | rpo a cells us hs hI' hc h1 _ ih=>exact .rpo a cells us hs (λj hj=>hI _ _ (hI' j hj)) (λj hj=>(hw _ _ (hI' j hj)).trans (hc j hj)) h1 ih
mutual
def AV.strip:AV->AV
 | .slice sz n f _=>.slice sz n f .none
 | .ptr _ _=>.any
 | .vsl _ _=>.any
 | .vpt _ _ _ _=>.any
 | .vsub _ _ _ _=>.any
 | .optr _ _=>.any
 | .omap _=>.any
 | .rpo _=>.any
 | .clo f xs ys=>match xs,ys with|[],[]=>.clo f [] []|_,_=>.any
 | .agg cs=>.agg (AV.stripAll cs)
 | .tuple cs=>.tuple (AV.stripAll cs)
 | .cond c x=>.cond c x.strip
 | x=>x
def AV.stripAll:List AV->List AV
 | []=>[]
 | x::l=>x.strip::AV.stripAll l
end
theorem Bg(l:List AV):(AV.stripAll l).length=l.length:=by induction l with|nil=>rfl|cons x l ih=>simp[AV.stripAll,ih]
theorem E5(l:List AV)(j:Nat):(AV.stripAll l).getD j .any=(l.getD j .any).strip:=by
 induction l generalizing j with
 | nil=>rfl
 | cons x l ih=>cases j with
  | zero=>rfl
  | succ j=>simp_all [AV.stripAll]
theorem RepV.strip{I:Nat->Nat->Prop}{w:World}{v:Value}{x:AV}(h:RepV I w v x):RepV I w v x.strip:=by
 induction h with
 | any v=>exact .any v
 | undef=>exact .undef
 | int k n=>exact .int k n
 | bool b=>exact .bool b
 | str s=>exact .str s
 | clo f=>exact .clo f
 | nxt1 i r=>exact .nxt1 i r
 | nxt0 i r=>exact .nxt0 i r
 | nilq b pos n h=>exact .nilq b pos n h
 | err0=>exact .err0
 | err1 t v=>exact .err1 t v
 | nilp=>exact .nilp
 | nilm=>exact .nilm
 | cond v c x _ h' ih=>exact .cond v c _ ih h'
 | rptr a cells us hs hI' hc h1 hr _=>exact .rptr a _ us hs hI' hc h1 hr
 | slice a n cap sz f us hcap hmax hz hn h1 hl hr _=>exact .slice a n cap sz f us hcap hmax hz hn h1 hl hr
 | agg vs cs hl h1 _ ih=>exact .agg vs _ (by rw[Bg,hl]) (λj hj=>h1 j (by rwa[Bg]at hj)) (λj hj=>by grind [E5,Bg])
 | tuple vs cs hl _ ih=>exact .tuple vs _ (by rw[Bg,hl]) (λj hj=>by grind [E5,Bg])
theorem Rep.strip{I:Nat->Nat->Prop}{own:Nat->Option Own}{θ:Nat->Option (Nat×Nat)}{w:World}{v:Value}{x:AV}(h:Rep I own θ w v x):RepV I w v x.strip:=by
 induction h with
 | val v x h=>exact h.strip
 | exact a n sz f h=>exact h
 | own nm sz e m a n cap f ho hm hv h=>exact h
 | fam b i sz e m a n cap f hi ho hm hv h=>exact h
 | ptr nm off e cells g c ho hg=>exact .any _
 | vsl=>exact .any _
 | vpt=>exact .any _
 | clo f fs cs xs ys hl hl' _ _ ih ih'=>
  cases xs with
  | nil=>cases ys with
   | nil=>
    obtain rfl:fs = #[]:=by grind
    obtain rfl:cs = #[]:=by grind
    exact .clo f
   | cons _ _=>exact .any _
  | cons _ _=>exact .any _
 | vsub=>exact .any _
 | optr=>exact .any _
 | omap=>exact .any _
 | rpo=>exact .any _
 | cond v c x _ h' ih=>exact .cond v c _ ih h'
 | agg vs cs hl h1 _ ih=>exact .agg vs _ (by rw[Bg,hl]) (λj hj=>h1 j (by rwa[Bg]at hj)) (λj hj=>by grind [E5,Bg])
 | tuple vs cs hl _ ih=>exact .tuple vs _ (by rw[Bg,hl]) (λj hj=>by grind [E5,Bg])
mutual
theorem Sq:∀ x:AV,x.strip.strip=x.strip
 | .agg cs=>by simp only[AV.strip];rw[Un cs]
 | .tuple cs=>by simp only[AV.strip];rw[Un cs]
 | .cond c x=>by simp only[AV.strip];rw[Sq x]
 | .clo f [] []=>rfl
 | .clo f (_::_) _=>rfl
 | .clo f [] (_::_)=>rfl
 | .slice ..=>rfl
 | .ptr ..=>rfl
 | .vsl ..=>rfl
 | .vpt ..=>rfl
 | .vsub ..=>rfl
 | .optr ..=>rfl
 | .omap ..=>rfl
 | .any=>rfl
 | .undef=>rfl
 | .int ..=>rfl
 | .bool ..=>rfl
 | .str ..=>rfl
 | .nilp=>rfl
 | .nilm=>rfl
 | .nxt ..=>rfl
 | .nilq ..=>rfl
 | .err ..=>rfl
 | .rptr ..=>rfl
 | .rpo ..=>rfl
theorem Un:∀ l:List AV,AV.stripAll (AV.stripAll l)=AV.stripAll l
 | []=>rfl
 | x::l=>by simp only[AV.stripAll];rw[Sq x,Un l]
end
inductive ObjR (I:Nat->Nat->Prop) (own:Nat->Option Own) (θ:Nat->Option (Nat×Nat)) (w:World):Obj->AObj->Prop
 | iter (s:ByteArray) (p:Nat):ObjR I own θ w (.stringIter s p) (.iter (Ck s) p)
 | map (es:Array MapEntry) (nn:Bool) (k:IntKind) (l:List (Int×AV)) (hs:es.size=l.length)
   (hr:∀ i,i<l.length->∃ v,es[i]?=some { key:=.int k (l.getD i (0,.any)).1,val:=v,born:=i }/\RepV I w v (l.getD i (0,.any)).2/\(l.getD i (0,.any)).2.strip=(l.getD i (0,.any)).2):ObjR I own θ w (.map es l.length) (.map nn k l)
 | pmap (es:Array MapEntry) (nn:Bool) (k:IntKind) (l0 l:List (Int×AV)) (hp:l0.Perm l) (hk:(l.map (·.1)).Nodup) (hs:es.size=l0.length)
   (hr:∀ i,i<l0.length->∃ v,es[i]?=some { key:=.int k (l0.getD i (0,.any)).1,val:=v,born:=i }/\RepV I w v (l0.getD i (0,.any)).2/\(l0.getD i (0,.any)).2.strip=(l0.getD i (0,.any)).2):ObjR I own θ w (.map es l0.length) (.pmap nn k l)
 | miter (r:Option Nat) (m:AV) (n c:Nat) (seen:Array Nat) (hc:c=n) (hr:Rep I own θ w (.map r) m):ObjR I own θ w (.mapIter r n seen c) (.miter m n seen.toList.reverse)
 | tab (es:Array MapEntry) (k:IntKind) (l:List (Int×AV)) (hs:es.size=l.length)
   (hr:∀ i,i<l.length->∃ v,es[i]?=some { key:=.int k (l.getD i (0,.any)).1,val:=v,born:=i }/\Rep I own θ w v (l.getD i (0,.any)).2):ObjR I own θ w (.map es l.length) (.tab k l)
theorem ObjR.onV{I I':Nat->Nat->Prop}{own own':Nat->Option Own}{θ θ':Nat->Option (Nat×Nat)}{w w':World}{o:Obj}{x:AObj}(h:ObjR I own θ w o x)(f:AV->AV)(hv:∀ v y,y.strip=y->RepV I w v y->RepV I' w' v y)(hf:∀ v y,Rep I own θ w v y->Rep I' own' θ' w' v (f y)):ObjR I' own' θ' w' o (x.on f):=by
 cases h with
 | iter s p=>exact .iter s p
 | map es nn k l hs hr=>
  refine .map es nn k l hs λi hi=>?_
  grind
 | pmap es nn k l0 l hp hk hs hr=>
  refine .pmap es nn k l0 l hp hk hs λi hi=>?_
  grind
 | miter r m n c seen hc hr=>exact .miter r _ n c _ hc (hf _ _ hr)
 | tab es k l hs hr=>
  have:=ObjR.tab (I:=I') (own:=own') (θ:=θ') (w:=w') es k (l.map λp=>(p.1,f p.2)) (by grind) λi hi=>by
   grind
  rwa[Ze]at this
theorem ObjR.on{I I':Nat->Nat->Prop}{own own':Nat->Option Own}{θ θ':Nat->Option (Nat×Nat)}{w w':World}{o:Obj}{x:AObj}(h:ObjR I own θ w o x)(f:AV->AV)(hI:∀ b o,I b o->I' b o)(hw:∀ b o,I b o->w'.cell? ⟨b,o,none⟩=w.cell? ⟨b,o,none⟩)(hf:∀ v y,Rep I own θ w v y->Rep I' own' θ' w' v (f y)):ObjR I' own' θ' w' o (x.on f):=
 h.onV f (λ_ _ _ hv=>hv.mono hI hw) hf
theorem yl(x:AObj):x.on (λy=>y)=x:=by cases x<;>simp[AObj.on]
theorem ObjR.mono{I I':Nat->Nat->Prop}{own own':Nat->Option Own}{θ θ':Nat->Option (Nat×Nat)}{w w':World}{o:Obj}{x:AObj}(h:ObjR I own θ w o x)(hf:∀ v y,Rep I own θ w v y->Rep I' own' θ' w' v y):ObjR I' own' θ' w' o x:=by
 have:=h.onV _ (λv y hy hv=>by have:=(hf v y (.val _ _ hv)).strip;grind) hf
 grind [yl]
def Yx(I:Nat->Nat->Prop)(own:Nat->Option Own)(θ:Nat->Option (Nat×Nat))(w:World)(nm:Nat)(x:AObj):Prop:=
 (∃ g c o,θ nm=some (g,c)/\w.heap[g]?=some o/\ObjR I own θ w o x/\∀ j,¬ I g j)\/(θ nm=none/\gW x)
structure K3(I:Nat->Nat->Prop)(own:Nat->Option Own)(θ:Nat->Option (Nat×Nat))(w:World):Prop where
 row:∀ nm e cells,own nm=some (.row e cells)->∃ g c vs,θ nm=some (g,c)/\w.heap[g]?=some (.cells vs e (0,0))/\vs.size=cells.length /\
  (∀ j,j<cells.length->(vs.getD j undef).oneCell'=true)/\(∀ j,j<cells.length->Rep I own θ w (vs.getD j undef) (cells.getD j .any))/\∀ j,¬ I g j
 tok:∀ nm sz e m,own nm=some (.tok sz e m)->∀ g c,θ nm=some (g,c)->∃ cur fz,w.heap[g]?=some (.cells cur e (0,fz))/\m<=c/\c<=maxLen/\cur.size=c*sz/\fz<=m*sz/\∀ j,I g j->j<m*sz
 inj:∀ nm nm' g c c',own nm≠none->own nm'≠none->θ nm=some (g,c)->θ nm'=some (g,c')->nm=nm'
 arr:∀ nm sz e m f,own nm=some (.arr sz e m f)->(θ nm=none->m=0)/\∀ g c,θ nm=some (g,c)->∃ cur,w.heap[g]?=some (.cells cur e (0,0))/\m<=c/\c<=maxLen/\cur.size=c*sz /\
  (∀ i,i<m->(f i).length=sz)/\(∀ i j,i<m->j<sz->(cur.getD (i*sz+j) undef).oneCell'=true/\Rep I own θ w (cur.getD (i*sz+j) undef) ((f i).getD j .any))/\∀ j,¬ I g j
 obj:∀ nm x,own nm=some (.obj x)->Yx I own θ w nm x
 tok8:∀ nm sz m,own nm=some (.tok sz ES m)->θ nm=none->m=0
theorem L9{I I':Nat->Nat->Prop}{own own':Nat->Option Own}{θ θ':Nat->Option (Nat×Nat)}{w w':World}{nm nm':Nat}{x x':AObj}(h:Yx I own θ w nm x)
  (hθ:θ' nm'=θ nm) (hh:∀ g c,θ nm=some (g,c)->w'.heap[g]?=w.heap[g]?) (hI:∀ g c j,θ nm=some (g,c)->I' g j->I g j) (hm:∀ o,ObjR I own θ w o x->ObjR I' own' θ' w' o x') (hn:gW x->gW x') :
  Yx I' own' θ' w' nm' x':=by
 rcases h with⟨g,c,o,h1,h2,h3,h4⟩|⟨h1,h2⟩
 ·exact .inl ⟨g,c,o,hθ.trans h1,(hh g c h1).trans h2,hm o h3,λj hj=>h4 j (hI g c j h1 hj)⟩
 ·exact .inr ⟨hθ.trans h1,hn h2⟩
theorem RU{f:AV->AV}{x:AObj}(h:gW x):gW (x.on f):=by cases x<;>trivial
theorem Vw{x:AObj}(h:gW x):gW x:=h
theorem P8{I I':Nat->Nat->Prop}{own own':Nat->Option Own}{θ θ':Nat->Option (Nat×Nat)}{w w':World}{nm nm' sz m:Nat}{e:TypeId}{f f':Nat->List AV}
  (h:(θ nm=none->m=0)/\∀ g c,θ nm=some (g,c)->∃ cur,w.heap[g]?=some (.cells cur e (0,0))/\m<=c/\c<=maxLen/\cur.size=c*sz /\
   (∀ i,i<m->(f i).length=sz)/\(∀ i j,i<m->j<sz->(cur.getD (i*sz+j) undef).oneCell'=true/\Rep I own θ w (cur.getD (i*sz+j) undef) ((f i).getD j .any))/\∀ j,¬ I g j)
  (hθ:θ' nm'=θ nm) (hh:∀ g c,θ nm=some (g,c)->w'.heap[g]?=w.heap[g]?) (hI:∀ g c j,θ nm=some (g,c)->I' g j->I g j) (hf:∀ i,i<m->(f' i).length=(f i).length)
  (hr:∀ v i j,i<m->j<sz->Rep I own θ w v ((f i).getD j .any)->Rep I' own' θ' w' v ((f' i).getD j .any)) :
  (θ' nm'=none->m=0)/\∀ g c,θ' nm'=some (g,c)->∃ cur,w'.heap[g]?=some (.cells cur e (0,0))/\m<=c/\c<=maxLen/\cur.size=c*sz /\
   (∀ i,i<m->(f' i).length=sz)/\(∀ i j,i<m->j<sz->(cur.getD (i*sz+j) undef).oneCell'=true/\Rep I' own' θ' w' (cur.getD (i*sz+j) undef) ((f' i).getD j .any))/\∀ j,¬ I' g j:=by
 grind
structure Chg(own:Nat->Option Own)(θ:Nat->Option (Nat×Nat))(I:Nat->Nat->Prop)(w:World)
  (own':Nat->Option Own) (θ':Nat->Option (Nat×Nat)) (I':Nat->Nat->Prop) (w':World):Prop where
 imm:∀ b o,I b o->I' b o
 cell:∀ b o,I b o->w'.cell? ⟨b,o,none⟩=w.cell? ⟨b,o,none⟩
 le:∀ nm o,own nm=some o->∃ o',own' nm=some o'/\OwnLe o (θ nm) o' (θ' nm)
 rel:K3 I' own' θ' w'
 valid:∀ b o,I' b o->∃ u,w'.cell? ⟨b,o,none⟩=some u
 os:w'.os=w.os
 tape:w'.tape=w.tape
 output:w'.output=w.output
 drawn:ye->w.drawn<=w'.drawn
 grow:w.heap.size<=w'.heap.size
 frame:∀ b,b<w.heap.size->(∀ nm c,own nm≠none->θ nm≠some (b,c))->w'.heap[b]?=w.heap[b]?
 new:∀ nm g c,own' nm≠none->θ' nm=some (g,c)->w.heap.size<=g\/∃ nm' c',own nm'≠none/\θ nm'=some (g,c')
 immNew:∀ b o,I' b o->I b o\/w.heap.size<=b\/∃ nm c,own nm≠none/\θ nm=some (b,c)
theorem OwnLe.trans{a b c:Own}{t u s:Option (Nat×Nat)}(h:OwnLe a t b u)(k:OwnLe b u c s):OwnLe a t c s:=by
 cases a<;>cases b<;>cases c<;>simp_all [OwnLe]
 all_goals
  grind
theorem Chg.refl{own:Nat->Option Own}{θ:Nat->Option (Nat×Nat)}{I:Nat->Nat->Prop}{w:World}(h:K3 I own θ w)
  (hv:∀ b o,I b o->∃ u,w.cell? ⟨b,o,none⟩=some u):Chg own θ I w own θ I w where
 imm _ _ h:=h
 cell _ _ _:=rfl
 le _ o ho:=⟨o,ho,.refl _ _⟩
 rel:=h
 valid:=hv
 os:=rfl
 tape:=rfl
 output:=rfl
 drawn:=λ_=>zzL7 _
 grow:=zzL7 _
 frame _ _ _:=rfl
 new nm _ c h h':=.inr ⟨nm,c,h,h'⟩
 immNew _ _ h:=.inl h
theorem Chg.trans{o1 o2 o3:Nat->Option Own}{t1 t2 t3:Nat->Option (Nat×Nat)}{I1 I2 I3:Nat->Nat->Prop}{w1 w2 w3:World}
  (h:Chg o1 t1 I1 w1 o2 t2 I2 w2) (k:Chg o2 t2 I2 w2 o3 t3 I3 w3):Chg o1 t1 I1 w1 o3 t3 I3 w3 where
 imm b o hi:=k.imm b o (h.imm b o hi)
 cell b o hi:=(k.cell b o (h.imm b o hi)).trans (h.cell b o hi)
 le nm o ho:=by
  obtain⟨o',ho',hl⟩:=h.le nm o ho;obtain⟨o'',ho'',hl'⟩:=k.le nm o' ho';exact⟨o'',ho'',hl.trans hl'⟩
 rel:=k.rel
 valid:=k.valid
 os:=k.os.trans h.os
 tape:=k.tape.trans h.tape
 output:=k.output.trans h.output
 drawn:=λd=>Tg (h.drawn d) (k.drawn d)
 grow:=Tg h.grow k.grow
 frame b hb hn:=by
  refine(k.frame b (Nat.lt_of_lt_of_le hb h.grow) λnm c ho ht=>?_).trans (h.frame b hb hn);rcases h.new nm b c ho ht with h'|⟨nm',c',ho',ht'⟩
  ·omega
  grind
 new nm g c ho ht:=by
  rcases k.new nm g c ho ht with h'|⟨nm',c',ho',ht'⟩
  ·exact .inl (Tg h.grow h')
  ·exact h.new nm' g c' ho' ht'
 immNew b o hi:=by
  rcases k.immNew b o hi with h'|h'|⟨nm,c,ho,ht⟩
  ·exact h.immNew b o h'
  ·exact .inr (.inl (Tg h.grow h'))
  ·exact .inr (h.new nm b c ho ht)
theorem Rep.chg{own own':Nat->Option Own}{θ θ':Nat->Option (Nat×Nat)}{I I':Nat->Nat->Prop}{w w':World}{v:Value}{x:AV}
  (h:Rep I own θ w v x) (k:Chg own θ I w own' θ' I' w'):Rep I' own' θ' w' v x:=h.mono k.imm k.cell k.le
def zZ(I:Nat->Nat->Prop)(w:World):Prop:=∀ g cells,jU g=some cells->RepV I w (.pointer (some ⟨g,0,none⟩)) (.rptr cells)
structure Ix where
 w0:World
 n:Nat
 own0:Nat->Option Own
 θ0:Nat->Option (Nat×Nat)
 I0:Nat->Nat->Prop
 glob:zZ I0 w0
 lt0:∀ nm,own0 nm≠none->nm<Bp
structure Sto where
 tmp:Nat->AV
 own:Nat->Option Own
structure Rel(Γ:Ix)(σ:Sto)(I:Nat->Nat->Prop)(θ:Nat->Option (Nat×Nat))(a:Act)(w:World):Prop where
 size:a.tmps.size=Γ.n
 defers:a.defers=[]
 slots:∀ t,Rep I σ.own θ w (a.tmps.getD t undef) (σ.tmp t)
 chg:Chg Γ.own0 Γ.θ0 Γ.I0 Γ.w0 σ.own θ I w
theorem Rel.glob{Γ:Ix}{σ:Sto}{I:Nat->Nat->Prop}{θ:Nat->Option (Nat×Nat)}{a:Act}{w:World}(h:Rel Γ σ I θ a w):zZ I w:=λg cells hg=>(Γ.glob g _ hg).mono h.chg.imm h.chg.cell
def AVle(x y:AV):Prop:=∀(I:Nat->Nat->Prop) (own:Nat->Option Own) (θ:Nat->Option (Nat×Nat)) (w:World) (v:Value),Rep I own θ w v x->Rep I own θ w v y
theorem HI{w:World}{g:Nat}{o:Obj}(h:w.heap[g]?=some o):g<w.heap.size:=by
 grind
theorem R6{w:World}{b o:Nat}{u:Value}(h:w.cell? ⟨b,o,none⟩=some u):b<w.heap.size:=World.block_lt_of_cell?  (h:=h)
theorem RepV.slice_inv{I:Nat->Nat->Prop}{w:World}{v:Value}{sz n:Nat}{f:Nat->List AV}{t:Tag}(h:RepV I w v (.slice sz n f t)) :
  t = .none/\∃(a:Option Addr) (cap:Nat) (us:Nat->Value),v = .slice a n cap/\n<=cap/\cap<=maxLen /\
   (0<n->∃ b,a=some b/\b.spot=none/\(∀ j,j<n*sz->I b.block (b.off+j))/\(∀ j,j<n*sz->w.cell? ⟨b.block,b.off+j,none⟩=some (us j))) /\
   (a=none->cap=0)/\(∀ j,j<n*sz->(us j).oneCell'=true)/\(∀ i,i<n->(f i).length=sz) /\
   (∀ i c,i<n->c<sz->RepV I w (us (i*sz+c)) ((f i).getD c .any)):=by
 cases h with
 | slice a n cap sz f us hcap hmax hz hn h1 hl hr=>exact⟨rfl,a,cap,us,rfl,hcap,hmax,hz,hn,h1,hl,hr⟩
theorem Rep.slice_val{I:Nat->Nat->Prop}{own:Nat->Option Own}{θ:Nat->Option (Nat×Nat)}{w:World}{v:Value}{sz n:Nat}{f:Nat->List AV}{t:Tag}
  (h:Rep I own θ w v (.slice sz n f t)):RepV I w v (.slice sz n f .none):=by
 cases h with
 | val v x h=>obtain⟨rfl,_⟩:=h.slice_inv;exact h
 | exact a n sz f h=>exact h
 | own nm sz e m a n cap f ho hm hv h=>exact h
 | fam b i sz e m a n cap f hi ho hm hv h=>exact h
theorem Rep.int_inv{I:Nat->Nat->Prop}{own:Nat->Option Own}{θ:Nat->Option (Nat×Nat)}{w:World}{v:Value}{k:IntKind}{n:Int}
  (h:Rep I own θ w v (.int k n)):v = .int k n:=by
 cases h with
 | val v x h=>cases h;rfl
theorem Rep.bool_inv{I:Nat->Nat->Prop}{own:Nat->Option Own}{θ:Nat->Option (Nat×Nat)}{w:World}{v:Value}{b:Bool}
  (h:Rep I own θ w v (.bool b)):v = .bool b:=by
 cases h with
 | val v x h=>cases h;rfl
theorem Rep.str_inv{I:Nat->Nat->Prop}{own:Nat->Option Own}{θ:Nat->Option (Nat×Nat)}{w:World}{v:Value}{s:List Int}
  (h:Rep I own θ w v (.str s)):∃ b,v = .string b/\Ck b=s:=by
 cases h with
 | val v x h=>cases h;simp
theorem Rep.undef_inv{I:Nat->Nat->Prop}{own:Nat->Option Own}{θ:Nat->Option (Nat×Nat)}{w:World}{v:Value}
  (h:Rep I own θ w v .undef):v=Go.undef:=by
 cases h with
 | val v x h=>cases h;rfl
theorem Rep.nilp_inv{I:Nat->Nat->Prop}{own:Nat->Option Own}{θ:Nat->Option (Nat×Nat)}{w:World}{v:Value}
  (h:Rep I own θ w v .nilp):v = .pointer none:=by
 cases h with
 | val v x h=>cases h;rfl
theorem Rep.ptr_inv{I:Nat->Nat->Prop}{own:Nat->Option Own}{θ:Nat->Option (Nat×Nat)}{w:World}{v:Value}{nm off:Nat}
  (h:Rep I own θ w v (.ptr nm off)):∃ e cells g c,own nm=some (.row e cells)/\θ nm=some (g,c)/\v = .pointer (some ⟨g,off,none⟩):=by
 cases h with
 | val v x h=>cases h
 | ptr nm off e cells g c ho hg=>grind
theorem Rep.optr_inv{I:Nat->Nat->Prop}{own:Nat->Option Own}{θ:Nat->Option (Nat×Nat)}{w:World}{v:Value}{nm mm:Nat}
  (h:Rep I own θ w v (.optr nm mm)):∃ x g c,own nm=some (.obj x)/\θ nm=some (g,c)/\v = .pointer (some ⟨g,0,none⟩):=by
 cases h with
 | val v x h=>cases h
 | optr nm mm x g c ho hg=>grind
theorem Rep.omap_inv{I:Nat->Nat->Prop}{own:Nat->Option Own}{θ:Nat->Option (Nat×Nat)}{w:World}{v:Value}{nm:Nat}
  (h:Rep I own θ w v (.omap nm)):∃ x,own nm=some (.obj x)/\v = .map ((θ nm).map (·.1)):=by
 cases h with
 | val v x h=>cases h
 | omap nm x ho=>grind
theorem Rep.nilm_inv{I:Nat->Nat->Prop}{own:Nat->Option Own}{θ:Nat->Option (Nat×Nat)}{w:World}{v:Value}
  (h:Rep I own θ w v .nilm):v = .map none:=by
 cases h with
 | val v x h=>cases h;rfl
theorem Rep.nxt_inv{I:Nat->Nat->Prop}{own:Nat->Option Own}{θ:Nat->Option (Nat×Nat)}{w:World}{v:Value}{b:Bool}{i r:Int}
  (h:Rep I own θ w v (.nxt b i r)):(b=true/\v = .tuple #[.bool true,.int .i64 i,.int .i32 r])\/(b=false/\v = .tuple #[.bool false]):=by
 cases h with
 | val v x h=>cases h with
  | nxt1=>simp
  | nxt0=>simp
theorem Rep.err_inv{I:Nat->Nat->Prop}{own:Nat->Option Own}{θ:Nat->Option (Nat×Nat)}{w:World}{v:Value}{b:Bool}
  (h:Rep I own θ w v (.err b)):(b=false/\v = .nilIface)\/(b=true/\∃ t x,v = .iface t x):=by
 cases h with
 | val v x h=>cases h with
  | err0=>simp
  | err1 t x=>simp
theorem Rep.vsl_inv{I:Nat->Nat->Prop}{own:Nat->Option Own}{θ:Nat->Option (Nat×Nat)}{w:World}{v:Value}{nm n:Nat}
  (h:Rep I own θ w v (.vsl nm n)):∃ sz e m f a cap,v = .slice a n cap/\own nm=some (.arr sz e m f)/\n<=m/\n<=cap/\cap<=maxLen/\(a=none->cap=0) /\
   (n=m->match θ nm with|none=>cap=n|some (g,c)=>a=some ⟨g,0,none⟩/\cap=c):=by
 cases h with
 | val v x h=>cases h
 | vsl nm sz e m f a n cap ho hm hcap hmax hn hv=>grind
theorem Rep.vpt_inv{I:Nat->Nat->Prop}{own:Nat->Option Own}{θ:Nat->Option (Nat×Nat)}{w:World}{v:Value}{nm n i j:Nat}
  (h:Rep I own θ w v (.vpt nm n i j)):∃ sz e m f ad,v = .pointer (some ad)/\own nm=some (.arr sz e m f)/\n<=m/\i<n/\(n=m->∃ g c,θ nm=some (g,c)/\ad=⟨g,i*sz+j,none⟩):=by
 cases h with
 | val v x h=>cases h
 | vpt nm sz e m f n i j ad ho hm hi hv=>grind
theorem Rep.vsub_inv{I:Nat->Nat->Prop}{own:Nat->Option Own}{θ:Nat->Option (Nat×Nat)}{w:World}{v:Value}{nm n lo hi:Nat}
  (h:Rep I own θ w v (.vsub nm n lo hi)):∃ sz e m f a cap,v = .slice a (hi-lo) cap/\own nm=some (.arr sz e m f)/\n<=m/\lo<=hi/\hi<=n/\hi-lo<=cap/\cap<=maxLen/\(a=none->cap=0) /\
   (n=m->ZN (θ nm) n lo hi sz e a cap):=by
 cases h with
 | val v x h=>cases h
 | vsub nm sz e m f n lo hi a cap ho hm hlo hhi hcap hmax hn hv=>grind
theorem Rep.clo_inv{I:Nat->Nat->Prop}{own:Nat->Option Own}{θ:Nat->Option (Nat×Nat)}{w:World}{v:Value}{f:Nat}{xs ys:List AV}
  (h:Rep I own θ w v (.clo f xs ys)):∃ fs cs:Array Value,v = .func (.func f) fs cs/\fs.size=xs.length/\cs.size=ys.length/\(∀ j,j<xs.length->Rep I own θ w (fs.getD j Go.undef) (xs.getD j .any))/\(∀ j,j<ys.length->Rep I own θ w (cs.getD j Go.undef) (ys.getD j .any)):=by
 cases h with
 | val v x h=>cases h with|clo f=>simp
 | clo f fs cs xs ys hl hl' hr hr'=>grind
theorem Rep.rptr_inv{I:Nat->Nat->Prop}{own:Nat->Option Own}{θ:Nat->Option (Nat×Nat)}{w:World}{v:Value}{cells:List AV}
  (h:Rep I own θ w v (.rptr cells)):∃(a:Addr) (us:Nat->Value),v = .pointer (some a)/\a.spot=none/\(∀ j,j<cells.length->I a.block (a.off+j)) /\
   (∀ j,j<cells.length->w.cell? ⟨a.block,a.off+j,none⟩=some (us j))/\(∀ j,j<cells.length->(us j).oneCell'=true) /\
   (∀ j,j<cells.length->RepV I w (us j) (cells.getD j .any)):=by
 cases h with
 | val v x h=>cases h with|rptr a cells us hs hI hc h1 hr=>exact⟨a,us,rfl,hs,hI,hc,h1,hr⟩
theorem Rep.rpo_inv{I:Nat->Nat->Prop}{own:Nat->Option Own}{θ:Nat->Option (Nat×Nat)}{w:World}{v:Value}{cells:List AV}
  (h:Rep I own θ w v (.rpo cells)):∃(a:Addr) (us:Nat->Value),v = .pointer (some a)/\a.spot=none/\(∀ j,j<cells.length->I a.block (a.off+j)) /\
   (∀ j,j<cells.length->w.cell? ⟨a.block,a.off+j,none⟩=some (us j))/\(∀ j,j<cells.length->(us j).oneCell'=true) /\
   (∀ j,j<cells.length->Rep I own θ w (us j) (cells.getD j .any)):=by
 cases h with
 | val v x h=>cases h
 | rpo a cells us hs hI hc h1 hr=>exact⟨a,us,rfl,hs,hI,hc,h1,hr⟩
theorem Rep.agg_inv{I:Nat->Nat->Prop}{own:Nat->Option Own}{θ:Nat->Option (Nat×Nat)}{w:World}{v:Value}{cs:List AV}
  (h:Rep I own θ w v (.agg cs)):∃ vs,v = .agg vs/\vs.size=cs.length/\(∀ j,j<cs.length->(vs.getD j Go.undef).oneCell'=true) /\
   (∀ j,j<cs.length->Rep I own θ w (vs.getD j Go.undef) (cs.getD j .any)):=by
 cases h with
 | val v x h=>cases h with|agg vs cs hl h1 hr=>exact⟨vs,rfl,hl,h1,λj hj=>.val _ _ (hr j hj)⟩
 | agg vs cs hl h1 hr=>grind
theorem Rep.tuple_inv{I:Nat->Nat->Prop}{own:Nat->Option Own}{θ:Nat->Option (Nat×Nat)}{w:World}{v:Value}{cs:List AV}
  (h:Rep I own θ w v (.tuple cs)):∃ vs,v = .tuple vs/\vs.size=cs.length /\
   (∀ j,j<cs.length->Rep I own θ w (vs.getD j Go.undef) (cs.getD j .any)):=by
 cases h with
 | val v x h=>cases h with|tuple vs cs hl hr=>exact⟨vs,rfl,hl,λj hj=>.val _ _ (hr j hj)⟩
 | tuple vs cs hl hr=>grind
theorem Rep.cond_inv{I:Nat->Nat->Prop}{own:Nat->Option Own}{θ:Nat->Option (Nat×Nat)}{w:World}{v:Value}{c:Bool}{x:AV}
  (h:Rep I own θ w v (.cond c x)):(c=true->Rep I own θ w v x)/\(c=false->v=Go.undef):=by
 cases h with
 | val v x h=>cases h with|cond v c x h h'=>exact⟨λhc=>.val _ _ (h hc),h'⟩
 | cond v c x h h'=>grind
mutual
def AV.erase(keep:Nat->Bool):AV->AV
 | .slice sz n f (.own nm)=>.slice sz n f (bif keep nm then .own nm else .none)
 | .slice sz n f (.fam b i)=>.slice sz n f (bif keep b then .fam b i else .none)
 | .ptr nm off=>bif keep nm then .ptr nm off else .any
 | .vsl nm n=>bif keep nm then .vsl nm n else .any
 | .vpt nm n i j=>bif keep nm then .vpt nm n i j else .any
 | .vsub nm n lo hi=>bif keep nm then .vsub nm n lo hi else .any
 | .optr nm mm=>bif keep nm then .optr nm mm else .any
 | .omap nm=>bif keep nm then .omap nm else .any
 | .clo f xs ys=>.clo f (AV.eraseAll keep xs) (AV.eraseAll keep ys)
 | .agg cs=>.agg (AV.eraseAll keep cs)
 | .rpo cs=>.rpo (AV.eraseAll keep cs)
 | .tuple cs=>.tuple (AV.eraseAll keep cs)
 | .cond c x=>.cond c (x.erase keep)
 | x=>x
def AV.eraseAll(keep:Nat->Bool):List AV->List AV
 | []=>[]
 | x::l=>x.erase keep::AV.eraseAll keep l
end
theorem Bf(keep:Nat->Bool)(l:List AV):(AV.eraseAll keep l).length=l.length:=by induction l with|nil=>rfl|cons x l ih=>simp[AV.eraseAll,ih]
theorem H0(keep:Nat->Bool)(l:List AV)(j:Nat):(AV.eraseAll keep l).getD j .any=(l.getD j .any).erase keep:=by
 induction l generalizing j with
 | nil=>rfl
 | cons x l ih=>cases j with
  | zero=>rfl
  | succ j=>simp_all [AV.eraseAll]
def Own.erase(keep:Nat->Bool):Own->Own
 | .row e cells=>.row e (AV.eraseAll keep cells)
 | .arr sz e m f=>.arr sz e m (λi=>AV.eraseAll keep (f i))
 | .obj x=>.obj (x.on (AV.erase keep))
 | .tok sz e m=>.tok sz e m
theorem RepV.erase{I:Nat->Nat->Prop}{w:World}{v:Value}{x:AV}(h:RepV I w v x)(keep:Nat->Bool):RepV I w v (x.erase keep):=by
 induction h with
 | any v=>exact .any v
 | undef=>exact .undef
 | int k n=>exact .int k n
 | bool b=>exact .bool b
 | str s=>exact .str s
 | clo f=>exact .clo f
 | nxt1 i r=>exact .nxt1 i r
 | nxt0 i r=>exact .nxt0 i r
 | nilq b pos n h=>exact .nilq b pos n h
 | err0=>exact .err0
 | err1 t v=>exact .err1 t v
 | nilp=>exact .nilp
 | nilm=>exact .nilm
 | cond v c x _ h' ih=>exact .cond v c _ ih h'
 | rptr a cells us hs hI' hc h1 hr _=>exact .rptr a _ us hs hI' hc h1 hr
 | slice a n cap sz f us hcap hmax hz hn h1 hl hr _=>exact .slice a n cap sz f us hcap hmax hz hn h1 hl hr
 | agg vs cs hl h1 _ ih=>exact .agg vs _ (by rw[Bf,hl]) (λj hj=>h1 j (by rwa[Bf]at hj)) (λj hj=>by grind [Bf,H0])
 | tuple vs cs hl _ ih=>exact .tuple vs _ (by rw[Bf,hl]) (λj hj=>by grind [Bf,H0])
theorem Rep.erase{I:Nat->Nat->Prop}{own own':Nat->Option Own}{θ:Nat->Option (Nat×Nat)}{w:World}{v:Value}{x:AV}(h:Rep I own θ w v x)(keep:Nat->Bool)
  (ho:∀ nm o,own nm=some o->keep nm=true->own' nm=some (o.erase keep)) (hb:∀ b i sz e m,i<Bp->own (Sx b i)=some (.tok sz e m)->keep b=true->own' (Sx b i)=some (.tok sz e m)):Rep I own' θ w v (x.erase keep):=by
 induction h with
 | val v x h=>exact .val _ _ (h.erase keep)
 | exact a n sz f h=>exact .exact a n sz f h
 | own nm sz e m a n cap f hn hm hv h=>
  simp only[AV.erase]
  cases hk:keep nm with
  | true=>exact .own nm sz e m a n cap f (ho nm _ hn hk) hm hv h
  | false=>exact .val _ _ h
 | fam b i sz e m a n cap f hi hn hm hv h=>
  simp only[AV.erase]
  cases hk:keep b with
  | true=>exact .fam b i sz e m a n cap f hi (hb b i _ _ _ hi hn hk) hm hv h
  | false=>exact .val _ _ h
 | ptr nm off e cells g c hn hg=>
  simp only[AV.erase]
  cases hk:keep nm with
  | true=>exact .ptr nm off e _ g c (ho nm _ hn hk) hg
  | false=>exact .val _ _ (.any _)
 | vsl nm sz e m f a n cap hn hm hcap hmax hnn hv=>
  simp only[AV.erase]
  cases hk:keep nm with
  | true=>exact .vsl nm sz e m _ a n cap (ho nm _ hn hk) hm hcap hmax hnn hv
  | false=>exact .val _ _ (.any _)
 | vpt nm sz e m f n i j ad hn hm hi hv=>
  simp only[AV.erase]
  cases hk:keep nm with
  | true=>exact .vpt nm sz e m _ n i j ad (ho nm _ hn hk) hm hi hv
  | false=>exact .val _ _ (.any _)
 | clo f fs cs xs ys hl hl' _ _ ih ih'=>exact .clo f fs cs _ _ (by rw[Bf,hl]) (by rw[Bf,hl']) (λj hj=>by grind [Bf,H0]) (λj hj=>by grind [Bf,H0])
 | vsub nm sz e m f n lo hi a cap hn hm hlo hhi hcap hmax hnn hv=>
  simp only[AV.erase]
  cases hk:keep nm with
  | true=>exact .vsub nm sz e m _ n lo hi a cap (ho nm _ hn hk) hm hlo hhi hcap hmax hnn hv
  | false=>exact .val _ _ (.any _)
 | optr nm mm x g c hn hg=>
  simp only[AV.erase]
  cases hk:keep nm with
  | true=>exact .optr nm _ _ g c (ho nm _ hn hk) hg
  | false=>exact .val _ _ (.any _)
 | omap nm x hn=>
  simp only[AV.erase]
  cases hk:keep nm with
  | true=>exact .omap nm _ (ho nm _ hn hk)
  | false=>exact .val _ _ (.any _)
 | cond v c x _ h' ih=>exact .cond v c _ ih h'
 | agg vs cs hl h1 _ ih=>exact .agg vs _ (by rw[Bf,hl]) (λj hj=>h1 j (by rwa[Bf]at hj)) (λj hj=>by grind [Bf,H0])
 | tuple vs cs hl _ ih=>exact .tuple vs _ (by rw[Bf,hl]) (λj hj=>by grind [Bf,H0])
 | rpo a cells us hs hI' hc h1 _ ih=>exact .rpo a _ us hs (λj hj=>hI' j (by rwa[Bf]at hj)) (λj hj=>hc j (by rwa[Bf]at hj)) (λj hj=>h1 j (by rwa[Bf]at hj)) (λj hj=>by grind [Bf,H0])
theorem E4(s:ByteArray):(Ck s).length=s.size:=by simp[Ck]
theorem VD(a b:ByteArray):Ck (a++b)=Ck a++Ck b:=by simp[Ck]
theorem EK:∀{l m:List UInt8},l.map (λb=>(b.toNat:Int))=m.map (λb=>(b.toNat:Int))->l=m
 | [],[],_=>rfl
 | [],_::_,h=>by simp at h
 | _::_,[],h=>by simp at h
 | x::l,y::m,h=>by
  simp only[Cy,Dq]at h;obtain⟨h1,h2⟩:=h;have:x=y:=UInt8.toNat_inj.1 (by grind);rw[this,EK h2]
theorem Xh(a b:ByteArray):(a.toList==b.toList)=(Ck a==Ck b):=by
 rw[ByteArray.toList_eq,ByteArray.toList_eq,CK,zzL61]
 grind [EK,Ck]
theorem PX(s:ByteArray)(l h:Nat):Ck (s.extract l h)=((Ck s).drop l).take (h-l):=by
 simp[Ck]
theorem fk(s:ByteArray)(i:Nat)(hi:i<s.size):s[i]?=some s[i]/\((s[i]).toNat:Int)=(Ck s).getD i 0:=by
 grind [ByteArray.getElem_eq_getElem_data,Ck,Tf,E4,EU]
def MQ:List Int->List Int->Bool
 | _,[]=>false
 | [],_::_=>true
 | a::x,b::y=>decide (a<b) || (a==b&&MQ x y)
theorem dL:∀ l m:List UInt8,Op.bytesLess l m=MQ (l.map λb=>(b.toNat:Int)) (m.map λb=>(b.toNat:Int))
 | l,[]=>by cases l<;>rfl
 | [],_::_=>rfl
 | a::x,b::y=>by
  simp only[Op.bytesLess,Cy,MQ,dL x y]
  have e1:decide (a<b)=decide ((a.toNat:Int)<b.toNat):=by
   apply zzL76.2
   rw[UInt8.lt_iff_toNat_lt];omega
  grind [UInt8.toNat_inj]
theorem U4(a b:ByteArray):Op.bytesLess a.toList b.toList=MQ (Ck a) (Ck b):=by
 rw[ByteArray.toList_eq,ByteArray.toList_eq,dL];rfl
def Ag{α:Type}:List (Nat×α)->Nat->Option α
 | [],_=>none
 | (k,v)::l,n=>bif Nat.beq k n then some v else Ag l n
def Fd(P:Program)(t:TypeId):Bool:=
 match P.underlying t with
 | some (.struct _)|some (.array _ _)=>true
 | _=>false
def A6(P:Program)(t:TypeId):Nat:=((P.info? t).map (·.size)).getD 0
def B8(P:Program)(t:TypeId):Bool:=(P.info? t).isSome&&(P.underlying t).isSome
def AV.ofCell:Value->AV
 | .int k n=>.int k n
 | .bool b=>.bool b
 | .string s=>.str (Ck s)
 | .pointer none=>.nilp
 | .slice none 0 0=>.slice 0 0 (λ_=>[]) .exact
 | .nilIface=>.err false
 | .map none=>.nilm
 | _=>.any
def AV.ofValue:Value->AV
 | .agg cs=>bif cs.toList.all (·.oneCell') then .agg (cs.toList.map AV.ofCell) else .any
 | .tuple vs=>match vs.toList with|[]=>.undef|_=>.any
 | v=>AV.ofCell v
def AV.one:AV->Bool
 | .int _ _ | .bool _ | .str _ | .nilp | .err _ | .ptr _ _ | .rptr _ | .slice _ _ _ _ | .vsl _ _ | .vpt _ _ _ _ | .vsub _ _ _ _ | .clo _ _ _ | .omap _ | .nilm | .rpo _=>true
 | _=>false
def AV.cells:AV->Option (List AV)
 | .agg cs=>some cs
 | x=>bif x.one then some [x] else none
structure Eff where
 v:AV
 wo:List (Nat×Own)
 ob:List Prop
def Eff.pure(v:AV)(ob:List Prop):Option Eff:=some ⟨v,[],ob⟩
def A5(i:Int)(n:Nat):Prop:=0<=i/\i<(n:Int)
def U3(op:BinOp)(k:IntKind)(x y:Int):Int:=
 let a:=BitVec.ofInt k.bits x
 let b:=BitVec.ofInt k.bits y
 match op with
 | .and=>k.wrap (a &&& b).toNat
 | .or=>k.wrap (a ||| b).toNat
 | .xor=>k.wrap (a ^^^ b).toNat
 | _=>k.wrap (a &&& ~~~b).toNat
def GC(k:IntKind)(x y:Int):Int:=k.wrap (x*2 ^ min y.toNat k.bits)
def IM(k:IntKind)(x y:Int):Int:=x.fdiv (2 ^ min y.toNat k.bits)
def EI(a b:IntKind):Bool:=
 match a,b with
 | .i8,.i8 | .i16,.i16 | .i32,.i32 | .i64,.i64 | .u8,.u8 | .u16,.u16 | .u32,.u32 | .u64,.u64=>true
 | _,_=>false
def vq(op:BinOp)(k:IntKind)(a b:Int):Option Eff:=
 match op with
 | .add=>Eff.pure (.int k (k.wrap (a+b))) []
 | .sub=>Eff.pure (.int k (k.wrap (a-b))) []
 | .mul=>Eff.pure (.int k (k.wrap (a*b))) []
 | .quo=>Eff.pure (.int k (k.wrap (a.tdiv b))) [b≠0]
 | .rem=>Eff.pure (.int k (a.tmod b)) [b≠0]
 | .and=>Eff.pure (.int k (U3 .and k a b)) []
 | .or=>Eff.pure (.int k (U3 .or k a b)) []
 | .xor=>Eff.pure (.int k (U3 .xor k a b)) []
 | .andNot=>Eff.pure (.int k (U3 .andNot k a b)) []
 | .eql=>Eff.pure (.bool (a==b)) []
 | .neq=>Eff.pure (.bool (a !=b)) []
 | .lss=>Eff.pure (.bool (decide (a<b))) []
 | .leq=>Eff.pure (.bool (decide (a<=b))) []
 | .gtr=>Eff.pure (.bool (decide (b<a))) []
 | .geq=>Eff.pure (.bool (decide (b<=a))) []
 | _=>none
def vp(op:BinOp)(x y:AV):Option Eff:=
 match op,x,y with
 | .shl,.int k a,.int _ b=>Eff.pure (.int k (GC k a b)) [0<=b]
 | .shr,.int k a,.int _ b=>Eff.pure (.int k (IM k a b)) [0<=b]
 | op,.int k a,.int k' b=>bif EI k k' then vq op k a b else none
 | .eql,.str a,.str b=>Eff.pure (.bool (a==b)) []
 | .lss,.str a,.str b=>Eff.pure (.bool (MQ a b)) []
 | .leq,.str a,.str b=>Eff.pure (.bool (MQ a b || (a==b))) []
 | .gtr,.str a,.str b=>Eff.pure (.bool (!(MQ a b || (a==b)))) []
 | .geq,.str a,.str b=>Eff.pure (.bool (!(MQ a b))) []
 | .neq,.str a,.str b=>Eff.pure (.bool (!(a==b))) []
 | .add,.str a,.str b=>Eff.pure (.str (a++b)) [(a.length:Int)+b.length<=9223372036854775807]
 | _,_,_=>none
def CZ:List AV->List AV->Option Bool
 | [],[]=>some true
 | .int k a::xs,.int k' b::ys=>bif EI k k' then(match CZ xs ys with|some r=>some ((a==b)&&r)|none=>none) else none
 | _,_=>none
def f7(P:Program)(t:TypeId):Bool:=match P.underlying t with|some (.int _)=>true|_=>false
def jI(P:Program)(t:TypeId):Bool:=match P.underlying t with|some .bool=>true|_=>false
def Xl (P : Program) : Nat → List Field → List AV → List AV → Option Bool
  | _, [], [], [] => some true
  | s, f :: l, .int k a :: xs, .int k' b :: ys => bif decide (f.name ≠ "_") && f7 P f.type && Nat.beq f.offset s && EI k k' then (match Xl P (s + 1) l xs ys with | some r => some ((a == b) && r) | none => none) else none
  | s, f :: l, .bool a :: xs, .bool b :: ys => bif decide (f.name ≠ "_") && jI P f.type && Nat.beq f.offset s then (match Xl P (s + 1) l xs ys with | some r => some ((a == b) && r) | none => none) else none
  | _, _, _, _ => none
def ZR(P:Program)(t:TypeId)(xs ys:List AV):Option Bool:=
 match P.underlying t with
 | some (.struct fs)=>bif !(P.stoodInHeld t)&&!(P.eqGuardType P.depth t) then Xl P 0 fs.toList xs ys else none
 | some (.array len e)=>bif B8 P e&&f7 P e&&Nat.beq (A6 P e) 1&&!(P.eqGuardType P.depth t)&&Nat.beq xs.length len&&Nat.beq ys.length len then CZ xs ys else none
 | _=>none
def nZ(P:Program)(op:BinOp)(t:TypeId)(x y:AV):Option Eff:=
 match op,x,y with
 | .eql,.bool a,.bool b=>match P.underlying t with|some .bool=>Eff.pure (.bool (a==b)) []|_=>none
 | .neq,.bool a,.bool b=>match P.underlying t with|some .bool=>Eff.pure (.bool (a !=b)) []|_=>none
 | .eql,.agg xs,.agg ys=>match ZR P t xs ys with|some r=>Eff.pure (.bool r) []|none=>none
 | .neq,.agg xs,.agg ys=>match ZR P t xs ys with|some r=>Eff.pure (.bool (!r)) []|none=>none
 | _,_,_=>vp op x y
def aUn(op:UnOp)(x:AV):Option Eff:=
 match op,x with
 | .not,.bool b=>Eff.pure (.bool (!b)) []
 | .neg,.int k n=>Eff.pure (.int k (k.wrap (0-n))) []
 | .xor,.int k n=>Eff.pure (.int k (U3 .xor k (if k.signed then -1 else k.max) n)) []
 | _,_=>none
def Ov(n:Nat)(f g:Nat->List AV)(i:Nat):List AV:=bif Nat.blt i n then f i else g (i-n)
def cj(sz:Nat):Nat->List AV->List (List AV)
 | 0,_=>[]
 | n+1,l=>l.take sz::cj sz n (l.drop sz)
def AV.view:AV->Option (Nat×Nat×Nat×Nat)
 | .vsl nm n=>some (nm,n,0,n)
 | .vsub nm n lo hi=>some (nm,n,lo,hi)
 | _=>none
def Up(x:AV):List Nat:=match x.view with|some (nm,_)=>[nm]|none=>[]
def De(o:Oper)(vs:List AV):List Nat:=
 match o.op,vs with
 | .load _ _,[.ptr nm _]=>[nm]
 | .store _ _ _,[.ptr nm _,_]=>[nm]
 | .load _ _,[.vpt nm _ _ _]=>[nm]
 | .store _ _ _,[.vpt nm _ _ _,_]=>[nm]
 | .indexAddr _ _ _,[.vsl nm _,_]=>[nm]
 | .indexAddr _ _ _,[.vsub nm _ _ _,_]=>[nm]
 | .indexAddr _ _ _,[.vpt nm _ _ _,_]=>[nm]
 | .slice _ _ _ _ _,.vsl nm _::_=>[nm]
 | .slice _ _ _ _ _,.vsub nm _ _ _::_=>[nm]
 | .slice _ _ _ _ _,.vpt nm _ _ _::_=>[nm]
 | .call { callee:=.builtin .copy,.. },[x,y]=>Up x++Up y
 | .call { callee:=.builtin .clear,.. },[x]=>Up x
 | .makeSlice _ _ _,_=>[o.dst.getD 0]
 | .buildSlice _ _ _,_=>[o.dst.getD 0]
 | .range _ _,[.omap nm]=>[o.dst.getD 0,nm]
 | .range _ _,_=>[o.dst.getD 0]
 | .next _ _,[.optr nm _]=>[nm]
 | .entry _,[.optr nm mm]=>[nm,mm]
 | .makeMap _ _,_=>[o.dst.getD 0]
 | .lookup _ _ _ _,[.omap nm,_]=>[nm]
 | .mapUpdate _ _ _ _,[.omap nm,_,_]=>[nm]
 | .insert _ _ _ _,[.omap nm,_,_]=>[nm]
 | .call { callee:=.builtin .len,.. },[.omap nm]=>[nm]
 | .call { callee:=.builtin .append,.. },[.vsl nm _,_]=>[nm]
 | .alloc _,_=>[o.dst.getD 0]
 | .box _ _,_=>[o.dst.getD 0]
 | .call { callee:=.builtin .append,.. },[.slice _ _ _ (.own nm),_]=>[nm]
 | .call { callee:=.builtin .append,.. },[.slice _ _ _ .exact,_]=>[o.dst.getD 0]
 | _,_=>[]
def room:Nat:=1099511627776
def CU(P:Program)(d:Nat)(ts:List TypeId)(vs:List AV)(es:List (Option Own)):Option Eff:=
 match ts,vs,es with
 | [t,t'],[.slice sz n f tag,.slice sz' n' f' _],[eo]=>
  match P.underlying t with
  | some (.slice e)=>
   let s:=A6 P e
   bif Nat.beq t t'&&B8 P e&&Nat.ble 1 s&&Nat.ble (((P.info? e).map (·.bytes)).getD 1000) 128&&((P.info? e).bind (·.zero)).isSome&&(Nat.beq sz s || Nat.beq n 0)&&(Nat.beq sz' s || Nat.beq n' 0)
    && Nat.beq ((((P.info? e).bind (·.zero)).map (·.cells.size)).getD 0) s then
    match tag,eo with
    | .own nm,some (.tok sz0 e0 m)=>
     bif Nat.beq sz0 s&&Nat.beq e0 e then
      some ⟨.slice s (n+n') (Ov n f f') (.own nm),[(nm,.tok s e (n+n'))],[m=n,n+n'<=room]⟩
     else none
    | .exact,none=>some ⟨.slice s (n+n') (Ov n f f') (.own d),[(d,.tok s e (n+n'))],[n+n'<=room,e=ES->n=0\/0<n']⟩
    | _,_=>none
   else none
  | _=>none
 | _,_,_=>none
def AX(place:Nat->Option (Nat×Nat))(cells:List AV):List (Nat×AV)->Option (List AV)
 | []=>some cells
 | (i,v)::rest=>
  match place i,v.cells with
  | some (off,size),some cs=>bif Nat.beq cs.length size&&Nat.ble (off+cs.length) cells.length then AX place (cells.take off++cs++cells.drop (off+cs.length)) rest else none
  | _,_=>none
def W7(P:Program)(t:TypeId):Option (List AV):=
 match(P.info? t).bind (·.zero) with
 | some z=>bif z.cells.toList.all (·.oneCell') then some (z.cells.toList.map AV.ofCell) else none
 | none=>none
def XR(P:Program)(t:TypeId)(cs:List AV)(off:Nat):Option AV:=
 bif B8 P t then
  bif Fd P t then(bif Nat.ble (off+A6 P t) cs.length then some (.agg ((cs.drop off).take (A6 P t))) else none)
  else(bif Nat.blt off cs.length then some (cs.getD off .any) else none)
 else none
def fX(P:Program)(t:TypeId)(is:List Nat)(vs:List AV):Option Eff:=
 match W7 P t,P.underlying t with
 | some z,some (.struct fields)=>
  bif fields.toList.all (λf=>B8 P f.type) then
   match AX (λi=>(fields.toList.map λf=>(f.offset,A6 P f.type))[i]?) z (is.zip vs) with
   | some cs=>Eff.pure (.agg cs) []
   | none=>none
  else none
 | some z,some (.array _ e)=>
  bif B8 P e then
   match AX (λi=>some (i*A6 P e,A6 P e)) z (is.zip vs) with
   | some cs=>Eff.pure (.agg cs) []
   | none=>none
  else none
 | _,_=>none
def AP(P:Program)(t:TypeId)(len:Nat)(is:List Nat)(vs:List AV):Option Eff:=
 match P.underlying t with
 | some (.slice e)=>
  match W7 P e with
  | some z=>
   bif B8 P e&&Nat.beq z.length (A6 P e)&&Nat.ble 1 (A6 P e)&&Nat.ble (len*A6 P e) 16777216 then
    match AX (λi=>some (i*A6 P e,A6 P e)) ((List.replicate len z).flatten) (is.zip vs) with
    | some cs=>Eff.pure (.slice (A6 P e) len (λi=>(cj (A6 P e) len (AV.stripAll cs)).getD i []) .exact) []
    | none=>none
   else none
  | none=>none
 | _=>none
def AV.num:List AV->Int
 | [.int _ x]=>x
 | _=>0
def JN(n:Nat)(f:Nat->List AV):List Int:=(List.range n).map λi=>AV.num (f i)
def mi(n:Nat)(f:Nat->List AV):Prop:=∀ i,i<n->f i=[.int .u8 (AV.num (f i))]/\0<=AV.num (f i)/\AV.num (f i)<256
def xX(P:Program)(t:TypeId):Bool:=match P.underlying t with|some (.int .u8)=>B8 P t&&Nat.beq (A6 P t) 1|_=>false
def JL(lo hi mx:Bool)(vs:List AV):Option Eff:=
 match lo,hi,mx,vs with
 | false,false,false,[.str s]=>Eff.pure (.str s) []
 | true,false,false,[.str s,.int _ l]=>Eff.pure (.str (s.drop l.toNat)) [0<=l/\l<=s.length]
 | false,true,false,[.str s,.int _ h]=>Eff.pure (.str (s.take h.toNat)) [0<=h/\h<=s.length]
 | true,true,false,[.str s,.int _ l,.int _ h]=>Eff.pure (.str ((s.drop l.toNat).take (h.toNat-l.toNat))) [0<=l/\l<=h/\h<=s.length]
 | _,_,_,_=>none
def fa(P:Program)(t:TypeId)(lo hi mx:Bool)(vs:List AV):Option Eff:=
 match P.underlying t with
 | some (.slice e)=>
  bif B8 P e then
   match lo,hi,mx,vs with
   | false,false,false,[.slice sz n f _]=>bif Nat.beq sz (A6 P e) || Nat.beq n 0 then Eff.pure (.slice sz n f .none) [] else none
   | true,false,false,[.slice sz n f _,.int _ l]=>bif Nat.beq sz (A6 P e) || Nat.beq n 0 then Eff.pure (.slice sz (n-l.toNat) (λi=>f (l.toNat+i)) .none) [0<=l/\l<=n] else none
   | false,true,false,[.slice sz n f _,.int _ h]=>bif Nat.beq sz (A6 P e) || Nat.beq n 0 then Eff.pure (.slice sz h.toNat f .none) [0<=h/\h<=n] else none
   | false,true,true,[.slice sz n f _,.int _ h,.int _ m]=>bif Nat.beq sz (A6 P e) || Nat.beq n 0 then Eff.pure (.slice sz h.toNat f .exact) [0<=h/\h=m/\h<=n] else none
   | true,true,true,[.slice sz n f _,.int _ l,.int _ h,.int _ m]=>bif Nat.beq sz (A6 P e) || Nat.beq n 0 then Eff.pure (.slice sz (h.toNat-l.toNat) (λi=>f (l.toNat+i)) .exact) [0<=l/\l<=h/\h=m/\h<=n] else none
   | true,true,false,[.slice sz n f _,.int _ l,.int _ h]=>bif Nat.beq sz (A6 P e) || Nat.beq n 0 then Eff.pure (.slice sz (h.toNat-l.toNat) (λi=>f (l.toNat+i)) .none) [0<=l/\l<=h/\h<=n] else none
   | _,_,_,_=>none
  else none
 | some .string=>JL lo hi mx vs
 | _=>none
def XS(cells:List AV)(k:Nat):Nat->List AV
 | 0=>[]
 | n+1=>cells.getD k .any::XS cells (k+1) n
def vu(P:Program)(o:Oper)(vs:List AV)(es:List (Option Own)):Option Eff:=
 match o.op with
 | .move _ | .assign _=>match vs with|[x]=>Eff.pure x []|_=>none
 | .binOp op t _ _ _=>match vs with|[x,y]=>nZ P op t x y|_=>none
 | .unOp op _ _=>match vs with|[x]=>aUn op x|_=>none
 | .convert src dst _=>
  match P.underlying src,P.underlying dst,vs with
  | some (.int _),some (.int k),[.int _ n]=>Eff.pure (.int k (k.wrap n)) []
  | some .string,some .string,[.str s]=>Eff.pure (.str s) []
  | some (.slice e),some .string,[.slice sz n f _]=>bif xX P e&&(Nat.beq sz 1 || Nat.beq n 0) then Eff.pure (.str (JN n f)) [mi n f] else none
  | _,_,_=>none
 | .load t _=>
  bif B8 P t then
   match vs,es with
   | [.ptr _ off],[some (.row _ cells)]=>
    bif Fd P t then(bif Nat.ble (off+A6 P t) cells.length then Eff.pure (.agg ((cells.drop off).take (A6 P t))) [] else none)
    else(bif Nat.blt off cells.length then Eff.pure (cells.getD off .any) [] else none)
   | [.rptr cells],_=>
    bif Fd P t then(bif Nat.beq (A6 P t) cells.length then Eff.pure (.agg cells) [] else none)
    else(bif Nat.ble 1 cells.length then Eff.pure (cells.getD 0 .any) [] else none)
   | _,_=>none
  else none
 | .store t _ _=>
  bif B8 P t then
   match vs,es with
   | [.ptr nm off,x],[some (.row e cells)]=>
    match x.cells with
    | some cs=>bif Nat.beq cs.length (A6 P t)&&Nat.ble (off+cs.length) cells.length then some ⟨.undef,[(nm,.row e (cells.take off++cs++cells.drop (off+cs.length)))],[]⟩ else none
    | none=>none
   | _,_=>none
  else none
 | .fieldAddr s _ f=>
  match P.underlying s with
  | some (.struct fields)=>
   match fields[f]? with
   | some fd=>
    bif B8 P fd.type&&Nat.ble 1 (A6 P fd.type) then
     match vs with
     | [.ptr nm off]=>Eff.pure (.ptr nm (off+fd.offset)) []
     | [.rptr cells]=>bif Nat.ble (fd.offset+A6 P fd.type) cells.length then Eff.pure (.rptr ((cells.drop fd.offset).take (A6 P fd.type))) [] else none
     | _=>none
    else none
   | none=>none
  | _=>none
 | .field s _ f=>
  match P.underlying s,vs with
  | some (.struct fields),[.agg cs]=>
   match fields[f]? with
   | some fd=>match XR P fd.type cs fd.offset with|some x=>Eff.pure x []|none=>none
   | none=>none
  | _,_=>none
 | .indexAddr t _ _=>
  match P.underlying t,vs with
  | some (.slice e),[.slice sz n f _,.int _ i]=>
   bif B8 P e&&(Nat.beq sz (A6 P e) || Nat.beq n 0) then Eff.pure (.rptr (f i.toNat)) [A5 i n] else none
  | some (.array len e),[.ptr nm off,.int _ i]=>
   bif B8 P e then Eff.pure (.ptr nm (off+i.toNat*A6 P e)) [A5 i len] else none
  | some (.array len e),[.rptr cells,.int _ i]=>
   bif B8 P e&&Nat.beq cells.length (len*A6 P e) then Eff.pure (.rptr (XS cells (i.toNat*A6 P e) (A6 P e))) [A5 i len] else none
  | _,_=>none
 | .index t _ _=>
  match P.underlying t,vs with
  | some (.array len e),[.agg cs,.int _ i]=>
   bif B8 P e&&!Fd P e&&Nat.beq (A6 P e) 1&&Nat.beq cs.length len then Eff.pure (cs.getD i.toNat .any) [A5 i len]
   else bif B8 P e&&Fd P e&&Nat.beq cs.length (len*A6 P e) then Eff.pure (.agg ((cs.drop (i.toNat*A6 P e)).take (A6 P e))) [A5 i len] else none
  | some .string,[.str s,.int _ i]=>Eff.pure (.int .u8 (s.getD i.toNat 0)) [A5 i s.length]
  | _,_=>none
 | .extract _ ix=>match vs with|[.tuple xs]=>(bif Nat.blt ix xs.length then Eff.pure (xs.getD ix .any) [] else none)|_=>none
 | .nilCheck _=>match vs with|[.ptr nm off]=>Eff.pure (.ptr nm off) []|[.rptr cs]=>Eff.pure (.rptr cs) []|_=>none
 | .alloc t=>
  match o.dst,W7 P t,es with
  | some d,some z,[none]=>bif B8 P t then some ⟨.ptr d 0,[(d,.row t z)],[]⟩ else none
  | _,_,_=>none
 | .box t _=>
  match o.dst,vs,es with
  | some d,[x],[none]=>match x.cells with|some cs=>some ⟨.ptr d 0,[(d,.row t cs)],[]⟩|none=>none
  | _,_,_=>none
 | .build t parts=>fX P t (parts.toList.map (·.1)) vs
 | .buildSlice t len parts=>AP P t len (parts.toList.map (·.1)) vs
 | .slice t _ lo hi mx=>fa P t lo.isSome hi.isSome mx.isSome vs
 | .call { callee:=.builtin .len,argTypes,.. }=>
  match argTypes.toList with
  | [t]=>
   match P.underlying t,vs with
   | some (.slice _),[.slice _ n _ _]=>Eff.pure (.int .i64 n) []
   | some .string,[.str s]=>Eff.pure (.int .i64 s.length) []
   | some (.array n _),[_]=>Eff.pure (.int .i64 n) []
   | _,_=>none
  | _=>none
 | .call { callee:=.builtin .max,.. }=>match vs with|[.int k a,.int _ b]=>Eff.pure (.int k (if a<b then b else a)) []|_=>none
 | .call { callee:=.builtin .min,.. }=>match vs with|[.int k a,.int _ b]=>Eff.pure (.int k (if b<a then b else a)) []|_=>none
 | .call { callee:=.builtin .append,argTypes,.. }=>match o.dst with|some d=>CU P d argTypes.toList vs es|none=>none
 | _=>none
def Eb(f:Nat->List AV)(i j:Nat)(cs:List AV):Nat->List AV:=λk=>bif Nat.beq k i then(f i).take j++cs++(f i).drop (j+cs.length) else f k
def WI(P:Program)(t t' e:TypeId):Bool:=
 Nat.beq t t'&&B8 P e&&Nat.ble 1 (A6 P e)&&Nat.ble (((P.info? e).map (·.bytes)).getD 1000) 128&&((P.info? e).bind (·.zero)).isSome&&Nat.beq ((((P.info? e).bind (·.zero)).map (·.cells.size)).getD 0) (A6 P e)
def cq(f:Nat->List AV)(lo k:Nat)(g:Nat->List AV):Nat->List AV:=λi=>bif Nat.ble lo i&&Nat.blt i (lo+k) then g (i-lo) else f i
def ul(P:Program)(ts:List TypeId)(x y:AV)(es:List (Option Own)):Option Eff:=
 match ts,x.view with
 | [t,_],some (nm,n,lo,hi)=>
  match P.underlying t,es with
  | some (.slice e),some (.arr sz e0 m f)::es'=>
   bif B8 P e&&Nat.beq sz (A6 P e) then
    match y.view,es' with
    | some (_,n',lo',hi'),[some (.arr sz' _ m' f')]=>
     bif Nat.beq sz' sz then some ⟨.int .i64 (Nat.min (hi'-lo') (hi-lo):Nat),[(nm,.arr sz e0 m (cq f lo (Nat.min (hi'-lo') (hi-lo)) (λi=>f' (lo'+i))))],[n=m,n'=m']⟩ else none
    | none,[]=>
     match y with
     | .slice sz' n' f' _=>bif Nat.beq sz' sz || Nat.beq n' 0 then some ⟨.int .i64 (Nat.min n' (hi-lo):Nat),[(nm,.arr sz e0 m (cq f lo (Nat.min n' (hi-lo)) f'))],[n=m]⟩ else none
     | _=>none
    | _,_=>none
   else none
  | _,_=>none
 | _,_=>none
def nb(P:Program)(ts:List TypeId)(x:AV)(es:List (Option Own)):Option Eff:=
 match ts,x.view with
 | [t],some (nm,n,lo,hi)=>
  match P.underlying t,es with
  | some (.slice e),[some (.arr sz e0 m f)]=>
   match W7 P e with
   | some z=>bif B8 P e&&Nat.beq sz (A6 P e)&&Nat.beq z.length (A6 P e) then some ⟨.any,[(nm,.arr sz e0 m (cq f lo (hi-lo) (λ_=>z)))],[n=m]⟩ else none
   | none=>none
  | _,_=>none
 | _,_=>none
def nf(P:Program)(t:TypeId)(lo hi mx:Bool)(x:AV)(vs:List AV):Option Eff:=
 match P.underlying t,x.view with
 | some (.slice e),some (nm,n,l0,h0)=>
  bif B8 P e then
   match lo,hi,mx,vs with
   | true,false,false,[.int _ l]=>Eff.pure (.vsub nm n (l0+l.toNat) h0) [0<=l/\l0+l.toNat<=h0]
   | false,true,false,[.int _ h]=>Eff.pure (.vsub nm n l0 (l0+h.toNat)) [0<=h/\l0+h.toNat<=h0]
   | true,true,false,[.int _ l,.int _ h]=>Eff.pure (.vsub nm n (l0+l.toNat) (l0+h.toNat)) [0<=l/\l<=h/\l0+h.toNat<=h0]
   | _,_,_,_=>none
  else none
 | _,_=>none
def ny(P:Program)(hint:Bool)(o:Oper)(vs:List AV)(es:List (Option Own)):Option Eff:=
 match o.op,vs,es with
 | .load t _,[.vpt _ n i j],[some (.arr sz _ m f)]=>
  bif B8 P t then
   bif Fd P t then(bif Nat.blt 500 sz then Eff.pure (.agg (((f i).drop j).take (A6 P t))) [n=m,j+A6 P t<=sz] else bif Nat.ble (j+A6 P t) sz then Eff.pure (.agg (((f i).drop j).take (A6 P t))) [n=m] else none)
   else(bif Nat.blt 500 sz then Eff.pure ((f i).getD j .any) [n=m,j<sz] else bif Nat.blt j sz then Eff.pure ((f i).getD j .any) [n=m] else none)
  else none
 | .store t _ _,[.vpt nm n i j,x],[some (.arr sz e m f)]=>
  match x.cells with
  | some cs=>
   bif Nat.blt 500 sz then(bif B8 P t&&Nat.beq cs.length (A6 P t) then some ⟨.undef,[(nm,.arr sz e m (Eb f i j cs))],[n=m,j+cs.length<=sz]⟩ else none)
   else bif B8 P t&&Nat.beq cs.length (A6 P t)&&Nat.ble (j+cs.length) sz then some ⟨.undef,[(nm,.arr sz e m (Eb f i j cs))],[n=m]⟩ else none
  | none=>none
 | .fieldAddr s _ k,[.vpt nm n i j],_=>
  match P.underlying s with
  | some (.struct fields)=>
   match fields[k]? with
   | some fd=>bif B8 P fd.type&&Nat.ble 1 (A6 P fd.type) then Eff.pure (.vpt nm n i (j+fd.offset)) [] else none
   | none=>none
  | _=>none
 | .indexAddr t _ _,[.vsl nm n,.int _ i],[some (.arr sz _ _ _)]=>
  match P.underlying t with
  | some (.slice e)=>bif B8 P e&&Nat.beq sz (A6 P e) then Eff.pure (.vpt nm n i.toNat 0) [A5 i n] else none
  | _=>none
 | .indexAddr t _ _,[.vsub nm n lo hi,.int _ i],[some (.arr sz _ _ _)]=>
  match P.underlying t with
  | some (.slice e)=>bif B8 P e&&Nat.beq sz (A6 P e) then Eff.pure (.vpt nm n (lo+i.toNat) 0) [A5 i (hi-lo)] else none
  | _=>none
 | .slice t _ lo hi mx,x::vs,[some (.arr sz _ _ _)]=>
  match P.underlying t with
  | some (.slice e)=>bif Nat.beq sz (A6 P e) then nf P t lo.isSome hi.isSome mx.isSome x vs else none
  | _=>none
 | .call { callee:=.builtin .copy,argTypes,.. },[x,y],es=>ul P argTypes.toList x y es
 | .call { callee:=.builtin .clear,argTypes,.. },[x],es=>nb P argTypes.toList x es
 | .nilCheck _,[.vpt nm n i j],_=>Eff.pure (.vpt nm n i j) []
 | .nilCheck _,[.clo f xs ys],_=>Eff.pure (.clo f xs ys) []
 | .makeFunc (.func f) first captured,vs,_=>bif Nat.beq vs.length (first.toList.length+captured.toList.length) then Eff.pure (.clo f (vs.take first.toList.length) (vs.drop first.toList.length)) [] else none
 | .makeSlice t _ _,[.int _ l,.int _ c],[none]=>
  match o.dst,P.underlying t with
  | some d,some (.slice e)=>
   match W7 P e with
   | some z=>bif B8 P e&&Nat.ble 1 (A6 P e)&&Nat.beq z.length (A6 P e)&&Nat.ble (((P.info? e).map (·.bytes)).getD 1000) 128 then some ⟨.vsl d l.toNat,[(d,.arr (A6 P e) e l.toNat (λ_=>z))],[0<=l/\l<=c/\c<=(room:Int)]⟩ else none
   | none=>none
  | _,_=>none
 | .call { callee:=.builtin .len,argTypes,.. },[.vsl _ n],_=>
  match argTypes.toList with
  | [t]=>match P.underlying t with|some (.slice _)=>Eff.pure (.int .i64 n) []|_=>none
  | _=>none
 | .call { callee:=.builtin .len,argTypes,.. },[.vsub _ _ lo hi],_=>
  match argTypes.toList with
  | [t]=>match P.underlying t with|some (.slice _)=>Eff.pure (.int .i64 (hi-lo:Nat)) []|_=>none
  | _=>none
 | .call { callee:=.builtin .append,argTypes,.. },[.vsl nm n,.slice sz' n' f' _],[some (.arr sz0 e0 m f)]=>
  match argTypes.toList with
  | [t,t']=>
   match P.underlying t with
   | some (.slice e)=>bif WI P t t' e&&(Nat.beq sz' (A6 P e) || Nat.beq n' 0)&&Nat.beq sz0 (A6 P e)&&Nat.beq e0 e then some ⟨.vsl nm (n+n'),[(nm,.arr sz0 e0 (n+n') (Ov n f f'))],[n=m,n+n'<=room]⟩ else none
   | _=>none
  | _=>none
 | .call { callee:=.builtin .append,argTypes,.. },[.slice _ n _ .exact,.slice sz' n' f' _],[none]=>
  match argTypes.toList,o.dst with
  | [t,t'],some d=>
   match P.underlying t with
   | some (.slice e)=>bif hint&&WI P t t' e&&(Nat.beq sz' (A6 P e) || Nat.beq n' 0)&&Nat.beq n 0 then some ⟨.vsl d n',[(d,.arr (A6 P e) e n' f')],[n'<=room]⟩ else none
   | _=>none
  | _,_=>none
 | _,_,_=>none
def uH(s:List Int)(i:Nat):List AV:=[.int .u8 (s.getD i 0)]
def PS(P:Program)(d:Nat)(ts:List TypeId)(vs:List AV)(es:List (Option Own)):Option Eff:=
 match ts,vs,es with
 | [t,t'],[.slice sz n f tag,.str s],[eo]=>
  match P.underlying t,P.underlying t' with
  | some (.slice e),some .string=>
   bif xX P e&&Nat.ble (((P.info? e).map (·.bytes)).getD 1000) 128&&(match(P.info? e).bind (·.zero) with|some (.int .u8 0)=>true|_=>false)&&(Nat.beq sz 1 || Nat.beq n 0) then
    match tag,eo with
    | .own nm,some (.tok sz0 e0 m)=>
     bif Nat.beq sz0 1&&Nat.beq e0 e then
      some ⟨.slice 1 (n+s.length) (Ov n f (uH s)) (.own nm),[(nm,.tok 1 e (n+s.length))],[m=n,n+s.length<=room]⟩
     else none
    | .exact,none=>some ⟨.slice 1 (n+s.length) (Ov n f (uH s)) (.own d),[(d,.tok 1 e (n+s.length))],[n+s.length<=room,e=ES->n=0\/0<s.length]⟩
    | _,_=>none
   else none
  | _,_=>none
 | _,_,_=>none
def OT(l:List Int)(i:Nat):Nat×Nat:=
 let at' (k:Nat):Nat:=(l.getD (i+k) 0).toNat
 let cont (k:Nat):Bool:=decide (i+k<l.length)&&(at' k / 64==2)
 let b0:=at' 0
 if b0<0x80 then(b0,1)
 else if b0 / 32==6&&cont 1 then
  let c:=(b0 % 32)*64+at' 1 % 64
  if c>=0x80 then(c,2) else(Utf8.runeError,1)
 else if b0 / 16==14&&cont 1&&cont 2 then
  let c:=(b0 % 16)*4096+(at' 1 % 64)*64+at' 2 % 64
  if c>=0x800&&Utf8.valid c then(c,3) else(Utf8.runeError,1)
 else if b0 / 8==30&&cont 1&&cont 2&&cont 3 then
  let c:=(b0 % 8)*262144+(at' 1 % 64)*4096+(at' 2 % 64)*64+at' 3 % 64
  if c>=0x10000&&Utf8.valid c then(c,4) else(Utf8.runeError,1)
 else(Utf8.runeError,1)
def pz(l:List Int)(i:Nat):Int:=((OT l i).1:Nat)
def eO(l:List Int)(i:Nat):Nat:=bif Nat.blt i l.length then i+(OT l i).2 else i
def JK(P:Program)(t:TypeId)(len:Nat)(is:List Nat)(vs:List AV)(d:Nat):Option Eff:=
 match P.underlying t with
 | some (.slice e)=>
  match W7 P e with
  | some z=>
   bif B8 P e&&Nat.beq z.length (A6 P e)&&Nat.ble 1 (A6 P e)&&Nat.ble (len*A6 P e) 16777216 then
    match AX (λi=>some (i*A6 P e,A6 P e)) ((List.replicate len z).flatten) (is.zip vs) with
    | some cs=>some ⟨.vsl d len,[(d,.arr (A6 P e) e len (λi=>(cs.drop (i*A6 P e)).take (A6 P e)))],[]⟩
    | none=>none
   else none
  | none=>none
 | _=>none
def nv(P:Program)(hint:Bool)(o:Oper)(vs:List AV)(es:List (Option Own)):Option Eff:=
 match o.op,vs,es with
 | .range t _,[.str s],[none]=>match o.dst,P.underlying t with|some d,some .string=>some ⟨.optr d d,[(d,.obj (.iter s 0))],[]⟩|_,_=>none
 | .next _ true,[.optr nm _],[some (.obj (.iter l p))]=>some ⟨.nxt (Nat.blt p l.length) p (pz l p),[(nm,.obj (.iter l (eO l p)))],[]⟩
 | .alloc t,[],[none]=>
  match o.dst,P.underlying t,W7 P t with
  | some d,some (.array len e),some z=>
   bif hint&&B8 P e&&Nat.ble 1 len&&Nat.beq z.length (len*A6 P e)&&Nat.ble len room then some ⟨.vpt d len 0 0,[(d,.arr (A6 P e) t len (λi=>(z.drop (i*A6 P e)).take (A6 P e)))],[]⟩ else none
  | some d,some (.struct _),some z=>bif hint&&Nat.blt 500 (A6 P t)&&Nat.beq z.length (1*A6 P t) then some ⟨.vpt d 1 0 0,[(d,.arr (A6 P t) t 1 (λi=>(z.drop (i*A6 P t)).take (A6 P t)))],[]⟩ else none
  | _,_,_=>none
 | .box t _,[.agg cs],[none]=>
  match o.dst,P.underlying t with
  | some d,some (.array len e)=>
   bif hint&&B8 P e&&Nat.ble 1 len&&Nat.beq cs.length (len*A6 P e)&&Nat.ble len room then some ⟨.vpt d len 0 0,[(d,.arr (A6 P e) t len (λi=>(cs.drop (i*A6 P e)).take (A6 P e)))],[]⟩ else none
  | some d,some (.struct _)=>bif hint&&Nat.blt 500 (A6 P t)&&Nat.beq cs.length (1*A6 P t) then some ⟨.vpt d 1 0 0,[(d,.arr (A6 P t) t 1 (λi=>(cs.drop (i*A6 P t)).take (A6 P t)))],[]⟩ else none
  | _,_=>none
 | .indexAddr t _ _,[.vpt nm n 0 0,.int _ i],[some (.arr sz _ _ _)]=>
  match P.underlying t with
  | some (.array len e)=>
   bif Nat.blt 500 sz then(bif B8 P e then Eff.pure (.vpt nm n 0 (0+i.toNat*A6 P e)) [A5 i len] else none)
   else bif B8 P e&&Nat.beq n len&&Nat.beq sz (A6 P e) then Eff.pure (.vpt nm n i.toNat 0) [A5 i n] else none
  | _=>none
 | .indexAddr t _ _,[.vpt nm n a j,.int _ i],[some (.arr sz _ _ _)]=>
  match P.underlying t with
  | some (.array len e)=>bif Nat.blt 500 sz&&B8 P e then Eff.pure (.vpt nm n a (j+i.toNat*A6 P e)) [A5 i len] else none
  | _=>none
 | .extract _ 0,[.nxt b _ _],_=>Eff.pure (.bool b) []
 | .extract _ 1,[.nxt b i _],_=>Eff.pure (.int .i64 i) [b=true]
 | .extract _ 2,[.nxt b _ r],_=>Eff.pure (.int .i32 r) [b=true]
 | .call { callee:=.builtin .append,argTypes,.. },[.slice sz n f tag,.str s],[eo]=>match o.dst with|some d=>PS P d argTypes.toList [.slice sz n f tag,.str s] [eo]|none=>none
 | .binOp .eql t _ (.const .nilIface) _,[.err b,_],_=>match P.underlying t with|some (.interface _)=>Eff.pure (.bool (!b)) []|_=>none
 | .binOp .neq t _ (.const .nilIface) _,[.err b,_],_=>match P.underlying t with|some (.interface _)=>Eff.pure (.bool b) []|_=>none
 | .binOp .eql t _ (.const (.slice none 0 0)) _,[.slice _ n _ _,_],_=>match P.underlying t with|some (.slice _)=>Eff.pure (.nilq true n) []|_=>none
 | .binOp .neq t _ (.const (.slice none 0 0)) _,[.slice _ n _ _,_],_=>match P.underlying t with|some (.slice _)=>Eff.pure (.nilq false n) []|_=>none
 | .binOp .eql t _ (.const (.pointer none)) _,[.ptr _ _,_],_=>match P.underlying t with|some (.pointer _)=>Eff.pure (.bool false) []|_=>none
 | .binOp .neq t _ (.const (.pointer none)) _,[.ptr _ _,_],_=>match P.underlying t with|some (.pointer _)=>Eff.pure (.bool true) []|_=>none
 | .binOp .eql t _ (.const (.pointer none)) _,[.nilp,_],_=>match P.underlying t with|some (.pointer _)=>Eff.pure (.bool true) []|_=>none
 | .binOp .neq t _ (.const (.pointer none)) _,[.nilp,_],_=>match P.underlying t with|some (.pointer _)=>Eff.pure (.bool false) []|_=>none
 | .buildSlice t len parts,vs,[none]=>bif hint then(match o.dst with|some d=>JK P t len (parts.toList.map (·.1)) vs d|none=>none) else none
 | _,_,_=>none
def mget{V:Type}(d:V):List (Int×V)->Int->V
 | [],_=>d
 | (a,b)::r,k=>bif k==a then b else mget d r k
def C2{V:Type}:List (Int×V)->Int->Bool
 | [],_=>false
 | (a,_)::r,k=>(k==a) || C2 r k
def Hr{V:Type}:List (Int×V)->Int->V->List (Int×V)
 | [],k,v=>[(k,v)]
 | (a,b)::r,k,v=>bif k==a then(k,v)::r else(a,b)::Hr r k v
def RB(P:Program)(t:TypeId):Option (IntKind×TypeId):=
 match P.underlying t with
 | some (.map kt e)=>match P.underlying kt with|some (.int k)=>some (k,e)|_=>none
 | _=>none
def YM(P:Program)(t:TypeId):Option AV:=((P.info? t).bind (·.zero)).map λv=>(AV.ofValue v).strip
def nw(P:Program)(o:Oper)(vs:List AV)(es:List (Option Own)):Option Eff:=
 match o.op,vs,es with
 | .makeMap t none,[],[none]=>match o.dst,RB P t with|some d,some (k,_)=>some ⟨.omap d,[(d,.obj (.map true k []))],[]⟩|_,_=>none
 | .makeMap t (some _),[.int _ _],[none]=>match o.dst,RB P t with|some d,some (k,_)=>some ⟨.omap d,[(d,.obj (.map true k []))],[]⟩|_,_=>none
 | .lookup t _ _ ok,[.omap _,.int k' i],[some (.obj (.map _ k l))]=>
  match RB P t with
  | some (k0,e)=>bif EI k k'&&EI k k0 then(match YM P e with|some z=>Eff.pure (bif ok then .tuple [mget z l i,.bool (C2 l i)] else mget z l i) []|none=>none) else none
  | none=>none
 | .mapUpdate t _ _ _,[.omap nm,.int k' i,x],[some (.obj (.map true k l))]=>
  match RB P t with
  | some (k0,_)=>bif EI k k'&&EI k k0 then some ⟨.undef,[(nm,.obj (.map true k (Hr l i x.strip)))],[]⟩ else none
  | none=>none
 | .range t _,[.omap mm],[none,some (.obj (.map _ _ l))]=>match o.dst,RB P t with|some d,some _=>some ⟨.optr d mm,[(d,.obj (.miter (.omap mm) l.length []))],[]⟩|_,_=>none
 | .entry _,[.optr _ mm],[some (.obj (.miter (.omap m') n (i::_))),some (.obj (.map _ k l))]=>bif Nat.beq m' mm then some ⟨.tuple [.int k (l.getD i (0,.any)).1,(l.getD i (0,.any)).2],[],[n=l.length,i<l.length]⟩ else none
 | .call { callee:=.builtin .len,argTypes,.. },[.omap _],[some (.obj (.map _ _ l))]=>
  match argTypes.toList with
  | [t]=>match P.underlying t with|some (.map _ _)=>Eff.pure (.int .i64 l.length) []|_=>none
  | _=>none
 | .lookup t _ _ ok,[.omap _,.int k' i],[some (.obj (.pmap _ k l))]=>
  match RB P t with
  | some (k0,e)=>bif EI k k'&&EI k k0 then(match YM P e with|some z=>Eff.pure (bif ok then .tuple [mget z l i,.bool (C2 l i)] else mget z l i) []|none=>none) else none
  | none=>none
 | .call { callee:=.builtin .len,argTypes,.. },[.omap _],[some (.obj (.pmap _ _ l))]=>
  match argTypes.toList with
  | [t]=>match P.underlying t with|some (.map _ _)=>Eff.pure (.int .i64 l.length) []|_=>none
  | _=>none
 | _,_,_=>none
def Hi(n:Nat)(f:Nat->List AV):List AV:=(List.range n).flatMap f
def nu(P:Program)(o:Oper)(vs:List AV)(es:List (Option Own)):Option Eff:=
 match o.op,vs,es with
 | .load t _,[.vpt _ n 0 0],[some (.arr sz _ m f)]=>
  match P.underlying t with
  | some (.array len _)=>bif B8 P t&&Nat.beq n len&&Nat.beq (A6 P t) (n*sz) then Eff.pure (.agg (Hi n f)) [n=m] else none
  | _=>none
 | .store t _ _,[.vpt nm n 0 0,x],[some (.arr sz e m f)]=>
  match P.underlying t,x.cells with
  | some (.array len _),some cs=>bif B8 P t&&Nat.beq n len&&Nat.beq cs.length (A6 P t)&&Nat.beq (A6 P t) (n*sz) then some ⟨.undef,[(nm,.arr sz e m (λi=>(cs.drop (i*sz)).take sz))],[n=m]⟩ else none
  | _,_=>none
 | .slice t _ lo hi mx,.vpt nm n 0 0::vs,[some (.arr sz e _ _)]=>
  match P.underlying t with
  | some (.array len el)=>
   bif B8 P el&&Nat.beq n len&&Nat.beq sz (A6 P el)&&nr e then
    match lo.isSome,hi.isSome,mx.isSome,vs with
    | true,false,false,[.int _ l]=>Eff.pure (.vsub nm n (0+l.toNat) n) [0<=l/\0+l.toNat<=n]
    | false,true,false,[.int _ h]=>Eff.pure (.vsub nm n 0 (0+h.toNat)) [0<=h/\0+h.toNat<=n]
    | true,true,false,[.int _ l,.int _ h]=>Eff.pure (.vsub nm n (0+l.toNat) (0+h.toNat)) [0<=l/\l<=h/\0+h.toNat<=n]
    | false,false,false,[]=>Eff.pure (.vsub nm n 0 n) []
    | _,_,_,_=>none
   else none
  | _=>none
 | _,_,_=>none
def ut(P:Program)(t:TypeId):Bool:=match P.underlying t with|some (.func _ _ _)=>true|_=>false
def sQ(P:Program)(t:TypeId)(nm:Nat)(k k':IntKind)(i:Int)(x:AV)(l:List (Int×AV)):Option Eff:=
 match RB P t with
 | some (k0,_)=>bif EI k k'&&EI k k0&&!C2 l i then some ⟨.undef,[(nm,.obj (.tab k (l++[(i,x)])))],[]⟩ else none
 | none=>none
def nz(P:Program)(hint:Nat)(o:Oper)(vs:List AV)(es:List (Option Own)):Option Eff:=
 match o.op,vs,es with
 | .box _ _,[x],[none]=>
  bif Nat.beq hint 2 then(match x with | .agg _=>none|x=>match x.cells with|some cs=>Eff.pure (.rpo cs) []|none=>none)
  else bif Nat.beq hint 3 then(match x.cells with|some cs=>Eff.pure (.rptr (AV.stripAll cs)) []|none=>none) else none
 | .slice t _ lo hi mx,.rptr cells::vs,_=>
  match P.underlying t with
  | some (.array len el)=>
   bif B8 P el&&Nat.beq cells.length (len*A6 P el)&&Nat.ble len room then
    match lo.isSome,hi.isSome,mx.isSome,vs with
    | true,false,false,[.int _ l]=>Eff.pure (.slice (A6 P el) (len-l.toNat) (λi=>(cells.drop ((l.toNat+i)*A6 P el)).take (A6 P el)) .none) [0<=l/\l.toNat<=len]
    | false,false,false,[]=>Eff.pure (.slice (A6 P el) (len-0) (λi=>(cells.drop ((0+i)*A6 P el)).take (A6 P el)) .none) []
    | _,_,_,_=>none
   else none
  | _=>none
 | .load t _,[.rpo cells],_=>bif B8 P t&&!Fd P t&&Nat.ble 1 cells.length then Eff.pure (cells.getD 0 .any) [] else none
 | .makeMap t none,[],[none]=>match o.dst,RB P t with|some d,some (k,e)=>bif ut P e then some ⟨.omap d,[(d,.obj (.tab k []))],[]⟩ else none|_,_=>none
 | .insert t _ _ _,[.omap nm,.int k' i,x],[some (.obj (.tab k l))]=>sQ P t nm k k' i x l
 | .mapUpdate t _ _ _,[.omap nm,.int k' i,x],[some (.obj (.tab k l))]=>sQ P t nm k k' i x l
 | .lookup t _ _ false,[.omap _,.int k' i],[some (.obj (.tab k l))]=>
  match RB P t with
  | some (k0,e)=>bif EI k k'&&EI k k0&&C2 l i&&(YM P e).isSome then Eff.pure (mget .any l i) [] else none
  | none=>none
 | _,_,_=>none
def n4(P:Program)(hint:Nat)(o:Oper)(vs:List AV)(es:List (Option Own)):Option Eff:=
 match nz P hint o vs es with
 | some e=>some e
 | none=>match ny P (Nat.beq hint 1) o vs es with
 | some e=>some e
 | none=>match nv P (Nat.beq hint 1) o vs es with|some e=>some e|none=>match nw P o vs es with|some e=>some e|none=>match nu P o vs es with|some e=>some e|none=>vu P o vs es
mutual
def AV.ren(ρ:List (Nat×Nat)):AV->AV
 | .slice sz n f (.own nm)=>.slice sz n f (match Ag ρ nm with|some k=>.own k|none=>.none)
 | .slice sz n f .exact=>.slice sz n f .exact
 | .slice sz n f (.fam _ _)=>.slice sz n f .none
 | .ptr nm off=>match Ag ρ nm with|some k=>.ptr k off|none=>.any
 | .vsl nm n=>match Ag ρ nm with|some k=>.vsl k n|none=>.any
 | .vpt nm n i j=>match Ag ρ nm with|some k=>.vpt k n i j|none=>.any
 | .vsub nm n lo hi=>match Ag ρ nm with|some k=>.vsub k n lo hi|none=>.any
 | .optr nm mm=>match Ag ρ nm with|some k=>.optr k ((Ag ρ mm).getD 0)|none=>.any
 | .omap nm=>match Ag ρ nm with|some k=>.omap k|none=>.any
 | .clo f xs ys=>.clo f (AV.renAll ρ xs) (AV.renAll ρ ys)
 | .agg cs=>.agg (AV.renAll ρ cs)
 | .rpo cs=>.rpo (AV.renAll ρ cs)
 | .tuple cs=>.tuple (AV.renAll ρ cs)
 | .cond c x=>.cond c (x.ren ρ)
 | x=>x
def AV.renAll(ρ:List (Nat×Nat)):List AV->List AV
 | []=>[]
 | x::l=>x.ren ρ::AV.renAll ρ l
end
mutual
def AV.loose:AV->AV
 | .slice sz n f .exact=>.slice sz n f (bif Nat.beq sz 0 then .exact else .none)
 | .agg cs=>.agg (AV.looseAll cs)
 | x=>x
def AV.looseAll:List AV->List AV
 | []=>[]
 | x::l=>x.loose::AV.looseAll l
end
mutual
def AV.vs(l:List (Nat×Own)):AV->AV
 | .slice sz n f _=>.slice sz n f .none
 | .vsl nm n=>match Ag l nm with|some (.arr sz _ _ f)=>.slice sz n (λi=>AV.stripAll (f i)) .none|_=>.any
 | .vsub nm _ lo hi=>match Ag l nm with|some (.arr sz _ _ f)=>.slice sz (hi-lo) (λi=>AV.stripAll (f (lo+i))) .none|_=>.any
 | .agg cs=>.agg (AV.vsAll l cs)
 | x=>x.strip
def AV.vsAll(l:List (Nat×Own)):List AV->List AV
 | []=>[]
 | x::r=>x.vs l::AV.vsAll l r
end
def AV.vsA(l:List (Nat×Own)):AV->AV
 | .clo f xs ys=>.clo f (AV.stripAll xs) (AV.stripAll ys)
 | x=>x.vs l
mutual
def AV.vsOb(l:List (Nat×Own)):AV->List Prop
 | .vsl nm n=>match Ag l nm with|some (.arr _ _ m _)=>[n=m]|_=>[]
 | .vsub nm n _ _=>match Ag l nm with|some (.arr _ _ m _)=>[n=m]|_=>[]
 | .agg cs=>AV.vsObAll l cs
 | _=>[]
def AV.vsObAll(l:List (Nat×Own)):List AV->List Prop
 | []=>[]
 | x::r=>x.vsOb l++AV.vsObAll l r
end
mutual
def AV.flat:AV->Bool
 | .int _ _ | .bool _ | .str _ | .err _ | .undef | .any=>true
 | .agg cs=>AV.flatAll cs
 | .tuple cs=>AV.flatAll cs
 | _=>false
def AV.flatAll:List AV->Bool
 | []=>true
 | x::r=>x.flat&&AV.flatAll r
end
def AV.flatC:AV->Bool
 | .omap _=>true
 | .vsl _ _=>true
 | .ptr _ _=>true
 | .nilp=>true
 | x=>x.flat
def AV.flatR:AV->Bool
 | .tuple cs=>cs.all AV.flatC
 | x=>x.flatC
def AV.flatD:AV->Bool
 | .slice _ _ _ (.own _)=>true
 | x=>x.flatC
def AV.flatN:AV->Prop
 | .slice _ n _ (.own _)=>n=0
 | _=>True
def fy:List AV->Prop
 | []=>True
 | x::r=>x.flatN/\fy r
def uq:Own->Prop
 | .obj (.map _ _ l)=>∀ q∈l,q.2.flat=true
 | .obj (.pmap _ _ l)=>∀ q∈l,q.2.flat=true
 | .arr _ _ m f=>∀ i,i<m->AV.flatAll (f i)=true
 | .row _ cells=>cells.all AV.flatD=true/\fy cells
 | .tok _ _ _=>True
 | _=>False
def QJ:List (Nat×Own)->Prop
 | []=>True
 | (_,o)::r=>uq o/\QJ r
def S6:List Nat->List (Option Own)->List (Nat×Own)
 | n::ns,some o::es=>(n,o)::S6 ns es
 | _::ns,none::es=>S6 ns es
 | _,_=>[]
def Own.ren(ρ:List (Nat×Nat)):Own->Own
 | .row e cells=>.row e (AV.renAll ρ cells)
 | .arr sz e m f=>.arr sz e m (λi=>AV.renAll ρ (f i))
 | .obj x=>.obj (x.on (AV.ren ρ))
 | .tok sz e m=>.tok sz e m
structure Wf where
 hs:List (Nat×Nat)
 fr:List (Nat×Nat)
 res:AV
 H:List (Nat×Own)
 vw:List Nat
 ro:List Nat
structure mW where
 sz:Nat
 e:TypeId
 m:Nat->Option Nat
structure St where
 tmps:List (Nat×AV)
 own:List (Nat×Own)
 fam:List (Nat×mW)
def St.get(st:St)(t:Nat):AV:=match Ag st.tmps t with|some x=>x|none=>.any
def Db(l:List (Nat×Own))(r:List (Nat×mW))(k:Nat):Option Own:=
 if k<Bp then Ag l k else(Ag r (k / Bp-1)).bind λF=>(F.m (k % Bp)).map (Own.tok F.sz F.e)
def St.sto(st:St):Sto:=⟨st.get,Db st.own st.fam⟩
def Xz(ns:List Nat)(wo:List (Nat×Own)):Bool:=ns.all (λn=>Nat.blt n Bp)&&wo.all (λp=>Nat.blt p.1 Bp)
def RZ(l:List (Nat×Own)):Bool:=l.all (λp=>Nat.blt p.1 Bp)
def fx(get:Nat->AV):Operand->AV
 | .tmp t=>get t
 | .const v=>AV.ofValue v
 | .func f=>.clo f [] []
 | .global g=>match jU g with|some cells=>.rptr cells|none=>.any
def AV.uncond:AV->AV
 | .cond _ x=>x
 | x=>x
def AV.there(γ:Bool)(gd:Bool):AV->List Prop
 | .cond c _=>bif gd then[γ=true->c=true] else[c=true]
 | _=>[]
def wS(gd γ:Bool)(obs:List Prop):List Prop:=bif gd then obs.map λp=>(γ=true->p) else obs
def AV.boolIn:AV->Option (List Prop×Bool)
 | .bool x=>some ([],x)
 | .cond c (.bool x)=>some ([c=true],x)
 | _=>none
def nd(vs:List AV):Option Eff:=
 match vs with
 | [c,a,b]=>
  match c.uncond,a.boolIn,b.boolIn with
  | .bool cb,some (pa,xa),some (pb,xb)=>some ⟨.bool (bif cb then xa else xb),[],pa.map (λp=>(cb=true->p))++pb.map (λp=>(cb=false->p))⟩
  | _,_,_=>none
 | _=>none
def ol(want:Bool):AV->Option Bool
 | .bool b=>some (b==want)
 | .cond c (.bool b)=>some (c&&(b==want))
 | .undef=>some false
 | _=>none
def QP(o:Oper):Bool:=
 match o.op with
 | .call { callee:=.value _,.. }=>true
 | _=>false
def oQ(o:Oper)(vs:List AV):Option (FuncId×List AV):=
 match o.op with
 | .call { callee:=.value (.func f),.. }=>some (f,vs.drop 1)
 | .call { callee:=.value (.tmp _),.. }=>match vs with | .clo f fs cs::rest=>some (f,fs++rest++cs)|_=>none
 | _=>none
def FT(o:Oper):Bool:=match o.op with | .pick _ _ _=>true|_=>false
abbrev GX:=FuncId->List AV->List (Nat×Own)->AV->List (Nat×Own)->Prop
def CW(r:Wf):List Nat:=r.vw++(r.hs.map (·.1)++r.fr.map (·.2))
def Fy(r:Wf):List (Nat×Nat):=r.hs.map (λx=>(x.2,x.1))++r.fr
def BB(hs:List (Nat×Nat))(es:List (Option Own)):Option (List (Nat×Own)):=
 match hs,es with
 | [],_=>some []
 | (_,k)::hs',some o::es'=>match BB hs' es' with|some l=>some ((k,o)::l)|none=>none
 | _,_=>none
def ON:List (Option Own)->Bool
 | []=>true
 | none::l=>ON l
 | _::_=>false
def Bj(n:Nat):List Nat->Bool
 | []=>false
 | k::l=>Nat.beq k n || Bj n l
def X0:List Nat->Bool
 | []=>true
 | k::l=>!Bj k l&&X0 l
def P9(r:Wf):List (Nat×Own):=r.H.map (λx=>(match Ag (Fy r) x.1 with|some c=>c|none=>0,x.2.ren (Fy r)))
def Tz(es:List (Option Own))(r:Wf):Bool:=
 ON (es.drop r.hs.length)&&X0 ((Fy r).map (·.2))&&X0 ((Fy r).map (·.1))&&X0 (r.H.map (·.1))&&X0 ((P9 r).map (·.1))&&r.H.all (λx=>Bj x.1 ((Fy r).map (·.1)))
def WZ{α:Type}:List α->Bool
 | []=>true
 | _=>false
def px(ro:List Nat)(wo:List (Nat×Own)):List (Nat×Own):=wo.filter λx=>!Bj x.1 ro
def pw(ro:List Nat)(wo:List (Nat×Own)):List (Nat×Nat)->List (Option Own)->List Prop
 | (n,_)::hs,e::es=>(bif Bj n ro then[Ag wo n=e] else[])++pw ro wo hs es
 | _,_=>[]
def fY(S:GX)(f:FuncId)(vs:List AV)(es:List (Option Own))(r:Wf):Option Eff:=
 match BB r.hs es with
 | some H=>
  bif Tz es r then
   bif WZ r.ro then some ⟨r.res.ren (Fy r),P9 r,[S f ((vs.map (AV.ren r.hs)).map AV.loose) (H.map λx=>(x.1,x.2.ren r.hs)) r.res r.H]⟩
   else bif r.ro.all λn=>Bj n (r.hs.map (·.1)) then
    some ⟨r.res.ren (Fy r),px r.ro (P9 r),S f ((vs.map (AV.ren r.hs)).map AV.loose) (H.map λx=>(x.1,x.2.ren r.hs)) r.res r.H::pw r.ro (P9 r) r.hs es⟩
   else none
  else none
 | none=>none
def na(S:GX)(f:FuncId)(vs:List AV)(es:List (Option Own))(r:Wf):Option Eff:=
 bif WZ r.vw then fY S f vs es r else
 bif WZ r.hs&&r.res.flatR&&Tz (es.drop r.vw.length) r then
  some ⟨r.res.ren (Fy r),P9 r,S f (vs.map (AV.vsA (S6 r.vw es))) [] r.res r.H::QJ r.H::AV.vsObAll (S6 r.vw es) vs⟩
 else none
def DD(γ gd:Bool):List AV->List Prop
 | c::_=>c.there γ gd
 | []=>[]
structure yU where
 v:AV
 wo:List (Nat×Own)
 ob:List Prop
def ov(o:Oper):Bool:=match o.op with | .load _ _=>true|_=>false
def ux(o:Oper):Bool:=match o.op with | .box _ _=>true|_=>false
def j8(o:Oper)(c:Option AV):Nat:=bif ov o then 0 else match c with|some (.vsl _ _)=>1|some (.vpt _ _ _ _)=>1|some (.rpo _)=>2|some (.rptr _)=>bif ux o then 3 else 0|_=>0
def gX(o:Oper)(c:Option AV):Option AV:=bif ov o then c else match c with|some (.vsl _ _)=>none|some (.vpt _ _ _ _)=>none|some (.rpo _)=>none|some (.rptr _)=>bif ux o then none else c|c=>c
def jR(P:Program)(S:GX)(hint:Nat)(o:Oper)(vs:List AV)(es:List (Option Own))(r:Option Wf):Option Eff:=
 bif FT o then nd vs else
 bif QP o then
  match oQ o (vs.map AV.uncond),r with
  | some (f,az),some r=>na S f az es r
  | _,_=>none
 else n4 P hint o (vs.map AV.uncond) es
def PZ(y:AV)(wo:List (Nat×Own)):List (Nat×Own)×List Prop:=
 match y,wo with
 | .slice _ n _ (.own _),[(nm,.tok s t k)]=>([(nm,.tok s t n)],[k=n])
 | _,wo=>(wo,[])
def PY(c:Option AV)(e:Eff):Eff:=
 match c with
 | none=>e
 | some y=>⟨y,(PZ y e.wo).1,e.ob++(AVle e.v y::(PZ y e.wo).2)⟩
def AV.merge(γ:Bool):AV->AV->Option AV
 | .int k a,.int k' b=>bif EI k k' then some (.int k (bif γ then b else a)) else none
 | .bool a,.bool b=>some (.bool (bif γ then b else a))
 | .str a,.str b=>some (.str (bif γ then b else a))
 | .nilp,.nilp=>some .nilp
 | .omap n,.omap n'=>bif Nat.beq n n' then some (.omap n) else none
 | .any,.any=>some .any
 | .ptr n o,.ptr n' o'=>bif Nat.beq n n'&&Nat.beq o o' then some (.ptr n o) else none
 | .slice sz n f .none,.slice sz' n' f' .none=>bif Nat.beq sz sz' then some (.slice sz (bif γ then n' else n) (λi=>bif γ then f' i else f i) .none) else none
 | .slice sz n f (.own k),.slice sz' n' f' (.own k')=>bif Nat.beq sz sz'&&Nat.beq k k' then some (.slice sz (bif γ then n' else n) (λi=>bif γ then f' i else f i) (.own k)) else none
 | .nilm,.nilm=>some .nilm
 | .err a,.err b=>some (.err (bif γ then b else a))
 | .vsl n k,.vsl n' k'=>bif Nat.beq n n' then some (.vsl n (bif γ then k' else k)) else none
 | _,_=>none
def AV.mergeAll(γ:Bool):List AV->List AV->Option (List AV)
 | [],[]=>some []
 | x::l,y::m=>match x.merge γ y,AV.mergeAll γ l m with|some z,some r=>some (z::r)|_,_=>none
 | _,_=>none
def Own.merge(γ:Bool):Own->Own->Option Own
 | .row e l,.row e' m=>bif Nat.beq e e' then(match AV.mergeAll γ l m with|some r=>some (.row e r)|none=>none) else none
 | .arr sz e n f,.arr sz' e' n' f'=>bif Nat.beq sz sz'&&Nat.beq e e' then some (.arr sz e (bif γ then n' else n) (λi=>bif γ then f' i else f i)) else none
 | .tok sz e n,.tok sz' e' n'=>bif Nat.beq sz sz'&&Nat.beq e e' then some (.tok sz e (bif γ then n' else n)) else none
 | .obj (.map nn k l),.obj (.map nn' k' l')=>bif (nn==nn')&&EI k k' then some (.obj (.map nn k (bif γ then l' else l))) else none
 | _,_=>none
def dn(ns:List Nat)(es:List (Option Own))(n:Nat):Option Own:=
 match ns,es with
 | k::ns,e::es=>bif Nat.beq k n then e else dn ns es n
 | _,_=>none
def Ve(γ:Bool)(ns:List Nat)(es:List (Option Own)):List (Nat×Own)->Option (List (Nat×Own))
 | []=>some []
 | (n,o)::r=>
  match Ve γ ns es r with
  | none=>none
  | some r'=>
   match dn ns es n with
   | some o'=>match o'.merge γ o with|some z=>some ((n,z)::r')|none=>(match γ with|true=>some ((n,o)::r')|false=>some r')
   | none=>match γ with|true=>some ((n,o)::r')|false=>some r'
def wM(cs:List (Nat×AV))(o:Oper):Option AV:=match o.dst with|some d=>Ag cs d|none=>none
def V2(o:Oper)(vs:List AV)(r:Option Wf):List Nat:=
 bif QP o then(match r with|some r=>CW r|none=>[]) else De o (vs.map AV.uncond)
def qC(P:Program)(S:GX)(c:Option AV)(o:Oper)(vs:List AV)(gv:Option (AV×Bool))(es:List (Option Own))(r:Option Wf):Option yU:=
 match gv with
 | none=>
  match(jR P S (j8 o c) o vs es r).map (PY (gX o c)) with
  | some e=>some ⟨e.v,e.wo,(bif FT o then DD true false vs else(vs.map (AV.there true false)).flatten)++e.ob⟩
  | none=>none
 | some (g,want)=>
  match ol want g,(jR P S (j8 o c) o vs es r).map (PY (gX o c)) with
  | some γ,some e=>
   match Ve γ (V2 o vs r) es e.wo with
   | some wo=>some ⟨.cond γ e.v,wo,(bif FT o then DD γ true vs else(vs.map (AV.there γ true)).flatten)++wS true γ e.ob⟩
   | none=>none
  | _,_=>none
def BA(ops:List Oper)(get:Nat->AV)(o:Oper):Option (Option (AV×Bool)):=
 match o.guard with
 | none=>some none
 | some (j,want)=>
  match ops[j]? with
  | some oj=>match oj.dst with|some t=>some (some (get t,want))|none=>none
  | none=>none
def Dz{α:Type}(l:List (Nat×α))(k:Nat)(x:α):List (Nat×α):=
 match l with
 | []=>[(k,x)]
 | (k',y)::r=>bif Nat.beq k' k then(k,x)::r else(k',y)::Dz r k x
def SC{α:Type}(l:List (Nat×α)):List (Nat×α)->List (Nat×α)
 | []=>l
 | (k,x)::r=>Dz (SC l r) k x
def St.upd(st:St)(dst:Option Nat)(v:AV)(wo:List (Nat×Own)):St:=
 ⟨match dst with|some d=>Dz st.tmps d v|none=>st.tmps,SC st.own wo,st.fam⟩
structure Tr where
 rt:List Nat
 wt:Option Nat
 rn:List Nat
 wn:List Nat
def h9(o:Oper):List Nat:=o.op.operands.toList.filterMap λ| .tmp t=>some t|_=>none
def DC(ops:List Oper)(o:Oper):List Nat:=
 match o.guard with
 | none=>[]
 | some (j,_)=>match ops[j]? with|some oj=>oj.dst.toList|none=>[]
def u5(o:Oper)(rs:List Wf):Option Wf:=bif QP o then rs.head? else none
def tk(o:Oper)(rs:List Wf):List Wf:=bif QP o then rs.tail else rs
def oV(n:Nat)(o:Oper):Bool:=match o.dst with|some d=>Nat.blt d n|none=>true
def nt(P:Program)(S:GX)(n:Nat)(cs:List (Nat×AV))(ops:List Oper):List Oper->St->List Wf->Option (St×List Prop×List Tr)
 | [],st,_=>some (st,[],[])
 | o::rest,st,rs=>
  let vs:=o.op.operands.toList.map (fx st.get)
  let r:=u5 o rs
  let ns:=V2 o vs r
  match BA ops st.get o with
  | none=>none
  | some gv=>
   match qC P S (wM cs o) o vs gv (ns.map (Ag st.own)) r with
   | none=>none
   | some e=>
    bif oV n o&&Xz ns e.wo then
     match nt P S n cs ops rest (st.upd o.dst e.v e.wo) (tk o rs) with
     | none=>none
     | some (st',obs,trs)=>some (st',e.ob++obs,⟨DC ops o++h9 o,o.dst,ns,e.wo.map (·.1)⟩::trs)
    else none
def Fb(live names:List Nat)(st:St):St:=
 ⟨live.map λt=>(t,(st.get t).erase (λn=>Bj n names)),names.filterMap λn=>match Ag st.own n with|some o=>some (n,o.erase λn=>Bj n names)|none=>none,
  names.filterMap λn=>match Ag st.fam n with|some o=>some (n,o)|none=>none⟩
def Bd(live names:List Nat)(st:St):St:=Fb live (names.filter λn=>Nat.blt n Bp) st
def cp:List Prop->Prop
 | []=>True
 | p::l=>p/\cp l
def f5(x y:Tr):Bool:=
 (match x.wt with|some d=>!Bj d y.rt&&(match y.wt with|some d'=>!Nat.beq d d'|none=>true)|none=>true) &&
 (match y.wt with|some d=>!Bj d x.rt|none=>true) &&
 x.wn.all (λn=>!Bj n y.rn&&!Bj n y.wn)&&y.wn.all (λn=>!Bj n x.rn)
def wa(done:List Nat)(o:Oper):Nat:=
 o.after.toList.foldl (λs e=>bif Region.binds .any e then s ||| (2 ^ e.on ||| done.getD e.on 0) else s) 0
def jB(done:List Nat):List Oper->List Nat
 | []=>done
 | o::r=>jB (done++[wa done o]) r
def OV:Nat->List Oper->Bool
 | _,[]=>true
 | i,o::r=>o.after.toList.all (λe=>!Region.binds .any e || Nat.blt e.on i)&&OV (i+1) r
def jP(ms:List Nat):Nat->List (Nat×Tr)->List Tr->Bool
 | _,_,[]=>true
 | i,prev,t::r=>prev.all (λp=>f5 p.2 t || (ms.getD i 0).testBit p.1)&&jP ms (i+1) ((i,t)::prev) r
def jn(ops:List Oper)(trs:List Tr):Bool:=OV 0 ops&&jP (jB [] ops) 0 [] trs
def OP(P:Program)(S:GX)(n:Nat)(cs:List (Nat×AV))(live names:List Nat)(ops:List Oper)(draw:Bool)(st:St)(rs:List Wf):Option (St×List Prop×Bool):=
 match nt P S n cs ops ops st rs with
 | some (st',obs,trs)=>some (Bd live names st',obs,bif draw then jn ops trs else true)
 | none=>none
def Sto.upd(σ:Sto)(dst:Option Nat)(v:AV)(wo:List (Nat×Own)):Sto:=
 ⟨λt=>if dst=some t then v else σ.tmp t,λnm=>match Ag wo nm with|some o=>some o|none=>σ.own nm⟩
theorem NZ(w:World)(o:Obj){r:Nat}(h:r<w.heap.size):(w.alloc o).heap[r]?=w.heap[r]?:=by
 show(w.heap.push o)[r]?=_
 rw[Array.getElem?_push_lt h,Array.getElem?_eq_getElem h]
theorem pf(a:Act)(d t:Nat)(v:Value)(hd:d<a.tmps.size):((a.put (some d) v).tmps.getD t undef)=if d=t then v else a.tmps.getD t undef:=by
 simp only[Act.put,Ss]
 grind
theorem DN{Γ:Ix}{σ:Sto}{I I':Nat->Nat->Prop}{θ θ':Nat->Option (Nat×Nat)}{a:Act}{w w':World}{dst:Option Nat}{v:Value}{x:AV}{own':Nat->Option Own}
  (h:Rel Γ σ I θ a w) (k:Chg σ.own θ I w own' θ' I' w') (hv:Rep I' own' θ' w' v x) (hd:∀ d,dst=some d->d<Γ.n) :
  Rel Γ ⟨λt=>if dst=some t then x else σ.tmp t,own'⟩ I' θ' (a.put dst v) w':=by
 refine⟨?_,?_,λt=>?_,h.chg.trans k⟩
 ·cases dst<;>simp[Act.put,h.size]
 ·cases dst<;>simp[Act.put,h.defers]
 ·cases dst with
  | none=>simpa [Act.put] using(h.slots t).chg k
  | some d=>
   have hlt:=hd d rfl;rw[pf a d t v (by rw[h.size];exact hlt)]
   by_cases e:d=t
   ·grind
   ·simpa [e] using(h.slots t).chg k
def Ee(P:Program)(Γ:Ix)(σ:Sto)(o:Oper)(a:Act)(w:World)(x:AV)(wo:List (Nat×Own)):Prop:=
 ∀(K:Act->World->Prop) (Q:Exit->Act->World->Prop),(∀ I' θ' a' w',Rel Γ (σ.upd o.dst x wo) I' θ' a' w'->K a' w')->o.wp P a w K Q
section
variable {P:Program} {Γ:Ix} {σ:Sto} {I:Nat->Nat->Prop} {θ:Nat->Option (Nat×Nat)} {a:Act} {w:World} {o:Oper}
theorem Ax(h:Rel Γ σ I θ a w)(hd:∀ d,o.dst=some d->d<Γ.n){v:Value}{x:AV}(hr:(execOp a.eval o).run P w = .ok (.value v) w)
  (hv:Rep I σ.own θ w v x):Ee P Γ σ o a w x []:=by
 intro K Q hK;unfold Oper.wp;rw[hr];exact hK I θ _ _ (DN h (.refl h.chg.rel h.chg.valid) hv hd)
theorem Jq(h:Rel Γ σ I θ a w)(hd:∀ d,o.dst=some d->d<Γ.n){v:Value}{x:AV}{w':World}{I':Nat->Nat->Prop}{θ':Nat->Option (Nat×Nat)}{wo:List (Nat×Own)}
  (hr:(execOp a.eval o).run P w = .ok (.value v) w') (k:Chg σ.own θ I w (σ.upd o.dst x wo).own θ' I' w')
  (hv:Rep I' (σ.upd o.dst x wo).own θ' w' v x):Ee P Γ σ o a w x wo:=by
 intro K Q hK;unfold Oper.wp;rw[hr];exact hK I' θ' _ _ (DN h k hv hd)
theorem DK(h:Rel Γ σ I θ a w)(hd:∀ d,o.dst=some d->d<Γ.n){w':World}{I':Nat->Nat->Prop}{θ':Nat->Option (Nat×Nat)}{wo:List (Nat×Own)}
  (hr:(execOp a.eval o).run P w = .ok .skip w') (k:Chg σ.own θ I w (σ.upd o.dst .undef wo).own θ' I' w'):Ee P Γ σ o a w .undef wo:=by
 intro K Q hK;unfold Oper.wp;rw[hr];exact hK I' θ' _ _ (DN h k (.val _ _ .undef) hd)
theorem jk(h:Rel Γ σ I θ a w)(hd:∀ d,o.dst=some d->d<Γ.n)(x:Operand)(ho:o.op = .move x\/o.op = .assign x){y:AV}
  (hv:Rep I σ.own θ w (a.eval x) y):Ee P Γ σ o a w y []:=
 Ax h hd (by rcases ho with ho|ho<;>simp[execOp,ho]) hv
theorem Ph{a b:IntKind}(h:EI a b=true):a=b:=by cases a<;>cases b<;>simp_all [EI]
theorem fZ {op : BinOp} {k : IntKind} {x y : Int} {e : Eff} (h : vq op k x y = some e) (hob : ∀ p ∈ e.ob, p) (t : TypeId) :
    e.wo = [] ∧ ∃ v, RepV I w v e.v ∧ (binOp op t (.int k x) (.int k y)).run P w = .ok v w := by
  cases op <;> simp only [vq, Eff.pure, Aj, reduceCtorEq] at h <;> subst h <;> refine ⟨rfl, ?_⟩
  all_goals first
    | (refine ⟨_, .int _ _, ?_⟩; simp [binOp, Op.intArith]; done)
    | (refine ⟨_, .int _ _, ?_⟩; simp [binOp, Op.intBits, U3]; done)
    | (refine ⟨_, .bool _, ?_⟩; simp [binOp, Op.intCmp])
    | (have hb  := hob _ (zzL24.2 rfl)
       refine ⟨_, .int _ _, ?_⟩; simp [binOp, Op.intDiv, hb])
theorem W4{P:Program}{t:TypeId}(hu:P.underlying t=some .bool)(w:World)(a b:Bool):(Op.equal t (.bool a) (.bool b)).run P w = .ok (a==b) w:=by
 show(Op.equalIn 10000 t _ _).run P w=_
 unfold Op.equalIn;rw[Ed,Cl hu w]
 simp
theorem fU{op:BinOp}{x y:AV}{vx vy:Value}{e:Eff}(h:vp op x y=some e)(hob:∀ p∈e.ob,p)(hx:Rep I σ.own θ w vx x)(hy:Rep I σ.own θ w vy y)(t:TypeId)(ox oy:Operand) :
  e.wo=[]/\∃ v,RepV I w v e.v/\(do eqGuard op t ox oy vx vy;binOp op t vx vy:Sem Value).run P w = .ok v w:=by
 have key:∀{u v:Value},(∀ cs,u≠.agg cs)->u≠.nilIface->∀ r,(binOp op t u v).run P w=r->(do eqGuard op t ox oy u v;binOp op t u v:Sem Value).run P w=r:=by
  intro u v h1 h2 r hr
  have:(eqGuard op t ox oy u v).run P w = .ok () w:=by
   unfold eqGuard
   cases u<;>cases op<;>simp_all
  simp[this,hr]
 unfold vp at h
 split at h
 ·simp only[Eff.pure,Aj]at h;subst h;obtain rfl:=hx.int_inv;obtain rfl:=hy.int_inv;have hb:=hob _ (zzL24.2 rfl);refine⟨rfl,_,.int _ _,key (by simp) (by simp) _ ?_⟩;have hb':¬ (_<(0:Int)):=Int.not_lt.2 hb;simp[binOp,Op.shift,hb',GC]
 ·simp only[Eff.pure,Aj]at h;subst h;obtain rfl:=hx.int_inv;obtain rfl:=hy.int_inv;have hb:=hob _ (zzL24.2 rfl);refine⟨rfl,_,.int _ _,key (by simp) (by simp) _ ?_⟩;have hb':¬ (_<(0:Int)):=Int.not_lt.2 hb;simp[binOp,Op.shift,hb',IM]
 ·obtain rfl:=hx.int_inv;obtain rfl:=hy.int_inv
  rename_i k a' k' b' _ _
  cases hk:EI k k' with
  | false=>grind
  | true=>
   simp only[hk,Ae]at h;obtain rfl:=Ph hk;obtain⟨h1,v,hv,hr⟩:=fZ (P:=P) (I:=I) (w:=w) h hob t
   grind
 ·simp only[Eff.pure,Aj]at h;subst h;obtain⟨a,rfl,rfl⟩:=hx.str_inv;obtain⟨b,rfl,rfl⟩:=hy.str_inv;refine⟨rfl,_,.bool _,key (by simp) (by simp) _ ?_⟩;simp[binOp,Op.stringOp,Xh]
 ·simp only[Eff.pure,Aj]at h;subst h;obtain⟨a,rfl,rfl⟩:=hx.str_inv;obtain⟨b,rfl,rfl⟩:=hy.str_inv;refine⟨rfl,_,.bool _,key (by simp) (by simp) _ ?_⟩;simp[binOp,Op.stringOp,U4]
 ·simp only[Eff.pure,Aj]at h;subst h;obtain⟨a,rfl,rfl⟩:=hx.str_inv;obtain⟨b,rfl,rfl⟩:=hy.str_inv;refine⟨rfl,_,.bool _,key (by simp) (by simp) _ ?_⟩;simp[binOp,Op.stringOp,U4,Xh]
 ·simp only[Eff.pure,Aj]at h;subst h;obtain⟨a,rfl,rfl⟩:=hx.str_inv;obtain⟨b,rfl,rfl⟩:=hy.str_inv;refine⟨rfl,_,.bool _,key (by simp) (by simp) _ ?_⟩;simp[binOp,Op.stringOp,U4,Xh]
 ·simp only[Eff.pure,Aj]at h;subst h;obtain⟨a,rfl,rfl⟩:=hx.str_inv;obtain⟨b,rfl,rfl⟩:=hy.str_inv;refine⟨rfl,_,.bool _,key (by simp) (by simp) _ ?_⟩;simp[binOp,Op.stringOp,U4]
 ·simp only[Eff.pure,Aj]at h;subst h;obtain⟨a,rfl,rfl⟩:=hx.str_inv;obtain⟨b,rfl,rfl⟩:=hy.str_inv;refine⟨rfl,_,.bool _,key (by simp) (by simp) _ ?_⟩;simp[binOp,Op.stringOp,Xh]
 ·simp only[Eff.pure,Aj]at h;subst h;obtain⟨a,rfl,rfl⟩:=hx.str_inv;obtain⟨b,rfl,rfl⟩:=hy.str_inv;have hb:=hob _ (zzL24.2 rfl);simp only[E4]at hb;refine⟨rfl,.string (a++b),(VD a b▸.str (a++b):RepV I w (.string (a++b)) (.str (Ck a++Ck b))),key (by simp) (by simp) _ ?_⟩;simp[binOp,Op.stringOp,hb]
 grind
theorem ML:∀{xs ys:List AV} {r:Bool},CZ xs ys=some r->xs.length=ys.length/\(∀ j,j<xs.length->∃ k a b,xs.getD j .any = .int k a/\ys.getD j .any = .int k b) /\
  (r=true↔∀ j,j<xs.length->∀ k a k' b,xs.getD j .any = .int k a->ys.getD j .any = .int k' b->a=b)
 | [],[],r,h=>by grind [CZ]
 | [],_::_,r,h=>by trivial
 | x::xs,[],r,h=>by grind [CZ]
 | x::xs,y::ys,r,h=>by
  cases x<;>cases y<;>simp only[CZ]at h<;>try (cases h;done)
  rename_i k a k' b
  cases hk:EI k k' with
  | false=>grind
  | true=>
   obtain rfl:=Ph hk;simp only[hk,Ae]at h
   split at h
   ·rename_i q hq
    obtain⟨i1,i2,i3⟩:=ML hq;simp only[Aj]at h;subst h;refine⟨by simp[i1],λj hj=>?_,?_⟩
    ·grind
    ·simp only[Be,zzL61,i3]
     constructor
     ·grind
     ·intro h2;exact⟨h2 0 (by simp) k a k b rfl rfl,λj hj k1 a1 k2 b1 e1 e2=>h2 (j+1) (by grind) k1 a1 k2 b1 (by grind) (by grind)⟩
   ·cases h
theorem Tv{P:Program}{t:TypeId}{k:IntKind}(hu:P.underlying t=some (.int k))(vs:Array Value)(j:Nat)(v:Value)(h:vs[j]?=some v)(w:World):(part t vs j).run P w = .ok v w:=by
 simp_all [isAgg,part,Cl]
theorem YE{P:Program}{t:TypeId}{k:IntKind}(hu:P.underlying t=some (.int k))(d:Nat)(k':IntKind)(w:World)(a b:Int):(Op.equalIn (d+1) t (.int k' a) (.int k' b)).run P w = .ok (a==b) w:=by
 unfold Op.equalIn;rw[Ed,Cl hu w]
 simp
theorem BC{P:Program}{t:TypeId}(h:B8 P t=true):∃ i d,P.info? t=some i/\P.underlying t=some d/\A6 P t=i.size:=by
 simp only[B8,Be,zzL79]at h
 grind [A6]
theorem B0{P:Program}{t:TypeId}(h:B8 P t=true)(w:World):(sizeOf t).run P w = .ok (A6 P t) w:=by
 obtain⟨i,d,hi,hd,hs⟩:=BC h;simp[sizeOf,typeInfo,hi,hs]
theorem SN{P:Program}{e:TypeId}{k:IntKind}(he:P.underlying e=some (.int k))(d:Nat)(w:World)(vs us:Array Value):∀(n s:Nat),
  (∀ j,s<=j->j<s+n->∃ k a b,vs[j]?=some (.int k a)/\us[j]?=some (.int k b))->
  ∃ q:Option Bool×Unit,(forIn (List.range' s n 1) ((none,()):Option Bool×Unit) λ(i:Nat) (_:Option Bool×Unit)=>(do
      let x <- part e vs i
      let y <- part e us i
      let z <- Op.equalIn (d+1) e x y
      if(!z)=true then pure (ForInStep.done (some false,())) else pure (ForInStep.yield (none,())):Sem (ForInStep (Option Bool×Unit)))).run P w = .ok q w /\
   ((q=(none,())/\∀ j,s<=j->j<s+n->vs[j]?=us[j]?)\/(q=(some false,())/\¬ ∀ j,s<=j->j<s+n->vs[j]?=us[j]?))
 | 0,s,_=>⟨(none,()),by simp,.inl ⟨rfl,λj h1 h2=>by omega⟩⟩
 | n+1,s,h=>by
  obtain⟨k1,x,y,hx,hy⟩:=h s (zzL7 _) (by omega);simp only[EY,List.forIn_cons,Ed,Tv he _ _ _ hx,Tv he _ _ _ hy,Fh,YE he]
  by_cases hxy:x=y
  ·subst hxy;simp only[Vp,E7,IY,Hz,Hb,Fh];obtain⟨q,hq,hr⟩:=SN he d w vs us n (s+1) (λj h1 h2=>h j (by omega) (by omega))
   grind
  ·have e1:(x==y)=false:=by simpa using hxy
   simp only[e1,Mr,Lz,Hb,Fh]
   grind
theorem mG{P:Program}{t e:TypeId}{k:IntKind}{len:Nat}(hu:P.underlying t=some (.array len e))(he:P.underlying e=some (.int k))(hT:B8 P e=true)(h1:A6 P e=1)(d:Nat)(w:World)(vs us:Array Value)(r:Bool)
  (hc:∀ j,j<len->∃ k a b,vs[j]?=some (.int k a)/\us[j]?=some (.int k b)) (hr:r=true↔∀ j,j<len->vs[j]?=us[j]?):(Op.equalIn (d+2) t (.agg vs) (.agg us)).run P w = .ok r w:=by
 unfold Op.equalIn;rw[Ed,Cl hu w];simp only[Fh,Ed,B0 hT,h1,Ys];rw[Std.Legacy.Range.forIn_eq_forIn_range'];obtain⟨q,hq,hh⟩:=SN he d w vs us len 0 (λj _ h=>hc j (by omega));simp only[Std.Legacy.Range.size,CL,Nat.add_sub_cancel,Nat.div_one];rw[hq];rcases hh with⟨rfl,h2⟩|⟨rfl,h2⟩
 ·simp_all
 ·have:r=false:=by
   grind
  simp[this]
theorem ou{P:Program}{e:TypeId}(hi:f7 P e=true):∃ k,P.underlying e=some (.int k):=by
 grind [f7]
theorem k9{P:Program}{e:TypeId}(hi:jI P e=true):P.underlying e=some .bool:=by
 grind [jI]
theorem EP{P:Program}{t:TypeId}(hu:P.underlying t=some .bool)(vs:Array Value)(j:Nat)(v:Value)(h:vs[j]?=some v)(w:World):(part t vs j).run P w = .ok v w:=by
 simp_all [isAgg,part,Cl]
theorem g9{P:Program}{t:TypeId}(hu:P.underlying t=some .bool)(d:Nat)(w:World)(a b:Bool):(Op.equalIn (d+1) t (.bool a) (.bool b)).run P w = .ok (a==b) w:=by
 unfold Op.equalIn;rw[Ed,Cl hu w]
 simp
theorem GA {P : Program} {I : Nat → Nat → Prop} {own : Nat → Option Own} {θ : Nat → Option (Nat × Nat)} (d : Nat) (w : World) (vs us : Array Value) : ∀ (l : List Field) (s : Nat) (xs ys : List AV) (r : Bool), Xl P s l xs ys = some r →
    (∀ j, j < xs.length → ∃ v, vs[s + j]? = some v ∧ Rep I own θ w v (xs.getD j .any)) → (∀ j, j < ys.length → ∃ v, us[s + j]? = some v ∧ Rep I own θ w v (ys.getD j .any)) →
    ∃ q : Option Bool × Unit, (forIn l ((none, ()) : Option Bool × Unit) fun (f : Field) (_ : Option Bool × Unit) =>
            (if f.name ≠ "_" then do
              let x ← part f.type vs f.offset
              let y ← part f.type us f.offset
              let z ← Op.equalIn (d + 1) f.type x y
              if (!z) = true then pure (ForInStep.done (some false, ())) else pure (ForInStep.yield (none, ()))
            else pure (ForInStep.yield (none, ())) : Sem (ForInStep (Option Bool × Unit)))).run P w = .ok q w ∧
      ((q = (none, ()) ∧ r = true) ∨ (q = (some false, ()) ∧ r = false))
  | [], s, xs, ys, r, h, _, _ => by
    cases xs <;> cases ys <;> simp only [Xl, Aj, reduceCtorEq] at h
    exact ⟨(none, ()), by simp, .inl ⟨rfl, h.symm⟩⟩
  | f :: l, s, xs, ys, r, h, hx, hy => by
    have next : ∀ {x y : AV} {xs ys : List AV}, (∀ j, j < (x :: xs).length → ∃ v, vs[s + j]? = some v ∧ Rep I own θ w v ((x :: xs).getD j .any)) → (∀ j, j < (y :: ys).length → ∃ v, us[s + j]? = some v ∧ Rep I own θ w v ((y :: ys).getD j .any)) →
        (∀ j, j < xs.length → ∃ v, vs[s + 1 + j]? = some v ∧ Rep I own θ w v (xs.getD j .any)) ∧ (∀ j, j < ys.length → ∃ v, us[s + 1 + j]? = some v ∧ Rep I own θ w v (ys.getD j .any)) := fun h1 h2 =>
      ⟨fun j hj => by obtain ⟨v, a, b⟩ := h1 (j + 1) (by simpa using hj); exact ⟨v, by rw [show s + 1 + j = s + (j + 1) by omega]; exact a, by simpa using b⟩, fun j hj => by obtain ⟨v, a, b⟩ := h2 (j + 1) (by simpa using hj); exact ⟨v, by rw [show s + 1 + j = s + (j + 1) by omega]; exact a, by simpa using b⟩⟩
    cases xs with
    | nil => cases ys <;> simp [Xl] at h
    | cons x xs' =>
      cases ys with
      | nil => simp [Xl] at h
      | cons y ys' =>
        cases x <;> cases y <;> simp only [Xl] at h <;> try (cases h; done)
        case int.int k a k' b =>
          cases hc : (decide (f.name ≠ "_") && f7 P f.type && Nat.beq f.offset s && EI k k') with
          | false => rw [hc] at h; cases h
          | true =>
            rw [hc, Ae] at h; simp only [Be, decide_eq_true_iff] at hc; obtain ⟨⟨⟨ho1, ho2⟩, ho3⟩, ho4⟩ := hc; obtain rfl := Ph ho4; obtain ⟨kk, he⟩ := ou ho2; have ho3 := Cq ho3; obtain ⟨v, hv, hv'⟩ := hx 0 (by simp); obtain ⟨u, hu, hu'⟩ := hy 0 (by simp); rw [Sv] at hv hu; have hv' := hv'.int_inv; have hu' := hu'.int_inv; subst hv' hu'; obtain ⟨n1, n2⟩ := next hx hy
            split at h
            · rename_i r' hr'
              simp only [Aj] at h; simp only [List.forIn_cons, Ed, if_pos ho1, ho3, Tv he _ _ _ hv, Tv he _ _ _ hu, Fh, YE he]
              by_cases hab : a = b
              · subst hab; simp only [Vp, E7, IY, Hz, Hb, Fh]; obtain ⟨q, hq, hr⟩ := GA d w vs us l (s + 1) xs' ys' r' hr' n1 n2; refine ⟨q, hq, ?_⟩; rw [Vp, Ly] at h; rw [← h]; exact hr
              · have e1 : (a == b) = false := by simpa using hab
                simp only [e1, Mr, Lz, Hb, Fh]; rw [e1, Yr] at h; exact ⟨_, rfl, .inr ⟨rfl, h.symm⟩⟩
            · cases h
        case bool.bool a b =>
          cases hc : (decide (f.name ≠ "_") && jI P f.type && Nat.beq f.offset s) with
          | false => rw [hc] at h; cases h
          | true =>
            rw [hc, Ae] at h; simp only [Be, decide_eq_true_iff] at hc; obtain ⟨⟨ho1, ho2⟩, ho3⟩ := hc; have he := k9 ho2; have ho3 := Cq ho3; obtain ⟨v, hv, hv'⟩ := hx 0 (by simp); obtain ⟨u, hu, hu'⟩ := hy 0 (by simp); rw [Sv] at hv hu; have hv' := hv'.bool_inv; have hu' := hu'.bool_inv; subst hv' hu'; obtain ⟨n1, n2⟩ := next hx hy
            split at h
            · rename_i r' hr'
              simp only [Aj] at h; simp only [List.forIn_cons, Ed, if_pos ho1, ho3, EP he _ _ _ hv, EP he _ _ _ hu, Fh, g9 he]
              by_cases hab : a = b
              · subst hab; simp only [Vp, E7, IY, Hz, Hb, Fh]; obtain ⟨q, hq, hr⟩ := GA d w vs us l (s + 1) xs' ys' r' hr' n1 n2; refine ⟨q, hq, ?_⟩; rw [Vp, Ly] at h; rw [← h]; exact hr
              · have e1 : (a == b) = false := by simpa using hab
                simp only [e1, Mr, Lz, Hb, Fh]; rw [e1, Yr] at h; exact ⟨_, rfl, .inr ⟨rfl, h.symm⟩⟩
            · cases h
theorem bU{P:Program}{I:Nat->Nat->Prop}{own:Nat->Option Own}{θ:Nat->Option (Nat×Nat)}{t:TypeId}{fields:Array Field}(hu:P.underlying t=some (.struct fields))(hs:P.stoodInHeld t=false)(d:Nat)(w:World)(vs us:Array Value){xs ys:List AV}{r:Bool}(ho:Xl P 0 fields.toList xs ys=some r)
  (hx:∀ j,j<xs.length->∃ v,vs[0+j]?=some v/\Rep I own θ w v (xs.getD j .any)) (hy:∀ j,j<ys.length->∃ v,us[0+j]?=some v/\Rep I own θ w v (ys.getD j .any)):(Op.equalIn (d+2) t (.agg vs) (.agg us)).run P w = .ok r w:=by
 unfold Op.equalIn;rw[Ed,Cl hu w];simp only[Fh];rw[<- Array.forIn_toList];obtain⟨q,hq,hh⟩:=GA  d w vs us _ 0 xs ys r ho hx hy;simp only[show program.run P w = .ok P w from rfl,Fh,hs,IY,Hz,Ed];rw[hq];rcases hh with⟨rfl,rfl⟩|⟨rfl,rfl⟩<;>simp
theorem MK{t:TypeId}{xs ys:List AV}{vx vy:Value}{r:Bool}(h:ZR P t xs ys=some r)(hx:Rep I σ.own θ w vx (.agg xs))(hy:Rep I σ.own θ w vy (.agg ys))(op:BinOp)(ho:op = .eql\/op = .neq)(ox oy:Operand) :
  (do eqGuard op t ox oy vx vy;Op.equal t vx vy:Sem Bool).run P w = .ok r w/\∃ vs us,vx = .agg vs/\vy = .agg us:=by
 unfold ZR at h
 split at h
 ·rename_i fs hu
  cases hc:(!(P.stoodInHeld t)&&!(P.eqGuardType P.depth t)) with
  | false=>grind
  | true=>
   simp only[hc,Ae]at h;simp only[Be,Su]at hc;obtain⟨hst,hg⟩:=hc;obtain⟨vs,rfl,hv1,hv2,hv3⟩:=hx.agg_inv;obtain⟨us,rfl,hu1,hu2,hu3⟩:=hy.agg_inv;have hrun:=bU hu hst 9998 w vs us h (λj hj=>⟨vs.getD j undef,by simp_all,hv3 j hj⟩) (λj hj=>⟨us.getD j undef,by simp_all,hu3 j hj⟩);refine⟨?_,vs,us,rfl,rfl⟩
   have hguard:(eqGuard op t ox oy (.agg vs) (.agg us)).run P w = .ok () w:=by
    unfold eqGuard;rcases ho with rfl|rfl<;>simp[hg]
   rw[Ed,hguard];exact hrun
 ·rename_i len e hu
  cases hc:(B8 P e&&f7 P e&&Nat.beq (A6 P e) 1&&!(P.eqGuardType P.depth t)&&Nat.beq xs.length len&&Nat.beq ys.length len) with
  | false=>grind
  | true=>
   simp only[hc,Ae]at h;simp only[Be,Su]at hc;obtain⟨⟨⟨⟨⟨hT,hi⟩,h1⟩,hg⟩,hl1⟩,hl2⟩:=hc;have h1:=Cq h1;have hl1:=Cq hl1
   obtain⟨k,hk⟩:∃ k,P.underlying e=some (.int k):=by
    grind [f7]
   obtain⟨q1,q2,q3⟩:=ML h;obtain⟨vs,rfl,hv1,hv2,hv3⟩:=hx.agg_inv;obtain⟨us,rfl,hu1,hu2,hu3⟩:=hy.agg_inv
   have hcell:∀ j,j<len->∃ k a b,vs[j]?=some (.int k a)/\us[j]?=some (.int k b)/\xs.getD j .any = .int k a/\ys.getD j .any = .int k b:=λj hj=>by
    obtain⟨k,a,b,e1,e2⟩:=q2 j (by omega);have r1:=hv3 j (by omega);have r2:=hu3 j (by omega);rw[e1]at r1;rw[e2]at r2;have r1:=r1.int_inv;have r2:=r2.int_inv
    have a1:vs[j]?=some (vs.getD j undef):=by simp[Array.getD,show j<vs.size by omega]
    have a2:us[j]?=some (us.getD j undef):=by simp[Array.getD,show j<us.size by omega]
    grind
   have hrun:=mG hu hk hT h1 9998 w vs us r (λj hj=>by grind) (by
    grind)
   refine⟨?_,vs,us,rfl,rfl⟩
   have hguard:(eqGuard op t ox oy (.agg vs) (.agg us)).run P w = .ok () w:=by
    unfold eqGuard;rcases ho with rfl|rfl<;>simp[hg]
   rw[Ed,hguard];exact hrun
 ·cases h
theorem cQ{op:BinOp}{t:TypeId}{x y:AV}{vx vy:Value}{e:Eff}(h:nZ P op t x y=some e)(hob:∀ p∈e.ob,p)(hx:Rep I σ.own θ w vx x)(hy:Rep I σ.own θ w vy y)(ox oy:Operand) :
  e.wo=[]/\∃ v,RepV I w v e.v/\(do eqGuard op t ox oy vx vy;binOp op t vx vy:Sem Value).run P w = .ok v w:=by
 have key:∀{u v:Value},(∀ cs,u≠.agg cs)->u≠.nilIface->∀ r,(binOp op t u v).run P w=r->(do eqGuard op t ox oy u v;binOp op t u v:Sem Value).run P w=r:=by
  intro u v h1 h2 r hr
  have:(eqGuard op t ox oy u v).run P w = .ok () w:=by
   unfold eqGuard
   cases u<;>cases op<;>simp_all
  simp[this,hr]
 unfold nZ at h
 split at h
 ·split at h
  ·rename_i hu
   simp only[Eff.pure,Aj]at h;subst h;obtain rfl:=hx.bool_inv;obtain rfl:=hy.bool_inv;refine⟨rfl,_,.bool _,key (by simp) (by simp) _ ?_⟩;have:=λa b=>W4 (P:=P) (t:=t) hu w a b;simp[binOp,this]
  ·cases h
 ·split at h
  ·rename_i hu
   simp only[Eff.pure,Aj]at h;subst h;obtain rfl:=hx.bool_inv;obtain rfl:=hy.bool_inv;refine⟨rfl,_,.bool _,key (by simp) (by simp) _ ?_⟩
   grind [Ed,W4,Hb,Fh,binOp]
  ·cases h
 ·split at h
  ·rename_i r hr
   simp only[Eff.pure,Aj]at h;subst h;obtain⟨hh,vs,us,rfl,rfl⟩:=MK hr hx hy .eql (.inl rfl) ox oy;refine⟨rfl,_,.bool _,?_⟩;rw[Ed]at hh ⊢
   cases hg:(eqGuard .eql t ox oy (.agg vs) (.agg us)).run P w with
   | ok u w1=>
    grind [Ed,Hb,Fh,binOp]
   | _=>rw[hg]at hh;cases hh
  ·cases h
 ·split at h
  ·rename_i r hr
   simp only[Eff.pure,Aj]at h;subst h;obtain⟨hh,vs,us,rfl,rfl⟩:=MK hr hx hy .neq (.inr rfl) ox oy;refine⟨rfl,_,.bool _,?_⟩;rw[Ed]at hh ⊢
   cases hg:(eqGuard .neq t ox oy (.agg vs) (.agg us)).run P w with
   | ok u w1=>
    grind [Ed,Hb,Fh,binOp]
   | _=>rw[hg]at hh;cases hh
  ·cases h
 ·exact fU h hob hx hy t ox oy
theorem kw{op:UnOp}{x:AV}{vx:Value}{e:Eff}(h:aUn op x=some e)(hx:Rep I σ.own θ w vx x) :
  e.wo=[]/\∃ v,RepV I w v e.v/\(Op.unary op vx).run P w = .ok v w:=by
 unfold aUn at h
 split at h
 ·simp only[Eff.pure,Aj]at h;subst h;obtain rfl:=hx.bool_inv;exact⟨rfl,_,.bool _,by rfl⟩
 ·simp only[Eff.pure,Aj]at h;subst h;obtain rfl:=hx.int_inv;exact⟨rfl,_,.int _ _,by rfl⟩
 ·simp only[Eff.pure,Aj]at h;subst h;obtain rfl:=hx.int_inv;exact⟨rfl,_,.int _ _,by rfl⟩
 grind
end
theorem Ul{P:Program}{t:TypeId}(h:B8 P t=true)(w:World):(isAgg t).run P w = .ok (Fd P t) w:=by
 obtain⟨i,d,hi,hd,hs⟩:=BC h;unfold isAgg Fd;rw[Ed,Cl hd w,hd]
 cases d<;>simp
theorem DB{α:Type}{l:List α}{j:Nat}(d:α)(h:j<l.length):l[j]?=some (l.getD j d):=by simp[ h]
theorem Nk{l:Array Value}{j:Nat}(h:j<l.size):l[j]?=some (l.getD j undef):=by simp[ h]
theorem Nm{α:Type}(l:List α)(o n j:Nat)(d:α)(h:j<n):((l.drop o).take n).getD j d=l.getD (o+j) d:=by
 grind
theorem N1(n j:Nat)(f:Nat->Value)(h:j<n):(((List.range n).map f).toArray).getD j undef=f j:=by
 simp[ h]
theorem HG(vs:Array Value)(o n j:Nat)(h:j<n):(vs.extract o (o+n)).getD j undef=vs.getD (o+j) undef:=by
 simp only[Ss,Array.getElem?_extract]
 by_cases hs:o+j<vs.size
 ·rw[if_pos (by omega)]
 ·grind
theorem CV{l:Array Value}{j:Nat}(h:j<l.size):∃ u,l[j]?=some u/\l.getD j undef=u:=
 ⟨l[j],by simp[h],by simp[ h]⟩
theorem DE(n j:Nat)(f:Nat->Value)(h:j<n):(((List.range n).map f)).getD j undef=f j:=by
 simp[ h]
section
variable {P:Program} {Γ:Ix} {σ:Sto} {I:Nat->Nat->Prop} {θ:Nat->Option (Nat×Nat)} {a:Act} {w:World} {o:Oper}
theorem Mo{t:TypeId}(ht:B8 P t=true)(hagg:Fd P t=true)(ad:Addr)(f:Nat->Value)(h:∀ j,j<A6 P t->w.cell? (ad.add j)=some (f j)) :
  (loadVar t ad).run P w = .ok (.agg ((List.range (A6 P t)).map f).toArray) w:=by
 simp only[loadVar,Ed,Ul ht,Fh,hagg,Lz,B0 ht];rw[run_loadCells w ad _ f h]
 rfl
theorem Mp{t:TypeId}(ht:B8 P t=true)(hagg:Fd P t=false)(ad:Addr)(v:Value)(h:w.cell? ad=some v) :
  (loadVar t ad).run P w = .ok v w:=by
 simp[loadVar,Ul ht,hagg,h]
theorem dl(h:Rel Γ σ I θ a w)(hd:∀ d,o.dst=some d->d<Γ.n){t:TypeId}{x:Operand}(ho:o.op = .load t x)(ht:B8 P t=true){nm off:Nat}{cells:List AV}
  (hx:Rep I σ.own θ w (a.eval x) (.ptr nm off)) {e0:TypeId} (hown:σ.own nm=some (.row e0 cells)) :
  (Fd P t=true->off+A6 P t<=cells.length->Ee P Γ σ o a w (.agg ((cells.drop off).take (A6 P t))) []) /\
  (Fd P t=false->off<cells.length->Ee P Γ σ o a w (cells.getD off .any) []):=by
 obtain⟨e',cells',g,c,ho',hg,he⟩:=hx.ptr_inv;obtain⟨g',c',vs,hg',hh,hsz,h1,hrep,_⟩:=h.chg.rel.row nm _ _ hown;rw[hg]at hg';obtain⟨rfl,rfl⟩:=hg'
 have hcell:∀ j,j<cells.length->w.cell? _=some _:=λj hj=>by
  rw[Py w g j vs _ _ hh];exact Nk (by omega)
 refine⟨λhagg hle=>?_,λhagg hlt=>?_⟩
 ·have hr:(loadVar t ⟨g,off,none⟩).run P w = .ok _ w:=
   Mo ht hagg _ _ (λj hj=>by rw[O3];exact hcell _ (by omega))
  refine Ax h hd (v:=.agg ((List.range (A6 P t)).map λj=>vs.getD (off+j) undef).toArray) ?_ ?_
  ·simp only[execOp,ho,he,Instr.loadAt,Instr.sureAddr,Ed,Hb,Fh,hr]
  ·refine .agg _ _ (by simp;omega) (λj hj=>?_) (λj hj=>?_)
   ·have hj':j<A6 P t:=by simp at hj;omega
    rw[N1 _ _ _ hj'];exact h1 _ (by omega)
   ·have hj':j<A6 P t:=by simp at hj;omega
    rw[N1 _ _ _ hj',Nm _ _ _ _ _ hj'];exact hrep _ (by omega)
 ·have hr:=Mp  ht hagg _ _ (hcell off hlt);refine Ax h hd  ?_ (hrep off hlt);simp only[execOp,ho,he,Instr.loadAt,Instr.sureAddr,Ed,Hb,Fh,hr]
theorem Mf{ad:Addr}(hs:ad.spot=none)(n:Nat):ad.add n=⟨ad.block,ad.off+n,none⟩:=by
 cases ad with
 | mk b o s =>  subst hs;exact O3 b o n
theorem bN(h:Rel Γ σ I θ a w)(hd:∀ d,o.dst=some d->d<Γ.n){t:TypeId}{x:Operand}(ho:o.op = .load t x)(ht:B8 P t=true){cells:List AV}
  (hx:Rep I σ.own θ w (a.eval x) (.rptr cells)) :
  (Fd P t=true->A6 P t=cells.length->Ee P Γ σ o a w (.agg cells) []) /\
  (Fd P t=false->1<=cells.length->Ee P Γ σ o a w (cells.getD 0 .any) []):=by
 obtain⟨ad,us,he,hs,_,hc,h1,hrep⟩:=hx.rptr_inv;refine⟨λhagg hle=>?_,λhagg hlt=>?_⟩
 ·have hr :=
   Mo ht hagg _ _ (λj hj=>by rw[Mf hs];exact hc _ (by omega))
  refine Ax h hd (v:=.agg ((List.range (A6 P t)).map us).toArray) ?_ ?_
  ·simp only[execOp,ho,he,Instr.loadAt,Instr.sureAddr,Ed,Hb,Fh,hr]
  ·refine .val _ _ (.agg _ _ (by simp;omega) (λj hj=>?_) (λj hj=>?_))
   ·simp_all
   ·simp_all
 ·have hc0:=hc 0 (by omega);rw[Sv]at hc0
  have e:⟨ad.block,ad.off,none⟩=ad:=by cases ad;simp_all
  rw[e]at hc0;have hr:=Mp  ht hagg ad _ hc0;refine Ax h hd  ?_ (.val _ _ (hrep 0 (by omega)));simp only[execOp,ho,he,Instr.loadAt,Instr.sureAddr,Ed,Hb,Fh,hr]
theorem Uk{f:Field}(ht:B8 P f.type=true)(h1:1<=A6 P f.type)(ad:Addr):(fieldPlace ad f).run P w = .ok (ad.add f.offset) w:=by
 have hn:¬ (A6 P f.type=0):=by omega
 simp[fieldPlace,B0 ht,hn]
theorem EO{cells:List AV}{ad:Addr}{us:Nat->Value}(hs:ad.spot=none)(hI:∀ j,j<cells.length->I ad.block (ad.off+j))
  (hc:∀ j,j<cells.length->w.cell? ⟨ad.block,ad.off+j,none⟩=some (us j)) (h1:∀ j,j<cells.length->(us j).oneCell'=true)
  (hr:∀ j,j<cells.length->RepV I w (us j) (cells.getD j .any)) (off n:Nat) (hle:off+n<=cells.length):RepV I w (.pointer (some (ad.add off))) (.rptr ((cells.drop off).take n)):=by
 have hl:((cells.drop off).take n).length=n:=by simp;omega
 rw[Mf hs];refine .rptr _ _ (λj=>us (off+j)) rfl (λj hj=>?_) (λj hj=>?_) (λj hj=>?_) (λj hj=>?_)<;>rw[hl]at hj
 ·grind
 ·grind
 ·exact h1 _ (by omega)
 ·grind
theorem bI(h:Rel Γ σ I θ a w)(hd:∀ d,o.dst=some d->d<Γ.n){s:TypeId}{x:Operand}{f:Nat}(ho:o.op = .fieldAddr s x f){fields:Array Field}{fd:Field}
  (hs:P.underlying s=some (.struct fields)) (hf:fields[f]?=some fd) (ht:B8 P fd.type=true) (h1:1<=A6 P fd.type) :
  (∀ nm off,Rep I σ.own θ w (a.eval x) (.ptr nm off)->Ee P Γ σ o a w (.ptr nm (off+fd.offset)) []) /\
  (∀ cells,Rep I σ.own θ w (a.eval x) (.rptr cells)->fd.offset+A6 P fd.type<=cells.length->Ee P Γ σ o a w (.rptr ((cells.drop fd.offset).take (A6 P fd.type))) []):=by
 refine⟨λnm off hx=>?_,λcells hx hle=>?_⟩
 ·obtain⟨e',cells',g,c,ho',hg,he⟩:=hx.ptr_inv;refine Ax h hd  ?_ (.ptr nm _ _ _ g c ho' hg);simp[execOp,ho,he,Instr.fieldAt,Instr.sureAddr,Cl hs,hf,Uk ht h1,O3]
 ·obtain⟨ad,us,he,hs',hI,hc,h1',hrep⟩:=hx.rptr_inv;refine Ax h hd  ?_ (.val _ _ (EO hs' hI hc h1' hrep _ _ hle));simp[execOp,ho,he,Instr.fieldAt,Instr.sureAddr,Cl hs,hf,Uk ht h1]
theorem RX{t:TypeId}{cs:List AV}{off:Nat}{x:AV}(h:XR P t cs off=some x){vs:Array Value}(hl:vs.size=cs.length)(h1:∀ j,j<cs.length->(vs.getD j undef).oneCell'=true)
  (hr:∀ j,j<cs.length->Rep I σ.own θ w (vs.getD j undef) (cs.getD j .any)):∃ v,(part t vs off).run P w = .ok v w/\Rep I σ.own θ w v x:=by
 unfold XR at h
 cases ht:B8 P t with
 | false=>simp[ht]at h
 | true=>
  simp only[ht]at h
  cases hagg:Fd P t with
  | true=>
   simp only[hagg,Ae]at h
   cases hle:Nat.ble (off+A6 P t) cs.length with
   | false=>simp[hle]at h
   | true=>
    simp only[hle,Ae,Aj]at h;subst h;have hle':=K1 hle;refine⟨.agg (vs.extract off (off+A6 P t)),by simp[part,Ul ht,hagg,B0 ht],.agg _ _ ?_ ?_ ?_⟩
    ·simp;omega
    ·intro j hj
     have hj':j<A6 P t:=by simp at hj;omega
     rw[HG _ _ _ _ hj'];exact h1 _ (by omega)
    ·intro j hj
     have hj':j<A6 P t:=by simp at hj;omega
     rw[HG _ _ _ _ hj',Nm _ _ _ _ _ hj'];exact hr _ (by omega)
  | false=>
   simp only[hagg,An]at h
   cases hlt:Nat.blt off cs.length with
   | false=>simp[hlt]at h
   | true=>
    simp only[hlt,Ae,Aj]at h;subst h
    have hlt':off<cs.length:=by simp_all
    obtain⟨u,hu,hu'⟩:=CV (l:=vs) (j:=off) (by omega);have:=hr _ hlt';rw[hu']at this;refine⟨u,?_,this⟩;simp[part,Ul ht,hagg,hu]
theorem pW(h:Rel Γ σ I θ a w)(hd:∀ d,o.dst=some d->d<Γ.n){s:TypeId}{x:Operand}{f:Nat}(ho:o.op = .field s x f){fields:Array Field}{fd:Field}
  (hs:P.underlying s=some (.struct fields)) (hf:fields[f]?=some fd) {cs:List AV} {y:AV} (hx:Rep I σ.own θ w (a.eval x) (.agg cs)) (hp:XR P fd.type cs fd.offset=some y):Ee P Γ σ o a w y []:=by
 obtain⟨vs,he,hl,h1,hr⟩:=hx.agg_inv;obtain⟨v,hv,hrep⟩:=RX  hp hl h1 hr;refine Ax h hd ?_ hrep;simp[execOp,ho,he,Instr.field,Cl hs,hf,asAgg,hv]
theorem RP(h:Rel Γ σ I θ a w)(hd:∀ d,o.dst=some d->d<Γ.n){t e:TypeId}{x i:Operand}(ho:o.op = .indexAddr t x i)(hu:P.underlying t=some (.slice e))(ht:B8 P e=true)
  {sz n:Nat} {f:Nat->List AV} {tag:Tag} {k:IntKind} {j:Int} (hx:Rep I σ.own θ w (a.eval x) (.slice sz n f tag)) (hi:Rep I σ.own θ w (a.eval i) (.int k j)) (hsz:sz=A6 P e\/n=0) (hb:A5 j n) :
  Ee P Γ σ o a w (.rptr (f j.toNat)) []:=by
 obtain⟨hb0,hb1⟩:=hb
 have hsz:sz=A6 P e:=by omega
 subst hsz;have hi':=hi.int_inv;obtain⟨_,ad,cap,us,he,hcap,hmax,hz,hn,h1,hl,hr⟩:=hx.slice_val.slice_inv;obtain⟨b,rfl,hs,hI,hc⟩:=hz (by omega)
 have hlt:j.toNat<n:=by omega
 have hlen:=hl _ hlt
 have hpos:∀ c,c<A6 P e->j.toNat*A6 P e+c<n*A6 P e:=λc hc=>by
  have:(j.toNat+1)*A6 P e<=n*A6 P e:=Em _ hlt;rw[E8]at this;omega
 refine Ax h hd (v:=.pointer (some (b.add (j.toNat*A6 P e)))) ?_ (.val _ _ ?_)
 ·simp[execOp,ho,he,hi',Instr.indexAt,asIntOf,Cl hu,hb0,hb1,B0 ht]
 ·rw[Mf hs];refine .rptr _ _ (λc=>us (j.toNat*A6 P e+c)) rfl (λc hc'=>?_) (λc hc'=>?_) (λc hc'=>?_) (λc hc'=>?_)<;>rw[hlen]at hc'
  ·grind
  ·grind
  ·exact h1 _ (hpos c hc')
  ·exact hr _ _ hlt hc'
theorem dw:∀(cells:List AV) (k n:Nat),k+n<=cells.length->XS cells k n=(cells.drop k).take n
 | cells,k,0,_=>by simp[XS]
 | cells,k,n+1,h=>by
  have hk:k<cells.length:=by omega
  rw[XS,dw _ _ n (by omega),W8 hk, List.getD,Tf hk]
  rfl
theorem BL(h:Rel Γ σ I θ a w)(hd:∀ d,o.dst=some d->d<Γ.n){t e:TypeId}{len:Nat}{x i:Operand}(ho:o.op = .indexAddr t x i)(hu:P.underlying t=some (.array len e))(ht:B8 P e=true)
  {k:IntKind} {j:Int} (hi:Rep I σ.own θ w (a.eval i) (.int k j)) (hb:A5 j len) :
  (∀ nm off,Rep I σ.own θ w (a.eval x) (.ptr nm off)->Ee P Γ σ o a w (.ptr nm (off+j.toNat*A6 P e)) []) /\
  (∀ cells,Rep I σ.own θ w (a.eval x) (.rptr cells)->cells.length=len*A6 P e->Ee P Γ σ o a w (.rptr (XS cells (j.toNat*A6 P e) (A6 P e))) []):=by
 obtain⟨hb0,hb1⟩:=hb;have hi':=hi.int_inv;refine⟨λnm off hx=>?_,λcells hx hle=>?_⟩
 ·obtain⟨e',cells',g,c,ho',hg,he⟩:=hx.ptr_inv;refine Ax h hd  ?_ (.ptr nm _ _ _ g c ho' hg);simp[execOp,ho,he,hi',Instr.indexAt,Instr.sureAddr,asIntOf,Cl hu,hb0,hb1,B0 ht,O3]
 ·obtain⟨ad,us,he,hs',hI,hc,h1',hrep⟩:=hx.rptr_inv
  have hle':j.toNat*A6 P e+A6 P e<=cells.length:=by
   have:(j.toNat+1)*A6 P e<=len*A6 P e:=Em _ (by omega);rw[E8]at this;omega
  rw[dw _ _ _ hle'];refine Ax h hd  ?_ (.val _ _ (EO hs' hI hc h1' hrep _ _ ?_))
  ·simp[execOp,ho,he,hi',Instr.indexAt,Instr.sureAddr,asIntOf,Cl hu,hb0,hb1,B0 ht]
  ·grind
theorem RQ(h:Rel Γ σ I θ a w)(hd:∀ d,o.dst=some d->d<Γ.n){t e:TypeId}{len:Nat}{x i:Operand}(ho:o.op = .index t x i)(hu:P.underlying t=some (.array len e))(ht:B8 P e=true)
  (hagg:Fd P e=false) (hsz:A6 P e=1) {k:IntKind} {j:Int} {cs:List AV} (hl:cs.length=len) (hi:Rep I σ.own θ w (a.eval i) (.int k j)) (hb:A5 j len) (hx:Rep I σ.own θ w (a.eval x) (.agg cs)) :
  Ee P Γ σ o a w (cs.getD j.toNat .any) []:=by
 obtain⟨hb0,hb1⟩:=hb;have hi':=hi.int_inv;obtain⟨vs,he,hl',h1,hr⟩:=hx.agg_inv
 have hlt:j.toNat<cs.length:=by omega
 obtain⟨u,hg,hg'⟩:=CV (l:=vs) (j:=j.toNat) (by omega);have hv:=hr _ hlt;rw[hg']at hv;refine Ax h hd  ?_ hv;simp[execOp,ho,he,hi',Instr.index,asIntOf,Cl hu,hb0,hb1,B0 ht,hsz,part,Ul ht,hagg,hg]
theorem bK(h:Rel Γ σ I θ a w)(hd:∀ d,o.dst=some d->d<Γ.n){t e:TypeId}{len:Nat}{x i:Operand}(ho:o.op = .index t x i)(hu:P.underlying t=some (.array len e))(ht:B8 P e=true)
  (hagg:Fd P e=true) {k:IntKind} {j:Int} {cs:List AV} (hl:cs.length=len*A6 P e) (hi:Rep I σ.own θ w (a.eval i) (.int k j)) (hb:A5 j len) (hx:Rep I σ.own θ w (a.eval x) (.agg cs)) :
  Ee P Γ σ o a w (.agg ((cs.drop (j.toNat*A6 P e)).take (A6 P e))) []:=by
 obtain⟨hb0,hb1⟩:=hb;have hi':=hi.int_inv;obtain⟨vs,he,hl',h1,hr⟩:=hx.agg_inv
 have hle:j.toNat*A6 P e+A6 P e<=cs.length:=by
  have:(j.toNat+1)*A6 P e<=len*A6 P e:=Em _ (by omega);rw[E8]at this;omega
 have hp:XR P e cs (j.toNat*A6 P e)=some (.agg ((cs.drop (j.toNat*A6 P e)).take (A6 P e))):=by
  unfold XR;rw[ht,hagg,Nat.ble_eq_true_of_le hle]
  rfl
 obtain⟨v,hv,hrep⟩:=RX  hp hl' h1 hr;refine Ax h hd ?_ hrep;simp[execOp,ho,he,hi',Instr.index,asIntOf,Cl hu,hb0,hb1,B0 ht,hv]
theorem gb(h:Rel Γ σ I θ a w)(hd:∀ d,o.dst=some d->d<Γ.n){x:Operand}{ix:Nat}(ho:o.op = .extract x ix){xs:List AV}(hx:Rep I σ.own θ w (a.eval x) (.tuple xs))(hlt:ix<xs.length) :
  Ee P Γ σ o a w (xs.getD ix .any) []:=by
 obtain⟨vs,he,hl,hr⟩:=hx.tuple_inv;obtain⟨u,hg,hg'⟩:=CV (l:=vs) (j:=ix) (by omega);have hv:=hr _ hlt;rw[hg']at hv;refine Ax h hd  ?_ hv;simp[execOp,ho,he,Instr.extract,hg]
theorem MX(h:Rel Γ σ I θ a w)(hd:∀ d,o.dst=some d->d<Γ.n){x:Operand}(ho:o.op = .nilCheck x) :
  (∀ nm off,Rep I σ.own θ w (a.eval x) (.ptr nm off)->Ee P Γ σ o a w (.ptr nm off) [])/\(∀ cs,Rep I σ.own θ w (a.eval x) (.rptr cs)->Ee P Γ σ o a w (.rptr cs) []):=by
 refine⟨λnm off hx=>?_,λcs hx=>?_⟩
 ·obtain⟨e',cells',g,c,ho',hg,he⟩:=hx.ptr_inv;exact Ax h hd  (by simp[execOp,ho,he]) hx
 ·obtain⟨ad,us,he,_⟩:=hx.rptr_inv;exact Ax h hd  (by simp[execOp,ho,he]) hx
theorem RN(h:Rel Γ σ I θ a w)(hd:∀ d,o.dst=some d->d<Γ.n){s t:TypeId}{x:Operand}(ho:o.op = .convert s t x){k k' k0:IntKind}{n:Int}(hs:P.underlying s=some (.int k0))(ht:P.underlying t=some (.int k))
  (hx:Rep I σ.own θ w (a.eval x) (.int k' n)):Ee P Γ σ o a w (.int k (k.wrap n)) []:=by
 have hx':=hx.int_inv;refine Ax h hd  ?_ (.val _ _ (.int _ _));simp[execOp,ho,hx',convert,Cl hs,Cl ht,Conv.intToInt]
theorem RO(h:Rel Γ σ I θ a w)(hd:∀ d,o.dst=some d->d<Γ.n){s t:TypeId}{x:Operand}(ho:o.op = .convert s t x){b:List Int}(hs:P.underlying s=some .string)(ht:P.underlying t=some .string)
  (hx:Rep I σ.own θ w (a.eval x) (.str b)):Ee P Γ σ o a w (.str b) []:=by
 obtain⟨b,hx',rfl⟩:=hx.str_inv;refine Ax h hd  ?_ (.val _ _ (.str _));simp[execOp,ho,hx',convert,Cl hs,Cl ht]
theorem bM(h:Rel Γ σ I θ a w)(hd:∀ d,o.dst=some d->d<Γ.n){t:TypeId}{x i:Operand}(ho:o.op = .index t x i)(hu:P.underlying t=some .string)
  {k:IntKind} {j:Int} {s:List Int} (hi:Rep I σ.own θ w (a.eval i) (.int k j)) (hb:A5 j s.length) (hx:Rep I σ.own θ w (a.eval x) (.str s)) :
  Ee P Γ σ o a w (.int .u8 (s.getD j.toNat 0)) []:=by
 obtain⟨b,he,rfl⟩:=hx.str_inv;obtain⟨hb0,hb1⟩:=hb;rw[E4]at hb1;have hi':=hi.int_inv;obtain⟨g1,g2⟩:=fk b j.toNat (by omega);refine Ax h hd  ?_ (by rw[<- g2];exact .val _ _ (.int _ _));simp[execOp,ho,he,hi',Instr.index,asIntOf,Cl hu,hb0,g1]
theorem WW:∀(ns:List Int) (s:ByteArray),Ck (ns.foldl (λr n=>r.push (UInt8.ofNat n.toNat)) s)=Ck s++ns.map (λn=>((UInt8.ofNat n.toNat).toNat:Int))
 | [],s=>by simp
 | n::ns,s=>by
  rw[LK,WW ns];unfold Ck
  simp
theorem KM(h:Rel Γ σ I θ a w)(hd:∀ d,o.dst=some d->d<Γ.n){s t e:TypeId}{x:Operand}(ho:o.op = .convert s t x){n sz:Nat}{f:Nat->List AV}{tag:Tag}(hs:P.underlying s=some (.slice e))(ht:P.underlying t=some .string)
  (he:P.underlying e=some (.int .u8)) (hsz:sz=1\/n=0) (hB:mi n f) (hx:Rep I σ.own θ w (a.eval x) (.slice sz n f tag)):Ee P Γ σ o a w (.str (JN n f)) []:=by
 obtain⟨_,ad,cap,us,hex,hcap,hmax,hz,hn,h1,hl,hr⟩:=hx.slice_val.slice_inv
 have key:∀(S:ByteArray),Ck S=JN n f->(Conv.bytesToString (.slice ad n cap)).run P w = .ok (.string S) w->Ee P Γ σ o a w (.str (JN n f)) []:=λS hS hrun=>by
  refine Ax h hd (v:=.string S) ?_ (by rw[<- hS];exact .val _ _ (.str _));simp[execOp,ho,hex,convert,Cl hs,Cl ht,Cl he,hrun]
 rcases ad with _|b
 ·have:n=0:=by have:=hn rfl;omega
  subst this;exact key .empty rfl (by simp[Conv.bytesToString,Hb])
 ·refine key _ ?_ (run_bytesToString w b n cap (JN n f) ?_)
  ·rw[WW]
   show[]++_=_
   rw[W9]
   have:∀ l:List Int,(∀ x∈l,0<=x/\x<256)->l.map (λn=>((UInt8.ofNat n.toNat).toNat:Int))=l:=λl=>by
    induction l with
    | nil=>intro _;rfl
    | cons y l ih=>
     intro hy;have h0:=hy y (by simp);rw[Cy,ih λz hz=>hy z (by simp[hz])]
     congr 1
     rw[UInt8.toNat_ofNat'];omega
   refine this _ λy hy=>?_;obtain⟨i,hi,rfl⟩:=zzL27.1 hy;exact(hB i (zzL44.1 hi)).2
  ·have hcell:∀ j,j<n->w.cell? (b.add j)=some (us j):=λj hj=>by
    obtain⟨b',hb',hsp,_,hc⟩:=hz (by omega);obtain rfl:=OI hb'
    have hsz1:sz=1:=by omega
    subst hsz1;rw[<- hc j (by omega)]
    congr 1
    obtain⟨bl,of,sp⟩:=b;simp only at hsp;subst hsp;simp[O3]
   rw[run_loadCells w b n us hcell]
   congr 2
   unfold JN;rw[List.map_map]
   apply bc
   intro j hj;have hj':=zzL44.1 hj
   have hsz1:sz=1:=by omega
   subst hsz1;have hv:=hr j 0 hj' (by omega);rw[(hB j hj').1]at hv;simp only[Ys,Sv,List.getD_cons_zero]at hv
   generalize us j=v at hv
   cases hv
   rfl
theorem ge(h:Rel Γ σ I θ a w)(hd:∀ d,o.dst=some d->d<Γ.n){t:TypeId}{xs:Array Operand}{x:Operand}{ts:Array TypeId}(ho:o.op = .call { callee:=.builtin .len,args:=xs,argTypes:=ts })(hxs:xs.toList=[x])(hts:ts.toList=[t]) :
  (∀ e sz n f tag,P.underlying t=some (.slice e)->Rep I σ.own θ w (a.eval x) (.slice sz n f tag)->Ee P Γ σ o a w (.int .i64 n) []) /\
  (∀ s,P.underlying t=some .string->Rep I σ.own θ w (a.eval x) (.str s)->Ee P Γ σ o a w (.int .i64 s.length) []) /\
  (∀ n e,P.underlying t=some (.array n e)->Ee P Γ σ o a w (.int .i64 n) []):=by
 obtain rfl:xs = #[x]:=by grind
 obtain rfl:ts = #[t]:=by grind
 refine⟨λe sz n f tag hu hx=>?_,λs hu hx=>?_,λn e hu=>?_⟩
 ·obtain⟨_,ad,cap,us,he,_⟩:=hx.slice_val.slice_inv;exact Ax h hd  (by simp[execOp,ho,resolve,invoke,builtin,Builtin.len_,he,Cl hu,goInt]) (.val _ _ (.int _ _))
 ·obtain⟨s,he,rfl⟩:=hx.str_inv;rw[E4];exact Ax h hd  (by simp[execOp,ho,resolve,invoke,builtin,Builtin.len_,he,Cl hu,goInt]) (.val _ _ (.int _ _))
 ·exact Ax h hd  (by simp[execOp,ho,resolve,invoke,builtin,Builtin.len_,Cl hu,goInt]) (.val _ _ (.int _ _))
theorem wj(h:Rel Γ σ I θ a w)(hd:∀ d,o.dst=some d->d<Γ.n){xs:Array Operand}{x y:Operand}{ts:Array TypeId}(ho:o.op = .call { callee:=.builtin .min,args:=xs,argTypes:=ts })(hxs:xs.toList=[x,y])
  {k k':IntKind} {m n:Int} (hx:Rep I σ.own θ w (a.eval x) (.int k m)) (hy:Rep I σ.own θ w (a.eval y) (.int k' n)):Ee P Γ σ o a w (.int k (if n<m then n else m)) []:=by
 obtain rfl:xs = #[x,y]:=by grind
 have e1:=hx.int_inv;have e2:=hy.int_inv;exact Ax h hd  (by simp[execOp,ho,resolve,invoke,builtin,Builtin.min_,Builtin.min2,e1,e2]) (.val _ _ (.int _ _))
theorem wi(h:Rel Γ σ I θ a w)(hd:∀ d,o.dst=some d->d<Γ.n){xs:Array Operand}{x y:Operand}{ts:Array TypeId}(ho:o.op = .call { callee:=.builtin .max,args:=xs,argTypes:=ts })(hxs:xs.toList=[x,y])
  {k k':IntKind} {m n:Int} (hx:Rep I σ.own θ w (a.eval x) (.int k m)) (hy:Rep I σ.own θ w (a.eval y) (.int k' n)):Ee P Γ σ o a w (.int k (if m<n then n else m)) []:=by
 obtain rfl:xs = #[x,y]:=by grind
 have e1:=hx.int_inv;have e2:=hy.int_inv;exact Ax h hd  (by simp[execOp,ho,resolve,invoke,builtin,Builtin.max_,Builtin.max2,e1,e2]) (.val _ _ (.int _ _))
end
structure CellsOK(I:Nat->Nat->Prop)(own:Nat->Option Own)(θ:Nat->Option (Nat×Nat))(w:World)(vs:Array Value)(cs:List AV):Prop where
 size:vs.size=cs.length
 one:∀ j,j<cs.length->(vs.getD j undef).oneCell'=true
 rep:∀ j,j<cs.length->Rep I own θ w (vs.getD j undef) (cs.getD j .any)
theorem lm{I:Nat->Nat->Prop}{own:Nat->Option Own}{θ:Nat->Option (Nat×Nat)}{w:World}{v:Value}{x:AV}(h1:x.one=true)(h:Rep I own θ w v x):v.oneCell'=true/\v.cells = #[v]:=by
 cases x<;>simp[AV.one]at h1
 case int=>obtain rfl:=h.int_inv;exact⟨rfl,rfl⟩
 case bool=>obtain rfl:=h.bool_inv;exact⟨rfl,rfl⟩
 case str=>obtain⟨_,rfl,_⟩:=h.str_inv;exact⟨rfl,rfl⟩
 case nilp=>obtain rfl:=h.nilp_inv;exact⟨rfl,rfl⟩
 case omap=>obtain⟨_,_,rfl⟩:=h.omap_inv;exact⟨rfl,rfl⟩
 case nilm=>obtain rfl:=h.nilm_inv;exact⟨rfl,rfl⟩
 case err=>rcases h.err_inv with⟨_,rfl⟩|⟨_,_,_,rfl⟩<;>exact⟨rfl,rfl⟩
 case ptr=>obtain⟨_,_,_,_,_,_,rfl⟩:=h.ptr_inv;exact⟨rfl,rfl⟩
 case vsl=>obtain⟨_,_,_,_,_,_,rfl,_⟩:=h.vsl_inv;exact⟨rfl,rfl⟩
 case vpt=>obtain⟨_,_,_,_,_,rfl,_⟩:=h.vpt_inv;exact⟨rfl,rfl⟩
 case clo=>obtain⟨_,_,rfl,_⟩:=h.clo_inv;exact⟨rfl,rfl⟩
 case vsub=>obtain⟨_,_,_,_,_,_,rfl,_⟩:=h.vsub_inv;exact⟨rfl,rfl⟩
 case rptr=>obtain⟨_,_,rfl,_⟩:=h.rptr_inv;exact⟨rfl,rfl⟩
 case rpo=>obtain⟨_,_,rfl,_⟩:=h.rpo_inv;exact⟨rfl,rfl⟩
 case slice=>obtain⟨_,_,_,_,rfl,_⟩:=h.slice_val.slice_inv;exact⟨rfl,rfl⟩
theorem L1{I:Nat->Nat->Prop}{own:Nat->Option Own}{θ:Nat->Option (Nat×Nat)}{w:World}{v:Value}{x:AV}{cs:List AV}(hc:x.cells=some cs)(h:Rep I own θ w v x):CellsOK I own θ w v.cells cs:=by
 unfold AV.cells at hc
 split at hc
 ·simp only[Aj]at hc;subst hc;obtain⟨vs,rfl,hl,h1,hr⟩:=h.agg_inv;exact⟨hl,h1,hr⟩
 ·cases h1:x.one with
  | false=>simp[h1]at hc
  | true=>
   simp only[h1,Ae,Aj]at hc;subst hc;obtain⟨ho,he⟩:=lm h1 h;rw[he]
   refine⟨rfl,λj hj=>?_,λj hj=>?_⟩<;>obtain rfl:j=0:=by simpa using hj
   ·simpa using ho
   ·simpa using h
theorem CellsOK.all{I:Nat->Nat->Prop}{own:Nat->Option Own}{θ:Nat->Option (Nat×Nat)}{w:World}{vs:Array Value}{cs:List AV}(h:CellsOK I own θ w vs cs):∀ v∈vs.toList,v.oneCell'=true:=by
 intro v hv;obtain⟨j,hj,rfl⟩:=List.mem_iff_getElem.1 hv;have:=h.one j (by rw[<- h.size];simpa using hj)
 simpa [Array.getD,show j<vs.size by simpa using hj] using this
def thUp(θ:Nat->Option (Nat×Nat))(d:Nat)(x:Option (Nat×Nat)):Nat->Option (Nat×Nat):=λnm=>if nm=d then x else θ nm
def A0(own:Nat->Option Own)(d:Nat)(x:Own):Nat->Option Own:=λnm=>if nm=d then some x else own nm
theorem Md{own own':Nat->Option Own}{θ θ':Nat->Option (Nat×Nat)}{I I':Nat->Nat->Prop}{w w':World}(h:K3 I own θ w)(sp:Nat->Prop)
  (hmono:∀ v x,Rep I own θ w v x->Rep I' own' θ' w' v x)
  (hold:∀ nm,¬ sp nm->own' nm=own nm/\θ' nm=θ nm)
  (hblk:∀ nm g c,¬ sp nm->own nm≠none->θ nm=some (g,c)->w'.heap[g]?=w.heap[g]?/\∀ j,I' g j->I g j)
  (hrow:∀ nm e cells,sp nm->own' nm=some (.row e cells)->∃ g c vs,θ' nm=some (g,c)/\w'.heap[g]?=some (.cells vs e (0,0))/\CellsOK I' own' θ' w' vs cells/\∀ j,¬ I' g j)
  (htok:∀ nm sz e m,sp nm->own' nm=some (.tok sz e m)->∀ g c,θ' nm=some (g,c)->∃ cur fz,w'.heap[g]?=some (.cells cur e (0,fz))/\m<=c/\c<=maxLen/\cur.size=c*sz/\fz<=m*sz/\∀ j,I' g j->j<m*sz)
  (hinj:∀ nm nm' g c c',sp nm->¬ sp nm'->own' nm≠none->own nm'≠none->θ' nm=some (g,c)->θ nm'=some (g,c')->False)
  (hsp:∀ nm nm',sp nm->sp nm'->nm=nm')
  (harr:∀ nm sz e m f,sp nm->own' nm=some (.arr sz e m f)->(θ' nm=none->m=0)/\∀ g c,θ' nm=some (g,c)->∃ cur,w'.heap[g]?=some (.cells cur e (0,0))/\m<=c/\c<=maxLen/\cur.size=c*sz /\
   (∀ i,i<m->(f i).length=sz)/\(∀ i j,i<m->j<sz->(cur.getD (i*sz+j) undef).oneCell'=true/\Rep I' own' θ' w' (cur.getD (i*sz+j) undef) ((f i).getD j .any))/\∀ j,¬ I' g j:=by
    intro nm sz e m f hs ho;first|exact hs.elim|(subst hs;simp[A0]at ho))
  (hobj:∀ nm x,sp nm->own' nm=some (.obj x)->Yx I' own' θ' w' nm x:=by
    intro nm x hs ho;first|exact hs.elim|(subst hs;simp[A0]at ho))
  (htok8:∀ nm sz m,sp nm->own' nm=some (.tok sz ES m)->θ' nm=none->m=0:=by
    intro nm sz m hs ho;first|exact hs.elim|(subst hs;simp[A0]at ho)):K3 I' own' θ' w':=by
 refine⟨λnm e cells ho=>?_,λnm sz e m ho g c hg=>?_,λnm nm' g c c' ho ho' hg hg'=>?_,λnm sz e m f ho=>?_,λnm x ho=>?_,λnm sz m ho hn=>?_⟩
 rotate_left 5
 ·by_cases hs:sp nm
  ·exact htok8 nm sz m hs ho hn
  ·obtain⟨e1,e2⟩:=hold nm hs;rw[e1]at ho;rw[e2]at hn;exact h.tok8 nm sz m ho hn
 rotate_left 4
 ·by_cases hs:sp nm
  ·exact hobj nm x hs ho
  ·obtain⟨e1,e2⟩:=hold nm hs;rw[e1]at ho;exact L9 (h.obj nm x ho) e2 (λg c hg=>(hblk nm g c hs (by simp[ho]) hg).1) (λg c j hg=>(hblk nm g c hs (by simp[ho]) hg).2 j) (λo h=>h.mono hmono) Vw
 ·by_cases hs:sp nm
  ·obtain⟨g,c,vs,h1,h2,h3,h4⟩:=hrow nm e cells hs ho;exact⟨g,c,vs,h1,h2,h3.size,h3.one,h3.rep,h4⟩
  ·obtain⟨e1,e2⟩:=hold nm hs;rw[e1]at ho;obtain⟨g,c,vs,h1,h2,h3,h4,h5,h6⟩:=h.row nm e cells ho;obtain⟨hb,hi⟩:=hblk nm g c hs (by simp[ho]) h1;exact⟨g,c,vs,e2.trans h1,hb.trans h2,h3,h4,λj hj=>hmono _ _ (h5 j hj),λj hj=>h6 j (hi j hj)⟩
 ·by_cases hs:sp nm
  ·exact htok nm sz e m hs ho g c hg
  ·obtain⟨e1,e2⟩:=hold nm hs;rw[e1]at ho;rw[e2]at hg;obtain⟨cur,fz,h2,h3,h4,h5,h6',h6⟩:=h.tok nm sz e m ho g c hg;obtain⟨hb,hi⟩:=hblk nm g c hs (by simp[ho]) hg;exact⟨cur,fz,hb.trans h2,h3,h4,h5,h6',λj hj=>h6 j (hi j hj)⟩
 ·by_cases hs:sp nm<;>by_cases hs':sp nm'
  ·exact hsp nm nm' hs hs'
  ·obtain⟨e1,e2⟩:=hold nm' hs';rw[e1]at ho';rw[e2]at hg';exact(hinj nm nm' g c c' hs hs' ho ho' hg hg').elim
  ·obtain⟨e1,e2⟩:=hold nm hs;rw[e1]at ho;rw[e2]at hg;exact(hinj nm' nm g c' c hs' hs ho' ho hg' hg).elim
  ·obtain⟨e1,e2⟩:=hold nm hs;obtain⟨e1',e2'⟩:=hold nm' hs';rw[e1]at ho;rw[e1']at ho';rw[e2]at hg;rw[e2']at hg';exact h.inj nm nm' g c c' ho ho' hg hg'
 ·by_cases hs:sp nm
  ·exact harr nm sz e m f hs ho
  ·obtain⟨e1,e2⟩:=hold nm hs;rw[e1]at ho;rw[e2];obtain⟨k1,k2⟩:=h.arr nm sz e m f ho;refine⟨k1,λg c hg=>?_⟩;obtain⟨cur,q1,q2,q3,q4,q5,q6,q7⟩:=k2 g c hg;obtain⟨hb,hi⟩:=hblk nm g c hs (by simp[ho]) hg;exact⟨cur,hb.trans q1,q2,q3,q4,q5,λi j hi hj=>⟨(q6 i j hi hj).1,hmono _ _ (q6 i j hi hj).2⟩,λj hj=>q7 j (hi j hj)⟩
section
variable {P:Program} {Γ:Ix} {σ:Sto} {I:Nat->Nat->Prop} {θ:Nat->Option (Nat×Nat)} {a:Act} {w:World} {o:Oper}
theorem L4(ob:Obj){b o:Nat}{u:Value}(h:w.cell? ⟨b,o,none⟩=some u):(w.alloc ob).cell? ⟨b,o,none⟩=w.cell? ⟨b,o,none⟩:=
 World.cell?_alloc_lt (w:=w) (o:=ob) (a:=⟨b,o,none⟩) (R6 h)
theorem Ls{own:Nat->Option Own}(h:K3 I own θ w){nm g c:Nat}(ho:own nm≠none)(hg:θ nm=some (g,c)):g<w.heap.size:=by
 cases hn:own nm with
 | none=>exact(ho hn).elim
 | some x=>cases x with
  | row e cells=>obtain⟨g',c',vs,h1,h2,_⟩:=h.row nm e _ hn;rw[hg]at h1; obtain⟨rfl,rfl⟩:=h1;exact HI h2
  | tok sz e m=>obtain⟨cur,fz,h2,_⟩:=h.tok nm sz e m hn g c hg;exact HI h2
  | arr sz e m f=>obtain⟨cur,h2,_⟩:=(h.arr nm sz e m f hn).2 g c hg;exact HI h2
  | obj x=>
   rcases h.obj nm x hn with⟨g',c',o,h1,h2,_⟩|⟨h1,_⟩
   ·grind
   ·rw[hg]at h1;cases h1
theorem Cd(σ:Sto)(dst:Option Nat)(v:AV)(d:Nat)(x:Own):(σ.upd dst v [(d,x)]).own=A0 σ.own d x:=by
 funext nm
 simp only[Sto.upd,Ag,A0]
 by_cases h:d=nm
 ·subst h;simp
 ·have:Nat.beq d nm=false:=by cases hb:Nat.beq d nm with|false=>rfl|true=>simp_all
  simp[this,Ol h]
theorem fo{own:Nat->Option Own}(hrel:K3 I own θ w)(hval:∀ b o,I b o->∃ u,w.cell? ⟨b,o,none⟩=some u){d:Nat}(hn:own d=none){vs:Array Value}{cs:List AV}(hc:CellsOK I own θ w vs cs)(e:TypeId) :
  Chg own θ I w (A0 own d (.row e cs)) (thUp θ d (some (w.heap.size,0))) I (w.alloc (.cells vs e)):=by
 have hcell:∀ b o,I b o->(w.alloc (.cells vs e)).cell? _=w.cell? _:=λb o hi=>by
  obtain⟨u,hu⟩:=hval b o hi;exact L4 _ hu
 have hle:∀ nm o,own nm=some o->∃ o',A0 own d (.row e cs) nm=some o'/\OwnLe o (θ nm) o' (thUp θ d (some (w.heap.size,0)) nm):=λnm o ho=>by
  have hne:nm≠d:=by grind
  exact⟨o,by simp[A0,hne,ho],by simp[thUp,hne,OwnLe.refl]⟩
 have hmono:∀ v x,Rep I own θ w v x->Rep I _ _ _ v x:=λv x h=>h.mono (λ_ _ h=>h) hcell hle;refine{ imm:=λ_ _ h=>h,cell:=hcell,le:=hle,rel:=?_,valid:=λb o hi=>?_,os:=rfl,tape:=rfl,output:=rfl,drawn:=λ_=>zzL7 _,grow:=by simp,frame:=λb hb _=>NZ w _ hb,new:=λnm g c ho hg=>?_,immNew:=λb o h=>.inl h }
 ·refine Md hrel (·=d) hmono (λnm hne=>⟨by simp[A0,hne],by simp[thUp,hne]⟩) (λnm g c hne ho hg=>⟨NZ w _ (Ls hrel ho hg),λj h=>h⟩) ?_ ?_ ?_ (λ_ _ h h'=>h.trans h'.symm)
  ·rintro nm e' cells rfl ho;simp only[A0,  Own.row.injEq]at ho;obtain⟨rfl,rfl⟩:=ho;refine⟨w.heap.size,0,vs,by simp[thUp],EV w _,⟨hc.size,hc.one,λj hj=>hmono _ _ (hc.rep j hj)⟩,λj hj=>?_⟩;obtain⟨u,hu⟩:=hval _ _ hj;exact FA _ (R6 hu)
  ·rintro nm sz e' m rfl ho;simp[A0]at ho
  ·rintro nm nm' g c c' rfl hne _ ho' hg hg';simp only[thUp,Lz,Aj,Ms]at hg;have:=Ls hrel ho' hg';omega
 ·grind
 ·by_cases hne:nm=d
  ·simp only[thUp,hne,Lz,Aj,Ms]at hg;exact .inl (by omega)
  ·simp only[A0,hne]at ho;simp only[thUp,hne]at hg;exact .inr ⟨nm,c,ho,hg⟩
theorem XP(h:Rel Γ σ I θ a w)(hd:∀ d,o.dst=some d->d<Γ.n){d:Nat}(_:o.dst=some d)(hn:σ.own d=none){vs:Array Value}{cs:List AV}(hc:CellsOK I σ.own θ w vs cs){e:TypeId}
  (hr:(execOp a.eval o).run P w = .ok (.value (.pointer (some ⟨w.heap.size,0,none⟩))) (w.alloc (.cells vs e))):Ee P Γ σ o a w (.ptr d 0) [(d,.row e cs)]:=by
 have k:=fo h.chg.rel h.chg.valid hn hc e;refine Jq h hd hr (by rw[Cd];exact k) ?_;rw[Cd];exact .ptr d 0 e cs _ 0 (by simp[A0]) (by simp[thUp])
theorem we(h:Rel Γ σ I θ a w)(hd:∀ d,o.dst=some d->d<Γ.n){d:Nat}(hdst:o.dst=some d)(hn:σ.own d=none){e:TypeId}{x:Operand}(ho:o.op = .box e x){y:AV}{cs:List AV}(hx:Rep I σ.own θ w (a.eval x) y)(hc:y.cells=some cs) :
  Ee P Γ σ o a w (.ptr d 0) [(d,.row e cs)]:=by
 refine XP  h hd hdst hn (L1 hc hx) ?_;simp[execOp,ho,Instr.box,newVar,newRow]
theorem SF(v:Value):Rep I σ.own θ w v (AV.ofCell v):=by
 unfold AV.ofCell
 split
 ·exact .val _ _ (.int _ _)
 ·exact .val _ _ (.bool _)
 ·exact .val _ _ (.str _)
 ·exact .val _ _ .nilp
 ·exact .exact _ _ _ _ (.slice _ 0 0 0 _ (λ_=>undef) (zzL7 _) (Rh _) (λh=>by omega) (λ_=>rfl) (λj hj=>by omega) (λi hi=>by omega) (λi c hi=>by omega))
 ·exact .val _ _ .err0
 ·exact .val _ _ .nilm
 ·exact .val _ _ (.any _)
theorem I9{vs:Array Value}(h:vs.toList.all (·.oneCell')=true):CellsOK I σ.own θ w vs (vs.toList.map AV.ofCell):=by
 refine⟨by simp,λj hj=>?_,λj hj=>?_⟩<;>have hj' :=by simpa using hj
 ·simp_all
 ·have:(vs.toList.map AV.ofCell).getD j .any=AV.ofCell (vs.getD j undef):=by simp_all
  rw[this];exact SF _
theorem Vk(v:Value):Rep I σ.own θ w v (AV.ofValue v):=by
 unfold AV.ofValue
 split
 ·rename_i cs
  cases hc:cs.toList.all _ with
  | false=>exact .val _ _ (.any _)
  | true=>
   have:=I9 (I:=I) (σ:=σ) (θ:=θ) (w:=w) hc;exact .agg _ _ this.size this.one this.rep
 ·rename_i vs
  split
  ·obtain rfl:vs = #[]:=by grind
   exact .val _ _ .undef
  ·exact .val _ _ (.any _)
 ·exact SF _
theorem Pw{t:TypeId}{z:List AV}(h:W7 P t=some z):∃ i v,P.info? t=some i/\i.zero=some v/\v.cells.toList.all (·.oneCell')=true/\z=v.cells.toList.map AV.ofCell:=by
 unfold W7 at h
 split at h
 ·rename_i v hv
  obtain⟨i,hi,hz⟩:=zzL108.1 hv
  cases hc:v.cells.toList.all (·.oneCell') with
  | false=>simp[hc]at h
  | true=>grind
 ·simp at h
theorem O1{t:TypeId}{i:TypeInfo}{v:Value}(hi:P.info? t=some i)(hz:i.zero=some v)(w:World):(zeroValue t).run P w = .ok v w:=by simp[zeroValue,typeInfo,hi,hz]
theorem pS(h:Rel Γ σ I θ a w)(hd:∀ d,o.dst=some d->d<Γ.n){d:Nat}(hdst:o.dst=some d)(hn:σ.own d=none){e:TypeId}(ho:o.op = .alloc e){z:List AV}(hz:W7 P e=some z) :
  Ee P Γ σ o a w (.ptr d 0) [(d,.row e z)]:=by
 obtain⟨i,v,hi,hv,h1,rfl⟩:=Pw hz;refine XP  h hd hdst hn (I9 h1) ?_;simp[execOp,ho,Instr.alloc,O1 hi hv,newVar,newRow]
theorem Jg{α:Type}(d:α)(l m:List α)(off j:Nat)(hle:off+m.length<=l.length) :
  (l.take off++m++l.drop (off+m.length)).getD j d=if off<=j/\j<off+m.length then m.getD (j-off) d else l.getD j d:=by
 have ht:(l.take off).length=off:=by simp;omega
 by_cases h1:j<off
 ·grind
 ·grind
theorem pZ(h:Rel Γ σ I θ a w)(hd:∀ d,o.dst=some d->d<Γ.n){t:TypeId}{x y:Operand}(ho:o.op = .store t x y)(ht:B8 P t=true){nm off:Nat}{cells cs:List AV}{z:AV}
  (hx:Rep I σ.own θ w (a.eval x) (.ptr nm off)) (hy:Rep I σ.own θ w (a.eval y) z) {e:TypeId} (hown:σ.own nm=some (.row e cells)) (hc:z.cells=some cs) (hsz:cs.length=A6 P t) (hle:off+cs.length<=cells.length) :
  Ee P Γ σ o a w .undef [(nm,.row e (cells.take off++cs++cells.drop (off+cs.length)))]:=by
 obtain⟨e',cells',g,c,ho',hg,he⟩:=hx.ptr_inv;rw[hown]at ho';simp only[Aj,Own.row.injEq]at ho';obtain⟨rfl,rfl⟩:=ho';obtain⟨g',c',vs,hg',hh,hvs,h1,hrep,hnI⟩:=h.chg.rel.row nm e cells hown;rw[hg]at hg';simp only[Aj,Ms]at hg';obtain⟨rfl,rfl⟩:=hg';have hcs:=L1 hc hy;have hrel:=h.chg.rel
 have hvl:(a.eval y).cells.toList.length=cs.length:=by simp[hcs.size]
 have hst:=run_storeCells_at P g off e (a.eval y).cells.toList 0 vs w hh (by rw[hvl];omega) hcs.all;simp only[Sv]at hst
 have hrun:(execOp a.eval o).run P w = .ok .skip (w.setRow g (vs.toList.take off++(a.eval y).cells.toList++vs.toList.drop (off+(a.eval y).cells.toList.length)).toArray):=by
  have hn:¬ ((a.eval y).cells.size≠A6 P t):=by rw[hcs.size,hsz];simp
  simp only[execOp,ho,he,Instr.storeAt,Instr.sureAddr,Ed,Hb,Fh,storeVar,B0 ht,if_neg hn,hst]
 refine DK h hd (I':=I) (θ':=θ) hrun ?_;rw[Cd,hvl];have hother:∀ b,b≠g->(w.setRow g (vs.toList.take off++(a.eval y).cells.toList++vs.toList.drop (off+cs.length)).toArray).heap[b]?=w.heap[b]?:=λb hb=>LO w g b _ hb
 have hcell :=λb j hi=>
  NL (a:=⟨b,j,none⟩) (hother b (by rintro rfl;exact hnI j hi))
 have hle':∀ nm' o,σ.own nm'=some o->∃ o',A0 σ.own nm (.row e (cells.take off++cs++cells.drop (off+cs.length))) nm'=some o'/\OwnLe o (θ nm') o' (θ nm'):=λnm' o ho=>by
  by_cases hne:nm'=nm
  ·subst hne;rw[hown]at ho;obtain rfl:=OI ho;exact⟨.row e (cells.take off++cs++cells.drop (off+cs.length)),by simp[A0],rfl,rfl⟩
  ·exact⟨o,by simp[A0,hne,ho],.refl _ _⟩
 have hmono:∀ v x,Rep I σ.own θ w v x->Rep I (A0 σ.own nm (.row e (cells.take off++cs++cells.drop (off+cs.length)))) θ (w.setRow g (vs.toList.take off++(a.eval y).cells.toList++vs.toList.drop (off+cs.length)).toArray) v x:=
  λv x h=>h.mono (λ_ _ h=>h) hcell hle'
 refine{ imm:=λ_ _ h=>h,cell:=hcell,le:=hle',rel:=?_,valid:=λb j hi=>?_,os:=rfl,tape:=rfl,output:=rfl,drawn:=λ_=>zzL7 _,grow:=by simp,frame:=λb hb hn=>hother b ?_,new:=λnm' g c ho hg=>?_,immNew:=λb o h=>.inl h }
 ·refine Md hrel (·=nm) hmono (λnm' hne=>⟨by simp[A0,hne],rfl⟩) (λnm' g' c' hne ho hg'=>⟨hother g' ?_,λj h=>h⟩) ?_ ?_ ?_ (λ_ _ h h'=>h.trans h'.symm)
  ·rintro rfl;exact hne (hrel.inj nm' nm _ _ _ ho (by simp[hown]) hg' hg)
  ·rintro nm' e' cells' rfl ho;simp only[A0,Lz,Aj,Own.row.injEq]at ho;obtain⟨rfl,rfl⟩:=ho
   have hlen:(vs.toList.take off++(a.eval y).cells.toList++vs.toList.drop (off+cs.length)).length=cells.length:=by
    simp only[Gk,GI,NM,LG,hvs,hcs.size];omega
   have hlen2:(cells.take off++cs++cells.drop (off+cs.length)).length=cells.length:=by
    simp only[Gk,GI,NM];omega
   have hget:∀ j,((vs.toList.take off++(a.eval y).cells.toList++vs.toList.drop (off+cs.length)).toArray).getD j undef=if off<=j/\j<off+cs.length then(a.eval y).cells.getD (j-off) undef else vs.getD j undef:=λj=>by
    have:=Jg undef vs.toList (a.eval y).cells.toList off j (by rw[hvl];simp;omega);rw[hvl]at this
    have e1:∀(l:List Value),(l.toArray).getD j undef=l.getD j undef:=λl=>by simp[Ss,List.getD]
    rw[e1,this]
    congr 1
    ·simp[Ss,List.getD]
    ·simp[Ss,List.getD]
   refine⟨g,c,_,hg,LP w g vs _ e _ hh,⟨by rw[hlen2];simpa using hlen,λj hj=>?_,λj hj=>?_⟩,hnI⟩<;>rw[hlen2]at hj<;>rw[hget]
   ·split
    ·exact hcs.one _ (by omega)
    ·exact h1 _ hj
   ·rw[Jg _ _ _ _ _ hle]
    split
    ·exact hmono _ _ (hcs.rep _ (by omega))
    ·exact hmono _ _ (hrep _ hj)
  ·rintro nm' sz e' m rfl ho;simp[A0]at ho
  ·rintro nm' nm'' g' c1 c2 rfl hne _ ho' hg1 hg2;exact hne (hrel.inj nm'' nm' _ _ _ ho' (by simp[hown]) hg2 hg1)
 ·obtain⟨u,hu⟩:=h.chg.valid b j hi;exact⟨u,(hcell b j hi).trans hu⟩
 ·rintro rfl;exact hn nm c (by simp[hown]) hg
 ·refine .inr ⟨nm',c,?_,hg⟩
  by_cases hne:nm'=nm
  ·subst hne;simp[hown]
  ·simpa [A0,hne] using ho
end
theorem EH(off:Nat):∀(l:List Value) (i:Nat) (cs:Array Value) (k:Nat),off+i+l.length<=cs.size->
  ((l.zipIdx i).foldl (λ(cs:Array Value) (p:Value×Nat)=>cs.setIfInBounds (off+p.2) p.1) cs)[k]?=if off+i<=k/\k<off+i+l.length then l[k-(off+i)]? else cs[k]?
 | [],i,cs,k,_=>by simp;omega
 | v::l,i,cs,k,h=>by
  simp only[Vq]at h;simp only[List.zipIdx_cons,LK];rw[EH off l _ _ k (by simp;omega)]
  by_cases h1:k=off+i
  ·grind
  ·grind
theorem AY(off:Nat):∀(l:List Value) (i:Nat) (cs:Array Value),
  ((l.zipIdx i).foldl (λ(cs:Array Value) (p:Value×Nat)=>cs.setIfInBounds (off+p.2) p.1) cs).size=cs.size
 | [],_,_=>rfl
 | _::l,i,cs=>by simp only[List.zipIdx_cons,LK];rw[AY off l _];simp
theorem lP(off:Nat)(c cs:Array Value)(j:Nat)(h:off+c.size<=cs.size) :
  (c.zipIdx.foldl (λ(cs:Array Value) (p:Value×Nat)=>cs.setIfInBounds (off+p.2) p.1) cs).getD j undef=if off<=j/\j<off+c.size then c.getD (j-off) undef else cs.getD j undef:=by
 rw[<- Array.foldl_toList,Array.toList_zipIdx];have:=EH off c.toList 0 cs j (by simpa using h);simp only[Sv,LG,Array.getElem?_toList]at this;simp only[Ss,this]
 split<;>rfl
theorem QG(off:Nat)(c cs:Array Value):(c.zipIdx.foldl (λ(cs:Array Value) (p:Value×Nat)=>cs.setIfInBounds (off+p.2) p.1) cs).size=cs.size:=by
 rw[<- Array.foldl_toList,Array.toList_zipIdx];exact AY off _ 0 cs
section
variable {P:Program} {Γ:Ix} {σ:Sto} {I:Nat->Nat->Prop} {θ:Nat->Option (Nat×Nat)} {a:Act} {w:World} {o:Oper}
inductive Uy (I:Nat->Nat->Prop) (own:Nat->Option Own) (θ:Nat->Option (Nat×Nat)) (w:World):List (Nat×Value)->List (Nat×AV)->Prop
 | nil:Uy I own θ w [] []
 | cons {i:Nat} {v:Value} {x:AV} {l:List (Nat×Value)} {m:List (Nat×AV)} (h:Rep I own θ w v x) (t:Uy I own θ w l m):Uy I own θ w ((i,v)::l) ((i,x)::m)
theorem Xo(place:Nat->Option (Nat×Nat)){l:List (Nat×Value)}{m:List (Nat×AV)}(hp:Uy I σ.own θ w l m):∀{vs:Array Value} {cs cs':List AV},CellsOK I σ.own θ w vs cs->AX place cs m=some cs'->
  ∃ vs',Instr.fill place vs l=some vs'/\CellsOK I σ.own θ w vs' cs':=by
 induction hp with
 | nil=>intro vs cs cs' h hf;simp only[AX,Aj]at hf;subst hf;exact⟨vs,rfl,h⟩
 | @cons i v x l m hv _ ih=>
  intro vs cs cs' h hf;simp only[AX]at hf
  cases hpl:place i with
  | none=>simp[hpl]at hf
  | some os=>
   obtain⟨off,size⟩:=os
   cases hx:x.cells with
   | none=>simp[ hx]at hf
   | some xs=>
    simp only[hpl,hx]at hf
    cases h1:Nat.beq xs.length size with
    | false=>simp[h1]at hf
    | true=>
     cases h2:Nat.ble (off+xs.length) cs.length with
     | false=>simp[ h2]at hf
     | true=>
      simp only[h1,h2, Ae]at hf;have h1':=Cq h1;have h2':=K1 h2;have hc:=L1 hx hv
      have hle:off+v.cells.size<=vs.size:=by rw[hc.size,h.size];exact h2'
      have hlen2:(cs.take off++xs++cs.drop (off+xs.length)).length=cs.length:=by
       grind
      obtain⟨vs',hf',hok⟩:=ih (vs:=v.cells.zipIdx.foldl (λcs p=>cs.setIfInBounds (off+p.2) p.1) vs) (by
       refine⟨by rw[QG,hlen2,h.size],λj hj=>?_,λj hj=>?_⟩<;>rw[hlen2]at hj<;>rw[lP off _ _ j hle,hc.size]
       ·split
        ·exact hc.one _ (by omega)
        ·exact h.one _ hj
       ·rw[Jg _ _ _ _ _ h2']
        split
        ·exact hc.rep _ (by omega)
        ·exact h.rep _ hj) hf
      refine⟨vs',?_,hok⟩
      have hn:¬ (v.cells.size≠size || decide (off+v.cells.size>vs.size))=true:=by
       simp only[Vr,En,not_or];rw[hc.size];exact⟨by simpa using h1',by rw[h.size];omega⟩
      simp only[Instr.fill,hpl,if_neg hn];exact hf'
theorem pT(h:Rel Γ σ I θ a w)(hd:∀ d,o.dst=some d->d<Γ.n){t:TypeId}{parts:Array (Nat×Operand)}(ho:o.op = .build t parts){is:List Nat}{vs:List AV}
  (hp:Uy I σ.own θ w (parts.toList.map λp=>(p.1,a.eval p.2)) (is.zip vs)) {e:Eff} (he:fX P t is vs=some e):e.wo=[]/\Ee P Γ σ o a w e.v []:=by
 unfold fX at he
 split at he
 ·rename_i z fields hz hu
  cases hf:fields.toList.all (λf=>B8 P f.type) with
  | false=>simp[hf]at he
  | true=>
   simp only[hf,Ae]at he
   split at he
   ·rename_i cs hfill
    simp only[Eff.pure,Aj]at he;subst he;obtain⟨i,v,hi,hv,h1,rfl⟩:=Pw hz;obtain⟨vs',hfi,hok⟩:=Xo _ hp (I9 h1) hfill;refine⟨rfl,Ax h hd (v:=.agg vs') ?_ (.agg _ _ hok.size hok.one hok.rep)⟩;have hsz :=λf hm=>zzL30.1 hf f hm
    have hm:(fields.mapM (λf:Field=>do pure (f.offset,<- sizeOf f.type))).run P w = .ok (fields.map λf=>(f.offset,A6 P f.type)) w:=by
     rw[Array.mapM_eq_mapM_toList]
     have key:∀ l:List Field,(∀ f∈l,B8 P f.type=true)->(l.mapM (λf:Field=>do pure (f.offset,<- sizeOf f.type))).run P w = .ok (l.map λf=>(f.offset,A6 P f.type)) w:=by
      intro l
      induction l with
      | nil=>intro _;simp
      | cons f l ih=>
       intro hl;simp only[List.mapM_cons,Ed,B0 (hl f (by simp)),Fh,Hb,ih (λg hg=>hl g (by simp[hg])),Cy]
     rw[Sem.run_map,key _ hsz];simp only[Fh,Result.ok.injEq,Bz]
     apply Th
     simp
    have e1:(λx:Nat=>(fields.map λf:Field=>(f.offset,A6 P f.type))[x]?)=λi:Nat=>(fields.toList.map λf:Field=>(f.offset,A6 P f.type))[i]?:=by
     funext i;simp
    have e2:(parts.map λx=>(x.1,a.eval x.2)).toList=parts.toList.map λp=>(p.1,a.eval p.2):=by simp
    simp only[execOp,ho,Instr.build,Ed,O1 hi hv,Fh,Cl hu,hm,Hb,e1,e2,hfi]
   ·simp at he
 ·rename_i z n e hz hu
  cases hf:B8 P e with
  | false=>simp[hf]at he
  | true=>
   simp only[hf,Ae]at he
   split at he
   ·rename_i cs hfill
    simp only[Eff.pure,Aj]at he;subst he;obtain⟨i,v,hi,hv,h1,rfl⟩:=Pw hz;obtain⟨vs',hfi,hok⟩:=Xo _ hp (I9 h1) hfill;refine⟨rfl,Ax h hd (v:=.agg vs') ?_ (.agg _ _ hok.size hok.one hok.rep)⟩
    have e2:(parts.map λx=>(x.1,a.eval x.2)).toList=parts.toList.map λp=>(p.1,a.eval p.2):=by simp
    simp only[execOp,ho,Instr.build,Ed,O1 hi hv,Fh,Cl hu,B0 hf,Hb,e2,hfi]
   ·simp at he
 ·simp at he
def WY(I:Nat->Nat->Prop)(g n:Nat):Nat->Nat->Prop:=λb o=>I b o\/(b=g/\o<n)
theorem FQ{own:Nat->Option Own}(hrel:K3 I own θ w)(hval:∀ b o,I b o->∃ u,w.cell? ⟨b,o,none⟩=some u)(vs:Array Value)(e:TypeId) :
  Chg own θ I w own θ (WY I w.heap.size vs.size) (w.alloc (.cells vs e)):=by
 have hcell:∀ b o,I b o->(w.alloc (.cells vs e)).cell? _=w.cell? _:=λb o hi=>by
  obtain⟨u,hu⟩:=hval b o hi;exact L4 _ hu
 have hle:∀ nm o,own nm=some o->∃ o',own nm=some o'/\OwnLe o _ o' (θ nm):=λnm o ho=>⟨o,ho,.refl _ _⟩;have hmono:∀ v x,Rep I own θ w v x->Rep (WY I w.heap.size vs.size) own θ _ v x:=λv x h=>h.mono (λ_ _ h=>.inl h) hcell hle;refine{ imm:=λ_ _ h=>.inl h,cell:=hcell,le:=hle,rel:=?_,valid:=λb o hi=>?_,os:=rfl,tape:=rfl,output:=rfl,drawn:=λ_=>zzL7 _,grow:=by simp,frame:=λb hb _=>NZ w _ hb,new:=λnm g c ho hg=>.inr ⟨nm,c,ho,hg⟩,immNew:=λb o h=>?_ }
 ·refine Md hrel (λ_=>False) hmono (λnm _=>⟨rfl,rfl⟩) (λnm g c _ ho hg=>⟨NZ w _ (Ls hrel ho hg),λj h=>?_⟩) (λ_ _ _ h=>h.elim) (λ_ _ _ _ h=>h.elim) (λ_ _ _ _ _ h=>h.elim) (λ_ _ h=>h.elim);have:=Ls hrel ho hg;rcases h with h|⟨h,_⟩
  ·exact h
  ·omega
 ·rcases hi with hi|⟨rfl,hlt⟩
  ·grind
  ·simp_all
 ·rcases h with h|⟨rfl,_⟩
  ·exact .inl h
  ·omega
theorem WP(sz:Nat):∀(n:Nat) (l:List AV) (i:Nat),i<n->(cj sz n l).getD i []=(l.drop (i*sz)).take sz
 | 0,_,i,h=>by omega
 | n+1,l,0,_=>by simp[cj]
 | n+1,l,i+1,h=>by
  have:=WP sz n (l.drop sz) i (by omega);simp only[cj,List.getD_cons_succ,this,List.drop_drop]
  congr 2
  rw[E8];omega
theorem gw{w':World}{I':Nat->Nat->Prop}{vs:Array Value}{cs:List AV}(hc:∀ j,j<cs.length->(vs.getD j undef).oneCell'=true/\RepV I' w' (vs.getD j undef) (cs.getD j .any))
  {g cap n sz:Nat} (hn:cs.length=n*sz) (hcap:n<=cap) (hmax:cap<=maxLen) (hI:∀ j,j<n*sz->I' g j) (hcell:∀ j,j<n*sz->w'.cell? ⟨g,j,none⟩=some (vs.getD j undef))
  {f:Nat->List AV} (hf:∀ i,i<n->f i=(cs.drop (i*sz)).take sz) :
  RepV I' w' (.slice (some ⟨g,0,none⟩) n cap) (.slice sz n f .none):=by
 have hpos:∀ i c,i<n->c<sz->i*sz+c<n*sz:=λi c hi hc=>by
  have:(i+1)*sz<=n*sz:=Em _ hi;rw[E8]at this;omega
 refine .slice _ n cap sz f _ hcap hmax (λ_=>⟨_,rfl,rfl,λj hj=>by simpa using hI j hj,λj hj=>by simpa using hcell j hj⟩) (by simp) (λj hj=>(hc j (by omega)).1) (λi hi=>?_) (λi c hi hc'=>?_)
 ·rw[hf i hi];have:(i+1)*sz<=n*sz:=Em _ hi;rw[E8]at this
  simp;omega
 ·grind
theorem Xq{α:Type}(d:α)(z:List α)(len j:Nat)(hj:j<len*z.length):((List.replicate len z).flatten).getD j d=z.getD (j % z.length) d:=by
 induction len generalizing j with
 | zero=>omega
 | succ n ih=>
  rw[List.replicate_succ,List.flatten_cons]
  by_cases h:j<z.length
  ·rw[List.getD,Zc h,Nat.mod_eq_of_lt h];rfl
  ·rw[List.getD,CM (by omega)];rw[E8]at hj;have:=ih (j-z.length) (by omega);rw[List.getD]at this;rw[this,<- Nat.mod_eq_sub_mod (by omega)]
theorem Yz{vz:Array Value}{z:List AV}(h:CellsOK I σ.own θ w vz z)(len sz:Nat)(hs:z.length=sz)(h1:1<=sz) :
  CellsOK I σ.own θ w ((Array.range (len*sz)).map (vz[· % vz.size]!)) ((List.replicate len z).flatten):=by
 have hzl:((List.replicate len z).flatten).length=len*sz:=by simp[hs]
 have hv:vz.size=sz:=by rw[h.size,hs]
 have hget:∀ j,j<len*sz->((Array.range _).map (vz[· % vz.size]!)).getD j undef=vz.getD (j % sz) undef:=λj hj=>by
  have hm:j % sz<vz.size:=by rw[hv];exact Nat.mod_lt _ (by omega)
  rw[hv];rw[Ss,Array.getElem?_map,Array.getElem?_range,if_pos hj];simp[ hm]
 refine⟨by simp[hs],λj hj=>?_,λj hj=>?_⟩<;>rw[hzl]at hj<;>rw[hget j hj]<;>have hm:j % sz<z.length:=by rw[hs];exact Nat.mod_lt _ (by omega)
 ·exact h.one _ hm
 ·rw[Xq _ _ _ _ (by rw[hs];exact hj),hs];exact h.rep _ hm
theorem Xn(place:Nat->Option (Nat×Nat)):∀(m:List (Nat×AV)) (cs cs':List AV),AX place cs m=some cs'->cs'.length=cs.length
 | [],cs,cs',h=>by simp only[AX,Aj]at h;rw[h]
 | (i,x)::m,cs,cs',h=>by
  simp only[AX]at h
  split at h
  ·rename_i off size xs _ _
   cases h1:(Nat.beq xs.length size&&Nat.ble (off+xs.length) cs.length) with
   | false=>simp[h1]at h
   | true=>
    simp only[h1]at h;rw[Xn _ m _ _ h];simp only[Be]at h1;have:=K1 h1.2
    simp;omega
  ·simp at h
theorem VN(h:Rel Γ σ I θ a w)(hd:∀ d,o.dst=some d->d<Γ.n){t:TypeId}{len:Nat}{parts:Array (Nat×Operand)}(ho:o.op = .buildSlice t len parts){is:List Nat}{vs:List AV}
  (hp:Uy I σ.own θ w (parts.toList.map λp=>(p.1,a.eval p.2)) (is.zip vs)) {e:Eff} (he:AP P t len is vs=some e):e.wo=[]/\Ee P Γ σ o a w e.v []:=by
 unfold AP at he
 split at he
 ·rename_i el hu
  split at he
  ·rename_i z hz
   cases hb:(B8 P el&&Nat.beq z.length (A6 P el)&&Nat.ble 1 (A6 P el)&&Nat.ble (len*A6 P el) 16777216) with
   | false=>simp[hb]at he
   | true=>
    simp only[hb,Ae]at he;simp only[Be]at hb;obtain⟨⟨⟨hT,hzl⟩,h1⟩,hmax⟩:=hb;have hzl:=Cq hzl;have h1:=K1 h1;have hmax:=K1 hmax
    split at he
    ·rename_i cs hfill
     simp only[Eff.pure,Aj]at he;subst he;obtain⟨i,v,hi,hv,hone,rfl⟩:=Pw hz;have hcells:=Yz (I9 (I:=I) (σ:=σ) (θ:=θ) (w:=w) hone) len (A6 P el) hzl h1;obtain⟨vs',hfi,hok⟩:=Xo _ hp hcells hfill;have hlen:=Xn _ _ _ _ hfill
     have hzl' :=by simpa using hzl
     have hcl:cs.length=len*A6 P el:=by rw[hlen];simp[hzl']
     have k:=FQ (own:=σ.own) h.chg.rel h.chg.valid vs' el
     have hlm:len<=maxLen:=by
      have:len*1<=len*A6 P el:=Nat.mul_le_mul_left _ h1;unfold maxLen;omega
     have hval:∀ j,j<cs.length->(vs'.getD j undef).oneCell'=true/\RepV _ _ (vs'.getD j undef) ((cs.getD j .any).strip):=λj hj=>
      ⟨hok.one j hj,((hok.rep j hj).chg k).strip⟩
     have hvs:vs'.size=len*A6 P el:=by rw[hok.size,hcl]
     have hrun:(execOp a.eval o).run P w = .ok (.value (.slice (some ⟨w.heap.size,0,none⟩) len len)) (w.alloc (.cells vs' el)):=by
      have e2:(parts.map λx=>(x.1,a.eval x.2)).toList=parts.toList.map λp=>(p.1,a.eval p.2):=by simp
      have hm2:¬ (len*A6 P el>2 ^ 24):=by omega
      by_cases h0:len*A6 P el=0
      ·have e3:(Array.range (len*A6 P el)).map (v.cells[· % v.cells.size]!)=(Array.range (len*A6 P el)).map ((#[]:Array Value)[· % (#[]:Array Value).size]!):=by
        rw[h0];simp
       rw[e3]at hfi;simp only[execOp,ho,Instr.buildSlice,Ed,Fh,Cl hu,B0 hT,if_neg hm2,if_pos h0,Hb,e2,hfi];simp[newRow]
      ·simp only[execOp,ho,Instr.buildSlice,Ed,Fh,Cl hu,B0 hT,if_neg hm2,if_neg h0,O1 hi hv,Hb,e2,hfi];simp[newRow]
     refine⟨rfl,Jq h hd hrun k ?_⟩;refine .exact _ _ _ _ (gw (vs:=vs') (cs:=AV.stripAll cs) (λj hj=>?_) (by rw[Bg];exact hcl) (zzL7 _) hlm (λj hj=>.inr ⟨rfl,by rw[hvs];exact hj⟩) (λj hj=>?_) (λi hi=>WP _ _ _ _ hi))
     ·rw[Bg]at hj;rw[E5];exact hval j hj
     ·simp_all
    ·simp at he
  ·simp at he
 ·simp at he
end
section
variable {P:Program} {Γ:Ix} {σ:Sto} {I:Nat->Nat->Prop} {θ:Nat->Option (Nat×Nat)} {a:Act} {w:World} {o:Oper}
theorem W0{ad:Option Addr}{n cap sz sz' l h m:Nat}{f:Nat->List AV}(hx:RepV I w (.slice ad n cap) (.slice sz n f .none))(hlh:l<=h)(hn:h<=n)(hm:m<=cap)(hhm:h<=m)(hsz:sz=sz'\/n=0) :
  RepV I w (.slice (if m=l then ad else ad.map (·.add (l*sz'))) (h-l) (m-l)) (.slice sz (h-l) (λi=>f (l+i)) .none):=by
 obtain⟨_,ad',cap',us,he,hcap,hmax,hz,hn',h1,hl,hr⟩:=hx.slice_inv;obtain⟨rfl,_,rfl⟩:=he
 have hpos:∀ j,j<(h-l)*sz->l*sz+j<n*sz:=λj hj=>by
  have:h*sz<=n*sz:=Em _ hn;rw[Nat.sub_mul]at hj;omega
 refine .slice _ _ _ sz _ _ (by omega) (by omega) (λhp=>?_) (λhnn=>?_) (λj hj=>h1 _ (hpos j hj)) (λi hi=>hl _ (by omega)) (λi c hi hc=>?_)
 ·obtain rfl:sz=sz':=by grind
  obtain⟨b,rfl,hs,hI,hc⟩:=hz (by omega);rw[if_neg (by omega)];refine⟨b.add _,rfl,?_,λj hj=>?_,λj hj=>?_⟩
  ·rw[Mf hs]
  ·rw[Mf hs];have:=hI _ (hpos j hj)
   simpa [Ut] using this
  ·rw[Mf hs];have:=hc _ (hpos j hj)
   simpa [Ut] using this
 ·by_cases hc:m=l
  ·omega
  ·simp_all
 ·grind
theorem Tu{t el:TypeId}{x:Operand}{lo hi mx:Option Operand}(ho:o.op = .slice t x lo hi mx)(hu:P.underlying t=some (.slice el))(hT:B8 P el=true){ad:Option Addr}{n cap l h m:Nat}
  (hx:a.eval x = .slice ad n cap) (hb:(Instr.sliceBounds true n cap (lo.map a.eval) (hi.map a.eval) (mx.map a.eval)).run P w = .ok (l,h,m) w) :
  (execOp a.eval o).run P w = .ok (.value (.slice (if m=l then ad else ad.map (·.add (l*A6 P el))) (h-l) (m-l))) w:=by
 simp only[execOp,ho,hx,Instr.sliceAt,Instr.slice,Ed,Cl hu,Fh,hb,B0 hT,Hb]
inductive RepL (I:Nat->Nat->Prop) (own:Nat->Option Own) (θ:Nat->Option (Nat×Nat)) (w:World):List Value->List AV->Prop
 | nil:RepL I own θ w [] []
 | cons {v:Value} {x:AV} {l:List Value} {m:List AV} (h:Rep I own θ w v x) (t:RepL I own θ w l m):RepL I own θ w (v::l) (x::m)
theorem RepL.one{v:Value}{vs:List AV}(h:RepL I σ.own θ w [v] vs):∃ x,vs=[x]/\Rep I σ.own θ w v x:=by
 cases h with|cons h t=>cases t;exact⟨_,rfl,h⟩
theorem RepL.two{v u:Value}{vs:List AV}(h:RepL I σ.own θ w [v,u] vs):∃ x y,vs=[x,y]/\Rep I σ.own θ w v x/\Rep I σ.own θ w u y:=by
 cases h with|cons h t=>obtain⟨y,rfl,hy⟩:=t.one;exact⟨_,_,rfl,h,hy⟩
theorem RepL.three{v u t:Value}{vs:List AV}(h:RepL I σ.own θ w [v,u,t] vs):∃ x y z,vs=[x,y,z]/\Rep I σ.own θ w v x/\Rep I σ.own θ w u y/\Rep I σ.own θ w t z:=by
 cases h with|cons h t=>obtain⟨y,z,rfl,hy,hz⟩:=t.two;exact⟨_,_,_,rfl,h,hy,hz⟩
theorem KV{sz s n:Nat}(h:(Nat.beq sz s || Nat.beq n 0)=true):sz=s\/n=0:=by
 simp_all
theorem bO(h:Rel Γ σ I θ a w)(hd:∀ d,o.dst=some d->d<Γ.n){t:TypeId}{x:Operand}{lo hi mx:Option Operand}(ho:o.op = .slice t x lo hi mx)(hu:P.underlying t=some .string){e:Eff}{vs:List AV}
  (hvs:RepL I σ.own θ w ([a.eval x]++(lo.map a.eval).toList++(hi.map a.eval).toList++(mx.map a.eval).toList) vs) (he:JL lo.isSome hi.isSome mx.isSome vs=some e) (hob:∀ p∈e.ob,p) :
  e.wo=[]/\Ee P Γ σ o a w e.v []:=by
 unfold JL at he;have key:∀(b:ByteArray) (l h':Nat),a.eval x = .string b->(Instr.sliceBounds false b.size b.size (lo.map a.eval) (hi.map a.eval) none).run P w = .ok (l,h',b.size) w->mx=none->
   Ee P Γ σ o a w (.str (((Ck b).drop l).take (h'-l))) []:=λb l h' hx hb hm=>by
  subst hm;refine Ax h hd (v:=.string (b.extract l h')) ?_ (by rw[<- PX];exact .val _ _ (.str _));simp[execOp,ho,hx,Instr.sliceAt,Instr.slice,Ed,Cl hu,Fh,hb,Hb]
 split at he
 ·rename_i s h1 h2 h3
  cases lo<;>simp at h1
  cases hi<;>simp at h2
  cases mx<;>simp at h3
  obtain⟨y,e1,hy⟩:=hvs.one
  obtain rfl:_=y:=by simpa using e1
  simp only[Eff.pure,Aj]at he;subst he;obtain⟨b,hex,rfl⟩:=hy.str_inv;have:=key b 0 b.size hex (by simp[Instr.sliceBounds]) rfl;rw[Js,CL,List.take_of_length_le (by rw[E4];exact zzL7 _)]at this;exact⟨rfl,this⟩
 ·rename_i s k l h1 h2 h3
  cases lo<;>simp at h1
  cases hi<;>simp at h2
  cases mx<;>simp at h3
  obtain⟨y,z,e1,hy,hz⟩:=hvs.two;simp only[Dq,Bz]at e1;obtain⟨rfl,rfl⟩:=e1;simp only[Eff.pure,Aj]at he;subst he;obtain⟨hb0,hb1⟩:=hob _ (zzL24.2 rfl);obtain⟨b,hex,rfl⟩:=hy.str_inv;rw[E4]at hb1;have hl:=hz.int_inv;have:=key b l.toNat b.size hex (by simp[Instr.sliceBounds,hl,Ok (P:=P) w k l b.size _ hb0 (by omega)]) rfl;rw[List.take_of_length_le (by rw[NM,E4];exact zzL7 _)]at this;exact⟨rfl,this⟩
 ·rename_i s k l h1 h2 h3
  cases lo<;>simp at h1
  cases hi<;>simp at h2
  cases mx<;>simp at h3
  obtain⟨y,z,e1,hy,hz⟩:=hvs.two;simp only[Dq,Bz]at e1;obtain⟨rfl,rfl⟩:=e1;simp only[Eff.pure,Aj]at he;subst he;obtain⟨hb0,hb1⟩:=hob _ (zzL24.2 rfl);obtain⟨b,hex,rfl⟩:=hy.str_inv;rw[E4]at hb1;have hl:=hz.int_inv;have:=key b 0 l.toNat hex (by simp[Instr.sliceBounds,hl,Ok (P:=P) w k l b.size _ hb0 (by omega)]) rfl;rw[Js,CL]at this;exact⟨rfl,this⟩
 ·rename_i s k l k' m h1 h2 h3
  cases lo<;>simp at h1
  cases hi<;>simp at h2
  cases mx<;>simp at h3
  obtain⟨y,z,u,e1,hy,hz,hu'⟩:=hvs.three;simp only[Dq,Bz]at e1;obtain⟨rfl,rfl,rfl⟩:=e1;simp only[Eff.pure,Aj]at he;subst he;obtain⟨hb0,hb2,hb1⟩:=hob _ (zzL24.2 rfl);obtain⟨b,hex,rfl⟩:=hy.str_inv;rw[E4]at hb1;have hl:=hz.int_inv;have hm:=hu'.int_inv;exact⟨rfl,key b l.toNat m.toNat hex (by simp[Instr.sliceBounds,hl,hm,Ok (P:=P) w k' m b.size _ (by omega) (by omega),Ok (P:=P) w k l m.toNat _ hb0 (by omega)]) rfl⟩
 ·simp at he
theorem pY(h:Rel Γ σ I θ a w)(hd:∀ d,o.dst=some d->d<Γ.n){t:TypeId}{x:Operand}{lo hi mx:Option Operand}(ho:o.op = .slice t x lo hi mx){e:Eff}{vs:List AV}
  (hvs:RepL I σ.own θ w ([a.eval x]++(lo.map a.eval).toList++(hi.map a.eval).toList++(mx.map a.eval).toList) vs) (he:fa P t lo.isSome hi.isSome mx.isSome vs=some e) (hob:∀ p∈e.ob,p) :
  e.wo=[]/\Ee P Γ σ o a w e.v []:=by
 unfold fa at he
 split at he
 ·rename_i el hu
  cases hT:B8 P el with
  | false=>simp[hT]at he
  | true=>
   simp only[hT,Ae]at he
   split at he
   ·rename_i sz n f tag h1 h2 h3
    cases lo<;>simp at h1
    cases hi<;>simp at h2
    cases mx<;>simp at h3
    obtain⟨y,e1,hy⟩:=hvs.one
    obtain rfl:_=y:=by simpa using e1
    cases hsz:(Nat.beq sz (A6 P el) || Nat.beq n 0) with
    | false=>simp[hsz]at he
    | true=>
     simp only[hsz,Ae,Eff.pure,Aj]at he;subst he;have hv:=hy.slice_val;obtain⟨_,ad,cap,us,hex,hcap,hmax,_⟩:=hv.slice_inv;rw[hex]at hv;have hr:=Tu (P:=P) (a:=a) (w:=w) (l:=0) (h:=n) (m:=cap) ho hu hT hex (by simp[Instr.sliceBounds]);have hc:=W0 hv (l:=0) (h:=n) (m:=cap) (sz':=A6 P el) (by omega) (by omega) (by omega) hcap (KV hsz);simp only[CL,Ha]at hc hr;exact⟨rfl,Ax h hd hr (.val _ _ hc)⟩
   ·rename_i sz n f tag k l h1 h2 h3
    cases lo<;>simp at h1
    cases hi<;>simp at h2
    cases mx<;>simp at h3
    obtain⟨y,z,e1,hy,hz⟩:=hvs.two;simp only[Dq,Bz]at e1;obtain⟨rfl,rfl⟩:=e1
    cases hsz:(Nat.beq sz (A6 P el) || Nat.beq n 0) with
    | false=>simp[hsz]at he
    | true=>
     simp only[hsz,Ae,Eff.pure,Aj]at he;subst he;obtain⟨hb0,hb1⟩:=hob _ (zzL24.2 rfl);have hv:=hy.slice_val;obtain⟨_,ad,cap,us,hex,hcap,hmax,_⟩:=hv.slice_inv;rw[hex]at hv;have hl:=hz.int_inv;have hr:=Tu (P:=P) (a:=a) (w:=w) (l:=l.toNat) (h:=n) (m:=cap) ho hu hT hex (by simp[Instr.sliceBounds,hl,Ok (P:=P) w k l n _ hb0 (by omega)]);have hc:=W0 hv (l:=l.toNat) (h:=n) (m:=cap) (sz':=A6 P el) (by omega) (by omega) (by omega) hcap (KV hsz);exact⟨rfl,Ax h hd hr (.val _ _ hc)⟩
   ·rename_i sz n f tag k l h1 h2 h3
    cases lo<;>simp at h1
    cases hi<;>simp at h2
    cases mx<;>simp at h3
    obtain⟨y,z,e1,hy,hz⟩:=hvs.two;simp only[Dq,Bz]at e1;obtain⟨rfl,rfl⟩:=e1
    cases hsz:(Nat.beq sz (A6 P el) || Nat.beq n 0) with
    | false=>simp[hsz]at he
    | true=>
     simp only[hsz,Ae,Eff.pure,Aj]at he;subst he;obtain⟨hb0,hb1⟩:=hob _ (zzL24.2 rfl);have hv:=hy.slice_val;obtain⟨_,ad,cap,us,hex,hcap,hmax,_⟩:=hv.slice_inv;rw[hex]at hv;have hl:=hz.int_inv;have hr:=Tu (P:=P) (a:=a) (w:=w) (l:=0) (h:=l.toNat) (m:=cap) ho hu hT hex (by simp[Instr.sliceBounds,hl,Ok (P:=P) w k l cap _ hb0 (by omega)]);have hc:=W0 hv (l:=0) (h:=l.toNat) (m:=cap) (sz':=A6 P el) (by omega) (by omega) (by omega) (by omega) (KV hsz);simp only[CL,Ha]at hc hr;exact⟨rfl,Ax h hd hr (.val _ _ hc)⟩
   ·rename_i sz n f tag k l k' m h1 h2 h3
    cases lo<;>simp at h1
    cases hi<;>simp at h2
    cases mx<;>simp at h3
    obtain⟨y,z,u,e1,hy,hz,hu'⟩:=hvs.three;simp only[Dq,Bz]at e1;obtain⟨rfl,rfl,rfl⟩:=e1
    cases hsz:(Nat.beq sz (A6 P el) || Nat.beq n 0) with
    | false=>simp[hsz]at he
    | true=>
     simp only[hsz,Ae,Eff.pure,Aj]at he;subst he;obtain⟨hb0,rfl,hb1⟩:=hob _ (zzL24.2 rfl);have hv:=hy.slice_val;obtain⟨_,ad,cap,us,hex,hcap,hmax,_⟩:=hv.slice_inv;rw[hex]at hv;have hl:=hz.int_inv;have hm:=hu'.int_inv;have hr:=Tu (P:=P) (a:=a) (w:=w) (l:=0) (h:=l.toNat) (m:=l.toNat) ho hu hT hex (by simp[Instr.sliceBounds,hl,hm,Ok (P:=P) w k' l cap _ hb0 (by omega),Ok (P:=P) w k l l.toNat _ hb0 (by omega)]);have hc:=W0 hv (l:=0) (h:=l.toNat) (m:=l.toNat) (sz':=A6 P el) (by omega) (by omega) (by omega) (by omega) (KV hsz);simp only[CL,Ha]at hc hr;exact⟨rfl,Ax h hd hr (.exact _ _ _ _ hc)⟩
   ·rename_i sz n f tag k l k' m k'' q h1 h2 h3
    cases lo<;>simp at h1
    cases hi<;>simp at h2
    cases mx<;>simp at h3
    cases hvs with|cons hy hvs'=>
    obtain⟨z,u,v,e1,hz,hu',hq⟩:=hvs'.three;simp only[Dq,Bz]at e1;obtain⟨rfl,rfl,rfl⟩:=e1
    cases hsz:(Nat.beq sz (A6 P el) || Nat.beq n 0) with
    | false=>simp[hsz]at he
    | true=>
     simp only[hsz,Ae,Eff.pure,Aj]at he;subst he;obtain⟨hb0,hb2,rfl,hb1⟩:=hob _ (zzL24.2 rfl);have hv:=hy.slice_val;obtain⟨_,ad,cap,us,hex,hcap,hmax,_⟩:=hv.slice_inv;rw[hex]at hv;have hl:=hz.int_inv;have hh:=hu'.int_inv;have hm:=hq.int_inv;have hr:=Tu (P:=P) (a:=a) (w:=w) (l:=l.toNat) (h:=m.toNat) (m:=m.toNat) ho hu hT hex (by simp[Instr.sliceBounds,hl,hh,hm,Ok (P:=P) w k'' m cap _ (by omega) (by omega),Ok (P:=P) w k' m m.toNat _ (by omega) (by omega),Ok (P:=P) w k l m.toNat _ (by omega) (by omega)]);have hc:=W0 hv (l:=l.toNat) (h:=m.toNat) (m:=m.toNat) (sz':=A6 P el) (by omega) (by omega) (by omega) (by omega) (KV hsz);exact⟨rfl,Ax h hd hr (.exact _ _ _ _ hc)⟩
   ·rename_i sz n f tag k l k' m h1 h2 h3
    cases lo<;>simp at h1
    cases hi<;>simp at h2
    cases mx<;>simp at h3
    obtain⟨y,z,u,e1,hy,hz,hu'⟩:=hvs.three;simp only[Dq,Bz]at e1;obtain⟨rfl,rfl,rfl⟩:=e1
    cases hsz:(Nat.beq sz (A6 P el) || Nat.beq n 0) with
    | false=>simp[hsz]at he
    | true=>
     simp only[hsz,Ae,Eff.pure,Aj]at he;subst he;obtain⟨hb0,hb2,hb1⟩:=hob _ (zzL24.2 rfl);have hv:=hy.slice_val;obtain⟨_,ad,cap,us,hex,hcap,hmax,_⟩:=hv.slice_inv;rw[hex]at hv;have hl:=hz.int_inv;have hm:=hu'.int_inv;have hr:=Tu (P:=P) (a:=a) (w:=w) (l:=l.toNat) (h:=m.toNat) (m:=cap) ho hu hT hex (by simp[Instr.sliceBounds,hl,hm,Ok (P:=P) w k' m cap _ (by omega) (by omega),Ok (P:=P) w k l m.toNat _ hb0 (by omega)]);have hc:=W0 hv (l:=l.toNat) (h:=m.toNat) (m:=cap) (sz':=A6 P el) (by omega) (by omega) (by omega) (by omega) (KV hsz);exact⟨rfl,Ax h hd hr (.val _ _ hc)⟩
   ·simp at he
 ·rename_i hu
  exact bO h hd ho hu hvs he hob
 ·simp at he
end
section
variable {P:Program} {Γ:Ix} {σ:Sto} {I:Nat->Nat->Prop} {θ:Nat->Option (Nat×Nat)} {a:Act} {w:World} {o:Oper}
theorem OQ{own:Nat->Option Own}(hrel:K3 I own θ w){nm s m':Nat}{e:TypeId}{t':Option (Nat×Nat)}{I':Nat->Nat->Prop}{w':World}
  (hI:∀ b o,I b o->I' b o) (hcell:∀ b o,I b o->w'.cell? ⟨b,o,none⟩=w.cell? ⟨b,o,none⟩)
  (hle:own nm=none\/∃ m,own nm=some (.tok s e m)/\m<=m'/\(m=m'->t'=θ nm))
  (hblk:∀ b,b<w.heap.size->(∀ c,own nm≠none->θ nm≠some (b,c))->w'.heap[b]?=w.heap[b]?)
  (hnew:∀ b o,I' b o->I b o\/∃ c,t'=some (b,c)) (hval:∀ b o,I' b o->∃ u,w'.cell? ⟨b,o,none⟩=some u)
  (hos:w'.os=w.os) (htape:w'.tape=w.tape) (hout:w'.output=w.output) (hgrow:w.heap.size<=w'.heap.size)
  (htok:∀ g c,t'=some (g,c)->∃ cur fz,w'.heap[g]?=some (.cells cur e (0,fz))/\m'<=c/\c<=maxLen/\cur.size=c*s/\fz<=m'*s/\∀ j,I' g j->j<m'*s)
  (hloc:∀ g c,t'=some (g,c)->w.heap.size<=g\/(own nm≠none/\∃ c',θ nm=some (g,c'))) (h8:t'=none->e=ES->m'=0) (hdrw:w.drawn<=w'.drawn:=by first|exact zzL7 _|exact Nat.le_succ _) :
  Chg own θ I w (A0 own nm (.tok s e m')) (thUp θ nm t') I' w':=by
 have hle':∀ nm' o,own nm'=some o->∃ o',A0 own nm (.tok s e m') nm'=some o'/\OwnLe o (θ nm') o' (thUp θ nm t' nm'):=λnm' o ho=>by
  by_cases hne:nm'=nm
  ·subst hne;rcases hle with h|⟨m,h,h1,h2⟩
   ·rw[h]at ho;cases ho
   ·rw[h]at ho;obtain rfl:=OI ho;exact⟨.tok s e m',by simp[A0],rfl,rfl,h1,λhe=>by simpa [thUp] using h2 he⟩
  ·exact⟨o,by simp[A0,hne,ho],by simp[thUp,hne,OwnLe.refl]⟩
 have hmono:∀ v x,Rep I own θ w v x->Rep I' (A0 own nm (.tok s e m')) (thUp θ nm t') w' v x:=λv x h=>h.mono hI hcell hle';have hother:∀ nm' g c,nm'≠nm->own nm'≠none->θ nm'=some (g,c)->∀ c',own nm≠none->θ nm≠some (g,c'):=λnm' g c hne ho hg c' ho' hg'=>hne (hrel.inj nm' nm g c c' ho ho' hg hg');refine{ imm:=hI,cell:=hcell,le:=hle',rel:=?_,valid:=hval,os:=hos,tape:=htape,output:=hout,drawn:=λ_=>hdrw,grow:=hgrow,frame:=λb hb hn=>hblk b hb (λc ho hg=>hn nm c ho hg),new:=λnm' g c ho hg=>?_,immNew:=λb o h=>?_ }
 ·refine Md hrel (·=nm) hmono (λnm' hne=>⟨by simp[A0,hne],by simp[thUp,hne]⟩) (λnm' g c hne ho hg=>⟨hblk g (Ls hrel ho hg) (hother nm' g c hne ho hg),λj hj=>?_⟩) ?_ ?_ ?_ (λ_ _ h h'=>h.trans h'.symm) (htok8:=by
   rintro nm' sz' m rfl ho hn;simp only[A0,Lz,Aj,Own.tok.injEq]at ho;obtain⟨rfl,rfl,rfl⟩:=ho
   exact h8 (by simpa [thUp] using hn) rfl)
  ·rcases hnew g j hj with h|⟨c',hc'⟩
   ·exact h
   ·rcases hloc g c' hc' with h|⟨h1,c'',h2⟩
    ·have:=Ls hrel ho hg;omega
    ·grind
  ·rintro nm' e' cells rfl ho;simp[A0]at ho
  ·rintro nm' sz' e' m rfl ho g c hg;simp only[A0,Lz,Aj,Own.tok.injEq]at ho;obtain⟨rfl,rfl,rfl⟩:=ho;exact htok g c (by simpa [thUp] using hg)
  ·rintro nm' nm'' g c c' rfl hne _ ho' hg hg';rcases hloc g c (by simpa [thUp] using hg) with h|⟨h1,c'',h2⟩
   ·have:=Ls hrel ho' hg';omega
   ·exact hother nm'' g c' hne ho' hg' c'' h1 h2
 ·by_cases hne:nm'=nm
  ·subst hne;rcases hloc g c (by simpa [thUp] using hg) with h|⟨h1,c',h2⟩
   ·exact .inl h
   ·exact .inr ⟨nm',c',h1,h2⟩
  ·exact .inr ⟨nm',c,by simpa [A0,hne] using ho,by simpa [thUp,hne] using hg⟩
 ·grind
theorem P7{n i:Nat}(f g:Nat->List AV)(h:i<n):Ov n f g i=f i:=by
 have:Nat.blt i n=true:=by simp_all
 simp[Ov,this]
theorem U0{n i:Nat}(f g:Nat->List AV)(h:n<=i):Ov n f g i=g (i-n):=by
 have:Nat.blt i n=false:=by cases hb:Nat.blt i n with|false=>rfl|true=>rw[K2]at hb;omega
 simp[Ov,this]
theorem FO{v:Value}{sz n:Nat}{f:Nat->List AV}(h:RepV I w v (.slice sz n f .none)):∃(ad:Option Addr) (cap:Nat) (cs:List Value),v = .slice ad n cap/\n<=cap/\cap<=maxLen/\(ad=none->cap=0)/\cs.length=n*sz /\
  (∀ u∈cs,u.oneCell'=true)/\(∀ i,i<n->(f i).length=sz)/\(∀ i c,i<n->c<sz->RepV I w (cs.getD (i*sz+c) undef) ((f i).getD c .any)) /\
  (0<n->∃ b,ad=some b/\b.spot=none/\(∀ j,j<n*sz->I b.block (b.off+j))/\(∀ j u,cs[j]?=some u->w.cell? (b.add j)=some u)):=by
 obtain⟨_,ad,cap,us,rfl,hcap,hmax,hz,hn,h1,hl,hr⟩:=h.slice_inv;refine⟨ad,cap,(List.range (n*sz)).map us,rfl,hcap,hmax,hn,by simp,λu hu=>?_,hl,λi c hi hc=>?_,λhp=>?_⟩
 ·grind
 ·have:(i+1)*sz<=n*sz:=Em _ hi;rw[E8]at this;rw[DE _ _ _ (by omega)];exact hr i c hi hc
 ·obtain⟨b,rfl,hs,hI,hc⟩:=hz hp;refine⟨b,rfl,hs,hI,λj u hu=>?_⟩;rw[TD]at hu
  by_cases hj:j<n*sz
  ·rw[List.getElem?_range hj]at hu;simp only[LL,Aj]at hu;subst hu;rw[Mf hs];exact hc j hj
  ·grind
theorem eA{s n n':Nat}{f f':Nat->List AV}{cs cs':List Value}{I':Nat->Nat->Prop}{w':World}(hmono:∀ v x,RepV I w v x->RepV I' w' v x)
  (hl:cs.length=n*s) (hl':cs'.length=n'*s) (h1:∀ u∈cs,u.oneCell'=true) (h1':∀ u∈cs',u.oneCell'=true) (hf:∀ i,i<n->(f i).length=s) (hf':∀ i,i<n'->(f' i).length=s)
  (hr:∀ i c,i<n->c<s->RepV I w (cs.getD (i*s+c) undef) ((f i).getD c .any)) (hr':∀ i c,i<n'->c<s->RepV I w (cs'.getD (i*s+c) undef) ((f' i).getD c .any))
  {g cap:Nat} (hcap:n+n'<=cap) (hmax:cap<=maxLen) (hI:∀ j,j<(n+n')*s->I' g j) (hcell:∀ j,j<(n+n')*s->w'.cell? ⟨g,j,none⟩=some ((cs++cs').getD j undef)) :
  RepV I' w' (.slice (some ⟨g,0,none⟩) (n+n') cap) (.slice s (n+n') (Ov n f f') .none):=by
 refine .slice _ _ _ s _ (λj=>(cs++cs').getD j undef) hcap hmax (λ_=>⟨_,rfl,rfl,λj hj=>by simpa using hI j hj,λj hj=>by simpa using hcell j hj⟩) (by simp) (λj hj=>?_) (λi hi=>?_) (λi c hi hc=>?_)
 ·grind
 ·by_cases hlt:i<n
  ·rw[P7 _ _ hlt];exact hf i hlt
  ·rw[U0 _ _ (by omega)];exact hf' _ (by omega)
 ·apply hmono
  by_cases hlt:i<n
  ·rw[P7 _ _ hlt];have:(i+1)*s<=n*s:=Em _ hlt
   have e:(cs++cs').getD (i*s+c) undef=cs.getD (i*s+c) undef:=by
    grind
   rw[e];exact hr i c hlt hc
  ·rw[U0 _ _ (by omega)];have h2:n*s<=i*s:=Em _ (by omega)
   have e:(cs++cs').getD (i*s+c) undef=cs'.getD ((i-n)*s+c) undef:=by
    rw[List.getD,CM (by omega),hl]
    have:i*s+c-n*s=(i-n)*s+c:=by rw[Nat.sub_mul];omega
    rw[this];rfl
   rw[e];exact hr' _ c (by omega) hc
theorem BS{v:Value}{sz s n:Nat}{f:Nat->List AV}(h:RepV I w v (.slice sz n f .none))(hs:sz=s\/n=0):RepV I w v (.slice s n f .none):=by
 rcases hs with rfl|rfl
 ·exact h
 ·obtain⟨_,ad,cap,us,rfl,hcap,hmax,hz,hn,h1,hl,hr⟩:=h.slice_inv;exact .slice ad 0 cap s f us hcap hmax (λh=>by omega) hn (λj hj=>by omega) (λi hi=>by omega) (λi c hi=>by omega)
def ZA(P:Program)(ts:Array TypeId)(ty e:TypeId)(i:TypeInfo)(z:Value)(w:World)(ad:Option Addr)(n cap:Nat)(x:Value)(n':Nat)(cs cs':List Value):Prop:=
 (n'=0->(Builtin.append_ ts ty #[.slice ad n cap,x]).run P w = .ok (.slice ad n cap) w) /\
 (0<n'->n+n'<=cap->∀ g cur fz,ad=some ⟨g,0,none⟩->w.heap[g]?=some (.cells cur e (0,fz))->fz<=n*i.size->n*i.size+cs'.length<=cur.size->
  (Builtin.append_ ts ty #[.slice ad n cap,x]).run P w = .ok (.slice ad (n+n') cap) (w.setRow g (cur.toList.take (n*i.size)++cs'++cur.toList.drop (n*i.size+cs'.length)).toArray)) /\
 (0<n'->cap<n+n'->∃(zs:Array Value) (nc:Nat),n+n'<=nc/\nc<=maxLen/\zs.size=(nc-(n+n'))*z.cells.size /\
  (Builtin.append_ ts ty #[.slice ad n cap,x]).run P w = .ok (.slice (some ⟨w.heap.size,0,none⟩) (n+n') nc) (w.drew.alloc (.cells (cs.toArray++cs'.toArray++zs) e)))
theorem BW{t e:TypeId}{i:TypeInfo}{z:Value}(ty:TypeId)(ht:P.underlying t=some (.slice e))(hi:P.info? e=some i)(hz:i.zero=some z){ad bd:Option Addr}{n cap n' cap':Nat}{cs cs':List Value}
  (hl:cs.length=n*i.size) (hl':cs'.length=n'*i.size) (hcap:n<=cap) (hnn:ad=none->cap=0) (h1':∀ u∈cs',u.oneCell'=true)
  (hc:0<n->∃ b,ad=some b/\∀ j u,cs[j]?=some u->w.cell? (b.add j)=some u) (hc':0<n'->∃ b,bd=some b/\∀ j u,cs'[j]?=some u->w.cell? (b.add j)=some u)
  (hroom:(n+n')<=room) (hby:i.bytes<=128):ZA P #[t,t] ty e i z w ad n cap (.slice bd n' cap') n' cs cs':=by
 unfold room at hroom;refine⟨λh0=>?_,λhp hr g cur fz had hh hfz hfit=>?_,λhp hg=>?_⟩
 ·subst h0
  cases bd<;>cases ad<;>simp[Builtin.append_,Cl ht,sizeOf,typeInfo,hi,Builtin.lenOf,hcap,Builtin.firstCells,loadCells,loadCellsFrom,storeCells]
 ·obtain⟨b,rfl,hcb⟩:=hc' hp;subst had;have hf:=run_firstCells_some (P:=P) w i.size n' b n' cap' cs' hl' hcb;have hst:=run_storeCells_atF P g (n*i.size) e (0,fz) cs' 0 cur w hh (by simpa using hfz) (by simpa using hfit) h1';simp only[Sv]at hst;simp[Builtin.append_,Cl ht,sizeOf,typeInfo,hi,Builtin.lenOf,hr,hf,O3,hst]
 ·obtain⟨b,rfl,hcb⟩:=hc' hp
  have hby':(n+n')*i.bytes<=140737488355328:=by
   have:(n+n')*i.bytes<=1099511627776*128:=Nat.mul_le_mul hroom hby
   omega
  have hm:n+n'<=maxLen:=by unfold maxLen;omega
  refine⟨Builtin.zeroCells z.cells (grownCap w (n+n') cap e-(n+n')),grownCap w (n+n') cap e,grownCap_ge w _ _ e,grownCap_le_maxLen w _ _ e hm,size_zeroCells _ _,?_⟩
  cases ad with
  | none=>
   have h0:=hnn rfl;subst h0
   have hn0:n=0:=by omega
   subst hn0;have hcs:cs=[]:=YO (by simpa using hl);subst hcs;have:=run_append_nil (P:=P) w t ty e i z ht hi hz b n' cap' cs' hl' hcb hp (by omega) (by have:=hby';simp only[Ha]at this;omega)
   simpa using this
  | some ad=>
   have hco:∀ j u,cs[j]?=some u->w.cell? (ad.add j)=some u:=by
    grind
   exact run_append_grow (P:=P) w t ty e i z ht hi hz ad n cap cs hl hco b n' cap' cs' hl' hcb hg (by omega) (growslice_fits hg hby')
theorem AA{t u e:TypeId}{i:TypeInfo}(ty:TypeId)(ht:P.underlying t=some (.slice e))(hu:P.underlying u=some .string)(hi:P.info? e=some i)(hz:i.zero=some (.int .u8 0))(hs1:i.size=1){ad:Option Addr}{n cap:Nat}{cs:List Value}(s:ByteArray)
  (hl:cs.length=n*i.size) (hcap:n<=cap) (hnn:ad=none->cap=0)
  (hc:0<n->∃ b,ad=some b/\∀ j u,cs[j]?=some u->w.cell? (b.add j)=some u)
  (hroom:(n+s.size)<=room) (hby:i.bytes<=128):ZA P #[t,u] ty e i (.int .u8 0) w ad n cap (.string s) s.size cs (Lib.strCells s):=by
 unfold room at hroom;refine⟨λh0=>?_,λhp hr g cur fz had hh hfz hfit=>?_,λhp hg=>?_⟩
 ·have hs:s=⟨#[]⟩:=by
   apply ByteArray.ext
   exact Array.eq_empty_of_size_eq_zero h0
  subst hs;have e0:(⟨#[]⟩:ByteArray).size=0:=rfl
  cases ad<;>simp[Builtin.append_,Cl ht,Cl hu,sizeOf,typeInfo,hi,Builtin.lenOf,hcap,Builtin.firstCells,storeCells,e0]
 ·subst had;rw[hs1,Ys]at hfz ⊢;rw[hs1,Ys,Lib.strCells_length]at hfit;rw[Lib.strCells_length];exact Lib.run_append_room_stringF (P:=P) w t u ty e i ht hu hi hs1 g n cap cur (0,fz) hh hfz s hr hfit
 ·have hby':(n+s.size)*i.bytes<=140737488355328:=by
   have:(n+s.size)*i.bytes<=1099511627776*128:=Nat.mul_le_mul hroom hby
   omega
  have hm:n+s.size<=maxLen:=by unfold maxLen;omega
  refine⟨Builtin.zeroCells (Value.int IntKind.u8 0).cells (grownCap w (n+s.size) cap e-(n+s.size)),grownCap w (n+s.size) cap e,grownCap_ge w _ _ e,grownCap_le_maxLen w _ _ e hm,size_zeroCells _ _,?_⟩
  have ec:(Lib.strCells s).toArray=s.data.map (λb=>Value.int .u8 b.toNat):=by
   apply Th
   simp[Lib.strCells]
  cases ad with
  | none=>
   have h0:=hnn rfl;subst h0
   have hn0:n=0:=by omega
   subst hn0;have hcs:cs=[]:=YO (by simpa using hl);subst hcs;have:=run_append_nil_string (P:=P) w t u ty e i (.int .u8 0) ht hu hi hz s hp (by omega) (by have:=hby';simp only[Ha]at this;omega);rw[ec]
   simpa using this
  | some ad=>
   have hco:∀ j u,cs[j]?=some u->w.cell? (ad.add j)=some u:=by
    grind
   have:=Lib.run_append_grow_string (P:=P) w t u ty e i (.int .u8 0) ht hu hi hz ad n cap cs hl hco s hg (by omega) (growslice_fits hg hby');exact this
end
section
variable {P:Program} {Γ:Ix} {σ:Sto} {I:Nat->Nat->Prop} {θ:Nat->Option (Nat×Nat)} {a:Act} {w:World} {o:Oper}
theorem U8(l:List Value)(j:Nat):(l.toArray).getD j undef=l.getD j undef:=by simp_all
theorem Rep.own_inv{own:Nat->Option Own}{v:Value}{sz n nm s0:Nat}{e0:TypeId}{f:Nat->List AV}(h:Rep I own θ w v (.slice sz n f (.own nm)))(ho:own nm=some (.tok s0 e0 n)) :
  ∃ ad cap,v = .slice ad n cap/\(match θ nm with|none=>cap=n|some (g,c)=>ad=some ⟨g,0,none⟩/\cap=c):=by
 cases h with
 | val v x h =>  cases h
 | own nm sz e m' ad n cap f ho' hm hv' h'=>
  grind
theorem Rep.exact_inv{own:Nat->Option Own}{v:Value}{sz n:Nat}{f:Nat->List AV}(h:Rep I own θ w v (.slice sz n f .exact)):∃ ad,v = .slice ad n n:=by
 cases h with
 | val v x h =>  cases h
 | exact ad n sz f h=>exact⟨ad,rfl⟩
theorem U1(h:Rel Γ σ I θ a w){t e:TypeId}{i:TypeInfo}{z:Value}(ty:TypeId)(ht:P.underlying t=some (.slice e))(hi:P.info? e=some i)(hz:i.zero=some z)(hzs:z.cells.size=i.size)(hby:i.bytes<=128)
  {ts:Array TypeId} {n n':Nat} {f f':Nat->List AV} {vs vx:Value} (hvs:RepV I w vs (.slice i.size n f .none)) {cs':List Value} (hl':cs'.length=n'*i.size) (h1':∀ u∈cs',u.oneCell'=true)
  (hf':∀ k,k<n'->(f' k).length=i.size) (hr':∀ k c,k<n'->c<i.size->RepV I w (cs'.getD (k*i.size+c) undef) ((f' k).getD c .any)) (hroom:n+n'<=room)
  (hrun:∀(ad:Option Addr) (cap:Nat) (cs:List Value),cs.length=n*i.size->n<=cap->(ad=none->cap=0)->(0<n->∃ b,ad=some b/\∀ j u,cs[j]?=some u->w.cell? (b.add j)=some u)->ZA P ts ty e i z w ad n cap vx n' cs cs') (nm:Nat) (h8:σ.own nm=none->e=ES->n=0\/0<n')
  (hcase:(σ.own nm=none/\∃ ad,vs = .slice ad n n) \/
   (σ.own nm=some (.tok i.size e n)/\∃ ad cap,vs = .slice ad n cap/\(match θ nm with|none=>cap=n|some (g,c)=>ad=some ⟨g,0,none⟩/\cap=c))) :
  ∃ v w' I' θ',(Builtin.append_ ts ty #[vs,vx]).run P w = .ok v w'/\Chg σ.own θ I w (A0 σ.own nm (.tok i.size e (n+n'))) θ' I' w' /\
   Rep I' (A0 σ.own nm (.tok i.size e (n+n'))) θ' w' v (.slice i.size (n+n') (Ov n f f') (.own nm)):=by
 obtain⟨ad,cap,cs,rfl,hcap,hmax,hnn,hl,h1,hf,hr,hc⟩:=FO hvs;have hrun:=hrun ad cap cs hl hcap hnn (λhp=>by obtain⟨b,h1,_,_,h4⟩:=hc hp;exact⟨b,h1,h4⟩);obtain⟨r0,r1,r2⟩:=hrun;have hrel:=h.chg.rel;have hval:=h.chg.valid
 have hmaxr:n+n'<=maxLen:=by unfold room at hroom;unfold maxLen;omega
 by_cases hz':n'=0
 ·subst hz';rcases hcase with⟨hno,ad',hv⟩|⟨hown,ad',cap1,hv,hθ⟩
  ·simp only[TC,true_and]at hv;obtain⟨rfl,hcn⟩:=hv;subst hcn;refine⟨_,w,I,thUp θ nm none,r0 rfl,OQ hrel (λ_ _ h=>h) (λ_ _ _=>rfl) (.inl hno) (λ_ _ _=>rfl) (λ_ _ h=>.inl h) hval rfl rfl rfl (zzL7 _) (by simp) (by simp) (λ_ he=>by rcases h8 hno he with h|h<;>omega),?_⟩;refine .own nm _ e (cap+0) ad cap cap _ (by simp[A0]) (zzL7 _) (λ_=>by simp[thUp]) ?_;refine .slice ad cap cap _ _ (λj=>cs.getD j undef) hcap hmax (λhp=>?_) hnn (λj hj=>?_) (λi hi=>by rw[P7 _ _ hi];exact hf i hi) (λi c hi hc''=>by rw[P7 _ _ hi];exact hr i c hi hc'')
   ·obtain⟨b,h1,h2,h3,h4⟩:=hc hp;refine⟨b,h1,h2,h3,λj hj=>?_⟩;have:=h4 j _ (DB undef (by omega));rwa[Mf h2]at this
   ·exact h1 _ (by rw[List.getD,Tf (by omega)];exact LI _)
  ·simp only[TC,true_and]at hv;obtain⟨rfl,rfl⟩:=hv
   have hown':A0 σ.own nm (.tok i.size e (n+0))=σ.own:=by
    funext k
    by_cases hk:k=nm
    ·subst hk;simp[A0,hown]
    ·simp[A0,hk]
   rw[hown'];refine⟨_,w,I,θ,r0 rfl,.refl hrel hval,.own nm _ e n ad n cap _ hown (zzL7 _) (λ_=>hθ) ?_⟩;refine .slice ad n cap _ _ (λj=>cs.getD j undef) hcap hmax (λhp=>?_) hnn (λj hj=>?_) (λi hi=>by rw[P7 _ _ hi];exact hf i hi) (λi c hi hc''=>by rw[P7 _ _ hi];exact hr i c hi hc'')
   ·obtain⟨b,h1,h2,h3,h4⟩:=hc hp;refine⟨b,h1,h2,h3,λj hj=>?_⟩;have:=h4 j _ (DB undef (by omega));rwa[Mf h2]at this
   ·exact h1 _ (by rw[List.getD,Tf (by omega)];exact LI _)
 ·have hp:0<n':=Nat.pos_of_ne_zero hz'
  have hlen:(cs++cs').length=(n+n')*i.size:=by rw[Gk,hl,hl',E8]
  by_cases hg:cap<n+n'
  ·obtain⟨zs,nc,hnc,hnc',hzsz,hrun⟩:=r2 hp hg;have hheap:(w.drew.alloc (.cells (cs.toArray++cs'.toArray++zs) e)).heap[w.heap.size]?=some (.cells (cs.toArray++cs'.toArray++zs) e (0,0)):=EV w.drew _
   have hcellI:∀ b o,I b o->(w.drew.alloc (.cells (cs.toArray++cs'.toArray++zs) e)).cell? ⟨b,o,none⟩=w.cell? ⟨b,o,none⟩:=λb o hi=>by
    obtain⟨u,hu⟩:=hval b o hi;exact L4 (w:=w.drew) _ (by simpa using hu)
   have hcellN:∀ j,j<(n+n')*i.size->(w.drew.alloc (.cells (cs.toArray++cs'.toArray++zs) e)).cell? ⟨w.heap.size,j,none⟩=some ((cs++cs').getD j undef):=λj hj=>by
    rw[Py _ _ _ _ e (0,0) hheap];rw[Array.getElem?_append_left (by simp at hlen ⊢;omega)]
    have:cs.toArray++cs'.toArray=(cs++cs').toArray:=by simp
    rw[this]
    simpa using DB undef (by omega:j<(cs++cs').length)
   have hmono:∀ v x,RepV I w v x->RepV (WY I w.heap.size ((n+n')*i.size)) (w.drew.alloc (.cells (cs.toArray++cs'.toArray++zs) e)) v x:=λv x h=>h.mono (λ_ _ h=>.inl h) hcellI
   have hnI:∀ j,¬ I w.heap.size j:=λj hj=>by obtain⟨u,hu⟩:=hval _ _ hj;exact FA _ (R6 hu)
   refine⟨_,_,WY I w.heap.size ((n+n')*i.size),thUp θ nm (some (w.heap.size,nc)),hrun,OQ hrel (λ_ _ h=>.inl h) hcellI ?_ (λb hb _=>NZ w.drew _ hb) (λb o h=>?_) (λb o h=>?_) rfl rfl rfl (by simp) (λg c hgc=>?_) (λg c hgc=>?_) (by simp),?_⟩
   ·rcases hcase with⟨hno,_⟩|⟨hown,_⟩
    ·exact .inl hno
    ·exact .inr ⟨n,hown,by omega,λhe=>by omega⟩
   ·rcases h with h|⟨rfl,_⟩
    ·exact .inl h
    ·exact .inr ⟨nc,rfl⟩
   ·rcases h with h|⟨rfl,hlt⟩
    ·obtain⟨u,hu⟩:=hval b o h;exact⟨u,(hcellI b o h).trans hu⟩
    ·exact⟨_,hcellN o hlt⟩
   ·simp only[Aj,Ms]at hgc;obtain⟨rfl,rfl⟩:=hgc;refine⟨_,0,hheap,hnc,hnc',?_,Rh _,λj hj=>?_⟩
    ·simp only[Array.size_append,be,hl,hl',hzsz,hzs,<- E8]
     congr 1
     omega
    ·rcases hj with hj|⟨_,hj⟩
     ·exact(hnI j hj).elim
     ·exact hj
   ·simp only[Aj,Ms]at hgc;exact .inl (by omega)
   ·exact .own nm _ e (n+n') _ _ nc _ (by simp[A0]) (zzL7 _) (λ_=>by simp[thUp])
     (eA hmono hl hl' h1 h1' hf hf' hr hr' hnc hnc' (λj hj=>.inr ⟨rfl,hj⟩) hcellN)
  ·have hroom':n+n'<=cap:=by omega
   rcases hcase with⟨hno,ad',hv⟩|⟨hown,ad',cap1,hv,hθ⟩
   ·simp only[TC,true_and]at hv;omega
   ·simp only[TC,true_and]at hv;obtain⟨rfl,rfl⟩:=hv
    cases hθ':θ nm with
    | none=>rw[hθ']at hθ;simp only at hθ;omega
    | some gc=>
     obtain⟨g,c⟩:=gc;rw[hθ']at hθ;simp only at hθ;obtain⟨rfl,rfl⟩:=hθ;obtain⟨cur,fz,hh,hnc,hcm,hcs,hfz,hIg⟩:=hrel.tok nm _ e n hown g cap hθ'
     have hfit:n*i.size+cs'.length<=cur.size:=by rw[hl',hcs,<- E8];exact Em _ hroom'
     have hrun:=r1 hp hroom' g cur fz rfl hh hfz hfit;have hother:∀ b,b≠g->(w.setRow g (cur.toList.take (n*i.size)++cs'++cur.toList.drop (n*i.size+cs'.length)).toArray).heap[b]?=w.heap[b]?:=λb hb=>LO w g b _ hb;have hnew:=LP w g cur (cur.toList.take (n*i.size)++cs'++cur.toList.drop (n*i.size+cs'.length)).toArray e _ hh
     have hget:∀ j,(cur.toList.take (n*i.size)++cs'++cur.toList.drop (n*i.size+cs'.length)).getD j undef=if n*i.size<=j/\j<n*i.size+cs'.length then cs'.getD (j-n*i.size) undef else cur.toList.getD j undef:=λj=>
      Jg undef _ _ _ _ (by simpa using hfit)
     have hsize:(cur.toList.take (n*i.size)++cs'++cur.toList.drop (n*i.size+cs'.length)).length=cur.size:=by
      simp only[Gk,GI,NM,LG];omega
     have hcellI:∀ b o,I b o->(w.setRow g (cur.toList.take (n*i.size)++cs'++cur.toList.drop (n*i.size+cs'.length)).toArray).cell? ⟨b,o,none⟩=w.cell? ⟨b,o,none⟩:=λb o hi=>by
      by_cases hb:b=g
      ·subst hb;have hlt:=hIg o hi;obtain⟨u,hu⟩:=hval _ _ hi;rw[Py _ _ _ _ e (0,fz) hnew,Py _ _ _ _ e (0,fz) hh];rw[Py _ _ _ _ e (0,fz) hh]at hu
       have ho:o<cur.size:=by
        rcases zzL136 o cur.size with h'|h'
        ·exact h'
        ·rw[Array.getElem?_eq_none h']at hu;cases hu
       have hgo:=hget o;rw[if_neg (by omega)]at hgo;rw[List.getElem?_toArray,DB undef (by omega),hgo];simp[List.getD,ho]
      ·exact NL (a:=⟨b,o,none⟩) (hother b hb)
     have hcellN:∀ j,j<(n+n')*i.size->(w.setRow g (cur.toList.take (n*i.size)++cs'++cur.toList.drop (n*i.size+cs'.length)).toArray).cell? ⟨g,j,none⟩=some ((cs++cs').getD j undef):=λj hj=>by
      by_cases hlt:j<n*i.size
      ·have hn0:0<n:=by
        rcases zzL68 n with h0|h0
        ·rw[h0]at hlt;omega
        ·exact h0
       obtain⟨b,hb,_,hI4,h4⟩:=hc hn0;simp only[Aj]at hb;subst hb;have hIj:=hI4 j hlt;simp only[Ha]at hIj;rw[hcellI g j hIj];have:=h4 j _ (DB undef (by omega));rw[O3,Ha]at this;rw[this,List.getD,List.getD,Zc (by omega)]
      ·rw[Py _ _ _ _ e (0,fz) hnew];have hgo:=hget j;rw[E8]at hj;rw[if_pos ⟨by omega,by omega⟩]at hgo;rw[List.getElem?_toArray,DB undef (by omega),hgo];simp only[List.getD];rw[CM (by omega),hl]
     have hmono:∀ v x,RepV I w v x->RepV (WY I g ((n+n')*i.size)) (w.setRow g (cur.toList.take (n*i.size)++cs'++cur.toList.drop (n*i.size+cs'.length)).toArray) v x:=λv x h=>h.mono (λ_ _ h=>.inl h) hcellI;have hnn1:n*i.size<=(n+n')*i.size:=Em _ (by omega)
     refine⟨_,_,WY I g ((n+n')*i.size),thUp θ nm (some (g,cap)),hrun,OQ hrel (λ_ _ h=>.inl h) hcellI (.inr ⟨n,hown,by omega,λhe=>by omega⟩)
      (λb hb hn=>hother b (by rintro rfl;exact hn cap (by simp[hown]) hθ')) (λb o h=>?_) (λb o h=>?_) rfl rfl rfl (by simp) (λg' c' hgc=>?_) (λg' c' hgc=>?_) (by simp),?_⟩
     ·rcases h with h|⟨rfl,_⟩
      ·exact .inl h
      ·exact .inr ⟨cap,rfl⟩
     ·rcases h with h|⟨rfl,hlt⟩
      ·obtain⟨u,hu⟩:=hval b o h;exact⟨u,(hcellI b o h).trans hu⟩
      ·exact⟨_,hcellN o hlt⟩
     ·simp only[Aj,Ms]at hgc;obtain⟨rfl,rfl⟩:=hgc;refine⟨_,fz,hnew,hroom',hcm,by simpa [hcs] using hsize,Tg hfz hnn1,λj hj=>?_⟩;rcases hj with hj|⟨_,hj⟩
      ·have:=hIg j hj;omega
      ·exact hj
     ·simp only[Aj,Ms]at hgc;obtain⟨rfl,rfl⟩:=hgc;exact .inr ⟨by simp[hown],cap,hθ'⟩
     ·exact .own nm _ e (n+n') _ _ cap _ (by simp[A0]) (zzL7 _) (λ_=>by simp[thUp])
       (eA hmono hl hl' h1 h1' hf hf' hr hr' hroom' hcm (λj hj=>.inr ⟨rfl,hj⟩) hcellN)
theorem ll(h:Rel Γ σ I θ a w)(hd:∀ d,o.dst=some d->d<Γ.n){xs:Array Operand}{x y:Operand}{ts:Array TypeId}(ho:o.op = .call { callee:=.builtin .append,args:=xs,argTypes:=ts })(hxs:xs.toList=[x,y])
  {vs:List AV} {es:List (Option Own)} (hvs:RepL I σ.own θ w [a.eval x,a.eval y] vs) (hes:es=(De o vs).map σ.own) {d:Nat} (hdst:o.dst=some d) {e:Eff} (he:CU P d ts.toList vs es=some e) (hob:∀ p∈e.ob,p) :
  Ee P Γ σ o a w e.v e.wo:=by
 obtain⟨u,v,rfl,hu,hv⟩:=hvs.two;unfold CU at he
 split at he
 ·rename_i _ _ _ t t' sz n f tag sz' n' f' tag' eo hts hvv
  obtain⟨rfl,rfl⟩:=hvv
  split at he
  ·rename_i el hun
   dsimp only at he
   generalize hcond:(Nat.beq t t'&&B8 P el&&Nat.ble 1 _&&Nat.ble _ 128&&((P.info? el).bind _).isSome&&(Nat.beq sz _ || Nat.beq n 0)&&(Nat.beq sz' _ || Nat.beq n' 0)
    && Nat.beq _ _)=cond0 at he
   cases cond0 with
   | false=>simp at he
   | true=>
    simp only[Ae]at he;simp only[Be]at hcond;obtain⟨⟨⟨⟨⟨⟨⟨htt,hT⟩,hs1⟩,hby⟩,hzz⟩,hsz⟩,hsz'⟩,hzs⟩:=hcond;obtain rfl:=Cq htt;obtain⟨i,dd,hi,_,hsi⟩:=BC hT;obtain⟨z,hz⟩:=zzL79.1 hzz;simp only[hi]at hz;simp only[hi,   hz]at hby hzs
    have hby:=K1 hby
    have hzq:=Cq hzs;rw[hsi]at hzq;have hV:=BS hu.slice_val (KV hsz);have hV':=BS hv.slice_val (KV hsz');rw[hsi]at hV hV' he
    obtain rfl:ts = #[t,t]:=by grind
    obtain rfl:xs = #[x,y]:=by grind
    obtain⟨bd,cap',cs',hve,hcap',hmax',hnn',hl',h1',hf',hr',hc'⟩:=FO hV'
    have hruns:=λhroom ad cap (cs:List _) (hl:cs.length=n*i.size) hcap hnn hc=>
     BW  (w:=w)  (cap:=cap)  (cap':=cap') (ad:=ad) (bd:=bd) o.type hun hi hz hl hl' hcap hnn h1' hc (λhp=>by grind) hroom hby
    rw[<- hve]at hruns
    have hexec:∀ v w',(Builtin.append_ #[t,t] o.type #[a.eval x,a.eval y]).run P w = .ok v w'->(execOp a.eval o).run P w = .ok (.value v) w':=λv w' hr=>by
     simp[execOp,ho,resolve,invoke,builtin,hr]
    split at he
    ·rename_i nm sz0 e0 m
     cases hc0:(Nat.beq sz0 i.size&&Nat.beq e0 el) with
     | false=>simp[hc0]at he
     | true=>
      simp only[hc0,Ae,Aj]at he;subst he;simp only[Be]at hc0;obtain rfl:=Cq hc0.1;obtain rfl:=Cq hc0.2;have hmn:m=n:=hob _ (by simp);have hroom:n+n'<=room:=hob _ (by simp);subst hmn
      have hown :=by
       simpa [De,ho] using hes.symm
      have hcase:=hu.own_inv hown;obtain⟨v',w',I',θ',hr,hk,hrep⟩:=U1  h _ hun hi hz hzq hby hV hl' h1' hf' hr' hroom (hruns hroom) nm (λhn=>by grind) (.inr ⟨hown,hcase⟩);exact Jq h hd (hexec _ _ hr) (by rw[Cd];exact hk) (by rw[Cd];exact hrep)
    ·simp only[Aj]at he;subst he;have hroom:n+n'<=room:=hob _ (by simp)
     have hown :=by
      simpa [De,ho,hdst] using hes.symm
     have hcase:=hu.exact_inv;obtain⟨v',w',I',θ',hr,hk,hrep⟩:=U1  h _ hun hi hz hzq hby hV hl' h1' hf' hr' hroom (hruns hroom) d (λ_=>hob _ (by simp)) (.inl ⟨hown,hcase⟩);exact Jq h hd (hexec _ _ hr) (by rw[Cd];exact hk) (by rw[Cd];exact hrep)
    ·simp at he
  ·simp at he
 ·simp at he
end
section
variable {P:Program} {Γ:Ix} {σ:Sto} {I:Nat->Nat->Prop} {θ:Nat->Option (Nat×Nat)} {a:Act} {w:World} {o:Oper}
theorem ZS(h:Rel Γ σ I θ a w){nm sz m n i j:Nat}{e:TypeId}{f:Nat->List AV}{v:Value}(hown:σ.own nm=some (.arr sz e m f))(hx:Rep I σ.own θ w v (.vpt nm n i j))(hn:n=m) :
  ∃ g c cur,v = .pointer (some ⟨g,i*sz+j,none⟩)/\θ nm=some (g,c)/\w.heap[g]?=some (.cells cur e (0,0))/\i<m/\m<=c/\c<=maxLen/\cur.size=c*sz/\(∀ i,i<m->(f i).length=sz) /\
   (∀ i j,i<m->j<sz->(cur.getD (i*sz+j) undef).oneCell'=true/\Rep I σ.own θ w (cur.getD (i*sz+j) undef) ((f i).getD j .any))/\∀ j,¬ I g j:=by
 obtain⟨sz',e',m',f',ad,rfl,ho,hm,hi,hv⟩:=hx.vpt_inv;rw[hown]at ho;obtain⟨rfl,rfl,rfl,rfl⟩:=ho;obtain⟨g,c,hg,rfl⟩:=hv hn;obtain⟨cur,q1,q2,q3,q4,q5,q6,q7⟩:=(h.chg.rel.arr nm _ _ _ _ hown).2 g c hg
 grind
theorem pos_lt{i j m c sz:Nat}(hi:i<m)(hj:j<sz)(hc:m<=c):i*sz+j<c*sz:=by
 have:(i+1)*sz<=c*sz:=Em _ (by omega)
 grind
theorem Vi(h:Rel Γ σ I θ a w)(hd:∀ d,o.dst=some d->d<Γ.n){t:TypeId}{x:Operand}(ho:o.op = .load t x)(ht:B8 P t=true){nm n i j sz m:Nat}{e:TypeId}{f:Nat->List AV}
  (hx:Rep I σ.own θ w (a.eval x) (.vpt nm n i j)) (hown:σ.own nm=some (.arr sz e m f)) (hn:n=m) :
  (Fd P t=true->j+A6 P t<=sz->Ee P Γ σ o a w (.agg (((f i).drop j).take (A6 P t))) []) /\
  (Fd P t=false->j<sz->Ee P Γ σ o a w ((f i).getD j .any) []):=by
 obtain⟨g,c,cur,he,hg,hh,hi,hmc,hcm,hsz,hf,hr,hI⟩:=ZS h hown hx hn
 have hcell:∀ k,k<sz->w.cell? ⟨g,i*sz+k,none⟩=some (cur.getD (i*sz+k) undef):=λk hk=>by
  rw[Py w g _ cur e (0,0) hh]
  grind [Nk,pos_lt]
 refine⟨λhagg hle=>?_,λhagg hlt=>?_⟩
 ·have hrun:(loadVar t ⟨g,i*sz+j,none⟩).run P w = .ok (.agg ((List.range (A6 P t)).map λk=>cur.getD (i*sz+(j+k)) undef).toArray) w:=
   Mo ht hagg _ _ (λk hk=>by grind [O3])
  refine Ax h hd (v:=.agg ((List.range (A6 P t)).map λk=>cur.getD (i*sz+(j+k)) undef).toArray) ?_ ?_
  ·simp only[execOp,ho,he,Instr.loadAt,Instr.sureAddr,Ed,Hb,Fh,hrun]
  ·refine .agg _ _ (by grind) (λk hk=>?_) (λk hk=>?_)
   ·grind [N1]
   grind [N1]
 ·have hrun:=Mp (P:=P) ht hagg _ _ (hcell j hlt);refine Ax h hd  ?_ (hr i j hi hlt).2;simp only[execOp,ho,he,Instr.loadAt,Instr.sureAddr,Ed,Hb,Fh,hrun]
theorem KN(h:Rel Γ σ I θ a w)(hd:∀ d,o.dst=some d->d<Γ.n){s:TypeId}{x:Operand}{k:Nat}(ho:o.op = .fieldAddr s x k){fields:Array Field}{fd:Field}
  (hs:P.underlying s=some (.struct fields)) (hf:fields[k]?=some fd) (ht:B8 P fd.type=true) (h1:1<=A6 P fd.type) {nm n i j:Nat} (hx:Rep I σ.own θ w (a.eval x) (.vpt nm n i j)) :
  Ee P Γ σ o a w (.vpt nm n i (j+fd.offset)) []:=by
 obtain⟨sz',e',m',f',ad,he,ho',hm,hi,hv⟩:=hx.vpt_inv;refine Ax h hd (v:=.pointer (some (ad.add fd.offset))) ?_ (.vpt nm sz' e' m' f' n i _ _ ho' hm hi (λhn=>?_))
 ·simp_all [Uk,execOp,Instr.fieldAt,Cl,Instr.sureAddr]
 grind [O3]
theorem bL(h:Rel Γ σ I θ a w)(hd:∀ d,o.dst=some d->d<Γ.n){t e:TypeId}{x i:Operand}(ho:o.op = .indexAddr t x i)(hu:P.underlying t=some (.slice e))(ht:B8 P e=true)
  {nm n:Nat} {k:IntKind} {j:Int} (hx:Rep I σ.own θ w (a.eval x) (.vsl nm n)) (hi:Rep I σ.own θ w (a.eval i) (.int k j)) (hb:A5 j n) (hs:∃ sz e' m f,σ.own nm=some (.arr sz e' m f)/\sz=A6 P e) :
  Ee P Γ σ o a w (.vpt nm n j.toNat 0) []:=by
 obtain⟨hb0,hb1⟩:=hb;obtain⟨sz,e',m,f,ad,cap,he,ho',hm,hcap,hmax,hn,hv⟩:=hx.vsl_inv;obtain⟨sz2,e2,m2,f2,ho2,hsz2⟩:=hs;have hi':=hi.int_inv
 have hne:ad≠none:=λh=>by grind
 obtain⟨b,rfl⟩:=Option.ne_none_iff_exists'.1 hne;refine Ax h hd (v:=.pointer (some (b.add (j.toNat*A6 P e)))) ?_ (.vpt nm _ e' m f n _ _ _ ho' hm (by omega) (λhnm=>?_))
 ·simp[execOp,ho,he,hi',Instr.indexAt,asIntOf,Cl hu,hb0,hb1,B0 ht]
 ·cases hθ:θ nm with
  | none=>
   have:=(h.chg.rel.arr nm _ _ _ _ ho').1 hθ;omega
  | some gc=>
   grind [O3]
theorem N5{own:Nat->Option Own}(hrel:K3 I own θ w)(hval:∀ b o,I b o->∃ u,w.cell? ⟨b,o,none⟩=some u){nm s m':Nat}{e:TypeId}{f':Nat->List AV}{t':Option (Nat×Nat)}{w':World}
  (hcell:∀ b o,I b o->w'.cell? ⟨b,o,none⟩=w.cell? ⟨b,o,none⟩)
  (hle:own nm=none\/∃ m f,own nm=some (.arr s e m f)/\m<=m'/\(m=m'->t'=θ nm))
  (hblk:∀ b,b<w.heap.size->(∀ c,own nm≠none->θ nm≠some (b,c))->w'.heap[b]?=w.heap[b]?)
  (hos:w'.os=w.os) (htape:w'.tape=w.tape) (hout:w'.output=w.output) (hgrow:w.heap.size<=w'.heap.size)
  (hnone:t'=none->m'=0)
  (harr:∀ g c,t'=some (g,c)->∃ cur,w'.heap[g]?=some (.cells cur e (0,0))/\m'<=c/\c<=maxLen/\cur.size=c*s/\(∀ i,i<m'->(f' i).length=s) /\
   (∀ i j,i<m'->j<s->(cur.getD (i*s+j) undef).oneCell'=true/\((∀ v x,Rep I own θ w v x->Rep I (A0 own nm (.arr s e m' f')) (thUp θ nm t') w' v x)->Rep I (A0 own nm (.arr s e m' f')) (thUp θ nm t') w' (cur.getD (i*s+j) undef) ((f' i).getD j .any)))/\∀ j,¬ I g j)
  (hloc:∀ g c,t'=some (g,c)->w.heap.size<=g\/(own nm≠none/\∃ c',θ nm=some (g,c'))) (hdrw:w.drawn<=w'.drawn:=by first|exact zzL7 _|exact Nat.le_succ _) :
  Chg own θ I w (A0 own nm (.arr s e m' f')) (thUp θ nm t') I w':=by
 have hle':∀ nm' o,own nm'=some o->∃ o',A0 own nm (.arr s e m' f') nm'=some o'/\OwnLe o (θ nm') o' (thUp θ nm t' nm'):=λnm' o ho=>by
  by_cases hne:nm'=nm
  ·subst hne;rcases hle with h|⟨m,f,h,h1,h2⟩
   ·grind
   ·rw[h]at ho;obtain rfl:=OI ho;exact⟨.arr s e m' f',by simp[A0],rfl,rfl,h1,λhe=>by grind [thUp]⟩
  grind [thUp,A0,OwnLe.refl]
 have hmono:∀ v x,Rep I own θ w v x->Rep I (A0 own nm (.arr s e m' f')) (thUp θ nm t') w' v x:=λv x h=>h.mono (λ_ _ h=>h) hcell hle';have hother:∀ nm' g c,nm'≠nm->own nm'≠none->θ nm'=some (g,c)->∀ c',own nm≠none->θ nm≠some (g,c'):=λnm' g c hne ho hg c' ho' hg'=>hne (hrel.inj nm' nm g c c' ho ho' hg hg');refine{ imm:=λ_ _ h=>h,cell:=hcell,le:=hle',rel:=?_,valid:=λb o hi=>?_,os:=hos,tape:=htape,output:=hout,drawn:=λ_=>hdrw,grow:=hgrow,frame:=λb hb hn=>hblk b hb (λc ho hg=>hn nm c ho hg),new:=λnm' g c ho hg=>?_,immNew:=λb o h=>.inl h }
 ·refine Md hrel (·=nm) hmono (λnm' hne=>⟨by simp[A0,hne],by simp[thUp,hne]⟩) (λnm' g c hne ho hg=>⟨hblk g (Ls hrel ho hg) (hother nm' g c hne ho hg),λj hj=>hj⟩) ?_ ?_ ?_ (λ_ _ h h'=>h.trans h'.symm) ?_
  ·grind [A0]
  ·grind [A0]
  ·rintro nm' nm'' g c c' rfl hne _ ho' hg hg';rcases hloc g c (by grind [thUp]) with h|⟨h1,c'',h2⟩
   ·have:=Ls hrel ho' hg';omega
   grind
  ·rintro nm' sz' e' m f rfl ho;simp only[A0,Lz,Aj,Own.arr.injEq]at ho;obtain⟨rfl,rfl,rfl,rfl⟩:=ho
   grind [thUp]
 ·grind
 grind [thUp,A0]
theorem DR{nm:Nat}{t:Option (Nat×Nat)}(h:θ nm=t):thUp θ nm t=θ:=by
 grind [thUp]
theorem T4(f:Nat->List AV)(i j:Nat)(cs:List AV):Eb f i j cs i=(f i).take j++cs++(f i).drop (j+cs.length):=by
 simp[Eb]
theorem Wy(f:Nat->List AV){i j k:Nat}(cs:List AV)(h:k≠i):Eb f i j cs k=f k:=by
 grind [Eb,Nat.beq,absurd,Cq]
theorem IA(h:Rel Γ σ I θ a w)(hd:∀ d,o.dst=some d->d<Γ.n){t:TypeId}{x y:Operand}(ho:o.op = .store t x y)(ht:B8 P t=true){nm n i j sz m:Nat}{e:TypeId}{f:Nat->List AV}{cs:List AV}{z:AV}
  (hx:Rep I σ.own θ w (a.eval x) (.vpt nm n i j)) (hy:Rep I σ.own θ w (a.eval y) z) (hown:σ.own nm=some (.arr sz e m f)) (hn:n=m) (hc:z.cells=some cs) (hsz:cs.length=A6 P t) (hle:j+cs.length<=sz) :
  Ee P Γ σ o a w .undef [(nm,.arr sz e m (Eb f i j cs))]:=by
 obtain⟨g,c,cur,he,hg,hh,hi,hmc,hcm,hcs,hf,hr,hI⟩:=ZS h hown hx hn;have hcl:=L1 hc hy;have hrel:=h.chg.rel
 have hvl:(a.eval y).cells.toList.length=cs.length:=by simp[hcl.size]
 have hfit:i*sz+j+cs.length<=cur.size:=by
  have:(i+1)*sz<=c*sz:=Em _ (by omega);rw[E8]at this;omega
 have hst:=run_storeCells_at P g (i*sz+j) e (a.eval y).cells.toList 0 cur w hh (by grind) hcl.all;simp only[Sv]at hst
 have hrun:(execOp a.eval o).run P w = .ok .skip (w.setRow g (cur.toList.take (i*sz+j)++(a.eval y).cells.toList++cur.toList.drop (i*sz+j+(a.eval y).cells.toList.length)).toArray):=by
  have hn:¬ ((a.eval y).cells.size≠A6 P t):=by rw[hcl.size,hsz];simp
  simp only[execOp,ho,he,Instr.storeAt,Instr.sureAddr,Ed,Hb,Fh,storeVar,B0 ht,if_neg hn,hst]
 have hother:∀ b,b≠g->(w.setRow g (cur.toList.take (i*sz+j)++(a.eval y).cells.toList++cur.toList.drop (i*sz+j+cs.length)).toArray).heap[b]?=w.heap[b]?:=λb hb=>LO w g b _ hb;have hk:=N5 (w':=w.setRow g (cur.toList.take (i*sz+j)++(a.eval y).cells.toList++cur.toList.drop (i*sz+j+cs.length)).toArray) (t':=some (g,c)) (m':=m) (f':=Eb f i j cs) hrel h.chg.valid (nm:=nm) (s:=sz) (e:=e)
  (λb k hi=>NL (a:=⟨b,k,none⟩) (hother b (by grind))) (.inr ⟨m,f,hown,zzL7 _,λ_=>hg.symm⟩)
  (λb hb hn=>hother b (by grind)) rfl rfl rfl (by simp) (by simp) (λg' c' hgc=>?_) (λg' c' hgc=>?_)
 ·rw[DR hg]at hk;refine DK h hd (I':=I) (θ':=θ) hrun ?_
  grind [Cd]
 ·simp only[Aj,Ms]at hgc;obtain⟨rfl,rfl⟩:=hgc
  have hget:∀ k,((cur.toList.take (i*sz+j)++(a.eval y).cells.toList++cur.toList.drop (i*sz+j+cs.length)).toArray).getD k undef=if i*sz+j<=k/\k<i*sz+j+cs.length then(a.eval y).cells.getD (k-(i*sz+j)) undef else cur.getD k undef:=λk=>by
   have:=Jg undef cur.toList (a.eval y).cells.toList (i*sz+j) k (by grind);rw[hvl]at this
   have e1:∀(l:List Value),(l.toArray).getD k undef=l.getD k undef:=λl=>by simp
   rw[e1,this]
   simp
  have hfl:∀ i',i'<m->(Eb f i j cs i').length=sz:=λi' hi'=>by
   by_cases hii:i'=i
   ·subst hii;have:=hf i' hi;rw[T4]
    grind
   grind [Wy]
  refine⟨_,LP w g cur _ e _ hh,hmc,hcm,by grind,hfl,λi' j' hi' hj'=>?_,hI⟩;rw[hget]
  by_cases hii:i'=i
  ·subst hii;rw[T4];have hl:=hf i' hi
   by_cases hin:j<=j'/\j'<j+cs.length
   ·rw[if_pos (by omega)]
    have e1:i'*sz+j'-(i'*sz+j)=j'-j:=by omega
    rw[e1,Jg _ _ _ _ _ (by omega),if_pos hin];exact⟨hcl.one _ (by omega),λhmono=>hmono _ _ (hcl.rep _ (by omega))⟩
   ·rw[if_neg (by omega),Jg _ _ _ _ _ (by omega),if_neg hin]
    grind
  ·have hout:¬ (i*sz+j<=i'*sz+j'/\i'*sz+j'<i*sz+j+cs.length):=by
    rcases Nat.lt_or_gt_of_ne hii with hlt|hgt
    ·have:(i'+1)*sz<=i*sz:=Em _ hlt
     grind
    ·have:(i+1)*sz<=i'*sz:=Em _ hgt
     grind
   rw[if_neg hout,Wy f cs hii]
   grind
 grind
theorem tc(h:Rel Γ σ I θ a w)(hd:∀ d,o.dst=some d->d<Γ.n){t e:TypeId}{x y:Operand}(ho:o.op = .makeSlice t x y)(hu:P.underlying t=some (.slice e))(ht:B8 P e=true){k k':IntKind}{l c:Int}
  (hx:Rep I σ.own θ w (a.eval x) (.int k l)) (hy:Rep I σ.own θ w (a.eval y) (.int k' c)) {d:Nat} (hdst:o.dst=some d) (hn:σ.own d=none) {z:List AV} (hz:W7 P e=some z) (hs1:1<=A6 P e) (hzl:z.length=A6 P e)
  (hby:((P.info? e).map (·.bytes)).getD 1000<=128) (hb:0<=l/\l<=c/\c<=(room:Int)):Ee P Γ σ o a w (.vsl d l.toNat) [(d,.arr (A6 P e) e l.toNat (λ_=>z))]:=by
 obtain⟨i,v,hi,hv,h1,rfl⟩:=Pw hz;have hzc:=I9 (I:=I) (w:=w) (σ:=σ) (θ:=θ) h1
 have hsi:A6 P e=i.size:=by simp[A6,hi]
 simp only[hi,LL,GJ]at hby
 have hroom:(room:Int)=1099511627776:=rfl;rw[hroom]at hb
 have hbytes:(i.bytes:Int)*c<=281474976710656:=by
  have h1:(i.bytes:Int)*c<=128*c:=Int.mul_le_mul_of_nonneg_right (by omega) (by omega);omega
 have hr:=run_make (P:=P) w t e i v hu hi hv k k' l c hb.1 hb.2.1 hbytes (by omega)
 have hsz:v.cells.size=A6 P e:=by simpa using hzl
 have hsize:(madeCells v.cells (c.toNat*i.size)).size=c.toNat*i.size:=by simp[madeCells]
 have hget:∀ i' j',i'<l.toNat->j'<A6 P e->(madeCells v.cells (c.toNat*i.size)).getD (i'*A6 P e+j') undef=v.cells.getD j' undef:=λi' j' hi' hj'=>by
  have hlt:=pos_lt (c:=c.toNat) hi' hj' (by omega)
  have hm:(i'*A6 P e+j') % v.cells.size=j':=by rw[hsz,CO,Nat.mul_add_mod,Nat.mod_eq_of_lt hj']
  rw[<- hsi];simp only[madeCells,Ss,Array.getElem?_map]
  grind
 have hk:=N5 (w':=w.alloc (.cells (madeCells v.cells (c.toNat*i.size)) e)) (t':=some (w.heap.size,c.toNat)) (m':=l.toNat) (f':=λ_=>v.cells.toList.map AV.ofCell) (nm:=d) (s:=A6 P e) (e:=e) h.chg.rel h.chg.valid
  (λb o hi=>by obtain⟨u,hu⟩:=h.chg.valid b o hi;exact L4 _ hu) (.inl hn) (λb hb _=>NZ w _ hb) rfl rfl rfl (by simp) (by simp) (λg c' hgc=>?_) (λg c' hgc=>?_)
 ·refine Jq h hd (v:=.slice (some ⟨w.heap.size,0,none⟩) l.toNat c.toNat) ?_ (by rw[Cd];exact hk) ?_
  ·have hx':=hx.int_inv;have hy':=hy.int_inv
   grind [Ed,Hb,Fh,execOp]
  ·rw[Cd];exact .vsl d (A6 P e) e l.toNat (λ_=>v.cells.toList.map AV.ofCell) (some ⟨w.heap.size,0,none⟩) l.toNat c.toNat (by simp[A0]) (zzL7 _) (by omega) (by grind [maxLen]) (by simp) (λ_=>by simp[thUp])
 ·simp only[Aj,Ms]at hgc;obtain⟨rfl,rfl⟩:=hgc;refine⟨_,EV w _,by omega,by grind [maxLen],by grind,λ_ _=>hzl,λi' j' hi' hj'=>?_,λj hj=>?_⟩
  ·rw[hget i' j' hi' hj'];exact⟨hzc.one _ (by omega),λhmono=>hmono _ _ (hzc.rep _ (by omega))⟩
  ·obtain⟨u,hu⟩:=h.chg.valid _ _ hj;exact FA _ (R6 hu)
 grind
theorem Yy(h:Rel Γ σ I θ a w){t e:TypeId}{i:TypeInfo}{z:Value}(ty:TypeId)(ht:P.underlying t=some (.slice e))(hi:P.info? e=some i)(hz:i.zero=some z)(hzs:z.cells.size=i.size)(hby:i.bytes<=128)
  {n n':Nat} {f f':Nat->List AV} {vs vx:Value} (hvx:RepV I w vx (.slice i.size n' f' .none)) (hroom:n+n'<=room) (nm:Nat)
  (hcase:(σ.own nm=none/\n=0/\∃ ad,vs = .slice ad 0 0)\/(σ.own nm=some (.arr i.size e n f)/\Rep I σ.own θ w vs (.vsl nm n))) :
  ∃ v w' θ',(Builtin.append_ #[t,t] ty #[vs,vx]).run P w = .ok v w'/\Chg σ.own θ I w (A0 σ.own nm (.arr i.size e (n+n') (Ov n f f'))) θ' I w' /\
   Rep I (A0 σ.own nm (.arr i.size e (n+n') (Ov n f f'))) θ' w' v (.vsl nm (n+n')):=by
 have hrel:=h.chg.rel;have hval:=h.chg.valid;obtain⟨bd,cap',cs',rfl,hcap',hmax',hnn',hl',h1',hf',hr',hc'⟩:=FO hvx;obtain⟨ad,cap,cs,rfl,hcap,hmax,hnn,hl,h1,hf,hr,hc,hold⟩:∃(ad:Option Addr) (cap:Nat) (cs:List Value),vs = .slice ad n cap/\n<=cap/\cap<=maxLen/\(ad=none->cap=0)/\cs.length=n*i.size/\(∀ u∈cs,u.oneCell'=true) /\
   (∀ k,k<n->(f k).length=i.size)/\(∀ k c,k<n->c<i.size->Rep I σ.own θ w (cs.getD (k*i.size+c) undef) ((f k).getD c .any))/\(0<n->∃ b,ad=some b/\∀ j u,cs[j]?=some u->w.cell? (b.add j)=some u) /\
   ((cap=0/\(σ.own nm=none\/(θ nm=none/\σ.own nm=some (.arr i.size e n f)))) \/
    ∃ g cur,σ.own nm=some (.arr i.size e n f)/\θ nm=some (g,cap)/\ad=some ⟨g,0,none⟩/\w.heap[g]?=some (.cells cur e (0,0))/\cur.size=cap*i.size/\cs=cur.toList.take (n*i.size)/\∀ j,¬ I g j):=by
  rcases hcase with⟨hno,rfl,ad,rfl⟩|⟨hown,hrep⟩
  ·exact⟨ad,0,[],rfl,by omega,by simp,λ_=>rfl,by simp,by simp,λk hk=>by omega,λk c hk=>by omega,λh=>by omega,.inl ⟨rfl,.inl hno⟩⟩
  ·obtain⟨sz,e2,m,f2,ad,cap,rfl,ho,hm,hcap,hmax,hn,hv⟩:=hrep.vsl_inv;rw[hown]at ho;simp only[Aj,Own.arr.injEq]at ho;obtain⟨rfl,rfl,rfl,rfl⟩:=ho;have hv:=hv rfl;obtain⟨k1,k2⟩:=hrel.arr nm _ _ _ _ hown
   cases hθ:θ nm with
   | none=>
    rw[hθ]at hv;simp only at hv;have hn0:=k1 hθ;subst hn0;exact⟨ad,cap,[],rfl,hcap,hmax,hn,by simp,by simp,λk hk=>by omega,λk c hk=>by omega,λh=>by omega,.inl ⟨hv,.inr ⟨rfl,hown⟩⟩⟩
   | some gc=>
    obtain⟨g,c⟩:=gc;rw[hθ]at hv;simp only at hv;obtain⟨rfl,rfl⟩:=hv;obtain⟨cur,q1,q2,q3,q4,q5,q6,q7⟩:=k2 g cap hθ
    have hle:n*i.size<=cur.size:=by rw[q4];exact Em _ q2
    have hcl:(cur.toList.take (n*i.size)).length=n*i.size:=by simp;omega
    have hg:∀ j,j<n*i.size->(cur.toList.take (n*i.size)).getD j undef=cur.getD j undef:=λj hj=>by
     grind [Ss]
    refine⟨some ⟨g,0,none⟩,cap,cur.toList.take (n*i.size),rfl,hcap,hmax,(by simp),hcl,λu hu=>?_,q5,λk c hk hc=>?_,λ_=>⟨_,rfl,λj u hu=>?_⟩,.inr ⟨g,cur,hown,rfl,rfl,q1,q4,rfl,q7⟩⟩
    ·obtain⟨j,hj,rfl⟩:=List.mem_iff_getElem.1 hu;rw[hcl]at hj;have e1:=hg j hj;rw[List.getD,Tf (by omega)]at e1;simp only[GJ]at e1;rw[e1]
     have hs:0<i.size:=by
      rcases zzL68 i.size with h0|h0
      ·rw[h0]at hj;omega
      ·exact h0
     have e2:j / i.size*i.size+j % i.size=j:=by rw[CO];exact IZ j i.size
     grind [TH,Nat.mod_lt]
    ·grind [pos_lt]
    ·have hj:j<n*i.size:=by
      rcases zzL136 j (n*i.size) with h'|h'
      ·exact h'
      ·rw[List.getElem?_eq_none (by omega)]at hu;cases hu
     rw[O3,Ha,Py w g _ cur e (0,0) q1]
     grind
 have hrun:=BW (P:=P) (w:=w) (n:=n) (cap:=cap) (n':=n') (cap':=cap') (ad:=ad) (bd:=bd) ty ht hi hz hl hl' hcap hnn h1' hc
  (λhp=>by grind) hroom hby
 obtain⟨r0,r1,r2⟩:=hrun
 have hmaxr:n+n'<=maxLen:=by unfold room at hroom;unfold maxLen;omega
 have happ:∀ k,k<n+n'->(Ov n f f' k).length=i.size:=λk hk=>by
  grind [P7,U0]
 have hlen:(cs++cs').length=(n+n')*i.size:=by rw[Gk,hl,hl',E8]
 have hboth:∀ k c,k<n+n'->c<i.size->((cs++cs').getD (k*i.size+c) undef).oneCell'=true/\(∀{own':Nat->Option Own} {θ':Nat->Option (Nat×Nat)} {w':World},(∀ v x,Rep I σ.own θ w v x->Rep I own' θ' w' v x)->
   Rep I own' θ' w' ((cs++cs').getD (k*i.size+c) undef) ((Ov n f f' k).getD c .any)):=λk c hk hc=>by
  have hm:(cs++cs').getD (k*i.size+c) undef∈cs++cs':=by
   have:=pos_lt hk hc (zzL7 _);rw[List.getD,Tf (by omega)];exact LI _
  refine⟨(zzL18.1 hm).elim (h1 _) (h1' _),λhmono=>?_⟩
  by_cases hlt:k<n
  ·rw[P7 _ _ hlt];have:=pos_lt hlt hc (zzL7 n)
   grind
  ·rw[U0 _ _ (by omega)];have h2:n*i.size<=k*i.size:=Em _ (by omega)
   have e:(cs++cs').getD (k*i.size+c) undef=cs'.getD ((k-n)*i.size+c) undef:=by
    rw[List.getD,CM (by omega),hl,Nat.sub_mul]
    congr 2
    omega
   rw[e];exact hmono _ _ (.val _ _ (hr' (k-n) c (by omega) hc))
 by_cases hz':n'=0
 ·subst hz';rcases hold with⟨rfl,hno⟩|⟨g,cur,hown,hθ,rfl,hh,hcs,hcc,hI⟩
  ·have hn0:n=0:=by omega
   subst hn0
   have hk:=N5 (w':=w) (t':=none) (m':=0+0) (f':=Ov 0 f f') (nm:=nm) (s:=i.size) (e:=e) hrel hval (λ_ _ _=>rfl) (by
    grind) (λ_ _ _=>rfl) rfl rfl rfl (zzL7 _) (λ_=>rfl) (by simp) (by simp)
   exact⟨_,w,_,r0 rfl,hk,.vsl nm i.size e 0 (Ov 0 f f') ad 0 0 (by simp[A0]) (zzL7 _) (zzL7 _) hmax hnn (λ_=>by simp[thUp])⟩
  ·have hk:=N5 (w':=w) (t':=some (g,cap)) (m':=n+0) (f':=Ov n f f') (nm:=nm) (s:=i.size) (e:=e) hrel hval (λ_ _ _=>rfl) (.inr ⟨n,f,hown,by omega,λ_=>hθ.symm⟩) (λ_ _ _=>rfl) rfl rfl rfl (zzL7 _) (by simp)
    (λg' c' hgc=>?_) (λg' c' hgc=>?_)
   ·exact⟨_,w,_,r0 rfl,hk,.vsl nm i.size e (n+0) (Ov n f f') (some ⟨g,0,none⟩) n cap (by simp[A0]) (zzL7 _) hcap hmax hnn (λ_=>by simp[thUp])⟩
   ·simp only[Aj,Ms]at hgc;obtain⟨rfl,rfl⟩:=hgc;refine⟨cur,hh,hcap,hmax,hcs,happ,λk c hk hc=>?_,hI⟩
    have hk':k<n:=by omega
    have:=hboth k c hk hc
    have e:(cs++cs').getD (k*i.size+c) undef=cur.getD (k*i.size+c) undef:=by
     have:=pos_lt hk' hc (zzL7 n);rw[List.getD,Zc (by omega),hcc];simp only[List.getElem?_take,this,Lz,Ss,Array.getElem?_toList]
    grind
   grind
 ·have hp:0<n':=Nat.pos_of_ne_zero hz'
  by_cases hg:cap<n+n'
  ·
   obtain⟨zs,nc,hnc,hnc',hzsz,hrun⟩:=r2 hp hg;have hheap:(w.drew.alloc (.cells (cs.toArray++cs'.toArray++zs) e)).heap[w.heap.size]?=some (.cells (cs.toArray++cs'.toArray++zs) e (0,0)):=EV w.drew _;have hk:=N5 (w':=w.drew.alloc (.cells (cs.toArray++cs'.toArray++zs) e)) (t':=some (w.heap.size,nc)) (m':=n+n') (f':=Ov n f f') (nm:=nm) (s:=i.size) (e:=e) hrel hval
    (λb o hi=>by obtain⟨u,hu⟩:=hval b o hi;exact L4 (w:=w.drew) _ (by trivial))
    (by
     grind)
    (λb hb _=>NZ w.drew _ hb) rfl rfl rfl (by simp) (by simp) (λg' c' hgc=>?_) (λg' c' hgc=>?_)
   ·exact⟨_,_,_,hrun,hk,.vsl nm i.size e (n+n') (Ov n f f') (some ⟨w.heap.size,0,none⟩) (n+n') nc (by simp[A0]) (zzL7 _) hnc hnc' (by simp) (λ_=>by simp[thUp])⟩
   ·simp only[Aj,Ms]at hgc;obtain⟨rfl,rfl⟩:=hgc;refine⟨_,hheap,hnc,hnc',?_,happ,λk c hk hc=>?_,λj hj=>?_⟩
    ·simp only[Array.size_append,be,hl,hl',hzsz,hzs,<- E8]
     grind
    ·have:=hboth k c hk hc;have hlt:=pos_lt hk hc (zzL7 (n+n'))
     have e1:(cs.toArray++cs'.toArray++zs).getD (k*i.size+c) undef=(cs++cs').getD (k*i.size+c) undef:=by
      rw[Ss,Array.getElem?_append_left (by grind)]
      have:cs.toArray++cs'.toArray=(cs++cs').toArray:=by simp
      rw[this];simp[List.getD]
     grind
    ·obtain⟨u,hu⟩:=hval _ _ hj;exact FA _ (R6 hu)
   grind
  ·
   rcases hold with⟨rfl,_⟩|⟨g,cur,hown,hθ,rfl,hh,hcs,hcc,hI⟩
   ·omega
   ·have hfit:n*i.size+cs'.length<=cur.size:=by rw[hl',hcs,<- E8];exact Em _ (by omega)
    have hrun:=r1 hp (by omega) g cur 0 rfl hh (Rh _) hfit;have hother:∀ b,b≠g->(w.setRow g (cur.toList.take (n*i.size)++cs'++cur.toList.drop (n*i.size+cs'.length)).toArray).heap[b]?=w.heap[b]?:=λb hb=>LO w g b _ hb;have hnew:=LP w g cur (cur.toList.take (n*i.size)++cs'++cur.toList.drop (n*i.size+cs'.length)).toArray e _ hh
    have hsize:(cur.toList.take (n*i.size)++cs'++cur.toList.drop (n*i.size+cs'.length)).length=cur.size:=by
     simp only[Gk,GI,NM,LG];omega
    have hk:=N5 (w':=w.setRow g (cur.toList.take (n*i.size)++cs'++cur.toList.drop (n*i.size+cs'.length)).toArray) (t':=some (g,cap)) (m':=n+n') (f':=Ov n f f') (nm:=nm) (s:=i.size) (e:=e) hrel hval
     (λb k hi=>NL (a:=⟨b,k,none⟩) (hother b (by grind))) (.inr ⟨n,f,hown,by omega,λhe=>by omega⟩)
     (λb hb hn=>hother b (by grind)) rfl rfl rfl (by simp) (by simp) (λg' c' hgc=>?_) (λg' c' hgc=>?_)
    ·exact⟨_,_,_,hrun,hk,.vsl nm i.size e (n+n') (Ov n f f') (some ⟨g,0,none⟩) (n+n') cap (by simp[A0]) (zzL7 _) (by omega) hmax (by simp) (λ_=>by simp[thUp])⟩
    ·simp only[Aj,Ms]at hgc;obtain⟨rfl,rfl⟩:=hgc;refine⟨_,hnew,by omega,hmax,by grind,happ,λk c hk hc=>?_,hI⟩;have:=hboth k c hk hc;have hlt:=pos_lt hk hc (zzL7 (n+n'))
     have e1:((cur.toList.take (n*i.size)++cs'++cur.toList.drop (n*i.size+cs'.length)).toArray).getD (k*i.size+c) undef=(cs++cs').getD (k*i.size+c) undef:=by
      rw[U8,<- hcc,List.getD,Zc (by omega)]
      rfl
     grind
    grind
end
section
variable {P:Program} {Γ:Ix} {σ:Sto} {I:Nat->Nat->Prop} {θ:Nat->Option (Nat×Nat)} {a:Act} {w:World} {o:Oper}
theorem PA:∀(ps:List (Nat×Operand)) (vs:List AV),RepL I σ.own θ w (ps.map λp=>a.eval p.2) vs->Uy I σ.own θ w (ps.map λp=>(p.1,a.eval p.2)) ((ps.map (·.1)).zip vs)
 | [],_,h=>by  exact .nil
 | p::ps,_,h=>by cases h with|cons h t=>exact .cons h (PA ps _ t)
theorem ff(h:Rel Γ σ I θ a w)(hd:∀ d,o.dst=some d->d<Γ.n){vs:List AV}(hvs:RepL I σ.own θ w (o.op.operands.toList.map a.eval) vs){es:List (Option Own)}(hes:es=(De o vs).map σ.own)
  {e:Eff} (he:vu P o vs es=some e) (hob:∀ p∈e.ob,p):Ee P Γ σ o a w e.v e.wo:=by
 unfold vu at he
 split at he
 ·
  rename_i x ho
  simp only[ho,Op.operands,Cy,Dn]at hvs;obtain⟨y,rfl,hy⟩:=hvs.one;simp only[Eff.pure,Aj]at he;subst he;exact jk h hd x (.inl ho) hy
 ·rename_i x ho
  simp only[ho,Op.operands,Cy,Dn]at hvs;obtain⟨y,rfl,hy⟩:=hvs.one;simp only[Eff.pure,Aj]at he;subst he;exact jk h hd x (.inr ho) hy
 ·
  rename_i op xt x y yt ho
  simp only[ho,Op.operands,Cy,Dn]at hvs;obtain⟨u,v,rfl,hu,hv⟩:=hvs.two;obtain⟨hw,r,hr,hrun⟩:=cQ (P:=P) he hob hu hv x y;rw[hw];refine Ax h hd (v:=r) ?_ (.val _ _ hr);simp only[Ed]at hrun;simp only[execOp,ho,Ed,Hb];rw[hrun]
  rfl
 ·rename_i op xt x ho
  simp only[ho,Op.operands,Cy,Dn]at hvs;obtain⟨u,rfl,hu⟩:=hvs.one;obtain⟨hw,r,hr,hrun⟩:=kw (P:=P) he hu;rw[hw];refine Ax h hd (v:=r) ?_ (.val _ _ hr);simp only[execOp,ho,Ed,Hb,hrun,Fh]
 ·
  rename_i src dst x ho
  simp only[ho,Op.operands,Cy,Dn]at hvs;obtain⟨u,rfl,hu⟩:=hvs.one
  split at he
  ·rename_i k0 k k' n hs ht hv
   simp only[Dq,Bz]at hv;subst hv;simp only[Eff.pure,Aj]at he;subst he;exact RN h hd ho hs ht hu
  ·rename_i s hs ht hv
   simp only[Dq,Bz]at hv;subst hv;simp only[Eff.pure,Aj]at he;subst he;exact RO h hd ho hs ht hu
  ·rename_i e0 sz n f tag hs ht hv
   simp only[Dq,Bz]at hv;subst hv
   cases hb:(xX P e0&&(Nat.beq sz 1 || Nat.beq n 0)) with
   | false=>simp[hb]at he
   | true=>
    simp only[hb,Ae,Eff.pure,Aj]at he;subst he;simp only[Be,Vr]at hb;obtain⟨hb1,hb2⟩:=hb
    have hu8:P.underlying e0=some (.int .u8):=by
     unfold xX at hb1
     split at hb1
     ·assumption
     ·simp at hb1
    exact KM h hd ho hs ht hu8 (hb2.imp Cq Cq) (hob _ (by simp)) hu
  ·simp at he
 ·
  rename_i t x ho
  simp only[ho,Op.operands,Cy,Dn]at hvs;obtain⟨u,rfl,hu⟩:=hvs.one
  cases hT:B8 P t with
  | false=>simp[hT]at he
  | true=>
   simp only[hT,Ae]at he
   split at he
   ·rename_i nm off e0 cells hv
    simp only[Dq,Bz]at hv;subst hv
    have hown:σ.own nm=some (.row e0 cells):=by simpa [De,ho] using hes.symm
    obtain⟨l1,l2⟩:=dl (P:=P) h hd ho hT hu hown
    cases hagg:Fd P t with
    | true=>
     simp only[hagg,Ae]at he
     cases hb:Nat.ble (off+A6 P t) cells.length with
     | false=>simp[hb]at he
     | true=>
      simp only[hb,Ae,Eff.pure,Aj]at he;subst he;exact l1 hagg (K1 hb)
    | false=>
     simp only[hagg,An]at he
     cases hb:Nat.blt off cells.length with
     | false=>simp[hb]at he
     | true=>
      simp only[hb,Ae,Eff.pure,Aj]at he;subst he;exact l2 hagg (by simpa [K2] using hb)
   ·rename_i cells hv
    simp only[Dq,Bz]at hv;subst hv;obtain⟨l1,l2⟩:=bN (P:=P) h hd ho hT hu
    cases hagg:Fd P t with
    | true=>
     simp only[hagg,Ae]at he
     cases hb:Nat.beq (A6 P t) cells.length with
     | false=>simp[hb]at he
     | true=>
      simp only[hb,Ae,Eff.pure,Aj]at he;subst he;exact l1 hagg (Cq hb)
    | false=>
     simp only[hagg,An]at he
     cases hb:Nat.ble 1 cells.length with
     | false=>simp[hb]at he
     | true=>
      simp only[hb,Ae,Eff.pure,Aj]at he;subst he;exact l2 hagg (K1 hb)
   ·simp at he
 ·
  rename_i t x y ho
  simp only[ho,Op.operands,Cy,Dn]at hvs;obtain⟨u,v,rfl,hu,hv⟩:=hvs.two
  cases hT:B8 P t with
  | false=>simp[hT]at he
  | true=>
   simp only[hT,Ae]at he
   split at he
   ·rename_i nm off z e0 cells hvv
    simp only[Dq,Bz]at hvv;obtain⟨rfl,rfl⟩:=hvv
    have hown:σ.own nm=some (.row e0 cells):=by simpa [De,ho] using hes.symm
    split at he
    ·rename_i cs hc
     cases hb:(Nat.beq cs.length (A6 P t)&&Nat.ble (off+cs.length) cells.length) with
     | false=>simp[hb]at he
     | true=>
      simp only[hb,Ae,Aj]at he;subst he;simp only[Be]at hb;exact pZ h hd ho hT hu hv hown hc (Cq hb.1) (K1 hb.2)
    ·simp at he
   ·simp at he
 ·
  rename_i s x f ho
  simp only[ho,Op.operands,Cy,Dn]at hvs;obtain⟨u,rfl,hu⟩:=hvs.one
  split at he
  ·rename_i fields hs
   split at he
   ·rename_i fd hf
    cases hb:(B8 P fd.type&&Nat.ble 1 (A6 P fd.type)) with
    | false=>simp[hb]at he
    | true=>
     simp only[hb,Ae]at he;simp only[Be]at hb;obtain⟨l1,l2⟩:=bI (P:=P) h hd ho hs hf hb.1 (K1 hb.2)
     split at he
     ·rename_i nm off hv
      simp only[Dq,Bz]at hv;subst hv;simp only[Eff.pure,Aj]at he;subst he;exact l1 nm off hu
     ·rename_i cells hv
      simp only[Dq,Bz]at hv;subst hv
      cases hb2:Nat.ble (fd.offset+A6 P fd.type) cells.length with
      | false=>simp[hb2]at he
      | true=>
       simp only[hb2,Ae,Eff.pure,Aj]at he;subst he;exact l2 cells hu (K1 hb2)
     ·simp at he
   ·simp at he
  ·simp at he
 ·
  rename_i s x f ho
  simp only[ho,Op.operands,Cy,Dn]at hvs;obtain⟨u,rfl,hu⟩:=hvs.one
  split at he
  ·rename_i fields cs hs hv
   simp only[Dq,Bz]at hv;subst hv
   split at he
   ·rename_i fd hf
    split at he
    ·rename_i y hp
     simp only[Eff.pure,Aj]at he;subst he;exact pW h hd ho hs hf hu hp
    ·simp at he
   ·simp at he
  ·simp at he
 ·
  rename_i t x i ho
  simp only[ho,Op.operands,Cy,Dn]at hvs;obtain⟨u,v,rfl,hu,hv⟩:=hvs.two
  split at he
  ·rename_i e0 sz n f tag k j hun hvv
   simp only[Dq,Bz]at hvv;obtain⟨rfl,rfl⟩:=hvv
   cases hb:(B8 P e0&&(Nat.beq sz (A6 P e0) || Nat.beq n 0)) with
   | false=>simp[hb]at he
   | true=>
    simp only[hb,Ae,Eff.pure,Aj]at he;subst he;simp only[Be]at hb;exact RP h hd ho hun hb.1 hu hv (KV (by simpa using hb.2)) (hob _ (by simp))
  ·rename_i len e0 nm off k j hun hvv
   simp only[Dq,Bz]at hvv;obtain⟨rfl,rfl⟩:=hvv
   cases hb:B8 P e0 with
   | false=>simp[hb]at he
   | true=>
    simp only[hb,Ae,Eff.pure,Aj]at he;subst he;exact(BL (P:=P) h hd ho hun hb hv (hob _ (by simp))).1 nm off hu
  ·rename_i len e0 cells k j hun hvv
   simp only[Dq,Bz]at hvv;obtain⟨rfl,rfl⟩:=hvv
   cases hb:(B8 P e0&&Nat.beq cells.length (len*A6 P e0)) with
   | false=>simp[hb]at he
   | true=>
    simp only[hb,Ae,Eff.pure,Aj]at he;subst he;simp only[Be]at hb;exact(BL (P:=P) h hd ho hun hb.1 hv (hob _ (by simp))).2 cells hu (Cq hb.2)
  ·simp at he
 ·
  rename_i t x i ho
  simp only[ho,Op.operands,Cy,Dn]at hvs;obtain⟨u,v,rfl,hu,hv⟩:=hvs.two
  split at he
  ·rename_i len e0 cs k j hun hvv
   simp only[Dq,Bz]at hvv;obtain⟨rfl,rfl⟩:=hvv
   cases hb:(B8 P e0&&!Fd P e0&&Nat.beq (A6 P e0) 1&&Nat.beq cs.length len) with
   | false=>
    rw[hb,An]at he
    cases hb2:(B8 P e0&&Fd P e0&&Nat.beq cs.length (len*A6 P e0)) with
    | false=>simp[hb2]at he
    | true=>
     simp only[hb2,Ae,Eff.pure,Aj]at he;subst he;simp only[Be]at hb2;exact bK h hd ho hun hb2.1.1 hb2.1.2 (Cq hb2.2) hv (hob _ (by simp)) hu
   | true=>
    simp only[hb,Ae,Eff.pure,Aj]at he;subst he;simp only[Be,Su]at hb;exact RQ h hd ho hun hb.1.1.1 hb.1.1.2 (Cq hb.1.2) (Cq hb.2) hv (hob _ (by simp)) hu
  ·rename_i s0 k j hun hvv
   simp only[Dq,Bz]at hvv;obtain⟨rfl,rfl⟩:=hvv;simp only[Eff.pure,Aj]at he;subst he;exact bM h hd ho hun hv (hob _ (by simp)) hu
  ·simp at he
 ·
  rename_i x ix ho
  simp only[ho,Op.operands,Cy,Dn]at hvs;obtain⟨u,rfl,hu⟩:=hvs.one
  split at he
  ·rename_i xs hv
   simp only[Dq,Bz]at hv;subst hv
   cases hb:Nat.blt ix xs.length with
   | false=>simp[hb]at he
   | true=>
    simp only[hb,Ae,Eff.pure,Aj]at he;subst he;exact gb h hd ho hu (by simpa [K2] using hb)
  ·simp at he
 ·
  rename_i x ho
  simp only[ho,Op.operands,Cy,Dn]at hvs;obtain⟨u,rfl,hu⟩:=hvs.one
  split at he
  ·rename_i nm off hv
   simp only[Dq,Bz]at hv;subst hv;simp only[Eff.pure,Aj]at he;subst he;exact(MX (P:=P) h hd ho).1 nm off hu
  ·rename_i cs hv
   simp only[Dq,Bz]at hv;subst hv;simp only[Eff.pure,Aj]at he;subst he;exact(MX (P:=P) h hd ho).2 cs hu
  ·simp at he
 ·
  rename_i t ho
  split at he
  ·rename_i d z hdst hz
   cases hb:B8 P t with
   | false=>simp[hb]at he
   | true=>
    simp only[hb,Ae,Aj]at he;subst he;exact pS h hd hdst (by simpa [De,ho,hdst] using hes.symm) ho hz
  ·simp at he
 ·
  rename_i t x ho
  simp only[ho,Op.operands,Cy,Dn]at hvs;obtain⟨u,rfl,hu⟩:=hvs.one
  split at he
  ·rename_i d y hdst hv
   simp only[Dq,Bz]at hv;subst hv
   split at he
   ·rename_i cs hc
    simp only[Aj]at he;subst he;exact we h hd hdst (by simpa [De,ho,hdst] using hes.symm) ho hu hc
   ·simp at he
  ·simp at he
 ·
  rename_i t parts ho
  have hvs':RepL I σ.own θ w (parts.toList.map λp=>a.eval p.2) vs:=by
   simpa [ho,Op.operands,List.map_map,GH] using hvs
  obtain⟨hw,hok⟩:=pT (P:=P) h hd ho (PA _ _ hvs') he;rw[hw];exact hok
 ·rename_i t len parts ho
  have hvs':RepL I σ.own θ w (parts.toList.map λp=>a.eval p.2) vs:=by
   simpa [ho,Op.operands,List.map_map,GH] using hvs
  obtain⟨hw,hok⟩:=VN (P:=P) h hd ho (PA _ _ hvs') he;rw[hw];exact hok
 ·
  rename_i t x lo hi mx ho
  have hvs':RepL I σ.own θ w ([a.eval x]++(lo.map a.eval).toList++(hi.map a.eval).toList++(mx.map a.eval).toList) vs:=by
   have e:o.op.operands.toList.map a.eval=[a.eval x]++(lo.map a.eval).toList++(hi.map a.eval).toList++(mx.map a.eval).toList:=by
    rw[ho];cases lo<;>cases hi<;>cases mx<;>simp[Op.operands]
   rwa[e]at hvs
  obtain⟨hw,hok⟩:=pY (P:=P) h hd ho hvs' he hob;rw[hw];exact hok
 ·
  rename_i args ts ho
  split at he
  ·rename_i t hts
   have hargs:∀ u,vs=[u]->∃ x,args.toList=[x]/\Rep I σ.own θ w (a.eval x) u:=λu hu=>by
    subst hu
    have:o.op.operands.toList.map a.eval=args.toList.map a.eval:=by rw[ho];simp[Op.operands,Call.operands]
    rw[this]at hvs
    cases hl:args.toList with
    | nil=>rw[hl]at hvs;cases hvs
    | cons x l=>
     rw[hl]at hvs
     cases hvs with|cons h t=>cases l with
      | nil=>exact⟨x,rfl,h⟩
      | cons _ _=>cases t
   split at he
   ·rename_i e0 sz n f tag hun
    obtain⟨x,hx,hr⟩:=hargs _ rfl;simp only[Eff.pure,Aj]at he;subst he;exact(ge (P:=P) h hd ho hx hts).1 _ _ _ _ _ hun hr
   ·rename_i s hun
    obtain⟨x,hx,hr⟩:=hargs _ rfl;simp only[Eff.pure,Aj]at he;subst he;exact(ge (P:=P) h hd ho hx hts).2.1 _ hun hr
   ·rename_i n e0 y hun
    obtain⟨x,hx,hr⟩:=hargs _ rfl;simp only[Eff.pure,Aj]at he;subst he;exact(ge (P:=P) h hd ho hx hts).2.2 _ _ hun
   ·simp at he
  ·simp at he
 ·
  rename_i args ts ho
  split at he
  ·rename_i k m k' n
   simp only[Eff.pure,Aj]at he;subst he
   have:o.op.operands.toList.map a.eval=args.toList.map a.eval:=by rw[ho];simp[Op.operands,Call.operands]
   rw[this]at hvs
   cases hl:args.toList with
   | nil=>rw[hl]at hvs;cases hvs
   | cons x l=>
    rw[hl]at hvs
    cases hvs with|cons h1 t=>cases l with
     | nil=>cases t
     | cons y l'=>cases t with|cons h2 t'=>cases l' with
      | nil=>exact wi h hd ho hl h1 h2
      | cons _ _=>cases t'
  ·simp at he
 ·
  rename_i args ts ho
  split at he
  ·rename_i k m k' n
   simp only[Eff.pure,Aj]at he;subst he
   have:o.op.operands.toList.map a.eval=args.toList.map a.eval:=by rw[ho];simp[Op.operands,Call.operands]
   rw[this]at hvs
   cases hl:args.toList with
   | nil=>rw[hl]at hvs;cases hvs
   | cons x l=>
    rw[hl]at hvs
    cases hvs with|cons h1 t=>cases l with
     | nil=>cases t
     | cons y l'=>cases t with|cons h2 t'=>cases l' with
      | nil=>exact wj h hd ho hl h1 h2
      | cons _ _=>cases t'
  ·simp at he
 ·
  rename_i args ts ho
  split at he
  ·rename_i d hdst
   have:o.op.operands.toList.map a.eval=args.toList.map a.eval:=by rw[ho];simp[Op.operands,Call.operands]
   rw[this]at hvs
   cases hl:args.toList with
   | nil=>
    rw[hl]at hvs;cases hvs;unfold CU at he
    split at he<;>simp_all
   | cons x l=>
    cases l with
    | nil=>
     rw[hl]at hvs;obtain⟨u,rfl,_⟩:=hvs.one;unfold CU at he
     split at he<;>simp_all
    | cons y l'=>
     cases l' with
     | nil=>rw[hl]at hvs;exact ll h hd ho hl hvs hes hdst he hob
     | cons z l''=>
      rw[hl]at hvs
      cases hvs with|cons h1 t=>cases t with|cons h2 t=>cases t with|cons h3 t=>
      unfold CU at he
      split at he<;>simp_all
  ·simp at he
 ·simp at he
end
section
variable {P:Program} {Γ:Ix} {σ:Sto} {I:Nat->Nat->Prop} {θ:Nat->Option (Nat×Nat)} {a:Act} {w:World} {o:Oper}
theorem Sr(h:Rel Γ σ I θ a w){x:AV}{nm n lo hi:Nat}(hv:x.view=some (nm,n,lo,hi)){v:Value}(hx:Rep I σ.own θ w v x):∃ sz e m f ad cap,v = .slice ad (hi-lo) cap/\σ.own nm=some (.arr sz e m f)/\n<=m/\lo<=hi/\hi<=n/\hi-lo<=cap/\cap<=maxLen/\(ad=none->cap=0) /\
  (n=m->ZN (θ nm) n lo hi sz e ad cap):=by
 cases x<;>simp[AV.view]at hv
 case vsl nm' n'=>
  obtain⟨rfl,rfl,rfl,rfl⟩:=hv;obtain⟨sz,e,m,f,ad,cap,rfl,ho,hm,hcap,hmax,hn,hvv⟩:=hx.vsl_inv;refine⟨sz,e,m,f,ad,cap,by simp,ho,hm,Rh _,zzL7 _,by omega,hmax,hn,λhnm=>⟨λhlt=>?_,λ_=>?_⟩⟩
  rotate_left
  ·grind
  cases hθ:θ nm' with
  | none=>have:=(h.chg.rel.arr nm' _ _ _ _ ho).1 hθ;omega
  | some gc=>
   grind
 case vsub nm' n' lo' hi'=>
  obtain⟨rfl,rfl,rfl,rfl⟩:=hv;obtain⟨sz,e,m,f,ad,cap,rfl,ho,hm,h1,h2,hcap,hmax,hn,hvv⟩:=hx.vsub_inv;exact⟨sz,e,m,f,ad,cap,rfl,ho,hm,h1,h2,hcap,hmax,hn,hvv⟩
theorem DP{ad:Option Addr}{n cap sz k:Nat}{us:Nat->Value}(h:0<k->∃ b,ad=some b/\b.spot=none/\∀ j,j<k*sz->w.cell? ⟨b.block,b.off+j,none⟩=some (us j)) :
  (Builtin.firstCells sz k (.slice ad n cap)).run P w = .ok ((List.range (k*sz)).map us).toArray w:=by
 rcases zzL68 k with rfl|hk
 ·cases ad with
  | none=>simp[Builtin.firstCells]
  | some b=>simp[Builtin.firstCells,loadCells,loadCellsFrom]
 ·obtain⟨b,rfl,hs,hc⟩:=h hk
  show(loadCells b _).run P w=_
  refine run_loadCells_list  (w:=w) b ((List.range _).map us) (λj v hj=>?_) |>.trans ?_ |> λh=>by simpa using h
  ·rw[TD]at hj
   by_cases hlt:j<k*sz
   ·rw[List.getElem?_range hlt]at hj;simp only[LL,Aj]at hj;subst hj;rw[Mf hs];exact hc j hlt
   ·grind
  ·rfl
structure nS(P:Program)(I:Nat->Nat->Prop)(own:Nat->Option Own)(θ:Nat->Option (Nat×Nat))(w:World)(sz k:Nat)(v:Value)(g:Nat->List AV)(cs:List Value):Prop where
 run:(Builtin.firstCells sz k v).run P w = .ok cs.toArray w
 len:cs.length=k*sz
 one:∀ u∈cs,u.oneCell'=true
 rep:∀ i c,i<k->c<sz->Rep I own θ w (cs.getD (i*sz+c) undef) ((g i).getD c .any)
 wid:∀ i,i<k->(g i).length=sz
theorem PC{i j k sz:Nat}(hi:i<k)(hj:j<sz):i*sz+j<k*sz:=pos_lt hi hj (zzL7 k)
theorem uG{v:Value}{sz sz' n k:Nat}{f:Nat->List AV}(hk:k<=n)(hsz:sz'=sz\/n=0)(h:RepV I w v (.slice sz' n f .none)):∃ cs,nS P I σ.own θ w sz k v f cs:=by
 obtain⟨_,ad,cap,us,rfl,hcap,hmax,hz,hn,h1,hl,hr⟩:=h.slice_inv
 by_cases hk0:k=0
 ·subst hk0;exact⟨[],by simpa using DP   (us:=us) (k:=0) (λh=>by omega),by simp,by simp,λi c hi=>by omega,λi hi=>by omega⟩
 ·obtain rfl:sz'=sz:=by omega
  obtain⟨b,rfl,hs,hI,hc⟩:=hz (by omega);have hle:k*sz'<=n*sz':=Em _ hk;refine⟨(List.range _).map us,DP (λ_=>⟨b,rfl,hs,λj hj=>hc j (by omega)⟩),by simp,λu hu=>?_,λi c hi hcc=>?_,λi hi=>hl i (by omega)⟩
  ·grind
  ·rw[DE _ _ _ (PC hi hcc)];exact .val _ _ (hr i c (by omega) hcc)
theorem qB(h:Rel Γ σ I θ a w){x:AV}{nm n lo hi sz m k:Nat}{e:TypeId}{f:Nat->List AV}(hv:x.view=some (nm,n,lo,hi)){v:Value}(hx:Rep I σ.own θ w v x)(hown:σ.own nm=some (.arr sz e m f))(hn:n=m)(hk:k<=hi-lo) :
  ∃ cs,nS P I σ.own θ w sz k v (λi=>f (lo+i)) cs:=by
 obtain⟨sz',e',m',f',ad,cap,rfl,ho,hm,hlo,hhi,hcap,hmax,hnn,hvv⟩:=Sr h hv hx;rw[hown]at ho;simp only[Aj,Own.arr.injEq]at ho;obtain⟨rfl,rfl,rfl,rfl⟩:=ho
 by_cases hk0:k=0
 ·subst hk0;exact⟨[],by simpa using DP (P:=P) (w:=w) (us:=λ_=>undef) (k:=0) (λh=>by omega),by simp,by simp,λi c hi=>by omega,λi hi=>by omega⟩
 ·obtain⟨g,c,hg,rfl⟩:=(hvv hn).1 (by omega);obtain⟨cur,q1,q2,q3,q4,q5,q6,q7⟩:=(h.chg.rel.arr nm _ _ _ _ hown).2 g c hg
  have hfit:∀ j,j<k*sz->lo*sz+j<c*sz:=λj hj=>by
   have:(lo+k)*sz<=c*sz:=Em _ (by omega);rw[E8]at this;omega
  refine⟨(List.range (k*sz)).map λj=>cur.getD (lo*sz+j) undef,DP (λ_=>⟨_,rfl,rfl,λj hj=>?_⟩),by simp,λu hu=>?_,λi c' hi hcc=>?_,λi hi=>q5 _ (by omega)⟩
  ·rw[Py w g _ cur e (0,0) q1];exact Nk (by rw[q4];exact hfit j hj)
  ·obtain⟨j,hj,rfl⟩:=zzL27.1 hu;have hj:=zzL44.1 hj
   have hs:0<sz:=by
    rcases zzL68 sz with h0|h0
    ·rw[h0]at hj;omega
    ·exact h0
   have e1:lo*sz+j=(lo+j / sz)*sz+j % sz:=by
    rw[E8,Ut]
    congr 1
    rw[CO];exact(IZ j sz).symm
   have e2:j / sz<k:=Nat.div_lt_of_lt_mul (by rw[CO];exact hj);rw[e1];exact(q6 (lo+j / sz) (j % sz) (by omega) (Nat.mod_lt _ hs)).1
  ·rw[DE _ _ _ (PC hi hcc),<- Ut,<- E8];exact(q6 (lo+i) c' (by omega) hcc).2
theorem fp(f g:Nat->List AV){lo k i:Nat}(h:lo<=i/\i<lo+k):cq f lo k g i=g (i-lo):=by
 have h1 :=Nat.ble_eq_true_of_le h.1
 have h2:Nat.blt i (lo+k)=true:=by simp_all
 simp[cq,h1,h2]
theorem HD(f g:Nat->List AV){lo k i:Nat}(h:¬ (lo<=i/\i<lo+k)):cq f lo k g i=f i:=by
 have:(Nat.ble lo i&&Nat.blt i (lo+k))=false:=by
  cases h1:Nat.ble lo i with
  | false=>rfl
  | true=>
   cases h2:Nat.blt i _ with
   | false=>rfl
   | true=>rw[K2]at h2;exact(h ⟨K1 h1,h2⟩).elim
 simp[cq,this]
theorem XX(h:Rel Γ σ I θ a w){nm n lo hi sz m k cap':Nat}{e0:TypeId}{f g:Nat->List AV}{ad':Option Addr}(hown:σ.own nm=some (.arr sz e0 m f))(hn:n=m)(hlo:lo<=hi)(hhi:hi<=n)(hvv:ZN (θ nm) n lo hi sz e0 ad' cap')(hkl:k<=hi-lo)
  {cs:List Value} (hcsl:cs.length=k*sz) (hone:∀ u∈cs,u.oneCell'=true) (hrep:∀ i c,i<k->c<sz->Rep I σ.own θ w (cs.getD (i*sz+c) undef) ((g i).getD c .any)) (hwid:∀ i,i<k->(g i).length=sz) :
  ∃ w',(match ad' with|some b=>storeCells b cs|none=>pure ()).run P w = .ok () w'/\Chg σ.own θ I w (A0 σ.own nm (.arr sz e0 m (cq f lo k g))) θ I w':=by
 obtain⟨q0,q⟩:=h.chg.rel.arr nm _ _ _ _ hown;have hrel:=h.chg.rel;rcases zzL68 k with h0|hpos
 ·have hcs:cs=[]:=zzL109.1 (by rw[hcsl,h0];simp);refine⟨w,by cases ad'<;>simp[hcs,storeCells],?_⟩;have hself:thUp θ nm (θ nm)=θ:=DR rfl
  have hk2:=N5 (w':=w) (t':=θ nm) (m':=m) (f':=cq f lo k g) hrel h.chg.valid (nm:=nm) (s:=sz) (e:=e0) (λ_ _ _=>rfl) (.inr ⟨m,f,hown,zzL7 _,λ_=>rfl⟩) (λ_ _ _=>rfl) rfl rfl rfl (zzL7 _) q0 (λg' c' hg=>by
   obtain⟨cur,r1,r2,r3,r4,r5,r6,r7⟩:=q g' c' hg;refine⟨cur,r1,r2,r3,r4,λi hi=>by rw[HD f g (by omega)];exact r5 i hi,λi j hi hj=>?_,r7⟩;rw[HD f g (by omega)]
   exact⟨(r6 i j hi hj).1,λhmono=>hmono _ _ (r6 i j hi hj).2⟩) (λg' c' hg=>.inr ⟨by simp[hown],c',hg⟩)
  rwa[hself]at hk2
 ·obtain⟨g0,c,hg,rfl⟩:=hvv.1 (by omega);obtain⟨cur,r1,r2,r3,r4,r5,r6,r7⟩:=q g0 c hg
  have hfit:lo*sz+cs.length<=cur.size:=by
   have:(lo+k)*sz<=c*sz:=Em _ (by omega);rw[E8]at this;rw[hcsl,r4];exact this
  have hst:=run_storeCells_at P g0 (lo*sz) e0 cs 0 cur w r1 (by simpa using hfit) hone;simp only[Sv]at hst;have hother:∀ b,b≠g0->(w.setRow g0 (cur.toList.take (lo*sz)++cs++cur.toList.drop (lo*sz+cs.length)).toArray).heap[b]?=w.heap[b]?:=λb hb=>LO w g0 b _ hb;refine⟨_,hst,?_⟩;have hk2:=N5 (w':=w.setRow g0 (cur.toList.take (lo*sz)++cs++cur.toList.drop (lo*sz+cs.length)).toArray) (t':=some (g0,c)) (m':=m) (f':=cq f lo k g) hrel h.chg.valid (nm:=nm) (s:=sz) (e:=e0)
   (λb j hi=>NL (a:=⟨b,j,none⟩) (hother b (by rintro rfl;exact r7 j hi))) (.inr ⟨m,f,hown,zzL7 _,λ_=>hg.symm⟩)
   (λb hb hn=>hother b (by rintro rfl;exact hn c (by simp[hown]) hg)) rfl rfl rfl (by simp) (by simp) (λg' c' hgc=>?_) (λg' c' hgc=>?_)
  ·rwa[DR hg]at hk2
  ·simp only[Aj,Ms]at hgc;obtain⟨rfl,rfl⟩:=hgc
   have hlen:(cur.toList.take (lo*sz)++cs++cur.toList.drop (lo*sz+cs.length)).length=cur.size:=by
    simp only[Gk,GI,NM,LG];omega
   have hget:∀ j,((cur.toList.take (lo*sz)++cs++cur.toList.drop (lo*sz+cs.length)).toArray).getD j undef=if lo*sz<=j/\j<lo*sz+cs.length then cs.getD (j-lo*sz) undef else cur.getD j undef:=λj=>by
    have:=Jg undef cur.toList cs (lo*sz) j (by simpa using hfit)
    have e1:∀(l:List Value),(l.toArray).getD j undef=l.getD j undef:=λl=>by simp[Ss,List.getD]
    rw[e1,this]
    congr 1
    simp[Ss,List.getD]
   refine⟨_,LP w g0 cur _ e0 _ r1,r2,r3,by simp only[be];rw[hlen,r4],λi hi=>?_,λi j hi hj=>?_,r7⟩
   ·by_cases hin:lo<=i/\i<lo+k
    ·rw[fp f g hin];exact hwid _ (by omega)
    ·rw[HD f g hin];exact r5 i hi
   ·rw[hget]
    by_cases hin:lo<=i/\i<lo+k
    ·have h1:(i-lo)*sz+j<k*sz:=PC (by omega) hj
     have h2:i*sz+j=lo*sz+((i-lo)*sz+j):=by
      rw[<- Ut,<- E8]
      congr 2
      omega
     rw[if_pos (by rw[hcsl];omega),fp f g hin]
     have h3:i*sz+j-lo*sz=(i-lo)*sz+j:=by omega
     rw[h3]
     have hmem:cs.getD ((i-lo)*sz+j) undef∈cs:=by
      have:(i-lo)*sz+j<cs.length:=by rw[hcsl];exact h1
      simp[List.getD,this]
     exact⟨hone _ hmem,λhmono=>hmono _ _ (hrep (i-lo) j (by omega) hj)⟩
    ·have hout:¬ (lo*sz<=i*sz+j/\i*sz+j<lo*sz+cs.length):=by
      rw[hcsl,<- E8];rcases zzL136 i lo with hlt|hge
      ·have:(i+1)*sz<=lo*sz:=Em _ hlt;rw[E8]at this;omega
      ·have:(lo+k)*sz<=i*sz:=Em _ (by omega);omega
     rw[if_neg hout,HD f g hin];exact⟨(r6 i j hi hj).1,λhmono=>hmono _ _ (r6 i j hi hj).2⟩
  ·simp only[Aj,Ms]at hgc;obtain⟨rfl,rfl⟩:=hgc;exact .inr ⟨by simp[hown],c,hg⟩
theorem jj(h:Rel Γ σ I θ a w)(hd:∀ d,o.dst=some d->d<Γ.n){t t' e:TypeId}{x y:Operand}(ho:o.op = .call { callee:=.builtin .copy,args:=#[x,y],argTypes:=#[t,t'] })(hu:P.underlying t=some (.slice e))(hT:B8 P e=true)
  {dx:AV} {nm n lo hi sz m:Nat} {e0:TypeId} {f g:Nat->List AV} (hv:dx.view=some (nm,n,lo,hi)) (hx:Rep I σ.own θ w (a.eval x) dx) (hown:σ.own nm=some (.arr sz e0 m f)) (hn:n=m) (hsz:sz=A6 P e)
  {ad:Option Addr} {len cap:Nat} (hy:a.eval y = .slice ad len cap) {cs:List Value} (hs:nS P I σ.own θ w sz (Nat.min len (hi-lo)) (a.eval y) g cs) :
  Ee P Γ σ o a w (.int .i64 (Nat.min len (hi-lo):Nat)) [(nm,.arr sz e0 m (cq f lo (Nat.min len (hi-lo)) g))]:=by
 obtain⟨sz',e',m',f',ad',cap',hex,ho',hm,hlo,hhi,hcap,hmax,hnn,hvv⟩:=Sr h hv hx;rw[hown]at ho';simp only[Aj,Own.arr.injEq]at ho';obtain⟨rfl,rfl,rfl,rfl⟩:=ho';obtain⟨k,hk⟩:∃ k,k=Nat.min len (hi-lo):=⟨_,rfl⟩;rw[<- hk]at hs ⊢
 have hkl:k<=hi-lo:=by rw[hk];exact Nat.min_le_right _ _
 have key:=XX (P:=P) h hown hn hlo hhi (hvv hn) hkl hs.len hs.one hs.rep hs.wid;obtain⟨w',hst,hchg⟩:=key
 have hrun:(execOp a.eval o).run P w = .ok (.value (goInt k)) w':=by
  have hlenof:(Builtin.lenOf (a.eval y)).run P w = .ok len w:=by rw[hy];rfl
  have hfc:=hs.run;rw[hsz]at hfc
  have hcp:(Builtin.copy_ #[t,t'] o.type #[a.eval x,a.eval y]).run P w = .ok (goInt k) w':=by
   simp only[Builtin.copy_];simp[hex,Cl hu,hlenof,B0 hT,<- hk,hfc]
   cases ad' with
   | none=>simp at hst;subst hst;simp
   | some b=>simp only at hst;simp[hst]
  simp[execOp,ho,resolve,invoke,builtin,hcp]
 exact Jq (w':=w') (I':=I) (θ':=θ) h hd (v:=goInt k) hrun (by rw[Cd];exact hchg) (.val _ _ (.int _ _))
theorem pV(h:Rel Γ σ I θ a w)(hd:∀ d,o.dst=some d->d<Γ.n){t e:TypeId}{x:Operand}(ho:o.op = .call { callee:=.builtin .clear,args:=#[x],argTypes:=#[t] })(hu:P.underlying t=some (.slice e))
  {dx:AV} {nm n lo hi sz m:Nat} {e0:TypeId} {f:Nat->List AV} (hv:dx.view=some (nm,n,lo,hi)) (hx:Rep I σ.own θ w (a.eval x) dx) (hown:σ.own nm=some (.arr sz e0 m f)) (hn:n=m) (hsz:sz=A6 P e) {z:List AV} (hz:W7 P e=some z) (hzl:z.length=A6 P e) :
  Ee P Γ σ o a w .any [(nm,.arr sz e0 m (cq f lo (hi-lo) (λ_=>z)))]:=by
 obtain⟨sz',e',m',f',ad',cap',hex,ho',hm,hlo,hhi,hcap,hmax,hnn,hvv⟩:=Sr h hv hx;rw[hown]at ho';simp only[Aj,Own.arr.injEq]at ho';obtain⟨rfl,rfl,rfl,rfl⟩:=ho';obtain⟨i,v,hi',hzv,h1,rfl⟩:=Pw hz;have hzc:=I9 (I:=I) (w:=w) (σ:=σ) (θ:=θ) h1
 have hvs:v.cells.size=sz:=by rw[hsz];simpa using hzl
 have hcl:(Builtin.zeroCells v.cells (hi-lo)).toList.length=(hi-lo)*sz:=by simp[Builtin.zeroCells,hvs]
 have hget:∀ j,j<(hi-lo)*sz->(Builtin.zeroCells v.cells (hi-lo)).toList.getD j undef=v.cells.getD (j % sz) undef:=λj hj=>by
  have hs:0<sz:=by
   rcases zzL68 sz with h0|h0
   ·rw[h0]at hj;omega
   ·exact h0
  have hlt:j % sz<v.cells.size:=by rw[hvs];exact Nat.mod_lt _ hs
  simp only[Builtin.zeroCells,hvs];rw[show(Array.map (λi=>v.cells[i % sz]!) (Array.range ((hi-lo)*sz))).toList=(List.range ((hi-lo)*sz)).map (λi=>v.cells[i % sz]!) by simp,DE _ _ _ hj];simp[hlt]
 have key:=XX (P:=P) (k:=hi-lo) (g:=λ_=>v.cells.toList.map AV.ofCell) (cs:=(Builtin.zeroCells v.cells (hi-lo)).toList) h hown hn hlo hhi (hvv hn) (zzL7 _) hcl (λu hu=>by
   obtain⟨j,hj,rfl⟩:=Qw hu;have e1:=hget j (by rw[<- hcl];exact hj);rw[EU,Tf hj,GJ]at e1;rw[e1]
   have hs:0<sz:=by
    rcases zzL68 sz with h0|h0
    ·rw[hcl,h0]at hj;omega
    ·exact h0
   exact hzc.one _ (by rw[Ze];simpa [hvs] using Nat.mod_lt j hs))
  (λi c hi hc=>by
   rw[hget _ (PC hi hc),CO,Nat.mul_add_mod,Nat.mod_eq_of_lt hc]
   exact hzc.rep _ (by simpa [hvs] using hc))
  (λi hi=>by rw[hzl,hsz])
 obtain⟨w',hst,hchg⟩:=key
 have hrun:(execOp a.eval o).run P w = .ok (.value (.tuple #[])) w':=by
  have hcp:(Builtin.clear_ #[t] o.type #[a.eval x]).run P w = .ok (.tuple #[]) w':=by
   have hzr:=O1 (P:=P) hi' hzv w;rw[hex]
   cases hk:hi-lo with
   | zero=>
    have hcs:(Builtin.zeroCells v.cells (hi-lo)).toList=[]:=zzL109.1 (by rw[hcl,hk];simp);rw[hcs]at hst
    have:w'=w:=by cases ad'<;>simp[storeCells]at hst<;>exact hst.symm
    subst this
    cases ad'<;>simp[Builtin.clear_,Cl hu]
   | succ q=>
    cases had:ad' with
    | none=>have:=hnn had;omega
    | some b=>
     rw[had,hk]at hst;simp only at hst;simp[Builtin.clear_,Cl hu,hzr,hst]
  simp[execOp,ho,resolve,invoke,builtin,hcp]
 exact Jq (w':=w') (I':=I) (θ':=θ) h hd (v:=.tuple #[]) hrun (by rw[Cd];exact hchg) (.val _ _ (.any _))
theorem VR(h:Rel Γ σ I θ a w)(hd:∀ d,o.dst=some d->d<Γ.n){t e:TypeId}{x i:Operand}(ho:o.op = .indexAddr t x i)(hu:P.underlying t=some (.slice e))(ht:B8 P e=true)
  {nm n lo hi:Nat} {k:IntKind} {j:Int} (hx:Rep I σ.own θ w (a.eval x) (.vsub nm n lo hi)) (hi':Rep I σ.own θ w (a.eval i) (.int k j)) (hb:A5 j (hi-lo)) {sz m:Nat} {e':TypeId} {f:Nat->List AV} (hown:σ.own nm=some (.arr sz e' m f)) (hs:sz=A6 P e) :
  Ee P Γ σ o a w (.vpt nm n (lo+j.toNat) 0) []:=by
 obtain⟨hb0,hb1⟩:=hb;obtain⟨sz2,e2,m2,f2,ad,cap,he,ho',hm,hlo,hhi,hcap,hmax,hn,hv⟩:=hx.vsub_inv;rw[hown]at ho';obtain⟨rfl,rfl,rfl,rfl⟩:=ho';subst hs;have hi':=hi'.int_inv
 have hne:ad≠none:=λh=>by have:=hn h;omega
 obtain⟨b,rfl⟩:=Option.ne_none_iff_exists'.1 hne;refine Ax h hd (v:=.pointer (some (b.add (j.toNat*A6 P e)))) ?_ (.vpt nm _ _ _ f n _ _ _ hown hm (by omega) (λhnm=>?_))
 ·have hb2 :=hb1;simp[execOp,ho,he,hi',Instr.indexAt,asIntOf,Cl hu,hb0,hb2,B0 ht]
 ·obtain⟨g,c,hg,hb⟩:=(hv hnm).1 (by omega);simp only[Aj]at hb;subst hb;exact⟨g,c,hg,by rw[O3,Sv,E8]⟩
theorem SH(h:Rel Γ σ I θ a w){x:AV}{nm n l0 h0:Nat}(hv:x.view=some (nm,n,l0,h0)){ad:Option Addr}{len cap:Nat}(hx:Rep I σ.own θ w (.slice ad len cap) x){l k sz m:Nat}{e:TypeId}{f:Nat->List AV}(hown:σ.own nm=some (.arr sz e m f))(hlk:l<=k)(hk:l0+k<=h0)(hlen:len=h0-l0) :
  Rep I σ.own θ w (.slice (if cap=l then ad else ad.map (·.add (l*sz))) (k-l) (cap-l)) (.vsub nm n (l0+l) (l0+k)):=by
 obtain⟨sz',e',m',f',ad',cap',hex,ho,hm,hlo,hhi,hcap,hmax,hnn,hvv⟩:=Sr h hv hx;obtain⟨rfl,_,rfl⟩:=hex;rw[hown]at ho;obtain⟨rfl,rfl,rfl,rfl⟩:=ho
 have e1:k-l=(l0+k)-(l0+l):=by omega
 rw[e1];refine .vsub nm sz e m f n _ _ _ _ hown hm (by omega) (by omega) (by omega) (by omega) (λhnone=>?_) (λhnm=>⟨λhlt=>?_,λh00=>?_⟩)
 ·by_cases hc:cap=l
  ·omega
  ·simp_all
 ·obtain⟨g,c,hg,rfl⟩:=(hvv hnm).1 (by omega);refine⟨g,c,hg,?_⟩;rw[if_neg (by omega)];simp[O3,E8]
 ·have hz:=(hvv hnm).2 (by omega)
  have hl0:l=0:=by omega
  subst hl0
  cases hθ:θ nm with
  | none=>grind
  | some gc=>
   rw[hθ]at hz;obtain⟨rfl,hz⟩:=hz;refine⟨?_,by simpa using hz⟩
   by_cases hc:cap=0
   ·simp[hc]
   ·simp[ O3]
theorem te(h:Rel Γ σ I θ a w)(hd:∀ d,o.dst=some d->d<Γ.n){t el:TypeId}{y:Operand}{lo hi mx:Option Operand}(ho:o.op = .slice t y lo hi mx)(hu:P.underlying t=some (.slice el)){e:Eff}{x:AV}{vs:List AV}
  (hvs:RepL I σ.own θ w ([a.eval y]++(lo.map a.eval).toList++(hi.map a.eval).toList++(mx.map a.eval).toList) (x::vs)) (he:nf P t lo.isSome hi.isSome mx.isSome x vs=some e) (hob:∀ p∈e.ob,p)
  (hown:∀ nm n l0 h0,x.view=some (nm,n,l0,h0)->∃ sz e m f,σ.own nm=some (.arr sz e m f)/\sz=A6 P el) :
  e.wo=[]/\Ee P Γ σ o a w e.v []:=by
 unfold nf at he
 split at he
 ·rename_i el' nm n l0 h0 hu' hv
  rw[hu]at hu';simp only[Aj,TypeDesc.slice.injEq]at hu';subst hu';obtain⟨sz,e1,m,f,hown,rfl⟩:=hown nm n l0 h0 hv
  cases hT:B8 P el with
  | false=>simp[hT]at he
  | true=>
   simp only[hT,Ae]at he
   split at he
   ·rename_i k l h1 h2 h3
    cases lo<;>simp at h1
    cases hi<;>simp at h2
    cases mx<;>simp at h3
    obtain⟨p,q,e1,hy,hz⟩:=hvs.two;simp only[Dq,Bz]at e1;obtain⟨rfl,rfl⟩:=e1;simp only[Eff.pure,Aj]at he;subst he;obtain⟨hb0,hb1⟩:=hob _ (zzL24.2 rfl);obtain⟨_,_,_,_,ad,cap,hex,_,_,hlo,hhi,hcap,hmax,_⟩:=Sr h hv hy;rw[hex]at hy;have hl:=hz.int_inv;have hr:=Tu (P:=P) (a:=a) (w:=w) (l:=l.toNat) (h:=h0-l0) (m:=cap) ho hu hT hex (by simp[Instr.sliceBounds,hl,Ok (P:=P) w k l (h0-l0) _ hb0 (by omega)]);have hrep:=SH h hv hy (l:=l.toNat) (k:=h0-l0) hown (by omega) (by omega) rfl;rw[show l0+(h0-l0)=h0 by omega]at hrep;exact⟨rfl,Ax h hd hr hrep⟩
   ·rename_i k l h1 h2 h3
    cases lo<;>simp at h1
    cases hi<;>simp at h2
    cases mx<;>simp at h3
    obtain⟨p,q,e1,hy,hz⟩:=hvs.two;simp only[Dq,Bz]at e1;obtain⟨rfl,rfl⟩:=e1;simp only[Eff.pure,Aj]at he;subst he;obtain⟨hb0,hb1⟩:=hob _ (zzL24.2 rfl);obtain⟨_,_,_,_,ad,cap,hex,_,_,hlo,hhi,hcap,hmax,_⟩:=Sr h hv hy;rw[hex]at hy;have hl:=hz.int_inv;have hr:=Tu (P:=P) (a:=a) (w:=w) (l:=0) (h:=l.toNat) (m:=cap) ho hu hT hex (by simp[Instr.sliceBounds,hl,Ok (P:=P) w k l cap _ hb0 (by omega)]);have hrep:=SH h hv hy (l:=0) (k:=l.toNat) hown (by omega) (by omega) rfl;rw[Sv]at hrep;exact⟨rfl,Ax h hd hr hrep⟩
   ·rename_i k l k' m' h1 h2 h3
    cases lo<;>simp at h1
    cases hi<;>simp at h2
    cases mx<;>simp at h3
    obtain⟨p,q,u,e1,hy,hz,hz'⟩:=hvs.three;simp only[Dq,Bz]at e1;obtain⟨rfl,rfl,rfl⟩:=e1;simp only[Eff.pure,Aj]at he;subst he;obtain⟨hb0,hb1,hb2⟩:=hob _ (zzL24.2 rfl);obtain⟨_,_,_,_,ad,cap,hex,_,_,hlo,hhi,hcap,hmax,_⟩:=Sr h hv hy;rw[hex]at hy;have hl:=hz.int_inv;have hl':=hz'.int_inv;have hr:=Tu (P:=P) (a:=a) (w:=w) (l:=l.toNat) (h:=m'.toNat) (m:=cap) ho hu hT hex (by simp[Instr.sliceBounds,hl,hl',Ok (P:=P) w k l m'.toNat _ hb0 (by omega),Ok (P:=P) w k' m' cap _ (by omega) (by omega)]);have hrep:=SH h hv hy (l:=l.toNat) (k:=m'.toNat) hown (by omega) (by omega) rfl;exact⟨rfl,Ax h hd hr hrep⟩
   ·simp at he
 ·simp at he
end
theorem su(s:ByteArray)(i:Nat):(s.get! i).toNat=((Ck s).getD i 0).toNat:=by
 unfold Ck
 by_cases h:i<s.size
 ·have h':i<s.data.toList.length:=h;rw[List.getD,TD]
  have e:s.get! i=s.data.toList[i]:=by
   show s.data[i]! = _
   rw[getElem!_pos _ i h]
   rfl
  grind
 ·have h':¬ i<s.data.toList.length:=h;rw[List.getD,List.getElem?_eq_none (by grind)]
  have e:s.get! i=0:=by
   show s.data[i]! = _
   rw[getElem!_neg _ i h]
   rfl
  rw[e];rfl
theorem WR(s:ByteArray)(i:Nat):Utf8.decode s i=OT (Ck s) i:=by
 simp[OT,su,E4,Utf8.decode]
section
variable {P:Program} {Γ:Ix} {σ:Sto} {I:Nat->Nat->Prop} {θ:Nat->Option (Nat×Nat)} {a:Act} {w:World} {o:Oper}
theorem T8{own:Nat->Option Own}(hrel:K3 I own θ w)(hval:∀ b o,I b o->∃ u,w.cell? ⟨b,o,none⟩=some u){d:Nat}(hn:own d=none){ob:Obj}{x:AObj}(hc:ObjR I own θ w ob x) :
  Chg own θ I w (A0 own d (.obj x)) (thUp θ d (some (w.heap.size,0))) I (w.alloc ob):=by
 have hcell:∀ b o,I b o->(w.alloc ob).cell? ⟨b,o,none⟩=w.cell? ⟨b,o,none⟩:=λb o hi=>by
  grind [L4]
 have hle:∀ nm o,own nm=some o->∃ o',A0 own d (.obj x) nm=some o'/\OwnLe o (θ nm) o' (thUp θ d (some (w.heap.size,0)) nm):=λnm o ho=>by
  grind [thUp,A0,OwnLe.refl]
 have hmono:∀ v y,Rep I own θ w v y->Rep I _ _ _ v y:=λv y h=>h.mono (λ_ _ h=>h) hcell hle;refine{ imm:=λ_ _ h=>h,cell:=hcell,le:=hle,rel:=?_,valid:=λb o hi=>?_,os:=rfl,tape:=rfl,output:=rfl,drawn:=λ_=>zzL7 _,grow:=by simp,frame:=λb hb _=>NZ w _ hb,new:=λnm g c ho hg=>?_,immNew:=λb o h=>.inl h }
 ·refine Md hrel (·=d) hmono (λnm hne=>⟨by simp[A0,hne],by simp[thUp,hne]⟩) (λnm g c hne ho hg=>⟨NZ w _ (Ls hrel ho hg),λj h=>h⟩) ?_ ?_ ?_ (λ_ _ h h'=>h.trans h'.symm) (hobj:=?_)
  ·grind [A0]
  ·grind [A0]
  ·rintro nm nm' g c c' rfl hne _ ho' hg hg';simp only[thUp,Lz,Aj,Ms]at hg;have:=Ls hrel ho' hg';omega
  ·rintro nm y rfl ho;simp only[A0,Lz,Aj,Own.obj.injEq]at ho;subst ho;refine .inl ⟨w.heap.size,0,ob,by simp[thUp],EV w _,hc.mono hmono,λj hj=>?_⟩;obtain⟨u,hu⟩:=hval _ _ hj;exact FA _ (R6 hu)
 ·grind
 ·by_cases hne:nm=d
  ·grind [thUp]
  ·simp only[A0,hne]at ho
   grind [thUp]
def Uw(w:World)(g:Nat)(ob:Obj):World:={ w with heap:=w.heap.setIfInBounds g ob }
theorem GB(w:World)(g b:Nat)(ob:Obj)(h:b≠g):(Uw w g ob).heap[b]?=w.heap[b]?:=by
 grind [Uw]
theorem mI(w:World)(g:Nat)(ob:Obj)(h:g<w.heap.size):(Uw w g ob).heap[g]?=some ob:=by
 grind [Uw]
theorem T9{own:Nat->Option Own}(hrel:K3 I own θ w)(hval:∀ b o,I b o->∃ u,w.cell? ⟨b,o,none⟩=some u){d g c:Nat}{x:AObj}(hn:own d=some (.obj x))(hg:θ d=some (g,c)){ob:Obj}{y:AObj}(hc:ObjR I own θ w ob y) :
  Chg own θ I w (A0 own d (.obj y)) θ I (Uw w g ob):=by
 obtain⟨o0,h2,h3,h4⟩:∃ o,w.heap[g]?=some o/\ObjR I own θ w o x/\∀ j,¬ I g j:=by
  rcases hrel.obj d x hn with⟨g',c',o0,h1,h2,h3,h4⟩|⟨h1,_⟩
  ·grind
  grind
 have hlt:=HI h2
 have hcell:∀ b j,I b j->(Uw w g ob).cell? ⟨b,j,none⟩=w.cell? _:=λb j hi=>
  NL  (GB w g b ob (by grind))
 have hle:∀ nm' o,own nm'=some o->∃ o',A0 own d (.obj y) nm'=some o'/\OwnLe o (θ nm') o' (θ nm'):=λnm' o ho=>by
  by_cases hne:nm'=d
  ·subst hne;rw[hn]at ho;obtain rfl:=OI ho;exact⟨.obj y,by simp[A0],rfl⟩
  ·exact⟨o,by grind [A0],.refl _ _⟩
 have hmono:∀ v z,Rep I own θ w v z->Rep I _ θ _ v z:=λv z h=>h.mono (λ_ _ h=>h) hcell hle;refine{ imm:=λ_ _ h=>h,cell:=hcell,le:=hle,rel:=?_,valid:=λb j hi=>?_,os:=rfl,tape:=rfl,output:=rfl,drawn:=λ_=>zzL7 _,grow:=by simp[Uw],frame:=λb hb hn'=>GB w g b ob ?_,new:=λnm' g' c' ho hg'=>?_,immNew:=λb o h=>.inl h }
 ·refine Md hrel (·=d) hmono (λnm' hne=>⟨by simp[A0,hne],rfl⟩) (λnm' g' c' hne ho hg'=>⟨GB w g g' ob ?_,λj h=>h⟩) ?_ ?_ ?_ (λ_ _ h h'=>h.trans h'.symm) (hobj:=?_)
  ·rintro rfl;exact hne (hrel.inj nm' d _ _ _ ho (by simp[hn]) hg' hg)
  ·grind [A0]
  ·grind [A0]
  ·rintro nm' nm'' g' c1 c2 rfl hne _ ho' hg1 hg2;exact hne (hrel.inj nm'' nm' _ _ _ ho' (by simp[hn]) hg2 hg1)
  ·rintro nm' z rfl ho;simp only[A0,Lz,Aj,Own.obj.injEq]at ho;subst ho;exact .inl ⟨g,c,ob,hg,mI w g ob hlt,hc.mono hmono,h4⟩
 ·grind
 ·grind
 grind [A0]
theorem MU(h:Rel Γ σ I θ a w)(hd:∀ d,o.dst=some d->d<Γ.n){t e:TypeId}(ho:o.op = .alloc t){d:Nat}(hdst:o.dst=some d)(hn:σ.own d=none){z:List AV}(hz:W7 P t=some z){len:Nat}
  (h1:1<=len) (hzl:z.length=len*A6 P e) (hr:len<=room):Ee P Γ σ o a w (.vpt d len 0 0) [(d,.arr (A6 P e) t len (λi=>(z.drop (i*A6 P e)).take (A6 P e)))]:=by
 obtain⟨i,v,hi,hv,hone,rfl⟩:=Pw hz;have hzc:=I9 (I:=I) (w:=w) (σ:=σ) (θ:=θ) hone
 have hsz :=by simpa using hzl
 have hk:=N5 (w':=w.alloc (.cells v.cells t)) (t':=some (w.heap.size,len)) (m':=len) (f':=λi=>((v.cells.toList.map AV.ofCell).drop (i*A6 P e)).take (A6 P e)) (nm:=d) (s:=A6 P e) (e:=t) h.chg.rel h.chg.valid
  (λb o hi=>by obtain⟨u,hu⟩:=h.chg.valid b o hi;exact L4 _ hu) (.inl hn) (λb hb _=>NZ w _ hb) rfl rfl rfl (by simp) (by simp) (λg c' hgc=>?_) (λg c' hgc=>?_)
 ·refine Jq h hd (v:=.pointer (some ⟨w.heap.size,0,none⟩)) ?_ (by rw[Cd];exact hk) ?_
  ·simp_all [newRow,execOp,newVar,Instr.alloc,O1]
  ·rw[Cd];refine .vpt d (A6 P e) t len _ len 0 0 _ (by simp[A0];rfl) (zzL7 _) h1 (λ_=>⟨w.heap.size,len,by simp[thUp],by simp⟩)
 ·obtain⟨rfl,rfl⟩:=hgc
  have hchunk:∀ i',i'<len->i'*A6 P e+A6 P e<=len*A6 P e:=λi' hi'=>by
   have:(i'+1)*A6 P e<=len*A6 P e:=Em _ hi'
   grind
  refine⟨_,EV w _,zzL7 _,by grind [room,maxLen],hsz,λi' hi'=>?_,λi' j' hi' hj'=>?_,λj hj=>?_⟩
  ·grind
  ·have e1:(((v.cells.toList.map AV.ofCell).drop (i'*A6 P e)).take (A6 P e)).getD j' .any=(v.cells.toList.map AV.ofCell).getD (i'*A6 P e+j') .any:=by
    grind
   exact⟨hzc.one _ (by grind),λhmono=>by rw[e1];exact hmono _ _ (hzc.rep _ (by grind))⟩
  ·obtain⟨u,hu⟩:=h.chg.valid _ _ hj;exact FA _ (R6 hu)
 grind
theorem XO(h:Rel Γ σ I θ a w)(hd:∀ d,o.dst=some d->d<Γ.n){t e:TypeId}{x:Operand}(ho:o.op = .box t x){d:Nat}(hdst:o.dst=some d)(hn:σ.own d=none){cs:List AV}(hx:Rep I σ.own θ w (a.eval x) (.agg cs)){len:Nat}
  (h1:1<=len) (hzl:cs.length=len*A6 P e) (hr:len<=room):Ee P Γ σ o a w (.vpt d len 0 0) [(d,.arr (A6 P e) t len (λi=>(cs.drop (i*A6 P e)).take (A6 P e)))]:=by
 have hzc:=L1   rfl hx
 have hsz:(a.eval x).cells.size=len*A6 P e:=by rw[hzc.size,hzl]
 have hk:=N5 (w':=w.alloc (.cells (a.eval x).cells t)) (t':=some (w.heap.size,len)) (m':=len) (f':=λi=>(cs.drop (i*A6 P e)).take (A6 P e))  (s:=A6 P e) (e:=t) h.chg.rel h.chg.valid
  (λb o hi=>by obtain⟨u,hu⟩:=h.chg.valid b o hi;exact L4 _ hu) (.inl hn) (λb hb _=>NZ w _ hb) rfl rfl rfl (by simp) (by simp) (λg c' hgc=>?_) (λg c' hgc=>?_)
 ·refine Jq h hd (v:=.pointer (some ⟨w.heap.size,0,none⟩)) ?_ (by rw[Cd];exact hk) ?_
  ·simp[execOp,ho,Instr.box,newVar,newRow]
  ·rw[Cd];refine .vpt d (A6 P e) t len _ len 0 0 _ (by simp[A0];rfl) (zzL7 _) h1 (λ_=>⟨w.heap.size,len,by simp[thUp],by simp⟩)
 ·obtain⟨rfl,rfl⟩:=hgc
  have hchunk:∀ i',i'<len->i'*A6 P e+A6 P e<=len*A6 P e:=λi' hi'=>by
   have:(i'+1)*A6 P e<=len*A6 P e:=Em _ hi'
   grind
  refine⟨_,EV w _,zzL7 _,by grind [room,maxLen],hsz,λi' hi'=>?_,λi' j' hi' hj'=>?_,λj hj=>?_⟩
  ·grind
  ·have e1:((cs.drop (i'*A6 P e)).take (A6 P e)).getD j' .any=cs.getD (i'*A6 P e+j') .any:=by
    grind
   exact⟨hzc.one _ (by grind),λhmono=>by rw[e1];exact hmono _ _ (hzc.rep _ (by grind))⟩
  ·obtain⟨u,hu⟩:=h.chg.valid _ _ hj;exact FA _ (R6 hu)
 grind
theorem df(h:Rel Γ σ I θ a w)(hd:∀ d,o.dst=some d->d<Γ.n){t:TypeId}{len:Nat}{parts:Array (Nat×Operand)}(ho:o.op = .buildSlice t len parts){d:Nat}(hdst:o.dst=some d)(hn:σ.own d=none){is:List Nat}{vs:List AV}
  (hp:Uy I σ.own θ w (parts.toList.map λp=>(p.1,a.eval p.2)) (is.zip vs)) {e:Eff} (he:JK P t len is vs d=some e):Ee P Γ σ o a w e.v e.wo:=by
 unfold JK at he
 split at he
 ·rename_i el hu
  split at he
  ·rename_i z hz
   cases hb:(B8 P el&&Nat.beq z.length (A6 P el)&&Nat.ble 1 (A6 P el)&&Nat.ble (len*A6 P el) 16777216) with
   | false=>grind
   | true=>
    simp only[hb,Ae]at he;simp only[Be]at hb;obtain⟨⟨⟨hT,hzl⟩,h1⟩,hmax⟩:=hb;have hzl:=Cq hzl;have h1:=K1 h1;have hmax:=K1 hmax
    split at he
    ·rename_i cs hfill
     simp only[Aj]at he;subst he;obtain⟨i,v,hi,hv,hone,rfl⟩:=Pw hz;have hcells:=Yz (I9 (I:=I) (σ:=σ) (θ:=θ) (w:=w) hone) len (A6 P el) hzl h1;obtain⟨vs',hfi,hok⟩:=Xo _ hp hcells hfill;have hlen:=Xn _ _ _ _ hfill
     have hzl':v.cells.size=A6 P el:=by simpa using hzl
     have hcl:cs.length=len*A6 P el:=by rw[hlen];simp[hzl']
     have hlm:len<=maxLen:=by
      have:len*1<=len*A6 P el:=Nat.mul_le_mul_left _ h1;unfold maxLen;omega
     have hvs:vs'.size=len*A6 P el:=by rw[hok.size,hcl]
     have hrun:(execOp a.eval o).run P w = .ok (.value (.slice (some ⟨w.heap.size,0,none⟩) len len)) (w.alloc (.cells vs' el)):=by
      have e2:(parts.map λx=>(x.1,a.eval x.2)).toList=parts.toList.map λp=>(p.1,a.eval p.2):=by simp
      have hm2:¬ (len*A6 P el>2 ^ 24):=by omega
      by_cases h0:len*A6 P el=0
      ·have e3:(Array.range (len*A6 P el)).map (v.cells[· % v.cells.size]!)=(Array.range (len*A6 P el)).map ((#[]:Array Value)[· % (#[]:Array Value).size]!):=by
        rw[h0];simp
       rw[e3]at hfi;simp only[execOp,ho,Instr.buildSlice,Ed,Fh,Cl hu,B0 hT,if_neg hm2,if_pos h0,Hb,e2,hfi]
       rfl
      ·simp only[execOp,ho,Instr.buildSlice,Ed,Fh,Cl hu,B0 hT,if_neg hm2,if_neg h0,O1 hi hv,Hb,e2,hfi]
       rfl
     have hk:=N5 (w':=w.alloc (.cells vs' el)) (t':=some (w.heap.size,len)) (m':=len) (f':=λi=>(cs.drop (i*A6 P el)).take (A6 P el)) (nm:=d) (s:=A6 P el) (e:=el) h.chg.rel h.chg.valid
      (λb o hi=>by obtain⟨u,hu⟩:=h.chg.valid b o hi;exact L4 _ hu) (.inl hn) (λb hb _=>NZ w _ hb) rfl rfl rfl (by simp) (by simp) (λg c' hgc=>?_) (λg c' hgc=>?_)
     ·refine Jq h hd hrun (by rw[Cd];exact hk) ?_;rw[Cd];refine .vsl d (A6 P el) el len _ (some ⟨w.heap.size,0,none⟩) len len (by simp[A0];rfl) (zzL7 _) (zzL7 _) hlm (λh=>by cases h) (λ_=>?_);simp[thUp]
     ·simp only[Aj,Ms]at hgc;obtain⟨rfl,rfl⟩:=hgc
      have hchunk:∀ i',i'<len->i'*A6 P el+A6 P el<=len*A6 P el:=λi' hi'=>by
       have:(i'+1)*A6 P el<=len*A6 P el:=Em _ hi'
       grind
      refine⟨_,EV w _,zzL7 _,hlm,hvs,λi' hi'=>?_,λi' j' hi' hj'=>?_,λj hj=>?_⟩
      ·grind
      ·have:=hchunk i' hi'
       have e1:((cs.drop (i'*A6 P el)).take (A6 P el)).getD j' .any=cs.getD (i'*A6 P el+j') .any:=by
        rw[List.getD,List.getElem?_take,if_pos hj',List.getElem?_drop,List.getD]
       exact⟨hok.one _ (by omega),λhmono=>by rw[e1];exact hmono _ _ (hok.rep _ (by omega))⟩
      ·obtain⟨u,hu⟩:=h.chg.valid _ _ hj;exact FA _ (R6 hu)
     grind
    grind
  grind
 grind
theorem VQ(h:Rel Γ σ I θ a w)(hd:∀ d,o.dst=some d->d<Γ.n){t e:TypeId}{len:Nat}{x i:Operand}(ho:o.op = .indexAddr t x i)(hu:P.underlying t=some (.array len e))(ht:B8 P e=true)
  {nm:Nat} {k:IntKind} {j:Int} (hx:Rep I σ.own θ w (a.eval x) (.vpt nm len 0 0)) (hi:Rep I σ.own θ w (a.eval i) (.int k j)) (hb:A5 j len) {sz:Nat} {e':TypeId} {m:Nat} {f:Nat->List AV} (hown:σ.own nm=some (.arr sz e' m f)) (hsz:sz=A6 P e) :
  Ee P Γ σ o a w (.vpt nm len j.toNat 0) []:=by
 obtain⟨hb0,hb1⟩:=hb;obtain⟨sz2,e2,m2,f2,ad,he,ho2,hm,hi0,hv⟩:=hx.vpt_inv;rw[hown]at ho2;obtain⟨rfl,rfl,rfl,rfl⟩:=ho2;have hi':=hi.int_inv;refine Ax h hd (v:=.pointer (some (ad.add (j.toNat*A6 P e)))) ?_ (.vpt nm _ e' m f len _ _ _ hown hm (by omega) (λhnm=>?_))
 ·simp[execOp,ho,he,hi',Instr.indexAt,Instr.sureAddr,asIntOf,Cl hu,hb0,hb1,B0 ht]
 grind [O3]
theorem HY(h:Rel Γ σ I θ a w)(hd:∀ d,o.dst=some d->d<Γ.n){t e:TypeId}{len:Nat}{x i:Operand}(ho:o.op = .indexAddr t x i)(hu:P.underlying t=some (.array len e))(ht:B8 P e=true)
  {nm n p q:Nat} {k:IntKind} {j:Int} (hx:Rep I σ.own θ w (a.eval x) (.vpt nm n p q)) (hi:Rep I σ.own θ w (a.eval i) (.int k j)) (hb:A5 j len):Ee P Γ σ o a w (.vpt nm n p (q+j.toNat*A6 P e)) []:=by
 obtain⟨hb0,hb1⟩:=hb;obtain⟨sz2,e2,m2,f2,ad,he,ho2,hm,hi0,hv⟩:=hx.vpt_inv;have hi':=hi.int_inv;refine Ax h hd (v:=.pointer (some (ad.add (j.toNat*A6 P e)))) ?_ (.vpt nm _ _ m2 f2 n _ _ _ ho2 hm hi0 (λhnm=>?_))
 ·simp[execOp,ho,he,hi',Instr.indexAt,Instr.sureAddr,asIntOf,Cl hu,hb0,hb1,B0 ht]
 grind [O3]
theorem EQ{I:Nat->Nat->Prop}{own:Nat->Option Own}{θ:Nat->Option (Nat×Nat)}{w:World}{v:Value}{sz n:Nat}{f:Nat->List AV}{t:Tag}(h:Rep I own θ w v (.slice sz n f t)) :
  ∃ a cap,v = .slice a n cap/\(a=none->n=0):=by
 have key:∀{v:Value},RepV I w v (.slice sz n f _)->∃ a cap,v = .slice a n cap/\(a=none->n=0):=λh=>by
  cases h with
  | slice a _ cap _ _ us hcap hmax hz hn h1 hl hr=>grind
 cases h with
 | val v x h=>cases h with
  | slice a _ cap _ _ us hcap hmax hz hn h1 hl hr=>grind
 | exact a _ _ _ h=>grind
 | own nm _ e m a _ cap _ ho hm hv h=>grind
 | fam b i _ e m a _ cap _ hi ho hm hv h=>grind
theorem WB(s:ByteArray)(k:Nat)(hk:k<(Ck s).length):(Lib.strCells s).getD k undef = .int .u8 ((Ck s).getD k 0):=by
 grind [List.getD,TD,Ck,Tf,Lib.strCells]
theorem ga(h:Rel Γ σ I θ a w)(hd:∀ d,o.dst=some d->d<Γ.n){xs:Array Operand}{x y:Operand}{ts:Array TypeId}(ho:o.op = .call { callee:=.builtin .append,args:=xs,argTypes:=ts })(hxs:xs.toList=[x,y])
  {vs:List AV} {es:List (Option Own)} (hvs:RepL I σ.own θ w [a.eval x,a.eval y] vs) (hes:es=(De o vs).map σ.own) {d:Nat} (hdst:o.dst=some d) {e:Eff} (he:PS P d ts.toList vs es=some e) (hob:∀ p∈e.ob,p) :
  Ee P Γ σ o a w e.v e.wo:=by
 obtain⟨u,v,rfl,hu,hv⟩:=hvs.two;unfold PS at he
 split at he
 ·rename_i _ _ _ t t' sz n f tag s eo hts hvv
  simp only[Dq,Bz]at hvv;obtain⟨rfl,rfl⟩:=hvv
  split at he
  ·rename_i el hun hun'
   generalize hcond:(xX P el&&Nat.ble (((P.info? el).map (·.bytes)).getD 1000) 128&&(match(P.info? el).bind (·.zero) with|some (.int .u8 0)=>true|_=>false)&&(Nat.beq sz 1 || Nat.beq n 0))=cond0 at he
   cases cond0 with
   | false=>simp at he
   | true=>
    simp only[Ae]at he;simp only[Be]at hcond;obtain⟨⟨⟨h8,hby⟩,hzz⟩,hsz⟩:=hcond
    have hT:B8 P el=true/\A6 P el=1:=by
     unfold xX at h8
     split at h8
     ·simp_all
     ·cases h8
    obtain⟨i,dd,hi,_,hsi⟩:=BC hT.1;have hs1:i.size=1:=hsi.symm.trans hT.2
    have hz:i.zero=some (.int .u8 0):=by
     rw[hi,Ai]at hzz
     split at hzz
     ·assumption
     ·cases hzz
    simp only[hi,LL,GJ]at hby
    have hby:=K1 hby
    obtain⟨b,hb,rfl⟩:=hv.str_inv;have hlen:(Ck b).length=b.size:=E4 b;have hV:=BS hu.slice_val (KV hsz)
    obtain rfl:ts = #[t,t']:=by grind
    obtain rfl:xs = #[x,y]:=by grind
    have hV:RepV I w (a.eval x) (.slice i.size n f .none):=by rw[hs1];exact hV
    have hl':(Lib.strCells b).length=(Ck b).length*i.size:=by rw[Lib.strCells_length,hlen,hs1,Ys]
    have hf':∀ k,k<(Ck b).length->(uH (Ck b) k).length=i.size:=λk _=>by rw[hs1];rfl
    have hr':∀ k c,k<(Ck b).length->c<i.size->RepV I w ((Lib.strCells b).getD (k*i.size+c) undef) ((uH (Ck b) k).getD c .any):=λk c hk hc=>by
     rw[hs1]at hc
     obtain rfl:c=0:=by omega
     rw[hs1,Ys,Sv,WB b k hk];exact .int _ _
    have hruns:=λ(hroom:n+b.size<=room) (ad:Option Addr) (cap:Nat) (cs:List Value) (hl:cs.length=n*i.size) (hcap:n<=cap) (hnn:ad=none->cap=0) (hc:0<n->∃ b,ad=some b/\∀ j u,cs[j]?=some u->w.cell? (b.add j)=some u)=>
     AA (P:=P) (w:=w) (n:=n) (cap:=cap) (ad:=ad) (cs:=cs) o.type hun hun' hi hz hs1 b hl hcap hnn hc hroom hby
    rw[<- hlen,<- hb]at hruns
    have hexec:∀ v w',(Builtin.append_ #[t,t'] o.type #[a.eval x,a.eval y]).run P w = .ok v w'->(execOp a.eval o).run P w = .ok (.value v) w':=λv w' hr=>by
     simp[execOp,ho,resolve,invoke,builtin,hr]
    split at he
    ·rename_i nm sz0 e0 m
     cases hc0:(Nat.beq sz0 1&&Nat.beq e0 el) with
     | false=>grind
     | true=>
      simp only[hc0,Ae,Aj]at he;subst he;simp only[Be]at hc0;obtain rfl:=Cq hc0.1;obtain rfl:=Cq hc0.2;have hmn:m=n:=hob _ (by simp);have hroom:n+(Ck b).length<=room:=hob _ (by simp);subst hmn
      have hown:σ.own nm=some (.tok i.size e0 m):=by
       rw[hs1]
       simpa [De,ho] using hes.symm
      have hown1:σ.own nm=some (.tok 1 e0 m):=by rw[hown,hs1]
      have hcase:=hu.own_inv hown1;obtain⟨v',w',I',θ',hr,hk,hrep⟩:=U1 (P:=P) h o.type hun hi hz (by rw[hs1];rfl) hby hV hl' (Lib.strCells_oneCell b) hf' hr' hroom (hruns hroom) nm (λhn=>by grind) (.inr ⟨hown,hcase⟩);rw[hs1]at hk hrep;exact Jq h hd (hexec _ _ hr) (by rw[Cd];exact hk) (by grind [Cd])
    ·simp only[Aj]at he;subst he;have hroom:n+(Ck b).length<=room:=hob _ (by simp)
     have hown:σ.own d=none:=by
      simpa [De,ho,hdst] using hes.symm
     have hcase:=hu.exact_inv;obtain⟨v',w',I',θ',hr,hk,hrep⟩:=U1 (P:=P) h o.type hun hi hz (by rw[hs1];rfl) hby hV hl' (Lib.strCells_oneCell b) hf' hr' hroom (hruns hroom) d (λ_=>hob _ (by simp)) (.inl ⟨hown,hcase⟩);rw[hs1]at hk hrep;exact Jq h hd (hexec _ _ hr) (by rw[Cd];exact hk) (by grind [Cd])
    grind
  grind
 grind
theorem Vn{t e:TypeId}{x:Addr}(ht:P.underlying t=some (.pointer e)):(Op.equal t (.pointer (some x)) (.pointer none)).run P w = .ok false w:=by
 have h:∀ d ,(Op.equalIn (d+1) t (.pointer (some x)) (.pointer none)).run P w = .ok false w:=λd=>by simp[Op.equalIn,Cl ht]
 exact h _
theorem Vm{t e:TypeId}(ht:P.underlying t=some (.pointer e)):(Op.equal t (.pointer none) (.pointer none)).run P w = .ok true w:=by
 have h:∀ d ,(Op.equalIn (d+1) t (.pointer none) (.pointer none)).run P w = .ok true w:=λd=>by simp[Op.equalIn,Cl ht]
 exact h _
theorem BZ{t:TypeId}{ms:Array (String×TypeId)}(ht:P.underlying t=some (.interface ms)):(Op.equal t .nilIface .nilIface).run P w = .ok true w:=by
 have h:∀ d ,(Op.equalIn (d+1) t .nilIface .nilIface).run P w = .ok true w:=λd=>by simp[Op.equalIn,Cl ht]
 exact h _
theorem BX{t u:TypeId}{x:Value}{ms:Array (String×TypeId)}(ht:P.underlying t=some (.interface ms)):(Op.equal t (.iface u x) .nilIface).run P w = .ok false w:=by
 have h:∀ d ,(Op.equalIn (d+1) t (.iface u x) .nilIface).run P w = .ok false w:=λd=>by simp[Op.equalIn,Cl ht]
 exact h _
theorem cU(h:Rel Γ σ I θ a w)(hd:∀ d,o.dst=some d->d<Γ.n){vs:List AV}(hvs:RepL I σ.own θ w (o.op.operands.toList.map a.eval) vs){es:List (Option Own)}(hes:es=(De o vs).map σ.own)
  {hint:Bool} {e:Eff} (he:nv P hint o vs es=some e) (hob:∀ p∈e.ob,p):Ee P Γ σ o a w e.v e.wo:=by
 unfold nv at he
 split at he
 ·
  rename_i t x s ho
  simp only[ho,Op.operands,Cy,Dn]at hvs;obtain⟨u,hu',hu⟩:=hvs.one;simp only[Dq,Bz]at hu';subst hu'
  split at he
  ·rename_i d hdst hty
   simp only[Aj]at he;subst he
   have hn:σ.own d=none:=by simpa [De,ho,hdst] using hes.symm
   obtain⟨b,hb,rfl⟩:=hu.str_inv;have k:=T8 h.chg.rel h.chg.valid hn (ob:=.stringIter b 0) (.iter b 0);refine Jq h hd (v:=.pointer (some ⟨w.heap.size,0,none⟩)) (w':=w.alloc (.stringIter b 0)) ?_ (by rw[Cd];exact k) ?_
   ·simp only[execOp,ho,hb];rw[show(Instr.range t (.string b))=Instr.range t (.string b) from rfl];simp[Instr.range,Cl hty]
   ·rw[Cd];exact .optr d d (.iter (Ck b) 0) w.heap.size 0 (by simp[A0]) (by simp[thUp])
  grind
 ·
  rename_i x nm mm l p ho
  simp only[ho,Op.operands,Cy,Dn]at hvs;obtain⟨u,hu',hu⟩:=hvs.one;simp only[Dq,Bz]at hu';subst hu';simp only[Aj]at he;subst he
  have hown:σ.own nm=some (.obj (.iter l p)):=by simpa [De,ho] using hes.symm
  obtain⟨y,g,c,ho',hg,hv⟩:=hu.optr_inv
  obtain⟨ob,h2,h3⟩:∃ ob,w.heap[g]?=some ob/\ObjR I σ.own θ w ob (.iter l p):=by
   rcases h.chg.rel.obj nm _ hown with⟨g',c',ob,h1,h2,h3,h4⟩|⟨h1,_⟩
   ·grind
   grind
  cases h3 with
  | iter s=>
   have hsz:(Ck s).length=s.size:=E4 s
   by_cases hp:p<s.size
   ·have hb:Nat.blt p (Ck s).length=true:=by rw[hsz,K2];exact hp
    have k:=T9 h.chg.rel h.chg.valid hown hg (ob:=.stringIter s (p+(Utf8.decode s p).2)) (.iter s (p+(Utf8.decode s p).2))
    have es:eO (Ck s) p=p+(Utf8.decode s p).2:=by unfold eO;grind [WR]
    rw[es,hb];refine Jq h hd (v:=.tuple #[.bool true,.int .i64 p,.int .i32 (pz (Ck s) p)]) (w':=Uw w g (.stringIter s (p+(Utf8.decode s p).2))) ?_ (by rw[Cd];exact k) (.val _ _ (.nxt1 _ _));simp only[execOp,ho,hv];simp[Instr.next,getObj,setObj,Sem.run,h2,hp,goInt,Uw,pz,WR]
   ·have hb:Nat.blt p (Ck s).length=false:=by
     cases hq:Nat.blt p (Ck s).length with
     | false=>rfl
     | true=>rw[K2,hsz]at hq;exact absurd hq hp
    have es:eO (Ck s) p=p:=by unfold eO;rw[hb,An]
    rw[es,hb]
    have hup:A0 σ.own nm (.obj (.iter (Ck s) p))=σ.own:=by
     funext k
     simp only[A0]
     split
     ·rename_i e;rw[e,hown]
     ·rfl
    refine Jq h hd (v:=.tuple #[.bool false]) (w':=w) (I':=I) (θ':=θ) ?_ (by rw[Cd,hup];exact .refl h.chg.rel h.chg.valid) (.val _ _ (.nxt0 _ _));simp only[execOp,ho,hv];simp[Instr.next,getObj,Sem.run,h2,hp]
 ·
  rename_i t ho
  split at he
  ·rename_i d len e0 z hdst hun hz
   have hn:σ.own d=none:=by simpa [De,ho,hdst] using hes.symm
   cases hb:(hint&&B8 P e0&&Nat.ble 1 len&&Nat.beq z.length (len*A6 P e0)&&Nat.ble len room) with
   | false=>grind
   | true=>
    simp only[hb,Ae,Aj]at he;subst he;simp only[Be]at hb
    grind [K1,Cq,MU]
  ·rename_i d fs z hdst hun hz
   have hn:σ.own d=none:=by simpa [De,ho,hdst] using hes.symm
   cases hb:(hint&&Nat.blt 500 (A6 P t)&&Nat.beq z.length (1*A6 P t)) with
   | false=>rw[hb]at he;cases he
   | true=>
    simp only[hb,Ae,Aj]at he;subst he;simp only[Be]at hb;exact MU (e:=t) h hd ho hdst hn hz (zzL7 _) (Cq hb.2) (by decide)
  grind
 ·
  rename_i t x cs ho
  simp only[ho,Op.operands,Cy,Dn]at hvs;obtain⟨u,hu',hu⟩:=hvs.one;simp only[Dq,Bz]at hu';subst hu'
  split at he
  ·rename_i d len e0 hdst hun
   have hn:σ.own d=none:=by simpa [De,ho,hdst] using hes.symm
   cases hb:(hint&&B8 P e0&&Nat.ble 1 len&&Nat.beq cs.length (len*A6 P e0)&&Nat.ble len room) with
   | false=>grind
   | true=>
    simp only[hb,Ae,Aj]at he;subst he;simp only[Be]at hb
    grind [K1,XO,Cq]
  ·rename_i d fs hdst hun
   have hn:σ.own d=none:=by simpa [De,ho,hdst] using hes.symm
   cases hb:(hint&&Nat.blt 500 (A6 P t)&&Nat.beq cs.length (1*A6 P t)) with
   | false=>rw[hb]at he;cases he
   | true=>
    simp only[hb,Ae,Aj]at he;subst he;simp only[Be]at hb;exact XO (e:=t) h hd ho hdst hn hu (zzL7 _) (Cq hb.2) (by decide)
  grind
 ·
  rename_i t x y nm n k i sz e' m f ho
  simp only[ho,Op.operands,Cy,Dn]at hvs;obtain⟨u,v,hu',hu,hv⟩:=hvs.two;simp only[Dq,Bz]at hu';obtain⟨rfl,rfl⟩:=hu'
  have hown:σ.own nm=some (.arr sz e' m f):=by simpa [De,ho] using hes.symm
  split at he
  ·rename_i len e0 hun
   cases hB:Nat.blt 500 sz with
   | true=>
    cases hT:B8 P e0 with
    | false=>simp[hB,hT]at he
    | true=>
     simp only[hB,hT,Ae,Eff.pure,Aj]at he;subst he;exact HY h hd ho hun hT hu hv (hob _ (by simp))
   | false=>
   simp only[hB,An]at he
   cases hb:(B8 P e0&&Nat.beq n len&&Nat.beq sz (A6 P e0)) with
   | false=>grind
   | true=>
    simp only[hb,Ae,Eff.pure,Aj]at he;subst he;simp only[Be]at hb;obtain rfl:=Cq hb.1.2;exact VQ h hd ho hun hb.1.1 hu hv (hob _ (by simp)) hown (Cq hb.2)
  grind
 ·
  rename_i t x y nm n p q k i sz e' m f hnp ho
  simp only[ho,Op.operands,Cy,Dn]at hvs;obtain⟨u,v,hu',hu,hv⟩:=hvs.two;simp only[Dq,Bz]at hu';obtain⟨rfl,rfl⟩:=hu'
  split at he
  ·rename_i len e0 hun
   cases hB:(Nat.blt 500 sz&&B8 P e0) with
   | false=>simp[hB]at he
   | true=>
    simp only[hB,Ae,Eff.pure,Aj]at he;subst he;simp only[Be]at hB;exact HY h hd ho hun hB.2 hu hv (hob _ (by simp))
  ·simp at he
 ·
  rename_i x b i r ho
  simp only[ho,Op.operands,Cy,Dn]at hvs;obtain⟨u,hu',hu⟩:=hvs.one;simp only[Dq,Bz]at hu';subst hu';simp only[Eff.pure,Aj]at he;subst he;rcases hu.nxt_inv with⟨rfl,hv⟩|⟨rfl,hv⟩<;>exact Ax h hd (by simp[execOp,ho,hv,Instr.extract]) (.val _ _ (.bool _))
 ·
  rename_i x b i r ho
  simp only[ho,Op.operands,Cy,Dn]at hvs;obtain⟨u,hu',hu⟩:=hvs.one;simp only[Dq,Bz]at hu';subst hu';simp only[Eff.pure,Aj]at he;subst he;rcases hu.nxt_inv with⟨rfl,hv⟩|⟨hb,hv⟩
  ·exact Ax h hd (by simp[execOp,ho,hv,Instr.extract]) (.val _ _ (.int _ _))
  simp_all
 ·
  rename_i x b i r ho
  simp only[ho,Op.operands,Cy,Dn]at hvs;obtain⟨u,hu',hu⟩:=hvs.one;simp only[Dq,Bz]at hu';subst hu';simp only[Eff.pure,Aj]at he;subst he;rcases hu.nxt_inv with⟨rfl,hv⟩|⟨hb,hv⟩
  ·exact Ax h hd (by simp[execOp,ho,hv,Instr.extract]) (.val _ _ (.int _ _))
  simp_all
 ·
  rename_i xs ts sz n f tg s eo ho
  split at he
  ·rename_i d hdst
   have this:o.op.operands.toList.map a.eval=xs.toList.map a.eval:=by rw[ho];simp[Op.operands,Call.operands]
   rw[this]at hvs
   cases hl:xs.toList with
   | nil=>rw[hl]at hvs;cases hvs
   | cons x l=>
    cases l with
    | nil=>rw[hl]at hvs;trivial
    | cons y l'=>
     cases l' with
     | nil=>grind [ga]
     | cons _ _=>rw[hl]at hvs;trivial
  grind
 ·
  rename_i t x y b u' ho
  simp only[ho,Op.operands,Cy,Dn]at hvs;obtain⟨u,v,hu',hu,hv⟩:=hvs.two;simp only[Dq,Bz]at hu';obtain⟨rfl,rfl⟩:=hu'
  split at he
  ·rename_i ms hun
   simp only[Eff.pure,Aj]at he;subst he;have he:a.eval (.const .nilIface) = .nilIface:=rfl;rcases hu.err_inv with⟨rfl,hv⟩|⟨rfl,t',z,hv⟩
   ·exact Ax h hd (v:=.bool true) (by simp_all [BZ,execOp,eqGuard_nil_constR,binOp]) (.val _ _ (.bool _))
   ·exact Ax h hd (v:=.bool false) (by simp_all [eqGuard_at_iface,execOp,binOp,BX]) (.val _ _ (.bool _))
  grind
 ·
  rename_i t x y b u' ho
  simp only[ho,Op.operands,Cy,Dn]at hvs;obtain⟨u,v,hu',hu,hv⟩:=hvs.two;simp only[Dq,Bz]at hu';obtain⟨rfl,rfl⟩:=hu'
  split at he
  ·rename_i ms hun
   simp only[Eff.pure,Aj]at he;subst he;have he:a.eval (.const .nilIface) = .nilIface:=rfl;rcases hu.err_inv with⟨rfl,hv⟩|⟨rfl,t',z,hv⟩
   ·exact Ax h hd (v:=.bool false) (by simp_all [BZ,execOp,eqGuard_nil_constR,binOp]) (.val _ _ (.bool _))
   ·exact Ax h hd (v:=.bool true) (by simp_all [eqGuard_at_iface,execOp,binOp,BX]) (.val _ _ (.bool _))
  grind
 ·
  rename_i t x y sz n f tg u' ho
  simp only[ho,Op.operands,Cy,Dn]at hvs;obtain⟨u,v,hu',hu,hv⟩:=hvs.two;simp only[Dq,Bz]at hu';obtain⟨rfl,rfl⟩:=hu'
  split at he
  ·rename_i e1 hun
   simp only[Eff.pure,Aj]at he;subst he;obtain⟨ad,cap,hv,hn⟩:=EQ hu
   have hg:∀ op,(eqGuard op t x (.const (.slice none 0 0)) (.slice ad n cap) (.slice none 0 0)).run P w = .ok () w:=λop=>by cases op<;>rfl
   have he:a.eval (.const (.slice none 0 0)) = .slice none 0 0:=rfl;exact Ax h hd (v:=.bool ad.isNone) (by simp_all [execOp,run_equal_slice_nil,binOp]) (.val _ _ (.nilq _ _ _ (λhb=>hn (by simp_all))))
  grind
 ·
  rename_i t x y sz n f tg u' ho
  simp only[ho,Op.operands,Cy,Dn]at hvs;obtain⟨u,v,hu',hu,hv⟩:=hvs.two;simp only[Dq,Bz]at hu';obtain⟨rfl,rfl⟩:=hu'
  split at he
  ·rename_i e1 hun
   simp only[Eff.pure,Aj]at he;subst he;obtain⟨ad,cap,hv,hn⟩:=EQ hu
   have hg:∀ op,(eqGuard op t x (.const (.slice none 0 0)) (.slice ad n cap) (.slice none 0 0)).run P w = .ok () w:=λop=>by cases op<;>rfl
   have he:a.eval (.const (.slice none 0 0)) = .slice none 0 0:=rfl;exact Ax h hd (v:=.bool (!ad.isNone)) (by simp_all [execOp,run_equal_slice_nil,binOp]) (.val _ _ (.nilq _ _ _ (λhb=>hn (by simp_all))))
  grind
 ·
  rename_i t x y nm off u' ho
  simp only[ho,Op.operands,Cy,Dn]at hvs;obtain⟨u,v,hu',hu,hv⟩:=hvs.two;simp only[Dq,Bz]at hu';obtain⟨rfl,rfl⟩:=hu'
  split at he
  ·rename_i e1 hun
   simp only[Eff.pure,Aj]at he;subst he;have he:a.eval (.const (.pointer none)) = .pointer none:=rfl;obtain⟨_,_,g,c,_,_,hv⟩:=hu.ptr_inv
   have hg:∀ op,(eqGuard op t x (.const (.pointer none)) (.pointer (some ⟨g,off,none⟩)) (.pointer none)).run P w = .ok () w:=λop=>by cases op<;>rfl
   exact Ax h hd (v:=.bool false) (by simp_all [execOp,Vn,binOp]) (.val _ _ (.bool _))
  grind
 ·
  rename_i t x y nm off u' ho
  simp only[ho,Op.operands,Cy,Dn]at hvs;obtain⟨u,v,hu',hu,hv⟩:=hvs.two;simp only[Dq,Bz]at hu';obtain⟨rfl,rfl⟩:=hu'
  split at he
  ·rename_i e1 hun
   simp only[Eff.pure,Aj]at he;subst he;have he:a.eval (.const (.pointer none)) = .pointer none:=rfl;obtain⟨_,_,g,c,_,_,hv⟩:=hu.ptr_inv
   have hg:∀ op,(eqGuard op t x (.const (.pointer none)) (.pointer (some ⟨g,off,none⟩)) (.pointer none)).run P w = .ok () w:=λop=>by cases op<;>rfl
   exact Ax h hd (v:=.bool true) (by simp_all [execOp,Vn,binOp]) (.val _ _ (.bool _))
  grind
 ·
  rename_i t x y u' ho
  simp only[ho,Op.operands,Cy,Dn]at hvs;obtain⟨u,v,hu',hu,hv⟩:=hvs.two;simp only[Dq,Bz]at hu';obtain⟨rfl,rfl⟩:=hu'
  split at he
  ·rename_i e1 hun
   simp only[Eff.pure,Aj]at he;subst he;have he:a.eval (.const (.pointer none)) = .pointer none:=rfl;have hv:=hu.nilp_inv
   have hg:∀ op,(eqGuard op t x (.const (.pointer none)) (.pointer none) (.pointer none)).run P w = .ok () w:=λop=>by cases op<;>rfl
   exact Ax h hd (v:=.bool true) (by simp_all [execOp,Vm,binOp]) (.val _ _ (.bool _))
  grind
 ·
  rename_i t x y u' ho
  simp only[ho,Op.operands,Cy,Dn]at hvs;obtain⟨u,v,hu',hu,hv⟩:=hvs.two;simp only[Dq,Bz]at hu';obtain⟨rfl,rfl⟩:=hu'
  split at he
  ·rename_i e1 hun
   simp only[Eff.pure,Aj]at he;subst he;have he:a.eval (.const (.pointer none)) = .pointer none:=rfl;have hv:=hu.nilp_inv
   have hg:∀ op,(eqGuard op t x (.const (.pointer none)) (.pointer none) (.pointer none)).run P w = .ok () w:=λop=>by cases op<;>rfl
   exact Ax h hd (v:=.bool false) (by simp_all [execOp,Vm,binOp]) (.val _ _ (.bool _))
  grind
 ·
  rename_i t len parts ho
  cases hint with
  | false=>simp at he
  | true=>
   simp only[Ae]at he
   split at he
   ·rename_i d hdst
    have hn:σ.own d=none:=by simpa [De,ho,hdst] using hes.symm
    have hvs':=hvs;rw[show o.op.operands.toList.map a.eval=parts.toList.map (λp=>a.eval p.2) by simp[ho,Op.operands,List.map_map,GH]]at hvs';exact df h hd ho hdst hn (PA _ _ hvs') he
   grind
 grind
end
end
end Go.Proofs.YtjpnobeadcdnoaaGreat
