/-
  The machine, the program's functions and the laws' arithmetic: part 1 of 6.
-/
import Derived.Laws.BytesString
import Derived.Laws.Cells
import Derived.Laws.Cover3
import Derived.Laws.IdiomRangeMap
import Derived.Laws.RangeAny
import Derived.Laws.Strings
import Derived.Lib.FrozenHead
import Derived.WalkKit
import Derived.WalkMore
set_option linter.unusedSectionVars false
set_option linter.unusedVariables false
set_option linter.unusedSimpArgs false
namespace Go.Proofs.YthelaonnkkpbfaaGreat
noncomputable section
variable {α:Type}{I I':Nat->Nat->Prop}{w w':World}{v vx vy:Value}{θ θ':Nat->Option (Nat×Nat)}{o:Obj}{nm nm' sz n j:Nat}{e t:TypeId}{a:Act}{b r:Bool}{k:IntKind}{op:BinOp}{l:Array Value}
theorem Am:type_of% @Option.bind_some:=@Option.bind_some
theorem Ax:type_of% @Option.some.injEq:=@Option.some.injEq
theorem Ah:type_of% @cond_true:=@cond_true
theorem Az:type_of% @Bool.and_eq_true:=@Bool.and_eq_true
theorem Ar:type_of% @cond_false:=@cond_false
theorem Ez:type_of% @Nat.eq_of_beq_eq_true:=@Nat.eq_of_beq_eq_true
theorem Dn:type_of% @Int.toNat_natCast:=@Int.toNat_natCast
theorem zzL7:type_of% @Nat.le_refl:=@Nat.le_refl
theorem zzL8:type_of% @List.mem_append:=@List.mem_append
theorem Hs:type_of% @decide_eq_true_eq:=@decide_eq_true_eq
theorem zzL10:type_of% @List.mem_singleton:=@List.mem_singleton
theorem Da:type_of% @decide_eq_true:=@decide_eq_true
theorem Ds:type_of% @decide_eq_false:=@decide_eq_false
theorem Hp:type_of% @Nat.mul_le_mul_right:=@Nat.mul_le_mul_right
theorem Db:type_of% @List.map_cons:=@List.map_cons
theorem Ek:type_of% @List.length_set:=@List.length_set
theorem zzL16:type_of% @List.mem_map:=@List.mem_map
theorem H8:type_of% @List.getElem_of_mem:=@List.getElem_of_mem
theorem He:type_of% @List.length_append:=@List.length_append
theorem Gz:type_of% @Go.Result.andThen_ok:=@Go.Result.andThen_ok
theorem D3:type_of% @Bool.not_true:=@Bool.not_true
theorem zzL21:type_of% @List.all_eq_true:=@List.all_eq_true
theorem F2:type_of% @List.length_map:=@List.length_map
theorem Bw:type_of% @congrArg:=@congrArg
theorem F6:type_of% @Go.run_underlying:=@Go.run_underlying
theorem Hg:type_of% @List.cons.injEq:=@List.cons.injEq
theorem Mo:type_of% @List.mem_cons_of_mem:=@List.mem_cons_of_mem
theorem Mp:type_of% @Int.toNat_of_nonneg:=@Int.toNat_of_nonneg
theorem Fh:type_of% @Go.Sem.run_bind:=@Go.Sem.run_bind
theorem N9:type_of% @Nat.le_of_ble_eq_true:=@Nat.le_of_ble_eq_true
theorem zzL30:type_of% @beq_eq_false_iff_ne:=@beq_eq_false_iff_ne
theorem zzL31:type_of% @List.mem_cons:=@List.mem_cons
theorem Vg:type_of% @Array.getD_eq_getD_getElem?:=@Array.getD_eq_getD_getElem?
theorem Kd:type_of% @Bool.true_and:=@Bool.true_and
theorem zzL34:type_of% @beq_iff_eq:=@beq_iff_eq
theorem Rx:type_of% @List.range_eq_range':=@List.range_eq_range'
theorem Jv:type_of% @Go.Sem.run_pure:=@Go.Sem.run_pure
theorem Mq:type_of% @Bool.not_false:=@Bool.not_false
theorem Ke:type_of% @Nat.zero_add:=@Nat.zero_add
theorem W0:type_of% @List.getElem?_append_left:=@List.getElem?_append_left
theorem Jl:type_of% @Nat.add_mul:=@Nat.add_mul
theorem zzL41:type_of% @List.mem_range:=@List.mem_range
theorem X2:type_of% @List.getElem?_append_right:=@List.getElem?_append_right
theorem K8:type_of% @List.map_nil:=@List.map_nil
theorem zzL44:type_of% @List.mem_cons_self:=@List.mem_cons_self
theorem Qr:type_of% @Bool.not_eq_true':=@Bool.not_eq_true'
theorem Vh:type_of% @List.length_replicate:=@List.length_replicate
theorem Tf:type_of% @List.length_range:=@List.length_range
theorem Ry:type_of% @List.length_cons:=@List.length_cons
theorem Ih:type_of% @and_true:=@and_true
theorem P6:type_of% @Prod.mk.injEq:=@Prod.mk.injEq
theorem Iu:type_of% @if_false:=@if_false
theorem Rz:type_of% @List.drop_zero:=@List.drop_zero
theorem GP:type_of% @Classical.byContradiction:=@Classical.byContradiction
theorem zzL54:type_of% @List.mem_flatMap:=@List.mem_flatMap
theorem Ot:type_of% @Go.cell_of_row:=@Go.cell_of_row
theorem Nc:type_of% @Nat.blt_eq:=@Nat.blt_eq
theorem R0:type_of% @Nat.le_trans:=@Nat.le_trans
theorem JF:type_of% @Go.heap_alloc_new:=@Go.heap_alloc_new
theorem Vi:type_of% @List.nil_append:=@List.nil_append
theorem zzL60:type_of% @List.contains_iff_mem:=@List.contains_iff_mem
theorem W1:type_of% @Bool.or_eq_true:=@Bool.or_eq_true
theorem W4:type_of% @Nat.not_lt_zero:=@Nat.not_lt_zero
theorem X3:type_of% @beq_self_eq_true:=@beq_self_eq_true
theorem Z0:type_of% @List.append_assoc:=@List.append_assoc
theorem zzL65:type_of% @bne_iff_ne:=@bne_iff_ne
theorem JG:type_of% @List.length_singleton:=@List.length_singleton
theorem Ux:type_of% @Go.Addr.add_lit:=@Go.Addr.add_lit
theorem AA:type_of% @List.map_append:=@List.map_append
theorem AB:type_of% @List.foldl_cons:=@List.foldl_cons
theorem RF:type_of% @List.getElem?_eq_getElem:=@List.getElem?_eq_getElem
theorem Nd:type_of% @if_true:=@if_true
theorem AC:type_of% @Go.run_sliceBound:=@Go.run_sliceBound
theorem zzL73:type_of% @List.mem_filter:=@List.mem_filter
theorem JH:type_of% @List.filter_append:=@List.filter_append
theorem W5:type_of% @Nat.add_zero:=@Nat.add_zero
theorem GQ:type_of% @List.range'_succ:=@List.range'_succ
theorem GR:type_of% @List.length_drop:=@List.length_drop
theorem zzL78:type_of% @List.pairwise_iff_getElem:=@List.pairwise_iff_getElem
theorem GS:type_of% @Bool.eq_iff_iff:=@Bool.eq_iff_iff
theorem NC:type_of% @Bool.false_eq_true:=@Bool.false_eq_true
theorem zzL81:type_of% @Nat.eq_zero_or_pos:=@Nat.eq_zero_or_pos
theorem XI:type_of% @decide_eq_false_iff_not:=@decide_eq_false_iff_not
theorem zzL83:type_of% @decide_eq_decide:=@decide_eq_decide
theorem RG:type_of% @Go.World.cell?_of_block:=@Go.World.cell?_of_block
theorem il:type_of% @List.take_succ_eq_append_getElem:=@List.take_succ_eq_append_getElem
theorem JI:type_of% @List.ext_getElem:=@List.ext_getElem
theorem cR:type_of% @List.getD_eq_getElem?_getD:=@List.getD_eq_getElem?_getD
theorem DC:type_of% @Nat.add_assoc:=@Nat.add_assoc
theorem zzL89:type_of% @Option.map_eq_some_iff:=@Option.map_eq_some_iff
theorem JJ:type_of% @List.range_succ:=@List.range_succ
theorem XJ:type_of% @Nat.div_lt_iff_lt_mul:=@Nat.div_lt_iff_lt_mul
theorem zzL92:type_of% @Option.isSome_iff_exists:=@Option.isSome_iff_exists
theorem ND:type_of% @List.length_take:=@List.length_take
theorem GT:type_of% @List.all_cons:=@List.all_cons
theorem NE:type_of% @Nat.div_add_mod:=@Nat.div_add_mod
theorem Tg:type_of% @Ne.symm:=@Ne.symm
theorem DD:type_of% @Nat.zero_le:=@Nat.zero_le
theorem RH:type_of% @List.take_length:=@List.take_length
theorem zzL99:type_of% @List.pairwise_cons:=@List.pairwise_cons
theorem Yn:type_of% @Nat.mul_comm:=@Nat.mul_comm
theorem KL:type_of% @List.flatMap_cons:=@List.flatMap_cons
theorem KM:type_of% @Function.comp_def:=@Function.comp_def
theorem zzL103:type_of% @Option.bind_eq_some_iff:=@Option.bind_eq_some_iff
theorem PC:type_of% @List.map_congr_left:=@List.map_congr_left
theorem KN:type_of% @List.cons_append:=@List.cons_append
theorem Yo:type_of% @Nat.mul_one:=@Nat.mul_one
theorem Wy:type_of% @Array.ext':=@Array.ext'
theorem zzL108:type_of% @List.nodup_cons:=@List.nodup_cons
theorem GO:type_of% @Nat.lt_irrefl:=@Nat.lt_irrefl
theorem PD:type_of% @of_decide_eq_true:=@of_decide_eq_true
theorem eD:type_of% @List.drop_eq_getElem_cons:=@List.drop_eq_getElem_cons
theorem Yp:type_of% @Nat.mod_lt:=@Nat.mod_lt
theorem KO:type_of% @Bool.false_and:=@Bool.false_and
theorem PE:type_of% @List.getElem_mem:=@List.getElem_mem
theorem XE:type_of% @Array.length_toList:=@Array.length_toList
theorem zzL116:type_of% @List.length_eq_zero_iff:=@List.length_eq_zero_iff
theorem XF:type_of% @List.getElem?_drop:=@List.getElem?_drop
theorem XG:type_of% @Go.Value.slice.injEq:=@Go.Value.slice.injEq
theorem zzL119:type_of% @Nat.lt_or_ge:=@Nat.lt_or_ge
theorem eG:type_of% @Bool.or_eq_false_iff:=@Bool.or_eq_false_iff
theorem zzL121:type_of% @List.pairwise_append:=@List.pairwise_append
theorem PG:type_of% @Int.ofNat.inj:=@Int.ofNat.inj
theorem PH:type_of% @Bool.and_true:=@Bool.and_true
theorem Wz:type_of% @Go.wp_mono:=@Go.wp_mono
theorem PI:type_of% @Nat.sub_zero:=@Nat.sub_zero
theorem Yq:type_of% @eq_comm:=@eq_comm
theorem KP:type_of% @Go.step_scope:=@Go.step_scope
theorem XH:type_of% @Bool.false_or:=@Bool.false_or
theorem OI{a b:α}(h:some a=some b):a=b:=Option.some.inj h
open Go Go.RowKit
def NQ(s:ByteArray):List Int:=s.data.toList.map λb=>(b.toNat:Int)
inductive Tag where
 | none
 | exact
 | own (nm:Nat)
 | fam (b i:Nat)
inductive AV where
 | any
 | undef
 | int (k:IntKind) (n:Int)
 | bool (b:Bool)
 | str (s:List Int)
 | nilp
 | cond (c:Bool) (x:AV)
 | ptr (nm off:Nat)
 | rptr (cells:List AV)
 | slice (sz n:Nat) (f:Nat->List AV) (tag:Tag)
 | agg (cs:List AV)
 | tuple (vs:List AV)
 | vsl (nm n:Nat)
 | vpt (nm n i j:Nat)
 | clo (f:Nat) (first caps:List AV)
 | vsub (nm n lo hi:Nat)
 | optr (nm mm:Nat)
 | nxt (b:Bool) (i r:Int)
 | nilq (pos:Bool) (n:Nat)
 | err (b:Bool)
 | omap (nm:Nat)
 | nilm
 | rpo (cells:List AV)
inductive AObj where
 | iter (l:List Int) (p:Nat)
 | map (nn:Bool) (k:IntKind) (l:List (Int×AV))
 | pmap (nn:Bool) (k:IntKind) (l:List (Int×AV))
 | miter (m:AV) (n:Nat) (seen:List Nat)
 | tab (k:IntKind) (l:List (Int×AV))
def kY:AObj->Prop
 | .map false _ []=>True
 | .pmap false _ []=>True
 | _=>False
def AObj.on(f:AV->AV):AObj->AObj
 | .iter l p=>.iter l p
 | .map nn k l=>.map nn k l
 | .pmap nn k l=>.pmap nn k l
 | .miter m n s=>.miter (f m) n s
 | .tab k l=>.tab k (l.map λp=>(p.1,f p.2))
def Zx:Go.TypeId:=999999
def Ad7(e:Go.TypeId):Bool:=[(55:Nat),(105:Nat),(106:Nat),(112:Nat),(144:Nat),(158:Nat),(159:Nat),(209:Nat)].any (λt=>Nat.beq t e)
abbrev Aec:Prop:=False
def mg:Nat->Option (List AV)
 | _=>none
def B6:Nat:=18446744073709551616
def U0(b i:Nat):Nat:=B6*(b+1)+i
inductive Own where
 | row (e:TypeId) (cells:List AV)
 | tok (sz:Nat) (e:TypeId) (m:Nat)
 | arr (sz:Nat) (e:TypeId) (m:Nat) (f:Nat->List AV)
 | obj (x:AObj)
inductive RepV (I:Nat->Nat->Prop) (w:World):Value->AV->Prop
 | any (v:Value):RepV I w v .any
 | undef:RepV I w undef .undef
 | int (k:IntKind) (n:Int):RepV I w (.int k n) (.int k n)
 | bool (b:Bool):RepV I w (.bool b) (.bool b)
 | str (s:ByteArray):RepV I w (.string s) (.str (NQ s))
 | nilp:RepV I w (.pointer none) .nilp
 | nilm:RepV I w (.map none) .nilm
 | clo (f:Nat):RepV I w (.func (.func f) #[] #[]) (.clo f [] [])
 | nxt1 (i r:Int):RepV I w (.tuple #[.bool true,.int .i64 i,.int .i32 r]) (.nxt true i r)
 | nxt0 (i r:Int):RepV I w (.tuple #[.bool false]) (.nxt false i r)
 | nilq (b pos:Bool) (n:Nat) (h:b=pos->n=0):RepV I w (.bool b) (.nilq pos n)
 | err0:RepV I w .nilIface (.err false)
 | err1 (t:TypeId) (v:Value):RepV I w (.iface t v) (.err true)
 | cond (v:Value) (c:Bool) (x:AV) (h:c=true->RepV I w v x) (h':c=false->v=Go.undef):RepV I w v (.cond c x)
 | rptr (a:Addr) (cells:List AV) (us:Nat->Value) (hs:a.spot=none)
   (hI:∀ j,j<cells.length->I a.block (a.off+j)) (hc:∀ j,j<cells.length->w.cell? ⟨a.block,a.off+j,none⟩=some (us j))
   (h1:∀ j,j<cells.length->(us j).oneCell'=true) (hr:∀ j,j<cells.length->RepV I w (us j) (cells.getD j .any)):RepV I w (.pointer (some a)) (.rptr cells)
 | slice (a:Option Addr) (n cap sz:Nat) (f:Nat->List AV) (us:Nat->Value) (IN:n<=cap) (Is:cap<=maxLen)
   (hz:0<n->∃ b,a=some b/\b.spot=none/\(∀ j,j<n*sz->I b.block (b.off+j))/\(∀ j,j<n*sz->w.cell? ⟨b.block,b.off+j,none⟩=some (us j)))
   (hn:a=none->cap=0)
   (h1:∀ j,j<n*sz->(us j).oneCell'=true)
   (hl:∀ i,i<n->(f i).length=sz)
   (hr:∀ i c,i<n->c<sz->RepV I w (us (i*sz+c)) ((f i).getD c .any)):RepV I w (.slice a n cap) (.slice sz n f .none)
 | agg (vs:Array Value) (cs:List AV) (hl:vs.size=cs.length) (h1:∀ j,j<cs.length->(vs.getD j Go.undef).oneCell'=true)
   (hr:∀ j,j<cs.length->RepV I w (vs.getD j Go.undef) (cs.getD j .any)):RepV I w (.agg vs) (.agg cs)
 | tuple (vs:Array Value) (cs:List AV) (hl:vs.size=cs.length)
   (hr:∀ j,j<cs.length->RepV I w (vs.getD j Go.undef) (cs.getD j .any)):RepV I w (.tuple vs) (.tuple cs)
def cr(t:Option (Nat×Nat))(n lo hi sz:Nat)(e:TypeId)(a:Option Addr)(cap:Nat):Prop:=
 (lo<hi->∃ g c,t=some (g,c)/\a=some ⟨g,lo*sz,none⟩)/\(lo=0->match t with|none=>cap=n|some (g,c)=>a=some ⟨g,0,none⟩/\(cap=c\/Ad7 e=true))
inductive Rep (I:Nat->Nat->Prop) (own:Nat->Option Own) (θ:Nat->Option (Nat×Nat)) (w:World):Value->AV->Prop
 | val (v:Value) (x:AV) (h:RepV I w v x):Rep I own θ w v x
 | exact(a:Option Addr) (n sz:Nat) (f:Nat->List AV) (h:RepV I w (.slice a n n) (.slice sz n f .none)):Rep I own θ w (.slice a n n) (.slice sz n f .exact)
 | own (nm:Nat) (sz:Nat) (e:TypeId) (m:Nat) (a:Option Addr) (n cap:Nat) (f:Nat->List AV) (ho:own nm=some (.tok sz e m)) (hm:n<=m)
   (hv:n=m->match θ nm with|none=>cap=n|some (g,c)=>a=some ⟨g,0,none⟩/\cap=c)
   (h:RepV I w (.slice a n cap) (.slice sz n f .none)):Rep I own θ w (.slice a n cap) (.slice sz n f (.own nm))
 | fam (b i:Nat) (sz:Nat) (e:TypeId) (m:Nat) (a:Option Addr) (n cap:Nat) (f:Nat->List AV) (hi:i<B6) (ho:own (U0 b i)=some (.tok sz e m)) (hm:n<=m)
   (hv:n=m->match θ (U0 b i) with|none=>cap=n|some (g,c)=>a=some ⟨g,0,none⟩/\cap=c)
   (h:RepV I w (.slice a n cap) (.slice sz n f .none)):Rep I own θ w (.slice a n cap) (.slice sz n f (.fam b i))
 | ptr (nm off:Nat) (e:TypeId) (cells:List AV) (g c:Nat) (ho:own nm=some (.row e cells)) (hg:θ nm=some (g,c)):Rep I own θ w (.pointer (some ⟨g,off,none⟩)) (.ptr nm off)
 | vsl (nm sz:Nat) (e:TypeId) (m:Nat) (f:Nat->List AV) (a:Option Addr) (n cap:Nat) (ho:own nm=some (.arr sz e m f)) (hm:n<=m) (IN:n<=cap) (Is:cap<=maxLen) (hn:a=none->cap=0)
   (hv:n=m->match θ nm with|none=>cap=n|some (g,c)=>a=some ⟨g,0,none⟩/\cap=c):Rep I own θ w (.slice a n cap) (.vsl nm n)
 | vpt (nm sz:Nat) (e:TypeId) (m:Nat) (f:Nat->List AV) (n i j:Nat) (ad:Addr) (ho:own nm=some (.arr sz e m f)) (hm:n<=m) (hi:i<n)
   (hv:n=m->∃ g c,θ nm=some (g,c)/\ad=⟨g,i*sz+j,none⟩):Rep I own θ w (.pointer (some ad)) (.vpt nm n i j)
 | clo (f:Nat) (fs cs:Array Value) (xs ys:List AV) (hl:fs.size=xs.length) (hl':cs.size=ys.length) (hr:∀ j,j<xs.length->Rep I own θ w (fs.getD j Go.undef) (xs.getD j .any))
   (hr':∀ j,j<ys.length->Rep I own θ w (cs.getD j Go.undef) (ys.getD j .any)):Rep I own θ w (.func (.func f) fs cs) (.clo f xs ys)
 | vsub (nm sz:Nat) (e:TypeId) (m:Nat) (f:Nat->List AV) (n lo hi:Nat) (a:Option Addr) (cap:Nat) (ho:own nm=some (.arr sz e m f)) (hm:n<=m) (hlo:lo<=hi) (hhi:hi<=n) (IN:hi-lo<=cap) (Is:cap<=maxLen) (hn:a=none->cap=0)
   (hv:n=m->cr (θ nm) n lo hi sz e a cap):Rep I own θ w (.slice a (hi-lo) cap) (.vsub nm n lo hi)
 | optr (nm mm:Nat) (x:AObj) (g c:Nat) (ho:own nm=some (.obj x)) (hg:θ nm=some (g,c)):Rep I own θ w (.pointer (some ⟨g,0,none⟩)) (.optr nm mm)
 | omap (nm:Nat) (x:AObj) (ho:own nm=some (.obj x)):Rep I own θ w (.map ((θ nm).map (·.1))) (.omap nm)
 | cond (v:Value) (c:Bool) (x:AV) (h:c=true->Rep I own θ w v x) (h':c=false->v=Go.undef):Rep I own θ w v (.cond c x)
 | agg (vs:Array Value) (cs:List AV) (hl:vs.size=cs.length) (h1:∀ j,j<cs.length->(vs.getD j Go.undef).oneCell'=true)
   (hr:∀ j,j<cs.length->Rep I own θ w (vs.getD j Go.undef) (cs.getD j .any)):Rep I own θ w (.agg vs) (.agg cs)
 | tuple (vs:Array Value) (cs:List AV) (hl:vs.size=cs.length)
   (hr:∀ j,j<cs.length->Rep I own θ w (vs.getD j Go.undef) (cs.getD j .any)):Rep I own θ w (.tuple vs) (.tuple cs)
 | rpo (a:Addr) (cells:List AV) (us:Nat->Value) (hs:a.spot=none)
   (hI:∀ j,j<cells.length->I a.block (a.off+j)) (hc:∀ j,j<cells.length->w.cell? ⟨a.block,a.off+j,none⟩=some (us j))
   (h1:∀ j,j<cells.length->(us j).oneCell'=true) (hr:∀ j,j<cells.length->Rep I own θ w (us j) (cells.getD j .any)):Rep I own θ w (.pointer (some a)) (.rpo cells)
theorem RepV.mono{x:AV}(h:RepV I w v x)(hI:∀ b o,I b o->I' b o)
  (hw:∀ b o,I b o->w'.cell? ⟨b,o,none⟩=w.cell? ⟨b,o,none⟩):RepV I' w' v x:=by
 induction h with
 | any v=>exact .any v
 | undef=>exact .undef
 | int k n=>exact .int k n
 | bool b=>exact .bool b
 | str s=>exact .str s
 | clo f=>exact .clo f
 | nxt1 i r=>exact .nxt1 i r
 | nxt0 i r=>exact .nxt0 i r
 | nilq b pos n h=>exact .nilq b pos n h
 | err0=>exact .err0
 | err1 t v=>exact .err1 t v
 | nilp=>exact .nilp
 | nilm=>exact .nilm
 | cond v c x _ h' ih=>exact .cond v c x ih h'
 | rptr a cells us hs hI' hc h1 _ ih=>
  exact .rptr a _ us hs (λj hj=>hI _ _ (hI' j hj)) (λj hj=>(hw _ _ (hI' j hj)).trans (hc j hj)) h1 ih
 | slice a n cap sz f us IN Is hz hn h1 hl _ ih=>
  refine .slice a n cap sz f us IN Is (λhp=>?_) hn h1 hl ih
  grind
 | agg vs cs hl h1 _ ih=>exact .agg vs cs hl h1 ih
 | tuple vs cs hl _ ih=>exact .tuple vs cs hl ih
def OwnLe(o:Own)(t:Option (Nat×Nat))(o':Own)(t':Option (Nat×Nat)):Prop:=
 match o,o' with
 | .row e _,.row e' _=>e'=e/\t'=t
 | .tok sz e m,.tok sz' e' m'=>sz'=sz/\e'=e/\m<=m'/\(m=m'->t'=t)
 | .arr sz e m _,.arr sz' e' m' _=>sz'=sz/\e'=e/\m<=m'/\(m=m'->t'=t)
 | .obj _,.obj _=>t'=t
 | _,_=>False
theorem OwnLe.refl(o:Own)(t:Option (Nat×Nat)):OwnLe o t o t:=by cases o<;>simp[OwnLe]
theorem Rep.mono{own it:Nat->Option Own}{x:AV}
  (h:Rep I own θ w v x) (hI:∀ b o,I b o->I' b o) (hw:∀ b o,I b o->w'.cell? ⟨b,o,none⟩=w.cell? ⟨b,o,none⟩)
  (ho:∀ nm o,own nm=some o->∃ o',it nm=some o'/\OwnLe o (θ nm) o' (θ' nm)):Rep I' it θ' w' v x:=by
 induction h with
 | val v x h=>exact .val v x (h.mono hI hw)
 | exact a n sz f h=>exact .exact a n sz f (h.mono hI hw)
 | own nm sz e m a n cap f hn hm hv h=>
  obtain⟨o',ho',hle⟩:=ho nm _ hn
  cases o' with
  | row e cells=>trivial
  | arr=>trivial
  | obj=>trivial
  | tok sz' e' m'=>
   obtain⟨rfl,rfl,hmm,hθ⟩:=hle;refine .own nm _ _ m' a n cap f ho' (R0 hm hmm) (λhe=>?_) (h.mono hI hw)
   grind
 | fam b i sz e m a n cap f hi hn hm hv h=>
  obtain⟨o',ho',hle⟩:=ho (U0 b i) _ hn
  cases o' with
  | row e cells=>trivial
  | arr=>trivial
  | obj=>trivial
  | tok sz' e' m'=>
   obtain⟨rfl,rfl,hmm,hθ⟩:=hle;refine .fam b i _ _ m' a n cap f hi ho' (R0 hm hmm) (λhe=>?_) (h.mono hI hw)
   grind
 | ptr nm off e cells g c hn hg=>
  obtain⟨o',ho',hle⟩:=ho nm _ hn
  cases o' with
  | tok=>trivial
  | arr=>trivial
  | obj=>trivial
  | row e' cells'=>
   have e:θ' nm=θ nm:=hle.2;exact .ptr nm off e' cells' g c ho' (e.trans hg)
 | vsl nm sz e m f a n cap hn hm IN Is hnn hv=>
  obtain⟨o',ho',hle⟩:=ho nm _ hn
  cases o' with
  | row e cells=>trivial
  | tok=>trivial
  | obj=>trivial
  | arr sz' e' m' f'=>
   obtain⟨rfl,rfl,hmm,hθ⟩:=hle;refine .vsl nm _ _ m' f' a n cap ho' (R0 hm hmm) IN Is hnn (λhe=>?_)
   grind
 | vpt nm sz e m f n i j ad hn hm hi hv=>
  obtain⟨o',ho',hle⟩:=ho nm _ hn
  cases o' with
  | row e cells=>trivial
  | tok=>trivial
  | obj=>trivial
  | arr sz' e' m' f'=>
   obtain⟨rfl,rfl,hmm,hθ⟩:=hle;refine .vpt nm _ _ m' f' n i j ad ho' (R0 hm hmm) hi (λhe=>?_)
   grind
 | clo f fs cs xs ys hl hl' _ _ ih ih'=>exact .clo f fs cs xs ys hl hl' ih ih'
 | optr nm mm x g c hn hg=>
  obtain⟨o',ho',hle⟩:=ho nm _ hn
  cases o' with
  | row=>trivial
  | tok sz' e' m'=>trivial
  | arr sz' e' m' f'=>trivial
  | obj x'=>exact .optr nm mm x' g c ho' (by rw[hle,hg])
 | omap nm x hn=>
  obtain⟨o',ho',hle⟩:=ho nm _ hn
  cases o' with
  | row=>trivial
  | tok sz' e' m'=>trivial
  | arr sz' e' m' f'=>trivial
  | obj x'=>
   have e:θ' nm=θ nm:=hle;rw[<- e];exact .omap nm x' ho'
 | vsub nm sz e m f n lo hi a cap hn hm hlo hhi IN Is hnn hv=>
  obtain⟨o',ho',hle⟩:=ho nm _ hn
  cases o' with
  | row e cells=>trivial
  | tok=>trivial
  | obj=>trivial
  | arr sz' e' m' f'=>
   obtain⟨rfl,rfl,hmm,hθ⟩:=hle;refine .vsub nm _ _ m' f' n lo hi a cap ho' (R0 hm hmm) hlo hhi IN Is hnn (λhe=>?_)
   grind
 | cond v c x _ h' ih=>exact .cond v c x ih h'
 | agg vs cs hl h1 _ ih=>exact .agg vs cs hl h1 ih
 | tuple vs cs hl _ ih=>exact .tuple vs cs hl ih
 | rpo a cells us hs hI' hc h1 _ ih=>exact .rpo a cells us hs (λj hj=>hI _ _ (hI' j hj)) (λj hj=>(hw _ _ (hI' j hj)).trans (hc j hj)) h1 ih
mutual
def AV.strip:AV->AV
 | .slice sz n f _=>.slice sz n f .none
 | .ptr _ _=>.any
 | .vsl _ _=>.any
 | .vpt _ _ _ _=>.any
 | .vsub _ _ _ _=>.any
 | .optr _ _=>.any
 | .omap _=>.any
 | .rpo _=>.any
 | .clo f xs ys=>match xs,ys with|[],[]=>.clo f [] []|_,_=>.any
 | .agg cs=>.agg (AV.stripAll cs)
 | .tuple cs=>.tuple (AV.stripAll cs)
 | .cond c x=>.cond c x.strip
 | x=>x
def AV.stripAll:List AV->List AV
 | []=>[]
 | x::l=>x.strip::AV.stripAll l
end
theorem Bh(l:List AV):(AV.stripAll l).length=l.length:=by induction l with|nil=>rfl|cons x l ih=>simp[AV.stripAll,ih]
theorem E0(l:List AV)(j:Nat):(AV.stripAll l).getD j .any=(l.getD j .any).strip:=by
 induction l generalizing j with
 | nil=>rfl
 | cons x l ih=>cases j with
  | zero=>rfl
  | succ j=>simp_all [AV.stripAll]
theorem RepV.strip{x:AV}(h:RepV I w v x):RepV I w v x.strip:=by
 induction h with
 | any v=>exact .any v
 | undef=>exact .undef
 | int k n=>exact .int k n
 | bool b=>exact .bool b
 | str s=>exact .str s
 | clo f=>exact .clo f
 | nxt1 i r=>exact .nxt1 i r
 | nxt0 i r=>exact .nxt0 i r
 | nilq b pos n h=>exact .nilq b pos n h
 | err0=>exact .err0
 | err1 t v=>exact .err1 t v
 | nilp=>exact .nilp
 | nilm=>exact .nilm
 | cond v c x _ h' ih=>exact .cond v c _ ih h'
 | rptr a cells us hs hI' hc h1 hr _=>exact .rptr a _ us hs hI' hc h1 hr
 | slice a n cap sz f us IN Is hz hn h1 hl hr _=>exact .slice a n cap sz f us IN Is hz hn h1 hl hr
 | agg vs cs hl h1 _ ih=>exact .agg vs _ (by rw[Bh,hl]) (λj hj=>h1 j (by rwa[Bh]at hj)) (λj hj=>by grind [E0,Bh])
 | tuple vs cs hl _ ih=>exact .tuple vs _ (by rw[Bh,hl]) (λj hj=>by grind [E0,Bh])
theorem Rep.strip{own:Nat->Option Own}{x:AV}(h:Rep I own θ w v x):RepV I w v x.strip:=by
 induction h with
 | val v x h=>exact h.strip
 | exact a n sz f h=>exact h
 | own nm sz e m a n cap f ho hm hv h=>exact h
 | fam b i sz e m a n cap f hi ho hm hv h=>exact h
 | ptr nm off e cells g c ho hg=>exact .any _
 | vsl=>exact .any _
 | vpt=>exact .any _
 | clo f fs cs xs ys hl hl' _ _ ih ih'=>
  cases xs with
  | nil=>cases ys with
   | nil=>
    obtain rfl:fs = #[]:=by grind
    obtain rfl:cs = #[]:=by grind
    exact .clo f
   | cons _ _=>exact .any _
  | cons _ _=>exact .any _
 | vsub=>exact .any _
 | optr=>exact .any _
 | omap=>exact .any _
 | rpo=>exact .any _
 | cond v c x _ h' ih=>exact .cond v c _ ih h'
 | agg vs cs hl h1 _ ih=>exact .agg vs _ (by rw[Bh,hl]) (λj hj=>h1 j (by rwa[Bh]at hj)) (λj hj=>by grind [E0,Bh])
 | tuple vs cs hl _ ih=>exact .tuple vs _ (by rw[Bh,hl]) (λj hj=>by grind [E0,Bh])
mutual
theorem X0:∀ x:AV,x.strip.strip=x.strip
 | .agg cs=>by simp only[AV.strip];rw[Wv cs]
 | .tuple cs=>by simp only[AV.strip];rw[Wv cs]
 | .cond c x=>by simp only[AV.strip];rw[X0 x]
 | .clo f [] []=>rfl
 | .clo f (_::_) _=>rfl
 | .clo f [] (_::_)=>rfl
 | .slice ..=>rfl
 | .ptr ..=>rfl
 | .vsl ..=>rfl
 | .vpt ..=>rfl
 | .vsub ..=>rfl
 | .optr ..=>rfl
 | .omap ..=>rfl
 | .any=>rfl
 | .undef=>rfl
 | .int ..=>rfl
 | .bool ..=>rfl
 | .str ..=>rfl
 | .nilp=>rfl
 | .nilm=>rfl
 | .nxt ..=>rfl
 | .nilq ..=>rfl
 | .err ..=>rfl
 | .rptr ..=>rfl
 | .rpo ..=>rfl
theorem Wv:∀ l:List AV,AV.stripAll (AV.stripAll l)=AV.stripAll l
 | []=>rfl
 | x::l=>by simp only[AV.stripAll];rw[X0 x,Wv l]
end
inductive ObjR (I:Nat->Nat->Prop) (own:Nat->Option Own) (θ:Nat->Option (Nat×Nat)) (w:World):Obj->AObj->Prop
 | iter (s:ByteArray) (p:Nat):ObjR I own θ w (.stringIter s p) (.iter (NQ s) p)
 | map (es:Array MapEntry) (nn:Bool) (k:IntKind) (l:List (Int×AV)) (hs:es.size=l.length)
   (hr:∀ i,i<l.length->∃ v,es[i]?=some { key:=.int k (l.getD i (0,.any)).1,val:=v,born:=i }/\RepV I w v (l.getD i (0,.any)).2/\(l.getD i (0,.any)).2.strip=(l.getD i (0,.any)).2):ObjR I own θ w (.map es l.length) (.map nn k l)
 | pmap (es:Array MapEntry) (nn:Bool) (k:IntKind) (l0 l:List (Int×AV)) (hp:l0.Perm l) (hk:(l.map (·.1)).Nodup) (hs:es.size=l0.length)
   (hr:∀ i,i<l0.length->∃ v,es[i]?=some { key:=.int k (l0.getD i (0,.any)).1,val:=v,born:=i }/\RepV I w v (l0.getD i (0,.any)).2/\(l0.getD i (0,.any)).2.strip=(l0.getD i (0,.any)).2):ObjR I own θ w (.map es l0.length) (.pmap nn k l)
 | miter (r:Option Nat) (m:AV) (n c:Nat) (seen:Array Nat) (hc:c=n) (hr:Rep I own θ w (.map r) m):ObjR I own θ w (.mapIter r n seen c) (.miter m n seen.toList.reverse)
 | tab (es:Array MapEntry) (k:IntKind) (l:List (Int×AV)) (hs:es.size=l.length)
   (hr:∀ i,i<l.length->∃ v,es[i]?=some { key:=.int k (l.getD i (0,.any)).1,val:=v,born:=i }/\Rep I own θ w v (l.getD i (0,.any)).2):ObjR I own θ w (.map es l.length) (.tab k l)
theorem ObjR.onV{own it:Nat->Option Own}{x:AObj}(h:ObjR I own θ w o x)(f:AV->AV)(hv:∀ v y,y.strip=y->RepV I w v y->RepV I' w' v y)(hf:∀ v y,Rep I own θ w v y->Rep I' it θ' w' v (f y)):ObjR I' it θ' w' o (x.on f):=by
 cases h with
 | iter s p=>exact .iter s p
 | map es nn k l hs hr=>
  refine .map es nn k l hs λi hi=>?_
  grind
 | pmap es nn k l0 l hp hk hs hr=>
  refine .pmap es nn k l0 l hp hk hs λi hi=>?_
  grind
 | miter r m n c seen hc hr=>exact .miter r _ n c _ hc (hf _ _ hr)
 | tab es k l hs hr=>
  have:=ObjR.tab (I:=I') (own:=it) (θ:=θ') (w:=w') es k (l.map λp=>(p.1,f p.2)) (by grind) λi hi=>by
   grind
  rwa[F2]at this
theorem ObjR.on{own it:Nat->Option Own}{x:AObj}(h:ObjR I own θ w o x)(f:AV->AV)(hI:∀ b o,I b o->I' b o)(hw:∀ b o,I b o->w'.cell? ⟨b,o,none⟩=w.cell? ⟨b,o,none⟩)(hf:∀ v y,Rep I own θ w v y->Rep I' it θ' w' v (f y)):ObjR I' it θ' w' o (x.on f):=
 h.onV f (λ_ _ _ hv=>hv.mono hI hw) hf
theorem Aeo(x:AObj):x.on (λy=>y)=x:=by cases x<;>simp[AObj.on]
theorem ObjR.mono{own it:Nat->Option Own}{x:AObj}(h:ObjR I own θ w o x)(hf:∀ v y,Rep I own θ w v y->Rep I' it θ' w' v y):ObjR I' it θ' w' o x:=by
 have:=h.onV _ (λv y hy hv=>by have:=(hf v y (.val _ _ hv)).strip;grind) hf
 grind [Aeo]
def PZ(I:Nat->Nat->Prop)(own:Nat->Option Own)(θ:Nat->Option (Nat×Nat))(w:World)(nm:Nat)(x:AObj):Prop:=
 (∃ g c o,θ nm=some (g,c)/\w.heap[g]?=some o/\ObjR I own θ w o x/\∀ j,¬ I g j)\/(θ nm=none/\kY x)
structure Kh(I:Nat->Nat->Prop)(own:Nat->Option Own)(θ:Nat->Option (Nat×Nat))(w:World):Prop where
 row:∀ nm e cells,own nm=some (.row e cells)->∃ g c vs,θ nm=some (g,c)/\w.heap[g]?=some (.cells vs e (0,0))/\vs.size=cells.length /\
  (∀ j,j<cells.length->(vs.getD j undef).oneCell'=true)/\(∀ j,j<cells.length->Rep I own θ w (vs.getD j undef) (cells.getD j .any))/\∀ j,¬ I g j
 tok:∀ nm sz e m,own nm=some (.tok sz e m)->∀ g c,θ nm=some (g,c)->∃ OF fz,w.heap[g]?=some (.cells OF e (0,fz))/\m<=c/\c<=maxLen/\OF.size=c*sz/\fz<=m*sz/\∀ j,I g j->j<m*sz
 inj:∀ nm nm' g c c',own nm≠none->own nm'≠none->θ nm=some (g,c)->θ nm'=some (g,c')->nm=nm'
 arr:∀ nm sz e m f,own nm=some (.arr sz e m f)->(θ nm=none->m=0)/\∀ g c,θ nm=some (g,c)->∃ OF,w.heap[g]?=some (.cells OF e (0,0))/\m<=c/\c<=maxLen/\OF.size=c*sz /\
  (∀ i,i<m->(f i).length=sz)/\(∀ i j,i<m->j<sz->(OF.getD (i*sz+j) undef).oneCell'=true/\Rep I own θ w (OF.getD (i*sz+j) undef) ((f i).getD j .any))/\∀ j,¬ I g j
 obj:∀ nm x,own nm=some (.obj x)->PZ I own θ w nm x
 tok8:∀ nm sz m,own nm=some (.tok sz Zx m)->θ nm=none->m=0
theorem Nn{own it:Nat->Option Own}{x x':AObj}(h:PZ I own θ w nm x)
  (hθ:θ' nm'=θ nm) (hh:∀ g c,θ nm=some (g,c)->w'.heap[g]?=w.heap[g]?) (hI:∀ g c j,θ nm=some (g,c)->I' g j->I g j) (hm:∀ o,ObjR I own θ w o x->ObjR I' it θ' w' o x') (hn:kY x->kY x') :
  PZ I' it θ' w' nm' x':=by
 rcases h with⟨g,c,o,h1,h2,h3,h4⟩|⟨h1,h2⟩
 ·exact .inl ⟨g,c,o,hθ.trans h1,(hh g c h1).trans h2,hm o h3,λj hj=>h4 j (hI g c j h1 hj)⟩
 ·exact .inr ⟨hθ.trans h1,hn h2⟩
theorem VN{f:AV->AV}{x:AObj}(h:kY x):kY (x.on f):=by cases x<;>trivial
theorem Ya{x:AObj}(h:kY x):kY x:=h
theorem Sf{own it:Nat->Option Own}{m:Nat}{f f':Nat->List AV}
  (h:(θ nm=none->m=0)/\∀ g c,θ nm=some (g,c)->∃ OF,w.heap[g]?=some (.cells OF e (0,0))/\m<=c/\c<=maxLen/\OF.size=c*sz /\
   (∀ i,i<m->(f i).length=sz)/\(∀ i j,i<m->j<sz->(OF.getD (i*sz+j) undef).oneCell'=true/\Rep I own θ w (OF.getD (i*sz+j) undef) ((f i).getD j .any))/\∀ j,¬ I g j)
  (hθ:θ' nm'=θ nm) (hh:∀ g c,θ nm=some (g,c)->w'.heap[g]?=w.heap[g]?) (hI:∀ g c j,θ nm=some (g,c)->I' g j->I g j) (hf:∀ i,i<m->(f' i).length=(f i).length)
  (hr:∀ v i j,i<m->j<sz->Rep I own θ w v ((f i).getD j .any)->Rep I' it θ' w' v ((f' i).getD j .any)) :
  (θ' nm'=none->m=0)/\∀ g c,θ' nm'=some (g,c)->∃ OF,w'.heap[g]?=some (.cells OF e (0,0))/\m<=c/\c<=maxLen/\OF.size=c*sz /\
   (∀ i,i<m->(f' i).length=sz)/\(∀ i j,i<m->j<sz->(OF.getD (i*sz+j) undef).oneCell'=true/\Rep I' it θ' w' (OF.getD (i*sz+j) undef) ((f' i).getD j .any))/\∀ j,¬ I' g j:=by
 grind
structure Chg(own:Nat->Option Own)(θ:Nat->Option (Nat×Nat))(I:Nat->Nat->Prop)(w:World)
  (it:Nat->Option Own) (θ':Nat->Option (Nat×Nat)) (I':Nat->Nat->Prop) (w':World):Prop where
 imm:∀ b o,I b o->I' b o
 cell:∀ b o,I b o->w'.cell? ⟨b,o,none⟩=w.cell? ⟨b,o,none⟩
 le:∀ nm o,own nm=some o->∃ o',it nm=some o'/\OwnLe o (θ nm) o' (θ' nm)
 rel:Kh I' it θ' w'
 valid:∀ b o,I' b o->∃ u,w'.cell? ⟨b,o,none⟩=some u
 os:w'.os=w.os
 tape:w'.tape=w.tape
 output:w'.output=w.output
 drawn:Aec->w.drawn<=w'.drawn
 grow:w.heap.size<=w'.heap.size
 frame:∀ b,b<w.heap.size->(∀ nm c,own nm≠none->θ nm≠some (b,c))->w'.heap[b]?=w.heap[b]?
 new:∀ nm g c,it nm≠none->θ' nm=some (g,c)->w.heap.size<=g\/∃ nm' c',own nm'≠none/\θ nm'=some (g,c')
 immNew:∀ b o,I' b o->I b o\/w.heap.size<=b\/∃ nm c,own nm≠none/\θ nm=some (b,c)
theorem OwnLe.trans{a b c:Own}{t u s:Option (Nat×Nat)}(h:OwnLe a t b u)(k:OwnLe b u c s):OwnLe a t c s:=by
 cases a<;>cases b<;>cases c<;>simp_all [OwnLe]
 all_goals
  grind
theorem Chg.refl{own:Nat->Option Own}(h:Kh I own θ w)
  (hv:∀ b o,I b o->∃ u,w.cell? ⟨b,o,none⟩=some u):Chg own θ I w own θ I w where
 imm _ _ h:=h
 cell _ _ _:=rfl
 le _ o ho:=⟨o,ho,.refl _ _⟩
 rel:=h
 valid:=hv
 os:=rfl
 tape:=rfl
 output:=rfl
 drawn:=λ_=>zzL7 _
 grow:=zzL7 _
 frame _ _ _:=rfl
 new nm _ c h h':=.inr ⟨nm,c,h,h'⟩
 immNew _ _ h:=.inl h
theorem Chg.trans{o1 o2 o3:Nat->Option Own}{t1 t2 t3:Nat->Option (Nat×Nat)}{I1 I2 I3:Nat->Nat->Prop}{w1 w2 w3:World}
  (h:Chg o1 t1 I1 w1 o2 t2 I2 w2) (k:Chg o2 t2 I2 w2 o3 t3 I3 w3):Chg o1 t1 I1 w1 o3 t3 I3 w3 where
 imm b o hi:=k.imm b o (h.imm b o hi)
 cell b o hi:=(k.cell b o (h.imm b o hi)).trans (h.cell b o hi)
 le nm o ho:=by
  obtain⟨o',ho',hl⟩:=h.le nm o ho;obtain⟨o'',ag1,hl'⟩:=k.le nm o' ho';exact⟨o'',ag1,hl.trans hl'⟩
 rel:=k.rel
 valid:=k.valid
 os:=k.os.trans h.os
 tape:=k.tape.trans h.tape
 output:=k.output.trans h.output
 drawn:=λd=>R0 (h.drawn d) (k.drawn d)
 grow:=R0 h.grow k.grow
 frame b hb hn:=by
  refine(k.frame b (Nat.lt_of_lt_of_le hb h.grow) λnm c ho ht=>?_).trans (h.frame b hb hn);rcases h.new nm b c ho ht with h'|⟨nm',c',ho',ht'⟩
  ·omega
  grind
 new nm g c ho ht:=by
  rcases k.new nm g c ho ht with h'|⟨nm',c',ho',ht'⟩
  ·exact .inl (R0 h.grow h')
  ·exact h.new nm' g c' ho' ht'
 immNew b o hi:=by
  rcases k.immNew b o hi with h'|h'|⟨nm,c,ho,ht⟩
  ·exact h.immNew b o h'
  ·exact .inr (.inl (R0 h.grow h'))
  ·exact .inr (h.new nm b c ho ht)
theorem Rep.chg{own it:Nat->Option Own}{x:AV}
  (h:Rep I own θ w v x) (k:Chg own θ I w it θ' I' w'):Rep I' it θ' w' v x:=h.mono k.imm k.cell k.le
def GOk(I:Nat->Nat->Prop)(w:World):Prop:=∀ g cells,mg g=some cells->RepV I w (.pointer (some ⟨g,0,none⟩)) (.rptr cells)
structure Ip where
 w0:World
 n:Nat
 own0:Nat->Option Own
 θ0:Nat->Option (Nat×Nat)
 I0:Nat->Nat->Prop
 glob:GOk I0 w0
 lt0:∀ nm,own0 nm≠none->nm<B6
structure Sto where
 tmp:Nat->AV
 own:Nat->Option Own
structure Rel(Γ:Ip)(σ:Sto)(I:Nat->Nat->Prop)(θ:Nat->Option (Nat×Nat))(a:Act)(w:World):Prop where
 size:a.tmps.size=Γ.n
 defers:a.defers=[]
 slots:∀ t,Rep I σ.own θ w (a.tmps.getD t undef) (σ.tmp t)
 chg:Chg Γ.own0 Γ.θ0 Γ.I0 Γ.w0 σ.own θ I w
theorem Rel.glob{Γ:Ip}{σ:Sto}(h:Rel Γ σ I θ a w):GOk I w:=λg cells hg=>(Γ.glob g _ hg).mono h.chg.imm h.chg.cell
def AVle(x y:AV):Prop:=∀(I:Nat->Nat->Prop) (own:Nat->Option Own) (θ:Nat->Option (Nat×Nat)) (w:World) (v:Value),Rep I own θ w v x->Rep I own θ w v y
theorem LV{g:Nat}(h:w.heap[g]?=some o):g<w.heap.size:=by
 grind
theorem Sh{b o:Nat}{u:Value}(h:w.cell? ⟨b,o,none⟩=some u):b<w.heap.size:=World.block_lt_of_cell?  (h:=h)
theorem RepV.slice_inv{f:Nat->List AV}{t:Tag}(h:RepV I w v (.slice sz n f t)) :
  t = .none/\∃(a:Option Addr) (cap:Nat) (us:Nat->Value),v = .slice a n cap/\n<=cap/\cap<=maxLen /\
   (0<n->∃ b,a=some b/\b.spot=none/\(∀ j,j<n*sz->I b.block (b.off+j))/\(∀ j,j<n*sz->w.cell? ⟨b.block,b.off+j,none⟩=some (us j))) /\
   (a=none->cap=0)/\(∀ j,j<n*sz->(us j).oneCell'=true)/\(∀ i,i<n->(f i).length=sz) /\
   (∀ i c,i<n->c<sz->RepV I w (us (i*sz+c)) ((f i).getD c .any)):=by
 cases h with
 | slice a n cap sz f us IN Is hz hn h1 hl hr=>exact⟨rfl,a,cap,us,rfl,IN,Is,hz,hn,h1,hl,hr⟩
theorem Rep.slice_val{own:Nat->Option Own}{f:Nat->List AV}{t:Tag}
  (h:Rep I own θ w v (.slice sz n f t)):RepV I w v (.slice sz n f .none):=by
 cases h with
 | val v x h=>obtain⟨rfl,_⟩:=h.slice_inv;exact h
 | exact a n sz f h=>exact h
 | own nm sz e m a n cap f ho hm hv h=>exact h
 | fam b i sz e m a n cap f hi ho hm hv h=>exact h
theorem Rep.int_inv{own:Nat->Option Own}{n:Int}
  (h:Rep I own θ w v (.int k n)):v = .int k n:=by
 cases h with
 | val v x h=>cases h;rfl
theorem Rep.bool_inv{own:Nat->Option Own}
  (h:Rep I own θ w v (.bool b)):v = .bool b:=by
 cases h with
 | val v x h=>cases h;rfl
theorem Rep.str_inv{own:Nat->Option Own}{s:List Int}
  (h:Rep I own θ w v (.str s)):∃ b,v = .string b/\NQ b=s:=by
 cases h with
 | val v x h=>cases h;simp
theorem Rep.undef_inv{own:Nat->Option Own}
  (h:Rep I own θ w v .undef):v=Go.undef:=by
 cases h with
 | val v x h=>cases h;rfl
theorem Rep.nilp_inv{own:Nat->Option Own}
  (h:Rep I own θ w v .nilp):v = .pointer none:=by
 cases h with
 | val v x h=>cases h;rfl
theorem Rep.ptr_inv{own:Nat->Option Own}{off:Nat}
  (h:Rep I own θ w v (.ptr nm off)):∃ e cells g c,own nm=some (.row e cells)/\θ nm=some (g,c)/\v = .pointer (some ⟨g,off,none⟩):=by
 cases h with
 | val v x h=>cases h
 | ptr nm off e cells g c ho hg=>grind
theorem Rep.omap_inv{own:Nat->Option Own}
  (h:Rep I own θ w v (.omap nm)):∃ x,own nm=some (.obj x)/\v = .map ((θ nm).map (·.1)):=by
 cases h with
 | val v x h=>cases h
 | omap nm x ho=>grind
theorem Rep.nilm_inv{own:Nat->Option Own}
  (h:Rep I own θ w v .nilm):v = .map none:=by
 cases h with
 | val v x h=>cases h;rfl
theorem Rep.nilq_inv{own:Nat->Option Own}{pos:Bool}
  (h:Rep I own θ w v (.nilq pos n)):∃ b,v = .bool b/\(b=pos->n=0):=by
 cases h with
 | val v x h=>cases h with
  | nilq b _ _ h=>grind
theorem Rep.err_inv{own:Nat->Option Own}
  (h:Rep I own θ w v (.err b)):(b=false/\v = .nilIface)\/(b=true/\∃ t x,v = .iface t x):=by
 cases h with
 | val v x h=>cases h with
  | err0=>simp
  | err1 t x=>simp
theorem Rep.vsl_inv{own:Nat->Option Own}
  (h:Rep I own θ w v (.vsl nm n)):∃ sz e m f a cap,v = .slice a n cap/\own nm=some (.arr sz e m f)/\n<=m/\n<=cap/\cap<=maxLen/\(a=none->cap=0) /\
   (n=m->match θ nm with|none=>cap=n|some (g,c)=>a=some ⟨g,0,none⟩/\cap=c):=by
 cases h with
 | val v x h=>cases h
 | vsl nm sz e m f a n cap ho hm IN Is hn hv=>grind
theorem Rep.vpt_inv{own:Nat->Option Own}{i:Nat}
  (h:Rep I own θ w v (.vpt nm n i j)):∃ sz e m f ad,v = .pointer (some ad)/\own nm=some (.arr sz e m f)/\n<=m/\i<n/\(n=m->∃ g c,θ nm=some (g,c)/\ad=⟨g,i*sz+j,none⟩):=by
 cases h with
 | val v x h=>cases h
 | vpt nm sz e m f n i j ad ho hm hi hv=>grind
theorem Rep.vsub_inv{own:Nat->Option Own}{lo hi:Nat}
  (h:Rep I own θ w v (.vsub nm n lo hi)):∃ sz e m f a cap,v = .slice a (hi-lo) cap/\own nm=some (.arr sz e m f)/\n<=m/\lo<=hi/\hi<=n/\hi-lo<=cap/\cap<=maxLen/\(a=none->cap=0) /\
   (n=m->cr (θ nm) n lo hi sz e a cap):=by
 cases h with
 | val v x h=>cases h
 | vsub nm sz e m f n lo hi a cap ho hm hlo hhi IN Is hn hv=>grind
theorem Rep.clo_inv{own:Nat->Option Own}{f:Nat}{xs ys:List AV}
  (h:Rep I own θ w v (.clo f xs ys)):∃ fs cs:Array Value,v = .func (.func f) fs cs/\fs.size=xs.length/\cs.size=ys.length/\(∀ j,j<xs.length->Rep I own θ w (fs.getD j Go.undef) (xs.getD j .any))/\(∀ j,j<ys.length->Rep I own θ w (cs.getD j Go.undef) (ys.getD j .any)):=by
 cases h with
 | val v x h=>cases h with|clo f=>simp
 | clo f fs cs xs ys hl hl' hr hr'=>grind
theorem Rep.rptr_inv{own:Nat->Option Own}{cells:List AV}
  (h:Rep I own θ w v (.rptr cells)):∃(a:Addr) (us:Nat->Value),v = .pointer (some a)/\a.spot=none/\(∀ j,j<cells.length->I a.block (a.off+j)) /\
   (∀ j,j<cells.length->w.cell? ⟨a.block,a.off+j,none⟩=some (us j))/\(∀ j,j<cells.length->(us j).oneCell'=true) /\
   (∀ j,j<cells.length->RepV I w (us j) (cells.getD j .any)):=by
 cases h with
 | val v x h=>cases h with|rptr a cells us hs hI hc h1 hr=>exact⟨a,us,rfl,hs,hI,hc,h1,hr⟩
theorem Rep.rpo_inv{own:Nat->Option Own}{cells:List AV}
  (h:Rep I own θ w v (.rpo cells)):∃(a:Addr) (us:Nat->Value),v = .pointer (some a)/\a.spot=none/\(∀ j,j<cells.length->I a.block (a.off+j)) /\
   (∀ j,j<cells.length->w.cell? ⟨a.block,a.off+j,none⟩=some (us j))/\(∀ j,j<cells.length->(us j).oneCell'=true) /\
   (∀ j,j<cells.length->Rep I own θ w (us j) (cells.getD j .any)):=by
 cases h with
 | val v x h=>cases h
 | rpo a cells us hs hI hc h1 hr=>exact⟨a,us,rfl,hs,hI,hc,h1,hr⟩
theorem Rep.agg_inv{own:Nat->Option Own}{cs:List AV}
  (h:Rep I own θ w v (.agg cs)):∃ vs,v = .agg vs/\vs.size=cs.length/\(∀ j,j<cs.length->(vs.getD j Go.undef).oneCell'=true) /\
   (∀ j,j<cs.length->Rep I own θ w (vs.getD j Go.undef) (cs.getD j .any)):=by
 cases h with
 | val v x h=>cases h with|agg vs cs hl h1 hr=>exact⟨vs,rfl,hl,h1,λj hj=>.val _ _ (hr j hj)⟩
 | agg vs cs hl h1 hr=>grind
theorem Rep.tuple_inv{own:Nat->Option Own}{cs:List AV}
  (h:Rep I own θ w v (.tuple cs)):∃ vs,v = .tuple vs/\vs.size=cs.length /\
   (∀ j,j<cs.length->Rep I own θ w (vs.getD j Go.undef) (cs.getD j .any)):=by
 cases h with
 | val v x h=>cases h with|tuple vs cs hl hr=>exact⟨vs,rfl,hl,λj hj=>.val _ _ (hr j hj)⟩
 | tuple vs cs hl hr=>grind
theorem Rep.cond_inv{own:Nat->Option Own}{c:Bool}{x:AV}
  (h:Rep I own θ w v (.cond c x)):(c=true->Rep I own θ w v x)/\(c=false->v=Go.undef):=by
 cases h with
 | val v x h=>cases h with|cond v c x h h'=>exact⟨λhc=>.val _ _ (h hc),h'⟩
 | cond v c x h h'=>grind
mutual
def AV.erase(ab4:Nat->Bool):AV->AV
 | .slice sz n f (.own nm)=>.slice sz n f (bif ab4 nm then .own nm else .none)
 | .slice sz n f (.fam b i)=>.slice sz n f (bif ab4 b then .fam b i else .none)
 | .ptr nm off=>bif ab4 nm then .ptr nm off else .any
 | .vsl nm n=>bif ab4 nm then .vsl nm n else .any
 | .vpt nm n i j=>bif ab4 nm then .vpt nm n i j else .any
 | .vsub nm n lo hi=>bif ab4 nm then .vsub nm n lo hi else .any
 | .optr nm mm=>bif ab4 nm then .optr nm mm else .any
 | .omap nm=>bif ab4 nm then .omap nm else .any
 | .clo f xs ys=>.clo f (AV.eraseAll ab4 xs) (AV.eraseAll ab4 ys)
 | .agg cs=>.agg (AV.eraseAll ab4 cs)
 | .rpo cs=>.rpo (AV.eraseAll ab4 cs)
 | .tuple cs=>.tuple (AV.eraseAll ab4 cs)
 | .cond c x=>.cond c (x.erase ab4)
 | x=>x
def AV.eraseAll(ab4:Nat->Bool):List AV->List AV
 | []=>[]
 | x::l=>x.erase ab4::AV.eraseAll ab4 l
end
theorem Be(ab4:Nat->Bool)(l:List AV):(AV.eraseAll ab4 l).length=l.length:=by induction l with|nil=>rfl|cons x l ih=>simp[AV.eraseAll,ih]
theorem Ii(ab4:Nat->Bool)(l:List AV)(j:Nat):(AV.eraseAll ab4 l).getD j .any=(l.getD j .any).erase ab4:=by
 induction l generalizing j with
 | nil=>rfl
 | cons x l ih=>cases j with
  | zero=>rfl
  | succ j=>simp_all [AV.eraseAll]
def Own.erase(ab4:Nat->Bool):Own->Own
 | .row e cells=>.row e (AV.eraseAll ab4 cells)
 | .arr sz e m f=>.arr sz e m (λi=>AV.eraseAll ab4 (f i))
 | .obj x=>.obj (x.on (AV.erase ab4))
 | .tok sz e m=>.tok sz e m
theorem RepV.erase{x:AV}(h:RepV I w v x)(ab4:Nat->Bool):RepV I w v (x.erase ab4):=by
 induction h with
 | any v=>exact .any v
 | undef=>exact .undef
 | int k n=>exact .int k n
 | bool b=>exact .bool b
 | str s=>exact .str s
 | clo f=>exact .clo f
 | nxt1 i r=>exact .nxt1 i r
 | nxt0 i r=>exact .nxt0 i r
 | nilq b pos n h=>exact .nilq b pos n h
 | err0=>exact .err0
 | err1 t v=>exact .err1 t v
 | nilp=>exact .nilp
 | nilm=>exact .nilm
 | cond v c x _ h' ih=>exact .cond v c _ ih h'
 | rptr a cells us hs hI' hc h1 hr _=>exact .rptr a _ us hs hI' hc h1 hr
 | slice a n cap sz f us IN Is hz hn h1 hl hr _=>exact .slice a n cap sz f us IN Is hz hn h1 hl hr
 | agg vs cs hl h1 _ ih=>exact .agg vs _ (by rw[Be,hl]) (λj hj=>h1 j (by rwa[Be]at hj)) (λj hj=>by grind [Be,Ii])
 | tuple vs cs hl _ ih=>exact .tuple vs _ (by rw[Be,hl]) (λj hj=>by grind [Be,Ii])
theorem Rep.erase{own it:Nat->Option Own}{x:AV}(h:Rep I own θ w v x)(ab4:Nat->Bool)
  (ho:∀ nm o,own nm=some o->ab4 nm=true->it nm=some (o.erase ab4)) (hb:∀ b i sz e m,i<B6->own (U0 b i)=some (.tok sz e m)->ab4 b=true->it (U0 b i)=some (.tok sz e m)):Rep I it θ w v (x.erase ab4):=by
 induction h with
 | val v x h=>exact .val _ _ (h.erase ab4)
 | exact a n sz f h=>exact .exact a n sz f h
 | own nm sz e m a n cap f hn hm hv h=>
  simp only[AV.erase]
  cases hk:ab4 nm with
  | true=>exact .own nm sz e m a n cap f (ho nm _ hn hk) hm hv h
  | false=>exact .val _ _ h
 | fam b i sz e m a n cap f hi hn hm hv h=>
  simp only[AV.erase]
  cases hk:ab4 b with
  | true=>exact .fam b i sz e m a n cap f hi (hb b i _ _ _ hi hn hk) hm hv h
  | false=>exact .val _ _ h
 | ptr nm off e cells g c hn hg=>
  simp only[AV.erase]
  cases hk:ab4 nm with
  | true=>exact .ptr nm off e _ g c (ho nm _ hn hk) hg
  | false=>exact .val _ _ (.any _)
 | vsl nm sz e m f a n cap hn hm IN Is hnn hv=>
  simp only[AV.erase]
  cases hk:ab4 nm with
  | true=>exact .vsl nm sz e m _ a n cap (ho nm _ hn hk) hm IN Is hnn hv
  | false=>exact .val _ _ (.any _)
 | vpt nm sz e m f n i j ad hn hm hi hv=>
  simp only[AV.erase]
  cases hk:ab4 nm with
  | true=>exact .vpt nm sz e m _ n i j ad (ho nm _ hn hk) hm hi hv
  | false=>exact .val _ _ (.any _)
 | clo f fs cs xs ys hl hl' _ _ ih ih'=>exact .clo f fs cs _ _ (by rw[Be,hl]) (by rw[Be,hl']) (λj hj=>by grind [Be,Ii]) (λj hj=>by grind [Be,Ii])
 | vsub nm sz e m f n lo hi a cap hn hm hlo hhi IN Is hnn hv=>
  simp only[AV.erase]
  cases hk:ab4 nm with
  | true=>exact .vsub nm sz e m _ n lo hi a cap (ho nm _ hn hk) hm hlo hhi IN Is hnn hv
  | false=>exact .val _ _ (.any _)
 | optr nm mm x g c hn hg=>
  simp only[AV.erase]
  cases hk:ab4 nm with
  | true=>exact .optr nm _ _ g c (ho nm _ hn hk) hg
  | false=>exact .val _ _ (.any _)
 | omap nm x hn=>
  simp only[AV.erase]
  cases hk:ab4 nm with
  | true=>exact .omap nm _ (ho nm _ hn hk)
  | false=>exact .val _ _ (.any _)
 | cond v c x _ h' ih=>exact .cond v c _ ih h'
 | agg vs cs hl h1 _ ih=>exact .agg vs _ (by rw[Be,hl]) (λj hj=>h1 j (by rwa[Be]at hj)) (λj hj=>by grind [Be,Ii])
 | tuple vs cs hl _ ih=>exact .tuple vs _ (by rw[Be,hl]) (λj hj=>by grind [Be,Ii])
 | rpo a cells us hs hI' hc h1 _ ih=>exact .rpo a _ us hs (λj hj=>hI' j (by rwa[Be]at hj)) (λj hj=>hc j (by rwa[Be]at hj)) (λj hj=>h1 j (by rwa[Be]at hj)) (λj hj=>by grind [Be,Ii])
theorem ZV(s:ByteArray):(NQ s).length=s.size:=by simp[NQ]
def Aj{α:Type}:List (Nat×α)->Nat->Option α
 | [],_=>none
 | (k,v)::l,n=>bif Nat.beq k n then some v else Aj l n
def F8(P:Program)(t:TypeId):Bool:=
 match P.underlying t with
 | some (.struct _)|some (.array _ _)=>true
 | _=>false
def Bt(P:Program)(t:TypeId):Nat:=((P.info? t).map (·.size)).getD 0
def Dg(P:Program)(t:TypeId):Bool:=(P.info? t).isSome&&(P.underlying t).isSome
def AV.ofCell:Value->AV
 | .int k n=>.int k n
 | .bool b=>.bool b
 | .string s=>.str (NQ s)
 | .pointer none=>.nilp
 | .slice none 0 0=>.slice 0 0 (λ_=>[]) .exact
 | .nilIface=>.err false
 | .map none=>.nilm
 | _=>.any
def AV.ofValue:Value->AV
 | .agg cs=>bif cs.toList.all (·.oneCell') then .agg (cs.toList.map AV.ofCell) else .any
 | .tuple vs=>match vs.toList with|[]=>.undef|_=>.any
 | v=>AV.ofCell v
def AV.one:AV->Bool
 | .int _ _ | .bool _ | .str _ | .nilp | .err _ | .ptr _ _ | .rptr _ | .slice _ _ _ _ | .vsl _ _ | .vpt _ _ _ _ | .vsub _ _ _ _ | .clo _ _ _ | .omap _ | .nilm | .rpo _=>true
 | _=>false
def AV.cells:AV->Option (List AV)
 | .agg cs=>some cs
 | x=>bif x.one then some [x] else none
structure Eff where
 v:AV
 wo:List (Nat×Own)
 ob:List Prop
def Eff.pure(v:AV)(ob:List Prop):Option Eff:=some ⟨v,[],ob⟩
def As(i:Int)(n:Nat):Prop:=0<=i/\i<(n:Int)
def Xj(op:BinOp)(k:IntKind)(x y:Int):Int:=
 let a:=BitVec.ofInt k.bits x
 let b:=BitVec.ofInt k.bits y
 match op with
 | .and=>k.wrap (a &&& b).toNat
 | .or=>k.wrap (a ||| b).toNat
 | .xor=>k.wrap (a ^^^ b).toNat
 | _=>k.wrap (a &&& ~~~b).toNat
def WO(k:IntKind)(x y:Int):Int:=k.wrap (x*2 ^ min y.toNat k.bits)
def Zu(k:IntKind)(x y:Int):Int:=x.fdiv (2 ^ min y.toNat k.bits)
def be(a b:IntKind):Bool:=
 match a,b with
 | .i8,.i8 | .i16,.i16 | .i32,.i32 | .i64,.i64 | .u8,.u8 | .u16,.u16 | .u32,.u32 | .u64,.u64=>true
 | _,_=>false
def Aay(op:BinOp)(k:IntKind)(a b:Int):Option Eff:=
 match op with
 | .add=>Eff.pure (.int k (k.wrap (a+b))) []
 | .sub=>Eff.pure (.int k (k.wrap (a-b))) []
 | .mul=>Eff.pure (.int k (k.wrap (a*b))) []
 | .quo=>Eff.pure (.int k (k.wrap (a.tdiv b))) [b≠0]
 | .rem=>Eff.pure (.int k (a.tmod b)) [b≠0]
 | .and=>Eff.pure (.int k (Xj .and k a b)) []
 | .or=>Eff.pure (.int k (Xj .or k a b)) []
 | .xor=>Eff.pure (.int k (Xj .xor k a b)) []
 | .andNot=>Eff.pure (.int k (Xj .andNot k a b)) []
 | .eql=>Eff.pure (.bool (a==b)) []
 | .neq=>Eff.pure (.bool (a !=b)) []
 | .lss=>Eff.pure (.bool (decide (a<b))) []
 | .leq=>Eff.pure (.bool (decide (a<=b))) []
 | .gtr=>Eff.pure (.bool (decide (b<a))) []
 | .geq=>Eff.pure (.bool (decide (b<=a))) []
 | _=>none
def Aax(op:BinOp)(x y:AV):Option Eff:=
 match op,x,y with
 | .shl,.int k a,.int _ b=>Eff.pure (.int k (WO k a b)) [0<=b]
 | .shr,.int k a,.int _ b=>Eff.pure (.int k (Zu k a b)) [0<=b]
 | op,.int k a,.int k' b=>bif be k k' then Aay op k a b else none
 | _,_,_=>none
def HN:List AV->List AV->Option Bool
 | [],[]=>some true
 | .int k a::xs,.int k' b::ys=>bif be k k' then(match HN xs ys with|some r=>some ((a==b)&&r)|none=>none) else none
 | _,_=>none
def kG(P:Program)(t:TypeId):Bool:=match P.underlying t with|some (.int _)=>true|_=>false
def mS(P:Program)(t:TypeId):Bool:=match P.underlying t with|some .bool=>true|_=>false
def AR (P : Program) : Nat → List Field → List AV → List AV → Option Bool
  | _, [], [], [] => some true
  | s, f :: l, .int k a :: xs, .int k' b :: ys => bif decide (f.name ≠ "_") && kG P f.type && Nat.beq f.offset s && be k k' then (match AR P (s + 1) l xs ys with | some r => some ((a == b) && r) | none => none) else none
  | s, f :: l, .bool a :: xs, .bool b :: ys => bif decide (f.name ≠ "_") && mS P f.type && Nat.beq f.offset s then (match AR P (s + 1) l xs ys with | some r => some ((a == b) && r) | none => none) else none
  | _, _, _, _ => none
def cx(P:Program)(t:TypeId)(xs ys:List AV):Option Bool:=
 match P.underlying t with
 | some (.struct fs)=>bif !(P.stoodInHeld t)&&!(P.eqGuardType P.depth t) then AR P 0 fs.toList xs ys else none
 | some (.array len e)=>bif Dg P e&&kG P e&&Nat.beq (Bt P e) 1&&!(P.eqGuardType P.depth t)&&Nat.beq xs.length len&&Nat.beq ys.length len then HN xs ys else none
 | _=>none
def rH(P:Program)(op:BinOp)(t:TypeId)(x y:AV):Option Eff:=
 match op,x,y with
 | .eql,.bool a,.bool b=>match P.underlying t with|some .bool=>Eff.pure (.bool (a==b)) []|_=>none
 | .neq,.bool a,.bool b=>match P.underlying t with|some .bool=>Eff.pure (.bool (a !=b)) []|_=>none
 | .eql,.agg xs,.agg ys=>match cx P t xs ys with|some r=>Eff.pure (.bool r) []|none=>none
 | .neq,.agg xs,.agg ys=>match cx P t xs ys with|some r=>Eff.pure (.bool (!r)) []|none=>none
 | _,_,_=>Aax op x y
def aUn(op:UnOp)(x:AV):Option Eff:=
 match op,x with
 | .not,.bool b=>Eff.pure (.bool (!b)) []
 | .neg,.int k n=>Eff.pure (.int k (k.wrap (0-n))) []
 | .xor,.int k n=>Eff.pure (.int k (Xj .xor k (if k.signed then -1 else k.max) n)) []
 | _,_=>none
def Qi(n:Nat)(f g:Nat->List AV)(i:Nat):List AV:=bif Nat.blt i n then f i else g (i-n)
def fk(sz:Nat):Nat->List AV->List (List AV)
 | 0,_=>[]
 | n+1,l=>l.take sz::fk sz n (l.drop sz)
def AV.view:AV->Option (Nat×Nat×Nat×Nat)
 | .vsl nm n=>some (nm,n,0,n)
 | .vsub nm n lo hi=>some (nm,n,lo,hi)
 | _=>none
def Zy(x:AV):List Nat:=match x.view with|some (nm,_)=>[nm]|none=>[]
def J9(o:Oper)(vs:List AV):List Nat:=
 match o.op,vs with
 | .load _ _,[.ptr nm _]=>[nm]
 | .store _ _ _,[.ptr nm _,_]=>[nm]
 | .load _ _,[.vpt nm _ _ _]=>[nm]
 | .store _ _ _,[.vpt nm _ _ _,_]=>[nm]
 | .indexAddr _ _ _,[.vsl nm _,_]=>[nm]
 | .indexAddr _ _ _,[.vsub nm _ _ _,_]=>[nm]
 | .indexAddr _ _ _,[.vpt nm _ _ _,_]=>[nm]
 | .slice _ _ _ _ _,.vsl nm _::_=>[nm]
 | .slice _ _ _ _ _,.vsub nm _ _ _::_=>[nm]
 | .slice _ _ _ _ _,.vpt nm _ _ _::_=>[nm]
 | .call { callee:=.builtin .copy,.. },[x,y]=>Zy x++Zy y
 | .call { callee:=.builtin .clear,.. },[x]=>Zy x
 | .makeSlice _ _ _,_=>[o.dst.getD 0]
 | .buildSlice _ _ _,_=>[o.dst.getD 0]
 | .range _ _,[.omap nm]=>[o.dst.getD 0,nm]
 | .range _ _,_=>[o.dst.getD 0]
 | .next _ _,[.optr nm _]=>[nm]
 | .entry _,[.optr nm mm]=>[nm,mm]
 | .makeMap _ _,_=>[o.dst.getD 0]
 | .lookup _ _ _ _,[.omap nm,_]=>[nm]
 | .mapUpdate _ _ _ _,[.omap nm,_,_]=>[nm]
 | .insert _ _ _ _,[.omap nm,_,_]=>[nm]
 | .call { callee:=.builtin .len,.. },[.omap nm]=>[nm]
 | .call { callee:=.builtin .append,.. },[.vsl nm _,_]=>[nm]
 | .alloc _,_=>[o.dst.getD 0]
 | .box _ _,_=>[o.dst.getD 0]
 | .call { callee:=.builtin .append,.. },[.slice _ _ _ (.own nm),_]=>[nm]
 | .call { callee:=.builtin .append,.. },[.slice _ _ _ .exact,_]=>[o.dst.getD 0]
 | _,_=>[]
def room:Nat:=1099511627776
def HF(P:Program)(d:Nat)(ts:List TypeId)(vs:List AV)(es:List (Option Own)):Option Eff:=
 match ts,vs,es with
 | [t,t'],[.slice sz n f tag,.slice sz' n' f' _],[eo]=>
  match P.underlying t with
  | some (.slice e)=>
   let s:=Bt P e
   bif Nat.beq t t'&&Dg P e&&Nat.ble 1 s&&Nat.ble (((P.info? e).map (·.bytes)).getD 1000) 128&&((P.info? e).bind (·.zero)).isSome&&(Nat.beq sz s || Nat.beq n 0)&&(Nat.beq sz' s || Nat.beq n' 0)
    && Nat.beq ((((P.info? e).bind (·.zero)).map (·.cells.size)).getD 0) s then
    match tag,eo with
    | .own nm,some (.tok sz0 e0 m)=>
     bif Nat.beq sz0 s&&Nat.beq e0 e then
      some ⟨.slice s (n+n') (Qi n f f') (.own nm),[(nm,.tok s e (n+n'))],[m=n,n+n'<=room]⟩
     else none
    | .exact,none=>some ⟨.slice s (n+n') (Qi n f f') (.own d),[(d,.tok s e (n+n'))],[n+n'<=room,e=Zx->n=0\/0<n']⟩
    | _,_=>none
   else none
  | _=>none
 | _,_,_=>none
def FA(place:Nat->Option (Nat×Nat))(cells:List AV):List (Nat×AV)->Option (List AV)
 | []=>some cells
 | (i,v)::rest=>
  match place i,v.cells with
  | some (off,size),some cs=>bif Nat.beq cs.length size&&Nat.ble (off+cs.length) cells.length then FA place (cells.take off++cs++cells.drop (off+cs.length)) rest else none
  | _,_=>none
def GN(P:Program)(t:TypeId):Option (List AV):=
 match(P.info? t).bind (·.zero) with
 | some z=>bif z.cells.toList.all (·.oneCell') then some (z.cells.toList.map AV.ofCell) else none
 | none=>none
def bv(P:Program)(t:TypeId)(cs:List AV)(off:Nat):Option AV:=
 bif Dg P t then
  bif F8 P t then(bif Nat.ble (off+Bt P t) cs.length then some (.agg ((cs.drop off).take (Bt P t))) else none)
  else(bif Nat.blt off cs.length then some (cs.getD off .any) else none)
 else none
def je(P:Program)(t:TypeId)(is:List Nat)(vs:List AV):Option Eff:=
 match GN P t,P.underlying t with
 | some z,some (.struct ab6)=>
  bif ab6.toList.all (λf=>Dg P f.type) then
   match FA (λi=>(ab6.toList.map λf=>(f.offset,Bt P f.type))[i]?) z (is.zip vs) with
   | some cs=>Eff.pure (.agg cs) []
   | none=>none
  else none
 | some z,some (.array _ e)=>
  bif Dg P e then
   match FA (λi=>some (i*Bt P e,Bt P e)) z (is.zip vs) with
   | some cs=>Eff.pure (.agg cs) []
   | none=>none
  else none
 | _,_=>none
def EU(P:Program)(t:TypeId)(len:Nat)(is:List Nat)(vs:List AV):Option Eff:=
 match P.underlying t with
 | some (.slice e)=>
  match GN P e with
  | some z=>
   bif Dg P e&&Nat.beq z.length (Bt P e)&&Nat.ble 1 (Bt P e)&&Nat.ble (len*Bt P e) 16777216 then
    match FA (λi=>some (i*Bt P e,Bt P e)) ((List.replicate len z).flatten) (is.zip vs) with
    | some cs=>Eff.pure (.slice (Bt P e) len (λi=>(fk (Bt P e) len (AV.stripAll cs)).getD i []) .exact) []
    | none=>none
   else none
  | none=>none
 | _=>none
def AV.num:List AV->Int
 | [.int _ x]=>x
 | _=>0
def Acj(n:Nat)(f:Nat->List AV):Prop:=∀ i,i<n->f i=[.int .u8 (AV.num (f i))]/\0<=AV.num (f i)/\AV.num (f i)<256
def jh(P:Program)(t:TypeId)(lo hi mx:Bool)(vs:List AV):Option Eff:=
 match P.underlying t with
 | some (.slice e)=>
  bif Dg P e then
   match lo,hi,mx,vs with
   | false,false,false,[.slice sz n f _]=>bif Nat.beq sz (Bt P e) || Nat.beq n 0 then Eff.pure (.slice sz n f .none) [] else none
   | true,false,false,[.slice sz n f _,.int _ l]=>bif Nat.beq sz (Bt P e) || Nat.beq n 0 then Eff.pure (.slice sz (n-l.toNat) (λi=>f (l.toNat+i)) .none) [0<=l/\l<=n] else none
   | false,true,false,[.slice sz n f _,.int _ h]=>bif Nat.beq sz (Bt P e) || Nat.beq n 0 then Eff.pure (.slice sz h.toNat f .none) [0<=h/\h<=n] else none
   | false,true,true,[.slice sz n f _,.int _ h,.int _ m]=>bif Nat.beq sz (Bt P e) || Nat.beq n 0 then Eff.pure (.slice sz h.toNat f .exact) [0<=h/\h=m/\h<=n] else none
   | true,true,true,[.slice sz n f _,.int _ l,.int _ h,.int _ m]=>bif Nat.beq sz (Bt P e) || Nat.beq n 0 then Eff.pure (.slice sz (h.toNat-l.toNat) (λi=>f (l.toNat+i)) .exact) [0<=l/\l<=h/\h=m/\h<=n] else none
   | true,true,false,[.slice sz n f _,.int _ l,.int _ h]=>bif Nat.beq sz (Bt P e) || Nat.beq n 0 then Eff.pure (.slice sz (h.toNat-l.toNat) (λi=>f (l.toNat+i)) .none) [0<=l/\l<=h/\h<=n] else none
   | _,_,_,_=>none
  else none
 | _=>none
def bw(cells:List AV)(k:Nat):Nat->List AV
 | 0=>[]
 | n+1=>cells.getD k .any::bw cells (k+1) n
def Aa0(P:Program)(o:Oper)(vs:List AV)(es:List (Option Own)):Option Eff:=
 match o.op with
 | .move _ | .assign _=>match vs with|[x]=>Eff.pure x []|_=>none
 | .binOp op t _ _ _=>match vs with|[x,y]=>rH P op t x y|_=>none
 | .unOp op _ _=>match vs with|[x]=>aUn op x|_=>none
 | .convert src dst _=>
  match P.underlying src,P.underlying dst,vs with
  | some (.int _),some (.int k),[.int _ n]=>Eff.pure (.int k (k.wrap n)) []
  | _,_,_=>none
 | .load t _=>
  bif Dg P t then
   match vs,es with
   | [.ptr _ off],[some (.row _ cells)]=>
    bif F8 P t then(bif Nat.ble (off+Bt P t) cells.length then Eff.pure (.agg ((cells.drop off).take (Bt P t))) [] else none)
    else(bif Nat.blt off cells.length then Eff.pure (cells.getD off .any) [] else none)
   | [.rptr cells],_=>
    bif F8 P t then(bif Nat.beq (Bt P t) cells.length then Eff.pure (.agg cells) [] else none)
    else(bif Nat.ble 1 cells.length then Eff.pure (cells.getD 0 .any) [] else none)
   | _,_=>none
  else none
 | .store t _ _=>
  bif Dg P t then
   match vs,es with
   | [.ptr nm off,x],[some (.row e cells)]=>
    match x.cells with
    | some cs=>bif Nat.beq cs.length (Bt P t)&&Nat.ble (off+cs.length) cells.length then some ⟨.undef,[(nm,.row e (cells.take off++cs++cells.drop (off+cs.length)))],[]⟩ else none
    | none=>none
   | _,_=>none
  else none
 | .fieldAddr s _ f=>
  match P.underlying s with
  | some (.struct ab6)=>
   match ab6[f]? with
   | some fd=>
    bif Dg P fd.type&&Nat.ble 1 (Bt P fd.type) then
     match vs with
     | [.ptr nm off]=>Eff.pure (.ptr nm (off+fd.offset)) []
     | [.rptr cells]=>bif Nat.ble (fd.offset+Bt P fd.type) cells.length then Eff.pure (.rptr ((cells.drop fd.offset).take (Bt P fd.type))) [] else none
     | _=>none
    else none
   | none=>none
  | _=>none
 | .field s _ f=>
  match P.underlying s,vs with
  | some (.struct ab6),[.agg cs]=>
   match ab6[f]? with
   | some fd=>match bv P fd.type cs fd.offset with|some x=>Eff.pure x []|none=>none
   | none=>none
  | _,_=>none
 | .indexAddr t _ _=>
  match P.underlying t,vs with
  | some (.slice e),[.slice sz n f _,.int _ i]=>
   bif Dg P e&&(Nat.beq sz (Bt P e) || Nat.beq n 0) then Eff.pure (.rptr (f i.toNat)) [As i n] else none
  | some (.array len e),[.ptr nm off,.int _ i]=>
   bif Dg P e then Eff.pure (.ptr nm (off+i.toNat*Bt P e)) [As i len] else none
  | some (.array len e),[.rptr cells,.int _ i]=>
   bif Dg P e&&Nat.beq cells.length (len*Bt P e) then Eff.pure (.rptr (bw cells (i.toNat*Bt P e) (Bt P e))) [As i len] else none
  | _,_=>none
 | .index t _ _=>
  match P.underlying t,vs with
  | some (.array len e),[.agg cs,.int _ i]=>
   bif Dg P e&&!F8 P e&&Nat.beq (Bt P e) 1&&Nat.beq cs.length len then Eff.pure (cs.getD i.toNat .any) [As i len]
   else bif Dg P e&&F8 P e&&Nat.beq cs.length (len*Bt P e) then Eff.pure (.agg ((cs.drop (i.toNat*Bt P e)).take (Bt P e))) [As i len] else none
  | _,_=>none
 | .extract _ ix=>match vs with|[.tuple xs]=>(bif Nat.blt ix xs.length then Eff.pure (xs.getD ix .any) [] else none)|_=>none
 | .nilCheck _=>match vs with|[.ptr nm off]=>Eff.pure (.ptr nm off) []|[.rptr cs]=>Eff.pure (.rptr cs) []|_=>none
 | .alloc t=>
  match o.dst,GN P t,es with
  | some d,some z,[none]=>bif Dg P t then some ⟨.ptr d 0,[(d,.row t z)],[]⟩ else none
  | _,_,_=>none
 | .box t _=>
  match o.dst,vs,es with
  | some d,[x],[none]=>match x.cells with|some cs=>some ⟨.ptr d 0,[(d,.row t cs)],[]⟩|none=>none
  | _,_,_=>none
 | .build t ac4=>je P t (ac4.toList.map (·.1)) vs
 | .buildSlice t len ac4=>EU P t len (ac4.toList.map (·.1)) vs
 | .slice t _ lo hi mx=>jh P t lo.isSome hi.isSome mx.isSome vs
 | .call { callee:=.builtin .len,argTypes,.. }=>
  match argTypes.toList with
  | [t]=>
   match P.underlying t,vs with
   | some (.slice _),[.slice _ n _ _]=>Eff.pure (.int .i64 n) []
   | some (.array n _),[_]=>Eff.pure (.int .i64 n) []
   | _,_=>none
  | _=>none
 | .call { callee:=.builtin .max,.. }=>match vs with|[.int k a,.int _ b]=>Eff.pure (.int k (if a<b then b else a)) []|_=>none
 | .call { callee:=.builtin .append,argTypes,.. }=>match o.dst with|some d=>HF P d argTypes.toList vs es|none=>none
 | _=>none
def F4(f:Nat->List AV)(i j:Nat)(cs:List AV):Nat->List AV:=λk=>bif Nat.beq k i then(f i).take j++cs++(f i).drop (j+cs.length) else f k
def bF(P:Program)(t t' e:TypeId):Bool:=
 Nat.beq t t'&&Dg P e&&Nat.ble 1 (Bt P e)&&Nat.ble (((P.info? e).map (·.bytes)).getD 1000) 128&&((P.info? e).bind (·.zero)).isSome&&Nat.beq ((((P.info? e).bind (·.zero)).map (·.cells.size)).getD 0) (Bt P e)
def jy(f:Nat->List AV)(lo k:Nat)(g:Nat->List AV):Nat->List AV:=λi=>bif Nat.ble lo i&&Nat.blt i (lo+k) then g (i-lo) else f i
def zC(P:Program)(ts:List TypeId)(x y:AV)(es:List (Option Own)):Option Eff:=
 match ts,x.view with
 | [t,_],some (nm,n,lo,hi)=>
  match P.underlying t,es with
  | some (.slice e),some (.arr sz e0 m f)::es'=>
   bif Dg P e&&Nat.beq sz (Bt P e) then
    match y.view,es' with
    | some (_,n',lo',hi'),[some (.arr sz' _ m' f')]=>
     bif Nat.beq sz' sz then some ⟨.int .i64 (Nat.min (hi'-lo') (hi-lo):Nat),[(nm,.arr sz e0 m (jy f lo (Nat.min (hi'-lo') (hi-lo)) (λi=>f' (lo'+i))))],[n=m,n'=m']⟩ else none
    | none,[]=>
     match y with
     | .slice sz' n' f' _=>bif Nat.beq sz' sz || Nat.beq n' 0 then some ⟨.int .i64 (Nat.min n' (hi-lo):Nat),[(nm,.arr sz e0 m (jy f lo (Nat.min n' (hi-lo)) f'))],[n=m]⟩ else none
     | _=>none
    | _,_=>none
   else none
  | _,_=>none
 | _,_=>none
def rK(P:Program)(t:TypeId)(lo hi mx:Bool)(x:AV)(vs:List AV):Option Eff:=
 match P.underlying t,x.view with
 | some (.slice e),some (nm,n,l0,h0)=>
  bif Dg P e then
   match lo,hi,mx,vs with
   | true,false,false,[.int _ l]=>Eff.pure (.vsub nm n (l0+l.toNat) h0) [0<=l/\l0+l.toNat<=h0]
   | false,true,false,[.int _ h]=>Eff.pure (.vsub nm n l0 (l0+h.toNat)) [0<=h/\l0+h.toNat<=h0]
   | true,true,false,[.int _ l,.int _ h]=>Eff.pure (.vsub nm n (l0+l.toNat) (l0+h.toNat)) [0<=l/\l<=h/\l0+h.toNat<=h0]
   | _,_,_,_=>none
  else none
 | _,_=>none
def rU(P:Program)(ac9:Bool)(o:Oper)(vs:List AV)(es:List (Option Own)):Option Eff:=
 match o.op,vs,es with
 | .load t _,[.vpt _ n i j],[some (.arr sz _ m f)]=>
  bif Dg P t then
   bif F8 P t then(bif Nat.ble (j+Bt P t) sz then Eff.pure (.agg (((f i).drop j).take (Bt P t))) [n=m] else none)
   else(bif Nat.blt j sz then Eff.pure ((f i).getD j .any) [n=m] else none)
  else none
 | .store t _ _,[.vpt nm n i j,x],[some (.arr sz e m f)]=>
  match x.cells with
  | some cs=>bif Dg P t&&Nat.beq cs.length (Bt P t)&&Nat.ble (j+cs.length) sz then some ⟨.undef,[(nm,.arr sz e m (F4 f i j cs))],[n=m]⟩ else none
  | none=>none
 | .fieldAddr s _ k,[.vpt nm n i j],_=>
  match P.underlying s with
  | some (.struct ab6)=>
   match ab6[k]? with
   | some fd=>bif Dg P fd.type&&Nat.ble 1 (Bt P fd.type) then Eff.pure (.vpt nm n i (j+fd.offset)) [] else none
   | none=>none
  | _=>none
 | .indexAddr t _ _,[.vsl nm n,.int _ i],[some (.arr sz _ _ _)]=>
  match P.underlying t with
  | some (.slice e)=>bif Dg P e&&Nat.beq sz (Bt P e) then Eff.pure (.vpt nm n i.toNat 0) [As i n] else none
  | _=>none
 | .slice t _ lo hi mx,x::vs,[some (.arr sz _ _ _)]=>
  match P.underlying t with
  | some (.slice e)=>bif Nat.beq sz (Bt P e) then rK P t lo.isSome hi.isSome mx.isSome x vs else none
  | _=>none
 | .call { callee:=.builtin .copy,argTypes,.. },[x,y],es=>zC P argTypes.toList x y es
 | .makeFunc (.func f) first ac8,vs,_=>bif Nat.beq vs.length (first.toList.length+ac8.toList.length) then Eff.pure (.clo f (vs.take first.toList.length) (vs.drop first.toList.length)) [] else none
 | .makeSlice t _ _,[.int _ l,.int _ c],[none]=>
  match o.dst,P.underlying t with
  | some d,some (.slice e)=>
   match GN P e with
   | some z=>bif Dg P e&&Nat.ble 1 (Bt P e)&&Nat.beq z.length (Bt P e)&&Nat.ble (((P.info? e).map (·.bytes)).getD 1000) 128 then some ⟨.vsl d l.toNat,[(d,.arr (Bt P e) e l.toNat (λ_=>z))],[0<=l/\l<=c/\c<=(room:Int)]⟩ else none
   | none=>none
  | _,_=>none
 | .call { callee:=.builtin .len,argTypes,.. },[.vsl _ n],_=>
  match argTypes.toList with
  | [t]=>match P.underlying t with|some (.slice _)=>Eff.pure (.int .i64 n) []|_=>none
  | _=>none
 | .call { callee:=.builtin .append,argTypes,.. },[.vsl nm n,.slice sz' n' f' _],[some (.arr sz0 e0 m f)]=>
  match argTypes.toList with
  | [t,t']=>
   match P.underlying t with
   | some (.slice e)=>bif bF P t t' e&&(Nat.beq sz' (Bt P e) || Nat.beq n' 0)&&Nat.beq sz0 (Bt P e)&&Nat.beq e0 e then some ⟨.vsl nm (n+n'),[(nm,.arr sz0 e0 (n+n') (Qi n f f'))],[n=m,n+n'<=room]⟩ else none
   | _=>none
  | _=>none
 | .call { callee:=.builtin .append,argTypes,.. },[.slice _ n _ .exact,.slice sz' n' f' _],[none]=>
  match argTypes.toList,o.dst with
  | [t,t'],some d=>
   match P.underlying t with
   | some (.slice e)=>bif ac9&&bF P t t' e&&(Nat.beq sz' (Bt P e) || Nat.beq n' 0)&&Nat.beq n 0 then some ⟨.vsl d n',[(d,.arr (Bt P e) e n' f')],[n'<=room]⟩ else none
   | _=>none
  | _,_=>none
 | _,_,_=>none
def NM(P:Program)(t:TypeId)(len:Nat)(is:List Nat)(vs:List AV)(d:Nat):Option Eff:=
 match P.underlying t with
 | some (.slice e)=>
  match GN P e with
  | some z=>
   bif Dg P e&&Nat.beq z.length (Bt P e)&&Nat.ble 1 (Bt P e)&&Nat.ble (len*Bt P e) 16777216 then
    match FA (λi=>some (i*Bt P e,Bt P e)) ((List.replicate len z).flatten) (is.zip vs) with
    | some cs=>some ⟨.vsl d len,[(d,.arr (Bt P e) e len (λi=>(cs.drop (i*Bt P e)).take (Bt P e)))],[]⟩
    | none=>none
   else none
  | none=>none
 | _=>none
def rS(P:Program)(ac9:Bool)(o:Oper)(vs:List AV)(es:List (Option Own)):Option Eff:=
 match o.op,vs,es with
 | .alloc t,[],[none]=>
  match o.dst,P.underlying t,GN P t with
  | some d,some (.array len e),some z=>
   bif ac9&&Dg P e&&Nat.ble 1 len&&Nat.beq z.length (len*Bt P e)&&Nat.ble len room then some ⟨.vpt d len 0 0,[(d,.arr (Bt P e) t len (λi=>(z.drop (i*Bt P e)).take (Bt P e)))],[]⟩ else none
  | _,_,_=>none
 | .indexAddr t _ _,[.vpt nm n 0 0,.int _ i],[some (.arr sz _ _ _)]=>
  match P.underlying t with
  | some (.array len e)=>bif Dg P e&&Nat.beq n len&&Nat.beq sz (Bt P e) then Eff.pure (.vpt nm n i.toNat 0) [As i n] else none
  | _=>none
 | .binOp .eql t _ (.const (.slice none 0 0)) _,[.slice _ n _ _,_],_=>match P.underlying t with|some (.slice _)=>Eff.pure (.nilq true n) []|_=>none
 | .buildSlice t len ac4,vs,[none]=>bif ac9 then(match o.dst with|some d=>NM P t len (ac4.toList.map (·.1)) vs d|none=>none) else none
 | _,_,_=>none
def Nm{V:Type}(d:V):List (Int×V)->Int->V
 | [],_=>d
 | (a,b)::r,k=>bif k==a then b else Nm d r k
def Lb{V:Type}:List (Int×V)->Int->Bool
 | [],_=>false
 | (a,_)::r,k=>(k==a) || Lb r k
def Qb{V:Type}:List (Int×V)->Int->V->List (Int×V)
 | [],k,v=>[(k,v)]
 | (a,b)::r,k,v=>bif k==a then(k,v)::r else(a,b)::Qb r k v
def s4(P:Program)(t:TypeId):Option (IntKind×TypeId):=
 match P.underlying t with
 | some (.map kt e)=>match P.underlying kt with|some (.int k)=>some (k,e)|_=>none
 | _=>none
def um(P:Program)(t:TypeId):Option AV:=((P.info? t).bind (·.zero)).map λv=>(AV.ofValue v).strip
def rT(P:Program)(o:Oper)(vs:List AV)(es:List (Option Own)):Option Eff:=
 match o.op,vs,es with
 | .makeMap t none,[],[none]=>match o.dst,s4 P t with|some d,some (k,_)=>some ⟨.omap d,[(d,.obj (.map true k []))],[]⟩|_,_=>none
 | .lookup t _ _ ok,[.omap _,.int k' i],[some (.obj (.map _ k l))]=>
  match s4 P t with
  | some (k0,e)=>bif be k k'&&be k k0 then(match um P e with|some z=>Eff.pure (bif ok then .tuple [Nm z l i,.bool (Lb l i)] else Nm z l i) []|none=>none) else none
  | none=>none
 | .mapUpdate t _ _ _,[.omap nm,.int k' i,x],[some (.obj (.map true k l))]=>
  match s4 P t with
  | some (k0,_)=>bif be k k'&&be k k0 then some ⟨.undef,[(nm,.obj (.map true k (Qb l i x.strip)))],[]⟩ else none
  | none=>none
 | _,_,_=>none
def UC(n:Nat)(f:Nat->List AV):List AV:=(List.range n).flatMap f
def rR(P:Program)(o:Oper)(vs:List AV)(es:List (Option Own)):Option Eff:=
 match o.op,vs,es with
 | _,_,_=>none
def rV(P:Program)(ac9:Nat)(o:Oper)(vs:List AV)(es:List (Option Own)):Option Eff:=
 match o.op,vs,es with
 | .box _ _,[x],[none]=>
  bif Nat.beq ac9 2 then(match x with | .agg _=>none|x=>match x.cells with|some cs=>Eff.pure (.rpo cs) []|none=>none)
  else bif Nat.beq ac9 3 then(match x.cells with|some cs=>Eff.pure (.rptr (AV.stripAll cs)) []|none=>none) else none
 | .load t _,[.rpo cells],_=>bif Dg P t&&!F8 P t&&Nat.ble 1 cells.length then Eff.pure (cells.getD 0 .any) [] else none
 | _,_,_=>none
def rW(P:Program)(ac9:Nat)(o:Oper)(vs:List AV)(es:List (Option Own)):Option Eff:=
 match rV P ac9 o vs es with
 | some e=>some e
 | none=>match rU P (Nat.beq ac9 1) o vs es with
 | some e=>some e
 | none=>match rS P (Nat.beq ac9 1) o vs es with|some e=>some e|none=>match rT P o vs es with|some e=>some e|none=>match rR P o vs es with|some e=>some e|none=>Aa0 P o vs es
mutual
def AV.ren(ρ:List (Nat×Nat)):AV->AV
 | .slice sz n f (.own nm)=>.slice sz n f (match Aj ρ nm with|some k=>.own k|none=>.none)
 | .slice sz n f .exact=>.slice sz n f .exact
 | .slice sz n f (.fam _ _)=>.slice sz n f .none
 | .ptr nm off=>match Aj ρ nm with|some k=>.ptr k off|none=>.any
 | .vsl nm n=>match Aj ρ nm with|some k=>.vsl k n|none=>.any
 | .vpt nm n i j=>match Aj ρ nm with|some k=>.vpt k n i j|none=>.any
 | .vsub nm n lo hi=>match Aj ρ nm with|some k=>.vsub k n lo hi|none=>.any
 | .optr nm mm=>match Aj ρ nm with|some k=>.optr k ((Aj ρ mm).getD 0)|none=>.any
 | .omap nm=>match Aj ρ nm with|some k=>.omap k|none=>.any
 | .clo f xs ys=>.clo f (AV.renAll ρ xs) (AV.renAll ρ ys)
 | .agg cs=>.agg (AV.renAll ρ cs)
 | .rpo cs=>.rpo (AV.renAll ρ cs)
 | .tuple cs=>.tuple (AV.renAll ρ cs)
 | .cond c x=>.cond c (x.ren ρ)
 | x=>x
def AV.renAll(ρ:List (Nat×Nat)):List AV->List AV
 | []=>[]
 | x::l=>x.ren ρ::AV.renAll ρ l
end
mutual
def AV.loose:AV->AV
 | .slice sz n f .exact=>.slice sz n f (bif Nat.beq sz 0 then .exact else .none)
 | .agg cs=>.agg (AV.looseAll cs)
 | x=>x
def AV.looseAll:List AV->List AV
 | []=>[]
 | x::l=>x.loose::AV.looseAll l
end
mutual
def AV.vs(l:List (Nat×Own)):AV->AV
 | .slice sz n f _=>.slice sz n f .none
 | .vsl nm n=>match Aj l nm with|some (.arr sz _ _ f)=>.slice sz n (λi=>AV.stripAll (f i)) .none|_=>.any
 | .vsub nm _ lo hi=>match Aj l nm with|some (.arr sz _ _ f)=>.slice sz (hi-lo) (λi=>AV.stripAll (f (lo+i))) .none|_=>.any
 | .agg cs=>.agg (AV.vsAll l cs)
 | x=>x.strip
def AV.vsAll(l:List (Nat×Own)):List AV->List AV
 | []=>[]
 | x::r=>x.vs l::AV.vsAll l r
end
def AV.vsA(l:List (Nat×Own)):AV->AV
 | .clo f xs ys=>.clo f (AV.stripAll xs) (AV.stripAll ys)
 | x=>x.vs l
mutual
def AV.vsOb(l:List (Nat×Own)):AV->List Prop
 | .vsl nm n=>match Aj l nm with|some (.arr _ _ m _)=>[n=m]|_=>[]
 | .vsub nm n _ _=>match Aj l nm with|some (.arr _ _ m _)=>[n=m]|_=>[]
 | .agg cs=>AV.vsObAll l cs
 | _=>[]
def AV.vsObAll(l:List (Nat×Own)):List AV->List Prop
 | []=>[]
 | x::r=>x.vsOb l++AV.vsObAll l r
end
mutual
def AV.flat:AV->Bool
 | .int _ _ | .bool _ | .str _ | .err _ | .undef | .any=>true
 | .agg cs=>AV.flatAll cs
 | .tuple cs=>AV.flatAll cs
 | _=>false
def AV.flatAll:List AV->Bool
 | []=>true
 | x::r=>x.flat&&AV.flatAll r
end
def AV.flatC:AV->Bool
 | .omap _=>true
 | .vsl _ _=>true
 | .ptr _ _=>true
 | .nilp=>true
 | x=>x.flat
def AV.flatR:AV->Bool
 | .tuple cs=>cs.all AV.flatC
 | x=>x.flatC
def AV.flatD:AV->Bool
 | .slice _ _ _ (.own _)=>true
 | x=>x.flatC
def AV.flatN:AV->Prop
 | .slice _ n _ (.own _)=>n=0
 | _=>True
def j8:List AV->Prop
 | []=>True
 | x::r=>x.flatN/\j8 r
def zF:Own->Prop
 | .obj (.map _ _ l)=>∀ q∈l,q.2.flat=true
 | .obj (.pmap _ _ l)=>∀ q∈l,q.2.flat=true
 | .arr _ _ m f=>∀ i,i<m->AV.flatAll (f i)=true
 | .row _ cells=>cells.all AV.flatD=true/\j8 cells
 | .tok _ _ _=>True
 | _=>False
def QI:List (Nat×Own)->Prop
 | []=>True
 | (_,o)::r=>zF o/\QI r
def Va:List Nat->List (Option Own)->List (Nat×Own)
 | n::ns,some o::es=>(n,o)::Va ns es
 | _::ns,none::es=>Va ns es
 | _,_=>[]
def Own.ren(ρ:List (Nat×Nat)):Own->Own
 | .row e cells=>.row e (AV.renAll ρ cells)
 | .arr sz e m f=>.arr sz e m (λi=>AV.renAll ρ (f i))
 | .obj x=>.obj (x.on (AV.ren ρ))
 | .tok sz e m=>.tok sz e m
structure Xf where
 hs:List (Nat×Nat)
 fr:List (Nat×Nat)
 res:AV
 H:List (Nat×Own)
 vw:List Nat
 ro:List Nat
structure qE where
 sz:Nat
 e:TypeId
 m:Nat->Option Nat
structure St where
 tmps:List (Nat×AV)
 own:List (Nat×Own)
 fam:List (Nat×qE)
def St.get(st:St)(t:Nat):AV:=match Aj st.tmps t with|some x=>x|none=>.any
def Df(l:List (Nat×Own))(r:List (Nat×qE))(k:Nat):Option Own:=
 if k<B6 then Aj l k else(Aj r (k / B6-1)).bind λF=>(F.m (k % B6)).map (Own.tok F.sz F.e)
def St.sto(st:St):Sto:=⟨st.get,Df st.own st.fam⟩
def HV(ns:List Nat)(wo:List (Nat×Own)):Bool:=ns.all (λn=>Nat.blt n B6)&&wo.all (λp=>Nat.blt p.1 B6)
def VS(l:List (Nat×Own)):Bool:=l.all (λp=>Nat.blt p.1 B6)
def f5(get:Nat->AV):Operand->AV
 | .tmp t=>get t
 | .const v=>AV.ofValue v
 | .func f=>.clo f [] []
 | .global g=>match mg g with|some cells=>.rptr cells|none=>.any
def AV.uncond:AV->AV
 | .cond _ x=>x
 | x=>x
def AV.there(γ:Bool)(gd:Bool):AV->List Prop
 | .cond c _=>bif gd then[γ=true->c=true] else[c=true]
 | _=>[]
def Abj(gd γ:Bool)(obs:List Prop):List Prop:=bif gd then obs.map λp=>(γ=true->p) else obs
def AV.boolIn:AV->Option (List Prop×Bool)
 | .bool x=>some ([],x)
 | .cond c (.bool x)=>some ([c=true],x)
 | _=>none
def rJ(vs:List AV):Option Eff:=
 match vs with
 | [c,a,b]=>
  match c.uncond,a.boolIn,b.boolIn with
  | .bool cb,some (pa,xa),some (pb,xb)=>some ⟨.bool (bif cb then xa else xb),[],pa.map (λp=>(cb=true->p))++pb.map (λp=>(cb=false->p))⟩
  | _,_,_=>none
 | _=>none
def sY(ag0:Bool):AV->Option Bool
 | .bool b=>some (b==ag0)
 | .cond c (.bool b)=>some (c&&(b==ag0))
 | .undef=>some false
 | _=>none
def UG(o:Oper):Bool:=
 match o.op with
 | .call { callee:=.value _,.. }=>true
 | _=>false
def sE(o:Oper)(vs:List AV):Option (FuncId×List AV):=
 match o.op with
 | .call { callee:=.value (.func f),.. }=>some (f,vs.drop 1)
 | .call { callee:=.value (.tmp _),.. }=>match vs with | .clo f fs cs::rest=>some (f,fs++rest++cs)|_=>none
 | _=>none
def JY(o:Oper):Bool:=match o.op with | .pick _ _ _=>true|_=>false
abbrev LG:=FuncId->List AV->List (Nat×Own)->AV->List (Nat×Own)->Prop
def HK(r:Xf):List Nat:=r.vw++(r.hs.map (·.1)++r.fr.map (·.2))
def F7(r:Xf):List (Nat×Nat):=r.hs.map (λx=>(x.2,x.1))++r.fr
def FH(hs:List (Nat×Nat))(es:List (Option Own)):Option (List (Nat×Own)):=
 match hs,es with
 | [],_=>some []
 | (_,k)::hs',some o::es'=>match FH hs' es' with|some l=>some ((k,o)::l)|none=>none
 | _,_=>none
def SG:List (Option Own)->Bool
 | []=>true
 | none::l=>SG l
 | _::_=>false
def Ce(n:Nat):List Nat->Bool
 | []=>false
 | k::l=>Nat.beq k n || Ce n l
def BG:List Nat->Bool
 | []=>true
 | k::l=>!Ce k l&&BG l
def Sg(r:Xf):List (Nat×Own):=r.H.map (λx=>(match Aj (F7 r) x.1 with|some c=>c|none=>0,x.2.ren (F7 r)))
def V2(es:List (Option Own))(r:Xf):Bool:=
 SG (es.drop r.hs.length)&&BG ((F7 r).map (·.2))&&BG ((F7 r).map (·.1))&&BG (r.H.map (·.1))&&BG ((Sg r).map (·.1))&&r.H.all (λx=>Ce x.1 ((F7 r).map (·.1)))
def bb{α:Type}:List α->Bool
 | []=>true
 | _=>false
def uG(ro:List Nat)(wo:List (Nat×Own)):List (Nat×Own):=wo.filter λx=>!Ce x.1 ro
def uF(ro:List Nat)(wo:List (Nat×Own)):List (Nat×Nat)->List (Option Own)->List Prop
 | (n,_)::hs,e::es=>(bif Ce n ro then[Aj wo n=e] else[])++uF ro wo hs es
 | _,_=>[]
def jf(S:LG)(f:FuncId)(vs:List AV)(es:List (Option Own))(r:Xf):Option Eff:=
 match FH r.hs es with
 | some H=>
  bif V2 es r then
   bif bb r.ro then some ⟨r.res.ren (F7 r),Sg r,[S f ((vs.map (AV.ren r.hs)).map AV.loose) (H.map λx=>(x.1,x.2.ren r.hs)) r.res r.H]⟩
   else bif r.ro.all λn=>Ce n (r.hs.map (·.1)) then
    some ⟨r.res.ren (F7 r),uG r.ro (Sg r),S f ((vs.map (AV.ren r.hs)).map AV.loose) (H.map λx=>(x.1,x.2.ren r.hs)) r.res r.H::uF r.ro (Sg r) r.hs es⟩
   else none
  else none
 | none=>none
def rI(S:LG)(f:FuncId)(vs:List AV)(es:List (Option Own))(r:Xf):Option Eff:=
 bif bb r.vw then jf S f vs es r else
 bif bb r.hs&&r.res.flatR&&V2 (es.drop r.vw.length) r then
  some ⟨r.res.ren (F7 r),Sg r,S f (vs.map (AV.vsA (Va r.vw es))) [] r.res r.H::QI r.H::AV.vsObAll (Va r.vw es) vs⟩
 else none
def HQ(γ gd:Bool):List AV->List Prop
 | c::_=>c.there γ gd
 | []=>[]
structure Ad5 where
 v:AV
 wo:List (Nat×Own)
 ob:List Prop
def se(o:Oper):Bool:=match o.op with | .load _ _=>true|_=>false
def zJ(o:Oper):Bool:=match o.op with | .box _ _=>true|_=>false
def na(o:Oper)(c:Option AV):Nat:=bif se o then 0 else match c with|some (.vsl _ _)=>1|some (.vpt _ _ _ _)=>1|some (.rpo _)=>2|some (.rptr _)=>bif zJ o then 3 else 0|_=>0
def kZ(o:Oper)(c:Option AV):Option AV:=bif se o then c else match c with|some (.vsl _ _)=>none|some (.vpt _ _ _ _)=>none|some (.rpo _)=>none|some (.rptr _)=>bif zJ o then none else c|c=>c
def md(P:Program)(S:LG)(ac9:Nat)(o:Oper)(vs:List AV)(es:List (Option Own))(r:Option Xf):Option Eff:=
 bif JY o then rJ vs else
 bif UG o then
  match sE o (vs.map AV.uncond),r with
  | some (f,az),some r=>rI S f az es r
  | _,_=>none
 else rW P ac9 o (vs.map AV.uncond) es
def TP(y:AV)(wo:List (Nat×Own)):List (Nat×Own)×List Prop:=
 match y,wo with
 | .slice _ n _ (.own _),[(nm,.tok s t k)]=>([(nm,.tok s t n)],[k=n])
 | _,wo=>(wo,[])
def TO(c:Option AV)(e:Eff):Eff:=
 match c with
 | none=>e
 | some y=>⟨y,(TP y e.wo).1,e.ob++(AVle e.v y::(TP y e.wo).2)⟩
def AV.merge(γ:Bool):AV->AV->Option AV
 | .int k a,.int k' b=>bif be k k' then some (.int k (bif γ then b else a)) else none
 | .bool a,.bool b=>some (.bool (bif γ then b else a))
 | .str a,.str b=>some (.str (bif γ then b else a))
 | .nilp,.nilp=>some .nilp
 | .omap n,.omap n'=>bif Nat.beq n n' then some (.omap n) else none
 | .any,.any=>some .any
 | .ptr n o,.ptr n' o'=>bif Nat.beq n n'&&Nat.beq o o' then some (.ptr n o) else none
 | .slice sz n f .none,.slice sz' n' f' .none=>bif Nat.beq sz sz' then some (.slice sz (bif γ then n' else n) (λi=>bif γ then f' i else f i) .none) else none
 | .slice sz n f (.own k),.slice sz' n' f' (.own k')=>bif Nat.beq sz sz'&&Nat.beq k k' then some (.slice sz (bif γ then n' else n) (λi=>bif γ then f' i else f i) (.own k)) else none
 | .nilm,.nilm=>some .nilm
 | .err a,.err b=>some (.err (bif γ then b else a))
 | .vsl n k,.vsl n' k'=>bif Nat.beq n n' then some (.vsl n (bif γ then k' else k)) else none
 | _,_=>none
def AV.mergeAll(γ:Bool):List AV->List AV->Option (List AV)
 | [],[]=>some []
 | x::l,y::m=>match x.merge γ y,AV.mergeAll γ l m with|some z,some r=>some (z::r)|_,_=>none
 | _,_=>none
def Own.merge(γ:Bool):Own->Own->Option Own
 | .row e l,.row e' m=>bif Nat.beq e e' then(match AV.mergeAll γ l m with|some r=>some (.row e r)|none=>none) else none
 | .arr sz e n f,.arr sz' e' n' f'=>bif Nat.beq sz sz'&&Nat.beq e e' then some (.arr sz e (bif γ then n' else n) (λi=>bif γ then f' i else f i)) else none
 | .tok sz e n,.tok sz' e' n'=>bif Nat.beq sz sz'&&Nat.beq e e' then some (.tok sz e (bif γ then n' else n)) else none
 | .obj (.map nn k l),.obj (.map nn' k' l')=>bif (nn==nn')&&be k k' then some (.obj (.map nn k (bif γ then l' else l))) else none
 | _,_=>none
def hZ(ns:List Nat)(es:List (Option Own))(n:Nat):Option Own:=
 match ns,es with
 | k::ns,e::es=>bif Nat.beq k n then e else hZ ns es n
 | _,_=>none
def Xu(γ:Bool)(ns:List Nat)(es:List (Option Own)):List (Nat×Own)->Option (List (Nat×Own))
 | []=>some []
 | (n,o)::r=>
  match Xu γ ns es r with
  | none=>none
  | some r'=>
   match hZ ns es n with
   | some o'=>match o'.merge γ o with|some z=>some ((n,z)::r')|none=>(match γ with|true=>some ((n,o)::r')|false=>some r')
   | none=>match γ with|true=>some ((n,o)::r')|false=>some r'
def Abe(cs:List (Nat×AV))(o:Oper):Option AV:=match o.dst with|some d=>Aj cs d|none=>none
def Yd(o:Oper)(vs:List AV)(r:Option Xf):List Nat:=
 bif UG o then(match r with|some r=>HK r|none=>[]) else J9 o (vs.map AV.uncond)
def uM(P:Program)(S:LG)(c:Option AV)(o:Oper)(vs:List AV)(gv:Option (AV×Bool))(es:List (Option Own))(r:Option Xf):Option Ad5:=
 match gv with
 | none=>
  match(md P S (na o c) o vs es r).map (TO (kZ o c)) with
  | some e=>some ⟨e.v,e.wo,(bif JY o then HQ true false vs else(vs.map (AV.there true false)).flatten)++e.ob⟩
  | none=>none
 | some (g,ag0)=>
  match sY ag0 g,(md P S (na o c) o vs es r).map (TO (kZ o c)) with
  | some γ,some e=>
   match Xu γ (Yd o vs r) es e.wo with
   | some wo=>some ⟨.cond γ e.v,wo,(bif JY o then HQ γ true vs else(vs.map (AV.there γ true)).flatten)++Abj true γ e.ob⟩
   | none=>none
  | _,_=>none
def FF(ops:List Oper)(get:Nat->AV)(o:Oper):Option (Option (AV×Bool)):=
 match o.guard with
 | none=>some none
 | some (j,ag0)=>
  match ops[j]? with
  | some oj=>match oj.dst with|some t=>some (some (get t,ag0))|none=>none
  | none=>none
def E1{α:Type}(l:List (Nat×α))(k:Nat)(x:α):List (Nat×α):=
 match l with
 | []=>[(k,x)]
 | (k',y)::r=>bif Nat.beq k' k then(k,x)::r else(k',y)::E1 r k x
def VV{α:Type}(l:List (Nat×α)):List (Nat×α)->List (Nat×α)
 | []=>l
 | (k,x)::r=>E1 (VV l r) k x
def St.upd(st:St)(dst:Option Nat)(v:AV)(wo:List (Nat×Own)):St:=
 ⟨match dst with|some d=>E1 st.tmps d v|none=>st.tmps,VV st.own wo,st.fam⟩
structure Tr where
 rt:List Nat
 wt:Option Nat
 rn:List Nat
 wn:List Nat
def k8(o:Oper):List Nat:=o.op.operands.toList.filterMap λ| .tmp t=>some t|_=>none
def HP(ops:List Oper)(o:Oper):List Nat:=
 match o.guard with
 | none=>[]
 | some (j,_)=>match ops[j]? with|some oj=>oj.dst.toList|none=>[]
def zQ(o:Oper)(rs:List Xf):Option Xf:=bif UG o then rs.head? else none
def yI(o:Oper)(rs:List Xf):List Xf:=bif UG o then rs.tail else rs
def sK(n:Nat)(o:Oper):Bool:=match o.dst with|some d=>Nat.blt d n|none=>true
def rQ(P:Program)(S:LG)(n:Nat)(cs:List (Nat×AV))(ops:List Oper):List Oper->St->List Xf->Option (St×List Prop×List Tr)
 | [],st,_=>some (st,[],[])
 | o::rest,st,rs=>
  let vs:=o.op.operands.toList.map (f5 st.get)
  let r:=zQ o rs
  let ns:=Yd o vs r
  match FF ops st.get o with
  | none=>none
  | some gv=>
   match uM P S (Abe cs o) o vs gv (ns.map (Aj st.own)) r with
   | none=>none
   | some e=>
    bif sK n o&&HV ns e.wo then
     match rQ P S n cs ops rest (st.upd o.dst e.v e.wo) (yI o rs) with
     | none=>none
     | some (st',obs,trs)=>some (st',e.ob++obs,⟨HP ops o++k8 o,o.dst,ns,e.wo.map (·.1)⟩::trs)
    else none
def E9(ab2 ac:List Nat)(st:St):St:=
 ⟨ab2.map λt=>(t,(st.get t).erase (λn=>Ce n ac)),ac.filterMap λn=>match Aj st.own n with|some o=>some (n,o.erase λn=>Ce n ac)|none=>none,
  ac.filterMap λn=>match Aj st.fam n with|some o=>some (n,o)|none=>none⟩
def H7(ab2 ac:List Nat)(st:St):St:=E9 ab2 (ac.filter λn=>Nat.blt n B6) st
def fu:List Prop->Prop
 | []=>True
 | p::l=>p/\fu l
def kC(x y:Tr):Bool:=
 (match x.wt with|some d=>!Ce d y.rt&&(match y.wt with|some d'=>!Nat.beq d d'|none=>true)|none=>true) &&
 (match y.wt with|some d=>!Ce d x.rt|none=>true) &&
 x.wn.all (λn=>!Ce n y.rn&&!Ce n y.wn)&&y.wn.all (λn=>!Ce n x.rn)
def Abv(done:List Nat)(o:Oper):Nat:=
 o.after.toList.foldl (λs e=>bif Region.binds .any e then s ||| (2 ^ e.on ||| done.getD e.on 0) else s) 0
def mL(done:List Nat):List Oper->List Nat
 | []=>done
 | o::r=>mL (done++[Abv done o]) r
def SO:Nat->List Oper->Bool
 | _,[]=>true
 | i,o::r=>o.after.toList.all (λe=>!Region.binds .any e || Nat.blt e.on i)&&SO (i+1) r
def mY(ms:List Nat):Nat->List (Nat×Tr)->List Tr->Bool
 | _,_,[]=>true
 | i,ai4,t::r=>ai4.all (λp=>kC p.2 t || (ms.getD i 0).testBit p.1)&&mY ms (i+1) ((i,t)::ai4) r
def nF(ops:List Oper)(trs:List Tr):Bool:=SO 0 ops&&mY (mL [] ops) 0 [] trs
def SI(P:Program)(S:LG)(n:Nat)(cs:List (Nat×AV))(ab2 ac:List Nat)(ops:List Oper)(ah5:Bool)(st:St)(rs:List Xf):Option (St×List Prop×Bool):=
 match rQ P S n cs ops ops st rs with
 | some (st',obs,trs)=>some (H7 ab2 ac st',obs,bif ah5 then nF ops trs else true)
 | none=>none
def Sto.upd(σ:Sto)(dst:Option Nat)(v:AV)(wo:List (Nat×Own)):Sto:=
 ⟨λt=>if dst=some t then v else σ.tmp t,λnm=>match Aj wo nm with|some o=>some o|none=>σ.own nm⟩
theorem UE(w:World)(o:Obj){r:Nat}(h:r<w.heap.size):(w.alloc o).heap[r]?=w.heap[r]?:=by
 show(w.heap.push o)[r]?=_
 rw[Array.getElem?_push_lt h,Array.getElem?_eq_getElem h]
theorem tm(a:Act)(d t:Nat)(v:Value)(hd:d<a.tmps.size):((a.put (some d) v).tmps.getD t undef)=if d=t then v else a.tmps.getD t undef:=by
 simp only[Act.put,Vg]
 grind
theorem MM{Γ:Ip}{σ:Sto}{dst:Option Nat}{x:AV}{it:Nat->Option Own}
  (h:Rel Γ σ I θ a w) (k:Chg σ.own θ I w it θ' I' w') (hv:Rep I' it θ' w' v x) (hd:∀ d,dst=some d->d<Γ.n) :
  Rel Γ ⟨λt=>if dst=some t then x else σ.tmp t,it⟩ I' θ' (a.put dst v) w':=by
 refine⟨?_,?_,λt=>?_,h.chg.trans k⟩
 ·cases dst<;>simp[Act.put,h.size]
 ·cases dst<;>simp[Act.put,h.defers]
 ·cases dst with
  | none=>simpa [Act.put] using(h.slots t).chg k
  | some d=>
   have hlt:=hd d rfl;rw[tm a d t v (by rw[h.size];exact hlt)]
   by_cases e:d=t
   ·grind
   ·simpa [e] using(h.slots t).chg k
def Hq(P:Program)(Γ:Ip)(σ:Sto)(o:Oper)(a:Act)(w:World)(x:AV)(wo:List (Nat×Own)):Prop:=
 ∀(K:Act->World->Prop) (Q:Exit->Act->World->Prop),(∀ I' θ' a' w',Rel Γ (σ.upd o.dst x wo) I' θ' a' w'->K a' w')->o.wp P a w K Q
section
variable {P:Program} {Γ:Ip} {σ:Sto} {I:Nat->Nat->Prop} {θ:Nat->Option (Nat×Nat)} {a:Act} {w:World} {o:Oper}
theorem Bv(h:Rel Γ σ I θ a w)(hd:∀ d,o.dst=some d->d<Γ.n){x:AV}(hr:(execOp a.eval o).run P w = .ok (.value v) w)
  (hv:Rep I σ.own θ w v x):Hq P Γ σ o a w x []:=by
 intro K Q hK;unfold Oper.wp;rw[hr];exact hK I θ _ _ (MM h (.refl h.chg.rel h.chg.valid) hv hd)
theorem T5(h:Rel Γ σ I θ a w)(hd:∀ d,o.dst=some d->d<Γ.n){x:AV}{wo:List (Nat×Own)}
  (hr:(execOp a.eval o).run P w = .ok (.value v) w') (k:Chg σ.own θ I w (σ.upd o.dst x wo).own θ' I' w')
  (hv:Rep I' (σ.upd o.dst x wo).own θ' w' v x):Hq P Γ σ o a w x wo:=by
 intro K Q hK;unfold Oper.wp;rw[hr];exact hK I' θ' _ _ (MM h k hv hd)
theorem SS(h:Rel Γ σ I θ a w)(hd:∀ d,o.dst=some d->d<Γ.n){wo:List (Nat×Own)}
  (hr:(execOp a.eval o).run P w = .ok .skip w') (k:Chg σ.own θ I w (σ.upd o.dst .undef wo).own θ' I' w'):Hq P Γ σ o a w .undef wo:=by
 intro K Q hK;unfold Oper.wp;rw[hr];exact hK I' θ' _ _ (MM h k (.val _ _ .undef) hd)
theorem nC(h:Rel Γ σ I θ a w)(hd:∀ d,o.dst=some d->d<Γ.n)(x:Operand)(ho:o.op = .move x\/o.op = .assign x){y:AV}
  (hv:Rep I σ.own θ w (a.eval x) y):Hq P Γ σ o a w y []:=
 Bv h hd (by rcases ho with ho|ho<;>simp[execOp,ho]) hv
theorem BB{a b:IntKind}(h:be a b=true):a=b:=by cases a<;>cases b<;>simp_all [be]
theorem jg {op : BinOp} {k : IntKind} {x y : Int} {e : Eff} (h : Aay op k x y = some e) (hob : ∀ p ∈ e.ob, p) (t : TypeId) :
    e.wo = [] ∧ ∃ v, RepV I w v e.v ∧ (binOp op t (.int k x) (.int k y)).run P w = .ok v w := by
  cases op <;> simp only [Aay, Eff.pure, Ax, reduceCtorEq] at h <;> subst h <;> refine ⟨rfl, ?_⟩
  all_goals first
    | (refine ⟨_, .int _ _, ?_⟩; simp [binOp, Op.intArith]; done)
    | (refine ⟨_, .int _ _, ?_⟩; simp [binOp, Op.intBits, Xj]; done)
    | (refine ⟨_, .bool _, ?_⟩; simp [binOp, Op.intCmp])
    | (have hb  := hob _ (zzL10.2 rfl)
       refine ⟨_, .int _ _, ?_⟩; simp [binOp, Op.intDiv, hb])
theorem Zs{P:Program}(hu:P.underlying t=some .bool)(w:World)(a b:Bool):(Op.equal t (.bool a) (.bool b)).run P w = .ok (a==b) w:=by
 show(Op.equalIn 10000 t _ _).run P w=_
 unfold Op.equalIn;rw[Fh,F6 hu w]
 simp
theorem jd{x y:AV}{e:Eff}(h:Aax op x y=some e)(hob:∀ p∈e.ob,p)(hx:Rep I σ.own θ w vx x)(hy:Rep I σ.own θ w vy y)(t:TypeId)(ox oy:Operand) :
  e.wo=[]/\∃ v,RepV I w v e.v/\(do eqGuard op t ox oy vx vy;binOp op t vx vy:Sem Value).run P w = .ok v w:=by
 have key:∀{u v:Value},(∀ cs,u≠.agg cs)->u≠.nilIface->∀ r,(binOp op t u v).run P w=r->(do eqGuard op t ox oy u v;binOp op t u v:Sem Value).run P w=r:=by
  intro u v h1 h2 r hr
  have:(eqGuard op t ox oy u v).run P w = .ok () w:=by
   unfold eqGuard
   cases u<;>cases op<;>simp_all
  simp[this,hr]
 unfold Aax at h
 split at h
 ·simp only[Eff.pure,Ax]at h;subst h;obtain rfl:=hx.int_inv;obtain rfl:=hy.int_inv;have hb:=hob _ (zzL10.2 rfl);refine⟨rfl,_,.int _ _,key (by simp) (by simp) _ ?_⟩;have hb':¬ (_<(0:Int)):=Int.not_lt.2 hb;simp[binOp,Op.shift,hb',WO]
 ·simp only[Eff.pure,Ax]at h;subst h;obtain rfl:=hx.int_inv;obtain rfl:=hy.int_inv;have hb:=hob _ (zzL10.2 rfl);refine⟨rfl,_,.int _ _,key (by simp) (by simp) _ ?_⟩;have hb':¬ (_<(0:Int)):=Int.not_lt.2 hb;simp[binOp,Op.shift,hb',Zu]
 ·obtain rfl:=hx.int_inv;obtain rfl:=hy.int_inv
  rename_i k a' k' b' _ _
  cases hk:be k k' with
  | false=>grind
  | true=>
   simp only[hk,Ah]at h;obtain rfl:=BB hk;obtain⟨h1,v,hv,hr⟩:=jg (P:=P) (I:=I) (w:=w) h hob t
   grind
 grind
theorem QH:∀{xs ys:List AV} {r:Bool},HN xs ys=some r->xs.length=ys.length/\(∀ j,j<xs.length->∃ k a b,xs.getD j .any = .int k a/\ys.getD j .any = .int k b) /\
  (r=true↔∀ j,j<xs.length->∀ k a k' b,xs.getD j .any = .int k a->ys.getD j .any = .int k' b->a=b)
 | [],[],r,h=>by grind [HN]
 | [],_::_,r,h=>by trivial
 | x::xs,[],r,h=>by grind [HN]
 | x::xs,y::ys,r,h=>by
  cases x<;>cases y<;>simp only[HN]at h<;>try (cases h;done)
  rename_i k a k' b
  cases hk:be k k' with
  | false=>grind
  | true=>
   obtain rfl:=BB hk;simp only[hk,Ah]at h
   split at h
   ·rename_i q hq
    obtain⟨i1,i2,i3⟩:=QH hq;simp only[Ax]at h;subst h;refine⟨by simp[i1],λj hj=>?_,?_⟩
    ·grind
    ·simp only[Az,zzL34,i3]
     constructor
     ·grind
     ·intro h2;exact⟨h2 0 (by simp) k a k b rfl rfl,λj hj k1 a1 k2 b1 e1 e2=>h2 (j+1) (by grind) k1 a1 k2 b1 (by grind) (by grind)⟩
   ·cases h
theorem Vy{P:Program}(hu:P.underlying t=some (.int k))(vs:Array Value)(j:Nat)(v:Value)(h:vs[j]?=some v)(w:World):(part t vs j).run P w = .ok v w:=by
 simp_all [isAgg,part,F6]
theorem cE{P:Program}(hu:P.underlying t=some (.int k))(d:Nat)(k':IntKind)(w:World)(a b:Int):(Op.equalIn (d+1) t (.int k' a) (.int k' b)).run P w = .ok (a==b) w:=by
 unfold Op.equalIn;rw[Fh,F6 hu w]
 simp
theorem LU{P:Program}(h:Dg P t=true):∃ i d,P.info? t=some i/\P.underlying t=some d/\Bt P t=i.size:=by
 simp only[Dg,Az,zzL92]at h
 grind [Bt]
theorem Cl{P:Program}(h:Dg P t=true)(w:World):(sizeOf t).run P w = .ok (Bt P t) w:=by
 obtain⟨i,d,hi,hd,hs⟩:=LU h;simp[sizeOf,typeInfo,hi,hs]
theorem WK{P:Program}{e:TypeId}{k:IntKind}(he:P.underlying e=some (.int k))(d:Nat)(w:World)(vs us:Array Value):∀(n s:Nat),
  (∀ j,s<=j->j<s+n->∃ k a b,vs[j]?=some (.int k a)/\us[j]?=some (.int k b))->
  ∃ q:Option Bool×Unit,(forIn (List.range' s n 1) ((none,()):Option Bool×Unit) λ(i:Nat) (_:Option Bool×Unit)=>(do
      let x <- part e vs i
      let y <- part e us i
      let z <- Op.equalIn (d+1) e x y
      if(!z)=true then pure (ForInStep.done (some false,())) else pure (ForInStep.yield (none,())):Sem (ForInStep (Option Bool×Unit)))).run P w = .ok q w /\
   ((q=(none,())/\∀ j,s<=j->j<s+n->vs[j]?=us[j]?)\/(q=(some false,())/\¬ ∀ j,s<=j->j<s+n->vs[j]?=us[j]?))
 | 0,s,_=>⟨(none,()),by simp,.inl ⟨rfl,λj h1 h2=>by omega⟩⟩
 | n+1,s,h=>by
  obtain⟨k1,x,y,hx,hy⟩:=h s (zzL7 _) (by omega);simp only[GQ,List.forIn_cons,Fh,Vy he _ _ _ hx,Vy he _ _ _ hy,Gz,cE he]
  by_cases hxy:x=y
  ·subst hxy;simp only[X3,D3,NC,Iu,Jv,Gz];obtain⟨q,hq,hr⟩:=WK he d w vs us n (s+1) (λj h1 h2=>h j (by omega) (by omega))
   grind
  ·have e1:(x==y)=false:=by simpa using hxy
   simp only[e1,Mq,Nd,Jv,Gz]
   grind
theorem pu{P:Program}{len:Nat}(hu:P.underlying t=some (.array len e))(he:P.underlying e=some (.int k))(hT:Dg P e=true)(h1:Bt P e=1)(d:Nat)(w:World)(vs us:Array Value)(r:Bool)
  (hc:∀ j,j<len->∃ k a b,vs[j]?=some (.int k a)/\us[j]?=some (.int k b)) (hr:r=true↔∀ j,j<len->vs[j]?=us[j]?):(Op.equalIn (d+2) t (.agg vs) (.agg us)).run P w = .ok r w:=by
 unfold Op.equalIn;rw[Fh,F6 hu w];simp only[Gz,Fh,Cl hT,h1,Yo];rw[Std.Legacy.Range.forIn_eq_forIn_range'];obtain⟨q,hq,hh⟩:=WK he d w vs us len 0 (λj _ h=>hc j (by omega));simp only[Std.Legacy.Range.size,PI,Nat.add_sub_cancel,Nat.div_one];rw[hq];rcases hh with⟨rfl,h2⟩|⟨rfl,h2⟩
 ·simp_all
 ·have:r=false:=by
   grind
  simp[this]
theorem sd{P:Program}(hi:kG P e=true):∃ k,P.underlying e=some (.int k):=by
 grind [kG]
theorem oh{P:Program}(hi:mS P e=true):P.underlying e=some .bool:=by
 grind [mS]
theorem JD{P:Program}(hu:P.underlying t=some .bool)(vs:Array Value)(j:Nat)(v:Value)(h:vs[j]?=some v)(w:World):(part t vs j).run P w = .ok v w:=by
 simp_all [isAgg,part,F6]
theorem k6{P:Program}(hu:P.underlying t=some .bool)(d:Nat)(w:World)(a b:Bool):(Op.equalIn (d+1) t (.bool a) (.bool b)).run P w = .ok (a==b) w:=by
 unfold Op.equalIn;rw[Fh,F6 hu w]
 simp
theorem KH {P : Program} {I : Nat → Nat → Prop} {own : Nat → Option Own} {θ : Nat → Option (Nat × Nat)} (d : Nat) (w : World) (vs us : Array Value) : ∀ (l : List Field) (s : Nat) (xs ys : List AV) (r : Bool), AR P s l xs ys = some r →
    (∀ j, j < xs.length → ∃ v, vs[s + j]? = some v ∧ Rep I own θ w v (xs.getD j .any)) → (∀ j, j < ys.length → ∃ v, us[s + j]? = some v ∧ Rep I own θ w v (ys.getD j .any)) →
    ∃ q : Option Bool × Unit, (forIn l ((none, ()) : Option Bool × Unit) fun (f : Field) (_ : Option Bool × Unit) =>
            (if f.name ≠ "_" then do
              let x ← part f.type vs f.offset
              let y ← part f.type us f.offset
              let z ← Op.equalIn (d + 1) f.type x y
              if (!z) = true then pure (ForInStep.done (some false, ())) else pure (ForInStep.yield (none, ()))
            else pure (ForInStep.yield (none, ())) : Sem (ForInStep (Option Bool × Unit)))).run P w = .ok q w ∧
      ((q = (none, ()) ∧ r = true) ∨ (q = (some false, ()) ∧ r = false))
  | [], s, xs, ys, r, h, _, _ => by
    cases xs <;> cases ys <;> simp only [AR, Ax, reduceCtorEq] at h
    exact ⟨(none, ()), by simp, .inl ⟨rfl, h.symm⟩⟩
  | f :: l, s, xs, ys, r, h, hx, hy => by
    have next : ∀ {x y : AV} {xs ys : List AV}, (∀ j, j < (x :: xs).length → ∃ v, vs[s + j]? = some v ∧ Rep I own θ w v ((x :: xs).getD j .any)) → (∀ j, j < (y :: ys).length → ∃ v, us[s + j]? = some v ∧ Rep I own θ w v ((y :: ys).getD j .any)) →
        (∀ j, j < xs.length → ∃ v, vs[s + 1 + j]? = some v ∧ Rep I own θ w v (xs.getD j .any)) ∧ (∀ j, j < ys.length → ∃ v, us[s + 1 + j]? = some v ∧ Rep I own θ w v (ys.getD j .any)) := fun h1 h2 =>
      ⟨fun j hj => by obtain ⟨v, a, b⟩ := h1 (j + 1) (by simpa using hj); exact ⟨v, by rw [show s + 1 + j = s + (j + 1) by omega]; exact a, by simpa using b⟩, fun j hj => by obtain ⟨v, a, b⟩ := h2 (j + 1) (by simpa using hj); exact ⟨v, by rw [show s + 1 + j = s + (j + 1) by omega]; exact a, by simpa using b⟩⟩
    cases xs with
    | nil => cases ys <;> simp [AR] at h
    | cons x xs' =>
      cases ys with
      | nil => simp [AR] at h
      | cons y ys' =>
        cases x <;> cases y <;> simp only [AR] at h <;> try (cases h; done)
        case int.int k a k' b =>
          cases hc : (decide (f.name ≠ "_") && kG P f.type && Nat.beq f.offset s && be k k') with
          | false => rw [hc] at h; cases h
          | true =>
            rw [hc, Ah] at h; simp only [Az, decide_eq_true_iff] at hc; obtain ⟨⟨⟨ho1, ho2⟩, ho3⟩, ho4⟩ := hc; obtain rfl := BB ho4; obtain ⟨kk, he⟩ := sd ho2; have ho3 := Ez ho3; obtain ⟨v, hv, hv'⟩ := hx 0 (by simp); obtain ⟨u, hu, hu'⟩ := hy 0 (by simp); rw [W5] at hv hu; have hv' := hv'.int_inv; have hu' := hu'.int_inv; subst hv' hu'; obtain ⟨n1, n2⟩ := next hx hy
            split at h
            · rename_i r' hr'
              simp only [Ax] at h; simp only [List.forIn_cons, Fh, if_pos ho1, ho3, Vy he _ _ _ hv, Vy he _ _ _ hu, Gz, cE he]
              by_cases hab : a = b
              · subst hab; simp only [X3, D3, NC, Iu, Jv, Gz]; obtain ⟨q, hq, hr⟩ := KH d w vs us l (s + 1) xs' ys' r' hr' n1 n2; refine ⟨q, hq, ?_⟩; rw [X3, Kd] at h; rw [← h]; exact hr
              · have e1 : (a == b) = false := by simpa using hab
                simp only [e1, Mq, Nd, Jv, Gz]; rw [e1, KO] at h; exact ⟨_, rfl, .inr ⟨rfl, h.symm⟩⟩
            · cases h
        case bool.bool a b =>
          cases hc : (decide (f.name ≠ "_") && mS P f.type && Nat.beq f.offset s) with
          | false => rw [hc] at h; cases h
          | true =>
            rw [hc, Ah] at h; simp only [Az, decide_eq_true_iff] at hc; obtain ⟨⟨ho1, ho2⟩, ho3⟩ := hc; have he := oh ho2; have ho3 := Ez ho3; obtain ⟨v, hv, hv'⟩ := hx 0 (by simp); obtain ⟨u, hu, hu'⟩ := hy 0 (by simp); rw [W5] at hv hu; have hv' := hv'.bool_inv; have hu' := hu'.bool_inv; subst hv' hu'; obtain ⟨n1, n2⟩ := next hx hy
            split at h
            · rename_i r' hr'
              simp only [Ax] at h; simp only [List.forIn_cons, Fh, if_pos ho1, ho3, JD he _ _ _ hv, JD he _ _ _ hu, Gz, k6 he]
              by_cases hab : a = b
              · subst hab; simp only [X3, D3, NC, Iu, Jv, Gz]; obtain ⟨q, hq, hr⟩ := KH d w vs us l (s + 1) xs' ys' r' hr' n1 n2; refine ⟨q, hq, ?_⟩; rw [X3, Kd] at h; rw [← h]; exact hr
              · have e1 : (a == b) = false := by simpa using hab
                simp only [e1, Mq, Nd, Jv, Gz]; rw [e1, KO] at h; exact ⟨_, rfl, .inr ⟨rfl, h.symm⟩⟩
            · cases h
theorem dz{P:Program}{I:Nat->Nat->Prop}{own:Nat->Option Own}{θ:Nat->Option (Nat×Nat)}{ab6:Array Field}(hu:P.underlying t=some (.struct ab6))(hs:P.stoodInHeld t=false)(d:Nat)(w:World)(vs us:Array Value){xs ys:List AV}(ho:AR P 0 ab6.toList xs ys=some r)
  (hx:∀ j,j<xs.length->∃ v,vs[0+j]?=some v/\Rep I own θ w v (xs.getD j .any)) (hy:∀ j,j<ys.length->∃ v,us[0+j]?=some v/\Rep I own θ w v (ys.getD j .any)):(Op.equalIn (d+2) t (.agg vs) (.agg us)).run P w = .ok r w:=by
 unfold Op.equalIn;rw[Fh,F6 hu w];simp only[Gz];rw[<- Array.forIn_toList];obtain⟨q,hq,hh⟩:=KH  d w vs us _ 0 xs ys r ho hx hy;simp only[show program.run P w = .ok P w from rfl,Gz,hs,NC,Iu,Fh];rw[hq];rcases hh with⟨rfl,rfl⟩|⟨rfl,rfl⟩<;>simp
theorem QG{xs ys:List AV}(h:cx P t xs ys=some r)(hx:Rep I σ.own θ w vx (.agg xs))(hy:Rep I σ.own θ w vy (.agg ys))(op:BinOp)(ho:op = .eql\/op = .neq)(ox oy:Operand) :
  (do eqGuard op t ox oy vx vy;Op.equal t vx vy:Sem Bool).run P w = .ok r w/\∃ vs us,vx = .agg vs/\vy = .agg us:=by
 unfold cx at h
 split at h
 ·rename_i fs hu
  cases hc:(!(P.stoodInHeld t)&&!(P.eqGuardType P.depth t)) with
  | false=>grind
  | true=>
   simp only[hc,Ah]at h;simp only[Az,Qr]at hc;obtain⟨hst,hg⟩:=hc;obtain⟨vs,rfl,hv1,hv2,hv3⟩:=hx.agg_inv;obtain⟨us,rfl,hu1,hu2,hu3⟩:=hy.agg_inv;have ac1:=dz hu hst 9998 w vs us h (λj hj=>⟨vs.getD j undef,by simp_all,hv3 j hj⟩) (λj hj=>⟨us.getD j undef,by simp_all,hu3 j hj⟩);refine⟨?_,vs,us,rfl,rfl⟩
   have aj9:(eqGuard op t ox oy (.agg vs) (.agg us)).run P w = .ok () w:=by
    unfold eqGuard;rcases ho with rfl|rfl<;>simp[hg]
   rw[Fh,aj9];exact ac1
 ·rename_i len e hu
  cases hc:(Dg P e&&kG P e&&Nat.beq (Bt P e) 1&&!(P.eqGuardType P.depth t)&&Nat.beq xs.length len&&Nat.beq ys.length len) with
  | false=>grind
  | true=>
   simp only[hc,Ah]at h;simp only[Az,Qr]at hc;obtain⟨⟨⟨⟨⟨hT,hi⟩,h1⟩,hg⟩,hl1⟩,hl2⟩:=hc;have h1:=Ez h1;have hl1:=Ez hl1
   obtain⟨k,hk⟩:∃ k,P.underlying e=some (.int k):=by
    grind [kG]
   obtain⟨q1,q2,q3⟩:=QH h;obtain⟨vs,rfl,hv1,hv2,hv3⟩:=hx.agg_inv;obtain⟨us,rfl,hu1,hu2,hu3⟩:=hy.agg_inv
   have ab0:∀ j,j<len->∃ k a b,vs[j]?=some (.int k a)/\us[j]?=some (.int k b)/\xs.getD j .any = .int k a/\ys.getD j .any = .int k b:=λj hj=>by
    obtain⟨k,a,b,e1,e2⟩:=q2 j (by omega);have r1:=hv3 j (by omega);have r2:=hu3 j (by omega);rw[e1]at r1;rw[e2]at r2;have r1:=r1.int_inv;have r2:=r2.int_inv
    have a1:vs[j]?=some (vs.getD j undef):=by simp[Array.getD,show j<vs.size by omega]
    have a2:us[j]?=some (us.getD j undef):=by simp[Array.getD,show j<us.size by omega]
    grind
   have ac1:=pu hu hk hT h1 9998 w vs us r (λj hj=>by grind) (by
    grind)
   refine⟨?_,vs,us,rfl,rfl⟩
   have aj9:(eqGuard op t ox oy (.agg vs) (.agg us)).run P w = .ok () w:=by
    unfold eqGuard;rcases ho with rfl|rfl<;>simp[hg]
   rw[Fh,aj9];exact ac1
 ·cases h
theorem fT{x y:AV}{e:Eff}(h:rH P op t x y=some e)(hob:∀ p∈e.ob,p)(hx:Rep I σ.own θ w vx x)(hy:Rep I σ.own θ w vy y)(ox oy:Operand) :
  e.wo=[]/\∃ v,RepV I w v e.v/\(do eqGuard op t ox oy vx vy;binOp op t vx vy:Sem Value).run P w = .ok v w:=by
 have key:∀{u v:Value},(∀ cs,u≠.agg cs)->u≠.nilIface->∀ r,(binOp op t u v).run P w=r->(do eqGuard op t ox oy u v;binOp op t u v:Sem Value).run P w=r:=by
  intro u v h1 h2 r hr
  have:(eqGuard op t ox oy u v).run P w = .ok () w:=by
   unfold eqGuard
   cases u<;>cases op<;>simp_all
  simp[this,hr]
 unfold rH at h
 split at h
 ·split at h
  ·rename_i hu
   simp only[Eff.pure,Ax]at h;subst h;obtain rfl:=hx.bool_inv;obtain rfl:=hy.bool_inv;refine⟨rfl,_,.bool _,key (by simp) (by simp) _ ?_⟩;have:=λa b=>Zs (P:=P) (t:=t) hu w a b;simp[binOp,this]
  ·cases h
 ·split at h
  ·rename_i hu
   simp only[Eff.pure,Ax]at h;subst h;obtain rfl:=hx.bool_inv;obtain rfl:=hy.bool_inv;refine⟨rfl,_,.bool _,key (by simp) (by simp) _ ?_⟩
   grind [Fh,Zs,Jv,Gz,binOp]
  ·cases h
 ·split at h
  ·rename_i r hr
   simp only[Eff.pure,Ax]at h;subst h;obtain⟨hh,vs,us,rfl,rfl⟩:=QG hr hx hy .eql (.inl rfl) ox oy;refine⟨rfl,_,.bool _,?_⟩;rw[Fh]at hh ⊢
   cases hg:(eqGuard .eql t ox oy (.agg vs) (.agg us)).run P w with
   | ok u w1=>
    grind [Fh,Jv,Gz,binOp]
   | _=>rw[hg]at hh;cases hh
  ·cases h
 ·split at h
  ·rename_i r hr
   simp only[Eff.pure,Ax]at h;subst h;obtain⟨hh,vs,us,rfl,rfl⟩:=QG hr hx hy .neq (.inr rfl) ox oy;refine⟨rfl,_,.bool _,?_⟩;rw[Fh]at hh ⊢
   cases hg:(eqGuard .neq t ox oy (.agg vs) (.agg us)).run P w with
   | ok u w1=>
    grind [Fh,Jv,Gz,binOp]
   | _=>rw[hg]at hh;cases hh
  ·cases h
 ·exact jd h hob hx hy t ox oy
theorem oX{op:UnOp}{x:AV}{e:Eff}(h:aUn op x=some e)(hx:Rep I σ.own θ w vx x) :
  e.wo=[]/\∃ v,RepV I w v e.v/\(Op.unary op vx).run P w = .ok v w:=by
 unfold aUn at h
 split at h
 ·simp only[Eff.pure,Ax]at h;subst h;obtain rfl:=hx.bool_inv;exact⟨rfl,_,.bool _,by rfl⟩
 ·simp only[Eff.pure,Ax]at h;subst h;obtain rfl:=hx.int_inv;exact⟨rfl,_,.int _ _,by rfl⟩
 ·simp only[Eff.pure,Ax]at h;subst h;obtain rfl:=hx.int_inv;exact⟨rfl,_,.int _ _,by rfl⟩
 grind
end
theorem Wq{P:Program}(h:Dg P t=true)(w:World):(isAgg t).run P w = .ok (F8 P t) w:=by
 obtain⟨i,d,hi,hd,hs⟩:=LU h;unfold isAgg F8;rw[Fh,F6 hd w,hd]
 cases d<;>simp
theorem HO{l:List α}(d:α)(h:j<l.length):l[j]?=some (l.getD j d):=by simp[ h]
theorem O1(h:j<l.size):l[j]?=some (l.getD j undef):=by simp[ h]
theorem V7(l:List α)(o n j:Nat)(d:α)(h:j<n):((l.drop o).take n).getD j d=l.getD (o+j) d:=by
 grind
theorem Pj(n j:Nat)(f:Nat->Value)(h:j<n):(((List.range n).map f).toArray).getD j undef=f j:=by
 simp[ h]
theorem LS(vs:Array Value)(o n j:Nat)(h:j<n):(vs.extract o (o+n)).getD j undef=vs.getD (o+j) undef:=by
 simp only[Vg,Array.getElem?_extract]
 by_cases hs:o+j<vs.size
 ·rw[if_pos (by omega)]
 ·grind
theorem HH(h:j<l.size):∃ u,l[j]?=some u/\l.getD j undef=u:=
 ⟨l[j],by simp[h],by simp[ h]⟩
variable {x y:Operand}{off s i len m g c d l cap sz' h lo hi m' n' cap':Nat}{e0 el kt:TypeId}{ad:Option Addr}{f f':Nat->List AV}{us:Nat->Value}{ab6:Array Field}{fd:Field}{cs z:List AV}{xs:Array Operand}{k':IntKind}{ts:Array TypeId}{own:Nat->Option Own}{u zv:Value}{ac4:Array (Nat×Operand)}{is:List Nat}{mx:Option Operand}{t':Option (Nat×Nat)}{cs':List Value}{es:Array MapEntry}{ob:Obj}{nn:Bool}{key:Int}{r:Option (Nat×Value)}
theorem NY(n j:Nat)(f:Nat->Value)(h:j<n):(((List.range n).map f)).getD j undef=f j:=by
 simp[ h]
section
variable {P:Program} {Γ:Ip} {σ:Sto} {I:Nat->Nat->Prop} {θ:Nat->Option (Nat×Nat)} {a:Act} {w:World} {o:Oper}
theorem N7(ht:Dg P t=true)(ab7:F8 P t=true)(ad:Addr)(f:Nat->Value)(h:∀ j,j<Bt P t->w.cell? (ad.add j)=some (f j)) :
  (loadVar t ad).run P w = .ok (.agg ((List.range (Bt P t)).map f).toArray) w:=by
 simp only[loadVar,Fh,Wq ht,Gz,ab7,Nd,Cl ht];rw[run_loadCells w ad _ f h]
 rfl
theorem N8(ht:Dg P t=true)(ab7:F8 P t=false)(ad:Addr)(v:Value)(h:w.cell? ad=some v) :
  (loadVar t ad).run P w = .ok v w:=by
 simp[loadVar,Wq ht,ab7,h]
theorem g9(h:Rel Γ σ I θ a w)(hd:∀ d,o.dst=some d->d<Γ.n)(ho:o.op = .load t x)(ht:Dg P t=true){cells:List AV}
  (hx:Rep I σ.own θ w (a.eval x) (.ptr nm off))  (By:σ.own nm=some (.row e0 cells)) :
  (F8 P t=true->off+Bt P t<=cells.length->Hq P Γ σ o a w (.agg ((cells.drop off).take (Bt P t))) []) /\
  (F8 P t=false->off<cells.length->Hq P Γ σ o a w (cells.getD off .any) []):=by
 obtain⟨e',cells',g,c,ho',hg,he⟩:=hx.ptr_inv;obtain⟨g',c',vs,hg',hh,hsz,h1,ab8,_⟩:=h.chg.rel.row nm _ _ By;rw[hg]at hg';obtain⟨rfl,rfl⟩:=hg'
 have ab0:∀ j,j<cells.length->w.cell? _=some _:=λj hj=>by
  rw[Ot w g j vs _ _ hh];exact O1 (by omega)
 refine⟨λab7 hle=>?_,λab7 hlt=>?_⟩
 ·have hr:(loadVar t ⟨g,off,none⟩).run P w = .ok _ w:=
   N7 ht ab7 _ _ (λj hj=>by rw[Ux];exact ab0 _ (by omega))
  refine Bv h hd (v:=.agg ((List.range (Bt P t)).map λj=>vs.getD (off+j) undef).toArray) ?_ ?_
  ·simp only[execOp,ho,he,Instr.loadAt,Instr.sureAddr,Fh,Jv,Gz,hr]
  ·refine .agg _ _ (by simp;omega) (λj hj=>?_) (λj hj=>?_)
   ·have hj':j<Bt P t:=by simp at hj;omega
    rw[Pj _ _ _ hj'];exact h1 _ (by omega)
   ·have hj':j<Bt P t:=by simp at hj;omega
    rw[Pj _ _ _ hj',V7 _ _ _ _ _ hj'];exact ab8 _ (by omega)
 ·have hr:=N8  ht ab7 _ _ (ab0 off hlt);refine Bv h hd  ?_ (ab8 off hlt);simp only[execOp,ho,he,Instr.loadAt,Instr.sureAddr,Fh,Jv,Gz,hr]
theorem O0{ad:Addr}(hs:ad.spot=none)(n:Nat):ad.add n=⟨ad.block,ad.off+n,none⟩:=by
 cases ad with
 | mk b o s =>  subst hs;exact Ux b o n
theorem di(h:Rel Γ σ I θ a w)(hd:∀ d,o.dst=some d->d<Γ.n)(ho:o.op = .load t x)(ht:Dg P t=true){cells:List AV}
  (hx:Rep I σ.own θ w (a.eval x) (.rptr cells)) :
  (F8 P t=true->Bt P t=cells.length->Hq P Γ σ o a w (.agg cells) []) /\
  (F8 P t=false->1<=cells.length->Hq P Γ σ o a w (cells.getD 0 .any) []):=by
 obtain⟨ad,us,he,hs,_,hc,h1,ab8⟩:=hx.rptr_inv;refine⟨λab7 hle=>?_,λab7 hlt=>?_⟩
 ·have hr :=
   N7 ht ab7 _ _ (λj hj=>by rw[O0 hs];exact hc _ (by omega))
  refine Bv h hd (v:=.agg ((List.range (Bt P t)).map us).toArray) ?_ ?_
  ·simp only[execOp,ho,he,Instr.loadAt,Instr.sureAddr,Fh,Jv,Gz,hr]
  ·refine .val _ _ (.agg _ _ (by simp;omega) (λj hj=>?_) (λj hj=>?_))
   ·simp_all
   ·simp_all
 ·have hc0:=hc 0 (by omega);rw[W5]at hc0
  have e:⟨ad.block,ad.off,none⟩=ad:=by cases ad;simp_all
  rw[e]at hc0;have hr:=N8  ht ab7 ad _ hc0;refine Bv h hd  ?_ (.val _ _ (ab8 0 (by omega)));simp only[execOp,ho,he,Instr.loadAt,Instr.sureAddr,Fh,Jv,Gz,hr]
theorem Wp{f:Field}(ht:Dg P f.type=true)(h1:1<=Bt P f.type)(ad:Addr):(fieldPlace ad f).run P w = .ok (ad.add f.offset) w:=by
 have hn:¬ (Bt P f.type=0):=by omega
 simp[fieldPlace,Cl ht,hn]
theorem JC{cells:List AV}{ad:Addr}(hs:ad.spot=none)(hI:∀ j,j<cells.length->I ad.block (ad.off+j))
  (hc:∀ j,j<cells.length->w.cell? ⟨ad.block,ad.off+j,none⟩=some (us j)) (h1:∀ j,j<cells.length->(us j).oneCell'=true)
  (hr:∀ j,j<cells.length->RepV I w (us j) (cells.getD j .any)) (off n:Nat) (hle:off+n<=cells.length):RepV I w (.pointer (some (ad.add off))) (.rptr ((cells.drop off).take n)):=by
 have hl:((cells.drop off).take n).length=n:=by simp;omega
 rw[O0 hs];refine .rptr _ _ (λj=>us (off+j)) rfl (λj hj=>?_) (λj hj=>?_) (λj hj=>?_) (λj hj=>?_)<;>rw[hl]at hj
 ·grind
 ·grind
 ·exact h1 _ (by omega)
 ·grind
theorem dc(h:Rel Γ σ I θ a w)(hd:∀ d,o.dst=some d->d<Γ.n){s:TypeId}{f:Nat}(ho:o.op = .fieldAddr s x f)
  (hs:P.underlying s=some (.struct ab6)) (hf:ab6[f]?=some fd) (ht:Dg P fd.type=true) (h1:1<=Bt P fd.type) :
  (∀ nm off,Rep I σ.own θ w (a.eval x) (.ptr nm off)->Hq P Γ σ o a w (.ptr nm (off+fd.offset)) []) /\
  (∀ cells,Rep I σ.own θ w (a.eval x) (.rptr cells)->fd.offset+Bt P fd.type<=cells.length->Hq P Γ σ o a w (.rptr ((cells.drop fd.offset).take (Bt P fd.type))) []):=by
 refine⟨λnm off hx=>?_,λcells hx hle=>?_⟩
 ·obtain⟨e',cells',g,c,ho',hg,he⟩:=hx.ptr_inv;refine Bv h hd  ?_ (.ptr nm _ _ _ g c ho' hg);simp[execOp,ho,he,Instr.fieldAt,Instr.sureAddr,F6 hs,hf,Wp ht h1,Ux]
 ·obtain⟨ad,us,he,hs',hI,hc,h1',ab8⟩:=hx.rptr_inv;refine Bv h hd  ?_ (.val _ _ (JC hs' hI hc h1' ab8 _ _ hle));simp[execOp,ho,he,Instr.fieldAt,Instr.sureAddr,F6 hs,hf,Wp ht h1]
theorem VQ{x:AV}(h:bv P t cs off=some x){vs:Array Value}(hl:vs.size=cs.length)(h1:∀ j,j<cs.length->(vs.getD j undef).oneCell'=true)
  (hr:∀ j,j<cs.length->Rep I σ.own θ w (vs.getD j undef) (cs.getD j .any)):∃ v,(part t vs off).run P w = .ok v w/\Rep I σ.own θ w v x:=by
 unfold bv at h
 cases ht:Dg P t with
 | false=>simp[ht]at h
 | true=>
  simp only[ht]at h
  cases ab7:F8 P t with
  | true=>
   simp only[ab7,Ah]at h
   cases hle:Nat.ble (off+Bt P t) cs.length with
   | false=>simp[hle]at h
   | true=>
    simp only[hle,Ah,Ax]at h;subst h;have ag8:=N9 hle;refine⟨.agg (vs.extract off (off+Bt P t)),by simp[part,Wq ht,ab7,Cl ht],.agg _ _ ?_ ?_ ?_⟩
    ·simp;omega
    ·intro j hj
     have hj':j<Bt P t:=by simp at hj;omega
     rw[LS _ _ _ _ hj'];exact h1 _ (by omega)
    ·intro j hj
     have hj':j<Bt P t:=by simp at hj;omega
     rw[LS _ _ _ _ hj',V7 _ _ _ _ _ hj'];exact hr _ (by omega)
  | false=>
   simp only[ab7,Ar]at h
   cases hlt:Nat.blt off cs.length with
   | false=>simp[hlt]at h
   | true=>
    simp only[hlt,Ah,Ax]at h;subst h
    have ag7:off<cs.length:=by simp_all
    obtain⟨u,hu,hu'⟩:=HH (l:=vs) (j:=off) (by omega);have:=hr _ ag7;rw[hu']at this;refine⟨u,?_,this⟩;simp[part,Wq ht,ab7,hu]
theorem tR(h:Rel Γ σ I θ a w)(hd:∀ d,o.dst=some d->d<Γ.n){s:TypeId}{f:Nat}(ho:o.op = .field s x f)
  (hs:P.underlying s=some (.struct ab6)) (hf:ab6[f]?=some fd)  {y:AV} (hx:Rep I σ.own θ w (a.eval x) (.agg cs)) (hp:bv P fd.type cs fd.offset=some y):Hq P Γ σ o a w y []:=by
 obtain⟨vs,he,hl,h1,hr⟩:=hx.agg_inv;obtain⟨v,hv,ab8⟩:=VQ  hp hl h1 hr;refine Bv h hd ?_ ab8;simp[execOp,ho,he,Instr.field,F6 hs,hf,asAgg,hv]
theorem VI(h:Rel Γ σ I θ a w)(hd:∀ d,o.dst=some d->d<Γ.n){i:Operand}(ho:o.op = .indexAddr t x i)(hu:P.underlying t=some (.slice e))(ht:Dg P e=true)
    {tag:Tag}  {j:Int} (hx:Rep I σ.own θ w (a.eval x) (.slice sz n f tag)) (hi:Rep I σ.own θ w (a.eval i) (.int k j)) (hsz:sz=Bt P e\/n=0) (hb:As j n) :
  Hq P Γ σ o a w (.rptr (f j.toNat)) []:=by
 obtain⟨hb0,hb1⟩:=hb
 have hsz:sz=Bt P e:=by omega
 subst hsz;have hi':=hi.int_inv;obtain⟨_,ad,cap,us,he,IN,Is,hz,hn,h1,hl,hr⟩:=hx.slice_val.slice_inv;obtain⟨b,rfl,hs,hI,hc⟩:=hz (by omega)
 have hlt:j.toNat<n:=by omega
 have IT:=hl _ hlt
 have ae6:∀ c,c<Bt P e->j.toNat*Bt P e+c<n*Bt P e:=λc hc=>by
  have:(j.toNat+1)*Bt P e<=n*Bt P e:=Hp _ hlt;rw[Jl]at this;omega
 refine Bv h hd (v:=.pointer (some (b.add (j.toNat*Bt P e)))) ?_ (.val _ _ ?_)
 ·simp[execOp,ho,he,hi',Instr.indexAt,asIntOf,F6 hu,hb0,hb1,Cl ht]
 ·rw[O0 hs];refine .rptr _ _ (λc=>us (j.toNat*Bt P e+c)) rfl (λc hc'=>?_) (λc hc'=>?_) (λc hc'=>?_) (λc hc'=>?_)<;>rw[IT]at hc'
  ·grind
  ·grind
  ·exact h1 _ (ae6 c hc')
  ·exact hr _ _ hlt hc'
theorem iH:∀(cells:List AV) (k n:Nat),k+n<=cells.length->bw cells k n=(cells.drop k).take n
 | cells,k,0,_=>by simp[bw]
 | cells,k,n+1,h=>by
  have hk:k<cells.length:=by omega
  rw[bw,iH _ _ n (by omega),eD hk, List.getD,RF hk]
  rfl
theorem FW(h:Rel Γ σ I θ a w)(hd:∀ d,o.dst=some d->d<Γ.n){i:Operand}(ho:o.op = .indexAddr t x i)(hu:P.underlying t=some (.array len e))(ht:Dg P e=true)
   {j:Int} (hi:Rep I σ.own θ w (a.eval i) (.int k j)) (hb:As j len) :
  (∀ nm off,Rep I σ.own θ w (a.eval x) (.ptr nm off)->Hq P Γ σ o a w (.ptr nm (off+j.toNat*Bt P e)) []) /\
  (∀ cells,Rep I σ.own θ w (a.eval x) (.rptr cells)->cells.length=len*Bt P e->Hq P Γ σ o a w (.rptr (bw cells (j.toNat*Bt P e) (Bt P e))) []):=by
 obtain⟨hb0,hb1⟩:=hb;have hi':=hi.int_inv;refine⟨λnm off hx=>?_,λcells hx hle=>?_⟩
 ·obtain⟨e',cells',g,c,ho',hg,he⟩:=hx.ptr_inv;refine Bv h hd  ?_ (.ptr nm _ _ _ g c ho' hg);simp[execOp,ho,he,hi',Instr.indexAt,Instr.sureAddr,asIntOf,F6 hu,hb0,hb1,Cl ht,Ux]
 ·obtain⟨ad,us,he,hs',hI,hc,h1',ab8⟩:=hx.rptr_inv
  have ag8:j.toNat*Bt P e+Bt P e<=cells.length:=by
   have:(j.toNat+1)*Bt P e<=len*Bt P e:=Hp _ (by omega);rw[Jl]at this;omega
  rw[iH _ _ _ ag8];refine Bv h hd  ?_ (.val _ _ (JC hs' hI hc h1' ab8 _ _ ?_))
  ·simp[execOp,ho,he,hi',Instr.indexAt,Instr.sureAddr,asIntOf,F6 hu,hb0,hb1,Cl ht]
  ·grind
theorem VJ(h:Rel Γ σ I θ a w)(hd:∀ d,o.dst=some d->d<Γ.n){i:Operand}(ho:o.op = .index t x i)(hu:P.underlying t=some (.array len e))(ht:Dg P e=true)
  (ab7:F8 P e=false) (hsz:Bt P e=1)  {j:Int}  (hl:cs.length=len) (hi:Rep I σ.own θ w (a.eval i) (.int k j)) (hb:As j len) (hx:Rep I σ.own θ w (a.eval x) (.agg cs)) :
  Hq P Γ σ o a w (cs.getD j.toNat .any) []:=by
 obtain⟨hb0,hb1⟩:=hb;have hi':=hi.int_inv;obtain⟨vs,he,hl',h1,hr⟩:=hx.agg_inv
 have hlt:j.toNat<cs.length:=by omega
 obtain⟨u,hg,hg'⟩:=HH (l:=vs) (j:=j.toNat) (by omega);have hv:=hr _ hlt;rw[hg']at hv;refine Bv h hd  ?_ hv;simp[execOp,ho,he,hi',Instr.index,asIntOf,F6 hu,hb0,hb1,Cl ht,hsz,part,Wq ht,ab7,hg]
theorem df(h:Rel Γ σ I θ a w)(hd:∀ d,o.dst=some d->d<Γ.n){i:Operand}(ho:o.op = .index t x i)(hu:P.underlying t=some (.array len e))(ht:Dg P e=true)
  (ab7:F8 P e=true)  {j:Int}  (hl:cs.length=len*Bt P e) (hi:Rep I σ.own θ w (a.eval i) (.int k j)) (hb:As j len) (hx:Rep I σ.own θ w (a.eval x) (.agg cs)) :
  Hq P Γ σ o a w (.agg ((cs.drop (j.toNat*Bt P e)).take (Bt P e))) []:=by
 obtain⟨hb0,hb1⟩:=hb;have hi':=hi.int_inv;obtain⟨vs,he,hl',h1,hr⟩:=hx.agg_inv
 have hle:j.toNat*Bt P e+Bt P e<=cs.length:=by
  have:(j.toNat+1)*Bt P e<=len*Bt P e:=Hp _ (by omega);rw[Jl]at this;omega
 have hp:bv P e cs (j.toNat*Bt P e)=some (.agg ((cs.drop (j.toNat*Bt P e)).take (Bt P e))):=by
  unfold bv;rw[ht,ab7,Nat.ble_eq_true_of_le hle]
  rfl
 obtain⟨v,hv,ab8⟩:=VQ  hp hl' h1 hr;refine Bv h hd ?_ ab8;simp[execOp,ho,he,hi',Instr.index,asIntOf,F6 hu,hb0,hb1,Cl ht,hv]
theorem kd(h:Rel Γ σ I θ a w)(hd:∀ d,o.dst=some d->d<Γ.n){ix:Nat}(ho:o.op = .extract x ix){xs:List AV}(hx:Rep I σ.own θ w (a.eval x) (.tuple xs))(hlt:ix<xs.length) :
  Hq P Γ σ o a w (xs.getD ix .any) []:=by
 obtain⟨vs,he,hl,hr⟩:=hx.tuple_inv;obtain⟨u,hg,hg'⟩:=HH (l:=vs) (j:=ix) (by omega);have hv:=hr _ hlt;rw[hg']at hv;refine Bv h hd  ?_ hv;simp[execOp,ho,he,Instr.extract,hg]
theorem QU(h:Rel Γ σ I θ a w)(hd:∀ d,o.dst=some d->d<Γ.n)(ho:o.op = .nilCheck x) :
  (∀ nm off,Rep I σ.own θ w (a.eval x) (.ptr nm off)->Hq P Γ σ o a w (.ptr nm off) [])/\(∀ cs,Rep I σ.own θ w (a.eval x) (.rptr cs)->Hq P Γ σ o a w (.rptr cs) []):=by
 refine⟨λnm off hx=>?_,λcs hx=>?_⟩
 ·obtain⟨e',cells',g,c,ho',hg,he⟩:=hx.ptr_inv;exact Bv h hd  (by simp[execOp,ho,he]) hx
 ·obtain⟨ad,us,he,_⟩:=hx.rptr_inv;exact Bv h hd  (by simp[execOp,ho,he]) hx
theorem VH(h:Rel Γ σ I θ a w)(hd:∀ d,o.dst=some d->d<Γ.n){s:TypeId}(ho:o.op = .convert s t x){k0:IntKind}{n:Int}(hs:P.underlying s=some (.int k0))(ht:P.underlying t=some (.int k))
  (hx:Rep I σ.own θ w (a.eval x) (.int k' n)):Hq P Γ σ o a w (.int k (k.wrap n)) []:=by
 have hx':=hx.int_inv;refine Bv h hd  ?_ (.val _ _ (.int _ _));simp[execOp,ho,hx',convert,F6 hs,F6 ht,Conv.intToInt]
theorem tX(h:Rel Γ σ I θ a w)(hd:∀ d,o.dst=some d->d<Γ.n)(ho:o.op = .call { callee:=.builtin .len,args:=xs,argTypes:=ts })(hxs:xs.toList=[x])(hts:ts.toList=[t]) :
  (∀ e sz n f tag,P.underlying t=some (.slice e)->Rep I σ.own θ w (a.eval x) (.slice sz n f tag)->Hq P Γ σ o a w (.int .i64 n) []) /\
  (∀ s,P.underlying t=some .string->Rep I σ.own θ w (a.eval x) (.str s)->Hq P Γ σ o a w (.int .i64 s.length) []) /\
  (∀ n e,P.underlying t=some (.array n e)->Hq P Γ σ o a w (.int .i64 n) []):=by
 obtain rfl:xs = #[x]:=by grind
 obtain rfl:ts = #[t]:=by grind
 refine⟨λe sz n f tag hu hx=>?_,λs hu hx=>?_,λn e hu=>?_⟩
 ·obtain⟨_,ad,cap,us,he,_⟩:=hx.slice_val.slice_inv;exact Bv h hd  (by simp[execOp,ho,resolve,invoke,builtin,Builtin.len_,he,F6 hu,goInt]) (.val _ _ (.int _ _))
 ·obtain⟨s,he,rfl⟩:=hx.str_inv;rw[ZV];exact Bv h hd  (by simp[execOp,ho,resolve,invoke,builtin,Builtin.len_,he,F6 hu,goInt]) (.val _ _ (.int _ _))
 ·exact Bv h hd  (by simp[execOp,ho,resolve,invoke,builtin,Builtin.len_,F6 hu,goInt]) (.val _ _ (.int _ _))
theorem Ab2(h:Rel Γ σ I θ a w)(hd:∀ d,o.dst=some d->d<Γ.n)(ho:o.op = .call { callee:=.builtin .max,args:=xs,argTypes:=ts })(hxs:xs.toList=[x,y])
   {m n:Int} (hx:Rep I σ.own θ w (a.eval x) (.int k m)) (hy:Rep I σ.own θ w (a.eval y) (.int k' n)):Hq P Γ σ o a w (.int k (if m<n then n else m)) []:=by
 obtain rfl:xs = #[x,y]:=by grind
 have e1:=hx.int_inv;have e2:=hy.int_inv;exact Bv h hd  (by simp[execOp,ho,resolve,invoke,builtin,Builtin.max_,Builtin.max2,e1,e2]) (.val _ _ (.int _ _))
end
structure CellsOK(I:Nat->Nat->Prop)(own:Nat->Option Own)(θ:Nat->Option (Nat×Nat))(w:World)(vs:Array Value)(cs:List AV):Prop where
 size:vs.size=cs.length
 one:∀ j,j<cs.length->(vs.getD j undef).oneCell'=true
 rep:∀ j,j<cs.length->Rep I own θ w (vs.getD j undef) (cs.getD j .any)
theorem pY{x:AV}(h1:x.one=true)(h:Rep I own θ w v x):v.oneCell'=true/\v.cells = #[v]:=by
 cases x<;>simp[AV.one]at h1
 case int=>obtain rfl:=h.int_inv;exact⟨rfl,rfl⟩
 case bool=>obtain rfl:=h.bool_inv;exact⟨rfl,rfl⟩
 case str=>obtain⟨_,rfl,_⟩:=h.str_inv;exact⟨rfl,rfl⟩
 case nilp=>obtain rfl:=h.nilp_inv;exact⟨rfl,rfl⟩
 case omap=>obtain⟨_,_,rfl⟩:=h.omap_inv;exact⟨rfl,rfl⟩
 case nilm=>obtain rfl:=h.nilm_inv;exact⟨rfl,rfl⟩
 case err=>rcases h.err_inv with⟨_,rfl⟩|⟨_,_,_,rfl⟩<;>exact⟨rfl,rfl⟩
 case ptr=>obtain⟨_,_,_,_,_,_,rfl⟩:=h.ptr_inv;exact⟨rfl,rfl⟩
 case vsl=>obtain⟨_,_,_,_,_,_,rfl,_⟩:=h.vsl_inv;exact⟨rfl,rfl⟩
 case vpt=>obtain⟨_,_,_,_,_,rfl,_⟩:=h.vpt_inv;exact⟨rfl,rfl⟩
 case clo=>obtain⟨_,_,rfl,_⟩:=h.clo_inv;exact⟨rfl,rfl⟩
 case vsub=>obtain⟨_,_,_,_,_,_,rfl,_⟩:=h.vsub_inv;exact⟨rfl,rfl⟩
 case rptr=>obtain⟨_,_,rfl,_⟩:=h.rptr_inv;exact⟨rfl,rfl⟩
 case rpo=>obtain⟨_,_,rfl,_⟩:=h.rpo_inv;exact⟨rfl,rfl⟩
 case slice=>obtain⟨_,_,_,_,rfl,_⟩:=h.slice_val.slice_inv;exact⟨rfl,rfl⟩
theorem Rl{x:AV}(hc:x.cells=some cs)(h:Rep I own θ w v x):CellsOK I own θ w v.cells cs:=by
 unfold AV.cells at hc
 split at hc
 ·simp only[Ax]at hc;subst hc;obtain⟨vs,rfl,hl,h1,hr⟩:=h.agg_inv;exact⟨hl,h1,hr⟩
 ·cases h1:x.one with
  | false=>simp[h1]at hc
  | true=>
   simp only[h1,Ah,Ax]at hc;subst hc;obtain⟨ho,he⟩:=pY h1 h;rw[he]
   refine⟨rfl,λj hj=>?_,λj hj=>?_⟩<;>obtain rfl:j=0:=by simpa using hj
   ·simpa using ho
   ·simpa using h
theorem CellsOK.all{vs:Array Value}(h:CellsOK I own θ w vs cs):∀ v∈vs.toList,v.oneCell'=true:=by
 intro v hv;obtain⟨j,hj,rfl⟩:=List.mem_iff_getElem.1 hv;have:=h.one j (by rw[<- h.size];simpa using hj)
 simpa [Array.getD,show j<vs.size by simpa using hj] using this
def thUp(θ:Nat->Option (Nat×Nat))(d:Nat)(x:Option (Nat×Nat)):Nat->Option (Nat×Nat):=λnm=>if nm=d then x else θ nm
def A5(own:Nat->Option Own)(d:Nat)(x:Own):Nat->Option Own:=λnm=>if nm=d then some x else own nm
theorem Pi{it:Nat->Option Own}(h:Kh I own θ w)(sp:Nat->Prop)
  (No:∀ v x,Rep I own θ w v x->Rep I' it θ' w' v x)
  (ae7:∀ nm,¬ sp nm->it nm=own nm/\θ' nm=θ nm)
  (ad4:∀ nm g c,¬ sp nm->own nm≠none->θ nm=some (g,c)->w'.heap[g]?=w.heap[g]?/\∀ j,I' g j->I g j)
  (hrow:∀ nm e cells,sp nm->it nm=some (.row e cells)->∃ g c vs,θ' nm=some (g,c)/\w'.heap[g]?=some (.cells vs e (0,0))/\CellsOK I' it θ' w' vs cells/\∀ j,¬ I' g j)
  (htok:∀ nm sz e m,sp nm->it nm=some (.tok sz e m)->∀ g c,θ' nm=some (g,c)->∃ OF fz,w'.heap[g]?=some (.cells OF e (0,fz))/\m<=c/\c<=maxLen/\OF.size=c*sz/\fz<=m*sz/\∀ j,I' g j->j<m*sz)
  (ah3:∀ nm nm' g c c',sp nm->¬ sp nm'->it nm≠none->own nm'≠none->θ' nm=some (g,c)->θ nm'=some (g,c')->False)
  (hsp:∀ nm nm',sp nm->sp nm'->nm=nm')
  (ad1:∀ nm sz e m f,sp nm->it nm=some (.arr sz e m f)->(θ' nm=none->m=0)/\∀ g c,θ' nm=some (g,c)->∃ OF,w'.heap[g]?=some (.cells OF e (0,0))/\m<=c/\c<=maxLen/\OF.size=c*sz /\
   (∀ i,i<m->(f i).length=sz)/\(∀ i j,i<m->j<sz->(OF.getD (i*sz+j) undef).oneCell'=true/\Rep I' it θ' w' (OF.getD (i*sz+j) undef) ((f i).getD j .any))/\∀ j,¬ I' g j:=by
    intro nm sz e m f hs ho;first|exact hs.elim|(subst hs;simp[A5]at ho))
  (hobj:∀ nm x,sp nm->it nm=some (.obj x)->PZ I' it θ' w' nm x:=by
    intro nm x hs ho;first|exact hs.elim|(subst hs;simp[A5]at ho))
  (htok8:∀ nm sz m,sp nm->it nm=some (.tok sz Zx m)->θ' nm=none->m=0:=by
    intro nm sz m hs ho;first|exact hs.elim|(subst hs;simp[A5]at ho)):Kh I' it θ' w':=by
 refine⟨λnm e cells ho=>?_,λnm sz e m ho g c hg=>?_,λnm nm' g c c' ho ho' hg hg'=>?_,λnm sz e m f ho=>?_,λnm x ho=>?_,λnm sz m ho hn=>?_⟩
 rotate_left 5
 ·by_cases hs:sp nm
  ·exact htok8 nm sz m hs ho hn
  ·obtain⟨e1,e2⟩:=ae7 nm hs;rw[e1]at ho;rw[e2]at hn;exact h.tok8 nm sz m ho hn
 rotate_left 4
 ·by_cases hs:sp nm
  ·exact hobj nm x hs ho
  ·obtain⟨e1,e2⟩:=ae7 nm hs;rw[e1]at ho;exact Nn (h.obj nm x ho) e2 (λg c hg=>(ad4 nm g c hs (by simp[ho]) hg).1) (λg c j hg=>(ad4 nm g c hs (by simp[ho]) hg).2 j) (λo h=>h.mono No) Ya
 ·by_cases hs:sp nm
  ·obtain⟨g,c,vs,h1,h2,h3,h4⟩:=hrow nm e cells hs ho;exact⟨g,c,vs,h1,h2,h3.size,h3.one,h3.rep,h4⟩
  ·obtain⟨e1,e2⟩:=ae7 nm hs;rw[e1]at ho;obtain⟨g,c,vs,h1,h2,h3,h4,h5,h6⟩:=h.row nm e cells ho;obtain⟨hb,hi⟩:=ad4 nm g c hs (by simp[ho]) h1;exact⟨g,c,vs,e2.trans h1,hb.trans h2,h3,h4,λj hj=>No _ _ (h5 j hj),λj hj=>h6 j (hi j hj)⟩
 ·by_cases hs:sp nm
  ·exact htok nm sz e m hs ho g c hg
  ·obtain⟨e1,e2⟩:=ae7 nm hs;rw[e1]at ho;rw[e2]at hg;obtain⟨OF,fz,h2,h3,h4,h5,h6',h6⟩:=h.tok nm sz e m ho g c hg;obtain⟨hb,hi⟩:=ad4 nm g c hs (by simp[ho]) hg;exact⟨OF,fz,hb.trans h2,h3,h4,h5,h6',λj hj=>h6 j (hi j hj)⟩
 ·by_cases hs:sp nm<;>by_cases hs':sp nm'
  ·exact hsp nm nm' hs hs'
  ·obtain⟨e1,e2⟩:=ae7 nm' hs';rw[e1]at ho';rw[e2]at hg';exact(ah3 nm nm' g c c' hs hs' ho ho' hg hg').elim
  ·obtain⟨e1,e2⟩:=ae7 nm hs;rw[e1]at ho;rw[e2]at hg;exact(ah3 nm' nm g c' c hs' hs ho' ho hg' hg).elim
  ·obtain⟨e1,e2⟩:=ae7 nm hs;obtain⟨e1',e2'⟩:=ae7 nm' hs';rw[e1]at ho;rw[e1']at ho';rw[e2]at hg;rw[e2']at hg';exact h.inj nm nm' g c c' ho ho' hg hg'
 ·by_cases hs:sp nm
  ·exact ad1 nm sz e m f hs ho
  ·obtain⟨e1,e2⟩:=ae7 nm hs;rw[e1]at ho;rw[e2];obtain⟨k1,k2⟩:=h.arr nm sz e m f ho;refine⟨k1,λg c hg=>?_⟩;obtain⟨OF,q1,q2,q3,q4,q5,q6,q7⟩:=k2 g c hg;obtain⟨hb,hi⟩:=ad4 nm g c hs (by simp[ho]) hg;exact⟨OF,hb.trans q1,q2,q3,q4,q5,λi j hi hj=>⟨(q6 i j hi hj).1,No _ _ (q6 i j hi hj).2⟩,λj hj=>q7 j (hi j hj)⟩
section
variable {P:Program} {Γ:Ip} {σ:Sto} {I:Nat->Nat->Prop} {θ:Nat->Option (Nat×Nat)} {a:Act} {w:World} {o:Oper}
theorem O2(ob:Obj){b o:Nat}(h:w.cell? ⟨b,o,none⟩=some u):(w.alloc ob).cell? ⟨b,o,none⟩=w.cell? ⟨b,o,none⟩:=
 World.cell?_alloc_lt (w:=w) (o:=ob) (a:=⟨b,o,none⟩) (Sh h)
theorem M5(h:Kh I own θ w)(ho:own nm≠none)(hg:θ nm=some (g,c)):g<w.heap.size:=by
 cases hn:own nm with
 | none=>exact(ho hn).elim
 | some x=>cases x with
  | row e cells=>obtain⟨g',c',vs,h1,h2,_⟩:=h.row nm e _ hn;rw[hg]at h1; obtain⟨rfl,rfl⟩:=h1;exact LV h2
  | tok sz e m=>obtain⟨OF,fz,h2,_⟩:=h.tok nm sz e m hn g c hg;exact LV h2
  | arr sz e m f=>obtain⟨OF,h2,_⟩:=(h.arr nm sz e m f hn).2 g c hg;exact LV h2
  | obj x=>
   rcases h.obj nm x hn with⟨g',c',o,h1,h2,_⟩|⟨h1,_⟩
   ·grind
   ·rw[hg]at h1;cases h1
theorem Hd(σ:Sto)(dst:Option Nat)(v:AV)(d:Nat)(x:Own):(σ.upd dst v [(d,x)]).own=A5 σ.own d x:=by
 funext nm
 simp only[Sto.upd,Aj,A5]
 by_cases h:d=nm
 ·subst h;simp
 ·have:Nat.beq d nm=false:=by cases hb:Nat.beq d nm with|false=>rfl|true=>simp_all
  simp[this,Tg h]
theorem jx(BY:Kh I own θ w)(ab5:∀ b o,I b o->∃ u,w.cell? ⟨b,o,none⟩=some u)(hn:own d=none){vs:Array Value}(hc:CellsOK I own θ w vs cs)(e:TypeId) :
  Chg own θ I w (A5 own d (.row e cs)) (thUp θ d (some (w.heap.size,0))) I (w.alloc (.cells vs e)):=by
 have ab0:∀ b o,I b o->(w.alloc (.cells vs e)).cell? _=w.cell? _:=λb o hi=>by
  obtain⟨u,hu⟩:=ab5 b o hi;exact O2 _ hu
 have hle:∀ nm o,own nm=some o->∃ o',A5 own d (.row e cs) nm=some o'/\OwnLe o (θ nm) o' (thUp θ d (some (w.heap.size,0)) nm):=λnm o ho=>by
  have hne:nm≠d:=by grind
  exact⟨o,by simp[A5,hne,ho],by simp[thUp,hne,OwnLe.refl]⟩
 have No:∀ v x,Rep I own θ w v x->Rep I _ _ _ v x:=λv x h=>h.mono (λ_ _ h=>h) ab0 hle;refine{ imm:=λ_ _ h=>h,cell:=ab0,le:=hle,rel:=?_,valid:=λb o hi=>?_,os:=rfl,tape:=rfl,output:=rfl,drawn:=λ_=>zzL7 _,grow:=by simp,frame:=λb hb _=>UE w _ hb,new:=λnm g c ho hg=>?_,immNew:=λb o h=>.inl h }
 ·refine Pi BY (·=d) No (λnm hne=>⟨by simp[A5,hne],by simp[thUp,hne]⟩) (λnm g c hne ho hg=>⟨UE w _ (M5 BY ho hg),λj h=>h⟩) ?_ ?_ ?_ (λ_ _ h h'=>h.trans h'.symm)
  ·rintro nm e' cells rfl ho;simp only[A5,  Own.row.injEq]at ho;obtain⟨rfl,rfl⟩:=ho;refine⟨w.heap.size,0,vs,by simp[thUp],JF w _,⟨hc.size,hc.one,λj hj=>No _ _ (hc.rep j hj)⟩,λj hj=>?_⟩;obtain⟨u,hu⟩:=ab5 _ _ hj;exact GO _ (Sh hu)
  ·rintro nm sz e' m rfl ho;simp[A5]at ho
  ·rintro nm nm' g c c' rfl hne _ ho' hg hg';simp only[thUp,Nd,Ax,P6]at hg;have:=M5 BY ho' hg';omega
 ·grind
 ·by_cases hne:nm=d
  ·simp only[thUp,hne,Nd,Ax,P6]at hg;exact .inl (by omega)
  ·simp only[A5,hne]at ho;simp only[thUp,hne]at hg;exact .inr ⟨nm,c,ho,hg⟩
theorem bs(h:Rel Γ σ I θ a w)(hd:∀ d,o.dst=some d->d<Γ.n)(_:o.dst=some d)(hn:σ.own d=none){vs:Array Value}(hc:CellsOK I σ.own θ w vs cs)
  (hr:(execOp a.eval o).run P w = .ok (.value (.pointer (some ⟨w.heap.size,0,none⟩))) (w.alloc (.cells vs e))):Hq P Γ σ o a w (.ptr d 0) [(d,.row e cs)]:=by
 have k:=jx h.chg.rel h.chg.valid hn hc e;refine T5 h hd hr (by rw[Hd];exact k) ?_;rw[Hd];exact .ptr d 0 e cs _ 0 (by simp[A5]) (by simp[thUp])
theorem Ab0(h:Rel Γ σ I θ a w)(hd:∀ d,o.dst=some d->d<Γ.n)(ad0:o.dst=some d)(hn:σ.own d=none)(ho:o.op = .box e x){y:AV}(hx:Rep I σ.own θ w (a.eval x) y)(hc:y.cells=some cs) :
  Hq P Γ σ o a w (.ptr d 0) [(d,.row e cs)]:=by
 refine bs  h hd ad0 hn (Rl hc hx) ?_;simp[execOp,ho,Instr.box,newVar,newRow]
theorem WB(v:Value):Rep I σ.own θ w v (AV.ofCell v):=by
 unfold AV.ofCell
 split
 ·exact .val _ _ (.int _ _)
 ·exact .val _ _ (.bool _)
 ·exact .val _ _ (.str _)
 ·exact .val _ _ .nilp
 ·exact .exact _ _ _ _ (.slice _ 0 0 0 _ (λ_=>undef) (zzL7 _) (DD _) (λh=>by omega) (λ_=>rfl) (λj hj=>by omega) (λi hi=>by omega) (λi c hi=>by omega))
 ·exact .val _ _ .err0
 ·exact .val _ _ .nilm
 ·exact .val _ _ (.any _)
theorem Ll{vs:Array Value}(h:vs.toList.all (·.oneCell')=true):CellsOK I σ.own θ w vs (vs.toList.map AV.ofCell):=by
 refine⟨by simp,λj hj=>?_,λj hj=>?_⟩<;>have hj' :=by simpa using hj
 ·simp_all
 ·have:(vs.toList.map AV.ofCell).getD j .any=AV.ofCell (vs.getD j undef):=by simp_all
  rw[this];exact WB _
theorem QY(v:Value):Rep I σ.own θ w v (AV.ofValue v):=by
 unfold AV.ofValue
 split
 ·rename_i cs
  cases hc:cs.toList.all _ with
  | false=>exact .val _ _ (.any _)
  | true=>
   have:=Ll (I:=I) (σ:=σ) (θ:=θ) (w:=w) hc;exact .agg _ _ this.size this.one this.rep
 ·rename_i vs
  split
  ·obtain rfl:vs = #[]:=by grind
   exact .val _ _ .undef
  ·exact .val _ _ (.any _)
 ·exact WB _
theorem Ub(h:GN P t=some z):∃ i v,P.info? t=some i/\i.zero=some v/\v.cells.toList.all (·.oneCell')=true/\z=v.cells.toList.map AV.ofCell:=by
 unfold GN at h
 split at h
 ·rename_i v hv
  obtain⟨i,hi,hz⟩:=zzL103.1 hv
  cases hc:v.cells.toList.all (·.oneCell') with
  | false=>simp[hc]at h
  | true=>grind
 ·simp at h
theorem Wr{i:TypeInfo}(hi:P.info? t=some i)(hz:i.zero=some v)(w:World):(zeroValue t).run P w = .ok v w:=by simp[zeroValue,typeInfo,hi,hz]
theorem tO(h:Rel Γ σ I θ a w)(hd:∀ d,o.dst=some d->d<Γ.n)(ad0:o.dst=some d)(hn:σ.own d=none)(ho:o.op = .alloc e)(hz:GN P e=some z) :
  Hq P Γ σ o a w (.ptr d 0) [(d,.row e z)]:=by
 obtain⟨i,v,hi,hv,h1,rfl⟩:=Ub hz;refine bs  h hd ad0 hn (Ll h1) ?_;simp[execOp,ho,Instr.alloc,Wr hi hv,newVar,newRow]
theorem Kb(d:α)(l m:List α)(off j:Nat)(hle:off+m.length<=l.length) :
  (l.take off++m++l.drop (off+m.length)).getD j d=if off<=j/\j<off+m.length then m.getD (j-off) d else l.getD j d:=by
 have ht:(l.take off).length=off:=by simp;omega
 by_cases h1:j<off
 ·grind
 ·grind
theorem tZ(h:Rel Γ σ I θ a w)(hd:∀ d,o.dst=some d->d<Γ.n)(ho:o.op = .store t x y)(ht:Dg P t=true){cells:List AV}{z:AV}
  (hx:Rep I σ.own θ w (a.eval x) (.ptr nm off)) (hy:Rep I σ.own θ w (a.eval y) z)  (By:σ.own nm=some (.row e cells)) (hc:z.cells=some cs) (hsz:cs.length=Bt P t) (hle:off+cs.length<=cells.length) :
  Hq P Γ σ o a w .undef [(nm,.row e (cells.take off++cs++cells.drop (off+cs.length)))]:=by
 obtain⟨e',cells',g,c,ho',hg,he⟩:=hx.ptr_inv;rw[By]at ho';simp only[Ax,Own.row.injEq]at ho';obtain⟨rfl,rfl⟩:=ho';obtain⟨g',c',vs,hg',hh,hvs,h1,ab8,hnI⟩:=h.chg.rel.row nm e cells By;rw[hg]at hg';simp only[Ax,P6]at hg';obtain⟨rfl,rfl⟩:=hg';have hcs:=Rl hc hy;have BY:=h.chg.rel
 have hvl:(a.eval y).cells.toList.length=cs.length:=by simp[hcs.size]
 have hst:=run_storeCells_at P g off e (a.eval y).cells.toList 0 vs w hh (by rw[hvl];omega) hcs.all;simp only[W5]at hst
 have ac1:(execOp a.eval o).run P w = .ok .skip (w.setRow g (vs.toList.take off++(a.eval y).cells.toList++vs.toList.drop (off+(a.eval y).cells.toList.length)).toArray):=by
  have hn:¬ ((a.eval y).cells.size≠Bt P t):=by rw[hcs.size,hsz];simp
  simp only[execOp,ho,he,Instr.storeAt,Instr.sureAddr,Fh,Jv,Gz,storeVar,Cl ht,if_neg hn,hst]
 refine SS h hd (I':=I) (θ':=θ) ac1 ?_;rw[Hd,hvl];have ac2:∀ b,b≠g->(w.setRow g (vs.toList.take off++(a.eval y).cells.toList++vs.toList.drop (off+cs.length)).toArray).heap[b]?=w.heap[b]?:=λb hb=>setRow_other w g b _ hb
 have ab0 :=λb j hi=>
  RG (a:=⟨b,j,none⟩) (ac2 b (by rintro rfl;exact hnI j hi))
 have ag8:∀ nm' o,σ.own nm'=some o->∃ o',A5 σ.own nm (.row e (cells.take off++cs++cells.drop (off+cs.length))) nm'=some o'/\OwnLe o (θ nm') o' (θ nm'):=λnm' o ho=>by
  by_cases hne:nm'=nm
  ·subst hne;rw[By]at ho;obtain rfl:=OI ho;exact⟨.row e (cells.take off++cs++cells.drop (off+cs.length)),by simp[A5],rfl,rfl⟩
  ·exact⟨o,by simp[A5,hne,ho],.refl _ _⟩
 have No:∀ v x,Rep I σ.own θ w v x->Rep I (A5 σ.own nm (.row e (cells.take off++cs++cells.drop (off+cs.length)))) θ (w.setRow g (vs.toList.take off++(a.eval y).cells.toList++vs.toList.drop (off+cs.length)).toArray) v x:=
  λv x h=>h.mono (λ_ _ h=>h) ab0 ag8
 refine{ imm:=λ_ _ h=>h,cell:=ab0,le:=ag8,rel:=?_,valid:=λb j hi=>?_,os:=rfl,tape:=rfl,output:=rfl,drawn:=λ_=>zzL7 _,grow:=by simp,frame:=λb hb hn=>ac2 b ?_,new:=λnm' g c ho hg=>?_,immNew:=λb o h=>.inl h }
 ·refine Pi BY (·=nm) No (λnm' hne=>⟨by simp[A5,hne],rfl⟩) (λnm' g' c' hne ho hg'=>⟨ac2 g' ?_,λj h=>h⟩) ?_ ?_ ?_ (λ_ _ h h'=>h.trans h'.symm)
  ·rintro rfl;exact hne (BY.inj nm' nm _ _ _ ho (by simp[By]) hg' hg)
  ·rintro nm' e' cells' rfl ho;simp only[A5,Nd,Ax,Own.row.injEq]at ho;obtain⟨rfl,rfl⟩:=ho
   have IT:(vs.toList.take off++(a.eval y).cells.toList++vs.toList.drop (off+cs.length)).length=cells.length:=by
    simp only[He,ND,GR,XE,hvs,hcs.size];omega
   have af8:(cells.take off++cs++cells.drop (off+cs.length)).length=cells.length:=by
    simp only[He,ND,GR];omega
   have ad3:∀ j,((vs.toList.take off++(a.eval y).cells.toList++vs.toList.drop (off+cs.length)).toArray).getD j undef=if off<=j/\j<off+cs.length then(a.eval y).cells.getD (j-off) undef else vs.getD j undef:=λj=>by
    have:=Kb undef vs.toList (a.eval y).cells.toList off j (by rw[hvl];simp;omega);rw[hvl]at this
    have e1:∀(l:List Value),(l.toArray).getD j undef=l.getD j undef:=λl=>by simp[Vg,List.getD]
    rw[e1,this]
    congr 1
    ·simp[Vg,List.getD]
    ·simp[Vg,List.getD]
   refine⟨g,c,_,hg,setRow_heap w g vs _ e _ hh,⟨by rw[af8];simpa using IT,λj hj=>?_,λj hj=>?_⟩,hnI⟩<;>rw[af8]at hj<;>rw[ad3]
   ·split
    ·exact hcs.one _ (by omega)
    ·exact h1 _ hj
   ·rw[Kb _ _ _ _ _ hle]
    split
    ·exact No _ _ (hcs.rep _ (by omega))
    ·exact No _ _ (ab8 _ hj)
  ·rintro nm' sz e' m rfl ho;simp[A5]at ho
  ·rintro nm' nm'' g' c1 c2 rfl hne _ ho' hg1 hg2;exact hne (BY.inj nm'' nm' _ _ _ ho' (by simp[By]) hg2 hg1)
 ·obtain⟨u,hu⟩:=h.chg.valid b j hi;exact⟨u,(ab0 b j hi).trans hu⟩
 ·rintro rfl;exact hn nm c (by simp[By]) hg
 ·refine .inr ⟨nm',c,?_,hg⟩
  by_cases hne:nm'=nm
  ·subst hne;simp[By]
  ·simpa [A5,hne] using ho
end
theorem IX(off:Nat):∀(l:List Value) (i:Nat) (cs:Array Value) (k:Nat),off+i+l.length<=cs.size->
  ((l.zipIdx i).foldl (λ(cs:Array Value) (p:Value×Nat)=>cs.setIfInBounds (off+p.2) p.1) cs)[k]?=if off+i<=k/\k<off+i+l.length then l[k-(off+i)]? else cs[k]?
 | [],i,cs,k,_=>by simp;omega
 | v::l,i,cs,k,h=>by
  simp only[Ry]at h;simp only[List.zipIdx_cons,AB];rw[IX off l _ _ k (by simp;omega)]
  by_cases h1:k=off+i
  ·grind
  ·grind
theorem FC(off:Nat):∀(l:List Value) (i:Nat) (cs:Array Value),
  ((l.zipIdx i).foldl (λ(cs:Array Value) (p:Value×Nat)=>cs.setIfInBounds (off+p.2) p.1) cs).size=cs.size
 | [],_,_=>rfl
 | _::l,i,cs=>by simp only[List.zipIdx_cons,AB];rw[FC off l _];simp
theorem pA(off:Nat)(c cs:Array Value)(j:Nat)(h:off+c.size<=cs.size) :
  (c.zipIdx.foldl (λ(cs:Array Value) (p:Value×Nat)=>cs.setIfInBounds (off+p.2) p.1) cs).getD j undef=if off<=j/\j<off+c.size then c.getD (j-off) undef else cs.getD j undef:=by
 rw[<- Array.foldl_toList,Array.toList_zipIdx];have:=IX off c.toList 0 cs j (by simpa using h);simp only[W5,XE,Array.getElem?_toList]at this;simp only[Vg,this]
 split<;>rfl
theorem TZ(off:Nat)(c cs:Array Value):(c.zipIdx.foldl (λ(cs:Array Value) (p:Value×Nat)=>cs.setIfInBounds (off+p.2) p.1) cs).size=cs.size:=by
 rw[<- Array.foldl_toList,Array.toList_zipIdx];exact FC off _ 0 cs
section
variable {P:Program} {Γ:Ip} {σ:Sto} {I:Nat->Nat->Prop} {θ:Nat->Option (Nat×Nat)} {a:Act} {w:World} {o:Oper}
inductive Xg (I:Nat->Nat->Prop) (own:Nat->Option Own) (θ:Nat->Option (Nat×Nat)) (w:World):List (Nat×Value)->List (Nat×AV)->Prop
 | nil:Xg I own θ w [] []
 | cons {i:Nat} {v:Value} {x:AV} {l:List (Nat×Value)} {m:List (Nat×AV)} (h:Rep I own θ w v x) (t:Xg I own θ w l m):Xg I own θ w ((i,v)::l) ((i,x)::m)
theorem AW(place:Nat->Option (Nat×Nat)){l:List (Nat×Value)}{m:List (Nat×AV)}(hp:Xg I σ.own θ w l m):∀{vs:Array Value} {cs cs':List AV},CellsOK I σ.own θ w vs cs->FA place cs m=some cs'->
  ∃ vs',Instr.fill place vs l=some vs'/\CellsOK I σ.own θ w vs' cs':=by
 induction hp with
 | nil=>intro vs cs cs' h hf;simp only[FA,Ax]at hf;subst hf;exact⟨vs,rfl,h⟩
 | @cons i v x l m hv _ ih=>
  intro vs cs cs' h hf;simp only[FA]at hf
  cases hpl:place i with
  | none=>simp[hpl]at hf
  | some os=>
   obtain⟨off,size⟩:=os
   cases hx:x.cells with
   | none=>simp[ hx]at hf
   | some xs=>
    simp only[hpl,hx]at hf
    cases h1:Nat.beq xs.length size with
    | false=>simp[h1]at hf
    | true=>
     cases h2:Nat.ble (off+xs.length) cs.length with
     | false=>simp[ h2]at hf
     | true=>
      simp only[h1,h2, Ah]at hf;have h1':=Ez h1;have h2':=N9 h2;have hc:=Rl hx hv
      have hle:off+v.cells.size<=vs.size:=by rw[hc.size,h.size];exact h2'
      have af8:(cs.take off++xs++cs.drop (off+xs.length)).length=cs.length:=by
       grind
      obtain⟨vs',hf',hok⟩:=ih (vs:=v.cells.zipIdx.foldl (λcs p=>cs.setIfInBounds (off+p.2) p.1) vs) (by
       refine⟨by rw[TZ,af8,h.size],λj hj=>?_,λj hj=>?_⟩<;>rw[af8]at hj<;>rw[pA off _ _ j hle,hc.size]
       ·split
        ·exact hc.one _ (by omega)
        ·exact h.one _ hj
       ·rw[Kb _ _ _ _ _ h2']
        split
        ·exact hc.rep _ (by omega)
        ·exact h.rep _ hj) hf
      refine⟨vs',?_,hok⟩
      have hn:¬ (v.cells.size≠size || decide (off+v.cells.size>vs.size))=true:=by
       simp only[W1,Hs,not_or];rw[hc.size];exact⟨by simpa using h1',by rw[h.size];omega⟩
      simp only[Instr.fill,hpl,if_neg hn];exact hf'
theorem tP(h:Rel Γ σ I θ a w)(hd:∀ d,o.dst=some d->d<Γ.n)(ho:o.op = .build t ac4){vs:List AV}
  (hp:Xg I σ.own θ w (ac4.toList.map λp=>(p.1,a.eval p.2)) (is.zip vs)) {e:Eff} (he:je P t is vs=some e):e.wo=[]/\Hq P Γ σ o a w e.v []:=by
 unfold je at he
 split at he
 ·rename_i z ab6 hz hu
  cases hf:ab6.toList.all (λf=>Dg P f.type) with
  | false=>simp[hf]at he
  | true=>
   simp only[hf,Ah]at he
   split at he
   ·rename_i cs af9
    simp only[Eff.pure,Ax]at he;subst he;obtain⟨i,v,hi,hv,h1,rfl⟩:=Ub hz;obtain⟨vs',hfi,hok⟩:=AW _ hp (Ll h1) af9;refine⟨rfl,Bv h hd (v:=.agg vs') ?_ (.agg _ _ hok.size hok.one hok.rep)⟩;have hsz :=λf hm=>zzL21.1 hf f hm
    have hm:(ab6.mapM (λf:Field=>do pure (f.offset,<- sizeOf f.type))).run P w = .ok (ab6.map λf=>(f.offset,Bt P f.type)) w:=by
     rw[Array.mapM_eq_mapM_toList]
     have key:∀ l:List Field,(∀ f∈l,Dg P f.type=true)->(l.mapM (λf:Field=>do pure (f.offset,<- sizeOf f.type))).run P w = .ok (l.map λf=>(f.offset,Bt P f.type)) w:=by
      intro l
      induction l with
      | nil=>intro _;simp
      | cons f l ih=>
       intro hl;simp only[List.mapM_cons,Fh,Cl (hl f (by simp)),Gz,Jv,ih (λg hg=>hl g (by simp[hg])),Db]
     rw[Sem.run_map,key _ hsz];simp only[Gz,Result.ok.injEq,Ih]
     apply Wy
     simp
    have e1:(λx:Nat=>(ab6.map λf:Field=>(f.offset,Bt P f.type))[x]?)=λi:Nat=>(ab6.toList.map λf:Field=>(f.offset,Bt P f.type))[i]?:=by
     funext i;simp
    have e2:(ac4.map λx=>(x.1,a.eval x.2)).toList=ac4.toList.map λp=>(p.1,a.eval p.2):=by simp
    simp only[execOp,ho,Instr.build,Fh,Wr hi hv,Gz,F6 hu,hm,Jv,e1,e2,hfi]
   ·simp at he
 ·rename_i z n e hz hu
  cases hf:Dg P e with
  | false=>simp[hf]at he
  | true=>
   simp only[hf,Ah]at he
   split at he
   ·rename_i cs af9
    simp only[Eff.pure,Ax]at he;subst he;obtain⟨i,v,hi,hv,h1,rfl⟩:=Ub hz;obtain⟨vs',hfi,hok⟩:=AW _ hp (Ll h1) af9;refine⟨rfl,Bv h hd (v:=.agg vs') ?_ (.agg _ _ hok.size hok.one hok.rep)⟩
    have e2:(ac4.map λx=>(x.1,a.eval x.2)).toList=ac4.toList.map λp=>(p.1,a.eval p.2):=by simp
    simp only[execOp,ho,Instr.build,Fh,Wr hi hv,Gz,F6 hu,Cl hf,Jv,e2,hfi]
   ·simp at he
 ·simp at he
def ba(I:Nat->Nat->Prop)(g n:Nat):Nat->Nat->Prop:=λb o=>I b o\/(b=g/\o<n)
theorem JV(BY:Kh I own θ w)(ab5:∀ b o,I b o->∃ u,w.cell? ⟨b,o,none⟩=some u)(vs:Array Value)(e:TypeId) :
  Chg own θ I w own θ (ba I w.heap.size vs.size) (w.alloc (.cells vs e)):=by
 have ab0:∀ b o,I b o->(w.alloc (.cells vs e)).cell? _=w.cell? _:=λb o hi=>by
  obtain⟨u,hu⟩:=ab5 b o hi;exact O2 _ hu
 have hle:∀ nm o,own nm=some o->∃ o',own nm=some o'/\OwnLe o _ o' (θ nm):=λnm o ho=>⟨o,ho,.refl _ _⟩;have No:∀ v x,Rep I own θ w v x->Rep (ba I w.heap.size vs.size) own θ _ v x:=λv x h=>h.mono (λ_ _ h=>.inl h) ab0 hle;refine{ imm:=λ_ _ h=>.inl h,cell:=ab0,le:=hle,rel:=?_,valid:=λb o hi=>?_,os:=rfl,tape:=rfl,output:=rfl,drawn:=λ_=>zzL7 _,grow:=by simp,frame:=λb hb _=>UE w _ hb,new:=λnm g c ho hg=>.inr ⟨nm,c,ho,hg⟩,immNew:=λb o h=>?_ }
 ·refine Pi BY (λ_=>False) No (λnm _=>⟨rfl,rfl⟩) (λnm g c _ ho hg=>⟨UE w _ (M5 BY ho hg),λj h=>?_⟩) (λ_ _ _ h=>h.elim) (λ_ _ _ _ h=>h.elim) (λ_ _ _ _ _ h=>h.elim) (λ_ _ h=>h.elim);have:=M5 BY ho hg;rcases h with h|⟨h,_⟩
  ·exact h
  ·omega
 ·rcases hi with hi|⟨rfl,hlt⟩
  ·grind
  ·simp_all
 ·rcases h with h|⟨rfl,_⟩
  ·exact .inl h
  ·omega
theorem bM(sz:Nat):∀(n:Nat) (l:List AV) (i:Nat),i<n->(fk sz n l).getD i []=(l.drop (i*sz)).take sz
 | 0,_,i,h=>by omega
 | n+1,l,0,_=>by simp[fk]
 | n+1,l,i+1,h=>by
  have:=bM sz n (l.drop sz) i (by omega);simp only[fk,List.getD_cons_succ,this,List.drop_drop]
  congr 2
  rw[Jl];omega
theorem kr{vs:Array Value}(hc:∀ j,j<cs.length->(vs.getD j undef).oneCell'=true/\RepV I' w' (vs.getD j undef) (cs.getD j .any))
   (hn:cs.length=n*sz) (IN:n<=cap) (Is:cap<=maxLen) (hI:∀ j,j<n*sz->I' g j) (ab0:∀ j,j<n*sz->w'.cell? ⟨g,j,none⟩=some (vs.getD j undef))
   (hf:∀ i,i<n->f i=(cs.drop (i*sz)).take sz) :
  RepV I' w' (.slice (some ⟨g,0,none⟩) n cap) (.slice sz n f .none):=by
 have ae6:∀ i c,i<n->c<sz->i*sz+c<n*sz:=λi c hi hc=>by
  have:(i+1)*sz<=n*sz:=Hp _ hi;rw[Jl]at this;omega
 refine .slice _ n cap sz f _ IN Is (λ_=>⟨_,rfl,rfl,λj hj=>by simpa using hI j hj,λj hj=>by simpa using ab0 j hj⟩) (by simp) (λj hj=>(hc j (by omega)).1) (λi hi=>?_) (λi c hi hc'=>?_)
 ·rw[hf i hi];have:(i+1)*sz<=n*sz:=Hp _ hi;rw[Jl]at this
  simp;omega
 ·grind
theorem AZ(d:α)(z:List α)(len j:Nat)(hj:j<len*z.length):((List.replicate len z).flatten).getD j d=z.getD (j % z.length) d:=by
 induction len generalizing j with
 | zero=>omega
 | succ n ih=>
  rw[List.replicate_succ,List.flatten_cons]
  by_cases h:j<z.length
  ·rw[List.getD,W0 h,Nat.mod_eq_of_lt h];rfl
  ·rw[List.getD,X2 (by omega)];rw[Jl]at hj;have:=ih (j-z.length) (by omega);rw[List.getD]at this;rw[this,<- Nat.mod_eq_sub_mod (by omega)]
theorem CP{vz:Array Value}(h:CellsOK I σ.own θ w vz z)(len sz:Nat)(hs:z.length=sz)(h1:1<=sz) :
  CellsOK I σ.own θ w ((Array.range (len*sz)).map (vz[· % vz.size]!)) ((List.replicate len z).flatten):=by
 have hzl:((List.replicate len z).flatten).length=len*sz:=by simp[hs]
 have hv:vz.size=sz:=by rw[h.size,hs]
 have ad3:∀ j,j<len*sz->((Array.range _).map (vz[· % vz.size]!)).getD j undef=vz.getD (j % sz) undef:=λj hj=>by
  have hm:j % sz<vz.size:=by rw[hv];exact Yp _ (by omega)
  rw[hv];rw[Vg,Array.getElem?_map,Array.getElem?_range,if_pos hj];simp[ hm]
 refine⟨by simp[hs],λj hj=>?_,λj hj=>?_⟩<;>rw[hzl]at hj<;>rw[ad3 j hj]<;>have hm:j % sz<z.length:=by rw[hs];exact Yp _ (by omega)
 ·exact h.one _ hm
 ·rw[AZ _ _ _ _ (by rw[hs];exact hj),hs];exact h.rep _ hm
theorem AU(place:Nat->Option (Nat×Nat)):∀(m:List (Nat×AV)) (cs cs':List AV),FA place cs m=some cs'->cs'.length=cs.length
 | [],cs,cs',h=>by simp only[FA,Ax]at h;rw[h]
 | (i,x)::m,cs,cs',h=>by
  simp only[FA]at h
  split at h
  ·rename_i off size xs _ _
   cases h1:(Nat.beq xs.length size&&Nat.ble (off+xs.length) cs.length) with
   | false=>simp[h1]at h
   | true=>
    simp only[h1]at h;rw[AU _ m _ _ h];simp only[Az]at h1;have:=N9 h1.2
    simp;omega
  ·simp at h
theorem ah(h:Rel Γ σ I θ a w)(hd:∀ d,o.dst=some d->d<Γ.n)(ho:o.op = .buildSlice t len ac4){vs:List AV}
  (hp:Xg I σ.own θ w (ac4.toList.map λp=>(p.1,a.eval p.2)) (is.zip vs)) {e:Eff} (he:EU P t len is vs=some e):e.wo=[]/\Hq P Γ σ o a w e.v []:=by
 unfold EU at he
 split at he
 ·rename_i el hu
  split at he
  ·rename_i z hz
   cases hb:(Dg P el&&Nat.beq z.length (Bt P el)&&Nat.ble 1 (Bt P el)&&Nat.ble (len*Bt P el) 16777216) with
   | false=>simp[hb]at he
   | true=>
    simp only[hb,Ah]at he;simp only[Az]at hb;obtain⟨⟨⟨hT,hzl⟩,h1⟩,Is⟩:=hb;have hzl:=Ez hzl;have h1:=N9 h1;have Is:=N9 Is
    split at he
    ·rename_i cs af9
     simp only[Eff.pure,Ax]at he;subst he;obtain⟨i,v,hi,hv,ai7,rfl⟩:=Ub hz;have ak1:=CP (Ll (I:=I) (σ:=σ) (θ:=θ) (w:=w) ai7) len (Bt P el) hzl h1;obtain⟨vs',hfi,hok⟩:=AW _ hp ak1 af9;have IT:=AU _ _ _ _ af9
     have hzl' :=by simpa using hzl
     have hcl:cs.length=len*Bt P el:=by rw[IT];simp[hzl']
     have k:=JV (own:=σ.own) h.chg.rel h.chg.valid vs' el
     have hlm:len<=maxLen:=by
      have:len*1<=len*Bt P el:=Nat.mul_le_mul_left _ h1;unfold maxLen;omega
     have ab5:∀ j,j<cs.length->(vs'.getD j undef).oneCell'=true/\RepV _ _ (vs'.getD j undef) ((cs.getD j .any).strip):=λj hj=>
      ⟨hok.one j hj,((hok.rep j hj).chg k).strip⟩
     have hvs:vs'.size=len*Bt P el:=by rw[hok.size,hcl]
     have ac1:(execOp a.eval o).run P w = .ok (.value (.slice (some ⟨w.heap.size,0,none⟩) len len)) (w.alloc (.cells vs' el)):=by
      have e2:(ac4.map λx=>(x.1,a.eval x.2)).toList=ac4.toList.map λp=>(p.1,a.eval p.2):=by simp
      have hm2:¬ (len*Bt P el>2 ^ 24):=by omega
      by_cases h0:len*Bt P el=0
      ·have e3:(Array.range (len*Bt P el)).map (v.cells[· % v.cells.size]!)=(Array.range (len*Bt P el)).map ((#[]:Array Value)[· % (#[]:Array Value).size]!):=by
        rw[h0];simp
       rw[e3]at hfi;simp only[execOp,ho,Instr.buildSlice,Fh,Gz,F6 hu,Cl hT,if_neg hm2,if_pos h0,Jv,e2,hfi];simp[newRow]
      ·simp only[execOp,ho,Instr.buildSlice,Fh,Gz,F6 hu,Cl hT,if_neg hm2,if_neg h0,Wr hi hv,Jv,e2,hfi];simp[newRow]
     refine⟨rfl,T5 h hd ac1 k ?_⟩;refine .exact _ _ _ _ (kr (vs:=vs') (cs:=AV.stripAll cs) (λj hj=>?_) (by rw[Bh];exact hcl) (zzL7 _) hlm (λj hj=>.inr ⟨rfl,by rw[hvs];exact hj⟩) (λj hj=>?_) (λi hi=>bM _ _ _ _ hi))
     ·rw[Bh]at hj;rw[E0];exact ab5 j hj
     ·simp_all
    ·simp at he
  ·simp at he
 ·simp at he
end
section
variable {P:Program} {Γ:Ip} {σ:Sto} {I:Nat->Nat->Prop} {θ:Nat->Option (Nat×Nat)} {a:Act} {w:World} {o:Oper}
theorem Zq(hx:RepV I w (.slice ad n cap) (.slice sz n f .none))(hlh:l<=h)(hn:h<=n)(hm:m<=cap)(hhm:h<=m)(hsz:sz=sz'\/n=0) :
  RepV I w (.slice (if m=l then ad else ad.map (·.add (l*sz'))) (h-l) (m-l)) (.slice sz (h-l) (λi=>f (l+i)) .none):=by
 obtain⟨_,ad',cap',us,he,IN,Is,hz,hn',h1,hl,hr⟩:=hx.slice_inv;obtain⟨rfl,_,rfl⟩:=he
 have ae6:∀ j,j<(h-l)*sz->l*sz+j<n*sz:=λj hj=>by
  have:h*sz<=n*sz:=Hp _ hn;rw[Nat.sub_mul]at hj;omega
 refine .slice _ _ _ sz _ _ (by omega) (by omega) (λhp=>?_) (λhnn=>?_) (λj hj=>h1 _ (ae6 j hj)) (λi hi=>hl _ (by omega)) (λi c hi hc=>?_)
 ·obtain rfl:sz=sz':=by grind
  obtain⟨b,rfl,hs,hI,hc⟩:=hz (by omega);rw[if_neg (by omega)];refine⟨b.add _,rfl,?_,λj hj=>?_,λj hj=>?_⟩
  ·rw[O0 hs]
  ·rw[O0 hs];have:=hI _ (ae6 j hj)
   simpa [DC] using this
  ·rw[O0 hs];have:=hc _ (ae6 j hj)
   simpa [DC] using this
 ·by_cases hc:m=l
  ·omega
  ·simp_all
 ·grind
theorem Vx{lo hi:Option Operand}(ho:o.op = .slice t x lo hi mx)(hu:P.underlying t=some (.slice el))(hT:Dg P el=true)
  (hx:a.eval x = .slice ad n cap) (hb:(Instr.sliceBounds true n cap (lo.map a.eval) (hi.map a.eval) (mx.map a.eval)).run P w = .ok (l,h,m) w) :
  (execOp a.eval o).run P w = .ok (.value (.slice (if m=l then ad else ad.map (·.add (l*Bt P el))) (h-l) (m-l))) w:=by
 simp only[execOp,ho,hx,Instr.sliceAt,Instr.slice,Fh,F6 hu,Gz,hb,Cl hT,Jv]
inductive RepL (I:Nat->Nat->Prop) (own:Nat->Option Own) (θ:Nat->Option (Nat×Nat)) (w:World):List Value->List AV->Prop
 | nil:RepL I own θ w [] []
 | cons {v:Value} {x:AV} {l:List Value} {m:List AV} (h:Rep I own θ w v x) (t:RepL I own θ w l m):RepL I own θ w (v::l) (x::m)
theorem RepL.one{vs:List AV}(h:RepL I σ.own θ w [v] vs):∃ x,vs=[x]/\Rep I σ.own θ w v x:=by
 cases h with|cons h t=>cases t;exact⟨_,rfl,h⟩
theorem RepL.two{vs:List AV}(h:RepL I σ.own θ w [v,u] vs):∃ x y,vs=[x,y]/\Rep I σ.own θ w v x/\Rep I σ.own θ w u y:=by
 cases h with|cons h t=>obtain⟨y,rfl,hy⟩:=t.one;exact⟨_,_,rfl,h,hy⟩
theorem RepL.three{t:Value}{vs:List AV}(h:RepL I σ.own θ w [v,u,t] vs):∃ x y z,vs=[x,y,z]/\Rep I σ.own θ w v x/\Rep I σ.own θ w u y/\Rep I σ.own θ w t z:=by
 cases h with|cons h t=>obtain⟨y,z,rfl,hy,hz⟩:=t.two;exact⟨_,_,_,rfl,h,hy,hz⟩
theorem SB(h:(Nat.beq sz s || Nat.beq n 0)=true):sz=s\/n=0:=by
 simp_all
theorem tY(h:Rel Γ σ I θ a w)(hd:∀ d,o.dst=some d->d<Γ.n){lo hi:Option Operand}(ho:o.op = .slice t x lo hi mx){e:Eff}{vs:List AV}
  (hvs:RepL I σ.own θ w ([a.eval x]++(lo.map a.eval).toList++(hi.map a.eval).toList++(mx.map a.eval).toList) vs) (he:jh P t lo.isSome hi.isSome mx.isSome vs=some e) (hob:∀ p∈e.ob,p) :
  e.wo=[]/\Hq P Γ σ o a w e.v []:=by
 unfold jh at he
 split at he
 ·rename_i el hu
  cases hT:Dg P el with
  | false=>simp[hT]at he
  | true=>
   simp only[hT,Ah]at he
   split at he
   ·rename_i sz n f tag h1 h2 h3
    cases lo<;>simp at h1
    cases hi<;>simp at h2
    cases mx<;>simp at h3
    obtain⟨y,e1,hy⟩:=hvs.one
    obtain rfl:_=y:=by simpa using e1
    cases hsz:(Nat.beq sz (Bt P el) || Nat.beq n 0) with
    | false=>simp[hsz]at he
    | true=>
     simp only[hsz,Ah,Eff.pure,Ax]at he;subst he;have hv:=hy.slice_val;obtain⟨_,ad,cap,us,hex,IN,Is,_⟩:=hv.slice_inv;rw[hex]at hv;have hr:=Vx (P:=P) (a:=a) (w:=w) (l:=0) (h:=n) (m:=cap) ho hu hT hex (by simp[Instr.sliceBounds]);have hc:=Zq hv (l:=0) (h:=n) (m:=cap) (sz':=Bt P el) (by omega) (by omega) (by omega) IN (SB hsz);simp only[PI,Ke]at hc hr;exact⟨rfl,Bv h hd hr (.val _ _ hc)⟩
   ·rename_i sz n f tag k l h1 h2 h3
    cases lo<;>simp at h1
    cases hi<;>simp at h2
    cases mx<;>simp at h3
    obtain⟨y,z,e1,hy,hz⟩:=hvs.two;simp only[Hg,Ih]at e1;obtain⟨rfl,rfl⟩:=e1
    cases hsz:(Nat.beq sz (Bt P el) || Nat.beq n 0) with
    | false=>simp[hsz]at he
    | true=>
     simp only[hsz,Ah,Eff.pure,Ax]at he;subst he;obtain⟨hb0,hb1⟩:=hob _ (zzL10.2 rfl);have hv:=hy.slice_val;obtain⟨_,ad,cap,us,hex,IN,Is,_⟩:=hv.slice_inv;rw[hex]at hv;have hl:=hz.int_inv;have hr:=Vx (P:=P) (a:=a) (w:=w) (l:=l.toNat) (h:=n) (m:=cap) ho hu hT hex (by simp[Instr.sliceBounds,hl,AC (P:=P) w k l n _ hb0 (by omega)]);have hc:=Zq hv (l:=l.toNat) (h:=n) (m:=cap) (sz':=Bt P el) (by omega) (by omega) (by omega) IN (SB hsz);exact⟨rfl,Bv h hd hr (.val _ _ hc)⟩
   ·rename_i sz n f tag k l h1 h2 h3
    cases lo<;>simp at h1
    cases hi<;>simp at h2
    cases mx<;>simp at h3
    obtain⟨y,z,e1,hy,hz⟩:=hvs.two;simp only[Hg,Ih]at e1;obtain⟨rfl,rfl⟩:=e1
    cases hsz:(Nat.beq sz (Bt P el) || Nat.beq n 0) with
    | false=>simp[hsz]at he
    | true=>
     simp only[hsz,Ah,Eff.pure,Ax]at he;subst he;obtain⟨hb0,hb1⟩:=hob _ (zzL10.2 rfl);have hv:=hy.slice_val;obtain⟨_,ad,cap,us,hex,IN,Is,_⟩:=hv.slice_inv;rw[hex]at hv;have hl:=hz.int_inv;have hr:=Vx (P:=P) (a:=a) (w:=w) (l:=0) (h:=l.toNat) (m:=cap) ho hu hT hex (by simp[Instr.sliceBounds,hl,AC (P:=P) w k l cap _ hb0 (by omega)]);have hc:=Zq hv (l:=0) (h:=l.toNat) (m:=cap) (sz':=Bt P el) (by omega) (by omega) (by omega) (by omega) (SB hsz);simp only[PI,Ke]at hc hr;exact⟨rfl,Bv h hd hr (.val _ _ hc)⟩
   ·rename_i sz n f tag k l k' m h1 h2 h3
    cases lo<;>simp at h1
    cases hi<;>simp at h2
    cases mx<;>simp at h3
    obtain⟨y,z,u,e1,hy,hz,hu'⟩:=hvs.three;simp only[Hg,Ih]at e1;obtain⟨rfl,rfl,rfl⟩:=e1
    cases hsz:(Nat.beq sz (Bt P el) || Nat.beq n 0) with
    | false=>simp[hsz]at he
    | true=>
     simp only[hsz,Ah,Eff.pure,Ax]at he;subst he;obtain⟨hb0,rfl,hb1⟩:=hob _ (zzL10.2 rfl);have hv:=hy.slice_val;obtain⟨_,ad,cap,us,hex,IN,Is,_⟩:=hv.slice_inv;rw[hex]at hv;have hl:=hz.int_inv;have hm:=hu'.int_inv;have hr:=Vx (P:=P) (a:=a) (w:=w) (l:=0) (h:=l.toNat) (m:=l.toNat) ho hu hT hex (by simp[Instr.sliceBounds,hl,hm,AC (P:=P) w k' l cap _ hb0 (by omega),AC (P:=P) w k l l.toNat _ hb0 (by omega)]);have hc:=Zq hv (l:=0) (h:=l.toNat) (m:=l.toNat) (sz':=Bt P el) (by omega) (by omega) (by omega) (by omega) (SB hsz);simp only[PI,Ke]at hc hr;exact⟨rfl,Bv h hd hr (.exact _ _ _ _ hc)⟩
   ·rename_i sz n f tag k l k' m k'' q h1 h2 h3
    cases lo<;>simp at h1
    cases hi<;>simp at h2
    cases mx<;>simp at h3
    cases hvs with|cons hy ae5=>
    obtain⟨z,u,v,e1,hz,hu',hq⟩:=ae5.three;simp only[Hg,Ih]at e1;obtain⟨rfl,rfl,rfl⟩:=e1
    cases hsz:(Nat.beq sz (Bt P el) || Nat.beq n 0) with
    | false=>simp[hsz]at he
    | true=>
     simp only[hsz,Ah,Eff.pure,Ax]at he;subst he;obtain⟨hb0,hb2,rfl,hb1⟩:=hob _ (zzL10.2 rfl);have hv:=hy.slice_val;obtain⟨_,ad,cap,us,hex,IN,Is,_⟩:=hv.slice_inv;rw[hex]at hv;have hl:=hz.int_inv;have hh:=hu'.int_inv;have hm:=hq.int_inv;have hr:=Vx (P:=P) (a:=a) (w:=w) (l:=l.toNat) (h:=m.toNat) (m:=m.toNat) ho hu hT hex (by simp[Instr.sliceBounds,hl,hh,hm,AC (P:=P) w k'' m cap _ (by omega) (by omega),AC (P:=P) w k' m m.toNat _ (by omega) (by omega),AC (P:=P) w k l m.toNat _ (by omega) (by omega)]);have hc:=Zq hv (l:=l.toNat) (h:=m.toNat) (m:=m.toNat) (sz':=Bt P el) (by omega) (by omega) (by omega) (by omega) (SB hsz);exact⟨rfl,Bv h hd hr (.exact _ _ _ _ hc)⟩
   ·rename_i sz n f tag k l k' m h1 h2 h3
    cases lo<;>simp at h1
    cases hi<;>simp at h2
    cases mx<;>simp at h3
    obtain⟨y,z,u,e1,hy,hz,hu'⟩:=hvs.three;simp only[Hg,Ih]at e1;obtain⟨rfl,rfl,rfl⟩:=e1
    cases hsz:(Nat.beq sz (Bt P el) || Nat.beq n 0) with
    | false=>simp[hsz]at he
    | true=>
     simp only[hsz,Ah,Eff.pure,Ax]at he;subst he;obtain⟨hb0,hb2,hb1⟩:=hob _ (zzL10.2 rfl);have hv:=hy.slice_val;obtain⟨_,ad,cap,us,hex,IN,Is,_⟩:=hv.slice_inv;rw[hex]at hv;have hl:=hz.int_inv;have hm:=hu'.int_inv;have hr:=Vx (P:=P) (a:=a) (w:=w) (l:=l.toNat) (h:=m.toNat) (m:=cap) ho hu hT hex (by simp[Instr.sliceBounds,hl,hm,AC (P:=P) w k' m cap _ (by omega) (by omega),AC (P:=P) w k l m.toNat _ hb0 (by omega)]);have hc:=Zq hv (l:=l.toNat) (h:=m.toNat) (m:=cap) (sz':=Bt P el) (by omega) (by omega) (by omega) (by omega) (SB hsz);exact⟨rfl,Bv h hd hr (.val _ _ hc)⟩
   ·simp at he
 ·simp at he
end
section
variable {P:Program} {Γ:Ip} {σ:Sto} {I:Nat->Nat->Prop} {θ:Nat->Option (Nat×Nat)} {a:Act} {w:World} {o:Oper}
theorem SL(BY:Kh I own θ w)
  (hI:∀ b o,I b o->I' b o) (ab0:∀ b o,I b o->w'.cell? ⟨b,o,none⟩=w.cell? ⟨b,o,none⟩)
  (hle:own nm=none\/∃ m,own nm=some (.tok s e m)/\m<=m'/\(m=m'->t'=θ nm))
  (ad4:∀ b,b<w.heap.size->(∀ c,own nm≠none->θ nm≠some (b,c))->w'.heap[b]?=w.heap[b]?)
  (aj2:∀ b o,I' b o->I b o\/∃ c,t'=some (b,c)) (ab5:∀ b o,I' b o->∃ u,w'.cell? ⟨b,o,none⟩=some u)
  (hos:w'.os=w.os) (al1:w'.tape=w.tape) (ah2:w'.output=w.output) (al6:w.heap.size<=w'.heap.size)
  (htok:∀ g c,t'=some (g,c)->∃ OF fz,w'.heap[g]?=some (.cells OF e (0,fz))/\m'<=c/\c<=maxLen/\OF.size=c*s/\fz<=m'*s/\∀ j,I' g j->j<m'*s)
  (hloc:∀ g c,t'=some (g,c)->w.heap.size<=g\/(own nm≠none/\∃ c',θ nm=some (g,c'))) (h8:t'=none->e=Zx->m'=0) (hdrw:w.drawn<=w'.drawn:=by first|exact zzL7 _|exact Nat.le_succ _) :
  Chg own θ I w (A5 own nm (.tok s e m')) (thUp θ nm t') I' w':=by
 have ag8:∀ nm' o,own nm'=some o->∃ o',A5 own nm (.tok s e m') nm'=some o'/\OwnLe o (θ nm') o' (thUp θ nm t' nm'):=λnm' o ho=>by
  by_cases hne:nm'=nm
  ·subst hne;rcases hle with h|⟨m,h,h1,h2⟩
   ·rw[h]at ho;cases ho
   ·rw[h]at ho;obtain rfl:=OI ho;exact⟨.tok s e m',by simp[A5],rfl,rfl,h1,λhe=>by simpa [thUp] using h2 he⟩
  ·exact⟨o,by simp[A5,hne,ho],by simp[thUp,hne,OwnLe.refl]⟩
 have No:∀ v x,Rep I own θ w v x->Rep I' (A5 own nm (.tok s e m')) (thUp θ nm t') w' v x:=λv x h=>h.mono hI ab0 ag8;have ac2:∀ nm' g c,nm'≠nm->own nm'≠none->θ nm'=some (g,c)->∀ c',own nm≠none->θ nm≠some (g,c'):=λnm' g c hne ho hg c' ho' hg'=>hne (BY.inj nm' nm g c c' ho ho' hg hg');refine{ imm:=hI,cell:=ab0,le:=ag8,rel:=?_,valid:=ab5,os:=hos,tape:=al1,output:=ah2,drawn:=λ_=>hdrw,grow:=al6,frame:=λb hb hn=>ad4 b hb (λc ho hg=>hn nm c ho hg),new:=λnm' g c ho hg=>?_,immNew:=λb o h=>?_ }
 ·refine Pi BY (·=nm) No (λnm' hne=>⟨by simp[A5,hne],by simp[thUp,hne]⟩) (λnm' g c hne ho hg=>⟨ad4 g (M5 BY ho hg) (ac2 nm' g c hne ho hg),λj hj=>?_⟩) ?_ ?_ ?_ (λ_ _ h h'=>h.trans h'.symm) (htok8:=by
   rintro nm' sz' m rfl ho hn;simp only[A5,Nd,Ax,Own.tok.injEq]at ho;obtain⟨rfl,rfl,rfl⟩:=ho
   exact h8 (by simpa [thUp] using hn) rfl)
  ·rcases aj2 g j hj with h|⟨c',hc'⟩
   ·exact h
   ·rcases hloc g c' hc' with h|⟨h1,c'',h2⟩
    ·have:=M5 BY ho hg;omega
    ·grind
  ·rintro nm' e' cells rfl ho;simp[A5]at ho
  ·rintro nm' sz' e' m rfl ho g c hg;simp only[A5,Nd,Ax,Own.tok.injEq]at ho;obtain⟨rfl,rfl,rfl⟩:=ho;exact htok g c (by simpa [thUp] using hg)
  ·rintro nm' nm'' g c c' rfl hne _ ho' hg hg';rcases hloc g c (by simpa [thUp] using hg) with h|⟨h1,c'',h2⟩
   ·have:=M5 BY ho' hg';omega
   ·exact ac2 nm'' g c' hne ho' hg' c'' h1 h2
 ·by_cases hne:nm'=nm
  ·subst hne;rcases hloc g c (by simpa [thUp] using hg) with h|⟨h1,c',h2⟩
   ·exact .inl h
   ·exact .inr ⟨nm',c',h1,h2⟩
  ·exact .inr ⟨nm',c,by simpa [A5,hne] using ho,by simpa [thUp,hne] using hg⟩
 ·grind
theorem Se(f g:Nat->List AV)(h:i<n):Qi n f g i=f i:=by
 have:Nat.blt i n=true:=by simp_all
 simp[Qi,this]
theorem Xh(f g:Nat->List AV)(h:n<=i):Qi n f g i=g (i-n):=by
 have:Nat.blt i n=false:=by cases hb:Nat.blt i n with|false=>rfl|true=>rw[Nc]at hb;omega
 simp[Qi,this]
theorem JU(h:RepV I w v (.slice sz n f .none)):∃(ad:Option Addr) (cap:Nat) (cs:List Value),v = .slice ad n cap/\n<=cap/\cap<=maxLen/\(ad=none->cap=0)/\cs.length=n*sz /\
  (∀ u∈cs,u.oneCell'=true)/\(∀ i,i<n->(f i).length=sz)/\(∀ i c,i<n->c<sz->RepV I w (cs.getD (i*sz+c) undef) ((f i).getD c .any)) /\
  (0<n->∃ b,ad=some b/\b.spot=none/\(∀ j,j<n*sz->I b.block (b.off+j))/\(∀ j u,cs[j]?=some u->w.cell? (b.add j)=some u)):=by
 obtain⟨_,ad,cap,us,rfl,IN,Is,hz,hn,h1,hl,hr⟩:=h.slice_inv;refine⟨ad,cap,(List.range (n*sz)).map us,rfl,IN,Is,hn,by simp,λu hu=>?_,hl,λi c hi hc=>?_,λhp=>?_⟩
 ·grind
 ·have:(i+1)*sz<=n*sz:=Hp _ hi;rw[Jl]at this;rw[NY _ _ _ (by omega)];exact hr i c hi hc
 ·obtain⟨b,rfl,hs,hI,hc⟩:=hz hp;refine⟨b,rfl,hs,hI,λj u hu=>?_⟩;rw[List.getElem?_map]at hu
  by_cases hj:j<n*sz
  ·rw[List.getElem?_range hj]at hu;simp only[Option.map_some,Ax]at hu;subst hu;rw[O0 hs];exact hc j hj
  ·grind
theorem iQ{cs:List Value}(No:∀ v x,RepV I w v x->RepV I' w' v x)
  (hl:cs.length=n*s) (hl':cs'.length=n'*s) (h1:∀ u∈cs,u.oneCell'=true) (h1':∀ u∈cs',u.oneCell'=true) (hf:∀ i,i<n->(f i).length=s) (hf':∀ i,i<n'->(f' i).length=s)
  (hr:∀ i c,i<n->c<s->RepV I w (cs.getD (i*s+c) undef) ((f i).getD c .any)) (hr':∀ i c,i<n'->c<s->RepV I w (cs'.getD (i*s+c) undef) ((f' i).getD c .any))
   (IN:n+n'<=cap) (Is:cap<=maxLen) (hI:∀ j,j<(n+n')*s->I' g j) (ab0:∀ j,j<(n+n')*s->w'.cell? ⟨g,j,none⟩=some ((cs++cs').getD j undef)) :
  RepV I' w' (.slice (some ⟨g,0,none⟩) (n+n') cap) (.slice s (n+n') (Qi n f f') .none):=by
 refine .slice _ _ _ s _ (λj=>(cs++cs').getD j undef) IN Is (λ_=>⟨_,rfl,rfl,λj hj=>by simpa using hI j hj,λj hj=>by simpa using ab0 j hj⟩) (by simp) (λj hj=>?_) (λi hi=>?_) (λi c hi hc=>?_)
 ·grind
 ·by_cases hlt:i<n
  ·rw[Se _ _ hlt];exact hf i hlt
  ·rw[Xh _ _ (by omega)];exact hf' _ (by omega)
 ·apply No
  by_cases hlt:i<n
  ·rw[Se _ _ hlt];have:(i+1)*s<=n*s:=Hp _ hlt
   have e:(cs++cs').getD (i*s+c) undef=cs.getD (i*s+c) undef:=by
    grind
   rw[e];exact hr i c hlt hc
  ·rw[Xh _ _ (by omega)];have h2:n*s<=i*s:=Hp _ (by omega)
   have e:(cs++cs').getD (i*s+c) undef=cs'.getD ((i-n)*s+c) undef:=by
    rw[List.getD,X2 (by omega),hl]
    have:i*s+c-n*s=(i-n)*s+c:=by rw[Nat.sub_mul];omega
    rw[this];rfl
   rw[e];exact hr' _ c (by omega) hc
theorem MO(h:RepV I w v (.slice sz n f .none))(hs:sz=s\/n=0):RepV I w v (.slice s n f .none):=by
 rcases hs with rfl|rfl
 ·exact h
 ·obtain⟨_,ad,cap,us,rfl,IN,Is,hz,hn,h1,hl,hr⟩:=h.slice_inv;exact .slice ad 0 cap s f us IN Is (λh=>by omega) hn (λj hj=>by omega) (λi hi=>by omega) (λi c hi=>by omega)
def mC(P:Program)(ts:Array TypeId)(ty e:TypeId)(i:TypeInfo)(z:Value)(w:World)(ad:Option Addr)(n cap:Nat)(x:Value)(n':Nat)(cs cs':List Value):Prop:=
 (n'=0->(Builtin.append_ ts ty #[.slice ad n cap,x]).run P w = .ok (.slice ad n cap) w) /\
 (0<n'->n+n'<=cap->∀ g OF fz,ad=some ⟨g,0,none⟩->w.heap[g]?=some (.cells OF e (0,fz))->fz<=n*i.size->n*i.size+cs'.length<=OF.size->
  (Builtin.append_ ts ty #[.slice ad n cap,x]).run P w = .ok (.slice ad (n+n') cap) (w.setRow g (OF.toList.take (n*i.size)++cs'++OF.toList.drop (n*i.size+cs'.length)).toArray)) /\
 (0<n'->cap<n+n'->∃(zs:Array Value) (nc:Nat),n+n'<=nc/\nc<=maxLen/\zs.size=(nc-(n+n'))*z.cells.size /\
  (Builtin.append_ ts ty #[.slice ad n cap,x]).run P w = .ok (.slice (some ⟨w.heap.size,0,none⟩) (n+n') nc) (w.drew.alloc (.cells (cs.toArray++cs'.toArray++zs) e)))
theorem GE{i:TypeInfo}{z:Value}(ty:TypeId)(ht:P.underlying t=some (.slice e))(hi:P.info? e=some i)(hz:i.zero=some z){bd:Option Addr}{cs:List Value}
  (hl:cs.length=n*i.size) (hl':cs'.length=n'*i.size) (IN:n<=cap) (hnn:ad=none->cap=0) (h1':∀ u∈cs',u.oneCell'=true)
  (hc:0<n->∃ b,ad=some b/\∀ j u,cs[j]?=some u->w.cell? (b.add j)=some u) (hc':0<n'->∃ b,bd=some b/\∀ j u,cs'[j]?=some u->w.cell? (b.add j)=some u)
  (ab1:(n+n')<=room) (hby:i.bytes<=128):mC P #[t,t] ty e i z w ad n cap (.slice bd n' cap') n' cs cs':=by
 unfold room at ab1;refine⟨λh0=>?_,λhp hr g OF fz had hh hfz ac6=>?_,λhp hg=>?_⟩
 ·subst h0
  cases bd<;>cases ad<;>simp[Builtin.append_,F6 ht,sizeOf,typeInfo,hi,Builtin.lenOf,IN,Builtin.firstCells,loadCells,loadCellsFrom,storeCells]
 ·obtain⟨b,rfl,hcb⟩:=hc' hp;subst had;have hf:=run_firstCells_some (P:=P) w i.size n' b n' cap' cs' hl' hcb;have hst:=run_storeCells_atF P g (n*i.size) e (0,fz) cs' 0 OF w hh (by simpa using hfz) (by simpa using ac6) h1';simp only[W5]at hst;simp[Builtin.append_,F6 ht,sizeOf,typeInfo,hi,Builtin.lenOf,hr,hf,Ux,hst]
 ·obtain⟨b,rfl,hcb⟩:=hc' hp
  have hby':(n+n')*i.bytes<=140737488355328:=by
   have:(n+n')*i.bytes<=1099511627776*128:=Nat.mul_le_mul ab1 hby
   omega
  have hm:n+n'<=maxLen:=by unfold maxLen;omega
  refine⟨Builtin.zeroCells z.cells (grownCap w (n+n') cap e-(n+n')),grownCap w (n+n') cap e,grownCap_ge w _ _ e,grownCap_le_maxLen w _ _ e hm,size_zeroCells _ _,?_⟩
  cases ad with
  | none=>
   have h0:=hnn rfl;subst h0
   have hn0:n=0:=by omega
   subst hn0;have hcs:cs=[]:=List.eq_nil_of_length_eq_zero (by simpa using hl);subst hcs;have:=run_append_nil (P:=P) w t ty e i z ht hi hz b n' cap' cs' hl' hcb hp (by omega) (by have:=hby';simp only[Ke]at this;omega)
   simpa using this
  | some ad=>
   have hco:∀ j u,cs[j]?=some u->w.cell? (ad.add j)=some u:=by
    grind
   exact run_append_grow (P:=P) w t ty e i z ht hi hz ad n cap cs hl hco b n' cap' cs' hl' hcb hg (by omega) (growslice_fits hg hby')
end
section
variable {P:Program} {Γ:Ip} {σ:Sto} {I:Nat->Nat->Prop} {θ:Nat->Option (Nat×Nat)} {a:Act} {w:World} {o:Oper}
theorem Xm(l:List Value)(j:Nat):(l.toArray).getD j undef=l.getD j undef:=by simp_all
theorem Rep.own_inv{s0:Nat}(h:Rep I own θ w v (.slice sz n f (.own nm)))(ho:own nm=some (.tok s0 e0 n)) :
  ∃ ad cap,v = .slice ad n cap/\(match θ nm with|none=>cap=n|some (g,c)=>ad=some ⟨g,0,none⟩/\cap=c):=by
 cases h with
 | val v x h =>  cases h
 | own nm sz e m' ad n cap f ho' hm hv' h'=>
  grind
theorem Rep.exact_inv(h:Rep I own θ w v (.slice sz n f .exact)):∃ ad,v = .slice ad n n:=by
 cases h with
 | val v x h =>  cases h
 | exact ad n sz f h=>exact⟨ad,rfl⟩
theorem QC(h:Rel Γ σ I θ a w){i:TypeInfo}{z:Value}(ty:TypeId)(ht:P.underlying t=some (.slice e))(hi:P.info? e=some i)(hz:i.zero=some z)(hzs:z.cells.size=i.size)(hby:i.bytes<=128)
     {vs:Value} (hvs:RepV I w vs (.slice i.size n f .none))  (hl':cs'.length=n'*i.size) (h1':∀ u∈cs',u.oneCell'=true)
  (hf':∀ k,k<n'->(f' k).length=i.size) (hr':∀ k c,k<n'->c<i.size->RepV I w (cs'.getD (k*i.size+c) undef) ((f' k).getD c .any)) (ab1:n+n'<=room)
  (ac1:∀(ad:Option Addr) (cap:Nat) (cs:List Value),cs.length=n*i.size->n<=cap->(ad=none->cap=0)->(0<n->∃ b,ad=some b/\∀ j u,cs[j]?=some u->w.cell? (b.add j)=some u)->mC P ts ty e i z w ad n cap vx n' cs cs') (nm:Nat) (h8:σ.own nm=none->e=Zx->n=0\/0<n')
  (ad7:(σ.own nm=none/\∃ ad,vs = .slice ad n n) \/
   (σ.own nm=some (.tok i.size e n)/\∃ ad cap,vs = .slice ad n cap/\(match θ nm with|none=>cap=n|some (g,c)=>ad=some ⟨g,0,none⟩/\cap=c))) :
  ∃ v w' I' θ',(Builtin.append_ ts ty #[vs,vx]).run P w = .ok v w'/\Chg σ.own θ I w (A5 σ.own nm (.tok i.size e (n+n'))) θ' I' w' /\
   Rep I' (A5 σ.own nm (.tok i.size e (n+n'))) θ' w' v (.slice i.size (n+n') (Qi n f f') (.own nm)):=by
 obtain⟨ad,cap,cs,rfl,IN,Is,hnn,hl,h1,hf,hr,hc⟩:=JU hvs;have ac1:=ac1 ad cap cs hl IN hnn (λhp=>by obtain⟨b,h1,_,_,h4⟩:=hc hp;exact⟨b,h1,h4⟩);obtain⟨r0,r1,r2⟩:=ac1;have BY:=h.chg.rel;have ab5:=h.chg.valid
 have hmaxr:n+n'<=maxLen:=by unfold room at ab1;unfold maxLen;omega
 by_cases hz':n'=0
 ·subst hz';rcases ad7 with⟨hno,ad',hv⟩|⟨By,ad',cap1,hv,hθ⟩
  ·simp only[XG,true_and]at hv;obtain⟨rfl,hcn⟩:=hv;subst hcn;refine⟨_,w,I,thUp θ nm none,r0 rfl,SL BY (λ_ _ h=>h) (λ_ _ _=>rfl) (.inl hno) (λ_ _ _=>rfl) (λ_ _ h=>.inl h) ab5 rfl rfl rfl (zzL7 _) (by simp) (by simp) (λ_ he=>by rcases h8 hno he with h|h<;>omega),?_⟩;refine .own nm _ e (cap+0) ad cap cap _ (by simp[A5]) (zzL7 _) (λ_=>by simp[thUp]) ?_;refine .slice ad cap cap _ _ (λj=>cs.getD j undef) IN Is (λhp=>?_) hnn (λj hj=>?_) (λi hi=>by rw[Se _ _ hi];exact hf i hi) (λi c hi hc''=>by rw[Se _ _ hi];exact hr i c hi hc'')
   ·obtain⟨b,h1,h2,h3,h4⟩:=hc hp;refine⟨b,h1,h2,h3,λj hj=>?_⟩;have:=h4 j _ (HO undef (by omega));rwa[O0 h2]at this
   ·exact h1 _ (by rw[List.getD,RF (by omega)];exact PE _)
  ·simp only[XG,true_and]at hv;obtain⟨rfl,rfl⟩:=hv
   have ak3:A5 σ.own nm (.tok i.size e (n+0))=σ.own:=by
    funext k
    by_cases hk:k=nm
    ·subst hk;simp[A5,By]
    ·simp[A5,hk]
   rw[ak3];refine⟨_,w,I,θ,r0 rfl,.refl BY ab5,.own nm _ e n ad n cap _ By (zzL7 _) (λ_=>hθ) ?_⟩;refine .slice ad n cap _ _ (λj=>cs.getD j undef) IN Is (λhp=>?_) hnn (λj hj=>?_) (λi hi=>by rw[Se _ _ hi];exact hf i hi) (λi c hi hc''=>by rw[Se _ _ hi];exact hr i c hi hc'')
   ·obtain⟨b,h1,h2,h3,h4⟩:=hc hp;refine⟨b,h1,h2,h3,λj hj=>?_⟩;have:=h4 j _ (HO undef (by omega));rwa[O0 h2]at this
   ·exact h1 _ (by rw[List.getD,RF (by omega)];exact PE _)
 ·have hp:0<n':=Nat.pos_of_ne_zero hz'
  have IT:(cs++cs').length=(n+n')*i.size:=by rw[He,hl,hl',Jl]
  by_cases hg:cap<n+n'
  ·obtain⟨zs,nc,hnc,hnc',hzsz,ac1⟩:=r2 hp hg;have ak4:(w.drew.alloc (.cells (cs.toArray++cs'.toArray++zs) e)).heap[w.heap.size]?=some (.cells (cs.toArray++cs'.toArray++zs) e (0,0)):=JF w.drew _
   have ae9:∀ b o,I b o->(w.drew.alloc (.cells (cs.toArray++cs'.toArray++zs) e)).cell? ⟨b,o,none⟩=w.cell? ⟨b,o,none⟩:=λb o hi=>by
    obtain⟨u,hu⟩:=ab5 b o hi;exact O2 (w:=w.drew) _ (by simpa using hu)
   have ah1:∀ j,j<(n+n')*i.size->(w.drew.alloc (.cells (cs.toArray++cs'.toArray++zs) e)).cell? ⟨w.heap.size,j,none⟩=some ((cs++cs').getD j undef):=λj hj=>by
    rw[Ot _ _ _ _ e (0,0) ak4];rw[Array.getElem?_append_left (by simp at IT ⊢;omega)]
    have:cs.toArray++cs'.toArray=(cs++cs').toArray:=by simp
    rw[this]
    simpa using HO undef (by omega:j<(cs++cs').length)
   have No:∀ v x,RepV I w v x->RepV (ba I w.heap.size ((n+n')*i.size)) (w.drew.alloc (.cells (cs.toArray++cs'.toArray++zs) e)) v x:=λv x h=>h.mono (λ_ _ h=>.inl h) ae9
   have hnI:∀ j,¬ I w.heap.size j:=λj hj=>by obtain⟨u,hu⟩:=ab5 _ _ hj;exact GO _ (Sh hu)
   refine⟨_,_,ba I w.heap.size ((n+n')*i.size),thUp θ nm (some (w.heap.size,nc)),ac1,SL BY (λ_ _ h=>.inl h) ae9 ?_ (λb hb _=>UE w.drew _ hb) (λb o h=>?_) (λb o h=>?_) rfl rfl rfl (by simp) (λg c hgc=>?_) (λg c hgc=>?_) (by simp),?_⟩
   ·rcases ad7 with⟨hno,_⟩|⟨By,_⟩
    ·exact .inl hno
    ·exact .inr ⟨n,By,by omega,λhe=>by omega⟩
   ·rcases h with h|⟨rfl,_⟩
    ·exact .inl h
    ·exact .inr ⟨nc,rfl⟩
   ·rcases h with h|⟨rfl,hlt⟩
    ·obtain⟨u,hu⟩:=ab5 b o h;exact⟨u,(ae9 b o h).trans hu⟩
    ·exact⟨_,ah1 o hlt⟩
   ·simp only[Ax,P6]at hgc;obtain⟨rfl,rfl⟩:=hgc;refine⟨_,0,ak4,hnc,hnc',?_,DD _,λj hj=>?_⟩
    ·simp only[Array.size_append,List.size_toArray,hl,hl',hzsz,hzs,<- Jl]
     congr 1
     omega
    ·rcases hj with hj|⟨_,hj⟩
     ·exact(hnI j hj).elim
     ·exact hj
   ·simp only[Ax,P6]at hgc;exact .inl (by omega)
   ·exact .own nm _ e (n+n') _ _ nc _ (by simp[A5]) (zzL7 _) (λ_=>by simp[thUp])
     (iQ No hl hl' h1 h1' hf hf' hr hr' hnc hnc' (λj hj=>.inr ⟨rfl,hj⟩) ah1)
  ·have ai3:n+n'<=cap:=by omega
   rcases ad7 with⟨hno,ad',hv⟩|⟨By,ad',cap1,hv,hθ⟩
   ·simp only[XG,true_and]at hv;omega
   ·simp only[XG,true_and]at hv;obtain⟨rfl,rfl⟩:=hv
    cases hθ':θ nm with
    | none=>rw[hθ']at hθ;simp only at hθ;omega
    | some gc=>
     obtain⟨g,c⟩:=gc;rw[hθ']at hθ;simp only at hθ;obtain⟨rfl,rfl⟩:=hθ;obtain⟨OF,fz,hh,hnc,hcm,hcs,hfz,hIg⟩:=BY.tok nm _ e n By g cap hθ'
     have ac6:n*i.size+cs'.length<=OF.size:=by rw[hl',hcs,<- Jl];exact Hp _ ai3
     have ac1:=r1 hp ai3 g OF fz rfl hh hfz ac6;have ac2:∀ b,b≠g->(w.setRow g (OF.toList.take (n*i.size)++cs'++OF.toList.drop (n*i.size+cs'.length)).toArray).heap[b]?=w.heap[b]?:=λb hb=>setRow_other w g b _ hb;have aj2:=setRow_heap w g OF (OF.toList.take (n*i.size)++cs'++OF.toList.drop (n*i.size+cs'.length)).toArray e _ hh
     have ad3:∀ j,(OF.toList.take (n*i.size)++cs'++OF.toList.drop (n*i.size+cs'.length)).getD j undef=if n*i.size<=j/\j<n*i.size+cs'.length then cs'.getD (j-n*i.size) undef else OF.toList.getD j undef:=λj=>
      Kb undef _ _ _ _ (by simpa using ac6)
     have al3:(OF.toList.take (n*i.size)++cs'++OF.toList.drop (n*i.size+cs'.length)).length=OF.size:=by
      simp only[He,ND,GR,XE];omega
     have ae9:∀ b o,I b o->(w.setRow g (OF.toList.take (n*i.size)++cs'++OF.toList.drop (n*i.size+cs'.length)).toArray).cell? ⟨b,o,none⟩=w.cell? ⟨b,o,none⟩:=λb o hi=>by
      by_cases hb:b=g
      ·subst hb;have hlt:=hIg o hi;obtain⟨u,hu⟩:=ab5 _ _ hi;rw[Ot _ _ _ _ e (0,fz) aj2,Ot _ _ _ _ e (0,fz) hh];rw[Ot _ _ _ _ e (0,fz) hh]at hu
       have ho:o<OF.size:=by
        rcases zzL119 o OF.size with h'|h'
        ·exact h'
        ·rw[Array.getElem?_eq_none h']at hu;cases hu
       have hgo:=ad3 o;rw[if_neg (by omega)]at hgo;rw[List.getElem?_toArray,HO undef (by omega),hgo];simp[List.getD,ho]
      ·exact RG (a:=⟨b,o,none⟩) (ac2 b hb)
     have ah1:∀ j,j<(n+n')*i.size->(w.setRow g (OF.toList.take (n*i.size)++cs'++OF.toList.drop (n*i.size+cs'.length)).toArray).cell? ⟨g,j,none⟩=some ((cs++cs').getD j undef):=λj hj=>by
      by_cases hlt:j<n*i.size
      ·have hn0:0<n:=by
        rcases zzL81 n with h0|h0
        ·rw[h0]at hlt;omega
        ·exact h0
       obtain⟨b,hb,_,hI4,h4⟩:=hc hn0;simp only[Ax]at hb;subst hb;have hIj:=hI4 j hlt;simp only[Ke]at hIj;rw[ae9 g j hIj];have:=h4 j _ (HO undef (by omega));rw[Ux,Ke]at this;rw[this,List.getD,List.getD,W0 (by omega)]
      ·rw[Ot _ _ _ _ e (0,fz) aj2];have hgo:=ad3 j;rw[Jl]at hj;rw[if_pos ⟨by omega,by omega⟩]at hgo;rw[List.getElem?_toArray,HO undef (by omega),hgo];simp only[List.getD];rw[X2 (by omega),hl]
     have No:∀ v x,RepV I w v x->RepV (ba I g ((n+n')*i.size)) (w.setRow g (OF.toList.take (n*i.size)++cs'++OF.toList.drop (n*i.size+cs'.length)).toArray) v x:=λv x h=>h.mono (λ_ _ h=>.inl h) ae9;have hnn1:n*i.size<=(n+n')*i.size:=Hp _ (by omega)
     refine⟨_,_,ba I g ((n+n')*i.size),thUp θ nm (some (g,cap)),ac1,SL BY (λ_ _ h=>.inl h) ae9 (.inr ⟨n,By,by omega,λhe=>by omega⟩)
      (λb hb hn=>ac2 b (by rintro rfl;exact hn cap (by simp[By]) hθ')) (λb o h=>?_) (λb o h=>?_) rfl rfl rfl (by simp) (λg' c' hgc=>?_) (λg' c' hgc=>?_) (by simp),?_⟩
     ·rcases h with h|⟨rfl,_⟩
      ·exact .inl h
      ·exact .inr ⟨cap,rfl⟩
     ·rcases h with h|⟨rfl,hlt⟩
      ·obtain⟨u,hu⟩:=ab5 b o h;exact⟨u,(ae9 b o h).trans hu⟩
      ·exact⟨_,ah1 o hlt⟩
     ·simp only[Ax,P6]at hgc;obtain⟨rfl,rfl⟩:=hgc;refine⟨_,fz,aj2,ai3,hcm,by simpa [hcs] using al3,R0 hfz hnn1,λj hj=>?_⟩;rcases hj with hj|⟨_,hj⟩
      ·have:=hIg j hj;omega
      ·exact hj
     ·simp only[Ax,P6]at hgc;obtain⟨rfl,rfl⟩:=hgc;exact .inr ⟨by simp[By],cap,hθ'⟩
     ·exact .own nm _ e (n+n') _ _ cap _ (by simp[A5]) (zzL7 _) (λ_=>by simp[thUp])
       (iQ No hl hl' h1 h1' hf hf' hr hr' ai3 hcm (λj hj=>.inr ⟨rfl,hj⟩) ah1)
theorem pX(h:Rel Γ σ I θ a w)(hd:∀ d,o.dst=some d->d<Γ.n)(ho:o.op = .call { callee:=.builtin .append,args:=xs,argTypes:=ts })(hxs:xs.toList=[x,y])
  {vs:List AV} {es:List (Option Own)} (hvs:RepL I σ.own θ w [a.eval x,a.eval y] vs) (hes:es=(J9 o vs).map σ.own)  (ad0:o.dst=some d) {e:Eff} (he:HF P d ts.toList vs es=some e) (hob:∀ p∈e.ob,p) :
  Hq P Γ σ o a w e.v e.wo:=by
 obtain⟨u,v,rfl,hu,hv⟩:=hvs.two;unfold HF at he
 split at he
 ·rename_i _ _ _ t t' sz n f tag sz' n' f' tag' eo hts hvv
  obtain⟨rfl,rfl⟩:=hvv
  split at he
  ·rename_i el hun
   dsimp only at he
   generalize ae8:(Nat.beq t t'&&Dg P el&&Nat.ble 1 _&&Nat.ble _ 128&&((P.info? el).bind _).isSome&&(Nat.beq sz _ || Nat.beq n 0)&&(Nat.beq sz' _ || Nat.beq n' 0)
    && Nat.beq _ _)=cond0 at he
   cases cond0 with
   | false=>simp at he
   | true=>
    simp only[Ah]at he;simp only[Az]at ae8;obtain⟨⟨⟨⟨⟨⟨⟨htt,hT⟩,hs1⟩,hby⟩,hzz⟩,hsz⟩,hsz'⟩,hzs⟩:=ae8;obtain rfl:=Ez htt;obtain⟨i,dd,hi,_,hsi⟩:=LU hT;obtain⟨z,hz⟩:=zzL92.1 hzz;simp only[hi]at hz;simp only[hi,   hz]at hby hzs
    have hby:=N9 hby
    have hzq:=Ez hzs;rw[hsi]at hzq;have hV:=MO hu.slice_val (SB hsz);have hV':=MO hv.slice_val (SB hsz');rw[hsi]at hV hV' he
    obtain rfl:ts = #[t,t]:=by grind
    obtain rfl:xs = #[x,y]:=by grind
    obtain⟨bd,cap',cs',hve,hcap',hmax',hnn',hl',h1',hf',hr',hc'⟩:=JU hV'
    have al4:=λab1 ad cap (cs:List _) (hl:cs.length=n*i.size) IN hnn hc=>
     GE  (w:=w)  (cap:=cap)  (cap':=cap') (ad:=ad) (bd:=bd) o.type hun hi hz hl hl' IN hnn h1' hc (λhp=>by grind) ab1 hby
    rw[<- hve]at al4
    have ak6:∀ v w',(Builtin.append_ #[t,t] o.type #[a.eval x,a.eval y]).run P w = .ok v w'->(execOp a.eval o).run P w = .ok (.value v) w':=λv w' hr=>by
     simp[execOp,ho,resolve,invoke,builtin,hr]
    split at he
    ·rename_i nm sz0 e0 m
     cases hc0:(Nat.beq sz0 i.size&&Nat.beq e0 el) with
     | false=>simp[hc0]at he
     | true=>
      simp only[hc0,Ah,Ax]at he;subst he;simp only[Az]at hc0;obtain rfl:=Ez hc0.1;obtain rfl:=Ez hc0.2;have hmn:m=n:=hob _ (by simp);have ab1:n+n'<=room:=hob _ (by simp);subst hmn
      have By :=by
       simpa [J9,ho] using hes.symm
      have ad7:=hu.own_inv By;obtain⟨v',w',I',θ',hr,hk,ab8⟩:=QC  h _ hun hi hz hzq hby hV hl' h1' hf' hr' ab1 (al4 ab1) nm (λhn=>by grind) (.inr ⟨By,ad7⟩);exact T5 h hd (ak6 _ _ hr) (by rw[Hd];exact hk) (by rw[Hd];exact ab8)
    ·simp only[Ax]at he;subst he;have ab1:n+n'<=room:=hob _ (by simp)
     have By :=by
      simpa [J9,ho,ad0] using hes.symm
     have ad7:=hu.exact_inv;obtain⟨v',w',I',θ',hr,hk,ab8⟩:=QC  h _ hun hi hz hzq hby hV hl' h1' hf' hr' ab1 (al4 ab1) d (λ_=>hob _ (by simp)) (.inl ⟨By,ad7⟩);exact T5 h hd (ak6 _ _ hr) (by rw[Hd];exact hk) (by rw[Hd];exact ab8)
    ·simp at he
  ·simp at he
 ·simp at he
end
section
variable {P:Program} {Γ:Ip} {σ:Sto} {I:Nat->Nat->Prop} {θ:Nat->Option (Nat×Nat)} {a:Act} {w:World} {o:Oper}
theorem jk(h:Rel Γ σ I θ a w)(By:σ.own nm=some (.arr sz e m f))(hx:Rep I σ.own θ w v (.vpt nm n i j))(hn:n=m) :
  ∃ g c OF,v = .pointer (some ⟨g,i*sz+j,none⟩)/\θ nm=some (g,c)/\w.heap[g]?=some (.cells OF e (0,0))/\i<m/\m<=c/\c<=maxLen/\OF.size=c*sz/\(∀ i,i<m->(f i).length=sz) /\
   (∀ i j,i<m->j<sz->(OF.getD (i*sz+j) undef).oneCell'=true/\Rep I σ.own θ w (OF.getD (i*sz+j) undef) ((f i).getD j .any))/\∀ j,¬ I g j:=by
 obtain⟨sz',e',m',f',ad,rfl,ho,hm,hi,hv⟩:=hx.vpt_inv;rw[By]at ho;obtain⟨rfl,rfl,rfl,rfl⟩:=ho;obtain⟨g,c,hg,rfl⟩:=hv hn;obtain⟨OF,q1,q2,q3,q4,q5,q6,q7⟩:=(h.chg.rel.arr nm _ _ _ _ By).2 g c hg
 grind
theorem pos_lt(hi:i<m)(hj:j<sz)(hc:m<=c):i*sz+j<c*sz:=by
 have:(i+1)*sz<=c*sz:=Hp _ (by omega)
 grind
theorem QT(h:Rel Γ σ I θ a w)(hd:∀ d,o.dst=some d->d<Γ.n)(ho:o.op = .load t x)(ht:Dg P t=true)
  (hx:Rep I σ.own θ w (a.eval x) (.vpt nm n i j)) (By:σ.own nm=some (.arr sz e m f)) (hn:n=m) :
  (F8 P t=true->j+Bt P t<=sz->Hq P Γ σ o a w (.agg (((f i).drop j).take (Bt P t))) []) /\
  (F8 P t=false->j<sz->Hq P Γ σ o a w ((f i).getD j .any) []):=by
 obtain⟨g,c,OF,he,hg,hh,hi,hmc,hcm,hsz,hf,hr,hI⟩:=jk h By hx hn
 have ab0:∀ k,k<sz->w.cell? ⟨g,i*sz+k,none⟩=some (OF.getD (i*sz+k) undef):=λk hk=>by
  rw[Ot w g _ OF e (0,0) hh]
  grind [O1,pos_lt]
 refine⟨λab7 hle=>?_,λab7 hlt=>?_⟩
 ·have ac1:(loadVar t ⟨g,i*sz+j,none⟩).run P w = .ok (.agg ((List.range (Bt P t)).map λk=>OF.getD (i*sz+(j+k)) undef).toArray) w:=
   N7 ht ab7 _ _ (λk hk=>by grind [Ux])
  refine Bv h hd (v:=.agg ((List.range (Bt P t)).map λk=>OF.getD (i*sz+(j+k)) undef).toArray) ?_ ?_
  ·simp only[execOp,ho,he,Instr.loadAt,Instr.sureAddr,Fh,Jv,Gz,ac1]
  ·refine .agg _ _ (by grind) (λk hk=>?_) (λk hk=>?_)
   ·grind [Pj]
   grind [Pj]
 ·have ac1:=N8 (P:=P) ht ab7 _ _ (ab0 j hlt);refine Bv h hd  ?_ (hr i j hi hlt).2;simp only[execOp,ho,he,Instr.loadAt,Instr.sureAddr,Fh,Jv,Gz,ac1]
theorem OM(h:Rel Γ σ I θ a w)(hd:∀ d,o.dst=some d->d<Γ.n){s:TypeId}{k:Nat}(ho:o.op = .fieldAddr s x k)
  (hs:P.underlying s=some (.struct ab6)) (hf:ab6[k]?=some fd) (ht:Dg P fd.type=true) (h1:1<=Bt P fd.type)  (hx:Rep I σ.own θ w (a.eval x) (.vpt nm n i j)) :
  Hq P Γ σ o a w (.vpt nm n i (j+fd.offset)) []:=by
 obtain⟨sz',e',m',f',ad,he,ho',hm,hi,hv⟩:=hx.vpt_inv;refine Bv h hd (v:=.pointer (some (ad.add fd.offset))) ?_ (.vpt nm sz' e' m' f' n i _ _ ho' hm hi (λhn=>?_))
 ·simp_all [Wp,execOp,Instr.fieldAt,F6,Instr.sureAddr]
 grind [Ux]
theorem dg(h:Rel Γ σ I θ a w)(hd:∀ d,o.dst=some d->d<Γ.n){i:Operand}(ho:o.op = .indexAddr t x i)(hu:P.underlying t=some (.slice e))(ht:Dg P e=true)
    {j:Int} (hx:Rep I σ.own θ w (a.eval x) (.vsl nm n)) (hi:Rep I σ.own θ w (a.eval i) (.int k j)) (hb:As j n) (hs:∃ sz e' m f,σ.own nm=some (.arr sz e' m f)/\sz=Bt P e) :
  Hq P Γ σ o a w (.vpt nm n j.toNat 0) []:=by
 obtain⟨hb0,hb1⟩:=hb;obtain⟨sz,e',m,f,ad,cap,he,ho',hm,IN,Is,hn,hv⟩:=hx.vsl_inv;obtain⟨sz2,e2,m2,f2,ho2,hsz2⟩:=hs;have hi':=hi.int_inv
 have hne:ad≠none:=λh=>by grind
 obtain⟨b,rfl⟩:=Option.ne_none_iff_exists'.1 hne;refine Bv h hd (v:=.pointer (some (b.add (j.toNat*Bt P e)))) ?_ (.vpt nm _ e' m f n _ _ _ ho' hm (by omega) (λhnm=>?_))
 ·simp[execOp,ho,he,hi',Instr.indexAt,asIntOf,F6 hu,hb0,hb1,Cl ht]
 ·cases hθ:θ nm with
  | none=>
   have:=(h.chg.rel.arr nm _ _ _ _ ho').1 hθ;omega
  | some gc=>
   grind [Ux]
theorem Pm(BY:Kh I own θ w)(ab5:∀ b o,I b o->∃ u,w.cell? ⟨b,o,none⟩=some u)
  (ab0:∀ b o,I b o->w'.cell? ⟨b,o,none⟩=w.cell? ⟨b,o,none⟩)
  (hle:own nm=none\/∃ m f,own nm=some (.arr s e m f)/\m<=m'/\(m=m'->t'=θ nm))
  (ad4:∀ b,b<w.heap.size->(∀ c,own nm≠none->θ nm≠some (b,c))->w'.heap[b]?=w.heap[b]?)
  (hos:w'.os=w.os) (al1:w'.tape=w.tape) (ah2:w'.output=w.output) (al6:w.heap.size<=w'.heap.size)
  (af7:t'=none->m'=0)
  (ad1:∀ g c,t'=some (g,c)->∃ OF,w'.heap[g]?=some (.cells OF e (0,0))/\m'<=c/\c<=maxLen/\OF.size=c*s/\(∀ i,i<m'->(f' i).length=s) /\
   (∀ i j,i<m'->j<s->(OF.getD (i*s+j) undef).oneCell'=true/\((∀ v x,Rep I own θ w v x->Rep I (A5 own nm (.arr s e m' f')) (thUp θ nm t') w' v x)->Rep I (A5 own nm (.arr s e m' f')) (thUp θ nm t') w' (OF.getD (i*s+j) undef) ((f' i).getD j .any)))/\∀ j,¬ I g j)
  (hloc:∀ g c,t'=some (g,c)->w.heap.size<=g\/(own nm≠none/\∃ c',θ nm=some (g,c'))) (hdrw:w.drawn<=w'.drawn:=by first|exact zzL7 _|exact Nat.le_succ _) :
  Chg own θ I w (A5 own nm (.arr s e m' f')) (thUp θ nm t') I w':=by
 have ag8:∀ nm' o,own nm'=some o->∃ o',A5 own nm (.arr s e m' f') nm'=some o'/\OwnLe o (θ nm') o' (thUp θ nm t' nm'):=λnm' o ho=>by
  by_cases hne:nm'=nm
  ·subst hne;rcases hle with h|⟨m,f,h,h1,h2⟩
   ·grind
   ·rw[h]at ho;obtain rfl:=OI ho;exact⟨.arr s e m' f',by simp[A5],rfl,rfl,h1,λhe=>by grind [thUp]⟩
  grind [thUp,A5,OwnLe.refl]
 have No:∀ v x,Rep I own θ w v x->Rep I (A5 own nm (.arr s e m' f')) (thUp θ nm t') w' v x:=λv x h=>h.mono (λ_ _ h=>h) ab0 ag8;have ac2:∀ nm' g c,nm'≠nm->own nm'≠none->θ nm'=some (g,c)->∀ c',own nm≠none->θ nm≠some (g,c'):=λnm' g c hne ho hg c' ho' hg'=>hne (BY.inj nm' nm g c c' ho ho' hg hg');refine{ imm:=λ_ _ h=>h,cell:=ab0,le:=ag8,rel:=?_,valid:=λb o hi=>?_,os:=hos,tape:=al1,output:=ah2,drawn:=λ_=>hdrw,grow:=al6,frame:=λb hb hn=>ad4 b hb (λc ho hg=>hn nm c ho hg),new:=λnm' g c ho hg=>?_,immNew:=λb o h=>.inl h }
 ·refine Pi BY (·=nm) No (λnm' hne=>⟨by simp[A5,hne],by simp[thUp,hne]⟩) (λnm' g c hne ho hg=>⟨ad4 g (M5 BY ho hg) (ac2 nm' g c hne ho hg),λj hj=>hj⟩) ?_ ?_ ?_ (λ_ _ h h'=>h.trans h'.symm) ?_
  ·grind [A5]
  ·grind [A5]
  ·rintro nm' nm'' g c c' rfl hne _ ho' hg hg';rcases hloc g c (by grind [thUp]) with h|⟨h1,c'',h2⟩
   ·have:=M5 BY ho' hg';omega
   grind
  ·rintro nm' sz' e' m f rfl ho;simp only[A5,Nd,Ax,Own.arr.injEq]at ho;obtain⟨rfl,rfl,rfl,rfl⟩:=ho
   grind [thUp]
 ·grind
 grind [thUp,A5]
theorem IC{t:Option (Nat×Nat)}(h:θ nm=t):thUp θ nm t=θ:=by
 grind [thUp]
theorem V5(f:Nat->List AV)(i j:Nat)(cs:List AV):F4 f i j cs i=(f i).take j++cs++(f i).drop (j+cs.length):=by
 simp[F4]
theorem Zo(f:Nat->List AV){k:Nat}(cs:List AV)(h:k≠i):F4 f i j cs k=f k:=by
 grind [F4,Nat.beq,absurd,Ez]
theorem dj(h:Rel Γ σ I θ a w)(hd:∀ d,o.dst=some d->d<Γ.n)(ho:o.op = .store t x y)(ht:Dg P t=true){z:AV}
  (hx:Rep I σ.own θ w (a.eval x) (.vpt nm n i j)) (hy:Rep I σ.own θ w (a.eval y) z) (By:σ.own nm=some (.arr sz e m f)) (hn:n=m) (hc:z.cells=some cs) (hsz:cs.length=Bt P t) (hle:j+cs.length<=sz) :
  Hq P Γ σ o a w .undef [(nm,.arr sz e m (F4 f i j cs))]:=by
 obtain⟨g,c,OF,he,hg,hh,hi,hmc,hcm,hcs,hf,hr,hI⟩:=jk h By hx hn;have hcl:=Rl hc hy;have BY:=h.chg.rel
 have hvl:(a.eval y).cells.toList.length=cs.length:=by simp[hcl.size]
 have ac6:i*sz+j+cs.length<=OF.size:=by
  have:(i+1)*sz<=c*sz:=Hp _ (by omega);rw[Jl]at this;omega
 have hst:=run_storeCells_at P g (i*sz+j) e (a.eval y).cells.toList 0 OF w hh (by grind) hcl.all;simp only[W5]at hst
 have ac1:(execOp a.eval o).run P w = .ok .skip (w.setRow g (OF.toList.take (i*sz+j)++(a.eval y).cells.toList++OF.toList.drop (i*sz+j+(a.eval y).cells.toList.length)).toArray):=by
  have hn:¬ ((a.eval y).cells.size≠Bt P t):=by rw[hcl.size,hsz];simp
  simp only[execOp,ho,he,Instr.storeAt,Instr.sureAddr,Fh,Jv,Gz,storeVar,Cl ht,if_neg hn,hst]
 have ac2:∀ b,b≠g->(w.setRow g (OF.toList.take (i*sz+j)++(a.eval y).cells.toList++OF.toList.drop (i*sz+j+cs.length)).toArray).heap[b]?=w.heap[b]?:=λb hb=>setRow_other w g b _ hb;have hk:=Pm (w':=w.setRow g (OF.toList.take (i*sz+j)++(a.eval y).cells.toList++OF.toList.drop (i*sz+j+cs.length)).toArray) (t':=some (g,c)) (m':=m) (f':=F4 f i j cs) BY h.chg.valid (nm:=nm) (s:=sz) (e:=e)
  (λb k hi=>RG (a:=⟨b,k,none⟩) (ac2 b (by grind))) (.inr ⟨m,f,By,zzL7 _,λ_=>hg.symm⟩)
  (λb hb hn=>ac2 b (by grind)) rfl rfl rfl (by simp) (by simp) (λg' c' hgc=>?_) (λg' c' hgc=>?_)
 ·rw[IC hg]at hk;refine SS h hd (I':=I) (θ':=θ) ac1 ?_
  grind [Hd]
 ·simp only[Ax,P6]at hgc;obtain⟨rfl,rfl⟩:=hgc
  have ad3:∀ k,((OF.toList.take (i*sz+j)++(a.eval y).cells.toList++OF.toList.drop (i*sz+j+cs.length)).toArray).getD k undef=if i*sz+j<=k/\k<i*sz+j+cs.length then(a.eval y).cells.getD (k-(i*sz+j)) undef else OF.getD k undef:=λk=>by
   have:=Kb undef OF.toList (a.eval y).cells.toList (i*sz+j) k (by grind);rw[hvl]at this
   have e1:∀(l:List Value),(l.toArray).getD k undef=l.getD k undef:=λl=>by simp
   rw[e1,this]
   simp
  have hfl:∀ i',i'<m->(F4 f i j cs i').length=sz:=λi' hi'=>by
   by_cases hii:i'=i
   ·subst hii;have:=hf i' hi;rw[V5]
    grind
   grind [Zo]
  refine⟨_,setRow_heap w g OF _ e _ hh,hmc,hcm,by grind,hfl,λi' j' hi' hj'=>?_,hI⟩;rw[ad3]
  by_cases hii:i'=i
  ·subst hii;rw[V5];have hl:=hf i' hi
   by_cases hin:j<=j'/\j'<j+cs.length
   ·rw[if_pos (by omega)]
    have e1:i'*sz+j'-(i'*sz+j)=j'-j:=by omega
    rw[e1,Kb _ _ _ _ _ (by omega),if_pos hin];exact⟨hcl.one _ (by omega),λNo=>No _ _ (hcl.rep _ (by omega))⟩
   ·rw[if_neg (by omega),Kb _ _ _ _ _ (by omega),if_neg hin]
    grind
  ·have ah2:¬ (i*sz+j<=i'*sz+j'/\i'*sz+j'<i*sz+j+cs.length):=by
    rcases Nat.lt_or_gt_of_ne hii with hlt|hgt
    ·have:(i'+1)*sz<=i*sz:=Hp _ hlt
     grind
    ·have:(i+1)*sz<=i'*sz:=Hp _ hgt
     grind
   rw[if_neg ah2,Zo f cs hii]
   grind
 grind
theorem yB(h:Rel Γ σ I θ a w)(hd:∀ d,o.dst=some d->d<Γ.n)(ho:o.op = .makeSlice t x y)(hu:P.underlying t=some (.slice e))(ht:Dg P e=true){l c:Int}
  (hx:Rep I σ.own θ w (a.eval x) (.int k l)) (hy:Rep I σ.own θ w (a.eval y) (.int k' c))  (ad0:o.dst=some d) (hn:σ.own d=none)  (hz:GN P e=some z) (hs1:1<=Bt P e) (hzl:z.length=Bt P e)
  (hby:((P.info? e).map (·.bytes)).getD 1000<=128) (hb:0<=l/\l<=c/\c<=(room:Int)):Hq P Γ σ o a w (.vsl d l.toNat) [(d,.arr (Bt P e) e l.toNat (λ_=>z))]:=by
 obtain⟨i,v,hi,hv,h1,rfl⟩:=Ub hz;have hzc:=Ll (I:=I) (w:=w) (σ:=σ) (θ:=θ) h1
 have hsi:Bt P e=i.size:=by simp[Bt,hi]
 simp only[hi,Option.map_some,Option.getD_some]at hby
 have ab1:(room:Int)=1099511627776:=rfl;rw[ab1]at hb
 have hbytes:(i.bytes:Int)*c<=281474976710656:=by
  have h1:(i.bytes:Int)*c<=128*c:=Int.mul_le_mul_of_nonneg_right (by omega) (by omega);omega
 have hr:=run_make (P:=P) w t e i v hu hi hv k k' l c hb.1 hb.2.1 hbytes (by omega)
 have hsz:v.cells.size=Bt P e:=by simpa using hzl
 have al3:(madeCells v.cells (c.toNat*i.size)).size=c.toNat*i.size:=by simp[madeCells]
 have ad3:∀ i' j',i'<l.toNat->j'<Bt P e->(madeCells v.cells (c.toNat*i.size)).getD (i'*Bt P e+j') undef=v.cells.getD j' undef:=λi' j' hi' hj'=>by
  have hlt:=pos_lt (c:=c.toNat) hi' hj' (by omega)
  have hm:(i'*Bt P e+j') % v.cells.size=j':=by rw[hsz,Yn,Nat.mul_add_mod,Nat.mod_eq_of_lt hj']
  rw[<- hsi];simp only[madeCells,Vg,Array.getElem?_map]
  grind
 have hk:=Pm (w':=w.alloc (.cells (madeCells v.cells (c.toNat*i.size)) e)) (t':=some (w.heap.size,c.toNat)) (m':=l.toNat) (f':=λ_=>v.cells.toList.map AV.ofCell) (nm:=d) (s:=Bt P e) (e:=e) h.chg.rel h.chg.valid
  (λb o hi=>by obtain⟨u,hu⟩:=h.chg.valid b o hi;exact O2 _ hu) (.inl hn) (λb hb _=>UE w _ hb) rfl rfl rfl (by simp) (by simp) (λg c' hgc=>?_) (λg c' hgc=>?_)
 ·refine T5 h hd (v:=.slice (some ⟨w.heap.size,0,none⟩) l.toNat c.toNat) ?_ (by rw[Hd];exact hk) ?_
  ·have hx':=hx.int_inv;have hy':=hy.int_inv
   grind [Fh,Jv,Gz,execOp]
  ·rw[Hd];exact .vsl d (Bt P e) e l.toNat (λ_=>v.cells.toList.map AV.ofCell) (some ⟨w.heap.size,0,none⟩) l.toNat c.toNat (by simp[A5]) (zzL7 _) (by omega) (by grind [maxLen]) (by simp) (λ_=>by simp[thUp])
 ·simp only[Ax,P6]at hgc;obtain⟨rfl,rfl⟩:=hgc;refine⟨_,JF w _,by omega,by grind [maxLen],by grind,λ_ _=>hzl,λi' j' hi' hj'=>?_,λj hj=>?_⟩
  ·rw[ad3 i' j' hi' hj'];exact⟨hzc.one _ (by omega),λNo=>No _ _ (hzc.rep _ (by omega))⟩
  ·obtain⟨u,hu⟩:=h.chg.valid _ _ hj;exact GO _ (Sh hu)
 grind
theorem CO(h:Rel Γ σ I θ a w){i:TypeInfo}{z:Value}(ty:TypeId)(ht:P.underlying t=some (.slice e))(hi:P.info? e=some i)(hz:i.zero=some z)(hzs:z.cells.size=i.size)(hby:i.bytes<=128)
    {vs:Value} (hvx:RepV I w vx (.slice i.size n' f' .none)) (ab1:n+n'<=room) (nm:Nat)
  (ad7:(σ.own nm=none/\n=0/\∃ ad,vs = .slice ad 0 0)\/(σ.own nm=some (.arr i.size e n f)/\Rep I σ.own θ w vs (.vsl nm n))) :
  ∃ v w' θ',(Builtin.append_ #[t,t] ty #[vs,vx]).run P w = .ok v w'/\Chg σ.own θ I w (A5 σ.own nm (.arr i.size e (n+n') (Qi n f f'))) θ' I w' /\
   Rep I (A5 σ.own nm (.arr i.size e (n+n') (Qi n f f'))) θ' w' v (.vsl nm (n+n')):=by
 have BY:=h.chg.rel;have ab5:=h.chg.valid;obtain⟨bd,cap',cs',rfl,hcap',hmax',hnn',hl',h1',hf',hr',hc'⟩:=JU hvx;obtain⟨ad,cap,cs,rfl,IN,Is,hnn,hl,h1,hf,hr,hc,ae7⟩:∃(ad:Option Addr) (cap:Nat) (cs:List Value),vs = .slice ad n cap/\n<=cap/\cap<=maxLen/\(ad=none->cap=0)/\cs.length=n*i.size/\(∀ u∈cs,u.oneCell'=true) /\
   (∀ k,k<n->(f k).length=i.size)/\(∀ k c,k<n->c<i.size->Rep I σ.own θ w (cs.getD (k*i.size+c) undef) ((f k).getD c .any))/\(0<n->∃ b,ad=some b/\∀ j u,cs[j]?=some u->w.cell? (b.add j)=some u) /\
   ((cap=0/\(σ.own nm=none\/(θ nm=none/\σ.own nm=some (.arr i.size e n f)))) \/
    ∃ g OF,σ.own nm=some (.arr i.size e n f)/\θ nm=some (g,cap)/\ad=some ⟨g,0,none⟩/\w.heap[g]?=some (.cells OF e (0,0))/\OF.size=cap*i.size/\cs=OF.toList.take (n*i.size)/\∀ j,¬ I g j):=by
  rcases ad7 with⟨hno,rfl,ad,rfl⟩|⟨By,ab8⟩
  ·exact⟨ad,0,[],rfl,by omega,by simp,λ_=>rfl,by simp,by simp,λk hk=>by omega,λk c hk=>by omega,λh=>by omega,.inl ⟨rfl,.inl hno⟩⟩
  ·obtain⟨sz,e2,m,f2,ad,cap,rfl,ho,hm,IN,Is,hn,hv⟩:=ab8.vsl_inv;rw[By]at ho;simp only[Ax,Own.arr.injEq]at ho;obtain⟨rfl,rfl,rfl,rfl⟩:=ho;have hv:=hv rfl;obtain⟨k1,k2⟩:=BY.arr nm _ _ _ _ By
   cases hθ:θ nm with
   | none=>
    rw[hθ]at hv;simp only at hv;have hn0:=k1 hθ;subst hn0;exact⟨ad,cap,[],rfl,IN,Is,hn,by simp,by simp,λk hk=>by omega,λk c hk=>by omega,λh=>by omega,.inl ⟨hv,.inr ⟨rfl,By⟩⟩⟩
   | some gc=>
    obtain⟨g,c⟩:=gc;rw[hθ]at hv;simp only at hv;obtain⟨rfl,rfl⟩:=hv;obtain⟨OF,q1,q2,q3,q4,q5,q6,q7⟩:=k2 g cap hθ
    have hle:n*i.size<=OF.size:=by rw[q4];exact Hp _ q2
    have hcl:(OF.toList.take (n*i.size)).length=n*i.size:=by simp;omega
    have hg:∀ j,j<n*i.size->(OF.toList.take (n*i.size)).getD j undef=OF.getD j undef:=λj hj=>by
     grind [Vg]
    refine⟨some ⟨g,0,none⟩,cap,OF.toList.take (n*i.size),rfl,IN,Is,(by simp),hcl,λu hu=>?_,q5,λk c hk hc=>?_,λ_=>⟨_,rfl,λj u hu=>?_⟩,.inr ⟨g,OF,By,rfl,rfl,q1,q4,rfl,q7⟩⟩
    ·obtain⟨j,hj,rfl⟩:=List.mem_iff_getElem.1 hu;rw[hcl]at hj;have e1:=hg j hj;rw[List.getD,RF (by omega)]at e1;simp only[Option.getD_some]at e1;rw[e1]
     have hs:0<i.size:=by
      rcases zzL81 i.size with h0|h0
      ·rw[h0]at hj;omega
      ·exact h0
     have e2:j / i.size*i.size+j % i.size=j:=by rw[Yn];exact NE j i.size
     grind [XJ,Yp]
    ·grind [pos_lt]
    ·have hj:j<n*i.size:=by
      rcases zzL119 j (n*i.size) with h'|h'
      ·exact h'
      ·rw[List.getElem?_eq_none (by omega)]at hu;cases hu
     rw[Ux,Ke,Ot w g _ OF e (0,0) q1]
     grind
 have ac1:=GE (P:=P) (w:=w) (n:=n) (cap:=cap) (n':=n') (cap':=cap') (ad:=ad) (bd:=bd) ty ht hi hz hl hl' IN hnn h1' hc
  (λhp=>by grind) ab1 hby
 obtain⟨r0,r1,r2⟩:=ac1
 have hmaxr:n+n'<=maxLen:=by unfold room at ab1;unfold maxLen;omega
 have happ:∀ k,k<n+n'->(Qi n f f' k).length=i.size:=λk hk=>by
  grind [Se,Xh]
 have IT:(cs++cs').length=(n+n')*i.size:=by rw[He,hl,hl',Jl]
 have al7:∀ k c,k<n+n'->c<i.size->((cs++cs').getD (k*i.size+c) undef).oneCell'=true/\(∀{it:Nat->Option Own} {θ':Nat->Option (Nat×Nat)} {w':World},(∀ v x,Rep I σ.own θ w v x->Rep I it θ' w' v x)->
   Rep I it θ' w' ((cs++cs').getD (k*i.size+c) undef) ((Qi n f f' k).getD c .any)):=λk c hk hc=>by
  have hm:(cs++cs').getD (k*i.size+c) undef∈cs++cs':=by
   have:=pos_lt hk hc (zzL7 _);rw[List.getD,RF (by omega)];exact PE _
  refine⟨(zzL8.1 hm).elim (h1 _) (h1' _),λNo=>?_⟩
  by_cases hlt:k<n
  ·rw[Se _ _ hlt];have:=pos_lt hlt hc (zzL7 n)
   grind
  ·rw[Xh _ _ (by omega)];have h2:n*i.size<=k*i.size:=Hp _ (by omega)
   have e:(cs++cs').getD (k*i.size+c) undef=cs'.getD ((k-n)*i.size+c) undef:=by
    rw[List.getD,X2 (by omega),hl,Nat.sub_mul]
    congr 2
    omega
   rw[e];exact No _ _ (.val _ _ (hr' (k-n) c (by omega) hc))
 by_cases hz':n'=0
 ·subst hz';rcases ae7 with⟨rfl,hno⟩|⟨g,OF,By,hθ,rfl,hh,hcs,hcc,hI⟩
  ·have hn0:n=0:=by omega
   subst hn0
   have hk:=Pm (w':=w) (t':=none) (m':=0+0) (f':=Qi 0 f f') (nm:=nm) (s:=i.size) (e:=e) BY ab5 (λ_ _ _=>rfl) (by
    grind) (λ_ _ _=>rfl) rfl rfl rfl (zzL7 _) (λ_=>rfl) (by simp) (by simp)
   exact⟨_,w,_,r0 rfl,hk,.vsl nm i.size e 0 (Qi 0 f f') ad 0 0 (by simp[A5]) (zzL7 _) (zzL7 _) Is hnn (λ_=>by simp[thUp])⟩
  ·have hk:=Pm (w':=w) (t':=some (g,cap)) (m':=n+0) (f':=Qi n f f') (nm:=nm) (s:=i.size) (e:=e) BY ab5 (λ_ _ _=>rfl) (.inr ⟨n,f,By,by omega,λ_=>hθ.symm⟩) (λ_ _ _=>rfl) rfl rfl rfl (zzL7 _) (by simp)
    (λg' c' hgc=>?_) (λg' c' hgc=>?_)
   ·exact⟨_,w,_,r0 rfl,hk,.vsl nm i.size e (n+0) (Qi n f f') (some ⟨g,0,none⟩) n cap (by simp[A5]) (zzL7 _) IN Is hnn (λ_=>by simp[thUp])⟩
   ·simp only[Ax,P6]at hgc;obtain⟨rfl,rfl⟩:=hgc;refine⟨OF,hh,IN,Is,hcs,happ,λk c hk hc=>?_,hI⟩
    have hk':k<n:=by omega
    have:=al7 k c hk hc
    have e:(cs++cs').getD (k*i.size+c) undef=OF.getD (k*i.size+c) undef:=by
     have:=pos_lt hk' hc (zzL7 n);rw[List.getD,W0 (by omega),hcc];simp only[List.getElem?_take,this,Nd,Vg,Array.getElem?_toList]
    grind
   grind
 ·have hp:0<n':=Nat.pos_of_ne_zero hz'
  by_cases hg:cap<n+n'
  ·
   obtain⟨zs,nc,hnc,hnc',hzsz,ac1⟩:=r2 hp hg;have ak4:(w.drew.alloc (.cells (cs.toArray++cs'.toArray++zs) e)).heap[w.heap.size]?=some (.cells (cs.toArray++cs'.toArray++zs) e (0,0)):=JF w.drew _;have hk:=Pm (w':=w.drew.alloc (.cells (cs.toArray++cs'.toArray++zs) e)) (t':=some (w.heap.size,nc)) (m':=n+n') (f':=Qi n f f') (nm:=nm) (s:=i.size) (e:=e) BY ab5
    (λb o hi=>by obtain⟨u,hu⟩:=ab5 b o hi;exact O2 (w:=w.drew) _ (by trivial))
    (by
     grind)
    (λb hb _=>UE w.drew _ hb) rfl rfl rfl (by simp) (by simp) (λg' c' hgc=>?_) (λg' c' hgc=>?_)
   ·exact⟨_,_,_,ac1,hk,.vsl nm i.size e (n+n') (Qi n f f') (some ⟨w.heap.size,0,none⟩) (n+n') nc (by simp[A5]) (zzL7 _) hnc hnc' (by simp) (λ_=>by simp[thUp])⟩
   ·simp only[Ax,P6]at hgc;obtain⟨rfl,rfl⟩:=hgc;refine⟨_,ak4,hnc,hnc',?_,happ,λk c hk hc=>?_,λj hj=>?_⟩
    ·simp only[Array.size_append,List.size_toArray,hl,hl',hzsz,hzs,<- Jl]
     grind
    ·have:=al7 k c hk hc;have hlt:=pos_lt hk hc (zzL7 (n+n'))
     have e1:(cs.toArray++cs'.toArray++zs).getD (k*i.size+c) undef=(cs++cs').getD (k*i.size+c) undef:=by
      rw[Vg,Array.getElem?_append_left (by grind)]
      have:cs.toArray++cs'.toArray=(cs++cs').toArray:=by simp
      rw[this];simp[List.getD]
     grind
    ·obtain⟨u,hu⟩:=ab5 _ _ hj;exact GO _ (Sh hu)
   grind
  ·
   rcases ae7 with⟨rfl,_⟩|⟨g,OF,By,hθ,rfl,hh,hcs,hcc,hI⟩
   ·omega
   ·have ac6:n*i.size+cs'.length<=OF.size:=by rw[hl',hcs,<- Jl];exact Hp _ (by omega)
    have ac1:=r1 hp (by omega) g OF 0 rfl hh (DD _) ac6;have ac2:∀ b,b≠g->(w.setRow g (OF.toList.take (n*i.size)++cs'++OF.toList.drop (n*i.size+cs'.length)).toArray).heap[b]?=w.heap[b]?:=λb hb=>setRow_other w g b _ hb;have aj2:=setRow_heap w g OF (OF.toList.take (n*i.size)++cs'++OF.toList.drop (n*i.size+cs'.length)).toArray e _ hh
    have al3:(OF.toList.take (n*i.size)++cs'++OF.toList.drop (n*i.size+cs'.length)).length=OF.size:=by
     simp only[He,ND,GR,XE];omega
    have hk:=Pm (w':=w.setRow g (OF.toList.take (n*i.size)++cs'++OF.toList.drop (n*i.size+cs'.length)).toArray) (t':=some (g,cap)) (m':=n+n') (f':=Qi n f f') (nm:=nm) (s:=i.size) (e:=e) BY ab5
     (λb k hi=>RG (a:=⟨b,k,none⟩) (ac2 b (by grind))) (.inr ⟨n,f,By,by omega,λhe=>by omega⟩)
     (λb hb hn=>ac2 b (by grind)) rfl rfl rfl (by simp) (by simp) (λg' c' hgc=>?_) (λg' c' hgc=>?_)
    ·exact⟨_,_,_,ac1,hk,.vsl nm i.size e (n+n') (Qi n f f') (some ⟨g,0,none⟩) (n+n') cap (by simp[A5]) (zzL7 _) (by omega) Is (by simp) (λ_=>by simp[thUp])⟩
    ·simp only[Ax,P6]at hgc;obtain⟨rfl,rfl⟩:=hgc;refine⟨_,aj2,by omega,Is,by grind,happ,λk c hk hc=>?_,hI⟩;have:=al7 k c hk hc;have hlt:=pos_lt hk hc (zzL7 (n+n'))
     have e1:((OF.toList.take (n*i.size)++cs'++OF.toList.drop (n*i.size+cs'.length)).toArray).getD (k*i.size+c) undef=(cs++cs').getD (k*i.size+c) undef:=by
      rw[Xm,<- hcc,List.getD,W0 (by omega)]
      rfl
     grind
    grind
end
section
variable {P:Program} {Γ:Ip} {σ:Sto} {I:Nat->Nat->Prop} {θ:Nat->Option (Nat×Nat)} {a:Act} {w:World} {o:Oper}
theorem ST:∀(ps:List (Nat×Operand)) (vs:List AV),RepL I σ.own θ w (ps.map λp=>a.eval p.2) vs->Xg I σ.own θ w (ps.map λp=>(p.1,a.eval p.2)) ((ps.map (·.1)).zip vs)
 | [],_,h=>by  exact .nil
 | p::ps,_,h=>by cases h with|cons h t=>exact .cons h (ST ps _ t)
theorem jl(h:Rel Γ σ I θ a w)(hd:∀ d,o.dst=some d->d<Γ.n){vs:List AV}(hvs:RepL I σ.own θ w (o.op.operands.toList.map a.eval) vs){es:List (Option Own)}(hes:es=(J9 o vs).map σ.own)
  {e:Eff} (he:Aa0 P o vs es=some e) (hob:∀ p∈e.ob,p):Hq P Γ σ o a w e.v e.wo:=by
 unfold Aa0 at he
 split at he
 ·
  rename_i x ho
  simp only[ho,Op.operands,Db,K8]at hvs;obtain⟨y,rfl,hy⟩:=hvs.one;simp only[Eff.pure,Ax]at he;subst he;exact nC h hd x (.inl ho) hy
 ·rename_i x ho
  simp only[ho,Op.operands,Db,K8]at hvs;obtain⟨y,rfl,hy⟩:=hvs.one;simp only[Eff.pure,Ax]at he;subst he;exact nC h hd x (.inr ho) hy
 ·
  rename_i op xt x y yt ho
  simp only[ho,Op.operands,Db,K8]at hvs;obtain⟨u,v,rfl,hu,hv⟩:=hvs.two;obtain⟨hw,r,hr,ac1⟩:=fT (P:=P) he hob hu hv x y;rw[hw];refine Bv h hd (v:=r) ?_ (.val _ _ hr);simp only[Fh]at ac1;simp only[execOp,ho,Fh,Jv];rw[ac1]
  rfl
 ·rename_i op xt x ho
  simp only[ho,Op.operands,Db,K8]at hvs;obtain⟨u,rfl,hu⟩:=hvs.one;obtain⟨hw,r,hr,ac1⟩:=oX (P:=P) he hu;rw[hw];refine Bv h hd (v:=r) ?_ (.val _ _ hr);simp only[execOp,ho,Fh,Jv,ac1,Gz]
 ·
  rename_i src dst x ho
  simp only[ho,Op.operands,Db,K8]at hvs;obtain⟨u,rfl,hu⟩:=hvs.one
  split at he
  ·rename_i k0 k k' n hs ht hv
   simp only[Hg,Ih]at hv;subst hv;simp only[Eff.pure,Ax]at he;subst he;exact VH h hd ho hs ht hu
  ·simp at he
 ·
  rename_i t x ho
  simp only[ho,Op.operands,Db,K8]at hvs;obtain⟨u,rfl,hu⟩:=hvs.one
  cases hT:Dg P t with
  | false=>simp[hT]at he
  | true=>
   simp only[hT,Ah]at he
   split at he
   ·rename_i nm off e0 cells hv
    simp only[Hg,Ih]at hv;subst hv
    have By:σ.own nm=some (.row e0 cells):=by simpa [J9,ho] using hes.symm
    obtain⟨l1,l2⟩:=g9 (P:=P) h hd ho hT hu By
    cases ab7:F8 P t with
    | true=>
     simp only[ab7,Ah]at he
     cases hb:Nat.ble (off+Bt P t) cells.length with
     | false=>simp[hb]at he
     | true=>
      simp only[hb,Ah,Eff.pure,Ax]at he;subst he;exact l1 ab7 (N9 hb)
    | false=>
     simp only[ab7,Ar]at he
     cases hb:Nat.blt off cells.length with
     | false=>simp[hb]at he
     | true=>
      simp only[hb,Ah,Eff.pure,Ax]at he;subst he;exact l2 ab7 (by simpa [Nc] using hb)
   ·rename_i cells hv
    simp only[Hg,Ih]at hv;subst hv;obtain⟨l1,l2⟩:=di (P:=P) h hd ho hT hu
    cases ab7:F8 P t with
    | true=>
     simp only[ab7,Ah]at he
     cases hb:Nat.beq (Bt P t) cells.length with
     | false=>simp[hb]at he
     | true=>
      simp only[hb,Ah,Eff.pure,Ax]at he;subst he;exact l1 ab7 (Ez hb)
    | false=>
     simp only[ab7,Ar]at he
     cases hb:Nat.ble 1 cells.length with
     | false=>simp[hb]at he
     | true=>
      simp only[hb,Ah,Eff.pure,Ax]at he;subst he;exact l2 ab7 (N9 hb)
   ·simp at he
 ·
  rename_i t x y ho
  simp only[ho,Op.operands,Db,K8]at hvs;obtain⟨u,v,rfl,hu,hv⟩:=hvs.two
  cases hT:Dg P t with
  | false=>simp[hT]at he
  | true=>
   simp only[hT,Ah]at he
   split at he
   ·rename_i nm off z e0 cells hvv
    simp only[Hg,Ih]at hvv;obtain⟨rfl,rfl⟩:=hvv
    have By:σ.own nm=some (.row e0 cells):=by simpa [J9,ho] using hes.symm
    split at he
    ·rename_i cs hc
     cases hb:(Nat.beq cs.length (Bt P t)&&Nat.ble (off+cs.length) cells.length) with
     | false=>simp[hb]at he
     | true=>
      simp only[hb,Ah,Ax]at he;subst he;simp only[Az]at hb;exact tZ h hd ho hT hu hv By hc (Ez hb.1) (N9 hb.2)
    ·simp at he
   ·simp at he
 ·
  rename_i s x f ho
  simp only[ho,Op.operands,Db,K8]at hvs;obtain⟨u,rfl,hu⟩:=hvs.one
  split at he
  ·rename_i ab6 hs
   split at he
   ·rename_i fd hf
    cases hb:(Dg P fd.type&&Nat.ble 1 (Bt P fd.type)) with
    | false=>simp[hb]at he
    | true=>
     simp only[hb,Ah]at he;simp only[Az]at hb;obtain⟨l1,l2⟩:=dc (P:=P) h hd ho hs hf hb.1 (N9 hb.2)
     split at he
     ·rename_i nm off hv
      simp only[Hg,Ih]at hv;subst hv;simp only[Eff.pure,Ax]at he;subst he;exact l1 nm off hu
     ·rename_i cells hv
      simp only[Hg,Ih]at hv;subst hv
      cases hb2:Nat.ble (fd.offset+Bt P fd.type) cells.length with
      | false=>simp[hb2]at he
      | true=>
       simp only[hb2,Ah,Eff.pure,Ax]at he;subst he;exact l2 cells hu (N9 hb2)
     ·simp at he
   ·simp at he
  ·simp at he
 ·
  rename_i s x f ho
  simp only[ho,Op.operands,Db,K8]at hvs;obtain⟨u,rfl,hu⟩:=hvs.one
  split at he
  ·rename_i ab6 cs hs hv
   simp only[Hg,Ih]at hv;subst hv
   split at he
   ·rename_i fd hf
    split at he
    ·rename_i y hp
     simp only[Eff.pure,Ax]at he;subst he;exact tR h hd ho hs hf hu hp
    ·simp at he
   ·simp at he
  ·simp at he
 ·
  rename_i t x i ho
  simp only[ho,Op.operands,Db,K8]at hvs;obtain⟨u,v,rfl,hu,hv⟩:=hvs.two
  split at he
  ·rename_i e0 sz n f tag k j hun hvv
   simp only[Hg,Ih]at hvv;obtain⟨rfl,rfl⟩:=hvv
   cases hb:(Dg P e0&&(Nat.beq sz (Bt P e0) || Nat.beq n 0)) with
   | false=>simp[hb]at he
   | true=>
    simp only[hb,Ah,Eff.pure,Ax]at he;subst he;simp only[Az]at hb;exact VI h hd ho hun hb.1 hu hv (SB (by simpa using hb.2)) (hob _ (by simp))
  ·rename_i len e0 nm off k j hun hvv
   simp only[Hg,Ih]at hvv;obtain⟨rfl,rfl⟩:=hvv
   cases hb:Dg P e0 with
   | false=>simp[hb]at he
   | true=>
    simp only[hb,Ah,Eff.pure,Ax]at he;subst he;exact(FW (P:=P) h hd ho hun hb hv (hob _ (by simp))).1 nm off hu
  ·rename_i len e0 cells k j hun hvv
   simp only[Hg,Ih]at hvv;obtain⟨rfl,rfl⟩:=hvv
   cases hb:(Dg P e0&&Nat.beq cells.length (len*Bt P e0)) with
   | false=>simp[hb]at he
   | true=>
    simp only[hb,Ah,Eff.pure,Ax]at he;subst he;simp only[Az]at hb;exact(FW (P:=P) h hd ho hun hb.1 hv (hob _ (by simp))).2 cells hu (Ez hb.2)
  ·simp at he
 ·
  rename_i t x i ho
  simp only[ho,Op.operands,Db,K8]at hvs;obtain⟨u,v,rfl,hu,hv⟩:=hvs.two
  split at he
  ·rename_i len e0 cs k j hun hvv
   simp only[Hg,Ih]at hvv;obtain⟨rfl,rfl⟩:=hvv
   cases hb:(Dg P e0&&!F8 P e0&&Nat.beq (Bt P e0) 1&&Nat.beq cs.length len) with
   | false=>
    rw[hb,Ar]at he
    cases hb2:(Dg P e0&&F8 P e0&&Nat.beq cs.length (len*Bt P e0)) with
    | false=>simp[hb2]at he
    | true=>
     simp only[hb2,Ah,Eff.pure,Ax]at he;subst he;simp only[Az]at hb2;exact df h hd ho hun hb2.1.1 hb2.1.2 (Ez hb2.2) hv (hob _ (by simp)) hu
   | true=>
    simp only[hb,Ah,Eff.pure,Ax]at he;subst he;simp only[Az,Qr]at hb;exact VJ h hd ho hun hb.1.1.1 hb.1.1.2 (Ez hb.1.2) (Ez hb.2) hv (hob _ (by simp)) hu
  ·simp at he
 ·
  rename_i x ix ho
  simp only[ho,Op.operands,Db,K8]at hvs;obtain⟨u,rfl,hu⟩:=hvs.one
  split at he
  ·rename_i xs hv
   simp only[Hg,Ih]at hv;subst hv
   cases hb:Nat.blt ix xs.length with
   | false=>simp[hb]at he
   | true=>
    simp only[hb,Ah,Eff.pure,Ax]at he;subst he;exact kd h hd ho hu (by simpa [Nc] using hb)
  ·simp at he
 ·
  rename_i x ho
  simp only[ho,Op.operands,Db,K8]at hvs;obtain⟨u,rfl,hu⟩:=hvs.one
  split at he
  ·rename_i nm off hv
   simp only[Hg,Ih]at hv;subst hv;simp only[Eff.pure,Ax]at he;subst he;exact(QU (P:=P) h hd ho).1 nm off hu
  ·rename_i cs hv
   simp only[Hg,Ih]at hv;subst hv;simp only[Eff.pure,Ax]at he;subst he;exact(QU (P:=P) h hd ho).2 cs hu
  ·simp at he
 ·
  rename_i t ho
  split at he
  ·rename_i d z ad0 hz
   cases hb:Dg P t with
   | false=>simp[hb]at he
   | true=>
    simp only[hb,Ah,Ax]at he;subst he;exact tO h hd ad0 (by simpa [J9,ho,ad0] using hes.symm) ho hz
  ·simp at he
 ·
  rename_i t x ho
  simp only[ho,Op.operands,Db,K8]at hvs;obtain⟨u,rfl,hu⟩:=hvs.one
  split at he
  ·rename_i d y ad0 hv
   simp only[Hg,Ih]at hv;subst hv
   split at he
   ·rename_i cs hc
    simp only[Ax]at he;subst he;exact Ab0 h hd ad0 (by simpa [J9,ho,ad0] using hes.symm) ho hu hc
   ·simp at he
  ·simp at he
 ·
  rename_i t ac4 ho
  have ae5:RepL I σ.own θ w (ac4.toList.map λp=>a.eval p.2) vs:=by
   simpa [ho,Op.operands,List.map_map,KM] using hvs
  obtain⟨hw,hok⟩:=tP (P:=P) h hd ho (ST _ _ ae5) he;rw[hw];exact hok
 ·rename_i t len ac4 ho
  have ae5:RepL I σ.own θ w (ac4.toList.map λp=>a.eval p.2) vs:=by
   simpa [ho,Op.operands,List.map_map,KM] using hvs
  obtain⟨hw,hok⟩:=ah (P:=P) h hd ho (ST _ _ ae5) he;rw[hw];exact hok
 ·
  rename_i t x lo hi mx ho
  have ae5:RepL I σ.own θ w ([a.eval x]++(lo.map a.eval).toList++(hi.map a.eval).toList++(mx.map a.eval).toList) vs:=by
   have e:o.op.operands.toList.map a.eval=[a.eval x]++(lo.map a.eval).toList++(hi.map a.eval).toList++(mx.map a.eval).toList:=by
    rw[ho];cases lo<;>cases hi<;>cases mx<;>simp[Op.operands]
   rwa[e]at hvs
  obtain⟨hw,hok⟩:=tY (P:=P) h hd ho ae5 he hob;rw[hw];exact hok
 ·
  rename_i args ts ho
  split at he
  ·rename_i t hts
   have ae2:∀ u,vs=[u]->∃ x,args.toList=[x]/\Rep I σ.own θ w (a.eval x) u:=λu hu=>by
    subst hu
    have:o.op.operands.toList.map a.eval=args.toList.map a.eval:=by rw[ho];simp[Op.operands,Call.operands]
    rw[this]at hvs
    cases hl:args.toList with
    | nil=>rw[hl]at hvs;cases hvs
    | cons x l=>
     rw[hl]at hvs
     cases hvs with|cons h t=>cases l with
      | nil=>exact⟨x,rfl,h⟩
      | cons _ _=>cases t
   split at he
   ·rename_i e0 sz n f tag hun
    obtain⟨x,hx,hr⟩:=ae2 _ rfl;simp only[Eff.pure,Ax]at he;subst he;exact(tX (P:=P) h hd ho hx hts).1 _ _ _ _ _ hun hr
   ·rename_i n e0 y hun
    obtain⟨x,hx,hr⟩:=ae2 _ rfl;simp only[Eff.pure,Ax]at he;subst he;exact(tX (P:=P) h hd ho hx hts).2.2 _ _ hun
   ·simp at he
  ·simp at he
 ·
  rename_i args ts ho
  split at he
  ·rename_i k m k' n
   simp only[Eff.pure,Ax]at he;subst he
   have:o.op.operands.toList.map a.eval=args.toList.map a.eval:=by rw[ho];simp[Op.operands,Call.operands]
   rw[this]at hvs
   cases hl:args.toList with
   | nil=>rw[hl]at hvs;cases hvs
   | cons x l=>
    rw[hl]at hvs
    cases hvs with|cons h1 t=>cases l with
     | nil=>cases t
     | cons y l'=>cases t with|cons h2 t'=>cases l' with
      | nil=>exact Ab2 h hd ho hl h1 h2
      | cons _ _=>cases t'
  ·simp at he
 ·
  rename_i args ts ho
  split at he
  ·rename_i d ad0
   have:o.op.operands.toList.map a.eval=args.toList.map a.eval:=by rw[ho];simp[Op.operands,Call.operands]
   rw[this]at hvs
   cases hl:args.toList with
   | nil=>
    rw[hl]at hvs;cases hvs;unfold HF at he
    split at he<;>simp_all
   | cons x l=>
    cases l with
    | nil=>
     rw[hl]at hvs;obtain⟨u,rfl,_⟩:=hvs.one;unfold HF at he
     split at he<;>simp_all
    | cons y l'=>
     cases l' with
     | nil=>rw[hl]at hvs;exact pX h hd ho hl hvs hes ad0 he hob
     | cons z l''=>
      rw[hl]at hvs
      cases hvs with|cons h1 t=>cases t with|cons h2 t=>cases t with|cons h3 t=>
      unfold HF at he
      split at he<;>simp_all
  ·simp at he
 ·simp at he
end
section
variable {P:Program} {Γ:Ip} {σ:Sto} {I:Nat->Nat->Prop} {θ:Nat->Option (Nat×Nat)} {a:Act} {w:World} {o:Oper}
theorem Ww(h:Rel Γ σ I θ a w){x:AV}(hv:x.view=some (nm,n,lo,hi))(hx:Rep I σ.own θ w v x):∃ sz e m f ad cap,v = .slice ad (hi-lo) cap/\σ.own nm=some (.arr sz e m f)/\n<=m/\lo<=hi/\hi<=n/\hi-lo<=cap/\cap<=maxLen/\(ad=none->cap=0) /\
  (n=m->cr (θ nm) n lo hi sz e ad cap):=by
 cases x<;>simp[AV.view]at hv
 case vsl nm' n'=>
  obtain⟨rfl,rfl,rfl,rfl⟩:=hv;obtain⟨sz,e,m,f,ad,cap,rfl,ho,hm,IN,Is,hn,hvv⟩:=hx.vsl_inv;refine⟨sz,e,m,f,ad,cap,by simp,ho,hm,DD _,zzL7 _,by omega,Is,hn,λhnm=>⟨λhlt=>?_,λ_=>?_⟩⟩
  rotate_left
  ·grind
  cases hθ:θ nm' with
  | none=>have:=(h.chg.rel.arr nm' _ _ _ _ ho).1 hθ;omega
  | some gc=>
   grind
 case vsub nm' n' lo' hi'=>
  obtain⟨rfl,rfl,rfl,rfl⟩:=hv;obtain⟨sz,e,m,f,ad,cap,rfl,ho,hm,h1,h2,IN,Is,hn,hvv⟩:=hx.vsub_inv;exact⟨sz,e,m,f,ad,cap,rfl,ho,hm,h1,h2,IN,Is,hn,hvv⟩
theorem HY{k:Nat}(h:0<k->∃ b,ad=some b/\b.spot=none/\∀ j,j<k*sz->w.cell? ⟨b.block,b.off+j,none⟩=some (us j)) :
  (Builtin.firstCells sz k (.slice ad n cap)).run P w = .ok ((List.range (k*sz)).map us).toArray w:=by
 rcases zzL81 k with rfl|hk
 ·cases ad with
  | none=>simp[Builtin.firstCells]
  | some b=>simp[Builtin.firstCells,loadCells,loadCellsFrom]
 ·obtain⟨b,rfl,hs,hc⟩:=h hk
  show(loadCells b _).run P w=_
  refine run_loadCells_list  (w:=w) b ((List.range _).map us) (λj v hj=>?_) |>.trans ?_ |> λh=>by simpa using h
  ·rw[List.getElem?_map]at hj
   by_cases hlt:j<k*sz
   ·rw[List.getElem?_range hlt]at hj;simp only[Option.map_some,Ax]at hj;subst hj;rw[O0 hs];exact hc j hlt
   ·grind
  ·rfl
structure qz(P:Program)(I:Nat->Nat->Prop)(own:Nat->Option Own)(θ:Nat->Option (Nat×Nat))(w:World)(sz k:Nat)(v:Value)(g:Nat->List AV)(cs:List Value):Prop where
 run:(Builtin.firstCells sz k v).run P w = .ok cs.toArray w
 len:cs.length=k*sz
 one:∀ u∈cs,u.oneCell'=true
 rep:∀ i c,i<k->c<sz->Rep I own θ w (cs.getD (i*sz+c) undef) ((g i).getD c .any)
 wid:∀ i,i<k->(g i).length=sz
theorem dq{k:Nat}(hi:i<k)(hj:j<sz):i*sz+j<k*sz:=pos_lt hi hj (zzL7 k)
theorem yV{k:Nat}(hk:k<=n)(hsz:sz'=sz\/n=0)(h:RepV I w v (.slice sz' n f .none)):∃ cs,qz P I σ.own θ w sz k v f cs:=by
 obtain⟨_,ad,cap,us,rfl,IN,Is,hz,hn,h1,hl,hr⟩:=h.slice_inv
 by_cases hk0:k=0
 ·subst hk0;exact⟨[],by simpa using HY   (us:=us) (k:=0) (λh=>by omega),by simp,by simp,λi c hi=>by omega,λi hi=>by omega⟩
 ·obtain rfl:sz'=sz:=by omega
  obtain⟨b,rfl,hs,hI,hc⟩:=hz (by omega);have hle:k*sz'<=n*sz':=Hp _ hk;refine⟨(List.range _).map us,HY (λ_=>⟨b,rfl,hs,λj hj=>hc j (by omega)⟩),by simp,λu hu=>?_,λi c hi hcc=>?_,λi hi=>hl i (by omega)⟩
  ·grind
  ·rw[NY _ _ _ (dq hi hcc)];exact .val _ _ (hr i c (by omega) hcc)
theorem uL(h:Rel Γ σ I θ a w){x:AV}{k:Nat}(hv:x.view=some (nm,n,lo,hi))(hx:Rep I σ.own θ w v x)(By:σ.own nm=some (.arr sz e m f))(hn:n=m)(hk:k<=hi-lo) :
  ∃ cs,qz P I σ.own θ w sz k v (λi=>f (lo+i)) cs:=by
 obtain⟨sz',e',m',f',ad,cap,rfl,ho,hm,hlo,hhi,IN,Is,hnn,hvv⟩:=Ww h hv hx;rw[By]at ho;simp only[Ax,Own.arr.injEq]at ho;obtain⟨rfl,rfl,rfl,rfl⟩:=ho
 by_cases hk0:k=0
 ·subst hk0;exact⟨[],by simpa using HY (P:=P) (w:=w) (us:=λ_=>undef) (k:=0) (λh=>by omega),by simp,by simp,λi c hi=>by omega,λi hi=>by omega⟩
 ·obtain⟨g,c,hg,rfl⟩:=(hvv hn).1 (by omega);obtain⟨OF,q1,q2,q3,q4,q5,q6,q7⟩:=(h.chg.rel.arr nm _ _ _ _ By).2 g c hg
  have ac6:∀ j,j<k*sz->lo*sz+j<c*sz:=λj hj=>by
   have:(lo+k)*sz<=c*sz:=Hp _ (by omega);rw[Jl]at this;omega
  refine⟨(List.range (k*sz)).map λj=>OF.getD (lo*sz+j) undef,HY (λ_=>⟨_,rfl,rfl,λj hj=>?_⟩),by simp,λu hu=>?_,λi c' hi hcc=>?_,λi hi=>q5 _ (by omega)⟩
  ·rw[Ot w g _ OF e (0,0) q1];exact O1 (by rw[q4];exact ac6 j hj)
  ·obtain⟨j,hj,rfl⟩:=zzL16.1 hu;have hj:=zzL41.1 hj
   have hs:0<sz:=by
    rcases zzL81 sz with h0|h0
    ·rw[h0]at hj;omega
    ·exact h0
   have e1:lo*sz+j=(lo+j / sz)*sz+j % sz:=by
    rw[Jl,DC]
    congr 1
    rw[Yn];exact(NE j sz).symm
   have e2:j / sz<k:=Nat.div_lt_of_lt_mul (by rw[Yn];exact hj);rw[e1];exact(q6 (lo+j / sz) (j % sz) (by omega) (Yp _ hs)).1
  ·rw[NY _ _ _ (dq hi hcc),<- DC,<- Jl];exact(q6 (lo+i) c' (by omega) hcc).2
theorem jz(f g:Nat->List AV){k:Nat}(h:lo<=i/\i<lo+k):jy f lo k g i=g (i-lo):=by
 have h1 :=Nat.ble_eq_true_of_le h.1
 have h2:Nat.blt i (lo+k)=true:=by simp_all
 simp[jy,h1,h2]
theorem LN(f g:Nat->List AV){k:Nat}(h:¬ (lo<=i/\i<lo+k)):jy f lo k g i=f i:=by
 have:(Nat.ble lo i&&Nat.blt i (lo+k))=false:=by
  cases h1:Nat.ble lo i with
  | false=>rfl
  | true=>
   cases h2:Nat.blt i _ with
   | false=>rfl
   | true=>rw[Nc]at h2;exact(h ⟨N9 h1,h2⟩).elim
 simp[jy,this]
theorem pf(h:Rel Γ σ I θ a w){k:Nat}{g:Nat->List AV}{ad':Option Addr}(By:σ.own nm=some (.arr sz e0 m f))(hn:n=m)(hlo:lo<=hi)(hhi:hi<=n)(hvv:cr (θ nm) n lo hi sz e0 ad' cap')(hkl:k<=hi-lo)
  {cs:List Value} (hcsl:cs.length=k*sz) (ai7:∀ u∈cs,u.oneCell'=true) (ab8:∀ i c,i<k->c<sz->Rep I σ.own θ w (cs.getD (i*sz+c) undef) ((g i).getD c .any)) (hwid:∀ i,i<k->(g i).length=sz) :
  ∃ w',(match ad' with|some b=>storeCells b cs|none=>pure ()).run P w = .ok () w'/\Chg σ.own θ I w (A5 σ.own nm (.arr sz e0 m (jy f lo k g))) θ I w':=by
 obtain⟨q0,q⟩:=h.chg.rel.arr nm _ _ _ _ By;have BY:=h.chg.rel;rcases zzL81 k with h0|ae6
 ·have hcs:cs=[]:=zzL116.1 (by rw[hcsl,h0];simp);refine⟨w,by cases ad'<;>simp[hcs,storeCells],?_⟩;have hself:thUp θ nm (θ nm)=θ:=IC rfl
  have hk2:=Pm (w':=w) (t':=θ nm) (m':=m) (f':=jy f lo k g) BY h.chg.valid (nm:=nm) (s:=sz) (e:=e0) (λ_ _ _=>rfl) (.inr ⟨m,f,By,zzL7 _,λ_=>rfl⟩) (λ_ _ _=>rfl) rfl rfl rfl (zzL7 _) q0 (λg' c' hg=>by
   obtain⟨OF,r1,r2,r3,r4,r5,r6,r7⟩:=q g' c' hg;refine⟨OF,r1,r2,r3,r4,λi hi=>by rw[LN f g (by omega)];exact r5 i hi,λi j hi hj=>?_,r7⟩;rw[LN f g (by omega)]
   exact⟨(r6 i j hi hj).1,λNo=>No _ _ (r6 i j hi hj).2⟩) (λg' c' hg=>.inr ⟨by simp[By],c',hg⟩)
  rwa[hself]at hk2
 ·obtain⟨g0,c,hg,rfl⟩:=hvv.1 (by omega);obtain⟨OF,r1,r2,r3,r4,r5,r6,r7⟩:=q g0 c hg
  have ac6:lo*sz+cs.length<=OF.size:=by
   have:(lo+k)*sz<=c*sz:=Hp _ (by omega);rw[Jl]at this;rw[hcsl,r4];exact this
  have hst:=run_storeCells_at P g0 (lo*sz) e0 cs 0 OF w r1 (by simpa using ac6) ai7;simp only[W5]at hst;have ac2:∀ b,b≠g0->(w.setRow g0 (OF.toList.take (lo*sz)++cs++OF.toList.drop (lo*sz+cs.length)).toArray).heap[b]?=w.heap[b]?:=λb hb=>setRow_other w g0 b _ hb;refine⟨_,hst,?_⟩;have hk2:=Pm (w':=w.setRow g0 (OF.toList.take (lo*sz)++cs++OF.toList.drop (lo*sz+cs.length)).toArray) (t':=some (g0,c)) (m':=m) (f':=jy f lo k g) BY h.chg.valid (nm:=nm) (s:=sz) (e:=e0)
   (λb j hi=>RG (a:=⟨b,j,none⟩) (ac2 b (by rintro rfl;exact r7 j hi))) (.inr ⟨m,f,By,zzL7 _,λ_=>hg.symm⟩)
   (λb hb hn=>ac2 b (by rintro rfl;exact hn c (by simp[By]) hg)) rfl rfl rfl (by simp) (by simp) (λg' c' hgc=>?_) (λg' c' hgc=>?_)
  ·rwa[IC hg]at hk2
  ·simp only[Ax,P6]at hgc;obtain⟨rfl,rfl⟩:=hgc
   have IT:(OF.toList.take (lo*sz)++cs++OF.toList.drop (lo*sz+cs.length)).length=OF.size:=by
    simp only[He,ND,GR,XE];omega
   have ad3:∀ j,((OF.toList.take (lo*sz)++cs++OF.toList.drop (lo*sz+cs.length)).toArray).getD j undef=if lo*sz<=j/\j<lo*sz+cs.length then cs.getD (j-lo*sz) undef else OF.getD j undef:=λj=>by
    have:=Kb undef OF.toList cs (lo*sz) j (by simpa using ac6)
    have e1:∀(l:List Value),(l.toArray).getD j undef=l.getD j undef:=λl=>by simp[Vg,List.getD]
    rw[e1,this]
    congr 1
    simp[Vg,List.getD]
   refine⟨_,setRow_heap w g0 OF _ e0 _ r1,r2,r3,by simp only[List.size_toArray];rw[IT,r4],λi hi=>?_,λi j hi hj=>?_,r7⟩
   ·by_cases hin:lo<=i/\i<lo+k
    ·rw[jz f g hin];exact hwid _ (by omega)
    ·rw[LN f g hin];exact r5 i hi
   ·rw[ad3]
    by_cases hin:lo<=i/\i<lo+k
    ·have h1:(i-lo)*sz+j<k*sz:=dq (by omega) hj
     have h2:i*sz+j=lo*sz+((i-lo)*sz+j):=by
      rw[<- DC,<- Jl]
      congr 2
      omega
     rw[if_pos (by rw[hcsl];omega),jz f g hin]
     have h3:i*sz+j-lo*sz=(i-lo)*sz+j:=by omega
     rw[h3]
     have ab3:cs.getD ((i-lo)*sz+j) undef∈cs:=by
      have:(i-lo)*sz+j<cs.length:=by rw[hcsl];exact h1
      simp[List.getD,this]
     exact⟨ai7 _ ab3,λNo=>No _ _ (ab8 (i-lo) j (by omega) hj)⟩
    ·have ah2:¬ (lo*sz<=i*sz+j/\i*sz+j<lo*sz+cs.length):=by
      rw[hcsl,<- Jl];rcases zzL119 i lo with hlt|hge
      ·have:(i+1)*sz<=lo*sz:=Hp _ hlt;rw[Jl]at this;omega
      ·have:(lo+k)*sz<=i*sz:=Hp _ (by omega);omega
     rw[if_neg ah2,LN f g hin];exact⟨(r6 i j hi hj).1,λNo=>No _ _ (r6 i j hi hj).2⟩
  ·simp only[Ax,P6]at hgc;obtain⟨rfl,rfl⟩:=hgc;exact .inr ⟨by simp[By],c,hg⟩
theorem nB(h:Rel Γ σ I θ a w)(hd:∀ d,o.dst=some d->d<Γ.n){t':TypeId}(ho:o.op = .call { callee:=.builtin .copy,args:=#[x,y],argTypes:=#[t,t'] })(hu:P.underlying t=some (.slice e))(hT:Dg P e=true)
  {dx:AV}   {g:Nat->List AV} (hv:dx.view=some (nm,n,lo,hi)) (hx:Rep I σ.own θ w (a.eval x) dx) (By:σ.own nm=some (.arr sz e0 m f)) (hn:n=m) (hsz:sz=Bt P e)
    (hy:a.eval y = .slice ad len cap) {cs:List Value} (hs:qz P I σ.own θ w sz (Nat.min len (hi-lo)) (a.eval y) g cs) :
  Hq P Γ σ o a w (.int .i64 (Nat.min len (hi-lo):Nat)) [(nm,.arr sz e0 m (jy f lo (Nat.min len (hi-lo)) g))]:=by
 obtain⟨sz',e',m',f',ad',cap',hex,ho',hm,hlo,hhi,IN,Is,hnn,hvv⟩:=Ww h hv hx;rw[By]at ho';simp only[Ax,Own.arr.injEq]at ho';obtain⟨rfl,rfl,rfl,rfl⟩:=ho';obtain⟨k,hk⟩:∃ k,k=Nat.min len (hi-lo):=⟨_,rfl⟩;rw[<- hk]at hs ⊢
 have hkl:k<=hi-lo:=by rw[hk];exact Nat.min_le_right _ _
 have key:=pf (P:=P) h By hn hlo hhi (hvv hn) hkl hs.len hs.one hs.rep hs.wid;obtain⟨w',hst,hchg⟩:=key
 have ac1:(execOp a.eval o).run P w = .ok (.value (goInt k)) w':=by
  have hlenof:(Builtin.lenOf (a.eval y)).run P w = .ok len w:=by rw[hy];rfl
  have hfc:=hs.run;rw[hsz]at hfc
  have hcp:(Builtin.copy_ #[t,t'] o.type #[a.eval x,a.eval y]).run P w = .ok (goInt k) w':=by
   simp only[Builtin.copy_];simp[hex,F6 hu,hlenof,Cl hT,<- hk,hfc]
   cases ad' with
   | none=>simp at hst;subst hst;simp
   | some b=>simp only at hst;simp[hst]
  simp[execOp,ho,resolve,invoke,builtin,hcp]
 exact T5 (w':=w') (I':=I) (θ':=θ) h hd (v:=goInt k) ac1 (by rw[Hd];exact hchg) (.val _ _ (.int _ _))
theorem WD(h:Rel Γ σ I θ a w){x:AV}{l0 h0:Nat}(hv:x.view=some (nm,n,l0,h0))(hx:Rep I σ.own θ w (.slice ad len cap) x){k:Nat}(By:σ.own nm=some (.arr sz e m f))(hlk:l<=k)(hk:l0+k<=h0)(IT:len=h0-l0) :
  Rep I σ.own θ w (.slice (if cap=l then ad else ad.map (·.add (l*sz))) (k-l) (cap-l)) (.vsub nm n (l0+l) (l0+k)):=by
 obtain⟨sz',e',m',f',ad',cap',hex,ho,hm,hlo,hhi,IN,Is,hnn,hvv⟩:=Ww h hv hx;obtain⟨rfl,_,rfl⟩:=hex;rw[By]at ho;obtain⟨rfl,rfl,rfl,rfl⟩:=ho
 have e1:k-l=(l0+k)-(l0+l):=by omega
 rw[e1];refine .vsub nm sz e m f n _ _ _ _ By hm (by omega) (by omega) (by omega) (by omega) (λaf7=>?_) (λhnm=>⟨λhlt=>?_,λh00=>?_⟩)
 ·by_cases hc:cap=l
  ·omega
  ·simp_all
 ·obtain⟨g,c,hg,rfl⟩:=(hvv hnm).1 (by omega);refine⟨g,c,hg,?_⟩;rw[if_neg (by omega)];simp[Ux,Jl]
 ·have hz:=(hvv hnm).2 (by omega)
  have hl0:l=0:=by omega
  subst hl0
  cases hθ:θ nm with
  | none=>grind
  | some gc=>
   rw[hθ]at hz;obtain⟨rfl,hz⟩:=hz;refine⟨?_,by simpa using hz⟩
   by_cases hc:cap=0
   ·simp[hc]
   ·simp[ Ux]
theorem yD(h:Rel Γ σ I θ a w)(hd:∀ d,o.dst=some d->d<Γ.n){lo hi:Option Operand}(ho:o.op = .slice t y lo hi mx)(hu:P.underlying t=some (.slice el)){e:Eff}{x:AV}{vs:List AV}
  (hvs:RepL I σ.own θ w ([a.eval y]++(lo.map a.eval).toList++(hi.map a.eval).toList++(mx.map a.eval).toList) (x::vs)) (he:rK P t lo.isSome hi.isSome mx.isSome x vs=some e) (hob:∀ p∈e.ob,p)
  (By:∀ nm n l0 h0,x.view=some (nm,n,l0,h0)->∃ sz e m f,σ.own nm=some (.arr sz e m f)/\sz=Bt P el) :
  e.wo=[]/\Hq P Γ σ o a w e.v []:=by
 unfold rK at he
 split at he
 ·rename_i el' nm n l0 h0 hu' hv
  rw[hu]at hu';simp only[Ax,TypeDesc.slice.injEq]at hu';subst hu';obtain⟨sz,e1,m,f,By,rfl⟩:=By nm n l0 h0 hv
  cases hT:Dg P el with
  | false=>simp[hT]at he
  | true=>
   simp only[hT,Ah]at he
   split at he
   ·rename_i k l h1 h2 h3
    cases lo<;>simp at h1
    cases hi<;>simp at h2
    cases mx<;>simp at h3
    obtain⟨p,q,e1,hy,hz⟩:=hvs.two;simp only[Hg,Ih]at e1;obtain⟨rfl,rfl⟩:=e1;simp only[Eff.pure,Ax]at he;subst he;obtain⟨hb0,hb1⟩:=hob _ (zzL10.2 rfl);obtain⟨_,_,_,_,ad,cap,hex,_,_,hlo,hhi,IN,Is,_⟩:=Ww h hv hy;rw[hex]at hy;have hl:=hz.int_inv;have hr:=Vx (P:=P) (a:=a) (w:=w) (l:=l.toNat) (h:=h0-l0) (m:=cap) ho hu hT hex (by simp[Instr.sliceBounds,hl,AC (P:=P) w k l (h0-l0) _ hb0 (by omega)]);have ab8:=WD h hv hy (l:=l.toNat) (k:=h0-l0) By (by omega) (by omega) rfl;rw[show l0+(h0-l0)=h0 by omega]at ab8;exact⟨rfl,Bv h hd hr ab8⟩
   ·rename_i k l h1 h2 h3
    cases lo<;>simp at h1
    cases hi<;>simp at h2
    cases mx<;>simp at h3
    obtain⟨p,q,e1,hy,hz⟩:=hvs.two;simp only[Hg,Ih]at e1;obtain⟨rfl,rfl⟩:=e1;simp only[Eff.pure,Ax]at he;subst he;obtain⟨hb0,hb1⟩:=hob _ (zzL10.2 rfl);obtain⟨_,_,_,_,ad,cap,hex,_,_,hlo,hhi,IN,Is,_⟩:=Ww h hv hy;rw[hex]at hy;have hl:=hz.int_inv;have hr:=Vx (P:=P) (a:=a) (w:=w) (l:=0) (h:=l.toNat) (m:=cap) ho hu hT hex (by simp[Instr.sliceBounds,hl,AC (P:=P) w k l cap _ hb0 (by omega)]);have ab8:=WD h hv hy (l:=0) (k:=l.toNat) By (by omega) (by omega) rfl;rw[W5]at ab8;exact⟨rfl,Bv h hd hr ab8⟩
   ·rename_i k l k' m' h1 h2 h3
    cases lo<;>simp at h1
    cases hi<;>simp at h2
    cases mx<;>simp at h3
    obtain⟨p,q,u,e1,hy,hz,hz'⟩:=hvs.three;simp only[Hg,Ih]at e1;obtain⟨rfl,rfl,rfl⟩:=e1;simp only[Eff.pure,Ax]at he;subst he;obtain⟨hb0,hb1,hb2⟩:=hob _ (zzL10.2 rfl);obtain⟨_,_,_,_,ad,cap,hex,_,_,hlo,hhi,IN,Is,_⟩:=Ww h hv hy;rw[hex]at hy;have hl:=hz.int_inv;have hl':=hz'.int_inv;have hr:=Vx (P:=P) (a:=a) (w:=w) (l:=l.toNat) (h:=m'.toNat) (m:=cap) ho hu hT hex (by simp[Instr.sliceBounds,hl,hl',AC (P:=P) w k l m'.toNat _ hb0 (by omega),AC (P:=P) w k' m' cap _ (by omega) (by omega)]);have ab8:=WD h hv hy (l:=l.toNat) (k:=m'.toNat) By (by omega) (by omega) rfl;exact⟨rfl,Bv h hd hr ab8⟩
   ·simp at he
 ·simp at he
end
section
variable {P:Program} {Γ:Ip} {σ:Sto} {I:Nat->Nat->Prop} {θ:Nat->Option (Nat×Nat)} {a:Act} {w:World} {o:Oper}
theorem jv(BY:Kh I own θ w)(ab5:∀ b o,I b o->∃ u,w.cell? ⟨b,o,none⟩=some u)(hn:own d=none){x:AObj}(hc:ObjR I own θ w ob x) :
  Chg own θ I w (A5 own d (.obj x)) (thUp θ d (some (w.heap.size,0))) I (w.alloc ob):=by
 have ab0:∀ b o,I b o->(w.alloc ob).cell? ⟨b,o,none⟩=w.cell? ⟨b,o,none⟩:=λb o hi=>by
  grind [O2]
 have hle:∀ nm o,own nm=some o->∃ o',A5 own d (.obj x) nm=some o'/\OwnLe o (θ nm) o' (thUp θ d (some (w.heap.size,0)) nm):=λnm o ho=>by
  grind [thUp,A5,OwnLe.refl]
 have No:∀ v y,Rep I own θ w v y->Rep I _ _ _ v y:=λv y h=>h.mono (λ_ _ h=>h) ab0 hle;refine{ imm:=λ_ _ h=>h,cell:=ab0,le:=hle,rel:=?_,valid:=λb o hi=>?_,os:=rfl,tape:=rfl,output:=rfl,drawn:=λ_=>zzL7 _,grow:=by simp,frame:=λb hb _=>UE w _ hb,new:=λnm g c ho hg=>?_,immNew:=λb o h=>.inl h }
 ·refine Pi BY (·=d) No (λnm hne=>⟨by simp[A5,hne],by simp[thUp,hne]⟩) (λnm g c hne ho hg=>⟨UE w _ (M5 BY ho hg),λj h=>h⟩) ?_ ?_ ?_ (λ_ _ h h'=>h.trans h'.symm) (hobj:=?_)
  ·grind [A5]
  ·grind [A5]
  ·rintro nm nm' g c c' rfl hne _ ho' hg hg';simp only[thUp,Nd,Ax,P6]at hg;have:=M5 BY ho' hg';omega
  ·rintro nm y rfl ho;simp only[A5,Nd,Ax,Own.obj.injEq]at ho;subst ho;refine .inl ⟨w.heap.size,0,ob,by simp[thUp],JF w _,hc.mono No,λj hj=>?_⟩;obtain⟨u,hu⟩:=ab5 _ _ hj;exact GO _ (Sh hu)
 ·grind
 ·by_cases hne:nm=d
  ·grind [thUp]
  ·simp only[A5,hne]at ho
   grind [thUp]
def OS(w:World)(g:Nat)(ob:Obj):World:={ w with heap:=w.heap.setIfInBounds g ob }
theorem KI(w:World)(g b:Nat)(ob:Obj)(h:b≠g):(OS w g ob).heap[b]?=w.heap[b]?:=by
 grind [OS]
theorem px(w:World)(g:Nat)(ob:Obj)(h:g<w.heap.size):(OS w g ob).heap[g]?=some ob:=by
 grind [OS]
theorem TQ(BY:Kh I own θ w)(ab5:∀ b o,I b o->∃ u,w.cell? ⟨b,o,none⟩=some u){x:AObj}(hn:own d=some (.obj x))(hg:θ d=some (g,c)){y:AObj}(hc:ObjR I own θ w ob y) :
  Chg own θ I w (A5 own d (.obj y)) θ I (OS w g ob):=by
 obtain⟨o0,h2,h3,h4⟩:∃ o,w.heap[g]?=some o/\ObjR I own θ w o x/\∀ j,¬ I g j:=by
  rcases BY.obj d x hn with⟨g',c',o0,h1,h2,h3,h4⟩|⟨h1,_⟩
  ·grind
  grind
 have hlt:=LV h2
 have ab0:∀ b j,I b j->(OS w g ob).cell? ⟨b,j,none⟩=w.cell? _:=λb j hi=>
  RG  (KI w g b ob (by grind))
 have hle:∀ nm' o,own nm'=some o->∃ o',A5 own d (.obj y) nm'=some o'/\OwnLe o (θ nm') o' (θ nm'):=λnm' o ho=>by
  by_cases hne:nm'=d
  ·subst hne;rw[hn]at ho;obtain rfl:=OI ho;exact⟨.obj y,by simp[A5],rfl⟩
  ·exact⟨o,by grind [A5],.refl _ _⟩
 have No:∀ v z,Rep I own θ w v z->Rep I _ θ _ v z:=λv z h=>h.mono (λ_ _ h=>h) ab0 hle;refine{ imm:=λ_ _ h=>h,cell:=ab0,le:=hle,rel:=?_,valid:=λb j hi=>?_,os:=rfl,tape:=rfl,output:=rfl,drawn:=λ_=>zzL7 _,grow:=by simp[OS],frame:=λb hb hn'=>KI w g b ob ?_,new:=λnm' g' c' ho hg'=>?_,immNew:=λb o h=>.inl h }
 ·refine Pi BY (·=d) No (λnm' hne=>⟨by simp[A5,hne],rfl⟩) (λnm' g' c' hne ho hg'=>⟨KI w g g' ob ?_,λj h=>h⟩) ?_ ?_ ?_ (λ_ _ h h'=>h.trans h'.symm) (hobj:=?_)
  ·rintro rfl;exact hne (BY.inj nm' d _ _ _ ho (by simp[hn]) hg' hg)
  ·grind [A5]
  ·grind [A5]
  ·rintro nm' nm'' g' c1 c2 rfl hne _ ho' hg1 hg2;exact hne (BY.inj nm'' nm' _ _ _ ho' (by simp[hn]) hg2 hg1)
  ·rintro nm' z rfl ho;simp only[A5,Nd,Ax,Own.obj.injEq]at ho;subst ho;exact .inl ⟨g,c,ob,hg,px w g ob hlt,hc.mono No,h4⟩
 ·grind
 ·grind
 grind [A5]
theorem gz(h:Rel Γ σ I θ a w)(hd:∀ d,o.dst=some d->d<Γ.n)(ho:o.op = .alloc t)(ad0:o.dst=some d)(hn:σ.own d=none)(hz:GN P t=some z)
  (h1:1<=len) (hzl:z.length=len*Bt P e) (hr:len<=room):Hq P Γ σ o a w (.vpt d len 0 0) [(d,.arr (Bt P e) t len (λi=>(z.drop (i*Bt P e)).take (Bt P e)))]:=by
 obtain⟨i,v,hi,hv,ai7,rfl⟩:=Ub hz;have hzc:=Ll (I:=I) (w:=w) (σ:=σ) (θ:=θ) ai7
 have hsz :=by simpa using hzl
 have hk:=Pm (w':=w.alloc (.cells v.cells t)) (t':=some (w.heap.size,len)) (m':=len) (f':=λi=>((v.cells.toList.map AV.ofCell).drop (i*Bt P e)).take (Bt P e)) (nm:=d) (s:=Bt P e) (e:=t) h.chg.rel h.chg.valid
  (λb o hi=>by obtain⟨u,hu⟩:=h.chg.valid b o hi;exact O2 _ hu) (.inl hn) (λb hb _=>UE w _ hb) rfl rfl rfl (by simp) (by simp) (λg c' hgc=>?_) (λg c' hgc=>?_)
 ·refine T5 h hd (v:=.pointer (some ⟨w.heap.size,0,none⟩)) ?_ (by rw[Hd];exact hk) ?_
  ·simp_all [newRow,execOp,newVar,Instr.alloc,Wr]
  ·rw[Hd];refine .vpt d (Bt P e) t len _ len 0 0 _ (by simp[A5];rfl) (zzL7 _) h1 (λ_=>⟨w.heap.size,len,by simp[thUp],by simp⟩)
 ·obtain⟨rfl,rfl⟩:=hgc
  have am1:∀ i',i'<len->i'*Bt P e+Bt P e<=len*Bt P e:=λi' hi'=>by
   have:(i'+1)*Bt P e<=len*Bt P e:=Hp _ hi'
   grind
  refine⟨_,JF w _,zzL7 _,by grind [room,maxLen],hsz,λi' hi'=>?_,λi' j' hi' hj'=>?_,λj hj=>?_⟩
  ·grind
  ·have e1:(((v.cells.toList.map AV.ofCell).drop (i'*Bt P e)).take (Bt P e)).getD j' .any=(v.cells.toList.map AV.ofCell).getD (i'*Bt P e+j') .any:=by
    grind
   exact⟨hzc.one _ (by grind),λNo=>by rw[e1];exact No _ _ (hzc.rep _ (by grind))⟩
  ·obtain⟨u,hu⟩:=h.chg.valid _ _ hj;exact GO _ (Sh hu)
 grind
theorem g5(h:Rel Γ σ I θ a w)(hd:∀ d,o.dst=some d->d<Γ.n)(ho:o.op = .buildSlice t len ac4)(ad0:o.dst=some d)(hn:σ.own d=none){vs:List AV}
  (hp:Xg I σ.own θ w (ac4.toList.map λp=>(p.1,a.eval p.2)) (is.zip vs)) {e:Eff} (he:NM P t len is vs d=some e):Hq P Γ σ o a w e.v e.wo:=by
 unfold NM at he
 split at he
 ·rename_i el hu
  split at he
  ·rename_i z hz
   cases hb:(Dg P el&&Nat.beq z.length (Bt P el)&&Nat.ble 1 (Bt P el)&&Nat.ble (len*Bt P el) 16777216) with
   | false=>grind
   | true=>
    simp only[hb,Ah]at he;simp only[Az]at hb;obtain⟨⟨⟨hT,hzl⟩,h1⟩,Is⟩:=hb;have hzl:=Ez hzl;have h1:=N9 h1;have Is:=N9 Is
    split at he
    ·rename_i cs af9
     simp only[Ax]at he;subst he;obtain⟨i,v,hi,hv,ai7,rfl⟩:=Ub hz;have ak1:=CP (Ll (I:=I) (σ:=σ) (θ:=θ) (w:=w) ai7) len (Bt P el) hzl h1;obtain⟨vs',hfi,hok⟩:=AW _ hp ak1 af9;have IT:=AU _ _ _ _ af9
     have hzl':v.cells.size=Bt P el:=by simpa using hzl
     have hcl:cs.length=len*Bt P el:=by rw[IT];simp[hzl']
     have hlm:len<=maxLen:=by
      have:len*1<=len*Bt P el:=Nat.mul_le_mul_left _ h1;unfold maxLen;omega
     have hvs:vs'.size=len*Bt P el:=by rw[hok.size,hcl]
     have ac1:(execOp a.eval o).run P w = .ok (.value (.slice (some ⟨w.heap.size,0,none⟩) len len)) (w.alloc (.cells vs' el)):=by
      have e2:(ac4.map λx=>(x.1,a.eval x.2)).toList=ac4.toList.map λp=>(p.1,a.eval p.2):=by simp
      have hm2:¬ (len*Bt P el>2 ^ 24):=by omega
      by_cases h0:len*Bt P el=0
      ·have e3:(Array.range (len*Bt P el)).map (v.cells[· % v.cells.size]!)=(Array.range (len*Bt P el)).map ((#[]:Array Value)[· % (#[]:Array Value).size]!):=by
        rw[h0];simp
       rw[e3]at hfi;simp only[execOp,ho,Instr.buildSlice,Fh,Gz,F6 hu,Cl hT,if_neg hm2,if_pos h0,Jv,e2,hfi]
       rfl
      ·simp only[execOp,ho,Instr.buildSlice,Fh,Gz,F6 hu,Cl hT,if_neg hm2,if_neg h0,Wr hi hv,Jv,e2,hfi]
       rfl
     have hk:=Pm (w':=w.alloc (.cells vs' el)) (t':=some (w.heap.size,len)) (m':=len) (f':=λi=>(cs.drop (i*Bt P el)).take (Bt P el)) (nm:=d) (s:=Bt P el) (e:=el) h.chg.rel h.chg.valid
      (λb o hi=>by obtain⟨u,hu⟩:=h.chg.valid b o hi;exact O2 _ hu) (.inl hn) (λb hb _=>UE w _ hb) rfl rfl rfl (by simp) (by simp) (λg c' hgc=>?_) (λg c' hgc=>?_)
     ·refine T5 h hd ac1 (by rw[Hd];exact hk) ?_;rw[Hd];refine .vsl d (Bt P el) el len _ (some ⟨w.heap.size,0,none⟩) len len (by simp[A5];rfl) (zzL7 _) (zzL7 _) hlm (λh=>by cases h) (λ_=>?_);simp[thUp]
     ·simp only[Ax,P6]at hgc;obtain⟨rfl,rfl⟩:=hgc
      have am1:∀ i',i'<len->i'*Bt P el+Bt P el<=len*Bt P el:=λi' hi'=>by
       have:(i'+1)*Bt P el<=len*Bt P el:=Hp _ hi'
       grind
      refine⟨_,JF w _,zzL7 _,hlm,hvs,λi' hi'=>?_,λi' j' hi' hj'=>?_,λj hj=>?_⟩
      ·grind
      ·have:=am1 i' hi'
       have e1:((cs.drop (i'*Bt P el)).take (Bt P el)).getD j' .any=cs.getD (i'*Bt P el+j') .any:=by
        rw[List.getD,List.getElem?_take,if_pos hj',XF,List.getD]
       exact⟨hok.one _ (by omega),λNo=>by rw[e1];exact No _ _ (hok.rep _ (by omega))⟩
      ·obtain⟨u,hu⟩:=h.chg.valid _ _ hj;exact GO _ (Sh hu)
     grind
    grind
  grind
 grind
theorem ao(h:Rel Γ σ I θ a w)(hd:∀ d,o.dst=some d->d<Γ.n){i:Operand}(ho:o.op = .indexAddr t x i)(hu:P.underlying t=some (.array len e))(ht:Dg P e=true)
    {j:Int} (hx:Rep I σ.own θ w (a.eval x) (.vpt nm len 0 0)) (hi:Rep I σ.own θ w (a.eval i) (.int k j)) (hb:As j len)  {e':TypeId}   (By:σ.own nm=some (.arr sz e' m f)) (hsz:sz=Bt P e) :
  Hq P Γ σ o a w (.vpt nm len j.toNat 0) []:=by
 obtain⟨hb0,hb1⟩:=hb;obtain⟨sz2,e2,m2,f2,ad,he,ho2,hm,hi0,hv⟩:=hx.vpt_inv;rw[By]at ho2;obtain⟨rfl,rfl,rfl,rfl⟩:=ho2;have hi':=hi.int_inv;refine Bv h hd (v:=.pointer (some (ad.add (j.toNat*Bt P e)))) ?_ (.vpt nm _ e' m f len _ _ _ By hm (by omega) (λhnm=>?_))
 ·simp[execOp,ho,he,hi',Instr.indexAt,Instr.sureAddr,asIntOf,F6 hu,hb0,hb1,Cl ht]
 grind [Ux]
theorem bB{I:Nat->Nat->Prop}{θ:Nat->Option (Nat×Nat)}{w:World}{t:Tag}(h:Rep I own θ w v (.slice sz n f t)) :
  ∃ a cap,v = .slice a n cap/\(a=none->n=0):=by
 have key:∀{v:Value},RepV I w v (.slice sz n f _)->∃ a cap,v = .slice a n cap/\(a=none->n=0):=λh=>by
  cases h with
  | slice a _ cap _ _ us IN Is hz hn h1 hl hr=>grind
 cases h with
 | val v x h=>cases h with
  | slice a _ cap _ _ us IN Is hz hn h1 hl hr=>grind
 | exact a _ _ _ h=>grind
 | own nm _ e m a _ cap _ ho hm hv h=>grind
 | fam b i _ e m a _ cap _ hi ho hm hv h=>grind
theorem fY(h:Rel Γ σ I θ a w)(hd:∀ d,o.dst=some d->d<Γ.n){vs:List AV}(hvs:RepL I σ.own θ w (o.op.operands.toList.map a.eval) vs){es:List (Option Own)}(hes:es=(J9 o vs).map σ.own)
  {ac9:Bool} {e:Eff} (he:rS P ac9 o vs es=some e) (hob:∀ p∈e.ob,p):Hq P Γ σ o a w e.v e.wo:=by
 unfold rS at he
 split at he
 ·
  rename_i t ho
  split at he
  ·rename_i d len e0 z ad0 hun hz
   have hn:σ.own d=none:=by simpa [J9,ho,ad0] using hes.symm
   cases hb:(ac9&&Dg P e0&&Nat.ble 1 len&&Nat.beq z.length (len*Bt P e0)&&Nat.ble len room) with
   | false=>grind
   | true=>
    simp only[hb,Ah,Ax]at he;subst he;simp only[Az]at hb
    grind [N9,Ez,gz]
  grind
 ·
  rename_i t x y nm n k i sz e' m f ho
  simp only[ho,Op.operands,Db,K8]at hvs;obtain⟨u,v,hu',hu,hv⟩:=hvs.two;simp only[Hg,Ih]at hu';obtain⟨rfl,rfl⟩:=hu'
  have By:σ.own nm=some (.arr sz e' m f):=by simpa [J9,ho] using hes.symm
  split at he
  ·rename_i len e0 hun
   cases hb:(Dg P e0&&Nat.beq n len&&Nat.beq sz (Bt P e0)) with
   | false=>grind
   | true=>
    simp only[hb,Ah,Eff.pure,Ax]at he;subst he;simp only[Az]at hb;obtain rfl:=Ez hb.1.2;exact ao h hd ho hun hb.1.1 hu hv (hob _ (by simp)) By (Ez hb.2)
  grind
 ·
  rename_i t x y sz n f tg u' ho
  simp only[ho,Op.operands,Db,K8]at hvs;obtain⟨u,v,hu',hu,hv⟩:=hvs.two;simp only[Hg,Ih]at hu';obtain⟨rfl,rfl⟩:=hu'
  split at he
  ·rename_i e1 hun
   simp only[Eff.pure,Ax]at he;subst he;obtain⟨ad,cap,hv,hn⟩:=bB hu
   have hg:∀ op,(eqGuard op t x (.const (.slice none 0 0)) (.slice ad n cap) (.slice none 0 0)).run P w = .ok () w:=λop=>by cases op<;>rfl
   have he:a.eval (.const (.slice none 0 0)) = .slice none 0 0:=rfl;exact Bv h hd (v:=.bool ad.isNone) (by simp_all [execOp,run_equal_slice_nil,binOp]) (.val _ _ (.nilq _ _ _ (λhb=>hn (by simp_all))))
  grind
 ·
  rename_i t len ac4 ho
  cases ac9 with
  | false=>simp at he
  | true=>
   simp only[Ah]at he
   split at he
   ·rename_i d ad0
    have hn:σ.own d=none:=by simpa [J9,ho,ad0] using hes.symm
    have ae5:=hvs;rw[show o.op.operands.toList.map a.eval=ac4.toList.map (λp=>a.eval p.2) by simp[ho,Op.operands,List.map_map,KM]]at ae5;exact g5 h hd ho ad0 hn (ST _ _ ae5) he
   grind
 grind
end
section
variable {P:Program} {Γ:Ip} {σ:Sto} {I:Nat->Nat->Prop} {θ:Nat->Option (Nat×Nat)} {a:Act} {w:World} {o:Oper}
theorem gq(h:s4 P t=some (k,e)):∃ kt,P.underlying t=some (.map kt e)/\P.underlying kt=some (.int k):=by
 grind [s4]
def qx(I:Nat->Nat->Prop)(w:World)(v:Value)(x:AV):Prop:=RepV I w v x/\x.strip=x
def ZI(R:Value->AV->Prop)(k:IntKind):Nat->List MapEntry->List (Int×AV)->Prop
 | _,[],[]=>True
 | n,e::es,(i,x)::l=>e.key = .int k i/\e.born=n/\R e.val x/\ZI R k (n+1) es l
 | _,_,_=>False
theorem me{R:Value->AV->Prop}{k:IntKind}:∀(l:List (Int×AV)) (es:List MapEntry) (n:Nat),es.length=l.length->
  (∀ i,i<l.length->∃ v,es[i]?=some { key:=.int k (l.getD i (0,.any)).1,val:=v,born:=n+i }/\R v (l.getD i (0,.any)).2)->ZI R k n es l
 | [],[],n,_,_=>trivial
 | [],_::_,n,h,_=>by simp at h
 | _::_,[],n,h,_=>by simp at h
 | (i,x)::l,e::es,n,h,hr=>by
  obtain⟨v,h1,h2⟩:=hr 0 (by simp);simp at h1 h2;subst h1;refine⟨rfl,rfl,h2,me l es _ (by grind) λj hj=>?_⟩;obtain⟨v',h3,h4⟩:=hr (j+1) (by grind)
  grind
theorem m8{R:Value->AV->Prop}{k:IntKind}:∀(l:List (Int×AV)) (es:List MapEntry) (n:Nat),ZI R k n es l->es.length=l.length /\
  ∀ i,i<l.length->∃ v,es[i]?=some { key:=.int k (l.getD i (0,.any)).1,val:=v,born:=n+i }/\R v (l.getD i (0,.any)).2
 | [],[],n,_=>⟨rfl,λi hi=>absurd hi (W4 _)⟩
 | [],_::_,n,h=>h.elim
 | _::_,[],n,h=>h.elim
 | (i,x)::l,e::es,n,h=>by
  obtain⟨h1,h2,h3,h4⟩:=h;obtain⟨h5,h6⟩:=m8 l es _ h4;refine⟨by simp[h5],λj hj=>?_⟩
  cases j with
  | zero=>exact⟨e.val,by cases e;simp_all,by grind⟩
  | succ j=>
   grind
theorem tG{l:List (Int×AV)}(h:ObjR I own θ w (.map es n) (.map nn k l)):n=l.length/\ZI (qx I w) k 0 es.toList l:=by
 cases h with
 | map es nn k l hs hr=>exact⟨rfl,me l _ 0 (by grind) λi hi=>by obtain⟨v,h1,h2⟩:=hr i hi;exact⟨v,by grind,h2⟩⟩
theorem UX{l:List (Int×AV)}(nn:Bool)(h:ZI (qx I w) k 0 es.toList l):ObjR I own θ w (.map es l.length) (.map nn k l):=by
 obtain⟨h1,h2⟩:=m8 l _ 0 h
 exact .map es nn k l (by grind) λi hi=>by obtain⟨v,h3,h4⟩:=h2 i hi;exact⟨v,by grind,h4⟩
theorem findNow_ents{R:Value->AV->Prop}{k:IntKind}{key:Int}{z:AV}{zv:Value}(hz:R zv z):∀(l:List (Int×AV)) (es:List MapEntry) (n m:Nat),ZI R k n es l->
  (Lb l key=true/\∃ i v,Instr.findNow (.int k) (.int k key) es m=some (some (m+i,v))/\i<es.length/\R v (Nm z l key))\/(Lb l key=false/\Instr.findNow (.int k) (.int k key) es m=some none/\Nm z l key=z)
 | [],[],n,m,_=>.inr ⟨rfl,rfl,rfl⟩
 | [],_::_,n,m,h=>h.elim
 | _::_,[],n,m,h=>h.elim
 | (i,x)::l,e::es,n,m,h=>by
  obtain⟨h1,h2,h3,h4⟩:=h
  have hs:Instr.sameNow (.int k) (.int k key) e.key=some (key==i):=by rw[h1];simp[Instr.sameNow]
  by_cases hk:key=i
  ·subst hk;refine .inl ⟨by simp[Lb],0,e.val,by simp[Instr.findNow,hs],by simp,?_⟩
   grind [Nm]
  ·rcases findNow_ents (key:=key) hz l es _ (m+1) h4 with⟨g1,j,v,g2,g3,g4⟩|⟨g1,g2,g3⟩
   ·refine .inl ⟨by grind [Lb],j+1,v,?_,by grind,?_⟩
    ·grind [Instr.findNow]
    grind [Nm]
   grind [Nm,Instr.findNow,Lb]
theorem ents_put{R:Value->AV->Prop}{k:IntKind}{key:Int}{x:AV}{v:Value}(hv:R v x):∀(l:List (Int×AV)) (es:List MapEntry) (n m:Nat),ZI R k n es l->
  (Lb l key=true/\(Qb l key x).length=l.length/\∃ i u,Instr.findNow (.int k) (.int k key) es m=some (some (m+i,u))/\(∃ b,es[i]?=some b/\b.key = .int k key)/\ZI R k n (es.modify i λe=>{ e with key:=.int k key,val:=v }) (Qb l key x)) \/
  (Lb l key=false/\(Qb l key x).length=l.length+1/\Instr.findNow (.int k) (.int k key) es m=some none/\ZI R k n (es++[{ key:=.int k key,val:=v,born:=n+l.length }]) (Qb l key x))
 | [],[],n,m,_=>.inr ⟨rfl,rfl,rfl,⟨rfl,rfl,hv,trivial⟩⟩
 | [],_::_,n,m,h=>h.elim
 | _::_,[],n,m,h=>h.elim
 | (i,y)::l,e::es,n,m,h=>by
  obtain⟨h1,h2,h3,h4⟩:=h
  have hs:Instr.sameNow (.int k) (.int k key) e.key=some (key==i):=by rw[h1];simp[Instr.sameNow]
  by_cases hk:key=i
  ·subst hk
   have hb:(key==key)=true:=by simp
   refine .inl ⟨by simp[Lb],by simp[Qb],0,e.val,by simp[Instr.findNow,hs],⟨e,by simp,h1⟩,?_⟩;simp only[Qb,hb,Ah]
   trivial
  ·have hb :=zzL30.2 hk;rcases ents_put (key:=key) hv l es _ (m+1) h4 with⟨g1,gl,j,u,g2,g3,g4⟩|⟨g1,gl,g2,g4⟩
   ·refine .inl ⟨by grind [Lb],by grind [Qb],j+1,u,?_,by grind,?_⟩
    ·grind [Instr.findNow]
    ·simp only[Qb,hb,Ar]
     trivial
   ·refine .inr ⟨by grind [Lb],by grind [Qb],by grind [Instr.findNow],?_⟩;simp only[Qb,hb,  Ry]
    have e1:n+(l.length+1)=n+1+l.length:=by omega
    rw[e1]
    trivial
theorem Td(hk:P.underlying kt=some (.int k)):(Instr.checkKey b 10000 kt (.int k key)).run P w = .ok () w:=by
 have h:∀ n ,(Instr.checkKey b (n+1) kt (.int k key)).run P w = .ok () w:=λn=>by simp[Instr.checkKey,F6 hk]
 grind
theorem CB(h:w.heap[g]?=some (.map es n)):(getObj g).run P w = .ok (.map es n) w:=by simp[getObj,Sem.run,h]
theorem Uw(hk:P.underlying kt=some (.int k)){es:List MapEntry}(hf:Instr.findNow (.int k) (.int k key) es 0=some r):(Instr.findKey kt (.int k key) es).run P w = .ok r w:=by
 simp[Instr.findKey,F6 hk,hf]
theorem GF{i:Int}{ok:Bool}(hm:P.underlying t=some (.map kt e0))(hkt:P.underlying kt=some (.int k))(hz:(zeroValue e0).run P w = .ok zv w)
  (h2:w.heap[g]?=some (.map es n)) (hf:Instr.findNow (.int k) (.int k i) es.toList 0=some r) :
  (Instr.lookup t (.map (some g)) (.int k i) ok).run P w = .ok (if ok then .tuple #[match r with|some (_,v)=>v|none=>zv,.bool r.isSome] else match r with|some (_,v)=>v|none=>zv) w:=by
 cases r with
 | none=>cases ok<;>simp[Instr.lookup,F6 hm,CB h2,Td hkt,Uw hkt hf,hz]
 | some r=>cases ok<;>simp[Instr.lookup,F6 hm,CB h2,Td hkt,Uw hkt hf]
theorem WL{i:Int}{ok:Bool}(hm:P.underlying t=some (.map kt e0))(hkt:P.underlying kt=some (.int k))(hz:(zeroValue e0).run P w = .ok zv w) :
  (Instr.lookup t (.map none) (.int k i) ok).run P w = .ok (if ok then .tuple #[zv,.bool false] else zv) w:=by
 have hf:Instr.findNow (.int k) (.int k i) [] 0=some _:=rfl
 simp_all [Instr.lookup,Uw,Td,F6]
theorem xY{i:Int}:(Instr.keyThatStays (.int k i) (.int k i)).run P w = .ok (.int k i) w:=by
 simp[Instr.keyThatStays,Instr.sameBits]
theorem WM{i:Int}(hm:P.underlying t=some (.map kt e0))(hkt:P.underlying kt=some (.int k))
  (h2:w.heap[g]?=some (.map es n)) (hf:Instr.findNow (.int k) (.int k i) es.toList 0=some none) :
  (Instr.mapUpdate t (.map (some g)) (.int k i) v).run P w = .ok () (OS w g (.map (es.push { key:=.int k i,val:=v,born:=n }) (n+1))):=by
 simp[Instr.mapUpdate,F6 hm,CB h2,Td hkt,Uw hkt hf];simp[setObj,Sem.run,OS,h2]
theorem WN{i:Int}(hm:P.underlying t=some (.map kt e0))(hkt:P.underlying kt=some (.int k))
  (h2:w.heap[g]?=some (.map es n)) (hf:Instr.findNow (.int k) (.int k i) es.toList 0=some (some (j,u))) {b:MapEntry} (hb:es[j]?=some b) (hbk:b.key = .int k i) :
  (Instr.mapUpdate t (.map (some g)) (.int k i) v).run P w = .ok () (OS w g (.map (es.modify j λe=>{ e with key:=.int k i,val:=v }) n)):=by
 simp[Instr.mapUpdate,F6 hm,CB h2,Td hkt,Uw hkt hf,hb,hbk,xY];simp[setObj,Sem.run,OS,h2]
theorem qC{P:Program}{z:AV}(h:um P t=some z):∃ i v,P.info? t=some i/\i.zero=some v/\z=(AV.ofValue v).strip:=by
 unfold um at h
 cases hi:P.info? t with
 | none=>grind
 | some i=>
  cases hz:i.zero with
  | none=>grind
  | some v=>grind
theorem map_at(h:Rel Γ σ I θ a w){l:List (Int×AV)}(By:σ.own nm=some (.obj (.map nn k l))) :
  (∃ g c es,θ nm=some (g,c)/\w.heap[g]?=some (.map es l.length)/\ZI (qx I w) k 0 es.toList l)\/(θ nm=none/\nn=false/\l=[]):=by
 rcases h.chg.rel.obj nm _ By with⟨g,c,ob,h1,h2,h3,_⟩|⟨h1,h2⟩
 ·cases ob with
  | map es n=>obtain⟨rfl,he⟩:=tG h3;grind
  | _=>cases h3
 ·cases nn<;>cases l<;>first|grind|cases h2
theorem fZ(h:Rel Γ σ I θ a w)(hd:∀ d,o.dst=some d->d<Γ.n){vs:List AV}(hvs:RepL I σ.own θ w (o.op.operands.toList.map a.eval) vs){es:List (Option Own)}(hes:es=(J9 o vs).map σ.own)
  {e:Eff} (he:rT P o vs es=some e) (hob:∀ p∈e.ob,p):Hq P Γ σ o a w e.v e.wo:=by
 unfold rT at he
 split at he
 ·
  rename_i t ho
  split at he
  ·rename_i d k e0 ad0 hk
   simp only[Ax]at he;subst he
   have hn:σ.own d=none:=by simpa [J9,ho,ad0] using hes.symm
   have hc:ObjR I σ.own θ w (.map #[] 0) (.map true k []):=UX (es:=#[]) (l:=[]) true trivial;have kc:=jv h.chg.rel h.chg.valid hn hc;refine T5 h hd (v:=.map (some w.heap.size)) (w':=w.alloc (.map #[] 0)) ?_ (by rw[Hd];exact kc) ?_
   ·simp[execOp,ho,Instr.makeMap]
   ·rw[Hd];have:=Rep.omap (I:=I) (own:=A5 σ.own d (.obj (.map true k []))) (θ:=thUp θ d (some (w.heap.size,0))) (w:=w.alloc (.map #[] 0)) d (.map true k []) (by simp[A5])
    grind [thUp]
  grind
 ·
  rename_i t x ix ok nm k' i nn k l ho
  simp only[ho,Op.operands,Db,K8]at hvs;obtain⟨u,v,hu',hu,hv⟩:=hvs.two;simp only[Hg,Ih]at hu';obtain⟨rfl,rfl⟩:=hu'
  have By:σ.own nm=some (.obj (.map nn k l)):=by simpa [J9,ho] using hes.symm
  split at he
  ·rename_i k0 e0 hk
   cases hb:(be k k'&&be k k0) with
   | false=>grind
   | true=>
    simp only[hb,Ah]at he;simp only[Az]at hb;obtain rfl:=BB hb.1;obtain rfl:=BB hb.2
    split at he
    ·rename_i z hz
     simp only[Eff.pure,Ax]at he;subst he;obtain⟨ti,zv,hi,hzv,rfl⟩:=qC hz;obtain⟨kt,hm,hkt⟩:=gq hk;have hix:=hv.int_inv;obtain⟨_,_,hx⟩:=hu.omap_inv;have hz0:qx I w zv (AV.ofValue zv).strip:=⟨(QY (I:=I) (σ:=σ) (θ:=θ) (w:=w) zv).strip,X0 _⟩;have hrz:=Wr (P:=P) hi hzv w
     have done:∀(r:Value) (q:Bool),qx I w r (Nm (AV.ofValue zv).strip l i)->q=Lb l i->(Instr.lookup t (a.eval x) (a.eval ix) ok).run P w = .ok (if ok then .tuple #[r,.bool q] else r) w->Hq P Γ σ o a w (bif ok then .tuple [Nm (AV.ofValue zv).strip l i,.bool (Lb l i)] else Nm (AV.ofValue zv).strip l i) []:=λr q h1 h2 h3=>by
      subst h2
      cases ok with
      | false=>exact Bv h hd (v:=r) (by simp[execOp,ho,h3]) (.val _ _ h1.1)
      | true=>
       refine Bv h hd (v:=.tuple #[r,.bool (Lb l i)]) (by simp[execOp,ho,h3]) (.tuple _ _ rfl λj hj=>?_)
       have hj:j=0\/j=1:=by simp at hj;omega
       rcases hj with rfl|rfl
       ·exact .val _ _ h1.1
       ·exact .val _ _ (.bool _)
     rcases map_at h By with⟨g,c,es',h1,h2,h3⟩|⟨h1,h2,h3⟩
     ·rw[h1]at hx;rcases findNow_ents (key:=i) hz0 l es'.toList 0 0 h3 with⟨g1,j,r,g2,g3,g4⟩|⟨g1,g2,g3⟩
      ·refine done r true g4 g1.symm ?_;rw[hx,hix];exact GF hm hkt hrz h2 g2
      ·refine done zv false (by grind) g1.symm ?_;rw[hx,hix];exact GF hm hkt hrz h2 g2
     ·rw[h1]at hx;subst h3;refine done zv false hz0 rfl ?_
      grind [WL]
    grind
  grind
 ·
  rename_i t x y z nm k' i xv k l ho
  simp only[ho,Op.operands,Db,K8]at hvs;obtain⟨u,v,r,hu',hu,hv,hr⟩:=hvs.three;simp only[Hg,Ih]at hu';obtain⟨rfl,rfl,rfl⟩:=hu'
  have By:σ.own nm=some (.obj (.map true k l)):=by simpa [J9,ho] using hes.symm
  split at he
  ·rename_i k0 e0 hk
   cases hb:(be k k'&&be k k0) with
   | false=>grind
   | true=>
    simp only[hb,Ah,Ax]at he;subst he;simp only[Az]at hb;obtain rfl:=BB hb.1;obtain rfl:=BB hb.2;obtain⟨kt,hm,hkt⟩:=gq hk;have hix:=hv.int_inv;obtain⟨_,_,hx⟩:=hu.omap_inv;rcases map_at h By with⟨g,c,es',h1,h2,h3⟩|⟨_,h2,_⟩
    ·rw[h1]at hx;rcases ents_put (key:=i) (hv:=⟨hr.strip,X0 _⟩) l es'.toList 0 0 h3 with⟨g1,gl,j,u,g2,⟨b,hb1,hb2⟩,g4⟩|⟨g1,gl,g2,g4⟩
     ·rw[Ke]at g2
      have hc:ObjR I σ.own θ w (.map (es'.modify j λe=>{ e with key:=.int k i,val:=a.eval z }) l.length) (.map true k (Qb l i xv.strip)):=by
       rw[<- gl];exact UX true (by rw[Array.toList_modify];exact g4)
      have kc:=TQ h.chg.rel h.chg.valid By h1 hc;refine SS h hd (w':=OS w g (.map (es'.modify j λe=>{ e with key:=.int k i,val:=a.eval z }) l.length)) ?_ (by rw[Hd];exact kc);have ac1:=WN (P:=P) (v:=a.eval z) hm hkt h2 g2 (by grind) hb2
      simp_all [execOp]
     ·have hc:ObjR I σ.own θ w (.map (es'.push { key:=.int k i,val:=a.eval z,born:=l.length }) (l.length+1)) (.map true k (Qb l i xv.strip)):=by
       rw[<- gl];rw[Ke]at g4;exact UX true (by simpa using g4)
      have kc:=TQ h.chg.rel h.chg.valid By h1 hc;refine SS h hd (w':=OS w g (.map (es'.push { key:=.int k i,val:=a.eval z,born:=l.length }) (l.length+1))) ?_ (by rw[Hd];exact kc);have ac1:=WM (P:=P) (v:=a.eval z) hm hkt h2 g2
      simp_all [execOp]
    ·cases h2
  grind
 grind
end
variable {es:List (Option Own)}{ac9:Nat}{u:AV}
theorem NT{sz:Nat}{f:Nat->List AV}:∀{n:Nat},(∀ i,i<n->(f i).length=sz)->(UC n f).length=n*sz
 | 0,_=>by simp[UC]
 | n+1,h=>by
  have ih:=NT (n:=n) (λi hi=>h i (by omega));unfold UC at ih ⊢;rw[JJ,List.flatMap_append,He,ih];simp[h n _,Jl]
theorem bU{sz:Nat}{f:Nat->List AV}:∀{n:Nat},(∀ i,i<n->(f i).length=sz)->∀ i j,i<n->j<sz->(UC n f).getD (i*sz+j) .any=(f i).getD j .any
 | 0,_,i,j,hi,_=>by omega
 | n+1,h,i,j,hi,hj=>by
  have hl:=NT (n:=n) (λi hi=>h i (by omega));have ih:=bU (n:=n) (λi hi=>h i (by omega)) i j;unfold UC at ih hl ⊢;rw[JJ,List.flatMap_append]
  by_cases e:i<n
  ·have h1:(i+1)*sz<=n*sz:=Hp _ e;rw[Jl]at h1;rw[cR,W0 (by omega)];exact ih e hj
  ·obtain rfl:i=n:=by omega
   rw[cR,X2 (by omega),hl];simp[List.getD]
section
variable {P:Program} {Γ:Ip} {σ:Sto} {I:Nat->Nat->Prop} {θ:Nat->Option (Nat×Nat)} {a:Act} {w:World} {o:Oper}
theorem bR{k:Nat}(h:k<n*sz):k / sz<n/\k % sz<sz/\k / sz*sz+k % sz=k:=by
 have hs:0<sz:=by
  grind
 exact⟨by rw[XJ hs];exact h,Yp _ hs,by rw[Yn];exact NE k sz⟩
theorem p9(h:Rel Γ σ I θ a w)(ht:Dg P t=true)(ab7:F8 P t=true)
  (hx:Rep I σ.own θ w v (.vpt nm n 0 0)) (By:σ.own nm=some (.arr sz e m f)) (hn:n=m) (hsz:Bt P t=n*sz) :
  ∃ ad,v = .pointer (some ad)/\∃ vs,(loadVar t ad).run P w = .ok (.agg vs) w/\Rep I σ.own θ w (.agg vs) (.agg (UC n f)):=by
 obtain⟨g,c,OF,he,hg,hh,hi,hmc,hcm,hcs,hf,hr,hI⟩:=jk h By hx hn;subst hn;have hle:n*sz<=c*sz:=Hp _ hmc
 have ab0:∀ k,k<n*sz->w.cell? ⟨g,k,none⟩=some _:=λk hk=>by
  rw[Ot w g _ OF e _ hh];exact O1 (by omega)
 have hl:=NT hf;refine⟨_,he,_,N7 ht ab7 _ (λk=>OF.getD k _) (λk hk=>by rw[Ux];simpa using ab0 k (by omega)),.agg _ _ (by simp[hl,hsz]) (λk hk=>?_) (λk hk=>?_)⟩
 ·rw[hl]at hk;rw[Pj _ _ _ (by omega)];obtain⟨h1,h2,h3⟩:=bR hk;have:=(hr _ _ h1 h2).1;rwa[h3]at this
 ·rw[hl]at hk;rw[Pj _ _ _ (by omega)];obtain⟨h1,h2,h3⟩:=bR hk;have h4:=(hr _ _ h1 h2).2;have h5:=bU hf _ _ h1 h2;rw[h3]at h4 h5;rw[h5];exact h4
theorem fX(h:Rel Γ σ I θ a w)(hd:∀ d,o.dst=some d->d<Γ.n){vs:List AV}(hvs:RepL I σ.own θ w (o.op.operands.toList.map a.eval) vs)(hes:es=(J9 o vs).map σ.own)
  {e:Eff} (he:rR P o vs es=some e) (hob:∀ p∈e.ob,p):Hq P Γ σ o a w e.v e.wo:=by
 unfold rR at he
 split at he
 ·simp at he
end
section
variable {P:Program} {Γ:Ip} {σ:Sto} {I:Nat->Nat->Prop} {θ:Nat->Option (Nat×Nat)} {a:Act} {w:World} {o:Oper}
theorem fb(h:Rel Γ σ I θ a w)(hd:∀ d,o.dst=some d->d<Γ.n){vs:List AV}(hvs:RepL I σ.own θ w (o.op.operands.toList.map a.eval) vs)(hes:es=(J9 o vs).map σ.own)
   {e:Eff} (he:rV P ac9 o vs es=some e) (hob:∀ p∈e.ob,p):Hq P Γ σ o a w e.v e.wo:=by
 unfold rV at he
 split at he
 ·
  rename_i t x y ho
  simp only[ho,Op.operands,Db,K8]at hvs;obtain⟨u,hu',hu⟩:=hvs.one;simp only[Hg,Ih]at hu';subst hu'
  cases h2:Nat.beq ac9 2 with
  | true=>
   simp only[h2,Ah]at he
   split at he
   ·simp at he
   ·split at he
    ·rename_i cs hcs
     simp only[Eff.pure,Ax]at he;subst he;have hc:=Rl hcs hu;have kc:=JV h.chg.rel h.chg.valid (a.eval x).cells t;refine T5 h hd (v:=.pointer (some ⟨w.heap.size,0,none⟩)) (w':=w.alloc (.cells (a.eval x).cells t)) ?_ kc ?_
     ·simp[execOp,ho,Instr.box,newVar,newRow]
     ·have ab0:∀ j,j<cs.length->(w.alloc (.cells (a.eval x).cells t)).cell? ⟨w.heap.size,0+j,none⟩=some ((a.eval x).cells.getD j undef):=λj hj=>by
       have hj':j<(a.eval x).cells.size:=by rw[hc.size];exact hj
       rw[Ot _ _ _ (a.eval x).cells t (0,0) (JF w _),Ke];simp[Array.getD,hj']
      exact .rpo _ _ (λj=>(a.eval x).cells.getD j undef) rfl (λj hj=>.inr ⟨rfl,by rw[hc.size];show 0+j<_;omega⟩) ab0 hc.one (λj hj=>(hc.rep j hj).chg kc)
    ·simp at he
  | false=>
   simp only[h2,Ar]at he
   cases h3:Nat.beq ac9 3 with
   | false=>simp[h3]at he
   | true=>
    simp only[h3,Ah]at he
    split at he
    ·rename_i cs hcs
     simp only[Eff.pure,Ax]at he;subst he;have hc:=Rl hcs hu;have kc:=JV h.chg.rel h.chg.valid (a.eval x).cells t;refine T5 h hd (v:=.pointer (some ⟨w.heap.size,0,none⟩)) (w':=w.alloc (.cells (a.eval x).cells t)) ?_ kc ?_
     ·simp[execOp,ho,Instr.box,newVar,newRow]
     ·have hl:(AV.stripAll cs).length=cs.length:=Bh cs
      have ab0:∀ j,j<(AV.stripAll cs).length->(w.alloc (.cells (a.eval x).cells t)).cell? ⟨w.heap.size,0+j,none⟩=some ((a.eval x).cells.getD j undef):=λj hj=>by
       have hj':j<(a.eval x).cells.size:=by rw[hc.size,<- hl];exact hj
       rw[Ot _ _ _ (a.eval x).cells t (0,0) (JF w _),Ke];simp[Array.getD,hj']
      exact .val _ _ (.rptr _ _ (λj=>(a.eval x).cells.getD j undef) rfl (λj hj=>.inr ⟨rfl,by rw[hc.size,<- hl];show 0+j<_;omega⟩) ab0 (λj hj=>hc.one j (by omega)) (λj hj=>by
       rw[E0]
       exact((hc.rep j (by omega)).chg kc).strip))
    ·simp at he
 ·
  rename_i t x cells ho
  simp only[ho,Op.operands,Db,K8]at hvs;obtain⟨u,hu',hu⟩:=hvs.one;simp only[Hg,Ih]at hu';subst hu'
  cases hb:(Dg P t&&!F8 P t&&Nat.ble 1 cells.length) with
  | false=>simp[hb]at he
  | true=>
   simp only[hb,Ah,Eff.pure,Ax]at he;subst he;simp only[Az,Qr]at hb;obtain⟨⟨ht,ab7⟩,hle⟩:=hb;have hle:=N9 hle;obtain⟨ad,us,he,hs,_,hc,h1,ab8⟩:=hu.rpo_inv;have hc0:=hc 0 (by omega);rw[W5]at hc0
   have e:(⟨ad.block,ad.off,none⟩:Addr)=ad:=by cases ad;simp_all
   rw[e]at hc0;have hr:=N8 (P:=P) ht ab7 ad _ hc0;refine Bv h hd (v:=us 0) ?_ (ab8 0 (by omega));simp only[execOp,ho,he,Instr.loadAt,Instr.sureAddr,Fh,Jv,Gz,hr]
 ·simp at he
end
section
variable {P:Program} {Γ:Ip} {σ:Sto} {I:Nat->Nat->Prop} {θ:Nat->Option (Nat×Nat)} {a:Act} {w:World} {o:Oper}
theorem bG{t':TypeId}(h:bF P t t' e=true):t'=t/\∃ i z,P.info? e=some i/\i.zero=some z/\z.cells.size=i.size/\i.bytes<=128/\Bt P e=i.size:=by
 simp only[bF,Az]at h;obtain⟨⟨⟨⟨⟨htt,hT⟩,hs1⟩,hby⟩,hzz⟩,hzs⟩:=h;obtain rfl:=Ez htt;obtain⟨i,dd,hi,_,hsi⟩:=LU hT;obtain⟨z,hz⟩:=zzL92.1 hzz;simp only[hi]at hz;simp only[hi,   hz]at hby hzs;have hzq:=Ez hzs;rw[hsi]at hzq;exact⟨rfl,i,z,hi,hz,hzq,N9 hby,hsi⟩
theorem rP{b:Go.Builtin}(ho:o.op = .call { callee:=.builtin b,args:=xs,argTypes:=ts })(hvs:RepL I σ.own θ w (o.op.operands.toList.map a.eval) [u]) :
  ∃ x,xs.toList=[x]/\Rep I σ.own θ w (a.eval x) u:=by
 have:o.op.operands.toList.map a.eval=xs.toList.map a.eval:=by rw[ho];simp[Op.operands,Call.operands]
 rw[this]at hvs
 cases hl:xs.toList with
 | nil=>rw[hl]at hvs;cases hvs
 | cons x l=>
  rw[hl]at hvs
  cases hvs with|cons h t=>cases l with
   | nil=>exact⟨x,rfl,h⟩
   | cons _ _=>cases t
theorem TK{b:Go.Builtin}(ho:o.op = .call { callee:=.builtin b,args:=xs,argTypes:=ts }){v:AV}(hvs:RepL I σ.own θ w (o.op.operands.toList.map a.eval) [u,v]) :
  ∃ x y,xs.toList=[x,y]/\Rep I σ.own θ w (a.eval x) u/\Rep I σ.own θ w (a.eval y) v:=by
 have:o.op.operands.toList.map a.eval=xs.toList.map a.eval:=by rw[ho];simp[Op.operands,Call.operands]
 rw[this]at hvs
 cases hl:xs.toList with
 | nil=>rw[hl]at hvs;cases hvs
 | cons x l=>
  rw[hl]at hvs
  cases hvs with|cons h t=>cases l with
   | nil=>cases t
   | cons y l=>cases t with|cons h2 t2=>cases l with
    | nil=>grind
    | cons _ _=>cases t2
theorem fa(h:Rel Γ σ I θ a w)(hd:∀ d,o.dst=some d->d<Γ.n){vs:List AV}(hvs:RepL I σ.own θ w (o.op.operands.toList.map a.eval) vs)(hes:es=(J9 o vs).map σ.own){ac9:Bool}
  {e:Eff} (he:rU P ac9 o vs es=some e) (hob:∀ p∈e.ob,p):Hq P Γ σ o a w e.v e.wo:=by
 unfold rU at he
 split at he
 ·
  rename_i t x nm n i j sz e0 m f ho
  simp only[ho,Op.operands,Db,K8]at hvs;obtain⟨u,hu',hu⟩:=hvs.one;simp only[Hg,Ih]at hu';subst hu'
  have By:σ.own nm=some (.arr sz e0 m f):=by simpa [J9,ho] using hes.symm
  cases hT:Dg P t with
  | false=>simp[hT]at he
  | true=>
   simp only[hT,Ah]at he
   cases ab7:F8 P t with
   | true=>
    simp only[ab7,Ah]at he
    cases hb:Nat.ble (j+Bt P t) sz with
    | false=>simp[hb]at he
    | true=>
     simp only[hb,Ah,Eff.pure,Ax]at he;subst he;exact(QT (P:=P) h hd ho hT hu By (hob _ (by simp))).1 ab7 (N9 hb)
   | false=>
    simp only[ab7,Ar]at he
    cases hb:Nat.blt j sz with
    | false=>simp[hb]at he
    | true=>
     simp only[hb,Ah,Eff.pure,Ax]at he;subst he;exact(QT (P:=P) h hd ho hT hu By (hob _ (by simp))).2 ab7 (by simpa [Nc] using hb)
 ·
  rename_i t x y nm n i j z sz e0 m f ho
  simp only[ho,Op.operands,Db,K8]at hvs;obtain⟨u,v,hu',hu,hv⟩:=hvs.two;simp only[Hg,Ih]at hu';obtain⟨rfl,rfl⟩:=hu'
  have By:σ.own nm=some (.arr sz e0 m f):=by simpa [J9,ho] using hes.symm
  split at he
  ·rename_i cs hc
   cases hb:(Dg P t&&Nat.beq cs.length (Bt P t)&&Nat.ble (j+cs.length) sz) with
   | false=>simp[hb]at he
   | true=>
    simp only[hb,Ah,Ax]at he;subst he;simp only[Az]at hb;exact dj h hd ho hb.1.1 hu hv By (hob _ (by simp)) hc (Ez hb.1.2) (N9 hb.2)
  ·simp at he
 ·
  rename_i s x k nm n i j ho
  simp only[ho,Op.operands,Db,K8]at hvs;obtain⟨u,hu',hu⟩:=hvs.one;simp only[Hg,Ih]at hu';subst hu'
  split at he
  ·rename_i ab6 hs
   split at he
   ·rename_i fd hf
    cases hb:(Dg P fd.type&&Nat.ble 1 (Bt P fd.type)) with
    | false=>simp[hb]at he
    | true=>
     simp only[hb,Ah,Eff.pure,Ax]at he;subst he;simp only[Az]at hb;exact OM h hd ho hs hf hb.1 (N9 hb.2) hu
   ·simp at he
  ·simp at he
 ·
  rename_i t x y nm n k i sz e0 m f ho
  simp only[ho,Op.operands,Db,K8]at hvs;obtain⟨u,v,hu',hu,hv⟩:=hvs.two;simp only[Hg,Ih]at hu';obtain⟨rfl,rfl⟩:=hu'
  have By:σ.own nm=some (.arr sz e0 m f):=by simpa [J9,ho] using hes.symm
  split at he
  ·rename_i e1 hun
   cases hb:(Dg P e1&&Nat.beq sz (Bt P e1)) with
   | false=>simp[hb]at he
   | true=>
    simp only[hb,Ah,Eff.pure,Ax]at he;subst he;simp only[Az]at hb;exact dg h hd ho hun hb.1 hu hv (hob _ (by simp)) ⟨sz,e0,m,f,By,Ez hb.2⟩
  ·simp at he
 ·
  rename_i t y lo hi mx x vs' sz e0 m f ho
  split at he
  ·rename_i e1 hun
   cases hb:Nat.beq sz (Bt P e1) with
   | false=>simp[hb]at he
   | true=>
    simp only[hb,Ah]at he;have hs:=Ez hb
    have ae5:RepL I σ.own θ w ([a.eval y]++(lo.map a.eval).toList++(hi.map a.eval).toList++(mx.map a.eval).toList) (x::vs'):=by
     have:o.op.operands.toList.map a.eval=[a.eval y]++(lo.map a.eval).toList++(hi.map a.eval).toList++(mx.map a.eval).toList:=by
      rw[ho];cases lo<;>cases hi<;>cases mx<;>simp[Op.operands]
     rwa[this]at hvs
    obtain⟨h1,h2⟩:=yD h hd ho hun ae5 he hob (λnm n l0 h0 hv=>by
     have:J9 o (x::vs')=[nm]:=by
      cases x<;>simp[AV.view]at hv
      ·obtain⟨rfl,rfl,rfl,rfl⟩:=hv;simp[J9,ho]
      ·obtain⟨rfl,rfl,rfl,rfl⟩:=hv;simp[J9,ho]
     rw[this]at hes;simp at hes
     exact⟨sz,e0,m,f,hes.symm,hs⟩)
    rw[h1];exact h2
  ·simp at he
 ·
  rename_i xs ts x y ho
  unfold zC at he
  split at he
  ·rename_i t t' nm n lo hi hts al0
   split at he
   ·rename_i e1 sz e0 m f es' hun
    cases hb:(Dg P e1&&Nat.beq sz (Bt P e1)) with
    | false=>simp[hb]at he
    | true=>
     simp only[hb,Ah]at he;simp only[Az]at hb;have hs:=Ez hb.2;obtain⟨p,q,hx,hu,hv⟩:=TK ho hvs
     obtain rfl:ts = #[t,t']:=by apply Wy;simpa using hts
     obtain rfl:xs = #[p,q]:=by apply Wy;simpa using hx
     have hneed:J9 o [x,y]=[nm]++Zy y:=by simp[J9,ho,Zy,al0]
     rw[hneed]at hes;simp only[KN,Vi,Db,Hg]at hes;obtain⟨By,ai8⟩:=hes;have By:=By.symm
     split at he
     ·rename_i nm' n' lo' hi' sz' e2 m' f' hview'
      cases hb2:Nat.beq sz' sz with
      | false=>simp[hb2]at he
      | true=>
       simp only[hb2,Ah,Ax]at he;subst he;obtain rfl:=Ez hb2;simp[Zy,hview']at ai8;have ai8:=ai8.symm;obtain⟨_,_,_,_,ad',cap',hey,_⟩:=Ww h hview' hv;obtain⟨cs,hsrc⟩:=uL (P:=P) (k:=Nat.min (hi'-lo') (hi-lo)) h hview' hv ai8 (hob _ (by simp)) (Nat.min_le_left _ _);exact nB h hd ho hun hb.1 al0 hu By (hob _ (by simp)) hs hey hsrc
     ·split at he
      ·rename_i sz' n' f' tag _
       cases hb2:(Nat.beq sz' sz || Nat.beq n' 0) with
       | false=>simp[hb2]at he
       | true=>
        simp only[hb2,Ah,Ax]at he;subst he;have ab5:=hv.slice_val;obtain⟨_,ad',cap',us,hey,_⟩:=ab5.slice_inv;obtain⟨cs,hsrc⟩:=yV (P:=P) (σ:=σ) (θ:=θ) (sz:=sz) (k:=Nat.min n' (hi-lo)) (Nat.min_le_left _ _) (SB hb2) ab5;exact nB h hd ho hun hb.1 al0 hu By (hob _ (by simp)) hs hey hsrc
      ·simp at he
     ·simp at he
   ·simp at he
  ·simp at he
 ·
  rename_i vs es0 x0 vs0 es1 f first ac8 ho
  cases hb:Nat.beq vs.length (first.toList.length+ac8.toList.length) with
  | false=>rw[hb]at he;simp at he
  | true=>
   have IT:=Ez hb;simp only[hb,Ah,Eff.pure,Ax]at he;subst he
   have e1:o.op.operands.toList.map a.eval=first.toList.map a.eval++ac8.toList.map a.eval:=by rw[ho];simp[Op.operands]
   rw[e1]at hvs
   have ad3:∀{l:List Value} {m:List AV},RepL I σ.own θ w l m->∀ j,j<m.length->Rep I σ.own θ w (l.getD j undef) (m.getD j .any):=by
    intro l m h
    induction h with
    | nil=>intro j hj;simp at hj
    | cons h _ ih=>intro j hj;cases j with
     | zero=>simpa using h
     | succ j=>simpa using ih j (by simpa using hj)
   have hg:=ad3 hvs;refine Bv h hd (v:=.func (.func f) (first.map a.eval) (ac8.map a.eval)) (by simp[execOp,ho,Instr.makeFunc]) (.clo f _ _ _ _ (by simp at IT ⊢;omega) (by simp at IT ⊢;omega) (λj hj=>?_) (λj hj=>?_))
   ·simp only[ND]at hj;have:=hg j (by omega)
    have hj1:j<first.size:=by simp at hj;omega
    have e2:(first.toList.map a.eval++ac8.toList.map a.eval).getD j undef=(first.map a.eval).getD j undef:=by
     rw[List.getD,W0 (by simpa using hj1)];simp[Array.getD,hj1,List.getD]
    rw[e2]at this
    have hj2:j<first.toList.length:=by simpa using hj1
    rw[show(vs.take first.toList.length).getD j .any=vs.getD j .any by simp[List.getD,List.getElem?_take,hj1]];exact this
   ·simp only[GR]at hj;have:=hg (first.toList.length+j) (by omega)
    have hj1:j<ac8.size:=by simp at hj IT;omega
    have e2:(first.toList.map a.eval++ac8.toList.map a.eval).getD (first.toList.length+j) undef=(ac8.map a.eval).getD j undef:=by
     rw[List.getD,X2 (by simp)];simp[Array.getD,hj1,List.getD]
    rw[e2]at this;rw[show(vs.drop first.toList.length).getD j .any=vs.getD (first.toList.length+j) .any by simp[List.getD,XF]];exact this
 ·
  rename_i t x y k l k' c ho
  simp only[ho,Op.operands,Db,K8]at hvs;obtain⟨u,v,hu',hu,hv⟩:=hvs.two;simp only[Hg,Ih]at hu';obtain⟨rfl,rfl⟩:=hu'
  split at he
  ·rename_i d e0 ad0 hun
   have By:σ.own d=none:=by simpa [J9,ho,ad0] using hes.symm
   split at he
   ·rename_i z hz
    cases hb:(Dg P e0&&Nat.ble 1 (Bt P e0)&&Nat.beq z.length (Bt P e0)&&Nat.ble (((P.info? e0).map (·.bytes)).getD 1000) 128) with
    | false=>simp[hb]at he
    | true=>
     simp only[hb,Ah,Ax]at he;subst he;simp only[Az]at hb;exact yB h hd ho hun hb.1.1.1 hu hv ad0 By hz (N9 hb.1.1.2) (Ez hb.1.2) (N9 hb.2) (hob _ (by simp))
   ·simp at he
  ·simp at he
 ·
  rename_i xs ts nm n ho
  split at he
  ·rename_i t hts
   split at he
   ·rename_i e0 hun
    simp only[Eff.pure,Ax]at he;subst he;obtain⟨x,hx,hu⟩:=rP ho hvs;obtain⟨_,_,_,_,ad,cap,he,_⟩:=hu.vsl_inv
    obtain rfl:xs = #[x]:=by apply Wy;simpa using hx
    obtain rfl:ts = #[t]:=by apply Wy;simpa using hts
    exact Bv h hd (v:=.int .i64 n) (by simp[execOp,ho,resolve,invoke,builtin,Builtin.len_,he,F6 hun,goInt]) (.val _ _ (.int _ _))
   ·simp at he
  ·simp at he
 ·
  rename_i xs ts nm n sz' n' f' tag' sz0 e0 m f ho
  have By:σ.own nm=some (.arr sz0 e0 m f):=by simpa [J9,ho] using hes.symm
  split at he
  ·rename_i t t' hts
   split at he
   ·rename_i e1 hun
    cases hb:(bF P t t' e1&&(Nat.beq sz' (Bt P e1) || Nat.beq n' 0)&&Nat.beq sz0 (Bt P e1)&&Nat.beq e0 e1) with
    | false=>simp[hb]at he
    | true=>
     simp only[hb,Ah,Ax]at he;subst he;simp only[Az]at hb;obtain⟨⟨⟨hok,hsz'⟩,hsz0⟩,he0⟩:=hb;obtain⟨rfl,i,z,hi,hz,hzq,hby,hsi⟩:=bG hok;obtain rfl:=Ez he0;have hsz0:=Ez hsz0;rw[hsi]at hsz0 hsz';subst hsz0;obtain⟨x,y,hx,hu,hv⟩:=TK ho hvs;have hnm:n=m:=hob _ (by simp);have ab1:n+n'<=room:=hob _ (by simp);subst hnm;have hV':=MO hv.slice_val (SB hsz')
     obtain rfl:ts = #[t',t']:=by apply Wy;simpa using hts
     obtain rfl:xs = #[x,y]:=by apply Wy;simpa using hx
     obtain⟨v',w',θ',hr,hk,ab8⟩:=CO (P:=P) h o.type hun hi hz hzq hby hV' ab1 nm (.inr ⟨By,hu⟩);exact T5 (w':=w') h hd (v:=v') (by simp[execOp,ho,resolve,invoke,builtin,hr]) (by rw[Hd];exact hk) (by rw[Hd];exact ab8)
   ·simp at he
  ·simp at he
 ·
  rename_i xs ts sz n f sz' n' f' tag' ho
  split at he
  ·rename_i t t' d hts ad0
   have By:σ.own d=none:=by simpa [J9,ho,ad0] using hes.symm
   split at he
   ·rename_i e1 hun
    cases hb:(ac9&&bF P t t' e1&&(Nat.beq sz' (Bt P e1) || Nat.beq n' 0)&&Nat.beq n 0) with
    | false=>simp[hb]at he
    | true=>
     simp only[hb,Ah,Ax]at he;subst he;simp only[Az]at hb;obtain⟨⟨⟨_,hok⟩,hsz'⟩,hn0⟩:=hb;obtain⟨rfl,i,z,hi,hz,hzq,hby,hsi⟩:=bG hok;obtain rfl:=Ez hn0;rw[hsi]at hsz';obtain⟨x,y,hx,hu,hv⟩:=TK ho hvs;have ab1:n'<=room:=hob _ (by simp);have hV':=MO hv.slice_val (SB hsz')
     obtain rfl:ts = #[t',t']:=by apply Wy;simpa using hts
     obtain rfl:xs = #[x,y]:=by apply Wy;simpa using hx
     obtain⟨ad,hvx⟩:=hu.exact_inv;obtain⟨v',w',θ',hr,hk,ab8⟩:=CO (P:=P) (f:=f') h o.type hun hi hz hzq hby hV' (n:=0) (by omega) d (.inl ⟨By,rfl,ad,hvx⟩)
     have e1:Qi 0 f' f'=f':=by funext k;rw[Xh _ _ (DD _)];rfl
     rw[e1,Ke]at hk;rw[e1,Ke]at ab8;rw[hsi];exact T5 (w':=w') h hd (v:=v') (by simp[execOp,ho,resolve,invoke,builtin,hr]) (by rw[Hd];exact hk) (by rw[Hd];exact ab8)
   ·simp at he
  ·simp at he
 ·simp at he
theorem fc(h:Rel Γ σ I θ a w)(hd:∀ d,o.dst=some d->d<Γ.n){vs:List AV}(hvs:RepL I σ.own θ w (o.op.operands.toList.map a.eval) vs)(hes:es=(J9 o vs).map σ.own)
  {e:Eff} (he:rW P ac9 o vs es=some e) (hob:∀ p∈e.ob,p):Hq P Γ σ o a w e.v e.wo:=by
 unfold rW at he
 split at he
 ·rename_i e' he'
  simp only[Ax]at he;subst he;exact fb h hd hvs hes he' hob
 ·split at he
  ·rename_i e' he'
   simp only[Ax]at he;subst he;exact fa h hd hvs hes he' hob
  ·split at he
   ·rename_i e' he'
    simp only[Ax]at he;subst he;exact fY h hd hvs hes he' hob
   ·split at he
    ·rename_i e' he'
     simp only[Ax]at he;subst he;exact fZ h hd hvs hes he' hob
    ·split at he
     ·rename_i e' he'
      simp only[Ax]at he;subst he;exact fX h hd hvs hes he' hob
     ·exact jl h hd hvs hes he hob
end
end
end Go.Proofs.YthelaonnkkpbfaaGreat
