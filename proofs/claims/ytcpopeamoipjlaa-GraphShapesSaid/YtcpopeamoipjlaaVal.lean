/-
  What abstract values stand for in a world; what stays true as the world grows.
-/
import Derived.Test.YtcpopeamoipjlaaGlob
namespace Go.Proofs.Ytcpopeamoipjlaa
open Go Go.RowKit

/-- Names below this are written out; those from it on are of families. -/
def famB : Nat := 18446744073709551616
def big (b i : Nat) : Nat := famB * (b + 1) + i

/-- What is owned: a row whose cells may be written; a row that may be appended to (its first 'm' elements stay as they are). -/
inductive Own where
  | row (e : TypeId) (cells : List AV)
  | tok (sz : Nat) (e : TypeId) (m : Nat)
  /-- a row of 'm' elements that may be written and appended to -/
  | arr (sz : Nat) (e : TypeId) (m : Nat) (f : Nat → List AV)
  | obj (x : AObj)

/-- By value: 'I' tells which cells never change any more. -/
inductive RepV (I : Nat → Nat → Prop) (w : World) : Value → AV → Prop
  | any (v : Value) : RepV I w v .any
  | undef : RepV I w undef .undef
  | int (k : IntKind) (n : Int) : RepV I w (.int k n) (.int k n)
  | bool (b : Bool) : RepV I w (.bool b) (.bool b)
  | str (s : ByteArray) : RepV I w (.string s) (.str (bytesI s))
  | nilp : RepV I w (.pointer none) .nilp
  | clo (f : Nat) : RepV I w (.func (.func f) #[] #[]) (.clo f [] [])
  | nxt1 (i r : Int) : RepV I w (.tuple #[.bool true, .int .i64 i, .int .i32 r]) (.nxt true i r)
  | nxt0 (i r : Int) : RepV I w (.tuple #[.bool false]) (.nxt false i r)
  | nilq (b pos : Bool) (n : Nat) (h : b = pos → n = 0) : RepV I w (.bool b) (.nilq pos n)
  | err0 : RepV I w .nilIface (.err false)
  | err1 (t : TypeId) (v : Value) : RepV I w (.iface t v) (.err true)
  | cond (v : Value) (c : Bool) (x : AV) (h : c = true → RepV I w v x) (h' : c = false → v = Go.undef) : RepV I w v (.cond c x)
  | rptr (a : Addr) (cells : List AV) (us : Nat → Value) (hs : a.spot = none)
      (hI : ∀ j, j < cells.length → I a.block (a.off + j)) (hc : ∀ j, j < cells.length → w.cell? ⟨a.block, a.off + j, none⟩ = some (us j))
      (h1 : ∀ j, j < cells.length → (us j).oneCell' = true) (hr : ∀ j, j < cells.length → RepV I w (us j) (cells.getD j .any)) : RepV I w (.pointer (some a)) (.rptr cells)
  | slice (a : Option Addr) (n cap sz : Nat) (f : Nat → List AV) (us : Nat → Value) (hcap : n ≤ cap) (hmax : cap ≤ maxLen)
      (hz : 0 < n → ∃ b, a = some b ∧ b.spot = none ∧ (∀ j, j < n * sz → I b.block (b.off + j)) ∧ (∀ j, j < n * sz → w.cell? ⟨b.block, b.off + j, none⟩ = some (us j)))
      (hn : a = none → cap = 0)
      (h1 : ∀ j, j < n * sz → (us j).oneCell' = true)
      (hl : ∀ i, i < n → (f i).length = sz)
      (hr : ∀ i c, i < n → c < sz → RepV I w (us (i * sz + c)) ((f i).getD c .any)) : RepV I w (.slice a n cap) (.slice sz n f .none)
  | agg (vs : Array Value) (cs : List AV) (hl : vs.size = cs.length) (h1 : ∀ j, j < cs.length → (vs.getD j Go.undef).oneCell' = true)
      (hr : ∀ j, j < cs.length → RepV I w (vs.getD j Go.undef) (cs.getD j .any)) : RepV I w (.agg vs) (.agg cs)
  | tuple (vs : Array Value) (cs : List AV) (hl : vs.size = cs.length)
      (hr : ∀ j, j < cs.length → RepV I w (vs.getD j Go.undef) (cs.getD j .any)) : RepV I w (.tuple vs) (.tuple cs)

/-- Where a part of an owned row lies. -/
def VsubAt (t : Option (Nat × Nat)) (n lo hi sz : Nat) (a : Option Addr) (cap : Nat) : Prop :=
  (lo < hi → ∃ g c, t = some (g, c) ∧ a = some ⟨g, lo * sz, none⟩) ∧ (lo = 0 → match t with | none => cap = n | some (g, c) => a = some ⟨g, 0, none⟩ ∧ cap = c)

/-- With what is owned. 'θ': where an owned row lies, and its capacity (none: nowhere yet). -/
inductive Rep (I : Nat → Nat → Prop) (own : Nat → Option Own) (θ : Nat → Option (Nat × Nat)) (w : World) : Value → AV → Prop
  | val (v : Value) (x : AV) (h : RepV I w v x) : Rep I own θ w v x
  | exact (a : Option Addr) (n sz : Nat) (f : Nat → List AV) (h : RepV I w (.slice a n n) (.slice sz n f .none)) : Rep I own θ w (.slice a n n) (.slice sz n f .exact)
  | own (nm : Nat) (sz : Nat) (e : TypeId) (m : Nat) (a : Option Addr) (n cap : Nat) (f : Nat → List AV) (ho : own nm = some (.tok sz e m)) (hm : n ≤ m)
      (hv : n = m → match θ nm with | none => cap = n | some (g, c) => a = some ⟨g, 0, none⟩ ∧ cap = c)
      (h : RepV I w (.slice a n cap) (.slice sz n f .none)) : Rep I own θ w (.slice a n cap) (.slice sz n f (.own nm))
  | fam (b i : Nat) (sz : Nat) (e : TypeId) (m : Nat) (a : Option Addr) (n cap : Nat) (f : Nat → List AV) (hi : i < famB) (ho : own (big b i) = some (.tok sz e m)) (hm : n ≤ m)
      (hv : n = m → match θ (big b i) with | none => cap = n | some (g, c) => a = some ⟨g, 0, none⟩ ∧ cap = c)
      (h : RepV I w (.slice a n cap) (.slice sz n f .none)) : Rep I own θ w (.slice a n cap) (.slice sz n f (.fam b i))
  | ptr (nm off : Nat) (e : TypeId) (cells : List AV) (g c : Nat) (ho : own nm = some (.row e cells)) (hg : θ nm = some (g, c)) : Rep I own θ w (.pointer (some ⟨g, off, none⟩)) (.ptr nm off)
  | vsl (nm sz : Nat) (e : TypeId) (m : Nat) (f : Nat → List AV) (a : Option Addr) (n cap : Nat) (ho : own nm = some (.arr sz e m f)) (hm : n ≤ m) (hcap : n ≤ cap) (hmax : cap ≤ maxLen) (hn : a = none → cap = 0)
      (hv : n = m → match θ nm with | none => cap = n | some (g, c) => a = some ⟨g, 0, none⟩ ∧ cap = c) : Rep I own θ w (.slice a n cap) (.vsl nm n)
  | vpt (nm sz : Nat) (e : TypeId) (m : Nat) (f : Nat → List AV) (n i j : Nat) (ad : Addr) (ho : own nm = some (.arr sz e m f)) (hm : n ≤ m) (hi : i < n)
      (hv : n = m → ∃ g c, θ nm = some (g, c) ∧ ad = ⟨g, i * sz + j, none⟩) : Rep I own θ w (.pointer (some ad)) (.vpt nm n i j)
  | clo (f : Nat) (fs cs : Array Value) (xs ys : List AV) (hl : fs.size = xs.length) (hl' : cs.size = ys.length) (hr : ∀ j, j < xs.length → Rep I own θ w (fs.getD j Go.undef) (xs.getD j .any))
      (hr' : ∀ j, j < ys.length → Rep I own θ w (cs.getD j Go.undef) (ys.getD j .any)) : Rep I own θ w (.func (.func f) fs cs) (.clo f xs ys)
  | vsub (nm sz : Nat) (e : TypeId) (m : Nat) (f : Nat → List AV) (n lo hi : Nat) (a : Option Addr) (cap : Nat) (ho : own nm = some (.arr sz e m f)) (hm : n ≤ m) (hlo : lo ≤ hi) (hhi : hi ≤ n) (hcap : hi - lo ≤ cap) (hmax : cap ≤ maxLen) (hn : a = none → cap = 0)
      (hv : n = m → VsubAt (θ nm) n lo hi sz a cap) : Rep I own θ w (.slice a (hi - lo) cap) (.vsub nm n lo hi)
  | optr (nm : Nat) (x : AObj) (g c : Nat) (ho : own nm = some (.obj x)) (hg : θ nm = some (g, c)) : Rep I own θ w (.pointer (some ⟨g, 0, none⟩)) (.optr nm)
  | cond (v : Value) (c : Bool) (x : AV) (h : c = true → Rep I own θ w v x) (h' : c = false → v = Go.undef) : Rep I own θ w v (.cond c x)
  | agg (vs : Array Value) (cs : List AV) (hl : vs.size = cs.length) (h1 : ∀ j, j < cs.length → (vs.getD j Go.undef).oneCell' = true)
      (hr : ∀ j, j < cs.length → Rep I own θ w (vs.getD j Go.undef) (cs.getD j .any)) : Rep I own θ w (.agg vs) (.agg cs)
  | tuple (vs : Array Value) (cs : List AV) (hl : vs.size = cs.length)
      (hr : ∀ j, j < cs.length → Rep I own θ w (vs.getD j Go.undef) (cs.getD j .any)) : Rep I own θ w (.tuple vs) (.tuple cs)

theorem RepV.mono {I I' : Nat → Nat → Prop} {w w' : World} {v : Value} {x : AV} (h : RepV I w v x) (hI : ∀ b o, I b o → I' b o)
    (hw : ∀ b o, I b o → w'.cell? ⟨b, o, none⟩ = w.cell? ⟨b, o, none⟩) : RepV I' w' v x := by
  induction h with
  | any v => exact .any v
  | undef => exact .undef
  | int k n => exact .int k n
  | bool b => exact .bool b
  | str s => exact .str s
  | clo f => exact .clo f
  | nxt1 i r => exact .nxt1 i r
  | nxt0 i r => exact .nxt0 i r
  | nilq b pos n h => exact .nilq b pos n h
  | err0 => exact .err0
  | err1 t v => exact .err1 t v
  | nilp => exact .nilp
  | cond v c x _ h' ih => exact .cond v c x ih h'
  | rptr a cells us hs hI' hc h1 _ ih =>
    exact .rptr a cells us hs (fun j hj => hI _ _ (hI' j hj)) (fun j hj => (hw _ _ (hI' j hj)).trans (hc j hj)) h1 ih
  | slice a n cap sz f us hcap hmax hz hn h1 hl _ ih =>
    refine .slice a n cap sz f us hcap hmax (fun hp => ?_) hn h1 hl ih
    obtain ⟨b, hb, hs, hi, hc⟩ := hz hp
    exact ⟨b, hb, hs, fun j hj => hI _ _ (hi j hj), fun j hj => (hw _ _ (hi j hj)).trans (hc j hj)⟩
  | agg vs cs hl h1 _ ih => exact .agg vs cs hl h1 ih
  | tuple vs cs hl _ ih => exact .tuple vs cs hl ih

/-- What may become of something owned. -/
def OwnLe (o : Own) (t : Option (Nat × Nat)) (o' : Own) (t' : Option (Nat × Nat)) : Prop :=
  match o, o' with
  | .row e _, .row e' _ => e' = e ∧ t' = t
  | .tok sz e m, .tok sz' e' m' => sz' = sz ∧ e' = e ∧ m ≤ m' ∧ (m = m' → t' = t)
  | .arr sz e m _, .arr sz' e' m' _ => sz' = sz ∧ e' = e ∧ m ≤ m' ∧ (m = m' → t' = t)
  | .obj _, .obj _ => t' = t
  | _, _ => False

theorem OwnLe.refl (o : Own) (t : Option (Nat × Nat)) : OwnLe o t o t := by cases o <;> simp [OwnLe]

theorem Rep.mono {I I' : Nat → Nat → Prop} {own own' : Nat → Option Own} {θ θ' : Nat → Option (Nat × Nat)} {w w' : World} {v : Value} {x : AV}
    (h : Rep I own θ w v x) (hI : ∀ b o, I b o → I' b o) (hw : ∀ b o, I b o → w'.cell? ⟨b, o, none⟩ = w.cell? ⟨b, o, none⟩)
    (ho : ∀ nm o, own nm = some o → ∃ o', own' nm = some o' ∧ OwnLe o (θ nm) o' (θ' nm)) : Rep I' own' θ' w' v x := by
  induction h with
  | val v x h => exact .val v x (h.mono hI hw)
  | exact a n sz f h => exact .exact a n sz f (h.mono hI hw)
  | own nm sz e m a n cap f hn hm hv h =>
    obtain ⟨o', ho', hle⟩ := ho nm _ hn
    cases o' with
    | row e cells => exact hle.elim
    | arr => exact hle.elim
    | obj => exact hle.elim
    | tok sz' e' m' =>
      obtain ⟨rfl, rfl, hmm, hθ⟩ := hle
      refine .own nm _ _ m' a n cap f ho' (Nat.le_trans hm hmm) (fun he => ?_) (h.mono hI hw)
      have : m = m' := by omega
      rw [hθ this]
      exact hv (by omega)
  | fam b i sz e m a n cap f hi hn hm hv h =>
    obtain ⟨o', ho', hle⟩ := ho (big b i) _ hn
    cases o' with
    | row e cells => exact hle.elim
    | arr => exact hle.elim
    | obj => exact hle.elim
    | tok sz' e' m' =>
      obtain ⟨rfl, rfl, hmm, hθ⟩ := hle
      refine .fam b i _ _ m' a n cap f hi ho' (Nat.le_trans hm hmm) (fun he => ?_) (h.mono hI hw)
      have : m = m' := by omega
      rw [hθ this]
      exact hv (by omega)
  | ptr nm off e cells g c hn hg =>
    obtain ⟨o', ho', hle⟩ := ho nm _ hn
    cases o' with
    | tok => exact hle.elim
    | arr => exact hle.elim
    | obj => exact hle.elim
    | row e' cells' =>
      have e : θ' nm = θ nm := hle.2
      exact .ptr nm off e' cells' g c ho' (e.trans hg)
  | vsl nm sz e m f a n cap hn hm hcap hmax hnn hv =>
    obtain ⟨o', ho', hle⟩ := ho nm _ hn
    cases o' with
    | row e cells => exact hle.elim
    | tok => exact hle.elim
    | obj => exact hle.elim
    | arr sz' e' m' f' =>
      obtain ⟨rfl, rfl, hmm, hθ⟩ := hle
      refine .vsl nm _ _ m' f' a n cap ho' (Nat.le_trans hm hmm) hcap hmax hnn (fun he => ?_)
      have : m = m' := by omega
      rw [hθ this]
      exact hv (by omega)
  | vpt nm sz e m f n i j ad hn hm hi hv =>
    obtain ⟨o', ho', hle⟩ := ho nm _ hn
    cases o' with
    | row e cells => exact hle.elim
    | tok => exact hle.elim
    | obj => exact hle.elim
    | arr sz' e' m' f' =>
      obtain ⟨rfl, rfl, hmm, hθ⟩ := hle
      refine .vpt nm _ _ m' f' n i j ad ho' (Nat.le_trans hm hmm) hi (fun he => ?_)
      have : m = m' := by omega
      rw [hθ this]
      exact hv (by omega)
  | clo f fs cs xs ys hl hl' _ _ ih ih' => exact .clo f fs cs xs ys hl hl' ih ih'
  | optr nm x g c hn hg =>
    obtain ⟨o', ho', hle⟩ := ho nm _ hn
    cases o' with
    | row => exact hle.elim
    | tok sz' e' m' => exact hle.elim
    | arr sz' e' m' f' => exact hle.elim
    | obj x' => exact .optr nm x' g c ho' (by rw [hle, hg])
  | vsub nm sz e m f n lo hi a cap hn hm hlo hhi hcap hmax hnn hv =>
    obtain ⟨o', ho', hle⟩ := ho nm _ hn
    cases o' with
    | row e cells => exact hle.elim
    | tok => exact hle.elim
    | obj => exact hle.elim
    | arr sz' e' m' f' =>
      obtain ⟨rfl, rfl, hmm, hθ⟩ := hle
      refine .vsub nm _ _ m' f' n lo hi a cap ho' (Nat.le_trans hm hmm) hlo hhi hcap hmax hnn (fun he => ?_)
      have : m = m' := by omega
      rw [hθ this]
      exact hv (by omega)
  | cond v c x _ h' ih => exact .cond v c x ih h'
  | agg vs cs hl h1 _ ih => exact .agg vs cs hl h1 ih
  | tuple vs cs hl _ ih => exact .tuple vs cs hl ih

/-- Such a block, as it lies in the world. -/
inductive ObjR (I : Nat → Nat → Prop) (w : World) : Obj → AObj → Prop
  | iter (s : ByteArray) (p : Nat) : ObjR I w (.stringIter s p) (.iter (bytesI s) p)
theorem ObjR.mono {I I' : Nat → Nat → Prop} {w w' : World} {o : Obj} {x : AObj} (h : ObjR I w o x) (hI : ∀ b o, I b o → I' b o) (hw : ∀ b o, I b o → w'.cell? ⟨b, o, none⟩ = w.cell? ⟨b, o, none⟩) : ObjR I' w' o x := by
  cases h with
  | iter s p => exact .iter s p
/-- The owned rows as they lie in the world. -/
structure OwnRel (I : Nat → Nat → Prop) (own : Nat → Option Own) (θ : Nat → Option (Nat × Nat)) (w : World) : Prop where
  row : ∀ nm e cells, own nm = some (.row e cells) → ∃ g c vs, θ nm = some (g, c) ∧ w.heap[g]? = some (.cells vs e (0, 0)) ∧ vs.size = cells.length ∧
    (∀ j, j < cells.length → (vs.getD j undef).oneCell' = true) ∧ (∀ j, j < cells.length → Rep I own θ w (vs.getD j undef) (cells.getD j .any)) ∧ ∀ j, ¬ I g j
  tok : ∀ nm sz e m, own nm = some (.tok sz e m) → ∀ g c, θ nm = some (g, c) → ∃ cur fz, w.heap[g]? = some (.cells cur e (0, fz)) ∧ m ≤ c ∧ c ≤ maxLen ∧ cur.size = c * sz ∧ fz ≤ m * sz ∧ ∀ j, I g j → j < m * sz
  inj : ∀ nm nm' g c c', own nm ≠ none → own nm' ≠ none → θ nm = some (g, c) → θ nm' = some (g, c') → nm = nm'
  arr : ∀ nm sz e m f, own nm = some (.arr sz e m f) → (θ nm = none → m = 0) ∧ ∀ g c, θ nm = some (g, c) → ∃ cur, w.heap[g]? = some (.cells cur e (0, 0)) ∧ m ≤ c ∧ c ≤ maxLen ∧ cur.size = c * sz ∧
    (∀ i, i < m → (f i).length = sz) ∧ (∀ i j, i < m → j < sz → (cur.getD (i * sz + j) undef).oneCell' = true ∧ Rep I own θ w (cur.getD (i * sz + j) undef) ((f i).getD j .any)) ∧ ∀ j, ¬ I g j
  obj : ∀ nm x, own nm = some (.obj x) → ∃ g c o, θ nm = some (g, c) ∧ w.heap[g]? = some o ∧ ObjR I w o x ∧ ∀ j, ¬ I g j
  tok8 : ∀ nm sz m, own nm = some (.tok sz tokU8 m) → θ nm = none → m = 0

theorem obj_map {I I' : Nat → Nat → Prop} {θ θ' : Nat → Option (Nat × Nat)} {w w' : World} {nm nm' : Nat} {x : AObj} (h : ∃ g c o, θ nm = some (g, c) ∧ w.heap[g]? = some o ∧ ObjR I w o x ∧ ∀ j, ¬ I g j)
    (hθ : θ' nm' = θ nm) (hh : ∀ g c, θ nm = some (g, c) → w'.heap[g]? = w.heap[g]?) (hI : ∀ g c j, θ nm = some (g, c) → I' g j → I g j) (hm : ∀ o, ObjR I w o x → ObjR I' w' o x) :
    ∃ g c o, θ' nm' = some (g, c) ∧ w'.heap[g]? = some o ∧ ObjR I' w' o x ∧ ∀ j, ¬ I' g j := by
  obtain ⟨g, c, o, h1, h2, h3, h4⟩ := h
  exact ⟨g, c, o, hθ.trans h1, (hh g c h1).trans h2, hm o h3, fun j hj => h4 j (hI g c j h1 hj)⟩
theorem arr_map {I I' : Nat → Nat → Prop} {own own' : Nat → Option Own} {θ θ' : Nat → Option (Nat × Nat)} {w w' : World} {nm nm' sz m : Nat} {e : TypeId} {f f' : Nat → List AV}
    (h : (θ nm = none → m = 0) ∧ ∀ g c, θ nm = some (g, c) → ∃ cur, w.heap[g]? = some (.cells cur e (0, 0)) ∧ m ≤ c ∧ c ≤ maxLen ∧ cur.size = c * sz ∧
      (∀ i, i < m → (f i).length = sz) ∧ (∀ i j, i < m → j < sz → (cur.getD (i * sz + j) undef).oneCell' = true ∧ Rep I own θ w (cur.getD (i * sz + j) undef) ((f i).getD j .any)) ∧ ∀ j, ¬ I g j)
    (hθ : θ' nm' = θ nm) (hh : ∀ g c, θ nm = some (g, c) → w'.heap[g]? = w.heap[g]?) (hI : ∀ g c j, θ nm = some (g, c) → I' g j → I g j) (hf : ∀ i, i < m → (f' i).length = (f i).length)
    (hr : ∀ v i j, i < m → j < sz → Rep I own θ w v ((f i).getD j .any) → Rep I' own' θ' w' v ((f' i).getD j .any)) :
    (θ' nm' = none → m = 0) ∧ ∀ g c, θ' nm' = some (g, c) → ∃ cur, w'.heap[g]? = some (.cells cur e (0, 0)) ∧ m ≤ c ∧ c ≤ maxLen ∧ cur.size = c * sz ∧
      (∀ i, i < m → (f' i).length = sz) ∧ (∀ i j, i < m → j < sz → (cur.getD (i * sz + j) undef).oneCell' = true ∧ Rep I' own' θ' w' (cur.getD (i * sz + j) undef) ((f' i).getD j .any)) ∧ ∀ j, ¬ I' g j := by
  rw [hθ]
  refine ⟨h.1, fun g c hg => ?_⟩
  obtain ⟨cur, q1, q2, q3, q4, q5, q6, q7⟩ := h.2 g c hg
  exact ⟨cur, (hh g c hg).trans q1, q2, q3, q4, fun i hi => (hf i hi).trans (q5 i hi), fun i j hi hj => ⟨(q6 i j hi hj).1, hr _ i j hi hj (q6 i j hi hj).2⟩, fun j hj => q7 j (hI g c j hg hj)⟩

/-- From one world, with what is owned in it, to a later one. -/
structure Chg (own : Nat → Option Own) (θ : Nat → Option (Nat × Nat)) (I : Nat → Nat → Prop) (w : World)
    (own' : Nat → Option Own) (θ' : Nat → Option (Nat × Nat)) (I' : Nat → Nat → Prop) (w' : World) : Prop where
  imm : ∀ b o, I b o → I' b o
  cell : ∀ b o, I b o → w'.cell? ⟨b, o, none⟩ = w.cell? ⟨b, o, none⟩
  le : ∀ nm o, own nm = some o → ∃ o', own' nm = some o' ∧ OwnLe o (θ nm) o' (θ' nm)
  rel : OwnRel I' own' θ' w'
  valid : ∀ b o, I' b o → ∃ u, w'.cell? ⟨b, o, none⟩ = some u
  os : w'.os = w.os
  tape : w'.tape = w.tape
  output : w'.output = w.output
  grow : w.heap.size ≤ w'.heap.size
  frame : ∀ b, b < w.heap.size → (∀ nm c, own nm ≠ none → θ nm ≠ some (b, c)) → w'.heap[b]? = w.heap[b]?
  new : ∀ nm g c, own' nm ≠ none → θ' nm = some (g, c) → w.heap.size ≤ g ∨ ∃ nm' c', own nm' ≠ none ∧ θ nm' = some (g, c')
  immNew : ∀ b o, I' b o → I b o ∨ w.heap.size ≤ b ∨ ∃ nm c, own nm ≠ none ∧ θ nm = some (b, c)

theorem OwnLe.trans {a b c : Own} {t u s : Option (Nat × Nat)} (h : OwnLe a t b u) (k : OwnLe b u c s) : OwnLe a t c s := by
  cases a <;> cases b <;> cases c <;> simp_all [OwnLe]
  all_goals
    refine ⟨Nat.le_trans h.2.2.1 k.2.2.1, fun he => ?_⟩
    rw [k.2.2.2 (by omega), h.2.2.2 (by omega)]

theorem Chg.refl {own : Nat → Option Own} {θ : Nat → Option (Nat × Nat)} {I : Nat → Nat → Prop} {w : World} (h : OwnRel I own θ w)
    (hv : ∀ b o, I b o → ∃ u, w.cell? ⟨b, o, none⟩ = some u) : Chg own θ I w own θ I w where
  imm _ _ h := h
  cell _ _ _ := rfl
  le _ o ho := ⟨o, ho, .refl _ _⟩
  rel := h
  valid := hv
  os := rfl
  tape := rfl
  output := rfl
  grow := Nat.le_refl _
  frame _ _ _ := rfl
  new nm _ c h h' := .inr ⟨nm, c, h, h'⟩
  immNew _ _ h := .inl h

theorem Chg.trans {o1 o2 o3 : Nat → Option Own} {t1 t2 t3 : Nat → Option (Nat × Nat)} {I1 I2 I3 : Nat → Nat → Prop} {w1 w2 w3 : World}
    (h : Chg o1 t1 I1 w1 o2 t2 I2 w2) (k : Chg o2 t2 I2 w2 o3 t3 I3 w3) : Chg o1 t1 I1 w1 o3 t3 I3 w3 where
  imm b o hi := k.imm b o (h.imm b o hi)
  cell b o hi := (k.cell b o (h.imm b o hi)).trans (h.cell b o hi)
  le nm o ho := by
    obtain ⟨o', ho', hl⟩ := h.le nm o ho
    obtain ⟨o'', ho'', hl'⟩ := k.le nm o' ho'
    exact ⟨o'', ho'', hl.trans hl'⟩
  rel := k.rel
  valid := k.valid
  os := k.os.trans h.os
  tape := k.tape.trans h.tape
  output := k.output.trans h.output
  grow := Nat.le_trans h.grow k.grow
  frame b hb hn := by
    refine (k.frame b (Nat.lt_of_lt_of_le hb h.grow) fun nm c ho ht => ?_).trans (h.frame b hb hn)
    rcases h.new nm b c ho ht with h' | ⟨nm', c', ho', ht'⟩
    · omega
    · exact hn nm' c' ho' ht'
  new nm g c ho ht := by
    rcases k.new nm g c ho ht with h' | ⟨nm', c', ho', ht'⟩
    · exact .inl (Nat.le_trans h.grow h')
    · exact h.new nm' g c' ho' ht'
  immNew b o hi := by
    rcases k.immNew b o hi with h' | h' | ⟨nm, c, ho, ht⟩
    · exact h.immNew b o h'
    · exact .inr (.inl (Nat.le_trans h.grow h'))
    · exact .inr (h.new nm b c ho ht)

theorem Rep.chg {own own' : Nat → Option Own} {θ θ' : Nat → Option (Nat × Nat)} {I I' : Nat → Nat → Prop} {w w' : World} {v : Value} {x : AV}
    (h : Rep I own θ w v x) (k : Chg own θ I w own' θ' I' w') : Rep I' own' θ' w' v x := h.mono k.imm k.cell k.le

/-- The package-level variables hold what is told of them, and that never changes any more. -/
def GOk (I : Nat → Nat → Prop) (w : World) : Prop := ∀ g cells, globA g = some cells → RepV I w (.pointer (some ⟨g, 0, none⟩)) (.rptr cells)

/-- What one activation begins with: the world, how many slots there are, what is owned, which cells are fixed. -/
structure Env where
  w0 : World
  n : Nat
  own0 : Nat → Option Own
  θ0 : Nat → Option (Nat × Nat)
  I0 : Nat → Nat → Prop
  glob : GOk I0 w0
  lt0 : ∀ nm, own0 nm ≠ none → nm < famB

/-- An abstract store. -/
structure Sto where
  tmp : Nat → AV
  own : Nat → Option Own

/-- The concrete state is as the store says. -/
structure Rel (Γ : Env) (σ : Sto) (I : Nat → Nat → Prop) (θ : Nat → Option (Nat × Nat)) (a : Act) (w : World) : Prop where
  size : a.tmps.size = Γ.n
  defers : a.defers = []
  slots : ∀ t, Rep I σ.own θ w (a.tmps.getD t undef) (σ.tmp t)
  chg : Chg Γ.own0 Γ.θ0 Γ.I0 Γ.w0 σ.own θ I w

theorem Rel.glob {Γ : Env} {σ : Sto} {I : Nat → Nat → Prop} {θ : Nat → Option (Nat × Nat)} {a : Act} {w : World} (h : Rel Γ σ I θ a w) : GOk I w := fun g cells hg => (Γ.glob g cells hg).mono h.chg.imm h.chg.cell

/-- What is told by 'y' is told by 'x', too. -/
def AVle (x y : AV) : Prop := ∀ (I : Nat → Nat → Prop) (own : Nat → Option Own) (θ : Nat → Option (Nat × Nat)) (w : World) (v : Value), Rep I own θ w v x → Rep I own θ w v y

/-! ### What is told of cells -/
theorem heap_lt {w : World} {g : Nat} {o : Obj} (h : w.heap[g]? = some o) : g < w.heap.size := by
  rcases Nat.lt_or_ge g w.heap.size with h' | h'
  · exact h'
  · rw [Array.getElem?_eq_none h'] at h; cases h

theorem cell_lt {w : World} {b o : Nat} {u : Value} (h : w.cell? ⟨b, o, none⟩ = some u) : b < w.heap.size := World.block_lt_of_cell? (a := ⟨b, o, none⟩) (h := h)

theorem RepV.slice_inv {I : Nat → Nat → Prop} {w : World} {v : Value} {sz n : Nat} {f : Nat → List AV} {t : Tag} (h : RepV I w v (.slice sz n f t)) :
    t = .none ∧ ∃ (a : Option Addr) (cap : Nat) (us : Nat → Value), v = .slice a n cap ∧ n ≤ cap ∧ cap ≤ maxLen ∧
      (0 < n → ∃ b, a = some b ∧ b.spot = none ∧ (∀ j, j < n * sz → I b.block (b.off + j)) ∧ (∀ j, j < n * sz → w.cell? ⟨b.block, b.off + j, none⟩ = some (us j))) ∧
      (a = none → cap = 0) ∧ (∀ j, j < n * sz → (us j).oneCell' = true) ∧ (∀ i, i < n → (f i).length = sz) ∧
      (∀ i c, i < n → c < sz → RepV I w (us (i * sz + c)) ((f i).getD c .any)) := by
  cases h with
  | slice a n cap sz f us hcap hmax hz hn h1 hl hr => exact ⟨rfl, a, cap, us, rfl, hcap, hmax, hz, hn, h1, hl, hr⟩

/-- Whatever the tag: by value. -/
theorem Rep.slice_val {I : Nat → Nat → Prop} {own : Nat → Option Own} {θ : Nat → Option (Nat × Nat)} {w : World} {v : Value} {sz n : Nat} {f : Nat → List AV} {t : Tag}
    (h : Rep I own θ w v (.slice sz n f t)) : RepV I w v (.slice sz n f .none) := by
  cases h with
  | val v x h => obtain ⟨rfl, _⟩ := h.slice_inv; exact h
  | exact a n sz f h => exact h
  | own nm sz e m a n cap f ho hm hv h => exact h
  | fam b i sz e m a n cap f hi ho hm hv h => exact h

theorem Rep.int_inv {I : Nat → Nat → Prop} {own : Nat → Option Own} {θ : Nat → Option (Nat × Nat)} {w : World} {v : Value} {k : IntKind} {n : Int}
    (h : Rep I own θ w v (.int k n)) : v = .int k n := by
  cases h with
  | val v x h => cases h; rfl
theorem Rep.bool_inv {I : Nat → Nat → Prop} {own : Nat → Option Own} {θ : Nat → Option (Nat × Nat)} {w : World} {v : Value} {b : Bool}
    (h : Rep I own θ w v (.bool b)) : v = .bool b := by
  cases h with
  | val v x h => cases h; rfl
theorem Rep.str_inv {I : Nat → Nat → Prop} {own : Nat → Option Own} {θ : Nat → Option (Nat × Nat)} {w : World} {v : Value} {s : List Int}
    (h : Rep I own θ w v (.str s)) : ∃ b, v = .string b ∧ bytesI b = s := by
  cases h with
  | val v x h => cases h; exact ⟨_, rfl, rfl⟩
theorem Rep.undef_inv {I : Nat → Nat → Prop} {own : Nat → Option Own} {θ : Nat → Option (Nat × Nat)} {w : World} {v : Value}
    (h : Rep I own θ w v .undef) : v = Go.undef := by
  cases h with
  | val v x h => cases h; rfl
theorem Rep.nilp_inv {I : Nat → Nat → Prop} {own : Nat → Option Own} {θ : Nat → Option (Nat × Nat)} {w : World} {v : Value}
    (h : Rep I own θ w v .nilp) : v = .pointer none := by
  cases h with
  | val v x h => cases h; rfl
theorem Rep.ptr_inv {I : Nat → Nat → Prop} {own : Nat → Option Own} {θ : Nat → Option (Nat × Nat)} {w : World} {v : Value} {nm off : Nat}
    (h : Rep I own θ w v (.ptr nm off)) : ∃ e cells g c, own nm = some (.row e cells) ∧ θ nm = some (g, c) ∧ v = .pointer (some ⟨g, off, none⟩) := by
  cases h with
  | val v x h => cases h
  | ptr nm off e cells g c ho hg => exact ⟨e, cells, g, c, ho, hg, rfl⟩
theorem Rep.optr_inv {I : Nat → Nat → Prop} {own : Nat → Option Own} {θ : Nat → Option (Nat × Nat)} {w : World} {v : Value} {nm : Nat}
    (h : Rep I own θ w v (.optr nm)) : ∃ x g c, own nm = some (.obj x) ∧ θ nm = some (g, c) ∧ v = .pointer (some ⟨g, 0, none⟩) := by
  cases h with
  | val v x h => cases h
  | optr nm x g c ho hg => exact ⟨x, g, c, ho, hg, rfl⟩
theorem Rep.nxt_inv {I : Nat → Nat → Prop} {own : Nat → Option Own} {θ : Nat → Option (Nat × Nat)} {w : World} {v : Value} {b : Bool} {i r : Int}
    (h : Rep I own θ w v (.nxt b i r)) : (b = true ∧ v = .tuple #[.bool true, .int .i64 i, .int .i32 r]) ∨ (b = false ∧ v = .tuple #[.bool false]) := by
  cases h with
  | val v x h => cases h with
    | nxt1 => exact .inl ⟨rfl, rfl⟩
    | nxt0 => exact .inr ⟨rfl, rfl⟩
theorem Rep.nilq_inv {I : Nat → Nat → Prop} {own : Nat → Option Own} {θ : Nat → Option (Nat × Nat)} {w : World} {v : Value} {pos : Bool} {n : Nat}
    (h : Rep I own θ w v (.nilq pos n)) : ∃ b, v = .bool b ∧ (b = pos → n = 0) := by
  cases h with
  | val v x h => cases h with
    | nilq b _ _ h => exact ⟨b, rfl, h⟩
theorem Rep.err_inv {I : Nat → Nat → Prop} {own : Nat → Option Own} {θ : Nat → Option (Nat × Nat)} {w : World} {v : Value} {b : Bool}
    (h : Rep I own θ w v (.err b)) : (b = false ∧ v = .nilIface) ∨ (b = true ∧ ∃ t x, v = .iface t x) := by
  cases h with
  | val v x h => cases h with
    | err0 => exact .inl ⟨rfl, rfl⟩
    | err1 t x => exact .inr ⟨rfl, t, x, rfl⟩
theorem Rep.vsl_inv {I : Nat → Nat → Prop} {own : Nat → Option Own} {θ : Nat → Option (Nat × Nat)} {w : World} {v : Value} {nm n : Nat}
    (h : Rep I own θ w v (.vsl nm n)) : ∃ sz e m f a cap, v = .slice a n cap ∧ own nm = some (.arr sz e m f) ∧ n ≤ m ∧ n ≤ cap ∧ cap ≤ maxLen ∧ (a = none → cap = 0) ∧
      (n = m → match θ nm with | none => cap = n | some (g, c) => a = some ⟨g, 0, none⟩ ∧ cap = c) := by
  cases h with
  | val v x h => cases h
  | vsl nm sz e m f a n cap ho hm hcap hmax hn hv => exact ⟨sz, e, m, f, a, cap, rfl, ho, hm, hcap, hmax, hn, hv⟩
theorem Rep.vpt_inv {I : Nat → Nat → Prop} {own : Nat → Option Own} {θ : Nat → Option (Nat × Nat)} {w : World} {v : Value} {nm n i j : Nat}
    (h : Rep I own θ w v (.vpt nm n i j)) : ∃ sz e m f ad, v = .pointer (some ad) ∧ own nm = some (.arr sz e m f) ∧ n ≤ m ∧ i < n ∧ (n = m → ∃ g c, θ nm = some (g, c) ∧ ad = ⟨g, i * sz + j, none⟩) := by
  cases h with
  | val v x h => cases h
  | vpt nm sz e m f n i j ad ho hm hi hv => exact ⟨sz, e, m, f, ad, rfl, ho, hm, hi, hv⟩
theorem Rep.vsub_inv {I : Nat → Nat → Prop} {own : Nat → Option Own} {θ : Nat → Option (Nat × Nat)} {w : World} {v : Value} {nm n lo hi : Nat}
    (h : Rep I own θ w v (.vsub nm n lo hi)) : ∃ sz e m f a cap, v = .slice a (hi - lo) cap ∧ own nm = some (.arr sz e m f) ∧ n ≤ m ∧ lo ≤ hi ∧ hi ≤ n ∧ hi - lo ≤ cap ∧ cap ≤ maxLen ∧ (a = none → cap = 0) ∧
      (n = m → VsubAt (θ nm) n lo hi sz a cap) := by
  cases h with
  | val v x h => cases h
  | vsub nm sz e m f n lo hi a cap ho hm hlo hhi hcap hmax hn hv => exact ⟨sz, e, m, f, a, cap, rfl, ho, hm, hlo, hhi, hcap, hmax, hn, hv⟩
theorem Rep.clo_inv {I : Nat → Nat → Prop} {own : Nat → Option Own} {θ : Nat → Option (Nat × Nat)} {w : World} {v : Value} {f : Nat} {xs ys : List AV}
    (h : Rep I own θ w v (.clo f xs ys)) : ∃ fs cs : Array Value, v = .func (.func f) fs cs ∧ fs.size = xs.length ∧ cs.size = ys.length ∧ (∀ j, j < xs.length → Rep I own θ w (fs.getD j Go.undef) (xs.getD j .any)) ∧ (∀ j, j < ys.length → Rep I own θ w (cs.getD j Go.undef) (ys.getD j .any)) := by
  cases h with
  | val v x h => cases h with | clo f => exact ⟨#[], #[], rfl, rfl, rfl, (fun j hj => by simp at hj), (fun j hj => by simp at hj)⟩
  | clo f fs cs xs ys hl hl' hr hr' => exact ⟨fs, cs, rfl, hl, hl', hr, hr'⟩
theorem Rep.rptr_inv {I : Nat → Nat → Prop} {own : Nat → Option Own} {θ : Nat → Option (Nat × Nat)} {w : World} {v : Value} {cells : List AV}
    (h : Rep I own θ w v (.rptr cells)) : ∃ (a : Addr) (us : Nat → Value), v = .pointer (some a) ∧ a.spot = none ∧ (∀ j, j < cells.length → I a.block (a.off + j)) ∧
      (∀ j, j < cells.length → w.cell? ⟨a.block, a.off + j, none⟩ = some (us j)) ∧ (∀ j, j < cells.length → (us j).oneCell' = true) ∧
      (∀ j, j < cells.length → RepV I w (us j) (cells.getD j .any)) := by
  cases h with
  | val v x h => cases h with | rptr a cells us hs hI hc h1 hr => exact ⟨a, us, rfl, hs, hI, hc, h1, hr⟩
theorem Rep.agg_inv {I : Nat → Nat → Prop} {own : Nat → Option Own} {θ : Nat → Option (Nat × Nat)} {w : World} {v : Value} {cs : List AV}
    (h : Rep I own θ w v (.agg cs)) : ∃ vs, v = .agg vs ∧ vs.size = cs.length ∧ (∀ j, j < cs.length → (vs.getD j Go.undef).oneCell' = true) ∧
      (∀ j, j < cs.length → Rep I own θ w (vs.getD j Go.undef) (cs.getD j .any)) := by
  cases h with
  | val v x h => cases h with | agg vs cs hl h1 hr => exact ⟨vs, rfl, hl, h1, fun j hj => .val _ _ (hr j hj)⟩
  | agg vs cs hl h1 hr => exact ⟨vs, rfl, hl, h1, hr⟩
theorem Rep.tuple_inv {I : Nat → Nat → Prop} {own : Nat → Option Own} {θ : Nat → Option (Nat × Nat)} {w : World} {v : Value} {cs : List AV}
    (h : Rep I own θ w v (.tuple cs)) : ∃ vs, v = .tuple vs ∧ vs.size = cs.length ∧
      (∀ j, j < cs.length → Rep I own θ w (vs.getD j Go.undef) (cs.getD j .any)) := by
  cases h with
  | val v x h => cases h with | tuple vs cs hl hr => exact ⟨vs, rfl, hl, fun j hj => .val _ _ (hr j hj)⟩
  | tuple vs cs hl hr => exact ⟨vs, rfl, hl, hr⟩
theorem Rep.cond_inv {I : Nat → Nat → Prop} {own : Nat → Option Own} {θ : Nat → Option (Nat × Nat)} {w : World} {v : Value} {c : Bool} {x : AV}
    (h : Rep I own θ w v (.cond c x)) : (c = true → Rep I own θ w v x) ∧ (c = false → v = Go.undef) := by
  cases h with
  | val v x h => cases h with | cond v c x h h' => exact ⟨fun hc => .val _ _ (h hc), h'⟩
  | cond v c x h h' => exact ⟨h, h'⟩

/-! ### By value: the tags are struck; what points into what is owned is forgotten -/
mutual
def AV.strip : AV → AV
  | .slice sz n f _ => .slice sz n f .none
  | .ptr _ _ => .any
  | .vsl _ _ => .any
  | .vpt _ _ _ _ => .any
  | .vsub _ _ _ _ => .any
  | .optr _ => .any
  | .clo f xs ys => match xs, ys with | [], [] => .clo f [] [] | _, _ => .any
  | .agg cs => .agg (AV.stripAll cs)
  | .tuple cs => .tuple (AV.stripAll cs)
  | .cond c x => .cond c x.strip
  | x => x
def AV.stripAll : List AV → List AV
  | [] => []
  | x :: l => x.strip :: AV.stripAll l
end
theorem stripAll_length (l : List AV) : (AV.stripAll l).length = l.length := by induction l with | nil => rfl | cons x l ih => simp [AV.stripAll, ih]
theorem stripAll_getD (l : List AV) (j : Nat) : (AV.stripAll l).getD j .any = (l.getD j .any).strip := by
  induction l generalizing j with
  | nil => simp [AV.stripAll, AV.strip]
  | cons x l ih => cases j with
    | zero => simp [AV.stripAll]
    | succ j => simpa [AV.stripAll] using ih j

theorem RepV.strip {I : Nat → Nat → Prop} {w : World} {v : Value} {x : AV} (h : RepV I w v x) : RepV I w v x.strip := by
  induction h with
  | any v => exact .any v
  | undef => exact .undef
  | int k n => exact .int k n
  | bool b => exact .bool b
  | str s => exact .str s
  | clo f => exact .clo f
  | nxt1 i r => exact .nxt1 i r
  | nxt0 i r => exact .nxt0 i r
  | nilq b pos n h => exact .nilq b pos n h
  | err0 => exact .err0
  | err1 t v => exact .err1 t v
  | nilp => exact .nilp
  | cond v c x _ h' ih => exact .cond v c _ ih h'
  | rptr a cells us hs hI' hc h1 hr _ => exact .rptr a cells us hs hI' hc h1 hr
  | slice a n cap sz f us hcap hmax hz hn h1 hl hr _ => exact .slice a n cap sz f us hcap hmax hz hn h1 hl hr
  | agg vs cs hl h1 _ ih => exact .agg vs _ (by rw [stripAll_length, hl]) (fun j hj => h1 j (by rwa [stripAll_length] at hj)) (fun j hj => by rw [stripAll_getD]; exact ih j (by rwa [stripAll_length] at hj))
  | tuple vs cs hl _ ih => exact .tuple vs _ (by rw [stripAll_length, hl]) (fun j hj => by rw [stripAll_getD]; exact ih j (by rwa [stripAll_length] at hj))
theorem Rep.strip {I : Nat → Nat → Prop} {own : Nat → Option Own} {θ : Nat → Option (Nat × Nat)} {w : World} {v : Value} {x : AV} (h : Rep I own θ w v x) : RepV I w v x.strip := by
  induction h with
  | val v x h => exact h.strip
  | exact a n sz f h => exact h
  | own nm sz e m a n cap f ho hm hv h => exact h
  | fam b i sz e m a n cap f hi ho hm hv h => exact h
  | ptr nm off e cells g c ho hg => exact .any _
  | vsl => exact .any _
  | vpt => exact .any _
  | clo f fs cs xs ys hl hl' _ _ ih ih' =>
    cases xs with
    | nil => cases ys with
      | nil =>
        obtain rfl : fs = #[] := by apply Array.eq_empty_of_size_eq_zero; simpa using hl
        obtain rfl : cs = #[] := by apply Array.eq_empty_of_size_eq_zero; simpa using hl'
        exact .clo f
      | cons _ _ => exact .any _
    | cons _ _ => exact .any _
  | vsub => exact .any _
  | optr => exact .any _
  | cond v c x _ h' ih => exact .cond v c _ ih h'
  | agg vs cs hl h1 _ ih => exact .agg vs _ (by rw [stripAll_length, hl]) (fun j hj => h1 j (by rwa [stripAll_length] at hj)) (fun j hj => by rw [stripAll_getD]; exact ih j (by rwa [stripAll_length] at hj))
  | tuple vs cs hl _ ih => exact .tuple vs _ (by rw [stripAll_length, hl]) (fun j hj => by rw [stripAll_getD]; exact ih j (by rwa [stripAll_length] at hj))

/-! ### Names that are forgotten -/
mutual
def AV.erase (keep : Nat → Bool) : AV → AV
  | .slice sz n f (.own nm) => .slice sz n f (bif keep nm then .own nm else .none)
  | .slice sz n f (.fam b i) => .slice sz n f (bif keep b then .fam b i else .none)
  | .ptr nm off => bif keep nm then .ptr nm off else .any
  | .vsl nm n => bif keep nm then .vsl nm n else .any
  | .vpt nm n i j => bif keep nm then .vpt nm n i j else .any
  | .vsub nm n lo hi => bif keep nm then .vsub nm n lo hi else .any
  | .optr nm => bif keep nm then .optr nm else .any
  | .clo f xs ys => .clo f (AV.eraseAll keep xs) (AV.eraseAll keep ys)
  | .agg cs => .agg (AV.eraseAll keep cs)
  | .tuple cs => .tuple (AV.eraseAll keep cs)
  | .cond c x => .cond c (x.erase keep)
  | x => x
def AV.eraseAll (keep : Nat → Bool) : List AV → List AV
  | [] => []
  | x :: l => x.erase keep :: AV.eraseAll keep l
end
theorem eraseAll_length (keep : Nat → Bool) (l : List AV) : (AV.eraseAll keep l).length = l.length := by induction l with | nil => rfl | cons x l ih => simp [AV.eraseAll, ih]
theorem eraseAll_getD (keep : Nat → Bool) (l : List AV) (j : Nat) : (AV.eraseAll keep l).getD j .any = (l.getD j .any).erase keep := by
  induction l generalizing j with
  | nil => simp [AV.eraseAll, AV.erase]
  | cons x l ih => cases j with
    | zero => simp [AV.eraseAll]
    | succ j => simpa [AV.eraseAll] using ih j
def Own.erase (keep : Nat → Bool) : Own → Own
  | .row e cells => .row e (AV.eraseAll keep cells)
  | .arr sz e m f => .arr sz e m (fun i => AV.eraseAll keep (f i))
  | .obj x => .obj x
  | .tok sz e m => .tok sz e m

theorem RepV.erase {I : Nat → Nat → Prop} {w : World} {v : Value} {x : AV} (h : RepV I w v x) (keep : Nat → Bool) : RepV I w v (x.erase keep) := by
  induction h with
  | any v => exact .any v
  | undef => exact .undef
  | int k n => exact .int k n
  | bool b => exact .bool b
  | str s => exact .str s
  | clo f => exact .clo f
  | nxt1 i r => exact .nxt1 i r
  | nxt0 i r => exact .nxt0 i r
  | nilq b pos n h => exact .nilq b pos n h
  | err0 => exact .err0
  | err1 t v => exact .err1 t v
  | nilp => exact .nilp
  | cond v c x _ h' ih => exact .cond v c _ ih h'
  | rptr a cells us hs hI' hc h1 hr _ => exact .rptr a cells us hs hI' hc h1 hr
  | slice a n cap sz f us hcap hmax hz hn h1 hl hr _ => exact .slice a n cap sz f us hcap hmax hz hn h1 hl hr
  | agg vs cs hl h1 _ ih => exact .agg vs _ (by rw [eraseAll_length, hl]) (fun j hj => h1 j (by rwa [eraseAll_length] at hj)) (fun j hj => by rw [eraseAll_getD]; exact ih j (by rwa [eraseAll_length] at hj))
  | tuple vs cs hl _ ih => exact .tuple vs _ (by rw [eraseAll_length, hl]) (fun j hj => by rw [eraseAll_getD]; exact ih j (by rwa [eraseAll_length] at hj))
theorem Rep.erase {I : Nat → Nat → Prop} {own own' : Nat → Option Own} {θ : Nat → Option (Nat × Nat)} {w : World} {v : Value} {x : AV} (h : Rep I own θ w v x) (keep : Nat → Bool)
    (ho : ∀ nm o, own nm = some o → keep nm = true → own' nm = some (o.erase keep)) (hb : ∀ b i sz e m, i < famB → own (big b i) = some (.tok sz e m) → keep b = true → own' (big b i) = some (.tok sz e m)) : Rep I own' θ w v (x.erase keep) := by
  induction h with
  | val v x h => exact .val _ _ (h.erase keep)
  | exact a n sz f h => exact .exact a n sz f h
  | own nm sz e m a n cap f hn hm hv h =>
    simp only [AV.erase]
    cases hk : keep nm with
    | true => exact .own nm sz e m a n cap f (ho nm _ hn hk) hm hv h
    | false => exact .val _ _ h
  | fam b i sz e m a n cap f hi hn hm hv h =>
    simp only [AV.erase]
    cases hk : keep b with
    | true => exact .fam b i sz e m a n cap f hi (hb b i _ _ _ hi hn hk) hm hv h
    | false => exact .val _ _ h
  | ptr nm off e cells g c hn hg =>
    simp only [AV.erase]
    cases hk : keep nm with
    | true => exact .ptr nm off e _ g c (ho nm _ hn hk) hg
    | false => exact .val _ _ (.any _)
  | vsl nm sz e m f a n cap hn hm hcap hmax hnn hv =>
    simp only [AV.erase]
    cases hk : keep nm with
    | true => exact .vsl nm sz e m _ a n cap (ho nm _ hn hk) hm hcap hmax hnn hv
    | false => exact .val _ _ (.any _)
  | vpt nm sz e m f n i j ad hn hm hi hv =>
    simp only [AV.erase]
    cases hk : keep nm with
    | true => exact .vpt nm sz e m _ n i j ad (ho nm _ hn hk) hm hi hv
    | false => exact .val _ _ (.any _)
  | clo f fs cs xs ys hl hl' _ _ ih ih' => exact .clo f fs cs _ _ (by rw [eraseAll_length, hl]) (by rw [eraseAll_length, hl']) (fun j hj => by rw [eraseAll_getD]; exact ih j (by rwa [eraseAll_length] at hj)) (fun j hj => by rw [eraseAll_getD]; exact ih' j (by rwa [eraseAll_length] at hj))
  | vsub nm sz e m f n lo hi a cap hn hm hlo hhi hcap hmax hnn hv =>
    simp only [AV.erase]
    cases hk : keep nm with
    | true => exact .vsub nm sz e m _ n lo hi a cap (ho nm _ hn hk) hm hlo hhi hcap hmax hnn hv
    | false => exact .val _ _ (.any _)
  | optr nm x g c hn hg =>
    simp only [AV.erase]
    cases hk : keep nm with
    | true => exact .optr nm x g c (ho nm _ hn hk) hg
    | false => exact .val _ _ (.any _)
  | cond v c x _ h' ih => exact .cond v c _ ih h'
  | agg vs cs hl h1 _ ih => exact .agg vs _ (by rw [eraseAll_length, hl]) (fun j hj => h1 j (by rwa [eraseAll_length] at hj)) (fun j hj => by rw [eraseAll_getD]; exact ih j (by rwa [eraseAll_length] at hj))
  | tuple vs cs hl _ ih => exact .tuple vs _ (by rw [eraseAll_length, hl]) (fun j hj => by rw [eraseAll_getD]; exact ih j (by rwa [eraseAll_length] at hj))

/-! ### Strings as numbers -/
theorem bytesI_length (s : ByteArray) : (bytesI s).length = s.size := by unfold bytesI; rw [List.length_map]; rfl
theorem bytesI_append (a b : ByteArray) : bytesI (a ++ b) = bytesI a ++ bytesI b := by unfold bytesI; rw [ByteArray.data_append, Array.toList_append, List.map_append]
theorem map_toNat_inj : ∀ {l m : List UInt8}, l.map (fun b => (b.toNat : Int)) = m.map (fun b => (b.toNat : Int)) → l = m
  | [], [], _ => rfl
  | [], _ :: _, h => by simp at h
  | _ :: _, [], h => by simp at h
  | x :: l, y :: m, h => by
    simp only [List.map_cons, List.cons.injEq] at h
    obtain ⟨h1, h2⟩ := h
    have : x = y := UInt8.toNat_inj.1 (by exact_mod_cast h1)
    rw [this, map_toNat_inj h2]
theorem bytesI_beq (a b : ByteArray) : (a.toList == b.toList) = (bytesI a == bytesI b) := by
  rw [ByteArray.toList_eq, ByteArray.toList_eq, Bool.eq_iff_iff, beq_iff_eq, beq_iff_eq]
  exact ⟨fun h => by rw [bytesI, bytesI, h], fun h => map_toNat_inj h⟩
theorem bytesI_byte (s : ByteArray) : ∀ x ∈ bytesI s, 0 ≤ x ∧ x < 256 := fun x hx => by
  obtain ⟨b, _, rfl⟩ := List.mem_map.1 hx
  have := b.toNat_lt
  omega
theorem bytesI_extract (s : ByteArray) (l h : Nat) : bytesI (s.extract l h) = ((bytesI s).drop l).take (h - l) := by
  unfold bytesI
  rw [ByteArray.data_extract, Array.toList_extract, List.extract_eq_take_drop, List.map_take, List.map_drop]
theorem bytesI_get (s : ByteArray) (i : Nat) (hi : i < s.size) : s[i]? = some s[i] ∧ ((s[i]).toNat : Int) = (bytesI s).getD i 0 := by
  refine ⟨by simp [hi], ?_⟩
  have h1 : i < (bytesI s).length := by rw [bytesI_length]; exact hi
  rw [List.getD_eq_getElem?_getD, List.getElem?_eq_getElem h1]
  simp [bytesI, ByteArray.getElem_eq_getElem_data]
def lessI : List Int → List Int → Bool
  | _, [] => false
  | [], _ :: _ => true
  | a :: x, b :: y => decide (a < b) || (a == b && lessI x y)
theorem lessI_eq : ∀ l m : List UInt8, Op.bytesLess l m = lessI (l.map fun b => (b.toNat : Int)) (m.map fun b => (b.toNat : Int))
  | l, [] => by cases l <;> rfl
  | [], _ :: _ => rfl
  | a :: x, b :: y => by
    simp only [Op.bytesLess, List.map_cons, lessI, lessI_eq x y]
    have e1 : decide (a < b) = decide ((a.toNat : Int) < (b.toNat : Int)) := by
      apply decide_eq_decide.2
      rw [UInt8.lt_iff_toNat_lt]
      omega
    have e2 : (a == b) = ((a.toNat : Int) == (b.toNat : Int)) := by
      rw [Bool.eq_iff_iff, beq_iff_eq, beq_iff_eq]
      exact ⟨fun h => by rw [h], fun h => UInt8.toNat_inj.1 (by exact_mod_cast h)⟩
    rw [e1, e2]
theorem bytesI_less (a b : ByteArray) : Op.bytesLess a.toList b.toList = lessI (bytesI a) (bytesI b) := by
  rw [ByteArray.toList_eq, ByteArray.toList_eq, lessI_eq]; rfl
end Go.Proofs.Ytcpopeamoipjlaa
