/-
  Operations that make or write memory: variables, stores, literals, cuts.
-/
import Derived.Test.YtcpopeamoipjlaaOpsB
namespace Go.Proofs.Ytcpopeamoipjlaa
open Go Go.RowKit

/-- Cells of a value. -/
structure CellsOK (I : Nat → Nat → Prop) (own : Nat → Option Own) (θ : Nat → Option (Nat × Nat)) (w : World) (vs : Array Value) (cs : List AV) : Prop where
  size : vs.size = cs.length
  one : ∀ j, j < cs.length → (vs.getD j undef).oneCell' = true
  rep : ∀ j, j < cs.length → Rep I own θ w (vs.getD j undef) (cs.getD j .any)

theorem one_sound {I : Nat → Nat → Prop} {own : Nat → Option Own} {θ : Nat → Option (Nat × Nat)} {w : World} {v : Value} {x : AV} (h1 : x.one = true) (h : Rep I own θ w v x) : v.oneCell' = true ∧ v.cells = #[v] := by
  cases x <;> simp [AV.one] at h1
  case int => obtain rfl := h.int_inv; exact ⟨rfl, rfl⟩
  case bool => obtain rfl := h.bool_inv; exact ⟨rfl, rfl⟩
  case str => obtain ⟨_, rfl, _⟩ := h.str_inv; exact ⟨rfl, rfl⟩
  case nilp => obtain rfl := h.nilp_inv; exact ⟨rfl, rfl⟩
  case err => rcases h.err_inv with ⟨_, rfl⟩ | ⟨_, _, _, rfl⟩ <;> exact ⟨rfl, rfl⟩
  case ptr => obtain ⟨_, _, _, _, _, _, rfl⟩ := h.ptr_inv; exact ⟨rfl, rfl⟩
  case vsl => obtain ⟨_, _, _, _, _, _, rfl, _⟩ := h.vsl_inv; exact ⟨rfl, rfl⟩
  case vpt => obtain ⟨_, _, _, _, _, rfl, _⟩ := h.vpt_inv; exact ⟨rfl, rfl⟩
  case clo => obtain ⟨_, _, rfl, _⟩ := h.clo_inv; exact ⟨rfl, rfl⟩
  case vsub => obtain ⟨_, _, _, _, _, _, rfl, _⟩ := h.vsub_inv; exact ⟨rfl, rfl⟩
  case rptr => obtain ⟨_, _, rfl, _⟩ := h.rptr_inv; exact ⟨rfl, rfl⟩
  case slice => obtain ⟨_, _, _, _, rfl, _⟩ := h.slice_val.slice_inv; exact ⟨rfl, rfl⟩

theorem cells_sound {I : Nat → Nat → Prop} {own : Nat → Option Own} {θ : Nat → Option (Nat × Nat)} {w : World} {v : Value} {x : AV} {cs : List AV} (hc : x.cells = some cs) (h : Rep I own θ w v x) : CellsOK I own θ w v.cells cs := by
  unfold AV.cells at hc
  split at hc
  · simp only [Option.some.injEq] at hc
    subst hc
    obtain ⟨vs, rfl, hl, h1, hr⟩ := h.agg_inv
    exact ⟨hl, h1, hr⟩
  · cases h1 : x.one with
    | false => simp [h1] at hc
    | true =>
      simp only [h1, cond_true, Option.some.injEq] at hc
      subst hc
      obtain ⟨ho, he⟩ := one_sound h1 h
      rw [he]
      refine ⟨rfl, fun j hj => ?_, fun j hj => ?_⟩ <;> obtain rfl : j = 0 := by simpa using hj
      · simpa using ho
      · simpa using h

theorem CellsOK.all {I : Nat → Nat → Prop} {own : Nat → Option Own} {θ : Nat → Option (Nat × Nat)} {w : World} {vs : Array Value} {cs : List AV} (h : CellsOK I own θ w vs cs) : ∀ v ∈ vs.toList, v.oneCell' = true := by
  intro v hv
  obtain ⟨j, hj, rfl⟩ := List.mem_iff_getElem.1 hv
  have := h.one j (by rw [← h.size]; simpa using hj)
  simpa [Array.getD, show j < vs.size by simpa using hj] using this

def thUp (θ : Nat → Option (Nat × Nat)) (d : Nat) (x : Option (Nat × Nat)) : Nat → Option (Nat × Nat) := fun nm => if nm = d then x else θ nm
def ownUp (own : Nat → Option Own) (d : Nat) (x : Own) : Nat → Option Own := fun nm => if nm = d then some x else own nm
theorem ownRel_upd {own own' : Nat → Option Own} {θ θ' : Nat → Option (Nat × Nat)} {I I' : Nat → Nat → Prop} {w w' : World} (h : OwnRel I own θ w) (sp : Nat → Prop)
    (hmono : ∀ v x, Rep I own θ w v x → Rep I' own' θ' w' v x)
    (hold : ∀ nm, ¬ sp nm → own' nm = own nm ∧ θ' nm = θ nm)
    (hblk : ∀ nm g c, ¬ sp nm → own nm ≠ none → θ nm = some (g, c) → w'.heap[g]? = w.heap[g]? ∧ ∀ j, I' g j → I g j)
    (hrow : ∀ nm e cells, sp nm → own' nm = some (.row e cells) → ∃ g c vs, θ' nm = some (g, c) ∧ w'.heap[g]? = some (.cells vs e (0, 0)) ∧ CellsOK I' own' θ' w' vs cells ∧ ∀ j, ¬ I' g j)
    (htok : ∀ nm sz e m, sp nm → own' nm = some (.tok sz e m) → ∀ g c, θ' nm = some (g, c) → ∃ cur fz, w'.heap[g]? = some (.cells cur e (0, fz)) ∧ m ≤ c ∧ c ≤ maxLen ∧ cur.size = c * sz ∧ fz ≤ m * sz ∧ ∀ j, I' g j → j < m * sz)
    (hinj : ∀ nm nm' g c c', sp nm → ¬ sp nm' → own' nm ≠ none → own nm' ≠ none → θ' nm = some (g, c) → θ nm' = some (g, c') → False)
    (hsp : ∀ nm nm', sp nm → sp nm' → nm = nm')
    (harr : ∀ nm sz e m f, sp nm → own' nm = some (.arr sz e m f) → (θ' nm = none → m = 0) ∧ ∀ g c, θ' nm = some (g, c) → ∃ cur, w'.heap[g]? = some (.cells cur e (0, 0)) ∧ m ≤ c ∧ c ≤ maxLen ∧ cur.size = c * sz ∧
      (∀ i, i < m → (f i).length = sz) ∧ (∀ i j, i < m → j < sz → (cur.getD (i * sz + j) undef).oneCell' = true ∧ Rep I' own' θ' w' (cur.getD (i * sz + j) undef) ((f i).getD j .any)) ∧ ∀ j, ¬ I' g j := by
        intro nm sz e m f hs ho; first | exact hs.elim | (subst hs; simp [ownUp] at ho))
    (hobj' : ∀ o x, ObjR I w o x → ObjR I' w' o x)
    (hobj : ∀ nm x, sp nm → own' nm = some (.obj x) → ∃ g c o, θ' nm = some (g, c) ∧ w'.heap[g]? = some o ∧ ObjR I' w' o x ∧ ∀ j, ¬ I' g j := by
        intro nm x hs ho; first | exact hs.elim | (subst hs; simp [ownUp] at ho))
    (htok8 : ∀ nm sz m, sp nm → own' nm = some (.tok sz tokU8 m) → θ' nm = none → m = 0 := by
        intro nm sz m hs ho; first | exact hs.elim | (subst hs; simp [ownUp] at ho)) : OwnRel I' own' θ' w' := by
  refine ⟨fun nm e cells ho => ?_, fun nm sz e m ho g c hg => ?_, fun nm nm' g c c' ho ho' hg hg' => ?_, fun nm sz e m f ho => ?_, fun nm x ho => ?_, fun nm sz m ho hn => ?_⟩
  rotate_left 5
  · by_cases hs : sp nm
    · exact htok8 nm sz m hs ho hn
    · obtain ⟨e1, e2⟩ := hold nm hs
      rw [e1] at ho
      rw [e2] at hn
      exact h.tok8 nm sz m ho hn
  rotate_left 4
  · by_cases hs : sp nm
    · exact hobj nm x hs ho
    · obtain ⟨e1, e2⟩ := hold nm hs
      rw [e1] at ho
      exact obj_map (h.obj nm x ho) e2 (fun g c hg => (hblk nm g c hs (by simp [ho]) hg).1) (fun g c j hg => (hblk nm g c hs (by simp [ho]) hg).2 j) (fun o h => hobj' o x h)
  · by_cases hs : sp nm
    · obtain ⟨g, c, vs, h1, h2, h3, h4⟩ := hrow nm e cells hs ho
      exact ⟨g, c, vs, h1, h2, h3.size, h3.one, h3.rep, h4⟩
    · obtain ⟨e1, e2⟩ := hold nm hs
      rw [e1] at ho
      obtain ⟨g, c, vs, h1, h2, h3, h4, h5, h6⟩ := h.row nm e cells ho
      obtain ⟨hb, hi⟩ := hblk nm g c hs (by simp [ho]) h1
      exact ⟨g, c, vs, e2.trans h1, hb.trans h2, h3, h4, fun j hj => hmono _ _ (h5 j hj), fun j hj => h6 j (hi j hj)⟩
  · by_cases hs : sp nm
    · exact htok nm sz e m hs ho g c hg
    · obtain ⟨e1, e2⟩ := hold nm hs
      rw [e1] at ho
      rw [e2] at hg
      obtain ⟨cur, fz, h2, h3, h4, h5, h6', h6⟩ := h.tok nm sz e m ho g c hg
      obtain ⟨hb, hi⟩ := hblk nm g c hs (by simp [ho]) hg
      exact ⟨cur, fz, hb.trans h2, h3, h4, h5, h6', fun j hj => h6 j (hi j hj)⟩
  · by_cases hs : sp nm <;> by_cases hs' : sp nm'
    · exact hsp nm nm' hs hs'
    · obtain ⟨e1, e2⟩ := hold nm' hs'
      rw [e1] at ho'
      rw [e2] at hg'
      exact (hinj nm nm' g c c' hs hs' ho ho' hg hg').elim
    · obtain ⟨e1, e2⟩ := hold nm hs
      rw [e1] at ho
      rw [e2] at hg
      exact (hinj nm' nm g c' c hs' hs ho' ho hg' hg).elim
    · obtain ⟨e1, e2⟩ := hold nm hs
      obtain ⟨e1', e2'⟩ := hold nm' hs'
      rw [e1] at ho
      rw [e1'] at ho'
      rw [e2] at hg
      rw [e2'] at hg'
      exact h.inj nm nm' g c c' ho ho' hg hg'
  · by_cases hs : sp nm
    · exact harr nm sz e m f hs ho
    · obtain ⟨e1, e2⟩ := hold nm hs
      rw [e1] at ho
      rw [e2]
      obtain ⟨k1, k2⟩ := h.arr nm sz e m f ho
      refine ⟨k1, fun g c hg => ?_⟩
      obtain ⟨cur, q1, q2, q3, q4, q5, q6, q7⟩ := k2 g c hg
      obtain ⟨hb, hi⟩ := hblk nm g c hs (by simp [ho]) hg
      exact ⟨cur, hb.trans q1, q2, q3, q4, q5, fun i j hi hj => ⟨(q6 i j hi hj).1, hmono _ _ (q6 i j hi hj).2⟩, fun j hj => q7 j (hi j hj)⟩

section
variable {P : Program} {Γ : Env} {σ : Sto} {I : Nat → Nat → Prop} {θ : Nat → Option (Nat × Nat)} {a : Act} {w : World} {o : Oper}

theorem alloc_cell (ob : Obj) {b o : Nat} {u : Value} (h : w.cell? ⟨b, o, none⟩ = some u) : (w.alloc ob).cell? ⟨b, o, none⟩ = w.cell? ⟨b, o, none⟩ :=
  World.cell?_alloc_lt (w := w) (o := ob) (a := ⟨b, o, none⟩) (cell_lt h)

theorem owned_lt {own : Nat → Option Own} (h : OwnRel I own θ w) {nm g c : Nat} (ho : own nm ≠ none) (hg : θ nm = some (g, c)) : g < w.heap.size := by
  cases hn : own nm with
  | none => exact (ho hn).elim
  | some x => cases x with
    | row e cells => obtain ⟨g', c', vs, h1, h2, _⟩ := h.row nm e cells hn; rw [hg] at h1; simp only [Option.some.injEq, Prod.mk.injEq] at h1; obtain ⟨rfl, rfl⟩ := h1; exact heap_lt h2
    | tok sz e m => obtain ⟨cur, fz, h2, _⟩ := h.tok nm sz e m hn g c hg; exact heap_lt h2
    | arr sz e m f => obtain ⟨cur, h2, _⟩ := (h.arr nm sz e m f hn).2 g c hg; exact heap_lt h2
    | obj x => obtain ⟨g', c', o, h1, h2, _⟩ := h.obj nm x hn; rw [hg] at h1; simp only [Option.some.injEq, Prod.mk.injEq] at h1; obtain ⟨rfl, rfl⟩ := h1; exact heap_lt h2

theorem upd_one (σ : Sto) (dst : Option Nat) (v : AV) (d : Nat) (x : Own) : (σ.upd dst v [(d, x)]).own = ownUp σ.own d x := by
  funext nm
  simp only [Sto.upd, look, ownUp]
  by_cases h : d = nm
  · subst h; simp
  · have : Nat.beq d nm = false := by cases hb : Nat.beq d nm with | false => rfl | true => exact absurd (Nat.eq_of_beq_eq_true hb) h
    simp [this, Ne.symm h]

/-- A new row that may be written. -/
theorem chg_newrow {own : Nat → Option Own} (hrel : OwnRel I own θ w) (hval : ∀ b o, I b o → ∃ u, w.cell? ⟨b, o, none⟩ = some u) {d : Nat} (hn : own d = none) {vs : Array Value} {cs : List AV} (hc : CellsOK I own θ w vs cs) (e : TypeId) :
    Chg own θ I w (ownUp own d (.row e cs)) (thUp θ d (some (w.heap.size, 0))) I (w.alloc (.cells vs e)) := by
  have hcell : ∀ b o, I b o → (w.alloc (.cells vs e)).cell? ⟨b, o, none⟩ = w.cell? ⟨b, o, none⟩ := fun b o hi => by
    obtain ⟨u, hu⟩ := hval b o hi
    exact alloc_cell _ hu
  have hle : ∀ nm o, own nm = some o → ∃ o', ownUp own d (.row e cs) nm = some o' ∧ OwnLe o (θ nm) o' (thUp θ d (some (w.heap.size, 0)) nm) := fun nm o ho => by
    have hne : nm ≠ d := by rintro rfl; rw [hn] at ho; cases ho
    exact ⟨o, by simp [ownUp, hne, ho], by simp [thUp, hne, OwnLe.refl]⟩
  have hmono : ∀ v x, Rep I own θ w v x → Rep I (ownUp own d (.row e cs)) (thUp θ d (some (w.heap.size, 0))) (w.alloc (.cells vs e)) v x := fun v x h => h.mono (fun _ _ h => h) hcell hle
  refine { imm := fun _ _ h => h, cell := hcell, le := hle, rel := ?_, valid := fun b o hi => ?_, os := rfl, tape := rfl, output := rfl, grow := by simp, frame := fun b hb _ => _root_.Go.heap_alloc_old w _ hb,
           new := fun nm g c ho hg => ?_, immNew := fun b o h => .inl h }
  · refine ownRel_upd hrel (· = d) hmono (fun nm hne => ⟨by simp [ownUp, hne], by simp [thUp, hne]⟩) (fun nm g c hne ho hg => ⟨_root_.Go.heap_alloc_old w _ (owned_lt hrel ho hg), fun j h => h⟩) ?_ ?_ ?_ (fun _ _ h h' => h.trans h'.symm) (hobj' := fun _ _ h => h.mono (fun _ _ h => h) hcell)
    · rintro nm e' cells rfl ho
      simp only [ownUp, if_true, Option.some.injEq, Own.row.injEq] at ho
      obtain ⟨rfl, rfl⟩ := ho
      refine ⟨w.heap.size, 0, vs, by simp [thUp], _root_.Go.heap_alloc_new w _, ⟨hc.size, hc.one, fun j hj => hmono _ _ (hc.rep j hj)⟩, fun j hj => ?_⟩
      obtain ⟨u, hu⟩ := hval _ _ hj
      exact Nat.lt_irrefl _ (cell_lt hu)
    · rintro nm sz e' m rfl ho
      simp [ownUp] at ho
    · rintro nm nm' g c c' rfl hne _ ho' hg hg'
      simp only [thUp, if_true, Option.some.injEq, Prod.mk.injEq] at hg
      have := owned_lt hrel ho' hg'
      omega
  · obtain ⟨u, hu⟩ := hval b o hi
    exact ⟨u, (hcell b o hi).trans hu⟩
  · by_cases hne : nm = d
    · simp only [thUp, hne, if_true, Option.some.injEq, Prod.mk.injEq] at hg
      exact .inl (by omega)
    · simp only [ownUp, hne, if_false] at ho
      simp only [thUp, hne, if_false] at hg
      exact .inr ⟨nm, c, ho, hg⟩

theorem ok_newrow (h : Rel Γ σ I θ a w) (hd : ∀ d, o.dst = some d → d < Γ.n) {d : Nat} (_ : o.dst = some d) (hn : σ.own d = none) {vs : Array Value} {cs : List AV} (hc : CellsOK I σ.own θ w vs cs) {e : TypeId}
    (hr : (execOp a.eval o).run P w = .ok (.value (.pointer (some ⟨w.heap.size, 0, none⟩))) (w.alloc (.cells vs e))) : OpOK P Γ σ o a w (.ptr d 0) [(d, .row e cs)] := by
  have k := chg_newrow h.chg.rel h.chg.valid hn hc e
  refine ok_chg h hd hr (by rw [upd_one]; exact k) ?_
  rw [upd_one]
  exact .ptr d 0 e cs w.heap.size 0 (by simp [ownUp]) (by simp [thUp])

theorem ok_box (h : Rel Γ σ I θ a w) (hd : ∀ d, o.dst = some d → d < Γ.n) {d : Nat} (hdst : o.dst = some d) (hn : σ.own d = none) {e : TypeId} {x : Operand} (ho : o.op = .box e x) {y : AV} {cs : List AV} (hx : Rep I σ.own θ w (a.eval x) y) (hc : y.cells = some cs) :
    OpOK P Γ σ o a w (.ptr d 0) [(d, .row e cs)] := by
  refine ok_newrow (e := e) h hd hdst hn (cells_sound hc hx) ?_
  simp [execOp, ho, Instr.box, newVar, newRow]

theorem rep_ofCell (v : Value) : Rep I σ.own θ w v (AV.ofCell v) := by
  unfold AV.ofCell
  split
  · exact .val _ _ (.int _ _)
  · exact .val _ _ (.bool _)
  · exact .val _ _ (.str _)
  · exact .val _ _ .nilp
  · exact .exact _ _ _ _ (.slice none 0 0 0 _ (fun _ => undef) (Nat.le_refl _) (Nat.zero_le _) (fun h => by omega) (fun _ => rfl) (fun j hj => by omega) (fun i hi => by omega) (fun i c hi => by omega))
  · exact .val _ _ .err0
  · exact .val _ _ (.any _)

theorem cells_ofCell {vs : Array Value} (h : vs.toList.all (·.oneCell') = true) : CellsOK I σ.own θ w vs (vs.toList.map AV.ofCell) := by
  refine ⟨by simp, fun j hj => ?_, fun j hj => ?_⟩ <;> have hj' : j < vs.size := by simpa using hj
  · have := List.all_eq_true.1 h (vs.getD j undef) (by simp [Array.getD, hj'])
    exact this
  · have : (vs.toList.map AV.ofCell).getD j .any = AV.ofCell (vs.getD j undef) := by simp [List.getD, Array.getD, hj']
    rw [this]
    exact rep_ofCell _

theorem rep_ofValue (v : Value) : Rep I σ.own θ w v (AV.ofValue v) := by
  unfold AV.ofValue
  split
  · rename_i cs
    cases hc : cs.toList.all (·.oneCell') with
    | false => exact .val _ _ (.any _)
    | true =>
      have := cells_ofCell (I := I) (σ := σ) (θ := θ) (w := w) hc
      exact .agg _ _ this.size this.one this.rep
  · rename_i vs
    split
    · rename_i hv
      obtain rfl : vs = #[] := by apply Array.ext'; simpa using hv
      exact .val _ _ .undef
    · exact .val _ _ (.any _)
  · exact rep_ofCell _

theorem zeroA_inv {t : TypeId} {z : List AV} (h : zeroA P t = some z) : ∃ i v, P.info? t = some i ∧ i.zero = some v ∧ v.cells.toList.all (·.oneCell') = true ∧ z = v.cells.toList.map AV.ofCell := by
  unfold zeroA at h
  split at h
  · rename_i v hv
    obtain ⟨i, hi, hz⟩ := Option.bind_eq_some_iff.1 hv
    cases hc : v.cells.toList.all (·.oneCell') with
    | false => simp [hc] at h
    | true => simp only [hc, cond_true, Option.some.injEq] at h; exact ⟨i, v, hi, hz, hc, h.symm⟩
  · simp at h
theorem run_zero {t : TypeId} {i : TypeInfo} {v : Value} (hi : P.info? t = some i) (hz : i.zero = some v) (w : World) : (zeroValue t).run P w = .ok v w := by simp [zeroValue, typeInfo, hi, hz]

theorem ok_alloc (h : Rel Γ σ I θ a w) (hd : ∀ d, o.dst = some d → d < Γ.n) {d : Nat} (hdst : o.dst = some d) (hn : σ.own d = none) {e : TypeId} (ho : o.op = .alloc e) {z : List AV} (hz : zeroA P e = some z) :
    OpOK P Γ σ o a w (.ptr d 0) [(d, .row e z)] := by
  obtain ⟨i, v, hi, hv, h1, rfl⟩ := zeroA_inv hz
  refine ok_newrow (e := e) h hd hdst hn (cells_ofCell h1) ?_
  simp [execOp, ho, Instr.alloc, run_zero hi hv, newVar, newRow]

theorem take_mid_getD {α : Type} (d : α) (l m : List α) (off j : Nat) (hle : off + m.length ≤ l.length) :
    (l.take off ++ m ++ l.drop (off + m.length)).getD j d = if off ≤ j ∧ j < off + m.length then m.getD (j - off) d else l.getD j d := by
  have ht : (l.take off).length = off := by simp; omega
  simp only [List.getD, List.append_assoc]
  by_cases h1 : j < off
  · rw [List.getElem?_append_left (by omega), List.getElem?_take, if_pos h1, if_neg (by omega)]
  · rw [List.getElem?_append_right (by omega), ht]
    by_cases h2 : j < off + m.length
    · rw [List.getElem?_append_left (by omega), if_pos ⟨by omega, h2⟩]
    · rw [List.getElem?_append_right (by omega), List.getElem?_drop, if_neg (by omega)]
      congr 2
      omega

/-- A store into a row that may be written. -/
theorem ok_store (h : Rel Γ σ I θ a w) (hd : ∀ d, o.dst = some d → d < Γ.n) {t : TypeId} {x y : Operand} (ho : o.op = .store t x y) (ht : hasT P t = true) {nm off : Nat} {cells cs : List AV} {z : AV}
    (hx : Rep I σ.own θ w (a.eval x) (.ptr nm off)) (hy : Rep I σ.own θ w (a.eval y) z) {e : TypeId} (hown : σ.own nm = some (.row e cells)) (hc : z.cells = some cs) (hsz : cs.length = szT P t) (hle : off + cs.length ≤ cells.length) :
    OpOK P Γ σ o a w .undef [(nm, .row e (cells.take off ++ cs ++ cells.drop (off + cs.length)))] := by
  obtain ⟨e', cells', g, c, ho', hg, he⟩ := hx.ptr_inv
  rw [hown] at ho'
  simp only [Option.some.injEq, Own.row.injEq] at ho'
  obtain ⟨rfl, rfl⟩ := ho'
  obtain ⟨g', c', vs, hg', hh, hvs, h1, hrep, hnI⟩ := h.chg.rel.row nm e cells hown
  rw [hg] at hg'
  simp only [Option.some.injEq, Prod.mk.injEq] at hg'
  obtain ⟨rfl, rfl⟩ := hg'
  have hcs := cells_sound hc hy
  have hrel := h.chg.rel
  have hvl : (a.eval y).cells.toList.length = cs.length := by simp [hcs.size]
  have hst := run_storeCells_at P g off e (a.eval y).cells.toList 0 vs w hh (by rw [hvl]; omega) hcs.all
  simp only [Nat.add_zero] at hst
  have hrun : (execOp a.eval o).run P w = .ok .skip (w.setRow g (vs.toList.take off ++ (a.eval y).cells.toList ++ vs.toList.drop (off + (a.eval y).cells.toList.length)).toArray) := by
    have hn : ¬ ((a.eval y).cells.size ≠ szT P t) := by rw [hcs.size, hsz]; simp
    simp only [execOp, ho, he, Instr.storeAt, Instr.sureAddr, Sem.run_bind, Sem.run_pure, Result.andThen_ok, storeVar, run_sizeOf' ht, if_neg hn, hst]
  refine ok_skip h hd (I' := I) (θ' := θ) hrun ?_
  rw [upd_one, hvl]
  have hother : ∀ b, b ≠ g → (w.setRow g (vs.toList.take off ++ (a.eval y).cells.toList ++ vs.toList.drop (off + cs.length)).toArray).heap[b]? = w.heap[b]? := fun b hb => setRow_other w g b _ hb
  have hcell : ∀ b j, I b j → (w.setRow g (vs.toList.take off ++ (a.eval y).cells.toList ++ vs.toList.drop (off + cs.length)).toArray).cell? ⟨b, j, none⟩ = w.cell? ⟨b, j, none⟩ := fun b j hi =>
    World.cell?_of_block (a := ⟨b, j, none⟩) (hother b (by rintro rfl; exact hnI j hi))
  have hle' : ∀ nm' o, σ.own nm' = some o → ∃ o', ownUp σ.own nm (.row e (cells.take off ++ cs ++ cells.drop (off + cs.length))) nm' = some o' ∧ OwnLe o (θ nm') o' (θ nm') := fun nm' o ho => by
    by_cases hne : nm' = nm
    · subst hne
      rw [hown] at ho
      obtain rfl := Option.some.inj ho
      exact ⟨.row e (cells.take off ++ cs ++ cells.drop (off + cs.length)), by simp [ownUp], rfl, rfl⟩
    · exact ⟨o, by simp [ownUp, hne, ho], .refl _ _⟩
  have hmono : ∀ v x, Rep I σ.own θ w v x → Rep I (ownUp σ.own nm (.row e (cells.take off ++ cs ++ cells.drop (off + cs.length)))) θ (w.setRow g (vs.toList.take off ++ (a.eval y).cells.toList ++ vs.toList.drop (off + cs.length)).toArray) v x :=
    fun v x h => h.mono (fun _ _ h => h) hcell hle'
  refine { imm := fun _ _ h => h, cell := hcell, le := hle', rel := ?_, valid := fun b j hi => ?_, os := rfl, tape := rfl, output := rfl, grow := by simp, frame := fun b hb hn => hother b ?_,
           new := fun nm' g c ho hg => ?_, immNew := fun b o h => .inl h }
  · refine ownRel_upd hrel (· = nm) hmono (fun nm' hne => ⟨by simp [ownUp, hne], rfl⟩) (fun nm' g' c' hne ho hg' => ⟨hother g' ?_, fun j h => h⟩) ?_ ?_ ?_ (fun _ _ h h' => h.trans h'.symm) (hobj' := fun _ _ h => h.mono (fun _ _ h => h) hcell)
    · rintro rfl
      exact hne (hrel.inj nm' nm _ _ _ ho (by simp [hown]) hg' hg)
    · rintro nm' e' cells' rfl ho
      simp only [ownUp, if_true, Option.some.injEq, Own.row.injEq] at ho
      obtain ⟨rfl, rfl⟩ := ho
      have hlen : (vs.toList.take off ++ (a.eval y).cells.toList ++ vs.toList.drop (off + cs.length)).length = cells.length := by
        simp only [List.length_append, List.length_take, List.length_drop, Array.length_toList, hvs, hcs.size]; omega
      have hlen2 : (cells.take off ++ cs ++ cells.drop (off + cs.length)).length = cells.length := by
        simp only [List.length_append, List.length_take, List.length_drop]; omega
      have hget : ∀ j, ((vs.toList.take off ++ (a.eval y).cells.toList ++ vs.toList.drop (off + cs.length)).toArray).getD j undef = if off ≤ j ∧ j < off + cs.length then (a.eval y).cells.getD (j - off) undef else vs.getD j undef := fun j => by
        have := take_mid_getD undef vs.toList (a.eval y).cells.toList off j (by rw [hvl]; simp; omega)
        rw [hvl] at this
        have e1 : ∀ (l : List Value), (l.toArray).getD j undef = l.getD j undef := fun l => by simp [Array.getD_eq_getD_getElem?, List.getD]
        rw [e1, this]
        congr 1
        · simp [Array.getD_eq_getD_getElem?, List.getD]
        · simp [Array.getD_eq_getD_getElem?, List.getD]
      refine ⟨g, c, _, hg, setRow_heap w g vs _ e _ hh, ⟨by rw [hlen2]; simpa using hlen, fun j hj => ?_, fun j hj => ?_⟩, hnI⟩ <;> rw [hlen2] at hj <;> rw [hget]
      · split
        · exact hcs.one _ (by omega)
        · exact h1 _ hj
      · rw [take_mid_getD _ _ _ _ _ hle]
        split
        · exact hmono _ _ (hcs.rep _ (by omega))
        · exact hmono _ _ (hrep _ hj)
    · rintro nm' sz e' m rfl ho
      simp [ownUp] at ho
    · rintro nm' nm'' g' c1 c2 rfl hne _ ho' hg1 hg2
      exact hne (hrel.inj nm'' nm' _ _ _ ho' (by simp [hown]) hg2 hg1)
  · obtain ⟨u, hu⟩ := h.chg.valid b j hi
    exact ⟨u, (hcell b j hi).trans hu⟩
  · rintro rfl
    exact hn nm c (by simp [hown]) hg
  · refine .inr ⟨nm', c, ?_, hg⟩
    by_cases hne : nm' = nm
    · subst hne; simp [hown]
    · simpa [ownUp, hne] using ho
end
end Go.Proofs.Ytcpopeamoipjlaa
