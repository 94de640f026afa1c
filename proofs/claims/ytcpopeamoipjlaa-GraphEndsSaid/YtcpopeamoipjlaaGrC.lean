/-
  Graphs: what the program and the document answer where they are asked whether one may be, and where they make one.
-/
import Derived.Test.YtcpopeamoipjlaaGrB
namespace Go.Proofs.Ytcpopeamoipjlaa
open Go Go.RowKit
set_option linter.unusedVariables false
set_option linter.unusedSimpArgs false

theorem list_eq_all {α : Type} [DecidableEq α] {a b : List α} {d : α} (h : a.length = b.length) : ((List.range a.length).all fun i => decide (a.getD i d = b.getD i d)) = decide (a = b) := by
  rw [Bool.eq_iff_iff, all_range, decide_eq_true_eq]
  constructor
  · intro hall
    apply List.ext_getElem h
    intro i h1 h2
    have := of_decide_eq_true (hall i h1)
    rwa [getD_eq_of_lt _ _ _ h1, getD_eq_of_lt _ _ _ h2] at this
  · rintro rfl i _
    simp
theorem lens_ne {a b : Nat} : (((a : Nat) : Int) != (b : Int)) = decide (a ≠ b) := by
  rw [Bool.eq_iff_iff, bne_iff_ne, decide_eq_true_eq]
  omega
theorem int_ne {a b : Int} : (a != b) = !decide (a = b) := by
  rw [Bool.eq_iff_iff]
  simp
theorem m_equal (a b : List Int) (hb : b.length < 4611686018427387904) : m_slices_Equal_int_int a b = some (decide (a = b)) := by
  unfold m_slices_Equal_int_int
  rw [lens_ne]
  by_cases hl : a.length = b.length
  · rw [decide_eq_false (by simpa using hl), cond_false]
    have : loopO (m_slices_Equal_int_int_L1 a b) (0 : Int) = _ := loop_find (m_slices_Equal_int_int_L1 a b) (fun j => ((j : Nat) : Int)) (fun i => decide (a.getD i 0 = b.getD i 0)) (.inl ()) (.inr false) a.length (fun j hj hp => ?_) (fun j hj hp => ?_) ?_
    · rw [this, list_eq_all hl]
      cases decide (a = b) <;> rfl
    · show m_slices_Equal_int_int_L1 a b (j : Int) = _
      unfold m_slices_Equal_int_int_L1
      simp only [nat_nat, dlt_t hj, cond_true]
      rw [chk_pos (inb hj), chk_pos (inb (by omega)), int_ne, hp, w1 (by omega)]
      rfl
    · show m_slices_Equal_int_int_L1 a b (j : Int) = _
      unfold m_slices_Equal_int_int_L1
      simp only [nat_nat, dlt_t hj, cond_true]
      rw [chk_pos (inb hj), chk_pos (inb (by omega)), int_ne, hp]
      rfl
    · show m_slices_Equal_int_int_L1 a b _ = _
      unfold m_slices_Equal_int_int_L1
      simp only [dlt_f, cond_false]
  · rw [decide_eq_true (by simpa using hl), cond_true, decide_eq_false (fun h => hl (by rw [h]))]
theorem m_ints (a b : List Int) (ha : a.length < 4611686018427387904) : m_lockstepref02_Ints a b = some (decide (a = b)) := by
  unfold m_lockstepref02_Ints
  rw [lens_ne]
  by_cases hl : a.length = b.length
  · rw [decide_eq_false (by simpa using hl), cond_false]
    have : loopO (m_lockstepref02_Ints_L1 a b) (0 : Int) = _ := loop_find (m_lockstepref02_Ints_L1 a b) (fun j => ((j : Nat) : Int)) (fun i => decide (a.getD i 0 = b.getD i 0)) (.inl ()) (.inr false) a.length (fun j hj hp => ?_) (fun j hj hp => ?_) ?_
    · rw [this, list_eq_all hl]
      cases decide (a = b) <;> rfl
    · show m_lockstepref02_Ints_L1 a b (j : Int) = _
      unfold m_lockstepref02_Ints_L1
      simp only [nat_nat, dlt_t hj, cond_true]
      rw [chk_pos (inb hj), chk_pos (inb (by omega)), int_ne, hp, w1 (by omega)]
      rfl
    · show m_lockstepref02_Ints_L1 a b (j : Int) = _
      unfold m_lockstepref02_Ints_L1
      simp only [nat_nat, dlt_t hj, cond_true]
      rw [chk_pos (inb hj), chk_pos (inb (by omega)), int_ne, hp]
      rfl
    · show m_lockstepref02_Ints_L1 a b _ = _
      unfold m_lockstepref02_Ints_L1
      simp only [dlt_f, cond_false]
  · rw [decide_eq_true (by simpa using hl), cond_true, decide_eq_false (fun h => hl (by rw [h]))]
theorem m_equalFunc (a b : List (List Int)) (hb : Fits b) : m_slices_EqualFunc_int_int_int_int a b = some (decide (a = b)) := by
  unfold m_slices_EqualFunc_int_int_int_int
  rw [lens_ne]
  by_cases hl : a.length = b.length
  · rw [decide_eq_false (by simpa using hl), cond_false]
    have hb1 := hb.1
    have : loopO (m_slices_EqualFunc_int_int_int_int_L1 a b) (0 : Int) = _ := loop_find (m_slices_EqualFunc_int_int_int_int_L1 a b) (fun j => ((j : Nat) : Int)) (fun i => decide (a.getD i [] = b.getD i [])) (.inl ()) (.inr false) a.length (fun j hj hp => ?_) (fun j hj hp => ?_) ?_
    · rw [this, list_eq_all hl]
      cases decide (a = b) <;> rfl
    · show m_slices_EqualFunc_int_int_int_int_L1 a b (j : Int) = _
      unfold m_slices_EqualFunc_int_int_int_int_L1
      simp only [nat_nat, dlt_t hj, cond_true]
      rw [chk_pos (inb hj), chk_pos (inb (by omega)), m_equal _ _ (hb.at j), hp, w1 (by omega)]
      rfl
    · show m_slices_EqualFunc_int_int_int_int_L1 a b (j : Int) = _
      unfold m_slices_EqualFunc_int_int_int_int_L1
      simp only [nat_nat, dlt_t hj, cond_true]
      rw [chk_pos (inb hj), chk_pos (inb (by omega)), m_equal _ _ (hb.at j), hp]
      rfl
    · show m_slices_EqualFunc_int_int_int_int_L1 a b _ = _
      unfold m_slices_EqualFunc_int_int_int_int_L1
      simp only [dlt_f, cond_false]
  · rw [decide_eq_true (by simpa using hl), cond_true, decide_eq_false (fun h => hl (by rw [h]))]

theorem predOf_len (L : List (List Int)) : (predOf L).length = L.length := by simp [predOf]
theorem predOf_at {L : List (List Int)} {i : Nat} (hi : i < L.length) : (predOf L).getD i [] = predAt L L.length i := by unfold predOf; rw [getD_mr hi]
theorem predOf_small {L : List (List Int)} (h : mayS L = true) : (predOf L).length ≤ 64 ∧ ∀ l ∈ predOf L, l.length ≤ 64 := by
  obtain ⟨h1, _⟩ := mayS_fits h
  refine ⟨by rw [predOf_len]; exact h1, fun l hl => ?_⟩
  obtain ⟨i, hi, rfl⟩ := List.mem_map.1 hl
  have := predAt_len L L.length i
  omega
theorem small_fits {L : List (List Int)} (h : L.length ≤ 64 ∧ ∀ l ∈ L, l.length ≤ 64) : Fits L := fits_of ⟨by omega, fun l hl => by have := h.2 l hl; omega⟩
theorem small_k {L : List (List Int)} (h : L.length ≤ 64 ∧ ∀ l ∈ L, l.length ≤ 64) : L.length ≤ 1000 ∧ ∀ l ∈ L, l.length ≤ 1000 := ⟨by omega, fun l hl => by have := h.2 l hl; omega⟩

/-- Whether a graph may be. -/
def mayG (g : TGraph) : Bool := mayS g.Succ && decide (g.Pred = predOf g.Succ)
theorem m_may (g : TGraph) (h : Fits g.Succ) : m_graph_May g = some (mayG g) := by
  unfold m_graph_May mayG
  rw [m_succMay _ h, Option.bind_some]
  cases hm : mayS g.Succ with
  | false => rfl
  | true =>
    simp only [beq_self_eq_true, cond_true, m_comers _ hm, Option.bind_some, m_equalFunc _ _ (small_fits (predOf_small hm)), Bool.true_and]
def gOf (L : List (List Int)) : TGraph := ⟨L, predOf L⟩
def g0 : TGraph := ⟨[], []⟩
theorem m_make (L : List (List Int)) (h : Fits L) : m_graph_Make L = some (bif mayS L then (gOf L, 0) else (g0, 5)) := by
  unfold m_graph_Make
  rw [m_succMay _ h, Option.bind_some]
  cases hm : mayS L with
  | false => rfl
  | true =>
    simp only [Bool.not_true, cond_false, m_copied _ (small_k (mayS_fits hm)), m_comers _ hm, Option.bind_some]
    rfl
theorem mayG_gOf {L : List (List Int)} (h : mayS L = true) : mayG (gOf L) = true := by simp [mayG, gOf, h]
theorem m_turned (g : TGraph) (h : Fits g.Succ) : m_graph_Turned g = some (bif mayG g then ⟨g.Pred, g.Succ⟩ else g0) := by
  unfold m_graph_Turned
  rw [m_may _ h, Option.bind_some]
  cases hm : mayG g with
  | false => rfl
  | true =>
    have hm' := hm
    unfold mayG at hm'
    simp only [Bool.and_eq_true, decide_eq_true_eq] at hm'
    simp only [Bool.not_true, cond_false, m_copied _ (small_k (mayS_fits hm'.1)), Option.bind_some]
    rw [m_copied _ (by rw [hm'.2]; exact small_k (predOf_small hm'.1))]
    rfl

/-! ### The document's -/
theorem m_has (l : List Int) (x : Int) (h : l.length < 4611686018427387904) : m_lockstepref06_Has l x = some (l.contains x) := by
  unfold m_lockstepref06_Has
  have : loopO (m_lockstepref06_Has_L1 l x) (0 : Int) = _ := loop_find (m_lockstepref06_Has_L1 l x) (fun j => ((j : Nat) : Int)) (fun i => !decide (l.getD i 0 = x)) (.inl ()) (.inr true) l.length (fun j hj hp => ?_) (fun j hj hp => ?_) ?_
  · rw [this]
    have e : l.contains x = !((List.range l.length).all fun i => !decide (l.getD i 0 = x)) := by
      rw [Bool.eq_iff_iff, List.contains_iff_mem, Bool.not_eq_true', ← Bool.not_eq_true, all_range]
      constructor
      · intro hx hall
        obtain ⟨i, hi, rfl⟩ := List.getElem_of_mem hx
        have := hall i hi
        rw [getD_eq_of_lt _ _ _ hi] at this
        simp at this
      · intro hall
        by_cases hx : x ∈ l
        · exact hx
        · refine (hall fun i hi => ?_).elim
          rw [getD_eq_of_lt _ _ _ hi]
          simp only [Bool.not_eq_true', decide_eq_false_iff_not]
          rintro rfl
          exact hx (List.getElem_mem hi)
    rw [e]
    cases (List.range l.length).all fun i => !decide (l.getD i 0 = x) <;> rfl
  · show m_lockstepref06_Has_L1 l x (j : Int) = _
    unfold m_lockstepref06_Has_L1
    simp only [nat_nat, dlt_t hj, cond_true]
    have : (l.getD j 0 == x) = false := by simpa using hp
    rw [chk_pos (inb hj), this, w1 (by omega)]
    rfl
  · show m_lockstepref06_Has_L1 l x (j : Int) = _
    unfold m_lockstepref06_Has_L1
    simp only [nat_nat, dlt_t hj, cond_true]
    have : (l.getD j 0 == x) = true := by simpa using hp
    rw [chk_pos (inb hj), this]
    rfl
  · show m_lockstepref06_Has_L1 l x _ = _
    unfold m_lockstepref06_Has_L1
    simp only [dlt_f, cond_false]
theorem same_loop {X : Type} (a b : List (List Int)) (f : Int → Option (LR Int (Unit ⊕ Bool))) (ha : Fits a) (hl : a.length = b.length)
    (hn : ∀ i : Nat, i < a.length → f (i : Int) = (m_lockstepref02_Ints (a.getD i []) (b.getD i [])).bind fun x => bif (!x) then some (.done (.inr false)) else some (.next (w64 ((i : Int) + 1)))) (he : f (a.length : Int) = some (.done (.inl ()))) :
    loopO f (0 : Int) = some (bif decide (a = b) then .inl () else .inr false) := by
  have ha1 := ha.1
  have : loopO f (0 : Int) = _ := loop_find f (fun j => ((j : Nat) : Int)) (fun i => decide (a.getD i [] = b.getD i [])) (.inl ()) (.inr false) a.length (fun j hj hp => ?_) (fun j hj hp => ?_) he
  · rw [this, list_eq_all hl]
  · rw [hn j hj, m_ints _ _ (ha.at j), hp, w1 (by omega)]; rfl
  · rw [hn j hj, m_ints _ _ (ha.at j), hp]; rfl
theorem m_same (a b : TGraph) (h1 : Fits a.Succ) (h2 : Fits a.Pred) : m_lockstepref06_Same a b = some (decide (a = b)) := by
  have e : decide (a = b) = (decide (a.Succ = b.Succ) && decide (a.Pred = b.Pred)) := by
    cases a; cases b
    rw [Bool.eq_iff_iff]
    simp
  rw [e]
  unfold m_lockstepref06_Same
  rw [lens_ne, lens_ne]
  by_cases hs : a.Succ.length = b.Succ.length
  · by_cases hp : a.Pred.length = b.Pred.length
    · rw [decide_eq_false (by simpa using hs), cond_false, decide_eq_false (by simpa using hp), cond_false]
      have s1 := same_loop (X := Unit) a.Succ b.Succ (m_lockstepref06_Same_L1 a b) h1 hs (fun i hi => by
        unfold m_lockstepref06_Same_L1
        simp only [nat_nat, dlt_t hi, cond_true]
        rw [chk_pos (inb hi), chk_pos (inb (by omega))]) (by
        unfold m_lockstepref06_Same_L1
        simp only [dlt_f, cond_false])
      have s2 := same_loop (X := Unit) a.Pred b.Pred (m_lockstepref06_Same_L2 a b) h2 hp (fun i hi => by
        unfold m_lockstepref06_Same_L2
        simp only [nat_nat, dlt_t hi, cond_true]
        rw [chk_pos (inb hi), chk_pos (inb (by omega))]) (by
        unfold m_lockstepref06_Same_L2
        simp only [dlt_f, cond_false])
      rw [s1]
      cases decide (a.Succ = b.Succ) with
      | false => rfl
      | true =>
        simp only [cond_true, Option.bind_some, Bool.true_and]
        rw [s2]
        cases decide (a.Pred = b.Pred) <;> rfl
    · rw [decide_eq_true (show a.Pred.length ≠ b.Pred.length from hp), decide_eq_false (p := a.Pred = b.Pred) (fun h => hp (by rw [h]))]
      cases decide (a.Succ.length ≠ b.Succ.length) <;> simp
  · rw [decide_eq_true (show a.Succ.length ≠ b.Succ.length from hs), decide_eq_false (p := a.Succ = b.Succ) (fun h => hs (by rw [h]))]
    simp
end Go.Proofs.Ytcpopeamoipjlaa
