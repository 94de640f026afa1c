/-
  A function's graph.
-/
import Derived.Test.YtcpopeamoipjlaaGrS
import Derived.Lib.RowBridge
namespace Go.Proofs.Ytcpopeamoipjlaa
open Go Go.RowKit
set_option linter.unusedVariables false
set_option linter.unusedSimpArgs false

/-! ### Rising -/
theorem compact_inv (d : Array Int) (hs : ∀ i j, i ≤ j → j < d.size → d[i]! ≤ d[j]!) : ∀ m, m ≤ d.size → (∀ x ∈ Lib.compactUpTo d m, ∃ j, j < m ∧ x = d[j]!) ∧ (∀ j, j < m → d[j]! ∈ Lib.compactUpTo d m) ∧ (Lib.compactUpTo d m).Pairwise (· < ·) := by
  intro m
  induction m with
  | zero => intro _; exact ⟨(fun x hx => by simp [Lib.compactUpTo] at hx), (fun j hj => by omega), by simp [Lib.compactUpTo]⟩
  | succ m ih =>
    intro hm
    obtain ⟨h1, h2, h3⟩ := ih (by omega)
    rw [Lib.compactUpTo_succ]
    cases hk : Lib.keeps d m with
    | true =>
      rw [if_pos rfl]
      refine ⟨fun x hx => ?_, fun j hj => ?_, ?_⟩
      · rcases List.mem_append.1 hx with h | h
        · obtain ⟨j, hj, he⟩ := h1 x h; exact ⟨j, by omega, he⟩
        · exact ⟨m, by omega, by simpa using h⟩
      · by_cases hjm : j = m
        · subst hjm; simp
        · exact List.mem_append.2 (.inl (h2 j (by omega)))
      · rw [List.pairwise_append]
        refine ⟨h3, List.pairwise_singleton _ _, fun x hx y hy => ?_⟩
        obtain ⟨j, hj, rfl⟩ := h1 x hx
        have hy' : y = d[m]! := by simpa using hy
        subst hy'
        have hk' : m = 0 ∨ d[m]! ≠ d[m - 1]! := by simpa [Lib.keeps] using hk
        rcases hk' with h0 | h0
        · omega
        · have a1 := hs j (m - 1) (by omega) (by omega)
          have a2 := hs (m - 1) m (by omega) (by omega)
          omega
    | false =>
      have hk' : m ≠ 0 ∧ d[m]! = d[m - 1]! := by
        have : ¬ (m = 0 ∨ d[m]! ≠ d[m - 1]!) := by
          intro h
          have : Lib.keeps d m = true := by simpa [Lib.keeps] using h
          rw [hk] at this; cases this
        exact ⟨fun h => this (.inl h), Classical.not_not.1 fun h => this (.inr h)⟩
      simp only [Bool.false_eq_true, if_false, List.append_nil]
      refine ⟨fun x hx => by obtain ⟨j, hj, he⟩ := h1 x hx; exact ⟨j, by omega, he⟩, fun j hj => ?_, h3⟩
      by_cases hjm : j = m
      · subst hjm; rw [hk'.2]; exact h2 _ (by omega)
      · exact h2 j (by omega)
def riseL (l : List Int) : List Int := Lib.compact (l.mergeSort fun x y => decide (x ≤ y))
theorem rise_spec (l : List Int) : (riseL l).Pairwise (· < ·) ∧ ∀ x, x ∈ riseL l ↔ x ∈ l := by
  unfold riseL Lib.compact
  have hp : (l.mergeSort fun x y => decide (x ≤ y)).Pairwise (fun a b => decide (a ≤ b) = true) := List.pairwise_mergeSort (fun a b c h1 h2 => by simp at *; omega) (fun a b => by simp; omega) l
  have hm : ∀ x, x ∈ (l.mergeSort fun x y => decide (x ≤ y)) ↔ x ∈ l := fun x => List.mem_mergeSort
  generalize l.mergeSort (fun x y => decide (x ≤ y)) = z at hp hm ⊢
  have hz : ∀ j, j < z.length → z.toArray[j]! = z.getD j 0 := fun j hj => by simp [List.getD, hj]
  obtain ⟨h1, h2, h3⟩ := compact_inv z.toArray (fun i j hij hj => by
    have hj' : j < z.length := by simpa using hj
    rw [hz i (by omega), hz j hj']
    by_cases he : i = j
    · rw [he]; exact Int.le_refl _
    · have := (List.pairwise_iff_getElem.1 hp) i j (by omega) hj' (by omega)
      rw [getD_eq_of_lt _ _ _ (by omega), getD_eq_of_lt _ _ _ hj']
      simpa using this) z.length (by simp)
  refine ⟨h3, fun x => ?_⟩
  rw [← hm x]
  constructor
  · intro hx
    obtain ⟨j, hj, rfl⟩ := h1 x hx
    rw [hz j hj]
    exact getD_mem hj
  · intro hx
    obtain ⟨j, hj, rfl⟩ := List.getElem_of_mem hx
    have := h2 j hj
    rwa [hz j hj, getD_eq_of_lt _ _ _ hj] at this

/-! ### Ends -/
def toB (n : Nat) (l : List Int) : Bool := (List.range l.length).all fun i => decide (0 < l.getD i 0) && decide (l.getD i 0 < (n : Int))
def wantK (k : Int) : Int := ([0, 1, 2, 0] : List Int).getD k.toNat 0
def kindB (e : TEnd) : Bool := (decide (0 ≤ e.Kind) && decide (e.Kind ≤ 3)) && decide ((e.To.length : Int) = wantK e.Kind)
def fitsE (e : TEnd) (n : Nat) : Bool := kindB e && toB n e.To
theorem toB_iff {n : Nat} {l : List Int} : toB n l = true ↔ ∀ x ∈ l, 0 < x ∧ x < n := by
  unfold toB
  rw [all_range]
  simp only [Bool.and_eq_true, decide_eq_true_eq]
  constructor
  · intro h x hx
    obtain ⟨i, hi, rfl⟩ := List.getElem_of_mem hx
    have := h i hi
    rwa [getD_eq_of_lt _ _ _ hi] at this
  · intro h i hi; exact h _ (getD_mem hi)
theorem end_loop (e : TEnd) (n : Nat) (hl : e.To.length < 4611686018427387904) : loopO (m_graph_endFits_L1 e (n : Int)) (0 : Int) = some (bif toB n e.To then .inl () else .inr false) := by
  have step : ∀ j : Nat, j < e.To.length → m_graph_endFits_L1 e (n : Int) (j : Int) = bif (decide (0 < e.To.getD j 0) && decide (e.To.getD j 0 < (n : Int))) then some (.next (((j + 1 : Nat) : Int))) else some (.done (.inr false)) := fun j hj => by
    unfold m_graph_endFits_L1
    simp only [nat_nat, dlt_t hj, cond_true, m_isPlace, w1 (show j < 4611686018427387904 by omega)]
    rw [chk_pos (inb hj)]
    by_cases h0 : e.To.getD j 0 = 0
    · rw [h0]; rfl
    · have : (e.To.getD j 0 == 0) = false := by rw [beq_eq_false_iff_ne]; exact h0
      rw [this]
      simp only [beq_self_eq_true, cond_true, cond_false, Option.bind_some]
      have e1 : decide (0 < e.To.getD j 0) = decide (0 ≤ e.To.getD j 0) := by apply decide_eq_decide.2; omega
      rw [e1]
      cases (decide (0 ≤ e.To.getD j 0) && decide (e.To.getD j 0 < (n : Int))) <;> rfl
  have := loop_find (m_graph_endFits_L1 e (n : Int)) (fun j => ((j : Nat) : Int)) (fun i => decide (0 < e.To.getD i 0) && decide (e.To.getD i 0 < (n : Int))) (.inl ()) (.inr false) e.To.length (fun j hj hp => ?_) (fun j hj hp => ?_) ?_
  · exact this
  · show m_graph_endFits_L1 e (n : Int) (j : Int) = _
    rw [step j hj, hp]; rfl
  · show m_graph_endFits_L1 e (n : Int) (j : Int) = _
    rw [step j hj, hp]; rfl
  · show m_graph_endFits_L1 e (n : Int) _ = _
    unfold m_graph_endFits_L1
    simp only [dlt_f, cond_false]
theorem end_tail (e : TEnd) (n : Nat) (w : Int) (hw : 0 ≤ w ∧ w ≤ 2) :
    (bif ((e.To.length : Int) != w) then (some false) else ((loopO (m_graph_endFits_L1 e (n : Int)) (0 : Int)).bind (fun x10 => (match x10 with | (.inl _) => (some true) | (.inr r12) => (some r12))))) = some (decide ((e.To.length : Int) = w) && toB n e.To) := by
  by_cases h : (e.To.length : Int) = w
  · rw [show ((e.To.length : Int) != w) = false by simpa using h, cond_false, end_loop e n (by omega), decide_eq_true h]
    cases toB n e.To <;> rfl
  · rw [show ((e.To.length : Int) != w) = true by simpa using h, cond_true, decide_eq_false h]; rfl
theorem m_endFits (e : TEnd) (n : Nat) : m_graph_endFits e (n : Int) = some (fitsE e n) := by
  unfold m_graph_endFits fitsE kindB
  by_cases h0 : e.Kind = 0
  · rw [h0]
    exact end_tail e n 0 (by omega)
  by_cases h1 : e.Kind = 1
  · rw [h1]
    exact end_tail e n 1 (by omega)
  by_cases h2 : e.Kind = 2
  · rw [h2]
    exact end_tail e n 2 (by omega)
  by_cases h3 : e.Kind = 3
  · rw [h3]
    exact end_tail e n 0 (by omega)
  have e0 : (e.Kind == 0) = false := by rw [beq_eq_false_iff_ne]; exact h0
  have e1 : (e.Kind == 1) = false := by rw [beq_eq_false_iff_ne]; exact h1
  have e2 : (e.Kind == 2) = false := by rw [beq_eq_false_iff_ne]; exact h2
  have e3 : (e.Kind == 3) = false := by rw [beq_eq_false_iff_ne]; exact h3
  rw [e0, e1, e2, e3]
  have : (decide (0 ≤ e.Kind) && decide (e.Kind ≤ 3)) = false := by
    by_cases h : 0 ≤ e.Kind
    · rw [decide_eq_false (show ¬ e.Kind ≤ 3 by omega)]; simp
    · rw [decide_eq_false h]; rfl
  rw [this]
  rfl
theorem fits_len {e : TEnd} {n : Nat} (h : fitsE e n = true) : e.To.length ≤ 2 := by
  unfold fitsE kindB at h
  simp only [Bool.and_eq_true, decide_eq_true_eq] at h
  obtain ⟨⟨⟨h0, h1⟩, h2⟩, _⟩ := h
  have : wantK e.Kind ≤ 2 := by
    have : e.Kind = 0 ∨ e.Kind = 1 ∨ e.Kind = 2 ∨ e.Kind = 3 := by omega
    rcases this with h | h | h | h <;> rw [h] <;> decide
  omega
theorem fits_to {e : TEnd} {n : Nat} (h : fitsE e n = true) : toB n e.To = true := by unfold fitsE at h; exact (Bool.and_eq_true _ _ ▸ h).2

/-! ### Of -/
def endAt (f : TFunc) (i : Nat) : TEnd := (f.Blocks.getD i (default : TBlock)).End
def rowsF (f : TFunc) : List (List Int) := (List.range f.Blocks.length).map fun i => riseL (endAt f i).To
def shapeB (f : TFunc) : Bool := (decide (1 ≤ f.Blocks.length) && decide (f.Blocks.length ≤ 64)) && (List.range f.Blocks.length).all fun i => fitsE (endAt f i) f.Blocks.length
theorem shape_iff {f : TFunc} : shapeB f = true ↔ (1 ≤ f.Blocks.length ∧ f.Blocks.length ≤ 64) ∧ ∀ i, i < f.Blocks.length → fitsE (endAt f i) f.Blocks.length = true := by
  unfold shapeB
  rw [Bool.and_eq_true, Bool.and_eq_true, all_range]
  simp only [decide_eq_true_eq]
theorem rise_ok {f : TFunc} {i : Nat} (h : fitsE (endAt f i) f.Blocks.length = true) : okL f.Blocks.length (riseL (endAt f i).To) = true := by
  obtain ⟨h1, h2⟩ := rise_spec (endAt f i).To
  exact okL_of (fun x hx => by have := (toB_iff.1 (fits_to h)) x ((h2 x).1 hx); omega) h1
theorem rows_may {f : TFunc} (h : shapeB f = true) : mayS (rowsF f) = true := by
  obtain ⟨⟨h1, h2⟩, h3⟩ := shape_iff.1 h
  have hl : (rowsF f).length = f.Blocks.length := by simp [rowsF]
  refine mayS_iff.2 ⟨by omega, by omega, fun i hi => ?_⟩
  rw [hl] at hi ⊢
  unfold rowsF
  rw [getD_mr hi]
  exact rise_ok (h3 i hi)
theorem m_of (f : TFunc) (hf : f.Blocks.length ≤ maxLen) : m_graph_Of f = some (bif shapeB f then (gOf (rowsF f), 0) else (g0, 5)) := by
  have hroom : (1000 : Nat) ≤ room := by decide
  unfold m_graph_Of
  rw [m_isCount, Option.bind_some]
  have hsh : shapeB f = ((decide (1 ≤ f.Blocks.length) && decide (f.Blocks.length ≤ 64)) && (List.range f.Blocks.length).all fun i => fitsE (endAt f i) f.Blocks.length) := rfl
  cases hc : (decide (1 ≤ f.Blocks.length) && decide (f.Blocks.length ≤ 64)) with
  | false => rw [hsh, hc]; rfl
  | true =>
    have hc' := hc
    simp only [Bool.and_eq_true, decide_eq_true_eq] at hc'
    simp only [Bool.not_true, cond_false]
    rw [chk_pos ⟨by omega, Int.le_refl _, by omega⟩, nat_nat]
    let U : Nat → List (List Int) := fun i => (List.range f.Blocks.length).map fun j => if j < i then riseL (endAt f j).To else []
    have e0 : List.replicate f.Blocks.length ([] : List Int) = U 0 := by
      simp only [U]
      apply List.ext_getElem?
      intro j
      by_cases hj : j < f.Blocks.length <;> simp [hj, List.getElem?_replicate]
    have eN : U f.Blocks.length = rowsF f := by
      simp only [U, rowsF]
      apply mr_congr
      intro j hj
      rw [if_pos hj]
    rw [e0]
    have hstep : ∀ i : Nat, i < f.Blocks.length → m_graph_Of_L1 f ((i : Int), U i) = bif fitsE (endAt f i) f.Blocks.length then some (.next (((i + 1 : Nat) : Int), U (i + 1))) else some (.done (.inr (g0, 5))) := fun i hi => by
      unfold m_graph_Of_L1
      simp only [dlt_t hi, cond_true, nat_nat]
      rw [chk_pos (inb hi)]
      have he : (⟨(f.Blocks.getD i (default : TBlock)).End.Kind, (f.Blocks.getD i (default : TBlock)).End.Arg, (f.Blocks.getD i (default : TBlock)).End.To⟩ : TEnd) = endAt f i := rfl
      rw [he, m_endFits, Option.bind_some]
      cases hfit : fitsE (endAt f i) f.Blocks.length with
      | false => rfl
      | true =>
        have hl2 := fits_len hfit
        simp only [Bool.not_true, cond_false, cond_true]
        have hx : x_rising (f.Blocks.getD i (default : TBlock)).End.To = some (riseL (endAt f i).To) := by
          unfold x_rising
          rw [chk_pos (by show (endAt f i).To.length ≤ _; omega)]
          rfl
        rw [hx, Option.bind_some, chk_pos (inb (by simp [U]; omega)), w1 (by omega)]
        congr 3
        simp only [U]
        rw [set_mr]
        apply mr_congr
        intro j hj
        by_cases h1 : j = i
        · subst h1; rw [if_pos rfl, if_pos (by omega)]
        · rw [if_neg h1]
          by_cases h2 : j < i
          · rw [if_pos h2, if_pos (by omega)]
          · rw [if_neg h2, if_neg (by omega)]
    have := loop_find (m_graph_Of_L1 f) (fun i => (((i : Nat) : Int), U i)) (fun i => fitsE (endAt f i) f.Blocks.length) (.inl (U f.Blocks.length)) (.inr (g0, 5)) f.Blocks.length (fun i hi hp => ?_) (fun i hi hp => ?_) ?_
    · rw [show loopO (m_graph_Of_L1 f) ((0 : Int), U 0) = _ from this, hsh, hc, eN, Bool.true_and]
      cases hall : (List.range f.Blocks.length).all fun i => fitsE (endAt f i) f.Blocks.length with
      | false => rfl
      | true =>
        simp only [cond_true, Option.bind_some]
        rw [m_comers _ (rows_may (by rw [hsh, hc, hall]; rfl))]
        rfl
    · show m_graph_Of_L1 f (_, _) = _
      rw [hstep i hi, hp]; rfl
    · show m_graph_Of_L1 f (_, _) = _
      rw [hstep i hi, hp]; rfl
    · show m_graph_Of_L1 f (_, _) = _
      unfold m_graph_Of_L1
      simp only [dlt_f, cond_false]
end Go.Proofs.Ytcpopeamoipjlaa
