/-
  Graphs: who goes on at whom, copies, sameness, which graphs may be, and how one is made.
-/
import Derived.Test.YtcpopeamoipjlaaGrA
namespace Go.Proofs.Ytcpopeamoipjlaa
open Go Go.RowKit
set_option linter.unusedVariables false
set_option linter.unusedSimpArgs false

theorem getD_mr {α : Type} {n i : Nat} {g : Nat → α} {d : α} (h : i < n) : ((List.range n).map g).getD i d = g i := by simp [List.getD, h]
theorem set_mr {α : Type} {n i : Nat} {g : Nat → α} {x : α} : ((List.range n).map g).set i x = (List.range n).map fun j => if j = i then x else g j := by
  apply List.ext_getElem?
  intro j
  rw [List.getElem?_set]
  by_cases hj : j < n
  · by_cases hij : i = j
    · subst hij; simp [hj]
    · simp [hij, hj, Ne.symm hij]
  · simp [hj]
    intro h; omega
theorem mr_congr {α : Type} {n : Nat} {g h : Nat → α} (H : ∀ i, i < n → g i = h i) : (List.range n).map g = (List.range n).map h := List.map_congr_left fun i hi => H i (List.mem_range.1 hi)

theorem mayS_iff {L : List (List Int)} : mayS L = true ↔ 1 ≤ L.length ∧ L.length ≤ 64 ∧ ∀ i, i < L.length → okL L.length (L.getD i []) = true := by
  unfold mayS
  rw [Bool.and_eq_true, Bool.and_eq_true, all_range]
  simp only [decide_eq_true_eq]
  exact ⟨fun ⟨⟨a, b⟩, c⟩ => ⟨a, b, c⟩, fun ⟨a, b, c⟩ => ⟨⟨a, b⟩, c⟩⟩
theorem okL_iff {n : Nat} {l : List Int} : okL n l = true ↔ ∀ i, i < l.length → (0 ≤ l.getD i 0 ∧ l.getD i 0 < n) ∧ (0 < i → l.getD (i - 1) 0 < l.getD i 0) := by
  unfold okL
  rw [all_range]
  unfold okAt
  simp only [Bool.and_eq_true, decide_eq_true_eq]
  constructor
  · intro h i hi
    obtain ⟨h1, h2, h3⟩ := h i hi
    refine ⟨⟨h2, h3⟩, fun hp => ?_⟩
    rwa [if_neg (by omega)] at h1
  · intro h i hi
    obtain ⟨⟨h2, h3⟩, h1⟩ := h i hi
    refine ⟨?_, h2, h3⟩
    by_cases hz : i = 0
    · rw [if_pos hz]; omega
    · rw [if_neg hz]; exact h1 (by omega)
section
variable {n : Nat} {l : List Int} (h : okL n l = true)
include h
theorem okL_at {i : Nat} (hi : i < l.length) : 0 ≤ l.getD i 0 ∧ l.getD i 0 < n := (okL_iff.1 h i hi).1
theorem okL_lt {i j : Nat} (hij : i < j) (hj : j < l.length) : l.getD i 0 < l.getD j 0 := by
  induction j with
  | zero => omega
  | succ j ih =>
    have h1 := (okL_iff.1 h (j + 1) hj).2 (by omega)
    rw [show j + 1 - 1 = j by omega] at h1
    by_cases he : i = j
    · rw [he]; exact h1
    · exact Int.lt_trans (ih (by omega) (by omega)) h1
theorem okL_ge {i : Nat} (hi : i < l.length) : (i : Int) ≤ l.getD i 0 := by
  induction i with
  | zero => exact (okL_at h hi).1
  | succ i ih =>
    have := okL_lt h (show i < i + 1 by omega) hi
    have := ih (by omega)
    omega
theorem okL_len : l.length ≤ n := by
  by_cases hz : l.length = 0
  · omega
  · have h1 := okL_ge h (show l.length - 1 < l.length by omega)
    have h2 := (okL_at h (show l.length - 1 < l.length by omega)).2
    omega
theorem okL_mem {x : Int} (hx : x ∈ l) : 0 ≤ x ∧ x < n := by
  obtain ⟨i, hi, rfl⟩ := List.getElem_of_mem hx
  have := okL_at h hi
  rwa [getD_eq_of_lt _ _ _ hi] at this
theorem okL_pair : l.Pairwise (· < ·) := by
  rw [List.pairwise_iff_getElem]
  intro i j hi hj hij
  have := okL_lt h hij hj
  rwa [getD_eq_of_lt _ _ _ hi, getD_eq_of_lt _ _ _ hj] at this
end
theorem okL_of {n : Nat} {l : List Int} (h1 : ∀ x ∈ l, 0 ≤ x ∧ x < n) (h2 : l.Pairwise (· < ·)) : okL n l = true := by
  rw [okL_iff]
  intro i hi
  rw [getD_eq_of_lt _ _ _ hi]
  refine ⟨h1 _ (List.getElem_mem hi), fun hp => ?_⟩
  rw [getD_eq_of_lt _ _ _ (show i - 1 < l.length by omega)]
  exact (List.pairwise_iff_getElem.1 h2) _ _ _ _ (by omega)
theorem mayS_fits {L : List (List Int)} (h : mayS L = true) : L.length ≤ 64 ∧ ∀ l ∈ L, l.length ≤ 64 := by
  obtain ⟨h1, h2, h3⟩ := mayS_iff.1 h
  refine ⟨h2, fun l hl => ?_⟩
  obtain ⟨i, hi, rfl⟩ := List.getElem_of_mem hl
  have := okL_len (h3 i hi)
  rw [getD_eq_of_lt _ _ _ hi] at this
  omega
theorem fits_of {L : List (List Int)} (h : L.length ≤ 1000 ∧ ∀ l ∈ L, l.length ≤ 1000) : Fits L := ⟨by omega, fun l hl => by have := h.2 l hl; omega⟩

/-! ### Copies -/
theorem m_clone (l : List Int) (h : l.length ≤ room) : m_slices_Clone_int_int l = some l := by
  unfold m_slices_Clone_int_int
  rw [chk_pos (by simpa using h)]
  simp
theorem m_copied (L : List (List Int)) (h : L.length ≤ 1000 ∧ ∀ l ∈ L, l.length ≤ 1000) : m_graph_copied L = some L := by
  have hroom : (1000 : Nat) ≤ room := by decide
  unfold m_graph_copied
  rw [chk_pos ⟨by omega, Int.le_refl _, by omega⟩, nat_nat]
  have : loopO (m_graph_copied_L1 L) ((0 : Int), (List.range L.length).map fun i => if i < 0 then L.getD i [] else []) = some L := loop_seq (m_graph_copied_L1 L) (fun j => (((j : Nat) : Int), (List.range L.length).map fun i => if i < j then L.getD i [] else [])) L L.length (fun j hj => ?_) ?_
  · have e0 : (List.replicate L.length ([] : List Int)) = (List.range L.length).map fun i => if i < 0 then L.getD i [] else [] := by
      apply List.ext_getElem?
      intro i
      by_cases hi : i < L.length <;> simp [hi, List.getElem?_replicate]
    rw [e0, this]; rfl
  · show m_graph_copied_L1 L (_, _) = _
    unfold m_graph_copied_L1
    simp only [nat_nat, dlt_t hj, cond_true]
    rw [chk_pos (inb hj), m_clone _ (by have := h.2 _ (getD_mem (d := []) hj); omega), Option.bind_some, chk_pos (inb (by simpa using hj)), set_mr, w1 (by omega)]
    congr 3
    apply mr_congr
    intro i hi
    by_cases h1 : i = j
    · subst h1; simp
    · by_cases h2 : i < j
      · simp [h1, h2, show i < j + 1 by omega]
      · simp [h1, h2, show ¬ i < j + 1 by omega]
  · show m_graph_copied_L1 L (_, _) = _
    unfold m_graph_copied_L1
    simp only [dlt_f, cond_false]
    congr 2
    apply List.ext_getElem?
    intro i
    by_cases hi : i < L.length
    · simp [hi]
    · simp [hi]

/-! ### Who goes on at whom -/
theorem predAt_succ (L : List (List Int)) (k i : Nat) : predAt L (k + 1) i = predAt L k i ++ (if goesB L k i = true then [(k : Int)] else []) := by
  unfold predAt
  rw [List.range_succ, List.filter_append, List.map_append]
  congr 1
  cases hg : goesB L k i <;> simp [hg]
theorem predAt_len (L : List (List Int)) (k i : Nat) : (predAt L k i).length ≤ k := by
  unfold predAt
  rw [List.length_map]
  have := List.length_filter_le (fun k => goesB L k i) (List.range k)
  simpa using this
theorem getD_take {l : List Int} {j : Nat} (hj : j < l.length) : l.take (j + 1) = l.take j ++ [l.getD j 0] := by
  rw [getD_eq_of_lt _ _ _ hj, List.take_succ_eq_append_getElem hj]
def inTake (L : List (List Int)) (k j i : Nat) : Bool := ((L.getD k []).take j).contains (i : Int)
def rowsAt (L : List (List Int)) (k j : Nat) : List (List Int) := (List.range L.length).map fun i => predAt L k i ++ (if inTake L k j i = true then [(k : Int)] else [])
theorem comers_step (L : List (List Int)) (h : mayS L = true) (k j : Nat) (hk : k < L.length) (hj : j < (L.getD k []).length) :
    (rowsAt L k j).set ((L.getD k []).getD j 0).toNat ((rowsAt L k j).getD ((L.getD k []).getD j 0).toNat [] ++ [(k : Int)]) = rowsAt L k (j + 1) := by
  obtain ⟨h1, h2, h3⟩ := mayS_iff.1 h
  have hok := h3 k hk
  obtain ⟨a0, a1⟩ := okL_at hok hj
  unfold rowsAt
  rw [getD_mr (by omega), set_mr]
  apply mr_congr
  intro i hi
  have hnot : inTake L k j ((L.getD k []).getD j 0).toNat = false := by
    unfold inTake
    rw [Int.toNat_of_nonneg a0]
    cases hc : ((L.getD k []).take j).contains ((L.getD k []).getD j 0) with
    | false => rfl
    | true =>
      rw [List.contains_iff_mem] at hc
      obtain ⟨m, hm, he⟩ := List.getElem_of_mem hc
      have hm' : m < j := by simp at hm; omega
      rw [List.getElem_take] at he
      have := okL_lt hok hm' hj
      rw [getD_eq_of_lt _ _ _ (show m < (L.getD k []).length by omega), he] at this
      omega
  by_cases hi2 : i = ((L.getD k []).getD j 0).toNat
  · rw [if_pos hi2, hnot]
    have : inTake L k (j + 1) i = true := by
      unfold inTake
      rw [getD_take hj, List.contains_iff_mem, hi2, Int.toNat_of_nonneg a0]
      simp
    rw [this, hi2]
    simp
  · rw [if_neg hi2]
    have : inTake L k (j + 1) i = inTake L k j i := by
      unfold inTake
      rw [getD_take hj, Bool.eq_iff_iff, List.contains_iff_mem, List.contains_iff_mem, List.mem_append]
      constructor
      · rintro (hm | hm)
        · exact hm
        · simp only [List.mem_singleton] at hm; exact (hi2 (by omega)).elim
      · exact .inl
    rw [this]
theorem m_comers (L : List (List Int)) (h : mayS L = true) : m_graph_comers L = some (predOf L) := by
  obtain ⟨h1, h2, h3⟩ := mayS_iff.1 h
  have hroom : (1000 : Nat) ≤ room := by decide
  unfold m_graph_comers
  rw [chk_pos ⟨by omega, Int.le_refl _, by omega⟩, nat_nat]
  have inner : ∀ k, k < L.length → loopO (m_graph_comers_L1 L (k : Int)) ((0 : Int), rowsAt L k 0) = some (rowsAt L k (L.getD k []).length) := fun k hk => by
    have hok := h3 k hk
    refine loop_seq (m_graph_comers_L1 L (k : Int)) (fun j => (((j : Nat) : Int), rowsAt L k j)) (rowsAt L k (L.getD k []).length) (L.getD k []).length (fun j hj => ?_) ?_
    · obtain ⟨a0, a1⟩ := okL_at hok hj
      have hlen : (rowsAt L k j).length = L.length := by simp [rowsAt]
      have hl64 := okL_len hok
      show m_graph_comers_L1 L (k : Int) (_, _) = _
      unfold m_graph_comers_L1
      simp only [nat_nat, dlt_t hj, cond_true]
      have hb : InB ((L.getD k []).getD j 0) (rowsAt L k j).length := ⟨a0, by rw [hlen]; exact a1⟩
      have hrow : ((rowsAt L k j).getD ((L.getD k []).getD j 0).toNat []).length ≤ k + 1 := by
        unfold rowsAt
        rw [getD_mr (by omega), List.length_append]
        have := predAt_len L k ((L.getD k []).getD j 0).toNat
        split
        · rw [List.length_singleton]; omega
        · rw [List.length_nil]; omega
      rw [chk_pos (inb hj), chk_pos hb, chk_pos hb, chk_pos (by simp only [List.length_singleton]; omega), chk_pos hb, comers_step L h k j hk hj, w1 (by omega)]
    · show m_graph_comers_L1 L (k : Int) (_, _) = _
      unfold m_graph_comers_L1
      simp only [nat_nat, dlt_f, cond_false]
  have r0 : ∀ k, rowsAt L k 0 = (List.range L.length).map (predAt L k) := fun k => by
    unfold rowsAt
    apply mr_congr
    intro i _
    simp [inTake]
  have r1 : ∀ k, rowsAt L k (L.getD k []).length = (List.range L.length).map (predAt L (k + 1)) := fun k => by
    unfold rowsAt
    apply mr_congr
    intro i _
    rw [predAt_succ]
    unfold inTake goesB
    rw [List.take_length]
  have : loopO (m_graph_comers_L2 L) ((0 : Int), (List.range L.length).map (predAt L 0)) = some (predOf L) := loop_seq (m_graph_comers_L2 L) (fun k => (((k : Nat) : Int), (List.range L.length).map (predAt L k))) (predOf L) L.length (fun k hk => ?_) ?_
  · have e0 : (List.replicate L.length ([] : List Int)) = (List.range L.length).map (predAt L 0) := by
      apply List.ext_getElem?
      intro i
      by_cases hi : i < L.length <;> simp [hi, List.getElem?_replicate, predAt]
    rw [e0, this]; rfl
  · show m_graph_comers_L2 L (_, _) = _
    unfold m_graph_comers_L2
    simp only [dlt_t hk, cond_true]
    rw [chk_pos (inb hk), ← r0, inner k hk, r1, w1 (by omega)]
    rfl
  · show m_graph_comers_L2 L (_, _) = _
    unfold m_graph_comers_L2
    simp only [dlt_f, cond_false]
    rfl
end Go.Proofs.Ytcpopeamoipjlaa
