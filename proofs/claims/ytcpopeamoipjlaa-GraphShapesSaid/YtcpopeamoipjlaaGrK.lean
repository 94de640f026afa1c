/-
  Of blocks that go on one at the next the order is they, one by one.
-/
import Derived.Test.YtcpopeamoipjlaaGrJ
namespace Go.Proofs.Ytcpopeamoipjlaa
open Go Go.RowKit
set_option linter.unusedVariables false
set_option linter.unusedSimpArgs false

theorem chain_vl (S : Nat → List Nat) (p : Nat → Nat) (m : Nat) (hinj : ∀ i j, i < m → j < m → p i = p j → i = j) (hstep : ∀ i, i + 1 < m → S (p i) = [p (i + 1)]) (hend : S (p (m - 1)) = [] ∨ S (p (m - 1)) = [p 0]) :
    ∀ (d i : Nat), i + d + 1 = m → ∀ s : Nat → Bool, (∀ z, s z = true ↔ ∃ j, j ≤ i ∧ z = p j) → ∃ s', VL S s (S (p i)) s' ((List.range' (i + 1) d).map p).reverse := by
  intro d
  induction d with
  | zero =>
    intro i hi s hs
    have him : i = m - 1 := by omega
    subst him
    rcases hend with h | h
    · rw [h]; exact ⟨s, .nil s⟩
    · rw [h]; exact ⟨s, .skip ((hs _).2 ⟨0, by omega, rfl⟩) (.nil s)⟩
  | succ d ih =>
    intro i hi s hs
    rw [hstep i (by omega)]
    have hf : s (p (i + 1)) = false := by
      cases h : s (p (i + 1)) with
      | false => rfl
      | true =>
        obtain ⟨j, hj, he⟩ := (hs _).1 h
        have := hinj _ _ (by omega) (by omega) he
        omega
    obtain ⟨s', h'⟩ := ih (i + 1) (by omega) (upd s (p (i + 1))) (fun z => by
      rw [upd_true, hs]
      constructor
      · rintro (rfl | ⟨j, hj, rfl⟩)
        · exact ⟨i + 1, Nat.le_refl _, rfl⟩
        · exact ⟨j, by omega, rfl⟩
      · rintro ⟨j, hj, rfl⟩
        by_cases hji : j = i + 1
        · subst hji; exact .inl rfl
        · exact .inr ⟨j, by omega, rfl⟩)
    refine ⟨s', ?_⟩
    have := VL.step hf h' (.nil s')
    rw [List.range'_succ, List.map_cons, List.reverse_cons]
    exact this
theorem chain_ord (S : Nat → List Nat) (p : Nat → Nat) (m : Nat) (hm : 1 ≤ m) (hinj : ∀ i j, i < m → j < m → p i = p j → i = j) (hstep : ∀ i, i + 1 < m → S (p i) = [p (i + 1)]) (hend : S (p (m - 1)) = [] ∨ S (p (m - 1)) = [p 0]) :
    Ord S (p 0) ((List.range m).map p) := by
  obtain ⟨s', h⟩ := chain_vl S p m hinj hstep hend (m - 1) 0 (by omega) (one (p 0)) (fun z => by
    simp only [one, decide_eq_true_eq]
    constructor
    · rintro rfl; exact ⟨0, Nat.le_refl _, rfl⟩
    · rintro ⟨j, hj, rfl⟩
      have hj0 : j = 0 := by omega
      rw [hj0])
  refine ⟨s', _, h, ?_⟩
  rw [List.reverse_reverse]
  obtain ⟨m', rfl⟩ : ∃ m', m = m' + 1 := ⟨m - 1, by omega⟩
  rw [List.range_eq_range', List.range'_succ, List.map_cons]
  simp
theorem filter_lt_range (k r : Nat) (h : r ≤ k) : (List.range k).filter (fun j => decide (r + j < k)) = List.range (k - r) := by
  have e : List.range k = List.range (k - r) ++ (List.range' (k - r) r) := by
    have h2 := List.range'_append (s := 0) (m := k - r) (n := r) (step := 1)
    simp only [Nat.zero_add, Nat.one_mul] at h2
    rw [List.range_eq_range', List.range_eq_range', h2, show k - r + r = k by omega]
  rw [e, List.filter_append]
  have h1 : (List.range (k - r)).filter (fun j => decide (r + j < k)) = List.range (k - r) := List.filter_eq_self.2 fun j hj => by have := List.mem_range.1 hj; simp; omega
  have h2 : (List.range' (k - r) r).filter (fun j => decide (r + j < k)) = [] := List.filter_eq_nil_iff.2 fun j hj => by have := List.mem_range'_1.1 hj; simp; omega
  rw [h1, h2, List.append_nil]

/-- Blocks that go on one at the next, and the last one at the first, or not. -/
def lineL (k : Nat) (rd : Bool) : List (List Int) := (List.range k).map fun j => if j + 1 < k then [((j + 1 : Nat) : Int)] else (if rd = true then [(0 : Int)] else [])
theorem lineL_len (k : Nat) (rd : Bool) : (lineL k rd).length = k := by simp [lineL]
theorem lineL_at {k j : Nat} {rd : Bool} (hj : j < k) : (lineL k rd).getD j [] = if j + 1 < k then [((j + 1 : Nat) : Int)] else (if rd = true then [(0 : Int)] else []) := by unfold lineL; rw [getD_mr hj]
theorem lineL_may {k : Nat} {rd : Bool} (h1 : 1 ≤ k) (h2 : k ≤ 64) : mayS (lineL k rd) = true := by
  refine mayS_iff.2 ⟨by rw [lineL_len]; exact h1, by rw [lineL_len]; exact h2, fun i hi => ?_⟩
  rw [lineL_len] at hi ⊢
  rw [lineL_at hi]
  split
  · exact okL_of (fun x hx => by simp only [List.mem_singleton] at hx; omega) (List.pairwise_singleton _ _)
  · split
    · exact okL_of (fun x hx => by simp only [List.mem_singleton] at hx; omega) (List.pairwise_singleton _ _)
    · exact okL_of (fun x hx => by cases hx) List.Pairwise.nil
theorem lineS {k j : Nat} {rd : Bool} (hj : j < k) : sN (lineL k rd) j = if j + 1 < k then [j + 1] else (if rd = true then [0] else []) := by
  unfold sN
  rw [lineL_at hj]
  split
  · simp
  · split <;> simp
def wantN (k r : Nat) (rd : Bool) (i : Nat) : List Nat := ((List.range i).filter fun j => rd || decide (r + j < k)).map fun j => (r + j) % k
theorem line_ord {k r : Nat} {rd : Bool} (hr : r < k) : Ord (sN (lineL k rd)) r (wantN k r rd k) := by
  cases rd with
  | true =>
    have e : wantN k r true k = (List.range k).map fun j => (r + j) % k := by unfold wantN; rw [List.filter_eq_self.2 (by simp)]
    have hk : 0 < k := by omega
    have h := chain_ord (sN (lineL k true)) (fun j => (r + j) % k) k (by omega) (fun i j hi hj he => ?_) (fun i hi => ?_) ?_
    · rw [e]
      have e0 : (r + 0) % k = r := by rw [Nat.add_zero]; exact Nat.mod_eq_of_lt hr
      simp only [e0] at h
      exact h
    · have he' : (r + i) % k = (r + j) % k := he
      have hi2 : (r + i) % k = if r + i < k then r + i else r + i - k := by
        split
        · exact Nat.mod_eq_of_lt ‹_›
        · rw [Nat.mod_eq_sub_mod (by omega)]; exact Nat.mod_eq_of_lt (by omega)
      have hj2 : (r + j) % k = if r + j < k then r + j else r + j - k := by
        split
        · exact Nat.mod_eq_of_lt ‹_›
        · rw [Nat.mod_eq_sub_mod (by omega)]; exact Nat.mod_eq_of_lt (by omega)
      rw [hi2, hj2] at he'
      split at he' <;> split at he' <;> omega
    · show sN (lineL k true) ((r + i) % k) = [(r + (i + 1)) % k]
      rw [lineS (Nat.mod_lt _ hk)]
      by_cases h1 : r + i < k
      · rw [Nat.mod_eq_of_lt h1]
        by_cases h2 : r + i + 1 < k
        · rw [if_pos h2, show r + (i + 1) = r + i + 1 by omega, Nat.mod_eq_of_lt h2]
        · rw [if_neg h2, if_pos rfl, show r + (i + 1) = k by omega, Nat.mod_self]
      · rw [Nat.mod_eq_sub_mod (show r + i ≥ k by omega), Nat.mod_eq_of_lt (show r + i - k < k by omega), if_pos (by omega), Nat.mod_eq_sub_mod (show r + (i + 1) ≥ k by omega), Nat.mod_eq_of_lt (show r + (i + 1) - k < k by omega)]
        congr 1; omega
    · refine .inr ?_
      show sN (lineL k true) ((r + (k - 1)) % k) = [(r + 0) % k]
      rw [lineS (Nat.mod_lt _ hk), show (r + 0) % k = r by rw [Nat.add_zero]; exact Nat.mod_eq_of_lt hr]
      by_cases h0 : r = 0
      · subst h0
        rw [Nat.zero_add, Nat.mod_eq_of_lt (show k - 1 < k by omega), if_neg (by omega), if_pos rfl]
      · rw [Nat.mod_eq_sub_mod (show r + (k - 1) ≥ k by omega), Nat.mod_eq_of_lt (show r + (k - 1) - k < k by omega), if_pos (by omega)]
        congr 1; omega
  | false =>
    have e : wantN k r false k = (List.range (k - r)).map fun j => r + j := by
      unfold wantN
      have : (fun j => (false || decide (r + j < k))) = fun j => decide (r + j < k) := by funext j; simp
      rw [this, filter_lt_range k r (by omega)]
      apply List.map_congr_left
      intro j hj
      have := List.mem_range.1 hj
      exact Nat.mod_eq_of_lt (by omega)
    have h := chain_ord (sN (lineL k false)) (fun j => r + j) (k - r) (by omega) (fun i j _ _ he => by have he' : r + i = r + j := he; omega) (fun i hi => ?_) (.inl ?_)
    · rw [e]; exact h
    · show sN (lineL k false) (r + i) = [r + (i + 1)]
      rw [lineS (by omega), if_pos (by omega)]; rfl
    · show sN (lineL k false) (r + (k - r - 1)) = []
      rw [lineS (by omega), if_neg (by omega)]; rfl

theorem line6 (n f : Int) (rd : Bool) (hn : 0 ≤ n ∧ n < 256) (hf : 0 ≤ f ∧ f < 256) : m_locksteplaw06_GraphLine n f rd = some true := by
  have hroom : (1000 : Nat) ≤ room := by decide
  unfold m_locksteplaw06_GraphLine
  rw [m_awake, Option.bind_some]
  simp only [Bool.not_true, cond_false]
  have hwn : w64 n = n := w64_of (by omega) (by omega)
  have hwf : w64 f = f := w64_of (by omega) (by omega)
  obtain ⟨k, hk, hk1, hk2⟩ : ∃ k : Nat, w64 (1 + Int.tmod (w64 n) 60) = (k : Int) ∧ 1 ≤ k ∧ k ≤ 60 := by
    rw [hwn, Int.tmod_eq_emod_of_nonneg hn.1]
    have h1 := Int.emod_nonneg n (show (60 : Int) ≠ 0 by decide)
    have h2 := Int.emod_lt_of_pos n (show (0 : Int) < 60 by decide)
    rw [w64_of (by omega) (by omega)]
    exact ⟨(1 + n % 60).toNat, by omega, by omega, by omega⟩
  obtain ⟨r, hr, hrk⟩ : ∃ r : Nat, Int.tmod (w64 f) (k : Int) = (r : Int) ∧ r < k := by
    rw [hwf, Int.tmod_eq_emod_of_nonneg hf.1]
    have h1 := Int.emod_nonneg f (show (k : Int) ≠ 0 by omega)
    have h2 := Int.emod_lt_of_pos f (show (0 : Int) < k by omega)
    exact ⟨(f % (k : Int)).toNat, by omega, by omega⟩
  rw [hk, hr, nat_nat]
  rw [chk_pos ⟨by omega, Int.le_refl _, by omega⟩]
  let U : Nat → List (List Int) := fun i => (List.range k).map fun j => if j < i then [((j + 1 : Nat) : Int)] else []
  have hUlen : ∀ i, (U i).length = k := fun i => by simp [U]
  have hl1 : loopO (m_locksteplaw06_GraphLine_L1 n) ((0 : Int), U 0) = some (U (k - 1)) := by
    refine loop_seq (m_locksteplaw06_GraphLine_L1 n) (fun i => (((i : Nat) : Int), U i)) (U (k - 1)) (k - 1) (fun i hi => ?_) ?_
    · show m_locksteplaw06_GraphLine_L1 n (_, _) = _
      unfold m_locksteplaw06_GraphLine_L1
      simp only [hk, w1 (show i < 4611686018427387904 by omega), nat_nat]
      rw [dlt_t (show i + 1 < k by omega), cond_true, chk_pos (inb (by rw [hUlen]; omega))]
      congr 3
      simp only [U]
      rw [set_mr]
      apply mr_congr
      intro j hj
      by_cases h1 : j = i
      · subst h1; rw [if_pos rfl, if_pos (by omega)]
      · rw [if_neg h1]
        by_cases h2 : j < i
        · rw [if_pos h2, if_pos (by omega)]
        · rw [if_neg h2, if_neg (by omega)]
    · show m_locksteplaw06_GraphLine_L1 n (_, _) = _
      unfold m_locksteplaw06_GraphLine_L1
      simp only [hk, w1 (show k - 1 < 4611686018427387904 by omega)]
      rw [show k - 1 + 1 = k by omega, dlt_f, cond_false]
  have e0 : List.replicate k ([] : List Int) = U 0 := by
    simp only [U]
    apply List.ext_getElem?
    intro j
    by_cases hj : j < k <;> simp [hj, List.getElem?_replicate]
  rw [e0, hl1]
  simp only [Option.bind_some]
  have hx : (bif rd then (chk (InB (w64 ((k : Int) - 1)) (U (k - 1)).length) (some ((U (k - 1)).set (w64 ((k : Int) - 1)).toNat [(0 : Int)]))) else (some (U (k - 1)))) = some (lineL k rd) := by
    have hw : w64 ((k : Int) - 1) = ((k - 1 : Nat) : Int) := by rw [w64_of (by omega) (by omega)]; omega
    rw [hw, nat_nat]
    cases rd with
    | true =>
      rw [cond_true, chk_pos (inb (by rw [hUlen]; omega))]
      congr 1
      simp only [U, lineL]
      rw [set_mr]
      apply mr_congr
      intro j hj
      by_cases h1 : j = k - 1
      · rw [if_pos h1, if_neg (by omega)]; simp
      · rw [if_neg h1, if_pos (by omega), if_pos (by omega)]
    | false =>
      rw [cond_false]
      congr 1
      simp only [U, lineL]
      apply mr_congr
      intro j hj
      by_cases h1 : j < k - 1
      · rw [if_pos h1, if_pos (by omega)]
      · rw [if_neg h1, if_neg (by omega)]; rfl
  rw [hx]
  simp only [Option.bind_some]
  have hm := lineL_may (rd := rd) hk1 (show k ≤ 64 by omega)
  have ff := gOf_fits hm
  rw [m_make (lineL k rd) ff.1, hm]
  simp only [cond_true, Option.bind_some]
  rw [chk_pos (by omega)]
  have hl2 : loopO (m_locksteplaw06_GraphLine_L2 n f rd) (([] : List Int), (0 : Int)) = some (ofN (wantN k r rd k)) := by
    refine loop_seq (m_locksteplaw06_GraphLine_L2 n f rd) (fun i => (ofN (wantN k r rd i), ((i : Nat) : Int))) _ k (fun i hi => ?_) ?_
    · show m_locksteplaw06_GraphLine_L2 n f rd (_, _) = _
      unfold m_locksteplaw06_GraphLine_L2
      simp only [hk, hr]
      have hlen : (ofN (wantN k r rd i)).length ≤ i := by
        unfold wantN ofN
        rw [List.length_map, List.length_map]
        have := List.length_filter_le (fun j => rd || decide (r + j < k)) (List.range i)
        simpa using this
      rw [dlt_t hi, cond_true, w1 (by omega), show w64 ((r : Int) + (i : Int)) = ((r + i : Nat) : Int) by rw [w64_of (by omega) (by omega)]; omega]
      have hmod : Int.tmod ((r + i : Nat) : Int) (k : Int) = (((r + i) % k : Nat) : Int) := by rw [Int.tmod_eq_emod_of_nonneg (by omega)]; exact (Int.natCast_emod _ _).symm
      rw [hmod, dlt]
      have hws : wantN k r rd (i + 1) = wantN k r rd i ++ (if (rd || decide (r + i < k)) = true then [(r + i) % k] else []) := by
        unfold wantN
        rw [List.range_succ, List.filter_append, List.map_append]
        congr 1
        cases hg : (rd || decide (r + i < k)) <;> simp [hg]
      have hb : (bif rd then true else decide (r + i < k)) = (rd || decide (r + i < k)) := by cases rd <;> rfl
      rw [hb, hws]
      cases hg : (rd || decide (r + i < k)) with
      | true =>
        rw [cond_true, chk_pos (by omega), chk_pos (by rw [List.length_singleton]; omega)]
        simp [ofN]
      | false =>
        simp
    · show m_locksteplaw06_GraphLine_L2 n f rd (_, _) = _
      unfold m_locksteplaw06_GraphLine_L2
      simp only [hk, dlt_f, cond_false]
  rw [hl2]
  simp only [Option.bind_some, beq_self_eq_true, cond_true]
  rw [m_ref_may _ ff.1, mayG_gOf hm]
  simp only [Option.bind_some, beq_self_eq_true, cond_true]
  have ho := (m_order (gOf (lineL k rd)) ff.1 trivial (r : Int)).1 (mayG_gOf hm) (by omega) (by show (r : Int) < ((lineL k rd).length : Int); rw [lineL_len]; omega) (wantN k r rd k) (by rw [nat_nat]; exact line_ord hrk)
  rw [ho, Option.bind_some, m_ints _ _ (by
    unfold wantN ofN
    rw [List.length_map, List.length_map]
    have := List.length_filter_le (fun j => rd || decide (r + j < k)) (List.range k)
    simp only [List.length_range] at this
    omega)]
  simp
end Go.Proofs.Ytcpopeamoipjlaa
