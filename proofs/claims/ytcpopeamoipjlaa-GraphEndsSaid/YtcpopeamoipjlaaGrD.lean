/-
  Graphs: the document's Make and May; which are gone through.
-/
import Derived.Test.YtcpopeamoipjlaaGrC
namespace Go.Proofs.Ytcpopeamoipjlaa
open Go Go.RowKit
set_option linter.unusedVariables false
set_option linter.unusedSimpArgs false

theorem chk_imp {R : Type} {c : Bool} {q : Prop} [Decidable q] {k : Option R} (h : q) : chk (c = true → q) k = k := chk_pos fun _ => h
theorem chk_off {R : Type} {q : Prop} [Decidable q] {k : Option R} : chk (false = true → q) k = k := chk_pos (by intro h; cases h)
/-- What the document says of one element. -/
def badAt (n : Nat) (l : List Int) (j : Nat) : Bool :=
  bif (bif decide (l.getD j 0 < 0) then true else decide ((n : Int) ≤ l.getD j 0)) then true else (bif decide ((0 : Int) < (j : Int)) then decide (l.getD j 0 ≤ l.getD (j - 1) 0) else false)
theorem bad_ok (n : Nat) (l : List Int) (j : Nat) : badAt n l j = !okAt n l j := by
  unfold badAt okAt
  by_cases h0 : l.getD j 0 < 0
  · have h1 : decide (0 ≤ l.getD j 0) = false := by simpa using h0
    rw [decide_eq_true h0, h1]; simp
  · have h1 : decide (0 ≤ l.getD j 0) = true := by simpa using h0
    rw [decide_eq_false h0, h1]
    by_cases h2 : (n : Int) ≤ l.getD j 0
    · have h3 : decide (l.getD j 0 < (n : Int)) = false := by simpa using h2
      rw [decide_eq_true h2, h3]; simp
    · have h3 : decide (l.getD j 0 < (n : Int)) = true := by simpa using h2
      rw [decide_eq_false h2, h3]
      by_cases hj : j = 0
      · subst hj
        have h4 : decide ((-1 : Int) < l.getD 0 0) = true := decide_eq_true (by omega)
        rw [if_pos rfl, h4]; simp
      · rw [if_neg hj, decide_eq_true (show (0 : Int) < (j : Int) by omega)]
        by_cases h5 : l.getD j 0 ≤ l.getD (j - 1) 0
        · rw [decide_eq_true h5, decide_eq_false (show ¬ l.getD (j - 1) 0 < l.getD j 0 by omega)]; rfl
        · rw [decide_eq_false h5, decide_eq_true (show l.getD (j - 1) 0 < l.getD j 0 by omega)]; rfl
theorem ref_make_L1 (L : List (List Int)) (i : Nat) (hi : i < L.length) (hl : (L.getD i []).length < 4611686018427387904) :
    loopO (m_lockstepref06_Make_L1 L (i : Int)) (0 : Int) = some (bif okL L.length (L.getD i []) then .inl () else .inr (g0, 5)) := by
  have hw : ∀ j : Nat, j < (L.getD i []).length → 0 < j → w64 ((j : Int) - 1) = ((j - 1 : Nat) : Int) := fun j hj hp => by rw [w64_of (by omega) (by omega)]; omega
  have step : ∀ j, j < (L.getD i []).length → m_lockstepref06_Make_L1 L (i : Int) (j : Int) = bif badAt L.length (L.getD i []) j then some (.done (.inr (g0, 5))) else some (.next (((j + 1 : Nat) : Int))) := fun j hj => by
    unfold m_lockstepref06_Make_L1
    simp only [nat_nat, dlt_t hj, cond_true]
    rw [chk_pos (inb hi), chk_pos (inb hi), chk_pos (inb hj), chk_imp (inb hi), chk_imp (inb hj), chk_imp (inb hi), chk_imp (inb hj), chk_imp (inb hi), w1 (by omega)]
    by_cases hz : j = 0
    · subst hz
      have : decide ((0 : Int) < ((0 : Nat) : Int)) = false := by decide
      unfold badAt
      rw [this]
      simp only [cond_false]
      rw [show ((false == true) = false) from rfl, Bool.and_false, chk_off]
      rfl
    · rw [hw j hj (by omega), chk_imp (inb (by omega)), nat_nat]
      rfl
  have := loop_find (m_lockstepref06_Make_L1 L (i : Int)) (fun j => ((j : Nat) : Int)) (okAt L.length (L.getD i [])) (.inl ()) (.inr (g0, 5)) (L.getD i []).length (fun j hj hp => ?_) (fun j hj hp => ?_) ?_
  · exact this
  · show m_lockstepref06_Make_L1 L (i : Int) (j : Int) = _
    rw [step j hj, bad_ok, hp]; rfl
  · show m_lockstepref06_Make_L1 L (i : Int) (j : Int) = _
    rw [step j hj, bad_ok, hp]; rfl
  · show m_lockstepref06_Make_L1 L (i : Int) _ = _
    unfold m_lockstepref06_Make_L1
    simp only [nat_nat, dlt_f, cond_false]
    rw [chk_pos (inb hi)]
theorem ref_make_rows (L : List (List Int)) (h : mayS L = true) : loopO (m_lockstepref06_Make_L4 L) ((0 : Int), List.replicate L.length ([] : List Int)) = some (predOf L) := by
  obtain ⟨h1, h2, h3⟩ := mayS_iff.1 h
  have hroom : (1000 : Nat) ≤ room := by decide
  have hfit := small_fits (mayS_fits h)
  let R : Nat → Nat → List (List Int) := fun i k => (List.range L.length).map fun j => if j < i then predAt L L.length j else if j = i then predAt L k i else []
  have inner : ∀ i, i < L.length → loopO (m_lockstepref06_Make_L3 L (i : Int)) ((0 : Int), R i 0) = some (R i L.length) := fun i hi => by
    refine loop_seq (m_lockstepref06_Make_L3 L (i : Int)) (fun k => (((k : Nat) : Int), R i k)) (R i L.length) L.length (fun k hk => ?_) ?_
    · show m_lockstepref06_Make_L3 L (i : Int) (_, _) = _
      have hlen : (R i k).length = L.length := by simp [R]
      have hat : (R i k).getD i [] = predAt L k i := by simp only [R]; rw [getD_mr hi]; simp
      unfold m_lockstepref06_Make_L3
      simp only [nat_nat, dlt_t hk, cond_true]
      rw [chk_pos (inb hk), m_has _ _ (hfit.at k), Option.bind_some, w1 (by omega)]
      have hg : goesB L k i = (L.getD k []).contains (i : Int) := rfl
      rw [← hg, hat]
      have hs : (if goesB L k i = true then (R i k).set i (predAt L k i ++ [(k : Int)]) else R i k) = R i (k + 1) := by
        split
        · rename_i hgo
          simp only [R]
          rw [set_mr]
          apply mr_congr
          intro j hj
          by_cases hji : j = i
          · subst hji; simp [predAt_succ, hgo]
          · simp [hji]
        · rename_i hgo
          simp only [R]
          apply mr_congr
          intro j hj
          by_cases hji : j = i
          · subst hji; simp [predAt_succ, hgo]
          · simp [hji]
      rw [← hs]
      cases hgo : goesB L k i with
      | false => rfl
      | true =>
        have := predAt_len L k i
        simp only [cond_true]
        rw [chk_pos (by rw [hlen]; exact inb hi), chk_pos (by rw [hlen]; exact inb hi), chk_pos (by rw [List.length_singleton]; omega), chk_pos (by rw [hlen]; exact inb hi)]
        rfl
    · show m_lockstepref06_Make_L3 L (i : Int) (_, _) = _
      unfold m_lockstepref06_Make_L3
      simp only [dlt_f, cond_false]
  have : loopO (m_lockstepref06_Make_L4 L) ((0 : Int), R 0 0) = some (predOf L) := loop_seq (m_lockstepref06_Make_L4 L) (fun i => (((i : Nat) : Int), R i 0)) (predOf L) L.length (fun i hi => ?_) ?_
  · have e0 : List.replicate L.length ([] : List Int) = R 0 0 := by
      simp only [R]
      apply List.ext_getElem?
      intro j
      by_cases hj : j < L.length <;> simp [hj, List.getElem?_replicate, predAt]
    rw [e0, this]
  · show m_lockstepref06_Make_L4 L (_, _) = _
    unfold m_lockstepref06_Make_L4
    simp only [dlt_t hi, cond_true]
    rw [inner i hi, w1 (by omega)]
    simp only [Option.bind_some]
    congr 3
    simp only [R]
    apply mr_congr
    intro j hj
    by_cases h4 : j < i
    · simp [h4, show j < i + 1 by omega]
    · by_cases h5 : j = i
      · subst h5; simp
      · simp [h4, h5, show ¬ j < i + 1 by omega]
        intro h6
        simp [predAt]
  · show m_lockstepref06_Make_L4 L (_, _) = _
    unfold m_lockstepref06_Make_L4
    simp only [dlt_f, cond_false]
    congr 2
    simp only [R, predOf]
    apply mr_congr
    intro j hj
    simp [hj]
theorem m_ref_make (L : List (List Int)) (h : Fits L) : m_lockstepref06_Make L = some (bif mayS L then (gOf L, 0) else (g0, 5)) := by
  have hroom : (1000 : Nat) ≤ room := by decide
  unfold m_lockstepref06_Make
  have hc : (bif ((L.length : Int) == (0 : Int)) then true else decide ((64 : Int) < (L.length : Int))) = !(decide (1 ≤ L.length) && decide (L.length ≤ 64)) := by
    by_cases h0 : L.length = 0
    · rw [h0]; rfl
    · rw [show ((L.length : Int) == 0) = false by simp only [beq_eq_false_iff_ne]; omega, decide_eq_true (show 1 ≤ L.length by omega)]
      by_cases h1 : L.length ≤ 64
      · rw [decide_eq_true h1, decide_eq_false (show ¬ (64 : Int) < (L.length : Int) by omega)]; rfl
      · rw [decide_eq_false h1, decide_eq_true (show (64 : Int) < (L.length : Int) by omega)]; rfl
  rw [hc]
  have hm : mayS L = ((decide (1 ≤ L.length) && decide (L.length ≤ 64)) && (List.range L.length).all fun i => okL L.length (L.getD i [])) := rfl
  cases hb : (decide (1 ≤ L.length) && decide (L.length ≤ 64)) with
  | false => rw [hm, hb]; rfl
  | true =>
    simp only [Bool.not_true, cond_false]
    have hb' := hb
    simp only [Bool.and_eq_true, decide_eq_true_eq] at hb'
    have : loopO (m_lockstepref06_Make_L2 L) (0 : Int) = _ := loop_find (m_lockstepref06_Make_L2 L) (fun j => ((j : Nat) : Int)) (fun i => okL L.length (L.getD i [])) (.inl ()) (.inr (g0, 5)) L.length (fun j hj hp => ?_) (fun j hj hp => ?_) ?_
    · rw [this]
      cases hall : (List.range L.length).all fun i => okL L.length (L.getD i []) with
      | false => rw [hm, hb, hall]; rfl
      | true =>
        have hmay : mayS L = true := by rw [hm, hb, hall]; rfl
        rw [hmay]
        simp only [cond_true, Option.bind_some]
        rw [chk_pos ⟨by omega, Int.le_refl _, by omega⟩, nat_nat, ref_make_rows L hmay]
        rfl
    · show m_lockstepref06_Make_L2 L (j : Int) = _
      unfold m_lockstepref06_Make_L2
      simp only [dlt_t hj, cond_true]
      rw [ref_make_L1 L j hj (h.at j), hp, w1 (by omega)]
      rfl
    · show m_lockstepref06_Make_L2 L (j : Int) = _
      unfold m_lockstepref06_Make_L2
      simp only [dlt_t hj, cond_true]
      rw [ref_make_L1 L j hj (h.at j), hp]
      rfl
    · show m_lockstepref06_Make_L2 L _ = _
      unfold m_lockstepref06_Make_L2
      simp only [dlt_f, cond_false]
theorem gOf_fits {L : List (List Int)} (h : mayS L = true) : Fits (gOf L).Succ ∧ Fits (gOf L).Pred := ⟨small_fits (mayS_fits h), small_fits (predOf_small h)⟩
theorem m_ref_may (g : TGraph) (h : Fits g.Succ) : m_lockstepref06_May g = some (mayG g) := by
  unfold m_lockstepref06_May mayG
  rw [m_ref_make _ h, Option.bind_some]
  cases hm : mayS g.Succ with
  | false => rfl
  | true =>
    simp only [cond_true, beq_self_eq_true, Bool.true_and]
    rw [m_same _ _ (gOf_fits hm).1 (gOf_fits hm).2]
    simp only [Option.bind_some]
    congr 1
    apply decide_eq_decide.2
    cases g with
    | mk s p =>
      simp only [gOf, TGraph.mk.injEq, true_and]
      exact eq_comm
/-- Which are gone through. -/
def smallS (L : List (List Int)) : Bool := (List.range L.length).all fun i => decide ((L.getD i []).length ≤ 100) && decide (i ≤ 100)
theorem m_small (L : List (List Int)) (hL : L.length < 9223372036854775808) : m_lockstepref06_Small L = some (smallS L) := by
  unfold m_lockstepref06_Small
  have step : ∀ j : Nat, j < L.length → m_lockstepref06_Small_L1 L (j : Int) = bif (decide ((L.getD j []).length ≤ 100) && decide (j ≤ 100)) then some (.next (((j + 1 : Nat) : Int))) else some (.done (.inr false)) := fun j hj => by
    unfold m_lockstepref06_Small_L1
    simp only [nat_nat, dlt_t hj, cond_true]
    rw [chk_pos (inb hj)]
    have hw : w64 ((j : Int) + 1) = ((j + 1 : Nat) : Int) := by rw [w64_of (by omega) (by omega)]; omega
    rw [hw]
    by_cases h1 : (L.getD j []).length ≤ 100
    · rw [decide_eq_true h1, decide_eq_false (show ¬ (100 : Int) < ((L.getD j []).length : Int) by omega)]
      by_cases h2 : j ≤ 100
      · rw [decide_eq_true h2, decide_eq_false (show ¬ (100 : Int) < (j : Int) by omega)]; rfl
      · rw [decide_eq_false h2, decide_eq_true (show (100 : Int) < (j : Int) by omega)]; rfl
    · rw [decide_eq_false h1, decide_eq_true (show (100 : Int) < ((L.getD j []).length : Int) by omega)]; rfl
  have : loopO (m_lockstepref06_Small_L1 L) (0 : Int) = _ := loop_find (m_lockstepref06_Small_L1 L) (fun j => ((j : Nat) : Int)) (fun i => decide ((L.getD i []).length ≤ 100) && decide (i ≤ 100)) (.inl ()) (.inr false) L.length (fun j hj hp => ?_) (fun j hj hp => ?_) ?_
  · rw [this]
    unfold smallS
    cases (List.range L.length).all fun i => decide ((L.getD i []).length ≤ 100) && decide (i ≤ 100) <;> rfl
  · show m_lockstepref06_Small_L1 L (j : Int) = _
    rw [step j hj, hp]; rfl
  · show m_lockstepref06_Small_L1 L (j : Int) = _
    rw [step j hj, hp]; rfl
  · show m_lockstepref06_Small_L1 L _ = _
    unfold m_lockstepref06_Small_L1
    simp only [dlt_f, cond_false]
theorem smallS_fits {L : List (List Int)} (h : smallS L = true) : Fits L := by
  unfold smallS at h
  rw [all_range] at h
  simp only [Bool.and_eq_true, decide_eq_true_eq] at h
  refine fits_of ⟨?_, fun l hl => ?_⟩
  · by_cases h0 : L.length = 0
    · omega
    · have := (h (L.length - 1) (by omega)).2; omega
  · obtain ⟨i, hi, rfl⟩ := List.getElem_of_mem hl
    have := (h i hi).1
    rw [getD_eq_of_lt _ _ _ hi] at this
    omega
end Go.Proofs.Ytcpopeamoipjlaa
