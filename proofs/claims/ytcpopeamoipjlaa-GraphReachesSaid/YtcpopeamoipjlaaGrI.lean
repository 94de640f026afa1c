/-
  Graphs turned; of every list of ways on both answer the same.
-/
import Derived.Test.YtcpopeamoipjlaaGrH
namespace Go.Proofs.Ytcpopeamoipjlaa
open Go Go.RowKit
set_option linter.unusedVariables false
set_option linter.unusedSimpArgs false

theorem sorted_ext : ∀ {a b : List Int}, a.Pairwise (· < ·) → b.Pairwise (· < ·) → (∀ x, x ∈ a ↔ x ∈ b) → a = b
  | [], [], _, _, _ => rfl
  | [], y :: b, _, _, h => by have := (h y).2 (List.mem_cons_self ..); cases this
  | x :: a, [], _, _, h => by have := (h x).1 (List.mem_cons_self ..); cases this
  | x :: a, y :: b, ha, hb, h => by
    have ha' := List.pairwise_cons.1 ha
    have hb' := List.pairwise_cons.1 hb
    have hxy : x = y := by
      rcases List.mem_cons.1 ((h x).1 (List.mem_cons_self ..)) with h1 | h1
      · exact h1
      · rcases List.mem_cons.1 ((h y).2 (List.mem_cons_self ..)) with h2 | h2
        · exact h2.symm
        · have := ha'.1 y h2
          have := hb'.1 x h1
          omega
    subst hxy
    congr 1
    refine sorted_ext ha'.2 hb'.2 fun z => ⟨fun hz => ?_, fun hz => ?_⟩
    · rcases List.mem_cons.1 ((h z).1 (List.mem_cons_of_mem _ hz)) with rfl | h1
      · have := ha'.1 z hz; omega
      · exact h1
    · rcases List.mem_cons.1 ((h z).2 (List.mem_cons_of_mem _ hz)) with rfl | h1
      · have := hb'.1 z hz; omega
      · exact h1
theorem filt_sorted (p : Nat → Bool) (n : Nat) : (((List.range n).filter p).map Int.ofNat).Pairwise (· < ·) := by
  rw [List.pairwise_map]
  have := (List.pairwise_lt_range (n := n)).filter p
  exact this.imp fun h => by simpa using h
theorem mem_filt {p : Nat → Bool} {n : Nat} {x : Int} : x ∈ ((List.range n).filter p).map Int.ofNat ↔ ∃ k : Nat, x = (k : Int) ∧ k < n ∧ p k = true := by
  simp only [List.mem_map, List.mem_filter, List.mem_range]
  constructor
  · rintro ⟨k, ⟨h1, h2⟩, rfl⟩; exact ⟨k, rfl, h1, h2⟩
  · rintro ⟨k, rfl, h1, h2⟩; exact ⟨k, ⟨h1, h2⟩, rfl⟩
theorem goes_iff {L : List (List Int)} {k i : Nat} : goesB L k i = true ↔ (i : Int) ∈ L.getD k [] := by unfold goesB; rw [List.contains_iff_mem]
theorem predAt_ok (L : List (List Int)) (i : Nat) : okL L.length (predAt L L.length i) = true :=
  okL_of (fun x hx => by obtain ⟨k, rfl, hk, _⟩ := mem_filt.1 hx; omega) (filt_sorted _ _)
theorem mayS_pred {L : List (List Int)} (h : mayS L = true) : mayS (predOf L) = true := by
  obtain ⟨h1, h2, h3⟩ := mayS_iff.1 h
  refine mayS_iff.2 ⟨by rw [predOf_len]; exact h1, by rw [predOf_len]; exact h2, fun i hi => ?_⟩
  rw [predOf_len] at hi ⊢
  rw [predOf_at hi]
  exact predAt_ok L i
theorem pred_pred {L : List (List Int)} (h : mayS L = true) : predOf (predOf L) = L := by
  obtain ⟨h1, h2, h3⟩ := mayS_iff.1 h
  apply List.ext_getElem (by rw [predOf_len, predOf_len])
  intro i hi hi'
  have e1 : (predOf (predOf L))[i] = predAt (predOf L) L.length i := by
    have := predOf_at (L := predOf L) (i := i) (by rw [predOf_len]; exact hi')
    rw [getD_eq_of_lt _ _ _ hi, predOf_len] at this
    exact this
  have e2 := getD_eq_of_lt L i [] hi'
  rw [e1, ← e2]
  refine sorted_ext (filt_sorted _ _) (okL_pair (h3 i hi')) fun x => ?_
  rw [show predAt (predOf L) L.length i = ((List.range L.length).filter fun k => goesB (predOf L) k i).map Int.ofNat from rfl, mem_filt]
  constructor
  · rintro ⟨k, rfl, hk, hg⟩
    rw [goes_iff, predOf_at hk] at hg
    obtain ⟨j, hj, _, hg'⟩ := mem_filt.1 hg
    have : j = i := by omega
    subst this
    exact goes_iff.1 hg'
  · intro hx
    have hb := okL_mem (h3 i hi') hx
    refine ⟨x.toNat, by omega, by omega, ?_⟩
    rw [goes_iff, predOf_at (by omega)]
    refine mem_filt.2 ⟨i, rfl, hi', ?_⟩
    rw [goes_iff, Int.toNat_of_nonneg hb.1]
    exact hx
theorem mayG_turned {L : List (List Int)} (h : mayS L = true) : mayG ⟨predOf L, L⟩ = true := by
  simp [mayG, mayS_pred h, pred_pred h]
theorem bif_same {b : Bool} {α : Type} {x : α} : (bif b then x else x) = x := by cases b <;> rfl
theorem small_len {L : List (List Int)} (h : L.length ≤ maxLen) : L.length < 9223372036854775808 := by unfold maxLen at h; omega

theorem g0_fits : Fits g0.Succ ∧ Fits g0.Pred := ⟨fits_of (by simp [g0]), fits_of (by simp [g0])⟩
theorem mayG_g0 : mayG g0 = false := by decide
theorem orders6 (a b : List (List Int)) (r : Int) (ha : a.length ≤ maxLen) (hb : b.length ≤ maxLen) : m_locksteplaw06_GraphOrders a b r = some true := by
  unfold m_locksteplaw06_GraphOrders
  rw [m_awake, Option.bind_some]
  simp only [Bool.not_true, cond_false]
  rw [m_small a (small_len ha), Option.bind_some]
  cases hsa : smallS a with
  | false => rfl
  | true =>
    simp only [Bool.not_true, beq_self_eq_true, cond_true, cond_false]
    rw [m_small b (small_len hb), Option.bind_some]
    cases hsb : smallS b with
    | false => rfl
    | true =>
      have fa := smallS_fits hsa
      simp only [Bool.not_true, cond_false]
      rw [m_make a fa, m_ref_make a fa]
      obtain ⟨l, o1, o2, o3, _, _⟩ := orders_same ⟨a, b⟩ fa r
      have hl : l.length < 4611686018427387904 := by omega
      cases hm : mayS a with
      | false =>
        simp only [cond_false, Option.bind_some]
        rw [m_same g0 g0 g0_fits.1 g0_fits.2]
        simp only [decide_true, Option.bind_some, Bool.not_true, cond_false, bne_self_eq_false, beq_self_eq_true, cond_true]
        rw [m_may ⟨a, b⟩ fa, m_ref_may ⟨a, b⟩ fa]
        simp only [Option.bind_some, bne_self_eq_false, beq_self_eq_true, cond_true, o1, o2]
        rw [m_ints l l hl]
        simp only [decide_true, Option.bind_some, Bool.not_true, cond_false]
        rw [m_turned g0 g0_fits.1, mayG_g0]
        rfl
      | true =>
        have ff := gOf_fits hm
        obtain ⟨l2, p1, p2, p3, _, _⟩ := orders_same (gOf a) ff.1 r
        have hl2 : l2.length < 4611686018427387904 := by omega
        simp only [cond_true, Option.bind_some]
        rw [m_same _ _ ff.1 ff.2]
        simp only [decide_true, Option.bind_some, Bool.not_true, cond_false, bne_self_eq_false, beq_self_eq_true, cond_true]
        rw [m_may ⟨a, b⟩ fa, m_ref_may ⟨a, b⟩ fa]
        simp only [Option.bind_some, bne_self_eq_false, beq_self_eq_true, cond_true, o1, o2]
        rw [m_ints l l hl]
        simp only [decide_true, Option.bind_some, Bool.not_true, cond_false]
        rw [m_turned _ ff.1, mayG_gOf hm]
        simp only [cond_true, Option.bind_some, p1, p2]
        rw [m_ints l2 l2 hl2]
        simp only [decide_true, Option.bind_some, beq_self_eq_true, cond_true]
        have hx : (⟨(gOf a).Pred, (gOf a).Succ⟩ : TGraph) = ⟨predOf a, a⟩ := rfl
        rw [hx, m_same _ _ ff.2 ff.1]
        simp only [decide_true, Option.bind_some, beq_self_eq_true, cond_true]
        rw [m_turned _ ff.2, mayG_turned hm]
        simp only [cond_true, Option.bind_some]
        have hg : (⟨a, predOf a⟩ : TGraph) = gOf a := rfl
        rw [hg, m_same _ _ ff.1 ff.2]
        simp
end Go.Proofs.Ytcpopeamoipjlaa
