/-
  What a block reaches, turned, reaches it.
-/
import Derived.Test.YtcpopeamoipjlaaGrI
namespace Go.Proofs.Ytcpopeamoipjlaa
open Go Go.RowKit
set_option linter.unusedVariables false
set_option linter.unusedSimpArgs false

theorem mem_sN {L : List (List Int)} (h : mayS L = true) {x y : Nat} (hx : x < L.length) : y ∈ sN L x ↔ (y : Int) ∈ L.getD x [] := by
  obtain ⟨_, _, h3⟩ := mayS_iff.1 h
  unfold sN
  rw [List.mem_map]
  constructor
  · rintro ⟨z, hz, rfl⟩
    have := okL_mem (h3 x hx) hz
    rw [Int.toNat_of_nonneg this.1]
    exact hz
  · intro hy; exact ⟨_, hy, nat_nat y⟩
theorem sN_turned {L : List (List Int)} (h : mayS L = true) {x y : Nat} (hx : x < L.length) (hy : y < L.length) : y ∈ sN L x ↔ x ∈ sN (predOf L) y := by
  rw [mem_sN h hx, mem_sN (mayS_pred h) (by rw [predOf_len]; exact hy), predOf_at hy]
  rw [show predAt L L.length y = ((List.range L.length).filter fun k => goesB L k y).map Int.ofNat from rfl, mem_filt]
  constructor
  · intro hm; exact ⟨x, rfl, hx, goes_iff.2 hm⟩
  · rintro ⟨k, hk, _, hg⟩
    have : k = x := by omega
    subst this
    exact goes_iff.1 hg
theorem rch_lt {L : List (List Int)} (h : mayS L = true) {x y : Nat} (hr : Rch (sN L) x y) (hx : x < L.length) : y < L.length := by
  induction hr with
  | refl x => exact hx
  | head hy _ ih => exact ih (sN_lt h _ hx _ hy)
theorem rch_turned {L : List (List Int)} (h : mayS L = true) {x y : Nat} (hr : Rch (sN L) x y) (hx : x < L.length) : Rch (sN (predOf L)) y x := by
  induction hr with
  | refl x => exact .refl x
  | @head x y z hy t ih =>
    have hyn := sN_lt h _ hx _ hy
    exact (ih hyn).tail ((sN_turned h hx hyn).1 hy)
theorem mem_ofN {l : List Nat} {x : Nat} : (x : Int) ∈ ofN l ↔ x ∈ l := by
  unfold ofN
  rw [List.mem_map]
  constructor
  · rintro ⟨k, hk, he⟩
    have : k = x := by have h2 : (k : Int) = x := he; omega
    subst this; exact hk
  · intro hx; exact ⟨x, hx, rfl⟩
theorem ofN_at {l : List Nat} {i : Nat} (hi : i < l.length) : (ofN l).getD i 0 = ((l[i] : Nat) : Int) := by simp [ofN, List.getD, hi]
theorem turned6 (a : List (List Int)) (ha : a.length ≤ maxLen) : m_locksteplaw06_GraphTurned a = some true := by
  unfold m_locksteplaw06_GraphTurned
  rw [m_awake, Option.bind_some]
  simp only [Bool.not_true, cond_false]
  cases h20 : decide ((20 : Int) < (a.length : Int)) with
  | true => rfl
  | false =>
    simp only [beq_self_eq_true, cond_true, cond_false]
    rw [m_small a (small_len ha), Option.bind_some]
    cases hsa : smallS a with
    | false => rfl
    | true =>
      have fa := smallS_fits hsa
      simp only [Bool.not_true, cond_false]
      rw [m_make a fa, Option.bind_some]
      cases hm : mayS a with
      | false =>
        simp only [cond_false]
        rw [show (((5 : Int) != 0) = true) from rfl]
        simp only [cond_true]
        rw [show (((g0.Succ.length : Int) : Int) == 0) = true from rfl]
        simp only [beq_self_eq_true, cond_true]
        rw [m_may g0 g0_fits.1, mayG_g0]
        rfl
      | true =>
        have ff := gOf_fits hm
        obtain ⟨hn1, hn64, _⟩ := mayS_iff.1 hm
        have hx : (⟨(gOf a).Pred, (gOf a).Succ⟩ : TGraph) = ⟨predOf a, a⟩ := rfl
        have hg : (⟨a, predOf a⟩ : TGraph) = gOf a := rfl
        have hmt := mayG_turned hm
        simp only [cond_true, bne_self_eq_false, cond_false]
        rw [m_turned _ ff.1, mayG_gOf hm]
        simp only [cond_true, Option.bind_some]
        rw [hx, m_turned ⟨predOf a, a⟩ ff.2, hmt]
        simp only [cond_true, Option.bind_some]
        rw [hg, m_same _ _ ff.1 ff.2]
        simp only [decide_true, Option.bind_some, Bool.not_true, beq_self_eq_true, cond_true, cond_false]
        rw [m_may ⟨predOf a, a⟩ ff.2, hmt]
        simp only [Option.bind_some, Bool.not_true, cond_false]
        have hloop : loopO (m_locksteplaw06_GraphTurned_L2 a (gOf a, 0) ⟨predOf a, a⟩) (0 : Int) = some (.inl ()) := by
          refine loop_seq (m_locksteplaw06_GraphTurned_L2 a (gOf a, 0) ⟨predOf a, a⟩) (fun j => ((j : Nat) : Int)) (.inl ()) a.length (fun j hj => ?_) ?_
          · show m_locksteplaw06_GraphTurned_L2 a (gOf a, 0) ⟨predOf a, a⟩ (j : Int) = _
            unfold m_locksteplaw06_GraphTurned_L2
            obtain ⟨l, o1, _, o3, o4, _⟩ := orders_same (gOf a) ff.1 (j : Int)
            obtain ⟨L, rfl, hL⟩ := o4 (mayG_gOf hm) (by omega) (by show (j : Int) < (a.length : Int); omega)
            rw [nat_nat] at hL
            simp only [dlt_t hj, cond_true, o1, Option.bind_some]
            have hLl : (ofN L).length = L.length := by simp [ofN]
            have hin : loopO (m_locksteplaw06_GraphTurned_L1 ⟨predOf a, a⟩ (j : Int) (ofN L)) (0 : Int) = some (.inl ()) := by
              refine loop_seq (m_locksteplaw06_GraphTurned_L1 ⟨predOf a, a⟩ (j : Int) (ofN L)) (fun i => ((i : Nat) : Int)) (.inl ()) (ofN L).length (fun i hi => ?_) ?_
              · show m_locksteplaw06_GraphTurned_L1 ⟨predOf a, a⟩ (j : Int) (ofN L) (i : Int) = _
                unfold m_locksteplaw06_GraphTurned_L1
                have hi' : i < L.length := by omega
                have hz : L[i] ∈ L := List.getElem_mem hi'
                have hr : Rch (sN a) j L[i] := (hL.mem _).1 hz
                have hzn := rch_lt hm hr hj
                obtain ⟨l2, p1, _, p3, p4, _⟩ := orders_same ⟨predOf a, a⟩ ff.2 ((L[i] : Nat) : Int)
                obtain ⟨L2, rfl, hL2⟩ := p4 hmt (by omega) (by show _ < ((predOf a).length : Int); rw [predOf_len]; omega)
                rw [nat_nat] at hL2
                simp only [dlt_t hi, cond_true, nat_nat, ofN_at hi']
                rw [chk_pos (inb hi), p1, Option.bind_some, m_has _ _ (by omega)]
                have hc : (ofN L2).contains (j : Int) = true := by
                  rw [List.contains_iff_mem, mem_ofN]
                  exact (hL2.mem j).2 (rch_turned hm hr hj)
                rw [hc, w1 (by omega)]
                rfl
              · show m_locksteplaw06_GraphTurned_L1 ⟨predOf a, a⟩ (j : Int) (ofN L) _ = _
                unfold m_locksteplaw06_GraphTurned_L1
                simp only [dlt_f, cond_false]
            rw [hin, w1 (by omega)]
            rfl
          · show m_locksteplaw06_GraphTurned_L2 a (gOf a, 0) ⟨predOf a, a⟩ _ = _
            unfold m_locksteplaw06_GraphTurned_L2
            simp only [dlt_f, cond_false]
        rw [hloop]
        simp only [Option.bind_some]
        obtain ⟨l, o1, _, _, _, o5⟩ := orders_same (gOf a) ff.1 (a.length : Int)
        have : l = [] := o5 (by
          have : decide ((a.length : Int) < ((gOf a).Succ.length : Int)) = false := decide_eq_false (by show ¬ (a.length : Int) < (a.length : Int); omega)
          rw [this]; simp)
        subst this
        rw [o1, Option.bind_some, m_ints [] [] (by simp)]
        rfl
end Go.Proofs.Ytcpopeamoipjlaa
