/-
  A function's ends, as the document says.
-/
import Derived.Test.YtcpopeamoipjlaaGrO
namespace Go.Proofs.Ytcpopeamoipjlaa
open Go Go.RowKit
set_option linter.unusedVariables false
set_option linter.unusedSimpArgs false

def eM (n : Nat) : Int := if (1 : Int) < w64 ((n : Int) - 1) then w64 ((n : Int) - 1) else 1
def eK (ends : List Int) (i : Nat) : Int := bif ((ends.length : Int) == (1 : Int)) then (0 : Int) else Int.tmod (w64 (ends.getD i (0 : Int))) (4 : Int)
def eP (to : List (Int × Int)) (i : Nat) : Int × Int := to.getD (Int.tmod (i : Int) (to.length : Int)).toNat ((0 : Int), (0 : Int))
def eV (n : Nat) (x : Int) : Int := w64 ((1 : Int) + Int.tmod (w64 x) (eM n))
def eT (ends : List Int) (to : List (Int × Int)) (i : Nat) : List Int :=
  bif (eK ends i == (2 : Int)) then [eV ends.length (eP to i).1, eV ends.length (eP to i).2] else (bif (eK ends i == (1 : Int)) then [eV ends.length (eP to i).1] else [])
def blk (ends : List Int) (to : List (Int × Int)) (i : Nat) : TBlock := ⟨[], [⟨(i : Int), 0, 0, 0, [], 0⟩], ⟨eK ends i, 0, eT ends to i⟩⟩
def blks (ends : List Int) (to : List (Int × Int)) (i : Nat) : List TBlock := (List.range i).map (blk ends to)

theorem eM_at {n : Nat} (h1 : 1 ≤ n) (h64 : n ≤ 64) : eM n = if n = 1 then 1 else (n : Int) - 1 := by
  unfold eM
  rw [w64_of (by omega) (by omega)]
  by_cases h : n = 1
  · subst h; rfl
  · rw [if_neg h]
    by_cases h2 : n = 2
    · subst h2; rfl
    · rw [if_pos (by omega)]
theorem tmod_in {a b : Int} (ha : 0 ≤ a) (hb : 0 < b) : 0 ≤ Int.tmod a b ∧ Int.tmod a b < b := ⟨Int.tmod_nonneg _ ha, Int.tmod_lt_of_pos _ hb⟩
theorem eV_at {n : Nat} {x : Int} (h2 : 2 ≤ n) (h64 : n ≤ 64) (hx : 0 ≤ x ∧ x < 256) : 0 < eV n x ∧ eV n x < n := by
  unfold eV
  rw [eM_at (by omega) h64, if_neg (by omega), w64_of (n := x) (by omega) (by omega)]
  have := tmod_in (a := x) (b := (n : Int) - 1) hx.1 (by omega)
  rw [w64_of (by omega) (by omega)]
  omega
theorem eK_at {ends : List Int} {i : Nat} (hx : 0 ≤ ends.getD i 0 ∧ ends.getD i 0 < 256) : 0 ≤ eK ends i ∧ eK ends i ≤ 3 := by
  unfold eK
  rw [w64_of (by omega) (by omega)]
  have := tmod_in (a := ends.getD i 0) (b := 4) hx.1 (by omega)
  cases ((ends.length : Int) == (1 : Int)) with
  | true => rw [cond_true]; omega
  | false => rw [cond_false]; omega
theorem eK_one {ends : List Int} {i : Nat} (h : ends.length = 1) : eK ends i = 0 := by
  unfold eK
  rw [h]; rfl
theorem eT_fits {ends : List Int} {to : List (Int × Int)} {i : Nat} (h1 : 1 ≤ ends.length) (h64 : ends.length ≤ 64) (hx : 0 ≤ ends.getD i 0 ∧ ends.getD i 0 < 256)
    (hp : (0 ≤ (eP to i).1 ∧ (eP to i).1 < 256) ∧ (0 ≤ (eP to i).2 ∧ (eP to i).2 < 256)) : fitsE ⟨eK ends i, 0, eT ends to i⟩ ends.length = true := by
  have hk := eK_at (i := i) hx
  unfold fitsE kindB
  show ((decide (0 ≤ eK ends i) && decide (eK ends i ≤ 3)) && decide (((eT ends to i).length : Int) = wantK (eK ends i)) && toB ends.length (eT ends to i)) = true
  rw [decide_eq_true hk.1, decide_eq_true hk.2]
  have h4 : eK ends i = 0 ∨ eK ends i = 1 ∨ eK ends i = 2 ∨ eK ends i = 3 := by omega
  by_cases hone : ends.length = 1
  · have h0 := eK_one (i := i) hone
    have ht : eT ends to i = [] := by unfold eT; rw [h0]; rfl
    rw [ht, h0]; rfl
  · have v1 := eV_at (n := ends.length) (by omega) h64 hp.1
    have v2 := eV_at (n := ends.length) (by omega) h64 hp.2
    rcases h4 with h | h | h | h
    · have ht : eT ends to i = [] := by unfold eT; rw [h]; rfl
      rw [ht, h]; rfl
    · have ht : eT ends to i = [eV ends.length (eP to i).1] := by unfold eT; rw [h]; rfl
      have : toB ends.length [eV ends.length (eP to i).1] = true := toB_iff.2 fun x hx => by
        rcases List.mem_singleton.1 hx with rfl
        exact v1
      rw [ht, h, this]; rfl
    · have ht : eT ends to i = [eV ends.length (eP to i).1, eV ends.length (eP to i).2] := by unfold eT; rw [h]; rfl
      have : toB ends.length [eV ends.length (eP to i).1, eV ends.length (eP to i).2] = true := toB_iff.2 fun x hx => by
        rcases List.mem_cons.1 hx with rfl | hx
        · exact v1
        · rcases List.mem_singleton.1 hx with rfl
          exact v2
      rw [ht, h, this]; rfl
    · have ht : eT ends to i = [] := by unfold eT; rw [h]; rfl
      rw [ht, h]; rfl
theorem eT_len (ends : List Int) (to : List (Int × Int)) (i : Nat) : (eT ends to i).length ≤ 2 := by
  unfold eT
  cases (eK ends i == (2 : Int)) with
  | true => simp
  | false =>
    cases (eK ends i == (1 : Int)) with
    | true => simp
    | false => simp
theorem ends_step (ends : List Int) (to : List (Int × Int)) (h1 : 1 ≤ ends.length) (h64 : ends.length ≤ 64) (ht : 0 < to.length) {i : Nat} (hi : i < ends.length) :
    m_locksteplaw06_GraphEnds_L1 ends to ((i : Int), blks ends to i) = some (.next (((i + 1 : Nat) : Int), blks ends to (i + 1))) := by
  have hroom : (1000 : Nat) ≤ room := by decide
  have hm := tmod_in (a := (i : Int)) (b := (to.length : Int)) (by omega) (by omega)
  have hM : (if (1 : Int) < w64 ((ends.length : Int) - 1) then w64 ((ends.length : Int) - 1) else 1) = eM ends.length := rfl
  have hM0 : eM ends.length ≠ 0 := by
    rw [eM_at h1 h64]
    by_cases h : ends.length = 1
    · rw [if_pos h]; omega
    · rw [if_neg h]; omega
  have hP : to.getD (Int.tmod (i : Int) (to.length : Int)).toNat ((0 : Int), (0 : Int)) = eP to i := rfl
  have hV : ∀ x : Int, w64 ((1 : Int) + Int.tmod (w64 x) (eM ends.length)) = eV ends.length x := fun _ => rfl
  have hK : (bif ((ends.length : Int) == (1 : Int)) then (0 : Int) else Int.tmod (w64 (ends.getD i (0 : Int))) (4 : Int)) = eK ends i := rfl
  unfold m_locksteplaw06_GraphEnds_L1
  simp only [dlt_t hi, cond_true, nat_nat, hM, hP, hV]
  rw [chk_pos (inb hi), chk_pos (show (to.length : Int) ≠ 0 by omega), chk_pos (show InB (Int.tmod (i : Int) (to.length : Int)) to.length from ⟨hm.1, hm.2⟩), chk_pos hM0, chk_pos (show (to.length : Int) ≠ 0 by omega), chk_pos (show InB (Int.tmod (i : Int) (to.length : Int)) to.length from ⟨hm.1, hm.2⟩), chk_pos hM0]
  simp only [bif_some', Option.bind_some, hK]
  have hT : (bif (eK ends i == (2 : Int)) then [eV ends.length (eP to i).1, eV ends.length (eP to i).2] else (bif (eK ends i == (1 : Int)) then [eV ends.length (eP to i).1] else [])) = eT ends to i := rfl
  rw [hT, chk_pos (by show _ ≤ _; simp only [blks, List.length_map, List.length_range, List.length_singleton]; omega), w1 (by omega)]
  have : blks ends to (i + 1) = blks ends to i ++ [blk ends to i] := by
    unfold blks
    rw [List.range_succ, List.map_append]; rfl
  rw [this]
  rfl
theorem ends6 (ends : List Int) (to : List (Int × Int)) (wf0 : okLU8 ends) (wf1 : okLA2U8 to) : m_locksteplaw06_GraphEnds ends to = some true := by
  unfold m_locksteplaw06_GraphEnds
  rw [m_awake, Option.bind_some]
  simp only [Bool.not_true, cond_false]
  have hc : (bif (bif (decide ((ends.length : Int) < (1 : Int))) then true else (decide ((64 : Int) < (ends.length : Int)))) then true else ((to.length : Int) == (0 : Int))) = !(decide (1 ≤ ends.length) && decide (ends.length ≤ 64) && decide (0 < to.length)) := by
    by_cases h0 : 1 ≤ ends.length
    · rw [decide_eq_true h0, decide_eq_false (show ¬ (ends.length : Int) < 1 by omega)]
      by_cases h1 : ends.length ≤ 64
      · rw [decide_eq_true h1, decide_eq_false (show ¬ (64 : Int) < (ends.length : Int) by omega)]
        by_cases h2 : 0 < to.length
        · rw [decide_eq_true h2, show ((to.length : Int) == 0) = false by simp only [beq_eq_false_iff_ne]; omega]; rfl
        · rw [decide_eq_false h2, show ((to.length : Int) == 0) = true by simp only [beq_iff_eq]; omega]; rfl
      · rw [decide_eq_false h1, decide_eq_true (show (64 : Int) < (ends.length : Int) by omega)]; rfl
    · rw [decide_eq_false h0, decide_eq_true (show (ends.length : Int) < 1 by omega)]; rfl
  rw [hc]
  cases hb : (decide (1 ≤ ends.length) && decide (ends.length ≤ 64) && decide (0 < to.length)) with
  | false => rfl
  | true =>
    simp only [Bool.and_eq_true, decide_eq_true_eq] at hb
    obtain ⟨⟨h1, h64⟩, ht⟩ := hb
    simp only [Bool.not_true, cond_false]
    have hbuild : loopO (m_locksteplaw06_GraphEnds_L1 ends to) ((0 : Int), ([] : List TBlock)) = some (blks ends to ends.length) := by
      refine loop_seq (m_locksteplaw06_GraphEnds_L1 ends to) (fun i => (((i : Nat) : Int), blks ends to i)) (blks ends to ends.length) ends.length (fun i hi => ends_step ends to h1 h64 ht hi) ?_
      show m_locksteplaw06_GraphEnds_L1 ends to (_, _) = _
      unfold m_locksteplaw06_GraphEnds_L1
      simp only [dlt_f, cond_false]
    have hlen : (blks ends to ends.length).length = ends.length := by simp [blks]
    have hmax : (1000 : Nat) ≤ maxLen := by decide
    have hat : ∀ i, i < ends.length → endAt ⟨[], 0, blks ends to ends.length⟩ i = ⟨eK ends i, 0, eT ends to i⟩ := fun i hi => by
      unfold endAt
      show ((blks ends to ends.length).getD i default).End = _
      unfold blks
      rw [getD_mr hi]; rfl
    have hu : ∀ i, i < ends.length → 0 ≤ ends.getD i 0 ∧ ends.getD i 0 < 256 := fun i hi => wf_u8 (wf0.1 _ (getD_mem hi))
    have hp : ∀ i : Nat, (0 ≤ (eP to i).1 ∧ (eP to i).1 < 256) ∧ (0 ≤ (eP to i).2 ∧ (eP to i).2 < 256) := fun i => by
      have hm := tmod_in (a := (i : Int)) (b := (to.length : Int)) (by omega) (by omega)
      have : eP to i ∈ to := by
        unfold eP
        exact getD_mem (by omega)
      have hw := wf1.1 _ this
      exact ⟨wf_u8 hw.1, wf_u8 hw.2⟩
    have hs : shapeB ⟨[], 0, blks ends to ends.length⟩ = true := by
      refine shape_iff.2 ⟨by show 1 ≤ (blks ends to ends.length).length ∧ (blks ends to ends.length).length ≤ 64; omega, fun i hi => ?_⟩
      have hi' : i < ends.length := by rw [← hlen]; exact hi
      rw [hat i hi']
      show fitsE _ (blks ends to ends.length).length = true
      rw [hlen]
      exact eT_fits h1 h64 (hu i hi') (hp i)
    have hof := m_of ⟨[], 0, blks ends to ends.length⟩ (by show (blks ends to ends.length).length ≤ _; omega)
    rw [hs, cond_true] at hof
    have hrl : (rowsF ⟨[], 0, blks ends to ends.length⟩).length = ends.length := by
      unfold rowsF
      rw [List.length_map, List.length_range]; exact hlen
    have hrow : ∀ i, i < ends.length → (rowsF ⟨[], 0, blks ends to ends.length⟩).getD i [] = riseL (eT ends to i) := fun i hi => by
      unfold rowsF
      rw [getD_mr (by show i < (blks ends to ends.length).length; omega), hat i hi]
    have hm := rows_may hs
    rw [hbuild, Option.bind_some, hof, Option.bind_some]
    generalize rowsF ⟨[], 0, blks ends to ends.length⟩ = R at hrl hrow hm
    have hpl : (predOf R).length = ends.length := by rw [predOf_len, hrl]
    have hpos : ∀ k i, k < ends.length → goesB R k i = true → 0 < i := fun k i hk hg => by
      have h := goes_iff.1 hg
      rw [hrow k hk, (rise_spec _).2] at h
      have hfit := eT_fits (to := to) h1 h64 (hu k hk) (hp k)
      have := (toB_iff.1 (fits_to hfit)) _ h
      omega
    have hp0 : (predOf R).getD 0 [] = [] := by
      rw [predOf_at (by omega)]
      unfold predAt
      have : (List.range R.length).filter (fun k => goesB R k 0) = [] := by
        apply List.filter_eq_nil_iff.2
        intro k hk hg
        have := hpos k 0 (by have := List.mem_range.1 hk; omega) hg
        omega
      rw [this]; rfl
    rw [chk_imp (show InB (0 : Int) (gOf R).Pred.length from ⟨Int.le_refl _, by show (0 : Int) < ((predOf R).length : Int); omega⟩)]
    have hz : ((gOf R).Pred.getD ((0 : Int)).toNat []) = [] := hp0
    rw [hz]
    have hsm := predOf_small hm
    have inner : ∀ i, i < ends.length → loopO (m_locksteplaw06_GraphEnds_L2 ends (blks ends to ends.length) (gOf R, 0) (i : Int)) (0 : Int) = some (.inl ()) := fun i hi => by
      refine loop_seq (m_locksteplaw06_GraphEnds_L2 ends (blks ends to ends.length) (gOf R, 0) (i : Int)) (fun k => ((k : Nat) : Int)) (.inl ()) ends.length (fun k hk => ?_) ?_
      · show m_locksteplaw06_GraphEnds_L2 ends (blks ends to ends.length) (gOf R, 0) (i : Int) (k : Int) = _
        unfold m_locksteplaw06_GraphEnds_L2
        have e1 : ((blks ends to ends.length).getD i (default : TBlock)).End.To = eT ends to i := by
          unfold blks
          rw [getD_mr hi]; rfl
        have e2 : (gOf R).Succ.getD i [] = riseL (eT ends to i) := hrow i hi
        have e3 : (gOf R).Pred.getD k [] = predAt R R.length k := predOf_at (by omega)
        have l1 := eT_len ends to i
        have l2 : (riseL (eT ends to i)).length ≤ 64 := by
          rw [← hrow i hi]
          exact (mayS_fits hm).2 _ (getD_mem (by omega))
        have l3 := predAt_len R R.length k
        have c1 : (riseL (eT ends to i)).contains (k : Int) = (eT ends to i).contains (k : Int) := by
          rw [Bool.eq_iff_iff, List.contains_iff_mem, List.contains_iff_mem]
          exact (rise_spec _).2 _
        have c2 : (predAt R R.length k).contains (i : Int) = (eT ends to i).contains (k : Int) := by
          rw [Bool.eq_iff_iff, List.contains_iff_mem, List.contains_iff_mem]
          unfold predAt
          rw [mem_filt]
          constructor
          · rintro ⟨j, hj, _, hg⟩
            have : i = j := by omega
            subst this
            have h := goes_iff.1 hg
            rwa [hrow i hi, (rise_spec _).2] at h
          · intro h
            refine ⟨i, rfl, by omega, goes_iff.2 ?_⟩
            rw [hrow i hi, (rise_spec _).2]
            exact h
        simp only [dlt_t hk, cond_true, nat_nat, e1, e2, e3]
        rw [chk_pos (inb (by omega)), m_has _ _ (by omega), Option.bind_some, chk_pos (inb (by show i < R.length; omega)), m_has _ _ (by omega), Option.bind_some, chk_imp (inb (by show k < (predOf R).length; omega)), m_has _ _ (by omega), c1, c2, w1 (by omega)]
        cases (eT ends to i).contains (k : Int) <;> rfl
      · show m_locksteplaw06_GraphEnds_L2 ends (blks ends to ends.length) (gOf R, 0) (i : Int) _ = _
        unfold m_locksteplaw06_GraphEnds_L2
        simp only [dlt_f, cond_false]
    have outer : loopO (m_locksteplaw06_GraphEnds_L3 ends (blks ends to ends.length) (gOf R, 0)) (0 : Int) = some (.inl ()) := by
      refine loop_seq (m_locksteplaw06_GraphEnds_L3 ends (blks ends to ends.length) (gOf R, 0)) (fun k => ((k : Nat) : Int)) (.inl ()) ends.length (fun i hi => ?_) ?_
      · show m_locksteplaw06_GraphEnds_L3 ends (blks ends to ends.length) (gOf R, 0) (i : Int) = _
        unfold m_locksteplaw06_GraphEnds_L3
        simp only [dlt_t hi, cond_true]
        rw [inner i hi, w1 (by omega)]
        rfl
      · show m_locksteplaw06_GraphEnds_L3 ends (blks ends to ends.length) (gOf R, 0) _ = _
        unfold m_locksteplaw06_GraphEnds_L3
        simp only [dlt_f, cond_false]
    rw [outer]
    rfl
end Go.Proofs.Ytcpopeamoipjlaa
