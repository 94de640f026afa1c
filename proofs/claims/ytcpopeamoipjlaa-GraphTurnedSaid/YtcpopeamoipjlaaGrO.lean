/-
  A function's graph, as the document says; whatever its operations are.
-/
import Derived.Test.YtcpopeamoipjlaaGrN
namespace Go.Proofs.Ytcpopeamoipjlaa
open Go Go.RowKit
set_option linter.unusedVariables false
set_option linter.unusedSimpArgs false

def refL (l : List Int) (k : Nat) : List Int := ((List.range k).filter fun z : Nat => decide (1 ≤ z) && l.contains (z : Int)).map Int.ofNat
theorem ref_rise {n : Nat} {l : List Int} (h : toB n l = true) : refL l n = riseL l := by
  obtain ⟨h1, h2⟩ := rise_spec l
  refine sorted_ext (filt_sorted _ _) h1 fun x => ?_
  rw [h2 x]
  unfold refL
  rw [mem_filt]
  constructor
  · rintro ⟨k, rfl, _, hk⟩
    simp only [Bool.and_eq_true] at hk
    exact List.contains_iff_mem.1 hk.2
  · intro hx
    have := (toB_iff.1 h) x hx
    refine ⟨x.toNat, by omega, by omega, ?_⟩
    rw [Int.toNat_of_nonneg (by omega), List.contains_iff_mem.2 hx, decide_eq_true (by omega)]
    rfl
theorem bif_some' {α : Type} {b : Bool} {x y : α} : (bif b then some x else some y) = some (bif b then x else y) := by cases b <;> rfl
theorem ref_of_L1 (f : TFunc) (i : Nat) (hl : (endAt f i).To.length < 4611686018427387904) : loopO (m_lockstepref06_Of_L1 f (i : Int)) (0 : Int) = some (bif toB f.Blocks.length (endAt f i).To then .inl () else .inr (g0, 5)) := by
  have hE : (f.Blocks.getD i (default : TBlock)).End = endAt f i := rfl
  have step : ∀ j : Nat, j < (endAt f i).To.length → m_lockstepref06_Of_L1 f (i : Int) (j : Int) = bif (decide (0 < (endAt f i).To.getD j 0) && decide ((endAt f i).To.getD j 0 < (f.Blocks.length : Int))) then some (.next (((j + 1 : Nat) : Int))) else some (.done (.inr (g0, 5))) := fun j hj => by
    unfold m_lockstepref06_Of_L1
    simp only [nat_nat, hE, dlt_t hj, cond_true, w1 (show j < 4611686018427387904 by omega)]
    rw [chk_pos (inb hj), chk_imp (inb hj)]
    by_cases h0 : (endAt f i).To.getD j 0 ≤ 0
    · rw [decide_eq_true h0, decide_eq_false (show ¬ 0 < (endAt f i).To.getD j 0 by omega)]; rfl
    · rw [decide_eq_false h0, decide_eq_true (show 0 < (endAt f i).To.getD j 0 by omega)]
      by_cases h1 : (f.Blocks.length : Int) ≤ (endAt f i).To.getD j 0
      · rw [decide_eq_true h1, decide_eq_false (show ¬ (endAt f i).To.getD j 0 < (f.Blocks.length : Int) by omega)]; rfl
      · rw [decide_eq_false h1, decide_eq_true (show (endAt f i).To.getD j 0 < (f.Blocks.length : Int) by omega)]; rfl
  have := loop_find (m_lockstepref06_Of_L1 f (i : Int)) (fun j => ((j : Nat) : Int)) (fun k => decide (0 < (endAt f i).To.getD k 0) && decide ((endAt f i).To.getD k 0 < (f.Blocks.length : Int))) (.inl ()) (.inr (g0, 5)) (endAt f i).To.length (fun j hj hp => ?_) (fun j hj hp => ?_) ?_
  · exact this
  · show m_lockstepref06_Of_L1 f (i : Int) (j : Int) = _
    rw [step j hj, hp]; rfl
  · show m_lockstepref06_Of_L1 f (i : Int) (j : Int) = _
    rw [step j hj, hp]; rfl
  · show m_lockstepref06_Of_L1 f (i : Int) _ = _
    unfold m_lockstepref06_Of_L1
    simp only [nat_nat, hE, dlt_f, cond_false]
theorem ref_of_L2 (f : TFunc) (i : Nat) (hn : 1 ≤ f.Blocks.length ∧ f.Blocks.length ≤ 64) (hl : (endAt f i).To.length < 4611686018427387904) : loopO (m_lockstepref06_Of_L2 f (i : Int)) (([] : List Int), (1 : Int)) = some (refL (endAt f i).To f.Blocks.length) := by
  have hroom : (1000 : Nat) ≤ room := by decide
  have hE : (f.Blocks.getD i (default : TBlock)).End = endAt f i := rfl
  have e0 : refL (endAt f i).To 1 = [] := by unfold refL; simp
  have key := loop_seq (m_lockstepref06_Of_L2 f (i : Int)) (fun k => (refL (endAt f i).To (k + 1), ((k + 1 : Nat) : Int))) (refL (endAt f i).To f.Blocks.length) (f.Blocks.length - 1) (fun k hk => ?_) ?_
  · rw [show loopO (m_lockstepref06_Of_L2 f (i : Int)) (([] : List Int), (1 : Int)) = loopO (m_lockstepref06_Of_L2 f (i : Int)) (refL (endAt f i).To 1, (1 : Int)) by rw [e0]]
    exact key
  · show m_lockstepref06_Of_L2 f (i : Int) (_, _) = _
    unfold m_lockstepref06_Of_L2
    have hlen : (refL (endAt f i).To (k + 1)).length ≤ k + 1 := by
      unfold refL
      rw [List.length_map]
      have := List.length_filter_le (fun z : Nat => decide (1 ≤ z) && (endAt f i).To.contains ((z : Nat) : Int)) (List.range (k + 1))
      simpa using this
    simp only [nat_nat, hE, dlt_t (show k + 1 < f.Blocks.length by omega), cond_true]
    rw [m_has _ _ hl, Option.bind_some, w1 (by omega)]
    have hs : refL (endAt f i).To (k + 1 + 1) = refL (endAt f i).To (k + 1) ++ (if (endAt f i).To.contains (((k + 1 : Nat)) : Int) = true then [((k + 1 : Nat) : Int)] else []) := by
      unfold refL
      rw [List.range_succ, List.filter_append, List.map_append]
      congr 1
      cases hg : (endAt f i).To.contains (((k + 1 : Nat)) : Int) with
      | true => rw [List.filter_cons, hg]; simp
      | false => rw [List.filter_cons, hg]; simp
    rw [hs]
    cases hg : (endAt f i).To.contains (((k + 1 : Nat)) : Int) with
    | true =>
      rw [cond_true, chk_pos (by rw [List.length_singleton]; omega)]
      rfl
    | false => rw [cond_false]; simp
  · show m_lockstepref06_Of_L2 f (i : Int) (_, _) = _
    unfold m_lockstepref06_Of_L2
    simp only [show f.Blocks.length - 1 + 1 = f.Blocks.length by omega, dlt_f, cond_false]
theorem m_ref_of (f : TFunc) (hf : f.Blocks.length ≤ maxLen) : m_lockstepref06_Of f = some (bif shapeB f then (gOf (rowsF f), 0) else (g0, 5)) := by
  have hroom : (1000 : Nat) ≤ room := by decide
  unfold m_lockstepref06_Of
  have hc : (bif ((f.Blocks.length : Int) == (0 : Int)) then true else decide ((64 : Int) < (f.Blocks.length : Int))) = !(decide (1 ≤ f.Blocks.length) && decide (f.Blocks.length ≤ 64)) := by
    by_cases h0 : f.Blocks.length = 0
    · rw [h0]; rfl
    · rw [show ((f.Blocks.length : Int) == 0) = false by simp only [beq_eq_false_iff_ne]; omega, decide_eq_true (show 1 ≤ f.Blocks.length by omega)]
      by_cases h1 : f.Blocks.length ≤ 64
      · rw [decide_eq_true h1, decide_eq_false (show ¬ (64 : Int) < (f.Blocks.length : Int) by omega)]; rfl
      · rw [decide_eq_false h1, decide_eq_true (show (64 : Int) < (f.Blocks.length : Int) by omega)]; rfl
  rw [hc]
  have hsh : shapeB f = ((decide (1 ≤ f.Blocks.length) && decide (f.Blocks.length ≤ 64)) && (List.range f.Blocks.length).all fun i => fitsE (endAt f i) f.Blocks.length) := rfl
  cases hb : (decide (1 ≤ f.Blocks.length) && decide (f.Blocks.length ≤ 64)) with
  | false => rw [hsh, hb]; rfl
  | true =>
    have hb' := hb
    simp only [Bool.and_eq_true, decide_eq_true_eq] at hb'
    simp only [Bool.not_true, cond_false]
    let U : Nat → List (List Int) := fun i => (List.range i).map fun j => refL (endAt f j).To f.Blocks.length
    have hstep : ∀ i : Nat, i < f.Blocks.length → m_lockstepref06_Of_L3 f (U i, (i : Int)) = bif fitsE (endAt f i) f.Blocks.length then some (.next (U (i + 1), ((i + 1 : Nat) : Int))) else some (.done (.inr (g0, 5))) := fun i hi => by
      unfold m_lockstepref06_Of_L3
      have hE : (f.Blocks.getD i (default : TBlock)).End = endAt f i := rfl
      simp only [dlt_t hi, cond_true, nat_nat, hE]
      rw [chk_pos (inb hi), w1 (by omega)]
      by_cases hk : 0 ≤ (endAt f i).Kind ∧ (endAt f i).Kind ≤ 3
      · rw [decide_eq_false (show ¬ (endAt f i).Kind < 0 by omega), decide_eq_false (show ¬ (3 : Int) < (endAt f i).Kind by omega)]
        simp only [cond_false]
        rw [chk_imp (show InB (endAt f i).Kind ([(0 : Int), 1, 2, 0] : List Int).length from ⟨hk.1, by show (endAt f i).Kind < 4; omega⟩)]
        have hw : ([(0 : Int), 1, 2, 0] : List Int).getD (endAt f i).Kind.toNat 0 = wantK (endAt f i).Kind := rfl
        rw [hw]
        have hkb : kindB (endAt f i) = decide (((endAt f i).To.length : Int) = wantK (endAt f i).Kind) := by
          unfold kindB
          rw [decide_eq_true hk.1, decide_eq_true hk.2]; rfl
        unfold fitsE
        rw [hkb]
        by_cases hl : ((endAt f i).To.length : Int) = wantK (endAt f i).Kind
        · have hw2 : wantK (endAt f i).Kind ≤ 2 := by
            have : (endAt f i).Kind = 0 ∨ (endAt f i).Kind = 1 ∨ (endAt f i).Kind = 2 ∨ (endAt f i).Kind = 3 := by omega
            rcases this with h | h | h | h <;> rw [h] <;> decide
          rw [show (((endAt f i).To.length : Int) != wantK (endAt f i).Kind) = false by simpa using hl, decide_eq_true hl, cond_false, ref_of_L1 f i (by omega), Bool.true_and]
          cases htb : toB f.Blocks.length (endAt f i).To with
          | false => rfl
          | true =>
            simp only [cond_true, Option.bind_some]
            rw [ref_of_L2 f i hb' (by omega)]
            simp only [Option.bind_some]
            rw [chk_pos (by simp only [U, List.length_map, List.length_range, List.length_singleton]; omega)]
            congr 3
            simp only [U]
            rw [List.range_succ, List.map_append]
            rfl
        · rw [show (((endAt f i).To.length : Int) != wantK (endAt f i).Kind) = true by simpa using hl, decide_eq_false hl]; rfl
      · have hbad : (bif decide ((endAt f i).Kind < 0) then true else decide ((3 : Int) < (endAt f i).Kind)) = true := by
          by_cases h0 : (endAt f i).Kind < 0
          · rw [decide_eq_true h0]; rfl
          · rw [decide_eq_false h0, decide_eq_true (show (3 : Int) < (endAt f i).Kind by omega)]; rfl
        have hkb : kindB (endAt f i) = false := by
          unfold kindB
          by_cases h0 : 0 ≤ (endAt f i).Kind
          · rw [decide_eq_false (show ¬ (endAt f i).Kind ≤ 3 by omega)]; simp
          · rw [decide_eq_false h0]; simp
        simp only [hbad]
        rw [chk_pos (by intro h; cases h)]
        unfold fitsE
        rw [hkb]
        rfl
    have := loop_find (m_lockstepref06_Of_L3 f) (fun i => (U i, ((i : Nat) : Int))) (fun i => fitsE (endAt f i) f.Blocks.length) (.inl (U f.Blocks.length)) (.inr (g0, 5)) f.Blocks.length (fun i hi hp => ?_) (fun i hi hp => ?_) ?_
    · rw [show loopO (m_lockstepref06_Of_L3 f) (([] : List (List Int)), (0 : Int)) = _ from this, hsh, hb, Bool.true_and]
      cases hall : (List.range f.Blocks.length).all fun i => fitsE (endAt f i) f.Blocks.length with
      | false => rfl
      | true =>
        have hshape : shapeB f = true := by rw [hsh, hb, hall]; rfl
        have hm := rows_may hshape
        have hU : U f.Blocks.length = rowsF f := by
          simp only [U, rowsF]
          apply mr_congr
          intro j hj
          exact ref_rise (fits_to ((shape_iff.1 hshape).2 j hj))
        simp only [cond_true, Option.bind_some]
        rw [hU, m_ref_make _ (small_fits (mayS_fits hm)), hm]
        rfl
    · show m_lockstepref06_Of_L3 f (_, _) = _
      rw [hstep i hi, hp]; rfl
    · show m_lockstepref06_Of_L3 f (_, _) = _
      rw [hstep i hi, hp]; rfl
    · show m_lockstepref06_Of_L3 f (_, _) = _
      unfold m_lockstepref06_Of_L3
      simp only [dlt_f, cond_false]
theorem shapes6 (f : TFunc) (hf : InF f) : m_locksteplaw06_GraphShapes f = some true := by
  unfold m_locksteplaw06_GraphShapes
  rw [m_awake, Option.bind_some]
  simp only [Bool.not_true, cond_false]
  obtain ⟨b, hb⟩ := small_some f hf
  rw [hb, Option.bind_some]
  cases b with
  | false => rfl
  | true =>
    simp only [Bool.not_true, cond_false]
    rw [m_of f hf.blocks, m_ref_of f hf.blocks]
    cases hs : shapeB f with
    | false =>
      simp only [cond_false, Option.bind_some]
      rw [m_same g0 g0 g0_fits.1 g0_fits.2]
      rfl
    | true =>
      have hm := rows_may hs
      have ff := gOf_fits hm
      simp only [cond_true, Option.bind_some]
      rw [m_same _ _ ff.1 ff.2]
      simp only [decide_true, Option.bind_some, beq_self_eq_true, cond_true, bne_self_eq_false, Bool.and_self]
      rw [m_may _ ff.1, mayG_gOf hm]
      rfl
end Go.Proofs.Ytcpopeamoipjlaa
