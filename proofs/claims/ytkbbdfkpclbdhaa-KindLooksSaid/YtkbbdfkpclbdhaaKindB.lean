/-
  What operations look like: the calls, told plainly.
-/
import Derived.Test.YtkbbdfkpclbdhaaKindA
import Derived.Test.YtkbbdfkpclbdhaaLoops
namespace Go.Proofs.Ytkbbdfkpclbdhaa
open Go Go.RowKit
set_option linter.unusedVariables false
set_option linter.unusedSimpArgs false
set_option maxRecDepth 100000

/-- What of an operation comes in. -/
structure OpOk (o : TOp) : Prop where
  imm : 0 ≤ o.Imm ∧ o.Imm < 18446744073709551616
  args : o.Args.length ≤ 200

theorem repeat_one (x : Int × Int) (n : Int) (h : n = 2 ∨ n = 4 ∨ n = 8 ∨ n = 16) : m_slices_Repeat_2_int_2_int [x] n = some (List.replicate n.toNat x) := by
  let d : Int × Int := (0, 0)
  rcases h with rfl | rfl | rfl | rfl
  · have e : m_slices_Repeat_2_int_2_int [x] 2 = (loopO m_slices_Repeat_2_int_2_int_L1 (1, [x, d])).bind some := by kernel_rfl
    rw [e, loopO_next (s' := (2, [x, x])) (by kernel_rfl), loopO_done (x := [x, x]) (by kernel_rfl)]
    rfl
  · have e : m_slices_Repeat_2_int_2_int [x] 4 = (loopO m_slices_Repeat_2_int_2_int_L1 (1, [x, d, d, d])).bind some := by kernel_rfl
    rw [e, loopO_next (s' := (2, [x, x, d, d])) (by kernel_rfl), loopO_next (s' := (4, [x, x, x, x])) (by kernel_rfl), loopO_done (x := [x, x, x, x]) (by kernel_rfl)]
    rfl
  · have e : m_slices_Repeat_2_int_2_int [x] 8 = (loopO m_slices_Repeat_2_int_2_int_L1 (1, [x, d, d, d, d, d, d, d])).bind some := by kernel_rfl
    rw [e, loopO_next (s' := (2, [x, x, d, d, d, d, d, d])) (by kernel_rfl), loopO_next (s' := (4, [x, x, x, x, d, d, d, d])) (by kernel_rfl), loopO_next (s' := (8, [x, x, x, x, x, x, x, x])) (by kernel_rfl),
      loopO_done (x := [x, x, x, x, x, x, x, x]) (by kernel_rfl)]
    rfl
  · have e : m_slices_Repeat_2_int_2_int [x] 16 = (loopO m_slices_Repeat_2_int_2_int_L1 (1, [x, d, d, d, d, d, d, d, d, d, d, d, d, d, d, d])).bind some := by kernel_rfl
    rw [e, loopO_next (s' := (2, [x, x, d, d, d, d, d, d, d, d, d, d, d, d, d, d])) (by kernel_rfl), loopO_next (s' := (4, [x, x, x, x, d, d, d, d, d, d, d, d, d, d, d, d])) (by kernel_rfl),
      loopO_next (s' := (8, [x, x, x, x, x, x, x, x, d, d, d, d, d, d, d, d])) (by kernel_rfl), loopO_next (s' := (16, List.replicate 16 x)) (by kernel_rfl), loopO_done (x := List.replicate 16 x) (by kernel_rfl)]
    rfl

theorem kind_row (l : List (Int × Int)) : m_kind_row l = some l := rfl

theorem kind_takes (o : TOp) (hs : shapeB o.Bits o.Lanes = true) (hk : isK o.Kind = true) (hf : sfitS o.Kind o.Bits o.Lanes = true) : m_kind_takes o = some (takesS o) := by
  have hl := shape_lanes hs
  obtain ⟨k, b, n, d, args, i⟩ := o
  simp only at hs hk hf hl ⊢
  rcases kinds k with rfl | rfl | rfl | rfl | rfl | rfl | rfl | rfl | rfl | rfl | rfl | rfl | rfl | rfl | rfl | rfl | rfl | rfl | rfl | rfl | rfl | rfl | rfl | h
  case inr.inr.inr.inr.inr.inr.inr.inr.inr.inr.inr.inr.inr.inr.inr.inr.inr.inr.inr.inr.inr.inl =>
    have h1 : n ≠ 1 := by rintro rfl; simp [sfitS] at hf
    have h4 : n = 2 ∨ n = 4 ∨ n = 8 ∨ n = 16 := by omega
    unfold m_kind_takes
    rw [show (((21 : Int)) == 21) = true from rfl]
    simp only [repeat_one _ _ h4, kind_row, Option.bind_some]
    rcases h4 with rfl | rfl | rfl | rfl <;> rfl
  all_goals first
    | rfl
    | (rw [isK_out h] at hk; cases hk)
    | (rcases hl with rfl | rfl | rfl | rfl | rfl <;> first | rfl | (simp [sfitS] at hf))

theorem kind_argsFit (o : TOp) (hs : shapeB o.Bits o.Lanes = true) (hk : isK o.Kind = true) (hf : sfitS o.Kind o.Bits o.Lanes = true) (hl : o.Args.length ≤ 200) : m_kind_argsFit o = some (((o.Args.length : Int) == nArgs o.Kind o.Lanes) && o.Args.all valS) := by
  unfold m_kind_argsFit
  rw [kind_takes o hs hk hf]
  have hn : 0 ≤ nArgs o.Kind o.Lanes := by
    have := shape_lanes hs
    unfold nArgs
    cases (o.Kind == 0) <;> cases (o.Kind == 13 || o.Kind == 18 || o.Kind == 19) <;> cases (o.Kind == 14 || o.Kind == 15 || o.Kind == 16 || o.Kind == 22) <;> cases (o.Kind == 20) <;> cases (o.Kind == 21) <;> simp <;> omega
  have hlen : ((takesS o).length : Int) = nArgs o.Kind o.Lanes := by simp [takesS]; omega
  simp only [Option.bind_some, hlen]
  by_cases he : (o.Args.length : Int) = nArgs o.Kind o.Lanes
  · have e1 : ((o.Args.length : Int) == nArgs o.Kind o.Lanes) = true := by simpa using he
    have e2 : ((o.Args.length : Int) != nArgs o.Kind o.Lanes) = false := by simpa using he
    rw [e1, e2, cond_false]
    have hloop := loop_all o.Args (0 : Int) valS (m_kind_argsFit_L1 o) (.inl ()) (.inr false) (fun i hi hp => by
        unfold m_kind_argsFit_L1
        have : decide ((i : Int) < (o.Args.length : Int)) = true := by simpa using hi
        simp only [this, cond_true, chk_pos' (inB_nat hi), Int.toNat_natCast, kind_isValue, Option.bind_some, hp, Bool.not_true, cond_false, w64_succ hi (by omega)]) (fun i hi hp => by
        unfold m_kind_argsFit_L1
        have : decide ((i : Int) < (o.Args.length : Int)) = true := by simpa using hi
        simp only [this, cond_true, chk_pos' (inB_nat hi), Int.toNat_natCast, kind_isValue, Option.bind_some, hp, Bool.not_false]) (by
        unfold m_kind_argsFit_L1
        simp) o.Args.length 0 (by omega)
    rw [show (0 : Int) = ((0 : Nat) : Int) from rfl, hloop, List.drop_zero]
    cases o.Args.all valS <;> rfl
  · have e1 : ((o.Args.length : Int) == nArgs o.Kind o.Lanes) = false := by simpa using he
    have e2 : ((o.Args.length : Int) != nArgs o.Kind o.Lanes) = true := by simpa using he
    rw [e1, e2]; rfl

theorem gives_zero {k b n : Int} (hs : shapeB b n = true) : ((givesS k b n).1 == 0) = (k == 17 || k == 19) := by
  have hb : (b == 0) = false := by
    have := width_cases (shape_width hs); simp; omega
  unfold givesS
  cases (k == 17 || k == 19) <;> cases (k == 10 || k == 11 || k == 12) <;> cases (k == 22) <;> simp_all

theorem kind_dstFits (o : TOp) (hs : shapeB o.Bits o.Lanes = true) : m_kind_dstFits o = some (dstS o.Kind o.Dst) := by
  unfold m_kind_dstFits
  simp only [kind_gives, Option.bind_some, gives_zero hs, kind_isValue, dstS]
  cases (o.Kind == 17 || o.Kind == 19) <;> rfl

theorem kind_May (o : TOp) (ho : OpOk o) : m_kind_May o = some (mayS o) := by
  unfold m_kind_May mayS
  simp only [kind_isKind, kind_Shape, kind_shapeFits, Option.bind_some]
  cases hs : shapeB o.Bits o.Lanes with
  | false => cases isK o.Kind <;> rfl
  | true =>
    have hl := shape_lanes hs
    cases hk : isK o.Kind with
    | false => rfl
    | true =>
      rw [kind_immFits o (shape_width hs) (by omega) ho.imm]
      simp only [kind_dstFits o hs]
      cases hf : sfitS o.Kind o.Bits o.Lanes with
      | false => rfl
      | true =>
        rw [kind_argsFit o hs hk hf ho.args]
        generalize ifitS o.Kind o.Bits o.Lanes o.Imm = p
        generalize ((o.Args.length : Int) == nArgs o.Kind o.Lanes) = q
        generalize o.Args.all valS = r
        generalize dstS o.Kind o.Dst = s
        cases p <;> cases q <;> cases r <;> cases s <;> rfl

theorem ref_Args (o : TOp) : m_lockstepref03_Args o = some (bif isK o.Kind then nArgs o.Kind o.Lanes else -1) := by
  obtain ⟨k, b, n, d, args, i⟩ := o
  rcases kinds k with rfl | rfl | rfl | rfl | rfl | rfl | rfl | rfl | rfl | rfl | rfl | rfl | rfl | rfl | rfl | rfl | rfl | rfl | rfl | rfl | rfl | rfl | rfl | h
  any_goals rfl
  unfold m_lockstepref03_Args
  simp [out_ne h, isK_out h]

theorem ref_May (o : TOp) (ho : OpOk o) : m_lockstepref03_May o = some (mayS o) := by
  unfold m_lockstepref03_May mayS
  simp only [ref_Shape, Option.bind_some]
  cases hs : shapeB o.Bits o.Lanes with
  | false => rfl
  | true =>
    simp only [ref_Args, Bool.not_true, beq_self_eq_true, cond_true, cond_false, Option.bind_some]
    cases hk : isK o.Kind with
    | false =>
      have : ((-1 : Int) != (o.Args.length : Int)) = true := by simp
      simp [this]
    | true =>
      simp only [cond_true]
      rw [ref_Fits o hs hk ho.imm]
      by_cases he : (o.Args.length : Int) = nArgs o.Kind o.Lanes
      · have e1 : ((o.Args.length : Int) == nArgs o.Kind o.Lanes) = true := by simpa using he
        have e2 : (nArgs o.Kind o.Lanes != (o.Args.length : Int)) = false := by simpa using he.symm
        rw [e1, e2]
        have hloop := loop_all o.Args (0 : Int) valS (m_lockstepref03_May_L1 o) (.inl ()) (.inr false) (fun i hi hp => by
            unfold m_lockstepref03_May_L1
            have : decide ((i : Int) < (o.Args.length : Int)) = true := by simpa using hi
            simp only [this, cond_true, chk_pos' (inB_nat hi), Int.toNat_natCast, ref_Value, Option.bind_some, hp, Bool.not_true, cond_false, w64_succ hi (by have := ho.args; omega)]) (fun i hi hp => by
            unfold m_lockstepref03_May_L1
            have : decide ((i : Int) < (o.Args.length : Int)) = true := by simpa using hi
            simp only [this, cond_true, chk_pos' (inB_nat hi), Int.toNat_natCast, ref_Value, Option.bind_some, hp, Bool.not_false]) (by
            unfold m_lockstepref03_May_L1
            simp) o.Args.length 0 (by omega)
        rw [show (0 : Int) = ((0 : Nat) : Int) from rfl, hloop, List.drop_zero]
        simp only [ref_Value, Option.bind_some, dstS]
        generalize sfitS o.Kind o.Bits o.Lanes = p
        generalize ifitS o.Kind o.Bits o.Lanes o.Imm = q
        generalize o.Args.all valS = r
        cases p <;> cases q <;> cases r <;> cases (o.Kind == 17) <;> cases (o.Kind == 19) <;> rfl
      · have e1 : ((o.Args.length : Int) == nArgs o.Kind o.Lanes) = false := by simpa using he
        have e2 : (nArgs o.Kind o.Lanes != (o.Args.length : Int)) = true := by simpa using Ne.symm he
        rw [e1, e2]
        cases sfitS o.Kind o.Bits o.Lanes <;> cases ifitS o.Kind o.Bits o.Lanes o.Imm <;> rfl
theorem may_all {o : TOp} (h : mayS o = true) : shapeB o.Bits o.Lanes = true ∧ isK o.Kind = true ∧ sfitS o.Kind o.Bits o.Lanes = true ∧ ifitS o.Kind o.Bits o.Lanes o.Imm = true ∧ (o.Args.length : Int) = nArgs o.Kind o.Lanes ∧ o.Args.all valS = true ∧ dstS o.Kind o.Dst = true := by
  simp only [mayS, Bool.and_eq_true, beq_iff_eq] at h
  exact ⟨h.1.1, h.1.2.1.1.1, h.1.2.1.1.2, h.1.2.1.2, h.1.2.2, h.2.1, h.2.2⟩
theorem kind_Takes (o : TOp) (ho : OpOk o) : m_kind_Takes o = some (bif mayS o then takesS o else []) := by
  unfold m_kind_Takes
  rw [kind_May o ho]
  simp only [Option.bind_some]
  cases hm : mayS o with
  | false => rfl
  | true =>
    obtain ⟨h1, h2, h3, _⟩ := may_all hm
    simp only [kind_takes o h1 h2 h3, Option.bind_some]
    rfl
theorem kind_Gives (o : TOp) (ho : OpOk o) : m_kind_Gives o = some (bif mayS o then givesS o.Kind o.Bits o.Lanes else (0, 0)) := by
  unfold m_kind_Gives
  rw [kind_May o ho]
  simp only [Option.bind_some, kind_gives]
  cases mayS o <;> rfl
theorem ref_Gives (o : TOp) (ho : OpOk o) : m_lockstepref03_Gives o = some (bif mayS o then givesS o.Kind o.Bits o.Lanes else (0, 0)) := by
  unfold m_lockstepref03_Gives
  rw [ref_May o ho]
  simp only [Option.bind_some]
  cases hm : mayS o with
  | false => rfl
  | true =>
    obtain ⟨_, h2, _⟩ := may_all hm
    obtain ⟨k, b, n, d, args, i⟩ := o
    simp only at h2 ⊢
    rcases kinds k with rfl | rfl | rfl | rfl | rfl | rfl | rfl | rfl | rfl | rfl | rfl | rfl | rfl | rfl | rfl | rfl | rfl | rfl | rfl | rfl | rfl | rfl | rfl | h
    any_goals rfl
    rw [isK_out h] at h2; cases h2
theorem ref_Takes (o : TOp) (ho : OpOk o) : m_lockstepref03_Takes o = some (bif mayS o then takesS o else []) := by
  unfold m_lockstepref03_Takes
  rw [ref_May o ho]
  simp only [Option.bind_some]
  cases hm : mayS o with
  | false => rfl
  | true =>
    obtain ⟨h1, h2, h3, h4, h5, _⟩ := may_all hm
    have hloop := loop_build (X := List (Int × Int)) o.Args.length (elemS o) (m_lockstepref03_Takes_L1 o) id (fun l i hi hl => by
      unfold m_lockstepref03_Takes_L1
      have e0 : decide ((i : Int) < (o.Args.length : Int)) = true := by simpa using hi
      have e1 : ((i : Int) == 0) = Nat.beq i 0 := by cases i <;> rfl
      have e2 : ((i : Int) == 1) = Nat.beq i 1 := by
        rcases i with _ | _ | i
        · rfl
        · rfl
        · have : ¬ (((i + 1 + 1 : Nat) : Int) = 1) := by omega
          simp only [Nat.beq]
          simpa using this
      have hr : l.length + ([elemS o i] : List (Int × Int)).length ≤ room := by have := ho.args; simp [room]; omega
      simp only [e0, e1, e2, cond_true]
      have e3 : w64 ((i : Int) + 1) = (i : Int) + 1 := w64_succ hi (by have := ho.args; omega)
      simp only [e3]
      have key : ∀ (x : Option (Int × Int)), x = some (elemS o i) → (x.bind fun x23 => chk (l.length + ([(x23.1, x23.2)] : List (Int × Int)).length ≤ room) (some (LR.next (l ++ ([(x23.1, x23.2)] : List (Int × Int)), (i : Int) + 1)))) = (some (LR.next (l ++ [elemS o i], (i : Int) + 1)) : Option (LR (List (Int × Int) × Int) (List (Int × Int)))) := by
        rintro x rfl
        exact chk_pos' hr
      refine key _ ?_
      clear key hr
      obtain ⟨k, b, n, d, args, im⟩ := o
      simp only at h2 ⊢
      rcases kinds k with rfl | rfl | rfl | rfl | rfl | rfl | rfl | rfl | rfl | rfl | rfl | rfl | rfl | rfl | rfl | rfl | rfl | rfl | rfl | rfl | rfl | rfl | rfl | h
      all_goals first
        | rfl
        | (rw [isK_out h] at h2; cases h2)
        | (rcases i with _ | _ | i <;> rfl)) (fun l hl => by
      unfold m_lockstepref03_Takes_L1
      simp) o.Args.length 0 [] (by omega) rfl
    rw [show (0 : Int) = ((0 : Nat) : Int) from rfl]
    simp only [Bool.not_true, cond_false, hloop, Option.bind_some, id]
    rw [takesS, ← h5]
    rfl
end Go.Proofs.Ytkbbdfkpclbdhaa
