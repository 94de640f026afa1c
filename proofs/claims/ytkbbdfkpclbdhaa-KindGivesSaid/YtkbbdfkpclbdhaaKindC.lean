/-
  The laws of layer kind, as their models say them.
-/
import Derived.Test.YtkbbdfkpclbdhaaKindB
import Derived.Test.YtkbbdfkpclbdhaaOpn
namespace Go.Proofs.Ytkbbdfkpclbdhaa
open Go Go.RowKit
set_option linter.unusedVariables false
set_option linter.unusedSimpArgs false
set_option maxRecDepth 100000

theorem awake3 : m_locksteplaw03_awake = some true := by
  unfold m_locksteplaw03_awake
  rw [kind_Gives _ ⟨by decide, by decide⟩, kind_May _ ⟨by decide, by decide⟩, kind_May _ ⟨by decide, by decide⟩]
  simp only [kind_Shape, kind_Pure]
  rfl
theorem opOk {o : TOp} (h : okTOp o) (hl : o.Args.length ≤ 200) : OpOk o := ⟨wf_u64 h.2.2.2.2.2.1, hl⟩

theorem shapes_same (l : List (Int × Int)) (hl : l.length ≤ 1000) : m_locksteplaw03_shapes l l = some true := by
  unfold m_locksteplaw03_shapes
  have hloop := loop_all l ((0 : Int), (0 : Int)) (fun _ => true) (m_locksteplaw03_shapes_L1 l l) (.inl ()) (.inr false) (fun i hi _ => by
      unfold m_locksteplaw03_shapes_L1
      have : decide ((i : Int) < (l.length : Int)) = true := by simpa using hi
      simp only [this, cond_true, chk_pos' (inB_nat hi), beq_self_eq_true, Bool.and_self, Bool.not_true, cond_false, w64_succ hi (by omega)]) (fun i hi hp => by cases hp) (by
      unfold m_locksteplaw03_shapes_L1
      simp) l.length 0 (by omega)
  rw [show (0 : Int) = ((0 : Nat) : Int) from rfl, hloop]
  rw [show ((l.drop 0).all fun _ => true) = true by simp, show ((l.length : Int) != (l.length : Int)) = false by simp]
  rfl

theorem looks_true (o : TOp) (h : okTOp o) : m_locksteplaw03_KindLooks o = some true := by
  unfold m_locksteplaw03_KindLooks
  rw [awake3]
  simp only [Option.bind_some, Bool.not_true, cond_false]
  by_cases hl : (100 : Int) < (o.Args.length : Int)
  · simp [hl]
  · have ho : OpOk o := opOk h (by omega)
    have e0 : decide ((100 : Int) < (o.Args.length : Int)) = false := by simpa using hl
    have hn : ∀ l : List (Int × Int), l = (bif mayS o then takesS o else []) → m_locksteplaw03_shapes l l = some true := fun l hl => shapes_same l (by
      subst hl
      cases hm : mayS o with
      | false => simp
      | true =>
        have := (may_all hm).2.2.2.2.1
        simp only [cond_true, takesS, List.length_map, List.length_range]
        have := ho.args
        omega)
    simp only [e0, cond_false, kind_Gives o ho, ref_Gives o ho, kind_May o ho, ref_May o ho, Option.bind_some, kind_Takes o ho, ref_Takes o ho, beq_self_eq_true, cond_true, hn _ rfl, kind_Shape, ref_Shape, kind_Pure, ref_Pure]

/-! ### Two of them -/
theorem list_drop_beq (l m : List Int) : (l.drop 0 == m.drop 0) = (l == m) := by simp
theorem slices_Equal (l m : List Int) (hl : l.length ≤ 1000) : m_slices_Equal_int_int l m = some (l == m) := by
  unfold m_slices_Equal_int_int
  by_cases he : l.length = m.length
  · have e2 : ((l.length : Int) != (m.length : Int)) = false := by simp; omega
    have hloop := loop_eq l m (0 : Int) (m_slices_Equal_int_int_L1 l m) (.inl ()) (.inr false) he (fun i hi hp => by
        unfold m_slices_Equal_int_int_L1
        have : decide ((i : Int) < (l.length : Int)) = true := by simpa using hi
        simp only [this, cond_true, chk_pos' (inB_nat hi), chk_pos' (inB_nat (show i < m.length by omega)), Int.toNat_natCast, bne, hp, Bool.not_true, cond_false, w64_succ hi (by omega)]) (fun i hi hp => by
        unfold m_slices_Equal_int_int_L1
        have : decide ((i : Int) < (l.length : Int)) = true := by simpa using hi
        simp only [this, cond_true, chk_pos' (inB_nat hi), chk_pos' (inB_nat (show i < m.length by omega)), Int.toNat_natCast, bne, hp, Bool.not_false]) (by
        unfold m_slices_Equal_int_int_L1
        simp) l.length 0 (by omega)
    rw [e2, cond_false, show (0 : Int) = ((0 : Nat) : Int) from rfl, hloop, list_drop_beq]
    cases l == m <;> rfl
  · have e2 : ((l.length : Int) != (m.length : Int)) = true := by simp; omega
    have e3 : (l == m) = false := by simp; rintro rfl; exact he rfl
    rw [e2, e3]; rfl
theorem ref_Ints (l m : List Int) (hl : l.length ≤ 1000) : m_lockstepref02_Ints l m = some (l == m) := by
  unfold m_lockstepref02_Ints
  by_cases he : l.length = m.length
  · have e2 : ((l.length : Int) != (m.length : Int)) = false := by simp; omega
    have hloop := loop_eq l m (0 : Int) (m_lockstepref02_Ints_L1 l m) (.inl ()) (.inr false) he (fun i hi hp => by
        unfold m_lockstepref02_Ints_L1
        have : decide ((i : Int) < (l.length : Int)) = true := by simpa using hi
        simp only [this, cond_true, chk_pos' (inB_nat hi), chk_pos' (inB_nat (show i < m.length by omega)), Int.toNat_natCast, bne, hp, Bool.not_true, cond_false, w64_succ hi (by omega)]) (fun i hi hp => by
        unfold m_lockstepref02_Ints_L1
        have : decide ((i : Int) < (l.length : Int)) = true := by simpa using hi
        simp only [this, cond_true, chk_pos' (inB_nat hi), chk_pos' (inB_nat (show i < m.length by omega)), Int.toNat_natCast, bne, hp, Bool.not_false]) (by
        unfold m_lockstepref02_Ints_L1
        simp) l.length 0 (by omega)
    rw [e2, cond_false, show (0 : Int) = ((0 : Nat) : Int) from rfl, hloop, list_drop_beq]
    cases l == m <;> rfl
  · have e2 : ((l.length : Int) != (m.length : Int)) = true := by simp; omega
    have e3 : (l == m) = false := by simp; rintro rfl; exact he rfl
    rw [e2, e3]; rfl
def sameS (a b : TOp) : Bool := a.Kind == b.Kind && a.Bits == b.Bits && a.Lanes == b.Lanes && a.Dst == b.Dst && a.Imm == b.Imm && a.Args == b.Args
theorem kind_Same (a b : TOp) (h : a.Args.length ≤ 1000) : m_kind_Same a b = some (sameS a b) := by
  unfold m_kind_Same sameS
  rw [slices_Equal _ _ h]
  cases (a.Kind == b.Kind) <;> cases (a.Bits == b.Bits) <;> cases (a.Lanes == b.Lanes) <;> cases (a.Dst == b.Dst) <;> cases (a.Imm == b.Imm) <;> rfl
theorem ref_Same (a b : TOp) (h : a.Args.length ≤ 1000) : m_lockstepref03_Same a b = some (sameS a b) := by
  unfold m_lockstepref03_Same sameS
  rw [ref_Ints _ _ h]
  cases (a.Kind == b.Kind) <;> cases (a.Bits == b.Bits) <;> cases (a.Lanes == b.Lanes) <;> cases (a.Dst == b.Dst) <;> cases (a.Imm == b.Imm) <;> rfl
theorem same_comm (a b : TOp) : sameS a b = sameS b a := by
  unfold sameS
  rw [Bool.beq_comm (a := a.Kind), Bool.beq_comm (a := a.Bits), Bool.beq_comm (a := a.Lanes), Bool.beq_comm (a := a.Dst), Bool.beq_comm (a := a.Imm), Bool.beq_comm (a := a.Args)]
theorem same_refl (a : TOp) : sameS a a = true := by simp [sameS]

theorem elem_shape {o : TOp} (hm : mayS o = true) (hi : 0 ≤ o.Imm ∧ o.Imm < 18446744073709551616) (i : Nat) : shapeB (elemS o i).1 (elemS o i).2 = true := by
  obtain ⟨h1, h2, h3, h4, _⟩ := may_all hm
  obtain ⟨k, b, n, d, args, im⟩ := o
  simp only at h1 h2 h3 h4 hi ⊢
  have hw := shape_width h1
  have hone : shapeB b 1 = true := by simp [shapeB, hw]
  rcases kinds k with rfl | rfl | rfl | rfl | rfl | rfl | rfl | rfl | rfl | rfl | rfl | rfl | rfl | rfl | rfl | rfl | rfl | rfl | rfl | rfl | rfl | rfl | rfl | h
  case inr.inr.inr.inr.inr.inr.inr.inr.inr.inr.inr.inr.inr.inr.inl =>
    have hb : widthB im = true ∧ im < b := by simpa [ifitS] using h4
    have : w64 im = im := w64_of (by omega) (by rcases width_cases hw with h | h | h | h | h <;> omega)
    show shapeB (w64 im) 1 = true
    rw [this]; simp [shapeB, hb.1]
  case inr.inr.inr.inr.inr.inr.inr.inr.inr.inr.inr.inr.inr.inr.inr.inl =>
    have hb : widthB im = true ∧ b < im := by simpa [ifitS] using h4
    have : w64 im = im := w64_of (by omega) (by rcases width_cases hb.1 with h | h | h | h | h <;> omega)
    show shapeB (w64 im) 1 = true
    rw [this]; simp [shapeB, hb.1]
  all_goals first
    | exact h1
    | exact hone
    | (rw [isK_out h] at h2; cases h2)
    | (rcases i with _ | _ | i <;> first | rfl | exact h1)

theorem same_true (a b : TOp) (ha : okTOp a) (hb : okTOp b) : m_locksteplaw03_KindSame a b = some true := by
  unfold m_locksteplaw03_KindSame
  rw [awake3]
  simp only [Option.bind_some, Bool.not_true, cond_false]
  by_cases hl : (100 : Int) < (a.Args.length : Int) ∨ (100 : Int) < (b.Args.length : Int)
  · rcases hl with hl | hl <;> simp [hl]
  · have e1 : decide ((100 : Int) < (a.Args.length : Int)) = false := by simp; omega
    have e2 : decide ((100 : Int) < (b.Args.length : Int)) = false := by simp; omega
    have ho : OpOk a := opOk ha (by omega)
    have hs := shape_lanes (b := a.Bits) (n := a.Lanes)
    simp only [e1, e2, cond_false, kind_Same _ _ (show a.Args.length ≤ 1000 by omega), kind_Same _ _ (show b.Args.length ≤ 1000 by omega), ref_Same _ _ (show a.Args.length ≤ 1000 by omega), Option.bind_some, same_refl, same_comm b a, bne_self_eq_false, Bool.not_true, cond_false, beq_self_eq_true, cond_true, kind_Takes a ho, kind_May a ho]
    cases hm : mayS a with
    | false =>
      simp only [cond_false]
      rw [loopO_done (x := .inl ()) (by unfold m_locksteplaw03_KindSame_L1; simp)]
      rfl
    | true =>
      have h5 := (may_all hm).2.2.2.2.1
      have hlen : (takesS a).length = a.Args.length := by simp [takesS]; omega
      simp only [cond_true]
      have hloop := loop_all (takesS a) ((0 : Int), (0 : Int)) (fun _ => true) (m_locksteplaw03_KindSame_L1 (takesS a)) (.inl ()) (.inr false) (fun i hi _ => by
          unfold m_locksteplaw03_KindSame_L1
          have : decide ((i : Int) < ((takesS a).length : Int)) = true := by simpa using hi
          have e3 : (takesS a).getD i ((0 : Int), (0 : Int)) = elemS a i := by
            unfold takesS
            have : i < (nArgs a.Kind a.Lanes).toNat := by simpa [takesS] using hi
            simp [List.getD, this]
          simp only [this, cond_true, chk_pos' (inB_nat hi), Int.toNat_natCast, kind_Shape, Option.bind_some, e3, elem_shape hm ho.imm, Bool.not_true, cond_false, w64_succ hi (by have := ho.args; omega)]) (fun i hi hp => by cases hp) (by
          unfold m_locksteplaw03_KindSame_L1
          simp) (takesS a).length 0 (by omega)
      rw [show (0 : Int) = ((0 : Nat) : Int) from rfl, hloop]
      rw [show (((takesS a).drop 0).all fun _ => true) = true by simp]
      simp [hlen]

/-! ### Lanes, shapes -/
theorem may_lane {o : TOp} (hm : mayS o = true) (h1 : o.Kind ≠ 21) (h2 : o.Kind ≠ 22) : mayS ⟨o.Kind, o.Bits, 1, o.Dst, o.Args, o.Imm⟩ = true ∧ (takesS ⟨o.Kind, o.Bits, 1, o.Dst, o.Args, o.Imm⟩).length = (takesS o).length := by
  obtain ⟨q1, q2, q3, q4, q5, q6, q7⟩ := may_all hm
  obtain ⟨k, b, n, d, args, im⟩ := o
  simp only at q1 q2 q3 q4 q5 q6 q7 h1 h2 ⊢
  have hw := shape_width q1
  have hone : shapeB b 1 = true := by simp [shapeB, hw]
  have e1 : nArgs k 1 = nArgs k n := by
    unfold nArgs
    have : (k == 21) = false := by simpa using h1
    rw [this]; rfl
  have e2 : sfitS k b 1 = true := by
    unfold sfitS at q3 ⊢
    have e21 : (k == 21) = false := by simpa using h1
    have e22 : (k == 22) = false := by simpa using h2
    rw [e21, e22] at q3 ⊢
    revert q3
    cases (k == 16 || k == 17) <;> cases (k == 18 || k == 19) <;> cases (k == 4 || k == 10 || k == 11 || k == 12 || k == 14 || k == 15 || k == 20) <;> simp
    all_goals (intros; assumption)
  have e3 : ifitS k b 1 im = true := by
    unfold ifitS at q4 ⊢
    have e22 : (k == 22) = false := by simpa using h2
    rw [e22] at q4 ⊢
    exact q4
  refine ⟨?_, by simp [takesS, e1]⟩
  simp [mayS, hone, q2, e2, e3, e1, q5, q6, q7]

theorem lanes_true (o : TOp) (h : okTOp o) : m_locksteplaw03_KindLanes o = some true := by
  unfold m_locksteplaw03_KindLanes
  rw [awake3]
  simp only [Option.bind_some, Bool.not_true, cond_false]
  by_cases hl : (100 : Int) < (o.Args.length : Int)
  · simp [hl]
  · have ho : OpOk o := opOk h (by omega)
    have ho1 : OpOk ⟨o.Kind, o.Bits, 1, o.Dst, o.Args, o.Imm⟩ := ⟨ho.imm, ho.args⟩
    have e0 : decide ((100 : Int) < (o.Args.length : Int)) = false := by simpa using hl
    simp only [e0, cond_false, kind_Shape, Option.bind_some, kind_May o ho, ref_May o ho, kind_May _ ho1, kind_Takes o ho, kind_Takes _ ho1]
    cases hs : shapeB o.Bits o.Lanes with
    | false => simp [mayS, hs]
    | true =>
      simp only [Bool.not_true, cond_false]
      cases hm : mayS o with
      | false => rfl
      | true =>
        by_cases h1 : o.Kind = 21
        · simp [h1]
        by_cases h2 : o.Kind = 22
        · simp [h2]
        obtain ⟨p1, p2⟩ := may_lane hm h1 h2
        have e1 : (o.Kind != 21) = true := by simpa using h1
        have e2 : (o.Kind != 22) = true := by simpa using h2
        simp [e1, e2, p1, p2]

theorem shapes_true (b n : Int) (hb : okI64 b) (hn : okI64 n) : m_locksteplaw03_KindShapes b n = some true := by
  unfold m_locksteplaw03_KindShapes
  rw [awake3]
  simp only [Option.bind_some, Bool.not_true, cond_false, kind_Shape]
  cases hs : shapeB b n with
  | false => rfl
  | true =>
    rcases width_cases (shape_width hs) with rfl | rfl | rfl | rfl | rfl <;> rcases shape_lanes hs with rfl | rfl | rfl | rfl | rfl <;> first | rfl | (exact absurd hs (by decide))

theorem gives_shape {o : TOp} (hm : mayS o = true) : (o.Kind = 17 ∨ o.Kind = 19) ∧ givesS o.Kind o.Bits o.Lanes = (0, 0) ∧ o.Dst = 0 ∧ pureS o.Kind = false ∨
    (o.Kind ≠ 17 ∧ o.Kind ≠ 19) ∧ shapeB (givesS o.Kind o.Bits o.Lanes).1 (givesS o.Kind o.Bits o.Lanes).2 = true ∧ (givesS o.Kind o.Bits o.Lanes).1 ≠ 0 ∧ (givesS o.Kind o.Bits o.Lanes).2 ≠ 0 ∧ o.Dst ≠ 0 := by
  obtain ⟨q1, q2, q3, q4, q5, q6, q7⟩ := may_all hm
  obtain ⟨k, b, n, d, args, im⟩ := o
  simp only at q1 q2 q3 q4 q5 q6 q7 ⊢
  by_cases h17 : k = 17
  · subst h17; exact .inl ⟨.inl rfl, rfl, by simpa [dstS] using q7, rfl⟩
  by_cases h19 : k = 19
  · subst h19; exact .inl ⟨.inr rfl, rfl, by simpa [dstS] using q7, rfl⟩
  refine .inr ⟨⟨h17, h19⟩, ?_⟩
  have hw := shape_width q1
  have hone : shapeB b 1 = true := by simp [shapeB, hw]
  have hb : b ≠ 0 := by have := width_cases hw; omega
  have hn : n ≠ 0 := by have := shape_lanes q1; omega
  have hd : d ≠ 0 := by
    have e1 : (k == 17) = false := by simpa using h17
    have e2 : (k == 19) = false := by simpa using h19
    simp [dstS, e1, e2, valS] at q7
    omega
  have e1 : (k == 17 || k == 19) = false := by simp [h17, h19]
  unfold givesS
  rw [e1]
  cases (k == 10 || k == 11 || k == 12) with
  | true => exact ⟨rfl, (by show (1 : Int) ≠ 0; decide), (by show (1 : Int) ≠ 0; decide), hd⟩
  | false =>
    cases (k == 22) with
    | true => exact ⟨hone, hb, by simp, hd⟩
    | false => exact ⟨q1, hb, hn, hd⟩

theorem kgives_true (o : TOp) (h : okTOp o) : m_locksteplaw03_KindGives o = some true := by
  unfold m_locksteplaw03_KindGives
  rw [awake3]
  simp only [Option.bind_some, Bool.not_true, cond_false]
  by_cases hl : (100 : Int) < (o.Args.length : Int)
  · simp [hl]
  · have ho : OpOk o := opOk h (by omega)
    have e0 : decide ((100 : Int) < (o.Args.length : Int)) = false := by simpa using hl
    simp only [e0, cond_false, kind_Gives o ho, kind_May o ho, Option.bind_some, kind_Takes o ho, kind_Pure, kind_Shape]
    cases hm : mayS o with
    | false => rfl
    | true =>
      simp only [cond_true, Bool.not_true, cond_false]
      rcases gives_shape hm with ⟨hk, hg, hd, hp⟩ | ⟨⟨h17, h19⟩, hs, hg1, hg2, hd⟩
      · rw [hg, hd, hp]
        rcases hk with hk | hk <;> rw [hk] <;> rfl
      · have e1 : (o.Kind == 17) = false := by simpa using h17
        have e2 : (o.Kind == 19) = false := by simpa using h19
        have e3 : ((givesS o.Kind o.Bits o.Lanes).1 == 0) = false := by simpa using hg1
        have e4 : ((givesS o.Kind o.Bits o.Lanes).2 == 0) = false := by simpa using hg2
        have e5 : (o.Dst == 0) = false := by simpa using hd
        rw [e1, e2, e3, e4, e5, hs]
        rfl

theorem all_set {l : List Int} (h : l.all valS = true) (hl : 0 < l.length) (v : Int) : (l.set 0 v).all valS = valS v := by
  cases l with
  | nil => simp at hl
  | cons x l =>
    simp only [List.all_cons, Bool.and_eq_true] at h
    simp [h.2]

theorem args_true (o : TOp) (bad : Int) (h : okTOp o) (hb : okI64 bad) : m_locksteplaw03_KindArgs o bad = some true := by
  unfold m_locksteplaw03_KindArgs
  rw [awake3]
  simp only [Option.bind_some, Bool.not_true, cond_false]
  by_cases hl : (100 : Int) < (o.Args.length : Int)
  · simp [hl]
  · have ho : OpOk o := opOk h (by omega)
    have e0 : decide ((100 : Int) < (o.Args.length : Int)) = false := by simpa using hl
    simp only [e0, beq_self_eq_true, cond_true, cond_false, kind_May o ho, Option.bind_some]
    cases hm : mayS o with
    | false => rfl
    | true =>
      obtain ⟨q1, q2, q3, q4, q5, q6, q7⟩ := may_all hm
      have hlen := ho.args
      simp only [Bool.not_true, cond_false]
      rw [chk_pos' (by simp [room]; omega), chk_pos' (by simp [room]; omega)]
      have ho2 : OpOk ⟨o.Kind, o.Bits, o.Lanes, o.Dst, (([] : List Int) ++ o.Args) ++ [1], o.Imm⟩ := ⟨ho.imm, by simp; omega⟩
      have hm2 : mayS ⟨o.Kind, o.Bits, o.Lanes, o.Dst, (([] : List Int) ++ o.Args) ++ [1], o.Imm⟩ = false := by
        have : ((((([] : List Int) ++ o.Args) ++ [1]).length : Int) == nArgs o.Kind o.Lanes) = false := by rw [← q5]; simp; omega
        simp only [mayS, this, Bool.and_false, Bool.false_and]
      rw [kind_May _ ho2, hm2]
      simp only [Option.bind_some, cond_false]
      by_cases hz : o.Args.length = 0
      · simp [hz]
      · have e1 : ((o.Args.length : Int) == 0) = false := by simpa using hz
        rw [e1]
        simp only [cond_false]
        rw [chk_pos' (by omega), chk_pos' (by simp [room]; omega), chk_pos' ⟨by decide, by show (0 : Int) < _; omega⟩]
        have ho3 : OpOk ⟨o.Kind, o.Bits, o.Lanes, o.Dst, o.Args.drop ((1 : Int)).toNat, o.Imm⟩ := ⟨ho.imm, by simp; omega⟩
        have ho4 : OpOk ⟨o.Kind, o.Bits, o.Lanes, o.Dst, o.Args.set ((0 : Int)).toNat bad, o.Imm⟩ := ⟨ho.imm, by simpa using hlen⟩
        have hm3 : mayS ⟨o.Kind, o.Bits, o.Lanes, o.Dst, o.Args.drop ((1 : Int)).toNat, o.Imm⟩ = false := by
          have : (((o.Args.drop ((1 : Int)).toNat).length : Int) == nArgs o.Kind o.Lanes) = false := by rw [← q5]; simp; omega
          simp only [mayS, this, Bool.and_false, Bool.false_and]
        have hm4 : mayS ⟨o.Kind, o.Bits, o.Lanes, o.Dst, o.Args.set ((0 : Int)).toNat bad, o.Imm⟩ = valS bad := by
          simp only [mayS, q1, q2, q3, q4, q7, List.length_set, q5, beq_self_eq_true, Bool.and_true, Bool.true_and]
          exact all_set q6 (by omega) bad
        rw [kind_May _ ho3, kind_May _ ho4, hm3, hm4]
        simp only [Option.bind_some, Bool.not_false, beq_self_eq_true, cond_true, valS]
        cases decide ((1 : Int) ≤ bad) <;> simp
end Go.Proofs.Ytkbbdfkpclbdhaa
