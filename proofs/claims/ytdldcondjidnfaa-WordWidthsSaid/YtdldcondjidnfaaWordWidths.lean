/-
  WordWidths is true for every input: a number of one width as one of another one is what the document says, and there and back it is itself. No condition.
-/
import Derived.Test.YtdldcondjidnfaaRows
import Derived.WalkKit
import Derived.ProofKit
import Derived.OpenShut
import Derived.ShutString
import Derived.Test.YtdldcondjidnfaaDo
import Derived.Test.YtdldcondjidnfaaRefB
namespace Go.Proofs.Ytdldcondjidnfaa.wordWidths
open Go.ChangeShapes Go.WideShapes Go.ChangeAt Go.RowKit
open Go.ChangeMaps (open_string shut_string)
set_option linter.unusedVariables false      -- a walk need not use every 'w<i>' (that an integer argument fits its kind)

theorem own : ownKnob Try.prog.godebug = none := by kernel_rfl

theorem undef_no {b : Bool} (h : some undef = some (Value.bool b)) : False := by simp [undef] at h
section
variable (a0 a1 a2 : Int) (w : World)
  (hA : ∀ w, Calls Try.prog 17 #[.int .u64 a0, .int .i64 a1] w fun e w' => e = .returned (.int .u64 (cutZ a0 a1)) ∧ w = w')
  (hB : ∀ w, Calls Try.prog 17 #[.int .u64 a0, .int .i64 a2] w fun e w' => e = .returned (.int .u64 (cutZ a0 a2)) ∧ w = w')
set_option maxHeartbeats 1000000 in
set_option maxRecDepth 100000 in
theorem none1 (hZ : ∀ w, Calls Try.prog 21 #[.int .u64 a0, .int .i64 a1, .int .i64 a2] w fun e w' => e = .returned (.tuple #[.int .u64 0, .int .i64 1]) ∧ w = w')
    (hT : ∀ w, Calls Try.prog 22 #[.int .u64 a0, .int .i64 a1, .int .i64 a2] w fun e w' => e = .returned (.tuple #[.int .u64 0, .int .i64 1]) ∧ w = w')
    (hF : ∀ w, Calls Try.prog 15 #[.int .i64 a1] w fun e w' => e = .returned (.bool false) ∧ w = w')    : Calls Try.prog 4 #[.int .u64 a0, .int .i64 a1, .int .i64 a2] w fun e w' => e = .returned (.bool true) ∧ Grown w w' := by
  go_enter Try.func4, Try.ntmps4
  go_wp2_with (first | (go_at_call 11; refine (awake_any _).mono ?_; rintro e w' ⟨rfl, hg⟩) | (go_at_call 21; refine (hZ _).mono ?_; rintro e w' ⟨rfl, rfl⟩) | (go_at_call 22; refine (hT _).mono ?_; rintro e w' ⟨rfl, rfl⟩) | (go_at_call 15; refine (hF _).mono ?_; rintro e w' ⟨rfl, rfl⟩))
  all_goals first | exact (undef_no (by assumption)).elim | (go_ret; exact ⟨rfl, by assumption⟩)
set_option maxHeartbeats 1000000 in
set_option maxRecDepth 100000 in
theorem none2 (hZ : ∀ w, Calls Try.prog 21 #[.int .u64 a0, .int .i64 a1, .int .i64 a2] w fun e w' => e = .returned (.tuple #[.int .u64 0, .int .i64 1]) ∧ w = w')
    (hT : ∀ w, Calls Try.prog 22 #[.int .u64 a0, .int .i64 a1, .int .i64 a2] w fun e w' => e = .returned (.tuple #[.int .u64 0, .int .i64 1]) ∧ w = w')
    (hF : ∀ w, Calls Try.prog 15 #[.int .i64 a1] w fun e w' => e = .returned (.bool true) ∧ w = w') (hG : ∀ w, Calls Try.prog 15 #[.int .i64 a2] w fun e w' => e = .returned (.bool false) ∧ w = w')   : Calls Try.prog 4 #[.int .u64 a0, .int .i64 a1, .int .i64 a2] w fun e w' => e = .returned (.bool true) ∧ Grown w w' := by
  go_enter Try.func4, Try.ntmps4
  go_wp2_with (first | (go_at_call 11; refine (awake_any _).mono ?_; rintro e w' ⟨rfl, hg⟩) | (go_at_call 21; refine (hZ _).mono ?_; rintro e w' ⟨rfl, rfl⟩) | (go_at_call 22; refine (hT _).mono ?_; rintro e w' ⟨rfl, rfl⟩) | (go_at_call 15; (first | (with_reducible refine (hF _).mono ?_) | (with_reducible refine (hG _).mono ?_)); rintro e w' ⟨rfl, rfl⟩))
  all_goals first | exact (undef_no (by assumption)).elim | (go_ret; exact ⟨rfl, by assumption⟩)
include hA in
omit hB in
set_option maxHeartbeats 1000000 in
set_option maxRecDepth 100000 in
theorem up (hZ : ∀ w, Calls Try.prog 21 #[.int .u64 a0, .int .i64 a1, .int .i64 a2] w fun e w' => e = .returned (.tuple #[.int .u64 (cutZ a0 a1), .int .i64 0]) ∧ w = w')
    (hT : ∀ w, Calls Try.prog 22 #[.int .u64 a0, .int .i64 a1, .int .i64 a2] w fun e w' => e = .returned (.tuple #[.int .u64 0, .int .i64 1]) ∧ w = w')
    (hF : ∀ w, Calls Try.prog 15 #[.int .i64 a1] w fun e w' => e = .returned (.bool true) ∧ w = w') (hG : ∀ w, Calls Try.prog 15 #[.int .i64 a2] w fun e w' => e = .returned (.bool true) ∧ w = w') (hU : ∀ w, Calls Try.prog 22 #[.int .u64 (cutZ a0 a1), .int .i64 a2, .int .i64 a1] w fun e w' => e = .returned (.tuple #[.int .u64 (cutZ a0 a1), .int .i64 0]) ∧ w = w') (h1 : a1 < a2) (h2 : ¬ a2 < a1) : Calls Try.prog 4 #[.int .u64 a0, .int .i64 a1, .int .i64 a2] w fun e w' => e = .returned (.bool true) ∧ Grown w w' := by
  go_enter Try.func4, Try.ntmps4
  go_wp2_with (first | (go_at_call 11; refine (awake_any _).mono ?_; rintro e w' ⟨rfl, hg⟩) | (go_at_call 21; refine (hZ _).mono ?_; rintro e w' ⟨rfl, rfl⟩) | (go_at_call 22; (first | (with_reducible refine (hT _).mono ?_) | (with_reducible refine (hU _).mono ?_)); rintro e w' ⟨rfl, rfl⟩) | (go_at_call 15; (first | (with_reducible refine (hF _).mono ?_) | (with_reducible refine (hG _).mono ?_)); rintro e w' ⟨rfl, rfl⟩) | (go_at_call 17; refine (hA _).mono ?_; rintro e w' ⟨rfl, rfl⟩))
  all_goals first | exact (undef_no (by assumption)).elim | (go_ret; exact ⟨rfl, by assumption⟩)
set_option maxHeartbeats 1000000 in
set_option maxRecDepth 100000 in
theorem same (hZ : ∀ w, Calls Try.prog 21 #[.int .u64 a0, .int .i64 a1, .int .i64 a2] w fun e w' => e = .returned (.tuple #[.int .u64 0, .int .i64 1]) ∧ w = w')
    (hT : ∀ w, Calls Try.prog 22 #[.int .u64 a0, .int .i64 a1, .int .i64 a2] w fun e w' => e = .returned (.tuple #[.int .u64 0, .int .i64 1]) ∧ w = w')
    (hF : ∀ w, Calls Try.prog 15 #[.int .i64 a1] w fun e w' => e = .returned (.bool true) ∧ w = w') (hG : ∀ w, Calls Try.prog 15 #[.int .i64 a2] w fun e w' => e = .returned (.bool true) ∧ w = w')  (h1 : ¬ a1 < a2) (h2 : ¬ a2 < a1) : Calls Try.prog 4 #[.int .u64 a0, .int .i64 a1, .int .i64 a2] w fun e w' => e = .returned (.bool true) ∧ Grown w w' := by
  go_enter Try.func4, Try.ntmps4
  go_wp2_with (first | (go_at_call 11; refine (awake_any _).mono ?_; rintro e w' ⟨rfl, hg⟩) | (go_at_call 21; refine (hZ _).mono ?_; rintro e w' ⟨rfl, rfl⟩) | (go_at_call 22; refine (hT _).mono ?_; rintro e w' ⟨rfl, rfl⟩) | (go_at_call 15; (first | (with_reducible refine (hF _).mono ?_) | (with_reducible refine (hG _).mono ?_)); rintro e w' ⟨rfl, rfl⟩))
  all_goals first | exact (undef_no (by assumption)).elim | (go_ret; exact ⟨rfl, by assumption⟩)
include hB in
omit hA in
set_option maxHeartbeats 1000000 in
set_option maxRecDepth 100000 in
theorem down (hZ : ∀ w, Calls Try.prog 21 #[.int .u64 a0, .int .i64 a1, .int .i64 a2] w fun e w' => e = .returned (.tuple #[.int .u64 0, .int .i64 1]) ∧ w = w')
    (hT : ∀ w, Calls Try.prog 22 #[.int .u64 a0, .int .i64 a1, .int .i64 a2] w fun e w' => e = .returned (.tuple #[.int .u64 (cutZ a0 a2), .int .i64 0]) ∧ w = w')
    (hF : ∀ w, Calls Try.prog 15 #[.int .i64 a1] w fun e w' => e = .returned (.bool true) ∧ w = w') (hG : ∀ w, Calls Try.prog 15 #[.int .i64 a2] w fun e w' => e = .returned (.bool true) ∧ w = w')  (h1 : ¬ a1 < a2) (h2 : a2 < a1) : Calls Try.prog 4 #[.int .u64 a0, .int .i64 a1, .int .i64 a2] w fun e w' => e = .returned (.bool true) ∧ Grown w w' := by
  go_enter Try.func4, Try.ntmps4
  go_wp2_with (first | (go_at_call 11; refine (awake_any _).mono ?_; rintro e w' ⟨rfl, hg⟩) | (go_at_call 21; refine (hZ _).mono ?_; rintro e w' ⟨rfl, rfl⟩) | (go_at_call 22; refine (hT _).mono ?_; rintro e w' ⟨rfl, rfl⟩) | (go_at_call 15; (first | (with_reducible refine (hF _).mono ?_) | (with_reducible refine (hG _).mono ?_)); rintro e w' ⟨rfl, rfl⟩) | (go_at_call 17; refine (hB _).mono ?_; rintro e w' ⟨rfl, rfl⟩))
  all_goals first | exact (undef_no (by assumption)).elim | (go_ret; exact ⟨rfl, by assumption⟩)
end

theorem walk (a0 : Int) (a1 : Int) (a2 : Int) (w0 : (Lit.int .u64 a0).wf = true) (w1 : (Lit.int .i64 a1).wf = true) (w2 : (Lit.int .i64 a2).wf = true) (w : World) :
    Calls Try.prog 4 #[.int .u64 a0, .int .i64 a1, .int .i64 a2] w fun e w' => e = .returned (.bool true) ∧ Grown w w' := by
  obtain ⟨v0, v1⟩ := u64_bd w0
  have hA := fun w => rcut_any a0 a1 w v0 v1
  have hB := fun w => rcut_any a0 a2 w v0 v1
  have hZ := fun w => zext_any a0 a1 a2 w
  have hT := fun w => trunc_any a0 a1 a2 w
  have hU := fun w => trunc_any (zxV a0 a1 a2) a2 a1 w
  have hF := fun w => rmay_any a1 w
  have hG := fun w => rmay_any a2 w
  cases hf : isW a1
  · simp only [zxV, zxC, tcV, tcC, hf, Bool.false_and, Bool.false_eq_true, if_false] at hZ hT hF
    exact none1 a0 a1 a2 w hZ hT hF
  · cases ht : isW a2
    · simp only [zxV, zxC, tcV, tcC, hf, ht, Bool.and_false, Bool.false_and, Bool.false_eq_true, if_false] at hZ hT hF hG
      exact none2 a0 a1 a2 w hZ hT hF hG
    · by_cases h1 : a1 < a2
      · have h2 : ¬ a2 < a1 := by omega
        have e1 : zxV a0 a1 a2 = cutZ a0 a1 := by simp [zxV, hf, ht, h1]
        have e2 : zxC a1 a2 = 0 := by simp [zxC, hf, ht, h1]
        have e3 : tcV a0 a1 a2 = 0 := by simp [tcV, h2]
        have e4 : tcC a1 a2 = 1 := by simp [tcC, h2]
        have e5 : tcV (cutZ a0 a1) a2 a1 = cutZ a0 a1 := by simp [tcV, hf, ht, h1, cutZ_cutZ]
        have e6 : tcC a2 a1 = 0 := by simp [tcC, hf, ht, h1]
        rw [e1, e5, e6] at hU
        rw [e1, e2] at hZ
        rw [e3, e4] at hT
        rw [hf] at hF
        rw [ht] at hG
        exact up a0 a1 a2 w hA hZ hT hF hG hU h1 h2
      · have e1 : zxV a0 a1 a2 = 0 := by simp [zxV, h1]
        have e2 : zxC a1 a2 = 1 := by simp [zxC, h1]
        rw [e1, e2] at hZ
        rw [hf] at hF
        rw [ht] at hG
        by_cases h2 : a2 < a1
        · have e3 : tcV a0 a1 a2 = cutZ a0 a2 := by simp [tcV, hf, ht, h2]
          have e4 : tcC a1 a2 = 0 := by simp [tcC, hf, ht, h2]
          rw [e3, e4] at hT
          exact down a0 a1 a2 w hB hZ hT hF hG h1 h2
        · have e3 : tcV a0 a1 a2 = 0 := by simp [tcV, h2]
          have e4 : tcC a1 a2 = 1 := by simp [tcC, h2]
          rw [e3, e4] at hT
          exact same a0 a1 a2 w hZ hT hF hG h1 h2

set_option maxRecDepth 100000 in
theorem lifted (os : Os) (started : os.Started) (H : Type) (enc : TypeId × Value → H) :
    ReturnsInHanded {} Try.checked os 4 .any (Rows.wordWidthsSpec.pre6 enc Try.prog Try.f4 Rows.wordWidthsRow.domain false) (Rows.wordWidthsSpec.post enc Try.prog Try.f4 false true false false) := by
  refine returnsInHanded_of_change (C := Try.checked) own started (by kernel_rfl) Try.func4
    (ChangeSpec.witness6 (enc := enc) (C := Try.checked) false ⟨#[], #[.int .u64 0, .int .i64 0, .int .i64 0], []⟩ 8 (by kernel_rfl) (by kernel_rfl) (by kernel_rfl) (by kernel_rfl)) ?_
  intro W base args ds gs before hval0 hW hcnd _
  have hval : ∀ (j : Nat) t v, Try.f4.params[j]? = some t → args[j]? = some v → Value.okWide Try.prog W .any base t v := hval0
  have hW' := hW
  obtain ⟨p, q, hA0, hV, rfl, hfz, hnd⟩ := hW
  have hA : DataW.TrodAll enc Try.prog W 0 (fun _ => true) true Try.f4.params.toList args.toList ds p := hA0
  rw [Try.params4] at hA hval
  obtain ⟨v0, vs0, d0, ds0, p0, q0, hargs, rfl, rfl, h0, r0⟩ := trodAll_cons hA
  obtain ⟨v1, vs1, d1, ds1, p1, q1, rfl, rfl, rfl, h1, r1⟩ := trodAll_cons r0
  obtain ⟨v2, vs2, d2, ds2, p2, q2, rfl, rfl, rfl, h2, r2⟩ := trodAll_cons r1
  obtain ⟨rfl, rfl, rfl⟩ := trodAll_nil r2
  obtain rfl : args = #[v0, v1, v2] := by cases args; simp_all
  obtain ⟨rfl, rfl⟩ := trodVars_none hV
  obtain ⟨a0, rfl, rfl, rfl, w0⟩ := open_int Try.underlying22 (hval 0 22 v0 rfl rfl) h0
  obtain ⟨a1, rfl, rfl, rfl, w1⟩ := open_int Try.underlying3 (hval 1 3 v1 rfl rfl) h1
  obtain ⟨a2, rfl, rfl, rfl, w2⟩ := open_int Try.underlying3 (hval 2 3 v2 rfl rfl) h2
  clear hA0 hval0
  simp only [List.append_nil] at hW'
  refine (walk a0 a1 a2 w0 w1 w2 W).mono fun e W' ⟨he, hg⟩ => ?_
  subst he
  exact ⟨_, rfl, post_of_same (pa := []) (pv := []) hW' (fun _ _ _ => (trodAll_cons_mk (shut_bool Try.underlying4 _) trodAll_mk0)) (fun sp _ => (trodAll_cons_mk (shut_int Try.underlying22 w0) (trodAll_cons_mk (shut_int Try.underlying3 w1) (trodAll_cons_mk (shut_int Try.underlying3 w2) trodAll_mk0)))) (fun _ _ => rfl) rfl
    (hg.frame _) hg.2.1 (ok_one (by kernel_rfl) rfl (okWide_bool_mk Try.underlying4 _))⟩

theorem over : Rows.wordWidthsRow.holds Try.pinned (OpenSpec.ofChange Rows.wordWidthsSpec) :=
  OpenClaim.holds_of_wide 4 Try.f4 rfl rfl rfl rfl rfl rfl rfl ⟨rfl, rfl, rfl, rfl, rfl⟩ rfl rfl rfl rfl rfl (by kernel_rfl) Try.func4 (by kernel_rfl)
    (of_decide_eq_true (by kernel_rfl)) (by unfold Func.isWrapper; first | (rw [if_pos (by decide +kernel)]; kernel_rfl) | (rw [if_neg (by decide +kernel)]; exact ⟨rfl, rfl⟩))
    (fun os started H enc _ => lifted os started H enc)

theorem proved : Rows.WordWidthsSaid :=
  over
#print axioms proved
end Go.Proofs.Ytdldcondjidnfaa.wordWidths
