/-
  WordShifts is true for every input: shifted up and down by as much, what is left are the lower bits; by the width, or more, nothing is left. No condition.
-/
import Derived.Test.YtdldcondjidnfaaRows
import Derived.WalkKit
import Derived.ProofKit
import Derived.OpenShut
import Derived.ShutString
import Derived.Test.YtdldcondjidnfaaDo
import Derived.Test.YtdldcondjidnfaaRefB
import Derived.Test.YtdldcondjidnfaaLaws
namespace Go.Proofs.Ytdldcondjidnfaa.wordShifts
open Go.ChangeShapes Go.WideShapes Go.ChangeAt Go.RowKit
open Go.ChangeMaps (open_string shut_string)
set_option linter.unusedVariables false      -- a walk need not use every 'w<i>' (that an integer argument fits its kind)

theorem own : ownKnob Try.prog.godebug = none := by kernel_rfl

theorem grown_last {a b c : World} (g : Grown b c) (h : Grown a b) : Grown a c := grown_trans h g
section
variable (a1 a2 : Int) (w : World)
set_option maxHeartbeats 1000000 in
set_option maxRecDepth 100000 in
theorem far1 (hk : 1 ≤ cutZ a2 1) : Calls Try.prog 8 #[.int .i64 1, .int .u64 a1, .int .u64 a2] w fun e w' => e = .returned (.bool true) ∧ Grown w w' := by
  have hn : isW 1 = true := by decide
  have hM := fun w => rmay_yes 1 w hn
  have hc1 := fun w => cut_any a2 1 w
  have h1 := fun w => do_any 8 1 a1 a2 w
  rw [shl_far0 a1 a2 hn hk, doC_go a2 hn (by omega) (by omega) (by omega)] at h1
  have h2 := fun w => do_any 9 1 0 a2 w
  rw [shr_far0 0 a2 hn hk, doC_go a2 hn (by omega) (by omega) (by omega)] at h2
  clear hn
  go_enter Try.func8, Try.ntmps8
  go_wp2_with (first | (go_at_call 11; refine (awake_any _).mono ?_; rintro e w' ⟨rfl, hg⟩) | (go_at_call 15; refine (hM _).mono ?_; rintro e w' ⟨rfl, rfl⟩) | (go_at_call 16; (first | (with_reducible refine (hc1 _).mono ?_)); rintro e w' ⟨rfl, rfl⟩) | (go_at_call 12; (first | (with_reducible refine (h1 _).mono ?_) | (with_reducible refine (h2 _).mono ?_)); rintro e w' ⟨rfl, hg⟩))
  go_ret
  exact ⟨rfl, by repeat (first | exact Grown.refl _ | refine grown_last ‹Grown _ _› ?_)⟩
set_option maxHeartbeats 1000000 in
set_option maxRecDepth 100000 in
theorem near1 (hk0 : 0 ≤ cutZ a2 1) (hk : cutZ a2 1 < 1) : Calls Try.prog 8 #[.int .i64 1, .int .u64 a1, .int .u64 a2] w fun e w' => e = .returned (.bool true) ∧ Grown w w' := by
  have hn : isW 1 = true := by decide
  have hM := fun w => rmay_yes 1 w hn
  have hc1 := fun w => cut_any a2 1 w
  have hc2 := fun w => cut_any a1 1 w
  have hc3 := fun w => cut_any (doV 8 1 a1 a2) 1 w
  rw [doV_cut 8 1 a1 a2 hn] at hc3
  have h1 := fun w => do_any 8 1 a1 a2 w
  rw [doC_go a2 hn (by omega) (by omega) (by omega)] at h1
  have h2 := fun w => do_any 9 1 (doV 8 1 a1 a2) a2 w
  rw [shl_shr (M := 1) a1 a2 hn (by decide) hk, doC_go a2 hn (by omega) (by omega) (by omega)] at h2
  clear hn
  go_enter Try.func8, Try.ntmps8
  go_wp2_with (first | (go_at_call 11; refine (awake_any _).mono ?_; rintro e w' ⟨rfl, hg⟩) | (go_at_call 15; refine (hM _).mono ?_; rintro e w' ⟨rfl, rfl⟩) | (go_at_call 16; (first | (with_reducible refine (hc1 _).mono ?_) | (with_reducible refine (hc2 _).mono ?_) | (with_reducible refine (hc3 _).mono ?_)); rintro e w' ⟨rfl, rfl⟩) | (go_at_call 12; (first | (with_reducible refine (h1 _).mono ?_) | (with_reducible refine (h2 _).mono ?_)); rintro e w' ⟨rfl, hg⟩))
  go_ret
  exact ⟨rfl, by repeat (first | exact Grown.refl _ | refine grown_last ‹Grown _ _› ?_)⟩
set_option maxHeartbeats 1000000 in
set_option maxRecDepth 100000 in
theorem far8 (hk : 8 ≤ cutZ a2 8) : Calls Try.prog 8 #[.int .i64 8, .int .u64 a1, .int .u64 a2] w fun e w' => e = .returned (.bool true) ∧ Grown w w' := by
  have hn : isW 8 = true := by decide
  have hM := fun w => rmay_yes 8 w hn
  have hc1 := fun w => cut_any a2 8 w
  have h1 := fun w => do_any 8 8 a1 a2 w
  rw [shl_far0 a1 a2 hn hk, doC_go a2 hn (by omega) (by omega) (by omega)] at h1
  have h2 := fun w => do_any 9 8 0 a2 w
  rw [shr_far0 0 a2 hn hk, doC_go a2 hn (by omega) (by omega) (by omega)] at h2
  clear hn
  go_enter Try.func8, Try.ntmps8
  go_wp2_with (first | (go_at_call 11; refine (awake_any _).mono ?_; rintro e w' ⟨rfl, hg⟩) | (go_at_call 15; refine (hM _).mono ?_; rintro e w' ⟨rfl, rfl⟩) | (go_at_call 16; (first | (with_reducible refine (hc1 _).mono ?_)); rintro e w' ⟨rfl, rfl⟩) | (go_at_call 12; (first | (with_reducible refine (h1 _).mono ?_) | (with_reducible refine (h2 _).mono ?_)); rintro e w' ⟨rfl, hg⟩))
  go_ret
  exact ⟨rfl, by repeat (first | exact Grown.refl _ | refine grown_last ‹Grown _ _› ?_)⟩
set_option maxHeartbeats 1000000 in
set_option maxRecDepth 100000 in
theorem near8 (hk0 : 0 ≤ cutZ a2 8) (hk : cutZ a2 8 < 8) : Calls Try.prog 8 #[.int .i64 8, .int .u64 a1, .int .u64 a2] w fun e w' => e = .returned (.bool true) ∧ Grown w w' := by
  have hn : isW 8 = true := by decide
  have hM := fun w => rmay_yes 8 w hn
  have hc1 := fun w => cut_any a2 8 w
  have hc2 := fun w => cut_any a1 8 w
  have hc3 := fun w => cut_any (doV 8 8 a1 a2) 8 w
  rw [doV_cut 8 8 a1 a2 hn] at hc3
  have h1 := fun w => do_any 8 8 a1 a2 w
  rw [doC_go a2 hn (by omega) (by omega) (by omega)] at h1
  have h2 := fun w => do_any 9 8 (doV 8 8 a1 a2) a2 w
  rw [shl_shr (M := 255) a1 a2 hn (by decide) hk, doC_go a2 hn (by omega) (by omega) (by omega)] at h2
  clear hn
  go_enter Try.func8, Try.ntmps8
  go_wp2_with (first | (go_at_call 11; refine (awake_any _).mono ?_; rintro e w' ⟨rfl, hg⟩) | (go_at_call 15; refine (hM _).mono ?_; rintro e w' ⟨rfl, rfl⟩) | (go_at_call 16; (first | (with_reducible refine (hc1 _).mono ?_) | (with_reducible refine (hc2 _).mono ?_) | (with_reducible refine (hc3 _).mono ?_)); rintro e w' ⟨rfl, rfl⟩) | (go_at_call 12; (first | (with_reducible refine (h1 _).mono ?_) | (with_reducible refine (h2 _).mono ?_)); rintro e w' ⟨rfl, hg⟩))
  go_ret
  exact ⟨rfl, by repeat (first | exact Grown.refl _ | refine grown_last ‹Grown _ _› ?_)⟩
set_option maxHeartbeats 1000000 in
set_option maxRecDepth 100000 in
theorem far16 (hk : 16 ≤ cutZ a2 16) : Calls Try.prog 8 #[.int .i64 16, .int .u64 a1, .int .u64 a2] w fun e w' => e = .returned (.bool true) ∧ Grown w w' := by
  have hn : isW 16 = true := by decide
  have hM := fun w => rmay_yes 16 w hn
  have hc1 := fun w => cut_any a2 16 w
  have h1 := fun w => do_any 8 16 a1 a2 w
  rw [shl_far0 a1 a2 hn hk, doC_go a2 hn (by omega) (by omega) (by omega)] at h1
  have h2 := fun w => do_any 9 16 0 a2 w
  rw [shr_far0 0 a2 hn hk, doC_go a2 hn (by omega) (by omega) (by omega)] at h2
  clear hn
  go_enter Try.func8, Try.ntmps8
  go_wp2_with (first | (go_at_call 11; refine (awake_any _).mono ?_; rintro e w' ⟨rfl, hg⟩) | (go_at_call 15; refine (hM _).mono ?_; rintro e w' ⟨rfl, rfl⟩) | (go_at_call 16; (first | (with_reducible refine (hc1 _).mono ?_)); rintro e w' ⟨rfl, rfl⟩) | (go_at_call 12; (first | (with_reducible refine (h1 _).mono ?_) | (with_reducible refine (h2 _).mono ?_)); rintro e w' ⟨rfl, hg⟩))
  go_ret
  exact ⟨rfl, by repeat (first | exact Grown.refl _ | refine grown_last ‹Grown _ _› ?_)⟩
set_option maxHeartbeats 1000000 in
set_option maxRecDepth 100000 in
theorem near16 (hk0 : 0 ≤ cutZ a2 16) (hk : cutZ a2 16 < 16) : Calls Try.prog 8 #[.int .i64 16, .int .u64 a1, .int .u64 a2] w fun e w' => e = .returned (.bool true) ∧ Grown w w' := by
  have hn : isW 16 = true := by decide
  have hM := fun w => rmay_yes 16 w hn
  have hc1 := fun w => cut_any a2 16 w
  have hc2 := fun w => cut_any a1 16 w
  have hc3 := fun w => cut_any (doV 8 16 a1 a2) 16 w
  rw [doV_cut 8 16 a1 a2 hn] at hc3
  have h1 := fun w => do_any 8 16 a1 a2 w
  rw [doC_go a2 hn (by omega) (by omega) (by omega)] at h1
  have h2 := fun w => do_any 9 16 (doV 8 16 a1 a2) a2 w
  rw [shl_shr (M := 65535) a1 a2 hn (by decide) hk, doC_go a2 hn (by omega) (by omega) (by omega)] at h2
  clear hn
  go_enter Try.func8, Try.ntmps8
  go_wp2_with (first | (go_at_call 11; refine (awake_any _).mono ?_; rintro e w' ⟨rfl, hg⟩) | (go_at_call 15; refine (hM _).mono ?_; rintro e w' ⟨rfl, rfl⟩) | (go_at_call 16; (first | (with_reducible refine (hc1 _).mono ?_) | (with_reducible refine (hc2 _).mono ?_) | (with_reducible refine (hc3 _).mono ?_)); rintro e w' ⟨rfl, rfl⟩) | (go_at_call 12; (first | (with_reducible refine (h1 _).mono ?_) | (with_reducible refine (h2 _).mono ?_)); rintro e w' ⟨rfl, hg⟩))
  go_ret
  exact ⟨rfl, by repeat (first | exact Grown.refl _ | refine grown_last ‹Grown _ _› ?_)⟩
set_option maxHeartbeats 1000000 in
set_option maxRecDepth 100000 in
theorem far32 (hk : 32 ≤ cutZ a2 32) : Calls Try.prog 8 #[.int .i64 32, .int .u64 a1, .int .u64 a2] w fun e w' => e = .returned (.bool true) ∧ Grown w w' := by
  have hn : isW 32 = true := by decide
  have hM := fun w => rmay_yes 32 w hn
  have hc1 := fun w => cut_any a2 32 w
  have h1 := fun w => do_any 8 32 a1 a2 w
  rw [shl_far0 a1 a2 hn hk, doC_go a2 hn (by omega) (by omega) (by omega)] at h1
  have h2 := fun w => do_any 9 32 0 a2 w
  rw [shr_far0 0 a2 hn hk, doC_go a2 hn (by omega) (by omega) (by omega)] at h2
  clear hn
  go_enter Try.func8, Try.ntmps8
  go_wp2_with (first | (go_at_call 11; refine (awake_any _).mono ?_; rintro e w' ⟨rfl, hg⟩) | (go_at_call 15; refine (hM _).mono ?_; rintro e w' ⟨rfl, rfl⟩) | (go_at_call 16; (first | (with_reducible refine (hc1 _).mono ?_)); rintro e w' ⟨rfl, rfl⟩) | (go_at_call 12; (first | (with_reducible refine (h1 _).mono ?_) | (with_reducible refine (h2 _).mono ?_)); rintro e w' ⟨rfl, hg⟩))
  go_ret
  exact ⟨rfl, by repeat (first | exact Grown.refl _ | refine grown_last ‹Grown _ _› ?_)⟩
set_option maxHeartbeats 1000000 in
set_option maxRecDepth 100000 in
theorem near32 (hk0 : 0 ≤ cutZ a2 32) (hk : cutZ a2 32 < 32) : Calls Try.prog 8 #[.int .i64 32, .int .u64 a1, .int .u64 a2] w fun e w' => e = .returned (.bool true) ∧ Grown w w' := by
  have hn : isW 32 = true := by decide
  have hM := fun w => rmay_yes 32 w hn
  have hc1 := fun w => cut_any a2 32 w
  have hc2 := fun w => cut_any a1 32 w
  have hc3 := fun w => cut_any (doV 8 32 a1 a2) 32 w
  rw [doV_cut 8 32 a1 a2 hn] at hc3
  have h1 := fun w => do_any 8 32 a1 a2 w
  rw [doC_go a2 hn (by omega) (by omega) (by omega)] at h1
  have h2 := fun w => do_any 9 32 (doV 8 32 a1 a2) a2 w
  rw [shl_shr (M := 4294967295) a1 a2 hn (by decide) hk, doC_go a2 hn (by omega) (by omega) (by omega)] at h2
  clear hn
  go_enter Try.func8, Try.ntmps8
  go_wp2_with (first | (go_at_call 11; refine (awake_any _).mono ?_; rintro e w' ⟨rfl, hg⟩) | (go_at_call 15; refine (hM _).mono ?_; rintro e w' ⟨rfl, rfl⟩) | (go_at_call 16; (first | (with_reducible refine (hc1 _).mono ?_) | (with_reducible refine (hc2 _).mono ?_) | (with_reducible refine (hc3 _).mono ?_)); rintro e w' ⟨rfl, rfl⟩) | (go_at_call 12; (first | (with_reducible refine (h1 _).mono ?_) | (with_reducible refine (h2 _).mono ?_)); rintro e w' ⟨rfl, hg⟩))
  go_ret
  exact ⟨rfl, by repeat (first | exact Grown.refl _ | refine grown_last ‹Grown _ _› ?_)⟩
set_option maxHeartbeats 1000000 in
set_option maxRecDepth 100000 in
theorem far64 (hk : 64 ≤ cutZ a2 64) : Calls Try.prog 8 #[.int .i64 64, .int .u64 a1, .int .u64 a2] w fun e w' => e = .returned (.bool true) ∧ Grown w w' := by
  have hn : isW 64 = true := by decide
  have hM := fun w => rmay_yes 64 w hn
  have hc1 := fun w => cut_any a2 64 w
  have h1 := fun w => do_any 8 64 a1 a2 w
  rw [shl_far0 a1 a2 hn hk, doC_go a2 hn (by omega) (by omega) (by omega)] at h1
  have h2 := fun w => do_any 9 64 0 a2 w
  rw [shr_far0 0 a2 hn hk, doC_go a2 hn (by omega) (by omega) (by omega)] at h2
  clear hn
  go_enter Try.func8, Try.ntmps8
  go_wp2_with (first | (go_at_call 11; refine (awake_any _).mono ?_; rintro e w' ⟨rfl, hg⟩) | (go_at_call 15; refine (hM _).mono ?_; rintro e w' ⟨rfl, rfl⟩) | (go_at_call 16; (first | (with_reducible refine (hc1 _).mono ?_)); rintro e w' ⟨rfl, rfl⟩) | (go_at_call 12; (first | (with_reducible refine (h1 _).mono ?_) | (with_reducible refine (h2 _).mono ?_)); rintro e w' ⟨rfl, hg⟩))
  go_ret
  exact ⟨rfl, by repeat (first | exact Grown.refl _ | refine grown_last ‹Grown _ _› ?_)⟩
set_option maxHeartbeats 1000000 in
set_option maxRecDepth 100000 in
theorem near64 (hk0 : 0 ≤ cutZ a2 64) (hk : cutZ a2 64 < 64) : Calls Try.prog 8 #[.int .i64 64, .int .u64 a1, .int .u64 a2] w fun e w' => e = .returned (.bool true) ∧ Grown w w' := by
  have hn : isW 64 = true := by decide
  have hM := fun w => rmay_yes 64 w hn
  have hc1 := fun w => cut_any a2 64 w
  have hc2 := fun w => cut_any a1 64 w
  have hc3 := fun w => cut_any (doV 8 64 a1 a2) 64 w
  rw [doV_cut 8 64 a1 a2 hn] at hc3
  have h1 := fun w => do_any 8 64 a1 a2 w
  rw [doC_go a2 hn (by omega) (by omega) (by omega)] at h1
  have h2 := fun w => do_any 9 64 (doV 8 64 a1 a2) a2 w
  rw [shl_shr (M := 18446744073709551615) a1 a2 hn (by decide) hk, doC_go a2 hn (by omega) (by omega) (by omega)] at h2
  clear hn
  go_enter Try.func8, Try.ntmps8
  go_wp2_with (first | (go_at_call 11; refine (awake_any _).mono ?_; rintro e w' ⟨rfl, hg⟩) | (go_at_call 15; refine (hM _).mono ?_; rintro e w' ⟨rfl, rfl⟩) | (go_at_call 16; (first | (with_reducible refine (hc1 _).mono ?_) | (with_reducible refine (hc2 _).mono ?_) | (with_reducible refine (hc3 _).mono ?_)); rintro e w' ⟨rfl, rfl⟩) | (go_at_call 12; (first | (with_reducible refine (h1 _).mono ?_) | (with_reducible refine (h2 _).mono ?_)); rintro e w' ⟨rfl, hg⟩))
  go_ret
  exact ⟨rfl, by repeat (first | exact Grown.refl _ | refine grown_last ‹Grown _ _› ?_)⟩
end

theorem walk (a0 : Int) (a1 : Int) (a2 : Int) (w0 : (Lit.int .i64 a0).wf = true) (w1 : (Lit.int .u64 a1).wf = true) (w2 : (Lit.int .u64 a2).wf = true) (w : World) :
    Calls Try.prog 8 #[.int .i64 a0, .int .u64 a1, .int .u64 a2] w fun e w' => e = .returned (.bool true) ∧ Grown w w' := by
  clear w0 w1 w2
  cases hn : isW a0
  · have hM : ∀ w, Calls Try.prog 15 #[.int .i64 a0] w fun e w' => e = .returned (.bool false) ∧ w = w' := fun w => rmay_no a0 w hn
    clear hn
    go_enter Try.func8, Try.ntmps8
    go_wp2_with (first | (go_at_call 11; refine (awake_any _).mono ?_; rintro e w' ⟨rfl, hg⟩) | (go_at_call 15; refine (hM _).mono ?_; rintro e w' ⟨rfl, rfl⟩))
    go_ret
    exact ⟨rfl, by assumption⟩
  · obtain ⟨k0, k1⟩ := cutZ_range a2 hn
    rcases isW_cases hn with rfl | rfl | rfl | rfl | rfl
    · by_cases hk : 1 ≤ cutZ a2 1
      · exact far1 a1 a2 w hk
      · exact near1 a1 a2 w k0 (by omega)
    · by_cases hk : 8 ≤ cutZ a2 8
      · exact far8 a1 a2 w hk
      · exact near8 a1 a2 w k0 (by omega)
    · by_cases hk : 16 ≤ cutZ a2 16
      · exact far16 a1 a2 w hk
      · exact near16 a1 a2 w k0 (by omega)
    · by_cases hk : 32 ≤ cutZ a2 32
      · exact far32 a1 a2 w hk
      · exact near32 a1 a2 w k0 (by omega)
    · by_cases hk : 64 ≤ cutZ a2 64
      · exact far64 a1 a2 w hk
      · exact near64 a1 a2 w k0 (by omega)

set_option maxRecDepth 100000 in
theorem lifted (os : Os) (started : os.Started) (H : Type) (enc : TypeId × Value → H) :
    ReturnsInHanded {} Try.checked os 8 .any (Rows.wordShiftsSpec.pre6 enc Try.prog Try.f8 Rows.wordShiftsRow.domain false) (Rows.wordShiftsSpec.post enc Try.prog Try.f8 false true false false) := by
  refine returnsInHanded_of_change (C := Try.checked) own started (by kernel_rfl) Try.func8
    (ChangeSpec.witness6 (enc := enc) (C := Try.checked) false ⟨#[], #[.int .i64 0, .int .u64 0, .int .u64 0], []⟩ 8 (by kernel_rfl) (by kernel_rfl) (by kernel_rfl) (by kernel_rfl)) ?_
  intro W base args ds gs before hval0 hW hcnd _
  have hval : ∀ (j : Nat) t v, Try.f8.params[j]? = some t → args[j]? = some v → Value.okWide Try.prog W .any base t v := hval0
  have hW' := hW
  obtain ⟨p, q, hA0, hV, rfl, hfz, hnd⟩ := hW
  have hA : DataW.TrodAll enc Try.prog W 0 (fun _ => true) true Try.f8.params.toList args.toList ds p := hA0
  rw [Try.params8] at hA hval
  obtain ⟨v0, vs0, d0, ds0, p0, q0, hargs, rfl, rfl, h0, r0⟩ := trodAll_cons hA
  obtain ⟨v1, vs1, d1, ds1, p1, q1, rfl, rfl, rfl, h1, r1⟩ := trodAll_cons r0
  obtain ⟨v2, vs2, d2, ds2, p2, q2, rfl, rfl, rfl, h2, r2⟩ := trodAll_cons r1
  obtain ⟨rfl, rfl, rfl⟩ := trodAll_nil r2
  obtain rfl : args = #[v0, v1, v2] := by cases args; simp_all
  obtain ⟨rfl, rfl⟩ := trodVars_none hV
  obtain ⟨a0, rfl, rfl, rfl, w0⟩ := open_int Try.underlying3 (hval 0 3 v0 rfl rfl) h0
  obtain ⟨a1, rfl, rfl, rfl, w1⟩ := open_int Try.underlying22 (hval 1 22 v1 rfl rfl) h1
  obtain ⟨a2, rfl, rfl, rfl, w2⟩ := open_int Try.underlying22 (hval 2 22 v2 rfl rfl) h2
  clear hA0 hval0
  simp only [List.append_nil] at hW'
  refine (walk a0 a1 a2 w0 w1 w2 W).mono fun e W' ⟨he, hg⟩ => ?_
  subst he
  exact ⟨_, rfl, post_of_same (pa := []) (pv := []) hW' (fun _ _ _ => (trodAll_cons_mk (shut_bool Try.underlying4 _) trodAll_mk0)) (fun sp _ => (trodAll_cons_mk (shut_int Try.underlying3 w0) (trodAll_cons_mk (shut_int Try.underlying22 w1) (trodAll_cons_mk (shut_int Try.underlying22 w2) trodAll_mk0)))) (fun _ _ => rfl) rfl
    (hg.frame _) hg.2.1 (ok_one (by kernel_rfl) rfl (okWide_bool_mk Try.underlying4 _))⟩

theorem over : Rows.wordShiftsRow.holds Try.pinned (OpenSpec.ofChange Rows.wordShiftsSpec) :=
  OpenClaim.holds_of_wide 8 Try.f8 rfl rfl rfl rfl rfl rfl rfl ⟨rfl, rfl, rfl, rfl, rfl⟩ rfl rfl rfl rfl rfl (by kernel_rfl) Try.func8 (by kernel_rfl)
    (of_decide_eq_true (by kernel_rfl)) (by unfold Func.isWrapper; first | (rw [if_pos (by decide +kernel)]; kernel_rfl) | (rw [if_neg (by decide +kernel)]; exact ⟨rfl, rfl⟩))
    (fun os started H enc _ => lifted os started H enc)

theorem proved : Rows.WordShiftsSaid :=
  over
#print axioms proved
end Go.Proofs.Ytdldcondjidnfaa.wordShifts
