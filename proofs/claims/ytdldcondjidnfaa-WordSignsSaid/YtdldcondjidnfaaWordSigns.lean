/-
  WordSigns is true for every input: signed a number lies within its width's bounds; of two numbers the one that is less, signed, is so by that; those of one bit more to the front are what is less than nothing. No condition.
-/
import Derived.Test.YtdldcondjidnfaaRows
import Derived.WalkKit
import Derived.ProofKit
import Derived.OpenShut
import Derived.ShutString
import Derived.Test.YtdldcondjidnfaaDo
import Derived.Test.YtdldcondjidnfaaRefB
import Derived.Test.YtdldcondjidnfaaLaws
namespace Go.Proofs.Ytdldcondjidnfaa.wordSigns
open Go.ChangeShapes Go.WideShapes Go.ChangeAt Go.RowKit
open Go.ChangeMaps (open_string shut_string)
set_option linter.unusedVariables false      -- a walk need not use every 'w<i>' (that an integer argument fits its kind)

theorem own : ownKnob Try.prog.godebug = none := by kernel_rfl

theorem grown_last {a b c : World} (g : Grown b c) (h : Grown a b) : Grown a c := grown_trans h g
section
variable (a1 a2 : Int) (w : World)
set_option maxHeartbeats 1000000 in
set_option maxRecDepth 100000 in
theorem sign1 : Calls Try.prog 7 #[.int .i64 1, .int .u64 a1, .int .u64 a2] w fun e w' => e = .returned (.bool true) ∧ Grown w w' := by
  have hn : isW 1 = true := by decide
  have hM := fun w => rmay_yes 1 w hn
  have hc1 := fun w => cut_any a1 1 w
  have hc2 := fun w => cut_any (IntKind.u64.wrap (sgnZ a1 1)) 1 w
  rw [sgn_back a1 hn] at hc2
  have hs1 := fun w => sgn_any a1 1 w
  have hs2 := fun w => sgn_any a2 1 w
  have h1 := fun w => do_any 12 1 a1 a2 w
  rw [doC_go a2 hn (by omega) (by omega) (by omega)] at h1
  have h2 := fun w => do_any 9 1 a1 0 w
  rw [doC_go _ hn (by omega) (by omega) (by omega)] at h2
  have r1 : -1 ≤ sgnZ a1 1 := by have h := sgn_range a1 hn; simp [pw] at h; omega
  have r2 : sgnZ a1 1 ≤ 0 := by have h := sgn_range a1 hn; simp [pw] at h; omega
  have q1 : (doV 12 1 a1 a2 == 1) = decide (sgnZ a1 1 < sgnZ a2 1) := slt_one a1 a2 hn
  have q2 : (doV 9 1 a1 0 == 1) = decide (sgnZ a1 1 < 0) := top_one a1 hn
  clear hn
  go_enter Try.func7, Try.ntmps7
  go_wp2_with (first | (go_at_call 11; refine (awake_any _).mono ?_; rintro e w' ⟨rfl, hg⟩) | (go_at_call 15; refine (hM _).mono ?_; rintro e w' ⟨rfl, rfl⟩) | (go_at_call 16; (first | (with_reducible refine (hc1 _).mono ?_) | (with_reducible refine (hc2 _).mono ?_)); rintro e w' ⟨rfl, rfl⟩) | (go_at_call 18; (first | (with_reducible refine (hs1 _).mono ?_) | (with_reducible refine (hs2 _).mono ?_)); rintro e w' ⟨rfl, rfl⟩) | (go_at_call 12; (first | (with_reducible refine (h1 _).mono ?_) | (with_reducible refine (h2 _).mono ?_)); rintro e w' ⟨rfl, hg⟩))
  go_ret
  exact ⟨rfl, by repeat (first | exact Grown.refl _ | refine grown_last ‹Grown _ _› ?_)⟩
set_option maxHeartbeats 1000000 in
set_option maxRecDepth 100000 in
theorem sign8 : Calls Try.prog 7 #[.int .i64 8, .int .u64 a1, .int .u64 a2] w fun e w' => e = .returned (.bool true) ∧ Grown w w' := by
  have hn : isW 8 = true := by decide
  have hM := fun w => rmay_yes 8 w hn
  have hc1 := fun w => cut_any a1 8 w
  have hc2 := fun w => cut_any (IntKind.u64.wrap (sgnZ a1 8)) 8 w
  rw [sgn_back a1 hn] at hc2
  have hs1 := fun w => sgn_any a1 8 w
  have hs2 := fun w => sgn_any a2 8 w
  have h1 := fun w => do_any 12 8 a1 a2 w
  rw [doC_go a2 hn (by omega) (by omega) (by omega)] at h1
  have h2 := fun w => do_any 9 8 a1 7 w
  rw [doC_go _ hn (by omega) (by omega) (by omega)] at h2
  have r1 : -128 ≤ sgnZ a1 8 := by have h := sgn_range a1 hn; simp [pw] at h; omega
  have r2 : sgnZ a1 8 ≤ 127 := by have h := sgn_range a1 hn; simp [pw] at h; omega
  have q1 : (doV 12 8 a1 a2 == 1) = decide (sgnZ a1 8 < sgnZ a2 8) := slt_one a1 a2 hn
  have q2 : (doV 9 8 a1 7 == 1) = decide (sgnZ a1 8 < 0) := top_one a1 hn
  clear hn
  go_enter Try.func7, Try.ntmps7
  go_wp2_with (first | (go_at_call 11; refine (awake_any _).mono ?_; rintro e w' ⟨rfl, hg⟩) | (go_at_call 15; refine (hM _).mono ?_; rintro e w' ⟨rfl, rfl⟩) | (go_at_call 16; (first | (with_reducible refine (hc1 _).mono ?_) | (with_reducible refine (hc2 _).mono ?_)); rintro e w' ⟨rfl, rfl⟩) | (go_at_call 18; (first | (with_reducible refine (hs1 _).mono ?_) | (with_reducible refine (hs2 _).mono ?_)); rintro e w' ⟨rfl, rfl⟩) | (go_at_call 12; (first | (with_reducible refine (h1 _).mono ?_) | (with_reducible refine (h2 _).mono ?_)); rintro e w' ⟨rfl, hg⟩))
  go_ret
  exact ⟨rfl, by repeat (first | exact Grown.refl _ | refine grown_last ‹Grown _ _› ?_)⟩
set_option maxHeartbeats 1000000 in
set_option maxRecDepth 100000 in
theorem sign16 : Calls Try.prog 7 #[.int .i64 16, .int .u64 a1, .int .u64 a2] w fun e w' => e = .returned (.bool true) ∧ Grown w w' := by
  have hn : isW 16 = true := by decide
  have hM := fun w => rmay_yes 16 w hn
  have hc1 := fun w => cut_any a1 16 w
  have hc2 := fun w => cut_any (IntKind.u64.wrap (sgnZ a1 16)) 16 w
  rw [sgn_back a1 hn] at hc2
  have hs1 := fun w => sgn_any a1 16 w
  have hs2 := fun w => sgn_any a2 16 w
  have h1 := fun w => do_any 12 16 a1 a2 w
  rw [doC_go a2 hn (by omega) (by omega) (by omega)] at h1
  have h2 := fun w => do_any 9 16 a1 15 w
  rw [doC_go _ hn (by omega) (by omega) (by omega)] at h2
  have r1 : -32768 ≤ sgnZ a1 16 := by have h := sgn_range a1 hn; simp [pw] at h; omega
  have r2 : sgnZ a1 16 ≤ 32767 := by have h := sgn_range a1 hn; simp [pw] at h; omega
  have q1 : (doV 12 16 a1 a2 == 1) = decide (sgnZ a1 16 < sgnZ a2 16) := slt_one a1 a2 hn
  have q2 : (doV 9 16 a1 15 == 1) = decide (sgnZ a1 16 < 0) := top_one a1 hn
  clear hn
  go_enter Try.func7, Try.ntmps7
  go_wp2_with (first | (go_at_call 11; refine (awake_any _).mono ?_; rintro e w' ⟨rfl, hg⟩) | (go_at_call 15; refine (hM _).mono ?_; rintro e w' ⟨rfl, rfl⟩) | (go_at_call 16; (first | (with_reducible refine (hc1 _).mono ?_) | (with_reducible refine (hc2 _).mono ?_)); rintro e w' ⟨rfl, rfl⟩) | (go_at_call 18; (first | (with_reducible refine (hs1 _).mono ?_) | (with_reducible refine (hs2 _).mono ?_)); rintro e w' ⟨rfl, rfl⟩) | (go_at_call 12; (first | (with_reducible refine (h1 _).mono ?_) | (with_reducible refine (h2 _).mono ?_)); rintro e w' ⟨rfl, hg⟩))
  go_ret
  exact ⟨rfl, by repeat (first | exact Grown.refl _ | refine grown_last ‹Grown _ _› ?_)⟩
set_option maxHeartbeats 1000000 in
set_option maxRecDepth 100000 in
theorem sign32 : Calls Try.prog 7 #[.int .i64 32, .int .u64 a1, .int .u64 a2] w fun e w' => e = .returned (.bool true) ∧ Grown w w' := by
  have hn : isW 32 = true := by decide
  have hM := fun w => rmay_yes 32 w hn
  have hc1 := fun w => cut_any a1 32 w
  have hc2 := fun w => cut_any (IntKind.u64.wrap (sgnZ a1 32)) 32 w
  rw [sgn_back a1 hn] at hc2
  have hs1 := fun w => sgn_any a1 32 w
  have hs2 := fun w => sgn_any a2 32 w
  have h1 := fun w => do_any 12 32 a1 a2 w
  rw [doC_go a2 hn (by omega) (by omega) (by omega)] at h1
  have h2 := fun w => do_any 9 32 a1 31 w
  rw [doC_go _ hn (by omega) (by omega) (by omega)] at h2
  have r1 : -2147483648 ≤ sgnZ a1 32 := by have h := sgn_range a1 hn; simp [pw] at h; omega
  have r2 : sgnZ a1 32 ≤ 2147483647 := by have h := sgn_range a1 hn; simp [pw] at h; omega
  have q1 : (doV 12 32 a1 a2 == 1) = decide (sgnZ a1 32 < sgnZ a2 32) := slt_one a1 a2 hn
  have q2 : (doV 9 32 a1 31 == 1) = decide (sgnZ a1 32 < 0) := top_one a1 hn
  clear hn
  go_enter Try.func7, Try.ntmps7
  go_wp2_with (first | (go_at_call 11; refine (awake_any _).mono ?_; rintro e w' ⟨rfl, hg⟩) | (go_at_call 15; refine (hM _).mono ?_; rintro e w' ⟨rfl, rfl⟩) | (go_at_call 16; (first | (with_reducible refine (hc1 _).mono ?_) | (with_reducible refine (hc2 _).mono ?_)); rintro e w' ⟨rfl, rfl⟩) | (go_at_call 18; (first | (with_reducible refine (hs1 _).mono ?_) | (with_reducible refine (hs2 _).mono ?_)); rintro e w' ⟨rfl, rfl⟩) | (go_at_call 12; (first | (with_reducible refine (h1 _).mono ?_) | (with_reducible refine (h2 _).mono ?_)); rintro e w' ⟨rfl, hg⟩))
  go_ret
  exact ⟨rfl, by repeat (first | exact Grown.refl _ | refine grown_last ‹Grown _ _› ?_)⟩
set_option maxHeartbeats 1000000 in
set_option maxRecDepth 100000 in
theorem sign64 : Calls Try.prog 7 #[.int .i64 64, .int .u64 a1, .int .u64 a2] w fun e w' => e = .returned (.bool true) ∧ Grown w w' := by
  have hn : isW 64 = true := by decide
  have hM := fun w => rmay_yes 64 w hn
  have hc1 := fun w => cut_any a1 64 w
  have hc2 := fun w => cut_any (IntKind.u64.wrap (sgnZ a1 64)) 64 w
  rw [sgn_back a1 hn] at hc2
  have hs1 := fun w => sgn_any a1 64 w
  have hs2 := fun w => sgn_any a2 64 w
  have h1 := fun w => do_any 12 64 a1 a2 w
  rw [doC_go a2 hn (by omega) (by omega) (by omega)] at h1
  have h2 := fun w => do_any 9 64 a1 63 w
  rw [doC_go _ hn (by omega) (by omega) (by omega)] at h2
  have r1 : -9223372036854775808 ≤ sgnZ a1 64 := by have h := sgn_range a1 hn; simp [pw] at h; omega
  have r2 : sgnZ a1 64 ≤ 9223372036854775807 := by have h := sgn_range a1 hn; simp [pw] at h; omega
  have q1 : (doV 12 64 a1 a2 == 1) = decide (sgnZ a1 64 < sgnZ a2 64) := slt_one a1 a2 hn
  have q2 : (doV 9 64 a1 63 == 1) = decide (sgnZ a1 64 < 0) := top_one a1 hn
  clear hn
  go_enter Try.func7, Try.ntmps7
  go_wp2_with (first | (go_at_call 11; refine (awake_any _).mono ?_; rintro e w' ⟨rfl, hg⟩) | (go_at_call 15; refine (hM _).mono ?_; rintro e w' ⟨rfl, rfl⟩) | (go_at_call 16; (first | (with_reducible refine (hc1 _).mono ?_) | (with_reducible refine (hc2 _).mono ?_)); rintro e w' ⟨rfl, rfl⟩) | (go_at_call 18; (first | (with_reducible refine (hs1 _).mono ?_) | (with_reducible refine (hs2 _).mono ?_)); rintro e w' ⟨rfl, rfl⟩) | (go_at_call 12; (first | (with_reducible refine (h1 _).mono ?_) | (with_reducible refine (h2 _).mono ?_)); rintro e w' ⟨rfl, hg⟩))
  go_ret
  exact ⟨rfl, by repeat (first | exact Grown.refl _ | refine grown_last ‹Grown _ _› ?_)⟩
end

theorem walk (a0 : Int) (a1 : Int) (a2 : Int) (w0 : (Lit.int .i64 a0).wf = true) (w1 : (Lit.int .u64 a1).wf = true) (w2 : (Lit.int .u64 a2).wf = true) (w : World) :
    Calls Try.prog 7 #[.int .i64 a0, .int .u64 a1, .int .u64 a2] w fun e w' => e = .returned (.bool true) ∧ Grown w w' := by
  clear w0 w1 w2
  cases hn : isW a0
  · have hM : ∀ w, Calls Try.prog 15 #[.int .i64 a0] w fun e w' => e = .returned (.bool false) ∧ w = w' := fun w => rmay_no a0 w hn
    have hc := fun w => cut_any a1 a0 w
    rw [cutZ_no a1 hn] at hc
    have hs := fun w => sgn_any a1 a0 w
    have e : sgnZ a1 a0 = 0 := by simp [sgnZ, hn]
    rw [e] at hs
    clear hn e
    go_enter Try.func7, Try.ntmps7
    go_wp2_with (first | (go_at_call 11; refine (awake_any _).mono ?_; rintro e w' ⟨rfl, hg⟩) | (go_at_call 15; refine (hM _).mono ?_; rintro e w' ⟨rfl, rfl⟩) | (go_at_call 18; refine (hs _).mono ?_; rintro e w' ⟨rfl, rfl⟩) | (go_at_call 16; refine (hc _).mono ?_; rintro e w' ⟨rfl, rfl⟩))
    go_ret
    exact ⟨rfl, by assumption⟩
  · rcases isW_cases hn with rfl | rfl | rfl | rfl | rfl
    · exact sign1 a1 a2 w
    · exact sign8 a1 a2 w
    · exact sign16 a1 a2 w
    · exact sign32 a1 a2 w
    · exact sign64 a1 a2 w

set_option maxRecDepth 100000 in
theorem lifted (os : Os) (started : os.Started) (H : Type) (enc : TypeId × Value → H) :
    ReturnsInHanded {} Try.checked os 7 .any (Rows.wordSignsSpec.pre6 enc Try.prog Try.f7 Rows.wordSignsRow.domain false) (Rows.wordSignsSpec.post enc Try.prog Try.f7 false true false false) := by
  refine returnsInHanded_of_change (C := Try.checked) own started (by kernel_rfl) Try.func7
    (ChangeSpec.witness6 (enc := enc) (C := Try.checked) false ⟨#[], #[.int .i64 0, .int .u64 0, .int .u64 0], []⟩ 8 (by kernel_rfl) (by kernel_rfl) (by kernel_rfl) (by kernel_rfl)) ?_
  intro W base args ds gs before hval0 hW hcnd _
  have hval : ∀ (j : Nat) t v, Try.f7.params[j]? = some t → args[j]? = some v → Value.okWide Try.prog W .any base t v := hval0
  have hW' := hW
  obtain ⟨p, q, hA0, hV, rfl, hfz, hnd⟩ := hW
  have hA : DataW.TrodAll enc Try.prog W 0 (fun _ => true) true Try.f7.params.toList args.toList ds p := hA0
  rw [Try.params7] at hA hval
  obtain ⟨v0, vs0, d0, ds0, p0, q0, hargs, rfl, rfl, h0, r0⟩ := trodAll_cons hA
  obtain ⟨v1, vs1, d1, ds1, p1, q1, rfl, rfl, rfl, h1, r1⟩ := trodAll_cons r0
  obtain ⟨v2, vs2, d2, ds2, p2, q2, rfl, rfl, rfl, h2, r2⟩ := trodAll_cons r1
  obtain ⟨rfl, rfl, rfl⟩ := trodAll_nil r2
  obtain rfl : args = #[v0, v1, v2] := by cases args; simp_all
  obtain ⟨rfl, rfl⟩ := trodVars_none hV
  obtain ⟨a0, rfl, rfl, rfl, w0⟩ := open_int Try.underlying3 (hval 0 3 v0 rfl rfl) h0
  obtain ⟨a1, rfl, rfl, rfl, w1⟩ := open_int Try.underlying22 (hval 1 22 v1 rfl rfl) h1
  obtain ⟨a2, rfl, rfl, rfl, w2⟩ := open_int Try.underlying22 (hval 2 22 v2 rfl rfl) h2
  clear hA0 hval0
  simp only [List.append_nil] at hW'
  refine (walk a0 a1 a2 w0 w1 w2 W).mono fun e W' ⟨he, hg⟩ => ?_
  subst he
  exact ⟨_, rfl, post_of_same (pa := []) (pv := []) hW' (fun _ _ _ => (trodAll_cons_mk (shut_bool Try.underlying4 _) trodAll_mk0)) (fun sp _ => (trodAll_cons_mk (shut_int Try.underlying3 w0) (trodAll_cons_mk (shut_int Try.underlying22 w1) (trodAll_cons_mk (shut_int Try.underlying22 w2) trodAll_mk0)))) (fun _ _ => rfl) rfl
    (hg.frame _) hg.2.1 (ok_one (by kernel_rfl) rfl (okWide_bool_mk Try.underlying4 _))⟩

theorem over : Rows.wordSignsRow.holds Try.pinned (OpenSpec.ofChange Rows.wordSignsSpec) :=
  OpenClaim.holds_of_wide 7 Try.f7 rfl rfl rfl rfl rfl rfl rfl ⟨rfl, rfl, rfl, rfl, rfl⟩ rfl rfl rfl rfl rfl (by kernel_rfl) Try.func7 (by kernel_rfl)
    (of_decide_eq_true (by kernel_rfl)) (by unfold Func.isWrapper; first | (rw [if_pos (by decide +kernel)]; kernel_rfl) | (rw [if_neg (by decide +kernel)]; exact ⟨rfl, rfl⟩))
    (fun os started H enc _ => lifted os started H enc)

theorem proved : Rows.WordSignsSaid :=
  over
#print axioms proved
end Go.Proofs.Ytdldcondjidnfaa.wordSigns
