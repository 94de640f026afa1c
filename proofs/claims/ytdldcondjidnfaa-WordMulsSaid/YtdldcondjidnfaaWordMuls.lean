/-
  WordMuls is true for every input: times two is added to itself, and shifted by one; times a sum is the sum of times. No condition.
-/
import Derived.Test.YtdldcondjidnfaaRows
import Derived.WalkKit
import Derived.ProofKit
import Derived.OpenShut
import Derived.ShutString
import Derived.Test.YtdldcondjidnfaaDo
import Derived.Test.YtdldcondjidnfaaRefB
import Derived.Test.YtdldcondjidnfaaLaws
namespace Go.Proofs.Ytdldcondjidnfaa.wordMuls
open Go.ChangeShapes Go.WideShapes Go.ChangeAt Go.RowKit
open Go.ChangeMaps (open_string shut_string)
set_option linter.unusedVariables false      -- a walk need not use every 'w<i>' (that an integer argument fits its kind)

theorem own : ownKnob Try.prog.godebug = none := by kernel_rfl

theorem grown_last {a b c : World} (g : Grown b c) (h : Grown a b) : Grown a c := grown_trans h g
set_option maxHeartbeats 1000000 in
set_option maxRecDepth 100000 in
theorem walk (a0 : Int) (a1 : Int) (a2 : Int) (w0 : (Lit.int .i64 a0).wf = true) (w1 : (Lit.int .u64 a1).wf = true) (w2 : (Lit.int .u64 a2).wf = true) (w : World) :
    Calls Try.prog 10 #[.int .i64 a0, .int .u64 a1, .int .u64 a2] w fun e w' => e = .returned (.bool true) ∧ Grown w w' := by
  clear w0 w1 w2
  cases hn : isW a0
  · have hM : ∀ w, Calls Try.prog 15 #[.int .i64 a0] w fun e w' => e = .returned (.bool false) ∧ w = w' := fun w => rmay_no a0 w hn
    clear hn
    go_enter Try.func10, Try.ntmps10
    go_wp2_with (first | (go_at_call 11; refine (awake_any _).mono ?_; rintro e w' ⟨rfl, hg⟩) | (go_at_call 15; refine (hM _).mono ?_; rintro e w' ⟨rfl, rfl⟩))
    go_ret
    exact ⟨rfl, by assumption⟩
  · have hM : ∀ w, Calls Try.prog 15 #[.int .i64 a0] w fun e w' => e = .returned (.bool true) ∧ w = w' := fun w => rmay_yes a0 w hn
    have hc1 := fun w => cut_any 1 a0 w
    have hc2 := fun w => cut_any 2 a0 w
    have h1 := fun w => do_any 1 a0 a1 a1 w
    have h2 := fun w => do_any 3 a0 a1 (cutZ 2 a0) w
    rw [mul_two a1 hn] at h2
    have h4 := fun w => do_any 1 a0 a2 (cutZ 1 a0) w
    have h5 := fun w => do_any 3 a0 a1 (doV 1 a0 a2 (cutZ 1 a0)) w
    rw [mul_sum a1 a2 hn] at h5
    have h6 := fun w => do_any 3 a0 a1 a2 w
    have h7 := fun w => do_any 1 a0 (doV 3 a0 a1 a2) a1 w
    have h3 := fun w => do_any 8 a0 a1 (cutZ 1 a0) w
    by_cases hone : a0 = 1
    · clear hn
      have g : ¬ 1 < a0 := by omega
      clear hone
      go_enter Try.func10, Try.ntmps10
      go_wp2_with (first | (go_at_call 11; refine (awake_any _).mono ?_; rintro e w' ⟨rfl, hg⟩) | (go_at_call 15; refine (hM _).mono ?_; rintro e w' ⟨rfl, rfl⟩) | (go_at_call 16; (first | (with_reducible refine (hc1 _).mono ?_) | (with_reducible refine (hc2 _).mono ?_)); rintro e w' ⟨rfl, rfl⟩) | (go_at_call 12; (first | (with_reducible refine (h1 _).mono ?_) | (with_reducible refine (h2 _).mono ?_) | (with_reducible refine (h3 _).mono ?_) | (with_reducible refine (h4 _).mono ?_) | (with_reducible refine (h5 _).mono ?_) | (with_reducible refine (h6 _).mono ?_) | (with_reducible refine (h7 _).mono ?_)); rintro e w' ⟨rfl, hg⟩))
      go_ret
      exact ⟨rfl, by repeat (first | exact Grown.refl _ | refine grown_last ‹Grown _ _› ?_)⟩
    · rw [shl_one a1 hn hone] at h3
      have g : 1 < a0 := by have := isW_range hn; omega
      clear hn hone
      go_enter Try.func10, Try.ntmps10
      go_wp2_with (first | (go_at_call 11; refine (awake_any _).mono ?_; rintro e w' ⟨rfl, hg⟩) | (go_at_call 15; refine (hM _).mono ?_; rintro e w' ⟨rfl, rfl⟩) | (go_at_call 16; (first | (with_reducible refine (hc1 _).mono ?_) | (with_reducible refine (hc2 _).mono ?_)); rintro e w' ⟨rfl, rfl⟩) | (go_at_call 12; (first | (with_reducible refine (h1 _).mono ?_) | (with_reducible refine (h2 _).mono ?_) | (with_reducible refine (h3 _).mono ?_) | (with_reducible refine (h4 _).mono ?_) | (with_reducible refine (h5 _).mono ?_) | (with_reducible refine (h6 _).mono ?_) | (with_reducible refine (h7 _).mono ?_)); rintro e w' ⟨rfl, hg⟩))
      go_ret
      exact ⟨rfl, by repeat (first | exact Grown.refl _ | refine grown_last ‹Grown _ _› ?_)⟩

set_option maxRecDepth 100000 in
theorem lifted (os : Os) (started : os.Started) (H : Type) (enc : TypeId × Value → H) :
    ReturnsInHanded {} Try.checked os 10 .any (Rows.wordMulsSpec.pre6 enc Try.prog Try.f10 Rows.wordMulsRow.domain false) (Rows.wordMulsSpec.post enc Try.prog Try.f10 false true false false) := by
  refine returnsInHanded_of_change (C := Try.checked) own started (by kernel_rfl) Try.func10
    (ChangeSpec.witness6 (enc := enc) (C := Try.checked) false ⟨#[], #[.int .i64 0, .int .u64 0, .int .u64 0], []⟩ 8 (by kernel_rfl) (by kernel_rfl) (by kernel_rfl) (by kernel_rfl)) ?_
  intro W base args ds gs before hval0 hW hcnd _
  have hval : ∀ (j : Nat) t v, Try.f10.params[j]? = some t → args[j]? = some v → Value.okWide Try.prog W .any base t v := hval0
  have hW' := hW
  obtain ⟨p, q, hA0, hV, rfl, hfz, hnd⟩ := hW
  have hA : DataW.TrodAll enc Try.prog W 0 (fun _ => true) true Try.f10.params.toList args.toList ds p := hA0
  rw [Try.params10] at hA hval
  obtain ⟨v0, vs0, d0, ds0, p0, q0, hargs, rfl, rfl, h0, r0⟩ := trodAll_cons hA
  obtain ⟨v1, vs1, d1, ds1, p1, q1, rfl, rfl, rfl, h1, r1⟩ := trodAll_cons r0
  obtain ⟨v2, vs2, d2, ds2, p2, q2, rfl, rfl, rfl, h2, r2⟩ := trodAll_cons r1
  obtain ⟨rfl, rfl, rfl⟩ := trodAll_nil r2
  obtain rfl : args = #[v0, v1, v2] := by cases args; simp_all
  obtain ⟨rfl, rfl⟩ := trodVars_none hV
  obtain ⟨a0, rfl, rfl, rfl, w0⟩ := open_int Try.underlying3 (hval 0 3 v0 rfl rfl) h0
  obtain ⟨a1, rfl, rfl, rfl, w1⟩ := open_int Try.underlying22 (hval 1 22 v1 rfl rfl) h1
  obtain ⟨a2, rfl, rfl, rfl, w2⟩ := open_int Try.underlying22 (hval 2 22 v2 rfl rfl) h2
  clear hA0 hval0
  simp only [List.append_nil] at hW'
  refine (walk a0 a1 a2 w0 w1 w2 W).mono fun e W' ⟨he, hg⟩ => ?_
  subst he
  exact ⟨_, rfl, post_of_same (pa := []) (pv := []) hW' (fun _ _ _ => (trodAll_cons_mk (shut_bool Try.underlying4 _) trodAll_mk0)) (fun sp _ => (trodAll_cons_mk (shut_int Try.underlying3 w0) (trodAll_cons_mk (shut_int Try.underlying22 w1) (trodAll_cons_mk (shut_int Try.underlying22 w2) trodAll_mk0)))) (fun _ _ => rfl) rfl
    (hg.frame _) hg.2.1 (ok_one (by kernel_rfl) rfl (okWide_bool_mk Try.underlying4 _))⟩

theorem over : Rows.wordMulsRow.holds Try.pinned (OpenSpec.ofChange Rows.wordMulsSpec) :=
  OpenClaim.holds_of_wide 10 Try.f10 rfl rfl rfl rfl rfl rfl rfl ⟨rfl, rfl, rfl, rfl, rfl⟩ rfl rfl rfl rfl rfl (by kernel_rfl) Try.func10 (by kernel_rfl)
    (of_decide_eq_true (by kernel_rfl)) (by unfold Func.isWrapper; first | (rw [if_pos (by decide +kernel)]; kernel_rfl) | (rw [if_neg (by decide +kernel)]; exact ⟨rfl, rfl⟩))
    (fun os started H enc _ => lifted os started H enc)

theorem proved : Rows.WordMulsSaid :=
  over
#print axioms proved
end Go.Proofs.Ytdldcondjidnfaa.wordMuls
