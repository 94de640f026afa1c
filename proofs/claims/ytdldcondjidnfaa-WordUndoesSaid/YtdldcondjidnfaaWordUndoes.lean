/-
  WordUndoes is true for every input: adding and taking away undo one another; a number is its quotient times the divisor, and a rest less than that; each answer is of the width. No condition.
-/
import Derived.Test.YtdldcondjidnfaaRows
import Derived.WalkKit
import Derived.ProofKit
import Derived.OpenShut
import Derived.ShutString
import Derived.Test.YtdldcondjidnfaaDo
import Derived.Test.YtdldcondjidnfaaRefB
import Derived.Test.YtdldcondjidnfaaLaws
import Derived.Test.YtdldcondjidnfaaAid
namespace Go.Proofs.Ytdldcondjidnfaa.wordUndoes
open Go.ChangeShapes Go.WideShapes Go.ChangeAt Go.RowKit
open Go.ChangeMaps (open_string shut_string)
set_option linter.unusedVariables false      -- a walk need not use every 'w<i>' (that an integer argument fits its kind)

theorem own : ownKnob Try.prog.godebug = none := by kernel_rfl

set_option maxHeartbeats 2000000 in
set_option maxRecDepth 100000 in
theorem some0 (a0 a1 a2 : Int) (w : World) (Q R P S : Int) (hb : (cutZ a2 a0 == 0) = false) (hr : R < cutZ a2 a0)
    (hM : ∀ w, Calls Try.prog 15 #[.int .i64 a0] w fun e w' => e = .returned (.bool true) ∧ w = w')
    (hc1 : ∀ w, Calls Try.prog 17 #[.int .u64 a1, .int .i64 a0] w fun e w' => e = .returned (.int .u64 (cutZ a1 a0)) ∧ w = w')
    (hc2 : ∀ w, Calls Try.prog 17 #[.int .u64 a2, .int .i64 a0] w fun e w' => e = .returned (.int .u64 (cutZ a2 a0)) ∧ w = w')
    (h1 : ∀ w, Calls Try.prog 12 #[.int .i64 1, .int .i64 a0, .int .u64 a1, .int .u64 a2] w fun e w' => e = .returned (.tuple #[.int .u64 S, .int .i64 0]) ∧ Grown w w')
    (h2 : ∀ w, Calls Try.prog 12 #[.int .i64 2, .int .i64 a0, .int .u64 S, .int .u64 a2] w fun e w' => e = .returned (.tuple #[.int .u64 (cutZ a1 a0), .int .i64 0]) ∧ Grown w w')
    (h3 : ∀ w, Calls Try.prog 12 #[.int .i64 4, .int .i64 a0, .int .u64 a1, .int .u64 a2] w fun e w' => e = .returned (.tuple #[.int .u64 Q, .int .i64 0]) ∧ Grown w w')
    (h4 : ∀ w, Calls Try.prog 12 #[.int .i64 3, .int .i64 a0, .int .u64 Q, .int .u64 a2] w fun e w' => e = .returned (.tuple #[.int .u64 P, .int .i64 0]) ∧ Grown w w')
    (h5 : ∀ w, Calls Try.prog 12 #[.int .i64 2, .int .i64 a0, .int .u64 a1, .int .u64 P] w fun e w' => e = .returned (.tuple #[.int .u64 R, .int .i64 0]) ∧ Grown w w')
    (hdo : ∀ m : Nat, 1 ≤ m → m ≤ 12 → (∀ w, Calls Try.prog 12 #[.int .i64 m, .int .i64 a0, .int .u64 a1, .int .u64 a2] w fun e w' => e = .returned (.tuple #[.int .u64 (doV m a0 a1 a2), .int .i64 0]) ∧ Grown w w') ∨ (∀ w, Calls Try.prog 12 #[.int .i64 m, .int .i64 a0, .int .u64 a1, .int .u64 a2] w fun e w' => e = .returned (.tuple #[.int .u64 (doV m a0 a1 a2), .int .i64 8]) ∧ Grown w w'))
    (hcut : ∀ (m : Nat) (w : World), Calls Try.prog 17 #[.int .u64 (doV m a0 a1 a2), .int .i64 a0] w fun e w' => e = .returned (.int .u64 (doV m a0 a1 a2)) ∧ w = w')
    (hone : ∀ m : Nat, (10 : Int) ≤ m → doV m a0 a1 a2 ≤ 1) :
    Calls Try.prog 5 #[.int .i64 a0, .int .u64 a1, .int .u64 a2] w fun e w' => e = .returned (.bool true) ∧ Grown w w' := by
  have HD := Lib.hid hdo
  have HC := Lib.hid hcut
  have HO := Lib.hid hone
  clear hdo hcut hone
  go_enter Try.func5, Try.ntmps5
  go_wp2_with (first | (go_at_call 11; refine (awake_any _).mono ?_; rintro e w' ⟨rfl, hg⟩) | (go_at_call 15; refine (hM _).mono ?_; rintro e w' ⟨rfl, rfl⟩) | (go_at_call 17; (first | (with_reducible refine (hc1 _).mono ?_) | (with_reducible refine (hc2 _).mono ?_)); rintro e w' ⟨rfl, rfl⟩) | (go_at_call 12; (first | (with_reducible refine (h1 _).mono ?_) | (with_reducible refine (h2 _).mono ?_) | (with_reducible refine (h3 _).mono ?_) | (with_reducible refine (h4 _).mono ?_) | (with_reducible refine (h5 _).mono ?_)); rintro e w' ⟨rfl, hg⟩))
  have hdo := HD.out
  have hcut := HC.out
  have hone := HO.out
  clear HD HC HO
  go_loopw [17] (fun k wr => ∃ m : Nat, 1 ≤ m ∧ m ≤ 13 ∧ k = .int .i64 m ∧ Grown w wr) (fun k _ => 13 - (intOf k).toNat)
  case atStart => exact ⟨1, by omega, by omega, rfl, by repeat (first | exact Grown.refl _ | refine grown_last ‹Grown _ _› ?_)⟩
  case round =>
    obtain ⟨m, hm1, hm2, rfl, hgr⟩ := hrel
    by_cases hlt : m ≤ 12
    · have hk := hdo m hm1 hlt
      have hcm := hcut m
      have hle := hone m
      clear hdo hcut hone h1 h2 h3 h4 h5 hM hc1 hc2
      rcases hk with hk | hk
      all_goals
        by_cases h10 : (10 : Int) ≤ m
        all_goals
          have hle' : (10 : Int) ≤ m → doV m a0 a1 a2 ≤ 1 := hle
          (first | (have hle2 := hle h10; clear hle hle') | clear hle hle')
          go_wp2_with (first | (go_at_call 12; refine (hk _).mono ?_; rintro e w' ⟨rfl, hg⟩) | (go_at_call 17; refine (hcm _).mono ?_; rintro e w' ⟨rfl, rfl⟩))
          go_roundw
          case rel => exact ⟨m + 1, by omega, by omega, by go_num, by repeat (first | exact Grown.refl _ | refine grown_last ‹Grown _ _› ?_)⟩
          case measure => simp [intOf]; omega
    · clear hdo hcut hone h1 h2 h3 h4 h5 hM hc1 hc2
      go_wp2
      go_ret
      exact ⟨rfl, hgr⟩
set_option maxHeartbeats 2000000 in
set_option maxRecDepth 100000 in
theorem none0 (a0 a1 a2 : Int) (w : World) (Q R P S : Int) (_hq : Q = 0)
    (hM : ∀ w, Calls Try.prog 15 #[.int .i64 a0] w fun e w' => e = .returned (.bool true) ∧ w = w')
    (hc1 : ∀ w, Calls Try.prog 17 #[.int .u64 a1, .int .i64 a0] w fun e w' => e = .returned (.int .u64 (cutZ a1 a0)) ∧ w = w')
    (hc2 : ∀ w, Calls Try.prog 17 #[.int .u64 a2, .int .i64 a0] w fun e w' => e = .returned (.int .u64 0) ∧ w = w')
    (h1 : ∀ w, Calls Try.prog 12 #[.int .i64 1, .int .i64 a0, .int .u64 a1, .int .u64 a2] w fun e w' => e = .returned (.tuple #[.int .u64 S, .int .i64 0]) ∧ Grown w w')
    (h2 : ∀ w, Calls Try.prog 12 #[.int .i64 2, .int .i64 a0, .int .u64 S, .int .u64 a2] w fun e w' => e = .returned (.tuple #[.int .u64 (cutZ a1 a0), .int .i64 0]) ∧ Grown w w')
    (h3 : ∀ w, Calls Try.prog 12 #[.int .i64 4, .int .i64 a0, .int .u64 a1, .int .u64 a2] w fun e w' => e = .returned (.tuple #[.int .u64 0, .int .i64 8]) ∧ Grown w w')
    (h4 : ∀ w, Calls Try.prog 12 #[.int .i64 3, .int .i64 a0, .int .u64 0, .int .u64 a2] w fun e w' => e = .returned (.tuple #[.int .u64 P, .int .i64 0]) ∧ Grown w w')
    (h5 : ∀ w, Calls Try.prog 12 #[.int .i64 2, .int .i64 a0, .int .u64 a1, .int .u64 P] w fun e w' => e = .returned (.tuple #[.int .u64 R, .int .i64 0]) ∧ Grown w w')
    (hdo : ∀ m : Nat, 1 ≤ m → m ≤ 12 → (∀ w, Calls Try.prog 12 #[.int .i64 m, .int .i64 a0, .int .u64 a1, .int .u64 a2] w fun e w' => e = .returned (.tuple #[.int .u64 (doV m a0 a1 a2), .int .i64 0]) ∧ Grown w w') ∨ (∀ w, Calls Try.prog 12 #[.int .i64 m, .int .i64 a0, .int .u64 a1, .int .u64 a2] w fun e w' => e = .returned (.tuple #[.int .u64 (doV m a0 a1 a2), .int .i64 8]) ∧ Grown w w'))
    (hcut : ∀ (m : Nat) (w : World), Calls Try.prog 17 #[.int .u64 (doV m a0 a1 a2), .int .i64 a0] w fun e w' => e = .returned (.int .u64 (doV m a0 a1 a2)) ∧ w = w')
    (hone : ∀ m : Nat, (10 : Int) ≤ m → doV m a0 a1 a2 ≤ 1) :
    Calls Try.prog 5 #[.int .i64 a0, .int .u64 a1, .int .u64 a2] w fun e w' => e = .returned (.bool true) ∧ Grown w w' := by
  have HD := Lib.hid hdo
  have HC := Lib.hid hcut
  have HO := Lib.hid hone
  clear hdo hcut hone
  go_enter Try.func5, Try.ntmps5
  go_wp2_with (first | (go_at_call 11; refine (awake_any _).mono ?_; rintro e w' ⟨rfl, hg⟩) | (go_at_call 15; refine (hM _).mono ?_; rintro e w' ⟨rfl, rfl⟩) | (go_at_call 17; (first | (with_reducible refine (hc1 _).mono ?_) | (with_reducible refine (hc2 _).mono ?_)); rintro e w' ⟨rfl, rfl⟩) | (go_at_call 12; (first | (with_reducible refine (h1 _).mono ?_) | (with_reducible refine (h2 _).mono ?_) | (with_reducible refine (h3 _).mono ?_) | (with_reducible refine (h4 _).mono ?_) | (with_reducible refine (h5 _).mono ?_)); rintro e w' ⟨rfl, hg⟩))
  have hdo := HD.out
  have hcut := HC.out
  have hone := HO.out
  clear HD HC HO
  go_loopw [17] (fun k wr => ∃ m : Nat, 1 ≤ m ∧ m ≤ 13 ∧ k = .int .i64 m ∧ Grown w wr) (fun k _ => 13 - (intOf k).toNat)
  case atStart => exact ⟨1, by omega, by omega, rfl, by repeat (first | exact Grown.refl _ | refine grown_last ‹Grown _ _› ?_)⟩
  case round =>
    obtain ⟨m, hm1, hm2, rfl, hgr⟩ := hrel
    by_cases hlt : m ≤ 12
    · have hk := hdo m hm1 hlt
      have hcm := hcut m
      have hle := hone m
      clear hdo hcut hone h1 h2 h3 h4 h5 hM hc1 hc2
      rcases hk with hk | hk
      all_goals
        by_cases h10 : (10 : Int) ≤ m
        all_goals
          have hle' : (10 : Int) ≤ m → doV m a0 a1 a2 ≤ 1 := hle
          (first | (have hle2 := hle h10; clear hle hle') | clear hle hle')
          go_wp2_with (first | (go_at_call 12; refine (hk _).mono ?_; rintro e w' ⟨rfl, hg⟩) | (go_at_call 17; refine (hcm _).mono ?_; rintro e w' ⟨rfl, rfl⟩))
          go_roundw
          case rel => exact ⟨m + 1, by omega, by omega, by go_num, by repeat (first | exact Grown.refl _ | refine grown_last ‹Grown _ _› ?_)⟩
          case measure => simp [intOf]; omega
    · clear hdo hcut hone h1 h2 h3 h4 h5 hM hc1 hc2
      go_wp2
      go_ret
      exact ⟨rfl, hgr⟩
theorem walk (a0 : Int) (a1 : Int) (a2 : Int) (w0 : (Lit.int .i64 a0).wf = true) (w1 : (Lit.int .u64 a1).wf = true) (w2 : (Lit.int .u64 a2).wf = true) (w : World) :
    Calls Try.prog 5 #[.int .i64 a0, .int .u64 a1, .int .u64 a2] w fun e w' => e = .returned (.bool true) ∧ Grown w w' := by
  obtain ⟨u0, u1⟩ := u64_bd w1
  obtain ⟨v0, v1⟩ := u64_bd w2
  clear w0 w1 w2
  cases hn : isW a0
  · have hM : ∀ w, Calls Try.prog 15 #[.int .i64 a0] w fun e w' => e = .returned (.bool false) ∧ w = w' := fun w => rmay_no a0 w hn
    have hT := fun w => two_any 1 a0 w
    have e : isTwo 1 a0 = false := by simp [isTwo, hn]
    rw [e] at hT
    clear hn e u0 u1 v0 v1
    go_enter Try.func5, Try.ntmps5
    go_wp2_with (first | (go_at_call 11; refine (awake_any _).mono ?_; rintro e w' ⟨rfl, hg⟩) | (go_at_call 15; refine (hM _).mono ?_; rintro e w' ⟨rfl, rfl⟩) | (go_at_call 20; refine (hT _).mono ?_; rintro e w' ⟨rfl, rfl⟩))
    go_ret
    exact ⟨rfl, by assumption⟩
  · have hM := fun w => rmay_yes a0 w hn
    have hc1 := fun w => rcut_any a1 a0 w u0 u1
    have hc2 := fun w => rcut_any a2 a0 w v0 v1
    have h1 := fun w => do_any 1 a0 a1 a2 w
    rw [doC_go a2 hn (by omega) (by omega) (by omega)] at h1
    have h2 := fun w => do_any 2 a0 (doV 1 a0 a1 a2) a2 w
    rw [doC_go a2 hn (by omega) (by omega) (by omega), add_sub a1 a2 hn] at h2
    have h3 := fun w => do_any 4 a0 a1 a2 w
    have hcut : ∀ (m : Nat) (w : World), Calls Try.prog 17 #[.int .u64 (doV m a0 a1 a2), .int .i64 a0] w fun e w' => e = .returned (.int .u64 (doV m a0 a1 a2)) ∧ w = w' := fun m w => by
      have h := rcut_any (doV m a0 a1 a2) a0 w (by rw [← doV_cut m a0 a1 a2 hn]; exact cutZ_nonneg _ _) (by rw [← doV_cut m a0 a1 a2 hn]; exact cutZ_lt64 _ _)
      rwa [doV_cut _ _ _ _ hn] at h
    have hone : ∀ m : Nat, (10 : Int) ≤ m → doV m a0 a1 a2 ≤ 1 := fun m h => truth_le a1 a2 h
    by_cases hb : cutZ a2 a0 = 0
    · obtain ⟨e1, e2⟩ := div_no a1 a2 hn hb
      have hdo : ∀ m : Nat, 1 ≤ m → m ≤ 12 → (∀ w, Calls Try.prog 12 #[.int .i64 m, .int .i64 a0, .int .u64 a1, .int .u64 a2] w fun e w' => e = .returned (.tuple #[.int .u64 (doV m a0 a1 a2), .int .i64 0]) ∧ Grown w w') ∨ (∀ w, Calls Try.prog 12 #[.int .i64 m, .int .i64 a0, .int .u64 a1, .int .u64 a2] w fun e w' => e = .returned (.tuple #[.int .u64 (doV m a0 a1 a2), .int .i64 8]) ∧ Grown w w') := fun m x y => by
        by_cases h4 : m = 4
        · subst h4
          refine Or.inr fun w => ?_
          have h := do_any 4 a0 a1 a2 w
          rw [e2] at h
          exact h
        · refine Or.inl fun w => ?_
          have h := do_any m a0 a1 a2 w
          rwa [doC_go a2 hn (by omega) (by omega) (by omega)] at h
      rw [e1, e2] at h3
      have h4 := fun w => do_any 3 a0 0 a2 w
      rw [doC_go a2 hn (by omega) (by omega) (by omega)] at h4
      have h5 := fun w => do_any 2 a0 a1 (doV 3 a0 0 a2) w
      rw [doC_go _ hn (by omega) (by omega) (by omega)] at h5
      rw [hb] at hc2
      exact none0 a0 a1 a2 w 0 _ _ _ rfl hM hc1 hc2 h1 h2 h3 h4 h5 hdo hcut hone
    · obtain ⟨e1, e2⟩ := div_go a1 a2 hn hb
      have hdo : ∀ m : Nat, 1 ≤ m → m ≤ 12 → (∀ w, Calls Try.prog 12 #[.int .i64 m, .int .i64 a0, .int .u64 a1, .int .u64 a2] w fun e w' => e = .returned (.tuple #[.int .u64 (doV m a0 a1 a2), .int .i64 0]) ∧ Grown w w') ∨ (∀ w, Calls Try.prog 12 #[.int .i64 m, .int .i64 a0, .int .u64 a1, .int .u64 a2] w fun e w' => e = .returned (.tuple #[.int .u64 (doV m a0 a1 a2), .int .i64 8]) ∧ Grown w w') := fun m x y => by
        refine Or.inl fun w => ?_
        by_cases h4 : m = 4
        · subst h4
          have h := do_any 4 a0 a1 a2 w
          rw [e2] at h
          exact h
        · have h := do_any m a0 a1 a2 w
          rwa [doC_go a2 hn (by omega) (by omega) (by omega)] at h
      rw [e2] at h3
      have h4 := fun w => do_any 3 a0 (doV 4 a0 a1 a2) a2 w
      rw [doC_go a2 hn (by omega) (by omega) (by omega)] at h4
      have h5 := fun w => do_any 2 a0 a1 (doV 3 a0 (doV 4 a0 a1 a2) a2) w
      rw [doC_go _ hn (by omega) (by omega) (by omega)] at h5
      exact some0 a0 a1 a2 w _ _ _ _ (by simpa using hb) (rest_lt a1 a2 hn hb) hM hc1 hc2 h1 h2 h3 h4 h5 hdo hcut hone

set_option maxRecDepth 100000 in
theorem lifted (os : Os) (started : os.Started) (H : Type) (enc : TypeId × Value → H) :
    ReturnsInHanded {} Try.checked os 5 .any (Rows.wordUndoesSpec.pre6 enc Try.prog Try.f5 Rows.wordUndoesRow.domain false) (Rows.wordUndoesSpec.post enc Try.prog Try.f5 false true false false) := by
  refine returnsInHanded_of_change (C := Try.checked) own started (by kernel_rfl) Try.func5
    (ChangeSpec.witness6 (enc := enc) (C := Try.checked) false ⟨#[], #[.int .i64 0, .int .u64 0, .int .u64 0], []⟩ 8 (by kernel_rfl) (by kernel_rfl) (by kernel_rfl) (by kernel_rfl)) ?_
  intro W base args ds gs before hval0 hW hcnd _
  have hval : ∀ (j : Nat) t v, Try.f5.params[j]? = some t → args[j]? = some v → Value.okWide Try.prog W .any base t v := hval0
  have hW' := hW
  obtain ⟨p, q, hA0, hV, rfl, hfz, hnd⟩ := hW
  have hA : DataW.TrodAll enc Try.prog W 0 (fun _ => true) true Try.f5.params.toList args.toList ds p := hA0
  rw [Try.params5] at hA hval
  obtain ⟨v0, vs0, d0, ds0, p0, q0, hargs, rfl, rfl, h0, r0⟩ := trodAll_cons hA
  obtain ⟨v1, vs1, d1, ds1, p1, q1, rfl, rfl, rfl, h1, r1⟩ := trodAll_cons r0
  obtain ⟨v2, vs2, d2, ds2, p2, q2, rfl, rfl, rfl, h2, r2⟩ := trodAll_cons r1
  obtain ⟨rfl, rfl, rfl⟩ := trodAll_nil r2
  obtain rfl : args = #[v0, v1, v2] := by cases args; simp_all
  obtain ⟨rfl, rfl⟩ := trodVars_none hV
  obtain ⟨a0, rfl, rfl, rfl, w0⟩ := open_int Try.underlying3 (hval 0 3 v0 rfl rfl) h0
  obtain ⟨a1, rfl, rfl, rfl, w1⟩ := open_int Try.underlying22 (hval 1 22 v1 rfl rfl) h1
  obtain ⟨a2, rfl, rfl, rfl, w2⟩ := open_int Try.underlying22 (hval 2 22 v2 rfl rfl) h2
  clear hA0 hval0
  simp only [List.append_nil] at hW'
  refine (walk a0 a1 a2 w0 w1 w2 W).mono fun e W' ⟨he, hg⟩ => ?_
  subst he
  exact ⟨_, rfl, post_of_same (pa := []) (pv := []) hW' (fun _ _ _ => (trodAll_cons_mk (shut_bool Try.underlying4 _) trodAll_mk0)) (fun sp _ => (trodAll_cons_mk (shut_int Try.underlying3 w0) (trodAll_cons_mk (shut_int Try.underlying22 w1) (trodAll_cons_mk (shut_int Try.underlying22 w2) trodAll_mk0)))) (fun _ _ => rfl) rfl
    (hg.frame _) hg.2.1 (ok_one (by kernel_rfl) rfl (okWide_bool_mk Try.underlying4 _))⟩

theorem over : Rows.wordUndoesRow.holds Try.pinned (OpenSpec.ofChange Rows.wordUndoesSpec) :=
  OpenClaim.holds_of_wide 5 Try.f5 rfl rfl rfl rfl rfl rfl rfl ⟨rfl, rfl, rfl, rfl, rfl⟩ rfl rfl rfl rfl rfl (by kernel_rfl) Try.func5 (by kernel_rfl)
    (of_decide_eq_true (by kernel_rfl)) (by unfold Func.isWrapper; first | (rw [if_pos (by decide +kernel)]; kernel_rfl) | (rw [if_neg (by decide +kernel)]; exact ⟨rfl, rfl⟩))
    (fun os started H enc _ => lifted os started H enc)

theorem proved : Rows.WordUndoesSaid :=
  over
#print axioms proved
end Go.Proofs.Ytdldcondjidnfaa.wordUndoes
