/-
  The program's Do: for every kind, width and numbers it answers what 'doV', 'doC' say; what the laws ask first ('awake') is so.
-/
import Derived.Test.YtdldcondjidnfaaWordC
namespace Go.Proofs.Ytdldcondjidnfaa
open Go.RowKit
theorem u64_bd {a : Int} (h : (Lit.int .u64 a).wf = true) : 0 ≤ a ∧ a < 18446744073709551616 := by
  simp [Lit.wf, IntKind.min, IntKind.max, IntKind.bits, IntKind.signed] at h
  omega
theorem i64_bd {a : Int} (h : (Lit.int .i64 a).wf = true) : -9223372036854775808 ≤ a ∧ a < 9223372036854775808 := by
  simp [Lit.wf, IntKind.min, IntKind.max, IntKind.bits, IntKind.signed] at h
  omega
theorem do_any (k n a b : Int) (w : World) :
    Calls Try.prog 12 #[.int .i64 k, .int .i64 n, .int .u64 a, .int .u64 b] w fun e w' => e = .returned (.tuple #[.int .u64 (doV k n a b), .int .i64 (doC k n b)]) ∧ Grown w w' := by
  cases ht : isTwo k n
  · have e1 : doV k n a b = 0 := by simp [doV, ht]
    have e2 : doC k n b = 1 := by simp [doC, ht]
    rw [e1, e2]
    have hT : ∀ w, Calls Try.prog 20 #[.int .i64 k, .int .i64 n] w fun e w' => e = .returned (.bool false) ∧ w = w' := fun w => by rw [← ht]; exact two_any k n w
    clear e1 e2 ht
    go_enter Try.func12, Try.ntmps12
    go_wp2_with (go_at_call 20; refine (hT _).mono ?_; rintro e w' ⟨rfl, rfl⟩)
    go_ret2
    exact ⟨rfl, Grown.refl _⟩
  · have hT : ∀ w, Calls Try.prog 20 #[.int .i64 k, .int .i64 n] w fun e w' => e = .returned (.bool true) ∧ w = w' := fun w => by rw [← ht]; exact two_any k n w
    obtain ⟨k1, k2, hn⟩ := isTwo_yes ht
    have h64 := pw_le n
    obtain ⟨A0, A1⟩ := cutZ_range a hn
    obtain ⟨B0, B1⟩ := cutZ_range b hn
    by_cases hz : k = 4 ∧ cutZ b n = 0
    · obtain ⟨rfl, hz⟩ := hz
      have e1 : doV 4 n a b = 0 := by simp [doV, ht, trap, hz]
      have e2 : doC 4 n b = 8 := by simp [doC, ht, trap, hz]
      rw [e1, e2]
      have hB : ∀ w, Calls Try.prog 16 #[.int .u64 b, .int .i64 n] w fun e w' => e = .returned (.int .u64 0) ∧ w = w' := fun w => by rw [← hz]; exact cut_any b n w
      have hA := fun w => cut_any a n w
      clear e1 e2 ht hz A0 A1 B0 B1 h64
      go_enter Try.func12, Try.ntmps12
      go_wp2_with (first | (go_at_call 20; refine (hT _).mono ?_; rintro e w' ⟨rfl, rfl⟩) | (go_at_call 16; (first | (with_reducible refine (hB _).mono ?_) | (with_reducible refine (hA _).mono ?_)); rintro e w' ⟨rfl, rfl⟩))
      go_ret2
      exact ⟨rfl, Grown.refl _⟩
    · have hp : trap k n b = false := by
        simp only [trap, Bool.and_eq_false_iff, beq_eq_false_iff_ne]
        by_cases k4 : k = 4
        · exact Or.inr fun h => hz ⟨k4, h⟩
        · exact Or.inl k4
      have e1 : doV k n a b = cutZ (apZ k n (cutZ a n) (cutZ b n)) n := by rw [cut_ap hn k1 k2 A0 A1 B0 B1]; simp [doV, ht, hp]
      have e2 : doC k n b = 0 := by simp [doC, ht, hp]
      rw [e1, e2]
      have hP := fun w => ap_any k n (cutZ a n) (cutZ b n) w hn k1 k2 A0 (by omega) B0 (by omega) (by omega)
      have hA := fun w => cut_any a n w
      have hB := fun w => cut_any b n w
      have hC := fun w => cut_any (apZ k n (cutZ a n) (cutZ b n)) n w
      by_cases k4 : k = 4
      · subst k4
        have hz1 : (cutZ b n == 0) = false := by simp; omega
        clear e1 e2 ht hz A0 A1 B0 B1 h64 k1 k2 hp
        go_enter Try.func12, Try.ntmps12
        go_wp2_with (first | (go_at_call 20; refine (hT _).mono ?_; rintro e w' ⟨rfl, rfl⟩) | (go_at_call 16; (first | (with_reducible refine (hB _).mono ?_) | (with_reducible refine (hA _).mono ?_) | (with_reducible refine (hC _).mono ?_)); rintro e w' ⟨rfl, rfl⟩) | (go_at_call 23; refine (hP _).mono ?_; rintro e w' ⟨rfl, hg⟩))
        go_ret2
        exact ⟨rfl, hg⟩
      · have k4' : (k == 4) = false := by simpa using k4
        clear e1 e2 ht hz A0 A1 B0 B1 h64 k1 k2 hp k4
        go_enter Try.func12, Try.ntmps12
        go_wp2_with (first | (go_at_call 20; refine (hT _).mono ?_; rintro e w' ⟨rfl, rfl⟩) | (go_at_call 16; (first | (with_reducible refine (hB _).mono ?_) | (with_reducible refine (hA _).mono ?_) | (with_reducible refine (hC _).mono ?_)); rintro e w' ⟨rfl, rfl⟩) | (go_at_call 23; refine (hP _).mono ?_; rintro e w' ⟨rfl, hg⟩))
        go_ret2
        exact ⟨rfl, by assumption⟩

theorem awake_any (w : World) : Calls Try.prog 11 #[] w fun e w' => e = .returned (.bool true) ∧ Grown w w' := by
  have h1 : ∀ w, Calls Try.prog 12 #[.int .i64 1, .int .i64 8, .int .u64 200, .int .u64 100] w fun e w' => e = .returned (.tuple #[.int .u64 44, .int .i64 0]) ∧ Grown w w' := fun w => do_any 1 8 200 100 w
  have h2 : ∀ w, Calls Try.prog 12 #[.int .i64 12, .int .i64 8, .int .u64 200, .int .u64 100] w fun e w' => e = .returned (.tuple #[.int .u64 1, .int .i64 0]) ∧ Grown w w' := fun w => do_any 12 8 200 100 w
  have h3 : ∀ w, Calls Try.prog 12 #[.int .i64 4, .int .i64 8, .int .u64 200, .int .u64 256] w fun e w' => e = .returned (.tuple #[.int .u64 0, .int .i64 8]) ∧ Grown w w' := fun w => do_any 4 8 200 256 w
  have h4 : ∀ w, Calls Try.prog 18 #[.int .u64 200, .int .i64 8] w fun e w' => e = .returned (.int .i64 (-56)) ∧ w = w' := fun w => sgn_any 200 8 w
  have h5 : ∀ w, Calls Try.prog 16 #[.int .u64 300, .int .i64 8] w fun e w' => e = .returned (.int .u64 44) ∧ w = w' := fun w => cut_any 300 8 w
  go_enter Try.func11, Try.ntmps11
  go_wp2_with (first | (go_at_call 12; (first | (with_reducible refine (h1 _).mono ?_) | (with_reducible refine (h2 _).mono ?_) | (with_reducible refine (h3 _).mono ?_)); rintro e w' ⟨rfl, hg⟩) | (go_at_call 18; refine (h4 _).mono ?_; rintro e w' ⟨rfl, rfl⟩) | (go_at_call 16; refine (h5 _).mono ?_; rintro e w' ⟨rfl, rfl⟩))
  go_ret
  exact ⟨rfl, grown_trans (grown_trans ‹Grown w _› ‹Grown _ _›) ‹Grown _ _›⟩
end Go.Proofs.Ytdldcondjidnfaa
