/-
  Contracts of layer word's functions, and of the document's own answers, for every input.
-/
import Derived.Test.YtdldcondjidnfaaProg
import Derived.Test.YtdldcondjidnfaaPlain
import Derived.WalkKit
import Derived.WalkLawsBesides
import Derived.Laws.EntriesVeiled
import Derived.BigQuiet
import Derived.Deep.QuietTactic
import Derived.Lib.Hide
import Derived.OpenShut
namespace Go.Proofs.Ytdldcondjidnfaa
open Go.RowKit
theorem ret_int {k : IntKind} {a b : Int} (h : a = b) : Ending.returned (.int k a) = .returned (.int k b) := by rw [h]

theorem isW_no {n : Int} (h : isW n = false) : (n == 1) = false ∧ (n == 8) = false ∧ (n == 16) = false ∧ (n == 32) = false ∧ (n == 64) = false := by
  simpa [isW, and_assoc] using h

theorem may_yes (b : Int) (w : World) (h : isW b = true) : Calls Try.prog 14 #[.int .i64 b] w fun e w' => e = .returned (.bool true) ∧ w = w' := by
  rcases isW_cases h with rfl | rfl | rfl | rfl | rfl
  all_goals
    go_enter Try.func14, Try.ntmps14
    go_wp2
    go_ret
    exact ⟨rfl, rfl⟩
theorem may_no (b : Int) (w : World) (h : isW b = false) : Calls Try.prog 14 #[.int .i64 b] w fun e w' => e = .returned (.bool false) ∧ w = w' := by
  obtain ⟨h1, h2, h3, h4, h5⟩ := isW_no h
  clear h
  go_enter Try.func14, Try.ntmps14
  go_wp2
  go_ret
  exact ⟨rfl, rfl⟩
theorem may_any (b : Int) (w : World) : Calls Try.prog 14 #[.int .i64 b] w fun e w' => e = .returned (.bool (isW b)) ∧ w = w' := by
  cases h : isW b
  · exact may_no b w h
  · exact may_yes b w h
theorem rmay_yes (b : Int) (w : World) (h : isW b = true) : Calls Try.prog 15 #[.int .i64 b] w fun e w' => e = .returned (.bool true) ∧ w = w' := by
  rcases isW_cases h with rfl | rfl | rfl | rfl | rfl
  all_goals
    go_enter Try.func15, Try.ntmps15
    go_wp2
    go_ret
    exact ⟨rfl, rfl⟩
theorem rmay_no (b : Int) (w : World) (h : isW b = false) : Calls Try.prog 15 #[.int .i64 b] w fun e w' => e = .returned (.bool false) ∧ w = w' := by
  obtain ⟨h1, h2, h3, h4, h5⟩ := isW_no h
  clear h
  go_enter Try.func15, Try.ntmps15
  go_wp2
  go_ret
  exact ⟨rfl, rfl⟩
theorem rmay_any (b : Int) (w : World) : Calls Try.prog 15 #[.int .i64 b] w fun e w' => e = .returned (.bool (isW b)) ∧ w = w' := by
  cases h : isW b
  · exact rmay_no b w h
  · exact rmay_yes b w h

theorem cut_any (v b : Int) (w : World) : Calls Try.prog 16 #[.int .u64 v, .int .i64 b] w fun e w' => e = .returned (.int .u64 (cutZ v b)) ∧ w = w' := by
  cases h : isW b
  · rw [cutZ_no _ h]
    go_enter Try.func16, Try.ntmps16
    go_wp2_with (go_at_call 14; refine (may_no _ _ h).mono ?_; rintro e w' ⟨rfl, rfl⟩)
    go_ret
    exact ⟨rfl, rfl⟩
  · rw [cutZ_yes _ h]
    rcases isW_cases h with rfl | rfl | rfl | rfl | rfl
    all_goals
      clear h
      go_enter Try.func16, Try.ntmps16
      go_wp2
      go_ret
      exact ⟨ret_int (by simp only [IntKind.wrap_u64, pw]; simp; try omega), rfl⟩
theorem rcut_any (v b : Int) (w : World) (h0 : 0 ≤ v) (h1 : v < 18446744073709551616) : Calls Try.prog 17 #[.int .u64 v, .int .i64 b] w fun e w' => e = .returned (.int .u64 (cutZ v b)) ∧ w = w' := by
  cases h : isW b
  · rw [cutZ_no _ h]
    clear h0 h1
    go_enter Try.func17, Try.ntmps17
    go_wp2_with (go_at_call 15; refine (rmay_no _ _ h).mono ?_; rintro e w' ⟨rfl, rfl⟩)
    go_ret
    exact ⟨rfl, rfl⟩
  · rw [cutZ_yes _ h]
    rcases isW_cases h with rfl | rfl | rfl | rfl | rfl
    all_goals
      clear h
      have H1 := Lib.hid h1
      clear h1
      go_enter Try.func17, Try.ntmps17
      go_wp2
      go_ret
      have h1 := H1.out
      exact ⟨ret_int (by simp only [pw]; simp; try omega), rfl⟩
theorem sgn_any (v b : Int) (w : World) : Calls Try.prog 18 #[.int .u64 v, .int .i64 b] w fun e w' => e = .returned (.int .i64 (sgnZ v b)) ∧ w = w' := by
  cases h : isW b
  · have e : sgnZ v b = 0 := by simp [sgnZ, h]
    rw [e]
    go_enter Try.func18, Try.ntmps18
    go_wp2_with (go_at_call 14; refine (may_no _ _ h).mono ?_; rintro e w' ⟨rfl, rfl⟩)
    go_ret
    exact ⟨rfl, rfl⟩
  · rcases isW_cases h with rfl | rfl | rfl | rfl | rfl
    all_goals
      clear h
      go_enter Try.func18, Try.ntmps18
      go_wp2
      go_ret
      exact ⟨ret_int (by simp only [IntKind.wrap_u64, wrap64, sgnZ, pw, isW]; simp; try (split <;> omega)), rfl⟩
end Go.Proofs.Ytdldcondjidnfaa
