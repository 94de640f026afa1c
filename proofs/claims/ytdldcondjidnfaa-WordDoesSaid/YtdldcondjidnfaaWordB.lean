/-
  Contracts of layer word's functions, second part: Signed of the document, Two, Zext, Trunc, truth, what lies in the array, apply.
-/
import Derived.Test.YtdldcondjidnfaaWord
import Derived.Outline
namespace Go.Proofs.Ytdldcondjidnfaa
open Go.RowKit

theorem rsgn_any (v b : Int) (w : World) (h0 : 0 ≤ v) (h1 : v < 18446744073709551616) : Calls Try.prog 19 #[.int .u64 v, .int .i64 b] w fun e w' => e = .returned (.int .i64 (sgnZ v b)) ∧ w = w' := by
  cases h : isW b
  · have e : sgnZ v b = 0 := by simp [sgnZ, h]
    rw [e]
    clear h0 h1
    go_enter Try.func19, Try.ntmps19
    go_wp2_with (go_at_call 15; refine (rmay_no _ _ h).mono ?_; rintro e w' ⟨rfl, rfl⟩)
    go_ret
    exact ⟨rfl, rfl⟩
  · have hr := cutZ_range v h
    have hs : sgnZ v b = if 2 * cutZ v b < pw b then cutZ v b else cutZ v b - pw b := by simp [sgnZ, cutZ, h]
    rw [hs]
    clear hs
    generalize hc : cutZ v b = c at hr
    have hC : ∀ w, Calls Try.prog 17 #[.int .u64 v, .int .i64 b] w fun e w' => e = .returned (.int .u64 c) ∧ w = w' := fun w => by rw [← hc]; exact rcut_any v b w h0 h1
    clear h0 h1 hc
    rcases isW_cases h with rfl | rfl | rfl | rfl | rfl
    all_goals
      clear h
      simp only [pw] at hr ⊢
      simp at hr ⊢
    · by_cases hlt : c < 1
      · rw [if_pos (by omega)]
        go_enter Try.func19, Try.ntmps19
        go_wp2_with (first | (go_at_call 17; refine (hC _).mono ?_; rintro e w' ⟨rfl, rfl⟩) | (go_at_call 15; refine (rmay_yes _ _ (by decide)).mono ?_; rintro e w' ⟨rfl, rfl⟩))
        go_ret
        exact ⟨ret_int (by first | rfl | (simp only [wrap64]; try omega)), rfl⟩
      · rw [if_neg (by omega)]
        have hge : 1 ≤ c := by omega
        go_enter Try.func19, Try.ntmps19
        go_wp2_with (first | (go_at_call 17; refine (hC _).mono ?_; rintro e w' ⟨rfl, rfl⟩) | (go_at_call 15; refine (rmay_yes _ _ (by decide)).mono ?_; rintro e w' ⟨rfl, rfl⟩))
        go_ret
        exact ⟨ret_int (by first | rfl | (simp only [wrap64]; try omega)), rfl⟩
    · by_cases hlt : c < 128
      · rw [if_pos (by omega)]
        go_enter Try.func19, Try.ntmps19
        go_wp2_with (first | (go_at_call 17; refine (hC _).mono ?_; rintro e w' ⟨rfl, rfl⟩) | (go_at_call 15; refine (rmay_yes _ _ (by decide)).mono ?_; rintro e w' ⟨rfl, rfl⟩))
        go_ret
        exact ⟨ret_int (by first | rfl | (simp only [wrap64]; try omega)), rfl⟩
      · rw [if_neg (by omega)]
        have hge : 128 ≤ c := by omega
        go_enter Try.func19, Try.ntmps19
        go_wp2_with (first | (go_at_call 17; refine (hC _).mono ?_; rintro e w' ⟨rfl, rfl⟩) | (go_at_call 15; refine (rmay_yes _ _ (by decide)).mono ?_; rintro e w' ⟨rfl, rfl⟩))
        go_ret
        exact ⟨ret_int (by first | rfl | (simp only [wrap64]; try omega)), rfl⟩
    · by_cases hlt : c < 32768
      · rw [if_pos (by omega)]
        go_enter Try.func19, Try.ntmps19
        go_wp2_with (first | (go_at_call 17; refine (hC _).mono ?_; rintro e w' ⟨rfl, rfl⟩) | (go_at_call 15; refine (rmay_yes _ _ (by decide)).mono ?_; rintro e w' ⟨rfl, rfl⟩))
        go_ret
        exact ⟨ret_int (by first | rfl | (simp only [wrap64]; try omega)), rfl⟩
      · rw [if_neg (by omega)]
        have hge : 32768 ≤ c := by omega
        go_enter Try.func19, Try.ntmps19
        go_wp2_with (first | (go_at_call 17; refine (hC _).mono ?_; rintro e w' ⟨rfl, rfl⟩) | (go_at_call 15; refine (rmay_yes _ _ (by decide)).mono ?_; rintro e w' ⟨rfl, rfl⟩))
        go_ret
        exact ⟨ret_int (by first | rfl | (simp only [wrap64]; try omega)), rfl⟩
    · by_cases hlt : c < 2147483648
      · rw [if_pos (by omega)]
        go_enter Try.func19, Try.ntmps19
        go_wp2_with (first | (go_at_call 17; refine (hC _).mono ?_; rintro e w' ⟨rfl, rfl⟩) | (go_at_call 15; refine (rmay_yes _ _ (by decide)).mono ?_; rintro e w' ⟨rfl, rfl⟩))
        go_ret
        exact ⟨ret_int (by first | rfl | (simp only [wrap64]; try omega)), rfl⟩
      · rw [if_neg (by omega)]
        have hge : 2147483648 ≤ c := by omega
        go_enter Try.func19, Try.ntmps19
        go_wp2_with (first | (go_at_call 17; refine (hC _).mono ?_; rintro e w' ⟨rfl, rfl⟩) | (go_at_call 15; refine (rmay_yes _ _ (by decide)).mono ?_; rintro e w' ⟨rfl, rfl⟩))
        go_ret
        exact ⟨ret_int (by first | rfl | (simp only [wrap64]; try omega)), rfl⟩
    · have HR := Lib.hid hr
      clear hr
      have e : (if 2 * c < 18446744073709551616 then c else c - 18446744073709551616) = (c + 9223372036854775808) % 18446744073709551616 - 9223372036854775808 := by
        have hr := HR.out
        split <;> omega
      rw [e]
      clear e
      go_enter Try.func19, Try.ntmps19
      go_wp2_with (first | (go_at_call 17; refine (hC _).mono ?_; rintro e w' ⟨rfl, rfl⟩) | (go_at_call 15; refine (rmay_yes _ _ (by decide)).mono ?_; rintro e w' ⟨rfl, rfl⟩))
      go_ret
      exact ⟨ret_int (by first | rfl | (simp only [wrap64]; try omega)), rfl⟩

theorem two_any (k n : Int) (w : World) : Calls Try.prog 20 #[.int .i64 k, .int .i64 n] w fun e w' => e = .returned (.bool (isTwo k n)) ∧ w = w' := by
  by_cases h1 : 1 ≤ k
  · by_cases h2 : k ≤ 12
    · have e : isTwo k n = isW n := by simp [isTwo, h1, h2]
      rw [e]
      clear e
      cases h : isW n
      · go_enter Try.func20, Try.ntmps20
        go_wp2_with (go_at_call 14; refine (may_no _ _ h).mono ?_; rintro e w' ⟨rfl, rfl⟩)
        go_ret
        exact ⟨rfl, rfl⟩
      · go_enter Try.func20, Try.ntmps20
        go_wp2_with (go_at_call 14; refine (may_yes _ _ h).mono ?_; rintro e w' ⟨rfl, rfl⟩)
        go_ret
        exact ⟨rfl, rfl⟩
    · have e : isTwo k n = false := by simp [isTwo, h2]
      rw [e]
      clear e
      go_enter Try.func20, Try.ntmps20
      go_wp2
      go_ret
      exact ⟨rfl, rfl⟩
  · have e : isTwo k n = false := by simp [isTwo, h1]
    rw [e]
    clear e
    go_enter Try.func20, Try.ntmps20
    go_wp2
    go_ret
    exact ⟨rfl, rfl⟩

theorem truth_any (p : Bool) (w : World) : Calls Try.prog 35 #[.bool p] w fun e w' => e = .returned (.int .u64 (tr p)) ∧ w = w' := by
  cases p
  all_goals
    go_enter Try.func35, Try.ntmps35
    go_wp2
    go_ret
    exact ⟨rfl, rfl⟩
theorem rtruth_any (p : Bool) (w : World) : Calls Try.prog 24 #[.bool p] w fun e w' => e = .returned (.int .u64 (tr p)) ∧ w = w' := by
  cases p
  all_goals
    go_enter Try.func24, Try.ntmps24
    go_wp2
    go_ret
    exact ⟨rfl, rfl⟩

def zxV (v f t : Int) : Int := if isW f && isW t && decide (f < t) then cutZ v f else 0
def zxC (f t : Int) : Int := if isW f && isW t && decide (f < t) then 0 else 1
def tcV (v f t : Int) : Int := if isW f && isW t && decide (t < f) then cutZ v t else 0
def tcC (f t : Int) : Int := if isW f && isW t && decide (t < f) then 0 else 1
theorem zext_any (v f t : Int) (w : World) : Calls Try.prog 21 #[.int .u64 v, .int .i64 f, .int .i64 t] w fun e w' => e = .returned (.tuple #[.int .u64 (zxV v f t), .int .i64 (zxC f t)]) ∧ w = w' := by
  cases hf : isW f
  · have e1 : zxV v f t = 0 := by simp [zxV, hf]
    have e2 : zxC f t = 1 := by simp [zxC, hf]
    rw [e1, e2]
    clear e1 e2
    go_enter Try.func21, Try.ntmps21
    go_wp2_with (go_at_call 14; refine (may_no _ _ hf).mono ?_; rintro e w' ⟨rfl, rfl⟩)
    go_ret2
    exact ⟨rfl, rfl⟩
  · cases ht : isW t
    · have e1 : zxV v f t = 0 := by simp [zxV, ht]
      have e2 : zxC f t = 1 := by simp [zxC, ht]
      rw [e1, e2]
      clear e1 e2
      go_enter Try.func21, Try.ntmps21
      go_wp2_with (go_at_call 14; (first | (with_reducible refine (may_yes _ _ hf).mono ?_) | (with_reducible refine (may_no _ _ ht).mono ?_)); rintro e w' ⟨rfl, rfl⟩)
      go_ret2
      exact ⟨rfl, rfl⟩
    · by_cases hlt : f < t
      · have e1 : zxV v f t = cutZ v f := by simp [zxV, hf, ht, hlt]
        have e2 : zxC f t = 0 := by simp [zxC, hf, ht, hlt]
        rw [e1, e2]
        clear e1 e2
        go_enter Try.func21, Try.ntmps21
        go_wp2_with (first | (go_at_call 14; (first | (with_reducible refine (may_yes _ _ hf).mono ?_) | (with_reducible refine (may_yes _ _ ht).mono ?_)); rintro e w' ⟨rfl, rfl⟩) | (go_at_call 16; refine (cut_any _ _ _).mono ?_; rintro e w' ⟨rfl, rfl⟩))
        go_ret2
        exact ⟨rfl, rfl⟩
      · have e1 : zxV v f t = 0 := by simp [zxV, hlt]
        have e2 : zxC f t = 1 := by simp [zxC, hlt]
        rw [e1, e2]
        clear e1 e2
        go_enter Try.func21, Try.ntmps21
        go_wp2_with (go_at_call 14; (first | (with_reducible refine (may_yes _ _ hf).mono ?_) | (with_reducible refine (may_yes _ _ ht).mono ?_)); rintro e w' ⟨rfl, rfl⟩)
        go_ret2
        exact ⟨rfl, rfl⟩
theorem trunc_any (v f t : Int) (w : World) : Calls Try.prog 22 #[.int .u64 v, .int .i64 f, .int .i64 t] w fun e w' => e = .returned (.tuple #[.int .u64 (tcV v f t), .int .i64 (tcC f t)]) ∧ w = w' := by
  cases hf : isW f
  · have e1 : tcV v f t = 0 := by simp [tcV, hf]
    have e2 : tcC f t = 1 := by simp [tcC, hf]
    rw [e1, e2]
    clear e1 e2
    go_enter Try.func22, Try.ntmps22
    go_wp2_with (go_at_call 14; refine (may_no _ _ hf).mono ?_; rintro e w' ⟨rfl, rfl⟩)
    go_ret2
    exact ⟨rfl, rfl⟩
  · cases ht : isW t
    · have e1 : tcV v f t = 0 := by simp [tcV, ht]
      have e2 : tcC f t = 1 := by simp [tcC, ht]
      rw [e1, e2]
      clear e1 e2
      go_enter Try.func22, Try.ntmps22
      go_wp2_with (go_at_call 14; (first | (with_reducible refine (may_yes _ _ hf).mono ?_) | (with_reducible refine (may_no _ _ ht).mono ?_)); rintro e w' ⟨rfl, rfl⟩)
      go_ret2
      exact ⟨rfl, rfl⟩
    · by_cases hlt : t < f
      · have e1 : tcV v f t = cutZ v t := by simp [tcV, hf, ht, hlt]
        have e2 : tcC f t = 0 := by simp [tcC, hf, ht, hlt]
        rw [e1, e2]
        clear e1 e2
        go_enter Try.func22, Try.ntmps22
        go_wp2_with (first | (go_at_call 14; (first | (with_reducible refine (may_yes _ _ hf).mono ?_) | (with_reducible refine (may_yes _ _ ht).mono ?_)); rintro e w' ⟨rfl, rfl⟩) | (go_at_call 16; refine (cut_any _ _ _).mono ?_; rintro e w' ⟨rfl, rfl⟩))
        go_ret2
        exact ⟨rfl, rfl⟩
      · have e1 : tcV v f t = 0 := by simp [tcV, hlt]
        have e2 : tcC f t = 1 := by simp [tcC, hlt]
        rw [e1, e2]
        clear e1 e2
        go_enter Try.func22, Try.ntmps22
        go_wp2_with (go_at_call 14; (first | (with_reducible refine (may_yes _ _ hf).mono ?_) | (with_reducible refine (may_yes _ _ ht).mono ?_)); rintro e w' ⟨rfl, rfl⟩)
        go_ret2
        exact ⟨rfl, rfl⟩
end Go.Proofs.Ytdldcondjidnfaa
