/-
  The document's Do: for every kind, width and numbers it answers what 'doV', 'doC' say.
-/
import Derived.Test.YtdldcondjidnfaaRefA
namespace Go.Proofs.Ytdldcondjidnfaa
open Go.RowKit

theorem rcut_any' (v n : Int) (w : World) (h : 0 ≤ v ∧ v < 18446744073709551616) : Calls Try.prog 17 #[.int .u64 v, .int .i64 n] w fun e w' => e = .returned (.int .u64 (cutZ v n)) ∧ w = w' := rcut_any v n w h.1 h.2
theorem ret_pair {a b : Int} (h : a = b) (c : Int) : Ending.returned (.tuple #[.int .u64 a, .int .i64 c]) = .returned (.tuple #[.int .u64 b, .int .i64 c]) := by rw [h]

section
variable (n a b A B : Int) (w : World) (hn : isW n = true)
  (hA : ∀ w, Calls Try.prog 17 #[.int .u64 a, .int .i64 n] w fun e w' => e = .returned (.int .u64 A) ∧ w = w')
  (hB : ∀ w, Calls Try.prog 17 #[.int .u64 b, .int .i64 n] w fun e w' => e = .returned (.int .u64 B) ∧ w = w')
include hn hA hB
theorem rdo1 : Calls Try.prog 13 #[.int .i64 1, .int .i64 n, .int .u64 a, .int .u64 b] w fun e w' => e = .returned (.tuple #[.int .u64 (opZ 1 n A B), .int .i64 0]) ∧ w = w' := by
  have hC : ∀ w, Calls Try.prog 17 #[.int .u64 (IntKind.u64.wrap (A + B)), .int .i64 n] w fun e w' => e = .returned (.int .u64 (opZ 1 n A B)) ∧ w = w' := fun w => by
    have e : opZ 1 n A B = cutZ (IntKind.u64.wrap (A + B)) n := by rw [cutZ_wrap, cutZ_yes _ hn]; simp [opZ]
    rw [e]; exact rcut_any' _ _ _ ⟨wrap_lo _, wrap_hi _⟩
  go_enter Try.func13, Try.ntmps13
  go_wp2_with (first | (go_at_call 15; refine (rmay_yes _ _ hn).mono ?_; rintro e w' ⟨rfl, rfl⟩) | (go_at_call 17; (first | (with_reducible refine (hA _).mono ?_) | (with_reducible refine (hB _).mono ?_) | (with_reducible refine (hC _).mono ?_)); rintro e w' ⟨rfl, rfl⟩))
  go_ret2
  exact ⟨rfl, rfl⟩
theorem rdo2 : Calls Try.prog 13 #[.int .i64 2, .int .i64 n, .int .u64 a, .int .u64 b] w fun e w' => e = .returned (.tuple #[.int .u64 (opZ 2 n A B), .int .i64 0]) ∧ w = w' := by
  have hC : ∀ w, Calls Try.prog 17 #[.int .u64 (IntKind.u64.wrap (A - B)), .int .i64 n] w fun e w' => e = .returned (.int .u64 (opZ 2 n A B)) ∧ w = w' := fun w => by
    have e : opZ 2 n A B = cutZ (IntKind.u64.wrap (A - B)) n := by rw [cutZ_wrap, cutZ_yes _ hn]; simp [opZ]
    rw [e]; exact rcut_any' _ _ _ ⟨wrap_lo _, wrap_hi _⟩
  go_enter Try.func13, Try.ntmps13
  go_wp2_with (first | (go_at_call 15; refine (rmay_yes _ _ hn).mono ?_; rintro e w' ⟨rfl, rfl⟩) | (go_at_call 17; (first | (with_reducible refine (hA _).mono ?_) | (with_reducible refine (hB _).mono ?_) | (with_reducible refine (hC _).mono ?_)); rintro e w' ⟨rfl, rfl⟩))
  go_ret2
  exact ⟨rfl, rfl⟩
theorem rdo3 : Calls Try.prog 13 #[.int .i64 3, .int .i64 n, .int .u64 a, .int .u64 b] w fun e w' => e = .returned (.tuple #[.int .u64 (opZ 3 n A B), .int .i64 0]) ∧ w = w' := by
  have hC : ∀ w, Calls Try.prog 17 #[.int .u64 (IntKind.u64.wrap (A * B)), .int .i64 n] w fun e w' => e = .returned (.int .u64 (opZ 3 n A B)) ∧ w = w' := fun w => by
    have e : opZ 3 n A B = cutZ (IntKind.u64.wrap (A * B)) n := by rw [cutZ_wrap, cutZ_yes _ hn]; simp [opZ]
    rw [e]; exact rcut_any' _ _ _ ⟨wrap_lo _, wrap_hi _⟩
  go_enter Try.func13, Try.ntmps13
  go_wp2_with (first | (go_at_call 15; refine (rmay_yes _ _ hn).mono ?_; rintro e w' ⟨rfl, rfl⟩) | (go_at_call 17; (first | (with_reducible refine (hA _).mono ?_) | (with_reducible refine (hB _).mono ?_) | (with_reducible refine (hC _).mono ?_)); rintro e w' ⟨rfl, rfl⟩))
  go_ret2
  exact ⟨rfl, rfl⟩
theorem rdo4 (A0 : 0 ≤ A) (A1 : A < pw n) (Bp : 0 < B) : Calls Try.prog 13 #[.int .i64 4, .int .i64 n, .int .u64 a, .int .u64 b] w fun e w' => e = .returned (.tuple #[.int .u64 (opZ 4 n A B), .int .i64 0]) ∧ w = w' := by
  have hC : ∀ w, Calls Try.prog 17 #[.int .u64 (IntKind.u64.wrap (A.tdiv B)), .int .i64 n] w fun e w' => e = .returned (.int .u64 (opZ 4 n A B)) ∧ w = w' := fun w => by
    have := pw_le n
    obtain ⟨x, y⟩ := div_small (b := B) A0 A1 (by omega)
    have e : opZ 4 n A B = cutZ (IntKind.u64.wrap (A.tdiv B)) n := by rw [cutZ_wrap, Int.tdiv_eq_ediv_of_nonneg A0, cutZ_small hn x y]; simp [opZ]
    rw [e]; exact rcut_any' _ _ _ ⟨wrap_lo _, wrap_hi _⟩
  have hb : (B == 0) = false := by simp; omega
  have hb2 : ¬ B = 0 := by omega
  clear A0 A1 Bp
  go_enter Try.func13, Try.ntmps13
  go_wp2_with (first | (go_at_call 15; refine (rmay_yes _ _ hn).mono ?_; rintro e w' ⟨rfl, rfl⟩) | (go_at_call 17; (first | (with_reducible refine (hA _).mono ?_) | (with_reducible refine (hB _).mono ?_) | (with_reducible refine (hC _).mono ?_)); rintro e w' ⟨rfl, rfl⟩))
  go_ret2
  exact ⟨rfl, rfl⟩
theorem rdo40 (hz : B = 0) : Calls Try.prog 13 #[.int .i64 4, .int .i64 n, .int .u64 a, .int .u64 b] w fun e w' => e = .returned (.tuple #[.int .u64 0, .int .i64 8]) ∧ w = w' := by
  subst hz
  go_enter Try.func13, Try.ntmps13
  go_wp2_with (first | (go_at_call 15; refine (rmay_yes _ _ hn).mono ?_; rintro e w' ⟨rfl, rfl⟩) | (go_at_call 17; (first | (with_reducible refine (hA _).mono ?_) | (with_reducible refine (hB _).mono ?_)); rintro e w' ⟨rfl, rfl⟩))
  go_ret2
  exact ⟨rfl, rfl⟩
theorem rdo5 (A0 : 0 ≤ A) (A1 : A < pw n) (B0 : 0 ≤ B) (B1 : B < pw n) : Calls Try.prog 13 #[.int .i64 5, .int .i64 n, .int .u64 a, .int .u64 b] w fun e w' => e = .returned (.tuple #[.int .u64 (opZ 5 n A B), .int .i64 0]) ∧ w = w' := by
  have hC : ∀ w, Calls Try.prog 17 #[.int .u64 (bits .and .u64 A B), .int .i64 n] w fun e w' => e = .returned (.int .u64 (opZ 5 n A B)) ∧ w = w' := fun w => by
    have := pw_le n
    have na := nat_lt hn A0 A1
    have nb := nat_lt hn B0 B1
    have hl := Nat.and_lt_two_pow A.toNat nb
    have pe := pw_eq hn
    have e : opZ 5 n A B = bits .and .u64 A B := by rw [u64_and A B A0 (by omega) B0 (by omega)]; simp [opZ]
    have e2 : bits .and .u64 A B = ((A.toNat &&& B.toNat : Nat) : Int) := u64_and A B A0 (by omega) B0 (by omega)
    have e3 : cutZ (bits .and .u64 A B) n = opZ 5 n A B := by rw [e]; exact cutZ_small hn (by rw [e2]; omega) (by rw [e2]; omega)
    rw [← e3]; exact rcut_any' _ _ _ (by rw [e2]; omega)
  clear A0 A1 B0 B1
  go_enter Try.func13, Try.ntmps13
  go_wp2_with (first | (go_at_call 15; refine (rmay_yes _ _ hn).mono ?_; rintro e w' ⟨rfl, rfl⟩) | (go_at_call 17; (first | (with_reducible refine (hA _).mono ?_) | (with_reducible refine (hB _).mono ?_) | (with_reducible refine (hC _).mono ?_)); rintro e w' ⟨rfl, rfl⟩))
  go_ret2
  exact ⟨rfl, rfl⟩
theorem rdo6 (A0 : 0 ≤ A) (A1 : A < pw n) (B0 : 0 ≤ B) (B1 : B < pw n) : Calls Try.prog 13 #[.int .i64 6, .int .i64 n, .int .u64 a, .int .u64 b] w fun e w' => e = .returned (.tuple #[.int .u64 (opZ 6 n A B), .int .i64 0]) ∧ w = w' := by
  have hC : ∀ w, Calls Try.prog 17 #[.int .u64 (bits .or .u64 A B), .int .i64 n] w fun e w' => e = .returned (.int .u64 (opZ 6 n A B)) ∧ w = w' := fun w => by
    have := pw_le n
    have na := nat_lt hn A0 A1
    have nb := nat_lt hn B0 B1
    have hl := Nat.or_lt_two_pow na nb
    have pe := pw_eq hn
    have e : opZ 6 n A B = bits .or .u64 A B := by rw [u64_or A B A0 (by omega) B0 (by omega)]; simp [opZ]
    have e2 : bits .or .u64 A B = ((A.toNat ||| B.toNat : Nat) : Int) := u64_or A B A0 (by omega) B0 (by omega)
    have e3 : cutZ (bits .or .u64 A B) n = opZ 6 n A B := by rw [e]; exact cutZ_small hn (by rw [e2]; omega) (by rw [e2]; omega)
    rw [← e3]; exact rcut_any' _ _ _ (by rw [e2]; omega)
  clear A0 A1 B0 B1
  go_enter Try.func13, Try.ntmps13
  go_wp2_with (first | (go_at_call 15; refine (rmay_yes _ _ hn).mono ?_; rintro e w' ⟨rfl, rfl⟩) | (go_at_call 17; (first | (with_reducible refine (hA _).mono ?_) | (with_reducible refine (hB _).mono ?_) | (with_reducible refine (hC _).mono ?_)); rintro e w' ⟨rfl, rfl⟩))
  go_ret2
  exact ⟨rfl, rfl⟩
theorem rdo7 (A0 : 0 ≤ A) (A1 : A < pw n) (B0 : 0 ≤ B) (B1 : B < pw n) : Calls Try.prog 13 #[.int .i64 7, .int .i64 n, .int .u64 a, .int .u64 b] w fun e w' => e = .returned (.tuple #[.int .u64 (opZ 7 n A B), .int .i64 0]) ∧ w = w' := by
  have hC : ∀ w, Calls Try.prog 17 #[.int .u64 (bits .xor .u64 A B), .int .i64 n] w fun e w' => e = .returned (.int .u64 (opZ 7 n A B)) ∧ w = w' := fun w => by
    have := pw_le n
    have na := nat_lt hn A0 A1
    have nb := nat_lt hn B0 B1
    have hl := Nat.xor_lt_two_pow na nb
    have pe := pw_eq hn
    have e : opZ 7 n A B = bits .xor .u64 A B := by rw [u64_xor A B A0 (by omega) B0 (by omega)]; simp [opZ]
    have e2 : bits .xor .u64 A B = ((A.toNat ^^^ B.toNat : Nat) : Int) := u64_xor A B A0 (by omega) B0 (by omega)
    have e3 : cutZ (bits .xor .u64 A B) n = opZ 7 n A B := by rw [e]; exact cutZ_small hn (by rw [e2]; omega) (by rw [e2]; omega)
    rw [← e3]; exact rcut_any' _ _ _ (by rw [e2]; omega)
  clear A0 A1 B0 B1
  go_enter Try.func13, Try.ntmps13
  go_wp2_with (first | (go_at_call 15; refine (rmay_yes _ _ hn).mono ?_; rintro e w' ⟨rfl, rfl⟩) | (go_at_call 17; (first | (with_reducible refine (hA _).mono ?_) | (with_reducible refine (hB _).mono ?_) | (with_reducible refine (hC _).mono ?_)); rintro e w' ⟨rfl, rfl⟩))
  go_ret2
  exact ⟨rfl, rfl⟩
theorem rdo10 : Calls Try.prog 13 #[.int .i64 10, .int .i64 n, .int .u64 a, .int .u64 b] w fun e w' => e = .returned (.tuple #[.int .u64 (opZ 10 n A B), .int .i64 0]) ∧ w = w' := by
  have hC : ∀ w, Calls Try.prog 17 #[.int .u64 (tr (A == B)), .int .i64 n] w fun e w' => e = .returned (.int .u64 (opZ 10 n A B)) ∧ w = w' := fun w => by
    have := tr_range (A == B)
    have e : opZ 10 n A B = cutZ (tr (A == B)) n := by rw [tr_small _ hn]; simp [opZ]
    rw [e]; exact rcut_any' _ _ _ (by omega)
  go_enter Try.func13, Try.ntmps13
  go_wp2_with (first | (go_at_call 15; refine (rmay_yes _ _ hn).mono ?_; rintro e w' ⟨rfl, rfl⟩) | (go_at_call 17; (first | (with_reducible refine (hA _).mono ?_) | (with_reducible refine (hB _).mono ?_) | (with_reducible refine (hC _).mono ?_)); rintro e w' ⟨rfl, rfl⟩) | (go_at_call 24; refine (rtruth_any _ _).mono ?_; rintro e w' ⟨rfl, rfl⟩))
  go_ret2
  exact ⟨rfl, rfl⟩
theorem rdo11 : Calls Try.prog 13 #[.int .i64 11, .int .i64 n, .int .u64 a, .int .u64 b] w fun e w' => e = .returned (.tuple #[.int .u64 (opZ 11 n A B), .int .i64 0]) ∧ w = w' := by
  have hC : ∀ w, Calls Try.prog 17 #[.int .u64 (tr (decide (A < B))), .int .i64 n] w fun e w' => e = .returned (.int .u64 (opZ 11 n A B)) ∧ w = w' := fun w => by
    have := tr_range (decide (A < B))
    have e : opZ 11 n A B = cutZ (tr (decide (A < B))) n := by rw [tr_small _ hn]; simp [opZ]
    rw [e]; exact rcut_any' _ _ _ (by omega)
  go_enter Try.func13, Try.ntmps13
  go_wp2_with (first | (go_at_call 15; refine (rmay_yes _ _ hn).mono ?_; rintro e w' ⟨rfl, rfl⟩) | (go_at_call 17; (first | (with_reducible refine (hA _).mono ?_) | (with_reducible refine (hB _).mono ?_) | (with_reducible refine (hC _).mono ?_)); rintro e w' ⟨rfl, rfl⟩) | (go_at_call 24; refine (rtruth_any _ _).mono ?_; rintro e w' ⟨rfl, rfl⟩))
  go_ret2
  exact ⟨rfl, rfl⟩
theorem rdo12 (A0 : 0 ≤ A) (A1 : A < pw n) (B0 : 0 ≤ B) (B1 : B < pw n) : Calls Try.prog 13 #[.int .i64 12, .int .i64 n, .int .u64 a, .int .u64 b] w fun e w' => e = .returned (.tuple #[.int .u64 (opZ 12 n A B), .int .i64 0]) ∧ w = w' := by
  have hC : ∀ w, Calls Try.prog 17 #[.int .u64 (tr (decide (sgnZ A n < sgnZ B n))), .int .i64 n] w fun e w' => e = .returned (.int .u64 (opZ 12 n A B)) ∧ w = w' := fun w => by
    have := tr_range (decide (sgnZ A n < sgnZ B n))
    have e : opZ 12 n A B = cutZ (tr (decide (sgnZ A n < sgnZ B n))) n := by rw [tr_small _ hn]; simp [opZ]
    rw [e]; exact rcut_any' _ _ _ (by omega)
  have := pw_le n
  have hS := fun w => rsgn_any A n w A0 (by omega)
  have hT := fun w => rsgn_any B n w B0 (by omega)
  clear A0 A1 B0 B1 this
  go_enter Try.func13, Try.ntmps13
  go_wp2_with (first | (go_at_call 15; refine (rmay_yes _ _ hn).mono ?_; rintro e w' ⟨rfl, rfl⟩) | (go_at_call 17; (first | (with_reducible refine (hA _).mono ?_) | (with_reducible refine (hB _).mono ?_) | (with_reducible refine (hC _).mono ?_)); rintro e w' ⟨rfl, rfl⟩) | (go_at_call 24; refine (rtruth_any _ _).mono ?_; rintro e w' ⟨rfl, rfl⟩) | (go_at_call 19; (first | (with_reducible refine (hS _).mono ?_) | (with_reducible refine (hT _).mono ?_)); rintro e w' ⟨rfl, rfl⟩))
  go_ret2
  exact ⟨rfl, rfl⟩
theorem rdo8 (A0 : 0 ≤ A) (A1 : A < pw n) (B0 : 0 ≤ B) (B1 : B < pw n) : Calls Try.prog 13 #[.int .i64 8, .int .i64 n, .int .u64 a, .int .u64 b] w fun e w' => e = .returned (.tuple #[.int .u64 (opZ 8 n A B), .int .i64 0]) ∧ w = w' := by
  have h64 := pw_le n
  have hC : ∀ (m : Nat) (w : World), Calls Try.prog 17 #[.int .u64 (IntKind.u64.wrap (shlV A n m * 2)), .int .i64 n] w fun e w' => e = .returned (.int .u64 (shlV A n (m + 1))) ∧ w = w' := fun m w => by
    rw [← shl_step]; exact rcut_any' _ _ _ ⟨wrap_lo _, wrap_hi _⟩
  have hD : ∀ (m : Nat) (w : World), (m : Int) ≤ B → ((m : Int) = B ∨ shlV A n m = 0) → Calls Try.prog 17 #[.int .u64 (shlV A n m), .int .i64 n] w fun e w' => e = .returned (.int .u64 (opZ 8 n A B)) ∧ w = w' := fun m w h1 h2 => by
    rw [← shl_end A n B m hn h1 h2]
    have e : cutZ (shlV A n m) n = shlV A n m := cutZ_cutZ _ _
    have := rcut_any' (shlV A n m) n w ⟨cutZ_nonneg _ _, cutZ_lt64 _ _⟩
    rwa [e] at this
  have hz := shl_zero A n (cutZ_small hn A0 A1)
  have hB64 : B < 18446744073709551616 := by omega
  have HH := Lib.hid (And.intro hz hB64)
  clear hz A0 A1 B1 h64 hB64
  go_enter Try.func13, Try.ntmps13
  go_wp2_with (first | (go_at_call 15; refine (rmay_yes _ _ hn).mono ?_; rintro e w' ⟨rfl, rfl⟩) | (go_at_call 17; (first | (with_reducible refine (hA _).mono ?_) | (with_reducible refine (hB _).mono ?_)); rintro e w' ⟨rfl, rfl⟩))
  go_loop [10, 11] (fun v i => ∃ m : Nat, (m : Int) ≤ B ∧ v = .int .u64 (shlV A n m) ∧ i = .int .u64 m) (fun _ i => (B - intOf i).toNat)
  case atStart => exact ⟨0, by omega, by rw [HH.out.1], rfl⟩
  case round =>
    obtain ⟨m, hm, rfl, rfl⟩ := hrel
    by_cases hlt : (m : Int) < B
    · by_cases hv : shlV A n m = 0
      · have hd : ∀ w, Calls Try.prog 17 #[.int .u64 0, .int .i64 n] w fun e w' => e = .returned (.int .u64 (opZ 8 n A B)) ∧ w = w' := fun w => by have := hD m w hm (Or.inr hv); rwa [hv] at this
        clear hC hD
        rw [hv]
        clear hv
        go_wp2_with (go_at_call 17; refine (hd _).mono ?_; rintro e w' ⟨rfl, rfl⟩)
        go_ret2
        exact ⟨rfl, rfl⟩
      · have hc := hC m
        have hv1 : (shlV A n m == 0) = false := by simpa using hv
        have hv2 : (shlV A n m != 0) = true := by simpa using hv
        have hw : IntKind.u64.wrap (↑m + 1) = ↑m + 1 := by have := HH.out.2; rw [IntKind.wrap_u64]; omega
        clear hC hD hv
        go_wp2_with (go_at_call 17; refine (hc _).mono ?_; rintro e w' ⟨rfl, rfl⟩)
        go_round
        case rel => exact ⟨m + 1, by omega, rfl, by go_num⟩
        case measure => simp [intOf]; omega
    · have hd : ∀ w, Calls Try.prog 17 #[.int .u64 (shlV A n m), .int .i64 n] w fun e w' => e = .returned (.int .u64 (opZ 8 n A B)) ∧ w = w' := fun w => hD m w hm (Or.inl (by omega))
      clear hC hD
      go_wp2_with (go_at_call 17; refine (hd _).mono ?_; rintro e w' ⟨rfl, rfl⟩)
      go_ret2
      exact ⟨rfl, rfl⟩
theorem rdo9 (A0 : 0 ≤ A) (A1 : A < pw n) (B0 : 0 ≤ B) (B1 : B < pw n) : Calls Try.prog 13 #[.int .i64 9, .int .i64 n, .int .u64 a, .int .u64 b] w fun e w' => e = .returned (.tuple #[.int .u64 (opZ 9 n A B), .int .i64 0]) ∧ w = w' := by
  have h64 := pw_le n
  have hD : ∀ (m : Nat) (w : World), (m : Int) ≤ B → ((m : Int) = B ∨ shrV A m = 0) → Calls Try.prog 17 #[.int .u64 (shrV A m), .int .i64 n] w fun e w' => e = .returned (.int .u64 (opZ 9 n A B)) ∧ w = w' := fun m w h1 h2 => by
    rw [← shr_end A n B m hn A0 A1 h1 h2]
    have := shr_lo A m A0
    have := shr_hi A m A0
    have e : cutZ (shrV A m) n = shrV A m := cutZ_small hn (by omega) (by omega)
    have := rcut_any' (shrV A m) n w (by omega)
    rwa [e] at this
  have hz := shr_zero A
  have hB64 : B < 18446744073709551616 := by omega
  have hA64 : A < 18446744073709551616 := by omega
  have HH := Lib.hid (And.intro hz (And.intro hB64 (And.intro A0 hA64)))
  clear hz A0 A1 B1 h64 hB64 hA64
  go_enter Try.func13, Try.ntmps13
  go_wp2_with (first | (go_at_call 15; refine (rmay_yes _ _ hn).mono ?_; rintro e w' ⟨rfl, rfl⟩) | (go_at_call 17; (first | (with_reducible refine (hA _).mono ?_) | (with_reducible refine (hB _).mono ?_)); rintro e w' ⟨rfl, rfl⟩))
  go_loop [10, 12] (fun v i => ∃ m : Nat, (m : Int) ≤ B ∧ v = .int .u64 (shrV A m) ∧ i = .int .u64 m) (fun _ i => (B - intOf i).toNat)
  case atStart => exact ⟨0, by omega, by rw [HH.out.1], rfl⟩
  case round =>
    obtain ⟨m, hm, rfl, rfl⟩ := hrel
    by_cases hlt : (m : Int) < B
    · by_cases hv : shrV A m = 0
      · have hd : ∀ w, Calls Try.prog 17 #[.int .u64 0, .int .i64 n] w fun e w' => e = .returned (.int .u64 (opZ 9 n A B)) ∧ w = w' := fun w => by have := hD m w hm (Or.inr hv); rwa [hv] at this
        clear hD
        rw [hv]
        clear hv
        go_wp2_with (go_at_call 17; refine (hd _).mono ?_; rintro e w' ⟨rfl, rfl⟩)
        go_ret2
        exact ⟨rfl, rfl⟩
      · have hv1 : (shrV A m == 0) = false := by simpa using hv
        have hv2 : (shrV A m != 0) = true := by simpa using hv
        have hw : IntKind.u64.wrap (↑m + 1) = ↑m + 1 := by have := HH.out.2.1; rw [IntKind.wrap_u64]; omega
        have hw2 : IntKind.u64.wrap ((shrV A m).tdiv 2) = shrV A (m + 1) := by
          have h1 := shr_lo A m HH.out.2.2.1
          have h2 := shr_hi A m HH.out.2.2.1
          have h3 := HH.out.2.2.2
          rw [IntKind.wrap_u64, Int.tdiv_eq_ediv_of_nonneg h1, ← shr_step]; omega
        clear hD hv
        go_wp2
        go_round
        case rel => exact ⟨m + 1, by omega, rfl, by go_num⟩
        case measure => simp [intOf]; omega
    · have hd : ∀ w, Calls Try.prog 17 #[.int .u64 (shrV A m), .int .i64 n] w fun e w' => e = .returned (.int .u64 (opZ 9 n A B)) ∧ w = w' := fun w => hD m w hm (Or.inl (by omega))
      clear hD
      go_wp2_with (go_at_call 17; refine (hd _).mono ?_; rintro e w' ⟨rfl, rfl⟩)
      go_ret2
      exact ⟨rfl, rfl⟩
end

theorem rdo_any (k n a b : Int) (w : World) (a0 : 0 ≤ a) (a1 : a < 18446744073709551616) (b0 : 0 ≤ b) (b1 : b < 18446744073709551616) :
    Calls Try.prog 13 #[.int .i64 k, .int .i64 n, .int .u64 a, .int .u64 b] w fun e w' => e = .returned (.tuple #[.int .u64 (doV k n a b), .int .i64 (doC k n b)]) ∧ w = w' := by
  have hA := fun w => rcut_any a n w a0 a1
  have hB := fun w => rcut_any b n w b0 b1
  by_cases h1 : 1 ≤ k
  · by_cases h2 : k ≤ 12
    · cases hn : isW n
      · have e1 : doV k n a b = 0 := by simp [doV, isTwo, hn]
        have e2 : doC k n b = 1 := by simp [doC, isTwo, hn]
        rw [e1, e2]
        clear e1 e2 a0 a1 b0 b1 hA hB
        go_enter Try.func13, Try.ntmps13
        go_wp2_with (go_at_call 15; refine (rmay_no _ _ hn).mono ?_; rintro e w' ⟨rfl, rfl⟩)
        go_ret2
        exact ⟨rfl, rfl⟩
      · have ht := isTwo_mk hn h1 h2
        obtain ⟨A0, A1⟩ := cutZ_range a hn
        obtain ⟨B0, B1⟩ := cutZ_range b hn
        have ks : k = 1 ∨ k = 2 ∨ k = 3 ∨ k = 4 ∨ k = 5 ∨ k = 6 ∨ k = 7 ∨ k = 8 ∨ k = 9 ∨ k = 10 ∨ k = 11 ∨ k = 12 := by omega
        by_cases hz : k = 4 ∧ cutZ b n = 0
        · obtain ⟨rfl, hz⟩ := hz
          have e1 : doV 4 n a b = 0 := by simp [doV, ht, trap, hz]
          have e2 : doC 4 n b = 8 := by simp [doC, ht, trap, hz]
          rw [e1, e2]
          exact rdo40 n a b _ _ w hn hA hB hz
        · have hp : trap k n b = false := by
            simp only [trap, Bool.and_eq_false_iff, beq_eq_false_iff_ne]
            by_cases k4 : k = 4
            · exact Or.inr fun h => hz ⟨k4, h⟩
            · exact Or.inl k4
          have e1 : doV k n a b = opZ k n (cutZ a n) (cutZ b n) := by simp [doV, ht, hp]
          have e2 : doC k n b = 0 := by simp [doC, ht, hp]
          rw [e1, e2]
          rcases ks with rfl | rfl | rfl | rfl | rfl | rfl | rfl | rfl | rfl | rfl | rfl | rfl
          · exact rdo1 n a b _ _ w hn hA hB
          · exact rdo2 n a b _ _ w hn hA hB
          · exact rdo3 n a b _ _ w hn hA hB
          · exact rdo4 n a b _ _ w hn hA hB A0 A1 (by omega)
          · exact rdo5 n a b _ _ w hn hA hB A0 A1 B0 B1
          · exact rdo6 n a b _ _ w hn hA hB A0 A1 B0 B1
          · exact rdo7 n a b _ _ w hn hA hB A0 A1 B0 B1
          · exact rdo8 n a b _ _ w hn hA hB A0 A1 B0 B1
          · exact rdo9 n a b _ _ w hn hA hB A0 A1 B0 B1
          · exact rdo10 n a b _ _ w hn hA hB
          · exact rdo11 n a b _ _ w hn hA hB
          · exact rdo12 n a b _ _ w hn hA hB A0 A1 B0 B1
    · have e1 : doV k n a b = 0 := by simp [doV, isTwo, h2]
      have e2 : doC k n b = 1 := by simp [doC, isTwo, h2]
      rw [e1, e2]
      clear e1 e2 a0 a1 b0 b1 hA hB
      go_enter Try.func13, Try.ntmps13
      go_wp2
      go_ret2
      exact ⟨rfl, rfl⟩
  · have e1 : doV k n a b = 0 := by simp [doV, isTwo, h1]
    have e2 : doC k n b = 1 := by simp [doC, isTwo, h1]
    rw [e1, e2]
    clear e1 e2 a0 a1 b0 b1 hA hB
    go_enter Try.func13, Try.ntmps13
    go_wp2
    go_ret2
    exact ⟨rfl, rfl⟩
end Go.Proofs.Ytdldcondjidnfaa
