/-
  Contracts of layer word's functions, third part: what lies in the array, and 'apply'.
-/
import Derived.Test.YtdldcondjidnfaaWordB
namespace Go.Proofs.Ytdldcondjidnfaa
open Go.RowKit

theorem quiet_eq {P : Program} {f : FuncId} {args : Array Value} {w : World} {n : Nat} {v : Value}
    (h : Calls P f args (w.drewN n) fun e w' => e = .returned v ∧ w.drewN n = w') : Calls P f args (w.drewN n) fun e w'' => e = .returned v ∧ ∃ m, w'' = w.drewN m :=
  h.mono fun _ _ ⟨he, hm⟩ => ⟨he, n, hm.symm⟩
theorem grown_drewN {W w' : World} (h : Grown W w') (n : Nat) : Grown W (w'.drewN n) := h
theorem grown_trans {a b c : World} (h : Grown a b) (g : Grown b c) : Grown a c := by
  obtain ⟨h1, h2, h3⟩ := h
  obtain ⟨g1, g2, g3⟩ := g
  exact ⟨World.keptBut_trans h1 g1, fun x => (g2 x).trans (h2 x), Nat.le_trans h3 g3⟩

theorem wrap_tdiv {a b : Int} (h0 : 0 ≤ a) (h1 : a < 18446744073709551616) (h2 : 0 < b) : IntKind.u64.wrap (a.tdiv b) = a / b := by
  rw [IntKind.wrap_u64, Int.tdiv_eq_ediv_of_nonneg h0]
  have := Int.ediv_le_self b h0
  have := Int.ediv_nonneg h0 (by omega : 0 ≤ b)
  exact Int.emod_eq_of_lt this (by omega)

theorem slt_any (c : Addr) (n a b : Int) (w : World) (hc : w.cell? c = some (.int .i64 n)) : Calls Try.prog 37 #[.int .u64 a, .int .u64 b, .pointer (some c)] w fun e w' => e = .returned (.int .u64 (tr (decide (sgnZ a n < sgnZ b n)))) ∧ ∃ nq, w' = w.drewN nq := by
  go_enter Try.func37, Try.ntmps37
  go_wp2_with fail
  go_quiet (first | (go_at_call 18; exact quiet_eq (sgn_any _ _ _)) | (go_at_call 35; exact quiet_eq (truth_any _ _)))
  go_wp2
  go_ret
  exact ⟨rfl, _, rfl⟩

theorem eq_any (a b : Int) (w : World) : Calls Try.prog 34 #[.int .u64 a, .int .u64 b] w fun e w' => e = .returned (.int .u64 (tr (a == b))) ∧ w = w' := by
  go_enter Try.func34, Try.ntmps34
  go_wp2_with (go_at_call 35; refine (truth_any _ _).mono ?_; rintro e w' ⟨rfl, rfl⟩)
  go_ret
  exact ⟨rfl, rfl⟩
theorem ult_any (a b : Int) (w : World) : Calls Try.prog 36 #[.int .u64 a, .int .u64 b] w fun e w' => e = .returned (.int .u64 (tr (decide (a < b)))) ∧ w = w' := by
  go_enter Try.func36, Try.ntmps36
  go_wp2_with (go_at_call 35; refine (truth_any _ _).mono ?_; rintro e w' ⟨rfl, rfl⟩)
  go_ret
  exact ⟨rfl, rfl⟩

section
variable (n a b : Int) (w : World)
theorem ap1  : Calls Try.prog 23 #[.int .i64 1, .int .i64 n, .int .u64 a, .int .u64 b] w fun e w' => e = .returned (.int .u64 (apZ 1 n a b)) ∧ Grown w w' := by
  have hmf : ∀ (fn : Fn) (first cap : Array Value) (w : World), (Instr.makeFunc fn first cap).run Try.prog w = .ok (.func fn first cap) w := fun _ _ _ _ => rfl
  have e : apZ 1 n a b = (a + b) % 18446744073709551616 := by simp [apZ]
  rw [e]
  clear e
  go_enter Try.func23, Try.ntmps23
  go_wp2
  go_ret
  exact ⟨ret_int (IntKind.wrap_u64 _), ((Grown.refl _).alloc _ _).alloc _ _⟩
theorem ap2  : Calls Try.prog 23 #[.int .i64 2, .int .i64 n, .int .u64 a, .int .u64 b] w fun e w' => e = .returned (.int .u64 (apZ 2 n a b)) ∧ Grown w w' := by
  have hmf : ∀ (fn : Fn) (first cap : Array Value) (w : World), (Instr.makeFunc fn first cap).run Try.prog w = .ok (.func fn first cap) w := fun _ _ _ _ => rfl
  have e : apZ 2 n a b = (a - b) % 18446744073709551616 := by simp [apZ]
  rw [e]
  clear e
  go_enter Try.func23, Try.ntmps23
  go_wp2
  go_ret
  exact ⟨ret_int (IntKind.wrap_u64 _), ((Grown.refl _).alloc _ _).alloc _ _⟩
theorem ap3  : Calls Try.prog 23 #[.int .i64 3, .int .i64 n, .int .u64 a, .int .u64 b] w fun e w' => e = .returned (.int .u64 (apZ 3 n a b)) ∧ Grown w w' := by
  have hmf : ∀ (fn : Fn) (first cap : Array Value) (w : World), (Instr.makeFunc fn first cap).run Try.prog w = .ok (.func fn first cap) w := fun _ _ _ _ => rfl
  have e : apZ 3 n a b = (a * b) % 18446744073709551616 := by simp [apZ]
  rw [e]
  clear e
  go_enter Try.func23, Try.ntmps23
  go_wp2
  go_ret
  exact ⟨ret_int (IntKind.wrap_u64 _), ((Grown.refl _).alloc _ _).alloc _ _⟩
theorem ap4 (_h0 : 0 ≤ a) (_h1 : a < 18446744073709551616) (_h2 : 0 < b) : Calls Try.prog 23 #[.int .i64 4, .int .i64 n, .int .u64 a, .int .u64 b] w fun e w' => e = .returned (.int .u64 (apZ 4 n a b)) ∧ Grown w w' := by
  have hmf : ∀ (fn : Fn) (first cap : Array Value) (w : World), (Instr.makeFunc fn first cap).run Try.prog w = .ok (.func fn first cap) w := fun _ _ _ _ => rfl
  have e : apZ 4 n a b = a / b := by simp [apZ]
  rw [e]
  clear e
  have hb : (b == 0) = false := by simp; omega
  have H1 := Lib.hid _h1
  clear _h1
  go_enter Try.func23, Try.ntmps23
  go_wp2
  go_ret
  have h1 := H1.out
  exact ⟨ret_int (wrap_tdiv _h0 h1 _h2), ((Grown.refl _).alloc _ _).alloc _ _⟩
theorem ap5 (h0 : 0 ≤ a) (h1 : a < 18446744073709551616) (h2 : 0 ≤ b) (h3 : b < 18446744073709551616) : Calls Try.prog 23 #[.int .i64 5, .int .i64 n, .int .u64 a, .int .u64 b] w fun e w' => e = .returned (.int .u64 (apZ 5 n a b)) ∧ Grown w w' := by
  have hmf : ∀ (fn : Fn) (first cap : Array Value) (w : World), (Instr.makeFunc fn first cap).run Try.prog w = .ok (.func fn first cap) w := fun _ _ _ _ => rfl
  have e : apZ 5 n a b = ((a.toNat &&& b.toNat : Nat) : Int) := by simp [apZ]
  rw [e]
  clear e
  rw [← u64_and a b h0 h1 h2 h3]
  clear h0 h1 h2 h3
  go_enter Try.func23, Try.ntmps23
  go_wp2
  go_ret
  exact ⟨rfl, ((Grown.refl _).alloc _ _).alloc _ _⟩
theorem ap6 (h0 : 0 ≤ a) (h1 : a < 18446744073709551616) (h2 : 0 ≤ b) (h3 : b < 18446744073709551616) : Calls Try.prog 23 #[.int .i64 6, .int .i64 n, .int .u64 a, .int .u64 b] w fun e w' => e = .returned (.int .u64 (apZ 6 n a b)) ∧ Grown w w' := by
  have hmf : ∀ (fn : Fn) (first cap : Array Value) (w : World), (Instr.makeFunc fn first cap).run Try.prog w = .ok (.func fn first cap) w := fun _ _ _ _ => rfl
  have e : apZ 6 n a b = ((a.toNat ||| b.toNat : Nat) : Int) := by simp [apZ]
  rw [e]
  clear e
  rw [← u64_or a b h0 h1 h2 h3]
  clear h0 h1 h2 h3
  go_enter Try.func23, Try.ntmps23
  go_wp2
  go_ret
  exact ⟨rfl, ((Grown.refl _).alloc _ _).alloc _ _⟩
theorem ap7 (h0 : 0 ≤ a) (h1 : a < 18446744073709551616) (h2 : 0 ≤ b) (h3 : b < 18446744073709551616) : Calls Try.prog 23 #[.int .i64 7, .int .i64 n, .int .u64 a, .int .u64 b] w fun e w' => e = .returned (.int .u64 (apZ 7 n a b)) ∧ Grown w w' := by
  have hmf : ∀ (fn : Fn) (first cap : Array Value) (w : World), (Instr.makeFunc fn first cap).run Try.prog w = .ok (.func fn first cap) w := fun _ _ _ _ => rfl
  have e : apZ 7 n a b = ((a.toNat ^^^ b.toNat : Nat) : Int) := by simp [apZ]
  rw [e]
  clear e
  rw [← u64_xor a b h0 h1 h2 h3]
  clear h0 h1 h2 h3
  go_enter Try.func23, Try.ntmps23
  go_wp2
  go_ret
  exact ⟨rfl, ((Grown.refl _).alloc _ _).alloc _ _⟩
theorem ap10  : Calls Try.prog 23 #[.int .i64 10, .int .i64 n, .int .u64 a, .int .u64 b] w fun e w' => e = .returned (.int .u64 (apZ 10 n a b)) ∧ Grown w w' := by
  have hmf : ∀ (fn : Fn) (first cap : Array Value) (w : World), (Instr.makeFunc fn first cap).run Try.prog w = .ok (.func fn first cap) w := fun _ _ _ _ => rfl
  have e : apZ 10 n a b = tr (a == b) := by simp [apZ]
  rw [e]
  clear e
  go_enter Try.func23, Try.ntmps23
  go_wp2_with (go_at_call 34; refine (eq_any _ _ _).mono ?_; rintro e w' ⟨rfl, rfl⟩)
  go_ret
  exact ⟨rfl, ((Grown.refl _).alloc _ _).alloc _ _⟩
theorem ap11  : Calls Try.prog 23 #[.int .i64 11, .int .i64 n, .int .u64 a, .int .u64 b] w fun e w' => e = .returned (.int .u64 (apZ 11 n a b)) ∧ Grown w w' := by
  have hmf : ∀ (fn : Fn) (first cap : Array Value) (w : World), (Instr.makeFunc fn first cap).run Try.prog w = .ok (.func fn first cap) w := fun _ _ _ _ => rfl
  have e : apZ 11 n a b = tr (decide (a < b)) := by simp [apZ]
  rw [e]
  clear e
  go_enter Try.func23, Try.ntmps23
  go_wp2_with (go_at_call 36; refine (ult_any _ _ _).mono ?_; rintro e w' ⟨rfl, rfl⟩)
  go_ret
  exact ⟨rfl, ((Grown.refl _).alloc _ _).alloc _ _⟩
theorem ap8 (hn : isW n = true) (h0 : 0 ≤ b) : Calls Try.prog 23 #[.int .i64 8, .int .i64 n, .int .u64 a, .int .u64 b] w fun e w' => e = .returned (.int .u64 (apZ 8 n a b)) ∧ Grown w w' := by
  have hmf : ∀ (fn : Fn) (first cap : Array Value) (w : World), (Instr.makeFunc fn first cap).run Try.prog w = .ok (.func fn first cap) w := fun _ _ _ _ => rfl
  obtain ⟨n1, n2⟩ := isW_range hn
  clear hn
  by_cases hlt : n ≤ b
  · have e : apZ 8 n a b = 0 := by simp [apZ, hlt]
    rw [e]
    clear e
    go_enter Try.func23, Try.ntmps23
    go_wp2
    go_ret
    exact ⟨rfl, ((Grown.refl _).alloc _ _).alloc _ _⟩
  · have e : apZ 8 n a b = (a * 2 ^ b.toNat) % 18446744073709551616 := by simp [apZ, hlt]
    rw [e]
    clear e
    have hlt : b < n := by omega
    go_enter Try.func23, Try.ntmps23
    go_wp2
    go_ret
    exact ⟨ret_int (IntKind.wrap_u64 _), ((Grown.refl _).alloc _ _).alloc _ _⟩
theorem ap9 (hn : isW n = true) (h0 : 0 ≤ b) : Calls Try.prog 23 #[.int .i64 9, .int .i64 n, .int .u64 a, .int .u64 b] w fun e w' => e = .returned (.int .u64 (apZ 9 n a b)) ∧ Grown w w' := by
  have hmf : ∀ (fn : Fn) (first cap : Array Value) (w : World), (Instr.makeFunc fn first cap).run Try.prog w = .ok (.func fn first cap) w := fun _ _ _ _ => rfl
  obtain ⟨n1, n2⟩ := isW_range hn
  clear hn
  by_cases hlt : n ≤ b
  · have e : apZ 9 n a b = 0 := by simp [apZ, hlt]
    rw [e]
    clear e
    go_enter Try.func23, Try.ntmps23
    go_wp2
    go_ret
    exact ⟨rfl, ((Grown.refl _).alloc _ _).alloc _ _⟩
  · have e : apZ 9 n a b = a / 2 ^ b.toNat := by simp [apZ, hlt]
    rw [e]
    clear e
    have hlt : b < n := by omega
    go_enter Try.func23, Try.ntmps23
    go_wp2
    go_ret
    exact ⟨rfl, ((Grown.refl _).alloc _ _).alloc _ _⟩
theorem ap12 : Calls Try.prog 23 #[.int .i64 12, .int .i64 n, .int .u64 a, .int .u64 b] w fun e w' => e = .returned (.int .u64 (apZ 12 n a b)) ∧ Grown w w' := by
  have hmf : ∀ (fn : Fn) (first cap : Array Value) (w : World), (Instr.makeFunc fn first cap).run Try.prog w = .ok (.func fn first cap) w := fun _ _ _ _ => rfl
  have e : apZ 12 n a b = tr (decide (sgnZ a n < sgnZ b n)) := by simp [apZ]
  rw [e]
  clear e
  go_enter Try.func23, Try.ntmps23
  go_wp2_with (go_at_call 37; refine (slt_any _ n _ _ _ (by go_simp)).mono ?_; rintro e w' ⟨rfl, nq, rfl⟩)
  go_ret
  exact ⟨rfl, grown_drewN (((Grown.refl _).alloc _ _).alloc _ _) _⟩
end

theorem ap_any (k n a b : Int) (w : World) (h : isW n = true) (h1 : 1 ≤ k) (h2 : k ≤ 12) (a0 : 0 ≤ a) (a1 : a < 18446744073709551616) (b0 : 0 ≤ b) (b1 : b < 18446744073709551616) (hd : k ≠ 4 ∨ 0 < b) :
    Calls Try.prog 23 #[.int .i64 k, .int .i64 n, .int .u64 a, .int .u64 b] w fun e w' => e = .returned (.int .u64 (apZ k n a b)) ∧ Grown w w' := by
  have ks : k = 1 ∨ k = 2 ∨ k = 3 ∨ k = 4 ∨ k = 5 ∨ k = 6 ∨ k = 7 ∨ k = 8 ∨ k = 9 ∨ k = 10 ∨ k = 11 ∨ k = 12 := by omega
  rcases ks with rfl | rfl | rfl | rfl | rfl | rfl | rfl | rfl | rfl | rfl | rfl | rfl
  · exact ap1 n a b w
  · exact ap2 n a b w
  · exact ap3 n a b w
  · exact ap4 n a b w a0 a1 (by omega)
  · exact ap5 n a b w a0 a1 b0 b1
  · exact ap6 n a b w a0 a1 b0 b1
  · exact ap7 n a b w a0 a1 b0 b1
  · exact ap8 n a b w h b0
  · exact ap9 n a b w h b0
  · exact ap10 n a b w
  · exact ap11 n a b w
  · exact ap12 n a b w
end Go.Proofs.Ytdldcondjidnfaa
