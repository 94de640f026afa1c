/-
  Plain laws of what the document says of numbers of a width. No Go in sight.
-/
import Derived.Test.YtdldcondjidnfaaPlain
namespace Go.Proofs.Ytdldcondjidnfaa
open Go.RowKit

theorem doV_go {k n : Int} (a b : Int) (hn : isW n = true) (h1 : 1 ≤ k) (h2 : k ≤ 12) (h4 : k ≠ 4) : doV k n a b = opZ k n (cutZ a n) (cutZ b n) := by
  have ht := isTwo_mk hn h1 h2
  have hp : trap k n b = false := by simp [trap, h4]
  simp [doV, ht, hp]
theorem doC_go {k n : Int} (b : Int) (hn : isW n = true) (h1 : 1 ≤ k) (h2 : k ≤ 12) (h4 : k ≠ 4) : doC k n b = 0 := by
  have ht := isTwo_mk hn h1 h2
  have hp : trap k n b = false := by simp [trap, h4]
  simp [doC, ht, hp]
theorem doV1 {n : Int} (a b : Int) (hn : isW n = true) : doV 1 n a b = (cutZ a n + cutZ b n) % pw n := by
  rw [doV_go a b hn (by omega) (by omega) (by omega)]; simp [opZ]
theorem doV2 {n : Int} (a b : Int) (hn : isW n = true) : doV 2 n a b = (cutZ a n - cutZ b n) % pw n := by
  rw [doV_go a b hn (by omega) (by omega) (by omega)]; simp [opZ]
theorem doV3 {n : Int} (a b : Int) (hn : isW n = true) : doV 3 n a b = (cutZ a n * cutZ b n) % pw n := by
  rw [doV_go a b hn (by omega) (by omega) (by omega)]; simp [opZ]
theorem doV5 {n : Int} (a b : Int) (hn : isW n = true) : doV 5 n a b = (((cutZ a n).toNat &&& (cutZ b n).toNat : Nat) : Int) := by
  rw [doV_go a b hn (by omega) (by omega) (by omega)]; simp [opZ]
theorem doV6 {n : Int} (a b : Int) (hn : isW n = true) : doV 6 n a b = (((cutZ a n).toNat ||| (cutZ b n).toNat : Nat) : Int) := by
  rw [doV_go a b hn (by omega) (by omega) (by omega)]; simp [opZ]
theorem doV7 {n : Int} (a b : Int) (hn : isW n = true) : doV 7 n a b = (((cutZ a n).toNat ^^^ (cutZ b n).toNat : Nat) : Int) := by
  rw [doV_go a b hn (by omega) (by omega) (by omega)]; simp [opZ]
theorem doV8 {n : Int} (a b : Int) (hn : isW n = true) : doV 8 n a b = if n ≤ cutZ b n then 0 else (cutZ a n * 2 ^ (cutZ b n).toNat) % pw n := by
  rw [doV_go a b hn (by omega) (by omega) (by omega)]; simp [opZ]
theorem doV9 {n : Int} (a b : Int) (hn : isW n = true) : doV 9 n a b = if n ≤ cutZ b n then 0 else cutZ a n / 2 ^ (cutZ b n).toNat := by
  rw [doV_go a b hn (by omega) (by omega) (by omega)]; simp [opZ]
theorem doV10 {n : Int} (a b : Int) (hn : isW n = true) : doV 10 n a b = tr (cutZ a n == cutZ b n) := by
  rw [doV_go a b hn (by omega) (by omega) (by omega)]; simp [opZ]
theorem doV11 {n : Int} (a b : Int) (hn : isW n = true) : doV 11 n a b = tr (decide (cutZ a n < cutZ b n)) := by
  rw [doV_go a b hn (by omega) (by omega) (by omega)]; simp [opZ]
theorem sgn_cut (a n : Int) : sgnZ (cutZ a n) n = sgnZ a n := by
  cases h : isW n
  · simp [sgnZ, h]
  · simp [sgnZ, cutZ, h]
theorem doV12 {n : Int} (a b : Int) (hn : isW n = true) : doV 12 n a b = tr (decide (sgnZ a n < sgnZ b n)) := by
  rw [doV_go a b hn (by omega) (by omega) (by omega)]; simp [opZ, sgn_cut]

/-! ### times -/
theorem mul_two {n : Int} (a : Int) (hn : isW n = true) : doV 3 n a (cutZ 2 n) = doV 1 n a a := by
  rw [doV3 _ _ hn, doV1 _ _ hn, cutZ_cutZ, cutZ_yes 2 hn, Int.mul_emod, Int.emod_emod, ← Int.mul_emod]
  congr 1; omega
theorem one_cut {n : Int} (hn : isW n = true) : cutZ 1 n = 1 := by have := pw_ge2 hn; exact cutZ_small hn (by omega) (by omega)
theorem shl_one {n : Int} (a : Int) (hn : isW n = true) (h1 : n ≠ 1) : doV 8 n a (cutZ 1 n) = doV 1 n a a := by
  obtain ⟨x, y⟩ := isW_range hn
  rw [doV8 _ _ hn, doV1 _ _ hn, cutZ_cutZ, one_cut hn, if_neg (by omega)]
  congr 1; simp; omega
theorem mul_sum {n : Int} (a b : Int) (hn : isW n = true) : doV 3 n a (doV 1 n b (cutZ 1 n)) = doV 1 n (doV 3 n a b) a := by
  have e1 := doV_cut 1 n b (cutZ 1 n) hn
  have e2 := doV_cut 3 n a b hn
  rw [doV3 _ _ hn, e1, doV1 _ _ hn, doV1 _ _ hn, e2, doV3 _ _ hn, cutZ_cutZ, one_cut hn, Int.mul_emod, Int.emod_emod, ← Int.mul_emod, Int.emod_add_emod]
  congr 1; rw [Int.mul_add, Int.mul_one]

/-! ### shifts -/
theorem mask_div (d k : Nat) : (2 ^ (d + k) - 1) / 2 ^ k = 2 ^ d - 1 := by
  have h1 : 0 < 2 ^ k := Nat.pow_pos (by omega)
  have h2 : 0 < 2 ^ d := Nat.pow_pos (by omega)
  have e : 2 ^ (d + k) = 2 ^ d * 2 ^ k := Nat.pow_add 2 d k
  rw [e]
  apply Nat.div_eq_of_lt_le
  · rw [Nat.sub_mul, Nat.one_mul]; omega
  · have : 2 ^ d - 1 + 1 = 2 ^ d := by omega
    rw [this]
    have : 0 < 2 ^ d * 2 ^ k := Nat.mul_pos h2 h1
    omega
theorem up_down (x d k : Nat) : (x * 2 ^ k % 2 ^ (d + k)) / 2 ^ k = x &&& ((2 ^ (d + k) - 1) / 2 ^ k) := by
  rw [mask_div, Nat.and_two_pow_sub_one_eq_mod, Nat.pow_add, Nat.mul_mod_mul_right]
  exact Nat.mul_div_cancel _ (Nat.pow_pos (by omega))
theorem shl_shr {n M : Int} (a b : Int) (hn : isW n = true) (hM : M = pw n - 1) (hk : cutZ b n < n) : doV 9 n (doV 8 n a b) b = bits .and .u64 (cutZ a n) (M / 2 ^ (cutZ b n).toNat) := by
  have e8 := doV_cut 8 n a b hn
  have hk' : ¬ n ≤ cutZ b n := by omega
  rw [doV9 _ _ hn, e8, doV8 _ _ hn, if_neg hk', if_neg hk']
  obtain ⟨A0, A1⟩ := cutZ_range a hn
  obtain ⟨B0, B1⟩ := cutZ_range b hn
  have hp := pw_le n
  have pe := pw_eq hn
  have hpp := pw_pos n
  generalize cutZ a n = A at *
  generalize cutZ b n = B at *
  obtain ⟨x, rfl⟩ := Int.eq_ofNat_of_zero_le A0
  obtain ⟨k, rfl⟩ := Int.eq_ofNat_of_zero_le B0
  have hd : n.toNat = (n.toNat - k) + k := by omega
  have hm : M / 2 ^ ((k : Int).toNat) = (((2 ^ n.toNat - 1) / 2 ^ k : Nat) : Int) := by
    have : 0 < 2 ^ n.toNat := Nat.pow_pos (by omega)
    have e1 : ((2 ^ n.toNat - 1 : Nat) : Int) = ((2 ^ n.toNat : Nat) : Int) - 1 := by omega
    rw [hM, pe, Int.toNat_natCast, ← e1, Int.natCast_ediv]
    congr 1
  have hle : (2 ^ n.toNat - 1) / 2 ^ k ≤ 2 ^ n.toNat - 1 := Nat.div_le_self _ _
  rw [hm, u64_and_nat x _ (by omega) (by omega), pe, Int.toNat_natCast]
  have := up_down x (n.toNat - k) k
  rw [← hd] at this
  rw [← this]
  push_cast
  rfl
theorem shl_far0 {n : Int} (a b : Int) (hn : isW n = true) (hk : n ≤ cutZ b n) : doV 8 n a b = 0 := by rw [doV8 _ _ hn, if_pos hk]
theorem shr_far0 {n : Int} (a b : Int) (hn : isW n = true) (hk : n ≤ cutZ b n) : doV 9 n a b = 0 := by rw [doV9 _ _ hn, if_pos hk]

/-! ### signs -/
theorem sgn_range {n : Int} (a : Int) (hn : isW n = true) : - pw n ≤ 2 * sgnZ a n ∧ 2 * sgnZ a n ≤ pw n - 2 := by
  have h := cutZ_range a hn
  have e : sgnZ a n = if 2 * cutZ a n < pw n then cutZ a n else cutZ a n - pw n := by simp [sgnZ, cutZ, hn]
  have h2 : pw n = 2 * (pw n / 2) := by rcases isW_cases hn with rfl | rfl | rfl | rfl | rfl <;> simp [pw]
  rw [e]
  split <;> omega
theorem slt_one {n : Int} (a b : Int) (hn : isW n = true) : (doV 12 n a b == 1) = decide (sgnZ a n < sgnZ b n) := by
  rw [doV12 _ _ hn]
  by_cases h : sgnZ a n < sgnZ b n <;> simp [h, tr]
theorem top_one {n : Int} (a : Int) (hn : isW n = true) : (doV 9 n a (n - 1) == 1) = decide (sgnZ a n < 0) := by
  have h := cutZ_range a hn
  have e : sgnZ a n = if 2 * cutZ a n < pw n then cutZ a n else cutZ a n - pw n := by simp [sgnZ, cutZ, hn]
  rw [doV9 _ _ hn, e]
  generalize cutZ a n = A at h ⊢
  rw [Bool.eq_iff_iff]
  rcases isW_cases hn with rfl | rfl | rfl | rfl | rfl <;> simp [pw, cutZ, isW] at h ⊢ <;> split <;> omega
theorem sgn_back {n : Int} (a : Int) (hn : isW n = true) : cutZ (IntKind.u64.wrap (sgnZ a n)) n = cutZ a n := by
  have e : sgnZ a n = if 2 * cutZ a n < pw n then cutZ a n else cutZ a n - pw n := by simp [sgnZ, cutZ, hn]
  rw [IntKind.wrap_u64, cutZ_mod _ hn, e]
  split
  · exact cutZ_cutZ _ _
  · rw [cutZ_yes _ hn, Int.sub_emod_right, ← cutZ_yes _ hn, cutZ_cutZ]

/-! ### order doesn't matter -/
theorem comm_k {k n : Int} (a b : Int) (hn : isW n = true) (hk : k = 1 ∨ k = 3 ∨ k = 5 ∨ k = 6 ∨ k = 7 ∨ k = 10) : doV k n b a = doV k n a b := by
  rcases hk with rfl | rfl | rfl | rfl | rfl | rfl
  · rw [doV1 _ _ hn, doV1 _ _ hn, Int.add_comm]
  · rw [doV3 _ _ hn, doV3 _ _ hn, Int.mul_comm]
  · rw [doV5 _ _ hn, doV5 _ _ hn, Nat.and_comm]
  · rw [doV6 _ _ hn, doV6 _ _ hn, Nat.or_comm]
  · rw [doV7 _ _ hn, doV7 _ _ hn, Nat.xor_comm]
  · rw [doV10 _ _ hn, doV10 _ _ hn, Bool.beq_comm]
theorem sgn_inj {n : Int} (a b : Int) (hn : isW n = true) (h : sgnZ a n = sgnZ b n) : cutZ a n = cutZ b n := by
  rw [← sgn_back a hn, ← sgn_back b hn, h]
theorem three_u {n : Int} (a b : Int) (hn : isW n = true) : doV 11 n a b + doV 11 n b a + doV 10 n a b = 1 := by
  rw [doV11 _ _ hn, doV11 _ _ hn, doV10 _ _ hn]
  rcases Int.lt_trichotomy (cutZ a n) (cutZ b n) with h | h | h
  · have h2 : ¬ cutZ b n < cutZ a n := by omega
    have h3 : (cutZ a n == cutZ b n) = false := by simp; omega
    simp [tr, h, h2, h3]
  · simp [tr, h]
  · have h2 : ¬ cutZ a n < cutZ b n := by omega
    have h3 : (cutZ a n == cutZ b n) = false := by simp; omega
    simp [tr, h, h2, h3]
theorem three_s {n : Int} (a b : Int) (hn : isW n = true) : doV 12 n a b + doV 12 n b a + doV 10 n a b = 1 := by
  rw [doV12 _ _ hn, doV12 _ _ hn, doV10 _ _ hn]
  rcases Int.lt_trichotomy (sgnZ a n) (sgnZ b n) with h | h | h
  · have h2 : ¬ sgnZ b n < sgnZ a n := by omega
    have h3 : (cutZ a n == cutZ b n) = false := by
      simp only [beq_eq_false_iff_ne]; intro e; have : sgnZ a n = sgnZ b n := by rw [← sgn_cut a, ← sgn_cut b, e]
      omega
    simp [tr, h, h2, h3]
  · have := sgn_inj a b hn h
    simp [tr, h, this]
  · have h2 : ¬ sgnZ a n < sgnZ b n := by omega
    have h3 : (cutZ a n == cutZ b n) = false := by
      simp only [beq_eq_false_iff_ne]; intro e; have : sgnZ a n = sgnZ b n := by rw [← sgn_cut a, ← sgn_cut b, e]
      omega
    simp [tr, h, h2, h3]
theorem wrap_nest {x y z : Int} (h : x + y + z = 1) : IntKind.u64.wrap (IntKind.u64.wrap (x + y) + z) = 1 := by
  rw [IntKind.wrap_u64, IntKind.wrap_u64]; omega

/-! ### bits and their opposite -/
theorem nat_and_not (x n : Nat) (h : x < 2 ^ n) : x &&& (x ^^^ (2 ^ n - 1)) = 0 := by
  apply Nat.eq_of_testBit_eq
  intro i
  simp only [Nat.testBit_and, Nat.testBit_xor, Nat.testBit_two_pow_sub_one, Nat.zero_testBit]
  by_cases hi : i < n
  · cases x.testBit i <;> simp [hi]
  · have : x.testBit i = false := Nat.testBit_lt_two_pow (Nat.lt_of_lt_of_le h (Nat.pow_le_pow_right (by omega) (by omega)))
    simp [this]
theorem nat_or_not (x n : Nat) (h : x < 2 ^ n) : x ||| (x ^^^ (2 ^ n - 1)) = 2 ^ n - 1 := by
  apply Nat.eq_of_testBit_eq
  intro i
  simp only [Nat.testBit_or, Nat.testBit_xor, Nat.testBit_two_pow_sub_one]
  by_cases hi : i < n
  · cases x.testBit i <;> simp [hi]
  · have : x.testBit i = false := Nat.testBit_lt_two_pow (Nat.lt_of_lt_of_le h (Nat.pow_le_pow_right (by omega) (by omega)))
    simp [this, hi]
theorem nat_xor_not (x n : Nat) : x ^^^ (x ^^^ (2 ^ n - 1)) = 2 ^ n - 1 := by
  rw [← Nat.xor_assoc, Nat.xor_self, Nat.zero_xor]
theorem all_cut {n : Int} (hn : isW n = true) : cutZ 18446744073709551615 n = ((2 ^ n.toNat - 1 : Nat) : Int) := by
  rcases isW_cases hn with rfl | rfl | rfl | rfl | rfl <;> decide
theorem not_val {n : Int} (v : Int) (hn : isW n = true) : doV 7 n v (cutZ 18446744073709551615 n) = (((cutZ v n).toNat ^^^ (2 ^ n.toNat - 1) : Nat) : Int) := by
  rw [doV7 _ _ hn, cutZ_cutZ, all_cut hn, Int.toNat_natCast]
section
variable {n : Int} (v : Int) (hn : isW n = true)
include hn
theorem not_and : doV 5 n v (doV 7 n v (cutZ 18446744073709551615 n)) = 0 := by
  have e := doV_cut 7 n v (cutZ 18446744073709551615 n) hn
  obtain ⟨A0, A1⟩ := cutZ_range v hn
  rw [doV5 _ _ hn, e, not_val v hn, Int.toNat_natCast, nat_and_not _ _ (nat_lt hn A0 A1)]; rfl
theorem not_or : doV 6 n v (doV 7 n v (cutZ 18446744073709551615 n)) = cutZ 18446744073709551615 n := by
  have e := doV_cut 7 n v (cutZ 18446744073709551615 n) hn
  obtain ⟨A0, A1⟩ := cutZ_range v hn
  rw [doV6 _ _ hn, e, not_val v hn, Int.toNat_natCast, nat_or_not _ _ (nat_lt hn A0 A1), all_cut hn]
theorem not_xor : doV 7 n v (doV 7 n v (cutZ 18446744073709551615 n)) = cutZ 18446744073709551615 n := by
  have e := doV_cut 7 n v (cutZ 18446744073709551615 n) hn
  rw [doV7 v (doV 7 n v _) hn, e, not_val v hn, Int.toNat_natCast, nat_xor_not, all_cut hn]
theorem self_xor : doV 7 n v v = 0 := by rw [doV7 _ _ hn, Nat.xor_self]; rfl
theorem self_and : doV 5 n v v = cutZ v n := by
  obtain ⟨A0, A1⟩ := cutZ_range v hn
  rw [doV5 _ _ hn, Nat.and_self]; omega
theorem self_or : doV 6 n v v = cutZ v n := by
  obtain ⟨A0, A1⟩ := cutZ_range v hn
  rw [doV6 _ _ hn, Nat.or_self]; omega
end

/-! ### adding and taking away; quotients -/
theorem add_sub {n : Int} (a b : Int) (hn : isW n = true) : doV 2 n (doV 1 n a b) b = cutZ a n := by
  have e := doV_cut 1 n a b hn
  obtain ⟨A0, A1⟩ := cutZ_range a hn
  rw [doV2 _ _ hn, e, doV1 _ _ hn, Int.emod_sub_emod, Int.add_sub_cancel]
  exact Int.emod_eq_of_lt A0 A1
theorem div_go {n : Int} (a b : Int) (hn : isW n = true) (hb : cutZ b n ≠ 0) : doV 4 n a b = cutZ a n / cutZ b n ∧ doC 4 n b = 0 := by
  have ht := isTwo_mk (k := 4) hn (by omega) (by omega)
  have hp : trap 4 n b = false := by simp [trap, hb]
  simp [doV, doC, ht, hp, opZ]
theorem div_no {n : Int} (a b : Int) (hn : isW n = true) (hb : cutZ b n = 0) : doV 4 n a b = 0 ∧ doC 4 n b = 8 := by
  have ht := isTwo_mk (k := 4) hn (by omega) (by omega)
  have hp : trap 4 n b = true := by simp [trap, hb]
  simp [doV, doC, ht, hp]
theorem rest_lt {n : Int} (a b : Int) (hn : isW n = true) (hb : cutZ b n ≠ 0) : doV 2 n a (doV 3 n (doV 4 n a b) b) < cutZ b n := by
  have e1 := doV_cut 4 n a b hn
  have e2 := doV_cut 3 n (doV 4 n a b) b hn
  obtain ⟨A0, A1⟩ := cutZ_range a hn
  obtain ⟨B0, B1⟩ := cutZ_range b hn
  rw [doV2 _ _ hn, e2, doV3 _ _ hn, e1, (div_go a b hn hb).1, Int.sub_emod_emod, Int.mul_comm, ← Int.emod_def]
  have h1 := Int.emod_nonneg (cutZ a n) hb
  have h2 := Int.emod_lt_of_pos (cutZ a n) (by omega : 0 < cutZ b n)
  rw [Int.emod_eq_of_lt h1 (by omega)]
  exact h2
theorem truth_le {k n : Int} (a b : Int) (hk : 10 ≤ k) : doV k n a b ≤ 1 := by
  cases ht : isTwo k n
  · simp [doV, ht]
  · have hp : trap k n b = false := by simp [trap]; omega
    obtain ⟨x, y, z⟩ := isTwo_yes ht
    rw [doV_go a b z x y (by omega)]
    have : k = 10 ∨ k = 11 ∨ k = 12 := by omega
    rcases this with rfl | rfl | rfl <;> simp [opZ] <;> exact (tr_range _).2
end Go.Proofs.Ytdldcondjidnfaa
