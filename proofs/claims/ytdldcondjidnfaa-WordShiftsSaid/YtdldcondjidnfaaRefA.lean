/-
  The document's Do: contracts, kind by kind.
-/
import Derived.Test.YtdldcondjidnfaaWordB
import Derived.LoopTactic
namespace Go.Proofs.Ytdldcondjidnfaa
open Go.RowKit

def shlV (A n : Int) (m : Nat) : Int := cutZ (A * 2 ^ m) n
def shrV (A : Int) (m : Nat) : Int := A / 2 ^ m
theorem wrap_lo (x : Int) : 0 ≤ IntKind.u64.wrap x := by rw [IntKind.wrap_u64]; omega
theorem wrap_hi (x : Int) : IntKind.u64.wrap x < 18446744073709551616 := by rw [IntKind.wrap_u64]; omega
theorem cutZ_wrap (x n : Int) : cutZ (IntKind.u64.wrap x) n = cutZ x n := by
  rw [IntKind.wrap_u64]
  cases h : isW n
  · simp [cutZ, h]
  · exact cutZ_mod x h
theorem shl_step (A n : Int) (m : Nat) : cutZ (IntKind.u64.wrap (shlV A n m * 2)) n = shlV A n (m + 1) := by
  rw [cutZ_wrap]
  unfold shlV
  cases h : isW n
  · simp [cutZ, h]
  · rw [cutZ_yes _ h, cutZ_yes _ h, cutZ_yes _ h, Int.mul_emod, Int.emod_emod, ← Int.mul_emod, Int.pow_succ, Int.mul_assoc]
theorem shl_zero (A n : Int) (h : cutZ A n = A) : shlV A n 0 = A := by unfold shlV; simpa using h
theorem shl_dead (A n : Int) (m d : Nat) (hn : isW n = true) (h : shlV A n m = 0) : shlV A n (m + d) = 0 := by
  unfold shlV at *
  rw [cutZ_yes _ hn] at *
  rw [Int.pow_add, ← Int.mul_assoc, Int.mul_emod, h]
  simp
theorem shl_far (A n : Int) (m : Nat) (hn : isW n = true) (h : n ≤ m) : shlV A n m = 0 := by
  obtain ⟨n1, n2⟩ := isW_range hn
  unfold shlV
  rw [cutZ_yes _ hn, pw_eq hn]
  have : m = n.toNat + (m - n.toNat) := by omega
  rw [this, Int.pow_add, ← Int.mul_assoc, Int.mul_assoc, Int.mul_comm (2 ^ n.toNat), ← Int.mul_assoc]
  have e : ((2 ^ n.toNat : Nat) : Int) = 2 ^ n.toNat := by simp
  rw [e]
  exact Int.mul_emod_left _ _
theorem shl_end (A n B : Int) (m : Nat) (hn : isW n = true) (hB : (m : Int) ≤ B) (h : (m : Int) = B ∨ shlV A n m = 0) : shlV A n m = opZ 8 n A B := by
  have e : opZ 8 n A B = if n ≤ B then 0 else (A * 2 ^ B.toNat) % pw n := by simp [opZ]
  rw [e]
  have hb : m + (B.toNat - m) = B.toNat := by omega
  have hE : shlV A n m = shlV A n B.toNat := by
    rcases h with h | h
    · have : m = B.toNat := by omega
      rw [← this]
    · rw [h, ← hb, shl_dead A n m _ hn h]
  rw [hE]
  by_cases c : n ≤ B
  · rw [if_pos c]; exact shl_far A n _ hn (by omega)
  · rw [if_neg c]; unfold shlV; rw [cutZ_yes _ hn]
theorem shr_step (A : Int) (m : Nat) : shrV A m / 2 = shrV A (m + 1) := by
  unfold shrV
  rw [Int.pow_succ, Int.ediv_ediv_of_nonneg (Int.pow_nonneg (by omega))]
theorem shr_lo (A : Int) (m : Nat) (h : 0 ≤ A) : 0 ≤ shrV A m := Int.ediv_nonneg h (Int.pow_nonneg (by omega))
theorem shr_hi (A : Int) (m : Nat) (h : 0 ≤ A) : shrV A m ≤ A := by unfold shrV; exact Int.ediv_le_self _ h
theorem shr_zero (A : Int) : shrV A 0 = A := by simp [shrV]
theorem shr_dead (A : Int) (m d : Nat) (h : shrV A m = 0) : shrV A (m + d) = 0 := by
  unfold shrV at *
  rw [Int.pow_add, ← Int.ediv_ediv_of_nonneg (Int.pow_nonneg (by omega)), h]
  simp
theorem shr_far (A n : Int) (m : Nat) (hn : isW n = true) (h0 : 0 ≤ A) (h1 : A < pw n) (h : n ≤ m) : shrV A m = 0 := by
  obtain ⟨n1, n2⟩ := isW_range hn
  have e : ((2 ^ n.toNat : Nat) : Int) = 2 ^ n.toNat := by simp
  rw [pw_eq hn, e] at h1
  have hz : shrV A n.toNat = 0 := by unfold shrV; exact Int.ediv_eq_zero_of_lt h0 h1
  have : m = n.toNat + (m - n.toNat) := by omega
  rw [this]
  exact shr_dead A _ _ hz
theorem shr_end (A n B : Int) (m : Nat) (hn : isW n = true) (h0 : 0 ≤ A) (h1 : A < pw n) (hB : (m : Int) ≤ B) (h : (m : Int) = B ∨ shrV A m = 0) : shrV A m = opZ 9 n A B := by
  have e : opZ 9 n A B = if n ≤ B then 0 else A / 2 ^ B.toNat := by simp [opZ]
  rw [e]
  have hb : m + (B.toNat - m) = B.toNat := by omega
  have hE : shrV A m = shrV A B.toNat := by
    rcases h with h | h
    · have : m = B.toNat := by omega
      rw [← this]
    · rw [h, ← hb, shr_dead A m _ h]
  rw [hE]
  by_cases c : n ≤ B
  · rw [if_pos c]; exact shr_far A n _ hn h0 h1 (by omega)
  · rw [if_neg c]; rfl
end Go.Proofs.Ytdldcondjidnfaa
