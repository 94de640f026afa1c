/-
  Plain laws of what the document says of numbers of a width. No Go in sight.
-/
import Derived.Test.YtdldcondjidnfaaPlain
namespace Go.Proofs.Ytdldcondjidnfaa
open Go.RowKit

theorem doV_go {k n : Int} (a b : Int) (hn : isW n = true) (h1 : 1 ≤ k) (h2 : k ≤ 12) (h4 : k ≠ 4) : doV k n a b = opZ k n (cutZ a n) (cutZ b n) := by
  have ht := isTwo_mk hn h1 h2
  have hp : trap k n b = false := by simp [trap, h4]
  simp [doV, ht, hp]
theorem doC_go {k n : Int} (b : Int) (hn : isW n = true) (h1 : 1 ≤ k) (h2 : k ≤ 12) (h4 : k ≠ 4) : doC k n b = 0 := by
  have ht := isTwo_mk hn h1 h2
  have hp : trap k n b = false := by simp [trap, h4]
  simp [doC, ht, hp]
theorem doV1 {n : Int} (a b : Int) (hn : isW n = true) : doV 1 n a b = (cutZ a n + cutZ b n) % pw n := by
  rw [doV_go a b hn (by omega) (by omega) (by omega)]; simp [opZ]
theorem doV2 {n : Int} (a b : Int) (hn : isW n = true) : doV 2 n a b = (cutZ a n - cutZ b n) % pw n := by
  rw [doV_go a b hn (by omega) (by omega) (by omega)]; simp [opZ]
theorem doV3 {n : Int} (a b : Int) (hn : isW n = true) : doV 3 n a b = (cutZ a n * cutZ b n) % pw n := by
  rw [doV_go a b hn (by omega) (by omega) (by omega)]; simp [opZ]
theorem doV5 {n : Int} (a b : Int) (hn : isW n = true) : doV 5 n a b = (((cutZ a n).toNat &&& (cutZ b n).toNat : Nat) : Int) := by
  rw [doV_go a b hn (by omega) (by omega) (by omega)]; simp [opZ]
theorem doV6 {n : Int} (a b : Int) (hn : isW n = true) : doV 6 n a b = (((cutZ a n).toNat ||| (cutZ b n).toNat : Nat) : Int) := by
  rw [doV_go a b hn (by omega) (by omega) (by omega)]; simp [opZ]
theorem doV7 {n : Int} (a b : Int) (hn : isW n = true) : doV 7 n a b = (((cutZ a n).toNat ^^^ (cutZ b n).toNat : Nat) : Int) := by
  rw [doV_go a b hn (by omega) (by omega) (by omega)]; simp [opZ]
theorem doV8 {n : Int} (a b : Int) (hn : isW n = true) : doV 8 n a b = if n ≤ cutZ b n then 0 else (cutZ a n * 2 ^ (cutZ b n).toNat) % pw n := by
  rw [doV_go a b hn (by omega) (by omega) (by omega)]; simp [opZ]
theorem doV9 {n : Int} (a b : Int) (hn : isW n = true) : doV 9 n a b = if n ≤ cutZ b n then 0 else cutZ a n / 2 ^ (cutZ b n).toNat := by
  rw [doV_go a b hn (by omega) (by omega) (by omega)]; simp [opZ]
theorem doV10 {n : Int} (a b : Int) (hn : isW n = true) : doV 10 n a b = tr (cutZ a n == cutZ b n) := by
  rw [doV_go a b hn (by omega) (by omega) (by omega)]; simp [opZ]
theorem doV11 {n : Int} (a b : Int) (hn : isW n = true) : doV 11 n a b = tr (decide (cutZ a n < cutZ b n)) := by
  rw [doV_go a b hn (by omega) (by omega) (by omega)]; simp [opZ]
theorem sgn_cut (a n : Int) : sgnZ (cutZ a n) n = sgnZ a n := by
  cases h : isW n
  · simp [sgnZ, h]
  · simp [sgnZ, cutZ, h]
theorem doV12 {n : Int} (a b : Int) (hn : isW n = true) : doV 12 n a b = tr (decide (sgnZ a n < sgnZ b n)) := by
  rw [doV_go a b hn (by omega) (by omega) (by omega)]; simp [opZ, sgn_cut]

/-! ### times -/
theorem mul_two {n : Int} (a : Int) (hn : isW n = true) : doV 3 n a (cutZ 2 n) = doV 1 n a a := by
  rw [doV3 _ _ hn, doV1 _ _ hn, cutZ_cutZ, cutZ_yes 2 hn, Int.mul_emod, Int.emod_emod, ← Int.mul_emod]
  congr 1; omega
theorem one_cut {n : Int} (hn : isW n = true) : cutZ 1 n = 1 := by have := pw_ge2 hn; exact cutZ_small hn (by omega) (by omega)
theorem shl_one {n : Int} (a : Int) (hn : isW n = true) (h1 : n ≠ 1) : doV 8 n a (cutZ 1 n) = doV 1 n a a := by
  obtain ⟨x, y⟩ := isW_range hn
  rw [doV8 _ _ hn, doV1 _ _ hn, cutZ_cutZ, one_cut hn, if_neg (by omega)]
  congr 1; simp; omega
theorem mul_sum {n : Int} (a b : Int) (hn : isW n = true) : doV 3 n a (doV 1 n b (cutZ 1 n)) = doV 1 n (doV 3 n a b) a := by
  have e1 := doV_cut 1 n b (cutZ 1 n) hn
  have e2 := doV_cut 3 n a b hn
  rw [doV3 _ _ hn, e1, doV1 _ _ hn, doV1 _ _ hn, e2, doV3 _ _ hn, cutZ_cutZ, one_cut hn, Int.mul_emod, Int.emod_emod, ← Int.mul_emod, Int.emod_add_emod]
  congr 1; rw [Int.mul_add, Int.mul_one]
end Go.Proofs.Ytdldcondjidnfaa
