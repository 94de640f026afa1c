/-
  Plain arithmetic for layer word: what the document says of whole numbers of a width, as functions on Int, and their laws. No Go in sight.
-/
import Derived.Laws.BitsAllLaws
import Derived.Laws.Entries
import Derived.RowKit2
namespace Go.Proofs.Ytdldcondjidnfaa
open Go.RowKit

def isW (b : Int) : Bool := b == 1 || b == 8 || b == 16 || b == 32 || b == 64
def pw (b : Int) : Int := if b = 1 then 2 else if b = 8 then 256 else if b = 16 then 65536 else if b = 32 then 4294967296 else 18446744073709551616
def cutZ (v b : Int) : Int := if isW b then v % pw b else 0
def sgnZ (v b : Int) : Int := if isW b then (if 2 * (v % pw b) < pw b then v % pw b else v % pw b - pw b) else 0
def tr (p : Bool) : Int := if p then 1 else 0
def opZ (k n a b : Int) : Int :=
  if k = 1 then (a + b) % pw n else if k = 2 then (a - b) % pw n else if k = 3 then (a * b) % pw n else if k = 4 then a / b
  else if k = 5 then ((a.toNat &&& b.toNat : Nat) : Int) else if k = 6 then ((a.toNat ||| b.toNat : Nat) : Int) else if k = 7 then ((a.toNat ^^^ b.toNat : Nat) : Int)
  else if k = 8 then (if n ≤ b then 0 else (a * 2 ^ b.toNat) % pw n) else if k = 9 then (if n ≤ b then 0 else a / 2 ^ b.toNat)
  else if k = 10 then tr (a == b) else if k = 11 then tr (decide (a < b)) else tr (decide (sgnZ a n < sgnZ b n))
/-- what 'apply' gives, not yet cut -/
def apZ (k n a b : Int) : Int :=
  if k = 1 then (a + b) % 18446744073709551616 else if k = 2 then (a - b) % 18446744073709551616 else if k = 3 then (a * b) % 18446744073709551616 else if k = 4 then a / b
  else if k = 5 then ((a.toNat &&& b.toNat : Nat) : Int) else if k = 6 then ((a.toNat ||| b.toNat : Nat) : Int) else if k = 7 then ((a.toNat ^^^ b.toNat : Nat) : Int)
  else if k = 8 then (if n ≤ b then 0 else (a * 2 ^ b.toNat) % 18446744073709551616) else if k = 9 then (if n ≤ b then 0 else a / 2 ^ b.toNat)
  else if k = 10 then tr (a == b) else if k = 11 then tr (decide (a < b)) else tr (decide (sgnZ a n < sgnZ b n))
def isTwo (k n : Int) : Bool := decide (1 ≤ k) && decide (k ≤ 12) && isW n
def trap (k n b : Int) : Bool := k == 4 && cutZ b n == 0
def doV (k n a b : Int) : Int := if isTwo k n then (if trap k n b then 0 else opZ k n (cutZ a n) (cutZ b n)) else 0
def doC (k n b : Int) : Int := if isTwo k n then (if trap k n b then 8 else 0) else 1

theorem isW_cases {n : Int} (h : isW n = true) : n = 1 ∨ n = 8 ∨ n = 16 ∨ n = 32 ∨ n = 64 := by simp [isW] at h; omega
theorem isW_range {n : Int} (h : isW n = true) : 1 ≤ n ∧ n ≤ 64 := by have := isW_cases h; omega
theorem pw_pos (n : Int) : 0 < pw n := by unfold pw; repeat (split <;> try omega)
theorem pw_le (n : Int) : pw n ≤ 18446744073709551616 := by unfold pw; repeat (split <;> try omega)
theorem pw_eq {n : Int} (h : isW n = true) : pw n = ((2 ^ n.toNat : Nat) : Int) := by
  rcases isW_cases h with rfl | rfl | rfl | rfl | rfl <;> simp [pw]
theorem pw_dvd {n : Int} (h : isW n = true) : pw n ∣ 18446744073709551616 := by
  rcases isW_cases h with rfl | rfl | rfl | rfl | rfl <;> simp [pw] <;> decide
theorem cutZ_yes {n : Int} (v : Int) (h : isW n = true) : cutZ v n = v % pw n := by simp [cutZ, h]
theorem cutZ_no {n : Int} (v : Int) (h : isW n = false) : cutZ v n = 0 := by simp [cutZ, h]
theorem cutZ_range {n : Int} (v : Int) (h : isW n = true) : 0 ≤ cutZ v n ∧ cutZ v n < pw n := by
  rw [cutZ_yes v h]; exact ⟨Int.emod_nonneg _ (by have := pw_pos n; omega), Int.emod_lt_of_pos _ (pw_pos n)⟩
theorem cutZ_small {n v : Int} (h : isW n = true) (h0 : 0 ≤ v) (h1 : v < pw n) : cutZ v n = v := by rw [cutZ_yes v h]; exact Int.emod_eq_of_lt h0 h1
theorem cutZ_cutZ (v n : Int) : cutZ (cutZ v n) n = cutZ v n := by
  cases h : isW n
  · simp [cutZ, h]
  · obtain ⟨a, b⟩ := cutZ_range v h; exact cutZ_small h a b
theorem cutZ_mod (v : Int) {n : Int} (h : isW n = true) : cutZ (v % 18446744073709551616) n = cutZ v n := by
  rw [cutZ_yes _ h, cutZ_yes _ h]; exact Int.emod_emod_of_dvd v (pw_dvd h)
theorem cutZ_nonneg (v n : Int) : 0 ≤ cutZ v n := by
  cases h : isW n
  · simp [cutZ, h]
  · exact (cutZ_range v h).1
theorem cutZ_lt64 (v n : Int) : cutZ v n < 18446744073709551616 := by
  cases h : isW n
  · simp [cutZ, h]
  · have := (cutZ_range v h).2; have := pw_le n; omega

theorem tr_range (p : Bool) : 0 ≤ tr p ∧ tr p ≤ 1 := by cases p <;> simp [tr]
theorem pw_ge2 {n : Int} (h : isW n = true) : 2 ≤ pw n := by
  rcases isW_cases h with rfl | rfl | rfl | rfl | rfl <;> simp [pw]
theorem tr_small (p : Bool) {n : Int} (h : isW n = true) : cutZ (tr p) n = tr p := by
  have := tr_range p; have := pw_ge2 h; exact cutZ_small h (by omega) (by omega)

theorem nat_lt {n a : Int} (h : isW n = true) (h0 : 0 ≤ a) (h1 : a < pw n) : a.toNat < 2 ^ n.toNat := by
  rw [pw_eq h] at h1; omega

theorem div_small {a b p : Int} (h0 : 0 ≤ a) (h1 : a < p) (hb : 0 ≤ b) : 0 ≤ a / b ∧ a / b < p := by
  refine ⟨Int.ediv_nonneg h0 hb, ?_⟩
  have := Int.ediv_le_self b h0
  omega

/-- what 'apply' gives, cut, is what the operation comes to -/
theorem cut_ap {k n a b : Int} (h : isW n = true) (h1 : 1 ≤ k) (h2 : k ≤ 12) (a0 : 0 ≤ a) (a1 : a < pw n) (b0 : 0 ≤ b) (b1 : b < pw n) : cutZ (apZ k n a b) n = opZ k n a b := by
  have ks : k = 1 ∨ k = 2 ∨ k = 3 ∨ k = 4 ∨ k = 5 ∨ k = 6 ∨ k = 7 ∨ k = 8 ∨ k = 9 ∨ k = 10 ∨ k = 11 ∨ k = 12 := by omega
  have na := nat_lt h a0 a1
  have nb := nat_lt h b0 b1
  have pe := pw_eq h
  rcases ks with rfl | rfl | rfl | rfl | rfl | rfl | rfl | rfl | rfl | rfl | rfl | rfl
  · simp only [apZ, opZ, if_true]; rw [cutZ_mod _ h, cutZ_yes _ h]
  · simp [apZ, opZ]; rw [cutZ_mod _ h, cutZ_yes _ h]
  · simp [apZ, opZ]; rw [cutZ_mod _ h, cutZ_yes _ h]
  · simp [apZ, opZ]; obtain ⟨x, y⟩ := div_small (b := b) a0 a1 b0; exact cutZ_small h x y
  · simp [apZ, opZ]; refine cutZ_small h (by omega) ?_; have := Nat.and_lt_two_pow a.toNat nb; omega
  · simp [apZ, opZ]; refine cutZ_small h (by omega) ?_; have := Nat.or_lt_two_pow na nb; omega
  · simp [apZ, opZ]; refine cutZ_small h (by omega) ?_; have := Nat.xor_lt_two_pow na nb; omega
  · by_cases c : n ≤ b
    · simp [apZ, opZ, c]; exact cutZ_small h (by omega) (pw_pos n)
    · simp [apZ, opZ, c]; rw [cutZ_mod _ h, cutZ_yes _ h]
  · by_cases c : n ≤ b
    · simp [apZ, opZ, c]; exact cutZ_small h (by omega) (pw_pos n)
    · simp [apZ, opZ, c]; obtain ⟨x, y⟩ := div_small (b := 2 ^ b.toNat) a0 a1 (Int.pow_nonneg (by omega)); exact cutZ_small h x y
  · simp [apZ, opZ]; exact tr_small _ h
  · simp [apZ, opZ]; exact tr_small _ h
  · simp [apZ, opZ]; exact tr_small _ h

theorem opZ_range {k n a b : Int} (h : isW n = true) (h1 : 1 ≤ k) (h2 : k ≤ 12) (a0 : 0 ≤ a) (a1 : a < pw n) (b0 : 0 ≤ b) (b1 : b < pw n) : 0 ≤ opZ k n a b ∧ opZ k n a b < pw n := by
  rw [← cut_ap h h1 h2 a0 a1 b0 b1]; exact cutZ_range _ h
theorem isTwo_yes {k n : Int} (h : isTwo k n = true) : 1 ≤ k ∧ k ≤ 12 ∧ isW n = true := by simpa [isTwo, and_assoc] using h
theorem isTwo_mk {k n : Int} (h : isW n = true) (h1 : 1 ≤ k) (h2 : k ≤ 12) : isTwo k n = true := by simp [isTwo, h, h1, h2]
theorem doV_range (k n a b : Int) : 0 ≤ doV k n a b ∧ doV k n a b < pw n := by
  have := pw_pos n
  cases t : isTwo k n
  · simp [doV, t]; omega
  · cases u : trap k n b
    · obtain ⟨x, y, z⟩ := isTwo_yes t
      obtain ⟨a0, a1⟩ := cutZ_range a z
      obtain ⟨b0, b1⟩ := cutZ_range b z
      simpa [doV, t, u] using opZ_range z x y a0 a1 b0 b1
    · simp [doV, t, u]; omega
theorem doV_cut (k n a b : Int) (h : isW n = true) : cutZ (doV k n a b) n = doV k n a b := by obtain ⟨x, y⟩ := doV_range k n a b; exact cutZ_small h x y
end Go.Proofs.Ytdldcondjidnfaa
