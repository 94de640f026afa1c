/-
  What Get and List answer of whatever bytes; what is cut off.
-/
import Derived.Test.YtmlldiinidkecaaNumL
namespace Go.Proofs.Ytmlldiinidkecaa
open Go Go.RowKit
set_option linter.unusedVariables false

theorem pow128 : ∀ {k : Nat}, k ≤ 9 → ∃ m, 2 ^ 64 = m * 128 ^ k := by
  intro k hk
  refine ⟨2 ^ (64 - 7 * k), ?_⟩
  have : (128 : Nat) ^ k = 2 ^ (7 * k) := by rw [Nat.pow_mul]
  rw [this, ← Nat.pow_add]
  congr 1
  omega

/-- A number at the beginning, or none. -/
theorem getL_inv : ∀ (b : List Int) (n acc : Nat), Bytes b → n ≤ 10 →
    (∃ w : Nat, (n = 0 ∨ 1 ≤ w) ∧ w * 128 ^ n < 2 ^ 64 ∧ b = putN w ++ b.drop (putN w).length ∧ getL n acc b = (((acc + w * 128 ^ n : Nat) : Int), ((n + (putN w).length : Nat) : Int), 0)) ∨
    getL n acc b = (0, 0, 2) ∨ getL n acc b = (0, 0, 3)
  | [], n, acc, _, _ => by
    right
    unfold getL
    split
    · exact .inr rfl
    · exact .inl rfl
  | c :: r, n, acc, hB, hn => by
    have hc := hB c (by simp)
    have hBr : Bytes r := fun x hx => hB x (by simp [hx])
    unfold getL
    by_cases h10 : n = 10
    · rw [if_pos h10]; exact .inr (.inr rfl)
    rw [if_neg h10]
    by_cases h128 : 128 ≤ c
    · rw [if_pos h128]
      rcases getL_inv r (n + 1) (acc + (c.toNat % 128) * 128 ^ n) hBr (by omega) with ⟨w, hw0, hw, hr, hg⟩ | h | h
      · left
        have hw1 : 1 ≤ w := by omega
        have h9 := pow9 hw hw1
        obtain ⟨m, hm⟩ := pow128 (k := n + 1) h9
        have hwm : w + 1 ≤ m := by
          rw [hm] at hw
          exact Nat.lt_of_mul_lt_mul_right hw
        have hle : (w + 1) * 128 ^ (n + 1) ≤ 2 ^ 64 := by rw [hm]; exact Nat.mul_le_mul_right _ hwm
        have hp : 0 < 128 ^ n := Nat.pow_pos (by decide)
        have hlt : (c.toNat % 128) * 128 ^ n < 128 ^ (n + 1) := by
          rw [Nat.pow_succ, Nat.mul_comm (128 ^ n)]
          exact Nat.mul_lt_mul_of_pos_right (Nat.mod_lt _ (by decide)) hp
        have e1 : (w * 128 + c.toNat % 128) * 128 ^ n = w * 128 ^ (n + 1) + (c.toNat % 128) * 128 ^ n := by
          rw [Nat.add_mul, Nat.pow_succ, Nat.mul_assoc, Nat.mul_comm 128]
        have hput : putN (w * 128 + c.toNat % 128) = c :: putN w := by
          rw [putN_ge (by omega)]
          have q1 : (w * 128 + c.toNat % 128) % 128 = c.toNat % 128 := by omega
          have q2 : (w * 128 + c.toNat % 128) / 128 = w := by omega
          rw [q1, q2]
          congr 1
          omega
        refine ⟨w * 128 + c.toNat % 128, .inr (by omega), ?_, ?_, ?_⟩
        · rw [e1]; rw [Nat.add_mul, Nat.one_mul] at hle; omega
        · rw [hput]; simpa using hr
        · rw [hg, e1, hput]
          refine Prod.ext ?_ (Prod.ext ?_ rfl)
          · show ((_ : Nat) : Int) = ((_ : Nat) : Int)
            congr 1
            omega
          · show ((_ : Nat) : Int) = ((_ : Nat) : Int)
            congr 1
            simp
            omega
      · exact .inr (.inl h)
      · exact .inr (.inr h)
    · rw [if_neg h128]
      by_cases hcond : n = 0 ∨ (c ≠ 0 ∧ (n < 9 ∨ c = 1))
      · rw [if_pos hcond]
        left
        have hput : putN c.toNat = [c] := by rw [putN_lt (by omega)]; simp; omega
        refine ⟨c.toNat, ?_, ?_, ?_, ?_⟩
        · rcases hcond with h | ⟨h, _⟩
          · exact .inl h
          · exact .inr (by omega)
        · rcases hcond with rfl | ⟨h, h9 | rfl⟩
          · simp; omega
          · have h1 : 128 ^ (n + 1) ≤ 128 ^ 9 := Nat.pow_le_pow_right (by decide) (by omega)
            have h2 : c.toNat * 128 ^ n < 128 * 128 ^ n := Nat.mul_lt_mul_of_pos_right (by omega) (Nat.pow_pos (by decide))
            rw [Nat.pow_succ] at h1
            have h3 : (128 : Nat) ^ 9 < 2 ^ 64 := by decide
            omega
          · have h1 : 128 ^ n ≤ 128 ^ 9 := Nat.pow_le_pow_right (by decide) (by omega)
            have h3 : (128 : Nat) ^ 9 < 2 ^ 64 := by decide
            simp
            omega
        · rw [hput]; simp
        · rw [hput]; rfl
      · rw [if_neg hcond]; exact .inr (.inr rfl)

theorem getS_inv (b : List Int) (hB : Bytes b) : (∃ w : Nat, w < 2 ^ 64 ∧ b = putN w ++ b.drop (putN w).length ∧ getS b = ((w : Int), ((putN w).length : Int), 0)) ∨ getS b = (0, 0, 2) ∨ getS b = (0, 0, 3) := by
  rcases getL_inv b 0 0 hB (by omega) with ⟨w, _, hw, hb, hg⟩ | h
  · left
    refine ⟨w, by simpa using hw, hb, ?_⟩
    unfold getS
    rw [hg]
    simp
  · exact .inr h

/-! ### Lists -/
def good31 (l : List Int) : Prop := ∀ x ∈ l, 0 ≤ x ∧ x ≤ 2147483647
theorem good31.i64 {l : List Int} (h : good31 l) : I64 l := fun x hx => by have := h x hx; omega
def rowE (l : List Int) : List Int := putN l.length ++ flat l
theorem rowE_bytes (l : List Int) : Bytes (rowE l) := (putN_bytes _).app (flat_byte _)

theorem Bytes.drop {b : List Int} (h : Bytes b) (k : Nat) : Bytes (b.drop k) := fun x hx => h x (List.mem_of_mem_drop hx)
theorem Bytes.take' {b : List Int} (h : Bytes b) (k : Nat) : Bytes (b.take k) := fun x hx => h x (List.mem_of_mem_take hx)

end Go.Proofs.Ytmlldiinidkecaa
