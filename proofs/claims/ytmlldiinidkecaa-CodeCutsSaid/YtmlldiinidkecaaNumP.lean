/-
  Numbers as bytes, plainly; what Put, Get, Row and List compute.
-/
import Derived.Test.YtmlldiinidkecaaMod
import Derived.Test.YtmlldiinidkecaaGen
namespace Go.Proofs.Ytmlldiinidkecaa
open Go Go.RowKit
set_option linter.unusedVariables false

/-- A number as bytes. -/
def putN (v : Nat) : List Int := if h : v < 128 then [(v : Int)] else ((v % 128 + 128 : Nat) : Int) :: putN (v / 128)
theorem putN_lt {v : Nat} (h : v < 128) : putN v = [(v : Int)] := by rw [putN, dif_pos h]
theorem putN_ge {v : Nat} (h : ¬ v < 128) : putN v = ((v % 128 + 128 : Nat) : Int) :: putN (v / 128) := by rw [putN, dif_neg h]
theorem putN_pos (v : Nat) : 1 ≤ (putN v).length := by
  by_cases h : v < 128
  · simp [putN_lt h]
  · simp [putN_ge h]
theorem putN_len : ∀ (k v : Nat), v < 128 ^ (k + 1) → (putN v).length ≤ k + 1
  | k, v, hv => by
    by_cases h : v < 128
    · simp [putN_lt h]
    · cases k with
      | zero => simp at hv; omega
      | succ k =>
        have := putN_len k (v / 128) (by rw [Nat.div_lt_iff_lt_mul (by decide)]; rw [Nat.pow_succ] at hv; exact hv)
        simp [putN_ge h]
        omega
theorem putN_len10 {v : Nat} (h : v < 2 ^ 64) : (putN v).length ≤ 10 := putN_len 9 v (Nat.lt_trans h (by decide))
theorem putN_byte (v : Nat) : ∀ x ∈ putN v, 0 ≤ x ∧ x < 256 := by
  induction v using Nat.strongRecOn with
  | _ v ih =>
    intro x hx
    by_cases h : v < 128
    · rw [putN_lt h] at hx; simp at hx; omega
    · rw [putN_ge h] at hx
      rcases List.mem_cons.1 hx with rfl | hx
      · omega
      · exact ih _ (by omega) x hx
theorem putN_mono : ∀ (a b : Nat), a ≤ b → (putN a).length ≤ (putN b).length := by
  intro a
  induction a using Nat.strongRecOn with
  | _ a ih =>
    intro b hab
    by_cases h : a < 128
    · rw [putN_lt h]; exact putN_pos b
    · rw [putN_ge h, putN_ge (by omega : ¬ b < 128)]
      simpa using ih (a / 128) (by omega) (b / 128) (Nat.div_le_div_right hab)

/-- The number at the beginning: it, how many bytes, and the code. -/
def getL (n acc : Nat) : List Int → Int × Int × Int
  | [] => if n = 10 then (0, 0, 3) else (0, 0, 2)
  | c :: r => if n = 10 then (0, 0, 3) else if 128 ≤ c then getL (n + 1) (acc + (c.toNat % 128) * 128 ^ n) r
      else if n = 0 ∨ (c ≠ 0 ∧ (n < 9 ∨ c = 1)) then (((acc + c.toNat * 128 ^ n : Nat) : Int), ((n + 1 : Nat) : Int), 0) else (0, 0, 3)
def getS (b : List Int) : Int × Int × Int := getL 0 0 b

theorem pow9 {v n : Nat} (h : v * 128 ^ n < 2 ^ 64) (hv : 1 ≤ v) : n ≤ 9 := by
  rcases Nat.lt_or_ge n 10 with h' | h'
  · omega
  · have : 128 ^ 10 ≤ 128 ^ n := Nat.pow_le_pow_right (by decide) h'
    have h2 : 128 ^ n ≤ v * 128 ^ n := Nat.le_mul_of_pos_left _ hv
    have : (2 : Nat) ^ 64 < 128 ^ 10 := by decide
    omega

theorem getL_put : ∀ (v n acc : Nat) (r : List Int), v * 128 ^ n < 2 ^ 64 → (n = 0 ∨ 1 ≤ v) → getL n acc (putN v ++ r) = (((acc + v * 128 ^ n : Nat) : Int), ((n + (putN v).length : Nat) : Int), 0) := by
  intro v
  induction v using Nat.strongRecOn with
  | _ v ih =>
    intro n acc r hb hz
    have hn : n ≤ 9 := by
      rcases hz with rfl | hz
      · omega
      · exact pow9 hb hz
    by_cases h : v < 128
    · rw [putN_lt h]
      have h1 : ¬ (128 : Int) ≤ v := by omega
      have h2 : n = 0 ∨ ((v : Int) ≠ 0 ∧ (n < 9 ∨ (v : Int) = 1)) := by
        rcases hz with rfl | hz
        · exact .inl rfl
        · refine .inr ⟨by omega, ?_⟩
          rcases Nat.lt_or_ge n 9 with h9 | h9
          · exact .inl h9
          · have : n = 9 := by omega
            subst this
            refine .inr ?_
            have : v * 128 ^ 9 < 2 ^ 64 := hb
            omega
      simp only [List.cons_append, List.nil_append, getL, if_neg (by omega : ¬ n = 10), if_neg h1, if_pos h2, Int.toNat_natCast, List.length_cons, List.length_nil]
    · rw [putN_ge h]
      have h1 : (128 : Int) ≤ ((v % 128 + 128 : Nat) : Int) := by omega
      have hdm : v / 128 * 128 ^ (n + 1) + v % 128 * 128 ^ n = v * 128 ^ n := by
        have : v = 128 * (v / 128) + v % 128 := (Nat.div_add_mod v 128).symm
        conv => rhs; rw [this]
        rw [Nat.pow_succ, Nat.add_mul, ← Nat.mul_assoc, Nat.mul_right_comm, Nat.mul_comm 128 (v / 128)]
      simp only [List.cons_append, getL, if_neg (by omega : ¬ n = 10), if_pos h1, Int.toNat_natCast, List.length_cons]
      rw [ih (v / 128) (by omega) (n + 1) _ r (by omega) (.inr (by omega))]
      have e1 : (v % 128 + 128) % 128 = v % 128 := by omega
      rw [e1]
      refine Prod.ext ?_ (Prod.ext ?_ rfl)
      · show ((_ : Nat) : Int) = ((_ : Nat) : Int)
        congr 1
        omega
      · show ((_ : Nat) : Int) = ((_ : Nat) : Int)
        congr 1
        omega
theorem getS_put {v : Nat} (h : v < 2 ^ 64) (r : List Int) : getS (putN v ++ r) = ((v : Int), ((putN v).length : Int), 0) := by
  unfold getS
  rw [getL_put v 0 0 r (by simpa using h) (.inl rfl)]
  simp
theorem getL_short : ∀ (v n acc k : Nat), v * 128 ^ n < 2 ^ 64 → (n = 0 ∨ 1 ≤ v) → k < (putN v).length → getL n acc ((putN v).take k) = (0, 0, 2) := by
  intro v
  induction v using Nat.strongRecOn with
  | _ v ih =>
    intro n acc k hb hz hk
    have hn : n ≤ 9 := by
      rcases hz with rfl | hz
      · omega
      · exact pow9 hb hz
    cases k with
    | zero => simp [getL]; omega
    | succ k =>
      by_cases h : v < 128
      · simp [putN_lt h] at hk
      · rw [putN_ge h] at hk ⊢
        have h1 : (128 : Int) ≤ ((v % 128 + 128 : Nat) : Int) := by omega
        have hdm : v / 128 * 128 ^ (n + 1) + v % 128 * 128 ^ n = v * 128 ^ n := by
          have : v = 128 * (v / 128) + v % 128 := (Nat.div_add_mod v 128).symm
          conv => rhs; rw [this]
          rw [Nat.pow_succ, Nat.add_mul, ← Nat.mul_assoc, Nat.mul_right_comm, Nat.mul_comm 128 (v / 128)]
        simp only [List.take_succ_cons, getL, if_neg (by omega : ¬ n = 10), if_pos h1]
        exact ih (v / 128) (by omega) (n + 1) _ k (by omega) (.inr (by omega)) (by simpa using hk)
theorem getS_short {v k : Nat} (h : v < 2 ^ 64) (hk : k < (putN v).length) : getS ((putN v).take k) = (0, 0, 2) := getL_short v 0 0 k (by simpa using h) (.inl rfl) hk

theorem putN_inj {a b : Nat} (ha : a < 2 ^ 64) (hb : b < 2 ^ 64) (h : putN a = putN b) : a = b := by
  have h1 := getS_put ha []
  rw [h, getS_put hb []] at h1
  simp only [Prod.mk.injEq] at h1
  omega
/-- No number's bytes begin with another one's. -/
theorem putN_prefix {a b n : Nat} (ha : a < 2 ^ 64) (hb : b < 2 ^ 64) (hn : n = min (putN a).length (putN b).length) (h : (putN a).take n = (putN b).take n) : a = b := by
  have key : ∀ {x y : Nat}, x < 2 ^ 64 → y < 2 ^ 64 → (putN x).length ≤ (putN y).length → (putN x).take (putN x).length = (putN y).take (putN x).length → x = y := by
    intro x y hx hy hl he
    rw [List.take_length] at he
    rcases Nat.lt_or_ge (putN x).length (putN y).length with h' | h'
    · have h1 := getS_short hy h'
      rw [← he] at h1
      have h2 := getS_put hx []
      rw [List.append_nil, h1] at h2
      simp at h2
    · rw [List.take_of_length_le (by omega)] at he
      exact putN_inj hx hy he
  rcases Nat.le_total (putN a).length (putN b).length with hl | hl
  · have : n = (putN a).length := by omega
    subst this
    exact key ha hb hl h
  · have : n = (putN b).length := by omega
    subst this
    exact (key hb ha hl h.symm).symm
end Go.Proofs.Ytmlldiinidkecaa
