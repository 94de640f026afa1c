/-
  Functions of blocks alike: how many they have, and whether they may be told.
-/
import Derived.Test.YtmlldiinidkecaaCodeH
namespace Go.Proofs.Ytmlldiinidkecaa
open Go Go.RowKit
set_option linter.unusedVariables false
set_option linter.unusedSimpArgs false

theorem loop_rep {α X : Type} (a : α) (n : Nat) (f : Int × List α → Option (LR (Int × List α) X)) (out : List α → X) (hn : ∀ i : Nat, i < n → f ((i : Int), List.replicate i a) = some (.next (((i + 1 : Nat) : Int), List.replicate i a ++ [a])))
    (hd : f ((n : Int), List.replicate n a) = some (.done (out (List.replicate n a)))) : ∀ (k i : Nat), i + k = n → loopO f ((i : Int), List.replicate i a) = some (out (List.replicate n a))
  | 0, i, h => by
    obtain rfl : i = n := by omega
    exact loopO_done hd
  | k + 1, i, h => by
    rw [loopO_next (hn i (by omega)), ← List.replicate_succ']
    exact loop_rep a n f out hn hd k (i + 1) (by omega)
def oneO : TOp := ⟨0, 8, 1, 1, [], 0⟩
def rowB (e : Nat) : TBlock := ⟨[], List.replicate e oneO, ⟨0, 0, []⟩⟩
def gridF (k e : Nat) : TFunc := ⟨[], 0, List.replicate k (rowB e)⟩
theorem mem_rep {α : Type} {a b : α} {n : Nat} (h : a ∈ List.replicate n b) : a = b := (List.mem_replicate.1 h).2
theorem grid_in {k e : Nat} (hk : k ≤ 70) (he : e < 12) : InF (gridF k e) := by
  have hM := maxLen_eq
  refine ⟨by simp [gridF], by simp only [gridF, List.length_replicate]; omega, fun b hb => ?_, fun b hb p hp => ?_, fun b hb o ho => ?_⟩
  · obtain rfl := mem_rep hb
    refine ⟨by simp [rowB], by simp only [rowB, List.length_replicate]; omega, by simp [rowB]⟩
  · obtain rfl := mem_rep hb
    simp [rowB] at hp
  · obtain rfl := mem_rep hb
    obtain rfl := mem_rep ho
    exact ⟨by simp [oneO], by decide, by decide⟩
theorem grid_size (k e : Nat) : sizeN (gridF k e) = k * (e + 1) := by
  simp [sizeN, gridF, sizeB, rowB]
theorem grid_block (e : Nat) (he : e < 12) : OkB (rowB e) := by
  refine ⟨blockB_iff.2 ⟨fun p hp => by simp [rowB] at hp, fun o ho => ?_, rfl⟩, by simp [rowB], by simp only [rowB, List.length_replicate]; omega, fun o ho => ?_⟩
  · obtain rfl := mem_rep ho; rfl
  · obtain rfl := mem_rep ho; exact ⟨by decide, by decide⟩
theorem grid_ok {k e : Nat} (hk : k ≤ 64) (he : e < 12) : OkF (gridF k e) := ⟨rfl, by simp [gridF], rfl, by simpa [gridF] using hk, fun b hb => by obtain rfl := mem_rep hb; exact grid_block e he⟩
theorem grid_may {k e : Nat} (h1 : 1 ≤ k) (hk : k ≤ 70) (he : e < 12) : mayF (gridF k e) = (decide (k ≤ 64) && decide (k * (e + 1) ≤ 512)) := by
  have hle : k * (e + 1) ≤ 70 * 12 := Nat.mul_le_mul hk (by omega)
  have hw : sizeW (gridF k e) = ((k * (e + 1) : Nat) : Int) := by rw [sizeW, grid_size]; exact w64_nat (by omega)
  have hb : (gridF k e).Blocks.all blockB = true := List.all_eq_true.2 fun b hb => by obtain rfl := mem_rep hb; exact (grid_block e he).may
  have hl : (gridF k e).Blocks.length = k := by simp [gridF]
  unfold mayF
  rw [hb, hw, hl, show (gridF k e).Params = [] from rfl, show (gridF k e).Ret = 0 from rfl, decide_eq_true h1, show listB [] = true from rfl, show numB 0 = true from rfl]
  have : decide (((k * (e + 1) : Nat) : Int) ≤ 512) = decide (k * (e + 1) ≤ 512) := by apply decide_eq_decide.2; omega
  rw [this]
  simp
theorem sizes_true (F : Facts) (n m : Int) (hn : 0 ≤ n ∧ n < 256) (hm : 0 ≤ m ∧ m < 65536) : m_locksteplaw04_CodeSizes n m = some true := by
  obtain ⟨n, rfl⟩ : ∃ k : Nat, n = k := ⟨n.toNat, by omega⟩
  obtain ⟨m, rfl⟩ : ∃ k : Nat, m = k := ⟨m.toNat, by omega⟩
  have ek : w64 (1 + Int.tmod (w64 (n : Int)) 70) = ((1 + n % 70 : Nat) : Int) := by
    rw [w64_nat (n := n) (by omega), show Int.tmod (n : Int) 70 = ((n % 70 : Nat) : Int) from rfl, w64_of (by omega) (by omega)]
    omega
  have ee : Int.tmod (w64 (m : Int)) 12 = ((m % 12 : Nat) : Int) := by rw [w64_nat (n := m) (by omega)]; rfl
  have hk1 : 1 ≤ 1 + n % 70 := by omega
  have hk70 : 1 + n % 70 ≤ 70 := by omega
  have he12 : m % 12 < 12 := by omega
  have l1 : loopO (m_locksteplaw04_CodeSizes_L1 (m : Int)) ((0 : Int), []) = some (List.replicate (m % 12) oneO) := loop_rep oneO (m % 12) (m_locksteplaw04_CodeSizes_L1 (m : Int)) id (fun i hi => by
      unfold m_locksteplaw04_CodeSizes_L1
      have : decide ((i : Int) < ((m % 12 : Nat) : Int)) = true := by simp only [decide_eq_true_eq]; omega
      simp only [ee, this, cond_true]
      rw [chk_pos' (by simp [room]; omega), w64_suc' (n := 12) (by omega) (by simp [maxLen_eq])]
      rfl) (by
      unfold m_locksteplaw04_CodeSizes_L1
      simp only [ee, Int.lt_irrefl, decide_false, cond_false]
      rfl) (m % 12) 0 (Nat.zero_add _)
  have l2 : loopO (m_locksteplaw04_CodeSizes_L2 (n : Int) (m : Int)) ((0 : Int), []) = some (List.replicate (1 + n % 70) (rowB (m % 12))) := loop_rep (rowB (m % 12)) (1 + n % 70) (m_locksteplaw04_CodeSizes_L2 (n : Int) (m : Int)) id (fun i hi => by
      unfold m_locksteplaw04_CodeSizes_L2
      have : decide ((i : Int) < ((1 + n % 70 : Nat) : Int)) = true := by simp only [decide_eq_true_eq]; omega
      simp only [ek, this, cond_true, l1, Option.bind_some]
      rw [chk_pos' (by simp [room]; omega), w64_suc' (n := 70) (by omega) (by simp [maxLen_eq])]
      rfl) (by
      unfold m_locksteplaw04_CodeSizes_L2
      simp only [ek, Int.lt_irrefl, decide_false, cond_false]
      rfl) (1 + n % 70) 0 (Nat.zero_add _)
  unfold m_locksteplaw04_CodeSizes
  rw [awake4 F, Option.bind_some, Bool.not_true, cond_false]
  simp only [l2, Option.bind_some, ek, ee]
  have es : w64 (((1 + n % 70 : Nat) : Int) * w64 (((m % 12 : Nat) : Int) + 1)) = (((1 + n % 70) * (m % 12 + 1) : Nat) : Int) := by
    rw [w64_of (n := ((m % 12 : Nat) : Int) + 1) (by omega) (by omega)]
    have : (((1 + n % 70) * (m % 12 + 1) : Nat) : Int) = ((1 + n % 70 : Nat) : Int) * (((m % 12 : Nat) : Int) + 1) := by rw [Int.natCast_mul]; congr 1
    rw [← this]
    have hle : (1 + n % 70) * (m % 12 + 1) ≤ 70 * 12 := Nat.mul_le_mul hk70 (by omega)
    exact w64_nat (by omega)
  rw [es]
  generalize 1 + n % 70 = k at *
  generalize m % 12 = e at *
  have hle : k * (e + 1) ≤ 70 * 12 := Nat.mul_le_mul hk70 (by omega)
  have hin := grid_in (k := k) (e := e) hk70 he12
  have hmay := grid_may (k := k) (e := e) hk1 hk70 he12
  have hsz : sizeW (gridF k e) = ((k * (e + 1) : Nat) : Int) := by rw [sizeW, grid_size]; exact w64_nat (by omega)
  have hg : (⟨[], 0, List.replicate k (rowB e)⟩ : TFunc) = gridF k e := rfl
  have d1 : decide ((k : Int) ≤ 64) = decide (k ≤ 64) := by apply decide_eq_decide.2; omega
  have d2 : decide (((k * (e + 1) : Nat) : Int) ≤ 512) = decide (k * (e + 1) ≤ 512) := by apply decide_eq_decide.2; omega
  have hok : mayF (gridF k e) = true → OkF (gridF k e) := fun h => by
    rw [hmay, Bool.and_eq_true, decide_eq_true_eq] at h
    exact grid_ok h.1 he12
  simp only [hg, F.enc _ hin hok, F.size _ hin, F.may _ hin, Option.bind_some, hsz, d1, d2, show ∀ p q : Bool, (bif p then q else false) = (p && q) from fun p q => by cases p <;> rfl, beq_self_eq_true, cond_true, ← hmay]
  cases hm : mayF (gridF k e) with
  | false =>
    obtain ⟨g, x, hd, h0, hz⟩ := F.any [] (fun x hx => by cases hx) (by decide)
    have hx : x ≠ 0 := fun h => by
      have := (h0 h).2.2.2
      have hp := funcE_pos g
      rw [this] at hp
      exact absurd hp (by decide)
    have hx' : (x == 0) = false := by simpa using hx
    rw [cond_false, hd, Option.bind_some]
    simp [hx']
  | true =>
    have ok := hok hm
    have h1 : 1 ≤ (gridF k e).Blocks.length := by simpa [gridF] using hk1
    have h512 : sizeN (gridF k e) ≤ 512 := by
      rw [hmay, Bool.and_eq_true, decide_eq_true_eq, decide_eq_true_eq] at hm
      rw [grid_size]; exact hm.2
    have hp := funcE_pos (gridF k e)
    rw [cond_true, F.whole _ ok h1 h512, Option.bind_some]
    have hp' : decide ((0 : Int) < ((funcE (gridF k e)).length : Int)) = true := by simp only [decide_eq_true_eq]; omega
    simp [hp', hp, F.size _ hin, hsz]
end Go.Proofs.Ytmlldiinidkecaa
