/-
  Rounds of common shapes, told plainly.
-/
import Derived.Test.YtkbbdfkpclbdhaaMod
namespace Go.Proofs.Ytkbbdfkpclbdhaa
open Go Go.RowKit
set_option linter.unusedVariables false

/-- Over a list, till one does not fit. -/
theorem loop_all {α X : Type} (l : List α) (d : α) (p : α → Bool) (f : Int → Option (LR Int X)) (yes no : X) (hn : ∀ i : Nat, i < l.length → p (l.getD i d) = true → f i = some (.next ((i : Int) + 1)))
    (hf : ∀ i : Nat, i < l.length → p (l.getD i d) = false → f i = some (.done no)) (he : f l.length = some (.done yes)) : ∀ (k i : Nat), i + k = l.length → loopO f i = some (bif (l.drop i).all p then yes else no)
  | 0, i, h => by
    obtain rfl : i = l.length := by omega
    rw [loopO_done he]
    simp
  | k + 1, i, h => by
    have hi : i < l.length := by omega
    have hd : l.drop i = l.getD i d :: l.drop (i + 1) := by rw [List.drop_eq_getElem_cons hi, getD_eq_of_lt _ _ _ hi]
    cases hp : p (l.getD i d) with
    | true =>
      rw [loopO_next (hn i hi hp)]
      have := loop_all l d p f yes no hn hf he k (i + 1) (by omega)
      rw [show ((i : Int) + 1) = ((i + 1 : Nat) : Int) by omega, this, hd, List.all_cons, hp, Bool.true_and]
    | false =>
      rw [loopO_done (hf i hi hp), hd, List.all_cons, hp, Bool.false_and, cond_false]

/-- A list, element by element. -/
theorem loop_build {α X : Type} (n : Nat) (g : Nat → α) (f : List α × Int → Option (LR (List α × Int) X)) (out : List α → X) (hn : ∀ (l : List α) (i : Nat), i < n → l.length = i → f (l, (i : Int)) = some (.next (l ++ [g i], (i : Int) + 1)))
    (he : ∀ l : List α, l.length = n → f (l, (n : Int)) = some (.done (out l))) : ∀ (k i : Nat) (l : List α), i + k = n → l = (List.range i).map g → loopO f (l, (i : Int)) = some (out ((List.range n).map g))
  | 0, i, l, h, hl => by
    obtain rfl : i = n := by omega
    subst hl
    exact loopO_done (he _ (by simp))
  | k + 1, i, l, h, hl => by
    subst hl
    rw [loopO_next (hn _ i (by omega) (by simp)), show ((i : Int) + 1) = ((i + 1 : Nat) : Int) by omega]
    exact loop_build n g f out hn he k (i + 1) _ (by omega) (by simp [List.range_succ])

/-- Two lists of one length, till they part. -/
theorem loop_eq {α X : Type} [BEq α] [LawfulBEq α] (l m : List α) (d : α) (f : Int → Option (LR Int X)) (yes no : X) (hlen : l.length = m.length) (hn : ∀ i : Nat, i < l.length → (l.getD i d == m.getD i d) = true → f i = some (.next ((i : Int) + 1)))
    (hf : ∀ i : Nat, i < l.length → (l.getD i d == m.getD i d) = false → f i = some (.done no)) (he : f l.length = some (.done yes)) : ∀ (k i : Nat), i + k = l.length → loopO f i = some (bif l.drop i == m.drop i then yes else no)
  | 0, i, h => by
    obtain rfl : i = l.length := by omega
    rw [loopO_done he]
    rw [List.drop_length, hlen, List.drop_length]
    simp
  | k + 1, i, h => by
    have hi : i < l.length := by omega
    have hd : l.drop i = l.getD i d :: l.drop (i + 1) := by rw [List.drop_eq_getElem_cons hi, getD_eq_of_lt _ _ _ hi]
    have hd' : m.drop i = m.getD i d :: m.drop (i + 1) := by rw [List.drop_eq_getElem_cons (by omega), getD_eq_of_lt _ _ _ (by omega)]
    cases hp : (l.getD i d == m.getD i d) with
    | true =>
      rw [loopO_next (hn i hi hp)]
      have := loop_eq l m d f yes no hlen hn hf he k (i + 1) (by omega)
      rw [show ((i : Int) + 1) = ((i + 1 : Nat) : Int) by omega, this, hd, hd', List.cons_beq_cons, hp, Bool.true_and]
    | false =>
      rw [loopO_done (hf i hi hp), hd, hd', List.cons_beq_cons, hp, Bool.false_and, cond_false]
theorem inB_nat {i n : Nat} (h : i < n) : InB (i : Int) n := ⟨by omega, by exact_mod_cast h⟩
theorem w64_succ {i n : Nat} (h : i < n) (hn : n < 9223372036854775808) : w64 ((i : Int) + 1) = (i : Int) + 1 := w64_of (by omega) (by omega)
end Go.Proofs.Ytkbbdfkpclbdhaa
