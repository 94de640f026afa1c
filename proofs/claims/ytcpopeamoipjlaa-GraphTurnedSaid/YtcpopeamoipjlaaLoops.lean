/-
  Rounds of common shapes, told plainly.
-/
import Derived.Test.YtcpopeamoipjlaaMod
namespace Go.Proofs.Ytcpopeamoipjlaa
open Go Go.RowKit
set_option linter.unusedVariables false

/-- Over a list, till one does not fit. -/
theorem loop_all {α X : Type} (l : List α) (d : α) (p : α → Bool) (f : Int → Option (LR Int X)) (yes no : X) (hn : ∀ i : Nat, i < l.length → p (l.getD i d) = true → f i = some (.next ((i : Int) + 1)))
    (hf : ∀ i : Nat, i < l.length → p (l.getD i d) = false → f i = some (.done no)) (he : f l.length = some (.done yes)) : ∀ (k i : Nat), i + k = l.length → loopO f i = some (bif (l.drop i).all p then yes else no)
  | 0, i, h => by
    obtain rfl : i = l.length := by omega
    rw [loopO_done he]
    simp
  | k + 1, i, h => by
    have hi : i < l.length := by omega
    have hd : l.drop i = l.getD i d :: l.drop (i + 1) := by rw [List.drop_eq_getElem_cons hi, getD_eq_of_lt _ _ _ hi]
    cases hp : p (l.getD i d) with
    | true =>
      rw [loopO_next (hn i hi hp)]
      have := loop_all l d p f yes no hn hf he k (i + 1) (by omega)
      rw [show ((i : Int) + 1) = ((i + 1 : Nat) : Int) by omega, this, hd, List.all_cons, hp, Bool.true_and]
    | false =>
      rw [loopO_done (hf i hi hp), hd, List.all_cons, hp, Bool.false_and, cond_false]

/-- A list, element by element. -/
theorem loop_build {α X : Type} (n : Nat) (g : Nat → α) (f : List α × Int → Option (LR (List α × Int) X)) (out : List α → X) (hn : ∀ (l : List α) (i : Nat), i < n → l.length = i → f (l, (i : Int)) = some (.next (l ++ [g i], (i : Int) + 1)))
    (he : ∀ l : List α, l.length = n → f (l, (n : Int)) = some (.done (out l))) : ∀ (k i : Nat) (l : List α), i + k = n → l = (List.range i).map g → loopO f (l, (i : Int)) = some (out ((List.range n).map g))
  | 0, i, l, h, hl => by
    obtain rfl : i = n := by omega
    subst hl
    exact loopO_done (he _ (by simp))
  | k + 1, i, l, h, hl => by
    subst hl
    rw [loopO_next (hn _ i (by omega) (by simp)), show ((i : Int) + 1) = ((i + 1 : Nat) : Int) by omega]
    exact loop_build n g f out hn he k (i + 1) _ (by omega) (by simp [List.range_succ])

/-- Two lists of one length, till they part. -/
theorem loop_eq {α X : Type} [BEq α] [LawfulBEq α] (l m : List α) (d : α) (f : Int → Option (LR Int X)) (yes no : X) (hlen : l.length = m.length) (hn : ∀ i : Nat, i < l.length → (l.getD i d == m.getD i d) = true → f i = some (.next ((i : Int) + 1)))
    (hf : ∀ i : Nat, i < l.length → (l.getD i d == m.getD i d) = false → f i = some (.done no)) (he : f l.length = some (.done yes)) : ∀ (k i : Nat), i + k = l.length → loopO f i = some (bif l.drop i == m.drop i then yes else no)
  | 0, i, h => by
    obtain rfl : i = l.length := by omega
    rw [loopO_done he]
    rw [List.drop_length, hlen, List.drop_length]
    simp
  | k + 1, i, h => by
    have hi : i < l.length := by omega
    have hd : l.drop i = l.getD i d :: l.drop (i + 1) := by rw [List.drop_eq_getElem_cons hi, getD_eq_of_lt _ _ _ hi]
    have hd' : m.drop i = m.getD i d :: m.drop (i + 1) := by rw [List.drop_eq_getElem_cons (by omega), getD_eq_of_lt _ _ _ (by omega)]
    cases hp : (l.getD i d == m.getD i d) with
    | true =>
      rw [loopO_next (hn i hi hp)]
      have := loop_eq l m d f yes no hlen hn hf he k (i + 1) (by omega)
      rw [show ((i : Int) + 1) = ((i + 1 : Nat) : Int) by omega, this, hd, hd', List.cons_beq_cons, hp, Bool.true_and]
    | false =>
      rw [loopO_done (hf i hi hp), hd, hd', List.cons_beq_cons, hp, Bool.false_and, cond_false]
/-- Counted up, till it is too much. -/
theorem loop_sum {α : Type} (l : List α) (d : α) (wt : α → Nat) (C : Nat) (f : Int × Int → Option (LR (Int × Int) Int))
    (hn : ∀ (n i : Nat), i < l.length → n ≤ C → ∃ m : Nat, f ((n : Int), (i : Int)) = some (.next ((m : Int), ((i + 1 : Nat) : Int))) ∧ (n + wt (l.getD i d) ≤ C → m = n + wt (l.getD i d)) ∧ (m ≤ C → n + wt (l.getD i d) ≤ C))
    (hd : ∀ (n i : Nat), i ≤ l.length → (i = l.length ∨ C < n) → f ((n : Int), (i : Int)) = some (.done (n : Int))) :
    ∀ (k i n : Nat), i + k = l.length → ∃ m : Nat, loopO f ((n : Int), (i : Int)) = some (m : Int) ∧ (n + ((l.drop i).map wt).sum ≤ C → m = n + ((l.drop i).map wt).sum) ∧ (m ≤ C → n + ((l.drop i).map wt).sum ≤ C)
  | 0, i, n, h => by
    obtain rfl : i = l.length := by omega
    refine ⟨n, loopO_done (hd n _ (Nat.le_refl _) (.inl rfl)), ?_, ?_⟩
    · simp
    · simp
  | k + 1, i, n, h => by
    have hi : i < l.length := by omega
    have hdr : l.drop i = l.getD i d :: l.drop (i + 1) := by rw [List.drop_eq_getElem_cons hi, getD_eq_of_lt _ _ _ hi]
    by_cases hC : n ≤ C
    · obtain ⟨m, h1, h2, h3⟩ := hn n i hi hC
      obtain ⟨m', h4, h5, h6⟩ := loop_sum l d wt C f hn hd k (i + 1) m (by omega)
      refine ⟨m', by rw [loopO_next h1]; exact h4, fun hle => ?_, fun hle => ?_⟩
      · rw [hdr, List.map_cons, List.sum_cons] at hle ⊢
        have := h2 (by omega)
        subst this
        rw [h5 (by omega)]
        omega
      · rw [hdr, List.map_cons, List.sum_cons]
        have h7 := h6 hle
        have h8 := h3 (by omega)
        have := h2 h8
        omega
    · refine ⟨n, loopO_done (hd n i (by omega) (.inr (by omega))), fun hle => by omega, fun hle => by omega⟩

/-- Whatever is counted: it ends. -/
theorem loop_total {X : Type} (N : Nat) (f : Int × Int → Option (LR (Int × Int) X)) (hn : ∀ (n : Int) (i : Nat), i < N → (∃ m : Int, f (n, (i : Int)) = some (.next (m, ((i + 1 : Nat) : Int)))) ∨ ∃ x, f (n, (i : Int)) = some (.done x)) (hd : ∀ n : Int, ∃ x, f (n, (N : Int)) = some (.done x)) :
    ∀ (k i : Nat) (n : Int), i + k = N → ∃ x, loopO f (n, (i : Int)) = some x
  | 0, i, n, h => by
    obtain rfl : i = N := by omega
    obtain ⟨x, hx⟩ := hd n
    exact ⟨x, loopO_done hx⟩
  | k + 1, i, n, h => by
    rcases hn n i (by omega) with ⟨m, hm⟩ | ⟨x, hx⟩
    · obtain ⟨x, hx⟩ := loop_total N f hn hd k (i + 1) m (by omega)
      exact ⟨x, by rw [loopO_next hm]; exact hx⟩
    · exact ⟨x, loopO_done hx⟩
/-- Counted up, as words. -/
theorem loop_addw {α X : Type} (l : List α) (d : α) (wt : α → Nat) (out : Int → X) (f : Int × Int → Option (LR (Int × Int) X))
    (hn : ∀ (n i : Nat), i < l.length → f (w64 n, (i : Int)) = some (.next (w64 ((n + wt (l.getD i d) : Nat) : Int), ((i + 1 : Nat) : Int)))) (hd : ∀ n : Int, f (n, (l.length : Int)) = some (.done (out n))) :
    ∀ (k i n : Nat), i + k = l.length → loopO f (w64 n, (i : Int)) = some (out (w64 ((n + ((l.drop i).map wt).sum : Nat) : Int)))
  | 0, i, n, h => by
    obtain rfl : i = l.length := by omega
    rw [loopO_done (hd _)]
    simp
  | k + 1, i, n, h => by
    have hi : i < l.length := by omega
    have hdr : l.drop i = l.getD i d :: l.drop (i + 1) := by rw [List.drop_eq_getElem_cons hi, getD_eq_of_lt _ _ _ hi]
    rw [loopO_next (hn n i hi), loop_addw l d wt out f hn hd k (i + 1) _ (by omega), hdr, List.map_cons, List.sum_cons, Nat.add_assoc]
theorem w64_add (a b : Int) : w64 (w64 a + b) = w64 (a + b) := by
  show IntKind.i64.wrap (IntKind.i64.wrap a + b) = IntKind.i64.wrap (a + b)
  simp only [IntKind.wrap, IntKind.bits, IntKind.signed]
  simp
  split <;> split <;> omega

/-- Counted up. -/
theorem loop_add {α X : Type} (l : List α) (d : α) (wt : α → Nat) (M : Nat) (out : Int → X) (f : Int × Int → Option (LR (Int × Int) X))
    (hn : ∀ (n i : Nat), i < l.length → n + wt (l.getD i d) ≤ M → f ((n : Int), (i : Int)) = some (.next (((n + wt (l.getD i d) : Nat) : Int), ((i + 1 : Nat) : Int))))
    (hd : ∀ n : Nat, f ((n : Int), (l.length : Int)) = some (.done (out n))) :
    ∀ (k i n : Nat), i + k = l.length → n + ((l.drop i).map wt).sum ≤ M → loopO f ((n : Int), (i : Int)) = some (out ((n + ((l.drop i).map wt).sum : Nat) : Int))
  | 0, i, n, h, _ => by
    obtain rfl : i = l.length := by omega
    rw [loopO_done (hd n)]
    simp
  | k + 1, i, n, h, hM => by
    have hi : i < l.length := by omega
    have hdr : l.drop i = l.getD i d :: l.drop (i + 1) := by rw [List.drop_eq_getElem_cons hi, getD_eq_of_lt _ _ _ hi]
    rw [hdr, List.map_cons, List.sum_cons] at hM
    rw [loopO_next (hn n i hi (by omega)), loop_add l d wt M out f hn hd k (i + 1) _ (by omega) (by omega), hdr, List.map_cons, List.sum_cons, Nat.add_assoc]

/-- Put together, piece behind piece. -/
theorem loop_append {α β : Type} (l : List α) (d : α) (E : α → List β) (M : Nat) (f : List β × Int → Option (LR (List β × Int) (List β)))
    (hn : ∀ (out : List β) (i : Nat), i < l.length → out.length + (E (l.getD i d)).length ≤ M → f (out, (i : Int)) = some (.next (out ++ E (l.getD i d), ((i + 1 : Nat) : Int))))
    (hd : ∀ out : List β, f (out, (l.length : Int)) = some (.done out)) :
    ∀ (k i : Nat) (out : List β), i + k = l.length → out.length + ((l.drop i).map E).flatten.length ≤ M → loopO f (out, (i : Int)) = some (out ++ ((l.drop i).map E).flatten)
  | 0, i, out, h, _ => by
    obtain rfl : i = l.length := by omega
    rw [loopO_done (hd out)]
    simp
  | k + 1, i, out, h, hM => by
    have hi : i < l.length := by omega
    have hdr : l.drop i = l.getD i d :: l.drop (i + 1) := by rw [List.drop_eq_getElem_cons hi, getD_eq_of_lt _ _ _ hi]
    rw [hdr, List.map_cons, List.flatten_cons, List.length_append] at hM
    rw [loopO_next (hn out i hi (by omega)), loop_append l d E M f hn hd k (i + 1) _ (by omega) (by rw [List.length_append]; omega), hdr, List.map_cons, List.flatten_cons, List.append_assoc]
theorem flat_bound {α β : Type} (l : List α) (E : α → List β) (B : Nat) (h : ∀ a ∈ l, (E a).length ≤ B) : (l.map E).flatten.length ≤ l.length * B := by
  induction l with
  | nil => simp
  | cons a l ih =>
    have h1 := h a (by simp)
    have h2 := ih (fun b hb => h b (by simp [hb]))
    rw [List.map_cons, List.flatten_cons, List.length_append, List.length_cons, Nat.add_mul]
    omega
theorem getD_mem {α : Type} {l : List α} {i : Nat} {d : α} (h : i < l.length) : l.getD i d ∈ l := by rw [getD_eq_of_lt _ _ _ h]; exact List.getElem_mem h
theorem inB_nat {i n : Nat} (h : i < n) : InB (i : Int) n := ⟨by omega, by exact_mod_cast h⟩
theorem w64_succ {i n : Nat} (h : i < n) (hn : n < 9223372036854775808) : w64 ((i : Int) + 1) = (i : Int) + 1 := w64_of (by omega) (by omega)
def good31 (l : List Int) : Prop := ∀ x ∈ l, 0 ≤ x ∧ x ≤ 2147483647
end Go.Proofs.Ytcpopeamoipjlaa
