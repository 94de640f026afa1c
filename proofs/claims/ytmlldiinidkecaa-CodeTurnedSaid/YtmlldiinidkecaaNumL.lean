/-
  What Row computes.
-/
import Derived.Test.YtmlldiinidkecaaNumM
namespace Go.Proofs.Ytmlldiinidkecaa
open Go Go.RowKit
set_option linter.unusedVariables false

/-- Numbers' bytes, one behind the other. -/
def flat (l : List Int) : List Int := (l.map fun x => putN x.toNat).flatten
theorem flat_nil : flat [] = [] := rfl
theorem flat_cons (x : Int) (l : List Int) : flat (x :: l) = putN x.toNat ++ flat l := rfl
theorem flat_app (l m : List Int) : flat (l ++ m) = flat l ++ flat m := by simp [flat]
theorem flat_byte (l : List Int) : Bytes (flat l) := by
  intro x hx
  simp only [flat, List.mem_flatten, List.mem_map] at hx
  obtain ⟨_, ⟨y, _, rfl⟩, hx⟩ := hx
  exact putN_byte _ x hx
def I64 (l : List Int) : Prop := ∀ x ∈ l, -9223372036854775808 ≤ x ∧ x < 9223372036854775808
theorem I64.len {l : List Int} (h : I64 l) : (flat l).length ≤ 10 * l.length := by
  induction l with
  | nil => simp [flat]
  | cons x l ih =>
    have := ih fun y hy => h y (List.mem_cons_of_mem _ hy)
    have hx := h x List.mem_cons_self
    have := putN_len10 (v := x.toNat) (by rw [two64]; omega)
    simp [flat_cons]
    omega
theorem Bytes.app {a b : List Int} (h : Bytes a) (k : Bytes b) : Bytes (a ++ b) := fun x hx => (List.mem_append.1 hx).elim (h x) (k x)
theorem putN_bytes (v : Nat) : Bytes (putN v) := putN_byte v

theorem row_loop (l : List Int) (hl : l.length ≤ 1000) (hv : I64 l) (p : Int → Option (List Int)) (hp : ∀ v : Nat, v < 2 ^ 64 → p v = some (putN v)) (f : List Int × Int → Option (LR (List Int × Int) (List Int ⊕ List Int)))
    (hf : ∀ (acc : List Int) (i : Nat), f (acc, i) = (bif (decide ((i : Int) < (l.length : Int))) then (chk (InB i l.length) (bif (decide (((l.getD ((i : Int)).toNat (0 : Int)) : Int) < (0 : Int))) then (some (.done (.inr ([] : List Int)))) else (chk (InB i l.length) ((p (wu64 (l.getD ((i : Int)).toNat (0 : Int)))).bind fun x7 => (chk (acc.length + x7.length ≤ room) (some (.next ((acc ++ x7), (w64 ((i : Int) + (1 : Int))))))))))) else (some (.done (.inl acc))))) :
    ∀ (r pre acc : List Int), l = pre ++ r → acc.length ≤ 10 * (pre.length + 1) → loopO f (acc, (pre.length : Int)) = some (if ∃ x ∈ r, x < 0 then .inr [] else .inl (acc ++ flat r)) := by
  intro r
  induction r with
  | nil =>
    intro pre acc hlr ha
    have hlen : l.length = pre.length := by rw [hlr]; simp
    have h1 : decide ((pre.length : Int) < (l.length : Int)) = false := by simp; omega
    rw [loopO_done (x := Sum.inl acc) (by rw [hf, h1]; rfl)]
    simp [flat]
  | cons x r ih =>
    intro pre acc hlr ha
    have hlen : l.length = pre.length + (r.length + 1) := by rw [hlr]; simp
    have hx : l.getD pre.length 0 = x := by rw [hlr, List.getD, List.getElem?_append_right (by omega)]; simp
    have hxb := hv x (by rw [hlr]; simp)
    have h1 : decide ((pre.length : Int) < (l.length : Int)) = true := by simp; omega
    have e := hf acc pre.length
    rw [h1, cond_true, chk_pos' (p := InB _ _) ⟨by omega, by omega⟩, Int.toNat_natCast, hx] at e
    by_cases hneg : x < 0
    · rw [decide_eq_true hneg, cond_true] at e
      rw [loopO_done e, if_pos ⟨x, List.mem_cons_self, hneg⟩]
    · have hput := putN_len10 (v := x.toNat) (by rw [two64]; omega)
      rw [decide_eq_false hneg, cond_false, chk_pos' (p := InB _ _) ⟨by omega, by omega⟩, wu64_of (by omega) (by omega), show p x = some (putN x.toNat) by rw [← hp x.toNat (by rw [two64]; omega)]; congr 1; omega,
        Option.bind_some, chk_pos' (by simp only [room]; omega), w64_of (by omega) (by omega)] at e
      have := ih (pre ++ [x]) (acc ++ putN x.toNat) (by simp [hlr]) (by simp; omega)
      rw [loopO_next e, show ((pre.length : Int) + 1) = ((pre ++ [x]).length : Int) by simp, this]
      have hiff : (∃ y ∈ x :: r, y < 0) ↔ ∃ y ∈ r, y < 0 := by
        simp only [List.mem_cons]
        constructor
        · rintro ⟨y, rfl | hy, h⟩
          · omega
          · exact ⟨y, hy, h⟩
        · rintro ⟨y, hy, h⟩; exact ⟨y, .inr hy, h⟩
      simp only [hiff, flat_cons, List.append_assoc]
/-- A list as bytes. -/
noncomputable def rowS (l : List Int) : List Int := open Classical in if ∃ x ∈ l, x < 0 then [] else putN l.length ++ flat l
theorem row_eq (l : List Int) (hl : l.length ≤ 1000) (hv : I64 l) : m_num_Row l = some (rowS l) := by
  have hput := putN_len10 (v := l.length) (by rw [two64]; omega)
  unfold m_num_Row
  rw [wu64_of (by omega) (by omega), put_eq (by rw [two64]; omega), Option.bind_some]
  have := row_loop l hl hv m_num_Put (fun v h => put_eq h) (m_num_Row_L1 l) (fun acc i => rfl) l [] (putN l.length) rfl (by simpa using hput)
  rw [show (([] : List Int).length : Int) = 0 from rfl] at this
  rw [this]
  unfold rowS
  split <;> rfl
theorem rrow_eq (l : List Int) (hl : l.length ≤ 1000) (hv : I64 l) : m_lockstepref02_Row l = some (rowS l) := by
  have hput := putN_len10 (v := l.length) (by rw [two64]; omega)
  unfold m_lockstepref02_Row
  rw [wu64_of (by omega) (by omega), rput_eq (by rw [two64]; omega), Option.bind_some]
  have := row_loop l hl hv m_lockstepref02_Put (fun v h => rput_eq h) (m_lockstepref02_Row_L1 l) (fun acc i => rfl) l [] (putN l.length) rfl (by simpa using hput)
  rw [show (([] : List Int).length : Int) = 0 from rfl] at this
  rw [this]
  unfold rowS
  split <;> rfl

end Go.Proofs.Ytmlldiinidkecaa
