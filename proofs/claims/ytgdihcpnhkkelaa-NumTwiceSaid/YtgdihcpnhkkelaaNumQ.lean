/-
  The laws' models answer true.
-/
import Derived.Test.YtgdihcpnhkkelaaNumL
namespace Go.Proofs.Ytgdihcpnhkkelaa
open Go Go.RowKit
set_option linter.unusedVariables false

theorem Bytes.take {a : List Int} (h : Bytes a) (k : Nat) : Bytes (a.take k) := fun x hx => h x (List.mem_of_mem_take hx)
theorem same_put {a b : List Int} (ha : a.length ≤ 100000) (hb : b.length ≤ 100000) : m_lockstepref02_Same a b = some (decide (a = b)) := same_eq a b (by omega) (by omega)

theorem goes_true (v : Int) (more : List Int) (at_ : Int) (hv : 0 ≤ v ∧ v < 18446744073709551616) (hm : Bytes more) (ha : 0 ≤ at_ ∧ at_ < 256) : m_locksteplaw02_NumGoes v more at_ = some true := by
  obtain ⟨n, rfl⟩ : ∃ n : Nat, v = n := ⟨v.toNat, by omega⟩
  have hn : n < 2 ^ 64 := by rw [two64]; omega
  have h1 := putN_pos n
  have h10 := putN_len10 hn
  unfold m_locksteplaw02_NumGoes
  rw [awake_eq]
  simp only [Option.bind_some, Bool.not_true, cond_false]
  by_cases hl : (1000 : Int) < more.length
  · rw [decide_eq_true hl]; rfl
  · rw [decide_eq_false hl, cond_false, put_eq hn, Option.bind_some]
    simp only [List.nil_append]
    rw [chk_pos' (by simp [room]; omega), chk_pos' (by simp only [room]; omega), get_eq _ ((putN_bytes n).app hm) (by simp; omega), Option.bind_some, getS_put hn]
    have hk : Int.tmod (w64 at_) ((putN n).length : Int) = ((at_.toNat % (putN n).length : Nat) : Int) := by
      rw [w64_of (by omega) (by omega), Int.tmod_eq_emod_of_nonneg (by omega), Int.natCast_emod]
      congr 1
      omega
    have hlt := Nat.mod_lt at_.toNat (y := (putN n).length) (by omega)
    have h0 : ((putN n).length : Int) ≠ 0 := by omega
    have h0' : (((putN n).length : Int) == 0) = false := by simpa using h0
    rw [h0', cond_false, chk_pos' h0, hk, chk_pos' (by omega), Int.toNat_natCast, get_eq _ ((putN_bytes n).take _) (by simp; omega), Option.bind_some, getS_short hn hlt, rput_eq hn, Option.bind_some, same_put (by omega) (by omega)]
    simp

theorem order_true (a b : Int) (ha : 0 ≤ a ∧ a < 18446744073709551616) (hb : 0 ≤ b ∧ b < 18446744073709551616) : m_locksteplaw02_NumOrder a b = some true := by
  obtain ⟨n, rfl⟩ : ∃ n : Nat, a = n := ⟨a.toNat, by omega⟩
  obtain ⟨m, rfl⟩ : ∃ n : Nat, b = n := ⟨b.toNat, by omega⟩
  have hn : n < 2 ^ 64 := by rw [two64]; omega
  have hm : m < 2 ^ 64 := by rw [two64]; omega
  have n1 := putN_pos n
  have n10 := putN_len10 hn
  have m1 := putN_pos m
  have m10 := putN_len10 hm
  unfold m_locksteplaw02_NumOrder
  rw [awake_eq]
  simp only [Option.bind_some, Bool.not_true, cond_false]
  rw [put_eq hn, Option.bind_some, put_eq hm, Option.bind_some]
  have hg : (bif decide ((n : Int) < m) then decide (((putN m).length : Int) < (putN n).length) else false) = false := by
    by_cases h : (n : Int) < m
    · have := putN_mono n m (by omega)
      rw [decide_eq_true h, cond_true]
      simp; omega
    · rw [decide_eq_false h]; rfl
  have hs : decide (putN n = putN m) = ((n : Int) == m) := by
    rw [Bool.eq_iff_iff]
    simp only [decide_eq_true_eq, beq_iff_eq]
    constructor
    · intro h; rw [putN_inj hn hm h]
    · intro h; rw [show n = m by omega]
  rw [hg]
  simp only [beq_self_eq_true, cond_true, cond_false]
  rw [same_put (by omega) (by omega), Option.bind_some, hs]
  have e1 : ((((n : Int) == m)) != ((n : Int) == m)) = false := by simp
  have e2 : decide (((putN n).length : Int) < 1) = false := by simp; omega
  have e3 : decide ((10 : Int) < ((putN n).length : Int)) = false := by simp; omega
  rw [e1, e2, e3]
  simp only [cond_false]
  have hmin : (if ((putN m).length : Int) < (putN n).length then ((putN m).length : Int) else (putN n).length) = ((min (putN n).length (putN m).length : Nat) : Int) := by split <;> omega
  rw [hmin, chk_pos' (fun _ => by omega), chk_pos' (fun _ => by omega), Int.toNat_natCast]
  by_cases hnm : n = m
  · subst hnm
    simp
  · have e4 : ((n : Int) == m) = false := by simp; omega
    rw [e4]
    simp only [beq_self_eq_true, cond_true, cond_false]
    rw [same_put (by simp; omega) (by simp; omega), Option.bind_some]
    have : ¬ (putN n).take (min (putN n).length (putN m).length) = (putN m).take (min (putN n).length (putN m).length) := fun h => hnm (putN_prefix hn hm rfl h)
    simp [this]

theorem rows_loop (l b : List Int) (hl : l.length ≤ 1000) : ∀ (r pre : List Int) (g : Bool), l = pre ++ r →
    loopO (m_locksteplaw02_NumRows_L1 l b) (g, (pre.length : Int)) = some (if ∃ x ∈ r, x < 0 then .inr ((b.length : Int) == 0) else .inl (g || decide (∃ x ∈ r, x > 2147483647))) := by
  intro r
  induction r with
  | nil =>
    intro pre g hlr
    have hlen : l.length = pre.length := by rw [hlr]; simp
    have h1 : decide ((pre.length : Int) < (l.length : Int)) = false := by simp; omega
    rw [loopO_done (x := Sum.inl g) (by unfold m_locksteplaw02_NumRows_L1; simp only [h1, cond_false])]
    simp
  | cons x r ih =>
    intro pre g hlr
    have hlen : l.length = pre.length + (r.length + 1) := by rw [hlr]; simp
    have hx : l.getD pre.length 0 = x := by rw [hlr, List.getD, List.getElem?_append_right (by omega)]; simp
    have h1 : decide ((pre.length : Int) < (l.length : Int)) = true := by simp; omega
    have e : m_locksteplaw02_NumRows_L1 l b (g, (pre.length : Int)) = bif decide (x < 0) then some (.done (.inr ((b.length : Int) == 0))) else some (.next (g || decide (x > 2147483647), ((pre ++ [x]).length : Int))) := by
      unfold m_locksteplaw02_NumRows_L1
      simp only [h1, cond_true, Int.toNat_natCast, hx]
      rw [chk_pos' ⟨by omega, by omega⟩]
      by_cases hneg : x < 0
      · rw [decide_eq_true hneg]; rfl
      · rw [decide_eq_false hneg, cond_false, cond_false, chk_pos' (fun _ => ⟨by omega, by omega⟩), w64_of (by omega) (by omega)]
        congr 2
        refine Prod.ext ?_ ?_
        · show (bif g then true else _) = _
          cases g <;> simp
        · simp
    by_cases hneg : x < 0
    · rw [decide_eq_true hneg, cond_true] at e
      rw [loopO_done e, if_pos ⟨x, List.mem_cons_self, hneg⟩]
    · rw [decide_eq_false hneg, cond_false] at e
      rw [loopO_next e, ih (pre ++ [x]) _ (by simp [hlr])]
      have hiff : (∃ y ∈ x :: r, y < 0) ↔ ∃ y ∈ r, y < 0 := by simp [hneg]
      simp only [hiff]
      congr 3
      rw [Bool.or_assoc]
      congr 1
      rw [Bool.eq_iff_iff]
      simp

theorem rows_true (l more : List Int) (hl : I64 l) (hm : Bytes more) : m_locksteplaw02_NumRows l more = some true := by
  unfold m_locksteplaw02_NumRows
  rw [awake_eq]
  simp only [Option.bind_some, Bool.not_true, cond_false]
  by_cases hlen : (500 : Int) < l.length
  · rw [decide_eq_true hlen]; rfl
  by_cases hlen2 : (1000 : Int) < more.length
  · rw [decide_eq_false hlen, decide_eq_true hlen2]; rfl
  rw [decide_eq_false hlen, decide_eq_false hlen2]
  simp only [cond_false]
  rw [row_eq l (by omega) hl, Option.bind_some, rrow_eq l (by omega) hl, Option.bind_some]
  have hput := putN_len10 (v := l.length) (by rw [two64]; omega)
  have hfl := hl.len
  have hrl : (rowS l).length ≤ 10000 := by
    unfold rowS
    split <;> simp
    omega
  rw [same_put (by omega) (by omega), Option.bind_some]
  simp only [decide_true, Bool.not_true, cond_false]
  have hlo := rows_loop l (rowS l) (by omega) l [] false rfl
  rw [show (([] : List Int).length : Int) = 0 from rfl] at hlo
  rw [hlo]
  by_cases hneg : ∃ x ∈ l, x < 0
  · rw [if_pos hneg]
    have : rowS l = [] := by unfold rowS; rw [if_pos hneg]
    simp [this]
  · rw [if_neg hneg]
    have hr : rowS l = putN l.length ++ flat l := by unfold rowS; rw [if_neg hneg]
    have hp : ∀ x ∈ l, 0 ≤ x := fun x hx => by
      rcases Int.lt_or_le x 0 with h | h
      · exact (hneg ⟨x, hx, h⟩).elim
      · exact h
    simp only [Option.bind_some, Bool.false_or, List.nil_append]
    rw [chk_pos' (by simp only [room, List.length_nil]; omega), chk_pos' (by simp only [room]; omega), list_eq _ more l l.length (by rw [hr]) hm (by simp; omega) hl hp (by omega) (by omega) (by omega), Option.bind_some]
    by_cases hgr : ∃ x ∈ l, x > 2147483647
    · rw [decide_eq_true hgr, if_pos hgr, cond_true]; rfl
    · rw [decide_eq_false hgr, if_neg hgr, cond_false, w64_of (by omega) (by omega), list_size _ [] l _ (by rw [hr, List.append_nil]) (by intro x hx; cases hx) (by omega) (by omega) (by omega) (by omega), Option.bind_some]
      have e1 : ((((putN l.length).length + (flat l).length : Nat) : Int) == ((rowS l).length : Int)) = true := by rw [hr]; simp
      simp only [e1]
      rw [show ((0 : Int) == 0) = true from rfl]
      simp only [cond_true, beq_self_eq_true]
      rw [ints_eq l l (by omega) (by omega), Option.bind_some]
      simp
end Go.Proofs.Ytgdihcpnhkkelaa
