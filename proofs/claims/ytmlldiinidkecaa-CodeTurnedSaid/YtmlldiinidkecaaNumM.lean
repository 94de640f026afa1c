/-
  What Put, Get, Row and List, and the document's own, compute.
-/
import Derived.Test.YtmlldiinidkecaaNumP
namespace Go.Proofs.Ytmlldiinidkecaa
open Go Go.RowKit
set_option linter.unusedVariables false

theorem two64 : (2 : Nat) ^ 64 = 18446744073709551616 := by decide

theorem putF_next {v : Nat} (hv : v < 2 ^ 64) (h : ¬ v < 128) {l : List Int} (hl : l.length + 1 ≤ room) :
    m_num_Put_F1 ((v : Int), l) = some (.next (((v / 128 : Nat) : Int), l ++ [((v % 128 + 128 : Nat) : Int)])) := by
  have h1 : decide ((128 : Int) ≤ v) = true := by simp; omega
  have h2 : bitsV .and .u64 v 127 = ((v % 128 : Nat) : Int) := and_low .u64 rfl 7 (by decide) hv (by decide)
  have h3 : wu8 ((v % 128 : Nat) : Int) = ((v % 128 : Nat) : Int) := wu8_of (by omega) (by omega)
  have h4 : bitsV .or .u8 ((v % 128 : Nat) : Int) 128 = ((v % 128 + 128 : Nat) : Int) := by
    have := or_add .u8 rfl 7 (a := v % 128) (b := 1) (Nat.mod_lt _ (by decide)) (by have : v % 128 < 128 := Nat.mod_lt _ (by decide); show v % 128 + 1 * 2 ^ 7 < 2 ^ 8; omega) (y := 128) (by decide)
    rw [this]
  have h5 : shrV .u64 (v : Int) 7 = ((v / 128 : Nat) : Int) := by
    unfold shrV
    rw [fdiv_pow]
    simp [IntKind.bits]
  unfold m_num_Put_F1
  simp only [h1, cond_true, h2, h3, h4, h5]
  rw [chk_pos' (by simpa using hl)]
theorem putF_done {v : Nat} (h : v < 128) {l : List Int} (hl : l.length + 1 ≤ room) : m_num_Put_F1 ((v : Int), l) = some (.done (l ++ [(v : Int)])) := by
  have h1 : decide ((128 : Int) ≤ v) = false := by simp; omega
  have h3 : wu8 (v : Int) = (v : Int) := wu8_of (by omega) (by omega)
  unfold m_num_Put_F1
  simp only [h1, cond_false, h3]
  rw [chk_pos' (by simpa using hl)]
theorem putF_loop : ∀ (v : Nat) (l : List Int), v < 2 ^ 64 → l.length + (putN v).length ≤ room → loopO m_num_Put_F1 ((v : Int), l) = some (l ++ putN v) := by
  intro v
  induction v using Nat.strongRecOn with
  | _ v ih =>
    intro l hv hl
    have := putN_pos v
    by_cases h : v < 128
    · rw [loopO_done (putF_done h (by omega)), putN_lt h]
    · rw [loopO_next (putF_next hv h (by omega)), ih (v / 128) (by omega) _ (by omega) ?_, putN_ge h]
      · simp
      · rw [putN_ge h] at hl
        simp at hl ⊢
        omega
theorem put_eq {v : Nat} (hv : v < 2 ^ 64) : m_num_Put v = some (putN v) := by
  have e : m_num_Put v = (scopeO (m_num_Put_F1 ((v : Int), [])) m_num_Put_F1).bind some := rfl
  have := putN_len10 hv
  rw [e, scopeO_self, putF_loop v [] hv (by simp [room]; omega)]
  rfl

theorem rputB {v : Nat} (hv : v < 2 ^ 64) {rec : Int → Option (List Int)} (hr : ¬ v < 128 → rec ((v / 128 : Nat) : Int) = some (putN (v / 128))) : mB_lockstepref02_Put rec v = some (putN v) := by
  unfold mB_lockstepref02_Put
  by_cases h : v < 128
  · have h1 : decide ((v : Int) < 128) = true := by simp; omega
    have h3 : wu8 (v : Int) = (v : Int) := wu8_of (by omega) (by omega)
    simp only [h1, cond_true, h3, putN_lt h]
  · have h1 : decide ((v : Int) < 128) = false := by simp; omega
    have h2 : wu64 (Int.tdiv v 128) = ((v / 128 : Nat) : Int) := by
      rw [Int.tdiv_eq_ediv_of_nonneg (by omega), show ((v : Int) / 128) = ((v / 128 : Nat) : Int) by omega]
      exact wu64_of (by omega) (by rw [two64] at hv; omega)
    have h3 : wu8 (wu64 ((Int.tmod v 128) + 128)) = ((v % 128 + 128 : Nat) : Int) := by
      rw [Int.tmod_eq_emod_of_nonneg (by omega), show ((v : Int) % 128 + 128) = ((v % 128 + 128 : Nat) : Int) by omega, wu64_of (by omega) (by omega), wu8_of (by omega) (by omega)]
    have := putN_len10 hv
    rw [putN_ge h] at this
    simp only [List.length_cons] at this
    simp only [h1, cond_false, h2, h3, hr h, Option.bind_some]
    rw [chk_pos' (by simp [room]; omega), putN_ge h]
    rfl
theorem rputN_eq : ∀ (n v : Nat), v < 2 ^ 64 → v < n → mN_lockstepref02_Put n v = some (putN v)
  | 0, v, _, h => by omega
  | n + 1, v, hv, h => rputB hv fun h' => rputN_eq n (v / 128) (by omega) (by omega)
theorem rput_eq {v : Nat} (hv : v < 2 ^ 64) : m_lockstepref02_Put v = some (putN v) := fixO_of (v + 1) fun m hm => rputN_eq m v hv (by omega)

/-- The same? -/
theorem same_loop (a b : List Int) (hl : a.length = b.length) (hb : a.length < 2 ^ 62) (f : Int → Option (LR Int (Unit ⊕ Bool)))
    (hf : ∀ i : Nat, f i = (bif (decide ((i : Int) < (a.length : Int))) then (chk (InB i a.length) (chk (InB i b.length) (bif (((a.getD ((i : Int)).toNat 0) : Int) != (b.getD ((i : Int)).toNat 0)) then (some (.done (.inr false))) else (some (.next (w64 ((i : Int) + 1))))))) else (some (.done (.inl ()))))) :
    ∀ (k i : Nat), a.length - i = k → a.take i = b.take i → i ≤ a.length → loopO f i = some (if a = b then .inl () else .inr false) := by
  intro k
  induction k with
  | zero =>
    intro i hk ht hi
    have h1 : decide ((i : Int) < (a.length : Int)) = false := by simp; omega
    rw [loopO_done (x := Sum.inl ()) (by rw [hf, h1]; rfl)]
    rw [List.take_of_length_le (by omega), List.take_of_length_le (by omega)] at ht
    rw [if_pos ht]
  | succ k ih =>
    intro i hk ht hi
    have h1 : decide ((i : Int) < (a.length : Int)) = true := by simp; omega
    have e := hf i
    rw [h1, cond_true, chk_pos' (p := InB i a.length) ⟨by omega, by omega⟩, chk_pos' (p := InB i b.length) ⟨by omega, by omega⟩] at e
    by_cases hne : a.getD i 0 = b.getD i 0
    · have h2 : ((a.getD ((i : Int)).toNat 0 : Int) != (b.getD ((i : Int)).toNat 0)) = false := by simpa using hne
      rw [h2, cond_false, w64_of (by omega) (by omega)] at e
      rw [loopO_next e]
      exact ih (i + 1) (by omega) (by rw [take_succ_getD a i 0 (by omega), take_succ_getD b i 0 (by omega), ht, hne]) (by omega)
    · have h2 : ((a.getD ((i : Int)).toNat 0 : Int) != (b.getD ((i : Int)).toNat 0)) = true := by simpa using hne
      rw [h2, cond_true] at e
      rw [loopO_done e, if_neg (fun h => hne (by rw [h]))]
theorem same_eq (a b : List Int) (h : a.length < 2 ^ 62) (h' : b.length < 2 ^ 62) : m_lockstepref02_Same a b = some (decide (a = b)) := by
  unfold m_lockstepref02_Same
  by_cases hl : a.length = b.length
  · have h1 : ((a.length : Int) != (b.length : Int)) = false := by simp [hl]
    rw [h1, cond_false]
    have := same_loop a b hl h (m_lockstepref02_Same_L1 a b) (fun i => rfl) a.length 0 rfl rfl (by omega)
    rw [show ((0 : Nat) : Int) = 0 from rfl] at this
    rw [this]
    by_cases he : a = b <;> simp [he]
  · have h1 : ((a.length : Int) != (b.length : Int)) = true := by simp; omega
    rw [h1, cond_true]
    have : ¬ a = b := fun h => hl (by rw [h])
    simp [this]
theorem ints_eq (a b : List Int) (h : a.length < 2 ^ 62) (h' : b.length < 2 ^ 62) : m_lockstepref02_Ints a b = some (decide (a = b)) := by
  unfold m_lockstepref02_Ints
  by_cases hl : a.length = b.length
  · have h1 : ((a.length : Int) != (b.length : Int)) = false := by simp [hl]
    rw [h1, cond_false]
    have := same_loop a b hl h (m_lockstepref02_Ints_L1 a b) (fun i => rfl) a.length 0 rfl rfl (by omega)
    rw [show ((0 : Nat) : Int) = 0 from rfl] at this
    rw [this]
    by_cases he : a = b <;> simp [he]
  · have h1 : ((a.length : Int) != (b.length : Int)) = true := by simp; omega
    rw [h1, cond_true]
    have : ¬ a = b := fun h => hl (by rw [h])
    simp [this]

theorem getL_ten (acc : Nat) (b : List Int) : getL 10 acc b = (0, 0, 3) := by cases b <;> simp [getL]

def Bytes (b : List Int) : Prop := ∀ x ∈ b, 0 ≤ x ∧ x < 256
theorem getF_loop (b : List Int) (hB : Bytes b) (hb : b.length < 2 ^ 62) : ∀ (r pre : List Int) (n : Nat) (acc : Nat) (m : Int), b = pre ++ r → pre.length = n → n ≤ 10 → (n ≤ 9 → m = acc ∧ acc < 128 ^ n) →
    loopO (m_num_Get_F1 b) (m, (n : Int)) = some (getL n acc r) := by
  intro r
  induction r with
  | nil =>
    intro pre n acc m hbr hpre hn hm
    have hlen : b.length = n := by rw [hbr, ← hpre]; simp
    unfold m_num_Get_F1
    by_cases h10 : n = 10
    · subst h10
      rw [loopO_done (x := (0, 0, 3)) (by simp)]
      simp [getL]
    · have h1 : ((n : Int) == 10) = false := by simp; omega
      have h2 : ((n : Int) == (b.length : Int)) = true := by simp; omega
      rw [loopO_done (x := (0, 0, 2)) (by simp only [h1, h2, cond_false, cond_true])]
      simp [getL, h10]
  | cons c r ih =>
    intro pre n acc m hbr hpre hn hm
    have hlen : b.length = n + (r.length + 1) := by rw [hbr, ← hpre]; simp
    by_cases h10 : n = 10
    · subst h10
      rw [loopO_done (x := (0, 0, 3)) (by unfold m_num_Get_F1; simp)]
      simp [getL]
    · obtain ⟨hm1, hm2⟩ := hm (by omega)
      subst hm1
      have hc : b.getD n 0 = c := by rw [hbr, List.getD, List.getElem?_append_right (by omega)]; simp [hpre]
      have hcb := hB c (by rw [hbr]; simp)
      obtain ⟨x, rfl⟩ : ∃ x : Nat, c = x := ⟨c.toNat, by omega⟩
      have hx : x < 256 := by omega
      have h1 : ((n : Int) == 10) = false := by simp; omega
      have h2 : ((n : Int) == (b.length : Int)) = false := by simp; omega
      have h3 : w64 ((n : Int) + 1) = ((n + 1 : Nat) : Int) := w64_of (by omega) (by omega)
      have h4 : w64 (((n + 1 : Nat) : Int) - 1) = (n : Int) := by rw [show ((n + 1 : Nat) : Int) - 1 = n by omega]; exact w64_of (by omega) (by omega)
      have h5 : w64 (7 * (n : Int)) = ((7 * n : Nat) : Int) := by rw [w64_of (by omega) (by omega)]; omega
      have h6 : bitsV .and .u8 (x : Int) 127 = ((x % 128 : Nat) : Int) := and_low .u8 rfl 7 (by decide) hx (by decide)
      have h7 : wu64 ((x % 128 : Nat) : Int) = ((x % 128 : Nat) : Int) := wu64_of (by omega) (by omega)
      have hb1 : InB (n : Int) b.length := ⟨by omega, by omega⟩
      have h8 : (n ≤ 8 ∨ x < 2) → bitsV .or .u64 (acc : Int) (shlV .u64 ((x % 128 : Nat) : Int) ((7 * n : Nat) : Int)) = ((acc + x % 128 * 128 ^ n : Nat) : Int) := fun hs => by
        have hp : (128 : Nat) ^ n = 2 ^ (7 * n) := by rw [Nat.pow_mul]
        have hlt : acc + x % 128 * 128 ^ n < 2 ^ 64 := by
          rcases hs with hs | hs
          · have h9 : (128 : Nat) ^ n ≤ 128 ^ 8 := Nat.pow_le_pow_right (by decide) hs
            have h10 : x % 128 * 128 ^ n ≤ 127 * 128 ^ 8 := Nat.mul_le_mul (by omega) h9
            have : 127 * 128 ^ 8 + 128 ^ 8 < 2 ^ 64 := by decide
            omega
          · have h9 : (128 : Nat) ^ n ≤ 128 ^ 9 := Nat.pow_le_pow_right (by decide) (by omega)
            have h10 : x % 128 * 128 ^ n ≤ 1 * 128 ^ 9 := Nat.mul_le_mul (by omega) h9
            have : 1 * 128 ^ 9 + 128 ^ 9 ≤ 2 ^ 64 := by decide
            omega
        have hsh : shlV .u64 ((x % 128 : Nat) : Int) ((7 * n : Nat) : Int) = ((x % 128 * 2 ^ (7 * n) : Nat) : Int) := by
          unfold shlV
          have : min (((7 * n : Nat) : Int)).toNat IntKind.u64.bits = 7 * n := by simp [IntKind.bits]; omega
          rw [this]
          rw [show (((x % 128 : Nat) : Int) * 2 ^ (7 * n)) = ((x % 128 * 2 ^ (7 * n) : Nat) : Int) by simp]
          exact uwrap_of .u64 rfl (by rw [← hp]; show _ < 2 ^ 64; omega)
        rw [or_add .u64 rfl (7 * n) (by rw [← hp]; exact hm2) (by rw [← hp]; exact hlt) hsh, hp]
      have e : m_num_Get_F1 b ((acc : Int), (n : Int)) = bif decide ((128 : Int) ≤ x) then some (.next (bitsV .or .u64 (acc : Int) (shlV .u64 ((x % 128 : Nat) : Int) ((7 * n : Nat) : Int)), ((n + 1 : Nat) : Int)))
          else (m_num_ends ((n + 1 : Nat) : Int) x).bind fun y => bif !y then some (.done (0, 0, 3)) else some (.done (bitsV .or .u64 (acc : Int) (shlV .u64 ((x % 128 : Nat) : Int) ((7 * n : Nat) : Int)), ((n + 1 : Nat) : Int), 0)) := by
        unfold m_num_Get_F1
        simp only [h1, h2, cond_false, h3, h4, h5, Int.toNat_natCast, hc, h6, h7]
        rw [chk_pos' hb1, chk_pos' (by omega), chk_pos' hb1, chk_pos' hb1]
      by_cases hge : 128 ≤ x
      · have hd : decide ((128 : Int) ≤ x) = true := by simp; omega
        rw [hd, cond_true] at e
        rw [loopO_next e, ih (pre ++ [(x : Int)]) (n + 1) (acc + x % 128 * 128 ^ n) _ (by simp [hbr]) (by simp [hpre]) (by omega) (fun h9 => ⟨h8 (.inl (by omega)), ?_⟩)]
        · simp only [getL, if_neg h10, if_pos (by omega : (128 : Int) ≤ x), Int.toNat_natCast]
        · have : x % 128 * 128 ^ n ≤ 127 * 128 ^ n := Nat.mul_le_mul_right _ (by omega)
          rw [Nat.pow_succ]
          omega
      · have hd : decide ((128 : Int) ≤ x) = false := by simp; omega
        rw [hd, cond_false] at e
        simp only [getL, if_neg h10, if_neg (by omega : ¬ (128 : Int) ≤ x), Int.toNat_natCast]
        have he : m_num_ends ((n + 1 : Nat) : Int) x = some (decide (n = 0 ∨ ((x : Int) ≠ 0 ∧ (n < 9 ∨ (x : Int) = 1)))) := by
          unfold m_num_ends
          congr 1
          rw [Bool.eq_iff_iff]
          simp only [Bool.cond_eq_ite, beq_iff_eq, bne_iff_ne, decide_eq_true_eq, ne_eq]
          split
          · simp; omega
          · split
            · split
              · simp; omega
              · simp; omega
            · simp; omega
        rw [he, Option.bind_some] at e
        by_cases hends : n = 0 ∨ ((x : Int) ≠ 0 ∧ (n < 9 ∨ (x : Int) = 1))
        · rw [decide_eq_true hends] at e
          simp only [Bool.not_true, cond_false] at e
          rw [loopO_done e, if_pos hends, h8 (by omega), Nat.mod_eq_of_lt (by omega : x < 128)]
        · rw [decide_eq_false hends] at e
          simp only [Bool.not_false, cond_true] at e
          rw [loopO_done e, if_neg hends]
theorem get_eq (b : List Int) (hB : Bytes b) (hb : b.length < 2 ^ 62) : m_num_Get b = some (getS b) := by
  have e : m_num_Get b = (scopeO (m_num_Get_F1 b (0, 0)) (m_num_Get_F1 b)).bind some := rfl
  rw [e, scopeO_self]
  have := getF_loop b hB hb b [] 0 0 0 rfl rfl (by omega) (fun _ => ⟨rfl, by simp⟩)
  rw [show ((0 : Nat) : Int) = 0 from rfl] at this
  rw [this]
  rfl
end Go.Proofs.Ytmlldiinidkecaa
