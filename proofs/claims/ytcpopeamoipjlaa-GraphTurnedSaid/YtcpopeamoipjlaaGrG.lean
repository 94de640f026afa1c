/-
  The document's order is the one depth first, too.
-/
import Derived.Test.YtcpopeamoipjlaaGrF
namespace Go.Proofs.Ytcpopeamoipjlaa
open Go Go.RowKit
set_option linter.unusedVariables false
set_option linter.unusedSimpArgs false

def RelN (n : Nat) (R : List Bool) (s : Nat → Bool) : Prop := R.length = n ∧ ∀ z, z < n → R.getD z false = s z
theorem RelN.set {n : Nat} {R : List Bool} {s : Nat → Bool} (h : RelN n R s) {y : Nat} (hy : y < n) : RelN n (R.set y true) (upd s y) := by
  refine ⟨by rw [List.length_set]; exact h.1, fun z hz => ?_⟩
  rw [List.getD_eq_getElem?_getD, List.getElem?_set]
  by_cases hzy : y = z
  · subst hzy; simp [upd, h.1, hy]
  · rw [if_neg hzy, ← List.getD_eq_getElem?_getD, h.2 z hz]
    simp [upd, Ne.symm hzy]
theorem visit_main {g : TGraph} (hm : mayS g.Succ = true) {s s' : Nat → Bool} {l o : List Nat} (hv : VL (sN g.Succ) s l s' o) :
    ∀ (B : Nat) (R : List Bool) (Lf : List Int) (a t : Nat), B ≤ 64 → RelN g.Succ.length R s → a < g.Succ.length → l = (sN g.Succ a).drop t → t ≤ (sN g.Succ a).length → Lf.length + cnt g.Succ.length s ≤ B →
      Lf.length + o.length + cnt g.Succ.length s' ≤ B ∧ ∃ R', RelN g.Succ.length R' s' ∧ ∃ N, ∀ m, N ≤ m → loopO (mB_lockstepref06_Walk_visit_L1 (mN_lockstepref06_Walk_visit m) g (a : Int)) ((t : Int), Lf, R) = some (ofN o.reverse ++ Lf, R') := by
  obtain ⟨hL1, hL64, hLok⟩ := mayS_iff.1 hm
  have hroom : (1000 : Nat) ≤ room := by decide
  have hlenS : ∀ a, (sN g.Succ a).length = (g.Succ.getD a []).length := fun a => by simp [sN]
  have hdrop : ∀ (a t y : Nat) (l' : List Nat), a < g.Succ.length → y :: l' = (sN g.Succ a).drop t → t < (g.Succ.getD a []).length ∧ (g.Succ.getD a []).getD t 0 = (y : Int) ∧ y < g.Succ.length ∧ l' = (sN g.Succ a).drop (t + 1) := fun a t y l' ha he => by
    have ht : t < (sN g.Succ a).length := by
      rcases Nat.lt_or_ge t (sN g.Succ a).length with h | h
      · exact h
      · rw [List.drop_eq_nil_of_le h] at he; cases he
    rw [List.drop_eq_getElem_cons ht] at he
    simp only [List.cons.injEq] at he
    obtain ⟨h1, h2⟩ := he
    have ht' : t < (g.Succ.getD a []).length := by rw [← hlenS]; exact ht
    obtain ⟨b0, b1⟩ := okL_at (hLok a ha) ht'
    have h3 : (sN g.Succ a)[t] = ((g.Succ.getD a []).getD t 0).toNat := by rw [getD_eq_of_lt _ _ _ ht']; simp [sN]
    exact ⟨ht', by omega, by omega, h2⟩
  induction hv with
  | nil s =>
    intro B R Lf a t hB hR ha hl htl hc
    have ht : t = (g.Succ.getD a []).length := by
      have := congrArg List.length hl
      simp at this
      rw [hlenS] at htl this
      omega
    refine ⟨by simpa using hc, R, hR, 0, fun m _ => loopO_done ?_⟩
    unfold mB_lockstepref06_Walk_visit_L1
    simp only [nat_nat]
    rw [chk_pos (inb ha), ht, dlt_f, cond_false]
    rfl
  | @skip s s' y l o h tl ih =>
    intro B R Lf a t hB hR ha hl htl hc
    obtain ⟨h1, h2, h3, h4⟩ := hdrop a t y l ha hl
    have hb := okL_len (hLok a ha)
    obtain ⟨c1, R', hR', N, hN⟩ := ih B R Lf a (t + 1) hB hR ha h4 (by rw [hlenS]; omega) hc
    refine ⟨c1, R', hR', N, fun m hm => ?_⟩
    rw [← hN m hm]
    apply loopO_next
    unfold mB_lockstepref06_Walk_visit_L1
    simp only [nat_nat, h2]
    rw [chk_pos (inb ha), dlt_t h1, cond_true, chk_pos (inb ha), chk_pos (inb h1), chk_pos (inb (by rw [hR.1]; exact h3)), hR.2 y h3, h, w1 (by omega)]
    rfl
  | @step s s1 s2 y l o1 o2 h tl tr ih1 ih2 =>
    intro B R Lf a t hB hR ha hl htl hc
    obtain ⟨h1, h2, h3, h4⟩ := hdrop a t y l ha hl
    have hb := okL_len (hLok a ha)
    have hcu := cnt_upd h3 h
    obtain ⟨c1, R1, hR1, N1, hN1⟩ := ih1 (B - 1) (R.set y true) Lf y 0 (by omega) (hR.set h3) h3 (by simp) (Nat.zero_le _) (by omega)
    have hvis : ∀ m, N1 + 1 ≤ m → mN_lockstepref06_Walk_visit m g (y : Int) R Lf = some ((y : Int) :: (ofN o1.reverse ++ Lf), R1) := fun m hm => by
      obtain ⟨m', rfl⟩ : ∃ m', m = m' + 1 := ⟨m - 1, by omega⟩
      show mB_lockstepref06_Walk_visit (mN_lockstepref06_Walk_visit m') g (y : Int) R Lf = _
      unfold mB_lockstepref06_Walk_visit
      rw [chk_pos (inb (by rw [hR.1]; exact h3)), nat_nat]
      have := hN1 m' (by omega)
      rw [show (((0 : Nat) : Int)) = 0 from rfl] at this
      rw [this]
      simp only [Option.bind_some]
      rw [chk_pos (by simp only [List.length_append, List.length_singleton, ofN, List.length_map, List.length_reverse]; omega)]
      rfl
    obtain ⟨c2, R2, hR2, N2, hN2⟩ := ih2 B R1 ((y : Int) :: (ofN o1.reverse ++ Lf)) a (t + 1) hB hR1 ha h4 (by rw [hlenS]; omega) (by simp only [List.length_cons, List.length_append, ofN, List.length_map, List.length_reverse]; omega)
    refine ⟨?_, R2, hR2, max (N1 + 1) N2, fun m hm => ?_⟩
    · simp only [List.length_cons, List.length_append, ofN, List.length_map, List.length_reverse] at c2 ⊢
      omega
    · have e : ofN (o1 ++ y :: o2).reverse ++ Lf = ofN o2.reverse ++ ((y : Int) :: (ofN o1.reverse ++ Lf)) := by simp [ofN]
      rw [e, ← hN2 m (by omega)]
      apply loopO_next
      unfold mB_lockstepref06_Walk_visit_L1
      simp only [nat_nat, h2]
      rw [chk_pos (inb ha), dlt_t h1, cond_true, chk_pos (inb ha), chk_pos (inb h1), chk_pos (inb (by rw [hR.1]; exact h3)), hR.2 y h3, h]
      simp only [Bool.not_false, cond_true]
      rw [chk_pos (inb ha), chk_pos (inb h1), hvis m (by omega), w1 (by omega)]
      simp only [Option.bind_some]
      rw [chk_pos (by rw [hR.1, hR1.1])]
      rfl
theorem m_ref_order (g : TGraph) (h : Fits g.Succ) (r : Int) :
    (mayG g = true → 0 ≤ r → r < (g.Succ.length : Int) → ∀ L, Ord (sN g.Succ) r.toNat L → m_lockstepref06_Order g r = some (ofN L)) ∧
    ((mayG g && (decide (0 ≤ r) && decide (r < (g.Succ.length : Int)))) = false → m_lockstepref06_Order g r = some []) := by
  have hroom : (1000 : Nat) ≤ room := by decide
  have hcond : ∀ b, (bif (bif (!b) then true else decide (r < 0)) then true else decide ((g.Succ.length : Int) ≤ r)) = !(b && (decide (0 ≤ r) && decide (r < (g.Succ.length : Int)))) := fun b => by
    cases b with
    | false => rfl
    | true =>
      by_cases h0 : 0 ≤ r
      · rw [decide_eq_true h0, decide_eq_false (show ¬ r < 0 by omega)]
        by_cases h1 : r < (g.Succ.length : Int)
        · rw [decide_eq_true h1, decide_eq_false (show ¬ (g.Succ.length : Int) ≤ r by omega)]; rfl
        · rw [decide_eq_false h1, decide_eq_true (show (g.Succ.length : Int) ≤ r by omega)]; rfl
      · rw [decide_eq_false h0, decide_eq_true (show r < 0 by omega)]; rfl
  refine ⟨fun hm h0 h1 L hL => ?_, fun hf => ?_⟩
  · have hms : mayS g.Succ = true := by unfold mayG at hm; exact (Bool.and_eq_true _ _ ▸ hm).1
    obtain ⟨hL1, hL64, hLok⟩ := mayS_iff.1 hms
    obtain ⟨s', o, hv, rfl⟩ := hL
    have hrn : ((r.toNat : Nat) : Int) = r := Int.toNat_of_nonneg h0
    have hr : r.toNat < g.Succ.length := by omega
    have hrel : RelN g.Succ.length (List.replicate g.Succ.length false) (fun _ => false) := ⟨by simp, fun z _ => rep_getD⟩
    have eone : upd (fun _ => false) r.toNat = one r.toNat := by funext z; simp [upd, one]
    have hset := hrel.set hr
    rw [eone] at hset
    have hc0 := cnt_upd (n := g.Succ.length) (s := fun _ => false) hr rfl
    rw [eone] at hc0
    have hcl : cnt g.Succ.length (fun _ => false) = g.Succ.length := by
      unfold cnt
      rw [List.filter_eq_self.2 (by simp)]
      simp
    obtain ⟨c1, R', hR', N, hN⟩ := visit_main hms hv (g.Succ.length - 1) _ [] r.toNat 0 (by omega) hset hr (by simp) (Nat.zero_le _) (by simp; omega)
    have hvis : m_lockstepref06_Walk_visit g r (List.replicate g.Succ.length false) [] = some (r :: ofN o.reverse, R') := by
      refine fixO_of (N + 1) fun m hm => ?_
      obtain ⟨m', rfl⟩ : ∃ m', m = m' + 1 := ⟨m - 1, by omega⟩
      show mB_lockstepref06_Walk_visit (mN_lockstepref06_Walk_visit m') g r (List.replicate g.Succ.length false) [] = _
      unfold mB_lockstepref06_Walk_visit
      rw [chk_pos ⟨h0, by simpa using h1⟩]
      have := hN m' (by omega)
      rw [show (((0 : Nat) : Int)) = 0 from rfl, hrn] at this
      rw [this]
      simp only [Option.bind_some]
      rw [chk_pos (by simp only [List.length_append, List.length_singleton, ofN, List.length_map, List.length_reverse, List.length_nil] at c1 ⊢; omega)]
      simp
    unfold m_lockstepref06_Order
    rw [m_ref_may _ h, hm, Option.bind_some, hcond, decide_eq_true h0, decide_eq_true h1]
    simp only [Bool.and_self, Bool.not_true, cond_false]
    rw [chk_pos ⟨by omega, Int.le_refl _, by omega⟩, nat_nat, hvis]
    simp only [Option.bind_some]
    rw [chk_pos (by rw [hR'.1]; simp)]
    congr 1
    simp [ofN, hrn]
    try omega
  · unfold m_lockstepref06_Order
    rw [m_ref_may _ h, Option.bind_some, hcond, hf]
    rfl
theorem nodup_len : ∀ (n : Nat) (l : List Nat), l.Nodup → (∀ x ∈ l, x < n) → l.length ≤ n
  | 0, l, _, h => by
    cases l with
    | nil => simp
    | cons x l => have := h x (List.mem_cons_self ..); omega
  | n + 1, l, hd, h => by
    by_cases hn : n ∈ l
    · have h1 := nodup_len n (l.erase n) (hd.erase n) fun x hx => by
        have h2 := (hd.mem_erase_iff).1 hx
        have := h x h2.2
        have := h2.1
        omega
      rw [List.length_erase_of_mem hn] at h1
      omega
    · have h1 := nodup_len n l hd fun x hx => by
        have := h x hx
        have : x ≠ n := by rintro rfl; exact hn hx
        omega
      omega
/-- Which blocks can be reached, as a list: what both answer. -/
theorem orders_same (g : TGraph) (h : Fits g.Succ) (r : Int) : ∃ l, m_graph_Order g r = some l ∧ m_lockstepref06_Order g r = some l ∧ l.length ≤ 64 ∧
    (mayG g = true → 0 ≤ r → r < (g.Succ.length : Int) → ∃ L, l = ofN L ∧ Ord (sN g.Succ) r.toNat L) ∧ ((mayG g && (decide (0 ≤ r) && decide (r < (g.Succ.length : Int)))) = false → l = []) := by
  cases hc : (mayG g && (decide (0 ≤ r) && decide (r < (g.Succ.length : Int)))) with
  | false =>
    refine ⟨[], (m_order g h trivial r).2 hc, (m_ref_order g h r).2 hc, by simp, fun h1 h2 h3 => ?_, fun _ => rfl⟩
    rw [h1, decide_eq_true h2, decide_eq_true h3] at hc
    cases hc
  | true =>
    simp only [Bool.and_eq_true, decide_eq_true_eq] at hc
    obtain ⟨hm, h0, h1⟩ := hc
    have hms : mayS g.Succ = true := by unfold mayG at hm; exact (Bool.and_eq_true _ _ ▸ hm).1
    obtain ⟨hL1, hL64, hLok⟩ := mayS_iff.1 hms
    obtain ⟨L, hL⟩ := Ord.exist (S := sN g.Succ) (n := g.Succ.length) (sN_lt hms) (show r.toNat < g.Succ.length by omega)
    refine ⟨ofN L, (m_order g h trivial r).1 hm h0 h1 L hL, (m_ref_order g h r).1 hm h0 h1 L hL, ?_, fun _ _ _ => ⟨L, rfl, hL⟩, fun h => by cases h⟩
    have hlt : ∀ x y, Rch (sN g.Succ) x y → x < g.Succ.length → y < g.Succ.length := by
      intro x y hxy
      induction hxy with
      | refl x => exact id
      | head hy _ ih => exact fun hx => ih (sN_lt hms _ hx _ hy)
    have := nodup_len g.Succ.length L hL.nodup fun z hz => hlt _ _ ((hL.mem z).1 hz) (by omega)
    simp only [ofN, List.length_map]
    omega
end Go.Proofs.Ytcpopeamoipjlaa
