/-
  The program's order is the one depth first.
-/
import Derived.Test.YtcpopeamoipjlaaGrE
namespace Go.Proofs.Ytcpopeamoipjlaa
open Go Go.RowKit
set_option linter.unusedVariables false
set_option linter.unusedSimpArgs false

/-! ### Turned round -/
theorem m_reverse (l : List Int) (hl : l.length < 4611686018427387904) : m_slices_Reverse_int_int l = some l.reverse := by
  unfold m_slices_Reverse_int_int
  by_cases h0 : l.length = 0
  · obtain rfl : l = [] := List.length_eq_zero_iff.1 h0
    have : loopO m_slices_Reverse_int_int_L1 ((0 : Int), (w64 ((([] : List Int).length : Int) - 1)), ([] : List Int)) = some [] := by
      apply loopO_done
      unfold m_slices_Reverse_int_int_L1
      rw [w64_of (by simp) (by simp)]
      rfl
    rw [this]; rfl
  · have hw : w64 ((l.length : Int) - 1) = ((l.length - 1 : Nat) : Int) := by rw [w64_of (by omega) (by omega)]; omega
    rw [hw]
    let C : Nat → List Int := fun k => (List.range l.length).map fun i => if i < k ∨ l.length - 1 - k < i then l.getD (l.length - 1 - i) 0 else l.getD i 0
    have hC : ∀ k i, i < l.length → (C k).getD i 0 = if i < k ∨ l.length - 1 - k < i then l.getD (l.length - 1 - i) 0 else l.getD i 0 := fun k i hi => by simp only [C]; rw [getD_mr hi]
    have hlen : ∀ k, (C k).length = l.length := fun k => by simp [C]
    have := loop_seq m_slices_Reverse_int_int_L1 (fun k => (((k : Nat) : Int), ((l.length - 1 - k : Nat) : Int), C k)) l.reverse (l.length / 2) (fun k hk => ?_) ?_
    · have e0 : C 0 = l := by
        apply List.ext_getElem (by simp [C])
        intro i h1 h2
        have := hC 0 i h2
        rw [getD_eq_of_lt _ _ _ h1, getD_eq_of_lt _ _ _ h2] at this
        rw [this, if_neg (by omega)]
      have this' : loopO m_slices_Reverse_int_int_L1 ((0 : Int), ((l.length - 1 : Nat) : Int), l) = some l.reverse := by
        have h2 := this
        simp only [e0] at h2
        exact h2
      rw [this']; rfl
    · show m_slices_Reverse_int_int_L1 (_, _, _) = _
      unfold m_slices_Reverse_int_int_L1
      have hlt : k < l.length - 1 - k := by omega
      simp only [dlt_t hlt, cond_true, nat_nat]
      rw [chk_pos (inb (by rw [hlen]; omega)), chk_pos (inb (by rw [hlen]; omega)), chk_pos (inb (by rw [hlen]; omega)), chk_pos (inb (by rw [hlen]; omega))]
      rw [w1 (by omega), show w64 (((l.length - 1 - k : Nat) : Int) - 1) = ((l.length - 1 - (k + 1) : Nat) : Int) by rw [w64_of (by omega) (by omega)]; omega]
      congr 4
      rw [hC k _ (by omega), hC k _ (by omega), if_neg (by omega), if_neg (by omega)]
      simp only [C]
      rw [set_mr, set_mr]
      apply mr_congr
      intro i hi
      by_cases h1 : i = k
      · subst h1
        rw [if_neg (by omega), if_pos rfl, if_pos (by omega)]
      · by_cases h2 : i = l.length - 1 - k
        · subst h2
          rw [if_pos rfl, if_pos (by omega)]
          congr 1; omega
        · rw [if_neg h2, if_neg h1]
          by_cases h3 : i < k ∨ l.length - 1 - k < i
          · rw [if_pos h3, if_pos (by omega)]
          · rw [if_neg h3, if_neg (by omega)]
    · show m_slices_Reverse_int_int_L1 (_, _, _) = _
      unfold m_slices_Reverse_int_int_L1
      have hd : decide (((l.length / 2 : Nat) : Int) < ((l.length - 1 - l.length / 2 : Nat) : Int)) = false := decide_eq_false (by omega)
      simp only [hd, cond_false]
      congr 2
      apply List.ext_getElem (by simp [C])
      intro i h1 h2
      have h3 : i < l.length := by simpa [C] using h1
      have := hC (l.length / 2) i h3
      rw [getD_eq_of_lt _ _ _ h1] at this
      rw [this, List.getElem_reverse]
      split
      · rw [getD_eq_of_lt _ _ _ (by omega)]
      · rw [getD_eq_of_lt _ _ _ h3]
        congr 1; omega

/-! ### One step -/
theorem top {st : List Int} {a : Int} (h : st.length < 4611686018427387904) : (st ++ [a]).getD (w64 (((st ++ [a]).length : Int) - 1)).toNat 0 = a := by
  have : w64 (((st ++ [a]).length : Int) - 1) = ((st.length : Nat) : Int) := by rw [List.length_append, List.length_singleton, w64_of (by omega) (by omega)]; omega
  rw [this, nat_nat]
  simp [List.getD]
theorem topi {st : List Int} {a : Int} (h : st.length < 4611686018427387904) : w64 (((st ++ [a]).length : Int) - 1) = ((st.length : Nat) : Int) := by
  rw [List.length_append, List.length_singleton, w64_of (by omega) (by omega)]; omega
theorem L2_done {g : TGraph} {R : List Bool} {st T : List Int} {a : Nat} (hst : st.length < 64) (ha : a < g.Succ.length) (h64 : g.Succ.length ≤ 64) (ht : T.getD a 0 = ((g.Succ.getD a []).length : Int)) :
    m_graph_Order_L2 g R (st ++ [(a : Int)]) T = some (.done (.inl T)) := by
  unfold m_graph_Order_L2
  simp only [top (st := st) (a := (a : Int)) (by omega), nat_nat]
  rw [chk_pos (inb (by omega)), chk_pos (inb ha), ht, dlt_f, cond_false]
theorem L2_step {g : TGraph} {R : List Bool} {st T : List Int} {a t y : Nat} (hst : st.length < 64) (ha : a < g.Succ.length) (h64 : g.Succ.length ≤ 64) (ht : T.getD a 0 = (t : Int)) (htl : t < (g.Succ.getD a []).length) (htm : t < 64)
    (hy : (g.Succ.getD a []).getD t 0 = (y : Int)) (hyn : y < g.Succ.length) :
    m_graph_Order_L2 g R (st ++ [(a : Int)]) T = bif R.getD y false then some (.next (setN 64 (0 : Int) T a ((t + 1 : Nat) : Int))) else some (.done (.inr (setN 64 false R y true, setN 64 (0 : Int) T a ((t + 1 : Nat) : Int), (st ++ [(a : Int)]) ++ [(y : Int)]))) := by
  have hroom : (1000 : Nat) ≤ room := by decide
  unfold m_graph_Order_L2
  simp only [top (st := st) (a := (a : Int)) (by omega), nat_nat, ht, hy]
  rw [chk_pos (inb (by omega)), chk_pos (inb ha), dlt_t htl, cond_true, chk_pos (inb ha), chk_pos (inb (by omega)), chk_pos (inb htl), chk_pos (inb (by omega)), chk_pos (inb (by omega)), chk_pos (inb (by omega)), w1 (by omega)]
  cases R.getD y false with
  | true => rfl
  | false =>
    simp only [Bool.not_false, cond_true, cond_false]
    rw [chk_pos (inb (by omega)), chk_pos (by rw [List.length_append, List.length_singleton, List.length_singleton]; omega)]
theorem F3_eq {g : TGraph} {R : List Bool} {st T Lf : List Int} {a : Nat} (hst : st.length < 64) (hLf : Lf.length < 64) :
    m_graph_Order_F3 g (R, T, st ++ [(a : Int)], Lf) = (loopO (m_graph_Order_L2 g R (st ++ [(a : Int)])) T).bind fun x => match x with
      | .inl T' => if st = [] then some (.done (Lf ++ [(a : Int)]).reverse) else some (.next (R, T', st, Lf ++ [(a : Int)]))
      | .inr (R', T', st') => some (.next (R', T', st', Lf)) := by
  have hroom : (1000 : Nat) ≤ room := by decide
  unfold m_graph_Order_F3
  simp only
  have hb : InB (w64 (((st ++ [(a : Int)]).length : Int) - 1)) (st ++ [(a : Int)]).length := by rw [topi (by omega)]; exact inb (by simp)
  rw [chk_pos hb]
  congr 1
  funext x
  cases x with
  | inr y => obtain ⟨R', T', st'⟩ := y; rfl
  | inl T' =>
    simp only [top (st := st) (a := (a : Int)) (by omega)]
    rw [topi (by omega), nat_nat, chk_pos (by rw [List.length_singleton]; omega), chk_pos ⟨by omega, by simp⟩]
    have e : (st ++ [(a : Int)]).take st.length = st := List.take_left' rfl
    rw [e]
    cases st with
    | nil =>
      rw [if_pos rfl]
      have : decide ((0 : Int) < (([] : List Int).length : Int)) = false := by decide
      rw [this, cond_false, m_reverse _ (by simp; omega)]
      simp only [Option.bind_some]
      rw [chk_pos (by simp)]
    | cons b st' =>
      rw [if_neg (by simp)]
      have : decide ((0 : Int) < ((b :: st').length : Int)) = true := decide_eq_true (by simp <;> omega)
      rw [this, cond_true]
theorem loopO_from {S X : Type} {f : S → Option (LR S X)} {a b : S} (h : f a = f b) : loopO f a = loopO f b := by
  cases hb : f b with
  | none => rw [loopO_none (h.trans hb), loopO_none hb]
  | some r => cases r with
    | done x => rw [loopO_done (h.trans hb), loopO_done hb]
    | next s => rw [loopO_next (h.trans hb), loopO_next hb]
theorem scopeO_from {S X : Type} {f : S → Option (LR S X)} {s : S} : scopeO (f s) f = loopO f s := by
  unfold scopeO
  cases hb : f s with
  | none => rw [loopO_none hb]; rfl
  | some r => cases r with
    | done x => rw [loopO_done hb]; rfl
    | next s' => rw [loopO_next hb]; rfl

/-! ### All of it -/
/-- Where a block goes on, as numbers. -/
def sN (L : List (List Int)) (k : Nat) : List Nat := (L.getD k []).map Int.toNat
def RelS (R : List Bool) (s : Nat → Bool) : Prop := ∀ z, z < 64 → R.getD z false = s z
theorem setN_at {α : Type} {d : α} {l : List α} {i : Nat} {x : α} {k : Nat} (hk : k < 64) : (setN 64 d l i x).getD k d = if k = i then x else l.getD k d := by
  rw [setN_getD hk]
  by_cases h : k = i
  · subst h; simp
  · have : Nat.beq k i = false := by cases hb : Nat.beq k i with | false => rfl | true => exact absurd (Nat.eq_of_beq_eq_true hb) h
    rw [this, if_neg h]; rfl
theorem RelS.set {R : List Bool} {s : Nat → Bool} (h : RelS R s) {y : Nat} : RelS (setN 64 false R y true) (upd s y) := fun z hz => by
  rw [setN_at hz, h z hz]
  by_cases hzy : z = y
  · simp [upd, hzy]
  · simp [upd, hzy]
def ofN (o : List Nat) : List Int := o.map Int.ofNat
theorem order_main {g : TGraph} (hm : mayS g.Succ = true) {s s' : Nat → Bool} {l o : List Nat} (hv : VL (sN g.Succ) s l s' o) :
    ∀ (R : List Bool) (T st Lf : List Int) (a t : Nat), RelS R s → a < g.Succ.length → l = (sN g.Succ a).drop t → T.getD a 0 = (t : Int) → t ≤ (sN g.Succ a).length → s a = true → (∀ z, z < 64 → s z = false → T.getD z 0 = 0) →
      Lf.length + cnt 64 s + st.length + 1 ≤ 64 →
      ∃ (R' : List Bool) (T' : List Int), RelS R' s' ∧ (∀ z, z < 64 → s' z = false → T'.getD z 0 = 0) ∧ (∀ z, z < 64 → s z = true → z ≠ a → T'.getD z 0 = T.getD z 0) ∧ Lf.length + o.length + cnt 64 s' + st.length + 1 ≤ 64 ∧
        loopO (m_graph_Order_F3 g) (R, T, st ++ [(a : Int)], Lf) = if st = [] then some (Lf ++ ofN o ++ [(a : Int)]).reverse else loopO (m_graph_Order_F3 g) (R', T', st, Lf ++ ofN o ++ [(a : Int)]) := by
  obtain ⟨hL1, hL64, hLok⟩ := mayS_iff.1 hm
  have hlenS : ∀ a, (sN g.Succ a).length = (g.Succ.getD a []).length := fun a => by simp [sN]
  have hdrop : ∀ (a t y : Nat) (l' : List Nat), a < g.Succ.length → y :: l' = (sN g.Succ a).drop t → t < (g.Succ.getD a []).length ∧ (g.Succ.getD a []).getD t 0 = (y : Int) ∧ y < g.Succ.length ∧ l' = (sN g.Succ a).drop (t + 1) := fun a t y l' ha he => by
    have ht : t < (sN g.Succ a).length := by
      rcases Nat.lt_or_ge t (sN g.Succ a).length with h | h
      · exact h
      · rw [List.drop_eq_nil_of_le h] at he; cases he
    rw [List.drop_eq_getElem_cons ht] at he
    simp only [List.cons.injEq] at he
    obtain ⟨h1, h2⟩ := he
    have ht' : t < (g.Succ.getD a []).length := by rw [← hlenS]; exact ht
    obtain ⟨b0, b1⟩ := okL_at (hLok a ha) ht'
    have h3 : (sN g.Succ a)[t] = ((g.Succ.getD a []).getD t 0).toNat := by rw [getD_eq_of_lt _ _ _ ht']; simp [sN]
    exact ⟨ht', by omega, by omega, h2⟩
  induction hv with
  | nil s =>
    intro R T st Lf a t hR ha hl hT htl hsa hz hc
    have ht : t = (g.Succ.getD a []).length := by
      have := congrArg List.length hl
      simp at this
      rw [hlenS] at htl this
      omega
    refine ⟨R, T, hR, hz, fun _ _ _ _ => rfl, by simpa using hc, ?_⟩
    have hF : m_graph_Order_F3 g (R, T, st ++ [(a : Int)], Lf) = if st = [] then some (.done (Lf ++ [(a : Int)]).reverse) else some (.next (R, T, st, Lf ++ [(a : Int)])) := by
      rw [F3_eq (by omega) (by omega), loopO_done (L2_done (by omega) ha hL64 (by rw [hT, ht]))]
      rfl
    by_cases hst : st = []
    · rw [if_pos hst] at hF ⊢
      rw [loopO_done hF]
      simp [ofN]
    · rw [if_neg hst] at hF ⊢
      rw [loopO_next hF]
      simp [ofN]
  | @skip s s' y l o h tl ih =>
    intro R T st Lf a t hR ha hl hT htl hsa hz hc
    obtain ⟨h1, h2, h3, h4⟩ := hdrop a t y l ha hl
    have hb := okL_len (hLok a ha)
    have hs := L2_step (g := g) (R := R) (st := st) (T := T) (a := a) (t := t) (y := y) (by omega) ha hL64 hT h1 (by omega) h2 h3
    rw [hR y (by omega), h, cond_true] at hs
    obtain ⟨R', T', a1, a2, a3, a4, a5⟩ := ih R (setN 64 (0 : Int) T a ((t + 1 : Nat) : Int)) st Lf a (t + 1) hR ha h4 (by rw [setN_at (by omega), if_pos rfl]) (by rw [hlenS]; omega) hsa
      (fun z hz1 hz2 => by rw [setN_at hz1, if_neg (by rintro rfl; rw [hsa] at hz2; cases hz2)]; exact hz z hz1 hz2) hc
    refine ⟨R', T', a1, a2, fun z hz1 hz2 hz3 => by rw [a3 z hz1 hz2 hz3, setN_at hz1, if_neg hz3], a4, ?_⟩
    rw [← a5]
    apply loopO_from
    rw [F3_eq (by omega) (by omega), F3_eq (by omega) (by omega), loopO_next hs]
  | @step s s1 s2 y l o1 o2 h tl tr ih1 ih2 =>
    intro R T st Lf a t hR ha hl hT htl hsa hz hc
    obtain ⟨h1, h2, h3, h4⟩ := hdrop a t y l ha hl
    have hb := okL_len (hLok a ha)
    have hay : y ≠ a := by rintro rfl; rw [hsa] at h; cases h
    have hs := L2_step (g := g) (R := R) (st := st) (T := T) (a := a) (t := t) (y := y) (by omega) ha hL64 hT h1 (by omega) h2 h3
    rw [hR y (by omega), h, cond_false] at hs
    have hcu := cnt_upd (n := 64) (show y < 64 by omega) h
    have hF : m_graph_Order_F3 g (R, T, st ++ [(a : Int)], Lf) = some (.next (setN 64 false R y true, setN 64 (0 : Int) T a ((t + 1 : Nat) : Int), (st ++ [(a : Int)]) ++ [(y : Int)], Lf)) := by
      rw [F3_eq (by omega) (by omega), loopO_done hs]
      rfl
    obtain ⟨R1, T1, b1, b2, b3, b4, b5⟩ := ih1 (setN 64 false R y true) (setN 64 (0 : Int) T a ((t + 1 : Nat) : Int)) (st ++ [(a : Int)]) Lf y 0 hR.set h3 (by simp)
      (by rw [setN_at (by omega), if_neg hay]; exact hz y (by omega) h) (Nat.zero_le _) (upd_true.2 (.inl rfl))
      (fun z hz1 hz2 => by
        obtain ⟨c1, c2⟩ := upd_false.1 hz2
        rw [setN_at hz1, if_neg (by rintro rfl; rw [hsa] at c2; cases c2)]
        exact hz z hz1 c2) (by rw [List.length_append, List.length_singleton]; omega)
    rw [if_neg (by simp)] at b5
    have hTa : T1.getD a 0 = ((t + 1 : Nat) : Int) := by rw [b3 a (by omega) (upd_true.2 (.inr hsa)) (Ne.symm hay), setN_at (by omega), if_pos rfl]
    rw [List.length_append, List.length_singleton] at b4
    obtain ⟨R2, T2, c1, c2, c3, c4, c5⟩ := ih2 R1 T1 st (Lf ++ ofN o1 ++ [(y : Int)]) a (t + 1) b1 ha h4 hTa (by rw [hlenS]; omega) ((tl.seen a).2 (.inl (upd_true.2 (.inr hsa)))) b2
      (by simp only [List.length_append, List.length_singleton, ofN, List.length_map]; omega)
    refine ⟨R2, T2, c1, c2, fun z hz1 hz2 hz3 => ?_, ?_, ?_⟩
    · rw [c3 z hz1 ((tl.seen z).2 (.inl (upd_true.2 (.inr hz2)))) hz3, b3 z hz1 (upd_true.2 (.inr hz2)) (by rintro rfl; rw [h] at hz2; cases hz2), setN_at hz1, if_neg hz3]
    · simp only [List.length_append, List.length_singleton, ofN, List.length_map, List.length_cons] at c4 ⊢
      omega
    · rw [loopO_next hF, b5, c5]
      have e : Lf ++ ofN o1 ++ [(y : Int)] ++ ofN o2 ++ [(a : Int)] = Lf ++ ofN (o1 ++ y :: o2) ++ [(a : Int)] := by simp [ofN]
      rw [e]

theorem sN_lt {L : List (List Int)} (h : mayS L = true) : ∀ z, z < L.length → ∀ y ∈ sN L z, y < L.length := fun z hz y hy => by
  obtain ⟨_, _, h3⟩ := mayS_iff.1 h
  obtain ⟨x, hx, rfl⟩ := List.mem_map.1 hy
  have := okL_mem (h3 z hz) hx
  omega
theorem cnt_one {r : Nat} (hr : r < 64) : cnt 64 (one r) = 63 := by
  have h := cnt_upd (n := 64) (s := fun _ => false) hr rfl
  have e : upd (fun _ => false) r = one r := by funext z; simp [upd, one]
  rw [e] at h
  have : cnt 64 (fun _ => false) = 64 := by decide
  omega
theorem rep_getD {α : Type} {n z : Nat} {d : α} : (List.replicate n d).getD z d = d := by rw [List.getD_eq_getElem?_getD, List.getElem?_replicate]; split <;> rfl
theorem m_order (g : TGraph) (h : Fits g.Succ) (hP : True) (r : Int) :
    (mayG g = true → 0 ≤ r → r < (g.Succ.length : Int) → ∀ L, Ord (sN g.Succ) r.toNat L → m_graph_Order g r = some (ofN L)) ∧
    ((mayG g && (decide (0 ≤ r) && decide (r < (g.Succ.length : Int)))) = false → m_graph_Order g r = some []) := by
  refine ⟨fun hm h0 h1 L hL => ?_, fun hf => ?_⟩
  · have hms : mayS g.Succ = true := by unfold mayG at hm; exact (Bool.and_eq_true _ _ ▸ hm).1
    obtain ⟨hL1, hL64, hLok⟩ := mayS_iff.1 hms
    obtain ⟨s', o, hv, rfl⟩ := hL
    have hrn : ((r.toNat : Nat) : Int) = r := Int.toNat_of_nonneg h0
    have hr : r.toNat < g.Succ.length := by omega
    obtain ⟨R', T', _, _, _, _, hmain⟩ := order_main hms hv (setN 64 false (List.replicate 64 false) r.toNat true) (List.replicate 64 (0 : Int)) [] [] r.toNat 0
      (fun z hz => by rw [setN_at hz, rep_getD]; by_cases hzr : z = r.toNat <;> simp [one, hzr]) hr (by simp) rep_getD (Nat.zero_le _) (by simp [one])
      (fun z hz _ => rep_getD) (by rw [cnt_one (by omega)]; simp)
    rw [if_pos rfl, hrn] at hmain
    unfold m_graph_Order
    rw [m_may _ h, hm, Option.bind_some]
    simp only [Bool.not_true, beq_self_eq_true, cond_true, cond_false, m_isPlace, decide_eq_true h0, decide_eq_true h1, Bool.and_self, Option.bind_some]
    rw [chk_pos ⟨h0, by omega⟩]
    have hF : ∀ X, loopO (m_graph_Order_F3 g) (setN 64 false (List.replicate 64 false) r.toNat true, List.replicate 64 (0 : Int), [] ++ [r], []) = some X →
        (scopeO (m_graph_Order_F3 g (setN 64 false (List.replicate 64 false) r.toNat true, List.replicate 64 (0 : Int), [r], [])) (m_graph_Order_F3 g)).bind (fun x => some x) = some X := fun X hX => by
      rw [scopeO_from]
      rw [List.nil_append] at hX
      rw [hX]; rfl
    refine (hF _ hmain).trans ?_
    simp only [List.nil_append, List.reverse_append, ofN, List.map_cons, List.map_reverse, List.reverse_cons, List.reverse_nil]
    simp
    omega
  · unfold m_graph_Order
    rw [m_may _ h, Option.bind_some]
    cases hm : mayG g with
    | false => rfl
    | true =>
      rw [hm, Bool.true_and] at hf
      simp only [Bool.not_true, beq_self_eq_true, cond_true, cond_false, m_isPlace, hf, Option.bind_some, Bool.not_false]
      rfl
end Go.Proofs.Ytcpopeamoipjlaa
