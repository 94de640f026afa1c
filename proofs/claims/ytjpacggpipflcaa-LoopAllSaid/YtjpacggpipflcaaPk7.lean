/-
  The machine, the program's functions and the laws' arithmetic: part 7 of 7.
-/
import Derived.Test.YtjpacggpipflcaaPk6
import Derived.OpenShut
import Derived.ShutString
set_option linter.unusedVariables false
set_option linter.unusedSimpArgs false
namespace Go.Proofs.Ytjpacggpipflcaa
noncomputable section
open Go Go.RowKit
set_option linter.unusedVariables false
set_option linter.unusedSimpArgs false
theorem m_index (t : List Int) (v : Int) (ht : t.length ≤ 1000) : (∃ r : Nat, r < t.length ∧ t.getD r 0 = v ∧ (∀ i, i < r → t.getD i 0 ≠ v) ∧ C9 t v = some (r : Int)) ∨ ((∀ i, i < t.length → t.getD i 0 ≠ v) ∧ C9 t v = some (-1)) := by
  have key : ∀ k i : Nat, i + k = t.length → (∀ j, j < i → t.getD j 0 ≠ v) →
      (∃ r : Nat, r < t.length ∧ t.getD r 0 = v ∧ (∀ i, i < r → t.getD i 0 ≠ v) ∧ Au (B9 t v) (i : Int) = some (.inr (r : Int))) ∨ ((∀ i, i < t.length → t.getD i 0 ≠ v) ∧ Au (B9 t v) (i : Int) = some (.inl ())) := by
    intro k
    induction k with
    | zero =>
      intro i hi hj
      obtain rfl : i = t.length := by omega
      refine .inr ⟨hj, Bb ?_⟩; unfold B9; rw [Di]; rfl
    | succ k ih =>
      intro i hi hj
      by_cases e : v = t.getD i 0
      · refine .inl ⟨i, by omega, e.symm, hj, Bb ?_⟩; unfold B9; have hb : ((v : Int) == t.getD i 0) = true := beq_iff_eq.2 e; simp only [Ca (show i < t.length by omega), cond_true, Ap, hb]; rw [Ac (De (by omega))]
      · have hs : B9 t v (i : Int) = some (.next ((i + 1 : Nat) : Int)) := by
          unfold B9; have hb : ((v : Int) == t.getD i 0) = false := beq_eq_false_iff_ne.2 e; simp only [Ca (show i < t.length by omega), cond_true, Ap, hb, cond_false]; rw [Ac (De (by omega)), w1 (by omega)]
        rw [B8 hs]
        exact ih (i + 1) (by omega) fun j hj2 => by
          by_cases ej : j = i
          · subst ej; exact fun h => e h.symm
          · exact hj j (by omega)
  have h0 := key t.length 0 (by omega) (fun j hj => absurd hj (Nat.not_lt_zero _)); unfold C9; rcases h0 with ⟨r, h1, h2, h3, h4⟩ | ⟨h1, h2⟩
  · exact .inl ⟨r, h1, h2, h3, by rw [show ((0 : Int)) = ((0 : Nat) : Int) from rfl, h4]; rfl⟩
  · exact .inr ⟨h1, by rw [show ((0 : Int)) = ((0 : Nat) : Int) from rfl, h2]; rfl⟩
section
variable {t : List Int}
structure Pc (t : List Int) (r f : Nat) (w : List Int) : Prop where
  len : w.length = t.length
  old : ∀ y, y < t.length → w.getD y 0 ≠ 0 → (w.getD y 0 ≤ (f : Int)) ∧ ∃ k, Tp t y r k
structure Walk (t : List Int) (r f x : Nat) (w : List Int) : Prop where
  len : w.length = t.length
  hx : x < t.length
  old : ∀ y, y < t.length → w.getD y 0 ≠ 0 → w.getD y 0 ≤ (f : Int) ∧ (∃ k, Tp t y r k) ∨ w.getD y 0 = ((f + 1 : Nat) : Int) ∧ ∀ r' k, Tp t x r' k → ∃ j, k < j ∧ Tp t y r' j
  fwd : ∀ r' k, Tp t x r' k → ∃ j, k ≤ j ∧ Tp t f r' j
  back : ∀ r' k, Tp t f r' k → ∃ j, Tp t x r' j
def Xc (w : List Int) : Nat := w.countP fun z => z == 0
theorem zeros_set {w : List Int} {x : Nat} {v : Int} (hx : x < w.length) (h0 : w.getD x 0 = 0) (hv : v ≠ 0) : Xc (w.set x v) < Xc w := by
  unfold Xc; rw [List.countP_set hx]; rw [Ak _ _ _ hx] at h0; have hp : 0 < w.countP fun z => z == 0 := List.countP_pos_iff.2 ⟨w[x], List.getElem_mem hx, by simp [h0]⟩; have hb : (v == 0) = false := beq_eq_false_iff_ne.2 hv; simp only [h0, beq_self_eq_true, if_true, hb, Bool.false_eq_true, if_false]; omega
theorem leads_loop (ht : t.length ≤ 1000) {r : Nat} (hr : r < t.length) (htop : t.getD r 0 = -1) {f : Nat} (hf : f < t.length) : ∀ (m x : Nat) (w : List Int), Xc w ≤ m → Walk t r f x w →
    (∃ w', Au (C1 t (f : Int) (r : Int)) ((x : Int), w) = some (.inl w') ∧ Pc t r (f + 1) w' ∧ ∃ k, Tp t f r k) ∨
    ∃ b w', Au (C1 t (f : Int) (r : Int)) ((x : Int), w) = some (.inr (b, w')) ∧ w'.length = t.length ∧ (b = true → Pc t r (f + 1) w' ∧ ∃ k, Tp t f r k) ∧ (b = false → ∀ k, ¬ Tp t f r k) := by
  intro m
  induction m with
  | zero =>
    intro x w hz hw; exact go 0 (fun x w hz => absurd hz (Nat.not_lt_zero _)) x w hz hw
  | succ m ih =>
    intro x w hz hw; exact go (m + 1) (fun x w hz => ih x w (Nat.le_of_lt_succ hz)) x w hz hw
where
  go (m : Nat) (ih : ∀ (x : Nat) (w : List Int), Xc w < m → Walk t r f x w →
    (∃ w', Au (C1 t (f : Int) (r : Int)) ((x : Int), w) = some (.inl w') ∧ Pc t r (f + 1) w' ∧ ∃ k, Tp t f r k) ∨
    ∃ b w', Au (C1 t (f : Int) (r : Int)) ((x : Int), w) = some (.inr (b, w')) ∧ w'.length = t.length ∧ (b = true → Pc t r (f + 1) w' ∧ ∃ k, Tp t f r k) ∧ (b = false → ∀ k, ¬ Tp t f r k)) (x : Nat) (w : List Int) (hz : Xc w ≤ m) (hw : Walk t r f x w) :
    (∃ w', Au (C1 t (f : Int) (r : Int)) ((x : Int), w) = some (.inl w') ∧ Pc t r (f + 1) w' ∧ ∃ k, Tp t f r k) ∨
    ∃ b w', Au (C1 t (f : Int) (r : Int)) ((x : Int), w) = some (.inr (b, w')) ∧ w'.length = t.length ∧ (b = true → Pc t r (f + 1) w' ∧ ∃ k, Tp t f r k) ∧ (b = false → ∀ k, ¬ Tp t f r k) := by
    have hxl := hw.hx
    have told : ∀ k, Tp t x r k → Pc t r (f + 1) w ∧ ∃ k, Tp t f r k := fun k hk => by
      obtain ⟨j, _, hj⟩ := hw.fwd _ _ hk; refine ⟨⟨hw.len, fun y hy hy0 => ?_⟩, j, hj⟩; rcases hw.old y hy hy0 with ⟨h1, h2⟩ | ⟨h1, h2⟩
      · exact ⟨by omega, h2⟩
      · obtain ⟨i, _, hi⟩ := h2 _ _ hk; exact ⟨by omega, i, hi⟩
    by_cases hxr : x = r
    · subst hxr; refine .inl ⟨w, Bb ?_, told 0 (.top hr htop)⟩; unfold C1
      have hb : ((x : Int) != (x : Int)) = false := by simp
      simp only [hb, cond_false]
    · have hb : ((x : Int) != (r : Int)) = true := by rw [bne_iff_ne]; omega
      have hin : A3 (x : Int) w.length := De (by rw [hw.len]; exact hxl)
      by_cases hw0 : w.getD x 0 = 0
      · have hb0 : ((w.getD x 0 : Int) != 0) = false := by rw [hw0]; rfl
        by_cases hpl : 0 ≤ t.getD x 0 ∧ t.getD x 0 < (t.length : Int)
        · have hwf : A9 ((f : Int) + 1) = ((f + 1 : Nat) : Int) := w1 (by omega)
          have hs : C1 t (f : Int) (r : Int) ((x : Int), w) = some (.next (t.getD x 0, w.set x ((f + 1 : Nat) : Int))) := by
            unfold C1 F4; simp only [hb, cond_true, Ap, hb0, cond_false]; rw [Ac hin, Ac (De hxl), decide_eq_true hpl.1, decide_eq_true hpl.2, cond_true, Option.bind_some, Bool.not_true, cond_false, Ac hin, Ac (De hxl), hwf]
          rw [B8 hs]; obtain ⟨y, hy⟩ : ∃ y : Nat, t.getD x 0 = (y : Int) := ⟨(t.getD x 0).toNat, (Int.toNat_of_nonneg hpl.1).symm⟩; rw [hy] at hpl ⊢
          have hyl : y < t.length := by omega
          have hst : ∀ r' k, Tp t y r' k → Tp t x r' (k + 1) := fun r' k hk => .up hxl hy hk
          have hset : ∀ z, z < t.length → (w.set x ((f + 1 : Nat) : Int)).getD z 0 = if z = x then ((f + 1 : Nat) : Int) else w.getD z 0 := fun z _ => Un (by rw [hw.len]; exact hxl)
          have hW : Walk t r f y (w.set x ((f + 1 : Nat) : Int)) := by
            refine ⟨by simp [hw.len], hyl, fun z hzl hz0 => ?_, fun r' k hk => ?_, fun r' k hk => ?_⟩
            · rw [hset z hzl] at hz0 ⊢
              by_cases e : z = x
              · subst e; rw [if_pos rfl]; exact .inr ⟨rfl, fun r' k hk => ⟨k + 1, by omega, hst r' k hk⟩⟩
              · rw [if_neg e] at hz0 ⊢; rcases hw.old z hzl hz0 with h1 | ⟨h1, h2⟩
                · exact .inl h1
                · refine .inr ⟨h1, fun r' k hk => ?_⟩; obtain ⟨j, hj1, hj2⟩ := h2 _ _ (hst r' k hk); exact ⟨j, by omega, hj2⟩
            · obtain ⟨j, hj1, hj2⟩ := hw.fwd _ _ (hst r' k hk); exact ⟨j, by omega, hj2⟩
            · obtain ⟨j, hj⟩ := hw.back _ _ hk
              cases hj with
              | top _ h2 => omega
              | up _ h2 h3 =>
                have := hy.symm.trans h2
                cases Int.ofNat.inj this
                exact ⟨_, h3⟩
          have hzz := zeros_set (x := x) (v := ((f + 1 : Nat) : Int)) (by rw [hw.len]; exact hxl) hw0 (by omega); exact ih y _ (by omega) hW
        · refine .inr ⟨false, w, Bb ?_, hw.len, ⟨fun h => (by cases h), fun _ k hk => ?_⟩⟩
          · unfold C1 F4; simp only [hb, cond_true, Ap, hb0, cond_false]; rw [Ac hin, Ac (De hxl)]
            have : (bif decide ((0 : Int) ≤ t.getD x 0) then decide (t.getD x 0 < (t.length : Int)) else false) = false := by
              cases h1 : decide ((0 : Int) ≤ t.getD x 0) with
              | false => rfl
              | true => rw [cond_true]; exact decide_eq_false fun h2 => hpl ⟨of_decide_eq_true h1, h2⟩
            rw [this, Option.bind_some]
            rfl
          · obtain ⟨j, hj⟩ := hw.back _ _ hk
            cases hj with
            | top => exact hxr rfl
            | up _ h2 h3 => have := h3.lt; exact hpl ⟨by omega, by omega⟩
      · have hb0 : ((w.getD x 0 : Int) != 0) = true := by rw [bne_iff_ne]; exact hw0
        have hwf : A9 ((f : Int) + 1) = ((f + 1 : Nat) : Int) := w1 (by omega); refine .inr ⟨w.getD x 0 != ((f + 1 : Nat) : Int), w, Bb ?_, hw.len, ⟨fun h => ?_, fun h k hk => ?_⟩⟩
        · unfold C1; simp only [hb, cond_true, Ap, hb0]; rw [Ac hin, Ac hin, hwf]
        · rcases hw.old x hxl hw0 with ⟨_, k, hk⟩ | ⟨h1, _⟩
          · exact told k hk
          · rw [h1] at h; simp at h
        · have he : w.getD x 0 = ((f + 1 : Nat) : Int) := by simpa using h
          obtain ⟨j, hj⟩ := hw.back _ _ hk; rcases hw.old x hxl hw0 with ⟨h1, _⟩ | ⟨_, h2⟩
          · omega
          · obtain ⟨i, hi1, hi2⟩ := h2 _ _ hj; have := hj.det hi2; omega
end
end
end Go.Proofs.Ytjpacggpipflcaa

namespace Go.Proofs.Ytjpacggpipflcaa
noncomputable section
open Go Go.RowKit
set_option linter.unusedVariables false
set_option linter.unusedSimpArgs false
section
variable {t : List Int}
theorem m_leads (ht : t.length ≤ 1000) {r : Nat} (hr : r < t.length) (htop : t.getD r 0 = -1) {f : Nat} (hf : f < t.length) {w : List Int} (hw : Pc t r f w) :
    ∃ b w', Jj t w (f : Int) (r : Int) = some (b, w') ∧ w'.length = t.length ∧ (b = true → Pc t r (f + 1) w' ∧ ∃ k, Tp t f r k) ∧ (b = false → ∀ k, ¬ Tp t f r k) := by
  unfold Jj; have hW : Walk t r f f w := ⟨hw.len, hf, fun y hy h0 => .inl (hw.old y hy h0), fun r' k hk => ⟨k, Nat.le_refl _, hk⟩, fun r' k hk => ⟨k, hk⟩⟩; rcases leads_loop ht hr htop hf _ f w (Nat.le_refl _) hW with ⟨w', e1, e2⟩ | ⟨b, w', e1, e2, e3, e4⟩
  · exact ⟨true, w', by rw [e1]; rfl, e2.1.len, fun _ => e2, fun h => by cases h⟩
  · exact ⟨b, w', by rw [e1]; rfl, e2, e3, e4⟩
def Wt (t : List Int) (r : Nat) : Prop := ∀ f, f < t.length → t.getD f 0 ≠ -2 → ∃ k, Tp t f r k
open Classical in
theorem Zl (ht : t.length ≤ 1000) {r : Nat} (hr : r < t.length) (htop : t.getD r 0 = -1) : ∀ (k f : Nat) (w : List Int), f + k = t.length → Pc t r f w → (∀ y, y < f → t.getD y 0 ≠ -2 → ∃ k, Tp t y r k) →
    Au (D6 t (r : Int)) ((f : Int), w) = some (if Wt t r then .inl () else .inr false) := by
  intro k
  induction k with
  | zero =>
    intro f w hk hw hd
    obtain rfl : f = t.length := by omega
    apply Bb
    unfold D6; simp only [Di, cond_false]; rw [if_pos (show Wt t r from hd)]
  | succ k ih =>
    intro f w hk hw hd
    have hf : f < t.length := by omega
    by_cases h2 : t.getD f 0 = -2
    · have hb : ((t.getD f 0 : Int) != (-2)) = false := by rw [h2]; rfl
      have hs : D6 t (r : Int) ((f : Int), w) = some (.next (((f + 1 : Nat) : Int), w)) := by
        unfold D6; simp only [Ca hf, cond_true, Ap, hb, show (false == true) = false from rfl, cond_false, Option.bind_some]; rw [Ac (De hf), Ac (fun h => by cases h), w1 (by omega)]
      rw [B8 hs]; refine ih (f + 1) w (by omega) ⟨hw.len, fun y hy h0 => ?_⟩ fun y hy hy2 => ?_
      · obtain ⟨e1, e2⟩ := hw.old y hy h0; exact ⟨by omega, e2⟩
      · by_cases e : y = f
        · subst e; exact absurd h2 hy2
        · exact hd y (by omega) hy2
    · have hb : ((t.getD f 0 : Int) != (-2)) = true := by rw [bne_iff_ne]; exact h2
      obtain ⟨b, w', e1, e2, e3, e4⟩ := m_leads ht hr htop hf hw
      cases b with
      | false =>
        rw [if_neg (fun hA : Wt t r => by obtain ⟨k, hk⟩ := hA f hf h2; exact e4 rfl k hk)]
        apply Bb
        unfold D6; simp only [Ca hf, cond_true, Ap, hb, show (true == true) = true from rfl, e1, Option.bind_some]; rw [Ac (De hf), Ac (fun _ => by rw [hw.len, e2])]
        rfl
      | true =>
        have hs : D6 t (r : Int) ((f : Int), w) = some (.next (((f + 1 : Nat) : Int), w')) := by
          unfold D6; simp only [Ca hf, cond_true, Ap, hb, show (true == true) = true from rfl, e1, Option.bind_some]; rw [Ac (De hf), Ac (fun _ => by rw [hw.len, e2]), w1 (by omega)]
          rfl
        rw [B8 hs]; obtain ⟨e5, e6⟩ := e3 rfl; refine ih (f + 1) w' (by omega) e5 fun y hy hy2 => ?_
        by_cases e : y = f
        · subst e; exact e6
        · exact hd y (by omega) hy2
theorem tops_one : P5 t t.length = 1 ↔ ∃ r, r < t.length ∧ t.getD r 0 = -1 ∧ ∀ x, x < t.length → t.getD x 0 = -1 → x = r := by
  have key : ∀ n, (P5 t n = 0 ↔ ∀ x, x < n → t.getD x 0 ≠ -1) ∧ (P5 t n = 1 ↔ ∃ r, r < n ∧ t.getD r 0 = -1 ∧ ∀ x, x < n → t.getD x 0 = -1 → x = r) := by
    intro n
    induction n with
    | zero => exact ⟨⟨fun _ x hx => absurd hx (Nat.not_lt_zero _), fun _ => rfl⟩, ⟨fun h => by simp [P5] at h, fun ⟨r, h, _⟩ => absurd h (Nat.not_lt_zero _)⟩⟩
    | succ n ih =>
      rw [U2]
      by_cases e : t.getD n 0 = -1
      · rw [if_pos e]; refine ⟨⟨fun h => by omega, fun h => absurd e (h n (by omega))⟩, ⟨fun h => ⟨n, by omega, e, fun x hx hx1 => ?_⟩, fun ⟨r, h1, h2, h3⟩ => ?_⟩⟩
        · by_cases ex : x = n
          · exact ex
          · exact absurd hx1 (ih.1.1 (by omega) x (by omega))
        · have := ih.1.2 fun x hx hx1 => by
            have := h3 x (by omega) hx1; have := h3 n (by omega) e; omega
          omega
      · rw [if_neg e, Nat.add_zero]; refine ⟨⟨fun h x hx => ?_, fun h => ih.1.2 fun x hx => h x (by omega)⟩, ⟨fun h => ?_, fun ⟨r, h1, h2, h3⟩ => ?_⟩⟩
        · by_cases ex : x = n
          · subst ex; exact e
          · exact ih.1.1 h x (by omega)
        · obtain ⟨r, h1, h2, h3⟩ := ih.2.1 h; refine ⟨r, by omega, h2, fun x hx hx1 => ?_⟩
          by_cases ex : x = n
          · subst ex; exact absurd hx1 e
          · exact h3 x (by omega) hx1
        · refine ih.2.2 ⟨r, ?_, h2, fun x hx hx1 => h3 x (by omega) hx1⟩
          by_cases ex : r = n
          · subst ex; exact absurd h2 e
          · omega
  exact (key _).2
theorem rightD_iff : G2 t = true ↔ ∃ r, r < t.length ∧ t.getD r 0 = -1 ∧ Wt t r := by
  unfold G2; rw [Bool.and_eq_true, all_range, decide_eq_true_eq, tops_one]
  constructor
  · rintro ⟨h1, r, h2, h3, h4⟩; refine ⟨r, h2, h3, fun f hf hf2 => ?_⟩; have := h1 f hf; unfold okR at this; rw [Bool.or_eq_true, decide_eq_true_eq, Bool.not_eq_true', decide_eq_false_iff_not] at this; rcases this with h | h
    · exact absurd h hf2
    · obtain ⟨x, r', k, e, hk⟩ := pathD_tp.1 h
      cases Int.ofNat.inj e
      have := h4 _ hk.tops.1 hk.tops.2; subst this; exact ⟨k, hk⟩
  · rintro ⟨r, h2, h3, h4⟩; refine ⟨fun f hf => ?_, r, h2, h3, fun x hx hx1 => ?_⟩
    · unfold okR; rw [Bool.or_eq_true, decide_eq_true_eq, Bool.not_eq_true', decide_eq_false_iff_not]
      by_cases e : t.getD f 0 = -2
      · exact .inl e
      · obtain ⟨k, hk⟩ := h4 f hf e; exact .inr (pathD_tp.2 ⟨f, r, k, rfl, hk⟩)
    · obtain ⟨k, hk⟩ := h4 x hx (by omega); exact ((hk.det (.top hx hx1)).1).symm
theorem W0 (hR : G2 t = true) : ∃ r, Wt t r := by obtain ⟨r, _, _, h⟩ := rightD_iff.1 hR; exact ⟨r, h⟩
theorem m_isTree (ht : t.length ≤ 1000) : H9 t = some (G2 t) := by
  unfold H9
  have hroom : (1000 : Nat) ≤ room := by decide
  rcases m_index t (-1) ht with ⟨r, h1, h2, h3, h4⟩ | ⟨h1, h2⟩
  · rw [h4, Option.bind_some, show decide ((r : Int) < 0) = false from decide_eq_false (by omega), cond_false, Ac ⟨by omega, by omega, by omega⟩, Ap]; have hl := Zl ht h1 h2 t.length 0 (List.replicate t.length 0) (by omega) ⟨by simp, fun y hy h0 => absurd Hn h0⟩ (fun y hy => absurd hy (Nat.not_lt_zero _)); rw [show (((0 : Nat) : Int)) = 0 from rfl] at hl; rw [hl, Option.bind_some]
    by_cases hA : Wt t r
    · rw [if_pos hA, rightD_iff.2 ⟨r, h1, h2, hA⟩]
    · rw [if_neg hA]
      have : G2 t = false := Bool.eq_false_iff.2 fun hR => by
        obtain ⟨r', g1, g2, g3⟩ := rightD_iff.1 hR; obtain ⟨k, hk⟩ := g3 r h1 (by omega); have := (hk.det (.top h1 h2)).1; subst this; exact hA g3
      rw [this]
  · rw [h2, Option.bind_some]
    have : G2 t = false := Bool.eq_false_iff.2 fun hR => by
      obtain ⟨r', g1, g2, g3⟩ := rightD_iff.1 hR; exact h1 r' g1 g2
    rw [this]
    rfl
def Pn (t : List Int) (a : Int) : Bool := decide (0 ≤ a) && decide (a < (t.length : Int)) && decide (t.getD a.toNat 0 ≠ -2)
theorem T3 (hR : G2 t = true) {a : Int} : Pn t a = true ↔ ∃ x k r : Nat, a = (x : Int) ∧ Tp t x r k := by
  unfold Pn; rw [Bool.and_eq_true, Bool.and_eq_true, decide_eq_true_eq, decide_eq_true_eq, decide_eq_true_eq]
  constructor
  · rintro ⟨⟨h1, h2⟩, h3⟩; obtain ⟨r, hA⟩ := W0 hR; obtain ⟨k, hk⟩ := hA a.toNat (by omega) h3; exact ⟨a.toNat, k, r, (Int.toNat_of_nonneg h1).symm, hk⟩
  · rintro ⟨x, k, r, rfl, h⟩; have := h.lt; refine ⟨⟨by omega, by omega⟩, ?_⟩; rw [Ap]
    cases h with
    | top _ h2 => omega
    | up _ h2 _ => omega
theorem Uk (a : Int) : Gc t a = some (Pn t a) := by
  unfold Gc F4 Pn; rw [Option.bind_some]
  cases h1 : decide ((0 : Int) ≤ a) with
  | false => rfl
  | true =>
    rw [cond_true, Bool.true_and]
    cases h2 : decide (a < (t.length : Int)) with
    | false => rfl
    | true =>
      rw [Ac (fun _ => ⟨of_decide_eq_true h1, of_decide_eq_true h2⟩), cond_true, Bool.true_and]
      congr 1
      rw [Bool.eq_iff_iff, bne_iff_ne, decide_eq_true_eq]
theorem m_areIn (ht : t.length ≤ 1000) (a b : Int) : Jm t a b = some (G2 t && Pn t a && Pn t b) := by
  unfold Jm; rw [m_isTree ht, Option.bind_some]
  cases G2 t with
  | false => rfl
  | true =>
    simp only [show (true == true) = true from rfl, cond_true, Uk, Option.bind_some, Bool.true_and]
    cases Pn t a with
    | false => rfl
    | true => simp only [show (true == true) = true from rfl, cond_true, Uk, Option.bind_some, Bool.true_and]
theorem meetD_out {a b : Int} (h : (G2 t && Pn t a && Pn t b) = false) : Ls t a b = -2 := by
  unfold Ls
  by_cases hR : G2 t = true
  · rw [if_pos hR]; rw [hR, Bool.true_and] at h
    have hno : ∀ c, Pn t c = false → Ge t c = [] := fun c hc => by
      by_cases e : Ge t c = []
      · exact e
      · obtain ⟨x, r, k, e1, e2⟩ := pathD_tp.1 e; rw [(T3 hR).2 ⟨x, k, r, e1, e2⟩] at hc; cases hc
    cases ha : Pn t a with
    | false => rw [hno a ha]; rfl
    | true =>
      rw [ha, Bool.true_and] at h; rw [hno b h]
      have : ((Ge t a).find? fun x => ([] : List Int).contains x) = none := List.find?_eq_none.2 fun x _ => by simp
      rw [this]
      rfl
  · rw [if_neg hR]
theorem Wh (ht : t.length ≤ 1000) {a b : Int} (h : (G2 t && Pn t a && Pn t b) = true) : Gz t a b = some (Ls t a b) ∧ 0 ≤ Ls t a b := by
  rw [Bool.and_eq_true, Bool.and_eq_true] at h; obtain ⟨⟨hR, ha⟩, hb⟩ := h; obtain ⟨x, k, r, rfl, hx⟩ := (T3 hR).1 ha; obtain ⟨y, m, r', rfl, hy⟩ := (T3 hR).1 hb; obtain ⟨rr, hA⟩ := W0 hR
  have top : ∀ {x r k}, Tp t x r k → r = rr := fun {x r k} h => by
    obtain ⟨i, hi⟩ := hA r h.tops.1 (by rw [h.tops.2]; omega); exact ((Tp.top h.tops.1 h.tops.2).det hi).1
  obtain rfl := top hx; obtain rfl := top hy; obtain ⟨c, h1, h2⟩ := R6 ht hx hy; obtain ⟨d, h3, h4⟩ := meetD_at hR hx hy; have := h2.same hx h4; subst this; exact ⟨by rw [h1, h3], by omega⟩
theorem m_Over (ht : t.length ≤ 1000) (a b : Int) : In t a b = some (W1 t a b) := by
  unfold In W1; rw [m_areIn ht, Option.bind_some]
  cases h : (G2 t && Pn t a && Pn t b) with
  | false =>
    rw [meetD_out h]
    have : ((-2 : Int) == a && ((-2 : Int) != -2)) = false := by simp
    rw [this]
    rfl
  | true =>
    obtain ⟨h1, h2⟩ := Wh ht h; simp only [show (true == true) = true from rfl, cond_true, h1, Option.bind_some]
    have : (Ls t a b != -2) = true := by rw [bne_iff_ne]; omega
    rw [this, Bool.and_true]
end
end
end Go.Proofs.Ytjpacggpipflcaa

namespace Go.Proofs.Ytjpacggpipflcaa
noncomputable section
open Go Go.RowKit
set_option linter.unusedVariables false
set_option linter.unusedSimpArgs false
theorem mul_fin : ∀ n : Fin 65, Ir (Gu 1) (Gu ((n.val : Nat) : Int)) = some (0, ((n.val : Nat) : Int)) := by decide +kernel
theorem mul_small {n : Nat} (h : n ≤ 64) : Ir (Gu 1) (Gu (n : Int)) = some (0, (n : Int)) := mul_fin ⟨n, by omega⟩
theorem Z9 {v : Int} {n : Nat} (hn : n ≤ 64) : ∀ (m i : Nat) (l : List Int), n - i ≤ m → 1 ≤ i → i ≤ n → l.length = n → (∀ j, j < i → l.getD j 0 = v) → Au Cl ((i : Int), l) = some (List.replicate n v) := by
  intro m
  induction m with
  | zero =>
    intro i l hm h1 h2 hl hv
    obtain rfl : i = n := by omega
    exact fin l hl hv
  | succ m ih =>
    intro i l hm h1 h2 hl hv
    by_cases e : i = n
    · subst e; exact fin l hl hv
    · have hs : Cl ((i : Int), l) = some (.next (((i + Nat.min i (n - i) : Nat) : Int), cpL l i (Nat.min i (n - i)) (fun j => l.getD (0 + j) 0))) := by
        unfold Cl; simp only [hl, Ca (show i < n by omega), cond_true, Ap, Nat.zero_add, Nat.sub_zero]; have hc : (0 : Int) ≤ (i : Int) ∧ i ≤ n := ⟨by omega, h2⟩; have hmn : Nat.min i (n - i) ≤ i := Nat.min_le_left _ _; rw [Ac hc, Ac hc, Lh (by omega) (by omega), Int.natCast_add]
      rw [B8 hs]; have hmn : Nat.min i (n - i) ≤ i ∧ Nat.min i (n - i) ≤ n - i := ⟨Nat.min_le_left _ _, Nat.min_le_right _ _⟩; have hge : 1 ≤ Nat.min i (n - i) := Nat.le_min.2 ⟨h1, by omega⟩; refine ih _ _ (by omega) (by omega) (by omega) (by rw [← Ht]; exact hl) fun j hj => ?_; rw [Uo _ _ _ _ _ _ (by omega)]
      by_cases hji : i ≤ j ∧ j < i + Nat.min i (n - i)
      · rw [if_pos hji, Nat.zero_add]; exact hv _ (by omega)
      · rw [if_neg hji]; exact hv _ (by omega)
where
  fin {v : Int} {i : Nat} (l : List Int) (hl : l.length = i) (hv : ∀ j, j < i → l.getD j 0 = v) : Au Cl ((i : Int), l) = some (List.replicate i v) := by
    apply Bb
    unfold Cl; simp only [hl, Di, cond_false]
    congr 2
    refine List.ext_getElem (by simp [hl]) fun j h1 h2 => ?_; rw [← Ak _ _ 0 h1, hv j (by omega)]
    simp
theorem m_repeat {v : Int} {n : Nat} (h1 : 1 ≤ n) (hn : n ≤ 64) : Ea [v] (n : Int) = some (List.replicate n v) := by
  have hroom : (64 : Nat) ≤ room := by decide
  unfold Ea; rw [show decide ((n : Int) < 0) = false from decide_eq_false (by omega), cond_false, Option.bind_some]
  show Option.bind (Ir (Gu 1) (Gu (n : Int))) _ = _
  rw [mul_small hn, Option.bind_some]; have e1 : decide ((0 : Int) < (0 : Int)) = false := rfl; have e2 : decide ((9223372036854775807 : Int) < (n : Int)) = false := decide_eq_false (by omega); simp only [e1, e2, cond_false, Option.bind_some]; have ew : A9 (n : Int) = (n : Int) := Lh (by omega) (by omega); rw [ew, Ac ⟨by omega, by omega, by omega⟩, Ap, List.length_replicate, Nat.sub_zero]; have em : Nat.min [v].length n = 1 := Nat.min_eq_left h1; rw [em, Z9 hn n 1 _ (by omega) (Nat.le_refl _) h1 (by rw [← Ht]; simp) (fun j hj => ?_)]
  · rfl
  · rw [Uo _ _ _ _ _ _ (by simp; omega), if_pos ⟨by omega, by omega⟩]
    have : j - 0 = 0 := by omega
    rw [this]; rfl
theorem meet_v2 (t : List Int) (a b : Int) : Hm t a b = (Gz t a b).map fun c => (c, t) := by
  have e1 : Ip t = D3 t := rfl; have e2 : Iy t = D5 t := rfl; unfold Hm Gz; rw [e1, e2]
  by_cases hc : 0 ≤ (t.length : Int) ∧ (t.length : Int) ≤ (t.length : Int) ∧ (t.length : Int) ≤ (room : Int)
  · rw [Ac hc, Ac hc]
    cases Au (D3 t) (a, List.replicate ((t.length : Int)).toNat false) with
    | none => rfl
    | some x =>
      rw [Option.bind_some, Option.bind_some]
      cases Au (D5 t x) b with
      | none => rfl
      | some y => rfl
  · have hf : ∀ {R : Type} (k : Option R), Bz (0 ≤ (t.length : Int) ∧ (t.length : Int) ≤ (t.length : Int) ∧ (t.length : Int) ≤ (room : Int)) k = none := fun k => if_neg hc; rw [hf, hf]
    rfl
section
variable {S : Nat → List Nat} {r n : Nat} {P : List Nat}
theorem Inv.tp {at_ : Nat → Nat} {t : List Int} (h : Inv S r n at_ (Bl t)) (hl : t.length = n) : ∀ m x, at_ x ≤ m → x < n → Bl t x ≠ -2 → ∃ k, Tp t x r k := by
  intro m
  induction m with
  | zero =>
    intro x hm hx hp; rcases h.kind x hx with h1 | h1 | ⟨z, hz⟩
    · exact absurd h1 hp
    · subst h1; exact ⟨0, .top (by omega) h.top⟩
    · obtain ⟨_, _, h3, _⟩ := h.up x hx z hz; omega
  | succ m ih =>
    intro x hm hx hp; rcases h.kind x hx with h1 | h1 | ⟨z, hz⟩
    · exact absurd h1 hp
    · subst h1; exact ⟨0, .top (by omega) h.top⟩
    · obtain ⟨z1, z2, z3, _⟩ := h.up x hx z hz; obtain ⟨k, hk⟩ := ih z (by omega) z1 z2; exact ⟨k + 1, .up (by omega) hz hk⟩
def Qo (t l : List Int) (i : Nat) (v : Int) : Prop :=
  (v = -2 ∧ ∀ j, j < i → Bl t (l.getD j 0).toNat = -2) ∨
  ∃ z : Nat, v = (z : Int) ∧ z < t.length ∧ Bl t z ≠ -2 ∧ (∀ w, UpTo (Bl t) z w ↔ ∀ j, j < i → Bl t (l.getD j 0).toNat ≠ -2 → UpTo (Bl t) (l.getD j 0).toNat w)
theorem Ys {at_ : Nat → Nat} {t l : List Int} (ht : t.length ≤ 64) (hll : l.length ≤ 64) (h : Inv S r n at_ (Bl t)) (hl : t.length = n) (hin : ∀ x ∈ l, 0 ≤ x ∧ x < (n : Int)) : ∀ (k i : Nat) (v : Int), i + k = l.length → Qo t l i v →
    ∃ v', Au (C0 l) (v, (i : Int), t) = some (v', t) ∧ Qo t l l.length v' := by
  intro k
  induction k with
  | zero =>
    intro i v hi hv
    obtain rfl : i = l.length := by omega
    refine ⟨v, Bb ?_, hv⟩; unfold C0; simp only [Di, cond_false]
  | succ k ih =>
    intro i v hi hv
    have hil : i < l.length := by omega
    obtain ⟨x0, x1⟩ := hin _ (Ff (d := 0) hil); have hxe : (((l.getD i 0).toNat : Nat) : Int) = l.getD i 0 := Int.toNat_of_nonneg x0; have hxin : A3 (l.getD i 0) t.length := inbz x0 (by omega)
    have next : ∀ v', C0 l (v, (i : Int), t) = some (.next (v', ((i + 1 : Nat) : Int), t)) → Qo t l (i + 1) v' → ∃ v', Au (C0 l) (v, (i : Int), t) = some (v', t) ∧ Qo t l l.length v' := fun v' hs hv' => by
      rw [B8 hs]; exact ih (i + 1) v' (by omega) hv'
    by_cases hp : Bl t (l.getD i 0).toNat = -2
    · have hb : ((t.getD (l.getD i 0).toNat 0 : Int) == -2) = true := beq_iff_eq.2 hp; refine next v ?_ ?_
      · unfold C0; simp only [Ca hil, cond_true, Ap, hb]; rw [Ac (De hil), Ac hxin, Option.bind_some, w1 (by omega)]
      · have hstep : ∀ w, (∀ j, j < i → Bl t (l.getD j 0).toNat ≠ -2 → UpTo (Bl t) (l.getD j 0).toNat w) ↔ ∀ j, j < i + 1 → Bl t (l.getD j 0).toNat ≠ -2 → UpTo (Bl t) (l.getD j 0).toNat w := fun w => by
          refine ⟨fun hj j hj1 hj2 => ?_, fun hj j hj1 => hj j (by omega)⟩
          by_cases e : j = i
          · subst e; exact absurd hp hj2
          · exact hj j (by omega) hj2
        rcases hv with ⟨h1, h2⟩ | ⟨z, h1, h2, h3, h4⟩
        · refine .inl ⟨h1, fun j hj => ?_⟩
          by_cases e : j = i
          · subst e; exact hp
          · exact h2 j (by omega)
        · exact .inr ⟨z, h1, h2, h3, fun w => by rw [h4 w, hstep w]⟩
    · have hb : ((t.getD (l.getD i 0).toNat 0 : Int) == -2) = false := beq_eq_false_iff_ne.2 hp; rcases hv with ⟨h1, h2⟩ | ⟨z, h1, h2, h3, h4⟩
      · subst h1; refine next (l.getD i 0) ?_ (.inr ⟨(l.getD i 0).toNat, hxe.symm, by omega, hp, fun w => ⟨fun hw j hj hj2 => ?_, fun hw => hw i (by omega) hp⟩⟩)
        · unfold C0; simp only [Ca hil, cond_true, Ap, hb, cond_false, show ((-2 : Int) == -2) = true from rfl]; rw [Ac (De hil), Ac hxin, Option.bind_some, w1 (by omega)]
        · by_cases e : j = i
          · subst e; exact hw
          · exact absurd (h2 j (by omega)) hj2
      · subst h1; have hb2 : ((z : Int) == -2) = false := beq_eq_false_iff_ne.2 (by omega); obtain ⟨k1, hk1⟩ := h.tp hl _ z (Nat.le_refl _) (by omega) h3; obtain ⟨k2, hk2⟩ := h.tp hl _ (l.getD i 0).toNat (Nat.le_refl _) (by omega) hp; obtain ⟨c, c1, c2⟩ := R6 (by omega) hk1 hk2; have hcz := (c2 c).1 (.refl _); obtain ⟨jc, _, hjc, _⟩ := hk1.on hcz.1
        have hcp : Bl t c ≠ -2 := by
          show t.getD c 0 ≠ -2
          cases hjc with
          | top _ h => omega
          | up _ h _ => omega
        refine next (c : Int) ?_ (.inr ⟨c, rfl, hjc.lt, hcp, fun w => ?_⟩)
        · rw [hxe] at c1; unfold C0; simp only [Ca hil, cond_true, Ap, hb, cond_false, hb2, meet_v2, c1, Option.map_some, Option.bind_some]; rw [Ac (De hil), Ac hxin, Ac trivial, Option.bind_some, w1 (by omega)]
        · rw [c2 w, h4 w]; refine ⟨fun ⟨a1, a2⟩ j hj hj2 => ?_, fun ha => ⟨fun j hj => ha j (by omega), ha i (by omega) hp⟩⟩
          by_cases e : j = i
          · subst e; exact a2
          · exact a1 j (by omega) hj2
theorem m_meetAll {at_ : Nat → Nat} {t l : List Int} (ht : t.length ≤ 64) (hll : l.length ≤ 64) (h : Inv S r n at_ (Bl t)) (hl : t.length = n) (hin : ∀ x ∈ l, 0 ≤ x ∧ x < (n : Int)) :
    ∃ v, E0 t l = some (v, t) ∧ Qo t l l.length v := by
  obtain ⟨v, h1, h2⟩ := Ys ht hll h hl hin l.length 0 (-2) (by omega) (.inl ⟨rfl, fun j hj => absurd hj (Nat.not_lt_zero _)⟩); refine ⟨v, ?_, h2⟩; unfold E0; rw [show ((0 : Int)) = ((0 : Nat) : Int) from rfl, h1]
  rfl
end
section
variable {L : List (List Int)} (hm : Fd L = true) {r : Nat} {P : List Nat}
include hm
theorem sN_iff {p y : Nat} (hp : p < L.length) : y ∈ sN L p ↔ Kt L p y = true := by
  rw [U0]; obtain ⟨_, _, h3⟩ := mayS_iff.1 hm
  constructor
  · intro h; obtain ⟨x, hx, rfl⟩ := List.mem_map.1 h; have := Ju (h3 p hp) hx; rw [Int.toNat_of_nonneg this.1]; exact hx
  · intro h; exact List.mem_map.2 ⟨_, h, Ap y⟩
theorem Ng {y : Nat} (hy : y < L.length) {x : Int} : x ∈ (Eh L).getD y [] ↔ ∃ p : Nat, x = (p : Int) ∧ p < L.length ∧ y ∈ sN L p := by
  rw [Rl hy]; unfold Ey; rw [Ra]
  constructor
  · rintro ⟨k, h1, h2, h3⟩; exact ⟨k, h1, h2, (sN_iff hm h2).2 h3⟩
  · rintro ⟨k, h1, h2, h3⟩; exact ⟨k, h1, h2, (sN_iff hm h2).1 h3⟩
theorem X0 (o : Ordered (sN L) r L.length P) {t : List Int} {i : Nat} (h : Ready (sN L) r L.length P t i) (hi : i < P.length) :
    E0 t ((Eh L).getD (P.getD i 0) []) = some ((Hu (sN L) L.length t (P.getD i 0) : Int), t) := by
  obtain ⟨hL1, hL64, _⟩ := mayS_iff.1 hm; have hyn : P.getD i 0 < L.length := o.lt (List.mem_cons_of_mem _ (J3 hi))
  have hlen : ((Eh L).getD (P.getD i 0) []).length ≤ 64 := by
    rw [Rl hyn]; have := Ka L L.length (P.getD i 0); omega
  obtain ⟨v, h1, h2⟩ := m_meetAll (by rw [h.len]; exact hL64) hlen h.inv h.len fun x hx => by
    obtain ⟨p, rfl, hp, _⟩ := (Ng hm hyn).1 hx; omega
  rw [h1]; have hb := h.best o hi
  have mem : ∀ p, p < L.length → P.getD i 0 ∈ sN L p → ∃ j, j < ((Eh L).getD (P.getD i 0) []).length ∧ (((Eh L).getD (P.getD i 0) []).getD j 0).toNat = p := fun p hp hy => by
    obtain ⟨j, hj, e⟩ := List.getElem_of_mem ((Ng hm hyn).2 ⟨p, rfl, hp, hy⟩); exact ⟨j, hj, by rw [Ak _ _ _ hj, e, Ap]⟩
  have mem' : ∀ j, j < ((Eh L).getD (P.getD i 0) []).length → (((Eh L).getD (P.getD i 0) []).getD j 0).toNat < L.length ∧ P.getD i 0 ∈ sN L (((Eh L).getD (P.getD i 0) []).getD j 0).toNat := fun j hj => by
    obtain ⟨p, e, hp, hy⟩ := (Ng hm hyn).1 (Ff (d := (0 : Int)) hj); rw [e, Ap]; exact ⟨hp, hy⟩
  rcases h2 with ⟨rfl, h3⟩ | ⟨z, rfl, hz, hz2, h4⟩
  · obtain ⟨p, hp, hyp, hp2, _⟩ := hb.fwd; obtain ⟨j, hj, e⟩ := mem p hp hyp; exact absurd (by rw [← e]; exact h3 j hj) hp2
  · have hbest : Best (sN L) L.length (Bl t) (P.getD i 0) z := fun w => by
      rw [h4 w]; refine ⟨fun ha p hp hyp hp2 => ?_, fun ha j hj hj2 => ?_⟩
      · obtain ⟨j, hj, e⟩ := mem p hp hyp; have := ha j hj (by rw [e]; exact hp2); rwa [e] at this
      · obtain ⟨q1, q2⟩ := mem' j hj; exact ha _ q1 q2 hj2
    rw [h.best_eq o hi (by rw [← h.len]; exact hz) hz2 hbest]
end
end
end Go.Proofs.Ytjpacggpipflcaa

namespace Go.Proofs.Ytjpacggpipflcaa
noncomputable section
open Go Go.RowKit
set_option linter.unusedVariables false
set_option linter.unusedSimpArgs false
theorem ofN_getD {P : List Nat} {i : Nat} (h : i < P.length) : (Hy P).getD i 0 = ((P.getD i 0 : Nat) : Int) := by
  unfold Hy; rw [Ak _ _ _ (by simpa using h), Ak _ _ _ h, List.getElem_map]
  rfl
theorem Zb {t : List Int} {x : Nat} {v : Int} (hx : x < t.length) (h : t.getD x 0 = v) : t.set x v = t := by
  subst h; rw [Ak _ _ _ hx]; exact List.set_getElem_self hx
section
variable {L : List (List Int)} (hm : Fd L = true) {r : Nat} {P : List Nat} (o : Ordered (sN L) r L.length P)
include hm o
theorem round_loop {t0 : List Int} (h : Ready (sN L) r L.length P t0 0) : ∀ (k i : Nat) (b : Bool), i + k = P.length →
    ∃ b', Au (Do (Fp L) (Hy (r :: P))) (b, (i : Int), M4 (sN L) L.length P t0 i) = some (b', M4 (sN L) L.length P t0 P.length) ∧
      (b' = false ↔ b = false ∧ ∀ j, i ≤ j → j < P.length → Bl (M4 (sN L) L.length P t0 j) (P.getD j 0) = (Hu (sN L) L.length (M4 (sN L) L.length P t0 j) (P.getD j 0) : Int)) := by
  have hP64 : P.length ≤ 64 := by
    have h1 := J1 L.length (r :: P) o.nodup fun x hx => o.lt hx; have h2 := (mayS_iff.1 hm).2.1; simp at h1; omega
  have hdl : (Hy (r :: P)).drop (1 : Int).toNat = Hy P := rfl
  have hlen : (Hy P).length = P.length := by simp [Hy]
  intro k
  induction k with
  | zero =>
    intro i b hi
    obtain rfl : i = P.length := by omega
    refine ⟨b, Bb ?_, fun h => ⟨h, fun j h1 h2 => by omega⟩, fun h => h.1⟩; unfold Do; simp only [hdl, hlen, Di, cond_false]
  | succ k ih =>
    intro i b hi
    have hil : i < P.length := by omega
    have rd := h.round o i (by omega); have hma := X0 hm o rd hil; have hyn : P.getD i 0 < L.length := o.lt (List.mem_cons_of_mem _ (J3 hil))
    have hyt : P.getD i 0 < (M4 (sN L) L.length P t0 i).length := by rw [rd.len]; exact hyn
    have hpred : (Fp L).Pred = Eh L := rfl
    by_cases he : Bl (M4 (sN L) L.length P t0 i) (P.getD i 0) = (Hu (sN L) L.length (M4 (sN L) L.length P t0 i) (P.getD i 0) : Int)
    · have hb : ((Hu (sN L) L.length (M4 (sN L) L.length P t0 i) (P.getD i 0) : Int) != (M4 (sN L) L.length P t0 i).getD (P.getD i 0) 0) = false := by
        have : (M4 (sN L) L.length P t0 i).getD (P.getD i 0) 0 = _ := he; rw [this]; simp
      have hnx : M4 (sN L) L.length P t0 (i + 1) = M4 (sN L) L.length P t0 i := Zb hyt he
      have hs : Do (Fp L) (Hy (r :: P)) (b, (i : Int), M4 (sN L) L.length P t0 i) = some (.next (b, ((i + 1 : Nat) : Int), M4 (sN L) L.length P t0 (i + 1))) := by
        unfold Do; simp only [hdl, hlen, Ca hil, cond_true, Ap, ofN_getD hil, hpred, hma, Option.bind_some, hb, cond_false]; rw [Ac (De hil), Ac (De (by rw [L2]; exact hyn)), Ac trivial, Ac (De hyt), Option.bind_some, w1 (by omega), hnx]
      obtain ⟨b', e1, e2⟩ := ih (i + 1) b (by omega); refine ⟨b', by rw [B8 hs, e1], fun h => ?_, fun ⟨h1, h2⟩ => e2.2 ⟨h1, fun j hj => h2 j (by omega)⟩⟩; obtain ⟨h1, h2⟩ := e2.1 h; refine ⟨h1, fun j hj1 hj2 => ?_⟩
      by_cases e : j = i
      · subst e; exact he
      · exact h2 j (by omega) hj2
    · have hb : ((Hu (sN L) L.length (M4 (sN L) L.length P t0 i) (P.getD i 0) : Int) != (M4 (sN L) L.length P t0 i).getD (P.getD i 0) 0) = true := by
        rw [bne_iff_ne]; exact fun e => he e.symm
      have hs : Do (Fp L) (Hy (r :: P)) (b, (i : Int), M4 (sN L) L.length P t0 i) = some (.next (true, ((i + 1 : Nat) : Int), M4 (sN L) L.length P t0 (i + 1))) := by
        unfold Do; simp only [hdl, hlen, Ca hil, cond_true, Ap, ofN_getD hil, hpred, hma, Option.bind_some, hb]; rw [Ac (De hil), Ac (De (by rw [L2]; exact hyn)), Ac trivial, Ac (De hyt), Ac (De hyt), Option.bind_some, w1 (by omega)]
        rfl
      obtain ⟨b', e1, e2⟩ := ih (i + 1) true (by omega); refine ⟨b', by rw [B8 hs, e1], fun h => ?_, fun ⟨h1, h2⟩ => absurd (h2 i (Nat.le_refl _) hil) he⟩; obtain ⟨h1, _⟩ := e2.1 h; cases h1
theorem round_all {t0 : List Int} (h : Ready (sN L) r L.length P t0 0) : ∃ b, Au (Do (Fp L) (Hy (r :: P))) (false, (0 : Int), t0) = some (b, M4 (sN L) L.length P t0 P.length) ∧ (b = false ↔ Mt (sN L) L.length P t0) := by
  obtain ⟨b, e1, e2⟩ := round_loop hm o h P.length 0 false (by omega); refine ⟨b, e1, e2.trans ⟨fun ⟨_, h2⟩ => ?_, fun hs => ⟨rfl, fun j _ hj => ?_⟩⟩⟩
  · have key : ∀ j, j ≤ P.length → M4 (sN L) L.length P t0 j = t0 := by
      intro j
      induction j with
      | zero => intro _; rfl
      | succ j ih =>
        intro hj; have ih' := ih (by omega); have rd := h.round o j (by omega)
        have hyn : P.getD j 0 < (M4 (sN L) L.length P t0 j).length := by rw [rd.len]; exact o.lt (List.mem_cons_of_mem _ (J3 (by omega)))
        have : M4 (sN L) L.length P t0 (j + 1) = M4 (sN L) L.length P t0 j := Zb hyn (h2 j (Nat.zero_le _) (by omega)); rw [this, ih']
    intro i hi; have := h2 i (Nat.zero_le _) hi; rwa [key i (by omega)] at this
  · rw [Nk o h.len hs j (by omega)]; exact hs j hj
open Classical in
theorem tree_F3 (j : Nat) : Ei (Fp L) (Hy (r :: P), Ta (sN L) L.length P (E5 L.length r) j) = some (if Mt (sN L) L.length P (Ta (sN L) L.length P (E5 L.length r) j) then .done (Ta (sN L) L.length P (E5 L.length r) (j + 1)) else .next (Hy (r :: P), Ta (sN L) L.length P (E5 L.length r) (j + 1))) := by
  obtain ⟨b, e1, e2⟩ := round_all hm o (Ready.rounds o j); have hL2 : I5 (Fp L) (Hy (r :: P)) = Do (Fp L) (Hy (r :: P)) := rfl
  have hlen : (0 : Int) ≤ 1 ∧ (1 : Int) ≤ ((Hy (r :: P)).length : Int) := by simp [Hy]; omega
  unfold Ei; simp only [hL2, e1, Option.bind_some]; rw [Ac hlen]
  cases b with
  | false => rw [if_pos (e2.1 rfl)]; rfl
  | true => rw [if_neg (fun h => by have := e2.2 h; cases this)]; rfl
theorem tree_rounds : ∃ J, Mt (sN L) L.length P (Ta (sN L) L.length P (E5 L.length r) J) ∧ Au (Ei (Fp L)) (Hy (r :: P), E5 L.length r) = some (Ta (sN L) L.length P (E5 L.length r) J) := by
  obtain ⟨J, h1, h2⟩ := stops o; refine ⟨J, h2, ?_⟩
  have key : ∀ d j, j + d = J → Au (Ei (Fp L)) (Hy (r :: P), Ta (sN L) L.length P (E5 L.length r) j) = some (Ta (sN L) L.length P (E5 L.length r) J) := by
    intro d
    induction d with
    | zero =>
      intro j hj
      obtain rfl : j = J := by omega
      have hF := tree_F3 hm o j; rw [if_pos h2] at hF; rw [Bb hF]; have : Ta (sN L) L.length P (E5 L.length r) (j + 1) = Ta (sN L) L.length P (E5 L.length r) j := Nk o (Ready.rounds o j).len h2 P.length (Nat.le_refl _); rw [this]
    | succ d ih =>
      intro j hj; have hF := tree_F3 hm o j; rw [if_neg (h1 j (by omega))] at hF; rw [B8 hF]; exact ih (j + 1) (by omega)
  exact key J 0 (by omega)
end
theorem m_Tree (g : TGraph) (r : Int) (h1 : Fits g.Succ) (h2 : Fits g.Pred) : Im g r = some (treeG g r) := by
  unfold treeG
  by_cases hc : H0 g = true ∧ 0 ≤ r ∧ r < (g.Succ.length : Int)
  · rw [if_pos hc]; obtain ⟨hG, h0, hlt⟩ := hc; obtain ⟨hm, hg⟩ := Ia hG; obtain ⟨hL1, hL64, _⟩ := mayS_iff.1 hm
    have hr : r.toNat < g.Succ.length := by omega
    have hrn : ((r.toNat : Nat) : Int) = r := Int.toNat_of_nonneg h0; obtain ⟨O, hO⟩ := Ord.exist (Ns hm) hr; have hord := (Tc g h1 trivial r).1 hG h0 hlt O hO; obtain ⟨P, rfl, o⟩ := hO.ordered hr (Ns hm); obtain ⟨J, hJ, hl⟩ := tree_rounds hm o; have ht := (Sa o hJ).eq hm hr o; rw [ht] at hl; have hlen : (((Hy (r.toNat :: P)).length : Int) == 0) = false := beq_eq_false_iff_ne.2 (by simp [Hy]; omega)
    have hlen2 : (0 : Int) ≤ 1 ∧ (1 : Int) ≤ ((Hy (r.toNat :: P)).length : Int) := by simp [Hy]; omega
    have hL2 : I5 g (Hy (r.toNat :: P)) = Do g (Hy (r.toNat :: P)) := rfl
    have hst : (Mo (Ei g (Hy (r.toNat :: P), E5 g.Succ.length r.toNat)) (Ei g)) = some (Ja g.Succ r.toNat) := by
      rw [N3, hg]; exact hl
    unfold Im; rw [hord, Option.bind_some, hlen, cond_false, m_repeat hL1 hL64, Option.bind_some, Ac (inbz h0 (by simpa using hlt)), Ac hlen2]
    have : (Ei g (Hy (r.toNat :: P), E5 g.Succ.length r.toNat)) = (Au (Do g (Hy (r.toNat :: P))) (false, 0, (List.replicate g.Succ.length (-2 : Int)).set r.toNat (-1))).bind (fun x22 => (match x22 with | (b10, l11) => (bif b10 then (some (.next (Hy (r.toNat :: P), l11))) else (some (.done l11))))) := by
      unfold Ei E5; simp only [hL2]; rw [Ac hlen2]
    rw [this] at hst; refine Eq.trans ?_ (congrArg (fun x : Option (List Int) => x.bind fun x42 => some x42) hst)
    rfl
  · rw [if_neg hc]; unfold Im
    have : (H0 g && (decide (0 ≤ r) && decide (r < (g.Succ.length : Int)))) = false := by
      rw [Bool.eq_false_iff]; intro h; rw [Bool.and_eq_true, Bool.and_eq_true, decide_eq_true_eq, decide_eq_true_eq] at h; exact hc h
    rw [(Tc g h1 trivial r).2 this, Option.bind_some]
    rfl
end
end Go.Proofs.Ytjpacggpipflcaa

namespace Go.Proofs.Ytjpacggpipflcaa
noncomputable section
open Go Go.RowKit
set_option linter.unusedVariables false
set_option linter.unusedSimpArgs false
section
variable {L : List (List Int)} (hm : Fd L = true)
include hm
theorem over_tree {a b : Nat} (ha : a < L.length) (hb : b < L.length) : W1 (Ja L 0) (a : Int) (b : Int) = Hl L 0 a b := by
  have h1 := (mayS_iff.1 hm).1; obtain ⟨P, _, o, h⟩ := treeD_dom hm (r := 0) (by omega); rw [Bool.eq_iff_iff, h.over_dom o ha hb, Vu hm (by omega) hb]
def V1 (L : List (List Int)) (a : Nat) (l : List Int) : List (Int × Int) := (l.filter fun y => Hl L 0 y.toNat a).map fun y => ((a : Int), y)
theorem rowW_all {a : Nat} (ha : a < L.length) : V1 L a (L.getD a []) = F7 L a L.length := by
  obtain ⟨h1, h64, hok⟩ := mayS_iff.1 hm
  have e : (L.getD a []).filter (fun y => Hl L 0 y.toNat a) = ((List.range L.length).filter (Pf L a)).map Int.ofNat := by
    refine Px (List.Pairwise.filter _ (Z1 (hok a ha))) (Nz _ _) fun x => ?_; rw [Ra, List.mem_filter]
    constructor
    · rintro ⟨hx, ho⟩; obtain ⟨x0, x1⟩ := Ju (hok a ha) hx; refine ⟨x.toNat, by omega, by omega, ?_⟩; unfold Pf; rw [ho, Bool.and_true, U0, Int.toNat_of_nonneg x0]; exact hx
    · rintro ⟨k, rfl, hk, hb⟩; unfold Pf at hb; rw [Bool.and_eq_true, U0] at hb; exact ⟨hb.1, by rw [Ap]; exact hb.2⟩
  unfold V1 F7; rw [e, List.map_map]
  rfl
theorem prog_L1 {a : Nat} (ha : a < L.length) (l : List (Int × Int)) (hl : l.length ≤ 10000) : Au (Es (Fp L) (Ja L 0) (a : Int)) (l, (0 : Int)) = some (l ++ F7 L a L.length) := by
  have hroom : (1000000 : Nat) ≤ room := by decide
  have hg : (Fp L).Succ = L := rfl; obtain ⟨h1, h64, hok⟩ := mayS_iff.1 hm
  have hrl : (L.getD a []).length ≤ 64 := by have := H6 (hok a ha); omega
  have hlen : ∀ m, (V1 L a ((L.getD a []).take m)).length ≤ m := fun m => by
    unfold V1; rw [List.length_map]; exact Nat.le_trans (List.length_filter_le ..) (by rw [List.length_take]; omega)
  have e0 : (l, (0 : Int)) = (l ++ V1 L a ((L.getD a []).take 0), ((0 : Nat) : Int)) := by simp [V1]
  rw [← rowW_all hm ha, e0]; refine Ck (Es (Fp L) (Ja L 0) (a : Int)) (fun m => (l ++ V1 L a ((L.getD a []).take m), ((m : Nat) : Int))) _ (L.getD a []).length (fun m hmm => ?_) ?_
  · show Es _ _ _ (_, (m : Int)) = _
    unfold Es; have hlm := hlen m; obtain ⟨z0, z1⟩ := Ju (hok a ha) (Ff (d := (0 : Int)) hmm); have ho := over_tree hm (a := ((L.getD a []).getD m 0).toNat) (b := a) (by omega) ha; rw [Int.toNat_of_nonneg z0] at ho
    have hO : In (Ja L 0) ((L.getD a []).getD m 0) (a : Int) = some (Hl L 0 ((L.getD a []).getD m 0).toNat a) := by rw [m_Over (by rw [Rg]; omega), ho]
    have ht : V1 L a ((L.getD a []).take (m + 1)) = V1 L a ((L.getD a []).take m) ++ (if Hl L 0 ((L.getD a []).getD m 0).toNat a = true then [((a : Int), (L.getD a []).getD m 0)] else []) := by
      unfold V1; rw [Ri hmm, List.filter_append, List.map_append, List.filter_cons, List.filter_nil]
      split <;> rfl
    simp only [hg, Ap, Ca hmm, cond_true, hO, Option.bind_some]; rw [Ac (De hmm), ht]
    cases Hl L 0 ((L.getD a []).getD m 0).toNat a with
    | true => rw [cond_true, Ac (by rw [List.length_append]; simp only [List.length_cons, List.length_nil]; omega), Option.bind_some, w1 (by omega), if_pos rfl, List.append_assoc]
    | false => rw [cond_false, Option.bind_some, w1 (by omega), if_neg (by simp), List.append_nil]
  · show Es _ _ _ (_, _) = _
    unfold Es; simp only [hg, Ap, Di, cond_false]; rw [List.take_length]
theorem prog_L2 : Au (Db (Fp L) (Ja L 0)) (([] : List (Int × Int)), (0 : Int)) = some (B3 L) := by
  have hg : (Fp L).Succ = L := rfl; obtain ⟨_, h64, _⟩ := mayS_iff.1 hm; have htl := Rg L 0
  have e : B3 L = Mp L (Ja L 0).length := by rw [htl]; rfl
  rw [e]; refine Ck (Db (Fp L) (Ja L 0)) (fun m => (Mp L m, ((m : Nat) : Int))) _ (Ja L 0).length (fun m hmm => ?_) ?_
  · show Db _ _ (_, (m : Int)) = _
    unfold Db; have h1 := P1 (L := L) m; have h2 : m * L.length ≤ 64 * 64 := Nat.mul_le_mul (by omega) (by omega); simp only [hg, Ca hmm, cond_true]; rw [Ac (De (by omega)), prog_L1 hm (by omega) _ (by omega), Option.bind_some, w1 (by omega), Sm]
  · show Db _ _ (_, _) = _
    unfold Db; simp only [Di, cond_false]
end
theorem L4 (g : TGraph) (h1 : Fits g.Succ) (h2 : Fits g.Pred) : E6 g = some (Gs g) := by
  unfold E6; rw [m_Tree g 0 h1 h2, Option.bind_some]; unfold treeG Gs
  cases hG : H0 g with
  | false =>
    rw [if_neg (by simp), if_neg (by simp)]; rw [Bb (f := Db g []) (x := ([] : List (Int × Int))) (by unfold Db; rfl)]
    rfl
  | true =>
    obtain ⟨hm, hg⟩ := Ia hG; have hL := (mayS_iff.1 hm).1; have hl := prog_L2 hm; rw [← hg] at hl; rw [if_pos ⟨rfl, by omega, by omega⟩, if_pos rfl]
    show Option.bind (Au (Db g (Ja g.Succ 0)) _) _ = _
    rw [hl]
    rfl
def H8 (W : List (Int × Int)) (h : Nat) : List Int := (W.filter fun p => p.2 == (h : Int)).map Prod.fst
def M8 (W : List (Int × Int)) : List (List Int) := (List.range 64).map (H8 W)
theorem Xt {W : List (Int × Int)} {h : Nat} (hh : h < 64) : (M8 W).getD h [] = H8 W h := by unfold M8; rw [Hq hh]
theorem W4 (W : List (Int × Int)) (h : Nat) : (H8 W h).length ≤ W.length := by unfold H8; rw [List.length_map]; exact List.length_filter_le ..
theorem Sj {W : List (Int × Int)} (hW : W.length ≤ 4096) (hin : ∀ p ∈ W, 0 ≤ p.2 ∧ p.2 < 64) : Au (Fh W) ((0 : Int), List.replicate 64 ([] : List Int)) = some (M8 W) := by
  have hroom : (10000 : Nat) ≤ room := by decide
  have e0 : ((0 : Int), List.replicate 64 ([] : List Int)) = (((0 : Nat) : Int), M8 (W.take 0)) := by
    have : List.replicate 64 ([] : List Int) = M8 (W.take 0) := by
      unfold M8; rw [List.take_zero]
      rfl
    rw [this]; rfl
  have e1 : M8 W = M8 (W.take W.length) := by rw [List.take_length]
  rw [e0, e1]; refine Ck (Fh W) (fun m => (((m : Nat) : Int), M8 (W.take m))) _ W.length (fun m hmm => ?_) ?_
  · show Fh W ((m : Int), _) = _
    unfold Fh; obtain ⟨z0, z1⟩ := hin _ (Ff (d := ((0 : Int), (0 : Int))) hmm); obtain ⟨t, ht⟩ : ∃ t : Nat, (W.getD m ((0 : Int), (0 : Int))).2 = (t : Int) := ⟨_, (Int.toNat_of_nonneg z0).symm⟩
    have ht64 : t < 64 := by omega
    have hp : Gn 64 [] (M8 (W.take m)) = M8 (W.take m) := (Xe (by simp [M8])).symm; have hl := W4 (W.take m) t; rw [List.length_take] at hl; simp only [Ca hmm, cond_true, Ap, ht, hp, Xt ht64]; rw [Ac (De hmm), Ac (De ht64), Ac (De ht64), Ac (by simp only [List.length_cons, List.length_nil]; omega), Ac (De ht64), w1 (by omega)]
    congr 3
    unfold M8; rw [K7]; refine Dn fun x hx => ?_
    have htk : W.take (m + 1) = W.take m ++ [W.getD m ((0 : Int), (0 : Int))] := by rw [List.take_succ_eq_append_getElem hmm, Ak _ _ _ hmm]
    have : H8 (W.take (m + 1)) x = H8 (W.take m) x ++ (if x = t then [(W.getD m ((0 : Int), (0 : Int))).1] else []) := by
      unfold H8; rw [htk, List.filter_append, List.map_append, List.filter_cons, List.filter_nil, ht]
      by_cases e : x = t
      · subst e; rw [if_pos (by simp), if_pos rfl]; rfl
      · rw [if_neg (by simp; omega), if_neg e]; rfl
    rw [this]
    by_cases e : x = t
    · subst e; rw [if_pos rfl, if_pos rfl]
    · rw [if_neg e, if_neg e, List.append_nil]
  · show Fh W (_, _) = _
    unfold Fh; simp only [Di, cond_false]
theorem U7 {R : List Bool} {s : Nat → Bool} (h : RelS R s) : Eo R = some (((List.range 64).filter s).map Int.ofNat) := by
  have hroom : (1000 : Nat) ≤ room := by decide
  unfold Eo
  have hl : Au (Cu R) (([] : List Int), (0 : Int)) = some (((List.range 64).filter s).map Int.ofNat) := by
    refine Ck (Cu R) (fun m => (((List.range m).filter s).map Int.ofNat, ((m : Nat) : Int))) _ 64 (fun m hmm => ?_) ?_
    · show Cu R (_, (m : Int)) = _
      unfold Cu; have hlen := T5 s m
      have hd : decide ((m : Int) < (64 : Int)) = true := by simpa using (show (m : Int) < 64 by omega)
      simp only [hd, cond_true, Ap, h m hmm]; rw [Ac (De hmm), Xn]
      cases s m with
      | true => rw [cond_true, Ac (by simp only [List.length_cons, List.length_nil]; omega), Option.bind_some, w1 (by omega), if_pos rfl]
      | false => rw [cond_false, Option.bind_some, w1 (by omega), if_neg (by simp), List.append_nil]
    · show Cu R (_, _) = _
      unfold Cu
      rfl
  rw [hl]
  rfl
theorem Ux {O : List Nat} (hO : ∀ z ∈ O, z < 64) (hl : O.length < 1000) : ∃ l, Gq (Hy O) = some l ∧ RelS l (fun z => O.contains z) := by
  have hlen : (Hy O).length = O.length := by simp [Hy]
  have key : ∀ (k i : Nat) (l : List Bool) (s : Nat → Bool), i + k = O.length → RelS l s → ∃ l', Au (Ez (Hy O)) ((i : Int), l) = some l' ∧ RelS l' (fun z => s z || (O.drop i).contains z) := by
    intro k
    induction k with
    | zero =>
      intro i l s hi hr
      obtain rfl : i = O.length := by omega
      refine ⟨l, Bb ?_, fun z hz => ?_⟩
      · unfold Ez; simp only [hlen, Di, cond_false]
      · rw [hr z hz, List.drop_length]; simp
    | succ k ih =>
      intro i l s hi hr
      have hil : i < O.length := by omega
      have hz : O[i] < 64 := hO _ (List.getElem_mem hil)
      have hr' : RelS (Et 64 false l O[i] true) (fun z => s z || decide (z = O[i])) := fun z hz' => by
        rw [H2 hz', hr z hz']
        by_cases e : z = O[i]
        · simp [e]
        · simp [e]
      obtain ⟨l', h1, h2⟩ := ih (i + 1) _ _ (by omega) hr'
      have hs : Ez (Hy O) ((i : Int), l) = some (.next (((i + 1 : Nat) : Int), Et 64 false l O[i] true)) := by
        unfold Ez; simp only [hlen, Ca hil, cond_true, Ap, ofN_at hil]; rw [Ac (De hil), Ac (De hz), w1 (by omega)]
      refine ⟨l', by rw [B8 hs, h1], fun z hz' => ?_⟩; rw [h2 z hz', List.drop_eq_getElem_cons hil]
      show (s z || decide (z = O[i]) || (List.drop (i + 1) O).contains z) = (s z || (O[i] :: List.drop (i + 1) O).contains z)
      rw [List.contains_cons, Bool.or_assoc]
      rfl
  obtain ⟨l', e1, e2⟩ := key O.length 0 (List.replicate 64 false) (fun _ => false) (by omega) (fun z hz => Hn); refine ⟨l', ?_, fun z hz => ?_⟩
  · unfold Gq
    show Option.bind (Au (Ez (Hy O)) (((0 : Nat) : Int), _)) _ = _
    rw [e1]
    rfl
  · rw [e2 z hz]
    show (false || (List.drop 0 O).contains z) = O.contains z
    rw [List.drop_zero, Bool.false_or]
theorem Av.head {S : Nat → List Nat} {h x y b : Nat} (hy : y ≠ h) (hx : x ∈ S y) (k : Av S x h b) : Av S y h b := by
  induction k with
  | root hx' => exact .step (.root hy) hx hx'
  | step _ h2 h3 ih => exact .step ih h2 h3
theorem filt_cut {n : Nat} {s p : Nat → Bool} (hn : n ≤ 64) (h : ∀ x, x < 64 → s x = (decide (x < n) && p x)) : ((List.range 64).filter s).map Int.ofNat = ((List.range n).filter p).map Int.ofNat := by
  refine Px (Nz _ _) (Nz _ _) fun x => ?_; rw [Ra, Ra]
  constructor
  · rintro ⟨k, rfl, hk, hs⟩; rw [h k hk, Bool.and_eq_true, decide_eq_true_eq] at hs; exact ⟨k, rfl, hs.1, hs.2⟩
  · rintro ⟨k, rfl, hk, hs⟩; exact ⟨k, rfl, by omega, by rw [h k (by omega), hs, Bool.and_true]; exact decide_eq_true hk⟩
section
variable {L : List (List Int)} (hm : Fd L = true)
include hm
structure Goes (L : List (List Int)) (re : Nat → Bool) (h : Nat) (B : List Int) (Q : Nat → Prop) (s : Nat → Bool) (rest : List Int) : Prop where
  inr : ∀ x ∈ rest, 0 ≤ x ∧ x < (L.length : Int)
  head : s h = true
  only : ∀ x, s x = true → x = h ∨ Q x
  onlyr : ∀ x : Nat, (x : Int) ∈ rest → re x = true → x = h ∨ Q x
  begs : ∀ b : Nat, (b : Int) ∈ B → re b = true → s b = true ∨ (b : Int) ∈ rest
  preds : ∀ x, s x = true → x ≠ h → ∀ y, y < L.length → x ∈ sN L y → re y = true → s y = true ∨ (y : Int) ∈ rest
theorem body_loop {re : Nat → Bool} {h : Nat} {B : List Int} {Q : Nat → Prop} {Re : List Bool} (hRe : RelS Re re) (hQn : ∀ x, Q x → x < L.length) (hQ : ∀ x, Q x → ∀ y, y < L.length → x ∈ sN L y → re y = true → y = h ∨ Q y) :
    ∀ (m : Nat) (R : List Bool) (s : Nat → Bool) (rest : List Int), 65 * Wi 64 s + rest.length ≤ m → m ≤ 10000 → RelS R s → Goes L re h B Q s rest →
      ∃ s', Au (Em (Eh L) Re) (R, rest) = some (((List.range 64).filter s').map Int.ofNat) ∧ Goes L re h B Q s' [] := by
  have hroom : (100000 : Nat) ≤ room := by decide
  obtain ⟨h1, h64, hok⟩ := mayS_iff.1 hm; have hpl := L2 L; intro m
  induction m with
  | zero =>
    intro R s rest hmeas _ hR hG; obtain rfl : rest = [] := List.eq_nil_of_length_eq_zero (by omega); refine ⟨s, Bb ?_, hG⟩; unfold Em; simp only [List.length_nil]
    show (bif (((0 : Nat) : Int) == (0 : Int)) then _ else _) = _
    rw [show ((((0 : Nat) : Int) == (0 : Int))) = true from rfl, cond_true, U7 hR]
    rfl
  | succ m ih =>
    intro R s rest hmeas hm1 hR hG; rcases List.eq_nil_or_concat rest with rfl | ⟨st, a, rfl⟩
    · refine ⟨s, Bb ?_, hG⟩; unfold Em
      show (bif (((0 : Nat) : Int) == (0 : Int)) then _ else _) = _
      rw [show ((((0 : Nat) : Int) == (0 : Int))) = true from rfl, cond_true, U7 hR]
      rfl
    · rw [List.concat_eq_append] at hG hmeas ⊢; rw [List.length_append, List.length_singleton] at hmeas; obtain ⟨a0, a1⟩ := hG.inr a (by simp); obtain ⟨n, rfl⟩ : ∃ n : Nat, a = (n : Int) := ⟨_, (Int.toNat_of_nonneg a0).symm⟩
      have hn : n < L.length := by omega
      have htop := top (st := st) (a := (n : Int)) (by omega); have htopi := topi (st := st) (a := (n : Int)) (by omega)
      have hne : (((((st ++ [(n : Int)]).length : Nat) : Int)) == (0 : Int)) = false := by
        rw [beq_eq_false_iff_ne, List.length_append, List.length_singleton]; omega
      have hgd : (st ++ [(n : Int)]).getD st.length 0 = (n : Int) := by rw [List.getD_eq_getElem?_getD, List.getElem?_append_right (Nat.le_refl _)]; simp
      have htk : (st ++ [(n : Int)]).take st.length = st := by rw [List.take_append_of_le_length (Nat.le_refl _), List.take_length]
      have hi1 : A3 ((st.length : Nat) : Int) (st ++ [(n : Int)]).length := De (by rw [List.length_append, List.length_singleton]; omega); have hi2 : 0 ≤ ((st.length : Nat) : Int) ∧ 0 + st.length ≤ (st ++ [(n : Int)]).length := ⟨by omega, by rw [List.length_append, List.length_singleton]; omega⟩; have hi3 : A3 ((n : Nat) : Int) 64 := De (by omega)
      cases hc : re n && !s n with
      | true =>
        rw [Bool.and_eq_true, Bool.not_eq_true'] at hc; obtain ⟨hre, hsn⟩ := hc; have hpr : (Eh L).getD n [] = Ey L L.length n := Rl hn
        have hpm : ∀ x ∈ Ey L L.length n, ∃ p : Nat, x = (p : Int) ∧ p < L.length ∧ n ∈ sN L p := fun x hx => by rw [← hpr] at hx; exact (Ng hm hn).1 hx
        have hplen : (Ey L L.length n).length ≤ 64 := by have := Ka L L.length n; omega
        have hcn := Mh (n := 64) (s := s) (y := n) (by omega) hsn; have hQa : n = h ∨ Q n := hG.onlyr n (by simp) hre
        have hnh : n ≠ h := by rintro rfl; rw [hG.head] at hsn; cases hsn
        have hQn' : Q n := hQa.resolve_left hnh
        have hG' : Goes L re h B Q (upd s n) (st ++ Ey L L.length n) := by
          refine ⟨fun x hx => ?_, upd_true.2 (.inr hG.head), fun x hx => ?_, fun x hx hrx => ?_, fun b hb hrb => ?_, fun x hx hxh y hy hxy hry => ?_⟩
          · rcases List.mem_append.1 hx with h | h
            · exact hG.inr x (by simp [h])
            · obtain ⟨p, rfl, hp, _⟩ := hpm x h; omega
          · rcases upd_true.1 hx with rfl | h
            · exact .inr hQn'
            · exact hG.only x h
          · rcases List.mem_append.1 hx with h | h
            · exact hG.onlyr x (by simp [h]) hrx
            · obtain ⟨p, e, hp, hnp⟩ := hpm _ h
              obtain rfl : x = p := by omega
              exact hQ n hQn' x hp hnp hrx
          · rcases hG.begs b hb hrb with h | h
            · exact .inl (upd_true.2 (.inr h))
            · rcases List.mem_append.1 h with h | h
              · exact .inr (by simp [h])
              · rw [List.mem_singleton] at h; exact .inl (upd_true.2 (.inl (by omega)))
          · rcases upd_true.1 hx with rfl | hsx
            · refine .inr (List.mem_append.2 (.inr ?_)); rw [← hpr]; exact (Ng hm hn).2 ⟨y, rfl, hy, hxy⟩
            · rcases hG.preds x hsx hxh y hy hxy hry with h | h
              · exact .inl (upd_true.2 (.inr h))
              · rcases List.mem_append.1 h with h | h
                · exact .inr (by simp [h])
                · rw [List.mem_singleton] at h; exact .inl (upd_true.2 (.inl (by omega)))
        obtain ⟨s', e1, e2⟩ := ih (Et 64 false R n true) (upd s n) (st ++ Ey L L.length n) (by rw [List.length_append]; omega) (by omega) hR.set hG'; refine ⟨s', ?_, e2⟩; rw [B8 (s' := (Et 64 false R n true, st ++ Ey L L.length n)) ?_, e1]; unfold Em; simp only [hne, cond_false, htopi, Ap, hgd, htk, hRe n (by omega), hR n (by omega), hre, hsn, Bool.not_false, cond_true, hpr]; rw [Ac hi1, Ac hi2, Ac hi3, Hp hi3, Ac hi3, Ac (De (by omega)), Ac (by omega), Option.bind_some]
      | false =>
        have hG' : Goes L re h B Q s st := by
          have hdrop : ∀ b : Nat, (b : Int) ∈ st ++ [(n : Int)] → re b = true → s b = true ∨ (b : Int) ∈ st := fun b hb hrb => by
            rcases List.mem_append.1 hb with h | h
            · exact .inr h
            · rw [List.mem_singleton] at h
              obtain rfl : b = n := by omega
              rw [hrb, Bool.true_and] at hc; exact .inl (by simpa using hc)
          refine ⟨fun x hx => hG.inr x (by simp [hx]), hG.head, hG.only, fun x hx => hG.onlyr x (by simp [hx]), fun b hb hrb => ?_, fun x hx hxh y hy hxy hry => ?_⟩
          · rcases hG.begs b hb hrb with h | h
            · exact .inl h
            · exact hdrop b h hrb
          · rcases hG.preds x hx hxh y hy hxy hry with h | h
            · exact .inl h
            · exact hdrop y h hry
        obtain ⟨s', e1, e2⟩ := ih R s st (by omega) (by omega) hR hG'; refine ⟨s', ?_, e2⟩; rw [B8 (s' := (R, st)) ?_, e1]; unfold Em
        have hcc : (bif re n then !s n else false) = false := by rw [← hc]; cases re n <;> rfl
        simp only [hne, cond_false, htopi, Ap, hgd, htk, hRe n (by omega), hR n (by omega), hcc]; rw [Ac hi1, Ac hi2, Ac hi3, Hp hi3, Option.bind_some]
end
end
end Go.Proofs.Ytjpacggpipflcaa

namespace Go.Proofs.Ytjpacggpipflcaa
noncomputable section
open Go Go.RowKit
set_option linter.unusedVariables false
set_option linter.unusedSimpArgs false
theorem m_clone_v2 (l : List Int) (h : l.length ≤ room) : Dt l = some l := by
  unfold Dt; rw [Ac h]
section
variable {L : List (List Int)} (hm : Fd L = true)
include hm
theorem Qj {h b : Nat} : (b : Int) ∈ H8 (B3 L) h ↔ ((b : Int), (h : Int)) ∈ B3 L := by
  have _hm := hm; unfold H8; rw [List.mem_map]
  constructor
  · rintro ⟨p, hp, e⟩; obtain ⟨h1, h2⟩ := List.mem_filter.1 hp; have : p = ((b : Int), (h : Int)) := Prod.ext e (by simpa using h2); rw [← this]; exact h1
  · intro hp; exact ⟨_, List.mem_filter.2 ⟨hp, by simp⟩, rfl⟩
theorem m_body {Re : List Bool} (hRe : RelS Re fun z => Hh L z) {h : Nat} (hh : h < L.length) : Jk (Eh L) Re (h : Int) (H8 (B3 L) h) = some (P4 L h) := by
  have hroom : (100000 : Nat) ≤ room := by decide
  obtain ⟨h1, h64, hok⟩ := mayS_iff.1 hm; have hbl := J0 (L := L) h64; have hbg := W4 (B3 L) h
  let Q : Nat → Prop := fun x => x ≠ h ∧ x < L.length ∧ Hh L x = true ∧ ∃ b : Nat, (b : Int) ∈ H8 (B3 L) h ∧ Av (sN L) x h b
  have hst : ∀ x, x < L.length → (Hh L x = true ↔ Rc (sN L) 0 x) := fun x hx => Kn hm (by omega)
  have hG : Goes L (fun z => Hh L z) h (H8 (B3 L) h) Q (upd (fun _ => false) h) (H8 (B3 L) h) := by
    refine ⟨fun x hx => ?_, upd_true.2 (.inl rfl), fun x hx => ?_, fun x hx hrx => ?_, fun b hb hrb => .inr hb, fun x hx hxh => ?_⟩
    · unfold H8 at hx; obtain ⟨p, hp, rfl⟩ := List.mem_map.1 hx; obtain ⟨a, b, rfl, ha, _⟩ := mem_backs.1 (List.mem_filter.1 hp).1; exact ⟨by omega, by show (a : Int) < _; omega⟩
    · rcases upd_true.1 hx with rfl | h'
      · exact .inl rfl
      · cases h'
    · by_cases e : x = h
      · exact .inl e
      · obtain ⟨a, b, hp, ha, _⟩ := mem_backs.1 ((Qj hm).1 hx)
        have : x = a := by have := congrArg Prod.fst hp; exact Int.ofNat.inj this
        exact .inr ⟨e, by omega, hrx, x, hx, .root e⟩
    · rcases upd_true.1 hx with rfl | h'
      · exact absurd rfl hxh
      · cases h'
  obtain ⟨s', e1, e2⟩ := body_loop hm hRe (h := h) (B := H8 (B3 L) h) (Q := Q) (fun x hx => hx.2.1) (fun x hx y hy hxy hry => by
      by_cases e : y = h
      · exact .inl e
      · obtain ⟨_, _, _, b, hb, k⟩ := hx
        exact .inr ⟨e, hy, hry, b, hb, k.head e hxy⟩) 9000 (Et 64 false (List.replicate 64 false) h true) _ _ (by
      have : Wi 64 (upd (fun _ => false) h) ≤ 64 := by
        unfold Wi; exact Nat.le_trans (List.length_filter_le ..) (by simp)
      omega) (by omega) (RelS.set (s := fun _ => false) (fun z hz => Hn)) hG
  have hfin : ∀ x, x < 64 → s' x = (decide (x < L.length) && Tq L h x) := fun x hx => by
    rw [Bool.eq_iff_iff, Bool.and_eq_true, decide_eq_true_eq]
    have hb : x < L.length → (Tq L h x = true ↔ x = h ∨ (x ≠ h ∧ Hh L x = true ∧ ∃ b : Nat, (b : Int) ∈ H8 (B3 L) h ∧ Av (sN L) x h b)) := fun hxn => by
      unfold Tq; rw [Bool.or_eq_true, decide_eq_true_eq, List.any_eq_true]; refine or_congr Iff.rfl ⟨?_, ?_⟩
      · rintro ⟨p, hp, hi⟩; obtain ⟨a, b, rfl, ha, hbn, _⟩ := mem_backs.1 hp; unfold inBy at hi; simp only [Bool.and_eq_true, decide_eq_true_eq, beq_iff_eq, Ap] at hi; obtain ⟨i1, i2, i3, i4⟩ := hi
        obtain rfl : b = h := by omega
        exact ⟨i2, i3, a, (Qj hm).2 hp, (Pw hm hxn ha).1 i4⟩
      · rintro ⟨i2, i3, b, hbb, k⟩; refine ⟨_, (Qj hm).1 hbb, ?_⟩; obtain ⟨a, c, hp, ha, _⟩ := mem_backs.1 ((Qj hm).1 hbb)
        have hba : b < L.length := by have := congrArg Prod.fst hp; have : b = a := Int.ofNat.inj this; omega
        unfold inBy; simp only [Bool.and_eq_true, decide_eq_true_eq, beq_iff_eq, Ap]; exact ⟨trivial, i2, i3, (Pw hm hxn hba).2 k⟩
    constructor
    · intro hs; rcases e2.only x hs with rfl | ⟨q1, q2, q0, b, q3, q4⟩
      · exact ⟨hh, (hb hh).2 (.inl rfl)⟩
      · exact ⟨q2, (hb q2).2 (.inr ⟨q1, q0, b, q3, q4⟩)⟩
    · rintro ⟨hxn, hbx⟩; rcases (hb hxn).1 hbx with rfl | ⟨q1, q2, b, q3, q4⟩
      · exact e2.head
      · have hrc : ∀ w, Av (sN L) x h w → Rc (sN L) 0 w := fun w k => by
          induction k with
          | root _ => exact (hst x hxn).1 q2
          | step _ k2 _ ih => exact .step ih k2
        have hlt : ∀ w, Av (sN L) x h w → w < L.length := fun w k => rc_lt (Ns hm) (by omega) (hrc w k)
        have back : ∀ w, Av (sN L) x h w → s' w = true → s' x = true := fun w k => by
          induction k with
          | root _ => exact id
          | @step u w k1 k2 k3 ih =>
            intro hw; have hu := hlt _ k1; rcases e2.preds w hw k3 u hu k2 ((hst u hu).2 (hrc u k1)) with h' | h'
            · exact ih h'
            · cases h'
        have hbn := hlt b q4; rcases e2.begs b q3 ((hst b hbn).2 (hrc b q4)) with h' | h'
        · exact back b q4 h'
        · cases h'
  unfold Jk; rw [Ap, Ac (De (by omega)), m_clone_v2 _ (by omega), Option.bind_some]
  show Option.bind (Mo (Em (Eh L) Re (Et 64 false (List.replicate 64 false) h true, H8 (B3 L) h)) (Em (Eh L) Re)) _ = _
  rw [N3, e1, Option.bind_some, filt_cut h64 hfin]
  rfl
theorem heads_beg {h : Nat} : decide ((0 : Int) < (((H8 (B3 L) h).length : Nat) : Int)) = Ii L h := by
  have _hm := hm; rw [Bool.eq_iff_iff, decide_eq_true_eq]; unfold Ii H8; rw [List.length_map, List.any_eq_true]
  constructor
  · intro hl
    have : 0 < ((B3 L).filter fun p => p.2 == (h : Int)).length := by omega
    obtain ⟨p, hp⟩ := List.exists_mem_of_length_pos this; exact ⟨p, (List.mem_filter.1 hp).1, (List.mem_filter.1 hp).2⟩
  · rintro ⟨p, hp, e⟩; have : 0 < ((B3 L).filter fun p => p.2 == (h : Int)).length := List.length_pos_of_mem (List.mem_filter.2 ⟨hp, e⟩); omega
theorem Zs {h : Nat} (hh : Ii L h = true) : h < L.length := by
  have _hm := hm; unfold Ii at hh; rw [List.any_eq_true] at hh; obtain ⟨p, hp, e⟩ := hh; obtain ⟨a, b, rfl, _, hb, _⟩ := mem_backs.1 hp
  have : (b : Int) = (h : Int) := by simpa using e
  omega
theorem prog_all {Re : List Bool} (hRe : RelS Re fun z => Hh L z) : Au (C5 (Fp L) (M8 (B3 L)) Re) (([] : List At), (0 : Int)) = some (Og L) := by
  have hroom : (1000 : Nat) ≤ room := by decide
  have hp : (Fp L).Pred = Eh L := rfl; obtain ⟨h1, h64, _⟩ := mayS_iff.1 hm
  have hlen : ∀ m, (((List.range m).filter (Ii L)).map fun h => (⟨((h : Nat) : Int), P4 L h⟩ : At)).length ≤ m := fun m => by
    rw [List.length_map]; exact Nat.le_trans (List.length_filter_le ..) (by simp)
  have e : Og L = ((List.range 64).filter (Ii L)).map fun h => (⟨((h : Nat) : Int), P4 L h⟩ : At) := by
    unfold Og
    congr 1
    have hk : ∀ k, L.length + k ≤ 64 → (List.range (L.length + k)).filter (Ii L) = (List.range L.length).filter (Ii L) := fun k => by
      induction k with
      | zero => intro _; rfl
      | succ k ih =>
        intro hk; rw [← Nat.add_assoc, List.range_succ, List.filter_append, ih (by omega)]
        have : Ii L (L.length + k) = false := by
          cases hh : Ii L (L.length + k) with
          | false => rfl
          | true => have := Zs hm hh; omega
        simp [this]
    have := hk (64 - L.length) (by omega); rw [show L.length + (64 - L.length) = 64 by omega] at this; exact this.symm
  rw [e]; refine Ck (C5 (Fp L) (M8 (B3 L)) Re) (fun m => (((List.range m).filter (Ii L)).map fun h => (⟨((h : Nat) : Int), P4 L h⟩ : At), ((m : Nat) : Int))) _ 64 (fun m hmm => ?_) ?_
  · show C5 _ _ _ (_, (m : Int)) = _
    unfold C5; have hl := hlen m
    have hd : decide ((m : Int) < (64 : Int)) = true := by simpa using (show (m : Int) < 64 by omega)
    simp only [hd, cond_true, Ap, hp, Xt hmm, heads_beg hm]; rw [Ac (De hmm), List.range_succ, List.filter_append, List.map_append]
    cases hh : Ii L m with
    | true =>
      rw [cond_true, m_body hm hRe (Zs hm hh), Option.bind_some, Ac (by simp only [List.length_cons, List.length_nil]; omega), Option.bind_some, w1 (by omega)]; simp [hh]
    | false =>
      rw [cond_false, Option.bind_some, w1 (by omega)]; simp [hh]
  · show C5 _ _ _ (_, _) = _
    unfold C5
    rfl
end
theorem order0 {L : List (List Int)} (hm : Fd L = true) : ∃ O : List Nat, Ord (sN L) 0 O ∧ D4 (Fp L) 0 = some (Hy O) ∧ (∀ z ∈ O, z < L.length) ∧ O.length ≤ 64 := by
  obtain ⟨h1, h64, _⟩ := mayS_iff.1 hm; obtain ⟨O, hO⟩ := Ord.exist (Ns hm) (r := 0) (by omega); have hord := (Tc (Fp L) (Lu hm).1 trivial 0).1 (Ub hm) (by omega) (by show (0 : Int) < (L.length : Int); omega) O hO; have hlt : ∀ z ∈ O, z < L.length := fun z hz => rch_lt hm ((hO.mem z).1 hz) (by omega); exact ⟨O, hO, hord, hlt, Nat.le_trans (J1 L.length O hO.nodup hlt) h64⟩
theorem U6 {g : TGraph} (h : Fits g.Succ) (hG : H0 g = false) : D4 g 0 = some [] := (Tc g h trivial 0).2 (by rw [hG]; rfl)
theorem Uz (g : TGraph) (h1 : Fits g.Succ) (h2 : Fits g.Pred) : Gy g = some (Dk g) := by
  unfold Gy Dk; rw [L4 g h1 h2, Option.bind_some]; unfold Gs
  cases hG : H0 g with
  | false =>
    rw [if_neg (by simp), if_neg (by simp)]; rw [Sj (by simp) (fun p hp => by cases hp), Option.bind_some, U6 h1 hG, Option.bind_some]; obtain ⟨l, hl, _⟩ := Ux (O := []) (fun z hz => by cases hz) (by simp); rw [show Gq [] = some l from hl, Option.bind_some]
    have hn : ∀ m, m < 64 → (M8 []).getD m [] = [] := fun m hm => by rw [Xt hm]; rfl
    have hloop : Au (C5 g (M8 []) l) (([] : List At), (0 : Int)) = some [] := by
      refine Ck (C5 g (M8 []) l) (fun m => (([] : List At), ((m : Nat) : Int))) _ 64 (fun m hmm => ?_) ?_
      · show C5 _ _ _ (_, (m : Int)) = _
        unfold C5
        have hd : decide ((m : Int) < (64 : Int)) = true := by simpa using (show (m : Int) < 64 by omega)
        simp only [hd, cond_true, Ap, hn m hmm]; rw [Ac (De hmm)]
        show Option.bind (some _) _ = _
        rw [Option.bind_some, w1 (by omega)]
      · show C5 _ _ _ (_, _) = _
        unfold C5
        rfl
    rw [hloop]
    rfl
  | true =>
    obtain ⟨hm, hg⟩ := Ia hG; obtain ⟨_, h64, _⟩ := mayS_iff.1 hm
    rw [if_pos rfl, if_pos rfl, Sj (J0 h64) (fun p hp => by
      obtain ⟨a, b, rfl, _, hb, _⟩ := mem_backs.1 hp
      exact ⟨by show (0 : Int) ≤ (b : Int); omega, by show (b : Int) < 64; omega⟩), Option.bind_some]
    obtain ⟨O, hO, hord, hlt, hlen⟩ := order0 hm; rw [← hg] at hord; obtain ⟨l, hl, hr⟩ := Ux (O := O) (fun z hz => by have := hlt z hz; omega) (by omega)
    have hRe : RelS l fun z => Hh g.Succ z := fun z hz => by
      rw [hr z hz, Bool.eq_iff_iff, List.contains_iff_mem, hO.mem, ← rc_iff]; unfold Hh; rw [Kn hm (by have := (mayS_iff.1 hm).1; omega)]
    have ha := prog_all hm hRe; rw [← hg] at ha; rw [hord, Option.bind_some, hl, Option.bind_some, ha]
    rfl
theorem Xw (l : List Int) (v : Int) (hl : l.length ≤ 1000) : Du l v = some (l.contains v) := by
  unfold Du; rcases m_index l v hl with ⟨r, h1, h2, h3, h4⟩ | ⟨h1, h2⟩
  · rw [h4, Option.bind_some]; have : l.contains v = true := List.contains_iff_mem.2 (by rw [← h2]; exact Ff h1); rw [this, decide_eq_true (by omega)]
  · rw [h2, Option.bind_some]
    have : l.contains v = false := by
      cases hc : l.contains v with
      | false => rfl
      | true =>
        obtain ⟨i, hi, e⟩ := List.getElem_of_mem (List.contains_iff_mem.1 hc); exact absurd (by rw [Ak _ _ _ hi]; exact e) (h1 i hi)
    rw [this]
    rfl
theorem Yf (g : TGraph) (x : Int) (h1 : Fits g.Succ) (h2 : Fits g.Pred) : F0 g x = some ((Ij (Dk g) x : Nat) : Int) := by
  unfold F0; obtain ⟨hll, hlb⟩ := Uh g; rw [Uz g h1 h2, Option.bind_some]
  have l2 : Au (Er x (Dk g)) ((0 : Int), (0 : Int)) = some ((Ij (Dk g) x : Nat) : Int) := by
    have e : Ij (Dk g) x = Ij ((Dk g).take (Dk g).length) x := by rw [List.take_length]
    rw [e]; refine Ck (Er x (Dk g)) (fun m => (((Ij ((Dk g).take m) x : Nat) : Int), ((m : Nat) : Int))) _ (Dk g).length (fun m hmm => ?_) ?_
    · show Er _ _ (_, (m : Int)) = _
      unfold Er; have hb := hlb _ (Ff (d := (default : At)) hmm); have hd := deepN_le ((Dk g).take m) x; have hd : Ij ((Dk g).take m) x ≤ 64 := Nat.le_trans hd (by rw [List.length_take]; omega); simp only [Ca hmm, cond_true, Ap, Xw _ _ (show ((Dk g).getD m default).Body.length ≤ 1000 by omega), Option.bind_some]; rw [Ac (De hmm), Ud _ _ hmm]
      cases ((Dk g).getD m default).Body.contains x with
      | true => rw [cond_true, Option.bind_some, w1 (by omega), w1 (by omega)]; rfl
      | false => rw [cond_false, Option.bind_some, w1 (by omega)]; rfl
    · show Er _ _ (_, _) = _
      unfold Er; simp only [Di, cond_false]
  rw [l2]
  rfl
end
end Go.Proofs.Ytjpacggpipflcaa

namespace Go.Proofs.Ytjpacggpipflcaa
noncomputable section
open Go Go.RowKit
set_option linter.unusedVariables false
set_option linter.unusedSimpArgs false
section
variable {S : Nat → List Nat}
theorem VL.edges {s s' : Nat → Bool} {l o : List Nat} (h : VL S s l s' o) : ∀ z ∈ o, ∀ y ∈ S z, s y = true ∨ (∃ A B, o = A ++ z :: B ∧ y ∈ A) ∨ Rch S y z := by
  induction h with
  | nil => intro z hz; cases hz
  | skip _ _ ih => exact ih
  | @step s s1 s2 y0 l o1 o2 h0 a b iha ihb =>
    intro z hz y hy; rcases List.mem_append.1 hz with hz1 | hz1
    · rcases iha z hz1 y hy with h | ⟨A, B, e, hA⟩ | h
      · rcases upd_true.1 h with rfl | h
        · obtain ⟨w, hw, hr⟩ := a.rch hz1; exact .inr (.inr (.head hw hr))
        · exact .inl h
      · exact .inr (.inl ⟨A, B ++ y0 :: o2, by rw [e]; simp, hA⟩)
      · exact .inr (.inr h)
    · rcases List.mem_cons.1 hz1 with rfl | hz2
      · rcases (a.seen y).1 (a.closed.1 y hy) with h | h
        · rcases upd_true.1 h with rfl | h
          · exact .inr (.inr (.refl _))
          · exact .inl h
        · exact .inr (.inl ⟨o1, o2, rfl, h⟩)
      · rcases ihb z hz2 y hy with h | ⟨A, B, e, hA⟩ | h
        · rcases (a.seen y).1 h with h | h
          · rcases upd_true.1 h with rfl | h
            · obtain ⟨A, B, e⟩ := List.append_of_mem hz2; exact .inr (.inl ⟨o1 ++ y :: A, B, by rw [e]; simp, by simp⟩)
            · exact .inl h
          · obtain ⟨A, B, e⟩ := List.append_of_mem hz2; exact .inr (.inl ⟨o1 ++ y0 :: A, B, by rw [e]; simp, by simp [h]⟩)
        · exact .inr (.inl ⟨o1 ++ y0 :: A, B, by rw [e]; simp, by simp [hA]⟩)
        · exact .inr (.inr h)
theorem Ord.edges {r : Nat} {O : List Nat} (h : Ord S r O) : ∀ z ∈ O, ∀ y ∈ S z, (∃ A B, O = A ++ z :: B ∧ y ∈ B) ∨ Rch S y z := by
  obtain ⟨s', o, hv, rfl⟩ := h; intro z hz0 y hy; rcases List.mem_cons.1 hz0 with rfl | hz
  · rcases (hv.seen y).1 (hv.closed.1 y hy) with h | h
    · have : y = z := by simpa [one] using h
      subst this; exact .inr (.refl _)
    · exact .inl ⟨[], o.reverse, rfl, by simpa using h⟩
  · have hz3 := List.mem_reverse.1 hz; rcases hv.edges z hz3 y hy with h | ⟨A, B, e, hA⟩ | h
    · have : y = r := by simpa [one] using h
      subst this; obtain ⟨w, hw, hr⟩ := hv.rch hz3; exact .inr (.head hw hr)
    · exact .inl ⟨r :: B.reverse, A.reverse, by rw [e]; simp, by simpa using hA⟩
    · exact .inr h
end
def Mc (S : Nat → List Nat) (O : List Nat) (i : Nat) : Bool := !(S (O.getD i 0)).any fun y => (O.take (i + 1)).contains y
section
variable {L : List (List Int)} (hm : Fd L = true)
include hm
theorem roundC_at : Me L = true ↔ ∃ a y, a < L.length ∧ Rch (sN L) 0 a ∧ y ∈ sN L a ∧ Rch (sN L) y a := by
  have h1 := (mayS_iff.1 hm).1; unfold Me; rw [List.any_eq_true]
  constructor
  · rintro ⟨a, ha, h⟩; rw [List.mem_range] at ha; unfold Ho at h; rw [Bool.and_eq_true, Kn hm (by omega), List.any_eq_true] at h; obtain ⟨h2, y, hy, h3⟩ := h; obtain ⟨y0, y1⟩ := Ju ((mayS_iff.1 hm).2.2 a ha) hy; refine ⟨a, y.toNat, ha, rc_iff.1 h2, ?_, rc_iff.1 ((Kn hm (by omega)).1 h3)⟩; rw [mem_sN hm ha, Int.toNat_of_nonneg y0]; exact hy
  · rintro ⟨a, y, ha, h2, hy, h3⟩; refine ⟨a, List.mem_range.2 ha, ?_⟩; have hyl := Ns hm a ha y hy; unfold Ho; rw [Bool.and_eq_true, Kn hm (by omega), List.any_eq_true]; refine ⟨rc_iff.2 h2, (y : Int), (mem_sN hm ha).1 hy, ?_⟩; rw [Ap, Kn hm hyl]; exact rc_iff.2 h3
theorem okAt_all {O : List Nat} (hO : Ord (sN L) 0 O) : (List.range O.length).all (Mc (sN L) O) = !Me L := by
  have h1 := (mayS_iff.1 hm).1; have hd := hO.nodup
  have hinj : ∀ (i j : Nat) (hi : i < O.length) (hj : j < O.length), O[i] = O[j] → i = j := fun i j hi hj e => by
    have h1 := (Ku hd hi).2; rw [e, (Ku hd hj).2] at h1; exact h1.symm
  have hin : ∀ z, z ∈ O ↔ Rch (sN L) 0 z := hO.mem; have hlt : ∀ z ∈ O, z < L.length := fun z hz => rch_lt hm ((hin z).1 hz) (by omega); rw [Bool.eq_iff_iff, all_range, Bool.not_eq_true', ← Bool.not_eq_true, roundC_at hm]
  constructor
  · rintro hall ⟨a, y, ha, h2, hy, h3⟩
    have step : ∀ u v, u ∈ O → v ∈ sN L u → pos O u < pos O v := fun u v hu hv => by
      have hvO : v ∈ O := (hin v).2 (((hin u).1 hu).tail hv); obtain ⟨i, hi, rfl⟩ := List.getElem_of_mem hu; obtain ⟨j, hj, rfl⟩ := List.getElem_of_mem hvO; rw [(Ku hd hi).2, (Ku hd hj).2]; refine Nat.lt_of_not_le fun hji => ?_; have := hall i hi; unfold Mc at this; rw [Bool.not_eq_true', ← Bool.not_eq_true, List.any_eq_true] at this; refine this ⟨O[j], by rw [Ak _ _ _ hi]; exact hv, List.contains_iff_mem.2 ?_⟩; rw [List.mem_take_iff_getElem]; exact ⟨j, by omega, rfl⟩
    have path : ∀ u v, Rch (sN L) u v → u ∈ O → pos O u ≤ pos O v := fun u v h => by
      induction h with
      | refl => intro _; exact Nat.le_refl _
      | @head u w v hw _ ih =>
        intro hu; have h5 := step u w hu hw; have := ih ((hin w).2 (((hin u).1 hu).tail hw)); omega
    have haO : a ∈ O := (hin a).2 h2; have h5 := step a y haO hy; have := path y a h3 ((hin y).2 (((hin a).1 haO).tail hy)); omega
  · intro hno i hi; unfold Mc; rw [Bool.not_eq_true', ← Bool.not_eq_true, List.any_eq_true]; rintro ⟨y, hy, hc⟩; rw [List.contains_iff_mem] at hc; rw [Ak _ _ _ hi] at hy; have hzO : O[i] ∈ O := List.getElem_mem hi; rcases hO.edges _ hzO y hy with ⟨A, B, e, hB⟩ | h
    · obtain ⟨j, hj, hjy⟩ := List.mem_take_iff_getElem.1 hc
      have hjl : j < O.length := by omega
      have hAi : A.length = i := by
        have hA : A.length < O.length := by rw [e]; simp
        have : O[A.length] = O[i] := by
          have h6 : O[A.length]? = some O[i] := by
            conv => lhs; rw [e]
            rw [List.getElem?_append_right (Nat.le_refl _)]; simp
          rw [List.getElem?_eq_getElem hA] at h6; exact OI h6
        exact hinj _ _ hA hi this
      obtain ⟨k, hk, hky⟩ := List.getElem_of_mem hB
      have hkl : A.length + (k + 1) < O.length := by rw [e]; simp; omega
      have h7 : O[A.length + (k + 1)] = y := by
        have h6 : O[A.length + (k + 1)]? = some y := by
          conv => lhs; rw [e]
          rw [List.getElem?_append_right (by omega)]; simp [hk, hky]
        rw [List.getElem?_eq_getElem hkl] at h6; exact OI h6
      have := hinj _ _ hjl hkl (hjy.trans h7.symm); omega
    · exact hno ⟨O[i], y, hlt _ hzO, (hin _).1 hzO, hy, h⟩
end
theorem m_any {l : List Int} {R : List Bool} (hl : l.length ≤ 64) (hin : ∀ x ∈ l, 0 ≤ x ∧ x < 64) : C7 l R = some (l.any fun y => R.getD y.toNat false, R) := by
  have key : ∀ k i : Nat, i + k = l.length → (∀ j, j < i → R.getD (l.getD j 0).toNat false = false) →
      (∃ r : Nat, r < l.length ∧ R.getD (l.getD r 0).toNat false = true ∧ Au (Bj l) ((i : Int), R) = some (.inr ((r : Int), R))) ∨ ((∀ j, j < l.length → R.getD (l.getD j 0).toNat false = false) ∧ Au (Bj l) ((i : Int), R) = some (.inl R)) := by
    intro k
    induction k with
    | zero =>
      intro i hi hj
      obtain rfl : i = l.length := by omega
      refine .inr ⟨hj, Bb ?_⟩; unfold Bj; simp only [Di, cond_false]
    | succ k ih =>
      intro i hi hj; obtain ⟨z0, z1⟩ := hin _ (Ff (d := (0 : Int)) (show i < l.length by omega))
      have hf : Gb (l.getD i 0) R = some (R.getD (l.getD i 0).toNat false, R) := by
        unfold Gb; rw [Ac ⟨z0, z1⟩]
      cases e : R.getD (l.getD i 0).toNat false with
      | true =>
        refine .inl ⟨i, by omega, e, Bb ?_⟩; unfold Bj; simp only [Ca (show i < l.length by omega), cond_true, Ap, hf, Option.bind_some, e]; rw [Ac (De (by omega))]
      | false =>
        have hs : Bj l ((i : Int), R) = some (.next (((i + 1 : Nat) : Int), R)) := by
          unfold Bj; simp only [Ca (show i < l.length by omega), cond_true, Ap, hf, Option.bind_some, e, cond_false]; rw [Ac (De (by omega)), w1 (by omega)]
        rw [B8 hs]
        exact ih (i + 1) (by omega) fun j hj2 => by
          by_cases ej : j = i
          · subst ej; exact e
          · exact hj j (by omega)
  unfold C7 El; rcases key l.length 0 (by omega) (fun j hj => absurd hj (Nat.not_lt_zero _)) with ⟨r, h1, h2, h3⟩ | ⟨h1, h2⟩
  · have : (l.any fun y => R.getD y.toNat false) = true := List.any_eq_true.2 ⟨_, Ff h1, h2⟩; rw [this]
    show Option.bind (Option.bind (Au _ (((0 : Nat) : Int), R)) _) _ = _
    rw [h3]; simp only [Option.bind_some]; rw [decide_eq_true (by omega)]
  · have : (l.any fun y => R.getD y.toNat false) = false := by
      cases hc : (l.any fun y => R.getD y.toNat false) with
      | false => rfl
      | true =>
        obtain ⟨y, hy, e⟩ := List.any_eq_true.1 hc; obtain ⟨i, hi, ei⟩ := List.getElem_of_mem hy; have := h1 i hi; rw [Ak _ _ _ hi, ei, e] at this
        cases this
    rw [this]
    show Option.bind (Option.bind (Au _ (((0 : Nat) : Int), R)) _) _ = _
    rw [h2]
    rfl
def Id (O : List Nat) : Nat → List Bool
  | 0 => List.replicate 64 false
  | i + 1 => Et 64 false (Id O i) (O.getD i 0) true
theorem Uc {O : List Nat} : ∀ i, i ≤ O.length → RelS (Id O i) (fun z => (O.take i).contains z)
  | 0, _ => fun z hz => by rw [Id, Hn]; simp
  | i + 1, h => fun z hz => by
    rw [Id, H2 hz, Uc i (by omega) z hz]
    have e : O.take (i + 1) = O.take i ++ [O.getD i 0] := by rw [List.take_succ_eq_append_getElem (show i < O.length by omega), Ak _ _ _ (show i < O.length by omega)]
    rw [e, Bool.eq_iff_iff]
    by_cases hz' : z = O.getD i 0
    · rw [if_pos hz']; simp [hz']
    · rw [if_neg hz', List.contains_iff_mem, List.contains_iff_mem, List.mem_append, List.mem_singleton]; exact ⟨.inl, fun h => h.resolve_right hz'⟩
theorem Vq (g : TGraph) (h1 : Fits g.Succ) (h2 : Fits g.Pred) : Fa g = some (Yo g) := by
  unfold Fa Yo
  cases hG : H0 g with
  | false =>
    rw [U6 h1 hG, Option.bind_some]
    rfl
  | true =>
    obtain ⟨hm, hg⟩ := Ia hG; obtain ⟨_, h64, hok⟩ := mayS_iff.1 hm; obtain ⟨O, hO, hord, hlt, hlen⟩ := order0 hm; rw [← hg] at hord; have h0 : 0 ∈ O := (hO.mem 0).2 (.refl 0); have hpos : 0 < O.length := List.length_pos_of_mem h0
    have hol : (Hy O).length = O.length := by simp [Hy]
    have hne : ((((Hy O).length : Nat) : Int) == (0 : Int)) = false := beq_eq_false_iff_ne.2 (by rw [hol]; omega)
    have hr : Ik g.Succ [] = Me g.Succ := by unfold Ik; rw [cutL_nil]
    rw [hord, Option.bind_some, hne, cond_false, Bool.true_and, hr, ← okAt_all hm hO]
    have hstep : ∀ i, i < O.length → C3 g (Hy O) ((i : Int), Id O i) = bif Mc (sN g.Succ) O i then some (.next (((i + 1 : Nat) : Int), Id O (i + 1))) else some (.done (.inr false)) := fun i hi => by
      unfold C3; have hz : O[i] < g.Succ.length := hlt _ (List.getElem_mem hi)
      have hd : decide ((i : Int) < (((Hy O).length : Nat) : Int)) = true := by rw [hol]; exact Ca hi
      have hmk : Et 64 false (Id O i) O[i] true = Id O (i + 1) := by rw [Id, Ak _ _ _ hi]
      have hrl : (g.Succ.getD O[i] []).length ≤ 64 := by have := H6 (hok _ hz); omega
      have hsm : ∀ x ∈ g.Succ.getD O[i] [], 0 ≤ x ∧ x < (g.Succ.length : Int) := fun x hx => Ju (hok _ hz) hx
      have hany : ((g.Succ.getD O[i] []).any fun y => (Id O (i + 1)).getD y.toNat false) = !Mc (sN g.Succ) O i := by
        unfold Mc; rw [Bool.not_not, Ak _ _ _ hi]; unfold sN; rw [List.any_map, Bool.eq_iff_iff, List.any_eq_true, List.any_eq_true]; refine exists_congr fun x => and_congr_right fun hx => ?_; obtain ⟨x0, x1⟩ := hsm x hx; rw [Uc (i + 1) hi x.toNat (by omega)]
        rfl
      simp only [hd, cond_true, Ap, ofN_at hi, hmk]; rw [Ac (De (by rw [hol]; exact hi)), Ac (De (show O[i] < 64 by omega)), Ac (De hz), m_any hrl (fun x hx => by have := hsm x hx; omega), Option.bind_some]; simp only [hany]
      cases Mc (sN g.Succ) O i with
      | true => rw [cond_true, Bool.not_true, cond_false, w1 (by omega)]
      | false => rfl
    have hfind := Fl (C3 g (Hy O)) (fun i => (((i : Nat) : Int), Id O i)) (Mc (sN g.Succ) O) (.inl ()) (.inr false) O.length
      (fun i hi hp => by show C3 g (Hy O) ((i : Int), Id O i) = _; rw [hstep i hi, hp]; rfl)
      (fun i hi hp => by show C3 g (Hy O) ((i : Int), Id O i) = _; rw [hstep i hi, hp]; rfl)
      (by
        show C3 g (Hy O) (_, _) = _
        unfold C3; rw [hol]
        simp only [Di, cond_false])
    show Option.bind (Au (C3 g (Hy O)) (((0 : Nat) : Int), Id O 0)) _ = _
    rw [hfind]
    cases (List.range O.length).all (Mc (sN g.Succ) O) <;> rfl
theorem m_has2 (W : List (Int × Int)) (v : Int × Int) (hW : W.length ≤ 5000) : C6 W v = some (!E4 W v.1 v.2) := by
  have key : ∀ k i : Nat, i + k = W.length → (∀ j, j < i → ((W.getD j ((0 : Int), (0 : Int))).1 == v.1 && (W.getD j ((0 : Int), (0 : Int))).2 == v.2) = false) →
      (∃ r : Nat, r < W.length ∧ ((W.getD r ((0 : Int), (0 : Int))).1 == v.1 && (W.getD r ((0 : Int), (0 : Int))).2 == v.2) = true ∧ Au (Bi W v) (i : Int) = some (.inr (r : Int))) ∨
      ((∀ j, j < W.length → ((W.getD j ((0 : Int), (0 : Int))).1 == v.1 && (W.getD j ((0 : Int), (0 : Int))).2 == v.2) = false) ∧ Au (Bi W v) (i : Int) = some (.inl ())) := by
    intro k
    induction k with
    | zero =>
      intro i hi hj
      obtain rfl : i = W.length := by omega
      refine .inr ⟨hj, Bb ?_⟩; unfold Bi; simp only [Di, cond_false]
    | succ k ih =>
      intro i hi hj
      have hcm : ((v.1 == (W.getD i ((0 : Int), (0 : Int))).1) && ((v.2 == (W.getD i ((0 : Int), (0 : Int))).2) && true)) = ((W.getD i ((0 : Int), (0 : Int))).1 == v.1 && (W.getD i ((0 : Int), (0 : Int))).2 == v.2) := by
        rw [Bool.and_true, Bool.eq_iff_iff, Bool.and_eq_true, Bool.and_eq_true, beq_iff_eq, beq_iff_eq, beq_iff_eq, beq_iff_eq]; exact ⟨fun h => ⟨h.1.symm, h.2.symm⟩, fun h => ⟨h.1.symm, h.2.symm⟩⟩
      cases e : ((W.getD i ((0 : Int), (0 : Int))).1 == v.1 && (W.getD i ((0 : Int), (0 : Int))).2 == v.2) with
      | true =>
        refine .inl ⟨i, by omega, e, Bb ?_⟩; unfold Bi; simp only [Ca (show i < W.length by omega), cond_true, Ap, hcm, e]; rw [Ac (De (by omega))]
      | false =>
        have hs : Bi W v (i : Int) = some (.next ((i + 1 : Nat) : Int)) := by
          unfold Bi; simp only [Ca (show i < W.length by omega), cond_true, Ap, hcm, e, cond_false]; rw [Ac (De (by omega)), w1 (by omega)]
        rw [B8 hs]
        exact ih (i + 1) (by omega) fun j hj2 => by
          by_cases ej : j = i
          · subst ej; exact e
          · exact hj j (by omega)
  unfold C6 Ej; rcases key W.length 0 (by omega) (fun j hj => absurd hj (Nat.not_lt_zero _)) with ⟨r, h1, h2, h3⟩ | ⟨h1, h2⟩
  · have : E4 W v.1 v.2 = false := by
      cases hk : E4 W v.1 v.2 with
      | false => rfl
      | true =>
        unfold E4 at hk; have := List.all_eq_true.1 hk _ (Ff (d := ((0 : Int), (0 : Int))) h1); rw [h2] at this
        cases this
    rw [this]
    show Option.bind (Option.bind (Au _ ((0 : Nat) : Int)) _) _ = _
    rw [h3]; simp only [Option.bind_some]; rw [decide_eq_true (by omega)]
    rfl
  · have : E4 W v.1 v.2 = true := by
      unfold E4; refine List.all_eq_true.2 fun p hp => ?_; obtain ⟨i, hi, e⟩ := List.getElem_of_mem hp; have := h1 i hi; rw [Ak _ _ _ hi, e] at this; rw [this]; rfl
    rw [this]
    show Option.bind (Option.bind (Au _ ((0 : Nat) : Int)) _) _ = _
    rw [h2]
    rfl
section
variable {L : List (List Int)} (hm : Fd L = true)
include hm
theorem without_L1 {W : List (Int × Int)} (hW : W.length ≤ 4096) {a : Nat} (ha : a < L.length) (l : List (List Int)) (hl : l.length = L.length) (h0 : l.getD a [] = []) : Au (C4 L W (a : Int)) ((0 : Int), l) = some (l.set a (H1 L W a)) := by
  have hroom : (1000 : Nat) ≤ room := by decide
  obtain ⟨_, h64, hok⟩ := mayS_iff.1 hm
  have hrl : (L.getD a []).length ≤ 64 := by have := H6 (hok a ha); omega
  have hal : a < l.length := by omega
  have hlen : ∀ m, (((L.getD a []).take m).filter (E4 W (a : Int))).length ≤ m := fun m => Nat.le_trans (List.length_filter_le ..) (by simp; omega)
  have e : l.set a (H1 L W a) = l.set a (((L.getD a []).take (L.getD a []).length).filter (E4 W (a : Int))) := by rw [List.take_length]; rfl
  have e0 : l = l.set a (((L.getD a []).take 0).filter (E4 W (a : Int))) := by
    rw [List.take_zero, List.filter_nil]; rw [Ak _ _ _ hal] at h0; rw [← h0]; exact (List.set_getElem_self hal).symm
  have hgo : Au (C4 L W (a : Int)) ((0 : Int), l.set a (((L.getD a []).take 0).filter (E4 W (a : Int)))) = some (l.set a (((L.getD a []).take (L.getD a []).length).filter (E4 W (a : Int)))) := by
    refine Ck (C4 L W (a : Int)) (fun m => (((m : Nat) : Int), l.set a (((L.getD a []).take m).filter (E4 W (a : Int))))) _ (L.getD a []).length (fun m hmm => ?_) ?_
    · show C4 _ _ _ ((m : Int), _) = _
      unfold C4
      have hat : (l.set a (((L.getD a []).take m).filter (E4 W (a : Int)))).getD a [] = ((L.getD a []).take m).filter (E4 W (a : Int)) := by rw [Ak _ _ _ (by simpa using hal)]; simp
      have hil : A3 (a : Int) (l.set a (((L.getD a []).take m).filter (E4 W (a : Int)))).length := De (by simpa using hal); have hl2 := hlen m; have hh := m_has2 W ((a : Int), (L.getD a []).getD m 0) (by omega); simp only [Ap, Ca hmm, cond_true, hh, Option.bind_some, hat, List.set_set, Bool.not_not]
      have hnx : ((L.getD a []).take (m + 1)).filter (E4 W (a : Int)) = ((L.getD a []).take m).filter (E4 W (a : Int)) ++ (if E4 W (a : Int) ((L.getD a []).getD m 0) = true then [(L.getD a []).getD m 0] else []) := by
        rw [List.take_succ_eq_append_getElem hmm, List.filter_append, Ak _ _ _ hmm]; rw [List.filter_cons, List.filter_nil]
      rw [Ac (De hmm), hnx]
      cases E4 W (a : Int) ((L.getD a []).getD m 0) with
      | true => rw [cond_true, Ac hil, Ac hil, Ac (by simp only [List.length_cons, List.length_nil]; omega), Ac hil, Option.bind_some, w1 (by omega), if_pos rfl]
      | false => rw [cond_false, Option.bind_some, w1 (by omega), if_neg (by simp), List.append_nil]
    · show C4 _ _ _ (_, _) = _
      unfold C4; simp only [Ap, Di, cond_false]
  rw [e, ← hgo]; exact congrArg (fun z => Au (C4 L W (a : Int)) ((0 : Int), z)) e0
theorem m_without {W : List (Int × Int)} (hW : W.length ≤ 4096) : G4 L W = some (Nb L W) := by
  have hroom : (1000 : Nat) ≤ room := by decide
  obtain ⟨_, h64, _⟩ := mayS_iff.1 hm
  have e0 : List.replicate L.length ([] : List Int) = (List.range L.length).map fun a => if a < 0 then H1 L W a else [] := by
    refine List.ext_getElem (by simp) fun i g1 g2 => by simp
  have e1 : Nb L W = (List.range L.length).map fun a => if a < L.length then H1 L W a else [] := Dn fun a ha => by rw [if_pos ha]
  have hl : Au (Dz L W) ((0 : Int), List.replicate L.length ([] : List Int)) = some (Nb L W) := by
    rw [e0, e1]; refine Ck (Dz L W) (fun m => (((m : Nat) : Int), (List.range L.length).map fun a => if a < m then H1 L W a else [])) _ L.length (fun m hmm => ?_) ?_
    · show Dz _ _ ((m : Int), _) = _
      unfold Dz; simp only [Ca hmm, cond_true]; rw [Ac (De hmm), without_L1 hm hW hmm _ (by simp) (by rw [Hq hmm, if_neg (by omega)]), Option.bind_some, w1 (by omega), K7]
      congr 3
      refine Dn fun x hx => ?_
      by_cases e : x = m
      · subst e; rw [if_pos rfl, if_pos (by omega)]
      · rw [if_neg e]
        by_cases e2 : x < m
        · rw [if_pos e2, if_pos (by omega)]
        · rw [if_neg e2, if_neg (by omega)]
    · show Dz _ _ (_, _) = _
      unfold Dz; simp only [Di, cond_false]
  unfold G4; rw [Ac ⟨by omega, by omega, by omega⟩, Ap, hl]
  rfl
end
theorem m_prog_red (g : TGraph) (h1 : Fits g.Succ) (h2 : Fits g.Pred) : E1 g = some (redG g) := by
  unfold E1 redG; rw [m_may g h1, Option.bind_some]
  cases hG : H0 g with
  | false => rfl
  | true =>
    obtain ⟨hm, hg⟩ := Ia hG
    have hb : E6 g = some (B3 g.Succ) := by rw [L4 g h1 h2]; unfold Gs; rw [if_pos hG]
    have hW := J0 (mayS_iff.1 hm).2.1; have hc := cutL_may hm (B3 g.Succ); obtain ⟨f1, f2⟩ := Lu hc
    have hf : Yo (Fp (Nb g.Succ (B3 g.Succ))) = !Ik g.Succ (B3 g.Succ) := by
      unfold Yo; rw [Ub hc, Bool.true_and]
      show (!Ik (Nb g.Succ (B3 g.Succ)) []) = _
      unfold Ik; rw [cutL_nil]
    rw [Bool.not_true, cond_false, hb, Option.bind_some, m_without hm hW, Option.bind_some, m_make (Nb g.Succ (B3 g.Succ)) f1, hc, cond_true, Option.bind_some, Vq _ f1 f2, Option.bind_some, hf, Bool.true_and]
theorem facts10 : Te := ⟨L4, Uz, Yf, m_prog_red, Vq⟩
end
end Go.Proofs.Ytjpacggpipflcaa

namespace Go.Proofs.Ytjpacggpipflcaa
noncomputable section
open Go Go.RowKit
end
end Go.Proofs.Ytjpacggpipflcaa

namespace Go.Proofs.Ytjpacggpipflcaa
noncomputable section
open Go Go.RowKit
set_option linter.unusedVariables false
abbrev Iall (w : World) : Nat → Nat → Prop := fun b o => ∃ u, w.cell? ⟨b, o, none⟩ = some u
structure CRep (w : World) (cs : List Value) (avs : List AV) : Prop where
  len : cs.length = avs.length
  one : ∀ j, j < avs.length → (cs.getD j undef).oneCell' = true
  rep : ∀ j, j < avs.length → RepV (Iall w) w (cs.getD j undef) (avs.getD j .any)
structure Va (P : Program) (t : TypeId) {α : Type} (e : α → List AV) (ok : α → Prop) : Prop where
  get : ∀ {H : Type} {enc : TypeId × Value → H} {w : World} {base : Nat} {spare : Nat → Bool} {held : Bool} {fuel : Nat} {cs : List Value} {x : DataW H × List MemPlace},
    DataW.trod enc P w base spare held fuel t cs = some x → ∃ a, ok a ∧ CRep w cs (e a)
theorem Ut {w : World} {v : Value} {x : AV} (h1 : v.oneCell' = true) (h : RepV (Iall w) w v x) : CRep w [v] [x] :=
  ⟨rfl, fun j hj => (by
      have hj0 : j = 0 := by simpa using hj
      subst hj0
      exact h1), fun j hj => (by
      have hj0 : j = 0 := by simpa using hj
      subst hj0
      exact h)⟩
theorem opens_int {P : Program} {t : TypeId} {k : IntKind} {e : Int → List AV} (ht : P.underlying t = some (.int k)) (he : ∀ n, e n = [.int k n]) : Va P t e (fun n => (Lit.int k n).wf = true) := by
  refine ⟨?_⟩; intro H enc w base spare held fuel cs x h; obtain ⟨n, rfl, rfl, hw⟩ := DataW.trod_int ht h; exact ⟨n, hw, by rw [he]; exact Ut rfl (.int _ _)⟩
theorem cells?_get {w : World} {base : Nat} {a : Addr} {n : Nat} {cs : List Value} (h : w.cells? base a n = some cs) : cs.length = n ∧ ∀ i, i < n → w.cell? (a.add i) = some (cs.getD i undef) := by
  unfold World.cells? at h
  split at h
  · have hl := mapM_some_length h; simp at hl; refine ⟨hl, fun i hi => ?_⟩; have := mapM_some_get h i i (by simp [hi]); rw [this]; simp [List.getD, show i < cs.length by omega]
  · cases h
theorem So {P : Program} {t el : TypeId} {α : Type} {e : α → List AV} {ok : α → Prop} {sz : Nat} {d : α} {e' : List α → List AV} (ht : P.underlying t = some (.slice el)) (hs : P.cellsOf el = sz) (h1 : 1 ≤ sz) (he : Va P el e ok) (hlen : ∀ a, (e a).length = sz)
    (he' : ∀ l, e' l = [AV.list sz e d l .none]) : Va P t e' (fun l => (∀ a ∈ l, ok a) ∧ l.length ≤ maxLen) := by
  refine ⟨?_⟩; intro H enc w base spare held fuel cs x h; rcases DataW.trod_slice ht h with ⟨rfl, rfl⟩ | ⟨a, len, cap, elems, rest, n, _, rfl, rfl, hb, hl, hm, hlen2, hel, _⟩
  · exact ⟨[], ⟨by simp, by simp⟩, by rw [he']; exact Ut rfl (.slice none 0 0 sz _ (fun _ => undef) (Nat.le_refl _) (by simp) (fun h => by simp at h) (fun _ => rfl) (fun j hj => by simp at hj) (fun i hi => by simp at hi) (fun i c hi => by simp at hi))⟩
  · have each : ∀ i : Fin len, ∃ b, ok b ∧ ∃ cs, w.cells? base (a.add (i.1 * sz)) sz = some cs ∧ CRep w cs (e b) := fun ⟨i, hi⟩ => by
      have := hel i hi; rw [hs, List.getElem?_eq_getElem (by omega), Option.bind_eq_some_iff] at this; obtain ⟨cs, hcs, htr⟩ := this; obtain ⟨b, hb, hr⟩ := he.get htr; exact ⟨b, hb, cs, hcs, hr⟩
    let f : Fin len → α := fun i => (each i).choose
    have hf : ∀ i, ok (f i) ∧ ∃ cs, w.cells? base (a.add (i.1 * sz)) sz = some cs ∧ CRep w cs (e (f i)) := fun i => (each i).choose_spec
    have hlf : (List.ofFn f).length = len := by simp
    refine ⟨List.ofFn f, ⟨fun b hb => ?_, by simp; omega⟩, ?_⟩
    · obtain ⟨i, rfl⟩ := List.mem_ofFn.1 hb; exact (hf i).1
    rw [he']; refine Ut rfl ?_
    have hcell0 : ∀ i (hi : i < len), ∀ c, c < sz → ∃ u, w.cell? ((a.add (i * sz)).add c) = some u ∧ u.oneCell' = true ∧ RepV (Iall w) w u ((e (f ⟨i, hi⟩)).getD c .any) := fun i hi c hc => by
      obtain ⟨_, cs, hcs, hr⟩ := hf ⟨i, hi⟩; obtain ⟨hl, hg⟩ := cells?_get hcs; exact ⟨_, hg c hc, hr.one c (by rw [hlen]; exact hc), hr.rep c (by rw [hlen]; exact hc)⟩
    have hspot : 0 < len → a.spot = none := fun hp => by
      obtain ⟨u, hu, _⟩ := hcell0 0 hp 0 h1; have h2 := World.cell?_spot hu
      simpa [Addr.add] using h2
    have hcell : ∀ i (hi : i < len), ∀ c, c < sz → ∃ u, w.cell? ⟨a.block, a.off + (i * sz + c), none⟩ = some u ∧ u.oneCell' = true ∧ RepV (Iall w) w u ((e (f ⟨i, hi⟩)).getD c .any) := fun i hi c hc => by
      obtain ⟨u, hu, h1, h2⟩ := hcell0 i hi c hc; have hsp := hspot (by omega); rw [G5 hsp, Addr.add_lit] at hu; exact ⟨u, by rw [← Nat.add_assoc]; exact hu, h1, h2⟩
    have hdm : ∀ j, j < len * sz → ∃ i c, i < len ∧ c < sz ∧ j = i * sz + c := fun j hj => by
      refine ⟨j / sz, j % sz, (Nat.div_lt_iff_lt_mul (by omega)).2 hj, Nat.mod_lt _ (by omega), ?_⟩; rw [Nat.mul_comm]; exact (Nat.div_add_mod j sz).symm
    unfold AV.list; rw [hlf]; refine .slice (some a) len cap sz _ (fun j => (w.cell? ⟨a.block, a.off + j, none⟩).getD undef) hl hm (fun hp => ⟨a, rfl, hspot hp, fun j hj => ?_, fun j hj => ?_⟩) (fun h => by cases h) (fun j hj => ?_) (fun i hi => hlen _) (fun i c hi hc => ?_)
    · obtain ⟨i, c, hi, hc, rfl⟩ := hdm j hj; obtain ⟨u, hu, _⟩ := hcell i hi c hc; exact ⟨u, hu⟩
    · obtain ⟨i, c, hi, hc, rfl⟩ := hdm j hj; obtain ⟨u, hu, _⟩ := hcell i hi c hc; rw [hu]; rfl
    · obtain ⟨i, c, hi, hc, rfl⟩ := hdm j hj; obtain ⟨u, hu, h1, _⟩ := hcell i hi c hc; simp only [hu]; exact h1
    · obtain ⟨u, hu, _, h2⟩ := hcell i hi c hc
      have e1 : (List.ofFn f).getD i d = f ⟨i, hi⟩ := by simp [List.getD, hi]
      rw [e1, hu]; exact h2
structure OpensF (P : Program) (fs : List Field) (off N : Nat) {α : Type} (e : α → List AV) (ok : α → Prop) : Prop where
  get : ∀ {H : Type} {enc : TypeId × Value → H} {w : World} {base : Nat} {spare : Nat → Bool} {held : Bool} {n : Nat} {cs : List Value}, cs.length = N →
    (∀ f ∈ fs, ∃ x, DataW.trod enc P w base spare held n f.type ((cs.drop f.offset).take (P.cellsOf f.type)) = some x) → ∃ a, ok a ∧ CRep w (cs.drop off) (e a)
theorem arg_one {P : Program} {t : TypeId} {α : Type} {e : α → List AV} {ok : α → Prop} (h : Va P t e ok) {x : α → AV} (he : ∀ a, e a = [x a]) {H : Type} {enc : TypeId × Value → H} {w : World} {base : Nat} {spare : Nat → Bool} {held : Bool} {v : Value} {d : DataW H} {ps : List MemPlace}
    (hv : v.cells = #[v]) (hd : DataW.Trod enc P w base spare held t v d ps) : ∃ a, ok a ∧ RepV (Iall w) w v (x a) := by
  obtain ⟨fuel, hf⟩ := hd; obtain ⟨a, ha, hr⟩ := h.get hf; refine ⟨a, ha, ?_⟩; have := hr.rep 0 (by simp [he])
  simpa [hv, he] using this
end
end Go.Proofs.Ytjpacggpipflcaa

namespace Go.Proofs.Ytjpacggpipflcaa
noncomputable section
open Go Go.RowKit
def okI64 (n : Int) : Prop := (Lit.int .i64 n).wf = true
theorem op_3 : Va Try.prog 3 Ae okI64 := opens_int Try.underlying3 (fun _ => rfl)
def okLI64 (l : List (Int)) : Prop := (∀ a ∈ l, okI64 a) ∧ l.length ≤ maxLen
theorem op_36 : Va Try.prog 36 eLI64 okLI64 := So (d := (0 : Int)) Try.underlying36 (by kernel_rfl) (by decide) op_3 (fun _ => rfl) (fun _ => rfl)
def okLLI64 (l : List (List (Int))) : Prop := (∀ a ∈ l, okLI64 a) ∧ l.length ≤ maxLen
theorem op_22 : Va Try.prog 22 eLLI64 okLLI64 := So (d := []) Try.underlying22 (by kernel_rfl) (by decide) op_36 (fun _ => rfl) (fun _ => rfl)
end
end Go.Proofs.Ytjpacggpipflcaa
