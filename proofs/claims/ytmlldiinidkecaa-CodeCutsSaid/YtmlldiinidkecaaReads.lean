/-
  Reading, piece behind piece, till one is wrong: what is read is what was written; what is cut off ends too soon.
-/
import Derived.Test.YtmlldiinidkecaaLoops
namespace Go.Proofs.Ytmlldiinidkecaa
open Go Go.RowKit
set_option linter.unusedVariables false

/-- A reader: what is left of the bytes, what is wrong, what holds of it all the time. -/
structure View (S : Type) where
  left : S → List Int
  bad : S → Int
  good : S → Prop

/-- What reads 'α' as E writes it, of those that P allows. -/
structure Reads {S α : Type} (V : View S) (m : S → Option (α × S)) (E : α → List Int) (P : α → Prop) : Prop where
  sticky : ∀ s, V.good s → V.bad s ≠ 0 → ∃ a s', m s = some (a, s') ∧ V.bad s' = V.bad s ∧ V.good s'
  any : ∀ s, V.good s → V.bad s = 0 → ∃ a s', m s = some (a, s') ∧ V.good s' ∧ (V.bad s' = 0 → P a ∧ V.left s = E a ++ V.left s')
  whole : ∀ s a more, V.good s → V.bad s = 0 → P a → V.left s = E a ++ more → ∃ s', m s = some (a, s') ∧ V.bad s' = 0 ∧ V.left s' = more ∧ V.good s'
  cut : ∀ s a c, V.good s → V.bad s = 0 → P a → c < (E a).length → V.left s = (E a).take c → ∃ a' s', m s = some (a', s') ∧ V.bad s' = 2 ∧ V.good s'

theorem Reads.of_eq {S α : Type} {V : View S} {m n : S → Option (α × S)} {E : α → List Int} {P : α → Prop} (h : Reads V m E P) (e : ∀ s, n s = m s) : Reads V n E P := by
  rw [show n = m from funext e]; exact h

/-- Of all that there is: some answer, some reader. -/
theorem Reads.total {S α : Type} {V : View S} {m : S → Option (α × S)} {E : α → List Int} {P : α → Prop} (h : Reads V m E P) (s : S) (hs : V.good s) : ∃ a s', m s = some (a, s') ∧ V.good s' := by
  by_cases hb : V.bad s = 0
  · obtain ⟨a, s', e, hg, _⟩ := h.any s hs hb; exact ⟨a, s', e, hg⟩
  · obtain ⟨a, s', e, _, hg⟩ := h.sticky s hs hb; exact ⟨a, s', e, hg⟩

/-- One behind the other. -/
theorem Reads.pair {S α β : Type} {V : View S} {m : S → Option (α × S)} {n : S → Option (β × S)} {E : α → List Int} {P : α → Prop} {F : β → List Int} {Q : β → Prop} (h : Reads V m E P) (k : Reads V n F Q) :
    Reads V (fun s => (m s).bind fun x => (n x.2).bind fun y => some ((x.1, y.1), y.2)) (fun p => E p.1 ++ F p.2) (fun p => P p.1 ∧ Q p.2) where
  sticky s hs hb := by
    obtain ⟨a, s', e, hb', hg⟩ := h.sticky s hs hb
    obtain ⟨b, t, e', hb'', hg'⟩ := k.sticky s' hg (by rw [hb']; exact hb)
    refine ⟨(a, b), t, ?_, by rw [hb'', hb'], hg'⟩
    simp only [e, Option.bind_some, e']
  any s hs hb := by
    obtain ⟨a, s', e, hg, hd⟩ := h.any s hs hb
    by_cases hb' : V.bad s' = 0
    · obtain ⟨b, t, e', hg', hd'⟩ := k.any s' hg hb'
      refine ⟨(a, b), t, by simp only [e, Option.bind_some, e'], hg', fun ht => ?_⟩
      obtain ⟨p1, p2⟩ := hd hb'
      obtain ⟨q1, q2⟩ := hd' ht
      exact ⟨⟨p1, q1⟩, by rw [p2, q2, List.append_assoc]⟩
    · obtain ⟨b, t, e', hb'', hg'⟩ := k.sticky s' hg hb'
      exact ⟨(a, b), t, by simp only [e, Option.bind_some, e'], hg', fun ht => absurd (hb'' ▸ ht) hb'⟩
  whole s p more hs hb hp hl := by
    obtain ⟨s', e, hb', hl', hg⟩ := h.whole s p.1 (F p.2 ++ more) hs hb hp.1 (by rw [hl, List.append_assoc])
    obtain ⟨t, e', hb'', hl'', hg'⟩ := k.whole s' p.2 more hg hb' hp.2 hl'
    exact ⟨t, by simp only [e, Option.bind_some, e'], hb'', hl'', hg'⟩
  cut s p c hs hb hp hc hl := by
    by_cases hc1 : c < (E p.1).length
    · obtain ⟨a', s', e, hb', hg⟩ := h.cut s p.1 c hs hb hp.1 hc1 (by rw [hl, List.take_append_of_le_length (by omega)])
      obtain ⟨b, t, e', hb'', hg'⟩ := k.sticky s' hg (by rw [hb']; decide)
      exact ⟨(a', b), t, by simp only [e, Option.bind_some, e'], by rw [hb'', hb'], hg'⟩
    · have el : V.left s = E p.1 ++ (F p.2).take (c - (E p.1).length) := by rw [hl, List.take_append, List.take_of_length_le (by omega)]
      obtain ⟨s', e, hb', hl', hg⟩ := h.whole s p.1 _ hs hb hp.1 el
      obtain ⟨b, t, e', hb'', hg'⟩ := k.cut s' p.2 _ hg hb' hp.2 (by rw [List.length_append] at hc; omega) hl'
      exact ⟨(p.1, b), t, by simp only [e, Option.bind_some, e'], hb'', hg'⟩

/-- What is read, as something else. -/
theorem Reads.map {S α β : Type} {V : View S} {m : S → Option (α × S)} {E : α → List Int} {P : α → Prop} {F : β → List Int} {Q : β → Prop} (h : Reads V m E P) (f : α → β) (g : β → α)
    (hfg : ∀ b, Q b → f (g b) = b) (hP : ∀ b, Q b → P (g b)) (hQ : ∀ a, P a → Q (f a)) (hE : ∀ a, P a → F (f a) = E a) :
    Reads V (fun s => (m s).bind fun x => some (f x.1, x.2)) F Q where
  sticky s hs hb := by
    obtain ⟨a, s', e, hb', hg⟩ := h.sticky s hs hb
    exact ⟨f a, s', by simp only [e, Option.bind_some], hb', hg⟩
  any s hs hb := by
    obtain ⟨a, s', e, hg, hd⟩ := h.any s hs hb
    exact ⟨f a, s', by simp only [e, Option.bind_some], hg, fun ht => ⟨hQ a (hd ht).1, by rw [hE a (hd ht).1]; exact (hd ht).2⟩⟩
  whole s b more hs hb hp hl := by
    have hFg : F b = E (g b) := by rw [← hE (g b) (hP b hp), hfg b hp]
    obtain ⟨s', e, hb', hl', hg⟩ := h.whole s (g b) more hs hb (hP b hp) (by rw [hl, hFg])
    exact ⟨s', by simp only [e, Option.bind_some, hfg b hp], hb', hl', hg⟩
  cut s b c hs hb hp hc hl := by
    have hFg : F b = E (g b) := by rw [← hE (g b) (hP b hp), hfg b hp]
    obtain ⟨a', s', e, hb', hg⟩ := h.cut s (g b) c hs hb (hP b hp) (by rw [← hFg]; exact hc) (by rw [hl, hFg])
    exact ⟨f a', s', by simp only [e, Option.bind_some], hb', hg⟩

/-- So many. -/
def readN {S α : Type} (m : S → Option (α × S)) : Nat → S → Option (List α × S)
  | 0, s => some ([], s)
  | n + 1, s => (m s).bind fun x => (readN m n x.2).bind fun y => some (x.1 :: y.1, y.2)
theorem Reads.many {S α : Type} [Inhabited α] {V : View S} {m : S → Option (α × S)} {E : α → List Int} {P : α → Prop} (h : Reads V m E P) : ∀ n : Nat, Reads V (readN m n) (fun l => (l.map E).flatten) (fun l => l.length = n ∧ ∀ a ∈ l, P a)
  | 0 => by
    refine ⟨fun s hs hb => ⟨[], s, rfl, rfl, hs⟩, fun s hs hb => ⟨[], s, rfl, hs, fun _ => ⟨⟨rfl, fun a ha => by cases ha⟩, rfl⟩⟩, fun s a more hs hb hp hl => ?_, fun s a c hs hb hp hc hl => ?_⟩
    · obtain rfl := List.length_eq_zero_iff.1 hp.1
      exact ⟨s, rfl, hb, hl, hs⟩
    · obtain rfl := List.length_eq_zero_iff.1 hp.1
      exact absurd hc (by simp)
  | n + 1 => by
    refine ((h.pair (Reads.many h n)).map (β := List α) (F := fun l => (l.map E).flatten) (Q := fun l => l.length = n + 1 ∧ ∀ a ∈ l, P a) (fun p => p.1 :: p.2) (fun l => (l.headD default, l.tail)) ?_ ?_ ?_ ?_).of_eq ?_
    · rintro l ⟨hl, _⟩
      cases l with
      | nil => cases hl
      | cons a l => rfl
    · rintro l ⟨hl, hp⟩
      cases l with
      | nil => cases hl
      | cons a l => exact ⟨hp a (by simp), by simpa using hl, fun b hb => hp b (by simp at hb ⊢; exact .inr hb)⟩
    · rintro ⟨a, l⟩ ⟨ha, hl, hp⟩
      exact ⟨by simp [hl], fun b hb => (List.mem_cons.1 hb).elim (fun h => h ▸ ha) (hp b)⟩
    · rintro ⟨a, l⟩ _; simp
    · intro s
      rw [readN]
      simp only [Option.bind_assoc, Option.bind_some]

/-- What is read first tells how the rest is read. -/
theorem Reads.dep {S α β : Type} {V : View S} {m : S → Option (α × S)} {n : α → S → Option (β × S)} {E : α → List Int} {P : α → Prop} {F : β → List Int} {Q : β → Prop} (key : β → α) (h : Reads V m E P) (k : ∀ a, P a → Reads V (n a) F (fun b => Q b ∧ key b = a)) (ks : ∀ a s, V.good s → V.bad s ≠ 0 → ∃ b t, n a s = some (b, t) ∧ V.bad t = V.bad s ∧ V.good t) :
    Reads V (fun s => (m s).bind fun x => n x.1 x.2) (fun b => E (key b) ++ F b) (fun b => P (key b) ∧ Q b) where
  sticky s hs hb := by
    obtain ⟨a, s', e, hb', hg⟩ := h.sticky s hs hb
    obtain ⟨b, t, e', hb'', hg'⟩ := ks a s' hg (by rw [hb']; exact hb)
    exact ⟨b, t, by simp only [e, Option.bind_some, e'], by rw [hb'', hb'], hg'⟩
  any s hs hb := by
    obtain ⟨a, s', e, hg, hd⟩ := h.any s hs hb
    by_cases hb' : V.bad s' = 0
    · obtain ⟨p1, p2⟩ := hd hb'
      obtain ⟨b, t, e', hg', hd'⟩ := (k a p1).any s' hg hb'
      refine ⟨b, t, by simp only [e, Option.bind_some, e'], hg', fun ht => ?_⟩
      obtain ⟨⟨q1, rfl⟩, q2⟩ := hd' ht
      exact ⟨⟨p1, q1⟩, by rw [p2, q2, List.append_assoc]⟩
    · obtain ⟨b, t, e', hb'', hg'⟩ := ks a s' hg hb'
      exact ⟨b, t, by simp only [e, Option.bind_some, e'], hg', fun ht => absurd (hb'' ▸ ht) hb'⟩
  whole s p more hs hb hp hl := by
    obtain ⟨s', e, hb', hl', hg⟩ := h.whole s (key p) (F p ++ more) hs hb hp.1 (by rw [hl, List.append_assoc])
    obtain ⟨t, e', hb'', hl'', hg'⟩ := (k (key p) hp.1).whole s' p more hg hb' ⟨hp.2, rfl⟩ hl'
    exact ⟨t, by simp only [e, Option.bind_some, e'], hb'', hl'', hg'⟩
  cut s p c hs hb hp hc hl := by
    by_cases hc1 : c < (E (key p)).length
    · obtain ⟨a', s', e, hb', hg⟩ := h.cut s (key p) c hs hb hp.1 hc1 (by rw [hl, List.take_append_of_le_length (by omega)])
      obtain ⟨b, t, e', hb'', hg'⟩ := ks a' s' hg (by rw [hb']; decide)
      exact ⟨b, t, by simp only [e, Option.bind_some, e'], by rw [hb'', hb'], hg'⟩
    · have el : V.left s = E (key p) ++ (F p).take (c - (E (key p)).length) := by rw [hl, List.take_append, List.take_of_length_le (by omega)]
      obtain ⟨s', e, hb', hl', hg⟩ := h.whole s (key p) _ hs hb hp.1 el
      obtain ⟨b, t, e', hb'', hg'⟩ := (k (key p) hp.1).cut s' p _ hg hb' ⟨hp.2, rfl⟩ (by rw [List.length_append] at hc; omega) hl'
      exact ⟨b, t, by simp only [e, Option.bind_some, e'], hb'', hg'⟩

/-- The same as another, but for what it answers where something is wrong. -/
def Sim {S α : Type} (V : View S) (m n : S → Option (α × S)) : Prop :=
  ∀ s, V.good s → ∀ a s', m s = some (a, s') → V.good s' → (V.bad s' = 0 → n s = some (a, s')) ∧ (V.bad s' ≠ 0 → ∃ b t, n s = some (b, t) ∧ V.bad t = V.bad s' ∧ V.good t)
theorem Reads.sim {S α : Type} {V : View S} {m n : S → Option (α × S)} {E : α → List Int} {P : α → Prop} (h : Reads V m E P) (k : Sim V m n) : Reads V n E P where
  sticky s hs hb := by
    obtain ⟨a, s', e, hb', hg⟩ := h.sticky s hs hb
    obtain ⟨b, t, q1, q2, q3⟩ := (k s hs a s' e hg).2 (by rw [hb']; exact hb)
    exact ⟨b, t, q1, by rw [q2, hb'], q3⟩
  any s hs hb := by
    obtain ⟨a, s', e, hg, hd⟩ := h.any s hs hb
    obtain ⟨k1, k2⟩ := k s hs a s' e hg
    by_cases hb' : V.bad s' = 0
    · exact ⟨a, s', k1 hb', hg, hd⟩
    · obtain ⟨b, t, q1, q2, q3⟩ := k2 hb'
      exact ⟨b, t, q1, q3, fun ht => absurd (q2 ▸ ht) hb'⟩
  whole s a more hs hb hp hl := by
    obtain ⟨s', e, hb', hl', hg⟩ := h.whole s a more hs hb hp hl
    exact ⟨s', (k s hs a s' e hg).1 hb', hb', hl', hg⟩
  cut s a c hs hb hp hc hl := by
    obtain ⟨a', s', e, hb', hg⟩ := h.cut s a c hs hb hp hc hl
    obtain ⟨b, t, q1, q2, q3⟩ := (k s hs a' s' e hg).2 (by rw [hb']; decide)
    exact ⟨b, t, q1, by rw [q2, hb'], q3⟩

/-- Where something is wrong it stays so. -/
theorem readN_sticky {S α : Type} {V : View S} {m : S → Option (α × S)} {E : α → List Int} {P : α → Prop} (h : Reads V m E P) : ∀ (k : Nat) (s : S), V.good s → V.bad s ≠ 0 → ∃ z t, readN m k s = some (z, t) ∧ V.bad t = V.bad s ∧ V.good t
  | 0, s, hs, hb => ⟨[], s, rfl, rfl, hs⟩
  | k + 1, s, hs, hb => by
    obtain ⟨a, s1, e1, hb1, hg1⟩ := h.sticky s hs hb
    obtain ⟨z, t, e2, hb2, hg2⟩ := readN_sticky h k s1 hg1 (by rw [hb1]; exact hb)
    exact ⟨a :: z, t, by simp only [readN, e1, Option.bind_some, e2], by rw [hb2, hb1], hg2⟩
/-- Rounds that read so many, and leave off where something is wrong. -/
theorem sim_rounds {S α : Type} {V : View S} {m : S → Option (α × S)} {E : α → List Int} {P : α → Prop} (h : Reads V m E P) (n : Nat) (go : List α → Nat → S → Option (List α × S))
    (hend : ∀ l s, V.good s → V.bad s = 0 → l.length = n → go l n s = some (l, s))
    (hnext : ∀ l i s a s', i < n → l.length = i → V.good s → V.bad s = 0 → m s = some (a, s') → V.good s' → V.bad s' = 0 → go l i s = go (l ++ [a]) (i + 1) s')
    (hstop : ∀ l i s a s', i < n → l.length = i → V.good s → V.bad s = 0 → m s = some (a, s') → V.good s' → V.bad s' ≠ 0 → ∃ b t, go l i s = some (b, t) ∧ V.bad t = V.bad s' ∧ V.good t) :
    ∀ (k i : Nat) (l : List α) (s : S), i + k = n → l.length = i → V.good s → V.bad s = 0 → ∀ a s', readN m k s = some (a, s') → V.good s' → (V.bad s' = 0 → go l i s = some (l ++ a, s')) ∧ (V.bad s' ≠ 0 → ∃ b t, go l i s = some (b, t) ∧ V.bad t = V.bad s' ∧ V.good t)
  | 0, i, l, s, hi, hl, hs, hb, a, s', e, hg => by
    obtain rfl : i = n := by omega
    rw [readN] at e
    obtain ⟨rfl, rfl⟩ := Prod.mk.inj (Option.some.inj e)
    exact ⟨fun _ => by rw [List.append_nil]; exact hend l s hs hb hl, fun h => absurd hb h⟩
  | k + 1, i, l, s, hi, hl, hs, hb, a, s', e, hg => by
    rw [readN] at e
    obtain ⟨x, s1, e1, hg1⟩ := h.total s hs
    obtain hb1 | hb1 := Decidable.em (V.bad s1 = 0)
    · rw [e1, Option.bind_some] at e
      cases e2 : readN m k s1 with
      | none => simp [e2] at e
      | some y =>
        simp only [e2, Option.bind_some] at e
        obtain ⟨rfl, rfl⟩ := Prod.mk.inj (Option.some.inj e)
        rw [hnext l i s x s1 (by omega) hl hs hb e1 hg1 hb1]
        have := sim_rounds h n go hend hnext hstop k (i + 1) (l ++ [x]) s1 (by omega) (by simp; omega) hg1 hb1 y.1 y.2 e2 hg
        simpa [List.append_assoc] using this
    · obtain ⟨b, t, q1, q2, q3⟩ := hstop l i s x s1 (by omega) hl hs hb e1 hg1 hb1
      rw [e1, Option.bind_some] at e
      obtain ⟨z, t', e2, hb2, _⟩ := readN_sticky h k s1 hg1 hb1
      simp only [e2, Option.bind_some] at e
      obtain ⟨rfl, rfl⟩ := Prod.mk.inj (Option.some.inj e)
      exact ⟨fun h0 => absurd (hb2 ▸ h0) hb1, fun _ => ⟨b, t, q1, by rw [q2, hb2], q3⟩⟩
end Go.Proofs.Ytmlldiinidkecaa
