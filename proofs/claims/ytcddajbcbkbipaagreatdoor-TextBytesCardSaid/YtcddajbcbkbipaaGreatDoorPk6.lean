/-
  The machine, the program's functions and the laws' arithmetic: part 6 of 6.
-/
import Derived.Test.YtcddajbcbkbipaaGreatDoorPk5
import Derived.FnData
import Derived.LaidMore
import Derived.MakeChecks
import Derived.OpenShut
import Derived.Test.YtcddajbcbkbipaaGreatDoorRows
namespace Go.Proofs.YtcddajbcbkbipaaGreatDoor
open Go Go.RowKit
set_option linter.unusedVariables false
set_option linter.unusedSimpArgs false

/-- A reader of words: what is left; that all is well; that something is wrong, and it can be asked so many times more. -/
structure VW (S : Type) where
  left : S → List Word
  fine : S → Prop
  spent : Nat → S → Prop
  mono : ∀ k j s, spent (k + j) s → spent k s
def lotsW : Nat := 1000000
/-- What reads 'α' as E writes it, of those that P allows, where what stands behind is as Q says. -/
structure RdH {S α : Type} (V : VW S) (H : List Word → Prop) (m : S → Option (α × S)) (E : α → List Word) (P : α → Prop) (Q : List Word → Prop) (c : Nat) : Prop where
  sticky : ∀ k s, V.spent (k + c) s → ∃ a s', m s = some (a, s') ∧ V.spent k s'
  any : ∀ s, V.fine s → H (V.left s) → ∃ a s', m s = some (a, s') ∧ ((V.fine s' ∧ P a ∧ Q (V.left s') ∧ V.left s = E a ++ V.left s') ∨ ∀ k, k + c ≤ lotsW → V.spent k s')
  whole : ∀ s a more, V.fine s → P a → Q more → V.left s = E a ++ more → ∃ s', m s = some (a, s') ∧ V.fine s' ∧ V.left s' = more
def anyW (_ : List Word) : Prop := True
/-- Wherever it stands. -/
abbrev Rd {S α : Type} (V : VW S) (m : S → Option (α × S)) (E : α → List Word) (P : α → Prop) (Q : List Word → Prop) (c : Nat) : Prop := RdH V anyW m E P Q c

theorem RdH.of_eq {S α : Type} {V : VW S} {H : List Word → Prop} {m n : S → Option (α × S)} {E : α → List Word} {P : α → Prop} {Q : List Word → Prop} {c : Nat} (h : RdH V H m E P Q c) (e : ∀ s, n s = m s) : RdH V H n E P Q c := by
  rw [show n = m from funext e]; exact h
theorem RdH.pre {S α : Type} {V : VW S} {H H' : List Word → Prop} {m : S → Option (α × S)} {E : α → List Word} {P : α → Prop} {Q : List Word → Prop} {c : Nat} (h : RdH V H m E P Q c) (hH : ∀ l, H' l → H l) : RdH V H' m E P Q c :=
  ⟨h.sticky, fun s hs hh => h.any s hs (hH _ hh), h.whole⟩
theorem RdH.of_on {S α : Type} {V : VW S} {H : List Word → Prop} {m n : S → Option (α × S)} {E : α → List Word} {P : α → Prop} {Q : List Word → Prop} {c : Nat} (h : RdH V H m E P Q c) (hH : ∀ a more, P a → H (E a ++ more)) (e : ∀ s, ((V.fine s ∧ H (V.left s)) ∨ V.spent c s) → n s = m s) : RdH V H n E P Q c where
  sticky k s hs := by rw [e s (.inr (V.mono c k s (by rw [Nat.add_comm]; exact hs)))]; exact h.sticky k s hs
  any s hs hh := by rw [e s (.inl ⟨hs, hh⟩)]; exact h.any s hs hh
  whole s a more hs hp hq hl := by rw [e s (.inl ⟨hs, by rw [hl]; exact hH a more hp⟩)]; exact h.whole s a more hs hp hq hl
theorem RdH.reach {S α : Type} {V : VW S} {H : List Word → Prop} {m : S → Option (α × S)} {E : α → List Word} {P : α → Prop} {Q : List Word → Prop} {c : Nat} (h : RdH V H m E P Q c) (hc : c ≤ lotsW) (k : Nat) (hk : k + c ≤ lotsW) {s : S} (hs : (V.fine s ∧ H (V.left s)) ∨ V.spent (k + c) s) : ∃ a s', m s = some (a, s') ∧ (V.fine s' ∨ V.spent k s') := by
  rcases hs with ⟨hs, hh⟩ | hs
  · obtain ⟨a, s', e, hd⟩ := h.any s hs hh
    exact ⟨a, s', e, hd.elim (fun h => .inl h.1) fun h => .inr (h k hk)⟩
  · obtain ⟨a, s', e, hs'⟩ := h.sticky k s hs
    exact ⟨a, s', e, .inr hs'⟩
theorem RdH.pair {S α β : Type} {V : VW S} {H : List Word → Prop} {m : S → Option (α × S)} {n : S → Option (β × S)} {E : α → List Word} {P : α → Prop} {Q : List Word → Prop} {F : β → List Word} {P' : β → Prop} {Q' : List Word → Prop} {c d : Nat} (h : RdH V H m E P Q c) (k : Rd V n F P' Q' d)
    (hQ : ∀ b more, P' b → Q' more → Q (F b ++ more)) (hcd : c + d ≤ lotsW := by decide) : RdH V H (fun s => (m s).bind fun x => (n x.2).bind fun y => some ((x.1, y.1), y.2)) (fun p => E p.1 ++ F p.2) (fun p => P p.1 ∧ P' p.2) Q' (c + d) where
  sticky j s hs := by
    obtain ⟨a, s', e, hs'⟩ := h.sticky (j + d) s (by rw [show j + d + c = j + (c + d) by omega]; exact hs)
    obtain ⟨b, t, e', ht⟩ := k.sticky j s' hs'
    exact ⟨(a, b), t, by simp only [e, Option.bind_some, e'], ht⟩
  any s hs hH := by
    obtain ⟨a, s', e, hd⟩ := h.any s hs hH
    rcases hd with ⟨hf, hp, hq, hl⟩ | hd
    · obtain ⟨b, t, e', hd'⟩ := k.any s' hf trivial
      refine ⟨(a, b), t, by simp only [e, Option.bind_some, e'], ?_⟩
      rcases hd' with ⟨hf', hp', hq', hl'⟩ | hd'
      · exact .inl ⟨hf', ⟨hp, hp'⟩, hq', by rw [hl, hl', List.append_assoc]⟩
      · exact .inr fun j hj => hd' j (by omega)
    · obtain ⟨b, t, e', ht⟩ := k.sticky 0 s' (hd (0 + d) (by omega))
      refine ⟨(a, b), t, by simp only [e, Option.bind_some, e'], .inr fun j hj => ?_⟩
      obtain ⟨b', t', e'', ht'⟩ := k.sticky j s' (hd (j + d) (by omega))
      rw [e'] at e''
      obtain ⟨_, rfl⟩ := Prod.mk.inj (Option.some.inj e'')
      exact ht'
  whole s p more hs hp hq hl := by
    obtain ⟨s', e, hf, hl'⟩ := h.whole s p.1 (F p.2 ++ more) hs hp.1 (hQ p.2 more hp.2 hq) (by rw [hl, List.append_assoc])
    obtain ⟨t, e', hf', hl''⟩ := k.whole s' p.2 more hf hp.2 hq hl'
    exact ⟨t, by simp only [e, Option.bind_some, e'], hf', hl''⟩
/-- What is read, as something else. -/
theorem RdH.map {S α β : Type} {V : VW S} {H : List Word → Prop} {m : S → Option (α × S)} {E : α → List Word} {P : α → Prop} {Q : List Word → Prop} {c : Nat} {F : β → List Word} {P' : β → Prop} (h : RdH V H m E P Q c) (f : α → β) (g : β → α)
    (hfg : ∀ b, P' b → f (g b) = b) (hP : ∀ b, P' b → P (g b)) (hP' : ∀ a, P a → P' (f a)) (hE : ∀ a, P a → F (f a) = E a) : RdH V H (fun s => (m s).bind fun x => some (f x.1, x.2)) F P' Q c where
  sticky k s hs := by
    obtain ⟨a, s', e, hs'⟩ := h.sticky k s hs
    exact ⟨f a, s', by simp only [e, Option.bind_some], hs'⟩
  any s hs hH := by
    obtain ⟨a, s', e, hd⟩ := h.any s hs hH
    refine ⟨f a, s', by simp only [e, Option.bind_some], ?_⟩
    rcases hd with ⟨hf, hp, hq, hl⟩ | hd
    · exact .inl ⟨hf, hP' a hp, hq, by rw [hE a hp, hl]⟩
    · exact .inr hd
  whole s b more hs hp hq hl := by
    have hFg : F b = E (g b) := by rw [← hE (g b) (hP b hp), hfg b hp]
    obtain ⟨s', e, hf, hl'⟩ := h.whole s (g b) more hs (hP b hp) hq (by rw [hl, hFg])
    exact ⟨s', by simp only [e, Option.bind_some, hfg b hp], hf, hl'⟩
/-- As many as there are, told by what stands ahead: 'go' is how the rounds go on. -/
theorem RdH.star {S α : Type} {V : VW S} {m : S → Option (α × S)} {E : α → List Word} {P : α → Prop} {Q : List Word → Prop} {c : Nat} (head : List Word → Bool) (h : RdH V (fun l => head l = true) m E P Q c) (hc : c ≤ lotsW) (N : Nat) (Q' : List Word → Prop) (go : List α → S → Option (List α × S))
    (hN : ∀ s, V.fine s → (V.left s).length ≤ N)
    (hne : ∀ a, P a → 0 < (E a).length) (hhead : ∀ a more, P a → head (E a ++ more) = true) (hQ : ∀ (l : List α) more, (∀ a ∈ l, P a) → Q' more → Q ((l.map E).flatten ++ more)) (hQ' : ∀ more, Q' more → head more = false) (hQ'' : ∀ s, V.fine s → head (V.left s) = false → Q' (V.left s))
    (hstop : ∀ l s, V.fine s → head (V.left s) = false → go l s = some (l, s)) (hspent : ∀ k l s, V.spent k s → ∃ l' s', go l s = some (l', s') ∧ V.spent k s')
    (hgo : ∀ l s a s', V.fine s → head (V.left s) = true → m s = some (a, s') → (V.fine s' ∨ V.spent 0 s') → l.length ≤ N → go l s = go (l ++ [a]) s') :
    Rd V (go []) (fun l => (l.map E).flatten) (fun l => ∀ a ∈ l, P a) Q' c := by
  have key : ∀ (n : Nat) (l : List α) (s : S), (V.left s).length = n → l.length + n ≤ N → V.fine s → ∃ l' s', go l s = some (l ++ l', s') ∧ ((V.fine s' ∧ (∀ a ∈ l', P a) ∧ Q' (V.left s') ∧ V.left s = (l'.map E).flatten ++ V.left s') ∨ ∀ k, k + c ≤ lotsW → V.spent k s') ∨ ∃ l' s', go l s = some (l', s') ∧ ∀ k, k + c ≤ lotsW → V.spent k s' := by
    intro n
    induction n using Nat.strongRecOn with
    | _ n ih =>
      intro l s hn hl hs
      cases hh : head (V.left s) with
      | false => exact ⟨[], s, .inl ⟨by rw [hstop l s hs hh, List.append_nil], .inl ⟨hs, by simp, hQ'' s hs hh, by simp⟩⟩⟩
      | true =>
        obtain ⟨a, s', e, hd⟩ := h.any s hs hh
        have hg := hgo l s a s' hs hh e (hd.elim (fun h => .inl h.1) fun h => .inr (h 0 (by omega))) (by omega)
        rcases hd with ⟨hf, hp, hq, hle⟩ | hd
        · have hlt : (V.left s').length < n := by
            have := congrArg List.length hle
            rw [List.length_append] at this
            have := hne a hp
            omega
          obtain ⟨l', t, hr⟩ := ih _ hlt (l ++ [a]) s' rfl (by rw [List.length_append, List.length_singleton]; omega) hf
          rcases hr with ⟨e1, hd⟩ | ⟨l'', t'', e1, hd⟩
          · refine ⟨a :: l', t, .inl ⟨by rw [hg, e1]; simp, ?_⟩⟩
            rcases hd with ⟨f1, f2, f3, f4⟩ | hd
            · exact .inl ⟨f1, fun b hb => (List.mem_cons.1 hb).elim (fun h => h ▸ hp) (f2 b), f3, by rw [hle, f4]; simp⟩
            · exact .inr hd
          · exact ⟨[], t'', .inr ⟨l'', t'', by rw [hg, e1], hd⟩⟩
        · obtain ⟨l', t, e1, ht⟩ := hspent (lotsW - c) (l ++ [a]) s' (hd _ (by omega))
          refine ⟨[], t, .inr ⟨l', t, by rw [hg, e1], fun k hk => ?_⟩⟩
          obtain ⟨l2, t2, e2, ht2⟩ := hspent k (l ++ [a]) s' (hd _ hk)
          rw [e1] at e2
          obtain ⟨_, rfl⟩ := Prod.mk.inj (Option.some.inj e2)
          exact ht2
  have key2 : ∀ (l' l : List α) (s : S) (more : List Word), V.fine s → (∀ a ∈ l', P a) → Q' more → V.left s = (l'.map E).flatten ++ more → l.length + l'.length ≤ N → ∃ s', go l s = some (l ++ l', s') ∧ V.fine s' ∧ V.left s' = more := by
    intro l'
    induction l' with
    | nil =>
      intro l s more hs hp hq hle hl
      have e : V.left s = more := by simpa using hle
      exact ⟨s, by rw [hstop l s hs (by rw [e]; exact hQ' more hq), List.append_nil], hs, e⟩
    | cons a l' ih =>
      intro l s more hs hp hq hle hl
      have hle2 : V.left s = E a ++ ((l'.map E).flatten ++ more) := by rw [hle]; simp
      have ha := hp a (by simp)
      obtain ⟨s', e, hf, hl'⟩ := h.whole s a _ hs ha (hQ l' more (fun b hb => hp b (by simp [hb])) hq) hle2
      simp only [List.length_cons] at hl
      have hg := hgo l s a s' hs (by rw [hle2]; exact hhead a _ ha) e (.inl hf) (by omega)
      obtain ⟨t, e1, f1, f2⟩ := ih (l ++ [a]) s' more hf (fun b hb => hp b (by simp [hb])) hq hl' (by rw [List.length_append, List.length_singleton]; omega)
      exact ⟨t, by rw [hg, e1]; simp, f1, f2⟩
  refine ⟨fun k s hs => ?_, fun s hs _ => ?_, fun s l more hs hp hq hl => ?_⟩
  · exact hspent k [] s (V.mono k c s hs)
  · obtain ⟨l', s', hr⟩ := key _ [] s rfl (by have := hN s hs; simpa using this) hs
    rcases hr with ⟨e, hd⟩ | ⟨l'', s'', e, hd⟩
    · exact ⟨l', s', by simpa using e, hd⟩
    · exact ⟨l'', s'', e, .inr hd⟩
  · have hlen : l.length ≤ (V.left s).length := by
      rw [hl, List.length_append]
      have : ∀ l : List α, (∀ a ∈ l, P a) → l.length ≤ ((l.map E).flatten).length := fun l => by
        induction l with
        | nil => simp
        | cons a l ih =>
          intro h
          have h1 := hne a (h a (by simp))
          have h2 := ih fun b hb => h b (by simp [hb])
          rw [List.map_cons, List.flatten_cons, List.length_append, List.length_cons]
          omega
      have := this l hp
      omega
    obtain ⟨t, e, f1, f2⟩ := key2 l [] s more hs hp hq hl (by have := hN s hs; simp only [List.length_nil]; omega)
    exact ⟨t, by simpa using e, f1, f2⟩
end Go.Proofs.YtcddajbcbkbipaaGreatDoor

namespace Go.Proofs.YtcddajbcbkbipaaGreatDoor
open Go Go.RowKit
set_option linter.unusedVariables false
set_option linter.unusedSimpArgs false

def parseD : List Int → Nat → Option Nat
  | [], acc => some acc
  | x :: w, acc => if 48 ≤ x ∧ x ≤ 57 ∧ acc * 10 + (x - 48).toNat < 18446744073709551616 then parseD w (acc * 10 + (x - 48).toNat) else none
theorem parseD_app (a b : List Int) (acc : Nat) : parseD (a ++ b) acc = (parseD a acc).bind fun n => parseD b n := by
  induction a generalizing acc with
  | nil => rfl
  | cons x a ih =>
    simp only [List.cons_append, parseD]
    split
    · exact ih _
    · rfl
theorem parseD_dig (n : Nat) (hn : n < 18446744073709551616) : parseD (digN n) 0 = some n := by
  induction n using Nat.strongRecOn with
  | _ n ih =>
    by_cases h : n < 10
    · rw [digN_lt h, parseD, if_pos ⟨by omega, by omega, by omega⟩, parseD]
      congr 1
      omega
    · rw [digN_ge h, parseD_app, ih (n / 10) (by omega) (by omega), Option.bind_some, parseD, if_pos ⟨by omega, by omega, by omega⟩, parseD]
      congr 1
      omega
theorem digN_head : ∀ (n : Nat), 1 ≤ n → (digN n).headD 0 ≠ 48 := by
  intro n
  induction n using Nat.strongRecOn with
  | _ n ih =>
    intro hn
    by_cases h : n < 10
    · rw [digN_lt h]
      simp only [List.headD_cons]
      omega
    · have := ih (n / 10) (by omega) (by omega)
      rw [digN_ge h]
      cases hd : digN (n / 10) with
      | nil => exact absurd hd (digN_ne _)
      | cons x l => rw [hd] at this; simpa using this
/-- The number that a word is. -/
def numV (w : Word) : Option Nat := if w = [] ∨ 20 < w.length ∨ (1 < w.length ∧ w.headD 0 = 48) then none else parseD w 0
theorem numV_dig (n : Nat) (hn : n < 18446744073709551616) : numV (digN n) = some n := by
  have h20 := digN_len20 (n := n) (by rw [two64]; exact hn)
  unfold numV
  rw [if_neg, parseD_dig n hn]
  rintro (h | h | ⟨h1, h2⟩)
  · exact digN_ne _ h
  · omega
  · by_cases h : n < 10
    · rw [digN_lt h] at h1; simp at h1
    · exact digN_head n (by omega) h2
theorem parseD_inv : ∀ (k : Nat) (w : List Int) (n : Nat), w.length = k → w ≠ [] → (1 < w.length → w.headD 0 ≠ 48) → parseD w 0 = some n → w = digN n
  | 0, w, n, hk, hne, _, _ => absurd (List.length_eq_zero_iff.1 hk) hne
  | k + 1, w, n, hk, hne, hh, hp => by
    obtain ⟨v, x, rfl⟩ : ∃ v x, w = v ++ [x] := ⟨w.dropLast, w.getLast hne, (List.dropLast_concat_getLast hne).symm⟩
    rw [List.length_append, List.length_singleton] at hk hh
    rw [parseD_app] at hp
    cases hv : parseD v 0 with
    | none => rw [hv] at hp; cases hp
    | some m =>
      rw [hv, Option.bind_some, parseD] at hp
      split at hp
      · rename_i hx
        rw [parseD] at hp
        obtain rfl := Option.some.inj hp
        by_cases hv0 : v = []
        · subst hv0
          rw [parseD] at hv
          obtain rfl := Option.some.inj hv
          rw [digN_lt (by omega)]
          simp only [List.nil_append, List.cons.injEq, and_true]
          omega
        · have hvl := List.length_pos_iff.2 hv0
          have hhead : v.headD 0 ≠ 48 := by
            have := hh (by omega)
            cases v with
            | nil => exact absurd rfl hv0
            | cons y v => simpa using this
          have e := parseD_inv k v m (by omega) hv0 (fun _ => hhead) hv
          have hm : 1 ≤ m := by
            rcases Nat.eq_zero_or_pos m with rfl | h
            · rw [e, digN_lt (by omega)] at hhead
              exact absurd rfl hhead
            · exact h
          rw [digN_ge (by omega), show (m * 10 + (x - 48).toNat) / 10 = m by omega, ← e, show ((48 + (m * 10 + (x - 48).toNat) % 10 : Nat) : Int) = x by omega]
      · cases hp
theorem parseD_lt : ∀ (w : List Int) (acc n : Nat), acc < 18446744073709551616 → parseD w acc = some n → n < 18446744073709551616
  | [], acc, n, h, hp => by rw [parseD] at hp; obtain rfl := Option.some.inj hp; exact h
  | x :: w, acc, n, h, hp => by
    rw [parseD] at hp
    split at hp
    · rename_i hx; exact parseD_lt w _ n hx.2.2 hp
    · cases hp
theorem numV_inv {w : Word} {n : Nat} (h : numV w = some n) : w = digN n ∧ n < 18446744073709551616 := by
  unfold numV at h
  split at h
  · cases h
  · rename_i hc
    simp only [not_or, not_and] at hc
    exact ⟨parseD_inv w.length w n rfl hc.1 hc.2.2 h, parseD_lt w 0 n (by omega) h⟩

/-! ### Names -/
def findI : List Word → Word → Nat → Int
  | [], _, _ => -1
  | x :: l, s, i => if x = s then (i : Int) else findI l s (i + 1)
theorem findI_ge : ∀ (l : List Word) (s : Word) (i : Nat), findI l s i = -1 ∨ ∃ j : Nat, j < l.length ∧ findI l s i = ((i + j : Nat) : Int) ∧ l.getD j [] = s
  | [], s, i => .inl rfl
  | x :: l, s, i => by
    unfold findI
    split
    · rename_i h; exact .inr ⟨0, by simp, by simp, by simpa using h⟩
    · rcases findI_ge l s (i + 1) with h | ⟨j, h1, h2, h3⟩
      · exact .inl h
      · exact .inr ⟨j + 1, by simpa using h1, by rw [h2]; omega, by simpa using h3⟩
theorem findI_at : ∀ (l : List Word) (i j : Nat), l.Nodup → j < l.length → findI l (l.getD j []) i = ((i + j : Nat) : Int)
  | [], i, j, _, h => absurd h (by simp)
  | x :: l, i, 0, _, _ => by simp [findI]
  | x :: l, i, j + 1, hn, h => by
    have hj : j < l.length := by simpa using h
    obtain ⟨h1, h2⟩ := List.nodup_cons.1 hn
    have : x ≠ l.getD j [] := fun e => h1 (e ▸ getD_mem hj)
    have e : (x :: l).getD (j + 1) [] = l.getD j [] := by simp
    rw [e, findI, if_neg this, findI_at l (i + 1) j h2 hj]
    omega
def findF (l : List Word) (s : Word) : Int := findI l s 0
theorem kinds_nodup : kindsW.Nodup := by decide
theorem ends_nodup : endsW.Nodup := by decide
theorem findK_name {k : Int} (h : 0 ≤ k ∧ k < 23) : findF kindsW (nameK k) = k := by
  have := findI_at kindsW 0 k.toNat kinds_nodup (by rw [show kindsW.length = 23 from rfl]; omega)
  unfold findF nameK
  rw [this]; omega
theorem findE_name {k : Int} (h : 0 ≤ k ∧ k < 4) : findF endsW (nameE k) = k := by
  have := findI_at endsW 0 k.toNat ends_nodup (by rw [show endsW.length = 4 from rfl]; omega)
  unfold findF nameE
  rw [this]; omega
theorem findK_inv (w : Word) : findF kindsW w = -1 ∨ ((0 ≤ findF kindsW w ∧ findF kindsW w < 23) ∧ nameK (findF kindsW w) = w) := by
  rcases findI_ge kindsW w 0 with h | ⟨j, h1, h2, h3⟩
  · exact .inl h
  · rw [show kindsW.length = 23 from rfl] at h1
    right
    unfold findF nameK
    rw [h2]
    refine ⟨⟨by omega, by omega⟩, ?_⟩
    rw [Int.toNat_natCast, Nat.zero_add]
    exact h3
theorem findE_inv (w : Word) : findF endsW w = -1 ∨ ((0 ≤ findF endsW w ∧ findF endsW w < 4) ∧ nameE (findF endsW w) = w) := by
  rcases findI_ge endsW w 0 with h | ⟨j, h1, h2, h3⟩
  · exact .inl h
  · rw [show endsW.length = 4 from rfl] at h1
    right
    unfold findF nameE
    rw [h2]
    refine ⟨⟨by omega, by omega⟩, ?_⟩
    rw [Int.toNat_natCast, Nat.zero_add]
    exact h3
/-- Kind. -/
def kindF (s : Word) : Int × Bool := if findF kindsW s = -1 then (0, false) else (findF kindsW s, true)
end Go.Proofs.YtcddajbcbkbipaaGreatDoor

namespace Go.Proofs.YtcddajbcbkbipaaGreatDoor
open Go Go.RowKit
set_option linter.unusedVariables false
set_option linter.unusedSimpArgs false

/-! ### Numbers -/
def oneW (x : Int) : List Word := [dg x]
/-! ### Lists -/
def headL (l : List Word) : Bool := !(l.headD [] == [41])
theorem items_flat (l : List Int) : (l.map oneW).flatten = l.map dg := by
  induction l with
  | nil => rfl
  | cons x l ih => rw [List.map_cons, List.flatten_cons, ih, List.map_cons]; rfl
end Go.Proofs.YtcddajbcbkbipaaGreatDoor

namespace Go.Proofs.YtcddajbcbkbipaaGreatDoor
open Go Go.RowKit
set_option linter.unusedVariables false
set_option linter.unusedSimpArgs false

def numsP (l : List Int) : Prop := ∀ a ∈ l, isNum a
def phiP (p : TPhi) : Prop := isNum p.Bits ∧ isNum p.Dst ∧ numsP p.From ∧ numsP p.Args
def opP (o : TOp) : Prop := (0 ≤ o.Kind ∧ o.Kind < 23) ∧ isNum o.Bits ∧ isNum o.Lanes ∧ isNum o.Dst ∧ numsP o.Args ∧ wideP o.Imm
def endP (e : TEnd) : Prop := (0 ≤ e.Kind ∧ e.Kind < 4) ∧ isNum e.Arg ∧ numsP e.To
def blockP (b : TBlock) : Prop := (∀ p ∈ b.Phis, phiP p) ∧ (∀ o ∈ b.Ops, opP o) ∧ endP b.End
def funcP (f : TFunc) : Prop := numsP f.Params ∧ isNum f.Ret ∧ ∀ b ∈ f.Blocks, blockP b

/-! ### Phis -/
def headP (l : List Word) : Bool := l.headD [] == phiT
/-! ### Operations -/
def opT (o : TOp) : List Word := dg o.Bits :: dg o.Lanes :: dg o.Dst :: (listW o.Args ++ [dg o.Imm])
theorem wide_le {x : Int} (h : wideP x) : 0 ≤ x ∧ x ≤ 18446744073709551615 := ⟨h.1, by have := h.2; omega⟩
theorem le_wide {x : Int} (h : 0 ≤ x ∧ x ≤ 18446744073709551615) : wideP x := ⟨h.1, by have := h.2; omega⟩
def headO (l : List Word) : Bool := decide (0 ≤ findF kindsW (l.headD []))
theorem headO_name {k : Int} (hk : 0 ≤ k ∧ k < 23) (l : List Word) : headO (nameK k :: l) = true := by
  unfold headO
  rw [List.headD_cons, findK_name hk]
  exact decide_eq_true hk.1
/-! ### Ends, blocks -/
theorem names_apart : ∀ w ∈ endsW, findF kindsW w = -1 ∧ w ≠ phiT := by decide
theorem headP_kind {k : Int} (hk : 0 ≤ k ∧ k < 23) (l : List Word) : headP (nameK k :: l) = false := by
  have h : ∀ w ∈ kindsW, (w == phiT) = false := by decide
  exact h _ (nameK_mem hk)
end Go.Proofs.YtcddajbcbkbipaaGreatDoor

namespace Go.Proofs.YtcddajbcbkbipaaGreatDoor
open Go Go.RowKit
set_option linter.unusedVariables false
set_option linter.unusedSimpArgs false

/-- Such a function as has a text. -/
structure OkT (f : TFunc) : Prop where
  may : mayF f = true
  named : Named f
  imm : ∀ b ∈ f.Blocks, ∀ o ∈ b.Ops, wideP o.Imm
/-- What Parse is to answer of words. -/
def ParseAns (w : List Word) (r : TFunc × Int) : Prop := (∃ f, OkT f ∧ w = funcW f ∧ r = (f, 0)) ∨ ((∀ f, OkT f → w ≠ funcW f) ∧ r = (noF, 3))
theorem numsP_of {l : List Int} (h : listB l = true) : numsP l := (listB_iff.1 h).1
theorem phiP_of {p : TPhi} (h : phiB p = true) : phiP p := by
  simp only [phiB, Bool.and_eq_true] at h
  exact ⟨numB_iff.1 h.1.1.1, numB_iff.1 h.1.1.2, numsP_of h.1.2, numsP_of h.2⟩
theorem opP_of {o : TOp} (h : opB o = true) (hk : 0 ≤ o.Kind ∧ o.Kind < 23) (hi : wideP o.Imm) : opP o := by
  simp only [opB, Bool.and_eq_true] at h
  exact ⟨hk, numB_iff.1 h.1.1.1.2, numB_iff.1 h.1.1.2, numB_iff.1 h.1.2, numsP_of h.2, hi⟩
theorem endP_of {e : TEnd} (h : endB e = true) (hk : 0 ≤ e.Kind ∧ e.Kind < 4) : endP e := by
  simp only [endB, Bool.and_eq_true] at h
  exact ⟨hk, numB_iff.1 h.1.2, numsP_of h.2⟩
theorem OkT.parts {f : TFunc} (h : OkT f) : funcP f := by
  obtain ⟨_, _, _, h4, h5, _, h7⟩ := may_parts h.may
  refine ⟨numsP_of h4, numB_iff.1 h5, fun b hb => ?_⟩
  obtain ⟨b1, b2, b3⟩ := blockB_iff.1 (h7 b hb)
  exact ⟨fun p hp => phiP_of (b1 p hp), fun o ho => opP_of (b2 o ho) (h.named.op b hb o ho) (h.imm b hb o ho), endP_of b3 (h.named.en b hb)⟩
theorem okT_of {f : TFunc} (h : funcP f) (hm : mayF f = true) : OkT f :=
  ⟨hm, ⟨fun b hb o ho => ((h.2.2 b hb).2.1 o ho).1, fun b hb => (h.2.2 b hb).2.2.1⟩, fun b hb o ho => ((h.2.2 b hb).2.1 o ho).2.2.2.2.2⟩
theorem mem_flat {α β : Type} {l : List α} {E : α → List β} {a : α} (h : a ∈ l) : (E a).length ≤ (l.map E).flatten.length := by
  induction l with
  | nil => cases h
  | cons b l ih =>
    rw [List.map_cons, List.flatten_cons, List.length_append]
    rcases List.mem_cons.1 h with rfl | h
    · omega
    · have := ih h; omega
theorem len_flat {α β : Type} {l : List α} {E : α → List β} (h : ∀ a ∈ l, 1 ≤ (E a).length) : l.length ≤ (l.map E).flatten.length := by
  induction l with
  | nil => simp
  | cons b l ih =>
    have h1 := h b (by simp)
    have h2 := ih fun a ha => h a (by simp [ha])
    rw [List.map_cons, List.flatten_cons, List.length_append, List.length_cons]
    omega
theorem listW_len (l : List Int) : (listW l).length = l.length + 2 := by simp [listW]
theorem inF_words {f : TFunc} (h : funcP f) (hl : (funcW f).length ≤ 2000000000000) : InF f := by
  have hM : maxLen = 9223372036854775807 := rfl
  have e : (funcW f).length = (listW f.Params).length + ((f.Blocks.map blockW).flatten.length + 1) + 1 := by simp only [funcW, List.length_cons, List.length_append]
  rw [e, listW_len] at hl
  have hB : f.Blocks.length ≤ (f.Blocks.map blockW).flatten.length := len_flat fun b _ => by simp [blockW]
  have hb : ∀ b ∈ f.Blocks, (b.Phis.map phiW).flatten.length + (b.Ops.map opW).flatten.length + (b.End.To.length + 2) ≤ 2000000000000 := fun b hb => by
    have := mem_flat (E := blockW) hb
    have e2 : (blockW b).length = (b.Phis.map phiW).flatten.length + ((b.Ops.map opW).flatten.length + ((listW b.End.To).length + 1 + 1)) + 1 := by simp only [blockW, bodyW, endW, List.length_cons, List.length_append]
    rw [e2, listW_len] at this
    omega
  refine ⟨by omega, by omega, fun b hbm => ?_, fun b hbm p hp => ?_, fun b hbm o ho => ?_⟩
  · have h1 := hb b hbm
    have h2 : b.Phis.length ≤ (b.Phis.map phiW).flatten.length := len_flat fun p _ => by simp [phiW]
    have h3 : b.Ops.length ≤ (b.Ops.map opW).flatten.length := len_flat fun p _ => by simp [opW]
    exact ⟨by omega, by omega, by omega⟩
  · have h1 := hb b hbm
    have h2 := mem_flat (E := phiW) hp
    have e2 : (phiW p).length = (listW p.From).length + (listW p.Args).length + 1 + 1 + 1 := by simp only [phiW, List.length_cons, List.length_append]
    rw [e2, listW_len, listW_len] at h2
    exact ⟨by omega, by omega⟩
  · have h1 := hb b hbm
    have h2 := mem_flat (E := opW) ho
    have e2 : (opW o).length = (listW o.Args).length + 1 + 1 + 1 + 1 + 1 := by simp only [opW, List.length_cons, List.length_append, List.length_singleton, List.length_nil]
    rw [e2, listW_len] at h2
    have := ((h.2.2 b hbm).2.1 o ho).2.2.2.2.2
    exact ⟨by omega, this.1, this.2⟩

/-! ### Functions -/
def headB (l : List Word) : Bool := l.headD [] == blockT
def funcB (f : TFunc) : List Word := listW f.Params ++ (dg f.Ret :: (f.Blocks.map blockW).flatten)
theorem funcW_eq (f : TFunc) : funcW f = funcT :: funcB f := rfl
theorem ParseAns.unique (inj : ∀ f g, OkT f → OkT g → (funcW f).length ≤ 1000000000000 → funcW f = funcW g → f = g) {w : List Word} {r r' : TFunc × Int} (hl : w.length ≤ 1000000000000) (h : ParseAns w r) (h' : ParseAns w r') : r = r' := by
  rcases h with ⟨f, h1, h2, rfl⟩ | ⟨h1, rfl⟩ <;> rcases h' with ⟨g, g1, g2, rfl⟩ | ⟨g1, rfl⟩
  · rw [inj f g h1 g1 (by rw [← h2]; exact hl) (h2.symm.trans g2)]
  · exact absurd h2 (g1 f h1)
  · exact absurd g2 (h1 g g1)
  · rfl
end Go.Proofs.YtcddajbcbkbipaaGreatDoor

namespace Go.Proofs.YtcddajbcbkbipaaGreatDoor
open Go Go.RowKit
set_option linter.unusedVariables false
set_option linter.unusedSimpArgs false

def BytesI (s : List Int) : Prop := ∀ x ∈ s, 0 ≤ x ∧ x < 256
/-- What the program's functions answer. -/
structure Facts5 : Prop where
  kind : ∀ s, BytesI s → s.length ≤ maxLen → m_text_Kind s = some (kindF s)
  print : ∀ f, InF f → (mayF f = true → OkF f) → m_text_Print f = some (printF f)
  parse : ∀ s, BytesI s → s.length ≤ 100000000000 → ∃ r, m_text_Parse s = some r ∧ ParseAns (wordsS s) r
  inj : ∀ f g, OkT f → OkT g → (funcW f).length ≤ 1000000000000 → funcW f = funcW g → f = g

/-! ### A text's bytes -/
theorem BytesI.app {a b : List Int} (h : BytesI a) (k : BytesI b) : BytesI (a ++ b) := fun x hx => (List.mem_append.1 hx).elim (h x) (k x)
theorem BytesI.flat {α : Type} {l : List α} {E : α → List Int} (h : ∀ a ∈ l, BytesI (E a)) : BytesI (l.map E).flatten := fun x hx => by
  obtain ⟨y, hy, hxy⟩ := List.mem_flatten.1 hx
  obtain ⟨a, ha, rfl⟩ := List.mem_map.1 hy
  exact h a ha x hxy
theorem BytesI.cons {c : Int} {l : List Int} (hc : 0 ≤ c ∧ c < 256) (h : BytesI l) : BytesI (c :: l) := fun x hx => (List.mem_cons.1 hx).elim (fun e => e ▸ hc) (h x)
theorem BytesI.nil : BytesI [] := fun x hx => by cases hx
theorem dg_bytes (x : Int) : BytesI (dg x) := fun y hy => by have := digN_dig _ y hy; exact ⟨by have := this.1; omega, by have := this.2; omega⟩
theorem numsS_bytes (l : List Int) : BytesI (numsS l) := BytesI.flat fun a _ => BytesI.cons (by decide) (dg_bytes a)
theorem listS_bytes (l : List Int) : BytesI (listS l) := BytesI.cons (by decide) (BytesI.cons (by decide) (BytesI.app (fun x hx => numsS_bytes l x (List.mem_of_mem_drop hx)) (BytesI.cons (by decide) BytesI.nil)))
theorem bytes_of {l : List Int} (h : l.all (fun x => decide (0 ≤ x) && decide (x < 256)) = true) : BytesI l := fun x hx => by
  have := List.all_eq_true.1 h x hx
  simpa using this
theorem nameK_bytes (k : Int) : BytesI (nameK k) := by
  unfold nameK
  by_cases h : k.toNat < kindsW.length
  · have hall : ∀ w ∈ kindsW, w.all (fun x => decide (0 ≤ x) && decide (x < 256)) = true := by decide
    exact bytes_of (hall _ (getD_mem h))
  · rw [List.getD, List.getElem?_eq_none (by omega)]; exact BytesI.nil
theorem nameE_bytes (k : Int) : BytesI (nameE k) := by
  unfold nameE
  by_cases h : k.toNat < endsW.length
  · have hall : ∀ w ∈ endsW, w.all (fun x => decide (0 ≤ x) && decide (x < 256)) = true := by decide
    exact bytes_of (hall _ (getD_mem h))
  · rw [List.getD, List.getElem?_eq_none (by omega)]; exact BytesI.nil
theorem line_bytes : BytesI [10] := bytes_of rfl
theorem textS_bytes (f : TFunc) : BytesI (textS f) := by
  refine BytesI.app (BytesI.app (BytesI.app (BytesI.app (bytes_of rfl) (listS_bytes _)) (numsS_bytes _)) line_bytes) (BytesI.flat fun b _ => ?_)
  refine BytesI.app (BytesI.app (BytesI.app (BytesI.app (bytes_of rfl) line_bytes) (BytesI.flat fun p _ => ?_)) (BytesI.flat fun o _ => ?_)) ?_
  · exact BytesI.app (BytesI.app (BytesI.app (BytesI.app (bytes_of rfl) (numsS_bytes _)) (listS_bytes _)) (listS_bytes _)) line_bytes
  · exact BytesI.app (BytesI.app (BytesI.app (BytesI.app (BytesI.app (nameK_bytes _) (numsS_bytes _)) (listS_bytes _)) (bytes_of rfl)) (dg_bytes _)) line_bytes
  · exact BytesI.app (BytesI.app (BytesI.app (nameE_bytes _) (numsS_bytes _)) (listS_bytes _)) line_bytes

/-! ### Small functions, told functions -/
theorem inF_noF : InF noF := ⟨by simp [noF], by simp [noF], by simp [noF], by simp [noF], by simp [noF]⟩
theorem okT_ok {f : TFunc} (hm : mayF f = true) (ok : OkF f) (hn : namedB f = true) : OkT f := ⟨hm, (named_iff hm).1 hn, fun b hb o ho => (ok.block b hb).imm o ho⟩
theorem flat_len {α β : Type} (l : List α) (E : α → List β) : (l.map E).flatten.length = (l.map fun a => (E a).length).sum := by
  induction l with
  | nil => rfl
  | cons a l ih => rw [List.map_cons, List.flatten_cons, List.length_append, ih, List.map_cons, List.sum_cons]
theorem ent_words (f : TFunc) : entF f ≤ (funcW f).length := by
  have hp : ∀ p : TPhi, entP p ≤ (phiW p).length := fun p => by
    have e2 : (phiW p).length = (listW p.From).length + (listW p.Args).length + 1 + 1 + 1 := by simp only [phiW, List.length_cons, List.length_append]
    rw [e2, listW_len, listW_len]; unfold entP; omega
  have ho : ∀ o : TOp, entO o ≤ (opW o).length := fun o => by
    have e2 : (opW o).length = (listW o.Args).length + 1 + 1 + 1 + 1 + 1 := by simp only [opW, List.length_cons, List.length_append, List.length_singleton, List.length_nil]
    rw [e2, listW_len]; unfold entO; omega
  have hb : ∀ b : TBlock, entB b ≤ (blockW b).length := fun b => by
    have e2 : (blockW b).length = (b.Phis.map phiW).flatten.length + ((b.Ops.map opW).flatten.length + ((listW b.End.To).length + 1 + 1)) + 1 := by simp only [blockW, bodyW, endW, List.length_cons, List.length_append]
    have q1 := sum_mono b.Phis entP (fun p => (phiW p).length) (fun p _ => hp p)
    have q2 := sum_mono b.Ops entO (fun o => (opW o).length) (fun o _ => ho o)
    rw [e2, listW_len, flat_len, flat_len]
    unfold entB
    omega
  have e : (funcW f).length = (listW f.Params).length + ((f.Blocks.map blockW).flatten.length + 1) + 1 := by simp only [funcW, List.length_cons, List.length_append]
  have q := sum_mono f.Blocks entB (fun b => (blockW b).length) (fun b _ => hb b)
  rw [e, listW_len, flat_len]
  unfold entF
  omega
def f5 : TFunc := ⟨[], 8, [⟨[], [⟨0, 8, 1, 1, [], 5⟩], ⟨0, 1, []⟩⟩]⟩
def s5 : List Int := [102, 117, 110, 99, 32, 40, 41, 32, 56, 10, 98, 108, 111, 99, 107, 10, 99, 111, 110, 115, 116, 32, 56, 32, 49, 32, 49, 32, 40, 41, 32, 53, 10, 114, 101, 116, 32, 49, 32, 40, 41, 10]
theorem f5_text : textS f5 = s5 := by
  simp [textS, f5, funcT, listS, numsS, numS, dg, digN_lt, blockS, blockT, opS, endS, nameK, nameE, kindsW, endsW, s5]
theorem f5_ok : OkF f5 := by
  refine ⟨rfl, by decide, rfl, by decide, fun b hb => ?_⟩
  simp only [f5, List.mem_singleton] at hb
  subst hb
  refine ⟨rfl, by decide, by decide, fun o ho => ?_⟩
  simp only [List.mem_singleton] at ho
  subst ho
  exact ⟨by decide, by decide⟩
theorem f5_okT : OkT f5 := okT_ok rfl f5_ok rfl

section
variable (F : Facts5)
include F
theorem parse_words {s : List Int} (hb : BytesI s) (hl : s.length ≤ 100000000000) {f : TFunc} (hf : OkT f) (hw : wordsS s = funcW f) : m_text_Parse s = some (f, 0) := by
  obtain ⟨r, hr, ha⟩ := F.parse s hb hl
  have hlen : (wordsS s).length ≤ 1000000000000 := by have := wlen s []; unfold wordsS; omega
  rw [hr, ParseAns.unique F.inj hlen ha (.inl ⟨f, hf, hw, rfl⟩)]
theorem parse_text {f : TFunc} (ok : OkF f) (hf : OkT f) : m_text_Parse (textS f) = some (f, 0) :=
  parse_words F (textS_bytes f) (by have := textS_len ok; omega) hf (words_text f hf.named)
theorem awake5 : m_locksteplaw05_awake = some true := by
  have p1 : m_text_Parse s5 = some (f5, 0) := by rw [← f5_text]; exact parse_text F f5_ok f5_okT
  have p2 : m_text_Print f5 = some (s5, 0) := by rw [F.print f5 (ok_in f5_ok) (fun _ => f5_ok), printF, f5_text]; rfl
  have p3 : ∃ g, m_text_Parse [102, 117, 110, 99, 32, 40, 41, 32, 48, 56] = some (g, 3) := by
    obtain ⟨r, hr, ha⟩ := F.parse [102, 117, 110, 99, 32, 40, 41, 32, 48, 56] (bytes_of rfl) (by decide)
    rcases ha with ⟨f, hf, hw, _⟩ | ⟨_, rfl⟩
    · exfalso
      have e : wordsS [102, 117, 110, 99, 32, 40, 41, 32, 48, 56] = [[102, 117, 110, 99], [40], [41], [48, 56]] := by decide
      rw [e] at hw
      cases hp : f.Params with
      | nil =>
        simp only [funcW, listW, hp, List.map_nil, List.nil_append, List.cons_append, List.cons.injEq] at hw
        obtain ⟨_, _, _, hw, _⟩ := hw
        have hlen : (digN f.Ret.toNat).length = 2 := by unfold dg at hw; rw [← hw]; rfl
        by_cases h : f.Ret.toNat < 10
        · rw [digN_lt h] at hlen; simp at hlen
        · have := digN_head f.Ret.toNat (by omega)
          unfold dg at hw
          rw [← hw] at this
          exact this rfl
      | cons x l =>
        simp only [funcW, listW, hp, List.map_cons, List.cons_append, List.cons.injEq] at hw
        obtain ⟨_, _, hw, _⟩ := hw
        have := digN_dig x.toNat 41 (by show (41 : Int) ∈ dg x; rw [← hw]; simp)
        have := this.1
        omega
    · exact ⟨_, hr⟩
  have p4 : m_text_Kind [97, 100, 100] = some (1, true) := by rw [F.kind _ (bytes_of rfl) (by decide)]; rfl
  obtain ⟨g, p3⟩ := p3
  unfold m_locksteplaw05_awake
  show Option.bind (m_text_Parse s5) _ = _
  rw [p1, Option.bind_some, p2, Option.bind_some, p3, Option.bind_some, p4, Option.bind_some, chk_pos' (fun _ => ⟨by decide, by decide⟩), chk_pos' (fun _ => ⟨by decide, by decide⟩)]
  rfl
omit F in
end
end Go.Proofs.YtcddajbcbkbipaaGreatDoor

namespace Go.Proofs.YtcddajbcbkbipaaGreatDoor
open Go Go.RowKit
set_option linter.unusedVariables false

/-- A number as bytes. -/
def putN (v : Nat) : List Int := if h : v < 128 then [(v : Int)] else ((v % 128 + 128 : Nat) : Int) :: putN (v / 128)
theorem putN_lt {v : Nat} (h : v < 128) : putN v = [(v : Int)] := by rw [putN, dif_pos h]
theorem putN_ge {v : Nat} (h : ¬ v < 128) : putN v = ((v % 128 + 128 : Nat) : Int) :: putN (v / 128) := by rw [putN, dif_neg h]
theorem putN_pos (v : Nat) : 1 ≤ (putN v).length := by
  by_cases h : v < 128
  · simp [putN_lt h]
  · simp [putN_ge h]
theorem putN_len : ∀ (k v : Nat), v < 128 ^ (k + 1) → (putN v).length ≤ k + 1
  | k, v, hv => by
    by_cases h : v < 128
    · simp [putN_lt h]
    · cases k with
      | zero => simp at hv; omega
      | succ k =>
        have := putN_len k (v / 128) (by rw [Nat.div_lt_iff_lt_mul (by decide)]; rw [Nat.pow_succ] at hv; exact hv)
        simp [putN_ge h]
        omega
theorem putN_len10 {v : Nat} (h : v < 2 ^ 64) : (putN v).length ≤ 10 := putN_len 9 v (Nat.lt_trans h (by decide))
theorem putN_byte (v : Nat) : ∀ x ∈ putN v, 0 ≤ x ∧ x < 256 := by
  induction v using Nat.strongRecOn with
  | _ v ih =>
    intro x hx
    by_cases h : v < 128
    · rw [putN_lt h] at hx; simp at hx; omega
    · rw [putN_ge h] at hx
      rcases List.mem_cons.1 hx with rfl | hx
      · omega
      · exact ih _ (by omega) x hx
theorem putN_mono : ∀ (a b : Nat), a ≤ b → (putN a).length ≤ (putN b).length := by
  intro a
  induction a using Nat.strongRecOn with
  | _ a ih =>
    intro b hab
    by_cases h : a < 128
    · rw [putN_lt h]; exact putN_pos b
    · rw [putN_ge h, putN_ge (by omega : ¬ b < 128)]
      simpa using ih (a / 128) (by omega) (b / 128) (Nat.div_le_div_right hab)

/-- The number at the beginning: it, how many bytes, and the code. -/
def getL (n acc : Nat) : List Int → Int × Int × Int
  | [] => if n = 10 then (0, 0, 3) else (0, 0, 2)
  | c :: r => if n = 10 then (0, 0, 3) else if 128 ≤ c then getL (n + 1) (acc + (c.toNat % 128) * 128 ^ n) r
      else if n = 0 ∨ (c ≠ 0 ∧ (n < 9 ∨ c = 1)) then (((acc + c.toNat * 128 ^ n : Nat) : Int), ((n + 1 : Nat) : Int), 0) else (0, 0, 3)
def getS (b : List Int) : Int × Int × Int := getL 0 0 b

theorem pow9 {v n : Nat} (h : v * 128 ^ n < 2 ^ 64) (hv : 1 ≤ v) : n ≤ 9 := by
  rcases Nat.lt_or_ge n 10 with h' | h'
  · omega
  · have : 128 ^ 10 ≤ 128 ^ n := Nat.pow_le_pow_right (by decide) h'
    have h2 : 128 ^ n ≤ v * 128 ^ n := Nat.le_mul_of_pos_left _ hv
    have : (2 : Nat) ^ 64 < 128 ^ 10 := by decide
    omega

theorem getL_put : ∀ (v n acc : Nat) (r : List Int), v * 128 ^ n < 2 ^ 64 → (n = 0 ∨ 1 ≤ v) → getL n acc (putN v ++ r) = (((acc + v * 128 ^ n : Nat) : Int), ((n + (putN v).length : Nat) : Int), 0) := by
  intro v
  induction v using Nat.strongRecOn with
  | _ v ih =>
    intro n acc r hb hz
    have hn : n ≤ 9 := by
      rcases hz with rfl | hz
      · omega
      · exact pow9 hb hz
    by_cases h : v < 128
    · rw [putN_lt h]
      have h1 : ¬ (128 : Int) ≤ v := by omega
      have h2 : n = 0 ∨ ((v : Int) ≠ 0 ∧ (n < 9 ∨ (v : Int) = 1)) := by
        rcases hz with rfl | hz
        · exact .inl rfl
        · refine .inr ⟨by omega, ?_⟩
          rcases Nat.lt_or_ge n 9 with h9 | h9
          · exact .inl h9
          · have : n = 9 := by omega
            subst this
            refine .inr ?_
            have : v * 128 ^ 9 < 2 ^ 64 := hb
            omega
      simp only [List.cons_append, List.nil_append, getL, if_neg (by omega : ¬ n = 10), if_neg h1, if_pos h2, Int.toNat_natCast, List.length_cons, List.length_nil]
    · rw [putN_ge h]
      have h1 : (128 : Int) ≤ ((v % 128 + 128 : Nat) : Int) := by omega
      have hdm : v / 128 * 128 ^ (n + 1) + v % 128 * 128 ^ n = v * 128 ^ n := by
        have : v = 128 * (v / 128) + v % 128 := (Nat.div_add_mod v 128).symm
        conv => rhs; rw [this]
        rw [Nat.pow_succ, Nat.add_mul, ← Nat.mul_assoc, Nat.mul_right_comm, Nat.mul_comm 128 (v / 128)]
      simp only [List.cons_append, getL, if_neg (by omega : ¬ n = 10), if_pos h1, Int.toNat_natCast, List.length_cons]
      rw [ih (v / 128) (by omega) (n + 1) _ r (by omega) (.inr (by omega))]
      have e1 : (v % 128 + 128) % 128 = v % 128 := by omega
      rw [e1]
      refine Prod.ext ?_ (Prod.ext ?_ rfl)
      · show ((_ : Nat) : Int) = ((_ : Nat) : Int)
        congr 1
        omega
      · show ((_ : Nat) : Int) = ((_ : Nat) : Int)
        congr 1
        omega
theorem getS_put {v : Nat} (h : v < 2 ^ 64) (r : List Int) : getS (putN v ++ r) = ((v : Int), ((putN v).length : Int), 0) := by
  unfold getS
  rw [getL_put v 0 0 r (by simpa using h) (.inl rfl)]
  simp
theorem getL_short : ∀ (v n acc k : Nat), v * 128 ^ n < 2 ^ 64 → (n = 0 ∨ 1 ≤ v) → k < (putN v).length → getL n acc ((putN v).take k) = (0, 0, 2) := by
  intro v
  induction v using Nat.strongRecOn with
  | _ v ih =>
    intro n acc k hb hz hk
    have hn : n ≤ 9 := by
      rcases hz with rfl | hz
      · omega
      · exact pow9 hb hz
    cases k with
    | zero => simp [getL]; omega
    | succ k =>
      by_cases h : v < 128
      · simp [putN_lt h] at hk
      · rw [putN_ge h] at hk ⊢
        have h1 : (128 : Int) ≤ ((v % 128 + 128 : Nat) : Int) := by omega
        have hdm : v / 128 * 128 ^ (n + 1) + v % 128 * 128 ^ n = v * 128 ^ n := by
          have : v = 128 * (v / 128) + v % 128 := (Nat.div_add_mod v 128).symm
          conv => rhs; rw [this]
          rw [Nat.pow_succ, Nat.add_mul, ← Nat.mul_assoc, Nat.mul_right_comm, Nat.mul_comm 128 (v / 128)]
        simp only [List.take_succ_cons, getL, if_neg (by omega : ¬ n = 10), if_pos h1]
        exact ih (v / 128) (by omega) (n + 1) _ k (by omega) (.inr (by omega)) (by simpa using hk)
theorem getS_short {v k : Nat} (h : v < 2 ^ 64) (hk : k < (putN v).length) : getS ((putN v).take k) = (0, 0, 2) := getL_short v 0 0 k (by simpa using h) (.inl rfl) hk

theorem putN_inj {a b : Nat} (ha : a < 2 ^ 64) (hb : b < 2 ^ 64) (h : putN a = putN b) : a = b := by
  have h1 := getS_put ha []
  rw [h, getS_put hb []] at h1
  simp only [Prod.mk.injEq] at h1
  omega
/-- No number's bytes begin with another one's. -/
theorem putN_prefix {a b n : Nat} (ha : a < 2 ^ 64) (hb : b < 2 ^ 64) (hn : n = min (putN a).length (putN b).length) (h : (putN a).take n = (putN b).take n) : a = b := by
  have key : ∀ {x y : Nat}, x < 2 ^ 64 → y < 2 ^ 64 → (putN x).length ≤ (putN y).length → (putN x).take (putN x).length = (putN y).take (putN x).length → x = y := by
    intro x y hx hy hl he
    rw [List.take_length] at he
    rcases Nat.lt_or_ge (putN x).length (putN y).length with h' | h'
    · have h1 := getS_short hy h'
      rw [← he] at h1
      have h2 := getS_put hx []
      rw [List.append_nil, h1] at h2
      simp at h2
    · rw [List.take_of_length_le (by omega)] at he
      exact putN_inj hx hy he
  rcases Nat.le_total (putN a).length (putN b).length with hl | hl
  · have : n = (putN a).length := by omega
    subst this
    exact key ha hb hl h
  · have : n = (putN b).length := by omega
    subst this
    exact (key hb ha hl h.symm).symm
end Go.Proofs.YtcddajbcbkbipaaGreatDoor

namespace Go.Proofs.YtcddajbcbkbipaaGreatDoor
open Go Go.RowKit
set_option linter.unusedVariables false


theorem putF_next {v : Nat} (hv : v < 2 ^ 64) (h : ¬ v < 128) {l : List Int} (hl : l.length + 1 ≤ room) :
    m_num_Put_F1 ((v : Int), l) = some (.next (((v / 128 : Nat) : Int), l ++ [((v % 128 + 128 : Nat) : Int)])) := by
  have h1 : decide ((128 : Int) ≤ v) = true := by simp; omega
  have h2 : bitsV .and .u64 v 127 = ((v % 128 : Nat) : Int) := and_low .u64 rfl 7 (by decide) hv (by decide)
  have h3 : wu8 ((v % 128 : Nat) : Int) = ((v % 128 : Nat) : Int) := wu8_of (by omega) (by omega)
  have h4 : bitsV .or .u8 ((v % 128 : Nat) : Int) 128 = ((v % 128 + 128 : Nat) : Int) := by
    have := or_add .u8 rfl 7 (a := v % 128) (b := 1) (Nat.mod_lt _ (by decide)) (by have : v % 128 < 128 := Nat.mod_lt _ (by decide); show v % 128 + 1 * 2 ^ 7 < 2 ^ 8; omega) (y := 128) (by decide)
    rw [this]
  have h5 : shrV .u64 (v : Int) 7 = ((v / 128 : Nat) : Int) := by
    unfold shrV
    rw [fdiv_pow]
    simp [IntKind.bits]
  unfold m_num_Put_F1
  simp only [h1, cond_true, h2, h3, h4, h5]
  rw [chk_pos' (by simpa using hl)]
theorem putF_done {v : Nat} (h : v < 128) {l : List Int} (hl : l.length + 1 ≤ room) : m_num_Put_F1 ((v : Int), l) = some (.done (l ++ [(v : Int)])) := by
  have h1 : decide ((128 : Int) ≤ v) = false := by simp; omega
  have h3 : wu8 (v : Int) = (v : Int) := wu8_of (by omega) (by omega)
  unfold m_num_Put_F1
  simp only [h1, cond_false, h3]
  rw [chk_pos' (by simpa using hl)]
theorem putF_loop : ∀ (v : Nat) (l : List Int), v < 2 ^ 64 → l.length + (putN v).length ≤ room → loopO m_num_Put_F1 ((v : Int), l) = some (l ++ putN v) := by
  intro v
  induction v using Nat.strongRecOn with
  | _ v ih =>
    intro l hv hl
    have := putN_pos v
    by_cases h : v < 128
    · rw [loopO_done (putF_done h (by omega)), putN_lt h]
    · rw [loopO_next (putF_next hv h (by omega)), ih (v / 128) (by omega) _ (by omega) ?_, putN_ge h]
      · simp
      · rw [putN_ge h] at hl
        simp at hl ⊢
        omega
theorem put_eq {v : Nat} (hv : v < 2 ^ 64) : m_num_Put v = some (putN v) := by
  have e : m_num_Put v = (scopeO (m_num_Put_F1 ((v : Int), [])) m_num_Put_F1).bind some := rfl
  have := putN_len10 hv
  rw [e, scopeO_self, putF_loop v [] hv (by simp [room]; omega)]
  rfl

theorem getL_ten (acc : Nat) (b : List Int) : getL 10 acc b = (0, 0, 3) := by cases b <;> simp [getL]

def Bytes (b : List Int) : Prop := ∀ x ∈ b, 0 ≤ x ∧ x < 256
theorem getF_loop (b : List Int) (hB : Bytes b) (hb : b.length < 2 ^ 62) : ∀ (r pre : List Int) (n : Nat) (acc : Nat) (m : Int), b = pre ++ r → pre.length = n → n ≤ 10 → (n ≤ 9 → m = acc ∧ acc < 128 ^ n) →
    loopO (m_num_Get_F1 b) (m, (n : Int)) = some (getL n acc r) := by
  intro r
  induction r with
  | nil =>
    intro pre n acc m hbr hpre hn hm
    have hlen : b.length = n := by rw [hbr, ← hpre]; simp
    unfold m_num_Get_F1
    by_cases h10 : n = 10
    · subst h10
      rw [loopO_done (x := (0, 0, 3)) (by simp)]
      simp [getL]
    · have h1 : ((n : Int) == 10) = false := by simp; omega
      have h2 : ((n : Int) == (b.length : Int)) = true := by simp; omega
      rw [loopO_done (x := (0, 0, 2)) (by simp only [h1, h2, cond_false, cond_true])]
      simp [getL, h10]
  | cons c r ih =>
    intro pre n acc m hbr hpre hn hm
    have hlen : b.length = n + (r.length + 1) := by rw [hbr, ← hpre]; simp
    by_cases h10 : n = 10
    · subst h10
      rw [loopO_done (x := (0, 0, 3)) (by unfold m_num_Get_F1; simp)]
      simp [getL]
    · obtain ⟨hm1, hm2⟩ := hm (by omega)
      subst hm1
      have hc : b.getD n 0 = c := by rw [hbr, List.getD, List.getElem?_append_right (by omega)]; simp [hpre]
      have hcb := hB c (by rw [hbr]; simp)
      obtain ⟨x, rfl⟩ : ∃ x : Nat, c = x := ⟨c.toNat, by omega⟩
      have hx : x < 256 := by omega
      have h1 : ((n : Int) == 10) = false := by simp; omega
      have h2 : ((n : Int) == (b.length : Int)) = false := by simp; omega
      have h3 : w64 ((n : Int) + 1) = ((n + 1 : Nat) : Int) := w64_of (by omega) (by omega)
      have h4 : w64 (((n + 1 : Nat) : Int) - 1) = (n : Int) := by rw [show ((n + 1 : Nat) : Int) - 1 = n by omega]; exact w64_of (by omega) (by omega)
      have h5 : w64 (7 * (n : Int)) = ((7 * n : Nat) : Int) := by rw [w64_of (by omega) (by omega)]; omega
      have h6 : bitsV .and .u8 (x : Int) 127 = ((x % 128 : Nat) : Int) := and_low .u8 rfl 7 (by decide) hx (by decide)
      have h7 : wu64 ((x % 128 : Nat) : Int) = ((x % 128 : Nat) : Int) := wu64_of (by omega) (by omega)
      have hb1 : InB (n : Int) b.length := ⟨by omega, by omega⟩
      have h8 : (n ≤ 8 ∨ x < 2) → bitsV .or .u64 (acc : Int) (shlV .u64 ((x % 128 : Nat) : Int) ((7 * n : Nat) : Int)) = ((acc + x % 128 * 128 ^ n : Nat) : Int) := fun hs => by
        have hp : (128 : Nat) ^ n = 2 ^ (7 * n) := by rw [Nat.pow_mul]
        have hlt : acc + x % 128 * 128 ^ n < 2 ^ 64 := by
          rcases hs with hs | hs
          · have h9 : (128 : Nat) ^ n ≤ 128 ^ 8 := Nat.pow_le_pow_right (by decide) hs
            have h10 : x % 128 * 128 ^ n ≤ 127 * 128 ^ 8 := Nat.mul_le_mul (by omega) h9
            have : 127 * 128 ^ 8 + 128 ^ 8 < 2 ^ 64 := by decide
            omega
          · have h9 : (128 : Nat) ^ n ≤ 128 ^ 9 := Nat.pow_le_pow_right (by decide) (by omega)
            have h10 : x % 128 * 128 ^ n ≤ 1 * 128 ^ 9 := Nat.mul_le_mul (by omega) h9
            have : 1 * 128 ^ 9 + 128 ^ 9 ≤ 2 ^ 64 := by decide
            omega
        have hsh : shlV .u64 ((x % 128 : Nat) : Int) ((7 * n : Nat) : Int) = ((x % 128 * 2 ^ (7 * n) : Nat) : Int) := by
          unfold shlV
          have : min (((7 * n : Nat) : Int)).toNat IntKind.u64.bits = 7 * n := by simp [IntKind.bits]; omega
          rw [this]
          rw [show (((x % 128 : Nat) : Int) * 2 ^ (7 * n)) = ((x % 128 * 2 ^ (7 * n) : Nat) : Int) by simp]
          exact uwrap_of .u64 rfl (by rw [← hp]; show _ < 2 ^ 64; omega)
        rw [or_add .u64 rfl (7 * n) (by rw [← hp]; exact hm2) (by rw [← hp]; exact hlt) hsh, hp]
      have e : m_num_Get_F1 b ((acc : Int), (n : Int)) = bif decide ((128 : Int) ≤ x) then some (.next (bitsV .or .u64 (acc : Int) (shlV .u64 ((x % 128 : Nat) : Int) ((7 * n : Nat) : Int)), ((n + 1 : Nat) : Int)))
          else (m_num_ends ((n + 1 : Nat) : Int) x).bind fun y => bif !y then some (.done (0, 0, 3)) else some (.done (bitsV .or .u64 (acc : Int) (shlV .u64 ((x % 128 : Nat) : Int) ((7 * n : Nat) : Int)), ((n + 1 : Nat) : Int), 0)) := by
        unfold m_num_Get_F1
        simp only [h1, h2, cond_false, h3, h4, h5, Int.toNat_natCast, hc, h6, h7]
        rw [chk_pos' hb1, chk_pos' (by omega), chk_pos' hb1, chk_pos' hb1]
      by_cases hge : 128 ≤ x
      · have hd : decide ((128 : Int) ≤ x) = true := by simp; omega
        rw [hd, cond_true] at e
        rw [loopO_next e, ih (pre ++ [(x : Int)]) (n + 1) (acc + x % 128 * 128 ^ n) _ (by simp [hbr]) (by simp [hpre]) (by omega) (fun h9 => ⟨h8 (.inl (by omega)), ?_⟩)]
        · simp only [getL, if_neg h10, if_pos (by omega : (128 : Int) ≤ x), Int.toNat_natCast]
        · have : x % 128 * 128 ^ n ≤ 127 * 128 ^ n := Nat.mul_le_mul_right _ (by omega)
          rw [Nat.pow_succ]
          omega
      · have hd : decide ((128 : Int) ≤ x) = false := by simp; omega
        rw [hd, cond_false] at e
        simp only [getL, if_neg h10, if_neg (by omega : ¬ (128 : Int) ≤ x), Int.toNat_natCast]
        have he : m_num_ends ((n + 1 : Nat) : Int) x = some (decide (n = 0 ∨ ((x : Int) ≠ 0 ∧ (n < 9 ∨ (x : Int) = 1)))) := by
          unfold m_num_ends
          congr 1
          rw [Bool.eq_iff_iff]
          simp only [Bool.cond_eq_ite, beq_iff_eq, bne_iff_ne, decide_eq_true_eq, ne_eq]
          split
          · simp; omega
          · split
            · split
              · simp; omega
              · simp; omega
            · simp; omega
        rw [he, Option.bind_some] at e
        by_cases hends : n = 0 ∨ ((x : Int) ≠ 0 ∧ (n < 9 ∨ (x : Int) = 1))
        · rw [decide_eq_true hends] at e
          simp only [Bool.not_true, cond_false] at e
          rw [loopO_done e, if_pos hends, h8 (by omega), Nat.mod_eq_of_lt (by omega : x < 128)]
        · rw [decide_eq_false hends] at e
          simp only [Bool.not_false, cond_true] at e
          rw [loopO_done e, if_neg hends]
theorem get_eq (b : List Int) (hB : Bytes b) (hb : b.length < 2 ^ 62) : m_num_Get b = some (getS b) := by
  have e : m_num_Get b = (scopeO (m_num_Get_F1 b (0, 0)) (m_num_Get_F1 b)).bind some := rfl
  rw [e, scopeO_self]
  have := getF_loop b hB hb b [] 0 0 0 rfl rfl (by omega) (fun _ => ⟨rfl, by simp⟩)
  rw [show ((0 : Nat) : Int) = 0 from rfl] at this
  rw [this]
  rfl
end Go.Proofs.YtcddajbcbkbipaaGreatDoor

namespace Go.Proofs.YtcddajbcbkbipaaGreatDoor
open Go Go.RowKit
set_option linter.unusedVariables false

/-- Numbers' bytes, one behind the other. -/
def flat (l : List Int) : List Int := (l.map fun x => putN x.toNat).flatten
theorem flat_nil : flat [] = [] := rfl
theorem flat_cons (x : Int) (l : List Int) : flat (x :: l) = putN x.toNat ++ flat l := rfl
theorem flat_app (l m : List Int) : flat (l ++ m) = flat l ++ flat m := by simp [flat]
theorem flat_byte (l : List Int) : Bytes (flat l) := by
  intro x hx
  simp only [flat, List.mem_flatten, List.mem_map] at hx
  obtain ⟨_, ⟨y, _, rfl⟩, hx⟩ := hx
  exact putN_byte _ x hx
def I64 (l : List Int) : Prop := ∀ x ∈ l, -9223372036854775808 ≤ x ∧ x < 9223372036854775808
theorem I64.len {l : List Int} (h : I64 l) : (flat l).length ≤ 10 * l.length := by
  induction l with
  | nil => simp [flat]
  | cons x l ih =>
    have := ih fun y hy => h y (List.mem_cons_of_mem _ hy)
    have hx := h x List.mem_cons_self
    have := putN_len10 (v := x.toNat) (by rw [two64]; omega)
    simp [flat_cons]
    omega
theorem Bytes.app {a b : List Int} (h : Bytes a) (k : Bytes b) : Bytes (a ++ b) := fun x hx => (List.mem_append.1 hx).elim (h x) (k x)
theorem putN_bytes (v : Nat) : Bytes (putN v) := putN_byte v

theorem row_loop (l : List Int) (hl : l.length ≤ 1000) (hv : I64 l) (p : Int → Option (List Int)) (hp : ∀ v : Nat, v < 2 ^ 64 → p v = some (putN v)) (f : List Int × Int → Option (LR (List Int × Int) (List Int ⊕ List Int)))
    (hf : ∀ (acc : List Int) (i : Nat), f (acc, i) = (bif (decide ((i : Int) < (l.length : Int))) then (chk (InB i l.length) (bif (decide (((l.getD ((i : Int)).toNat (0 : Int)) : Int) < (0 : Int))) then (some (.done (.inr ([] : List Int)))) else (chk (InB i l.length) ((p (wu64 (l.getD ((i : Int)).toNat (0 : Int)))).bind fun x7 => (chk (acc.length + x7.length ≤ room) (some (.next ((acc ++ x7), (w64 ((i : Int) + (1 : Int))))))))))) else (some (.done (.inl acc))))) :
    ∀ (r pre acc : List Int), l = pre ++ r → acc.length ≤ 10 * (pre.length + 1) → loopO f (acc, (pre.length : Int)) = some (if ∃ x ∈ r, x < 0 then .inr [] else .inl (acc ++ flat r)) := by
  intro r
  induction r with
  | nil =>
    intro pre acc hlr ha
    have hlen : l.length = pre.length := by rw [hlr]; simp
    have h1 : decide ((pre.length : Int) < (l.length : Int)) = false := by simp; omega
    rw [loopO_done (x := Sum.inl acc) (by rw [hf, h1]; rfl)]
    simp [flat]
  | cons x r ih =>
    intro pre acc hlr ha
    have hlen : l.length = pre.length + (r.length + 1) := by rw [hlr]; simp
    have hx : l.getD pre.length 0 = x := by rw [hlr, List.getD, List.getElem?_append_right (by omega)]; simp
    have hxb := hv x (by rw [hlr]; simp)
    have h1 : decide ((pre.length : Int) < (l.length : Int)) = true := by simp; omega
    have e := hf acc pre.length
    rw [h1, cond_true, chk_pos' (p := InB _ _) ⟨by omega, by omega⟩, Int.toNat_natCast, hx] at e
    by_cases hneg : x < 0
    · rw [decide_eq_true hneg, cond_true] at e
      rw [loopO_done e, if_pos ⟨x, List.mem_cons_self, hneg⟩]
    · have hput := putN_len10 (v := x.toNat) (by rw [two64]; omega)
      rw [decide_eq_false hneg, cond_false, chk_pos' (p := InB _ _) ⟨by omega, by omega⟩, wu64_of (by omega) (by omega), show p x = some (putN x.toNat) by rw [← hp x.toNat (by rw [two64]; omega)]; congr 1; omega,
        Option.bind_some, chk_pos' (by simp only [room]; omega), w64_of (by omega) (by omega)] at e
      have := ih (pre ++ [x]) (acc ++ putN x.toNat) (by simp [hlr]) (by simp; omega)
      rw [loopO_next e, show ((pre.length : Int) + 1) = ((pre ++ [x]).length : Int) by simp, this]
      have hiff : (∃ y ∈ x :: r, y < 0) ↔ ∃ y ∈ r, y < 0 := by
        simp only [List.mem_cons]
        constructor
        · rintro ⟨y, rfl | hy, h⟩
          · omega
          · exact ⟨y, hy, h⟩
        · rintro ⟨y, hy, h⟩; exact ⟨y, .inr hy, h⟩
      simp only [hiff, flat_cons, List.append_assoc]
/-- A list as bytes. -/
noncomputable def rowS (l : List Int) : List Int := open Classical in if ∃ x ∈ l, x < 0 then [] else putN l.length ++ flat l
theorem row_eq (l : List Int) (hl : l.length ≤ 1000) (hv : I64 l) : m_num_Row l = some (rowS l) := by
  have hput := putN_len10 (v := l.length) (by rw [two64]; omega)
  unfold m_num_Row
  rw [wu64_of (by omega) (by omega), put_eq (by rw [two64]; omega), Option.bind_some]
  have := row_loop l hl hv m_num_Put (fun v h => put_eq h) (m_num_Row_L1 l) (fun acc i => rfl) l [] (putN l.length) rfl (by simpa using hput)
  rw [show (([] : List Int).length : Int) = 0 from rfl] at this
  rw [this]
  unfold rowS
  split <;> rfl

end Go.Proofs.YtcddajbcbkbipaaGreatDoor

namespace Go.Proofs.YtcddajbcbkbipaaGreatDoor
open Go Go.RowKit
set_option linter.unusedVariables false

theorem pow128 : ∀ {k : Nat}, k ≤ 9 → ∃ m, 2 ^ 64 = m * 128 ^ k := by
  intro k hk
  refine ⟨2 ^ (64 - 7 * k), ?_⟩
  have : (128 : Nat) ^ k = 2 ^ (7 * k) := by rw [Nat.pow_mul]
  rw [this, ← Nat.pow_add]
  congr 1
  omega

/-- A number at the beginning, or none. -/
theorem getL_inv : ∀ (b : List Int) (n acc : Nat), Bytes b → n ≤ 10 →
    (∃ w : Nat, (n = 0 ∨ 1 ≤ w) ∧ w * 128 ^ n < 2 ^ 64 ∧ b = putN w ++ b.drop (putN w).length ∧ getL n acc b = (((acc + w * 128 ^ n : Nat) : Int), ((n + (putN w).length : Nat) : Int), 0)) ∨
    getL n acc b = (0, 0, 2) ∨ getL n acc b = (0, 0, 3)
  | [], n, acc, _, _ => by
    right
    unfold getL
    split
    · exact .inr rfl
    · exact .inl rfl
  | c :: r, n, acc, hB, hn => by
    have hc := hB c (by simp)
    have hBr : Bytes r := fun x hx => hB x (by simp [hx])
    unfold getL
    by_cases h10 : n = 10
    · rw [if_pos h10]; exact .inr (.inr rfl)
    rw [if_neg h10]
    by_cases h128 : 128 ≤ c
    · rw [if_pos h128]
      rcases getL_inv r (n + 1) (acc + (c.toNat % 128) * 128 ^ n) hBr (by omega) with ⟨w, hw0, hw, hr, hg⟩ | h | h
      · left
        have hw1 : 1 ≤ w := by omega
        have h9 := pow9 hw hw1
        obtain ⟨m, hm⟩ := pow128 (k := n + 1) h9
        have hwm : w + 1 ≤ m := by
          rw [hm] at hw
          exact Nat.lt_of_mul_lt_mul_right hw
        have hle : (w + 1) * 128 ^ (n + 1) ≤ 2 ^ 64 := by rw [hm]; exact Nat.mul_le_mul_right _ hwm
        have hp : 0 < 128 ^ n := Nat.pow_pos (by decide)
        have hlt : (c.toNat % 128) * 128 ^ n < 128 ^ (n + 1) := by
          rw [Nat.pow_succ, Nat.mul_comm (128 ^ n)]
          exact Nat.mul_lt_mul_of_pos_right (Nat.mod_lt _ (by decide)) hp
        have e1 : (w * 128 + c.toNat % 128) * 128 ^ n = w * 128 ^ (n + 1) + (c.toNat % 128) * 128 ^ n := by
          rw [Nat.add_mul, Nat.pow_succ, Nat.mul_assoc, Nat.mul_comm 128]
        have hput : putN (w * 128 + c.toNat % 128) = c :: putN w := by
          rw [putN_ge (by omega)]
          have q1 : (w * 128 + c.toNat % 128) % 128 = c.toNat % 128 := by omega
          have q2 : (w * 128 + c.toNat % 128) / 128 = w := by omega
          rw [q1, q2]
          congr 1
          omega
        refine ⟨w * 128 + c.toNat % 128, .inr (by omega), ?_, ?_, ?_⟩
        · rw [e1]; rw [Nat.add_mul, Nat.one_mul] at hle; omega
        · rw [hput]; simpa using hr
        · rw [hg, e1, hput]
          refine Prod.ext ?_ (Prod.ext ?_ rfl)
          · show ((_ : Nat) : Int) = ((_ : Nat) : Int)
            congr 1
            omega
          · show ((_ : Nat) : Int) = ((_ : Nat) : Int)
            congr 1
            simp
            omega
      · exact .inr (.inl h)
      · exact .inr (.inr h)
    · rw [if_neg h128]
      by_cases hcond : n = 0 ∨ (c ≠ 0 ∧ (n < 9 ∨ c = 1))
      · rw [if_pos hcond]
        left
        have hput : putN c.toNat = [c] := by rw [putN_lt (by omega)]; simp; omega
        refine ⟨c.toNat, ?_, ?_, ?_, ?_⟩
        · rcases hcond with h | ⟨h, _⟩
          · exact .inl h
          · exact .inr (by omega)
        · rcases hcond with rfl | ⟨h, h9 | rfl⟩
          · simp; omega
          · have h1 : 128 ^ (n + 1) ≤ 128 ^ 9 := Nat.pow_le_pow_right (by decide) (by omega)
            have h2 : c.toNat * 128 ^ n < 128 * 128 ^ n := Nat.mul_lt_mul_of_pos_right (by omega) (Nat.pow_pos (by decide))
            rw [Nat.pow_succ] at h1
            have h3 : (128 : Nat) ^ 9 < 2 ^ 64 := by decide
            omega
          · have h1 : 128 ^ n ≤ 128 ^ 9 := Nat.pow_le_pow_right (by decide) (by omega)
            have h3 : (128 : Nat) ^ 9 < 2 ^ 64 := by decide
            simp
            omega
        · rw [hput]; simp
        · rw [hput]; rfl
      · rw [if_neg hcond]; exact .inr (.inr rfl)

theorem getS_inv (b : List Int) (hB : Bytes b) : (∃ w : Nat, w < 2 ^ 64 ∧ b = putN w ++ b.drop (putN w).length ∧ getS b = ((w : Int), ((putN w).length : Int), 0)) ∨ getS b = (0, 0, 2) ∨ getS b = (0, 0, 3) := by
  rcases getL_inv b 0 0 hB (by omega) with ⟨w, _, hw, hb, hg⟩ | h
  · left
    refine ⟨w, by simpa using hw, hb, ?_⟩
    unfold getS
    rw [hg]
    simp
  · exact .inr h

/-! ### Lists -/
theorem good31.i64 {l : List Int} (h : good31 l) : I64 l := fun x hx => by have := h x hx; omega
def rowE (l : List Int) : List Int := putN l.length ++ flat l
theorem rowE_bytes (l : List Int) : Bytes (rowE l) := (putN_bytes _).app (flat_byte _)

theorem Bytes.drop {b : List Int} (h : Bytes b) (k : Nat) : Bytes (b.drop k) := fun x hx => h x (List.mem_of_mem_drop hx)
theorem Bytes.take' {b : List Int} (h : Bytes b) (k : Nat) : Bytes (b.take k) := fun x hx => h x (List.mem_of_mem_take hx)

end Go.Proofs.YtcddajbcbkbipaaGreatDoor

namespace Go.Proofs.YtcddajbcbkbipaaGreatDoor
open Go Go.RowKit
set_option linter.unusedVariables false

/-- A reader: what is left of the bytes, what is wrong, what holds of it all the time. -/
structure View (S : Type) where
  left : S → List Int
  bad : S → Int
  good : S → Prop

/-- What reads 'α' as E writes it, of those that P allows. -/
structure Reads {S α : Type} (V : View S) (m : S → Option (α × S)) (E : α → List Int) (P : α → Prop) : Prop where
  sticky : ∀ s, V.good s → V.bad s ≠ 0 → ∃ a s', m s = some (a, s') ∧ V.bad s' = V.bad s ∧ V.good s'
  any : ∀ s, V.good s → V.bad s = 0 → ∃ a s', m s = some (a, s') ∧ V.good s' ∧ (V.bad s' = 0 → P a ∧ V.left s = E a ++ V.left s')
  whole : ∀ s a more, V.good s → V.bad s = 0 → P a → V.left s = E a ++ more → ∃ s', m s = some (a, s') ∧ V.bad s' = 0 ∧ V.left s' = more ∧ V.good s'
  cut : ∀ s a c, V.good s → V.bad s = 0 → P a → c < (E a).length → V.left s = (E a).take c → ∃ a' s', m s = some (a', s') ∧ V.bad s' = 2 ∧ V.good s'

theorem Reads.of_eq {S α : Type} {V : View S} {m n : S → Option (α × S)} {E : α → List Int} {P : α → Prop} (h : Reads V m E P) (e : ∀ s, n s = m s) : Reads V n E P := by
  rw [show n = m from funext e]; exact h

/-- Of all that there is: some answer, some reader. -/
theorem Reads.total {S α : Type} {V : View S} {m : S → Option (α × S)} {E : α → List Int} {P : α → Prop} (h : Reads V m E P) (s : S) (hs : V.good s) : ∃ a s', m s = some (a, s') ∧ V.good s' := by
  by_cases hb : V.bad s = 0
  · obtain ⟨a, s', e, hg, _⟩ := h.any s hs hb; exact ⟨a, s', e, hg⟩
  · obtain ⟨a, s', e, _, hg⟩ := h.sticky s hs hb; exact ⟨a, s', e, hg⟩

/-- One behind the other. -/
theorem Reads.pair {S α β : Type} {V : View S} {m : S → Option (α × S)} {n : S → Option (β × S)} {E : α → List Int} {P : α → Prop} {F : β → List Int} {Q : β → Prop} (h : Reads V m E P) (k : Reads V n F Q) :
    Reads V (fun s => (m s).bind fun x => (n x.2).bind fun y => some ((x.1, y.1), y.2)) (fun p => E p.1 ++ F p.2) (fun p => P p.1 ∧ Q p.2) where
  sticky s hs hb := by
    obtain ⟨a, s', e, hb', hg⟩ := h.sticky s hs hb
    obtain ⟨b, t, e', hb'', hg'⟩ := k.sticky s' hg (by rw [hb']; exact hb)
    refine ⟨(a, b), t, ?_, by rw [hb'', hb'], hg'⟩
    simp only [e, Option.bind_some, e']
  any s hs hb := by
    obtain ⟨a, s', e, hg, hd⟩ := h.any s hs hb
    by_cases hb' : V.bad s' = 0
    · obtain ⟨b, t, e', hg', hd'⟩ := k.any s' hg hb'
      refine ⟨(a, b), t, by simp only [e, Option.bind_some, e'], hg', fun ht => ?_⟩
      obtain ⟨p1, p2⟩ := hd hb'
      obtain ⟨q1, q2⟩ := hd' ht
      exact ⟨⟨p1, q1⟩, by rw [p2, q2, List.append_assoc]⟩
    · obtain ⟨b, t, e', hb'', hg'⟩ := k.sticky s' hg hb'
      exact ⟨(a, b), t, by simp only [e, Option.bind_some, e'], hg', fun ht => absurd (hb'' ▸ ht) hb'⟩
  whole s p more hs hb hp hl := by
    obtain ⟨s', e, hb', hl', hg⟩ := h.whole s p.1 (F p.2 ++ more) hs hb hp.1 (by rw [hl, List.append_assoc])
    obtain ⟨t, e', hb'', hl'', hg'⟩ := k.whole s' p.2 more hg hb' hp.2 hl'
    exact ⟨t, by simp only [e, Option.bind_some, e'], hb'', hl'', hg'⟩
  cut s p c hs hb hp hc hl := by
    by_cases hc1 : c < (E p.1).length
    · obtain ⟨a', s', e, hb', hg⟩ := h.cut s p.1 c hs hb hp.1 hc1 (by rw [hl, List.take_append_of_le_length (by omega)])
      obtain ⟨b, t, e', hb'', hg'⟩ := k.sticky s' hg (by rw [hb']; decide)
      exact ⟨(a', b), t, by simp only [e, Option.bind_some, e'], by rw [hb'', hb'], hg'⟩
    · have el : V.left s = E p.1 ++ (F p.2).take (c - (E p.1).length) := by rw [hl, List.take_append, List.take_of_length_le (by omega)]
      obtain ⟨s', e, hb', hl', hg⟩ := h.whole s p.1 _ hs hb hp.1 el
      obtain ⟨b, t, e', hb'', hg'⟩ := k.cut s' p.2 _ hg hb' hp.2 (by rw [List.length_append] at hc; omega) hl'
      exact ⟨(p.1, b), t, by simp only [e, Option.bind_some, e'], hb'', hg'⟩

/-- What is read, as something else. -/
theorem Reads.map {S α β : Type} {V : View S} {m : S → Option (α × S)} {E : α → List Int} {P : α → Prop} {F : β → List Int} {Q : β → Prop} (h : Reads V m E P) (f : α → β) (g : β → α)
    (hfg : ∀ b, Q b → f (g b) = b) (hP : ∀ b, Q b → P (g b)) (hQ : ∀ a, P a → Q (f a)) (hE : ∀ a, P a → F (f a) = E a) :
    Reads V (fun s => (m s).bind fun x => some (f x.1, x.2)) F Q where
  sticky s hs hb := by
    obtain ⟨a, s', e, hb', hg⟩ := h.sticky s hs hb
    exact ⟨f a, s', by simp only [e, Option.bind_some], hb', hg⟩
  any s hs hb := by
    obtain ⟨a, s', e, hg, hd⟩ := h.any s hs hb
    exact ⟨f a, s', by simp only [e, Option.bind_some], hg, fun ht => ⟨hQ a (hd ht).1, by rw [hE a (hd ht).1]; exact (hd ht).2⟩⟩
  whole s b more hs hb hp hl := by
    have hFg : F b = E (g b) := by rw [← hE (g b) (hP b hp), hfg b hp]
    obtain ⟨s', e, hb', hl', hg⟩ := h.whole s (g b) more hs hb (hP b hp) (by rw [hl, hFg])
    exact ⟨s', by simp only [e, Option.bind_some, hfg b hp], hb', hl', hg⟩
  cut s b c hs hb hp hc hl := by
    have hFg : F b = E (g b) := by rw [← hE (g b) (hP b hp), hfg b hp]
    obtain ⟨a', s', e, hb', hg⟩ := h.cut s (g b) c hs hb (hP b hp) (by rw [← hFg]; exact hc) (by rw [hl, hFg])
    exact ⟨f a', s', by simp only [e, Option.bind_some], hb', hg⟩

/-- So many. -/
def readN {S α : Type} (m : S → Option (α × S)) : Nat → S → Option (List α × S)
  | 0, s => some ([], s)
  | n + 1, s => (m s).bind fun x => (readN m n x.2).bind fun y => some (x.1 :: y.1, y.2)
theorem Reads.many {S α : Type} [Inhabited α] {V : View S} {m : S → Option (α × S)} {E : α → List Int} {P : α → Prop} (h : Reads V m E P) : ∀ n : Nat, Reads V (readN m n) (fun l => (l.map E).flatten) (fun l => l.length = n ∧ ∀ a ∈ l, P a)
  | 0 => by
    refine ⟨fun s hs hb => ⟨[], s, rfl, rfl, hs⟩, fun s hs hb => ⟨[], s, rfl, hs, fun _ => ⟨⟨rfl, fun a ha => by cases ha⟩, rfl⟩⟩, fun s a more hs hb hp hl => ?_, fun s a c hs hb hp hc hl => ?_⟩
    · obtain rfl := List.length_eq_zero_iff.1 hp.1
      exact ⟨s, rfl, hb, hl, hs⟩
    · obtain rfl := List.length_eq_zero_iff.1 hp.1
      exact absurd hc (by simp)
  | n + 1 => by
    refine ((h.pair (Reads.many h n)).map (β := List α) (F := fun l => (l.map E).flatten) (Q := fun l => l.length = n + 1 ∧ ∀ a ∈ l, P a) (fun p => p.1 :: p.2) (fun l => (l.headD default, l.tail)) ?_ ?_ ?_ ?_).of_eq ?_
    · rintro l ⟨hl, _⟩
      cases l with
      | nil => cases hl
      | cons a l => rfl
    · rintro l ⟨hl, hp⟩
      cases l with
      | nil => cases hl
      | cons a l => exact ⟨hp a (by simp), by simpa using hl, fun b hb => hp b (by simp at hb ⊢; exact .inr hb)⟩
    · rintro ⟨a, l⟩ ⟨ha, hl, hp⟩
      exact ⟨by simp [hl], fun b hb => (List.mem_cons.1 hb).elim (fun h => h ▸ ha) (hp b)⟩
    · rintro ⟨a, l⟩ _; simp
    · intro s
      rw [readN]
      simp only [Option.bind_assoc, Option.bind_some]

/-- What is read first tells how the rest is read. -/
theorem Reads.dep {S α β : Type} {V : View S} {m : S → Option (α × S)} {n : α → S → Option (β × S)} {E : α → List Int} {P : α → Prop} {F : β → List Int} {Q : β → Prop} (key : β → α) (h : Reads V m E P) (k : ∀ a, P a → Reads V (n a) F (fun b => Q b ∧ key b = a)) (ks : ∀ a s, V.good s → V.bad s ≠ 0 → ∃ b t, n a s = some (b, t) ∧ V.bad t = V.bad s ∧ V.good t) :
    Reads V (fun s => (m s).bind fun x => n x.1 x.2) (fun b => E (key b) ++ F b) (fun b => P (key b) ∧ Q b) where
  sticky s hs hb := by
    obtain ⟨a, s', e, hb', hg⟩ := h.sticky s hs hb
    obtain ⟨b, t, e', hb'', hg'⟩ := ks a s' hg (by rw [hb']; exact hb)
    exact ⟨b, t, by simp only [e, Option.bind_some, e'], by rw [hb'', hb'], hg'⟩
  any s hs hb := by
    obtain ⟨a, s', e, hg, hd⟩ := h.any s hs hb
    by_cases hb' : V.bad s' = 0
    · obtain ⟨p1, p2⟩ := hd hb'
      obtain ⟨b, t, e', hg', hd'⟩ := (k a p1).any s' hg hb'
      refine ⟨b, t, by simp only [e, Option.bind_some, e'], hg', fun ht => ?_⟩
      obtain ⟨⟨q1, rfl⟩, q2⟩ := hd' ht
      exact ⟨⟨p1, q1⟩, by rw [p2, q2, List.append_assoc]⟩
    · obtain ⟨b, t, e', hb'', hg'⟩ := ks a s' hg hb'
      exact ⟨b, t, by simp only [e, Option.bind_some, e'], hg', fun ht => absurd (hb'' ▸ ht) hb'⟩
  whole s p more hs hb hp hl := by
    obtain ⟨s', e, hb', hl', hg⟩ := h.whole s (key p) (F p ++ more) hs hb hp.1 (by rw [hl, List.append_assoc])
    obtain ⟨t, e', hb'', hl'', hg'⟩ := (k (key p) hp.1).whole s' p more hg hb' ⟨hp.2, rfl⟩ hl'
    exact ⟨t, by simp only [e, Option.bind_some, e'], hb'', hl'', hg'⟩
  cut s p c hs hb hp hc hl := by
    by_cases hc1 : c < (E (key p)).length
    · obtain ⟨a', s', e, hb', hg⟩ := h.cut s (key p) c hs hb hp.1 hc1 (by rw [hl, List.take_append_of_le_length (by omega)])
      obtain ⟨b, t, e', hb'', hg'⟩ := ks a' s' hg (by rw [hb']; decide)
      exact ⟨b, t, by simp only [e, Option.bind_some, e'], by rw [hb'', hb'], hg'⟩
    · have el : V.left s = E (key p) ++ (F p).take (c - (E (key p)).length) := by rw [hl, List.take_append, List.take_of_length_le (by omega)]
      obtain ⟨s', e, hb', hl', hg⟩ := h.whole s (key p) _ hs hb hp.1 el
      obtain ⟨b, t, e', hb'', hg'⟩ := (k (key p) hp.1).cut s' p _ hg hb' ⟨hp.2, rfl⟩ (by rw [List.length_append] at hc; omega) hl'
      exact ⟨b, t, by simp only [e, Option.bind_some, e'], hb'', hg'⟩

/-- The same as another, but for what it answers where something is wrong. -/
def Sim {S α : Type} (V : View S) (m n : S → Option (α × S)) : Prop :=
  ∀ s, V.good s → ∀ a s', m s = some (a, s') → V.good s' → (V.bad s' = 0 → n s = some (a, s')) ∧ (V.bad s' ≠ 0 → ∃ b t, n s = some (b, t) ∧ V.bad t = V.bad s' ∧ V.good t)
theorem Reads.sim {S α : Type} {V : View S} {m n : S → Option (α × S)} {E : α → List Int} {P : α → Prop} (h : Reads V m E P) (k : Sim V m n) : Reads V n E P where
  sticky s hs hb := by
    obtain ⟨a, s', e, hb', hg⟩ := h.sticky s hs hb
    obtain ⟨b, t, q1, q2, q3⟩ := (k s hs a s' e hg).2 (by rw [hb']; exact hb)
    exact ⟨b, t, q1, by rw [q2, hb'], q3⟩
  any s hs hb := by
    obtain ⟨a, s', e, hg, hd⟩ := h.any s hs hb
    obtain ⟨k1, k2⟩ := k s hs a s' e hg
    by_cases hb' : V.bad s' = 0
    · exact ⟨a, s', k1 hb', hg, hd⟩
    · obtain ⟨b, t, q1, q2, q3⟩ := k2 hb'
      exact ⟨b, t, q1, q3, fun ht => absurd (q2 ▸ ht) hb'⟩
  whole s a more hs hb hp hl := by
    obtain ⟨s', e, hb', hl', hg⟩ := h.whole s a more hs hb hp hl
    exact ⟨s', (k s hs a s' e hg).1 hb', hb', hl', hg⟩
  cut s a c hs hb hp hc hl := by
    obtain ⟨a', s', e, hb', hg⟩ := h.cut s a c hs hb hp hc hl
    obtain ⟨b, t, q1, q2, q3⟩ := (k s hs a' s' e hg).2 (by rw [hb']; decide)
    exact ⟨b, t, q1, by rw [q2, hb'], q3⟩

/-- Where something is wrong it stays so. -/
theorem readN_sticky {S α : Type} {V : View S} {m : S → Option (α × S)} {E : α → List Int} {P : α → Prop} (h : Reads V m E P) : ∀ (k : Nat) (s : S), V.good s → V.bad s ≠ 0 → ∃ z t, readN m k s = some (z, t) ∧ V.bad t = V.bad s ∧ V.good t
  | 0, s, hs, hb => ⟨[], s, rfl, rfl, hs⟩
  | k + 1, s, hs, hb => by
    obtain ⟨a, s1, e1, hb1, hg1⟩ := h.sticky s hs hb
    obtain ⟨z, t, e2, hb2, hg2⟩ := readN_sticky h k s1 hg1 (by rw [hb1]; exact hb)
    exact ⟨a :: z, t, by simp only [readN, e1, Option.bind_some, e2], by rw [hb2, hb1], hg2⟩
/-- Rounds that read so many, and leave off where something is wrong. -/
theorem sim_rounds {S α : Type} {V : View S} {m : S → Option (α × S)} {E : α → List Int} {P : α → Prop} (h : Reads V m E P) (n : Nat) (go : List α → Nat → S → Option (List α × S))
    (hend : ∀ l s, V.good s → V.bad s = 0 → l.length = n → go l n s = some (l, s))
    (hnext : ∀ l i s a s', i < n → l.length = i → V.good s → V.bad s = 0 → m s = some (a, s') → V.good s' → V.bad s' = 0 → go l i s = go (l ++ [a]) (i + 1) s')
    (hstop : ∀ l i s a s', i < n → l.length = i → V.good s → V.bad s = 0 → m s = some (a, s') → V.good s' → V.bad s' ≠ 0 → ∃ b t, go l i s = some (b, t) ∧ V.bad t = V.bad s' ∧ V.good t) :
    ∀ (k i : Nat) (l : List α) (s : S), i + k = n → l.length = i → V.good s → V.bad s = 0 → ∀ a s', readN m k s = some (a, s') → V.good s' → (V.bad s' = 0 → go l i s = some (l ++ a, s')) ∧ (V.bad s' ≠ 0 → ∃ b t, go l i s = some (b, t) ∧ V.bad t = V.bad s' ∧ V.good t)
  | 0, i, l, s, hi, hl, hs, hb, a, s', e, hg => by
    obtain rfl : i = n := by omega
    rw [readN] at e
    obtain ⟨rfl, rfl⟩ := Prod.mk.inj (Option.some.inj e)
    exact ⟨fun _ => by rw [List.append_nil]; exact hend l s hs hb hl, fun h => absurd hb h⟩
  | k + 1, i, l, s, hi, hl, hs, hb, a, s', e, hg => by
    rw [readN] at e
    obtain ⟨x, s1, e1, hg1⟩ := h.total s hs
    obtain hb1 | hb1 := Decidable.em (V.bad s1 = 0)
    · rw [e1, Option.bind_some] at e
      cases e2 : readN m k s1 with
      | none => simp [e2] at e
      | some y =>
        simp only [e2, Option.bind_some] at e
        obtain ⟨rfl, rfl⟩ := Prod.mk.inj (Option.some.inj e)
        rw [hnext l i s x s1 (by omega) hl hs hb e1 hg1 hb1]
        have := sim_rounds h n go hend hnext hstop k (i + 1) (l ++ [x]) s1 (by omega) (by simp; omega) hg1 hb1 y.1 y.2 e2 hg
        simpa [List.append_assoc] using this
    · obtain ⟨b, t, q1, q2, q3⟩ := hstop l i s x s1 (by omega) hl hs hb e1 hg1 hb1
      rw [e1, Option.bind_some] at e
      obtain ⟨z, t', e2, hb2, _⟩ := readN_sticky h k s1 hg1 hb1
      simp only [e2, Option.bind_some] at e
      obtain ⟨rfl, rfl⟩ := Prod.mk.inj (Option.some.inj e)
      exact ⟨fun h0 => absurd (hb2 ▸ h0) hb1, fun _ => ⟨b, t, q1, by rw [q2, hb2], q3⟩⟩
end Go.Proofs.YtcddajbcbkbipaaGreatDoor

namespace Go.Proofs.YtcddajbcbkbipaaGreatDoor
open Go Go.RowKit
set_option linter.unusedVariables false
set_option linter.unusedSimpArgs false

def numE (n : Int) : List Int := putN n.toNat
def phiE (p : TPhi) : List Int := numE p.Bits ++ (numE p.Dst ++ (rowE p.From ++ rowE p.Args))
def opE (o : TOp) : List Int := numE o.Kind ++ (numE o.Bits ++ (numE o.Lanes ++ (numE o.Dst ++ (rowE o.Args ++ numE o.Imm))))
def endE (e : TEnd) : List Int := numE e.Kind ++ (numE e.Arg ++ rowE e.To)
def manyE {α : Type} (E : α → List Int) (l : List α) : List Int := numE l.length ++ (l.map E).flatten
def blockE (b : TBlock) : List Int := manyE phiE b.Phis ++ (manyE opE b.Ops ++ endE b.End)
def funcE (f : TFunc) : List Int := rowE f.Params ++ (numE f.Ret ++ manyE blockE f.Blocks)

/-! ### Numbers and lists, as the program's own readers read them -/
theorem numE_bytes (n : Int) : Bytes (numE n) := putN_bytes _
theorem Bytes.flat' {α : Type} {E : α → List Int} (h : ∀ a, Bytes (E a)) (l : List α) : Bytes (l.map E).flatten := fun x hx => by
  obtain ⟨y, hy, hxy⟩ := List.mem_flatten.1 hx
  obtain ⟨a, _, rfl⟩ := List.mem_map.1 hy
  exact h a x hxy
theorem phiE_bytes (p : TPhi) : Bytes (phiE p) := (numE_bytes _).app ((numE_bytes _).app ((rowE_bytes _).app (rowE_bytes _)))
theorem opE_bytes (o : TOp) : Bytes (opE o) := (numE_bytes _).app ((numE_bytes _).app ((numE_bytes _).app ((numE_bytes _).app ((rowE_bytes _).app (numE_bytes _)))))
theorem endE_bytes (e : TEnd) : Bytes (endE e) := (numE_bytes _).app ((numE_bytes _).app (rowE_bytes _))
theorem manyE_bytes {α : Type} {E : α → List Int} (h : ∀ a, Bytes (E a)) (l : List α) : Bytes (manyE E l) := (numE_bytes _).app (Bytes.flat' h l)
theorem blockE_bytes (b : TBlock) : Bytes (blockE b) := (manyE_bytes phiE_bytes _).app ((manyE_bytes opE_bytes _).app (endE_bytes _))
theorem funcE_bytes (f : TFunc) : Bytes (funcE f) := (rowE_bytes _).app ((numE_bytes _).app (manyE_bytes blockE_bytes _))

/-- What reads by Get. -/
theorem reads_wide {S : Type} {V : View S} {m : S → Option (Int × S)} (hV : ∀ s, V.good s → Bytes (V.left s) ∧ (V.left s).length < 2 ^ 61)
    (hbad : ∀ s, V.good s → V.bad s ≠ 0 → ∃ a s', m s = some (a, s') ∧ V.bad s' = V.bad s ∧ V.good s')
    (hok : ∀ s, V.good s → V.bad s = 0 → ∀ (v e : Int) (n : Nat), m_num_Get (V.left s) = some (v, (n : Int), e) → n ≤ (V.left s).length → ∃ s', m s = some (v, s') ∧ V.left s' = (V.left s).drop n ∧ V.bad s' = e ∧ V.good s') : Reads V m numE wideP where
  sticky := hbad
  any s hs hb := by
    obtain ⟨hB, hl⟩ := hV s hs
    have hg := get_eq (V.left s) hB (by omega)
    rcases getS_inv (V.left s) hB with ⟨w, hw, hd, he⟩ | he | he
    · rw [he] at hg
      have hle : (putN w).length ≤ (V.left s).length := by
        conv => rhs; rw [hd]
        simp
      obtain ⟨s', q1, q2, q3, q4⟩ := hok s hs hb _ _ _ hg hle
      exact ⟨_, s', q1, q4, fun _ => ⟨⟨by omega, by rw [two64] at hw; omega⟩, by rw [q2]; simpa [numE] using hd⟩⟩
    · rw [he] at hg
      obtain ⟨s', q1, q2, q3, q4⟩ := hok s hs hb 0 2 0 hg (Nat.zero_le _)
      exact ⟨_, s', q1, q4, fun h => absurd (q3.symm.trans h) (by decide)⟩
    · rw [he] at hg
      obtain ⟨s', q1, q2, q3, q4⟩ := hok s hs hb 0 3 0 hg (Nat.zero_le _)
      exact ⟨_, s', q1, q4, fun h => absurd (q3.symm.trans h) (by decide)⟩
  whole s a more hs hb hp hl := by
    obtain ⟨hB, hlen⟩ := hV s hs
    have hg := get_eq (V.left s) hB (by omega)
    rw [hl, numE, getS_put (by rw [two64]; have := hp.2; omega), ← numE, ← hl] at hg
    obtain ⟨s', q1, q2, q3, q4⟩ := hok s hs hb _ _ _ hg (by rw [hl]; simp)
    refine ⟨s', by rw [q1, Int.toNat_of_nonneg hp.1], q3, by rw [q2, hl]; simp, q4⟩
  cut s a c hs hb hp hc hl := by
    obtain ⟨hB, hlen⟩ := hV s hs
    have hg := get_eq (V.left s) hB (by omega)
    rw [hl, numE, getS_short (by rw [two64]; have := hp.2; omega) hc, ← numE, ← hl] at hg
    obtain ⟨s', q1, q2, q3, q4⟩ := hok s hs hb 0 2 0 hg (Nat.zero_le _)
    exact ⟨_, s', q1, q3, q4⟩

/-- What reads a number, at most so much. -/
theorem reads_most {S : Type} {V : View S} {w m : S → Option (Int × S)} (top : Int) (ht : top < 9223372036854775808) (h : Reads V w numE wideP)
    (hok : ∀ s v s', V.good s → w s = some (v, s') → V.good s' → V.bad s' = 0 → 0 ≤ v → v ≤ top → m s = some (v, s'))
    (hbig : ∀ s v s', V.good s → w s = some (v, s') → V.good s' → V.bad s' = 0 → top < v → ∃ a t, m s = some (a, t) ∧ V.bad t ≠ 0 ∧ V.good t)
    (hbad : ∀ s v s', V.good s → w s = some (v, s') → V.good s' → V.bad s' ≠ 0 → ∃ a t, m s = some (a, t) ∧ V.bad t = V.bad s' ∧ V.good t) : Reads V m numE (fun n => 0 ≤ n ∧ n ≤ top) where
  sticky s hs hb := by
    obtain ⟨a, s', e, hb', hg⟩ := h.sticky s hs hb
    obtain ⟨b, t, q1, q2, q3⟩ := hbad s a s' hs e hg (by rw [hb']; exact hb)
    exact ⟨b, t, q1, by rw [q2, hb'], q3⟩
  any s hs hb := by
    obtain ⟨a, s', e, hg, hd⟩ := h.any s hs hb
    by_cases hb' : V.bad s' = 0
    · obtain ⟨p1, p2⟩ := hd hb'
      by_cases hv : a ≤ top
      · exact ⟨a, s', hok s a s' hs e hg hb' p1.1 hv, hg, fun _ => ⟨⟨p1.1, hv⟩, p2⟩⟩
      · obtain ⟨b, t, q1, q2, q3⟩ := hbig s a s' hs e hg hb' (by omega)
        exact ⟨b, t, q1, q3, fun h => absurd h q2⟩
    · obtain ⟨b, t, q1, q2, q3⟩ := hbad s a s' hs e hg hb'
      exact ⟨b, t, q1, q3, fun h => absurd (q2 ▸ h) hb'⟩
  whole s a more hs hb hp hl := by
    obtain ⟨s', e, hb', hl', hg⟩ := h.whole s a more hs hb ⟨hp.1, by have := hp.2; omega⟩ hl
    exact ⟨s', hok s a s' hs e hg hb' hp.1 hp.2, hb', hl', hg⟩
  cut s a c hs hb hp hc hl := by
    obtain ⟨a', s', e, hb', hg⟩ := h.cut s a c hs hb ⟨hp.1, by have := hp.2; omega⟩ hc hl
    obtain ⟨b, t, q1, q2, q3⟩ := hbad s a' s' hs e hg (by rw [hb']; decide)
    exact ⟨b, t, q1, by rw [q2, hb'], q3⟩

/-! ### Phis, operations, ends, blocks, functions -/
section
variable {S : Type} {V : View S} {num wide : S → Option (Int × S)} {list list' : S → Option (List Int × S)}
theorem reads_phi (hn : Reads V num numE isNum) (hl : Reads V list rowE (isList 64)) :
    Reads V (fun s => (num s).bind fun x1 => (num x1.2).bind fun x2 => (list x2.2).bind fun x3 => (list x3.2).bind fun x4 => some ((⟨x1.1, x2.1, x3.1, x4.1⟩ : TPhi), x4.2)) phiE (fun p => phiB p = true) := by
  refine ((hn.pair (hn.pair (hl.pair hl))).map (fun x => (⟨x.1, x.2.1, x.2.2.1, x.2.2.2⟩ : TPhi)) (fun p => (p.Bits, p.Dst, p.From, p.Args)) (fun _ _ => rfl) ?_ ?_ (fun _ _ => rfl)).of_eq (fun s => ?_)
  · intro p hp
    simp only [phiB, Bool.and_eq_true] at hp
    exact ⟨numB_iff.1 hp.1.1.1, numB_iff.1 hp.1.1.2, ⟨hp.1.2, (listB_iff.1 hp.1.2).2⟩, hp.2, (listB_iff.1 hp.2).2⟩
  · rintro ⟨a, b, c, d⟩ ⟨h1, h2, h3, h4⟩
    simp only [phiB, Bool.and_eq_true]
    exact ⟨⟨⟨numB_iff.2 h1, numB_iff.2 h2⟩, h3.1⟩, h4.1⟩
  · simp only [Option.bind_assoc, Option.bind_some]
theorem reads_op (hn : Reads V num numE isNum) (hl : Reads V list rowE (isList 64)) (hw : Reads V wide numE wideP) :
    Reads V (fun s => (num s).bind fun x1 => (num x1.2).bind fun x2 => (num x2.2).bind fun x3 => (num x3.2).bind fun x4 => (list x4.2).bind fun x5 => (wide x5.2).bind fun x6 => some ((⟨x1.1, x2.1, x3.1, x4.1, x5.1, x6.1⟩ : TOp), x6.2)) opE (fun o => opB o = true ∧ wideP o.Imm) := by
  refine ((hn.pair (hn.pair (hn.pair (hn.pair (hl.pair hw))))).map (fun x => (⟨x.1, x.2.1, x.2.2.1, x.2.2.2.1, x.2.2.2.2.1, x.2.2.2.2.2⟩ : TOp)) (fun o => (o.Kind, o.Bits, o.Lanes, o.Dst, o.Args, o.Imm)) (fun _ _ => rfl) ?_ ?_ (fun _ _ => rfl)).of_eq (fun s => ?_)
  · rintro o ⟨hp, hi⟩
    simp only [opB, Bool.and_eq_true] at hp
    exact ⟨numB_iff.1 hp.1.1.1.1, numB_iff.1 hp.1.1.1.2, numB_iff.1 hp.1.1.2, numB_iff.1 hp.1.2, ⟨hp.2, (listB_iff.1 hp.2).2⟩, hi⟩
  · rintro ⟨a, b, c, d, e, i⟩ ⟨h1, h2, h3, h4, h5, h6⟩
    simp only [opB, Bool.and_eq_true]
    exact ⟨⟨⟨⟨⟨numB_iff.2 h1, numB_iff.2 h2⟩, numB_iff.2 h3⟩, numB_iff.2 h4⟩, h5.1⟩, h6⟩
  · simp only [Option.bind_assoc, Option.bind_some]
theorem reads_end (hn : Reads V num numE isNum) (hl : Reads V list rowE (isList 64)) :
    Reads V (fun s => (num s).bind fun x1 => (num x1.2).bind fun x2 => (list x2.2).bind fun x3 => some ((⟨x1.1, x2.1, x3.1⟩ : TEnd), x3.2)) endE (fun e => endB e = true) := by
  refine ((hn.pair (hn.pair hl)).map (fun x => (⟨x.1, x.2.1, x.2.2⟩ : TEnd)) (fun e => (e.Kind, e.Arg, e.To)) (fun _ _ => rfl) ?_ ?_ (fun _ _ => rfl)).of_eq (fun s => ?_)
  · intro p hp
    simp only [endB, Bool.and_eq_true] at hp
    exact ⟨numB_iff.1 hp.1.1, numB_iff.1 hp.1.2, hp.2, (listB_iff.1 hp.2).2⟩
  · rintro ⟨a, b, c⟩ ⟨h1, h2, h3⟩
    simp only [endB, Bool.and_eq_true]
    exact ⟨⟨numB_iff.2 h1, numB_iff.2 h2⟩, h3.1⟩
  · simp only [Option.bind_assoc, Option.bind_some]
/-- How many there are, and each. -/
theorem reads_many {α : Type} [Inhabited α] {cnt : S → Option (Int × S)} {m : S → Option (α × S)} {E : α → List Int} {P : α → Prop} (top : Int) (hc : Reads V cnt numE (fun n => 0 ≤ n ∧ n ≤ top)) (hm : Reads V m E P) :
    Reads V (fun s => (cnt s).bind fun x => readN m x.1.toNat x.2) (manyE E) (fun l => (l.length : Int) ≤ top ∧ ∀ a ∈ l, P a) := by
  have h := Reads.dep (β := List α) (Q := fun l => ∀ a ∈ l, P a) (F := fun l => (l.map E).flatten) (n := fun x s => readN m x.toNat s) (fun l => (l.length : Int)) hc (fun a ha => ?_) (fun a s hs hb => readN_sticky hm _ s hs hb)
  · refine ⟨h.sticky, fun s hs hb => ?_, fun s a more hs hb hp hl => ?_, fun s a c hs hb hp hc hl => ?_⟩
    · obtain ⟨a, s', e, hg, hd⟩ := h.any s hs hb
      exact ⟨a, s', e, hg, fun h0 => ⟨⟨(hd h0).1.1.2, (hd h0).1.2⟩, (hd h0).2⟩⟩
    · exact h.whole s a more hs hb ⟨⟨by omega, hp.1⟩, hp.2⟩ hl
    · exact h.cut s a c hs hb ⟨⟨by omega, hp.1⟩, hp.2⟩ hc hl
  · have h := hm.many a.toNat
    refine ⟨h.sticky, fun s hs hb => ?_, fun s l more hs hb hp hl => ?_, fun s l c hs hb hp hc hl => ?_⟩
    · obtain ⟨l, s', e, hg, hd⟩ := h.any s hs hb
      exact ⟨l, s', e, hg, fun h0 => ⟨⟨(hd h0).1.2, by have := (hd h0).1.1; have := ha.1; omega⟩, (hd h0).2⟩⟩
    · exact h.whole s l more hs hb ⟨by have := hp.2; omega, hp.1⟩ hl
    · exact h.cut s l c hs hb ⟨by have := hp.2; omega, hp.1⟩ hc hl
theorem reads_block {phis : S → Option (List TPhi × S)} {ops : S → Option (List TOp × S)} {en : S → Option (TEnd × S)} (hp : Reads V phis (manyE phiE) (fun l => (l.length : Int) ≤ 512 ∧ ∀ p ∈ l, phiB p = true))
    (ho : Reads V ops (manyE opE) (fun l => (l.length : Int) ≤ 512 ∧ ∀ o ∈ l, opB o = true ∧ wideP o.Imm)) (he : Reads V en endE (fun e => endB e = true)) :
    Reads V (fun s => (phis s).bind fun x1 => (ops x1.2).bind fun x2 => (en x2.2).bind fun x3 => some ((⟨x1.1, x2.1, x3.1⟩ : TBlock), x3.2)) blockE OkB := by
  refine ((hp.pair (ho.pair he)).map (fun x => (⟨x.1, x.2.1, x.2.2⟩ : TBlock)) (fun b => (b.Phis, b.Ops, b.End)) (fun _ _ => rfl) ?_ ?_ (fun _ _ => rfl)).of_eq (fun s => ?_)
  · rintro b ⟨h1, h2, h3, h4⟩
    obtain ⟨q1, q2, q3⟩ := blockB_iff.1 h1
    exact ⟨⟨by show (b.Phis.length : Int) ≤ 512; omega, q1⟩, ⟨by show (b.Ops.length : Int) ≤ 512; omega, fun o ho => ⟨q2 o ho, h4 o ho⟩⟩, q3⟩
  · rintro ⟨a, b, c⟩ ⟨⟨h1, h2⟩, ⟨h3, h4⟩, h5⟩
    exact ⟨blockB_iff.2 ⟨h2, fun o ho => (h4 o ho).1, h5⟩, by simpa using (show a.length ≤ 512 by simp only at h1; omega), by simpa using (show b.length ≤ 512 by simp only at h3; omega), fun o ho => (h4 o ho).2⟩
  · simp only [Option.bind_assoc, Option.bind_some]
theorem reads_func {blocks : S → Option (List TBlock × S)} (hl : Reads V list' rowE (isList 16)) (hn : Reads V num numE isNum) (hb : Reads V blocks (manyE blockE) (fun l => (l.length : Int) ≤ 64 ∧ ∀ b ∈ l, OkB b)) :
    Reads V (fun s => (list' s).bind fun x1 => (num x1.2).bind fun x2 => (blocks x2.2).bind fun x3 => some ((⟨x1.1, x2.1, x3.1⟩ : TFunc), x3.2)) funcE OkF := by
  refine ((hl.pair (hn.pair hb)).map (fun x => (⟨x.1, x.2.1, x.2.2⟩ : TFunc)) (fun f => (f.Params, f.Ret, f.Blocks)) (fun _ _ => rfl) ?_ ?_ (fun _ _ => rfl)).of_eq (fun s => ?_)
  · rintro f ⟨h1, h2, h3, h4, h5⟩
    exact ⟨⟨h1, h2⟩, numB_iff.1 h3, by show (f.Blocks.length : Int) ≤ 64; omega, h5⟩
  · rintro ⟨a, b, c⟩ ⟨⟨h1, h2⟩, h3, h4, h5⟩
    exact ⟨h1, h2, numB_iff.2 h3, by simpa using (show c.length ≤ 64 by simp only at h4; omega), h5⟩
  · simp only [Option.bind_assoc, Option.bind_some]
end

/-! ### How many, how long -/
theorem numE_len {n : Int} (h : wideP n) : (numE n).length ≤ 10 := putN_len10 (by rw [two64]; have := h.2; have := h.1; omega)
theorem rowE_len {l : List Int} (h : listB l = true) : (rowE l).length ≤ 650 := by
  obtain ⟨h1, h2⟩ := listB_iff.1 h
  have q1 : (putN l.length).length ≤ 10 := putN_len10 (by rw [two64]; omega)
  have q2 : (flat l).length ≤ l.length * 10 := flat_bound l (fun x => putN x.toNat) 10 fun x hx => by
    have := h1 x hx
    exact putN_len10 (by rw [two64]; omega)
  rw [rowE, List.length_append]
  omega
theorem phiE_len {p : TPhi} (h : phiB p = true) : (phiE p).length ≤ 1320 := by
  simp only [phiB, Bool.and_eq_true] at h
  have q1 := numE_len (numB_wide h.1.1.1)
  have q2 := numE_len (numB_wide h.1.1.2)
  have q3 := rowE_len h.1.2
  have q4 := rowE_len h.2
  simp only [phiE, List.length_append]
  omega
theorem opE_len {o : TOp} (h : opB o = true) (hi : wideP o.Imm) : (opE o).length ≤ 700 := by
  simp only [opB, Bool.and_eq_true] at h
  have q1 := numE_len (numB_wide h.1.1.1.1)
  have q2 := numE_len (numB_wide h.1.1.1.2)
  have q3 := numE_len (numB_wide h.1.1.2)
  have q4 := numE_len (numB_wide h.1.2)
  have q5 := rowE_len h.2
  have q6 := numE_len hi
  simp only [opE, List.length_append]
  omega
theorem endE_len {e : TEnd} (h : endB e = true) : (endE e).length ≤ 670 := by
  simp only [endB, Bool.and_eq_true] at h
  have q1 := numE_len (numB_wide h.1.1)
  have q2 := numE_len (numB_wide h.1.2)
  have q3 := rowE_len h.2
  simp only [endE, List.length_append]
  omega
theorem manyE_len {α : Type} {E : α → List Int} {l : List α} (n B : Nat) (hl : l.length ≤ n) (hn : n ≤ 1000) (h : ∀ a ∈ l, (E a).length ≤ B) : (manyE E l).length ≤ 10 + n * B := by
  have q1 : (numE (l.length : Int)).length ≤ 10 := numE_len ⟨by omega, by omega⟩
  have q2 := flat_bound l E B h
  have q3 : l.length * B ≤ n * B := Nat.mul_le_mul_right _ hl
  simp only [manyE, List.length_append]
  omega
theorem blockE_len {b : TBlock} (h : OkB b) : (blockE b).length ≤ 1040000 := by
  obtain ⟨h1, h2, h3⟩ := blockB_iff.1 h.may
  have q1 := manyE_len (E := phiE) 512 1320 h.phis (by omega) fun p hp => phiE_len (h1 p hp)
  have q2 := manyE_len (E := opE) 512 700 h.ops (by omega) fun o ho => opE_len (h2 o ho) (h.imm o ho)
  have q3 := endE_len h3
  simp only [blockE, List.length_append]
  omega
theorem funcE_len {f : TFunc} (h : OkF f) : (funcE f).length ≤ 66600000 := by
  have q1 := rowE_len h.params
  have q2 := numE_len (numB_wide h.ret)
  have q3 := manyE_len (E := blockE) 64 1040000 h.blocks (by omega) fun b hb => blockE_len (h.block b hb)
  simp only [funcE, List.length_append]
  omega
end Go.Proofs.YtcddajbcbkbipaaGreatDoor

namespace Go.Proofs.YtcddajbcbkbipaaGreatDoor
open Go Go.RowKit
set_option linter.unusedVariables false
set_option linter.unusedSimpArgs false
/-- What the program's functions answer. -/
structure Facts : Prop where
  may : ∀ f, InF f → m_code_May f = some (mayF f)
  size : ∀ f, InF f → m_code_Size f = some (sizeW f)
  same : ∀ f g, InF f → InF g → m_code_Same f g = some (decide (f = g))
  enc : ∀ f, InF f → (mayF f = true → OkF f) → m_code_Encode f = some (bif mayF f then funcE f else [])
  whole : ∀ f, OkF f → 1 ≤ f.Blocks.length → sizeN f ≤ 512 → m_code_Decode (funcE f) = some (f, 0)
  more : ∀ f x, OkF f → 1 ≤ f.Blocks.length → sizeN f ≤ 512 → 0 ≤ x ∧ x < 256 → m_code_Decode (funcE f ++ [x]) = some (noF, 3)
  cut : ∀ f c, OkF f → 1 ≤ f.Blocks.length → sizeN f ≤ 512 → c < (funcE f).length → m_code_Decode ((funcE f).take c) = some (noF, 2)
  any : ∀ b, Bytes b → b.length < 2 ^ 60 → ∃ g e, m_code_Decode b = some (g, e) ∧ (e = 0 → OkF g ∧ 1 ≤ g.Blocks.length ∧ sizeN g ≤ 512 ∧ funcE g = b) ∧ (e ≠ 0 → g = noF)

theorem funcE_pos (f : TFunc) : 0 < (funcE f).length := by
  have := putN_pos f.Params.length
  simp only [funcE, rowE, List.length_append]
  omega
end Go.Proofs.YtcddajbcbkbipaaGreatDoor

namespace Go.Proofs.YtcddajbcbkbipaaGreatDoor
open Go Go.RowKit
set_option linter.unusedVariables false
set_option linter.unusedSimpArgs false
section
variable (F : Facts5)
include F
theorem bytes5 (C : Facts) (f : TFunc) (hf : InF f) : m_locksteplaw05_TextBytes f = some true := by
  obtain ⟨sm, hs, hok⟩ := small_parts f hf
  unfold m_locksteplaw05_TextBytes
  rw [awake5 F, Option.bind_some, Bool.not_true, cond_false, hs, Option.bind_some]
  cases sm with
  | false => rfl
  | true =>
    have hok' : mayF f = true → OkF f := fun h => (hok rfl h).1
    rw [Bool.not_true, cond_false, F.print f hf hok', Option.bind_some, C.enc f hf hok', Option.bind_some]
    unfold printF
    cases hm : mayF f with
    | false => rfl
    | true => cases hn : namedB f with
      | false => rfl
      | true =>
        obtain ⟨ok, h512, h1⟩ := hok rfl hm
        show (bif ((0 : Int) != 0) then _ else Option.bind (m_text_Parse (textS f)) _) = _
        rw [show ((0 : Int) != 0) = false from rfl, cond_false, parse_text F ok (okT_ok hm ok hn), Option.bind_some]
        show Option.bind (m_code_Decode (funcE f)) _ = _
        rw [C.whole f ok h1 h512, Option.bind_some]
        show Option.bind (m_code_Same f f) _ = _
        rw [C.same f f hf hf, decide_eq_true rfl, Option.bind_some]
        rfl
end
end Go.Proofs.YtcddajbcbkbipaaGreatDoor

namespace Go.Proofs.YtcddajbcbkbipaaGreatDoor
open Go Go.RowKit
set_option linter.unusedVariables false
set_option linter.unusedSimpArgs false

theorem sum_suc {α : Type} (l : List α) (g : α → Nat) : (l.map fun a => g a + 1).sum = l.length + (l.map g).sum := by
  induction l with
  | nil => rfl
  | cons a l ih => simp only [List.map_cons, List.sum_cons, ih, List.length_cons]; omega
theorem w64_plus (a b : Int) : w64 (a + w64 b) = w64 (a + b) := by rw [Int.add_comm, w64_add, Int.add_comm]
theorem xsize (f : TFunc) (hf : InF f) : m_code_Size f = some (sizeW f) := by
  have hl := loop_addw f.Blocks (default : TBlock) (fun b => b.Phis.length + b.Ops.length) id (m_code_Size_L1 f) (fun n i hi => ?_) (fun n => ?_) f.Blocks.length 0 f.Blocks.length (Nat.zero_add _)
  · unfold m_code_Size
    rw [w64_nat (by have := hf.blocks; rw [maxLen_eq] at this; omega), show ((0 : Nat) : Int) = 0 from rfl] at hl
    rw [hl, Option.bind_some, List.drop_zero, sizeW, sizeN, show (sizeB : TBlock → Nat) = (fun b => (b.Phis.length + b.Ops.length) + 1) from rfl, sum_suc]
    rfl
  · have e1 : decide ((i : Int) < (f.Blocks.length : Int)) = true := decide_eq_true (by omega)
    unfold m_code_Size_L1
    simp only [e1, cond_true, chk_pos' (inB_nat hi), Int.toNat_natCast, w64_suc' hi hf.blocks, w64_plus, w64_add]
    rw [show (n : Int) + (((f.Blocks.getD i default).Phis.length : Int) + ((f.Blocks.getD i default).Ops.length : Int)) = ((n + ((f.Blocks.getD i default).Phis.length + (f.Blocks.getD i default).Ops.length) : Nat) : Int) by omega]
  · have e1 : decide ((f.Blocks.length : Int) < (f.Blocks.length : Int)) = false := by simp
    unfold m_code_Size_L1
    simp only [e1, cond_false, id]

/-- Whether all of a list fit, as such rounds tell it. -/
theorem all_loop {α : Type} (l : List α) (d : α) (p : α → Bool) (f : Int → Option (LR Int (Unit ⊕ Bool))) (hn : ∀ i : Nat, i < l.length → f i = bif p (l.getD i d) then some (.next ((i : Int) + 1)) else some (.done (.inr false)))
    (he : f l.length = some (.done (.inl ()))) : loopO f 0 = some (bif l.all p then .inl () else .inr false) := by
  have := loop_all l d p f (.inl ()) (.inr false) (fun i hi hp => by rw [hn i hi, hp]; rfl) (fun i hi hp => by rw [hn i hi, hp]; rfl) he l.length 0 (Nat.zero_add _)
  simpa using this
theorem numB_cond (x : Int) : (bif decide (x < 0) then true else decide (2147483647 < x)) = !numB x := by
  unfold numB
  by_cases h1 : x < 0
  · have : ¬ 0 ≤ x := by omega
    simp [h1, this]
  · by_cases h2 : 2147483647 < x
    · have : ¬ x ≤ 2147483647 := by omega
      simp [h1, h2, this]
    · have h3 : 0 ≤ x := by omega
      have h4 : x ≤ 2147483647 := by omega
      simp [h1, h2, h3, h4]
theorem xfits (l : List Int) (h : l.length ≤ maxLen) : m_code_numbersFit l = some (l.all numB) := by
  have hl := all_loop l 0 numB (m_code_numbersFit_L1 l) (fun i hi => ?_) ?_
  · unfold m_code_numbersFit
    rw [hl]
    cases l.all numB <;> rfl
  · have e1 : decide ((i : Int) < (l.length : Int)) = true := decide_eq_true (by omega)
    unfold m_code_numbersFit_L1
    simp only [e1, cond_true, chk_pos' (inB_nat hi), Int.toNat_natCast, numB_cond, w64_suc' hi h]
    cases numB (l.getD i 0) <;> simp
  · unfold m_code_numbersFit_L1
    simp
theorem xlistFits (l : List Int) (h : l.length ≤ maxLen) : m_code_listFits l = some (listB l) := by
  unfold m_code_listFits
  rw [xfits l h]
  by_cases h1 : l.length ≤ 64
  · have e1 : decide ((l.length : Int) ≤ 64) = true := decide_eq_true (by omega)
    rw [e1]
    simp [listB, h1]
  · have e1 : decide ((l.length : Int) ≤ 64) = false := decide_eq_false (by omega)
    rw [e1]
    simp [listB, h1]
theorem short_max {l : List Int} (h : l.length ≤ 10) : l.length ≤ maxLen := by rw [maxLen_eq]; omega
theorem xphiFits (p : TPhi) (h1 : p.From.length ≤ maxLen) (h2 : p.Args.length ≤ maxLen) : m_code_phiFits p = some (phiB p) := by
  unfold m_code_phiFits phiB
  rw [xfits _ (short_max (by simp)), xlistFits _ h1, xlistFits _ h2]
  simp only [List.all_cons, List.all_nil, Bool.and_true]
  cases numB p.Bits <;> cases numB p.Dst <;> cases listB p.From <;> cases listB p.Args <;> rfl
theorem xopFits (o : TOp) (h1 : o.Args.length ≤ maxLen) : m_code_opFits o = some (opB o) := by
  unfold m_code_opFits opB
  rw [xfits _ (short_max (by simp)), xlistFits _ h1]
  simp only [List.all_cons, List.all_nil, Bool.and_true]
  cases numB o.Kind <;> cases numB o.Bits <;> cases numB o.Lanes <;> cases numB o.Dst <;> cases listB o.Args <;> rfl
theorem xendFits (e : TEnd) (h1 : e.To.length ≤ maxLen) : m_code_endFits e = some (endB e) := by
  unfold m_code_endFits endB
  rw [xfits _ (short_max (by simp)), xlistFits _ h1]
  simp only [List.all_cons, List.all_nil, Bool.and_true]
  cases numB e.Kind <;> cases numB e.Arg <;> cases listB e.To <;> rfl
theorem not_cond {X : Type} (b : Bool) (x y : X) : (bif !b then x else y) = bif b then y else x := by cases b <;> rfl
theorem xphis_fit (l : List TPhi) (hl : l.length ≤ maxLen) (h : ∀ p ∈ l, p.From.length ≤ maxLen ∧ p.Args.length ≤ maxLen) : m_code_allFit_api_Phi l = some (l.all phiB) := by
  have hl' := all_loop l (default : TPhi) phiB (m_code_allFit_api_Phi_L1 l) (fun i hi => ?_) ?_
  · unfold m_code_allFit_api_Phi
    rw [hl']
    cases l.all phiB <;> rfl
  · have e1 : decide ((i : Int) < (l.length : Int)) = true := decide_eq_true (by omega)
    have := h _ (getD_mem (d := (default : TPhi)) hi)
    unfold m_code_allFit_api_Phi_L1
    simp only [e1, cond_true, chk_pos' (inB_nat hi), Int.toNat_natCast, xphiFits _ this.1 this.2, Option.bind_some, not_cond, w64_suc' hi hl, Int.natCast_add, Int.natCast_one]
  · unfold m_code_allFit_api_Phi_L1
    simp
theorem xops_fit (l : List TOp) (hl : l.length ≤ maxLen) (h : ∀ o ∈ l, o.Args.length ≤ maxLen) : m_code_allFit_api_Op l = some (l.all opB) := by
  have hl' := all_loop l (default : TOp) opB (m_code_allFit_api_Op_L1 l) (fun i hi => ?_) ?_
  · unfold m_code_allFit_api_Op
    rw [hl']
    cases l.all opB <;> rfl
  · have e1 : decide ((i : Int) < (l.length : Int)) = true := decide_eq_true (by omega)
    have := h _ (getD_mem (d := (default : TOp)) hi)
    unfold m_code_allFit_api_Op_L1
    simp only [e1, cond_true, chk_pos' (inB_nat hi), Int.toNat_natCast, xopFits _ this, Option.bind_some, not_cond, w64_suc' hi hl, Int.natCast_add, Int.natCast_one]
  · unfold m_code_allFit_api_Op_L1
    simp
theorem xblockFits (b : TBlock) (h1 : b.Phis.length ≤ maxLen) (h2 : b.Ops.length ≤ maxLen) (h3 : b.End.To.length ≤ maxLen) (h4 : ∀ p ∈ b.Phis, p.From.length ≤ maxLen ∧ p.Args.length ≤ maxLen) (h5 : ∀ o ∈ b.Ops, o.Args.length ≤ maxLen) : m_code_blockFits b = some (blockB b) := by
  unfold m_code_blockFits blockB
  rw [xphis_fit _ h1 h4, xops_fit _ h2 h5, xendFits _ h3]
  cases b.Phis.all phiB <;> cases b.Ops.all opB <;> cases endB b.End <;> rfl
theorem xblocks_fit (f : TFunc) (hf : InF f) : m_code_allFit_api_Block f.Blocks = some (f.Blocks.all blockB) := by
  have hl' := all_loop f.Blocks (default : TBlock) blockB (m_code_allFit_api_Block_L1 f.Blocks) (fun i hi => ?_) ?_
  · unfold m_code_allFit_api_Block
    rw [hl']
    cases f.Blocks.all blockB <;> rfl
  · have e1 : decide ((i : Int) < (f.Blocks.length : Int)) = true := decide_eq_true (by omega)
    have hm := getD_mem (d := (default : TBlock)) hi
    have q := hf.block _ hm
    unfold m_code_allFit_api_Block_L1
    simp only [e1, cond_true, chk_pos' (inB_nat hi), Int.toNat_natCast, xblockFits _ q.1 q.2.1 q.2.2 (hf.phi _ hm) (fun o ho => (hf.op _ hm o ho).1), Option.bind_some, not_cond, w64_suc' hi hf.blocks, Int.natCast_add, Int.natCast_one]
  · unfold m_code_allFit_api_Block_L1
    simp
theorem xmay (f : TFunc) (hf : InF f) : m_code_May f = some (mayF f) := by
  unfold m_code_May mayF
  rw [xsize f hf, xfits _ hf.params, xfits _ (short_max (by simp)), xblocks_fit f hf]
  simp only [List.all_cons, List.all_nil, Bool.and_true, listB]
  have d1 : ∀ n : Nat, decide ((n : Int) < 1) = !decide (1 ≤ n) := fun n => by by_cases h : 1 ≤ n <;> simp [h] <;> omega
  have d2 : ∀ n : Nat, decide ((64 : Int) < (n : Int)) = !decide (n ≤ 64) := fun n => by by_cases h : n ≤ 64 <;> simp [h] <;> omega
  have d3 : ∀ n : Nat, decide ((16 : Int) < (n : Int)) = !decide (n ≤ 16) := fun n => by by_cases h : n ≤ 16 <;> simp [h] <;> omega
  have d4 : ∀ n : Int, decide ((512 : Int) < n) = !decide (n ≤ 512) := fun n => by by_cases h : n ≤ 512 <;> simp [h] <;> omega
  simp only [d1, d2, d3, d4]
  have himp : decide (f.Params.length ≤ 16) = true → decide (f.Params.length ≤ 64) = true := fun h => by simp at h ⊢; omega
  revert himp
  generalize decide (1 ≤ f.Blocks.length) = c1
  generalize decide (f.Blocks.length ≤ 64) = c2
  generalize decide (f.Params.length ≤ 16) = c3
  generalize decide (f.Params.length ≤ 64) = c4
  generalize f.Params.all numB = c6
  generalize numB f.Ret = c7
  generalize f.Blocks.all blockB = c8
  cases c3 with
  | true =>
    intro h
    obtain rfl := h rfl
    simp only [Bool.not_true, beq_self_eq_true, cond_true, Option.bind_some, cond_false]
    generalize decide (sizeW f ≤ 512) = c5
    cases c1 <;> cases c2 <;> cases c6 <;> cases c7 <;> cases c8 <;> cases c5 <;> rfl
  | false =>
    intro _
    cases c1 <;> cases c2 <;> rfl
end Go.Proofs.YtcddajbcbkbipaaGreatDoor

namespace Go.Proofs.YtcddajbcbkbipaaGreatDoor
open Go Go.RowKit
set_option linter.unusedVariables false
set_option linter.unusedSimpArgs false

structure DecFacts (dec : List Int → Option (TFunc × Int)) : Prop where
  whole : ∀ f, OkF f → 1 ≤ f.Blocks.length → sizeN f ≤ 512 → dec (funcE f) = some (f, 0)
  more : ∀ f x, OkF f → 1 ≤ f.Blocks.length → sizeN f ≤ 512 → 0 ≤ x ∧ x < 256 → dec (funcE f ++ [x]) = some (noF, 3)
  cut : ∀ f c, OkF f → 1 ≤ f.Blocks.length → sizeN f ≤ 512 → c < (funcE f).length → dec ((funcE f).take c) = some (noF, 2)
  any : ∀ b, Bytes b → b.length < 2 ^ 60 → ∃ g e, dec b = some (g, e) ∧ (e = 0 → OkF g ∧ 1 ≤ g.Blocks.length ∧ sizeN g ≤ 512 ∧ funcE g = b) ∧ (e ≠ 0 → g = noF)

theorem dec_facts {S : Type} {V : View S} {m : S → Option (TFunc × S)} {P : TFunc → Prop} (h : Reads V m funcE P) (hP : ∀ f, P f → OkF f) (hP' : ∀ f, OkF f → 1 ≤ f.Blocks.length → P f) (dec : List Int → Option (TFunc × Int))
    (hdec : ∀ b, Bytes b → b.length < 2 ^ 61 → ∃ s, V.good s ∧ V.bad s = 0 ∧ V.left s = b ∧ ∀ f s', m s = some (f, s') → V.good s' →
      (V.bad s' ≠ 0 → dec b = some (noF, V.bad s')) ∧
      (V.bad s' = 0 → P f → f.Blocks.length = 0 → ∃ e, e ≠ 0 ∧ dec b = some (noF, e)) ∧
      (V.bad s' = 0 → P f → 1 ≤ f.Blocks.length → V.left s' ≠ [] → dec b = some (noF, 3)) ∧
      (V.bad s' = 0 → P f → 1 ≤ f.Blocks.length → V.left s' = [] → 512 < sizeN f → ∃ e, e ≠ 0 ∧ dec b = some (noF, e)) ∧
      (V.bad s' = 0 → P f → 1 ≤ f.Blocks.length → V.left s' = [] → sizeN f ≤ 512 → dec b = some (f, 0))) : DecFacts dec where
  whole f ok h1 h2 := by
    have hl := funcE_len ok
    obtain ⟨s, hs, hb, hl0, hd⟩ := hdec (funcE f) (funcE_bytes f) (by omega)
    obtain ⟨s', e, hb', hl', hg⟩ := h.whole s f [] hs hb (hP' f ok h1) (by rw [hl0, List.append_nil])
    exact (hd f s' e hg).2.2.2.2 hb' (hP' f ok h1) h1 hl' h2
  more f x ok h1 h2 hx := by
    have hl := funcE_len ok
    obtain ⟨s, hs, hb, hl0, hd⟩ := hdec (funcE f ++ [x]) ((funcE_bytes f).app (fun y hy => by obtain rfl := List.mem_singleton.1 hy; exact hx)) (by simp; omega)
    obtain ⟨s', e, hb', hl', hg⟩ := h.whole s f [x] hs hb (hP' f ok h1) hl0
    exact (hd f s' e hg).2.2.1 hb' (hP' f ok h1) h1 (by rw [hl']; exact List.cons_ne_nil _ _)
  cut f c ok h1 h2 hc := by
    have hl := funcE_len ok
    obtain ⟨s, hs, hb, hl0, hd⟩ := hdec ((funcE f).take c) ((funcE_bytes f).take' c) (by simp; omega)
    obtain ⟨a, s', e, hb', hg⟩ := h.cut s f c hs hb (hP' f ok h1) hc hl0
    rw [(hd a s' e hg).1 (by rw [hb']; decide), hb']
  any b hB hl := by
    obtain ⟨s, hs, hb, hl0, hd⟩ := hdec b hB (by omega)
    obtain ⟨f, s', e, hg, ha⟩ := h.any s hs hb
    obtain ⟨d1, d2, d3, d4, d5⟩ := hd f s' e hg
    by_cases hb' : V.bad s' = 0
    · obtain ⟨p, hE⟩ := ha hb'
      by_cases h0 : f.Blocks.length = 0
      · obtain ⟨x, hx, hdx⟩ := d2 hb' p h0
        exact ⟨noF, x, hdx, fun h => absurd h hx, fun _ => rfl⟩
      · have h1 : 1 ≤ f.Blocks.length := by omega
        by_cases hn : V.left s' = []
        · by_cases h5 : 512 < sizeN f
          · obtain ⟨x, hx, hdx⟩ := d4 hb' p h1 hn h5
            exact ⟨noF, x, hdx, fun h => absurd h hx, fun _ => rfl⟩
          · exact ⟨f, 0, d5 hb' p h1 hn (by omega), fun _ => ⟨hP f p, h1, by omega, by rw [← hl0, hE, hn, List.append_nil]⟩, fun h => absurd rfl h⟩
        · exact ⟨noF, 3, d3 hb' p h1 hn, fun h => absurd h (by decide), fun _ => rfl⟩
    · exact ⟨noF, V.bad s', d1 hb', fun h => absurd h hb', fun _ => rfl⟩
end Go.Proofs.YtcddajbcbkbipaaGreatDoor

namespace Go.Proofs.YtcddajbcbkbipaaGreatDoor
open Go Go.RowKit
set_option linter.unusedVariables false
set_option linter.unusedSimpArgs false

/-- Two lists of one length, as such rounds tell whether they are one. -/
theorem eq_loop {α : Type} [BEq α] [LawfulBEq α] (l m : List α) (d : α) (f : Int → Option (LR Int (Unit ⊕ Bool))) (hlen : l.length = m.length) (hn : ∀ i : Nat, i < l.length → f i = bif l.getD i d == m.getD i d then some (.next ((i : Int) + 1)) else some (.done (.inr false)))
    (he : f l.length = some (.done (.inl ()))) : loopO f 0 = some (bif l == m then .inl () else .inr false) := by
  have := loop_eq l m d f (.inl ()) (.inr false) hlen (fun i hi hp => by rw [hn i hi, hp]; rfl) (fun i hi hp => by rw [hn i hi, hp]; rfl) he l.length 0 (Nat.zero_add _)
  simpa using this
theorem len_ne {α : Type} {l m : List α} (h : ¬ l.length = m.length) : ((l.length : Int) != (m.length : Int)) = true := by simp; omega
theorem len_same {α : Type} {l m : List α} (h : l.length = m.length) : ((l.length : Int) != (m.length : Int)) = false := by simp [h]
theorem beq_len {α : Type} [BEq α] [LawfulBEq α] {l m : List α} (h : ¬ l.length = m.length) : (l == m) = false := by rw [beq_eq_false_iff_ne]; exact fun e => h (by rw [e])
theorem xints (l m : List Int) (hl : l.length ≤ maxLen) : m_slices_Equal_int_int l m = some (l == m) := by
  unfold m_slices_Equal_int_int
  by_cases h : l.length = m.length
  · have hq := eq_loop l m 0 (m_slices_Equal_int_int_L1 l m) h (fun i hi => ?_) ?_
    · rw [len_same h, cond_false, hq]
      cases l == m <;> rfl
    · have e1 : decide ((i : Int) < (l.length : Int)) = true := decide_eq_true (by omega)
      unfold m_slices_Equal_int_int_L1
      simp only [e1, cond_true, chk_pos' (inB_nat hi), chk_pos' (inB_nat (show i < m.length by omega)), Int.toNat_natCast, w64_suc' hi hl, bne, not_cond, Int.natCast_add, Int.natCast_one]
    · unfold m_slices_Equal_int_int_L1
      simp
  · rw [len_ne h, cond_true, beq_len h]
theorem op_dec (a b : TOp) : (a == b) = ((a.Kind == b.Kind) && (a.Bits == b.Bits) && (a.Lanes == b.Lanes) && (a.Dst == b.Dst) && (a.Imm == b.Imm) && (a.Args == b.Args)) := by
  rw [Bool.eq_iff_iff]
  simp only [Bool.and_eq_true, beq_iff_eq]
  cases a; cases b
  simp only [TOp.mk.injEq]
  exact ⟨fun ⟨h1, h2, h3, h4, h5, h6⟩ => ⟨⟨⟨⟨⟨h1, h2⟩, h3⟩, h4⟩, h6⟩, h5⟩, fun ⟨⟨⟨⟨⟨h1, h2⟩, h3⟩, h4⟩, h6⟩, h5⟩ => ⟨h1, h2, h3, h4, h5, h6⟩⟩
theorem xop_same (a b : TOp) (h : a.Args.length ≤ maxLen) : m_kind_Same a b = some (a == b) := by
  unfold m_kind_Same
  rw [xints _ _ h, op_dec]
  cases (a.Kind == b.Kind) <;> cases (a.Bits == b.Bits) <;> cases (a.Lanes == b.Lanes) <;> cases (a.Dst == b.Dst) <;> cases (a.Imm == b.Imm) <;> cases (a.Args == b.Args) <;> rfl
theorem phi_beq (a b : TPhi) : (a == b) = ((a.Bits == b.Bits) && (a.Dst == b.Dst) && (a.From == b.From) && (a.Args == b.Args)) := by
  rw [phi_dec, beq_dec a.From, beq_dec a.Args]
theorem xphi_same (a b : TPhi) (h1 : a.From.length ≤ maxLen) (h2 : a.Args.length ≤ maxLen) : m_code_samePhi a b = some (a == b) := by
  unfold m_code_samePhi
  rw [xints _ _ h1, xints _ _ h2, phi_beq]
  cases (a.Bits == b.Bits) <;> cases (a.Dst == b.Dst) <;> cases (a.From == b.From) <;> cases (a.Args == b.Args) <;> rfl
theorem xend_same (a b : TEnd) (h : a.To.length ≤ maxLen) : m_code_sameEnd a b = some ((a.Kind == b.Kind) && (a.Arg == b.Arg) && decide (a.To = b.To)) := by
  unfold m_code_sameEnd
  rw [xints _ _ h, beq_dec a.To]
  cases (a.Kind == b.Kind) <;> cases (a.Arg == b.Arg) <;> cases decide (a.To = b.To) <;> rfl
theorem xphis_same (l m : List TPhi) (hl : l.length ≤ maxLen) (h : ∀ p ∈ l, p.From.length ≤ maxLen ∧ p.Args.length ≤ maxLen) : m_slices_EqualFunc_api_Phi_api_Phi_api_Phi_api_Phi l m = some (l == m) := by
  unfold m_slices_EqualFunc_api_Phi_api_Phi_api_Phi_api_Phi
  by_cases hm : l.length = m.length
  · have hq := eq_loop l m (default : TPhi) (m_slices_EqualFunc_api_Phi_api_Phi_api_Phi_api_Phi_L1 l m) hm (fun i hi => ?_) ?_
    · rw [len_same hm, cond_false, hq]
      cases l == m <;> rfl
    · have e1 : decide ((i : Int) < (l.length : Int)) = true := decide_eq_true (by omega)
      have q := h _ (getD_mem (d := (default : TPhi)) hi)
      unfold m_slices_EqualFunc_api_Phi_api_Phi_api_Phi_api_Phi_L1
      simp only [e1, cond_true, chk_pos' (inB_nat hi), chk_pos' (inB_nat (show i < m.length by omega)), Int.toNat_natCast, w64_suc' hi hl, xphi_same _ _ q.1 q.2, Option.bind_some, not_cond, Int.natCast_add, Int.natCast_one]
    · unfold m_slices_EqualFunc_api_Phi_api_Phi_api_Phi_api_Phi_L1
      simp
  · rw [len_ne hm, cond_true, beq_len hm]
theorem xops_same (l m : List TOp) (hl : l.length ≤ maxLen) (h : ∀ o ∈ l, o.Args.length ≤ maxLen) : m_slices_EqualFunc_api_Op_api_Op_api_Op_api_Op l m = some (l == m) := by
  unfold m_slices_EqualFunc_api_Op_api_Op_api_Op_api_Op
  by_cases hm : l.length = m.length
  · have hq := eq_loop l m (default : TOp) (m_slices_EqualFunc_api_Op_api_Op_api_Op_api_Op_L1 l m) hm (fun i hi => ?_) ?_
    · rw [len_same hm, cond_false, hq]
      cases l == m <;> rfl
    · have e1 : decide ((i : Int) < (l.length : Int)) = true := decide_eq_true (by omega)
      have q := h _ (getD_mem (d := (default : TOp)) hi)
      unfold m_slices_EqualFunc_api_Op_api_Op_api_Op_api_Op_L1
      simp only [e1, cond_true, chk_pos' (inB_nat hi), chk_pos' (inB_nat (show i < m.length by omega)), Int.toNat_natCast, w64_suc' hi hl, xop_same _ _ q, Option.bind_some, not_cond, Int.natCast_add, Int.natCast_one]
    · unfold m_slices_EqualFunc_api_Op_api_Op_api_Op_api_Op_L1
      simp
  · rw [len_ne hm, cond_true, beq_len hm]
theorem xblock_same (a b : TBlock) (h1 : a.Phis.length ≤ maxLen) (h2 : a.Ops.length ≤ maxLen) (h3 : a.End.To.length ≤ maxLen) (h4 : ∀ p ∈ a.Phis, p.From.length ≤ maxLen ∧ p.Args.length ≤ maxLen) (h5 : ∀ o ∈ a.Ops, o.Args.length ≤ maxLen) : m_code_sameBlock a b = some (a == b) := by
  unfold m_code_sameBlock
  rw [xphis_same _ _ h1 h4, xops_same _ _ h2 h5, block_dec, beq_dec a.Phis, beq_dec a.Ops]
  rw [show m_code_sameEnd ⟨a.End.Kind, a.End.Arg, a.End.To⟩ ⟨b.End.Kind, b.End.Arg, b.End.To⟩ = _ from xend_same a.End b.End h3]
  generalize ((a.End.Kind == b.End.Kind) && (a.End.Arg == b.End.Arg) && decide (a.End.To = b.End.To)) = c
  cases decide (a.Phis = b.Phis) <;> cases decide (a.Ops = b.Ops) <;> cases c <;> rfl
theorem xsame (f g : TFunc) (hf : InF f) (hg : InF g) : m_code_Same f g = some (decide (f = g)) := by
  have hb : m_slices_EqualFunc_api_Block_api_Block_api_Block_api_Block f.Blocks g.Blocks = some (f.Blocks == g.Blocks) := by
    unfold m_slices_EqualFunc_api_Block_api_Block_api_Block_api_Block
    by_cases hm : f.Blocks.length = g.Blocks.length
    · have hq := eq_loop f.Blocks g.Blocks (default : TBlock) (m_slices_EqualFunc_api_Block_api_Block_api_Block_api_Block_L1 f.Blocks g.Blocks) hm (fun i hi => ?_) ?_
      · rw [len_same hm, cond_false, hq]
        cases f.Blocks == g.Blocks <;> rfl
      · have e1 : decide ((i : Int) < (f.Blocks.length : Int)) = true := decide_eq_true (by omega)
        have hmem := getD_mem (d := (default : TBlock)) hi
        have q := hf.block _ hmem
        unfold m_slices_EqualFunc_api_Block_api_Block_api_Block_api_Block_L1
        simp only [e1, cond_true, chk_pos' (inB_nat hi), chk_pos' (inB_nat (show i < g.Blocks.length by omega)), Int.toNat_natCast, w64_suc' hi hf.blocks, xblock_same _ _ q.1 q.2.1 q.2.2 (hf.phi _ hmem) (fun o ho => (hf.op _ hmem o ho).1), Option.bind_some, not_cond, Int.natCast_add, Int.natCast_one]
      · unfold m_slices_EqualFunc_api_Block_api_Block_api_Block_api_Block_L1
        simp
    · rw [len_ne hm, cond_true, beq_len hm]
  unfold m_code_Same
  rw [xints _ _ hf.params, hb, func_dec, beq_dec f.Params, beq_dec f.Blocks]
  cases (f.Ret == g.Ret) <;> cases decide (f.Params = g.Params) <;> cases decide (f.Blocks = g.Blocks) <;> rfl
end Go.Proofs.YtcddajbcbkbipaaGreatDoor

namespace Go.Proofs.YtcddajbcbkbipaaGreatDoor
open Go Go.RowKit
set_option linter.unusedVariables false
set_option linter.unusedSimpArgs false

theorem xrow (l : List Int) (h : listB l = true) : m_num_Row l = some (rowE l) := by
  obtain ⟨h1, h2⟩ := listB_iff.1 h
  rw [row_eq l (by omega) h1.i64]
  unfold rowS
  rw [if_neg (by rintro ⟨x, hx, h⟩; have := h1 x hx; omega)]
  rfl
theorem xput (b l : List Int) (hg : ∀ x ∈ l, 0 ≤ x ∧ x ≤ 2147483647) (hl : l.length ≤ 10) (hb : b.length ≤ 2000000000) : m_code_put b l = some (b ++ (l.map numE).flatten) := by
  have h1 := flat_bound l numE 10 (fun x hx => numE_len ⟨(hg x hx).1, by have := (hg x hx).2; omega⟩)
  have h := loop_append l (0 : Int) numE 2000000100 (m_code_put_L1 l) (fun out i hi hle => ?_) (fun out => ?_) l.length 0 b (Nat.zero_add _) (by rw [List.drop_zero]; omega)
  · unfold m_code_put
    rw [show ((0 : Nat) : Int) = 0 from rfl, List.drop_zero] at h
    rw [h, Option.bind_some]
  · have e1 : decide ((i : Int) < (l.length : Int)) = true := decide_eq_true (by omega)
    have hx := hg _ (getD_mem (d := (0 : Int)) hi)
    have e : l.getD i 0 = ((l.getD i 0).toNat : Int) := by omega
    have hput := put_eq (v := (l.getD i 0).toNat) (by rw [two64]; omega)
    rw [← e] at hput
    unfold m_code_put_L1
    simp only [e1, cond_true, chk_pos' (inB_nat hi), Int.toNat_natCast, wu64_of hx.1 (show l.getD i 0 < 18446744073709551616 by omega), hput, Option.bind_some, w64_succ hi (by omega)]
    rw [chk_pos' (by unfold numE at hle; simp only [room]; omega)]
    rfl
  · unfold m_code_put_L1
    simp
theorem num2 {a b : Int} (h1 : numB a = true) (h2 : numB b = true) : ∀ x ∈ [a, b], 0 ≤ x ∧ x ≤ 2147483647 := by
  intro x hx
  rcases List.mem_cons.1 hx with rfl | hx
  · exact numB_iff.1 h1
  · obtain rfl := List.mem_singleton.1 hx; exact numB_iff.1 h2
theorem xputPhi (b : List Int) (p : TPhi) (hp : phiB p = true) (hb : b.length ≤ 1900000000) : m_code_putPhi b p = some (b ++ phiE p) := by
  have hl := phiE_len hp
  have hl' := hl
  simp only [phiB, Bool.and_eq_true] at hp
  simp only [phiE, List.length_append] at hl
  unfold m_code_putPhi
  rw [xput _ _ (num2 hp.1.1.1 hp.1.1.2) (by simp) (by omega), Option.bind_some, xrow _ hp.1.2, Option.bind_some]
  simp only [List.map_cons, List.map_nil, List.flatten_cons, List.flatten_nil, List.append_nil]
  rw [chk_pos' (by simp only [List.length_append, room]; omega), xrow _ hp.2, Option.bind_some, chk_pos' (by simp only [List.length_append, room]; omega)]
  simp only [phiE, List.append_assoc]
theorem xputEnd (b : List Int) (p : TEnd) (hp : endB p = true) (hb : b.length ≤ 1900000000) : m_code_putEnd b p = some (b ++ endE p) := by
  have hl := endE_len hp
  simp only [endB, Bool.and_eq_true] at hp
  simp only [endE, List.length_append] at hl
  unfold m_code_putEnd
  rw [xput _ _ (num2 hp.1.1 hp.1.2) (by simp) (by omega), Option.bind_some, xrow _ hp.2, Option.bind_some]
  simp only [List.map_cons, List.map_nil, List.flatten_cons, List.flatten_nil, List.append_nil]
  rw [chk_pos' (by simp only [List.length_append, room]; omega)]
  simp only [endE, List.append_assoc]
theorem xputOp (b : List Int) (p : TOp) (hp : opB p = true) (hi : wideP p.Imm) (hb : b.length ≤ 1900000000) : m_code_putOp b p = some (b ++ opE p) := by
  have hl := opE_len hp hi
  simp only [opB, Bool.and_eq_true] at hp
  simp only [opE, List.length_append] at hl
  have e6 : p.Imm = (p.Imm.toNat : Int) := by have := hi.1; omega
  have hput := put_eq (v := p.Imm.toNat) (by rw [two64]; have := hi.2; omega)
  rw [← e6] at hput
  have hnum : ∀ x ∈ [p.Kind, p.Bits, p.Lanes, p.Dst], 0 ≤ x ∧ x ≤ 2147483647 := by
    intro x hx
    simp only [List.mem_cons, List.not_mem_nil, or_false] at hx
    rcases hx with rfl | rfl | rfl | rfl
    · exact numB_iff.1 hp.1.1.1.1
    · exact numB_iff.1 hp.1.1.1.2
    · exact numB_iff.1 hp.1.1.2
    · exact numB_iff.1 hp.1.2
  unfold m_code_putOp
  rw [xput _ _ hnum (by simp) (by omega), Option.bind_some, xrow _ hp.2, Option.bind_some]
  simp only [List.map_cons, List.map_nil, List.flatten_cons, List.flatten_nil, List.append_nil]
  rw [chk_pos' (by simp only [List.length_append, room]; omega), hput, Option.bind_some, chk_pos' (by simp only [numE] at hl; simp only [List.length_append, room, numE]; omega)]
  simp only [opE, List.append_assoc, numE]
theorem one_num {n : Int} (h : 0 ≤ n ∧ n ≤ 2147483647) : ∀ x ∈ [n], 0 ≤ x ∧ x ≤ 2147483647 := fun x hx => by obtain rfl := List.mem_singleton.1 hx; exact h
theorem flat_one (n : Int) : ([n].map numE).flatten = numE n := by simp
theorem xencode (f : TFunc) (hf : InF f) (hs : mayF f = true → OkF f) : m_code_Encode f = some (bif mayF f then funcE f else []) := by
  unfold m_code_Encode
  rw [xmay f hf, Option.bind_some]
  cases hm : mayF f with
  | false => rfl
  | true =>
    have ok := hs hm
    have hlenF := funcE_len ok
    have h3 := loop_append f.Blocks (default : TBlock) blockE 1000000000 (m_code_Encode_L3 f) (fun out i hi hle => by
      have hmem := getD_mem (d := (default : TBlock)) hi
      have okb := ok.block _ hmem
      obtain ⟨b1, b2, b3⟩ := blockB_iff.1 okb.may
      have e0 : decide ((i : Int) < (f.Blocks.length : Int)) = true := by simpa using hi
      have hI : InB (i : Int) f.Blocks.length := inB_nat hi
      have l1 := loop_append (f.Blocks.getD i default).Phis (default : TPhi) phiE 1000000000 (m_code_Encode_L1 f i) (fun out j hj hle => by
          have hp := b1 _ (getD_mem (d := (default : TPhi)) hj)
          have q0 : decide ((j : Int) < ((f.Blocks.getD i default).Phis.length : Int)) = true := by simpa using hj
          unfold m_code_Encode_L1
          simp only [chk_pos' hI, Int.toNat_natCast, q0, cond_true, chk_pos' (inB_nat hj)]
          rw [xputPhi _ _ hp (by omega), Option.bind_some, w64_succ hj (by have := okb.phis; omega)]
          rfl) (fun out => by
          unfold m_code_Encode_L1
          simp only [chk_pos' hI, Int.toNat_natCast]
          simp)
      have l2 := loop_append (f.Blocks.getD i default).Ops (default : TOp) opE 1000000000 (m_code_Encode_L2 f i) (fun out j hj hle => by
          have hp := b2 _ (getD_mem (d := (default : TOp)) hj)
          have hi6 := okb.imm _ (getD_mem (d := (default : TOp)) hj)
          have q0 : decide ((j : Int) < ((f.Blocks.getD i default).Ops.length : Int)) = true := by simpa using hj
          unfold m_code_Encode_L2
          simp only [chk_pos' hI, Int.toNat_natCast, q0, cond_true, chk_pos' (inB_nat hj)]
          rw [xputOp _ _ hp hi6 (by omega), Option.bind_some, w64_succ hj (by have := okb.ops; omega)]
          rfl) (fun out => by
          unfold m_code_Encode_L2
          simp only [chk_pos' hI, Int.toNat_natCast]
          simp)
      have hle' := hle
      simp only [blockE, manyE, List.length_append] at hle
      have h1 := l1 _ 0 (out ++ numE ((f.Blocks.getD i default).Phis.length : Int)) (Nat.zero_add _) (by simp only [List.drop_zero, List.length_append]; omega)
      have h2 := l2 _ 0 (out ++ numE ((f.Blocks.getD i default).Phis.length : Int) ++ ((f.Blocks.getD i default).Phis.map phiE).flatten ++ numE ((f.Blocks.getD i default).Ops.length : Int)) (Nat.zero_add _) (by simp only [List.drop_zero, List.length_append]; omega)
      rw [show ((0 : Nat) : Int) = 0 from rfl, List.drop_zero] at h1 h2
      unfold m_code_Encode_L3
      simp only [e0, cond_true, chk_pos' hI, Int.toNat_natCast]
      rw [xput _ _ (one_num ⟨by omega, by have := okb.phis; omega⟩) (by simp) (by omega), Option.bind_some, flat_one, h1, Option.bind_some, xput _ _ (one_num ⟨by omega, by have := okb.ops; omega⟩) (by simp) (by simp only [List.length_append]; omega), Option.bind_some, flat_one, h2, Option.bind_some]
      rw [show m_code_putEnd _ (⟨(f.Blocks.getD i default).End.Kind, (f.Blocks.getD i default).End.Arg, (f.Blocks.getD i default).End.To⟩ : TEnd) = _ from xputEnd _ (f.Blocks.getD i default).End b3 (by simp only [List.length_append]; omega), Option.bind_some, w64_succ hi (by have := ok.blocks; omega)]
      simp only [blockE, manyE, List.append_assoc]
      rfl) (fun out => by
      unfold m_code_Encode_L3
      simp)
    have hlF := hlenF
    simp only [funcE, manyE, List.length_append] at hlF
    have h4 := h3 _ 0 (rowE f.Params ++ (numE f.Ret ++ numE (f.Blocks.length : Int))) (Nat.zero_add _) (by simp only [List.drop_zero, List.length_append]; omega)
    rw [show ((0 : Nat) : Int) = 0 from rfl, List.drop_zero] at h4
    have hn2 : ∀ x ∈ [f.Ret, (f.Blocks.length : Int)], 0 ≤ x ∧ x ≤ 2147483647 := num2 ok.ret (numB_iff.2 ⟨by omega, by have := ok.blocks; omega⟩)
    have e2 : ([f.Ret, (f.Blocks.length : Int)].map numE).flatten = numE f.Ret ++ numE (f.Blocks.length : Int) := by simp
    rw [Bool.not_true, cond_false, cond_true, xrow _ ok.params, Option.bind_some, xput _ _ hn2 (by simp) (by omega), Option.bind_some, e2, h4, Option.bind_some]
    simp only [funcE, manyE, List.append_assoc]
end Go.Proofs.YtcddajbcbkbipaaGreatDoor

namespace Go.Proofs.YtcddajbcbkbipaaGreatDoor
open Go Go.RowKit
set_option linter.unusedVariables false
set_option linter.unusedSimpArgs false

theorem Reads.iff {S α : Type} {V : View S} {m : S → Option (α × S)} {E F : α → List Int} {P Q : α → Prop} (h : Reads V m E P) (hP : ∀ a, P a ↔ Q a) (hE : ∀ a, E a = F a) : Reads V m F Q := by
  rw [show F = E from funext fun a => (hE a).symm, show Q = P from funext fun a => propext (hP a).symm]; exact h
/-- What reads a number, at least and at most so much. -/
theorem reads_within {S : Type} {V : View S} {w m : S → Option (Int × S)} (least top : Int) (h0 : 0 ≤ least) (ht : top < 9223372036854775808) (h : Reads V w numE wideP)
    (hok : ∀ s v s', V.good s → w s = some (v, s') → V.good s' → V.bad s' = 0 → least ≤ v → v ≤ top → m s = some (v, s'))
    (hbig : ∀ s v s', V.good s → w s = some (v, s') → V.good s' → V.bad s' = 0 → (v < least ∨ top < v) → ∃ a t, m s = some (a, t) ∧ V.bad t ≠ 0 ∧ V.good t)
    (hbad : ∀ s v s', V.good s → w s = some (v, s') → V.good s' → V.bad s' ≠ 0 → ∃ a t, m s = some (a, t) ∧ V.bad t = V.bad s' ∧ V.good t) : Reads V m numE (fun n => least ≤ n ∧ n ≤ top) where
  sticky s hs hb := by
    obtain ⟨a, s', e, hb', hg⟩ := h.sticky s hs hb
    obtain ⟨b, t, q1, q2, q3⟩ := hbad s a s' hs e hg (by rw [hb']; exact hb)
    exact ⟨b, t, q1, by rw [q2, hb'], q3⟩
  any s hs hb := by
    obtain ⟨a, s', e, hg, hd⟩ := h.any s hs hb
    by_cases hb' : V.bad s' = 0
    · obtain ⟨p1, p2⟩ := hd hb'
      by_cases hv : least ≤ a ∧ a ≤ top
      · exact ⟨a, s', hok s a s' hs e hg hb' hv.1 hv.2, hg, fun _ => ⟨hv, p2⟩⟩
      · obtain ⟨b, t, q1, q2, q3⟩ := hbig s a s' hs e hg hb' (by omega)
        exact ⟨b, t, q1, q3, fun h => absurd h q2⟩
    · obtain ⟨b, t, q1, q2, q3⟩ := hbad s a s' hs e hg hb'
      exact ⟨b, t, q1, q3, fun h => absurd (q2 ▸ h) hb'⟩
  whole s a more hs hb hp hl := by
    obtain ⟨s', e, hb', hl', hg⟩ := h.whole s a more hs hb ⟨by have := hp.1; omega, by have := hp.2; omega⟩ hl
    exact ⟨s', hok s a s' hs e hg hb' hp.1 hp.2, hb', hl', hg⟩
  cut s a c hs hb hp hc hl := by
    obtain ⟨a', s', e, hb', hg⟩ := h.cut s a c hs hb ⟨by have := hp.1; omega, by have := hp.2; omega⟩ hc hl
    obtain ⟨b, t, q1, q2, q3⟩ := hbad s a' s' hs e hg (by rw [hb']; decide)
    exact ⟨b, t, q1, by rw [q2, hb'], q3⟩
/-- How many there are, and each. -/
theorem reads_manyQ {S : Type} {V : View S} {α : Type} [Inhabited α] {cnt : S → Option (Int × S)} {m : S → Option (α × S)} {E : α → List Int} {P : α → Prop} {Q : Int → Prop} (hQ : ∀ n, Q n → 0 ≤ n) (hc : Reads V cnt numE Q) (hm : Reads V m E P) :
    Reads V (fun s => (cnt s).bind fun x => readN m x.1.toNat x.2) (manyE E) (fun l => Q l.length ∧ ∀ a ∈ l, P a) := by
  refine Reads.dep (β := List α) (Q := fun l => ∀ a ∈ l, P a) (F := fun l => (l.map E).flatten) (n := fun x s => readN m x.toNat s) (fun l => (l.length : Int)) hc (fun a ha => ?_) (fun a s hs hb => readN_sticky hm _ s hs hb)
  have h0 := hQ a ha
  exact (hm.many a.toNat).iff (fun l => ⟨fun h => ⟨h.2, by have := h.1; omega⟩, fun h => ⟨by have := h.2; omega, h.1⟩⟩) (fun _ => rfl)

def V : View Treader2 := ⟨Treader2.rest, Treader2.code, fun s => Bytes s.rest ∧ s.rest.length < 2 ^ 61⟩
theorem V_cut {s : Treader2} (h : V.good s) (n : Nat) (e : Int) : V.good ⟨s.rest.drop n, e⟩ := ⟨h.1.drop n, by have := h.2; simp only [List.length_drop]; omega⟩
theorem xany : Reads V m_code_reader_anyNumber numE wideP := by
  refine reads_wide (fun s h => h) (fun s hs hb => ?_) (fun s hs hb v e n hg hn => ?_)
  · refine ⟨0, s, ?_, rfl, hs⟩
    have : (s.code != 0) = true := bne_iff_ne.2 hb
    unfold m_code_reader_anyNumber
    rw [this, cond_true]
  · refine ⟨⟨s.rest.drop n, e⟩, ?_, rfl, rfl, V_cut hs n e⟩
    have h1 : (s.code != 0) = false := bne_eq_false_iff_eq.2 hb
    have hg' : m_num_Get s.rest = some (v, (n : Int), e) := hg
    unfold m_code_reader_anyNumber
    rw [h1, cond_false, hg', Option.bind_some]
    exact chk_pos' ⟨by simp, by show (n : Int) ≤ (s.rest.length : Int); exact_mod_cast hn⟩
theorem xwithin (least most : Int) (h0 : 0 ≤ least) (ht : most < 9223372036854775808) : Reads V (m_code_reader_within least most) numE (fun n => least ≤ n ∧ n ≤ most) := by
  refine reads_within least most h0 ht xany (fun s v s' hs hw hg hb h1 h2 => ?_) (fun s v s' hs hw hg hb hv => ?_) (fun s v s' hs hw hg hb => ?_)
  · have e1 : (s'.code != 0) = false := bne_eq_false_iff_eq.2 hb
    have e2 : decide (v < least) = false := decide_eq_false (by omega)
    have e3 : decide (most < v) = false := decide_eq_false (by omega)
    unfold m_code_reader_within
    simp only [hw, Option.bind_some, e1, e2, e3, cond_false, w64_of (n := v) (by omega) (by omega)]
  · have e1 : (s'.code != 0) = false := bne_eq_false_iff_eq.2 hb
    have e2 : (bif decide (v < least) then true else decide (most < v)) = true := by
      rcases hv with h | h
      · rw [decide_eq_true h]; rfl
      · rw [decide_eq_true h]; cases decide (v < least) <;> rfl
    refine ⟨0, ⟨s'.rest, 4⟩, ?_, (by decide : (4 : Int) ≠ 0), hg⟩
    unfold m_code_reader_within
    simp only [hw, Option.bind_some, e1, e2, cond_true, cond_false]
  · have e1 : (s'.code != 0) = true := bne_iff_ne.2 hb
    refine ⟨0, s', ?_, rfl, hg⟩
    unfold m_code_reader_within
    simp only [hw, Option.bind_some, e1, cond_true]
theorem bind_pair {α β : Type} (m : Option (α × β)) : (m.bind fun x1 => some (x1.1, x1.2)) = m := by cases m <;> rfl
theorem xnumber : Reads V m_code_reader_number numE isNum := (xwithin 0 2147483647 (by decide) (by decide)).of_eq (fun s => bind_pair _)

/-- Rounds of this program's kind: a list, a counter, a reader. -/
theorem xmany {α : Type} [Inhabited α] {m : Treader2 → Option (α × Treader2)} {E : α → List Int} {P : α → Prop} (hm : Reads V m E P) (least top : Int) (h0 : 0 ≤ least) (ht : top ≤ 1000) (L : (Int × Treader2) → (List α × Int × List Int × Int) → Option (LR (List α × Int × List Int × Int) ((List α × List Int × Int) ⊕ (List Int × Int))))
    (hL : ∀ (x1 : Int × Treader2) (l : List α) (i : Nat) (r : List Int) (c : Int), L x1 (l, (i : Int), r, c) = bif decide ((i : Int) < x1.1) then (m ⟨r, c⟩).bind fun x9 => (bif x9.2.code != 0 then some (.done (.inr (x9.2.rest, x9.2.code))) else chk (l.length + 1 ≤ room) (some (.next (l ++ [x9.1], w64 ((i : Int) + 1), x9.2.rest, x9.2.code)))) else some (.done (.inl (l, r, c))))
    (F : (List Int × Int) → Option (LR (List Int × Int) (List α × Treader2))) (hF : ∀ r c, F (r, c) = some (.done ([], ⟨r, c⟩))) (n : Treader2 → Option (List α × Treader2))
    (hn : ∀ s x3 y, m_code_reader_within least top s = some x3 → loopO (L x3) (([] : List α), (0 : Int), x3.2.rest, x3.2.code) = some y → n s = match y with | .inl (l, r, c) => some (l, ⟨r, c⟩) | .inr (r, c) => some ([], ⟨r, c⟩)) :
    Reads V n (manyE E) (fun l => (least ≤ (l.length : Int) ∧ (l.length : Int) ≤ top) ∧ ∀ a ∈ l, P a) := by
  have hw := xwithin least top h0 (by omega)
  refine (reads_manyQ (Q := fun n => least ≤ n ∧ n ≤ top) (fun n h => by have := h.1; omega) hw hm).sim (fun s hs a s' he hg => ?_)
  obtain ⟨k0, s1, e1, hg1⟩ := hw.total s hs
  simp only [e1, Option.bind_some] at he
  by_cases hb1 : V.bad s1 = 0
  · -- how many
    have hk : least ≤ k0 ∧ k0 ≤ top := by
      by_cases hb : V.bad s = 0
      · obtain ⟨n', s1', e1', _, hd⟩ := hw.any s hs hb
        rw [e1] at e1'
        obtain ⟨rfl, rfl⟩ := Prod.mk.inj (Option.some.inj e1')
        exact (hd hb1).1
      · obtain ⟨n', s1', e1', hb', _⟩ := hw.sticky s hs hb
        rw [e1] at e1'
        obtain ⟨rfl, rfl⟩ := Prod.mk.inj (Option.some.inj e1')
        exact absurd (hb' ▸ hb1) hb
    obtain ⟨k, rfl⟩ : ∃ k : Nat, k0 = k := ⟨k0.toNat, by omega⟩
    have := sim_rounds hm k (fun l i s => (loopO (L ((k : Int), s1)) (l, (i : Int), s.rest, s.code)).bind (fun y => match y with | .inl (l, r, c) => some (l, (⟨r, c⟩ : Treader2)) | .inr (r, c) => some ([], ⟨r, c⟩)))
      (fun l s hs hb hl => by
        have hx : L ((k : Int), s1) (l, (k : Int), s.rest, s.code) = some (.done (.inl (l, s.rest, s.code))) := by rw [hL]; simp
        simp only [loopO_done hx, Option.bind_some])
      (fun l i s a s' hi hl hs hb he hg hb' => by
        have e0 : decide ((i : Int) < (k : Int)) = true := decide_eq_true (by omega)
        have e3 : (s'.code != 0) = false := by rw [bne_eq_false_iff_eq]; exact hb'
        have hx : L ((k : Int), s1) (l, (i : Int), s.rest, s.code) = some (.next (l ++ [a], ((i + 1 : Nat) : Int), s'.rest, s'.code)) := by
          rw [hL]
          simp only [e0, cond_true, show (⟨s.rest, s.code⟩ : Treader2) = s from rfl, he, Option.bind_some, e3, cond_false]
          rw [chk_pos' (by simp only [room]; omega), w64_of (by omega) (by omega)]
          rfl
        simp only [loopO_next hx])
      (fun l i s a s' hi hl hs hb he hg hb' => by
        have e0 : decide ((i : Int) < (k : Int)) = true := decide_eq_true (by omega)
        have e3 : (s'.code != 0) = true := bne_iff_ne.2 hb'
        have hx : L ((k : Int), s1) (l, (i : Int), s.rest, s.code) = some (.done (.inr (s'.rest, s'.code))) := by
          rw [hL]
          simp only [e0, cond_true, show (⟨s.rest, s.code⟩ : Treader2) = s from rfl, he, Option.bind_some, e3]
        exact ⟨[], s', by simp only [loopO_done hx, Option.bind_some], rfl, hg⟩)
      k 0 [] s1 (Nat.zero_add _) rfl hg1 hb1 a s' (by simpa using he) hg
    have hrun : ∀ z, ((loopO (L ((k : Int), s1)) ([], ((0 : Nat) : Int), s1.rest, s1.code)).bind (fun y => match y with | .inl (l, r, c) => some (l, (⟨r, c⟩ : Treader2)) | .inr (r, c) => some ([], ⟨r, c⟩))) = some z → n s = some z := fun z hz => by
      rw [show ((0 : Nat) : Int) = 0 from rfl] at hz
      cases hy : loopO (L ((k : Int), s1)) ([], 0, s1.rest, s1.code) with
      | none => rw [hy] at hz; cases hz
      | some y => rw [hn s _ y e1 hy]; rw [hy, Option.bind_some] at hz; rw [← hz]
    refine ⟨fun hb => hrun _ (by simpa using this.1 hb), fun hb => ?_⟩
    obtain ⟨b, t, q1, q2, q3⟩ := this.2 hb
    exact ⟨b, t, hrun _ q1, q2, q3⟩
  · -- wrong already
    obtain ⟨z, t, e2, hb2, hg2⟩ := readN_sticky hm k0.toNat s1 hg1 hb1
    rw [e2] at he
    obtain ⟨rfl, rfl⟩ := Prod.mk.inj (Option.some.inj he)
    refine ⟨fun h => absurd (hb2 ▸ h) hb1, fun _ => ?_⟩
    by_cases h0n : (0 : Int) < k0
    · obtain ⟨a, t', e3, hb3, hg3⟩ := hm.sticky s1 hg1 hb1
      have e4 : (t'.code != 0) = true := bne_iff_ne.2 (show V.bad t' ≠ 0 by rw [hb3]; exact hb1)
      have hx : L (k0, s1) ([], ((0 : Nat) : Int), s1.rest, s1.code) = some (.done (.inr (t'.rest, t'.code))) := by
        rw [hL]
        simp only [show ((0 : Nat) : Int) = 0 from rfl, decide_eq_true h0n, cond_true, show (⟨s1.rest, s1.code⟩ : Treader2) = s1 from rfl, e3, Option.bind_some, e4]
      rw [show ((0 : Nat) : Int) = 0 from rfl] at hx
      exact ⟨[], t', by rw [hn s _ _ e1 (loopO_done hx)], by rw [hb3, hb2], hg3⟩
    · have hx : L (k0, s1) ([], ((0 : Nat) : Int), s1.rest, s1.code) = some (.done (.inl ([], s1.rest, s1.code))) := by
        rw [hL]
        simp only [show ((0 : Nat) : Int) = 0 from rfl, decide_eq_false h0n, cond_false]
      rw [show ((0 : Nat) : Int) = 0 from rfl] at hx
      exact ⟨[], s1, by rw [hn s _ _ e1 (loopO_done hx)], hb2.symm, hg1⟩
theorem scope_next {S X : Type} {s : S} {F : S → Option (LR S X)} {x : X} (h : F s = some (.done x)) : scopeO (some (.next s)) F = some x := loopO_done h
theorem scope_done {S X : Type} {F : S → Option (LR S X)} {x : X} : scopeO (S := S) (some (.done x)) F = some x := rfl
theorem xints_read (least top : Int) (h0 : 0 ≤ least) (ht : top ≤ 1000) : Reads V (m_code_many_int least top) (manyE numE) (fun l => (least ≤ (l.length : Int) ∧ (l.length : Int) ≤ top) ∧ ∀ a ∈ l, isNum a) :=
  xmany xnumber least top h0 ht m_code_many_int_L1 (fun x1 l i r c => rfl) m_code_many_int_F2 (fun r c => rfl) _ (fun s x3 y h1 h2 => by
    unfold m_code_many_int
    rw [h1, Option.bind_some, h2, Option.bind_some]
    rcases y with ⟨l, r, c⟩ | ⟨r, c⟩
    · rfl
    · exact congrArg (fun z : Option (List Int × Treader2) => z.bind fun x => some x) (scope_next (F := m_code_many_int_F2) (s := (r, c)) rfl))
theorem xphis_read (least top : Int) (h0 : 0 ≤ least) (ht : top ≤ 1000) {P : TPhi → Prop} (hm : Reads V m_code_reader_phi phiE P) : Reads V (m_code_many_api_Phi least top) (manyE phiE) (fun l => (least ≤ (l.length : Int) ∧ (l.length : Int) ≤ top) ∧ ∀ a ∈ l, P a) :=
  xmany hm least top h0 ht m_code_many_api_Phi_L1 (fun x1 l i r c => rfl) m_code_many_api_Phi_F2 (fun r c => rfl) _ (fun s x3 y h1 h2 => by
    unfold m_code_many_api_Phi
    rw [h1, Option.bind_some, h2, Option.bind_some]
    rcases y with ⟨l, r, c⟩ | ⟨r, c⟩
    · rfl
    · exact congrArg (fun z : Option (List TPhi × Treader2) => z.bind fun x => some x) (scope_next (F := m_code_many_api_Phi_F2) (s := (r, c)) rfl))
theorem xops_read (least top : Int) (h0 : 0 ≤ least) (ht : top ≤ 1000) {P : TOp → Prop} (hm : Reads V m_code_reader_op opE P) : Reads V (m_code_many_api_Op least top) (manyE opE) (fun l => (least ≤ (l.length : Int) ∧ (l.length : Int) ≤ top) ∧ ∀ a ∈ l, P a) :=
  xmany hm least top h0 ht m_code_many_api_Op_L1 (fun x1 l i r c => rfl) m_code_many_api_Op_F2 (fun r c => rfl) _ (fun s x3 y h1 h2 => by
    unfold m_code_many_api_Op
    rw [h1, Option.bind_some, h2, Option.bind_some]
    rcases y with ⟨l, r, c⟩ | ⟨r, c⟩
    · rfl
    · exact congrArg (fun z : Option (List TOp × Treader2) => z.bind fun x => some x) (scope_next (F := m_code_many_api_Op_F2) (s := (r, c)) rfl))
theorem xblocks_read (least top : Int) (h0 : 0 ≤ least) (ht : top ≤ 1000) {P : TBlock → Prop} (hm : Reads V m_code_reader_block blockE P) : Reads V (m_code_many_api_Block least top) (manyE blockE) (fun l => (least ≤ (l.length : Int) ∧ (l.length : Int) ≤ top) ∧ ∀ a ∈ l, P a) :=
  xmany hm least top h0 ht m_code_many_api_Block_L1 (fun x1 l i r c => rfl) m_code_many_api_Block_F2 (fun r c => rfl) _ (fun s x3 y h1 h2 => by
    unfold m_code_many_api_Block
    rw [h1, Option.bind_some, h2, Option.bind_some]
    rcases y with ⟨l, r, c⟩ | ⟨r, c⟩
    · rfl
    · exact congrArg (fun z : Option (List TBlock × Treader2) => z.bind fun x => some x) (scope_next (F := m_code_many_api_Block_F2) (s := (r, c)) rfl))
theorem isList_iff (top : Nat) (ht : top ≤ 64) (l : List Int) : ((0 ≤ (l.length : Int) ∧ (l.length : Int) ≤ top) ∧ ∀ a ∈ l, isNum a) ↔ isList top l := by
  constructor
  · rintro ⟨⟨_, h1⟩, h2⟩
    exact ⟨listB_iff.2 ⟨h2, by omega⟩, by omega⟩
  · rintro ⟨h1, h2⟩
    exact ⟨⟨by omega, by omega⟩, (listB_iff.1 h1).1⟩
theorem xlist : Reads V m_code_reader_list rowE (isList 64) := ((xints_read 0 64 (by decide) (by decide)).iff (isList_iff 64 (by decide)) (fun _ => rfl)).of_eq (fun s => bind_pair _)
theorem xparams : Reads V (m_code_many_int 0 16) rowE (isList 16) := (xints_read 0 16 (by decide) (by decide)).iff (isList_iff 16 (by decide)) (fun _ => rfl)
theorem xphi : Reads V m_code_reader_phi phiE (fun p => phiB p = true) := (reads_phi xnumber xlist).of_eq (fun s => rfl)
theorem xop : Reads V m_code_reader_op opE (fun o => opB o = true ∧ wideP o.Imm) := (reads_op xnumber xlist xany).of_eq (fun s => rfl)
theorem xend : Reads V m_code_reader_end endE (fun e => endB e = true) := (reads_end xnumber xlist).of_eq (fun s => rfl)
theorem cut0 (n : Nat) (k : Int) (p : Prop) : ((0 ≤ (n : Int) ∧ (n : Int) ≤ k) ∧ p) ↔ ((n : Int) ≤ k ∧ p) := ⟨fun h => ⟨h.1.2, h.2⟩, fun h => ⟨⟨by omega, h.1⟩, h.2⟩⟩
theorem xblock : Reads V m_code_reader_block blockE OkB := (reads_block ((xphis_read 0 512 (by decide) (by decide) xphi).iff (fun l => cut0 _ _ _) (fun _ => rfl)) ((xops_read 0 512 (by decide) (by decide) xop).iff (fun l => cut0 _ _ _) (fun _ => rfl)) xend).of_eq (fun s => rfl)
theorem xfunction : Reads V m_code_reader_function funcE (fun f => OkF f ∧ 1 ≤ f.Blocks.length) := by
  refine ((xparams.pair (xnumber.pair (xblocks_read 1 64 (by decide) (by decide) xblock))).map (fun x => (⟨x.1, x.2.1, x.2.2⟩ : TFunc)) (fun f => (f.Params, f.Ret, f.Blocks)) (fun _ _ => rfl) ?_ ?_ (fun _ _ => rfl)).of_eq (fun s => ?_)
  · rintro f ⟨⟨h1, h2, h3, h4, h5⟩, h6⟩
    exact ⟨⟨h1, h2⟩, numB_iff.1 h3, ⟨by show (1 : Int) ≤ (f.Blocks.length : Int); omega, by show (f.Blocks.length : Int) ≤ 64; omega⟩, h5⟩
  · rintro ⟨a, b, c⟩ ⟨⟨h1, h2⟩, h3, ⟨h6, h4⟩, h5⟩
    exact ⟨⟨h1, h2, numB_iff.2 h3, by show c.length ≤ 64; simp only at h4; omega, h5⟩, by show 1 ≤ c.length; simp only at h6; omega⟩
  · unfold m_code_reader_function
    simp only [Option.bind_assoc, Option.bind_some]
/-- The program's Decode. -/
theorem xdecode : DecFacts m_code_Decode := by
  refine dec_facts xfunction (fun f h => h.1) (fun f h h1 => ⟨h, h1⟩) m_code_Decode (fun b hB hl => ⟨⟨b, 0⟩, ⟨hB, hl⟩, rfl, rfl, fun f s' he hg => ?_⟩)
  have hF : ∀ (r : List Int) (e : Int), (scopeO (S := List Int × Int) (X := TFunc × Int) (some (.next (r, e))) m_code_Decode_F1).bind (fun x6 => some x6) = some (noF, e) := fun r e => by
    rw [scope_next (F := m_code_Decode_F1) (s := (r, e)) (x := (noF, e)) rfl]
    rfl
  unfold m_code_Decode
  rw [he, Option.bind_some]
  refine ⟨fun hb => ?_, fun hb hp h0 => absurd hp.2 (by omega), fun hb hp h1 hn => ?_, fun hb hp h1 hn h5 => ⟨4, by decide, ?_⟩, fun hb hp h1 hn h5 => ?_⟩
  · have : (s'.code != 0) = true := bne_iff_ne.2 hb
    simp only [this, cond_true]
    exact hF _ _
  · have e0 : (s'.code != 0) = false := bne_eq_false_iff_eq.2 hb
    have e1 : decide ((0 : Int) < (s'.rest.length : Int)) = true := decide_eq_true (by have := List.length_pos_iff.2 hn; show (0 : Int) < _; exact_mod_cast this)
    simp only [e0, cond_false, e1, cond_true]
    exact hF _ _
  · have e0 : (s'.code != 0) = false := bne_eq_false_iff_eq.2 hb
    have e1 : decide ((0 : Int) < (s'.rest.length : Int)) = false := by rw [show s'.rest = [] from hn]; rfl
    have e2 := hp.1.size.2
    have e3 : decide ((512 : Int) < sizeW f) = true := decide_eq_true (by rw [e2]; omega)
    simp only [e0, cond_false, e1, xsize f (ok_in hp.1), Option.bind_some, e3, cond_true]
    exact hF _ _
  · have e0 : (s'.code != 0) = false := bne_eq_false_iff_eq.2 hb
    have e1 : decide ((0 : Int) < (s'.rest.length : Int)) = false := by rw [show s'.rest = [] from hn]; rfl
    have e2 := hp.1.size.2
    have e3 : decide ((512 : Int) < sizeW f) = false := decide_eq_false (by rw [e2]; omega)
    simp only [e0, cond_false, e1, xsize f (ok_in hp.1), Option.bind_some, e3]
    rfl
theorem xfacts : Facts :=
  ⟨xmay, xsize, xsame, xencode, xdecode.whole, xdecode.more, xdecode.cut, xdecode.any⟩
end Go.Proofs.YtcddajbcbkbipaaGreatDoor

namespace Go.Proofs.YtcddajbcbkbipaaGreatDoor
open Go Go.RowKit
set_option linter.unusedVariables false
set_option linter.unusedSimpArgs false

/-! ### Names -/
theorem gl0_eq : gl0 = kindsW := rfl
theorem gl1_eq : gl1 = endsW := rfl
theorem drop_getD {α : Type} (l : List α) (d : α) {i : Nat} (h : i < l.length) : l.drop i = l.getD i d :: l.drop (i + 1) := by
  rw [List.drop_eq_getElem_cons h, getD_eq_of_lt _ _ _ h]
theorem find_rounds (l : List Word) (s : Word) (hn : l.length < 1000) (f : Int → Option (LR Int (Unit ⊕ (Int × Bool))))
    (h1 : ∀ i : Nat, i < l.length → f (i : Int) = bif l.getD i [] == s then some (.done (.inr ((i : Int), true))) else some (.next ((i + 1 : Nat) : Int)))
    (h2 : f (l.length : Int) = some (.done (.inl ()))) : ∀ (k i : Nat), i + k = l.length → loopO f (i : Int) = some (if findI (l.drop i) s i = -1 then .inl () else .inr (findI (l.drop i) s i, true))
  | 0, i, h => by
    obtain rfl : i = l.length := by omega
    rw [loopO_done h2, List.drop_length]
    rfl
  | k + 1, i, h => by
    have hi : i < l.length := by omega
    have e := h1 i hi
    rw [drop_getD l [] hi, findI]
    by_cases hx : l.getD i [] = s
    · have e1 : (l.getD i [] == s) = true := by simpa using hx
      rw [e1, cond_true] at e
      rw [loopO_done e, if_pos hx, if_neg (by omega)]
    · have e1 : (l.getD i [] == s) = false := by simpa using hx
      rw [e1, cond_false] at e
      rw [loopO_next e, find_rounds l s hn f h1 h2 k (i + 1) (by omega), if_neg hx]
theorem xkind_eq (s : Word) : m_text_Kind s = some (kindF s) := by
  have hl := find_rounds kindsW s (by decide) (m_text_Kind_L1 s) (fun i hi => by
    rw [show kindsW.length = 23 from rfl] at hi
    have e0 : decide ((i : Int) < 23) = true := decide_eq_true (by omega)
    unfold m_text_Kind_L1
    show (bif decide ((i : Int) < 23) then _ else _) = _
    rw [e0, cond_true, chk_pos' (inB_nat hi), Int.toNat_natCast, gl0_eq, w64_succ hi (by omega)]
    rfl) (by unfold m_text_Kind_L1; rfl) _ 0 (Nat.zero_add _)
  unfold m_text_Kind kindF findF
  rw [show ((0 : Nat) : Int) = 0 from rfl, List.drop_zero] at hl
  rw [hl, Option.bind_some]
  by_cases h : findI kindsW s 0 = -1
  · rw [if_pos h, if_pos h]
  · rw [if_neg h, if_neg h]
/-- How a block may end. -/
def endF (s : Word) : Int × Bool := if findF endsW s = -1 then (0, false) else (findF endsW s, true)
theorem xend_eq (s : Word) : m_text_endKind s = some (endF s) := by
  have hl := find_rounds endsW s (by decide) (m_text_endKind_L1 s) (fun i hi => by
    rw [show endsW.length = 4 from rfl] at hi
    have e0 : decide ((i : Int) < 4) = true := decide_eq_true (by omega)
    unfold m_text_endKind_L1
    show (bif decide ((i : Int) < 4) then _ else _) = _
    rw [e0, cond_true, chk_pos' (inB_nat hi), Int.toNat_natCast, gl1_eq, w64_succ hi (by omega)]
    rfl) (by unfold m_text_endKind_L1; rfl) _ 0 (Nat.zero_add _)
  unfold m_text_endKind endF findF
  rw [show ((0 : Nat) : Int) = 0 from rfl, List.drop_zero] at hl
  rw [hl, Option.bind_some]
  by_cases h : findI endsW s 0 = -1
  · rw [if_pos h, if_pos h]
  · rw [if_neg h, if_neg h]

/-! ### Numbers, lists -/
theorem dec_dig (n : Nat) : bytesL (Lib.decDigits n) = digN n := by
  induction n using Nat.strongRecOn with
  | _ n ih =>
    have hb : ∀ k : Nat, k < 10 → ((UInt8.ofNat (48 + k)).toNat : Int) = ((48 + k : Nat) : Int) := fun k hk => by
      rw [UInt8.toNat_ofNat']; omega
    by_cases h : n < 10
    · rw [Lib.decDigits, dif_pos h, digN_lt h]
      simp only [bytesL, List.map_cons, List.map_nil, hb n h]
    · rw [Lib.decDigits, dif_neg h, digN_ge h]
      have := ih (n / 10) (by omega)
      simp only [bytesL, List.map_append, List.map_cons, List.map_nil, hb (n % 10) (by omega)] at this ⊢
      rw [this]
theorem xnumber_eq {n : Int} (h : numB n = true) : m_text_number n = some (dg n) := by
  have := numB_iff.1 h
  unfold m_text_number x_Itoa
  rw [chk_pos' ⟨this.1, by omega⟩, Option.bind_some, dec_dig]
  rfl
theorem ximm_eq {n : Int} (h : wideP n) : x_FormatUint n 10 = some (dg n) := by
  unfold x_FormatUint
  rw [chk_pos' ⟨rfl, h.1, h.2⟩, dec_dig]
  rfl
/-- Words, each with a blank ahead. -/
def sepS (l : List Word) : List Int := (l.map fun w => 32 :: w).flatten
theorem join_sep : ∀ l : List Word, joinI l [32] = (sepS l).drop 1
  | [] => rfl
  | [x] => by simp [joinI, sepS, List.intercalate]
  | x :: y :: l => by
    have ih := join_sep (y :: l)
    have e : joinI (x :: y :: l) [32] = x ++ ([32] ++ joinI (y :: l) [32]) := by
      simp [joinI, List.intercalate, List.intersperse]
    rw [e, ih]
    simp [sepS]
theorem sep_dg (l : List Int) : sepS (l.map dg) = numsS l := by
  simp only [sepS, numsS, List.map_map]
  rfl
theorem list_rounds (vs : List Int) (h : good31 vs) (hl : vs.length ≤ 1000) : ∀ (k i : Nat) (l : List Word), i + k = vs.length → l = (vs.take i).map dg ++ List.replicate k [] → loopO (m_text_list_L1 vs) ((i : Int), l) = some (vs.map dg)
  | 0, i, l, hk, hle => by
    obtain rfl : i = vs.length := by omega
    have e0 : decide ((vs.length : Int) < (vs.length : Int)) = false := by simp
    subst hle
    rw [loopO_done (x := (vs.take vs.length).map dg ++ List.replicate 0 []) (by unfold m_text_list_L1; simp only [e0, cond_false])]
    simp
  | k + 1, i, l, hk, hle => by
    have hi : i < vs.length := by omega
    have e0 : decide ((i : Int) < (vs.length : Int)) = true := decide_eq_true (by omega)
    have hlen : l.length = vs.length := by rw [hle]; simp; omega
    have hset : l.set i (dg (vs.getD i 0)) = (vs.take (i + 1)).map dg ++ List.replicate k [] := by
      have e1 : vs.take (i + 1) = vs.take i ++ [vs.getD i 0] := by rw [List.take_succ_eq_append_getElem hi, getD_eq_of_lt _ _ _ hi]
      have e2 : ((vs.take i).map dg).length = i := by simp; omega
      rw [hle, e1, List.map_append, List.replicate_succ, List.set_append_right _ _ (by omega), e2, Nat.sub_self]
      simp
    rw [loopO_next (s' := (((i + 1 : Nat) : Int), l.set i (dg (vs.getD i 0)))) (by
      unfold m_text_list_L1
      show (bif decide ((i : Int) < (vs.length : Int)) then _ else _) = _
      have hx := h _ (getD_mem (d := (0 : Int)) hi)
      rw [e0, cond_true, chk_pos' (inB_nat hi), Int.toNat_natCast, xnumber_eq (numB_iff.2 hx), Option.bind_some, chk_pos' (inB_nat (by omega)), w64_succ hi (by omega)]
      rfl), list_rounds vs h hl k (i + 1) _ (by omega) hset]
/-- A list, without what stands ahead of it. -/
def listT (l : List Int) : List Int := 40 :: ((numsS l).drop 1 ++ [41])
theorem xlist_eq {l : List Int} (h : listB l = true) : m_text_list l = some (listT l) := by
  obtain ⟨h1, h2⟩ := listB_iff.1 h
  have hb := numsS_len (good_wide h1)
  have hr := list_rounds l h1 (by omega) l.length 0 (List.replicate l.length []) (Nat.zero_add _) (by simp)
  rw [show ((0 : Nat) : Int) = 0 from rfl] at hr
  have hroom : room = 1099511627776 := rfl
  have hjl : (joinI (l.map dg) [32]).length ≤ 64 * 21 := by
    rw [join_sep, sep_dg, List.length_drop]
    have : l.length * 21 ≤ 64 * 21 := Nat.mul_le_mul_right _ h2
    omega
  unfold m_text_list x_Join
  rw [chk_pos' ⟨by omega, by omega, by omega⟩, Int.toNat_natCast, hr, Option.bind_some, chk_pos' ⟨by rw [List.length_map]; omega, by omega⟩, Option.bind_some, chk_pos' (by simp only [List.length_singleton]; omega), chk_pos' (by simp only [List.length_append, List.length_singleton]; omega), join_sep, sep_dg]
  rfl

/-! ### Lines -/
theorem xline2_eq (ws : List Word) (out : List Int) (h1 : ws.length ≤ 1000) (h2 : (sepS ws).length ≤ 1000000) (h3 : out.length ≤ 1000000000) : m_text_putLine_v2 ws out = some (out ++ ((sepS ws).drop 1 ++ [10])) := by
  have hroom : room = 1099511627776 := rfl
  have hj : (joinI ws [32]).length ≤ 1000000 := by rw [join_sep, List.length_drop]; omega
  unfold m_text_putLine_v2 x_Join m_strings_Builder_WriteString_v2 m_strings_Builder_WriteByte x_copyCheck
  rw [chk_pos' ⟨by omega, by omega⟩, Option.bind_some, Option.bind_some, chk_pos' (by omega), Option.bind_some, Option.bind_some, chk_pos' (by simp only [List.length_append, List.length_singleton]; omega), Option.bind_some, join_sep]
  simp
theorem xline_eq (ws : List Word) (out : List Int) (h1 : ws.length ≤ 1000) (h2 : (sepS ws).length ≤ 1000000000) (h3 : out.length ≤ 1000000000) : m_text_putLine ws out = some (out ++ ((sepS ws).drop 1 ++ [10])) := by
  have hroom : room = 1099511627776 := rfl
  have hj : (joinI ws [32]).length ≤ 1000000000 := by rw [join_sep, List.length_drop]; omega
  unfold m_text_putLine x_Join m_strings_Builder_WriteString m_strings_Builder_WriteByte x_copyCheck
  rw [chk_pos' ⟨by omega, by omega⟩, Option.bind_some, Option.bind_some, chk_pos' (by omega), Option.bind_some, Option.bind_some, chk_pos' (by simp only [List.length_append, List.length_singleton]; omega), Option.bind_some, join_sep]
  simp
theorem phi_line (p : TPhi) : (sepS [phiT, dg p.Bits, dg p.Dst, listT p.From, listT p.Args]).drop 1 ++ [10] = phiS p := by
  simp [sepS, phiS, numsS, numS, listS, listT]
theorem op_line (o : TOp) : (sepS [nameK o.Kind, dg o.Bits, dg o.Lanes, dg o.Dst, listT o.Args, dg o.Imm]).drop 1 ++ [10] = opS o := by
  simp [sepS, opS, numsS, numS, listS, listT]
theorem end_line (e : TEnd) : (sepS [nameE e.Kind, dg e.Arg, listT e.To]).drop 1 ++ [10] = endS e := by
  simp [sepS, endS, numsS, numS, listS, listT]
theorem func_line (f : TFunc) : (sepS [funcT, listT f.Params, dg f.Ret]).drop 1 ++ [10] = funcT ++ listS f.Params ++ numsS [f.Ret] ++ [10] := by
  simp [sepS, numsS, numS, listS, listT]
theorem sep_len (l : List Word) : (sepS l).length ≤ ((sepS l).drop 1 ++ [10]).length := by
  simp only [List.length_append, List.length_drop, List.length_singleton]; omega

/-! ### Print -/
/-- Put behind one another, counted ahead. -/
theorem loop_put {α β : Type} (l : List α) (d : α) (E : α → List β) (M : Nat) (f : Int × List β → Option (LR (Int × List β) (List β)))
    (hn : ∀ (out : List β) (i : Nat), i < l.length → out.length + (E (l.getD i d)).length ≤ M → f ((i : Int), out) = some (.next (((i + 1 : Nat) : Int), out ++ E (l.getD i d))))
    (hd : ∀ out : List β, f ((l.length : Int), out) = some (.done out)) :
    ∀ (k i : Nat) (out : List β), i + k = l.length → out.length + ((l.drop i).map E).flatten.length ≤ M → loopO f ((i : Int), out) = some (out ++ ((l.drop i).map E).flatten)
  | 0, i, out, h, _ => by
    obtain rfl : i = l.length := by omega
    rw [loopO_done (hd out)]
    simp
  | k + 1, i, out, h, hM => by
    have hi : i < l.length := by omega
    have hdr := drop_getD l d hi
    rw [hdr, List.map_cons, List.flatten_cons, List.length_append] at hM
    rw [loopO_next (hn out i hi (by omega)), loop_put l d E M f hn hd k (i + 1) _ (by omega) (by rw [List.length_append]; omega), hdr, List.map_cons, List.flatten_cons, List.append_assoc]
theorem xnames_ops (f : TFunc) (i : Nat) (hl : (f.Blocks.getD i default).Ops.length ≤ 512) : loopO (m_text_hasNames_L1 f i) 0 = some (bif (f.Blocks.getD i default).Ops.all opN then .inl () else .inr false) := by
  have := loop_all (f.Blocks.getD i default).Ops (default : TOp) opN (m_text_hasNames_L1 f i) (.inl ()) (.inr false) (fun j hj hp => by
    have e0 : decide ((j : Int) < ((f.Blocks.getD i default).Ops.length : Int)) = true := decide_eq_true (by omega)
    unfold opN at hp
    have e1 := of_decide_eq_true hp
    unfold m_text_hasNames_L1
    show (bif decide ((j : Int) < (((f.Blocks.getD ((i : Int)).toNat default).Ops).length : Int)) then _ else _) = _
    rw [Int.toNat_natCast, e0, cond_true, chk_pos' (inB_nat hj), Int.toNat_natCast, decide_eq_false (by omega), cond_false, w64_succ hj (by omega)]) (fun j hj hp => by
    have e0 : decide ((j : Int) < ((f.Blocks.getD i default).Ops.length : Int)) = true := decide_eq_true (by omega)
    unfold opN at hp
    have e1 := of_decide_eq_false hp
    unfold m_text_hasNames_L1
    show (bif decide ((j : Int) < (((f.Blocks.getD ((i : Int)).toNat default).Ops).length : Int)) then _ else _) = _
    rw [Int.toNat_natCast, e0, cond_true, chk_pos' (inB_nat hj), Int.toNat_natCast, decide_eq_true (by omega), cond_true]) (by
    have e0 : decide (((f.Blocks.getD i default).Ops.length : Int) < ((f.Blocks.getD i default).Ops.length : Int)) = false := by simp
    unfold m_text_hasNames_L1
    show (bif decide ((((f.Blocks.getD i default).Ops.length : Nat) : Int) < (((f.Blocks.getD ((i : Int)).toNat default).Ops).length : Int)) then _ else _) = _
    rw [Int.toNat_natCast, e0, cond_false]) _ 0 (Nat.zero_add _)
  rw [show ((0 : Nat) : Int) = 0 from rfl, List.drop_zero] at this
  exact this
theorem xnames (f : TFunc) (ok : OkF f) : m_text_hasNames f = some (namedB f) := by
  have := loop_all f.Blocks (default : TBlock) blockN (m_text_hasNames_L2 f) (.inl ()) (.inr false) (fun i hi hp => by
    have e0 : decide ((i : Int) < (f.Blocks.length : Int)) = true := decide_eq_true (by omega)
    have okb := ok.block _ (getD_mem (d := (default : TBlock)) hi)
    simp only [blockN, Bool.and_eq_true, decide_eq_true_eq] at hp
    unfold m_text_hasNames_L2
    show (bif decide ((i : Int) < (f.Blocks.length : Int)) then _ else _) = _
    rw [e0, cond_true, chk_pos' (inB_nat hi), xnames_ops f i okb.ops, hp.1, cond_true, Option.bind_some]
    simp only [Int.toNat_natCast]
    rw [decide_eq_false (by omega), cond_false, w64_succ hi (by have := ok.blocks; omega)]) (fun i hi hp => by
    have e0 : decide ((i : Int) < (f.Blocks.length : Int)) = true := decide_eq_true (by omega)
    have okb := ok.block _ (getD_mem (d := (default : TBlock)) hi)
    unfold m_text_hasNames_L2
    show (bif decide ((i : Int) < (f.Blocks.length : Int)) then _ else _) = _
    rw [e0, cond_true, chk_pos' (inB_nat hi), xnames_ops f i okb.ops]
    unfold blockN at hp
    cases ha : (f.Blocks.getD i default).Ops.all opN with
    | false => rfl
    | true =>
      rw [ha, Bool.true_and] at hp
      have e1 := of_decide_eq_false hp
      rw [cond_true, Option.bind_some]
      simp only [Int.toNat_natCast]
      rw [decide_eq_true (by omega), cond_true]) (by
    have e0 : decide ((f.Blocks.length : Int) < (f.Blocks.length : Int)) = false := by simp
    unfold m_text_hasNames_L2
    show (bif decide ((f.Blocks.length : Int) < (f.Blocks.length : Int)) then _ else _) = _
    rw [e0, cond_false]) _ 0 (Nat.zero_add _)
  rw [show ((0 : Nat) : Int) = 0 from rfl, List.drop_zero] at this
  unfold m_text_hasNames namedB
  rw [this, Option.bind_some]
  cases f.Blocks.all blockN <;> rfl
end Go.Proofs.YtcddajbcbkbipaaGreatDoor

namespace Go.Proofs.YtcddajbcbkbipaaGreatDoor
open Go Go.RowKit
set_option linter.unusedVariables false
set_option linter.unusedSimpArgs false

theorem sep_le {ws : List Word} {t : List Int} {B : Nat} (e : (sepS ws).drop 1 ++ [10] = t) (h : t.length ≤ B) : (sepS ws).length ≤ B := by
  have := sep_len ws
  rw [e] at this
  omega
theorem xphi_step (f : TFunc) (i j : Nat) (out : List Int) (hj : j < (f.Blocks.getD i default).Phis.length) (hl : (f.Blocks.getD i default).Phis.length ≤ 512) (hp : phiB ((f.Blocks.getD i default).Phis.getD j default) = true)
    (hle : out.length + (phiS ((f.Blocks.getD i default).Phis.getD j default)).length ≤ 900000000) :
    m_text_Print_L1 f i ((j : Int), out) = some (.next (((j + 1 : Nat) : Int), out ++ phiS ((f.Blocks.getD i default).Phis.getD j default))) := by
  have e0 : decide ((j : Int) < ((f.Blocks.getD i default).Phis.length : Int)) = true := decide_eq_true (by omega)
  have hs := phiS_len hp
  have hp' := hp
  simp only [phiB, Bool.and_eq_true] at hp'
  unfold m_text_Print_L1
  show (bif decide ((j : Int) < (((f.Blocks.getD ((i : Int)).toNat default).Phis).length : Int)) then _ else _) = _
  simp only [Int.toNat_natCast]
  rw [e0, cond_true, chk_pos' (inB_nat hj)]
  generalize (f.Blocks.getD i default).Phis.getD j default = p at *
  rw [xnumber_eq hp'.1.1.1, Option.bind_some, xnumber_eq hp'.1.1.2, Option.bind_some, xlist_eq hp'.1.2, Option.bind_some, xlist_eq hp'.2, Option.bind_some,
    show m_text_putLine_v2 [[112, 104, 105], dg p.Bits, dg p.Dst, listT p.From, listT p.Args] out = some (out ++ phiS p) from by rw [← phi_line p]; exact xline2_eq [phiT, dg p.Bits, dg p.Dst, listT p.From, listT p.Args] out (by simp) (sep_le (phi_line p) (by omega)) (by omega), Option.bind_some, w64_succ hj (by omega)]
  rfl
theorem xop_step (f : TFunc) (i j : Nat) (out : List Int) (hj : j < (f.Blocks.getD i default).Ops.length) (hl : (f.Blocks.getD i default).Ops.length ≤ 512) (hp : opB ((f.Blocks.getD i default).Ops.getD j default) = true) (hi6 : wideP ((f.Blocks.getD i default).Ops.getD j default).Imm) (hn : opN ((f.Blocks.getD i default).Ops.getD j default) = true)
    (hle : out.length + (opS ((f.Blocks.getD i default).Ops.getD j default)).length ≤ 900000000) :
    m_text_Print_L2 f i ((j : Int), out) = some (.next (((j + 1 : Nat) : Int), out ++ opS ((f.Blocks.getD i default).Ops.getD j default))) := by
  have e0 : decide ((j : Int) < ((f.Blocks.getD i default).Ops.length : Int)) = true := decide_eq_true (by omega)
  have hs := opS_len hp hi6
  have hp' := hp
  simp only [opB, Bool.and_eq_true] at hp'
  unfold opN at hn
  have hn := of_decide_eq_true hn
  have hk := numB_iff.1 hp'.1.1.1.1
  unfold m_text_Print_L2
  show (bif decide ((j : Int) < (((f.Blocks.getD ((i : Int)).toNat default).Ops).length : Int)) then _ else _) = _
  simp only [Int.toNat_natCast]
  rw [e0, cond_true, chk_pos' (inB_nat hj), chk_pos' ⟨hk.1, by omega⟩]
  generalize (f.Blocks.getD i default).Ops.getD j default = o at *
  rw [xnumber_eq hp'.1.1.1.2, Option.bind_some, xnumber_eq hp'.1.1.2, Option.bind_some, xnumber_eq hp'.1.2, Option.bind_some, xlist_eq hp'.2, Option.bind_some, ximm_eq hi6, Option.bind_some,
    xline2_eq [gl0.getD o.Kind.toNat [], dg o.Bits, dg o.Lanes, dg o.Dst, listT o.Args, dg o.Imm] out (by simp) (sep_le (op_line o) (by omega)) (by omega), Option.bind_some, w64_succ hj (by omega)]
  rw [show (sepS [gl0.getD o.Kind.toNat [], dg o.Bits, dg o.Lanes, dg o.Dst, listT o.Args, dg o.Imm]).drop 1 ++ [10] = opS o from op_line o]
  rfl
theorem xblock_step (f : TFunc) (i : Nat) (out : List Int) (hi : i < f.Blocks.length) (hl : f.Blocks.length ≤ 64) (okb : OkB (f.Blocks.getD i default)) (hb : blockN (f.Blocks.getD i default) = true)
    (hle : out.length + (blockS (f.Blocks.getD i default)).length ≤ 800000000) :
    m_text_Print_L3 f ((i : Int), out) = some (.next (((i + 1 : Nat) : Int), out ++ blockS (f.Blocks.getD i default))) := by
  obtain ⟨b1, b2, b3⟩ := blockB_iff.1 okb.may
  simp only [blockN, Bool.and_eq_true, decide_eq_true_eq] at hb
  have e0 : decide ((i : Int) < (f.Blocks.length : Int)) = true := decide_eq_true (by omega)
  have hle' := hle
  unfold blockS at hle
  simp only [List.length_append] at hle
  have hb5 : blockT.length = 5 := rfl
  have h10 : ([10] : List Int).length = 1 := rfl
  have l1 := loop_put (f.Blocks.getD i default).Phis (default : TPhi) phiS 900000000 (m_text_Print_L1 f i) (fun out j hj hle => xphi_step f i j out hj okb.phis (b1 _ (getD_mem hj)) hle) (fun out => by
    unfold m_text_Print_L1
    have : decide (((f.Blocks.getD i default).Phis.length : Int) < ((f.Blocks.getD i default).Phis.length : Int)) = false := by simp
    show (bif decide (((f.Blocks.getD i default).Phis.length : Int) < (((f.Blocks.getD ((i : Int)).toNat default).Phis).length : Int)) then _ else _) = _
    rw [Int.toNat_natCast, this, cond_false]) _ 0 (out ++ (blockT ++ [10])) (Nat.zero_add _) (by rw [List.drop_zero]; simp only [List.length_append]; omega)
  have l2 := loop_put (f.Blocks.getD i default).Ops (default : TOp) opS 900000000 (m_text_Print_L2 f i) (fun out j hj hle => xop_step f i j out hj okb.ops (b2 _ (getD_mem hj)) (okb.imm _ (getD_mem hj)) (List.all_eq_true.1 hb.1 _ (getD_mem hj)) hle) (fun out => by
    unfold m_text_Print_L2
    have : decide (((f.Blocks.getD i default).Ops.length : Int) < ((f.Blocks.getD i default).Ops.length : Int)) = false := by simp
    show (bif decide (((f.Blocks.getD i default).Ops.length : Int) < (((f.Blocks.getD ((i : Int)).toNat default).Ops).length : Int)) then _ else _) = _
    rw [Int.toNat_natCast, this, cond_false]) _ 0 (out ++ (blockT ++ [10]) ++ ((f.Blocks.getD i default).Phis.map phiS).flatten) (Nat.zero_add _) (by rw [List.drop_zero]; simp only [List.length_append]; omega)
  rw [show ((0 : Nat) : Int) = 0 from rfl, List.drop_zero] at l1 l2
  have b3' := b3
  simp only [endB, Bool.and_eq_true] at b3'
  have hk := numB_iff.1 b3'.1.1
  have hel := endS_len b3
  unfold m_text_Print_L3
  show (bif decide ((i : Int) < (f.Blocks.length : Int)) then _ else _) = _
  rw [e0, cond_true, chk_pos' (inB_nat hi), show m_text_putLine_v2 [[98, 108, 111, 99, 107]] out = some (out ++ (blockT ++ [10])) from xline2_eq [blockT] out (by simp) (by decide) (by omega), Option.bind_some]
  rw [l1, Option.bind_some, l2, Option.bind_some]
  simp only [Int.toNat_natCast]
  rw [chk_pos' ⟨hk.1, by omega⟩, xnumber_eq b3'.1.2, Option.bind_some, xlist_eq b3'.2, Option.bind_some]
  generalize hB : f.Blocks.getD i default = b at *
  rw [xline2_eq [gl1.getD b.End.Kind.toNat [], dg b.End.Arg, listT b.End.To] _ (by simp) (sep_le (end_line b.End) (by omega)) (by simp only [List.length_append]; omega), Option.bind_some, w64_succ hi (by omega),
    show (sepS [gl1.getD b.End.Kind.toNat [], dg b.End.Arg, listT b.End.To]).drop 1 ++ [10] = endS b.End from end_line b.End]
  unfold blockS
  simp only [List.append_assoc]
  rfl
theorem xprint_eq (f : TFunc) (hf : InF f) (hs : mayF f = true → OkF f) : m_text_Print f = some (printF f) := by
  unfold m_text_Print printF
  rw [xmay f hf, Option.bind_some]
  cases hm : mayF f with
  | false => rfl
  | true =>
    have ok := hs hm
    have hlenF := textS_len ok
    show Option.bind (m_text_hasNames f) _ = _
    rw [xnames f ok, Option.bind_some]
    cases hn : namedB f with
    | false => rfl
    | true =>
      have hfl := func_line f
      unfold textS at hlenF
      simp only [List.length_append, List.length_singleton] at hlenF
      have l3 := loop_put f.Blocks (default : TBlock) blockS 800000000 (m_text_Print_L3 f) (fun out i hi hle => xblock_step f i out hi ok.blocks (ok.block _ (getD_mem hi)) (List.all_eq_true.1 hn _ (getD_mem hi)) hle) (fun out => by
        have e0 : decide ((f.Blocks.length : Int) < (f.Blocks.length : Int)) = false := by simp
        unfold m_text_Print_L3
        show (bif decide ((f.Blocks.length : Int) < (f.Blocks.length : Int)) then _ else _) = _
        rw [e0, cond_false]) _ 0 (funcT ++ listS f.Params ++ numsS [f.Ret] ++ [10]) (Nat.zero_add _) (by rw [List.drop_zero]; simp only [List.length_append, List.length_singleton]; omega)
      rw [show ((0 : Nat) : Int) = 0 from rfl, List.drop_zero] at l3
      show Option.bind (m_text_list f.Params) _ = _
      rw [xlist_eq ok.params, Option.bind_some, xnumber_eq ok.ret, Option.bind_some,
        show m_text_putLine [[102, 117, 110, 99], listT f.Params, dg f.Ret] [] = some (funcT ++ listS f.Params ++ numsS [f.Ret] ++ [10]) from by
          have := xline_eq [funcT, listT f.Params, dg f.Ret] [] (by simp) (sep_le (B := 1000000000) hfl (by simp only [List.length_append, List.length_singleton]; omega)) (by simp)
          rw [hfl, List.nil_append] at this
          exact this]
      rw [Option.bind_some, l3, Option.bind_some]
      unfold x_String
      rw [show funcT ++ listS f.Params ++ numsS [f.Ret] ++ [10] ++ (f.Blocks.map blockS).flatten = textS f from rfl, chk_pos' ⟨by simp [textS, funcT], textS_bytes f⟩]
      rfl
end Go.Proofs.YtcddajbcbkbipaaGreatDoor

namespace Go.Proofs.YtcddajbcbkbipaaGreatDoor
open Go Go.RowKit
set_option linter.unusedVariables false
set_option linter.unusedSimpArgs false

theorem dec_lo (l : List Int) (i : Nat) (h : (l.getD i 0).toNat < 128) : decodeL l i = ((l.getD i 0).toNat, 1) := by
  unfold decodeL
  simp only [Nat.add_zero]
  rw [if_pos h]
theorem dec_hi (l : List Int) (i : Nat) (h : ¬ (l.getD i 0).toNat < 128) : 128 ≤ (decodeL l i).1 ∧ 1 ≤ (decodeL l i).2 ∧ ∀ k, 1 ≤ k → k < (decodeL l i).2 → i + k < l.length ∧ 128 ≤ (l.getD (i + k) 0).toNat := by
  have he : (128 : Nat) ≤ Utf8.runeError := by decide
  have one : ∀ k, 1 ≤ k → k < 1 → i + k < l.length ∧ 128 ≤ (l.getD (i + k) 0).toNat := fun k h1 h2 => by omega
  unfold decodeL
  simp only [Nat.add_zero]
  rw [if_neg h]
  split
  · rename_i h1
    simp only [Bool.and_eq_true, decide_eq_true_eq, beq_iff_eq] at h1
    split
    · rename_i h2
      refine ⟨h2, by show 1 ≤ 2; omega, fun k k1 k2 => ?_⟩
      obtain rfl : k = 1 := by change k < 2 at k2; omega
      exact ⟨h1.2.1, by omega⟩
    · exact ⟨he, Nat.le_refl _, one⟩
  · split
    · rename_i h1
      simp only [Bool.and_eq_true, decide_eq_true_eq, beq_iff_eq] at h1
      split
      · rename_i h2
        simp only [Bool.and_eq_true, decide_eq_true_eq] at h2
        refine ⟨by have := h2.1; change 128 ≤ _; omega, by show 1 ≤ 3; omega, fun k k1 k2 => ?_⟩
        change k < 3 at k2
        rcases (by omega : k = 1 ∨ k = 2) with rfl | rfl
        · exact ⟨h1.1.2.1, by omega⟩
        · exact ⟨h1.2.1, by omega⟩
      · exact ⟨he, Nat.le_refl _, one⟩
    · split
      · rename_i h1
        simp only [Bool.and_eq_true, decide_eq_true_eq, beq_iff_eq] at h1
        split
        · rename_i h2
          simp only [Bool.and_eq_true, decide_eq_true_eq] at h2
          refine ⟨by have := h2.1; change 128 ≤ _; omega, by show 1 ≤ 4; omega, fun k k1 k2 => ?_⟩
          change k < 4 at k2
          rcases (by omega : k = 1 ∨ k = 2 ∨ k = 3) with rfl | rfl | rfl
          · exact ⟨h1.1.1.2.1, by omega⟩
          · exact ⟨h1.1.2.1, by omega⟩
          · exact ⟨h1.2.1, by omega⟩
        · exact ⟨he, Nat.le_refl _, one⟩
      · exact ⟨he, Nat.le_refl _, one⟩
theorem sep_small {c : Int} (h : sepB c = true) : c = 32 ∨ c = 10 ∨ c = 40 ∨ c = 41 := by
  unfold sepB at h
  simp only [Bool.or_eq_true, beq_iff_eq] at h
  omega
theorem not_sep {c : Int} (h1 : c ≠ 32) (h2 : c ≠ 10) (h3 : c ≠ 40) (h4 : c ≠ 41) : sepB c = false := by
  unfold sepB
  simp [h1, h2, h3, h4]
theorem rune_sep {a : List Int} {n : Nat} (hn : n < a.length) (h : sepB (a.getD n 0) = true) : runeL a n = a.getD n 0 ∧ stepL a n = n + 1 := by
  have := sep_small h
  have e := dec_lo a n (by omega)
  have hb : Nat.blt n a.length = true := by rw [Nat.blt_eq]; exact hn
  unfold runeL stepL
  rw [e, hb]
  exact ⟨by show ((a.getD n 0).toNat : Int) = _; omega, rfl⟩
theorem rune_else {a : List Int} (hb : BytesI a) {n : Nat} (hn : n < a.length) (h : sepB (a.getD n 0) = false) : sepB (runeL a n) = false ∧ n < stepL a n ∧ stepL a n ≤ a.length ∧ ∀ j, n ≤ j → j < stepL a n → sepB (a.getD j 0) = false := by
  have hbl : Nat.blt n a.length = true := by rw [Nat.blt_eq]; exact hn
  have h0 := hb _ (getD_mem (d := (0 : Int)) hn)
  by_cases hl : (a.getD n 0).toNat < 128
  · have e := dec_lo a n hl
    unfold runeL stepL
    rw [e, hbl]
    have e2 : (((a.getD n 0).toNat : Nat) : Int) = a.getD n 0 := by omega
    refine ⟨by show sepB ((a.getD n 0).toNat : Int) = false; rw [e2]; exact h, by show n < n + 1; omega, by show n + 1 ≤ _; omega, fun j h1 h2 => ?_⟩
    change j < n + 1 at h2
    obtain rfl : j = n := by omega
    exact h
  · obtain ⟨d1, d2, d3⟩ := dec_hi a n hl
    have big : ∀ c : Int, 128 ≤ c.toNat → sepB c = false := fun c hc => not_sep (by omega) (by omega) (by omega) (by omega)
    unfold runeL stepL
    rw [hbl, cond_true]
    refine ⟨big _ (by omega), by omega, ?_, fun j h1 h2 => ?_⟩
    · by_cases h1 : (decodeL a n).2 = 1
      · omega
      · have := (d3 ((decodeL a n).2 - 1) (by omega) (by omega)).1
        omega
    · by_cases h3 : j = n
      · subst h3; exact h
      · have := (d3 (j - n) (by omega) (by omega)).2
        rw [show n + (j - n) = j by omega] at this
        exact big _ this

/-! ### The first word -/
/-- From b up to n. -/
def cutL (a : List Int) (b n : Nat) : List Int := (a.drop b).take (n - b)
theorem cut_add (a : List Int) {b n m : Nat} (h1 : b ≤ n) (h2 : n ≤ m) : cutL a b m = cutL a b n ++ cutL a n m := by
  unfold cutL
  rw [show m - b = (n - b) + (m - n) by omega, List.take_add, List.drop_drop, show b + (n - b) = n by omega]
theorem cut_self (a : List Int) (n : Nat) : cutL a n n = [] := by unfold cutL; simp
theorem cut_ne {a : List Int} {b n : Nat} (h1 : b < n) (h2 : n ≤ a.length) : cutL a b n ≠ [] := by
  intro h
  have := congrArg List.length h
  unfold cutL at this
  simp only [List.length_take, List.length_drop, List.length_nil] at this
  omega
theorem drop_cut (a : List Int) {n m : Nat} (h : n ≤ m) : a.drop n = cutL a n m ++ a.drop m := by
  unfold cutL
  conv => lhs; rw [← List.take_append_drop (m - n) (a.drop n), List.drop_drop, show n + (m - n) = m by omega]
theorem cut_nosep {a : List Int} {n m : Nat} (hm : m ≤ a.length) (h : ∀ j, n ≤ j → j < m → sepB (a.getD j 0) = false) : ∀ x ∈ cutL a n m, sepB x = false := fun x hx => by
  unfold cutL at hx
  obtain ⟨j, hj, rfl⟩ := List.getElem_of_mem hx
  simp only [List.length_take, List.length_drop] at hj
  have := h (n + j) (by omega) (by omega)
  rw [List.getElem_take, List.getElem_drop]
  rw [getD_eq_of_lt _ _ _ (by omega)] at this
  exact this
def Sub (w a : List Int) : Prop := (∀ x ∈ w, x ∈ a) ∧ w.length ≤ a.length
theorem sub_drop (a : List Int) (n : Nat) : Sub (a.drop n) a := ⟨fun x hx => List.mem_of_mem_drop hx, by simp⟩
theorem sub_cut (a : List Int) (b n : Nat) : Sub (cutL a b n) a := ⟨fun x hx => List.mem_of_mem_drop (List.mem_of_mem_take hx), by unfold cutL; simp only [List.length_take, List.length_drop]; omega⟩
theorem sub_nil (a : List Int) : Sub [] a := ⟨fun x hx => (by cases hx), by simp⟩
/-- What is cut off: a word and what stands behind it, or nothing. -/
def CutR (a : List Int) (ws : List Word) (r : List Int × List Int) : Prop := Sub r.1 a ∧ Sub r.2 a ∧ ((r.1 = [] ∧ r.2 = [] ∧ ws = []) ∨ (r.1 ≠ [] ∧ ws = r.1 :: wordsS r.2))
noncomputable def cutE (a : List Int) (x : Int ⊕ (List Int × List Int)) : Option (List Int × List Int) := match x with | (.inl i3) => (bif (decide ((i3 : Int) < (0 : Int))) then (some (([] : List Int), ([] : List Int))) else (chk (0 ≤ i3 ∧ i3 ≤ (a.length : Int)) (some ((a.drop (i3).toNat), ([] : List Int))))) | (.inr r13) => (some r13)
theorem cut_end (a : List Int) (i : Int) : m_text_cutWord_L1 a (i, a.length) = some (.done (.inl i)) := by
  have hb : Nat.blt a.length a.length = false := by
    rw [← Bool.not_eq_true, Nat.blt_eq]; omega
  unfold m_text_cutWord_L1
  simp only [hb, cond_false]
theorem cut_word {a : List Int} (hl : a.length ≤ 100000000000) {b n : Nat} (hbn : b < n) (hn : n < a.length) (h : sepB (a.getD n 0) = true) : m_text_cutWord_L1 a ((b : Int), n) = some (.done (.inr (cutL a b n, a.drop n))) := by
  obtain ⟨h1, h2⟩ := rune_sep hn h
  have hb : Nat.blt n a.length = true := by rw [Nat.blt_eq]; exact hn
  have e0 : decide ((0 : Int) ≤ (b : Int)) = true := decide_eq_true (by omega)
  have e1 : (bif (bif (a.getD n 0 == 32) then true else (a.getD n 0 == 10)) then true else (bif (a.getD n 0 == 40) then true else (a.getD n 0 == 41))) = true := by
    rcases sep_small h with e | e | e | e <;> rw [e] <;> rfl
  unfold m_text_cutWord_L1
  simp only [hb, cond_true, h1, e0]
  rw [chk_pos' trivial, chk_pos' trivial, e1, cond_true, chk_pos' ⟨by omega, by omega, by omega⟩, chk_pos' ⟨by omega, by omega⟩]
  rfl
theorem cut_brace {a : List Int} (hl : a.length ≤ 100000000000) {n : Nat} (hn : n < a.length) (h : brB (a.getD n 0) = true) : m_text_cutWord_L1 a (-1, n) = some (.done (.inr ([a.getD n 0], a.drop (n + 1)))) := by
  have hs : sepB (a.getD n 0) = true := by
    unfold brB at h
    unfold sepB
    simp only [Bool.or_eq_true, beq_iff_eq] at h ⊢
    omega
  obtain ⟨h1, h2⟩ := rune_sep hn hs
  have hb : Nat.blt n a.length = true := by rw [Nat.blt_eq]; exact hn
  have e1 : (bif (a.getD n 0 == 40) then true else (a.getD n 0 == 41)) = true := by
    unfold brB at h
    revert h
    cases (a.getD n 0 == 40) <;> cases (a.getD n 0 == 41) <;> intro h <;> first | rfl | exact h
  have e2 : w64 ((n : Int) + 1) = ((n + 1 : Nat) : Int) := by rw [w64_succ hn (by omega)]; rfl
  unfold m_text_cutWord_L1
  simp only [hb, cond_true, h1]
  rw [chk_pos' trivial, chk_pos' trivial, e2, e1, show decide ((0 : Int) ≤ -1) = false from rfl, cond_false, cond_false, cond_true, chk_pos' ⟨by omega, by omega, by omega⟩, chk_pos' ⟨by omega, by omega⟩]
  have e3 : (a.drop ((n : Int)).toNat).take ((((n + 1 : Nat) : Int)).toNat - ((n : Int)).toNat) = [a.getD n 0] := by
    rw [Int.toNat_natCast, Int.toNat_natCast, drop_getD a 0 hn, show n + 1 - n = 1 by omega]
    rfl
  rw [e3, Int.toNat_natCast]
theorem cut_gap {a : List Int} {n : Nat} (hn : n < a.length) (h : sepB (a.getD n 0) = true) (hbr : brB (a.getD n 0) = false) : m_text_cutWord_L1 a (-1, n) = some (.next (-1, n + 1)) := by
  obtain ⟨h1, h2⟩ := rune_sep hn h
  have hb : Nat.blt n a.length = true := by rw [Nat.blt_eq]; exact hn
  have e1 : (bif (a.getD n 0 == 40) then true else (a.getD n 0 == 41)) = false := by
    unfold brB at hbr
    revert hbr
    cases (a.getD n 0 == 40) <;> cases (a.getD n 0 == 41) <;> intro h <;> first | rfl | exact h
  have e3 : (bif (a.getD n 0 == 32) then true else (a.getD n 0 == 10)) = true := by
    rcases sep_small h with e | e | e | e
    · rw [e]; rfl
    · rw [e]; rfl
    · rw [e] at hbr; cases hbr
    · rw [e] at hbr; cases hbr
  unfold m_text_cutWord_L1
  simp only [hb, cond_true, h1, h2]
  rw [chk_pos' trivial, chk_pos' trivial, e1, e3]
  rfl
theorem cut_on {a : List Int} (hb' : BytesI a) {i : Int} {n : Nat} (hn : n < a.length) (h : sepB (a.getD n 0) = false) : m_text_cutWord_L1 a (i, n) = some (.next (if i < 0 then (n : Int) else i, stepL a n)) := by
  obtain ⟨h1, h2, h3, h4⟩ := rune_else hb' hn h
  have hb : Nat.blt n a.length = true := by rw [Nat.blt_eq]; exact hn
  unfold sepB at h1
  simp only [Bool.or_eq_false_iff] at h1
  obtain ⟨⟨⟨g1, g2⟩, g3⟩, g4⟩ := h1
  unfold m_text_cutWord_L1
  simp only [hb, cond_true, g1, g2, g3, g4, cond_false]
  rw [chk_pos' trivial, chk_pos' trivial]
  by_cases hi : i < 0
  · rw [decide_eq_false (by omega), decide_eq_true hi, if_pos hi]; rfl
  · rw [decide_eq_true (by omega), decide_eq_false hi, if_neg hi]; rfl
theorem cut_run {a : List Int} (hb : BytesI a) (hl : a.length ≤ 100000000000) : ∀ (k n : Nat), a.length - n ≤ k → n ≤ a.length →
    (∃ x, loopO (m_text_cutWord_L1 a) (-1, n) = some x ∧ ∃ r, cutE a x = some r ∧ CutR a (wordsA (a.drop n) []) r) ∧
    (∀ b : Nat, b < n → ∃ x, loopO (m_text_cutWord_L1 a) ((b : Int), n) = some x ∧ ∃ r, cutE a x = some r ∧ CutR a (wordsA (a.drop n) (cutL a b n)) r) := by
  intro k
  induction k with
  | zero =>
    intro n h1 h2
    obtain rfl : n = a.length := by omega
    refine ⟨⟨_, loopO_done (cut_end a (-1)), ([], []), rfl, sub_nil a, sub_nil a, .inl ⟨rfl, rfl, by rw [List.drop_length]; rfl⟩⟩, fun b hbn => ⟨_, loopO_done (cut_end a b), (a.drop b, []), ?_, sub_drop a b, sub_nil a, .inr ⟨?_, ?_⟩⟩⟩
    · unfold cutE
      simp only
      rw [decide_eq_false (by omega), cond_false, chk_pos' ⟨by omega, by omega⟩, Int.toNat_natCast]
    · intro h
      have := congrArg List.length h
      simp only [List.length_drop, List.length_nil] at this
      omega
    · have e : cutL a b a.length = a.drop b := by unfold cutL; rw [List.take_of_length_le (by simp)]
      have hne := cut_ne hbn (Nat.le_refl _)
      rw [List.drop_length, wordsA, fl_ne hne, e]
      rfl
  | succ k ih =>
    intro n h1 h2
    by_cases hn : ¬ n < a.length
    · exact ih n (by omega) h2
    have hn := Decidable.not_not.1 hn
    have hd := drop_getD a (0 : Int) hn
    cases hs : sepB (a.getD n 0) with
    | true =>
      constructor
      · cases hbr : brB (a.getD n 0) with
        | true =>
          refine ⟨_, loopO_done (cut_brace hl hn hbr), _, rfl, ?_, sub_drop a _, .inr ⟨by simp, ?_⟩⟩
          · refine ⟨fun x hx => ?_, by simp only [List.length_singleton]; omega⟩
            obtain rfl := List.mem_singleton.1 hx
            exact getD_mem hn
          · rw [hd, wordsA, hs, hbr, fl_nil]
            rfl
        | false =>
          obtain ⟨x, e, r, er, hr⟩ := (ih (n + 1) (by omega) (by omega)).1
          refine ⟨x, by rw [loopO_next (cut_gap hn hs hbr), e], r, er, ?_⟩
          rw [hd, wordsA, hs, hbr, fl_nil]
          exact hr
      · intro b hbn
        refine ⟨_, loopO_done (cut_word hl hbn hn hs), _, rfl, sub_cut a b n, sub_drop a n, .inr ⟨cut_ne hbn h2, ?_⟩⟩
        show wordsA (a.drop n) (cutL a b n) = cutL a b n :: wordsA (a.drop n) []
        rw [hd, words_sep hs, fl_ne (cut_ne hbn h2)]
        rfl
    | false =>
      obtain ⟨g1, g2, g3, g4⟩ := rune_else hb hn hs
      have hw : ∀ u, wordsA (a.drop n) u = wordsA (a.drop (stepL a n)) (u ++ cutL a n (stepL a n)) := fun u => by
        rw [drop_cut a (Nat.le_of_lt g2), words_run _ _ _ (cut_nosep g3 g4)]
      obtain ⟨_, q2⟩ := ih (stepL a n) (by omega) g3
      constructor
      · obtain ⟨x, e, r, er, hr⟩ := q2 n g2
        refine ⟨x, by rw [loopO_next (cut_on hb hn hs), if_pos (by omega), e], r, er, ?_⟩
        rw [hw, List.nil_append]
        exact hr
      · intro b hbn
        obtain ⟨x, e, r, er, hr⟩ := q2 b (by omega)
        refine ⟨x, by rw [loopO_next (cut_on hb hn hs), if_neg (by omega), e], r, er, ?_⟩
        rw [hw, ← cut_add a (by omega) (Nat.le_of_lt g2)]
        exact hr
theorem cutWord_eq {a : List Int} (hb : BytesI a) (hl : a.length ≤ 100000000000) : ∃ r, m_text_cutWord a = some r ∧ CutR a (wordsS a) r := by
  obtain ⟨x, e, r, er, hr⟩ := (cut_run hb hl a.length 0 (by omega) (by omega)).1
  refine ⟨r, ?_, hr⟩
  unfold m_text_cutWord
  rw [e, Option.bind_some]
  exact er
end Go.Proofs.YtcddajbcbkbipaaGreatDoor

namespace Go.Proofs.YtcddajbcbkbipaaGreatDoor
open Go Go.RowKit
set_option linter.unusedVariables false
set_option linter.unusedSimpArgs false

/-! ### What is left -/
def longW : Nat := 100000000000
def badX : Treader := ⟨[], [], true⟩
def VX : VW Treader where
  left s := if s.word = [] then [] else s.word :: wordsS s.rest
  fine s := s.wrong = false ∧ (s.word = [] → s.rest = []) ∧ BytesI s.word ∧ BytesI s.rest ∧ s.word.length ≤ longW ∧ s.rest.length ≤ longW
  spent _ s := s = badX
  mono _ _ _ h := h
theorem headX (s : Treader) : (VX.left s).headD [] = s.word := by
  show (if s.word = [] then [] else s.word :: wordsS s.rest).headD [] = s.word
  by_cases h : s.word = []
  · rw [if_pos h, h]; rfl
  · rw [if_neg h]; rfl
theorem leftX_nil {s : Treader} : VX.left s = [] ↔ s.word = [] := by
  show (if s.word = [] then [] else s.word :: wordsS s.rest) = [] ↔ _
  by_cases h : s.word = []
  · simp [h]
  · simp [h]
theorem leftX_word {s : Treader} (h : s.word ≠ []) : VX.left s = s.word :: wordsS s.rest := if_neg h
theorem step_any (s : Treader) (hw : s.wrong = false) (hb : BytesI s.rest) (hl : s.rest.length ≤ longW) : ∃ s', m_text_reader_step s = some s' ∧ VX.fine s' ∧ VX.left s' = wordsS s.rest := by
  obtain ⟨r, e, ⟨h1, h1'⟩, ⟨h2, h2'⟩, h3⟩ := cutWord_eq hb hl
  refine ⟨⟨r.1, r.2, s.wrong⟩, ?_, ⟨hw, fun h => ?_, fun x hx => hb x (h1 x hx), fun x hx => hb x (h2 x hx), ?_, ?_⟩, ?_⟩
  · unfold m_text_reader_step
    rw [e, Option.bind_some]
  · change r.1 = [] at h
    rcases h3 with ⟨_, g, _⟩ | ⟨g, _⟩
    · exact g
    · exact absurd h g
  · show r.1.length ≤ _; omega
  · show r.2.length ≤ _; omega
  · show (if r.1 = [] then [] else r.1 :: wordsS r.2) = _
    rcases h3 with ⟨g, _, g3⟩ | ⟨g, g2⟩
    · rw [if_pos g, g3]
    · rw [if_neg g, g2]
theorem step_fine {s : Treader} (h : VX.fine s) : ∃ s', m_text_reader_step s = some s' ∧ VX.fine s' ∧ VX.left s' = wordsS s.rest := step_any s h.1 h.2.2.2.1 h.2.2.2.2.2
theorem step_left {s : Treader} (h : VX.fine s) {w : Word} {l : List Word} (hl : VX.left s = w :: l) : s.word = w ∧ ∃ s', m_text_reader_step s = some s' ∧ VX.fine s' ∧ VX.left s' = l := by
  obtain ⟨s', e, h1, h2⟩ := step_fine h
  have hne : s.word ≠ [] := fun h => by rw [leftX_nil.2 h] at hl; cases hl
  rw [leftX_word hne] at hl
  obtain ⟨rfl, rfl⟩ := List.cons.inj hl
  exact ⟨rfl, s', e, h1, h2⟩
theorem words_nil : wordsS [] = [] := rfl
theorem step_bad : m_text_reader_step badX = some badX := by
  obtain ⟨r, e, ⟨h1, h1'⟩, ⟨h2, h2'⟩, h3⟩ := cutWord_eq BytesI.nil (by simp)
  have e1 : r = ([], []) := Prod.ext (List.length_eq_zero_iff.1 (by simpa using h1')) (List.length_eq_zero_iff.1 (by simpa using h2'))
  unfold m_text_reader_step
  show Option.bind (m_text_cutWord []) _ = _
  rw [e, e1]
  rfl
theorem fail_eq (s : Treader) : m_text_reader_fail s = some badX := rfl
theorem take_eq (w : Word) (s : Treader) : m_text_reader_take w s = if s.word = w then m_text_reader_step s else some badX := by
  unfold m_text_reader_take
  by_cases h : s.word = w
  · have : (s.word == w) = true := by rw [h]; simp
    rw [if_pos h, this]
    cases m_text_reader_step s <;> rfl
  · have : (s.word == w) = false := by rw [beq_eq_false_iff_ne]; exact h
    rw [if_neg h, this, fail_eq]
    rfl
theorem take_bad (w : Word) : m_text_reader_take w badX = some badX := by
  rw [take_eq]
  split
  · exact step_bad
  · rfl
/-- A word that has to stand here. -/
theorem rd_take (w : Word) (hw : w ≠ []) : Rd VX (fun s => (m_text_reader_take w s).bind fun x => some ((), x)) (fun _ => [w]) (fun _ => True) anyW 0 where
  sticky k s hs := by
    obtain rfl : s = badX := hs
    exact ⟨(), badX, by simp only [take_bad, Option.bind_some], rfl⟩
  any s hs _ := by
    by_cases h : s.word = w
    · have hne : s.word ≠ [] := by rw [h]; exact hw
      obtain ⟨s', e, h1, h2⟩ := step_fine hs
      refine ⟨(), s', by simp only [take_eq, if_pos h, e, Option.bind_some], .inl ⟨h1, trivial, trivial, ?_⟩⟩
      rw [leftX_word hne, h2, h]
      rfl
    · exact ⟨(), badX, by simp only [take_eq, if_neg h, Option.bind_some], .inr fun _ _ => rfl⟩
  whole s a more hs _ _ hl := by
    obtain ⟨h, s', e, h1, h2⟩ := step_left hs hl
    exact ⟨s', by simp only [take_eq, if_pos h, e, Option.bind_some], h1, h2⟩

/-! ### Numbers -/
theorem parseD_mono : ∀ (w : List Int) (acc n : Nat), parseD w acc = some n → acc ≤ n
  | [], acc, n, h => by rw [parseD] at h; obtain rfl := Option.some.inj h; exact Nat.le_refl _
  | x :: w, acc, n, h => by
    rw [parseD] at h
    split at h
    · have := parseD_mono w _ n h; omega
    · cases h
theorem pu_iff (M : Nat) (hM : M ≤ 18446744073709551615) : ∀ (w : List Int) (acc n : Nat), BytesI w → acc ≤ M → (Lib.parseUintM M acc (toU8 w) = .ok n ↔ parseD w acc = some n ∧ n ≤ M)
  | [], acc, n, _, ha => by
    show Lib.NumEnd.ok acc = .ok n ↔ some acc = some n ∧ n ≤ M
    constructor
    · intro h; obtain rfl := Lib.NumEnd.ok.inj h; exact ⟨rfl, ha⟩
    · rintro ⟨h, _⟩; obtain rfl := Option.some.inj h; rfl
  | x :: w, acc, n, hb, ha => by
    have hx := hb x (by simp)
    have hw : BytesI w := fun y hy => hb y (by simp [hy])
    have e0 : (UInt8.ofNat x.toNat).toNat = x.toNat := by rw [UInt8.toNat_ofNat']; omega
    show Lib.parseUintM M acc (UInt8.ofNat x.toNat :: toU8 w) = .ok n ↔ _
    rw [Lib.parseUintM, parseD, e0]
    by_cases h1 : 48 ≤ x ∧ x ≤ 57
    · rw [if_pos (by omega : 48 ≤ x.toNat ∧ x.toNat ≤ 57)]
      have e1 : acc * 10 + (x - 48).toNat = acc * 10 + (x.toNat - 48) := by omega
      rw [e1]
      by_cases h2 : 1844674407370955162 ≤ acc
      · rw [if_pos h2, if_neg (by omega)]
        exact ⟨fun h => (by cases h), fun h => (by cases h.1)⟩
      · rw [if_neg h2]
        by_cases h3 : M < acc * 10 + (x.toNat - 48)
        · rw [if_pos h3]
          refine ⟨fun h => (by cases h), fun h => ?_⟩
          obtain ⟨h4, h5⟩ := h
          split at h4
          · have := parseD_mono w _ n h4; omega
          · cases h4
        · rw [if_neg h3, if_pos ⟨h1.1, h1.2, by omega⟩]
          exact pu_iff M hM w _ n hw (by omega)
    · rw [if_neg (by omega : ¬ (48 ≤ x.toNat ∧ x.toNat ≤ 57)), if_neg (fun h => h1 ⟨h.1, h.2.1⟩)]
      exact ⟨fun h => (by cases h), fun h => (by cases h.1)⟩
theorem numV_iff (w : Word) (n : Nat) : numV w = some n ↔ w ≠ [] ∧ ¬ (1 < w.length ∧ w.headD 0 = 48) ∧ parseD w 0 = some n := by
  constructor
  · intro h
    unfold numV at h
    split at h
    · cases h
    · rename_i hc
      simp only [not_or] at hc
      exact ⟨hc.1, hc.2.2, h⟩
  · rintro ⟨h1, h2, h3⟩
    have hn := parseD_lt w 0 n (by omega) h3
    have e := parseD_inv w.length w n rfl h1 (fun h4 h5 => h2 ⟨h4, h5⟩) h3
    rw [e]
    exact numV_dig n hn
theorem pub_ok {B M : Nat} (hM : 2 ^ B - 1 = M) (hM' : M ≤ 18446744073709551615) {w : List Int} (hb : BytesI w) (n : Nat) : Lib.parseUintB B (toU8 w) = .ok n ↔ w ≠ [] ∧ parseD w 0 = some n ∧ n ≤ M := by
  unfold Lib.parseUintB
  by_cases h : w = []
  · subst h
    rw [if_pos (show toU8 [] = [] from rfl)]
    exact ⟨fun h => (by cases h), fun h => absurd rfl h.1⟩
  · have : toU8 w ≠ [] := fun e => h (List.map_eq_nil_iff.1 e)
    rw [if_neg this, hM, pu_iff M hM' w 0 n hb (by omega)]
    exact ⟨fun e => ⟨h, e⟩, fun e => e.2⟩
theorem whole_run (bits : Int) (M : Nat) (hbM : (bits = 31 ∧ M = 2147483647) ∨ (bits = 64 ∧ M = 18446744073709551615)) (s : Treader) (hw : BytesI s.word) (hl : s.word.length ≤ longW) :
    m_text_reader_whole bits s = match numV s.word with | some v => if (v : Int) ≤ M then (m_text_reader_step s).bind fun x => some ((v : Int), x) else some (0, badX) | none => some (0, badX) := by
  have hlw : longW = 100000000000 := rfl
  have hx : x_ParseUint s.word 10 bits = some (numEnd M (Lib.parseUintB bits.toNat (toU8 s.word))) := by
    unfold x_ParseUint
    rcases hbM with ⟨rfl, rfl⟩ | ⟨rfl, rfl⟩
    · rw [chk_pos' ⟨rfl, .inl rfl, by omega⟩, if_pos rfl]; rfl
    · rw [chk_pos' ⟨rfl, .inr rfl, by omega⟩, if_neg (by decide)]; rfl
  have hok := fun n => pub_ok (B := bits.toNat) (M := M) (by rcases hbM with ⟨rfl, rfl⟩ | ⟨rfl, rfl⟩ <;> rfl) (by rcases hbM with ⟨_, rfl⟩ | ⟨_, rfl⟩ <;> decide) hw n
  have e1 : s.word.getD ((0 : Int)).toNat 0 = s.word.headD 0 := by cases s.word <;> rfl
  have e2 : (bif decide ((1 : Int) < (s.word.length : Int)) then (s.word.headD 0 == (48 : Int)) else false) = decide (1 < s.word.length ∧ s.word.headD 0 = 48) := by
    by_cases a : 1 < s.word.length
    · rw [decide_eq_true (show (1 : Int) < (s.word.length : Int) by omega), cond_true]
      by_cases b : s.word.headD 0 = 48
      · rw [decide_eq_true ⟨a, b⟩, b]; rfl
      · rw [decide_eq_false (fun h => b h.2), beq_eq_false_iff_ne]; exact b
    · rw [decide_eq_false (show ¬ (1 : Int) < (s.word.length : Int) by omega), decide_eq_false (fun h => a h.1), cond_false]
  unfold m_text_reader_whole
  rw [hx, Option.bind_some, e1, e2, chk_pos' (fun h => by
    simp only [Bool.and_eq_true, beq_iff_eq, decide_eq_true_eq] at h
    exact ⟨Int.le_refl _, by omega⟩)]
  cases hr : Lib.parseUintB bits.toNat (toU8 s.word) with
  | ok u =>
    obtain ⟨h1, h2, h3⟩ := (hok u).1 hr
    show (bif (bif false then true else decide (1 < s.word.length ∧ s.word.headD 0 = 48)) then _ else _) = _
    by_cases hz : 1 < s.word.length ∧ s.word.headD 0 = 48
    · have hn : numV s.word = none := by
        cases hv : numV s.word with
        | none => rfl
        | some v => exact absurd hz ((numV_iff _ _).1 hv).2.1
      rw [decide_eq_true hz, hn]
      rfl
    · rw [decide_eq_false hz, (numV_iff _ u).2 ⟨h1, hz, h2⟩]
      show _ = if (u : Int) ≤ M then _ else _
      rw [if_pos (by omega)]
      rfl
  | _ =>
    have hn : ∀ v, numV s.word = some v → ¬ (v : Int) ≤ M := fun v hv hle => by
      obtain ⟨h1, _, h2⟩ := (numV_iff _ _).1 hv
      have := (hok v).2 ⟨h1, h2, by omega⟩
      rw [hr] at this
      cases this
    show some ((0 : Int), badX) = _
    cases hv : numV s.word with
    | none => rfl
    | some v =>
      show _ = if (v : Int) ≤ M then _ else _
      rw [if_neg (hn v hv)]
theorem numV_nil : numV [] = none := rfl
theorem rd_whole (bits : Int) (M : Nat) (hbM : (bits = 31 ∧ M = 2147483647) ∨ (bits = 64 ∧ M = 18446744073709551615)) : Rd VX (m_text_reader_whole bits) oneW (fun n => 0 ≤ n ∧ n ≤ (M : Int)) anyW 0 where
  sticky k s hs := by
    obtain rfl : s = badX := hs
    exact ⟨0, badX, whole_run bits M hbM badX BytesI.nil (by simp [badX]), rfl⟩
  any s hs _ := by
    rw [whole_run bits M hbM s hs.2.2.1 hs.2.2.2.2.1]
    cases hn : numV s.word with
    | none => exact ⟨0, badX, rfl, .inr fun _ _ => rfl⟩
    | some v =>
      by_cases hv : (v : Int) ≤ M
      · obtain ⟨h1, h2⟩ := numV_inv hn
        obtain ⟨s', e, f1, f2⟩ := step_fine hs
        refine ⟨(v : Int), s', by simp only [if_pos hv, e, Option.bind_some], .inl ⟨f1, ⟨by omega, hv⟩, trivial, ?_⟩⟩
        rw [leftX_word (by rw [h1]; exact digN_ne v), f2, h1]
        simp [oneW, dg]
      · exact ⟨0, badX, by simp only [if_neg hv], .inr fun _ _ => rfl⟩
  whole s a more hs hp _ hl := by
    obtain ⟨h, s', e, h1, h2⟩ := step_left hs (w := dg a) (l := more) hl
    rw [whole_run bits M hbM s hs.2.2.1 hs.2.2.2.2.1, h]
    have ha : ((a.toNat : Nat) : Int) = a := by have := hp.1; omega
    unfold dg
    rw [numV_dig _ (by rcases hbM with ⟨_, rfl⟩ | ⟨_, rfl⟩ <;> (have := hp.2; have := hp.1; omega))]
    exact ⟨s', by simp only [ha, if_pos hp.2, e, Option.bind_some], h1, h2⟩
theorem rd_number : Rd VX m_text_reader_number oneW isNum anyW 0 := by
  have := (rd_whole 31 2147483647 (.inl ⟨rfl, rfl⟩)).map (F := oneW) (P' := isNum) (fun x => w64 x) (fun x => x) (fun b hb => w64_of (by have := hb.1; omega) (by have := hb.2; omega)) (fun b hb => hb) (fun a ha => by rw [w64_of (by have := ha.1; omega) (by have := ha.2; omega)]; exact ha) (fun a ha => by rw [w64_of (by have := ha.1; omega) (by have := ha.2; omega)])
  exact this
/-! ### As many as there are, up to so many -/
theorem starB {S α R : Type} {V : VW S} {m : S → Option (α × S)} {E : α → List Word} {P : α → Prop} (head : List Word → Bool) (h : RdH V (fun l => head l = true) m E P anyW 0) (M : Nat) (go fin : List α → S → Option R)
    (hhead : ∀ a more, P a → head (E a ++ more) = true)
    (hstop : ∀ l s, V.fine s → head (V.left s) = false ∨ M ≤ l.length → go l s = fin l s) (hspent : ∀ l s, V.spent 0 s → go l s = fin l s)
    (hgo : ∀ l s a s', V.fine s → head (V.left s) = true → l.length < M → m s = some (a, s') → go l s = go (l ++ [a]) s') :
    (∀ s, V.fine s → ∃ l s', go [] s = fin l s' ∧ ((V.fine s' ∧ (∀ a ∈ l, P a) ∧ l.length ≤ M ∧ V.left s = (l.map E).flatten ++ V.left s') ∨ V.spent 0 s')) ∧
    (∀ s l more, V.fine s → (∀ a ∈ l, P a) → l.length ≤ M → head more = false → V.left s = (l.map E).flatten ++ more → ∃ s', go [] s = fin l s' ∧ V.fine s' ∧ V.left s' = more) := by
  have key : ∀ (k : Nat) (l : List α) (s : S), l.length + k = M → V.fine s → ∃ l' s', (go l s = fin (l ++ l') s' ∧ V.fine s' ∧ (∀ a ∈ l', P a) ∧ (l ++ l').length ≤ M ∧ V.left s = (l'.map E).flatten ++ V.left s') ∨ (go l s = fin l' s' ∧ V.spent 0 s') := by
    intro k
    induction k with
    | zero =>
      intro l s hk hs
      exact ⟨[], s, .inl ⟨by rw [hstop l s hs (.inr (by omega)), List.append_nil], hs, by simp, by simp; omega, by simp⟩⟩
    | succ k ih =>
      intro l s hk hs
      cases hh : head (V.left s) with
      | false => exact ⟨[], s, .inl ⟨by rw [hstop l s hs (.inl hh), List.append_nil], hs, by simp, by simp; omega, by simp⟩⟩
      | true =>
        obtain ⟨a, s', e, hd⟩ := h.any s hs hh
        have hg := hgo l s a s' hs hh (by omega) e
        rcases hd with ⟨hf, hp, _, hle⟩ | hd
        · obtain ⟨l', t, hr⟩ := ih (l ++ [a]) s' (by rw [List.length_append, List.length_singleton]; omega) hf
          rcases hr with ⟨e1, f1, f2, f3, f4⟩ | ⟨e1, f1⟩
          · exact ⟨a :: l', t, .inl ⟨by rw [hg, e1]; simp, f1, fun b hb => (List.mem_cons.1 hb).elim (fun h => h ▸ hp) (f2 b), by simpa using f3, by rw [hle, f4]; simp⟩⟩
          · exact ⟨l', t, .inr ⟨by rw [hg, e1], f1⟩⟩
        · have h0 := hd 0 (by decide)
          exact ⟨l ++ [a], s', .inr ⟨by rw [hg, hspent _ _ h0], h0⟩⟩
  have key2 : ∀ (l' l : List α) (s : S) (more : List Word), V.fine s → (∀ a ∈ l', P a) → l.length + l'.length ≤ M → head more = false → V.left s = (l'.map E).flatten ++ more → ∃ s', go l s = fin (l ++ l') s' ∧ V.fine s' ∧ V.left s' = more := by
    intro l'
    induction l' with
    | nil =>
      intro l s more hs hp hM hm hl
      have e : V.left s = more := by simpa using hl
      exact ⟨s, by rw [hstop l s hs (.inl (by rw [e]; exact hm)), List.append_nil], hs, e⟩
    | cons a l' ih =>
      intro l s more hs hp hM hm hl
      have hle : V.left s = E a ++ ((l'.map E).flatten ++ more) := by rw [hl]; simp
      have ha := hp a (by simp)
      obtain ⟨s', e, hf, hl'⟩ := h.whole s a _ hs ha trivial hle
      simp only [List.length_cons] at hM
      have hg := hgo l s a s' hs (by rw [hle]; exact hhead a _ ha) (by omega) e
      obtain ⟨t, e1, f1, f2⟩ := ih (l ++ [a]) s' more hf (fun b hb => hp b (by simp [hb])) (by rw [List.length_append, List.length_singleton]; omega) hm hl'
      exact ⟨t, by rw [hg, e1]; simp, f1, f2⟩
  refine ⟨fun s hs => ?_, fun s l more hs hp hM hm hl => ?_⟩
  · obtain ⟨l', s', hr⟩ := key M [] s (by simp) hs
    rcases hr with ⟨e, f1, f2, f3, f4⟩ | ⟨e, f1⟩
    · exact ⟨l', s', by simpa using e, .inl ⟨f1, f2, by simpa using f3, f4⟩⟩
    · exact ⟨l', s', e, .inr f1⟩
  · obtain ⟨t, e, f1, f2⟩ := key2 l [] s more hs hp (by simpa using hM) hm hl
    exact ⟨t, by simpa using e, f1, f2⟩

/-! ### Lists -/
def headI (l : List Word) : Bool := !(l.headD [] == [41]) && !(l.headD [] == [])
noncomputable def goXL (l : List Int) (s : Treader) : Option (List Int × List Int × List Int × Bool) := loopO m_text_reader_list_L1 (l, s.word, s.rest, s.wrong)
def finX {α : Type} (l : List α) (s : Treader) : Option (List α × List Int × List Int × Bool) := some (l, s.word, s.rest, s.wrong)
theorem list_roundX (l : List Int) (s : Treader) : m_text_reader_list_L1 (l, s.word, s.rest, s.wrong) = bif headI (VX.left s) && decide ((l.length : Int) < 64) then (m_text_reader_number s).bind fun x10 => chk (l.length + 1 ≤ room) (some (.next (l ++ [x10.1], x10.2.word, x10.2.rest, x10.2.wrong))) else some (.done (l, s.word, s.rest, s.wrong)) := by
  unfold m_text_reader_list_L1 headI
  rw [headX]
  show (bif (bif (bif !(s.word == [41]) then !(s.word == []) else false) then decide ((l.length : Int) < 64) else false) then _ else _) = _
  cases (s.word == [41]) <;> cases (s.word == ([] : Word)) <;> cases decide ((l.length : Int) < 64) <;> rfl
theorem headI_bad : headI (VX.left badX) = false := rfl
theorem starI : (∀ s, VX.fine s → ∃ l s', goXL [] s = finX l s' ∧ ((VX.fine s' ∧ (∀ a ∈ l, isNum a) ∧ l.length ≤ 64 ∧ VX.left s = (l.map oneW).flatten ++ VX.left s') ∨ VX.spent 0 s')) ∧
    (∀ s l more, VX.fine s → (∀ a ∈ l, isNum a) → l.length ≤ 64 → headI more = false → VX.left s = (l.map oneW).flatten ++ more → ∃ s', goXL [] s = finX l s' ∧ VX.fine s' ∧ VX.left s' = more) := by
  refine starB (m := m_text_reader_number) (E := oneW) headI (rd_number.pre fun _ _ => trivial) 64 goXL finX (fun a more ha => ?_) (fun l s hs hh => ?_) (fun l s hs => ?_) (fun l s a s' hs hh hl hm => ?_)
  · unfold headI oneW
    have h1 : (dg a == [41]) = false := by
      rw [beq_eq_false_iff_ne]
      intro h
      have := digN_dig a.toNat 41 (by show (41 : Int) ∈ dg a; rw [h]; simp)
      have := this.1
      omega
    have h2 : (dg a == []) = false := by rw [beq_eq_false_iff_ne]; exact dg_ne a
    show (!((dg a :: more).headD [] == [41]) && !((dg a :: more).headD [] == [])) = true
    rw [List.headD_cons, h1, h2]; rfl
  · have : (headI (VX.left s) && decide ((l.length : Int) < 64)) = false := by
      rcases hh with hh | hh
      · rw [hh]; rfl
      · rw [decide_eq_false (by omega), Bool.and_false]
    exact loopO_done (by rw [list_roundX, this, cond_false])
  · obtain rfl : s = badX := hs
    exact loopO_done (by rw [list_roundX, headI_bad, Bool.false_and, cond_false])
  · have : (headI (VX.left s) && decide ((l.length : Int) < 64)) = true := by rw [hh, decide_eq_true (by omega)]; rfl
    exact loopO_next (by rw [list_roundX, this, cond_true, hm, Option.bind_some, chk_pos' (by simp only [room]; omega)])
theorem list_runX (s : Treader) : m_text_reader_list s = (m_text_reader_take [40] s).bind fun x1 => (goXL [] x1).bind fun x => (m_text_reader_take [41] ⟨x.2.1, x.2.2.1, x.2.2.2⟩).bind fun y => some (x.1, y) := rfl
def listP (l : List Int) : Prop := numsP l ∧ l.length ≤ 64
theorem rd_xlist : Rd VX m_text_reader_list listW listP anyW 0 where
  sticky k s hs := by
    obtain rfl : s = badX := hs
    have e : goXL [] badX = some ([], badX.word, badX.rest, badX.wrong) := loopO_done (by rw [list_roundX, headI_bad, Bool.false_and, cond_false])
    refine ⟨[], badX, ?_, rfl⟩
    rw [list_runX, take_bad, Option.bind_some, e, Option.bind_some]
    show (m_text_reader_take [41] badX).bind _ = _
    rw [take_bad]; rfl
  any s hs _ := by
    obtain ⟨_, s1, e1, hd1⟩ := (rd_take [40] (by decide)).any s hs trivial
    have e1' : m_text_reader_take [40] s = some s1 := by
      cases ht : m_text_reader_take [40] s with
      | none => simp only [ht] at e1; cases e1
      | some y => simp only [ht, Option.bind_some] at e1; rw [(Prod.mk.inj (Option.some.inj e1)).2]
    have ebad : ∀ {l : List Int} {s2 : Treader}, goXL [] s1 = finX l s2 → s2 = badX → m_text_reader_list s = some (l, badX) := fun {l s2} h1 h2 => by
      subst h2
      rw [list_runX, e1', Option.bind_some, h1]
      unfold finX
      rw [Option.bind_some, show (⟨badX.word, badX.rest, badX.wrong⟩ : Treader) = badX from rfl, take_bad]; rfl
    rcases hd1 with ⟨f1, _, _, f4⟩ | hd1
    · obtain ⟨l, s2, e2, hd2⟩ := starI.1 s1 f1
      rcases hd2 with ⟨g1, g2, g3, g4⟩ | hd2
      · obtain ⟨_, s3, e3, hd3⟩ := (rd_take [41] (by decide)).any s2 g1 trivial
        refine ⟨l, s3, ?_, ?_⟩
        · rw [list_runX, e1', Option.bind_some, e2]
          show (m_text_reader_take [41] s2).bind _ = _
          cases ht : m_text_reader_take [41] s2 with
          | none => simp only [ht] at e3; cases e3
          | some y => simp only [ht, Option.bind_some] at e3; rw [(Prod.mk.inj (Option.some.inj e3)).2]; rfl
        · rcases hd3 with ⟨j1, _, _, j4⟩ | hd3
          · refine .inl ⟨j1, ⟨g2, g3⟩, trivial, ?_⟩
            rw [f4, g4, j4, items_flat]
            simp [listW]
          · exact .inr hd3
      · exact ⟨l, badX, ebad e2 hd2, .inr fun _ _ => rfl⟩
    · obtain rfl : s1 = badX := hd1 0 (by decide)
      have e : goXL [] badX = finX [] badX := loopO_done (by rw [list_roundX, headI_bad, Bool.false_and, cond_false])
      exact ⟨[], badX, ebad e rfl, .inr fun _ _ => rfl⟩
  whole s l more hs hp _ hl := by
    have hl' : VX.left s = [40] :: ((l.map oneW).flatten ++ ([41] :: more)) := by rw [hl, items_flat]; simp [listW]
    obtain ⟨h1, s1, e1, f1, f2⟩ := step_left hs hl'
    obtain ⟨s2, e2, g1, g2⟩ := starI.2 s1 l ([41] :: more) f1 hp.1 hp.2 rfl f2
    obtain ⟨h3, s3, e3, j1, j2⟩ := step_left g1 g2
    refine ⟨s3, ?_, j1, j2⟩
    rw [list_runX, take_eq, if_pos h1, e1, Option.bind_some, e2]
    show (m_text_reader_take [41] s2).bind _ = _
    rw [take_eq, if_pos h3, e3]
    rfl
end Go.Proofs.YtcddajbcbkbipaaGreatDoor

namespace Go.Proofs.YtcddajbcbkbipaaGreatDoor
open Go Go.RowKit
set_option linter.unusedVariables false
set_option linter.unusedSimpArgs false

def phiP2 (p : TPhi) : Prop := isNum p.Bits ∧ isNum p.Dst ∧ listP p.From ∧ listP p.Args
def opP2 (o : TOp) : Prop := (0 ≤ o.Kind ∧ o.Kind < 23) ∧ isNum o.Bits ∧ isNum o.Lanes ∧ isNum o.Dst ∧ listP o.Args ∧ (0 ≤ o.Imm ∧ o.Imm ≤ 18446744073709551615)
def endP2 (e : TEnd) : Prop := (0 ≤ e.Kind ∧ e.Kind < 4) ∧ isNum e.Arg ∧ listP e.To
def blockP2 (b : TBlock) : Prop := ((∀ p ∈ b.Phis, phiP2 p) ∧ b.Phis.length ≤ 512) ∧ ((∀ o ∈ b.Ops, opP2 o) ∧ b.Ops.length ≤ 512) ∧ endP2 b.End
def funcP2 (f : TFunc) : Prop := listP f.Params ∧ isNum f.Ret ∧ (∀ b ∈ f.Blocks, blockP2 b) ∧ f.Blocks.length ≤ 64

/-! ### Phis -/
theorem rd_phiX : Rd VX m_text_reader_phi phiW phiP2 anyW 0 := by
  refine (((rd_take phiT (by decide)).pair (rd_number.pair (rd_number.pair (rd_xlist.pair rd_xlist (fun _ _ _ _ => trivial)) (fun _ _ _ _ => trivial)) (fun _ _ _ _ => trivial)) (fun _ _ _ _ => trivial)).map (P' := phiP2) (F := phiW) (fun x => (⟨x.2.1, x.2.2.1, x.2.2.2.1, x.2.2.2.2⟩ : TPhi)) (fun p => ((), p.Bits, p.Dst, p.From, p.Args)) (fun _ _ => rfl) (fun p h => ⟨trivial, h⟩) (fun a h => h.2) (fun _ _ => rfl)).of_eq (fun s => ?_)
  unfold m_text_reader_phi
  simp only [Option.bind_assoc, Option.bind_some]
  rfl

/-! ### Operations -/
def headK (l : List Word) : Bool := (kindF (l.headD [])).2
theorem kindF_name {k : Int} (hk : 0 ≤ k ∧ k < 23) : kindF (nameK k) = (k, true) := by
  unfold kindF
  rw [findK_name hk, if_neg (by omega)]
theorem kindF_inv {w : Word} (h : (kindF w).2 = true) : (0 ≤ (kindF w).1 ∧ (kindF w).1 < 23) ∧ nameK (kindF w).1 = w := by
  unfold kindF at h ⊢
  rcases findK_inv w with e | e
  · rw [if_pos e] at h; cases h
  · rw [if_neg (by omega)]; exact e
theorem nameK_ne {k : Int} (hk : 0 ≤ k ∧ k < 23) : nameK k ≠ [] := (kinds_nosep _ (nameK_mem hk)).1
noncomputable def nameR (s : Treader) : Option (Int × Treader) := (m_text_reader_step s).bind fun x => some ((kindF s.word).1, x)
theorem rd_nameK : RdH VX (fun l => headK l = true) nameR (fun k => [nameK k]) (fun k => 0 ≤ k ∧ k < 23) anyW 0 where
  sticky k s hs := by
    obtain rfl : s = badX := hs
    unfold nameR
    exact ⟨_, badX, by rw [step_bad, Option.bind_some], rfl⟩
  any s hs hh := by
    unfold headK at hh
    rw [headX] at hh
    obtain ⟨h1, h2⟩ := kindF_inv hh
    obtain ⟨s', e, f1, f2⟩ := step_fine hs
    unfold nameR
    refine ⟨_, s', by rw [e, Option.bind_some], .inl ⟨f1, h1, trivial, ?_⟩⟩
    rw [leftX_word (by rw [← h2]; exact nameK_ne h1), f2, h2]
    rfl
  whole s a more hs hp _ hl := by
    obtain ⟨h, s', e, f1, f2⟩ := step_left hs hl
    unfold nameR
    exact ⟨s', by rw [h, kindF_name hp, e, Option.bind_some], f1, f2⟩
noncomputable def mopX (s : Treader) : Option (TOp × Treader) := m_text_reader_op (kindF s.word).1 s
theorem rd_opX : RdH VX (fun l => headK l = true) mopX opW opP2 anyW 0 := by
  refine ((rd_nameK.pair (rd_number.pair (rd_number.pair (rd_number.pair (rd_xlist.pair (rd_whole 64 18446744073709551615 (.inr ⟨rfl, rfl⟩)) (fun _ _ _ _ => trivial)) (fun _ _ _ _ => trivial)) (fun _ _ _ _ => trivial)) (fun _ _ _ _ => trivial)) (fun _ _ _ _ => trivial)).map
    (P' := opP2) (F := opW) (fun x => (⟨x.1, x.2.1, x.2.2.1, x.2.2.2.1, x.2.2.2.2.1, x.2.2.2.2.2⟩ : TOp)) (fun o => (o.Kind, o.Bits, o.Lanes, o.Dst, o.Args, o.Imm)) (fun o h => rfl) (fun o h => h) (fun a h => h) (fun _ _ => rfl)).of_eq (fun s => ?_)
  unfold mopX m_text_reader_op nameR
  simp only [Option.bind_assoc, Option.bind_some]

/-! ### Ends -/
def headE (l : List Word) : Bool := (endF (l.headD [])).2
theorem endF_name {k : Int} (hk : 0 ≤ k ∧ k < 4) : endF (nameE k) = (k, true) := by
  unfold endF
  rw [findE_name hk, if_neg (by omega)]
theorem endF_inv {w : Word} (h : (endF w).2 = true) : (0 ≤ (endF w).1 ∧ (endF w).1 < 4) ∧ nameE (endF w).1 = w := by
  unfold endF at h ⊢
  rcases findE_inv w with e | e
  · rw [if_pos e] at h; cases h
  · rw [if_neg (by omega)]; exact e
theorem nameE_ne {k : Int} (hk : 0 ≤ k ∧ k < 4) : nameE k ≠ [] := (ends_nosep _ (nameE_mem hk)).1
noncomputable def nameRE (s : Treader) : Option (Int × Treader) := (m_text_reader_step s).bind fun x => some ((endF s.word).1, x)
theorem rd_nameE : RdH VX (fun l => headE l = true) nameRE (fun k => [nameE k]) (fun k => 0 ≤ k ∧ k < 4) anyW 0 where
  sticky k s hs := by
    obtain rfl : s = badX := hs
    unfold nameRE
    exact ⟨_, badX, by rw [step_bad, Option.bind_some], rfl⟩
  any s hs hh := by
    unfold headE at hh
    rw [headX] at hh
    obtain ⟨h1, h2⟩ := endF_inv hh
    obtain ⟨s', e, f1, f2⟩ := step_fine hs
    unfold nameRE
    refine ⟨_, s', by rw [e, Option.bind_some], .inl ⟨f1, h1, trivial, ?_⟩⟩
    rw [leftX_word (by rw [← h2]; exact nameE_ne h1), f2, h2]
    rfl
  whole s a more hs hp _ hl := by
    obtain ⟨h, s', e, f1, f2⟩ := step_left hs hl
    unfold nameRE
    exact ⟨s', by rw [h, endF_name hp, e, Option.bind_some], f1, f2⟩
noncomputable def mendX (s : Treader) : Option (TEnd × Treader) := (nameRE s).bind fun x => (m_text_reader_number x.2).bind fun y => (m_text_reader_list y.2).bind fun z => some ((⟨x.1, y.1, z.1⟩ : TEnd), z.2)
theorem rd_mendX : RdH VX (fun l => headE l = true) mendX endW endP2 anyW 0 := by
  refine ((rd_nameE.pair (rd_number.pair rd_xlist (fun _ _ _ _ => trivial)) (fun _ _ _ _ => trivial)).map (P' := endP2) (F := endW) (fun x => (⟨x.1, x.2.1, x.2.2⟩ : TEnd)) (fun e => (e.Kind, e.Arg, e.To)) (fun _ _ => rfl) (fun _ h => h) (fun _ h => h) (fun _ _ => rfl)).of_eq (fun s => ?_)
  unfold mendX
  simp only [Option.bind_assoc, Option.bind_some]
theorem end_runX (s : Treader) : m_text_reader_end s = bif (endF s.word).2 then mendX s else some (⟨0, 0, []⟩, badX) := by
  unfold m_text_reader_end mendX nameRE
  rw [xend_eq, Option.bind_some]
  cases (endF s.word).2 with
  | true => simp only [Bool.not_true, cond_false, cond_true, Option.bind_assoc, Option.bind_some]
  | false => rfl
theorem rd_endX : Rd VX m_text_reader_end endW endP2 anyW 0 where
  sticky k s hs := by
    obtain rfl : s = badX := hs
    exact ⟨_, badX, end_runX badX, rfl⟩
  any s hs _ := by
    cases h : (endF s.word).2 with
    | false => exact ⟨_, badX, by rw [end_runX, h, cond_false], .inr fun _ _ => rfl⟩
    | true =>
      rw [end_runX, h, cond_true]
      exact rd_mendX.any s hs (by unfold headE; rw [headX]; exact h)
  whole s a more hs hp hq hl := by
    have h : (endF s.word).2 = true := by
      have := headX s
      rw [hl] at this
      have e : s.word = nameE a.Kind := this.symm
      rw [e, endF_name hp.1]
    rw [end_runX, h, cond_true]
    exact rd_mendX.whole s a more hs hp hq hl

/-! ### Blocks -/
noncomputable def goXP (l : List TPhi) (s : Treader) : Option (List TPhi × List Int × List Int × Bool) := loopO m_text_reader_block_L1 (l, s.word, s.rest, s.wrong)
theorem phis_roundX (l : List TPhi) (s : Treader) : m_text_reader_block_L1 (l, s.word, s.rest, s.wrong) = bif headP (VX.left s) && decide ((l.length : Int) < 512) then (m_text_reader_phi s).bind fun x => chk (l.length + 1 ≤ room) (some (.next (l ++ [x.1], x.2.word, x.2.rest, x.2.wrong))) else some (.done (l, s.word, s.rest, s.wrong)) := by
  unfold m_text_reader_block_L1 headP
  rw [headX]
  show (bif (bif (s.word == phiT) then decide ((l.length : Int) < 512) else false) then _ else _) = _
  cases (s.word == phiT) <;> cases decide ((l.length : Int) < 512) <;> rfl
theorem headP_bad : headP (VX.left badX) = false := rfl
theorem starP : (∀ s, VX.fine s → ∃ l s', goXP [] s = finX l s' ∧ ((VX.fine s' ∧ (∀ a ∈ l, phiP2 a) ∧ l.length ≤ 512 ∧ VX.left s = (l.map phiW).flatten ++ VX.left s') ∨ VX.spent 0 s')) ∧
    (∀ s l more, VX.fine s → (∀ a ∈ l, phiP2 a) → l.length ≤ 512 → headP more = false → VX.left s = (l.map phiW).flatten ++ more → ∃ s', goXP [] s = finX l s' ∧ VX.fine s' ∧ VX.left s' = more) := by
  refine starB (m := m_text_reader_phi) (E := phiW) headP (rd_phiX.pre fun _ _ => trivial) 512 goXP finX (fun a more ha => rfl) (fun l s hs hh => ?_) (fun l s hs => ?_) (fun l s a s' hs hh hl hm => ?_)
  · have : (headP (VX.left s) && decide ((l.length : Int) < 512)) = false := by
      rcases hh with hh | hh
      · rw [hh]; rfl
      · rw [decide_eq_false (by omega), Bool.and_false]
    exact loopO_done (by rw [phis_roundX, this, cond_false])
  · obtain rfl : s = badX := hs
    exact loopO_done (by rw [phis_roundX, headP_bad, Bool.false_and, cond_false])
  · have : (headP (VX.left s) && decide ((l.length : Int) < 512)) = true := by rw [hh, decide_eq_true (by omega)]; rfl
    exact loopO_next (by rw [phis_roundX, this, cond_true, hm, Option.bind_some, chk_pos' (by simp only [room]; omega)])
noncomputable def goXO (ps : List TPhi) (l : List TOp) (s : Treader) : Option (TBlock × Treader) := loopO m_text_reader_block_F2 (ps, l, s.word, s.rest, s.wrong)
noncomputable def finXO (ps : List TPhi) (l : List TOp) (s : Treader) : Option (TBlock × Treader) := (m_text_reader_end s).bind fun x => some ((⟨ps, l, x.1⟩ : TBlock), x.2)
theorem ops_roundX (ps : List TPhi) (l : List TOp) (s : Treader) : m_text_reader_block_F2 (ps, l, s.word, s.rest, s.wrong) = bif headK (VX.left s) && decide ((l.length : Int) < 512) then (mopX s).bind fun x => chk (l.length + 1 ≤ room) (some (.next (ps, l ++ [x.1], x.2.word, x.2.rest, x.2.wrong))) else (m_text_reader_end s).bind fun x => some (.done ((⟨ps, l, x.1⟩ : TBlock), x.2)) := by
  unfold m_text_reader_block_F2 headK mopX
  rw [headX]
  show (m_text_Kind s.word).bind _ = _
  rw [xkind_eq, Option.bind_some]
  cases (kindF s.word).2 <;> cases decide ((l.length : Int) < 512) <;> rfl
theorem headK_bad : headK (VX.left badX) = false := rfl
theorem ops_stopX {ps : List TPhi} {l : List TOp} {s : Treader} (h : (headK (VX.left s) && decide ((l.length : Int) < 512)) = false) : goXO ps l s = finXO ps l s := by
  have hr := ops_roundX ps l s
  rw [h, cond_false] at hr
  unfold finXO
  cases he : m_text_reader_end s with
  | none =>
    rw [he] at hr
    unfold goXO
    cases hl : loopO m_text_reader_block_F2 (ps, l, s.word, s.rest, s.wrong) with
    | none => rfl
    | some y => exact absurd (loopO_iff.1 hl) (by
        rintro ⟨n, hn⟩
        cases hn with
        | done h => rw [hr] at h; cases h
        | next h _ => rw [hr] at h; cases h)
  | some x =>
    rw [he, Option.bind_some] at hr
    exact loopO_done hr
theorem starO (ps : List TPhi) : (∀ s, VX.fine s → ∃ l s', goXO ps [] s = finXO ps l s' ∧ ((VX.fine s' ∧ (∀ a ∈ l, opP2 a) ∧ l.length ≤ 512 ∧ VX.left s = (l.map opW).flatten ++ VX.left s') ∨ VX.spent 0 s')) ∧
    (∀ s l more, VX.fine s → (∀ a ∈ l, opP2 a) → l.length ≤ 512 → headK more = false → VX.left s = (l.map opW).flatten ++ more → ∃ s', goXO ps [] s = finXO ps l s' ∧ VX.fine s' ∧ VX.left s' = more) := by
  refine starB (m := mopX) (E := opW) headK rd_opX 512 (goXO ps) (finXO ps) (fun a more ha => ?_) (fun l s hs hh => ?_) (fun l s hs => ?_) (fun l s a s' hs hh hl hm => ?_)
  · show (kindF (nameK a.Kind)).2 = true
    rw [kindF_name ha.1]
  · refine ops_stopX ?_
    rcases hh with hh | hh
    · rw [hh]; rfl
    · rw [decide_eq_false (by omega), Bool.and_false]
  · obtain rfl : s = badX := hs
    exact ops_stopX (by rw [headK_bad]; rfl)
  · have : (headK (VX.left s) && decide ((l.length : Int) < 512)) = true := by rw [hh, decide_eq_true (by omega)]; rfl
    exact loopO_next (by rw [ops_roundX, this, cond_true, hm, Option.bind_some, chk_pos' (by simp only [room]; omega)])
theorem block_runX (s : Treader) : m_text_reader_block s = (m_text_reader_take blockT s).bind fun x6 => (goXP [] x6).bind fun x => goXO x.1 [] ⟨x.2.1, x.2.2.1, x.2.2.2⟩ := by
  have e : m_text_reader_block s = (scopeO ((m_text_reader_take blockT s).bind fun x6 => (goXP [] x6).bind fun x => m_text_reader_block_F2 (x.1, [], x.2.1, x.2.2.1, x.2.2.2)) m_text_reader_block_F2).bind fun x27 => some x27 := rfl
  have e2 : ∀ o : Option (TBlock × Treader), (o.bind fun x27 => some x27) = o := fun o => by cases o <;> rfl
  rw [e, e2]
  cases m_text_reader_take blockT s with
  | none => rfl
  | some x6 =>
    rw [Option.bind_some, Option.bind_some]
    cases goXP [] x6 with
    | none => rfl
    | some x =>
      rw [Option.bind_some, Option.bind_some, scopeO_self]
      rfl
theorem take_any {w : Word} {s s1 : Treader} {u : Unit} (e : ((m_text_reader_take w s).bind fun x => some ((), x)) = some (u, s1)) : m_text_reader_take w s = some s1 := by
  cases ht : m_text_reader_take w s with
  | none => rw [ht] at e; cases e
  | some y => rw [ht, Option.bind_some] at e; rw [(Prod.mk.inj (Option.some.inj e)).2]
theorem phis_bad : goXP [] badX = finX [] badX := loopO_done (by rw [phis_roundX, headP_bad, Bool.false_and, cond_false])
theorem ops_bad (ps : List TPhi) (l : List TOp) : finXO ps l badX = some (⟨ps, l, ⟨0, 0, []⟩⟩, badX) := by
  unfold finXO
  rw [end_runX]
  rfl
theorem ops_bad' (ps : List TPhi) : goXO ps [] badX = some (⟨ps, [], ⟨0, 0, []⟩⟩, badX) := by
  rw [ops_stopX (by rw [headK_bad]; rfl), ops_bad]
theorem rd_blockX : Rd VX m_text_reader_block blockW blockP2 anyW 0 where
  sticky k s hs := by
    obtain rfl : s = badX := hs
    refine ⟨⟨[], [], ⟨0, 0, []⟩⟩, badX, ?_, rfl⟩
    rw [block_runX, take_bad, Option.bind_some, phis_bad]
    exact ops_bad' []
  any s hs _ := by
    obtain ⟨_, s1, e1, hd1⟩ := (rd_take blockT (by decide)).any s hs trivial
    have e1' := take_any e1
    rcases hd1 with ⟨f1, _, _, f4⟩ | hd1
    · obtain ⟨ps, s2, e2, hd2⟩ := starP.1 s1 f1
      have e12 : m_text_reader_block s = goXO ps [] s2 := by rw [block_runX, e1', Option.bind_some, e2]; rfl
      rcases hd2 with ⟨g1, g2, g3, g4⟩ | hd2
      · obtain ⟨os, s3, e3, hd3⟩ := (starO ps).1 s2 g1
        rcases hd3 with ⟨j1, j2, j3, j4⟩ | hd3
        · obtain ⟨e, s4, e4, hd4⟩ := rd_endX.any s3 j1 trivial
          refine ⟨⟨ps, os, e⟩, s4, by rw [e12, e3, finXO, e4]; rfl, ?_⟩
          rcases hd4 with ⟨k1, k2, _, k4⟩ | hd4
          · refine .inl ⟨k1, ⟨⟨g2, g3⟩, ⟨j2, j3⟩, k2⟩, trivial, ?_⟩
            rw [f4, g4, j4, k4]
            simp [blockW, bodyW]
          · exact .inr hd4
        · obtain rfl : s3 = badX := hd3
          exact ⟨_, badX, by rw [e12, e3, ops_bad], .inr fun _ _ => rfl⟩
      · obtain rfl : s2 = badX := hd2
        exact ⟨_, badX, by rw [e12, ops_bad'], .inr fun _ _ => rfl⟩
    · obtain rfl : s1 = badX := hd1 0 (by decide)
      exact ⟨_, badX, by rw [block_runX, e1', Option.bind_some, phis_bad]; exact ops_bad' [], .inr fun _ _ => rfl⟩
  whole s b more hs hp _ hl := by
    obtain ⟨⟨p1, p2⟩, ⟨o1, o2⟩, ep⟩ := hp
    have hl' : VX.left s = blockT :: ((b.Phis.map phiW).flatten ++ ((b.Ops.map opW).flatten ++ (endW b.End ++ more))) := by rw [hl]; simp [blockW, bodyW]
    obtain ⟨h1, s1, e1, f1, f2⟩ := step_left hs hl'
    obtain ⟨s2, e2, g1, g2⟩ := starP.2 s1 b.Phis _ f1 p1 p2 (by
      cases ho : b.Ops with
      | nil =>
        have := (names_apart _ (nameE_mem ep.1)).2
        show (nameE b.End.Kind == phiT) = false
        rw [beq_eq_false_iff_ne]; exact this
      | cons o ops => exact headP_kind (o1 o (by rw [ho]; simp)).1 _) f2
    obtain ⟨s3, e3, j1, j2⟩ := (starO b.Phis).2 s2 b.Ops _ g1 o1 o2 (by
      show (kindF (nameE b.End.Kind)).2 = false
      unfold kindF
      rw [if_pos (names_apart _ (nameE_mem ep.1)).1]) g2
    obtain ⟨s4, e4, k1, k2⟩ := rd_endX.whole s3 b.End more j1 ep trivial j2
    refine ⟨s4, ?_, k1, k2⟩
    rw [block_runX, take_eq, if_pos h1, e1, Option.bind_some, e2]
    show goXO b.Phis [] s2 = _
    rw [e3, finXO, e4]
    rfl

/-! ### Functions -/
def headA (l : List Word) : Bool := !(l.headD [] == [])
noncomputable def goXB (l : List TBlock) (s : Treader) : Option (List TBlock × List Int × List Int × Bool) := loopO m_text_reader_function_L1 (l, s.word, s.rest, s.wrong)
theorem blocks_roundX (l : List TBlock) (s : Treader) : m_text_reader_function_L1 (l, s.word, s.rest, s.wrong) = bif headA (VX.left s) && decide ((l.length : Int) < 64) then (m_text_reader_block s).bind fun x => chk (l.length + 1 ≤ room) (some (.next (l ++ [x.1], x.2.word, x.2.rest, x.2.wrong))) else some (.done (l, s.word, s.rest, s.wrong)) := by
  unfold m_text_reader_function_L1 headA
  rw [headX]
  show (bif (bif (!(s.word == [])) then decide ((l.length : Int) < 64) else false) then _ else _) = _
  cases (s.word == ([] : Word)) <;> cases decide ((l.length : Int) < 64) <;> rfl
theorem headA_bad : headA (VX.left badX) = false := rfl
theorem starX : (∀ s, VX.fine s → ∃ l s', goXB [] s = finX l s' ∧ ((VX.fine s' ∧ (∀ a ∈ l, blockP2 a) ∧ l.length ≤ 64 ∧ VX.left s = (l.map blockW).flatten ++ VX.left s') ∨ VX.spent 0 s')) ∧
    (∀ s l more, VX.fine s → (∀ a ∈ l, blockP2 a) → l.length ≤ 64 → headA more = false → VX.left s = (l.map blockW).flatten ++ more → ∃ s', goXB [] s = finX l s' ∧ VX.fine s' ∧ VX.left s' = more) := by
  refine starB (m := m_text_reader_block) (E := blockW) headA (rd_blockX.pre fun _ _ => trivial) 64 goXB finX (fun a more ha => rfl) (fun l s hs hh => ?_) (fun l s hs => ?_) (fun l s a s' hs hh hl hm => ?_)
  · have : (headA (VX.left s) && decide ((l.length : Int) < 64)) = false := by
      rcases hh with hh | hh
      · rw [hh]; rfl
      · rw [decide_eq_false (by omega), Bool.and_false]
    exact loopO_done (by rw [blocks_roundX, this, cond_false])
  · obtain rfl : s = badX := hs
    exact loopO_done (by rw [blocks_roundX, headA_bad, Bool.false_and, cond_false])
  · have : (headA (VX.left s) && decide ((l.length : Int) < 64)) = true := by rw [hh, decide_eq_true (by omega)]; rfl
    exact loopO_next (by rw [blocks_roundX, this, cond_true, hm, Option.bind_some, chk_pos' (by simp only [room]; omega)])
theorem func_runX (s : Treader) : m_text_reader_function s = (m_text_reader_take funcT s).bind fun x1 => (m_text_reader_list x1).bind fun x2 => (m_text_reader_number x2.2).bind fun x3 => (goXB [] x3.2).bind fun x => (m_text_reader_take [] ⟨x.2.1, x.2.2.1, x.2.2.2⟩).bind fun y => some ((⟨x2.1, x3.1, x.1⟩ : TFunc), y) := rfl
theorem blocks_bad : goXB [] badX = finX [] badX := loopO_done (by rw [blocks_roundX, headA_bad, Bool.false_and, cond_false])
/-- What stands ahead of the blocks. -/
theorem rd_front : Rd VX (fun s => (m_text_reader_take funcT s).bind fun x1 => (m_text_reader_list x1).bind fun x2 => (m_text_reader_number x2.2).bind fun x3 => some ((x2.1, x3.1), x3.2)) (fun x => funcT :: (listW x.1 ++ [dg x.2])) (fun x => listP x.1 ∧ isNum x.2) anyW 0 := by
  refine (((rd_take funcT (by decide)).pair (rd_xlist.pair rd_number (fun _ _ _ _ => trivial)) (fun _ _ _ _ => trivial)).map (P' := fun x : List Int × Int => listP x.1 ∧ isNum x.2) (F := fun x => funcT :: (listW x.1 ++ [dg x.2])) (fun x => x.2) (fun x => ((), x)) (fun _ _ => rfl) (fun _ h => ⟨trivial, h⟩) (fun _ h => h.2) (fun _ _ => rfl)).of_eq (fun s => ?_)
  simp only [Option.bind_assoc, Option.bind_some]
theorem func_front {s s1 : Treader} {a : List Int × Int} (e : ((m_text_reader_take funcT s).bind fun x1 => (m_text_reader_list x1).bind fun x2 => (m_text_reader_number x2.2).bind fun x3 => some ((x2.1, x3.1), x3.2)) = some (a, s1)) :
    m_text_reader_function s = (goXB [] s1).bind fun x => (m_text_reader_take [] ⟨x.2.1, x.2.2.1, x.2.2.2⟩).bind fun y => some ((⟨a.1, a.2, x.1⟩ : TFunc), y) := by
  rw [func_runX]
  cases h1 : m_text_reader_take funcT s with
  | none => rw [h1] at e; cases e
  | some x1 =>
    rw [h1, Option.bind_some] at e
    rw [Option.bind_some]
    cases h2 : m_text_reader_list x1 with
    | none => rw [h2] at e; cases e
    | some x2 =>
      rw [h2, Option.bind_some] at e
      rw [Option.bind_some]
      cases h3 : m_text_reader_number x2.2 with
      | none => rw [h3] at e; cases e
      | some x3 =>
        rw [h3, Option.bind_some] at e
        obtain ⟨rfl, rfl⟩ := Prod.mk.inj (Option.some.inj e)
        rw [Option.bind_some]
theorem func_any (s : Treader) (hs : VX.fine s) : ∃ f s', m_text_reader_function s = some (f, s') ∧ ((s'.wrong = false ∧ funcP2 f ∧ VX.left s = funcW f) ∨ s' = badX) := by
  obtain ⟨a, s1, e1, hd1⟩ := rd_front.any s hs trivial
  rw [func_front e1]
  rcases hd1 with ⟨f1, f2, _, f4⟩ | hd1
  · obtain ⟨bs, s2, e2, hd2⟩ := starX.1 s1 f1
    rw [e2]
    show ∃ f s', (m_text_reader_take [] s2).bind _ = some (f, s') ∧ _
    rw [take_eq]
    rcases hd2 with ⟨g1, g2, g3, g4⟩ | hd2
    · by_cases hw : s2.word = []
      · obtain ⟨s3, e3, j1, _⟩ := step_fine g1
        rw [if_pos hw, e3]
        refine ⟨⟨a.1, a.2, bs⟩, s3, rfl, .inl ⟨j1.1, ⟨f2.1, f2.2, g2, g3⟩, ?_⟩⟩
        rw [f4, g4, leftX_nil.2 hw]
        simp [funcW]
      · rw [if_neg hw]
        exact ⟨_, badX, rfl, .inr rfl⟩
    · obtain rfl : s2 = badX := hd2
      rw [if_pos (show badX.word = [] from rfl), step_bad]
      exact ⟨_, badX, rfl, .inr rfl⟩
  · obtain rfl : s1 = badX := hd1 0 (by decide)
    rw [blocks_bad]
    refine ⟨⟨a.1, a.2, []⟩, badX, ?_, .inr rfl⟩
    unfold finX
    rw [Option.bind_some, show (⟨badX.word, badX.rest, badX.wrong⟩ : Treader) = badX from rfl, take_bad]
    rfl
theorem func_whole (s : Treader) (hs : VX.fine s) (f : TFunc) (hf : funcP2 f) (hl : VX.left s = funcW f) : ∃ s', m_text_reader_function s = some (f, s') ∧ s'.wrong = false := by
  have hl' : VX.left s = (funcT :: (listW f.Params ++ [dg f.Ret])) ++ ((f.Blocks.map blockW).flatten ++ []) := by rw [hl]; simp [funcW]
  obtain ⟨s1, e1, f1, f2⟩ := rd_front.whole s (f.Params, f.Ret) _ hs ⟨hf.1, hf.2.1⟩ trivial hl'
  obtain ⟨s2, e2, g1, g2⟩ := starX.2 s1 f.Blocks [] f1 hf.2.2.1 hf.2.2.2 rfl f2
  have hw : s2.word = [] := leftX_nil.1 g2
  obtain ⟨s3, e3, j1, _⟩ := step_fine g1
  refine ⟨s3, ?_, j1.1⟩
  rw [func_front e1, e2]
  show (m_text_reader_take [] s2).bind _ = _
  rw [take_eq, if_pos hw, e3]
  rfl

/-! ### Parse -/
theorem phiP2_of {p : TPhi} (h : phiB p = true) : phiP2 p := by
  simp only [phiB, Bool.and_eq_true] at h
  exact ⟨numB_iff.1 h.1.1.1, numB_iff.1 h.1.1.2, listB_iff.1 h.1.2, listB_iff.1 h.2⟩
theorem opP2_of {o : TOp} (h : opB o = true) (hk : 0 ≤ o.Kind ∧ o.Kind < 23) (hi : wideP o.Imm) : opP2 o := by
  simp only [opB, Bool.and_eq_true] at h
  exact ⟨hk, numB_iff.1 h.1.1.1.2, numB_iff.1 h.1.1.2, numB_iff.1 h.1.2, listB_iff.1 h.2, wide_le hi⟩
theorem endP2_of {e : TEnd} (h : endB e = true) (hk : 0 ≤ e.Kind ∧ e.Kind < 4) : endP2 e := by
  simp only [endB, Bool.and_eq_true] at h
  exact ⟨hk, numB_iff.1 h.1.2, listB_iff.1 h.2⟩
theorem le_sum {α : Type} {l : List α} {g : α → Nat} {a : α} (h : a ∈ l) : g a ≤ (l.map g).sum := by
  induction l with
  | nil => cases h
  | cons b l ih =>
    rw [List.map_cons, List.sum_cons]
    rcases List.mem_cons.1 h with rfl | h
    · omega
    · have := ih h; omega
theorem size_words (f : TFunc) : sizeN f ≤ (funcW f).length := by
  have hb : ∀ b ∈ f.Blocks, sizeB b ≤ (blockW b).length := fun b _ => by
    have e2 : (blockW b).length = (b.Phis.map phiW).flatten.length + ((b.Ops.map opW).flatten.length + ((listW b.End.To).length + 1 + 1)) + 1 := by simp only [blockW, bodyW, endW, List.length_cons, List.length_append]
    have q1 : b.Phis.length ≤ (b.Phis.map phiW).flatten.length := len_flat fun p _ => by simp [phiW]
    have q2 : b.Ops.length ≤ (b.Ops.map opW).flatten.length := len_flat fun p _ => by simp [opW]
    rw [e2]
    unfold sizeB
    omega
  have e : (funcW f).length = (listW f.Params).length + ((f.Blocks.map blockW).flatten.length + 1) + 1 := by simp only [funcW, List.length_cons, List.length_append]
  have q := sum_mono f.Blocks sizeB (fun b => (blockW b).length) hb
  rw [e, flat_len f.Blocks blockW]
  unfold sizeN
  omega
theorem OkT.parts2 {f : TFunc} (h : OkT f) (hl : (funcW f).length ≤ 1000000000000) : funcP2 f := by
  obtain ⟨_, h2, _, h4, h5, h6, h7⟩ := may_parts h.may
  have hs := size_words f
  have hw : sizeW f = sizeN f := w64_of (by omega) (by omega)
  refine ⟨listB_iff.1 h4, numB_iff.1 h5, fun b hb => ?_, h2⟩
  obtain ⟨b1, b2, b3⟩ := blockB_iff.1 (h7 b hb)
  have hle : sizeB b ≤ sizeN f := le_sum hb
  unfold sizeB at hle
  exact ⟨⟨fun p hp => phiP2_of (b1 p hp), by omega⟩, ⟨fun o ho => opP2_of (b2 o ho) (h.named.op b hb o ho) (h.imm b hb o ho), by omega⟩, endP2_of b3 (h.named.en b hb)⟩
theorem funcP2_down {f : TFunc} (h : funcP2 f) : funcP f :=
  ⟨h.1.1, h.2.1, fun b hb => ⟨fun p hp => ⟨((h.2.2.1 b hb).1.1 p hp).1, ((h.2.2.1 b hb).1.1 p hp).2.1, ((h.2.2.1 b hb).1.1 p hp).2.2.1.1, ((h.2.2.1 b hb).1.1 p hp).2.2.2.1⟩,
    fun o ho => ⟨((h.2.2.1 b hb).2.1.1 o ho).1, ((h.2.2.1 b hb).2.1.1 o ho).2.1, ((h.2.2.1 b hb).2.1.1 o ho).2.2.1, ((h.2.2.1 b hb).2.1.1 o ho).2.2.2.1, ((h.2.2.1 b hb).2.1.1 o ho).2.2.2.2.1.1, le_wide ((h.2.2.1 b hb).2.1.1 o ho).2.2.2.2.2⟩,
    ⟨(h.2.2.1 b hb).2.2.1, (h.2.2.1 b hb).2.2.2.1, (h.2.2.1 b hb).2.2.2.2.1⟩⟩⟩
theorem parse_runX (s : List Int) {x : Treader} {f : TFunc} {y : Treader} (h1 : m_text_startReader s = some x) (h2 : m_text_reader_function x = some (f, y)) :
    m_text_Parse s = ((bif (y.wrong == false) then m_code_May f else some false).bind fun x3 => (bif (bif y.wrong then true else (!x3)) then some (noF, 3) else some (f, 0))) := by
  unfold m_text_Parse
  rw [h1, Option.bind_some, h2, Option.bind_some]
  rfl
theorem xparse (s : List Int) (hb : BytesI s) (hl : s.length ≤ 100000000000) : ∃ r, m_text_Parse s = some r ∧ ParseAns (wordsS s) r := by
  obtain ⟨x, e, hx, hlx⟩ := step_any ⟨[], s, false⟩ rfl hb hl
  have h1 : m_text_startReader s = some x := by
    unfold m_text_startReader
    rw [e]
    rfl
  have hlen : (wordsS s).length ≤ 1000000000000 := by have := wlen s []; unfold wordsS; omega
  change VX.left x = wordsS s at hlx
  rw [← hlx] at hlen ⊢
  by_cases hex : ∃ g, OkT g ∧ VX.left x = funcW g
  · obtain ⟨g, hg, hwg⟩ := hex
    have hg2 := hg.parts2 (by rw [← hwg]; exact hlen)
    obtain ⟨y, e2, hy⟩ := func_whole x hx g hg2 hwg
    have hin : InF g := inF_words (funcP2_down hg2) (by rw [← hwg]; omega)
    refine ⟨(g, 0), ?_, .inl ⟨g, hg, hwg, rfl⟩⟩
    rw [parse_runX s h1 e2, hy]
    show Option.bind (m_code_May g) _ = _
    rw [xmay g hin, Option.bind_some, hg.may]
    rfl
  · obtain ⟨f, y, e2, hd⟩ := func_any x hx
    refine ⟨(noF, 3), ?_, .inr ⟨fun g hg h => hex ⟨g, hg, h⟩, rfl⟩⟩
    rw [parse_runX s h1 e2]
    rcases hd with ⟨g1, g2, g3⟩ | rfl
    · have hin : InF f := inF_words (funcP2_down g2) (by rw [← g3]; omega)
      rw [g1]
      show Option.bind (m_code_May f) _ = _
      rw [xmay f hin, Option.bind_some]
      cases hm : mayF f with
      | true => exact absurd ⟨f, okT_of (funcP2_down g2) hm, g3⟩ hex
      | false => rfl
    · rfl
/-- One function has one text. -/
theorem xinj (f g : TFunc) (hf : OkT f) (hg : OkT g) (hl : (funcW f).length ≤ 1000000000000) (h : funcW f = funcW g) : f = g := by
  have hf2 := hf.parts2 hl
  have hg2 := hg.parts2 (by rw [← h]; exact hl)
  obtain ⟨_, h2, h3, h4, h5, _, h7⟩ := may_parts hf.may
  have ok : OkF f := ⟨h4, h3, h5, h2, fun b hb => ⟨h7 b hb, (hf2.2.2.1 b hb).1.2, (hf2.2.2.1 b hb).2.1.2, hf.imm b hb⟩⟩
  obtain ⟨x, _, hx, hlx⟩ := step_any ⟨[], textS f, false⟩ rfl (textS_bytes f) (by have := textS_len ok; have : longW = 100000000000 := rfl; show (textS f).length ≤ longW; omega)
  have e : VX.left x = funcW f := by rw [hlx]; exact words_text f hf.named
  obtain ⟨_, e1, _⟩ := func_whole x hx f hf2 e
  obtain ⟨_, e2, _⟩ := func_whole x hx g hg2 (e.trans h)
  rw [e1] at e2
  exact (Prod.mk.inj (Option.some.inj e2)).1
/-- What the program's functions answer. -/
theorem xf5 : Facts5 := ⟨fun s _ _ => xkind_eq s, fun f hf hs => xprint_eq f hf hs, xparse, xinj⟩
end Go.Proofs.YtcddajbcbkbipaaGreatDoor

namespace Go.Proofs.YtcddajbcbkbipaaGreatDoor
open Go Go.RowKit Go.ChangeShapes
set_option linter.unusedVariables false
set_option maxRecDepth 100000

theorem rptr_all {w : World} {g : Nat} {cells : List AV} (h : ∀ j, j < cells.length → ∃ u, w.cell? ⟨g, j, none⟩ = some u ∧ u.oneCell' = true ∧ RepV (Iall w) w u (cells.getD j .any)) : RepV (Iall w) w (.pointer (some ⟨g, 0, none⟩)) (.rptr cells) := by
  refine .rptr ⟨g, 0, none⟩ cells (fun j => (w.cell? ⟨g, j, none⟩).getD undef) rfl (fun j hj => ?_) (fun j hj => ?_) (fun j hj => ?_) (fun j hj => ?_)
  all_goals obtain ⟨u, h1, h2, h3⟩ := h j hj
  · exact ⟨u, by simpa using h1⟩
  · show w.cell? ⟨g, 0 + j, none⟩ = some ((w.cell? ⟨g, j, none⟩).getD undef)
    rw [Nat.zero_add, h1]; rfl
  · show ((w.cell? ⟨g, j, none⟩).getD undef).oneCell' = true
    rw [h1]; exact h2
  · show RepV (Iall w) w ((w.cell? ⟨g, j, none⟩).getD undef) _
    rw [h1]; exact h3
theorem laid_var {P : Program} {w : World} {n : String} {d : DataW Unit} : ∀ (l : List (String × DataW Unit)) (ps : List MemPlace), DataW.LaidVars P w l ps → (n, d) ∈ l →
    ∃ g t cs fuel p, P.globalNamed n = some g ∧ (P.globals[g]?).map (·.type) = some t ∧ w.var? P n = some cs ∧ DataW.trod (fun _ => ()) P w 0 (fun _ => true) false fuel t cs.toList = some (d, p)
  | [], ps, _, hm => by cases hm
  | (n', d') :: r, ps, h, hm => by
    obtain ⟨g, t, cs, fuel, p, q, h1, h2, h3, h4, h5, _⟩ := h
    rcases List.mem_cons.1 hm with e | hm
    · obtain ⟨rfl, rfl⟩ := Prod.mk.inj e
      exact ⟨g, t, cs, fuel, p, h1, h2, h3, h4⟩
    · exact laid_var r q h5 hm
theorem one_cell {cs : Array Value} {i : Nat} {v : Value} (h : (cs.toList.drop (i * 1)).take 1 = [v]) : cs[i]? = some v := by
  have h1 := congrArg (fun l : List Value => l[0]?) h
  simp only [Nat.mul_one] at h1
  simpa using h1
/-- A table of texts. -/
theorem laid_strs {P : Program} {w : World} {n : String} {g t e : Nat} {N : Nat} {ls : List (List Int)} (l : List (String × DataW Unit)) {ps : List MemPlace} (h : DataW.LaidVars P w l ps) (hm : (n, DataW.agg (ls.map fun s => DataW.lit (.string (toU8 s)))) ∈ l)
    (hg : P.globalNamed n = some g) (ht : (P.globals[g]?).map (·.type) = some t) (hu : P.underlying t = some (.array N e)) (he : P.underlying e = some .string) (hc : P.cellsOf e = 1) (hb : ls.all (fun s => s.all fun x => decide (0 ≤ x) && decide (x < 256)) = true) :
    RepV (Iall w) w (.pointer (some ⟨g, 0, none⟩)) (.rptr (ls.map AV.str)) := by
  obtain ⟨g', t', cs, fuel, p, h1, h2, h3, h4⟩ := laid_var l ps h hm
  obtain rfl := Option.some.inj (h1.symm.trans hg)
  obtain rfl := Option.some.inj (h2.symm.trans ht)
  obtain ⟨xs, m, _, hx, _, hn, hel⟩ := DataW.trod_array hu h4
  obtain ⟨hx, _⟩ := Prod.mk.inj hx
  have hx := DataW.agg.inj hx
  have hlen : ls.length = N := by have := congrArg List.length hx; simp only [List.length_map] at this; omega
  refine rptr_all fun j hj => ?_
  rw [List.length_map] at hj
  have hj2 : j < xs.length := by omega
  have := hel j (by omega)
  rw [hc, List.getElem?_eq_getElem hj2] at this
  obtain ⟨s, hs, hx2, _⟩ := DataW.trod_string he this
  have hat := congrArg (fun l => l[j]?) hx
  simp only [List.getElem?_map, List.getElem?_eq_getElem hj, List.getElem?_eq_getElem hj2, Option.map_some, hx2, Option.some.injEq, DataW.lit.injEq, Lit.string.injEq] at hat
  refine ⟨.string s, by rw [World.var?_cell h1 h3 j]; exact one_cell hs, rfl, ?_⟩
  have e1 : bytesI s = ls[j] := by
    have hbl := List.all_eq_true.1 (List.all_eq_true.1 hb _ (List.getElem_mem hj))
    unfold bytesI
    rw [← hat, toU8, List.map_map]
    conv => rhs; rw [← List.map_id ls[j]]
    apply List.map_congr_left
    intro x hx
    have := hbl x hx
    simp only [Bool.and_eq_true, decide_eq_true_eq] at this
    show ((UInt8.ofNat x.toNat).toNat : Int) = x
    rw [UInt8.toNat_ofNat']
    omega
  have e2 : (ls.map AV.str).getD j .any = .str (bytesI s) := by simp [List.getD, hj, e1]
  rw [e2]
  exact .str s
/-- A table of numbers. -/
theorem laid_ints {P : Program} {w : World} {n : String} {g t e : Nat} {N : Nat} {k : IntKind} {ls : List Int} (l : List (String × DataW Unit)) {ps : List MemPlace} (h : DataW.LaidVars P w l ps) (hm : (n, DataW.agg (ls.map fun s => DataW.lit (.int k s))) ∈ l)
    (hg : P.globalNamed n = some g) (ht : (P.globals[g]?).map (·.type) = some t) (hu : P.underlying t = some (.array N e)) (he : P.underlying e = some (.int k)) (hc : P.cellsOf e = 1) :
    RepV (Iall w) w (.pointer (some ⟨g, 0, none⟩)) (.rptr (ls.map (AV.int k))) := by
  obtain ⟨g', t', cs, fuel, p, h1, h2, h3, h4⟩ := laid_var l ps h hm
  obtain rfl := Option.some.inj (h1.symm.trans hg)
  obtain rfl := Option.some.inj (h2.symm.trans ht)
  obtain ⟨xs, m, _, hx, _, hn, hel⟩ := DataW.trod_array hu h4
  obtain ⟨hx, _⟩ := Prod.mk.inj hx
  have hx := DataW.agg.inj hx
  have hlen : ls.length = N := by have := congrArg List.length hx; simp only [List.length_map] at this; omega
  refine rptr_all fun j hj => ?_
  rw [List.length_map] at hj
  have hj2 : j < xs.length := by omega
  have := hel j (by omega)
  rw [hc, List.getElem?_eq_getElem hj2] at this
  obtain ⟨s, hs, hx2, _⟩ := DataW.trod_int he this
  have hat := congrArg (fun l => l[j]?) hx
  simp only [List.getElem?_map, List.getElem?_eq_getElem hj, List.getElem?_eq_getElem hj2, Option.map_some, hx2, Option.some.injEq, DataW.lit.injEq, Lit.int.injEq, true_and] at hat
  refine ⟨.int k s, by rw [World.var?_cell h1 h3 j]; exact one_cell hs, rfl, ?_⟩
  have e2 : (ls.map (AV.int k)).getD j .any = .int k s := by simp [List.getD, hj, hat]
  rw [e2]
  exact .int k s
/-- An error that is one of the program's own. -/
theorem laid_err {P : Program} {w : World} {n : String} {g t : Nat} {ms : Array (String × TypeId)} {nm : String} {d : DataW Unit} (l : List (String × DataW Unit)) {ps : List MemPlace} (h : DataW.LaidVars P w l ps) (hm : (n, DataW.iface nm d) ∈ l)
    (hg : P.globalNamed n = some g) (ht : (P.globals[g]?).map (·.type) = some t) (hu : P.underlying t = some (.interface ms)) :
    RepV (Iall w) w (.pointer (some ⟨g, 0, none⟩)) (.rptr [.err true]) := by
  obtain ⟨g', t', cs, fuel, p, h1, h2, h3, h4⟩ := laid_var l ps h hm
  obtain rfl := Option.some.inj (h1.symm.trans hg)
  obtain rfl := Option.some.inj (h2.symm.trans ht)
  have : ∃ u v, cs.toList = [.iface u v] := by
    cases fuel with
    | zero => simp [DataW.trod] at h4
    | succ m =>
      unfold DataW.trod at h4
      rw [hu] at h4
      split at h4 <;> simp_all
  obtain ⟨u, v, e⟩ := this
  refine rptr_all fun j hj => ?_
  obtain rfl : j = 0 := by change j < 1 at hj; omega
  refine ⟨.iface u v, ?_, rfl, .err1 u v⟩
  rw [World.var?_cell h1 h3 0]
  exact one_cell (by rw [e]; rfl)

/-- What the rows list. -/
def laidL : List (String × DataW Unit) := Rows.textBytesRow.laid
theorem gok {w : World} (h : laidMetH Tryz.prog laidL w) : GOk (Iall w) w := by
  rw [MakeChecks.laidMetH_plain _ _ _ (by kernel_rfl)] at h
  obtain ⟨ps, hl, _, _⟩ := h
  intro g cells hg
  match g, hg with
  | 0, hg => obtain rfl := Option.some.inj hg; exact laid_strs (ls := gl0) laidL hl (List.mem_of_getElem? (i := 5) rfl) (by kernel_rfl) (by kernel_rfl) Tryz.underlying56 Tryz.underlying9 (by kernel_rfl) (by decide)
  | 1, hg => obtain rfl := Option.some.inj hg; exact laid_strs (ls := gl1) laidL hl (List.mem_of_getElem? (i := 6) rfl) (by kernel_rfl) (by kernel_rfl) Tryz.underlying58 Tryz.underlying9 (by kernel_rfl) (by decide)
  | 2, hg => obtain rfl := Option.some.inj hg; exact laid_ints (ls := gl2) laidL hl (List.mem_of_getElem? (i := 2) rfl) (by kernel_rfl) (by kernel_rfl) Tryz.underlying128 Tryz.underlying39 (by kernel_rfl)
  | 4, hg => obtain rfl := Option.some.inj hg; exact laid_ints (ls := gl4) laidL hl (List.mem_of_getElem? (i := 0) rfl) (by kernel_rfl) (by kernel_rfl) Tryz.underlying141 Tryz.underlying5 (by kernel_rfl)
  | 5, hg => obtain rfl := Option.some.inj hg; exact laid_ints (ls := gl5) laidL hl (List.mem_of_getElem? (i := 1) rfl) (by kernel_rfl) (by kernel_rfl) Tryz.underlying142 Tryz.underlying5 (by kernel_rfl)
  | 6, hg => obtain rfl := Option.some.inj hg; exact laid_err laidL hl (List.mem_of_getElem? (i := 4) rfl) (by kernel_rfl) (by kernel_rfl) Tryz.underlying82
  | 7, hg => obtain rfl := Option.some.inj hg; exact laid_err laidL hl (List.mem_of_getElem? (i := 3) rfl) (by kernel_rfl) (by kernel_rfl) Tryz.underlying82
  | 3, hg => cases hg
  | n + 8, hg => cases hg
/-- The door's own heap meets the condition. -/
theorem door_met (os : Os) (args : Array Value) : laidMetH Tryz.prog laidL ((World.doorLaid Tryz.prog 400 os).forCall (fun _ _ => 0) ⟨#[], args, []⟩).memory :=
  laidMetH_of_parts3 (fuel := 8) (laidMet_of_run' 8 (by kernel_rfl) (by kernel_rfl)) (by kernel_rfl) (by kernel_rfl)
end Go.Proofs.YtcddajbcbkbipaaGreatDoor
