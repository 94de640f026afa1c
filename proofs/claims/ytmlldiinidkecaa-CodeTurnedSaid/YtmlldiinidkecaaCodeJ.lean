/-
  What Decode answers, from what its reader reads.
-/
import Derived.Test.YtmlldiinidkecaaCodeI
namespace Go.Proofs.Ytmlldiinidkecaa
open Go Go.RowKit
set_option linter.unusedVariables false
set_option linter.unusedSimpArgs false

structure DecFacts (dec : List Int → Option (TFunc × Int)) : Prop where
  whole : ∀ f, OkF f → 1 ≤ f.Blocks.length → sizeN f ≤ 512 → dec (funcE f) = some (f, 0)
  more : ∀ f x, OkF f → 1 ≤ f.Blocks.length → sizeN f ≤ 512 → 0 ≤ x ∧ x < 256 → dec (funcE f ++ [x]) = some (noF, 3)
  cut : ∀ f c, OkF f → 1 ≤ f.Blocks.length → sizeN f ≤ 512 → c < (funcE f).length → dec ((funcE f).take c) = some (noF, 2)
  any : ∀ b, Bytes b → b.length < 2 ^ 60 → ∃ g e, dec b = some (g, e) ∧ (e = 0 → OkF g ∧ 1 ≤ g.Blocks.length ∧ sizeN g ≤ 512 ∧ funcE g = b) ∧ (e ≠ 0 → g = noF)

theorem dec_facts {S : Type} {V : View S} {m : S → Option (TFunc × S)} {P : TFunc → Prop} (h : Reads V m funcE P) (hP : ∀ f, P f → OkF f) (hP' : ∀ f, OkF f → 1 ≤ f.Blocks.length → P f) (dec : List Int → Option (TFunc × Int))
    (hdec : ∀ b, Bytes b → b.length < 2 ^ 61 → ∃ s, V.good s ∧ V.bad s = 0 ∧ V.left s = b ∧ ∀ f s', m s = some (f, s') → V.good s' →
      (V.bad s' ≠ 0 → dec b = some (noF, V.bad s')) ∧
      (V.bad s' = 0 → P f → f.Blocks.length = 0 → ∃ e, e ≠ 0 ∧ dec b = some (noF, e)) ∧
      (V.bad s' = 0 → P f → 1 ≤ f.Blocks.length → V.left s' ≠ [] → dec b = some (noF, 3)) ∧
      (V.bad s' = 0 → P f → 1 ≤ f.Blocks.length → V.left s' = [] → 512 < sizeN f → ∃ e, e ≠ 0 ∧ dec b = some (noF, e)) ∧
      (V.bad s' = 0 → P f → 1 ≤ f.Blocks.length → V.left s' = [] → sizeN f ≤ 512 → dec b = some (f, 0))) : DecFacts dec where
  whole f ok h1 h2 := by
    have hl := funcE_len ok
    obtain ⟨s, hs, hb, hl0, hd⟩ := hdec (funcE f) (funcE_bytes f) (by omega)
    obtain ⟨s', e, hb', hl', hg⟩ := h.whole s f [] hs hb (hP' f ok h1) (by rw [hl0, List.append_nil])
    exact (hd f s' e hg).2.2.2.2 hb' (hP' f ok h1) h1 hl' h2
  more f x ok h1 h2 hx := by
    have hl := funcE_len ok
    obtain ⟨s, hs, hb, hl0, hd⟩ := hdec (funcE f ++ [x]) ((funcE_bytes f).app (fun y hy => by obtain rfl := List.mem_singleton.1 hy; exact hx)) (by simp; omega)
    obtain ⟨s', e, hb', hl', hg⟩ := h.whole s f [x] hs hb (hP' f ok h1) hl0
    exact (hd f s' e hg).2.2.1 hb' (hP' f ok h1) h1 (by rw [hl']; exact List.cons_ne_nil _ _)
  cut f c ok h1 h2 hc := by
    have hl := funcE_len ok
    obtain ⟨s, hs, hb, hl0, hd⟩ := hdec ((funcE f).take c) ((funcE_bytes f).take' c) (by simp; omega)
    obtain ⟨a, s', e, hb', hg⟩ := h.cut s f c hs hb (hP' f ok h1) hc hl0
    rw [(hd a s' e hg).1 (by rw [hb']; decide), hb']
  any b hB hl := by
    obtain ⟨s, hs, hb, hl0, hd⟩ := hdec b hB (by omega)
    obtain ⟨f, s', e, hg, ha⟩ := h.any s hs hb
    obtain ⟨d1, d2, d3, d4, d5⟩ := hd f s' e hg
    by_cases hb' : V.bad s' = 0
    · obtain ⟨p, hE⟩ := ha hb'
      by_cases h0 : f.Blocks.length = 0
      · obtain ⟨x, hx, hdx⟩ := d2 hb' p h0
        exact ⟨noF, x, hdx, fun h => absurd h hx, fun _ => rfl⟩
      · have h1 : 1 ≤ f.Blocks.length := by omega
        by_cases hn : V.left s' = []
        · by_cases h5 : 512 < sizeN f
          · obtain ⟨x, hx, hdx⟩ := d4 hb' p h1 hn h5
            exact ⟨noF, x, hdx, fun h => absurd h hx, fun _ => rfl⟩
          · exact ⟨f, 0, d5 hb' p h1 hn (by omega), fun _ => ⟨hP f p, h1, by omega, by rw [← hl0, hE, hn, List.append_nil]⟩, fun h => absurd rfl h⟩
        · exact ⟨noF, 3, d3 hb' p h1 hn, fun h => absurd h (by decide), fun _ => rfl⟩
    · exact ⟨noF, V.bad s', d1 hb', fun h => absurd h hb', fun _ => rfl⟩
end Go.Proofs.Ytmlldiinidkecaa
