/-
  The document's own fixed answers.
-/
import Derived.Test.YtcpopeamoipjlaaGrG
namespace Go.Proofs.Ytcpopeamoipjlaa
open Go Go.RowKit
set_option linter.unusedVariables false
set_option linter.unusedSimpArgs false

def wakeL : List (List Int) := [[1, 2], [3], [3], []]
theorem wake_ord : Ord (sN wakeL) 0 [0, 2, 1, 3] := by
  have e0 : sN wakeL 0 = [1, 2] := rfl
  have e1 : sN wakeL 1 = [3] := rfl
  have e2 : sN wakeL 2 = [3] := rfl
  have e3 : sN wakeL 3 = [] := rfl
  have h3 : ∀ s, VL (sN wakeL) s (sN wakeL 3) s [] := fun s => by rw [e3]; exact .nil s
  have h1 : ∀ s, s 3 = false → VL (sN wakeL) s (sN wakeL 1) (upd s 3) [3] := fun s h => by rw [e1]; exact VL.step (o1 := []) (o2 := []) h (h3 _) (.nil _)
  have h2 : ∀ s, s 3 = true → VL (sN wakeL) s (sN wakeL 2) s [] := fun s h => by rw [e2]; exact .skip h (.nil _)
  have h : VL (sN wakeL) (one 0) [1, 2] (upd (upd (upd (one 0) 1) 3) 2) ([3] ++ 1 :: ([] ++ 2 :: [])) :=
    VL.step (by simp [one]) (h1 _ (by simp [one, upd])) (VL.step (by simp [one, upd]) (h2 _ (by simp [one, upd])) (.nil _))
  exact ⟨_, _, by rw [e0]; exact h, rfl⟩
theorem m_awake : m_locksteplaw06_awake = some true := by
  have hm : mayS wakeL = true := by decide
  have hf : Fits wakeL := small_fits (mayS_fits hm)
  have h1 : m_graph_Make wakeL = some (gOf wakeL, 0) := by rw [m_make _ hf, hm]; rfl
  have h2 : m_graph_Order (gOf wakeL) 0 = some [0, 2, 1, 3] := (m_order (gOf wakeL) hf trivial 0).1 (mayG_gOf hm) (by decide) (by decide) _ wake_ord
  have h3 : m_graph_Make [[1]] = some (g0, 5) := by rw [m_make _ (fits_of (by decide)), show mayS [[1]] = false by decide]; rfl
  have h4 : m_graph_May (gOf wakeL) = some true := by rw [m_may _ hf, mayG_gOf hm]
  have hp : predOf wakeL = [[], [0], [0], [1, 2]] := by decide
  unfold m_locksteplaw06_awake
  show ((m_graph_Make wakeL).bind _) = _
  rw [h1, Option.bind_some]
  simp only []
  rw [h2, Option.bind_some, h3, Option.bind_some]
  have hs : gOf wakeL = ⟨wakeL, [[], [0], [0], [1, 2]]⟩ := by unfold gOf; rw [hp]
  rw [hs] at h4 ⊢
  simp only [h4, Option.bind_some]
  simp [chk, InB, h4]
end Go.Proofs.Ytcpopeamoipjlaa
