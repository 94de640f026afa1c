/-
  Small facts on worlds that have only grown.
-/
import Derived.WalkKit
import Derived.RowKit3
namespace Go.Proofs.Ytdldcondjidnfaa
open Go.RowKit
theorem grown_tr {a b c : World} (h : Grown a b) (g : Grown b c) : Grown a c := by
  obtain ⟨h1, h2, h3⟩ := h
  obtain ⟨g1, g2, g3⟩ := g
  exact ⟨World.keptBut_trans h1 g1, fun x => (g2 x).trans (h2 x), Nat.le_trans h3 g3⟩
theorem grown_last {a b c : World} (g : Grown b c) (h : Grown a b) : Grown a c := grown_tr h g
theorem grown_cell {w w' : World} (h : Grown w w') {p : Addr} (hp : p.block < w.heap.size) : w'.cell? p = w.cell? p := by
  have hk := h.1.2.2 p.block hp
  unfold World.cell?
  revert hk
  generalize w.heap[p.block]? = o
  generalize w'.heap[p.block]? = o'
  intro hk
  split at hk
  · obtain ⟨-, -, -, hj⟩ := hk
    simp only
    rw [hj p.off (fun f => f)]
  · simp
  · rw [hk]
theorem undef_no {b : Bool} (h : some undef = some (Value.bool b)) : False := by simp [undef] at h
end Go.Proofs.Ytdldcondjidnfaa
