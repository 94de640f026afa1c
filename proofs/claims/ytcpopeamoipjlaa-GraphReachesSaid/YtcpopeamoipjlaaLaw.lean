/-
  What comes in: numbers, and slices of numbers.
-/
import Derived.Test.YtcpopeamoipjlaaTyped
namespace Go.Proofs.Ytcpopeamoipjlaa
open Go Go.RowKit

/-- A slice of numbers that came in. -/
theorem rep_row {k : IntKind} {e : Int → List AV} {d : Int} (he : ∀ x, e x = [.int k x]) {w : World} {a : Option Addr} {len cap : Nat} {zs : List Int}
    (h : (a = none ∧ len = 0 ∧ cap = 0 ∧ zs = []) ∨ ∃ x, a = some x ∧ len ≤ cap ∧ cap ≤ maxLen ∧ zs.length = cap ∧ (∀ i, i < zs.length → w.cell? (x.add i) = some (.int k (zs.getD i 0))) ∧ ∀ n ∈ zs, (Lit.int k n).wf = true) :
    Rep (fun b o => ∃ u, w.cell? ⟨b, o, none⟩ = some u) (look []) (fun _ => none) w (.slice a len cap) (AV.list 1 e d (zs.take len) .none) := by
  rcases h with ⟨rfl, rfl, rfl, rfl⟩ | ⟨x, rfl, hl, hm, hz, hc, _⟩
  · exact .val _ _ (.slice none 0 0 1 _ (fun _ => undef) (Nat.le_refl _) (by simp) (fun h => by simp at h) (fun _ => rfl) (fun j hj => by simp at hj) (fun i hi => by simp at hi) (fun i c hi => by simp at hi))
  · have hlen : (zs.take len).length = len := by simp; omega
    have hcell : x.spot = none → ∀ j, j < zs.length → w.cell? ⟨x.block, x.off + j, none⟩ = some (.int k (zs.getD j 0)) := fun hs j hj => by
      have := hc j hj
      rw [Addr.add] at this
      split at this
      · rename_i h0
        subst h0
        obtain ⟨b, o, s⟩ := x
        simp only at hs
        subst hs
        exact this
      · exact this
    unfold AV.list
    rw [hlen]
    refine .val _ _ (.slice (some x) len cap 1 _ (fun j => .int k (zs.getD j 0)) hl hm (fun h => ?_) (fun h => by cases h) (fun j _ => rfl) (fun i _ => by rw [he]; rfl) (fun i c hi hcc => ?_))
    · have hs : x.spot = none := by
        have := hc 0 (by omega)
        have h2 := World.cell?_spot this
        simpa [Addr.add] using h2
      exact ⟨x, rfl, hs, fun j hj => ⟨_, hcell hs j (by omega)⟩, fun j hj => hcell hs j (by omega)⟩
    · obtain rfl : c = 0 := by omega
      rw [he]
      have e1 : (zs.take len).getD i d = zs.getD i 0 := by
        have : i < zs.length := by omega
        simp [List.getD, hi, this]
      rw [e1]
      simp only [Nat.mul_one, Nat.add_zero]
      exact .int _ _
theorem row_wf {k : IntKind} {w : World} {a : Option Addr} {len cap : Nat} {zs : List Int}
    (h : (a = none ∧ len = 0 ∧ cap = 0 ∧ zs = []) ∨ ∃ x, a = some x ∧ len ≤ cap ∧ cap ≤ maxLen ∧ zs.length = cap ∧ (∀ i, i < zs.length → w.cell? (x.add i) = some (.int k (zs.getD i 0))) ∧ ∀ n ∈ zs, (Lit.int k n).wf = true) :
    ∀ n ∈ zs.take len, (Lit.int k n).wf = true := fun n hn => by
  have hn := List.mem_of_mem_take hn
  rcases h with ⟨_, _, _, rfl⟩ | ⟨_, _, _, _, _, _, h⟩
  · cases hn
  · exact h n hn
theorem wf_u64 {n : Int} (h : (Lit.int .u64 n).wf = true) : 0 ≤ n ∧ n < 18446744073709551616 := by simp [Lit.wf, IntKind.min, IntKind.max, IntKind.bits, IntKind.signed] at h; omega
theorem wf_u32 {n : Int} (h : (Lit.int .u32 n).wf = true) : 0 ≤ n ∧ n < 4294967296 := by simp [Lit.wf, IntKind.min, IntKind.max, IntKind.bits, IntKind.signed] at h; omega
theorem wf_u8 {n : Int} (h : (Lit.int .u8 n).wf = true) : 0 ≤ n ∧ n < 256 := by simp [Lit.wf, IntKind.min, IntKind.max, IntKind.bits, IntKind.signed] at h; omega
theorem wf_i64 {n : Int} (h : (Lit.int .i64 n).wf = true) : -9223372036854775808 ≤ n ∧ n < 9223372036854775808 := by simp [Lit.wf, IntKind.min, IntKind.max, IntKind.bits, IntKind.signed] at h; omega
theorem wf_u16 {n : Int} (h : (Lit.int .u16 n).wf = true) : 0 ≤ n ∧ n < 65536 := by simp [Lit.wf, IntKind.min, IntKind.max, IntKind.bits, IntKind.signed] at h; omega
end Go.Proofs.Ytcpopeamoipjlaa
