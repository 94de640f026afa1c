/-
  Functions of whatever size: whether they are gone through is told.
-/
import Derived.Test.YtcpopeamoipjlaaLoops
import Derived.Test.YtcpopeamoipjlaaOpn
import Derived.Test.YtcpopeamoipjlaaGrM
namespace Go.Proofs.Ytcpopeamoipjlaa
open Go Go.RowKit
set_option linter.unusedVariables false
set_option linter.unusedSimpArgs false

theorem maxLen_eq : maxLen = 9223372036854775807 := rfl
/-- What comes in: lengths that there are; Imm a word. -/
structure InF (f : TFunc) : Prop where
  params : f.Params.length ≤ maxLen
  blocks : f.Blocks.length ≤ maxLen
  block : ∀ b ∈ f.Blocks, b.Phis.length ≤ maxLen ∧ b.Ops.length ≤ maxLen ∧ b.End.To.length ≤ maxLen
  phi : ∀ b ∈ f.Blocks, ∀ p ∈ b.Phis, p.From.length ≤ maxLen ∧ p.Args.length ≤ maxLen
  op : ∀ b ∈ f.Blocks, ∀ o ∈ b.Ops, o.Args.length ≤ maxLen ∧ 0 ≤ o.Imm ∧ o.Imm < 18446744073709551616
theorem inF {f : TFunc} (h : okTFunc f) : InF f :=
  ⟨h.1.2, h.2.2.1.2, fun b hb => ⟨(h.2.2.1.1 b hb).1.2, (h.2.2.1.1 b hb).2.1.2, (h.2.2.1.1 b hb).2.2.1.2.2.1.2⟩, fun b hb p hp => ⟨((h.2.2.1.1 b hb).1.1 p hp).2.2.1.2, ((h.2.2.1.1 b hb).1.1 p hp).2.2.2.1.2⟩,
    fun b hb o ho => ⟨((h.2.2.1.1 b hb).2.1.1 o ho).2.2.2.2.1.2, wf_u64 ((h.2.2.1.1 b hb).2.1.1 o ho).2.2.2.2.2.1⟩⟩

theorem w64_nat {n : Nat} (h : n < 9223372036854775808) : w64 (n : Int) = n := w64_of (by omega) (by omega)
theorem w64_suc' {i n : Nat} (h : i < n) (hn : n ≤ maxLen) : w64 ((i : Int) + 1) = ((i + 1 : Nat) : Int) := by rw [maxLen_eq] at hn; rw [show ((i : Int) + 1) = ((i + 1 : Nat) : Int) by omega, w64_nat (by omega)]

/-! ### How much there is -/
/-- Of whatever size: it is told. -/
theorem small_some (f : TFunc) (hf : InF f) : ∃ b, m_lockstepref04_Small f = some b := by
  have h3 : ∃ x, loopO (m_lockstepref04_Small_L3 f) ((f.Params.length : Int), ((0 : Nat) : Int)) = some x := by
    refine loop_total f.Blocks.length (m_lockstepref04_Small_L3 f) (fun n i hi => ?_) (fun n => ?_) f.Blocks.length 0 _ (Nat.zero_add _)
    · have hmem := getD_mem (d := (default : TBlock)) hi
      obtain ⟨b1, b2, _⟩ := hf.block _ hmem
      have hI : InB (i : Int) f.Blocks.length := inB_nat hi
      unfold m_lockstepref04_Small_L3
      cases hc : (bif decide ((i : Int) < (f.Blocks.length : Int)) then decide (n ≤ 20000) else false) with
      | false => right; simp only [hc, cond_false]; exact ⟨_, rfl⟩
      | true =>
        left
        simp only [hc, cond_true, chk_pos' hI]
        obtain ⟨x1, h1⟩ := loop_total (f.Blocks.getD i default).Phis.length (m_lockstepref04_Small_L1 f i) (fun n j hj => by
            unfold m_lockstepref04_Small_L1
            simp only [chk_pos' hI, Int.toNat_natCast]
            cases hc : (bif decide ((j : Int) < ((f.Blocks.getD i default).Phis.length : Int)) then decide (n ≤ 20000) else false) with
            | false => right; exact ⟨_, rfl⟩
            | true => left; simp only [cond_true, chk_pos' (inB_nat hj), w64_suc' hj b1]; exact ⟨_, rfl⟩) (fun n => by
            unfold m_lockstepref04_Small_L1
            simp only [chk_pos' hI, Int.toNat_natCast]
            have : decide (((f.Blocks.getD i default).Phis.length : Int) < ((f.Blocks.getD i default).Phis.length : Int)) = false := by simp
            simp only [this, cond_false]; exact ⟨_, rfl⟩) _ 0 (w64 (w64 (n + 1) + ((f.Blocks.getD i default).End.To.length : Int))) (Nat.zero_add _)
        obtain ⟨x2, h2⟩ := loop_total (f.Blocks.getD i default).Ops.length (m_lockstepref04_Small_L2 f i) (fun n j hj => by
            unfold m_lockstepref04_Small_L2
            simp only [chk_pos' hI, Int.toNat_natCast]
            cases hc : (bif decide ((j : Int) < ((f.Blocks.getD i default).Ops.length : Int)) then decide (n ≤ 20000) else false) with
            | false => right; exact ⟨_, rfl⟩
            | true => left; simp only [cond_true, chk_pos' (inB_nat hj), w64_suc' hj b2]; exact ⟨_, rfl⟩) (fun n => by
            unfold m_lockstepref04_Small_L2
            simp only [chk_pos' hI, Int.toNat_natCast]
            have : decide (((f.Blocks.getD i default).Ops.length : Int) < ((f.Blocks.getD i default).Ops.length : Int)) = false := by simp
            simp only [this, cond_false]; exact ⟨_, rfl⟩) _ 0 x1 (Nat.zero_add _)
        rw [show ((0 : Nat) : Int) = 0 from rfl] at h1 h2
        simp only [Int.toNat_natCast, h1, h2, Option.bind_some, w64_suc' hi hf.blocks]
        exact ⟨_, rfl⟩
    · unfold m_lockstepref04_Small_L3
      have : decide ((f.Blocks.length : Int) < (f.Blocks.length : Int)) = false := by simp
      simp only [this, cond_false]; exact ⟨_, rfl⟩
  obtain ⟨x, hx⟩ := h3
  unfold m_lockstepref04_Small
  rw [show ((0 : Nat) : Int) = 0 from rfl] at hx
  rw [hx]
  exact ⟨_, rfl⟩

end Go.Proofs.Ytcpopeamoipjlaa
