/-
  The program's own: whether two functions are the same.
-/
import Derived.Test.YtmlldiinidkecaaCodeXA
namespace Go.Proofs.Ytmlldiinidkecaa
open Go Go.RowKit
set_option linter.unusedVariables false
set_option linter.unusedSimpArgs false

/-- Two lists of one length, as such rounds tell whether they are one. -/
theorem eq_loop {α : Type} [BEq α] [LawfulBEq α] (l m : List α) (d : α) (f : Int → Option (LR Int (Unit ⊕ Bool))) (hlen : l.length = m.length) (hn : ∀ i : Nat, i < l.length → f i = bif l.getD i d == m.getD i d then some (.next ((i : Int) + 1)) else some (.done (.inr false)))
    (he : f l.length = some (.done (.inl ()))) : loopO f 0 = some (bif l == m then .inl () else .inr false) := by
  have := loop_eq l m d f (.inl ()) (.inr false) hlen (fun i hi hp => by rw [hn i hi, hp]; rfl) (fun i hi hp => by rw [hn i hi, hp]; rfl) he l.length 0 (Nat.zero_add _)
  simpa using this
theorem len_ne {α : Type} {l m : List α} (h : ¬ l.length = m.length) : ((l.length : Int) != (m.length : Int)) = true := by simp; omega
theorem len_same {α : Type} {l m : List α} (h : l.length = m.length) : ((l.length : Int) != (m.length : Int)) = false := by simp [h]
theorem beq_len {α : Type} [BEq α] [LawfulBEq α] {l m : List α} (h : ¬ l.length = m.length) : (l == m) = false := by rw [beq_eq_false_iff_ne]; exact fun e => h (by rw [e])
theorem xints (l m : List Int) (hl : l.length ≤ maxLen) : m_slices_Equal_int_int l m = some (l == m) := by
  unfold m_slices_Equal_int_int
  by_cases h : l.length = m.length
  · have hq := eq_loop l m 0 (m_slices_Equal_int_int_L1 l m) h (fun i hi => ?_) ?_
    · rw [len_same h, cond_false, hq]
      cases l == m <;> rfl
    · have e1 : decide ((i : Int) < (l.length : Int)) = true := decide_eq_true (by omega)
      unfold m_slices_Equal_int_int_L1
      simp only [e1, cond_true, chk_pos' (inB_nat hi), chk_pos' (inB_nat (show i < m.length by omega)), Int.toNat_natCast, w64_suc' hi hl, bne, not_cond, Int.natCast_add, Int.natCast_one]
    · unfold m_slices_Equal_int_int_L1
      simp
  · rw [len_ne h, cond_true, beq_len h]
theorem op_dec (a b : TOp) : (a == b) = ((a.Kind == b.Kind) && (a.Bits == b.Bits) && (a.Lanes == b.Lanes) && (a.Dst == b.Dst) && (a.Imm == b.Imm) && (a.Args == b.Args)) := by
  rw [Bool.eq_iff_iff]
  simp only [Bool.and_eq_true, beq_iff_eq]
  cases a; cases b
  simp only [TOp.mk.injEq]
  exact ⟨fun ⟨h1, h2, h3, h4, h5, h6⟩ => ⟨⟨⟨⟨⟨h1, h2⟩, h3⟩, h4⟩, h6⟩, h5⟩, fun ⟨⟨⟨⟨⟨h1, h2⟩, h3⟩, h4⟩, h6⟩, h5⟩ => ⟨h1, h2, h3, h4, h5, h6⟩⟩
theorem xop_same (a b : TOp) (h : a.Args.length ≤ maxLen) : m_kind_Same a b = some (a == b) := by
  unfold m_kind_Same
  rw [xints _ _ h, op_dec]
  cases (a.Kind == b.Kind) <;> cases (a.Bits == b.Bits) <;> cases (a.Lanes == b.Lanes) <;> cases (a.Dst == b.Dst) <;> cases (a.Imm == b.Imm) <;> cases (a.Args == b.Args) <;> rfl
theorem phi_beq (a b : TPhi) : (a == b) = ((a.Bits == b.Bits) && (a.Dst == b.Dst) && (a.From == b.From) && (a.Args == b.Args)) := by
  rw [phi_dec, beq_dec a.From, beq_dec a.Args]
theorem xphi_same (a b : TPhi) (h1 : a.From.length ≤ maxLen) (h2 : a.Args.length ≤ maxLen) : m_code_samePhi a b = some (a == b) := by
  unfold m_code_samePhi
  rw [xints _ _ h1, xints _ _ h2, phi_beq]
  cases (a.Bits == b.Bits) <;> cases (a.Dst == b.Dst) <;> cases (a.From == b.From) <;> cases (a.Args == b.Args) <;> rfl
theorem xend_same (a b : TEnd) (h : a.To.length ≤ maxLen) : m_code_sameEnd a b = some ((a.Kind == b.Kind) && (a.Arg == b.Arg) && decide (a.To = b.To)) := by
  unfold m_code_sameEnd
  rw [xints _ _ h, beq_dec a.To]
  cases (a.Kind == b.Kind) <;> cases (a.Arg == b.Arg) <;> cases decide (a.To = b.To) <;> rfl
theorem xphis_same (l m : List TPhi) (hl : l.length ≤ maxLen) (h : ∀ p ∈ l, p.From.length ≤ maxLen ∧ p.Args.length ≤ maxLen) : m_slices_EqualFunc_api_Phi_api_Phi_api_Phi_api_Phi l m = some (l == m) := by
  unfold m_slices_EqualFunc_api_Phi_api_Phi_api_Phi_api_Phi
  by_cases hm : l.length = m.length
  · have hq := eq_loop l m (default : TPhi) (m_slices_EqualFunc_api_Phi_api_Phi_api_Phi_api_Phi_L1 l m) hm (fun i hi => ?_) ?_
    · rw [len_same hm, cond_false, hq]
      cases l == m <;> rfl
    · have e1 : decide ((i : Int) < (l.length : Int)) = true := decide_eq_true (by omega)
      have q := h _ (getD_mem (d := (default : TPhi)) hi)
      unfold m_slices_EqualFunc_api_Phi_api_Phi_api_Phi_api_Phi_L1
      simp only [e1, cond_true, chk_pos' (inB_nat hi), chk_pos' (inB_nat (show i < m.length by omega)), Int.toNat_natCast, w64_suc' hi hl, xphi_same _ _ q.1 q.2, Option.bind_some, not_cond, Int.natCast_add, Int.natCast_one]
    · unfold m_slices_EqualFunc_api_Phi_api_Phi_api_Phi_api_Phi_L1
      simp
  · rw [len_ne hm, cond_true, beq_len hm]
theorem xops_same (l m : List TOp) (hl : l.length ≤ maxLen) (h : ∀ o ∈ l, o.Args.length ≤ maxLen) : m_slices_EqualFunc_api_Op_api_Op_api_Op_api_Op l m = some (l == m) := by
  unfold m_slices_EqualFunc_api_Op_api_Op_api_Op_api_Op
  by_cases hm : l.length = m.length
  · have hq := eq_loop l m (default : TOp) (m_slices_EqualFunc_api_Op_api_Op_api_Op_api_Op_L1 l m) hm (fun i hi => ?_) ?_
    · rw [len_same hm, cond_false, hq]
      cases l == m <;> rfl
    · have e1 : decide ((i : Int) < (l.length : Int)) = true := decide_eq_true (by omega)
      have q := h _ (getD_mem (d := (default : TOp)) hi)
      unfold m_slices_EqualFunc_api_Op_api_Op_api_Op_api_Op_L1
      simp only [e1, cond_true, chk_pos' (inB_nat hi), chk_pos' (inB_nat (show i < m.length by omega)), Int.toNat_natCast, w64_suc' hi hl, xop_same _ _ q, Option.bind_some, not_cond, Int.natCast_add, Int.natCast_one]
    · unfold m_slices_EqualFunc_api_Op_api_Op_api_Op_api_Op_L1
      simp
  · rw [len_ne hm, cond_true, beq_len hm]
theorem xblock_same (a b : TBlock) (h1 : a.Phis.length ≤ maxLen) (h2 : a.Ops.length ≤ maxLen) (h3 : a.End.To.length ≤ maxLen) (h4 : ∀ p ∈ a.Phis, p.From.length ≤ maxLen ∧ p.Args.length ≤ maxLen) (h5 : ∀ o ∈ a.Ops, o.Args.length ≤ maxLen) : m_code_sameBlock a b = some (a == b) := by
  unfold m_code_sameBlock
  rw [xphis_same _ _ h1 h4, xops_same _ _ h2 h5, block_dec, beq_dec a.Phis, beq_dec a.Ops]
  rw [show m_code_sameEnd ⟨a.End.Kind, a.End.Arg, a.End.To⟩ ⟨b.End.Kind, b.End.Arg, b.End.To⟩ = _ from xend_same a.End b.End h3]
  generalize ((a.End.Kind == b.End.Kind) && (a.End.Arg == b.End.Arg) && decide (a.End.To = b.End.To)) = c
  cases decide (a.Phis = b.Phis) <;> cases decide (a.Ops = b.Ops) <;> cases c <;> rfl
theorem xsame (f g : TFunc) (hf : InF f) (hg : InF g) : m_code_Same f g = some (decide (f = g)) := by
  have hb : m_slices_EqualFunc_api_Block_api_Block_api_Block_api_Block f.Blocks g.Blocks = some (f.Blocks == g.Blocks) := by
    unfold m_slices_EqualFunc_api_Block_api_Block_api_Block_api_Block
    by_cases hm : f.Blocks.length = g.Blocks.length
    · have hq := eq_loop f.Blocks g.Blocks (default : TBlock) (m_slices_EqualFunc_api_Block_api_Block_api_Block_api_Block_L1 f.Blocks g.Blocks) hm (fun i hi => ?_) ?_
      · rw [len_same hm, cond_false, hq]
        cases f.Blocks == g.Blocks <;> rfl
      · have e1 : decide ((i : Int) < (f.Blocks.length : Int)) = true := decide_eq_true (by omega)
        have hmem := getD_mem (d := (default : TBlock)) hi
        have q := hf.block _ hmem
        unfold m_slices_EqualFunc_api_Block_api_Block_api_Block_api_Block_L1
        simp only [e1, cond_true, chk_pos' (inB_nat hi), chk_pos' (inB_nat (show i < g.Blocks.length by omega)), Int.toNat_natCast, w64_suc' hi hf.blocks, xblock_same _ _ q.1 q.2.1 q.2.2 (hf.phi _ hmem) (fun o ho => (hf.op _ hmem o ho).1), Option.bind_some, not_cond, Int.natCast_add, Int.natCast_one]
      · unfold m_slices_EqualFunc_api_Block_api_Block_api_Block_api_Block_L1
        simp
    · rw [len_ne hm, cond_true, beq_len hm]
  unfold m_code_Same
  rw [xints _ _ hf.params, hb, func_dec, beq_dec f.Params, beq_dec f.Blocks]
  cases (f.Ret == g.Ret) <;> cases decide (f.Params = g.Params) <;> cases decide (f.Blocks = g.Blocks) <;> rfl
end Go.Proofs.Ytmlldiinidkecaa
