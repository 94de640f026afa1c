/-
  The program's own: how many there are, whether they may be told.
-/
import Derived.Test.YtmlldiinidkecaaCodeJ
namespace Go.Proofs.Ytmlldiinidkecaa
open Go Go.RowKit
set_option linter.unusedVariables false
set_option linter.unusedSimpArgs false

theorem sum_suc {α : Type} (l : List α) (g : α → Nat) : (l.map fun a => g a + 1).sum = l.length + (l.map g).sum := by
  induction l with
  | nil => rfl
  | cons a l ih => simp only [List.map_cons, List.sum_cons, ih, List.length_cons]; omega
theorem w64_plus (a b : Int) : w64 (a + w64 b) = w64 (a + b) := by rw [Int.add_comm, w64_add, Int.add_comm]
theorem xsize (f : TFunc) (hf : InF f) : m_code_Size f = some (sizeW f) := by
  have hl := loop_addw f.Blocks (default : TBlock) (fun b => b.Phis.length + b.Ops.length) id (m_code_Size_L1 f) (fun n i hi => ?_) (fun n => ?_) f.Blocks.length 0 f.Blocks.length (Nat.zero_add _)
  · unfold m_code_Size
    rw [w64_nat (by have := hf.blocks; rw [maxLen_eq] at this; omega), show ((0 : Nat) : Int) = 0 from rfl] at hl
    rw [hl, Option.bind_some, List.drop_zero, sizeW, sizeN, show (sizeB : TBlock → Nat) = (fun b => (b.Phis.length + b.Ops.length) + 1) from rfl, sum_suc]
    rfl
  · have e1 : decide ((i : Int) < (f.Blocks.length : Int)) = true := decide_eq_true (by omega)
    unfold m_code_Size_L1
    simp only [e1, cond_true, chk_pos' (inB_nat hi), Int.toNat_natCast, w64_suc' hi hf.blocks, w64_plus, w64_add]
    rw [show (n : Int) + (((f.Blocks.getD i default).Phis.length : Int) + ((f.Blocks.getD i default).Ops.length : Int)) = ((n + ((f.Blocks.getD i default).Phis.length + (f.Blocks.getD i default).Ops.length) : Nat) : Int) by omega]
  · have e1 : decide ((f.Blocks.length : Int) < (f.Blocks.length : Int)) = false := by simp
    unfold m_code_Size_L1
    simp only [e1, cond_false, id]

/-- Whether all of a list fit, as such rounds tell it. -/
theorem all_loop {α : Type} (l : List α) (d : α) (p : α → Bool) (f : Int → Option (LR Int (Unit ⊕ Bool))) (hn : ∀ i : Nat, i < l.length → f i = bif p (l.getD i d) then some (.next ((i : Int) + 1)) else some (.done (.inr false)))
    (he : f l.length = some (.done (.inl ()))) : loopO f 0 = some (bif l.all p then .inl () else .inr false) := by
  have := loop_all l d p f (.inl ()) (.inr false) (fun i hi hp => by rw [hn i hi, hp]; rfl) (fun i hi hp => by rw [hn i hi, hp]; rfl) he l.length 0 (Nat.zero_add _)
  simpa using this
theorem numB_cond (x : Int) : (bif decide (x < 0) then true else decide (2147483647 < x)) = !numB x := by
  unfold numB
  by_cases h1 : x < 0
  · have : ¬ 0 ≤ x := by omega
    simp [h1, this]
  · by_cases h2 : 2147483647 < x
    · have : ¬ x ≤ 2147483647 := by omega
      simp [h1, h2, this]
    · have h3 : 0 ≤ x := by omega
      have h4 : x ≤ 2147483647 := by omega
      simp [h1, h2, h3, h4]
theorem xfits (l : List Int) (h : l.length ≤ maxLen) : m_code_numbersFit l = some (l.all numB) := by
  have hl := all_loop l 0 numB (m_code_numbersFit_L1 l) (fun i hi => ?_) ?_
  · unfold m_code_numbersFit
    rw [hl]
    cases l.all numB <;> rfl
  · have e1 : decide ((i : Int) < (l.length : Int)) = true := decide_eq_true (by omega)
    unfold m_code_numbersFit_L1
    simp only [e1, cond_true, chk_pos' (inB_nat hi), Int.toNat_natCast, numB_cond, w64_suc' hi h]
    cases numB (l.getD i 0) <;> simp
  · unfold m_code_numbersFit_L1
    simp
theorem xlistFits (l : List Int) (h : l.length ≤ maxLen) : m_code_listFits l = some (listB l) := by
  unfold m_code_listFits
  rw [xfits l h]
  by_cases h1 : l.length ≤ 64
  · have e1 : decide ((l.length : Int) ≤ 64) = true := decide_eq_true (by omega)
    rw [e1]
    simp [listB, h1]
  · have e1 : decide ((l.length : Int) ≤ 64) = false := decide_eq_false (by omega)
    rw [e1]
    simp [listB, h1]
theorem short_max {l : List Int} (h : l.length ≤ 10) : l.length ≤ maxLen := by rw [maxLen_eq]; omega
theorem xphiFits (p : TPhi) (h1 : p.From.length ≤ maxLen) (h2 : p.Args.length ≤ maxLen) : m_code_phiFits p = some (phiB p) := by
  unfold m_code_phiFits phiB
  rw [xfits _ (short_max (by simp)), xlistFits _ h1, xlistFits _ h2]
  simp only [List.all_cons, List.all_nil, Bool.and_true]
  cases numB p.Bits <;> cases numB p.Dst <;> cases listB p.From <;> cases listB p.Args <;> rfl
theorem xopFits (o : TOp) (h1 : o.Args.length ≤ maxLen) : m_code_opFits o = some (opB o) := by
  unfold m_code_opFits opB
  rw [xfits _ (short_max (by simp)), xlistFits _ h1]
  simp only [List.all_cons, List.all_nil, Bool.and_true]
  cases numB o.Kind <;> cases numB o.Bits <;> cases numB o.Lanes <;> cases numB o.Dst <;> cases listB o.Args <;> rfl
theorem xendFits (e : TEnd) (h1 : e.To.length ≤ maxLen) : m_code_endFits e = some (endB e) := by
  unfold m_code_endFits endB
  rw [xfits _ (short_max (by simp)), xlistFits _ h1]
  simp only [List.all_cons, List.all_nil, Bool.and_true]
  cases numB e.Kind <;> cases numB e.Arg <;> cases listB e.To <;> rfl
theorem not_cond {X : Type} (b : Bool) (x y : X) : (bif !b then x else y) = bif b then y else x := by cases b <;> rfl
theorem xphis_fit (l : List TPhi) (hl : l.length ≤ maxLen) (h : ∀ p ∈ l, p.From.length ≤ maxLen ∧ p.Args.length ≤ maxLen) : m_code_allFit_api_Phi l = some (l.all phiB) := by
  have hl' := all_loop l (default : TPhi) phiB (m_code_allFit_api_Phi_L1 l) (fun i hi => ?_) ?_
  · unfold m_code_allFit_api_Phi
    rw [hl']
    cases l.all phiB <;> rfl
  · have e1 : decide ((i : Int) < (l.length : Int)) = true := decide_eq_true (by omega)
    have := h _ (getD_mem (d := (default : TPhi)) hi)
    unfold m_code_allFit_api_Phi_L1
    simp only [e1, cond_true, chk_pos' (inB_nat hi), Int.toNat_natCast, xphiFits _ this.1 this.2, Option.bind_some, not_cond, w64_suc' hi hl, Int.natCast_add, Int.natCast_one]
  · unfold m_code_allFit_api_Phi_L1
    simp
theorem xops_fit (l : List TOp) (hl : l.length ≤ maxLen) (h : ∀ o ∈ l, o.Args.length ≤ maxLen) : m_code_allFit_api_Op l = some (l.all opB) := by
  have hl' := all_loop l (default : TOp) opB (m_code_allFit_api_Op_L1 l) (fun i hi => ?_) ?_
  · unfold m_code_allFit_api_Op
    rw [hl']
    cases l.all opB <;> rfl
  · have e1 : decide ((i : Int) < (l.length : Int)) = true := decide_eq_true (by omega)
    have := h _ (getD_mem (d := (default : TOp)) hi)
    unfold m_code_allFit_api_Op_L1
    simp only [e1, cond_true, chk_pos' (inB_nat hi), Int.toNat_natCast, xopFits _ this, Option.bind_some, not_cond, w64_suc' hi hl, Int.natCast_add, Int.natCast_one]
  · unfold m_code_allFit_api_Op_L1
    simp
theorem xblockFits (b : TBlock) (h1 : b.Phis.length ≤ maxLen) (h2 : b.Ops.length ≤ maxLen) (h3 : b.End.To.length ≤ maxLen) (h4 : ∀ p ∈ b.Phis, p.From.length ≤ maxLen ∧ p.Args.length ≤ maxLen) (h5 : ∀ o ∈ b.Ops, o.Args.length ≤ maxLen) : m_code_blockFits b = some (blockB b) := by
  unfold m_code_blockFits blockB
  rw [xphis_fit _ h1 h4, xops_fit _ h2 h5, xendFits _ h3]
  cases b.Phis.all phiB <;> cases b.Ops.all opB <;> cases endB b.End <;> rfl
theorem xblocks_fit (f : TFunc) (hf : InF f) : m_code_allFit_api_Block f.Blocks = some (f.Blocks.all blockB) := by
  have hl' := all_loop f.Blocks (default : TBlock) blockB (m_code_allFit_api_Block_L1 f.Blocks) (fun i hi => ?_) ?_
  · unfold m_code_allFit_api_Block
    rw [hl']
    cases f.Blocks.all blockB <;> rfl
  · have e1 : decide ((i : Int) < (f.Blocks.length : Int)) = true := decide_eq_true (by omega)
    have hm := getD_mem (d := (default : TBlock)) hi
    have q := hf.block _ hm
    unfold m_code_allFit_api_Block_L1
    simp only [e1, cond_true, chk_pos' (inB_nat hi), Int.toNat_natCast, xblockFits _ q.1 q.2.1 q.2.2 (hf.phi _ hm) (fun o ho => (hf.op _ hm o ho).1), Option.bind_some, not_cond, w64_suc' hi hf.blocks, Int.natCast_add, Int.natCast_one]
  · unfold m_code_allFit_api_Block_L1
    simp
theorem xmay (f : TFunc) (hf : InF f) : m_code_May f = some (mayF f) := by
  unfold m_code_May mayF
  rw [xsize f hf, xfits _ hf.params, xfits _ (short_max (by simp)), xblocks_fit f hf]
  simp only [List.all_cons, List.all_nil, Bool.and_true, listB]
  have d1 : ∀ n : Nat, decide ((n : Int) < 1) = !decide (1 ≤ n) := fun n => by by_cases h : 1 ≤ n <;> simp [h] <;> omega
  have d2 : ∀ n : Nat, decide ((64 : Int) < (n : Int)) = !decide (n ≤ 64) := fun n => by by_cases h : n ≤ 64 <;> simp [h] <;> omega
  have d3 : ∀ n : Nat, decide ((16 : Int) < (n : Int)) = !decide (n ≤ 16) := fun n => by by_cases h : n ≤ 16 <;> simp [h] <;> omega
  have d4 : ∀ n : Int, decide ((512 : Int) < n) = !decide (n ≤ 512) := fun n => by by_cases h : n ≤ 512 <;> simp [h] <;> omega
  simp only [d1, d2, d3, d4]
  have himp : decide (f.Params.length ≤ 16) = true → decide (f.Params.length ≤ 64) = true := fun h => by simp at h ⊢; omega
  revert himp
  generalize decide (1 ≤ f.Blocks.length) = c1
  generalize decide (f.Blocks.length ≤ 64) = c2
  generalize decide (f.Params.length ≤ 16) = c3
  generalize decide (f.Params.length ≤ 64) = c4
  generalize f.Params.all numB = c6
  generalize numB f.Ret = c7
  generalize f.Blocks.all blockB = c8
  cases c3 with
  | true =>
    intro h
    obtain rfl := h rfl
    simp only [Bool.not_true, beq_self_eq_true, cond_true, Option.bind_some, cond_false]
    generalize decide (sizeW f ≤ 512) = c5
    cases c1 <;> cases c2 <;> cases c6 <;> cases c7 <;> cases c8 <;> cases c5 <;> rfl
  | false =>
    intro _
    cases c1 <;> cases c2 <;> rfl
end Go.Proofs.Ytmlldiinidkecaa
