/-
  Functions as the document counts them, and tells whether they may be told, and are the same: of whatever size.
-/
import Derived.Test.YtmlldiinidkecaaLoops
import Derived.Test.YtmlldiinidkecaaOpn
namespace Go.Proofs.Ytmlldiinidkecaa
open Go Go.RowKit
set_option linter.unusedVariables false
set_option linter.unusedSimpArgs false

def numB (n : Int) : Bool := decide (0 ≤ n) && decide (n ≤ 2147483647)
def listB (l : List Int) : Bool := l.all numB && decide (l.length ≤ 64)
def phiB (p : TPhi) : Bool := numB p.Bits && numB p.Dst && listB p.From && listB p.Args
def opB (o : TOp) : Bool := numB o.Kind && numB o.Bits && numB o.Lanes && numB o.Dst && listB o.Args
def endB (e : TEnd) : Bool := numB e.Kind && numB e.Arg && listB e.To
def blockB (b : TBlock) : Bool := b.Phis.all phiB && b.Ops.all opB && endB b.End
def sizeB (b : TBlock) : Nat := b.Phis.length + b.Ops.length + 1
/-- How many there are; as a word. -/
def sizeN (f : TFunc) : Nat := (f.Blocks.map sizeB).sum
def sizeW (f : TFunc) : Int := w64 (sizeN f)
def mayF (f : TFunc) : Bool := decide (1 ≤ f.Blocks.length) && decide (f.Blocks.length ≤ 64) && decide (f.Params.length ≤ 16) && listB f.Params && numB f.Ret && decide (sizeW f ≤ 512) && f.Blocks.all blockB
def entP (p : TPhi) : Nat := 1 + p.From.length + p.Args.length
def entO (o : TOp) : Nat := 1 + o.Args.length
def entB (b : TBlock) : Nat := 1 + b.End.To.length + (b.Phis.map entP).sum + (b.Ops.map entO).sum
def entF (f : TFunc) : Nat := f.Params.length + (f.Blocks.map entB).sum

theorem maxLen_eq : maxLen = 9223372036854775807 := rfl
/-- What comes in: lengths that there are; Imm a word. -/
structure InF (f : TFunc) : Prop where
  params : f.Params.length ≤ maxLen
  blocks : f.Blocks.length ≤ maxLen
  block : ∀ b ∈ f.Blocks, b.Phis.length ≤ maxLen ∧ b.Ops.length ≤ maxLen ∧ b.End.To.length ≤ maxLen
  phi : ∀ b ∈ f.Blocks, ∀ p ∈ b.Phis, p.From.length ≤ maxLen ∧ p.Args.length ≤ maxLen
  op : ∀ b ∈ f.Blocks, ∀ o ∈ b.Ops, o.Args.length ≤ maxLen ∧ 0 ≤ o.Imm ∧ o.Imm < 18446744073709551616
theorem inF {f : TFunc} (h : okTFunc f) : InF f :=
  ⟨h.1.2, h.2.2.1.2, fun b hb => ⟨(h.2.2.1.1 b hb).1.2, (h.2.2.1.1 b hb).2.1.2, (h.2.2.1.1 b hb).2.2.1.2.2.1.2⟩, fun b hb p hp => ⟨((h.2.2.1.1 b hb).1.1 p hp).2.2.1.2, ((h.2.2.1.1 b hb).1.1 p hp).2.2.2.1.2⟩,
    fun b hb o ho => ⟨((h.2.2.1.1 b hb).2.1.1 o ho).2.2.2.2.1.2, wf_u64 ((h.2.2.1.1 b hb).2.1.1 o ho).2.2.2.2.2.1⟩⟩

theorem w64_nat {n : Nat} (h : n < 9223372036854775808) : w64 (n : Int) = n := w64_of (by omega) (by omega)
theorem w64_suc' {i n : Nat} (h : i < n) (hn : n ≤ maxLen) : w64 ((i : Int) + 1) = ((i + 1 : Nat) : Int) := by rw [maxLen_eq] at hn; rw [show ((i : Int) + 1) = ((i + 1 : Nat) : Int) by omega, w64_nat (by omega)]

/-! ### How much there is -/
/-- Of whatever size: it is told. -/
theorem small_some (f : TFunc) (hf : InF f) : ∃ b, m_lockstepref04_Small f = some b := by
  have h3 : ∃ x, loopO (m_lockstepref04_Small_L3 f) ((f.Params.length : Int), ((0 : Nat) : Int)) = some x := by
    refine loop_total f.Blocks.length (m_lockstepref04_Small_L3 f) (fun n i hi => ?_) (fun n => ?_) f.Blocks.length 0 _ (Nat.zero_add _)
    · have hmem := getD_mem (d := (default : TBlock)) hi
      obtain ⟨b1, b2, _⟩ := hf.block _ hmem
      have hI : InB (i : Int) f.Blocks.length := inB_nat hi
      unfold m_lockstepref04_Small_L3
      cases hc : (bif decide ((i : Int) < (f.Blocks.length : Int)) then decide (n ≤ 20000) else false) with
      | false => right; simp only [hc, cond_false]; exact ⟨_, rfl⟩
      | true =>
        left
        simp only [hc, cond_true, chk_pos' hI]
        obtain ⟨x1, h1⟩ := loop_total (f.Blocks.getD i default).Phis.length (m_lockstepref04_Small_L1 f i) (fun n j hj => by
            unfold m_lockstepref04_Small_L1
            simp only [chk_pos' hI, Int.toNat_natCast]
            cases hc : (bif decide ((j : Int) < ((f.Blocks.getD i default).Phis.length : Int)) then decide (n ≤ 20000) else false) with
            | false => right; exact ⟨_, rfl⟩
            | true => left; simp only [cond_true, chk_pos' (inB_nat hj), w64_suc' hj b1]; exact ⟨_, rfl⟩) (fun n => by
            unfold m_lockstepref04_Small_L1
            simp only [chk_pos' hI, Int.toNat_natCast]
            have : decide (((f.Blocks.getD i default).Phis.length : Int) < ((f.Blocks.getD i default).Phis.length : Int)) = false := by simp
            simp only [this, cond_false]; exact ⟨_, rfl⟩) _ 0 (w64 (w64 (n + 1) + ((f.Blocks.getD i default).End.To.length : Int))) (Nat.zero_add _)
        obtain ⟨x2, h2⟩ := loop_total (f.Blocks.getD i default).Ops.length (m_lockstepref04_Small_L2 f i) (fun n j hj => by
            unfold m_lockstepref04_Small_L2
            simp only [chk_pos' hI, Int.toNat_natCast]
            cases hc : (bif decide ((j : Int) < ((f.Blocks.getD i default).Ops.length : Int)) then decide (n ≤ 20000) else false) with
            | false => right; exact ⟨_, rfl⟩
            | true => left; simp only [cond_true, chk_pos' (inB_nat hj), w64_suc' hj b2]; exact ⟨_, rfl⟩) (fun n => by
            unfold m_lockstepref04_Small_L2
            simp only [chk_pos' hI, Int.toNat_natCast]
            have : decide (((f.Blocks.getD i default).Ops.length : Int) < ((f.Blocks.getD i default).Ops.length : Int)) = false := by simp
            simp only [this, cond_false]; exact ⟨_, rfl⟩) _ 0 x1 (Nat.zero_add _)
        rw [show ((0 : Nat) : Int) = 0 from rfl] at h1 h2
        simp only [Int.toNat_natCast, h1, h2, Option.bind_some, w64_suc' hi hf.blocks]
        exact ⟨_, rfl⟩
    · unfold m_lockstepref04_Small_L3
      have : decide ((f.Blocks.length : Int) < (f.Blocks.length : Int)) = false := by simp
      simp only [this, cond_false]; exact ⟨_, rfl⟩
  obtain ⟨x, hx⟩ := h3
  unfold m_lockstepref04_Small
  rw [show ((0 : Nat) : Int) = 0 from rfl] at hx
  rw [hx]
  exact ⟨_, rfl⟩

/-- Where lists are short: just if there is not too much. -/
theorem small_eq (f : TFunc) (hf : InF f) (h0 : f.Params.length ≤ 64) (hb : ∀ b ∈ f.Blocks, b.End.To.length ≤ 64 ∧ (∀ p ∈ b.Phis, p.From.length ≤ 64 ∧ p.Args.length ≤ 64) ∧ ∀ o ∈ b.Ops, o.Args.length ≤ 64) : m_lockstepref04_Small f = some (decide (entF f ≤ 20000)) := by
  have h3 := loop_sum f.Blocks (default : TBlock) entB 20000 (m_lockstepref04_Small_L3 f) (fun n i hi hn => by
      have hmem := getD_mem (d := (default : TBlock)) hi
      obtain ⟨b1, b2, b3⟩ := hf.block _ hmem
      obtain ⟨hTo, hPh, hOp⟩ := hb _ hmem
      have hI1 : InB (i : Int) f.Blocks.length := inB_nat hi
      have l1 := loop_sum (f.Blocks.getD i default).Phis (default : TPhi) entP 20000 (m_lockstepref04_Small_L1 f i) (fun n j hj hn => by
          have hm := getD_mem (d := (default : TPhi)) hj
          obtain ⟨p1, p2⟩ := hPh _ hm
          have e1 : decide ((j : Int) < ((f.Blocks.getD i default).Phis.length : Int)) = true := by simpa using hj
          have e2 : decide ((n : Int) ≤ 20000) = true := by simp; omega
          refine ⟨n + entP ((f.Blocks.getD i default).Phis.getD j default), ?_, fun _ => rfl, fun h => h⟩
          unfold m_lockstepref04_Small_L1
          simp only [chk_pos' hI1, Int.toNat_natCast, e1, e2, cond_true, chk_pos' (inB_nat hj), w64_suc' hj b1]
          congr 3
          rw [w64_of (n := (n : Int) + 1) (by omega) (by omega), w64_of (n := (n : Int) + 1 + _) (by omega) (by omega), w64_of (by omega) (by omega)]
          simp only [entP]
          omega) (fun n j hj hd => by
          unfold m_lockstepref04_Small_L1
          simp only [chk_pos' hI1, Int.toNat_natCast]
          have : (bif decide ((j : Int) < ((f.Blocks.getD i default).Phis.length : Int)) then decide ((n : Int) ≤ 20000) else false) = false := by
            rcases hd with rfl | h
            · simp
            · simp; omega
          rw [this]; rfl)
      have l2 := loop_sum (f.Blocks.getD i default).Ops (default : TOp) entO 20000 (m_lockstepref04_Small_L2 f i) (fun n j hj hn => by
          have hm := getD_mem (d := (default : TOp)) hj
          have p1 := hOp _ hm
          have e1 : decide ((j : Int) < ((f.Blocks.getD i default).Ops.length : Int)) = true := by simpa using hj
          have e2 : decide ((n : Int) ≤ 20000) = true := by simp; omega
          refine ⟨n + entO ((f.Blocks.getD i default).Ops.getD j default), ?_, fun _ => rfl, fun h => h⟩
          unfold m_lockstepref04_Small_L2
          simp only [chk_pos' hI1, Int.toNat_natCast, e1, e2, cond_true, chk_pos' (inB_nat hj), w64_suc' hj b2]
          congr 3
          rw [w64_of (n := (n : Int) + 1) (by omega) (by omega), w64_of (by omega) (by omega)]
          simp only [entO]
          omega) (fun n j hj hd => by
          unfold m_lockstepref04_Small_L2
          simp only [chk_pos' hI1, Int.toNat_natCast]
          have : (bif decide ((j : Int) < ((f.Blocks.getD i default).Ops.length : Int)) then decide ((n : Int) ≤ 20000) else false) = false := by
            rcases hd with rfl | h
            · simp
            · simp; omega
          rw [this]; rfl)
      have e1 : decide ((i : Int) < (f.Blocks.length : Int)) = true := by simpa using hi
      have e2 : decide ((n : Int) ≤ 20000) = true := by simp; omega
      obtain ⟨m1, q1, q2, q3⟩ := l1 _ 0 (n + 1 + (f.Blocks.getD i default).End.To.length) (Nat.zero_add _)
      obtain ⟨m2, q4, q5, q6⟩ := l2 _ 0 m1 (Nat.zero_add _)
      rw [List.drop_zero] at q2 q3 q5 q6
      refine ⟨m2, ?_, fun hle => ?_, fun hle => ?_⟩
      · unfold m_lockstepref04_Small_L3
        simp only [e1, e2, cond_true, chk_pos' hI1, Int.toNat_natCast, w64_suc' hi hf.blocks]
        rw [w64_of (n := (n : Int) + 1) (by omega) (by omega), w64_of (by omega) (by omega), show (n : Int) + 1 + ((f.Blocks.getD i default).End.To.length : Int) = ((n + 1 + (f.Blocks.getD i default).End.To.length : Nat) : Int) by omega]
        rw [show ((0 : Nat) : Int) = 0 from rfl] at q1 q4
        rw [q1, Option.bind_some, q4, Option.bind_some]
      · simp only [entB] at hle ⊢
        have := q2 (by omega)
        rw [q5 (by omega)]
        omega
      · simp only [entB]
        have h6 := q6 hle
        have h3 := q3 (by omega)
        have := q2 h3
        omega) (fun n i hi hd => by
      unfold m_lockstepref04_Small_L3
      have : (bif decide ((i : Int) < (f.Blocks.length : Int)) then decide ((n : Int) ≤ 20000) else false) = false := by
        rcases hd with rfl | h
        · simp
        · simp; omega
      simp only [this, cond_false]) f.Blocks.length 0 f.Params.length (Nat.zero_add _)
  obtain ⟨m, h1, h2, h4⟩ := h3
  rw [List.drop_zero] at h2 h4
  unfold m_lockstepref04_Small
  rw [show ((0 : Nat) : Int) = 0 from rfl] at h1
  rw [h1, Option.bind_some]
  congr 1
  apply decide_eq_decide.2
  simp only [entF]
  constructor
  · intro h; exact h4 (by omega)
  · intro h; have := h2 h; omega

/-! ### Whether it may be told -/
theorem rnum_eq (n : Int) : m_lockstepref04_num n = some (numB n) := by unfold m_lockstepref04_num numB; cases decide ((0 : Int) ≤ n) <;> rfl
theorem rlist_eq (l : List Int) (h : l.length ≤ maxLen) : m_lockstepref04_list l = some (listB l) := by
  unfold m_lockstepref04_list
  rw [maxLen_eq] at h
  have hloop := loop_all l (0 : Int) numB (m_lockstepref04_list_L1 l) (.inl ()) (.inr false) (fun i hi hp => by
      unfold m_lockstepref04_list_L1
      have : decide ((i : Int) < (l.length : Int)) = true := by simpa using hi
      simp only [this, cond_true, chk_pos' (inB_nat hi), Int.toNat_natCast, rnum_eq, Option.bind_some, hp, Bool.not_true, cond_false, w64_succ hi (by omega)]) (fun i hi hp => by
      unfold m_lockstepref04_list_L1
      have : decide ((i : Int) < (l.length : Int)) = true := by simpa using hi
      simp only [this, cond_true, chk_pos' (inB_nat hi), Int.toNat_natCast, rnum_eq, Option.bind_some, hp, Bool.not_false]) (by
      unfold m_lockstepref04_list_L1
      simp) l.length 0 (by omega)
  rw [show (0 : Int) = ((0 : Nat) : Int) from rfl, hloop, List.drop_zero]
  unfold listB
  have e : decide ((l.length : Int) ≤ 64) = decide (l.length ≤ 64) := by apply decide_eq_decide.2; omega
  cases l.all numB
  · rfl
  · simp [e]
theorem rsize_eq (f : TFunc) (hf : InF f) : m_lockstepref04_Size f = some (sizeW f) := by
  unfold m_lockstepref04_Size
  have hl := loop_addw f.Blocks (default : TBlock) sizeB id (m_lockstepref04_Size_L1 f) (fun n i hi => by
      have e1 : decide ((i : Int) < (f.Blocks.length : Int)) = true := by simpa using hi
      unfold m_lockstepref04_Size_L1
      simp only [e1, cond_true, chk_pos' (inB_nat hi), Int.toNat_natCast, w64_suc' hi hf.blocks]
      congr 3
      rw [w64_add, w64_add, Int.add_assoc (w64 _), w64_add]
      unfold sizeB
      congr 1
      omega) (fun n => by
      unfold m_lockstepref04_Size_L1
      simp) f.Blocks.length 0 0 (Nat.zero_add _)
  rw [List.drop_zero] at hl
  rw [show w64 ((0 : Nat) : Int) = 0 from rfl, show ((0 : Nat) : Int) = 0 from rfl] at hl
  rw [hl]
  simp [sizeN, sizeW]

theorem bif_chain {p q : Bool} : (bif p then true else q) = (p || q) := by cases p <;> rfl
theorem rmay_eq (f : TFunc) (hf : InF f) : m_lockstepref04_May f = some (mayF f) := by
  have hloop : loopO (m_lockstepref04_May_L3 f) ((0 : Nat) : Int) = some (bif (f.Blocks.drop 0).all blockB then .inl () else .inr false) := by
    have step : ∀ i : Nat, i < f.Blocks.length → m_lockstepref04_May_L3 f (i : Int) = bif blockB (f.Blocks.getD i default) then some (.next ((i : Int) + 1)) else some (.done (.inr false)) := fun i hi => by
      have hmem := getD_mem (d := (default : TBlock)) hi
      obtain ⟨b1, b2, b3⟩ := hf.block _ hmem
      have hPh := hf.phi _ hmem
      have hOp := hf.op _ hmem
      have hM := maxLen_eq
      have e0 : decide ((i : Int) < (f.Blocks.length : Int)) = true := by simpa using hi
      have l1 := loop_all (f.Blocks.getD i default).Phis (default : TPhi) phiB (m_lockstepref04_May_L1 f i) (.inl ()) (.inr false) (fun j hj hp => by
          obtain ⟨p1, p2⟩ := hPh _ (getD_mem (d := (default : TPhi)) hj)
          have e1 : decide ((j : Int) < ((f.Blocks.getD i default).Phis.length : Int)) = true := by simpa using hj
          unfold m_lockstepref04_May_L1
          simp only [e1, cond_true, Int.toNat_natCast, chk_pos' (inB_nat hj), rnum_eq, Option.bind_some, rlist_eq _ p1, rlist_eq _ p2, w64_succ hj (by omega)]
          revert hp
          unfold phiB
          cases numB ((f.Blocks.getD i default).Phis.getD j default).Bits <;> cases numB ((f.Blocks.getD i default).Phis.getD j default).Dst <;> cases listB ((f.Blocks.getD i default).Phis.getD j default).From <;> cases listB ((f.Blocks.getD i default).Phis.getD j default).Args <;> simp) (fun j hj hp => by
          obtain ⟨p1, p2⟩ := hPh _ (getD_mem (d := (default : TPhi)) hj)
          have e1 : decide ((j : Int) < ((f.Blocks.getD i default).Phis.length : Int)) = true := by simpa using hj
          unfold m_lockstepref04_May_L1
          simp only [e1, cond_true, Int.toNat_natCast, chk_pos' (inB_nat hj), rnum_eq, Option.bind_some, rlist_eq _ p1, rlist_eq _ p2, w64_succ hj (by omega)]
          revert hp
          unfold phiB
          cases numB ((f.Blocks.getD i default).Phis.getD j default).Bits <;> cases numB ((f.Blocks.getD i default).Phis.getD j default).Dst <;> cases listB ((f.Blocks.getD i default).Phis.getD j default).From <;> cases listB ((f.Blocks.getD i default).Phis.getD j default).Args <;> simp) (by
          unfold m_lockstepref04_May_L1
          simp) _ 0 (Nat.zero_add _)
      have l2 := loop_all (f.Blocks.getD i default).Ops (default : TOp) opB (m_lockstepref04_May_L2 f i) (.inl ()) (.inr false) (fun j hj hp => by
          obtain ⟨p1, _⟩ := hOp _ (getD_mem (d := (default : TOp)) hj)
          have e1 : decide ((j : Int) < ((f.Blocks.getD i default).Ops.length : Int)) = true := by simpa using hj
          unfold m_lockstepref04_May_L2
          simp only [e1, cond_true, Int.toNat_natCast, chk_pos' (inB_nat hj), rnum_eq, Option.bind_some, rlist_eq _ p1, w64_succ hj (by omega)]
          revert hp
          unfold opB
          cases numB ((f.Blocks.getD i default).Ops.getD j default).Kind <;> cases numB ((f.Blocks.getD i default).Ops.getD j default).Bits <;> cases numB ((f.Blocks.getD i default).Ops.getD j default).Lanes <;> cases numB ((f.Blocks.getD i default).Ops.getD j default).Dst <;> cases listB ((f.Blocks.getD i default).Ops.getD j default).Args <;> simp) (fun j hj hp => by
          obtain ⟨p1, _⟩ := hOp _ (getD_mem (d := (default : TOp)) hj)
          have e1 : decide ((j : Int) < ((f.Blocks.getD i default).Ops.length : Int)) = true := by simpa using hj
          unfold m_lockstepref04_May_L2
          simp only [e1, cond_true, Int.toNat_natCast, chk_pos' (inB_nat hj), rnum_eq, Option.bind_some, rlist_eq _ p1, w64_succ hj (by omega)]
          revert hp
          unfold opB
          cases numB ((f.Blocks.getD i default).Ops.getD j default).Kind <;> cases numB ((f.Blocks.getD i default).Ops.getD j default).Bits <;> cases numB ((f.Blocks.getD i default).Ops.getD j default).Lanes <;> cases numB ((f.Blocks.getD i default).Ops.getD j default).Dst <;> cases listB ((f.Blocks.getD i default).Ops.getD j default).Args <;> simp) (by
          unfold m_lockstepref04_May_L2
          simp) _ 0 (Nat.zero_add _)
      rw [show ((0 : Nat) : Int) = 0 from rfl, List.drop_zero] at l1 l2
      unfold m_lockstepref04_May_L3
      simp only [e0, cond_true, chk_pos' (inB_nat hi), l1, Option.bind_some]
      unfold blockB
      cases (f.Blocks.getD i default).Phis.all phiB with
      | false => rfl
      | true =>
        simp only [cond_true, l2, Option.bind_some, Int.toNat_natCast, rnum_eq, rlist_eq _ b3, w64_succ hi (by have := hf.blocks; omega)]
        cases (f.Blocks.getD i default).Ops.all opB with
        | false => rfl
        | true =>
          unfold endB
          cases numB (f.Blocks.getD i default).End.Kind <;> cases numB (f.Blocks.getD i default).End.Arg <;> cases listB (f.Blocks.getD i default).End.To <;> rfl
    exact loop_all f.Blocks (default : TBlock) blockB (m_lockstepref04_May_L3 f) (.inl ()) (.inr false) (fun i hi hp => by rw [step i hi, hp]; rfl) (fun i hi hp => by rw [step i hi, hp]; rfl) (by
      unfold m_lockstepref04_May_L3
      simp) _ 0 (Nat.zero_add _)
  rw [show ((0 : Nat) : Int) = 0 from rfl, List.drop_zero] at hloop
  unfold m_lockstepref04_May mayF
  simp only [rlist_eq _ hf.params, rnum_eq, rsize_eq f hf, hloop]
  have e1 : ((f.Blocks.length : Int) == 0) = !decide (1 ≤ f.Blocks.length) := by
    rw [← decide_not]
    by_cases h : f.Blocks.length = 0
    · simp [h]
    · have h1 : ((f.Blocks.length : Int) == 0) = false := by simpa using h
      rw [h1]; symm; apply decide_eq_false; omega
  have e2 : decide ((64 : Int) < (f.Blocks.length : Int)) = !decide (f.Blocks.length ≤ 64) := by rw [← decide_not]; apply decide_eq_decide.2; omega
  have e3 : decide ((16 : Int) < (f.Params.length : Int)) = !decide (f.Params.length ≤ 16) := by rw [← decide_not]; apply decide_eq_decide.2; omega
  have e4 : decide ((512 : Int) < sizeW f) = !decide (sizeW f ≤ 512) := by rw [← decide_not]; apply decide_eq_decide.2; omega
  rw [e1, e2, e3]
  generalize decide (1 ≤ f.Blocks.length) = p1
  generalize decide (f.Blocks.length ≤ 64) = p2
  generalize decide (f.Params.length ≤ 16) = p3
  generalize listB f.Params = p4
  generalize numB f.Ret = p5
  cases p1 with
  | false => simp
  | true => cases p2 with
    | false => simp
    | true => cases p3 with
      | false => simp
      | true => cases p4 with
        | false => simp
        | true => cases p5 with
          | false => simp
          | true =>
            simp only [Bool.not_true, Bool.or_self, cond_true, cond_false, beq_self_eq_true, Option.bind_some, e4]
            cases decide (sizeW f ≤ 512) with
            | false => simp
            | true => cases f.Blocks.all blockB <;> simp
end Go.Proofs.Ytmlldiinidkecaa
