/-
  The machine, the program's functions and the laws' arithmetic: part 6 of 7.
-/
import Derived.Test.YtcddajbcbkbipaaDoorPk5
import Derived.FnData
import Derived.LaidMore
import Derived.MakeChecks
import Derived.OpenShut
import Derived.Test.YtcddajbcbkbipaaDoorRows
namespace Go.Proofs.YtcddajbcbkbipaaDoor
open Go Go.RowKit
set_option linter.unusedVariables false
set_option linter.unusedSimpArgs false

def numB (n : Int) : Bool := decide (0 ≤ n) && decide (n ≤ 2147483647)
def listB (l : List Int) : Bool := l.all numB && decide (l.length ≤ 64)
def phiB (p : TPhi) : Bool := numB p.Bits && numB p.Dst && listB p.From && listB p.Args
def opB (o : TOp) : Bool := numB o.Kind && numB o.Bits && numB o.Lanes && numB o.Dst && listB o.Args
def endB (e : TEnd) : Bool := numB e.Kind && numB e.Arg && listB e.To
def blockB (b : TBlock) : Bool := b.Phis.all phiB && b.Ops.all opB && endB b.End
def sizeB (b : TBlock) : Nat := b.Phis.length + b.Ops.length + 1
/-- How many there are; as a word. -/
def sizeN (f : TFunc) : Nat := (f.Blocks.map sizeB).sum
def sizeW (f : TFunc) : Int := w64 (sizeN f)
def mayF (f : TFunc) : Bool := decide (1 ≤ f.Blocks.length) && decide (f.Blocks.length ≤ 64) && decide (f.Params.length ≤ 16) && listB f.Params && numB f.Ret && decide (sizeW f ≤ 512) && f.Blocks.all blockB
def entP (p : TPhi) : Nat := 1 + p.From.length + p.Args.length
def entO (o : TOp) : Nat := 1 + o.Args.length
def entB (b : TBlock) : Nat := 1 + b.End.To.length + (b.Phis.map entP).sum + (b.Ops.map entO).sum
def entF (f : TFunc) : Nat := f.Params.length + (f.Blocks.map entB).sum

theorem maxLen_eq : maxLen = 9223372036854775807 := rfl
/-- What comes in: lengths that there are; Imm a word. -/
structure InF (f : TFunc) : Prop where
  params : f.Params.length ≤ maxLen
  blocks : f.Blocks.length ≤ maxLen
  block : ∀ b ∈ f.Blocks, b.Phis.length ≤ maxLen ∧ b.Ops.length ≤ maxLen ∧ b.End.To.length ≤ maxLen
  phi : ∀ b ∈ f.Blocks, ∀ p ∈ b.Phis, p.From.length ≤ maxLen ∧ p.Args.length ≤ maxLen
  op : ∀ b ∈ f.Blocks, ∀ o ∈ b.Ops, o.Args.length ≤ maxLen ∧ 0 ≤ o.Imm ∧ o.Imm < 18446744073709551616
theorem inF {f : TFunc} (h : okTFunc f) : InF f :=
  ⟨h.1.2, h.2.2.1.2, fun b hb => ⟨(h.2.2.1.1 b hb).1.2, (h.2.2.1.1 b hb).2.1.2, (h.2.2.1.1 b hb).2.2.1.2.2.1.2⟩, fun b hb p hp => ⟨((h.2.2.1.1 b hb).1.1 p hp).2.2.1.2, ((h.2.2.1.1 b hb).1.1 p hp).2.2.2.1.2⟩,
    fun b hb o ho => ⟨((h.2.2.1.1 b hb).2.1.1 o ho).2.2.2.2.1.2, wf_u64 ((h.2.2.1.1 b hb).2.1.1 o ho).2.2.2.2.2.1⟩⟩

theorem w64_nat {n : Nat} (h : n < 9223372036854775808) : w64 (n : Int) = n := w64_of (by omega) (by omega)
theorem w64_suc' {i n : Nat} (h : i < n) (hn : n ≤ maxLen) : w64 ((i : Int) + 1) = ((i + 1 : Nat) : Int) := by rw [maxLen_eq] at hn; rw [show ((i : Int) + 1) = ((i + 1 : Nat) : Int) by omega, w64_nat (by omega)]

/-! ### How much there is -/
/-- Of whatever size: it is told. -/
theorem small_some (f : TFunc) (hf : InF f) : ∃ b, m_lockstepref04_Small f = some b := by
  have h3 : ∃ x, loopO (m_lockstepref04_Small_L3 f) ((f.Params.length : Int), ((0 : Nat) : Int)) = some x := by
    refine loop_total f.Blocks.length (m_lockstepref04_Small_L3 f) (fun n i hi => ?_) (fun n => ?_) f.Blocks.length 0 _ (Nat.zero_add _)
    · have hmem := getD_mem (d := (default : TBlock)) hi
      obtain ⟨b1, b2, _⟩ := hf.block _ hmem
      have hI : InB (i : Int) f.Blocks.length := inB_nat hi
      unfold m_lockstepref04_Small_L3
      cases hc : (bif decide ((i : Int) < (f.Blocks.length : Int)) then decide (n ≤ 20000) else false) with
      | false => right; simp only [hc, cond_false]; exact ⟨_, rfl⟩
      | true =>
        left
        simp only [hc, cond_true, chk_pos' hI]
        obtain ⟨x1, h1⟩ := loop_total (f.Blocks.getD i default).Phis.length (m_lockstepref04_Small_L1 f i) (fun n j hj => by
            unfold m_lockstepref04_Small_L1
            simp only [chk_pos' hI, Int.toNat_natCast]
            cases hc : (bif decide ((j : Int) < ((f.Blocks.getD i default).Phis.length : Int)) then decide (n ≤ 20000) else false) with
            | false => right; exact ⟨_, rfl⟩
            | true => left; simp only [cond_true, chk_pos' (inB_nat hj), w64_suc' hj b1]; exact ⟨_, rfl⟩) (fun n => by
            unfold m_lockstepref04_Small_L1
            simp only [chk_pos' hI, Int.toNat_natCast]
            have : decide (((f.Blocks.getD i default).Phis.length : Int) < ((f.Blocks.getD i default).Phis.length : Int)) = false := by simp
            simp only [this, cond_false]; exact ⟨_, rfl⟩) _ 0 (w64 (w64 (n + 1) + ((f.Blocks.getD i default).End.To.length : Int))) (Nat.zero_add _)
        obtain ⟨x2, h2⟩ := loop_total (f.Blocks.getD i default).Ops.length (m_lockstepref04_Small_L2 f i) (fun n j hj => by
            unfold m_lockstepref04_Small_L2
            simp only [chk_pos' hI, Int.toNat_natCast]
            cases hc : (bif decide ((j : Int) < ((f.Blocks.getD i default).Ops.length : Int)) then decide (n ≤ 20000) else false) with
            | false => right; exact ⟨_, rfl⟩
            | true => left; simp only [cond_true, chk_pos' (inB_nat hj), w64_suc' hj b2]; exact ⟨_, rfl⟩) (fun n => by
            unfold m_lockstepref04_Small_L2
            simp only [chk_pos' hI, Int.toNat_natCast]
            have : decide (((f.Blocks.getD i default).Ops.length : Int) < ((f.Blocks.getD i default).Ops.length : Int)) = false := by simp
            simp only [this, cond_false]; exact ⟨_, rfl⟩) _ 0 x1 (Nat.zero_add _)
        rw [show ((0 : Nat) : Int) = 0 from rfl] at h1 h2
        simp only [Int.toNat_natCast, h1, h2, Option.bind_some, w64_suc' hi hf.blocks]
        exact ⟨_, rfl⟩
    · unfold m_lockstepref04_Small_L3
      have : decide ((f.Blocks.length : Int) < (f.Blocks.length : Int)) = false := by simp
      simp only [this, cond_false]; exact ⟨_, rfl⟩
  obtain ⟨x, hx⟩ := h3
  unfold m_lockstepref04_Small
  rw [show ((0 : Nat) : Int) = 0 from rfl] at hx
  rw [hx]
  exact ⟨_, rfl⟩

/-- Where lists are short: just if there is not too much. -/
theorem small_eq (f : TFunc) (hf : InF f) (h0 : f.Params.length ≤ 64) (hb : ∀ b ∈ f.Blocks, b.End.To.length ≤ 64 ∧ (∀ p ∈ b.Phis, p.From.length ≤ 64 ∧ p.Args.length ≤ 64) ∧ ∀ o ∈ b.Ops, o.Args.length ≤ 64) : m_lockstepref04_Small f = some (decide (entF f ≤ 20000)) := by
  have h3 := loop_sum f.Blocks (default : TBlock) entB 20000 (m_lockstepref04_Small_L3 f) (fun n i hi hn => by
      have hmem := getD_mem (d := (default : TBlock)) hi
      obtain ⟨b1, b2, b3⟩ := hf.block _ hmem
      obtain ⟨hTo, hPh, hOp⟩ := hb _ hmem
      have hI1 : InB (i : Int) f.Blocks.length := inB_nat hi
      have l1 := loop_sum (f.Blocks.getD i default).Phis (default : TPhi) entP 20000 (m_lockstepref04_Small_L1 f i) (fun n j hj hn => by
          have hm := getD_mem (d := (default : TPhi)) hj
          obtain ⟨p1, p2⟩ := hPh _ hm
          have e1 : decide ((j : Int) < ((f.Blocks.getD i default).Phis.length : Int)) = true := by simpa using hj
          have e2 : decide ((n : Int) ≤ 20000) = true := by simp; omega
          refine ⟨n + entP ((f.Blocks.getD i default).Phis.getD j default), ?_, fun _ => rfl, fun h => h⟩
          unfold m_lockstepref04_Small_L1
          simp only [chk_pos' hI1, Int.toNat_natCast, e1, e2, cond_true, chk_pos' (inB_nat hj), w64_suc' hj b1]
          congr 3
          rw [w64_of (n := (n : Int) + 1) (by omega) (by omega), w64_of (n := (n : Int) + 1 + _) (by omega) (by omega), w64_of (by omega) (by omega)]
          simp only [entP]
          omega) (fun n j hj hd => by
          unfold m_lockstepref04_Small_L1
          simp only [chk_pos' hI1, Int.toNat_natCast]
          have : (bif decide ((j : Int) < ((f.Blocks.getD i default).Phis.length : Int)) then decide ((n : Int) ≤ 20000) else false) = false := by
            rcases hd with rfl | h
            · simp
            · simp; omega
          rw [this]; rfl)
      have l2 := loop_sum (f.Blocks.getD i default).Ops (default : TOp) entO 20000 (m_lockstepref04_Small_L2 f i) (fun n j hj hn => by
          have hm := getD_mem (d := (default : TOp)) hj
          have p1 := hOp _ hm
          have e1 : decide ((j : Int) < ((f.Blocks.getD i default).Ops.length : Int)) = true := by simpa using hj
          have e2 : decide ((n : Int) ≤ 20000) = true := by simp; omega
          refine ⟨n + entO ((f.Blocks.getD i default).Ops.getD j default), ?_, fun _ => rfl, fun h => h⟩
          unfold m_lockstepref04_Small_L2
          simp only [chk_pos' hI1, Int.toNat_natCast, e1, e2, cond_true, chk_pos' (inB_nat hj), w64_suc' hj b2]
          congr 3
          rw [w64_of (n := (n : Int) + 1) (by omega) (by omega), w64_of (by omega) (by omega)]
          simp only [entO]
          omega) (fun n j hj hd => by
          unfold m_lockstepref04_Small_L2
          simp only [chk_pos' hI1, Int.toNat_natCast]
          have : (bif decide ((j : Int) < ((f.Blocks.getD i default).Ops.length : Int)) then decide ((n : Int) ≤ 20000) else false) = false := by
            rcases hd with rfl | h
            · simp
            · simp; omega
          rw [this]; rfl)
      have e1 : decide ((i : Int) < (f.Blocks.length : Int)) = true := by simpa using hi
      have e2 : decide ((n : Int) ≤ 20000) = true := by simp; omega
      obtain ⟨m1, q1, q2, q3⟩ := l1 _ 0 (n + 1 + (f.Blocks.getD i default).End.To.length) (Nat.zero_add _)
      obtain ⟨m2, q4, q5, q6⟩ := l2 _ 0 m1 (Nat.zero_add _)
      rw [List.drop_zero] at q2 q3 q5 q6
      refine ⟨m2, ?_, fun hle => ?_, fun hle => ?_⟩
      · unfold m_lockstepref04_Small_L3
        simp only [e1, e2, cond_true, chk_pos' hI1, Int.toNat_natCast, w64_suc' hi hf.blocks]
        rw [w64_of (n := (n : Int) + 1) (by omega) (by omega), w64_of (by omega) (by omega), show (n : Int) + 1 + ((f.Blocks.getD i default).End.To.length : Int) = ((n + 1 + (f.Blocks.getD i default).End.To.length : Nat) : Int) by omega]
        rw [show ((0 : Nat) : Int) = 0 from rfl] at q1 q4
        rw [q1, Option.bind_some, q4, Option.bind_some]
      · simp only [entB] at hle ⊢
        have := q2 (by omega)
        rw [q5 (by omega)]
        omega
      · simp only [entB]
        have h6 := q6 hle
        have h3 := q3 (by omega)
        have := q2 h3
        omega) (fun n i hi hd => by
      unfold m_lockstepref04_Small_L3
      have : (bif decide ((i : Int) < (f.Blocks.length : Int)) then decide ((n : Int) ≤ 20000) else false) = false := by
        rcases hd with rfl | h
        · simp
        · simp; omega
      simp only [this, cond_false]) f.Blocks.length 0 f.Params.length (Nat.zero_add _)
  obtain ⟨m, h1, h2, h4⟩ := h3
  rw [List.drop_zero] at h2 h4
  unfold m_lockstepref04_Small
  rw [show ((0 : Nat) : Int) = 0 from rfl] at h1
  rw [h1, Option.bind_some]
  congr 1
  apply decide_eq_decide.2
  simp only [entF]
  constructor
  · intro h; exact h4 (by omega)
  · intro h; have := h2 h; omega

/-! ### Whether it may be told -/
theorem rnum_eq (n : Int) : m_lockstepref04_num n = some (numB n) := by unfold m_lockstepref04_num numB; cases decide ((0 : Int) ≤ n) <;> rfl
theorem rlist_eq (l : List Int) (h : l.length ≤ maxLen) : m_lockstepref04_list l = some (listB l) := by
  unfold m_lockstepref04_list
  rw [maxLen_eq] at h
  have hloop := loop_all l (0 : Int) numB (m_lockstepref04_list_L1 l) (.inl ()) (.inr false) (fun i hi hp => by
      unfold m_lockstepref04_list_L1
      have : decide ((i : Int) < (l.length : Int)) = true := by simpa using hi
      simp only [this, cond_true, chk_pos' (inB_nat hi), Int.toNat_natCast, rnum_eq, Option.bind_some, hp, Bool.not_true, cond_false, w64_succ hi (by omega)]) (fun i hi hp => by
      unfold m_lockstepref04_list_L1
      have : decide ((i : Int) < (l.length : Int)) = true := by simpa using hi
      simp only [this, cond_true, chk_pos' (inB_nat hi), Int.toNat_natCast, rnum_eq, Option.bind_some, hp, Bool.not_false]) (by
      unfold m_lockstepref04_list_L1
      simp) l.length 0 (by omega)
  rw [show (0 : Int) = ((0 : Nat) : Int) from rfl, hloop, List.drop_zero]
  unfold listB
  have e : decide ((l.length : Int) ≤ 64) = decide (l.length ≤ 64) := by apply decide_eq_decide.2; omega
  cases l.all numB
  · rfl
  · simp [e]
theorem rsize_eq (f : TFunc) (hf : InF f) : m_lockstepref04_Size f = some (sizeW f) := by
  unfold m_lockstepref04_Size
  have hl := loop_addw f.Blocks (default : TBlock) sizeB id (m_lockstepref04_Size_L1 f) (fun n i hi => by
      have e1 : decide ((i : Int) < (f.Blocks.length : Int)) = true := by simpa using hi
      unfold m_lockstepref04_Size_L1
      simp only [e1, cond_true, chk_pos' (inB_nat hi), Int.toNat_natCast, w64_suc' hi hf.blocks]
      congr 3
      rw [w64_add, w64_add, Int.add_assoc (w64 _), w64_add]
      unfold sizeB
      congr 1
      omega) (fun n => by
      unfold m_lockstepref04_Size_L1
      simp) f.Blocks.length 0 0 (Nat.zero_add _)
  rw [List.drop_zero] at hl
  rw [show w64 ((0 : Nat) : Int) = 0 from rfl, show ((0 : Nat) : Int) = 0 from rfl] at hl
  rw [hl]
  simp [sizeN, sizeW]

theorem bif_chain {p q : Bool} : (bif p then true else q) = (p || q) := by cases p <;> rfl
theorem rmay_eq (f : TFunc) (hf : InF f) : m_lockstepref04_May f = some (mayF f) := by
  have hloop : loopO (m_lockstepref04_May_L3 f) ((0 : Nat) : Int) = some (bif (f.Blocks.drop 0).all blockB then .inl () else .inr false) := by
    have step : ∀ i : Nat, i < f.Blocks.length → m_lockstepref04_May_L3 f (i : Int) = bif blockB (f.Blocks.getD i default) then some (.next ((i : Int) + 1)) else some (.done (.inr false)) := fun i hi => by
      have hmem := getD_mem (d := (default : TBlock)) hi
      obtain ⟨b1, b2, b3⟩ := hf.block _ hmem
      have hPh := hf.phi _ hmem
      have hOp := hf.op _ hmem
      have hM := maxLen_eq
      have e0 : decide ((i : Int) < (f.Blocks.length : Int)) = true := by simpa using hi
      have l1 := loop_all (f.Blocks.getD i default).Phis (default : TPhi) phiB (m_lockstepref04_May_L1 f i) (.inl ()) (.inr false) (fun j hj hp => by
          obtain ⟨p1, p2⟩ := hPh _ (getD_mem (d := (default : TPhi)) hj)
          have e1 : decide ((j : Int) < ((f.Blocks.getD i default).Phis.length : Int)) = true := by simpa using hj
          unfold m_lockstepref04_May_L1
          simp only [e1, cond_true, Int.toNat_natCast, chk_pos' (inB_nat hj), rnum_eq, Option.bind_some, rlist_eq _ p1, rlist_eq _ p2, w64_succ hj (by omega)]
          revert hp
          unfold phiB
          cases numB ((f.Blocks.getD i default).Phis.getD j default).Bits <;> cases numB ((f.Blocks.getD i default).Phis.getD j default).Dst <;> cases listB ((f.Blocks.getD i default).Phis.getD j default).From <;> cases listB ((f.Blocks.getD i default).Phis.getD j default).Args <;> simp) (fun j hj hp => by
          obtain ⟨p1, p2⟩ := hPh _ (getD_mem (d := (default : TPhi)) hj)
          have e1 : decide ((j : Int) < ((f.Blocks.getD i default).Phis.length : Int)) = true := by simpa using hj
          unfold m_lockstepref04_May_L1
          simp only [e1, cond_true, Int.toNat_natCast, chk_pos' (inB_nat hj), rnum_eq, Option.bind_some, rlist_eq _ p1, rlist_eq _ p2, w64_succ hj (by omega)]
          revert hp
          unfold phiB
          cases numB ((f.Blocks.getD i default).Phis.getD j default).Bits <;> cases numB ((f.Blocks.getD i default).Phis.getD j default).Dst <;> cases listB ((f.Blocks.getD i default).Phis.getD j default).From <;> cases listB ((f.Blocks.getD i default).Phis.getD j default).Args <;> simp) (by
          unfold m_lockstepref04_May_L1
          simp) _ 0 (Nat.zero_add _)
      have l2 := loop_all (f.Blocks.getD i default).Ops (default : TOp) opB (m_lockstepref04_May_L2 f i) (.inl ()) (.inr false) (fun j hj hp => by
          obtain ⟨p1, _⟩ := hOp _ (getD_mem (d := (default : TOp)) hj)
          have e1 : decide ((j : Int) < ((f.Blocks.getD i default).Ops.length : Int)) = true := by simpa using hj
          unfold m_lockstepref04_May_L2
          simp only [e1, cond_true, Int.toNat_natCast, chk_pos' (inB_nat hj), rnum_eq, Option.bind_some, rlist_eq _ p1, w64_succ hj (by omega)]
          revert hp
          unfold opB
          cases numB ((f.Blocks.getD i default).Ops.getD j default).Kind <;> cases numB ((f.Blocks.getD i default).Ops.getD j default).Bits <;> cases numB ((f.Blocks.getD i default).Ops.getD j default).Lanes <;> cases numB ((f.Blocks.getD i default).Ops.getD j default).Dst <;> cases listB ((f.Blocks.getD i default).Ops.getD j default).Args <;> simp) (fun j hj hp => by
          obtain ⟨p1, _⟩ := hOp _ (getD_mem (d := (default : TOp)) hj)
          have e1 : decide ((j : Int) < ((f.Blocks.getD i default).Ops.length : Int)) = true := by simpa using hj
          unfold m_lockstepref04_May_L2
          simp only [e1, cond_true, Int.toNat_natCast, chk_pos' (inB_nat hj), rnum_eq, Option.bind_some, rlist_eq _ p1, w64_succ hj (by omega)]
          revert hp
          unfold opB
          cases numB ((f.Blocks.getD i default).Ops.getD j default).Kind <;> cases numB ((f.Blocks.getD i default).Ops.getD j default).Bits <;> cases numB ((f.Blocks.getD i default).Ops.getD j default).Lanes <;> cases numB ((f.Blocks.getD i default).Ops.getD j default).Dst <;> cases listB ((f.Blocks.getD i default).Ops.getD j default).Args <;> simp) (by
          unfold m_lockstepref04_May_L2
          simp) _ 0 (Nat.zero_add _)
      rw [show ((0 : Nat) : Int) = 0 from rfl, List.drop_zero] at l1 l2
      unfold m_lockstepref04_May_L3
      simp only [e0, cond_true, chk_pos' (inB_nat hi), l1, Option.bind_some]
      unfold blockB
      cases (f.Blocks.getD i default).Phis.all phiB with
      | false => rfl
      | true =>
        simp only [cond_true, l2, Option.bind_some, Int.toNat_natCast, rnum_eq, rlist_eq _ b3, w64_succ hi (by have := hf.blocks; omega)]
        cases (f.Blocks.getD i default).Ops.all opB with
        | false => rfl
        | true =>
          unfold endB
          cases numB (f.Blocks.getD i default).End.Kind <;> cases numB (f.Blocks.getD i default).End.Arg <;> cases listB (f.Blocks.getD i default).End.To <;> rfl
    exact loop_all f.Blocks (default : TBlock) blockB (m_lockstepref04_May_L3 f) (.inl ()) (.inr false) (fun i hi hp => by rw [step i hi, hp]; rfl) (fun i hi hp => by rw [step i hi, hp]; rfl) (by
      unfold m_lockstepref04_May_L3
      simp) _ 0 (Nat.zero_add _)
  rw [show ((0 : Nat) : Int) = 0 from rfl, List.drop_zero] at hloop
  unfold m_lockstepref04_May mayF
  simp only [rlist_eq _ hf.params, rnum_eq, rsize_eq f hf, hloop]
  have e1 : ((f.Blocks.length : Int) == 0) = !decide (1 ≤ f.Blocks.length) := by
    rw [← decide_not]
    by_cases h : f.Blocks.length = 0
    · simp [h]
    · have h1 : ((f.Blocks.length : Int) == 0) = false := by simpa using h
      rw [h1]; symm; apply decide_eq_false; omega
  have e2 : decide ((64 : Int) < (f.Blocks.length : Int)) = !decide (f.Blocks.length ≤ 64) := by rw [← decide_not]; apply decide_eq_decide.2; omega
  have e3 : decide ((16 : Int) < (f.Params.length : Int)) = !decide (f.Params.length ≤ 16) := by rw [← decide_not]; apply decide_eq_decide.2; omega
  have e4 : decide ((512 : Int) < sizeW f) = !decide (sizeW f ≤ 512) := by rw [← decide_not]; apply decide_eq_decide.2; omega
  rw [e1, e2, e3]
  generalize decide (1 ≤ f.Blocks.length) = p1
  generalize decide (f.Blocks.length ≤ 64) = p2
  generalize decide (f.Params.length ≤ 16) = p3
  generalize listB f.Params = p4
  generalize numB f.Ret = p5
  cases p1 with
  | false => simp
  | true => cases p2 with
    | false => simp
    | true => cases p3 with
      | false => simp
      | true => cases p4 with
        | false => simp
        | true => cases p5 with
          | false => simp
          | true =>
            simp only [Bool.not_true, Bool.or_self, cond_true, cond_false, beq_self_eq_true, Option.bind_some, e4]
            cases decide (sizeW f ≤ 512) with
            | false => simp
            | true => cases f.Blocks.all blockB <;> simp
end Go.Proofs.YtcddajbcbkbipaaDoor

namespace Go.Proofs.YtcddajbcbkbipaaDoor
open Go Go.RowKit
set_option linter.unusedVariables false
set_option linter.unusedSimpArgs false
theorem numB_iff {n : Int} : numB n = true ↔ 0 ≤ n ∧ n ≤ 2147483647 := by simp [numB]
theorem listB_iff {l : List Int} : listB l = true ↔ good31 l ∧ l.length ≤ 64 := by
  simp [listB, good31, numB_iff]
def wideP (n : Int) : Prop := 0 ≤ n ∧ n < 18446744073709551616
abbrev isNum (n : Int) : Prop := 0 ≤ n ∧ n ≤ 2147483647
abbrev isList (top : Nat) (l : List Int) : Prop := listB l = true ∧ l.length ≤ top

/-- Such a block, such a function, as may be read. -/
structure OkB (b : TBlock) : Prop where
  may : blockB b = true
  phis : b.Phis.length ≤ 512
  ops : b.Ops.length ≤ 512
  imm : ∀ o ∈ b.Ops, wideP o.Imm
structure OkF (f : TFunc) : Prop where
  params : listB f.Params = true
  few : f.Params.length ≤ 16
  ret : numB f.Ret = true
  blocks : f.Blocks.length ≤ 64
  block : ∀ b ∈ f.Blocks, OkB b
theorem blockB_iff {b : TBlock} : blockB b = true ↔ (∀ p ∈ b.Phis, phiB p = true) ∧ (∀ o ∈ b.Ops, opB o = true) ∧ endB b.End = true := by
  simp [blockB, and_assoc]
theorem sum_le {α : Type} (l : List α) (g : α → Nat) (B : Nat) (h : ∀ a ∈ l, g a ≤ B) : (l.map g).sum ≤ l.length * B := by
  induction l with
  | nil => simp
  | cons a l ih =>
    have h1 := h a (by simp)
    have h2 := ih (fun b hb => h b (by simp [hb]))
    rw [List.map_cons, List.sum_cons, List.length_cons, Nat.add_mul]
    omega
theorem sum_mono {α : Type} (l : List α) (g k : α → Nat) (h : ∀ a ∈ l, g a ≤ k a) : (l.map g).sum ≤ (l.map k).sum := by
  induction l with
  | nil => simp
  | cons a l ih =>
    have h1 := h a (by simp)
    have h2 := ih (fun b hb => h b (by simp [hb]))
    rw [List.map_cons, List.sum_cons, List.map_cons, List.sum_cons]
    omega
theorem len_le_sum {α : Type} (l : List α) (g : α → Nat) (h : ∀ a ∈ l, 1 ≤ g a) : l.length ≤ (l.map g).sum := by
  induction l with
  | nil => simp
  | cons a l ih =>
    have h1 := h a (by simp)
    have h2 := ih (fun b hb => h b (by simp [hb]))
    rw [List.map_cons, List.sum_cons, List.length_cons]
    omega
theorem mem_le_sum {α : Type} {l : List α} {a : α} (g : α → Nat) (h : a ∈ l) : g a ≤ (l.map g).sum := by
  induction l with
  | nil => cases h
  | cons b l ih =>
    rw [List.map_cons, List.sum_cons]
    rcases List.mem_cons.1 h with rfl | h
    · omega
    · have := ih h; omega
theorem OkF.size {f : TFunc} (h : OkF f) : sizeN f ≤ 65600 ∧ sizeW f = sizeN f := by
  have : sizeN f ≤ f.Blocks.length * 1025 := sum_le _ _ _ fun b hb => by
    have h1 := (h.block b hb).phis
    have h2 := (h.block b hb).ops
    simp only [sizeB]
    omega
  have h2 := h.blocks
  have h3 : sizeN f ≤ 65600 := by omega
  exact ⟨h3, w64_nat (by omega)⟩
/-- May be told, and no more than is gone through: such as may be read, and few. -/
theorem may_parts {f : TFunc} (h : mayF f = true) : 1 ≤ f.Blocks.length ∧ f.Blocks.length ≤ 64 ∧ f.Params.length ≤ 16 ∧ listB f.Params = true ∧ numB f.Ret = true ∧ sizeW f ≤ 512 ∧ ∀ b ∈ f.Blocks, blockB b = true := by
  simp only [mayF, Bool.and_eq_true, decide_eq_true_eq, List.all_eq_true] at h
  exact ⟨h.1.1.1.1.1.1, h.1.1.1.1.1.2, h.1.1.1.1.2, h.1.1.1.2, h.1.1.2, h.1.2, h.2⟩
theorem may_lists {f : TFunc} (h : mayF f = true) : f.Params.length ≤ 64 ∧ ∀ b ∈ f.Blocks, b.End.To.length ≤ 64 ∧ (∀ p ∈ b.Phis, p.From.length ≤ 64 ∧ p.Args.length ≤ 64) ∧ ∀ o ∈ b.Ops, o.Args.length ≤ 64 := by
  obtain ⟨_, _, h3, _, _, _, h7⟩ := may_parts h
  refine ⟨by omega, fun b hb => ?_⟩
  obtain ⟨q1, q2, q3⟩ := blockB_iff.1 (h7 b hb)
  simp only [endB, Bool.and_eq_true] at q3
  refine ⟨(listB_iff.1 q3.2).2, fun p hp => ?_, fun o ho => ?_⟩
  · have := q1 p hp
    simp only [phiB, Bool.and_eq_true] at this
    exact ⟨(listB_iff.1 this.1.2).2, (listB_iff.1 this.2).2⟩
  · have := q2 o ho
    simp only [opB, Bool.and_eq_true] at this
    exact (listB_iff.1 this.2).2
theorem may_ok {f : TFunc} (hf : InF f) (h : mayF f = true) (hs : entF f ≤ 20000) : OkF f ∧ sizeN f ≤ 512 := by
  obtain ⟨h1, h2, h3, h4, h5, h6, h7⟩ := may_parts h
  have hle : sizeN f ≤ entF f := by
    have : sizeN f ≤ (f.Blocks.map entB).sum := sum_mono _ _ _ fun b hb => by
      have q1 : b.Phis.length ≤ (b.Phis.map entP).sum := len_le_sum _ _ fun p hp => by simp only [entP]; omega
      have q2 : b.Ops.length ≤ (b.Ops.map entO).sum := len_le_sum _ _ fun p hp => by simp only [entO]; omega
      simp only [sizeB, entB]
      omega
    simp only [entF]
    omega
  have hw : sizeW f = sizeN f := w64_nat (by omega)
  have h512 : sizeN f ≤ 512 := by omega
  refine ⟨⟨h4, h3, h5, h2, fun b hb => ?_⟩, h512⟩
  have hb512 : sizeB b ≤ sizeN f := mem_le_sum sizeB hb
  simp only [sizeB] at hb512
  exact ⟨h7 b hb, by omega, by omega, fun o ho => (hf.op b hb o ho).2⟩
theorem ok_may {f : TFunc} (h : OkF f) (h1 : 1 ≤ f.Blocks.length) (hs : sizeN f ≤ 512) : mayF f = true := by
  have hw := h.size.2
  simp only [mayF, Bool.and_eq_true, decide_eq_true_eq, List.all_eq_true]
  exact ⟨⟨⟨⟨⟨⟨h1, h.blocks⟩, h.few⟩, h.params⟩, h.ret⟩, by omega⟩, fun b hb => (h.block b hb).may⟩
theorem numB_wide {n : Int} (h : numB n = true) : wideP n := by have := numB_iff.1 h; exact ⟨this.1, by omega⟩
end Go.Proofs.YtcddajbcbkbipaaDoor

namespace Go.Proofs.YtcddajbcbkbipaaDoor
open Go Go.RowKit
set_option linter.unusedVariables false
set_option linter.unusedSimpArgs false

/-! ### Digits -/
def digN (n : Nat) : List Int := if h : n < 10 then [((48 + n : Nat) : Int)] else digN (n / 10) ++ [((48 + n % 10 : Nat) : Int)]
termination_by n
theorem digN_lt {n : Nat} (h : n < 10) : digN n = [((48 + n : Nat) : Int)] := by rw [digN, dif_pos h]
theorem digN_ge {n : Nat} (h : ¬ n < 10) : digN n = digN (n / 10) ++ [((48 + n % 10 : Nat) : Int)] := by rw [digN, dif_neg h]
theorem digN_last (n : Nat) : digN n = (digN n).dropLast ++ [((48 + n % 10 : Nat) : Int)] := by
  by_cases h : n < 10
  · rw [digN_lt h, Nat.mod_eq_of_lt h]; rfl
  · rw [digN_ge h, List.dropLast_concat]
theorem digN_ne (n : Nat) : digN n ≠ [] := by
  by_cases h : n < 10
  · rw [digN_lt h]; exact List.cons_ne_nil _ _
  · rw [digN_ge h]; simp
theorem digN_len : ∀ (k n : Nat), n < 10 ^ (k + 1) → (digN n).length ≤ k + 1
  | 0, n, h => by rw [digN_lt (by simpa using h)]; simp
  | k + 1, n, h => by
    by_cases h1 : n < 10
    · rw [digN_lt h1]; simp
    · have := digN_len k (n / 10) (by rw [Nat.div_lt_iff_lt_mul (by decide)]; rw [Nat.pow_succ] at h; exact h)
      rw [digN_ge h1, List.length_append]
      simp only [List.length_singleton]
      omega
theorem digN_len20 {n : Nat} (h : n < 2 ^ 64) : (digN n).length ≤ 20 := digN_len 19 n (Nat.lt_of_lt_of_le h (by decide))
/-- A digit. -/
def digB (x : Int) : Prop := 48 ≤ x ∧ x ≤ 57
theorem digN_dig : ∀ (n : Nat), ∀ x ∈ digN n, digB x := by
  intro n
  induction n using Nat.strongRecOn with
  | _ n ih =>
    intro x hx
    by_cases h : n < 10
    · rw [digN_lt h, List.mem_singleton] at hx
      subst hx
      exact ⟨by omega, by omega⟩
    · rw [digN_ge h, List.mem_append, List.mem_singleton] at hx
      rcases hx with hx | rfl
      · exact ih (n / 10) (by omega) x hx
      · exact ⟨by omega, by omega⟩

theorem bytesF_self (l : List Int) : bytesF l.length (fun i => eU8 (l.getD i 0)) = l := by
  unfold bytesF
  apply List.ext_getElem
  · simp
  · intro i h1 h2
    simp [eU8, AV.num, List.getD, h2]
theorem byteF_self {l : List Int} (h : ∀ x ∈ l, 0 ≤ x ∧ x < 256) : ByteF l.length (fun i => eU8 (l.getD i 0)) := fun i hi => by
  refine ⟨by simp [eU8, AV.num], ?_⟩
  have := h _ (getD_mem (d := (0 : Int)) hi)
  simpa [eU8, AV.num] using this
theorem dig_cell {n : Nat} : wu8 (wu64 ((48 : Int) + (Int.tmod (n : Int) (10 : Int)))) = ((48 + n % 10 : Nat) : Int) := by
  have : Int.tmod (n : Int) 10 = ((n % 10 : Nat) : Int) := rfl
  rw [this, wu64_of (by omega) (by omega), wu8_of (by omega) (by omega)]
  omega
theorem one_byte (k : Nat) (h : k < 10) : ∀ x ∈ [((48 + k : Nat) : Int)], 0 ≤ x ∧ x < 256 := fun x hx => by
  obtain rfl := List.mem_singleton.1 hx
  omega
theorem dig_loop : ∀ (n : Nat) (u : List Int), n < 2 ^ 64 → u.length + (digN n).length ≤ 1000 → loopO m_lockstepref05_Digits_L1 ((n : Int), u) = some ((digN n).dropLast ++ u) := by
  intro n
  induction n using Nat.strongRecOn with
  | _ n ih =>
    intro u hn hu
    rw [two64] at hn
    by_cases h : n < 10
    · have e1 : decide ((10 : Int) ≤ (n : Int)) = false := decide_eq_false (by omega)
      rw [loopO_done (x := u) (by unfold m_lockstepref05_Digits_L1; simp only [e1, cond_false]), digN_lt h]
      rfl
    · have e1 : decide ((10 : Int) ≤ (n : Int)) = true := decide_eq_true (by omega)
      have e2 : wu64 (Int.tdiv (n : Int) 10) = ((n / 10 : Nat) : Int) := by
        have : Int.tdiv (n : Int) 10 = ((n / 10 : Nat) : Int) := rfl
        rw [this, wu64_of (by omega) (by omega)]
      have hd : (digN n).dropLast = digN (n / 10) := by rw [digN_ge h, List.dropLast_concat]
      have hlen : (digN n).length = (digN (n / 10)).length + 1 := by rw [digN_ge h]; simp
      have e3 : m_lockstepref05_Digits_L1 ((n : Int), u) = some (.next (((n / 10 : Nat) : Int), [((48 + (n / 10) % 10 : Nat) : Int)] ++ u)) := by
        unfold m_lockstepref05_Digits_L1
        simp only [e1, cond_true, e2, dig_cell]
        rw [chk_pos' (byteF_self (one_byte _ (by omega))), bytesF_self, chk_pos' (by simp only [List.length_singleton]; omega)]
      rw [loopO_next e3, ih (n / 10) (by omega) _ (by rw [two64]; omega) (by simp only [List.length_append, List.length_singleton]; omega), hd]
      conv => rhs; rw [digN_last (n / 10)]
      simp
theorem digits_eq {n : Nat} (hn : n < 2 ^ 64) : m_lockstepref05_Digits (n : Int) = some (digN n) := by
  have h20 := digN_len20 hn
  unfold m_lockstepref05_Digits
  simp only [dig_cell]
  rw [chk_pos' (byteF_self (one_byte _ (by omega))), bytesF_self, dig_loop n _ hn (by simp only [List.length_singleton]; omega), Option.bind_some]
  congr 1
  exact (digN_last n).symm
theorem digits_int {x : Int} (h : wideP x) : m_lockstepref05_Digits x = some (digN x.toNat) := by
  have e : x = (x.toNat : Int) := by have := h.1; omega
  conv => lhs; rw [e]
  exact digits_eq (by rw [two64]; have := h.1; have := h.2; omega)

/-! ### Numbers, lists -/
def dg (x : Int) : List Int := digN x.toNat
def numS (x : Int) : List Int := 32 :: dg x
theorem numS_len (x : Int) : (numS x).length = (dg x).length + 1 := rfl
def numsS (l : List Int) : List Int := (l.map numS).flatten
def listS (l : List Int) : List Int := 32 :: 40 :: ((numsS l).drop 1 ++ [41])
theorem dg_len {x : Int} (h : wideP x) : (dg x).length ≤ 20 := digN_len20 (by rw [two64]; have := h.1; have := h.2; omega)
theorem numsS_len {l : List Int} (h : ∀ x ∈ l, wideP x) : (numsS l).length ≤ l.length * 21 := flat_bound l numS 21 fun x hx => by have := dg_len (h x hx); simp only [numS, List.length_cons]; omega
theorem listS_len {l : List Int} (h : ∀ x ∈ l, wideP x) : (listS l).length ≤ l.length * 21 + 3 := by
  have := numsS_len h
  simp only [listS, List.length_cons, List.length_append, List.length_drop, List.length_nil]
  omega
theorem good_wide {l : List Int} (h : good31 l) : ∀ x ∈ l, wideP x := fun x hx => ⟨(h x hx).1, by have := (h x hx).2; omega⟩
theorem nums_eq (l : List Int) (h : good31 l) (hl : l.length ≤ 1000) : m_lockstepref05_nums l = some (numsS l) := by
  have hb := numsS_len (good_wide h)
  have hloop := loop_append l (0 : Int) numS 100000 (m_lockstepref05_nums_L1 l) (fun out i hi hle => by
    have e1 : decide ((i : Int) < (l.length : Int)) = true := decide_eq_true (by omega)
    have hx := h _ (getD_mem (d := (0 : Int)) hi)
    rw [numS_len] at hle
    unfold m_lockstepref05_nums_L1
    show (bif decide ((i : Int) < (l.length : Int)) then _ else _) = _
    rw [e1, cond_true, chk_pos' (by rw [List.length_singleton]; omega), chk_pos' (inB_nat hi), Int.toNat_natCast, wu64_of hx.1 (by omega), digits_int ⟨hx.1, by omega⟩, Option.bind_some, chk_pos' (by rw [List.length_append, List.length_singleton]; unfold dg at hle; omega), w64_succ hi (by omega)]
    simp only [numS, dg, List.append_assoc, List.singleton_append]
    rfl) (fun out => by
    unfold m_lockstepref05_nums_L1
    simp) l.length 0 [] (Nat.zero_add _) (by rw [List.drop_zero]; have : l.length * 21 ≤ 1000 * 21 := Nat.mul_le_mul_right _ hl; unfold numsS at hb; simp only [List.length_nil]; omega)
  unfold m_lockstepref05_nums
  rw [show ((0 : Nat) : Int) = 0 from rfl, List.drop_zero] at hloop
  rw [hloop, Option.bind_some, List.nil_append, numsS]
theorem list5_eq (l : List Int) (h : good31 l) (hl : l.length ≤ 1000) : m_lockstepref05_list l = some (listS l) := by
  have hb := numsS_len (good_wide h)
  have : l.length * 21 ≤ 1000 * 21 := Nat.mul_le_mul_right _ hl
  unfold m_lockstepref05_list
  rw [nums_eq l h hl, Option.bind_some]
  cases hn : numsS l with
  | nil =>
    have e : ((([] : List Int)) == []) = true := rfl
    simp only [e, Bool.not_true, cond_false, Option.bind_some]
    rw [chk_pos' (by decide), chk_pos' (by decide)]
    simp [listS, hn]
  | cons a t =>
    have e : ((a :: t) == ([] : List Int)) = false := rfl
    rw [hn] at hb
    simp only [List.length_cons] at hb
    simp only [e, Bool.not_false, cond_true]
    rw [chk_pos' ⟨by decide, by simp only [List.length_cons]; omega⟩, Option.bind_some, chk_pos' (by simp; omega), chk_pos' (by simp; omega)]
    simp [listS, hn]

/-! ### Words -/
def brB (c : Int) : Bool := c == 40 || c == 41
def sepB (c : Int) : Bool := c == 32 || c == 10 || c == 40 || c == 41
/-- A word, if there is one. -/
def fl (w : List Int) : List (List Int) := if w = [] then [] else [w]
def wordsA : List Int → List Int → List (List Int)
  | [], w => fl w
  | c :: s, w => if sepB c = true then fl w ++ (if brB c = true then [[c]] else []) ++ wordsA s [] else wordsA s (w ++ [c])
def wordsS (s : List Int) : List (List Int) := wordsA s []
theorem fl_nil : fl [] = [] := by simp [fl]
theorem fl_ne {w : List Int} (h : w ≠ []) : fl w = [w] := by simp [fl, h]
theorem words_sep {c : Int} (h : sepB c = true) (s w : List Int) : wordsA (c :: s) w = fl w ++ wordsA (c :: s) [] := by
  simp only [wordsA, h, if_true, fl_nil, List.nil_append, List.append_assoc]
theorem words_blank (s w : List Int) : wordsA (32 :: s) w = fl w ++ wordsA s [] := by simp [wordsA, sepB, brB]
theorem words_line (s w : List Int) : wordsA (10 :: s) w = fl w ++ wordsA s [] := by simp [wordsA, sepB, brB]
theorem words_open (s w : List Int) : wordsA (40 :: s) w = fl w ++ [40] :: wordsA s [] := by simp [wordsA, sepB, brB]
theorem words_shut (s w : List Int) : wordsA (41 :: s) w = fl w ++ [41] :: wordsA s [] := by simp [wordsA, sepB, brB]
theorem words_run (t s w : List Int) (h : ∀ x ∈ t, sepB x = false) : wordsA (t ++ s) w = wordsA s (w ++ t) := by
  induction t generalizing w with
  | nil => simp
  | cons c t ih =>
    rw [List.cons_append, wordsA, h c (by simp), if_neg (by decide), ih (w ++ [c]) (fun x hx => h x (by simp [hx]))]
    simp
theorem dig_nosep {x : Int} (h : digB x) : sepB x = false := by
  unfold sepB
  have h1 : (x == 32) = false := by rw [beq_eq_false_iff_ne]; have := h.1; omega
  have h2 : (x == 10) = false := by rw [beq_eq_false_iff_ne]; have := h.1; omega
  have h3 : (x == 40) = false := by rw [beq_eq_false_iff_ne]; have := h.1; omega
  have h4 : (x == 41) = false := by rw [beq_eq_false_iff_ne]; have := h.1; omega
  rw [h1, h2, h3, h4]; rfl
theorem words_dg (x : Int) (s w : List Int) : wordsA (dg x ++ s) w = wordsA s (w ++ dg x) := words_run _ s w fun y hy => dig_nosep (digN_dig _ y hy)
theorem dg_ne (x : Int) : dg x ≠ [] := digN_ne _
/-- It begins with what ends a word. -/
def Ends (s : List Int) : Prop := ∃ c t, s = c :: t ∧ sepB c = true
theorem Ends.flush {s : List Int} (h : Ends s) (w : List Int) : wordsA s w = fl w ++ wordsA s [] := by
  obtain ⟨c, t, rfl, hc⟩ := h
  exact words_sep hc t w
theorem ends_nums (l s : List Int) (h : Ends s) : Ends (numsS l ++ s) := by
  cases l with
  | nil => exact h
  | cons x l => exact ⟨32, dg x ++ numsS l ++ s, by simp [numsS, numS], rfl⟩
theorem words_nums : ∀ (l s w : List Int), Ends s → wordsA (numsS l ++ s) w = fl w ++ (l.map dg ++ wordsA s [])
  | [], s, w, h => by simpa [numsS] using h.flush w
  | x :: l, s, w, h => by
    have e : numsS (x :: l) ++ s = 32 :: (dg x ++ (numsS l ++ s)) := by simp [numsS, numS]
    rw [e, words_blank, words_dg, List.nil_append, words_nums l s (dg x) h, fl_ne (dg_ne x)]
    simp
def listW (l : List Int) : List (List Int) := [40] :: (l.map dg ++ [[41]])
theorem words_list (l s w : List Int) : wordsA (listS l ++ s) w = fl w ++ (listW l ++ wordsA s []) := by
  have e : listS l ++ s = 32 :: 40 :: ((numsS l).drop 1 ++ (41 :: s)) := by simp [listS]
  rw [e, words_blank, words_open, fl_nil]
  cases l with
  | nil =>
    have : (numsS []).drop 1 ++ 41 :: s = 41 :: s := rfl
    rw [this, words_shut, fl_nil]
    simp [listW]
  | cons x l =>
    have e2 : (numsS (x :: l)).drop 1 ++ (41 :: s) = dg x ++ (numsS l ++ (41 :: s)) := by simp [numsS, numS]
    rw [e2, words_dg, List.nil_append, words_nums l _ _ ⟨41, s, rfl, rfl⟩, List.nil_append, fl_ne (dg_ne x), words_shut, fl_nil]
    simp [listW]
end Go.Proofs.YtcddajbcbkbipaaDoor

namespace Go.Proofs.YtcddajbcbkbipaaDoor
open Go Go.RowKit
set_option linter.unusedVariables false
set_option linter.unusedSimpArgs false

def kindsW : List (List Int) := [[99, 111, 110, 115, 116], [97, 100, 100], [115, 117, 98], [109, 117, 108], [100, 105, 118], [97, 110, 100], [111, 114], [120, 111, 114], [115, 104, 108], [115, 104, 114], [101, 113], [117, 108, 116], [115, 108, 116], [115, 101, 108, 101, 99, 116], [122, 101, 120, 116], [116, 114, 117, 110, 99], [108, 111, 97, 100], [115, 116, 111, 114, 101], [112, 108, 111, 97, 100], [112, 115, 116, 111, 114, 101], [112, 100, 105, 118], [112, 97, 99, 107], [103, 101, 116]]
def endsW : List (List Int) := [[114, 101, 116], [106, 117, 109, 112], [105, 102], [116, 114, 97, 112]]
theorem kinds_eq : m_lockstepref05_kinds = some kindsW := rfl
theorem ends_eq : m_lockstepref05_ends = some endsW := rfl
def funcT : List Int := [102, 117, 110, 99]
def blockT : List Int := [98, 108, 111, 99, 107]
def phiT : List Int := [112, 104, 105]
def nameK (k : Int) : List Int := kindsW.getD k.toNat []
def nameE (k : Int) : List Int := endsW.getD k.toNat []
def phiS (p : TPhi) : List Int := phiT ++ numsS [p.Bits, p.Dst] ++ listS p.From ++ listS p.Args ++ [10]
def opS (o : TOp) : List Int := nameK o.Kind ++ numsS [o.Bits, o.Lanes, o.Dst] ++ listS o.Args ++ [32] ++ dg o.Imm ++ [10]
def endS (e : TEnd) : List Int := nameE e.Kind ++ numsS [e.Arg] ++ listS e.To ++ [10]
def blockS (b : TBlock) : List Int := blockT ++ [10] ++ (b.Phis.map phiS).flatten ++ (b.Ops.map opS).flatten ++ endS b.End
def textS (f : TFunc) : List Int := funcT ++ listS f.Params ++ numsS [f.Ret] ++ [10] ++ (f.Blocks.map blockS).flatten
def opN (o : TOp) : Bool := decide (o.Kind < 23)
def blockN (b : TBlock) : Bool := b.Ops.all opN && decide (b.End.Kind < 4)
def namedB (f : TFunc) : Bool := f.Blocks.all blockN
/-- Print. -/
def printF (f : TFunc) : List Int × Int := bif mayF f && namedB f then (textS f, 0) else ([], 1)

/-- Put together, piece behind piece, till one has none. -/
theorem loop_appends {α β X : Type} (l : List α) (d : α) (p : α → Bool) (E : α → List β) (M : Nat) (no : X) (f : List β × Int → Option (LR (List β × Int) (List β ⊕ X)))
    (hn : ∀ (out : List β) (i : Nat), i < l.length → p (l.getD i d) = true → out.length + (E (l.getD i d)).length ≤ M → f (out, (i : Int)) = some (.next (out ++ E (l.getD i d), ((i + 1 : Nat) : Int))))
    (hf : ∀ (out : List β) (i : Nat), i < l.length → p (l.getD i d) = false → out.length ≤ M → f (out, (i : Int)) = some (.done (.inr no)))
    (hd : ∀ out : List β, f (out, (l.length : Int)) = some (.done (.inl out))) :
    ∀ (k i : Nat) (out : List β), i + k = l.length → out.length + ((l.drop i).map E).flatten.length ≤ M → loopO f (out, (i : Int)) = some (bif (l.drop i).all p then .inl (out ++ ((l.drop i).map E).flatten) else .inr no)
  | 0, i, out, h, _ => by
    obtain rfl : i = l.length := by omega
    rw [loopO_done (hd out)]
    simp
  | k + 1, i, out, h, hM => by
    have hi : i < l.length := by omega
    have hdr : l.drop i = l.getD i d :: l.drop (i + 1) := by rw [List.drop_eq_getElem_cons hi, getD_eq_of_lt _ _ _ hi]
    rw [hdr, List.map_cons, List.flatten_cons, List.length_append] at hM
    cases hp : p (l.getD i d) with
    | true =>
      rw [loopO_next (hn out i hi hp (by omega)), loop_appends l d p E M no f hn hf hd k (i + 1) _ (by omega) (by rw [List.length_append]; omega), hdr, List.map_cons, List.flatten_cons, List.append_assoc, List.all_cons, hp, Bool.true_and]
    | false =>
      rw [loopO_done (hf out i hi hp (by omega)), hdr, List.all_cons, hp, Bool.false_and, cond_false]

/-! ### Lengths -/
theorem nameK_len (k : Int) : (nameK k).length ≤ 6 := by
  unfold nameK
  by_cases h : k.toNat < kindsW.length
  · have := getD_mem (d := ([] : List Int)) h
    have hall : ∀ w ∈ kindsW, w.length ≤ 6 := by decide
    exact hall _ this
  · rw [List.getD, List.getElem?_eq_none (by omega)]; simp
theorem nameE_len (k : Int) : (nameE k).length ≤ 4 := by
  unfold nameE
  by_cases h : k.toNat < endsW.length
  · have := getD_mem (d := ([] : List Int)) h
    have hall : ∀ w ∈ endsW, w.length ≤ 4 := by decide
    exact hall _ this
  · rw [List.getD, List.getElem?_eq_none (by omega)]; simp
theorem good_of (l : List Int) (h : ∀ x ∈ l, numB x = true) : good31 l := fun x hx => numB_iff.1 (h x hx)
theorem good2 {a b : Int} (ha : numB a = true) (hb : numB b = true) : good31 [a, b] := good_of _ (by simp [ha, hb])
theorem good3 {a b c : Int} (ha : numB a = true) (hb : numB b = true) (hc : numB c = true) : good31 [a, b, c] := good_of _ (by simp [ha, hb, hc])
theorem good1 {a : Int} (ha : numB a = true) : good31 [a] := good_of _ (by simp [ha])
theorem phiS_len {p : TPhi} (h : phiB p = true) : (phiS p).length ≤ 3000 := by
  simp only [phiB, Bool.and_eq_true] at h
  have q1 := numsS_len (good_wide (good2 h.1.1.1 h.1.1.2))
  obtain ⟨a1, a2⟩ := listB_iff.1 h.1.2
  obtain ⟨b1, b2⟩ := listB_iff.1 h.2
  have q2 := listS_len (good_wide a1)
  have q3 := listS_len (good_wide b1)
  have : phiT.length = 3 := rfl
  rw [show ([p.Bits, p.Dst] : List Int).length = 2 from rfl] at q1
  unfold phiS
  rw [List.length_append, List.length_append, List.length_append, List.length_append, List.length_singleton]
  omega
theorem opS_len {o : TOp} (h : opB o = true) (hi : wideP o.Imm) : (opS o).length ≤ 2000 := by
  simp only [opB, Bool.and_eq_true] at h
  have q0 := nameK_len o.Kind
  have q1 := numsS_len (good_wide (good3 h.1.1.1.2 h.1.1.2 h.1.2))
  obtain ⟨a1, a2⟩ := listB_iff.1 h.2
  have q2 := listS_len (good_wide a1)
  have q3 := dg_len hi
  rw [show ([o.Bits, o.Lanes, o.Dst] : List Int).length = 3 from rfl] at q1
  unfold opS
  rw [List.length_append, List.length_append, List.length_append, List.length_append, List.length_append, List.length_singleton, List.length_singleton]
  omega
theorem endS_len {e : TEnd} (h : endB e = true) : (endS e).length ≤ 2000 := by
  simp only [endB, Bool.and_eq_true] at h
  have q0 := nameE_len e.Kind
  have q1 := numsS_len (good_wide (good1 h.1.2))
  obtain ⟨a1, a2⟩ := listB_iff.1 h.2
  have q2 := listS_len (good_wide a1)
  rw [show ([e.Arg] : List Int).length = 1 from rfl] at q1
  unfold endS
  rw [List.length_append, List.length_append, List.length_append, List.length_singleton]
  omega
theorem flat_mul {α : Type} (l : List α) (E : α → List Int) (n B : Nat) (hl : l.length ≤ n) (h : ∀ a ∈ l, (E a).length ≤ B) : (l.map E).flatten.length ≤ n * B :=
  Nat.le_trans (flat_bound l E B h) (Nat.mul_le_mul_right _ hl)
theorem blockS_len {b : TBlock} (h : OkB b) : (blockS b).length ≤ 3000000 := by
  obtain ⟨h1, h2, h3⟩ := blockB_iff.1 h.may
  have q1 := flat_mul b.Phis phiS 512 3000 h.phis fun p hp => phiS_len (h1 p hp)
  have q2 := flat_mul b.Ops opS 512 2000 h.ops fun o ho => opS_len (h2 o ho) (h.imm o ho)
  have q3 := endS_len h3
  have : blockT.length = 5 := rfl
  unfold blockS
  rw [List.length_append, List.length_append, List.length_append, List.length_append, List.length_singleton]
  omega
theorem textS_len {f : TFunc} (h : OkF f) : (textS f).length ≤ 200000000 := by
  obtain ⟨a1, a2⟩ := listB_iff.1 h.params
  have q1 := listS_len (good_wide a1)
  have q2 := numsS_len (good_wide (good1 h.ret))
  have q3 := flat_mul f.Blocks blockS 64 3000000 h.blocks fun b hb => blockS_len (h.block b hb)
  have : funcT.length = 4 := rfl
  rw [show ([f.Ret] : List Int).length = 1 from rfl] at q2
  unfold textS
  rw [List.length_append, List.length_append, List.length_append, List.length_append, List.length_singleton]
  omega

/-! ### Print -/
/-- A chk that holds, whatever stands behind it. -/
theorem room5 {a b : List Int} (h : a.length + b.length ≤ 1000000000) : ((a.length : Int) + (b.length : Int) ≤ 9223372036854775807) := by omega
end Go.Proofs.YtcddajbcbkbipaaDoor

namespace Go.Proofs.YtcddajbcbkbipaaDoor
open Go Go.RowKit
set_option linter.unusedVariables false
set_option linter.unusedSimpArgs false

theorem drop0_beq {α : Type} [BEq α] (l m : List α) : (l.drop 0 == m.drop 0) = (l == m) := by simp
theorem len_beq {α β : Type} (l : List α) (m : List β) : ((l.length : Int) != (m.length : Int)) = !decide (l.length = m.length) := by
  by_cases h : l.length = m.length
  · rw [h]; simp
  · have : ((l.length : Int) != (m.length : Int)) = true := by simp; omega
    rw [this]; simp [h]
theorem beq_dec {α : Type} [BEq α] [LawfulBEq α] [DecidableEq α] (x y : α) : (x == y) = decide (x = y) := by
  by_cases h : x = y
  · subst h; simp
  · have : (x == y) = false := by simpa using h
    rw [this]; simp [h]
theorem rints_eq (l m : List Int) (hl : l.length ≤ maxLen) : m_lockstepref02_Ints l m = some (decide (l = m)) := by
  unfold m_lockstepref02_Ints
  rw [maxLen_eq] at hl
  rw [len_beq]
  by_cases he : l.length = m.length
  · have hloop := loop_eq l m (0 : Int) (m_lockstepref02_Ints_L1 l m) (.inl ()) (.inr false) he (fun i hi hp => by
        unfold m_lockstepref02_Ints_L1
        have : decide ((i : Int) < (l.length : Int)) = true := by simpa using hi
        simp only [this, cond_true, chk_pos' (inB_nat hi), chk_pos' (inB_nat (show i < m.length by omega)), Int.toNat_natCast, bne, hp, Bool.not_true, cond_false, w64_succ hi (by omega)]) (fun i hi hp => by
        unfold m_lockstepref02_Ints_L1
        have : decide ((i : Int) < (l.length : Int)) = true := by simpa using hi
        simp only [this, cond_true, chk_pos' (inB_nat hi), chk_pos' (inB_nat (show i < m.length by omega)), Int.toNat_natCast, bne, hp, Bool.not_false]) (by
        unfold m_lockstepref02_Ints_L1
        simp) l.length 0 (by omega)
    rw [decide_eq_true he, Bool.not_true, cond_false, show (0 : Int) = ((0 : Nat) : Int) from rfl, hloop, drop0_beq, beq_dec]
    cases decide (l = m) <;> rfl
  · have e3 : decide (l = m) = false := decide_eq_false (by rintro rfl; exact he rfl)
    rw [decide_eq_false he, e3]; rfl
theorem rop_eq (a b : TOp) (h : a.Args.length ≤ maxLen) : m_lockstepref03_Same a b = some (decide (a = b)) := by
  unfold m_lockstepref03_Same
  rw [rints_eq _ _ h]
  obtain ⟨k, b1, n, d, ar, i⟩ := a
  obtain ⟨k', b1', n', d', ar', i'⟩ := b
  have : decide ((⟨k, b1, n, d, ar, i⟩ : TOp) = ⟨k', b1', n', d', ar', i'⟩) = ((k == k') && (b1 == b1') && (n == n') && (d == d') && (i == i') && decide (ar = ar')) := by
    rw [Bool.eq_iff_iff]
    simp [and_assoc]
    intros; exact and_comm
  rw [this]
  simp only
  cases (k == k') <;> cases (b1 == b1') <;> cases (n == n') <;> cases (d == d') <;> cases (i == i') <;> rfl
theorem phi_dec (p q : TPhi) : (p == q) = ((p.Bits == q.Bits) && (p.Dst == q.Dst) && decide (p.From = q.From) && decide (p.Args = q.Args)) := by
  rw [beq_dec, Bool.eq_iff_iff]
  obtain ⟨a, b, c, d⟩ := p
  obtain ⟨a', b', c', d'⟩ := q
  simp [and_assoc]
theorem block_dec (x y : TBlock) : (x == y) = (decide (x.Phis = y.Phis) && decide (x.Ops = y.Ops) && ((x.End.Kind == y.End.Kind) && (x.End.Arg == y.End.Arg) && decide (x.End.To = y.End.To))) := by
  rw [beq_dec, Bool.eq_iff_iff]
  obtain ⟨p, o, ⟨k, a, t⟩⟩ := x
  obtain ⟨p', o', ⟨k', a', t'⟩⟩ := y
  simp [and_assoc]
theorem func_dec (x y : TFunc) : decide (x = y) = ((x.Ret == y.Ret) && decide (x.Params = y.Params) && decide (x.Blocks = y.Blocks)) := by
  rw [Bool.eq_iff_iff]
  obtain ⟨p, r, b⟩ := x
  obtain ⟨p', r', b'⟩ := y
  simp [and_assoc]
  constructor
  · rintro ⟨h1, h2, h3⟩; exact ⟨h2, h1, h3⟩
  · rintro ⟨h1, h2, h3⟩; exact ⟨h2, h1, h3⟩

theorem rsame_eq (a b : TFunc) (ha : InF a) : m_lockstepref04_Same a b = some (decide (a = b)) := by
  have hM := maxLen_eq
  unfold m_lockstepref04_Same
  rw [rints_eq _ _ ha.params, func_dec]
  simp only [len_beq]
  by_cases hr : a.Ret = b.Ret
  · have e1 : (a.Ret != b.Ret) = false := by simpa using hr
    have e1' : (a.Ret == b.Ret) = true := by simpa using hr
    rw [e1, e1']
    cases hp : decide (a.Params = b.Params) with
    | false => rfl
    | true =>
      by_cases hlen : a.Blocks.length = b.Blocks.length
      · have step : ∀ i : Nat, i < a.Blocks.length → m_lockstepref04_Same_L3 a b (i : Int) = bif (a.Blocks.getD i default == b.Blocks.getD i default) then some (.next ((i : Int) + 1)) else some (.done (.inr false)) := fun i hi => by
          have hmem := getD_mem (d := (default : TBlock)) hi
          obtain ⟨b1, b2, b3⟩ := ha.block _ hmem
          have hPh := ha.phi _ hmem
          have hOp := ha.op _ hmem
          have e0 : decide ((i : Int) < (a.Blocks.length : Int)) = true := by simpa using hi
          have hI : InB (i : Int) b.Blocks.length := inB_nat (by omega)
          rw [block_dec]
          unfold m_lockstepref04_Same_L3
          simp only [e0, cond_true, chk_pos' (inB_nat hi), chk_pos' hI, Int.toNat_natCast, rints_eq _ _ b3, len_beq]
          by_cases hphi : (a.Blocks.getD i default).Phis.length = (b.Blocks.getD i default).Phis.length
          · by_cases hops : (a.Blocks.getD i default).Ops.length = (b.Blocks.getD i default).Ops.length
            · rw [decide_eq_true hphi, decide_eq_true hops]
              have l1 := loop_eq (a.Blocks.getD i default).Phis (b.Blocks.getD i default).Phis (default : TPhi) (m_lockstepref04_Same_L1 a b i) (.inl ()) (.inr false) hphi (fun j hj hp => by
                  obtain ⟨p1, p2⟩ := hPh _ (getD_mem (d := (default : TPhi)) hj)
                  have q0 : decide ((j : Int) < ((a.Blocks.getD i default).Phis.length : Int)) = true := by simpa using hj
                  rw [phi_dec] at hp
                  unfold m_lockstepref04_Same_L1
                  simp only [q0, cond_true, Int.toNat_natCast, chk_pos' (inB_nat hj), chk_pos' (inB_nat (show j < (b.Blocks.getD i default).Phis.length by omega)), rints_eq _ _ p1, rints_eq _ _ p2, w64_succ hj (by omega), bne]
                  revert hp
                  cases (((a.Blocks.getD i default).Phis.getD j default).Bits == ((b.Blocks.getD i default).Phis.getD j default).Bits) <;> cases (((a.Blocks.getD i default).Phis.getD j default).Dst == ((b.Blocks.getD i default).Phis.getD j default).Dst) <;> cases decide (((a.Blocks.getD i default).Phis.getD j default).From = ((b.Blocks.getD i default).Phis.getD j default).From) <;> cases decide (((a.Blocks.getD i default).Phis.getD j default).Args = ((b.Blocks.getD i default).Phis.getD j default).Args) <;> simp) (fun j hj hp => by
                  obtain ⟨p1, p2⟩ := hPh _ (getD_mem (d := (default : TPhi)) hj)
                  have q0 : decide ((j : Int) < ((a.Blocks.getD i default).Phis.length : Int)) = true := by simpa using hj
                  rw [phi_dec] at hp
                  unfold m_lockstepref04_Same_L1
                  simp only [q0, cond_true, Int.toNat_natCast, chk_pos' (inB_nat hj), chk_pos' (inB_nat (show j < (b.Blocks.getD i default).Phis.length by omega)), rints_eq _ _ p1, rints_eq _ _ p2, w64_succ hj (by omega), bne]
                  revert hp
                  cases (((a.Blocks.getD i default).Phis.getD j default).Bits == ((b.Blocks.getD i default).Phis.getD j default).Bits) <;> cases (((a.Blocks.getD i default).Phis.getD j default).Dst == ((b.Blocks.getD i default).Phis.getD j default).Dst) <;> cases decide (((a.Blocks.getD i default).Phis.getD j default).From = ((b.Blocks.getD i default).Phis.getD j default).From) <;> cases decide (((a.Blocks.getD i default).Phis.getD j default).Args = ((b.Blocks.getD i default).Phis.getD j default).Args) <;> simp) (by
                  unfold m_lockstepref04_Same_L1
                  simp) _ 0 (Nat.zero_add _)
              have l2 := loop_eq (a.Blocks.getD i default).Ops (b.Blocks.getD i default).Ops (default : TOp) (m_lockstepref04_Same_L2 a b i) (.inl ()) (.inr false) hops (fun j hj hp => by
                  obtain ⟨p1, _⟩ := hOp _ (getD_mem (d := (default : TOp)) hj)
                  have q0 : decide ((j : Int) < ((a.Blocks.getD i default).Ops.length : Int)) = true := by simpa using hj
                  rw [beq_dec] at hp
                  unfold m_lockstepref04_Same_L2
                  simp only [q0, cond_true, Int.toNat_natCast, chk_pos' (inB_nat hj), chk_pos' (inB_nat (show j < (b.Blocks.getD i default).Ops.length by omega)), rop_eq _ _ p1, w64_succ hj (by omega), hp, Option.bind_some, Bool.not_true, cond_false]) (fun j hj hp => by
                  obtain ⟨p1, _⟩ := hOp _ (getD_mem (d := (default : TOp)) hj)
                  have q0 : decide ((j : Int) < ((a.Blocks.getD i default).Ops.length : Int)) = true := by simpa using hj
                  rw [beq_dec] at hp
                  unfold m_lockstepref04_Same_L2
                  simp only [q0, cond_true, Int.toNat_natCast, chk_pos' (inB_nat hj), chk_pos' (inB_nat (show j < (b.Blocks.getD i default).Ops.length by omega)), rop_eq _ _ p1, hp, Option.bind_some, Bool.not_false, cond_true]) (by
                  unfold m_lockstepref04_Same_L2
                  simp) _ 0 (Nat.zero_add _)
              rw [show ((0 : Nat) : Int) = 0 from rfl, drop0_beq, beq_dec] at l1 l2
              simp only [l1, Option.bind_some, w64_succ hi (by have := ha.blocks; omega), bne]
              cases ((a.Blocks.getD i default).End.Kind == (b.Blocks.getD i default).End.Kind) <;> cases ((a.Blocks.getD i default).End.Arg == (b.Blocks.getD i default).End.Arg) <;> cases decide ((a.Blocks.getD i default).End.To = (b.Blocks.getD i default).End.To) <;> cases decide ((a.Blocks.getD i default).Phis = (b.Blocks.getD i default).Phis) <;> simp only [Bool.not_true, Bool.not_false, cond_true, cond_false, l2, Bool.and_true, Bool.and_false, Bool.true_and, Bool.false_and, Option.bind_some]
              all_goals first | rfl | (cases decide ((a.Blocks.getD i default).Ops = (b.Blocks.getD i default).Ops) <;> rfl)
            · have : decide ((a.Blocks.getD i default).Ops = (b.Blocks.getD i default).Ops) = false := decide_eq_false fun h => hops (by rw [h])
              rw [decide_eq_true hphi, decide_eq_false hops, this]
              simp
          · have : decide ((a.Blocks.getD i default).Phis = (b.Blocks.getD i default).Phis) = false := decide_eq_false fun h => hphi (by rw [h])
            rw [decide_eq_false hphi, this]
            simp
        have hloop := loop_eq a.Blocks b.Blocks (default : TBlock) (m_lockstepref04_Same_L3 a b) (.inl ()) (.inr false) hlen (fun i hi hp => by rw [step i hi, hp]; rfl) (fun i hi hp => by rw [step i hi, hp]; rfl) (by
          unfold m_lockstepref04_Same_L3
          simp) _ 0 (Nat.zero_add _)
        rw [show ((0 : Nat) : Int) = 0 from rfl, drop0_beq, beq_dec] at hloop
        rw [decide_eq_true hlen]
        simp only [hloop, Bool.not_true, cond_false, cond_true, Option.bind_some, bne, Bool.true_and, Bool.and_true, Bool.not_false]
        all_goals first | rfl | (cases decide (a.Blocks = b.Blocks) <;> rfl)
      · have : decide (a.Blocks = b.Blocks) = false := decide_eq_false fun h => hlen (by rw [h])
        rw [decide_eq_false hlen, this]
        rfl
  · have e1 : (a.Ret != b.Ret) = true := by simpa using hr
    have e1' : (a.Ret == b.Ret) = false := by simpa using hr
    rw [e1, e1']
    rfl
end Go.Proofs.YtcddajbcbkbipaaDoor

namespace Go.Proofs.YtcddajbcbkbipaaDoor
open Go Go.RowKit
set_option linter.unusedVariables false
set_option linter.unusedSimpArgs false

def noF : TFunc := ⟨[], 0, []⟩
theorem ok_in {f : TFunc} (h : OkF f) : InF f := by
  have hM := maxLen_eq
  refine ⟨by have := h.few; omega, by have := h.blocks; omega, fun b hb => ?_, fun b hb p hp => ?_, fun b hb o ho => ?_⟩
  · have okb := h.block b hb
    obtain ⟨_, _, q3⟩ := blockB_iff.1 okb.may
    simp only [endB, Bool.and_eq_true] at q3
    have := (listB_iff.1 q3.2).2
    exact ⟨by have := okb.phis; omega, by have := okb.ops; omega, by omega⟩
  · have q := (blockB_iff.1 (h.block b hb).may).1 p hp
    simp only [phiB, Bool.and_eq_true] at q
    have h1 := (listB_iff.1 q.1.2).2
    have h2 := (listB_iff.1 q.2).2
    exact ⟨by omega, by omega⟩
  · have q := (blockB_iff.1 (h.block b hb).may).2.1 o ho
    simp only [opB, Bool.and_eq_true] at q
    have h1 := (listB_iff.1 q.2).2
    have h2 := (h.block b hb).imm o ho
    exact ⟨by omega, h2.1, h2.2⟩
/-- What is gone through: of those that may be told, such as may be read. -/
theorem small_parts (f : TFunc) (hf : InF f) : ∃ sm, m_lockstepref04_Small f = some sm ∧ (sm = true → mayF f = true → OkF f ∧ sizeN f ≤ 512 ∧ 1 ≤ f.Blocks.length) := by
  obtain ⟨sm, h⟩ := small_some f hf
  refine ⟨sm, h, fun h1 h2 => ?_⟩
  obtain ⟨q1, q2⟩ := may_lists h2
  rw [small_eq f hf q1 q2] at h
  subst h1
  obtain ⟨r1, r2⟩ := may_ok hf h2 (by simpa using Option.some.inj h)
  exact ⟨r1, r2, (may_parts h2).1⟩
end Go.Proofs.YtcddajbcbkbipaaDoor

namespace Go.Proofs.YtcddajbcbkbipaaDoor
open Go Go.RowKit
set_option linter.unusedVariables false
set_option linter.unusedSimpArgs false

theorem rphi_step (f : TFunc) (i j : Nat) (out : List Int) (hi : i < f.Blocks.length) (hj : j < (f.Blocks.getD i default).Phis.length) (hl : (f.Blocks.getD i default).Phis.length ≤ 512) (hp : phiB ((f.Blocks.getD i default).Phis.getD j default) = true)
    (hle : out.length + (phiS ((f.Blocks.getD i default).Phis.getD j default)).length ≤ 900000000) :
    m_lockstepref05_Print_L1 f i (out, (j : Int)) = some (.next (out ++ phiS ((f.Blocks.getD i default).Phis.getD j default), ((j + 1 : Nat) : Int))) := by
  have e1 : decide ((j : Int) < ((f.Blocks.getD i default).Phis.length : Int)) = true := decide_eq_true (by omega)
  unfold m_lockstepref05_Print_L1
  show (bif decide ((j : Int) < (((f.Blocks.getD ((i : Int)).toNat default).Phis).length : Int)) then _ else _) = _
  rw [Int.toNat_natCast]
  generalize hP : (f.Blocks.getD i default).Phis = P at *
  rw [e1, cond_true, Int.toNat_natCast]
  generalize hp0 : P.getD j default = p at *
  simp only [phiB, Bool.and_eq_true] at hp
  obtain ⟨a1, a2⟩ := listB_iff.1 hp.1.2
  obtain ⟨b1, b2⟩ := listB_iff.1 hp.2
  have h3 : ([112, 104, 105] : List Int).length = 3 := rfl
  have h1 : ([10] : List Int).length = 1 := rfl
  have g := good2 hp.1.1.1 hp.1.1.2
  unfold phiS phiT at hle ⊢
  simp only [List.length_append] at hle
  rw [chk_pos' (room5 (by omega)), chk_pos' (inB_nat hj), chk_pos' (inB_nat hj), nums_eq _ g (by simp), Option.bind_some, chk_pos' (room5 (by simp only [List.length_append]; omega)), chk_pos' (inB_nat hj), list5_eq _ a1 (by omega), Option.bind_some,
    chk_pos' (room5 (by simp only [List.length_append]; omega)), chk_pos' (inB_nat hj), list5_eq _ b1 (by omega), Option.bind_some, chk_pos' (room5 (by simp only [List.length_append]; omega)), chk_pos' (room5 (by simp only [List.length_append]; omega)), w64_succ hj (by omega)]
  simp only [List.append_assoc]
  rfl
theorem rop_step (f : TFunc) (i j : Nat) (out : List Int) (hi : i < f.Blocks.length) (hj : j < (f.Blocks.getD i default).Ops.length) (hl : (f.Blocks.getD i default).Ops.length ≤ 512) (hp : opB ((f.Blocks.getD i default).Ops.getD j default) = true) (hi6 : wideP ((f.Blocks.getD i default).Ops.getD j default).Imm)
    (hn : opN ((f.Blocks.getD i default).Ops.getD j default) = true) (hle : out.length + (opS ((f.Blocks.getD i default).Ops.getD j default)).length ≤ 900000000) :
    m_lockstepref05_Print_L2 f i (out, (j : Int)) = some (.next (out ++ opS ((f.Blocks.getD i default).Ops.getD j default), ((j + 1 : Nat) : Int))) := by
  have e1 : decide ((j : Int) < ((f.Blocks.getD i default).Ops.length : Int)) = true := decide_eq_true (by omega)
  unfold m_lockstepref05_Print_L2
  show (bif decide ((j : Int) < (((f.Blocks.getD ((i : Int)).toNat default).Ops).length : Int)) then _ else _) = _
  rw [Int.toNat_natCast]
  generalize hP : (f.Blocks.getD i default).Ops = P at *
  rw [e1, cond_true, Int.toNat_natCast]
  generalize hp0 : P.getD j default = o at *
  simp only [opB, Bool.and_eq_true] at hp
  obtain ⟨a1, a2⟩ := listB_iff.1 hp.2
  have hk := numB_iff.1 hp.1.1.1.1
  have hn' : o.Kind < 23 := by simpa [opN] using hn
  have e2 : decide ((kindsW.length : Int) ≤ o.Kind) = false := decide_eq_false (by rw [show kindsW.length = 23 from rfl]; omega)
  have hin : InB o.Kind kindsW.length := ⟨hk.1, by rw [show kindsW.length = 23 from rfl]; omega⟩
  have h32 : ([32] : List Int).length = 1 := rfl
  have h1 : ([10] : List Int).length = 1 := rfl
  have g := good3 hp.1.1.1.2 hp.1.1.2 hp.1.2
  unfold opS nameK dg at hle ⊢
  simp only [List.length_append] at hle
  rw [chk_pos' (inB_nat hj), kinds_eq, Option.bind_some, e2, cond_false, Option.bind_some, chk_pos' hin, chk_pos' (room5 (by omega)), nums_eq _ g (by simp), Option.bind_some, chk_pos' (room5 (by simp only [List.length_append]; omega)), list5_eq _ a1 (by omega), Option.bind_some,
    chk_pos' (room5 (by simp only [List.length_append]; omega)), chk_pos' (room5 (by simp only [List.length_append]; omega)), digits_int hi6, Option.bind_some, chk_pos' (room5 (by simp only [List.length_append]; omega)), chk_pos' (room5 (by simp only [List.length_append]; omega)), w64_succ hj (by omega)]
  simp only [List.append_assoc]
  rfl
theorem rop_none (f : TFunc) (i j : Nat) (out : List Int) (hj : j < (f.Blocks.getD i default).Ops.length) (hn : opN ((f.Blocks.getD i default).Ops.getD j default) = false) : m_lockstepref05_Print_L2 f i (out, (j : Int)) = some (.done (.inr ([], 1))) := by
  have e1 : decide ((j : Int) < ((f.Blocks.getD i default).Ops.length : Int)) = true := decide_eq_true (by omega)
  unfold m_lockstepref05_Print_L2
  show (bif decide ((j : Int) < (((f.Blocks.getD ((i : Int)).toNat default).Ops).length : Int)) then _ else _) = _
  rw [Int.toNat_natCast]
  generalize hP : (f.Blocks.getD i default).Ops = P at *
  rw [e1, cond_true, Int.toNat_natCast]
  generalize hp0 : P.getD j default = o at *
  have hn' : ¬ o.Kind < 23 := by simpa [opN] using hn
  have e2 : decide ((kindsW.length : Int) ≤ o.Kind) = true := decide_eq_true (by rw [show kindsW.length = 23 from rfl]; omega)
  rw [chk_pos' (inB_nat hj), kinds_eq, Option.bind_some, e2, cond_true]
theorem rprint_eq (f : TFunc) (hf : InF f) (hs : mayF f = true → OkF f) : m_lockstepref05_Print f = some (printF f) := by
  unfold m_lockstepref05_Print printF
  rw [rmay_eq f hf, Option.bind_some]
  cases hm : mayF f with
  | false => rfl
  | true =>
    have ok := hs hm
    have hlenF := textS_len ok
    have h3 := loop_appends f.Blocks (default : TBlock) blockN blockS 800000000 (([], 1) : List Int × Int) (m_lockstepref05_Print_L3 f) (fun out i hi hb hle => by
      have hmem := getD_mem (d := (default : TBlock)) hi
      have okb := ok.block _ hmem
      obtain ⟨b1, b2, b3⟩ := blockB_iff.1 okb.may
      simp only [blockN, Bool.and_eq_true, decide_eq_true_eq] at hb
      have e0 : decide ((i : Int) < (f.Blocks.length : Int)) = true := decide_eq_true (by omega)
      have h6 : ([98, 108, 111, 99, 107, 10] : List Int).length = 6 := rfl
      have h10 : ([10] : List Int).length = 1 := rfl
      have e6 : ([98, 108, 111, 99, 107, 10] : List Int) = blockT ++ [10] := rfl
      have hb5 : blockT.length = 5 := rfl
      have hle' := hle
      unfold blockS endS at hle
      simp only [List.length_append] at hle
      have l1 := loop_append (f.Blocks.getD i default).Phis (default : TPhi) phiS 900000000 (m_lockstepref05_Print_L1 f i) (fun out j hj hle => rphi_step f i j out hi hj okb.phis (b1 _ (getD_mem hj)) hle) (fun out => by
        unfold m_lockstepref05_Print_L1
        have : decide (((f.Blocks.getD i default).Phis.length : Int) < ((f.Blocks.getD i default).Phis.length : Int)) = false := by simp
        show (bif decide (((f.Blocks.getD i default).Phis.length : Int) < (((f.Blocks.getD ((i : Int)).toNat default).Phis).length : Int)) then _ else _) = _
        rw [Int.toNat_natCast, this, cond_false]) _ 0 (out ++ (blockT ++ [10])) (Nat.zero_add _) (by rw [List.drop_zero]; simp only [List.length_append]; omega)
      have l2 := loop_appends (f.Blocks.getD i default).Ops (default : TOp) opN opS 900000000 (([], 1) : List Int × Int) (m_lockstepref05_Print_L2 f i) (fun out j hj hn hle => rop_step f i j out hi hj okb.ops (b2 _ (getD_mem hj)) (okb.imm _ (getD_mem hj)) hn hle) (fun out j hj hn _ => rop_none f i j out hj hn) (fun out => by
        unfold m_lockstepref05_Print_L2
        have : decide (((f.Blocks.getD i default).Ops.length : Int) < ((f.Blocks.getD i default).Ops.length : Int)) = false := by simp
        show (bif decide (((f.Blocks.getD i default).Ops.length : Int) < (((f.Blocks.getD ((i : Int)).toNat default).Ops).length : Int)) then _ else _) = _
        rw [Int.toNat_natCast, this, cond_false]) _ 0 (out ++ (blockT ++ [10]) ++ ((f.Blocks.getD i default).Phis.map phiS).flatten) (Nat.zero_add _) (by rw [List.drop_zero]; simp only [List.length_append]; omega)
      rw [show ((0 : Nat) : Int) = 0 from rfl, List.drop_zero] at l1 l2
      rw [hb.1, cond_true] at l2
      simp only [endB, Bool.and_eq_true] at b3
      obtain ⟨a1, a2⟩ := listB_iff.1 b3.2
      have hk := numB_iff.1 b3.1.1
      have e2 : decide ((4 : Int) ≤ (f.Blocks.getD i default).End.Kind) = false := decide_eq_false (by omega)
      have hin : InB (f.Blocks.getD i default).End.Kind endsW.length := ⟨hk.1, by rw [show endsW.length = 4 from rfl]; omega⟩
      unfold m_lockstepref05_Print_L3
      show (bif decide ((i : Int) < (f.Blocks.length : Int)) then _ else _) = _
      rw [e0, cond_true, chk_pos' (inB_nat hi), chk_pos' (room5 (by omega)), e6, l1, Option.bind_some, l2, Option.bind_some]
      simp only [Int.toNat_natCast]
      unfold nameE at hle
      rw [e2, cond_false, ends_eq, Option.bind_some, chk_pos' hin, chk_pos' (room5 (by simp only [List.length_append]; omega)), nums_eq _ (good1 b3.1.2) (by simp), Option.bind_some, chk_pos' (room5 (by simp only [List.length_append]; omega)), list5_eq _ a1 (by omega), Option.bind_some,
        chk_pos' (room5 (by simp only [List.length_append]; omega)), chk_pos' (room5 (by simp only [List.length_append]; omega)), w64_succ hi (by have := ok.blocks; omega)]
      unfold blockS endS nameE
      simp only [List.append_assoc]
      rfl) (fun out i hi hb hle => by
      have hmem := getD_mem (d := (default : TBlock)) hi
      have okb := ok.block _ hmem
      obtain ⟨b1, b2, b3⟩ := blockB_iff.1 okb.may
      have e0 : decide ((i : Int) < (f.Blocks.length : Int)) = true := decide_eq_true (by omega)
      have h6 : ([98, 108, 111, 99, 107, 10] : List Int).length = 6 := rfl
      have e6 : ([98, 108, 111, 99, 107, 10] : List Int) = blockT ++ [10] := rfl
      have hb5 : blockT.length = 5 := rfl
      have h10 : ([10] : List Int).length = 1 := rfl
      have q1 := flat_mul (f.Blocks.getD i default).Phis phiS 512 3000 okb.phis fun p hp => phiS_len (b1 p hp)
      have q2 := flat_mul (f.Blocks.getD i default).Ops opS 512 2000 okb.ops fun o ho => opS_len (b2 o ho) (okb.imm o ho)
      have l1 := loop_append (f.Blocks.getD i default).Phis (default : TPhi) phiS 900000000 (m_lockstepref05_Print_L1 f i) (fun out j hj hle => rphi_step f i j out hi hj okb.phis (b1 _ (getD_mem hj)) hle) (fun out => by
        unfold m_lockstepref05_Print_L1
        have : decide (((f.Blocks.getD i default).Phis.length : Int) < ((f.Blocks.getD i default).Phis.length : Int)) = false := by simp
        show (bif decide (((f.Blocks.getD i default).Phis.length : Int) < (((f.Blocks.getD ((i : Int)).toNat default).Phis).length : Int)) then _ else _) = _
        rw [Int.toNat_natCast, this, cond_false]) _ 0 (out ++ (blockT ++ [10])) (Nat.zero_add _) (by rw [List.drop_zero]; simp only [List.length_append]; omega)
      have l2 := loop_appends (f.Blocks.getD i default).Ops (default : TOp) opN opS 900000000 (([], 1) : List Int × Int) (m_lockstepref05_Print_L2 f i) (fun out j hj hn hle => rop_step f i j out hi hj okb.ops (b2 _ (getD_mem hj)) (okb.imm _ (getD_mem hj)) hn hle) (fun out j hj hn _ => rop_none f i j out hj hn) (fun out => by
        unfold m_lockstepref05_Print_L2
        have : decide (((f.Blocks.getD i default).Ops.length : Int) < ((f.Blocks.getD i default).Ops.length : Int)) = false := by simp
        show (bif decide (((f.Blocks.getD i default).Ops.length : Int) < (((f.Blocks.getD ((i : Int)).toNat default).Ops).length : Int)) then _ else _) = _
        rw [Int.toNat_natCast, this, cond_false]) _ 0 (out ++ (blockT ++ [10]) ++ ((f.Blocks.getD i default).Phis.map phiS).flatten) (Nat.zero_add _) (by rw [List.drop_zero]; simp only [List.length_append]; omega)
      rw [show ((0 : Nat) : Int) = 0 from rfl, List.drop_zero] at l1 l2
      unfold m_lockstepref05_Print_L3
      show (bif decide ((i : Int) < (f.Blocks.length : Int)) then _ else _) = _
      rw [e0, cond_true, chk_pos' (inB_nat hi), chk_pos' (room5 (by omega)), e6, l1, Option.bind_some, l2, Option.bind_some]
      cases ha : (f.Blocks.getD i default).Ops.all opN with
      | false => rfl
      | true =>
        have hk : ¬ (f.Blocks.getD i default).End.Kind < 4 := by
          intro hlt
          have : blockN (f.Blocks.getD i default) = true := by unfold blockN; rw [ha, decide_eq_true hlt]; rfl
          rw [this] at hb; cases hb
        have e2 : decide ((4 : Int) ≤ (f.Blocks.getD i default).End.Kind) = true := decide_eq_true (by omega)
        simp only [cond_true, Int.toNat_natCast, e2]) (fun out => by
      have : decide ((f.Blocks.length : Int) < (f.Blocks.length : Int)) = false := by simp
      unfold m_lockstepref05_Print_L3
      show (bif decide ((f.Blocks.length : Int) < (f.Blocks.length : Int)) then _ else _) = _
      rw [this, cond_false])
    obtain ⟨a1, a2⟩ := listB_iff.1 ok.params
    have h4 : ([102, 117, 110, 99] : List Int).length = 4 := rfl
    have h10 : ([10] : List Int).length = 1 := rfl
    have hl2 := hlenF
    unfold textS funcT at hl2
    simp only [List.length_append] at hl2
    have hrun := h3 _ 0 ([102, 117, 110, 99] ++ listS f.Params ++ numsS [f.Ret] ++ [10]) (Nat.zero_add _) (by rw [List.drop_zero]; simp only [List.length_append]; omega)
    rw [show ((0 : Nat) : Int) = 0 from rfl, List.drop_zero] at hrun
    rw [Bool.not_true, cond_false, list5_eq _ a1 (by omega), Option.bind_some, chk_pos' (room5 (by omega)), nums_eq _ (good1 ok.ret) (by simp), Option.bind_some, chk_pos' (room5 (by simp only [List.length_append]; omega)), chk_pos' (room5 (by simp only [List.length_append]; omega)), hrun, Option.bind_some]
    unfold namedB textS funcT
    cases f.Blocks.all blockN <;> rfl
end Go.Proofs.YtcddajbcbkbipaaDoor

namespace Go.Proofs.YtcddajbcbkbipaaDoor
open Go Go.RowKit
set_option linter.unusedVariables false
set_option linter.unusedSimpArgs false

theorem wlen : ∀ (s w : List Int), (wordsA s w).length ≤ 2 * s.length + 1
  | [], w => by unfold wordsA fl; split <;> simp
  | c :: s, w => by
    have h1 := wlen s []
    have h2 := wlen s (w ++ [c])
    have h3 : (fl w).length ≤ 1 := by unfold fl; split <;> simp
    unfold wordsA
    split
    · simp only [List.length_append, List.length_cons]
      split <;> simp <;> omega
    · simp only [List.length_cons]; omega
theorem beq_nil (w : List Int) : (w == ([] : List Int)) = decide (w = []) := by cases w <;> rfl
/-- One letter. -/
theorem words_letter (s : List Int) (hs : s.length ≤ 100000000000) (l : List (List Int)) (u : List Int) (i : Nat) (hi : i < s.length) (hl : l.length ≤ 2 * i + 2) (hu : u.length ≤ i) :
    m_lockstepref05_Words_L1 s (l, u, (i : Int)) = some (.next (bif sepB (s.getD i 0) then (l ++ fl u ++ (if brB (s.getD i 0) = true then [[s.getD i 0]] else []), [], ((i + 1 : Nat) : Int)) else (l, u ++ [s.getD i 0], ((i + 1 : Nat) : Int)))) := by
  have e0 : decide ((i : Int) ≤ (s.length : Int)) = true := decide_eq_true (by omega)
  have e1 : ((i : Int) == (s.length : Int)) = false := by rw [beq_eq_false_iff_ne]; omega
  have e2 : decide ((i : Int) < (s.length : Int)) = true := decide_eq_true (by omega)
  have hI : InB (i : Int) s.length := inB_nat hi
  have hsl : (s.drop i).take (i + 1 - i) = [s.getD i 0] := by
    rw [show i + 1 - i = 1 by omega, List.drop_eq_getElem_cons hi, getD_eq_of_lt _ _ _ hi]
    rfl
  have hw : w64 ((i : Int) + 1) = ((i + 1 : Nat) : Int) := by rw [w64_succ hi (by omega)]; omega
  have hroom : (room : Nat) = 1099511627776 := rfl
  unfold m_lockstepref05_Words_L1
  show (bif decide ((i : Int) ≤ (s.length : Int)) then _ else _) = _
  simp only [e0, e1, e2, cond_true, cond_false, Int.toNat_natCast, hw, hsl]
  generalize s.getD i 0 = c
  rw [chk_pos' (fun _ => hI), chk_pos' (fun _ => hI), chk_pos' (fun _ => hI), chk_pos' (fun _ => hI)]
  have hb : (bif (bif (bif (c == 32) then true else (c == 10)) then true else (c == 40)) then true else (c == 41)) = sepB c := by
    unfold sepB; cases (c == 32) <;> cases (c == 10) <;> cases (c == 40) <;> rfl
  have hb2 : (bif (c == 40) then true else (c == 41)) = brB c := by unfold brB; cases (c == 40) <;> rfl
  rw [hb]
  cases hsep : sepB c with
  | true =>
    rw [cond_true, cond_true, beq_nil]
    by_cases hu0 : u = []
    · subst hu0
      simp only [decide_true, Bool.not_true, cond_false, Option.bind_some]
      rw [chk_pos' (fun _ => hI), chk_pos' (fun _ => hI), hb2]
      cases hbr : brB c with
      | true =>
        rw [cond_true, chk_pos' ⟨by omega, by omega, by omega⟩, chk_pos' (by rw [hroom, List.length_singleton]; omega), Option.bind_some]
        simp [fl]
      | false =>
        rw [cond_false, Option.bind_some]
        simp [fl]
    · simp only [hu0, decide_false, Bool.not_false, cond_true]
      rw [chk_pos' (by rw [hroom, List.length_singleton]; omega), Option.bind_some, chk_pos' (fun _ => hI), chk_pos' (fun _ => hI), hb2]
      cases hbr : brB c with
      | true =>
        rw [cond_true, chk_pos' ⟨by omega, by omega, by omega⟩, chk_pos' (by rw [hroom, List.length_append, List.length_singleton, List.length_singleton]; omega), Option.bind_some]
        simp [fl, hu0]
      | false =>
        rw [cond_false, Option.bind_some]
        simp [fl, hu0]
  | false =>
    rw [cond_false, cond_false, chk_pos' ⟨by omega, by omega, by omega⟩, chk_pos' (by rw [List.length_singleton]; omega), Option.bind_some]
theorem words_last (s : List Int) (hs : s.length ≤ 100000000000) (l : List (List Int)) (u : List Int) (hl : l.length ≤ 2 * s.length + 2) :
    m_lockstepref05_Words_L1 s (l, u, (s.length : Int)) = some (.next (l ++ fl u, [], ((s.length + 1 : Nat) : Int))) := by
  have e0 : decide ((s.length : Int) ≤ (s.length : Int)) = true := by simp
  have e1 : ((s.length : Int) == (s.length : Int)) = true := by simp
  have e2 : decide ((s.length : Int) < (s.length : Int)) = false := by simp
  have hw : w64 ((s.length : Int) + 1) = ((s.length + 1 : Nat) : Int) := by rw [w64_of (by omega) (by omega)]; omega
  have hroom : (room : Nat) = 1099511627776 := rfl
  unfold m_lockstepref05_Words_L1
  show (bif decide ((s.length : Int) ≤ (s.length : Int)) then _ else _) = _
  simp only [e0, e1, e2, cond_true, cond_false, hw]
  rw [chk_pos' (fun h => by simp at h), chk_pos' (fun h => by simp at h), chk_pos' (fun h => by simp at h), chk_pos' (fun h => by simp at h), beq_nil]
  by_cases hu0 : u = []
  · subst hu0
    simp only [decide_true, Bool.not_true, cond_false, Option.bind_some]
    rw [chk_pos' (fun h => by simp at h), chk_pos' (fun h => by simp at h), Option.bind_some]
    simp [fl]
  · simp only [hu0, decide_false, Bool.not_false, cond_true]
    rw [chk_pos' (by rw [hroom, List.length_singleton]; omega), Option.bind_some, chk_pos' (fun h => by simp at h), chk_pos' (fun h => by simp at h), Option.bind_some]
    simp [fl, hu0]
theorem words_loop (s : List Int) (hs : s.length ≤ 100000000000) : ∀ (k i : Nat) (l : List (List Int)) (u : List Int), i + k = s.length → l.length ≤ 2 * i + 2 → u.length ≤ i →
    loopO (m_lockstepref05_Words_L1 s) (l, u, (i : Int)) = some (l ++ wordsA (s.drop i) u)
  | 0, i, l, u, h, hl, hu => by
    obtain rfl : i = s.length := by omega
    rw [loopO_next (words_last s hs l u hl), List.drop_length]
    have e0 : decide (((s.length + 1 : Nat) : Int) ≤ (s.length : Int)) = false := decide_eq_false (by omega)
    rw [loopO_done (x := l ++ fl u) (by
      unfold m_lockstepref05_Words_L1
      show (bif decide (((s.length + 1 : Nat) : Int) ≤ (s.length : Int)) then _ else _) = _
      rw [e0, cond_false])]
    rfl
  | k + 1, i, l, u, h, hl, hu => by
    have hi : i < s.length := by omega
    have hd : s.drop i = s.getD i 0 :: s.drop (i + 1) := by rw [List.drop_eq_getElem_cons hi, getD_eq_of_lt _ _ _ hi]
    rw [loopO_next (words_letter s hs l u i hi hl hu), hd, wordsA]
    cases hsep : sepB (s.getD i 0) with
    | true =>
      simp only [cond_true, if_true]
      rw [words_loop s hs k (i + 1) _ [] (by omega) ?_ (by simp)]
      · simp
      · have h3 : (fl u).length ≤ 1 := by unfold fl; split <;> simp
        simp only [List.length_append]
        split <;> simp <;> omega
    | false =>
      simp only [cond_false]
      rw [words_loop s hs k (i + 1) l (u ++ [s.getD i 0]) (by omega) (by omega) (by simp; omega)]
      simp
theorem rwords_eq (s : List Int) (hs : s.length ≤ 100000000000) : m_lockstepref05_Words s = some (wordsS s) := by
  have := words_loop s hs s.length 0 [] [] (Nat.zero_add _) (by simp) (by simp)
  unfold m_lockstepref05_Words
  rw [show ((0 : Nat) : Int) = 0 from rfl, List.drop_zero] at this
  rw [this, Option.bind_some]
  rfl
end Go.Proofs.YtcddajbcbkbipaaDoor

namespace Go.Proofs.YtcddajbcbkbipaaDoor
open Go Go.RowKit
set_option linter.unusedVariables false
set_option linter.unusedSimpArgs false

abbrev Word := List Int
def phiW (p : TPhi) : List Word := phiT :: dg p.Bits :: dg p.Dst :: (listW p.From ++ listW p.Args)
def opW (o : TOp) : List Word := nameK o.Kind :: dg o.Bits :: dg o.Lanes :: dg o.Dst :: (listW o.Args ++ [dg o.Imm])
def endW (e : TEnd) : List Word := nameE e.Kind :: dg e.Arg :: listW e.To
def bodyW (b : TBlock) : List Word := (b.Phis.map phiW).flatten ++ ((b.Ops.map opW).flatten ++ endW b.End)
def blockW (b : TBlock) : List Word := blockT :: bodyW b
def funcW (f : TFunc) : List Word := funcT :: (listW f.Params ++ (dg f.Ret :: (f.Blocks.map blockW).flatten))

theorem ends_list (l s : List Int) : Ends (listS l ++ s) := ⟨32, 40 :: ((numsS l).drop 1 ++ [41]) ++ s, by simp [listS], rfl⟩
theorem ends_line (s : List Int) : Ends (10 :: s) := ⟨10, s, rfl, rfl⟩
theorem nosep_of {w : Word} (h : w.all (fun x => !sepB x) = true) : ∀ x ∈ w, sepB x = false := fun x hx => by simpa using List.all_eq_true.1 h x hx
theorem phi_nosep : ∀ x ∈ phiT, sepB x = false := nosep_of rfl
theorem block_nosep : ∀ x ∈ blockT, sepB x = false := nosep_of rfl
theorem func_nosep : ∀ x ∈ funcT, sepB x = false := nosep_of rfl
theorem kinds_nosep : ∀ w ∈ kindsW, w ≠ [] ∧ ∀ x ∈ w, sepB x = false := fun w hw => by
  have h : kindsW.all (fun w => !w.isEmpty && w.all (fun x => !sepB x)) = true := by decide
  have := List.all_eq_true.1 h w hw
  simp only [Bool.and_eq_true] at this
  exact ⟨by rintro rfl; simp at this, nosep_of this.2⟩
theorem ends_nosep : ∀ w ∈ endsW, w ≠ [] ∧ ∀ x ∈ w, sepB x = false := fun w hw => by
  have h : endsW.all (fun w => !w.isEmpty && w.all (fun x => !sepB x)) = true := by decide
  have := List.all_eq_true.1 h w hw
  simp only [Bool.and_eq_true] at this
  exact ⟨by rintro rfl; simp at this, nosep_of this.2⟩
theorem nameK_mem {k : Int} (h : 0 ≤ k ∧ k < 23) : nameK k ∈ kindsW := getD_mem (by rw [show kindsW.length = 23 from rfl]; omega)
theorem nameE_mem {k : Int} (h : 0 ≤ k ∧ k < 4) : nameE k ∈ endsW := getD_mem (by rw [show endsW.length = 4 from rfl]; omega)

theorem words_phi (p : TPhi) (s : List Int) : wordsA (phiS p ++ s) [] = phiW p ++ wordsA s [] := by
  have e : phiS p ++ s = phiT ++ (numsS [p.Bits, p.Dst] ++ (listS p.From ++ (listS p.Args ++ (10 :: s)))) := by simp [phiS]
  rw [e, words_run _ _ _ phi_nosep, words_nums _ _ _ (ends_list _ _), words_list, words_list, words_line, List.nil_append, fl_nil, fl_ne (show phiT ≠ [] by decide)]
  simp [phiW]
theorem words_op (o : TOp) (s : List Int) (hk : 0 ≤ o.Kind ∧ o.Kind < 23) : wordsA (opS o ++ s) [] = opW o ++ wordsA s [] := by
  have e : opS o ++ s = nameK o.Kind ++ (numsS [o.Bits, o.Lanes, o.Dst] ++ (listS o.Args ++ (32 :: (dg o.Imm ++ (10 :: s))))) := by simp [opS]
  obtain ⟨h1, h2⟩ := kinds_nosep _ (nameK_mem hk)
  rw [e, words_run _ _ _ h2, words_nums _ _ _ (ends_list _ _), words_list, words_blank, words_dg, words_line, List.nil_append, List.nil_append, fl_nil, fl_ne h1, fl_ne (dg_ne _)]
  simp [opW]
theorem words_end (e : TEnd) (s : List Int) (hk : 0 ≤ e.Kind ∧ e.Kind < 4) : wordsA (endS e ++ s) [] = endW e ++ wordsA s [] := by
  have e0 : endS e ++ s = nameE e.Kind ++ (numsS [e.Arg] ++ (listS e.To ++ (10 :: s))) := by simp [endS]
  obtain ⟨h1, h2⟩ := ends_nosep _ (nameE_mem hk)
  rw [e0, words_run _ _ _ h2, words_nums _ _ _ (ends_list _ _), words_list, words_line, List.nil_append, fl_nil, fl_ne h1]
  simp [endW]
theorem words_many {α : Type} (E : α → List Int) (F : α → List Word) (l : List α) (s : List Int) (h : ∀ a ∈ l, ∀ s, wordsA (E a ++ s) [] = F a ++ wordsA s []) : wordsA ((l.map E).flatten ++ s) [] = (l.map F).flatten ++ wordsA s [] := by
  induction l with
  | nil => simp
  | cons a l ih =>
    rw [List.map_cons, List.flatten_cons, List.append_assoc, h a (by simp), ih (fun b hb => h b (by simp [hb])), List.map_cons, List.flatten_cons, List.append_assoc]
theorem words_block (b : TBlock) (s : List Int) (ho : ∀ o ∈ b.Ops, 0 ≤ o.Kind ∧ o.Kind < 23) (he : 0 ≤ b.End.Kind ∧ b.End.Kind < 4) : wordsA (blockS b ++ s) [] = blockW b ++ wordsA s [] := by
  have e : blockS b ++ s = blockT ++ (10 :: ((b.Phis.map phiS).flatten ++ ((b.Ops.map opS).flatten ++ (endS b.End ++ s)))) := by simp [blockS]
  rw [e, words_run _ _ _ block_nosep, words_line, List.nil_append, fl_ne (show blockT ≠ [] by decide), words_many phiS phiW _ _ (fun p _ s => words_phi p s), words_many opS opW _ _ (fun o h s => words_op o s (ho o h)), words_end _ _ he]
  simp [blockW, bodyW]
/-- What a text may tell. -/
structure Named (f : TFunc) : Prop where
  op : ∀ b ∈ f.Blocks, ∀ o ∈ b.Ops, 0 ≤ o.Kind ∧ o.Kind < 23
  en : ∀ b ∈ f.Blocks, 0 ≤ b.End.Kind ∧ b.End.Kind < 4
theorem words_text (f : TFunc) (h : Named f) : wordsS (textS f) = funcW f := by
  have e : textS f = funcT ++ (listS f.Params ++ (numsS [f.Ret] ++ (10 :: ((f.Blocks.map blockS).flatten ++ [])))) := by simp [textS]
  rw [wordsS, e, words_run _ _ _ func_nosep, words_list, words_nums _ _ _ (ends_line _), words_line, List.nil_append, fl_nil, fl_ne (show funcT ≠ [] by decide), words_many blockS blockW _ _ (fun b hb s => words_block b s (h.op b hb) (h.en b hb))]
  simp [funcW, wordsA, fl]
theorem named_iff {f : TFunc} (hm : mayF f = true) : namedB f = true ↔ Named f := by
  obtain ⟨_, _, _, _, _, _, hb⟩ := may_parts hm
  constructor
  · intro h
    refine ⟨fun b hbm o ho => ?_, fun b hbm => ?_⟩
    · have h1 := List.all_eq_true.1 h b hbm
      simp only [blockN, Bool.and_eq_true] at h1
      have h2 := List.all_eq_true.1 h1.1 o ho
      obtain ⟨_, q, _⟩ := blockB_iff.1 (hb b hbm)
      have h3 := q o ho
      simp only [opB, Bool.and_eq_true] at h3
      exact ⟨(numB_iff.1 h3.1.1.1.1).1, by simpa [opN] using h2⟩
    · have h1 := List.all_eq_true.1 h b hbm
      simp only [blockN, Bool.and_eq_true] at h1
      obtain ⟨_, _, q⟩ := blockB_iff.1 (hb b hbm)
      simp only [endB, Bool.and_eq_true] at q
      exact ⟨(numB_iff.1 q.1.1).1, by simpa using h1.2⟩
  · intro h
    refine List.all_eq_true.2 fun b hbm => ?_
    simp only [blockN, Bool.and_eq_true]
    exact ⟨List.all_eq_true.2 fun o ho => by simpa [opN] using (h.op b hbm o ho).2, by simpa using (h.en b hbm).2⟩

/-! ### Words, put together with blanks -/
/-- A word as there may be one. -/
def Tok (w : Word) : Prop := w = [40] ∨ w = [41] ∨ (w ≠ [] ∧ ∀ x ∈ w, sepB x = false)
theorem br_tok {c : Int} (h : brB c = true) : Tok [c] := by
  unfold brB at h
  rcases Bool.or_eq_true_iff.1 h with h | h
  · exact .inl (by rw [beq_iff_eq.1 h])
  · exact .inr (.inl (by rw [beq_iff_eq.1 h]))
theorem words_tok : ∀ (s u : List Int), (∀ x ∈ u, sepB x = false) → ∀ w ∈ wordsA s u, Tok w
  | [], u, hu, w, hw => by
    unfold wordsA fl at hw
    split at hw
    · cases hw
    · rename_i h
      obtain rfl := List.mem_singleton.1 hw
      exact .inr (.inr ⟨h, hu⟩)
  | c :: s, u, hu, w, hw => by
    unfold wordsA at hw
    split at hw
    · simp only [List.mem_append] at hw
      rcases hw with (hw | hw) | hw
      · unfold fl at hw
        split at hw
        · cases hw
        · rename_i h
          obtain rfl := List.mem_singleton.1 hw
          exact .inr (.inr ⟨h, hu⟩)
      · split at hw
        · rename_i h
          obtain rfl := List.mem_singleton.1 hw
          exact br_tok h
        · cases hw
      · exact words_tok s [] (by simp) w hw
    · rename_i h
      refine words_tok s (u ++ [c]) (fun x hx => ?_) w hw
      rcases List.mem_append.1 hx with hx | hx
      · exact hu x hx
      · obtain rfl := List.mem_singleton.1 hx
        simpa using h
def blankB (c : Int) : Bool := c == 32 || c == 10
theorem words_blanks : ∀ (t s : List Int), (∀ x ∈ t, blankB x = true) → wordsA (t ++ s) [] = wordsA s []
  | [], s, h => rfl
  | c :: t, s, h => by
    have hc := h c (by simp)
    have hs : sepB c = true := by unfold blankB at hc; unfold sepB; rcases Bool.or_eq_true_iff.1 hc with h | h <;> rw [h] <;> simp
    have hb : brB c = false := by
      unfold blankB at hc
      rcases Bool.or_eq_true_iff.1 hc with h | h <;> rw [beq_iff_eq.1 h] <;> rfl
    rw [List.cons_append, wordsA, hs, hb]
    simp only [if_true, fl_nil]
    simpa using words_blanks t s (fun x hx => h x (by simp [hx]))
/-- A word, blanks behind it. -/
theorem words_word {w t : List Int} (hw : Tok w) (ht : t ≠ []) (hb : ∀ x ∈ t, blankB x = true) (s : List Int) : wordsA (w ++ (t ++ s)) [] = w :: wordsA s [] := by
  rcases hw with rfl | rfl | ⟨h1, h2⟩
  · rw [List.singleton_append, words_open, fl_nil, words_blanks t s hb]; rfl
  · rw [List.singleton_append, words_shut, fl_nil, words_blanks t s hb]; rfl
  · rw [words_run _ _ _ h2, List.nil_append]
    cases t with
    | nil => exact absurd rfl ht
    | cons c t =>
      have hc := hb c (by simp)
      have hs : sepB c = true := by unfold blankB at hc; unfold sepB; rcases Bool.or_eq_true_iff.1 hc with h | h <;> rw [h] <;> simp
      rw [List.cons_append, words_sep hs, fl_ne h1, ← List.cons_append, words_blanks (c :: t) s hb]
      rfl
end Go.Proofs.YtcddajbcbkbipaaDoor

namespace Go.Proofs.YtcddajbcbkbipaaDoor
open Go Go.RowKit
set_option linter.unusedVariables false
set_option linter.unusedSimpArgs false

/-- A reader of words: what is left; that all is well; that something is wrong, and it can be asked so many times more. -/
structure VW (S : Type) where
  left : S → List Word
  fine : S → Prop
  spent : Nat → S → Prop
  mono : ∀ k j s, spent (k + j) s → spent k s
def lotsW : Nat := 1000000
/-- What reads 'α' as E writes it, of those that P allows, where what stands behind is as Q says. -/
structure RdH {S α : Type} (V : VW S) (H : List Word → Prop) (m : S → Option (α × S)) (E : α → List Word) (P : α → Prop) (Q : List Word → Prop) (c : Nat) : Prop where
  sticky : ∀ k s, V.spent (k + c) s → ∃ a s', m s = some (a, s') ∧ V.spent k s'
  any : ∀ s, V.fine s → H (V.left s) → ∃ a s', m s = some (a, s') ∧ ((V.fine s' ∧ P a ∧ Q (V.left s') ∧ V.left s = E a ++ V.left s') ∨ ∀ k, k + c ≤ lotsW → V.spent k s')
  whole : ∀ s a more, V.fine s → P a → Q more → V.left s = E a ++ more → ∃ s', m s = some (a, s') ∧ V.fine s' ∧ V.left s' = more
def anyW (_ : List Word) : Prop := True
/-- Wherever it stands. -/
abbrev Rd {S α : Type} (V : VW S) (m : S → Option (α × S)) (E : α → List Word) (P : α → Prop) (Q : List Word → Prop) (c : Nat) : Prop := RdH V anyW m E P Q c

theorem RdH.of_eq {S α : Type} {V : VW S} {H : List Word → Prop} {m n : S → Option (α × S)} {E : α → List Word} {P : α → Prop} {Q : List Word → Prop} {c : Nat} (h : RdH V H m E P Q c) (e : ∀ s, n s = m s) : RdH V H n E P Q c := by
  rw [show n = m from funext e]; exact h
theorem RdH.pre {S α : Type} {V : VW S} {H H' : List Word → Prop} {m : S → Option (α × S)} {E : α → List Word} {P : α → Prop} {Q : List Word → Prop} {c : Nat} (h : RdH V H m E P Q c) (hH : ∀ l, H' l → H l) : RdH V H' m E P Q c :=
  ⟨h.sticky, fun s hs hh => h.any s hs (hH _ hh), h.whole⟩
theorem RdH.of_on {S α : Type} {V : VW S} {H : List Word → Prop} {m n : S → Option (α × S)} {E : α → List Word} {P : α → Prop} {Q : List Word → Prop} {c : Nat} (h : RdH V H m E P Q c) (hH : ∀ a more, P a → H (E a ++ more)) (e : ∀ s, ((V.fine s ∧ H (V.left s)) ∨ V.spent c s) → n s = m s) : RdH V H n E P Q c where
  sticky k s hs := by rw [e s (.inr (V.mono c k s (by rw [Nat.add_comm]; exact hs)))]; exact h.sticky k s hs
  any s hs hh := by rw [e s (.inl ⟨hs, hh⟩)]; exact h.any s hs hh
  whole s a more hs hp hq hl := by rw [e s (.inl ⟨hs, by rw [hl]; exact hH a more hp⟩)]; exact h.whole s a more hs hp hq hl
theorem RdH.reach {S α : Type} {V : VW S} {H : List Word → Prop} {m : S → Option (α × S)} {E : α → List Word} {P : α → Prop} {Q : List Word → Prop} {c : Nat} (h : RdH V H m E P Q c) (hc : c ≤ lotsW) (k : Nat) (hk : k + c ≤ lotsW) {s : S} (hs : (V.fine s ∧ H (V.left s)) ∨ V.spent (k + c) s) : ∃ a s', m s = some (a, s') ∧ (V.fine s' ∨ V.spent k s') := by
  rcases hs with ⟨hs, hh⟩ | hs
  · obtain ⟨a, s', e, hd⟩ := h.any s hs hh
    exact ⟨a, s', e, hd.elim (fun h => .inl h.1) fun h => .inr (h k hk)⟩
  · obtain ⟨a, s', e, hs'⟩ := h.sticky k s hs
    exact ⟨a, s', e, .inr hs'⟩
theorem RdH.pair {S α β : Type} {V : VW S} {H : List Word → Prop} {m : S → Option (α × S)} {n : S → Option (β × S)} {E : α → List Word} {P : α → Prop} {Q : List Word → Prop} {F : β → List Word} {P' : β → Prop} {Q' : List Word → Prop} {c d : Nat} (h : RdH V H m E P Q c) (k : Rd V n F P' Q' d)
    (hQ : ∀ b more, P' b → Q' more → Q (F b ++ more)) (hcd : c + d ≤ lotsW := by decide) : RdH V H (fun s => (m s).bind fun x => (n x.2).bind fun y => some ((x.1, y.1), y.2)) (fun p => E p.1 ++ F p.2) (fun p => P p.1 ∧ P' p.2) Q' (c + d) where
  sticky j s hs := by
    obtain ⟨a, s', e, hs'⟩ := h.sticky (j + d) s (by rw [show j + d + c = j + (c + d) by omega]; exact hs)
    obtain ⟨b, t, e', ht⟩ := k.sticky j s' hs'
    exact ⟨(a, b), t, by simp only [e, Option.bind_some, e'], ht⟩
  any s hs hH := by
    obtain ⟨a, s', e, hd⟩ := h.any s hs hH
    rcases hd with ⟨hf, hp, hq, hl⟩ | hd
    · obtain ⟨b, t, e', hd'⟩ := k.any s' hf trivial
      refine ⟨(a, b), t, by simp only [e, Option.bind_some, e'], ?_⟩
      rcases hd' with ⟨hf', hp', hq', hl'⟩ | hd'
      · exact .inl ⟨hf', ⟨hp, hp'⟩, hq', by rw [hl, hl', List.append_assoc]⟩
      · exact .inr fun j hj => hd' j (by omega)
    · obtain ⟨b, t, e', ht⟩ := k.sticky 0 s' (hd (0 + d) (by omega))
      refine ⟨(a, b), t, by simp only [e, Option.bind_some, e'], .inr fun j hj => ?_⟩
      obtain ⟨b', t', e'', ht'⟩ := k.sticky j s' (hd (j + d) (by omega))
      rw [e'] at e''
      obtain ⟨_, rfl⟩ := Prod.mk.inj (Option.some.inj e'')
      exact ht'
  whole s p more hs hp hq hl := by
    obtain ⟨s', e, hf, hl'⟩ := h.whole s p.1 (F p.2 ++ more) hs hp.1 (hQ p.2 more hp.2 hq) (by rw [hl, List.append_assoc])
    obtain ⟨t, e', hf', hl''⟩ := k.whole s' p.2 more hf hp.2 hq hl'
    exact ⟨t, by simp only [e, Option.bind_some, e'], hf', hl''⟩
/-- What is read, as something else. -/
theorem RdH.map {S α β : Type} {V : VW S} {H : List Word → Prop} {m : S → Option (α × S)} {E : α → List Word} {P : α → Prop} {Q : List Word → Prop} {c : Nat} {F : β → List Word} {P' : β → Prop} (h : RdH V H m E P Q c) (f : α → β) (g : β → α)
    (hfg : ∀ b, P' b → f (g b) = b) (hP : ∀ b, P' b → P (g b)) (hP' : ∀ a, P a → P' (f a)) (hE : ∀ a, P a → F (f a) = E a) : RdH V H (fun s => (m s).bind fun x => some (f x.1, x.2)) F P' Q c where
  sticky k s hs := by
    obtain ⟨a, s', e, hs'⟩ := h.sticky k s hs
    exact ⟨f a, s', by simp only [e, Option.bind_some], hs'⟩
  any s hs hH := by
    obtain ⟨a, s', e, hd⟩ := h.any s hs hH
    refine ⟨f a, s', by simp only [e, Option.bind_some], ?_⟩
    rcases hd with ⟨hf, hp, hq, hl⟩ | hd
    · exact .inl ⟨hf, hP' a hp, hq, by rw [hE a hp, hl]⟩
    · exact .inr hd
  whole s b more hs hp hq hl := by
    have hFg : F b = E (g b) := by rw [← hE (g b) (hP b hp), hfg b hp]
    obtain ⟨s', e, hf, hl'⟩ := h.whole s (g b) more hs (hP b hp) hq (by rw [hl, hFg])
    exact ⟨s', by simp only [e, Option.bind_some, hfg b hp], hf, hl'⟩
/-- As many as there are, told by what stands ahead: 'go' is how the rounds go on. -/
theorem RdH.star {S α : Type} {V : VW S} {m : S → Option (α × S)} {E : α → List Word} {P : α → Prop} {Q : List Word → Prop} {c : Nat} (head : List Word → Bool) (h : RdH V (fun l => head l = true) m E P Q c) (hc : c ≤ lotsW) (N : Nat) (Q' : List Word → Prop) (go : List α → S → Option (List α × S))
    (hN : ∀ s, V.fine s → (V.left s).length ≤ N)
    (hne : ∀ a, P a → 0 < (E a).length) (hhead : ∀ a more, P a → head (E a ++ more) = true) (hQ : ∀ (l : List α) more, (∀ a ∈ l, P a) → Q' more → Q ((l.map E).flatten ++ more)) (hQ' : ∀ more, Q' more → head more = false) (hQ'' : ∀ s, V.fine s → head (V.left s) = false → Q' (V.left s))
    (hstop : ∀ l s, V.fine s → head (V.left s) = false → go l s = some (l, s)) (hspent : ∀ k l s, V.spent k s → ∃ l' s', go l s = some (l', s') ∧ V.spent k s')
    (hgo : ∀ l s a s', V.fine s → head (V.left s) = true → m s = some (a, s') → (V.fine s' ∨ V.spent 0 s') → l.length ≤ N → go l s = go (l ++ [a]) s') :
    Rd V (go []) (fun l => (l.map E).flatten) (fun l => ∀ a ∈ l, P a) Q' c := by
  have key : ∀ (n : Nat) (l : List α) (s : S), (V.left s).length = n → l.length + n ≤ N → V.fine s → ∃ l' s', go l s = some (l ++ l', s') ∧ ((V.fine s' ∧ (∀ a ∈ l', P a) ∧ Q' (V.left s') ∧ V.left s = (l'.map E).flatten ++ V.left s') ∨ ∀ k, k + c ≤ lotsW → V.spent k s') ∨ ∃ l' s', go l s = some (l', s') ∧ ∀ k, k + c ≤ lotsW → V.spent k s' := by
    intro n
    induction n using Nat.strongRecOn with
    | _ n ih =>
      intro l s hn hl hs
      cases hh : head (V.left s) with
      | false => exact ⟨[], s, .inl ⟨by rw [hstop l s hs hh, List.append_nil], .inl ⟨hs, by simp, hQ'' s hs hh, by simp⟩⟩⟩
      | true =>
        obtain ⟨a, s', e, hd⟩ := h.any s hs hh
        have hg := hgo l s a s' hs hh e (hd.elim (fun h => .inl h.1) fun h => .inr (h 0 (by omega))) (by omega)
        rcases hd with ⟨hf, hp, hq, hle⟩ | hd
        · have hlt : (V.left s').length < n := by
            have := congrArg List.length hle
            rw [List.length_append] at this
            have := hne a hp
            omega
          obtain ⟨l', t, hr⟩ := ih _ hlt (l ++ [a]) s' rfl (by rw [List.length_append, List.length_singleton]; omega) hf
          rcases hr with ⟨e1, hd⟩ | ⟨l'', t'', e1, hd⟩
          · refine ⟨a :: l', t, .inl ⟨by rw [hg, e1]; simp, ?_⟩⟩
            rcases hd with ⟨f1, f2, f3, f4⟩ | hd
            · exact .inl ⟨f1, fun b hb => (List.mem_cons.1 hb).elim (fun h => h ▸ hp) (f2 b), f3, by rw [hle, f4]; simp⟩
            · exact .inr hd
          · exact ⟨[], t'', .inr ⟨l'', t'', by rw [hg, e1], hd⟩⟩
        · obtain ⟨l', t, e1, ht⟩ := hspent (lotsW - c) (l ++ [a]) s' (hd _ (by omega))
          refine ⟨[], t, .inr ⟨l', t, by rw [hg, e1], fun k hk => ?_⟩⟩
          obtain ⟨l2, t2, e2, ht2⟩ := hspent k (l ++ [a]) s' (hd _ hk)
          rw [e1] at e2
          obtain ⟨_, rfl⟩ := Prod.mk.inj (Option.some.inj e2)
          exact ht2
  have key2 : ∀ (l' l : List α) (s : S) (more : List Word), V.fine s → (∀ a ∈ l', P a) → Q' more → V.left s = (l'.map E).flatten ++ more → l.length + l'.length ≤ N → ∃ s', go l s = some (l ++ l', s') ∧ V.fine s' ∧ V.left s' = more := by
    intro l'
    induction l' with
    | nil =>
      intro l s more hs hp hq hle hl
      have e : V.left s = more := by simpa using hle
      exact ⟨s, by rw [hstop l s hs (by rw [e]; exact hQ' more hq), List.append_nil], hs, e⟩
    | cons a l' ih =>
      intro l s more hs hp hq hle hl
      have hle2 : V.left s = E a ++ ((l'.map E).flatten ++ more) := by rw [hle]; simp
      have ha := hp a (by simp)
      obtain ⟨s', e, hf, hl'⟩ := h.whole s a _ hs ha (hQ l' more (fun b hb => hp b (by simp [hb])) hq) hle2
      simp only [List.length_cons] at hl
      have hg := hgo l s a s' hs (by rw [hle2]; exact hhead a _ ha) e (.inl hf) (by omega)
      obtain ⟨t, e1, f1, f2⟩ := ih (l ++ [a]) s' more hf (fun b hb => hp b (by simp [hb])) hq hl' (by rw [List.length_append, List.length_singleton]; omega)
      exact ⟨t, by rw [hg, e1]; simp, f1, f2⟩
  refine ⟨fun k s hs => ?_, fun s hs _ => ?_, fun s l more hs hp hq hl => ?_⟩
  · exact hspent k [] s (V.mono k c s hs)
  · obtain ⟨l', s', hr⟩ := key _ [] s rfl (by have := hN s hs; simpa using this) hs
    rcases hr with ⟨e, hd⟩ | ⟨l'', s'', e, hd⟩
    · exact ⟨l', s', by simpa using e, hd⟩
    · exact ⟨l'', s'', e, .inr hd⟩
  · have hlen : l.length ≤ (V.left s).length := by
      rw [hl, List.length_append]
      have : ∀ l : List α, (∀ a ∈ l, P a) → l.length ≤ ((l.map E).flatten).length := fun l => by
        induction l with
        | nil => simp
        | cons a l ih =>
          intro h
          have h1 := hne a (h a (by simp))
          have h2 := ih fun b hb => h b (by simp [hb])
          rw [List.map_cons, List.flatten_cons, List.length_append, List.length_cons]
          omega
      have := this l hp
      omega
    obtain ⟨t, e, f1, f2⟩ := key2 l [] s more hs hp hq hl (by have := hN s hs; simp only [List.length_nil]; omega)
    exact ⟨t, by simpa using e, f1, f2⟩
end Go.Proofs.YtcddajbcbkbipaaDoor

namespace Go.Proofs.YtcddajbcbkbipaaDoor
open Go Go.RowKit
set_option linter.unusedVariables false
set_option linter.unusedSimpArgs false

def parseD : List Int → Nat → Option Nat
  | [], acc => some acc
  | x :: w, acc => if 48 ≤ x ∧ x ≤ 57 ∧ acc * 10 + (x - 48).toNat < 18446744073709551616 then parseD w (acc * 10 + (x - 48).toNat) else none
theorem parseD_app (a b : List Int) (acc : Nat) : parseD (a ++ b) acc = (parseD a acc).bind fun n => parseD b n := by
  induction a generalizing acc with
  | nil => rfl
  | cons x a ih =>
    simp only [List.cons_append, parseD]
    split
    · exact ih _
    · rfl
theorem parseD_dig (n : Nat) (hn : n < 18446744073709551616) : parseD (digN n) 0 = some n := by
  induction n using Nat.strongRecOn with
  | _ n ih =>
    by_cases h : n < 10
    · rw [digN_lt h, parseD, if_pos ⟨by omega, by omega, by omega⟩, parseD]
      congr 1
      omega
    · rw [digN_ge h, parseD_app, ih (n / 10) (by omega) (by omega), Option.bind_some, parseD, if_pos ⟨by omega, by omega, by omega⟩, parseD]
      congr 1
      omega
theorem digN_head : ∀ (n : Nat), 1 ≤ n → (digN n).headD 0 ≠ 48 := by
  intro n
  induction n using Nat.strongRecOn with
  | _ n ih =>
    intro hn
    by_cases h : n < 10
    · rw [digN_lt h]
      simp only [List.headD_cons]
      omega
    · have := ih (n / 10) (by omega) (by omega)
      rw [digN_ge h]
      cases hd : digN (n / 10) with
      | nil => exact absurd hd (digN_ne _)
      | cons x l => rw [hd] at this; simpa using this
/-- The number that a word is. -/
def numV (w : Word) : Option Nat := if w = [] ∨ 20 < w.length ∨ (1 < w.length ∧ w.headD 0 = 48) then none else parseD w 0
theorem numV_dig (n : Nat) (hn : n < 18446744073709551616) : numV (digN n) = some n := by
  have h20 := digN_len20 (n := n) (by rw [two64]; exact hn)
  unfold numV
  rw [if_neg, parseD_dig n hn]
  rintro (h | h | ⟨h1, h2⟩)
  · exact digN_ne _ h
  · omega
  · by_cases h : n < 10
    · rw [digN_lt h] at h1; simp at h1
    · exact digN_head n (by omega) h2
theorem parseD_inv : ∀ (k : Nat) (w : List Int) (n : Nat), w.length = k → w ≠ [] → (1 < w.length → w.headD 0 ≠ 48) → parseD w 0 = some n → w = digN n
  | 0, w, n, hk, hne, _, _ => absurd (List.length_eq_zero_iff.1 hk) hne
  | k + 1, w, n, hk, hne, hh, hp => by
    obtain ⟨v, x, rfl⟩ : ∃ v x, w = v ++ [x] := ⟨w.dropLast, w.getLast hne, (List.dropLast_concat_getLast hne).symm⟩
    rw [List.length_append, List.length_singleton] at hk hh
    rw [parseD_app] at hp
    cases hv : parseD v 0 with
    | none => rw [hv] at hp; cases hp
    | some m =>
      rw [hv, Option.bind_some, parseD] at hp
      split at hp
      · rename_i hx
        rw [parseD] at hp
        obtain rfl := Option.some.inj hp
        by_cases hv0 : v = []
        · subst hv0
          rw [parseD] at hv
          obtain rfl := Option.some.inj hv
          rw [digN_lt (by omega)]
          simp only [List.nil_append, List.cons.injEq, and_true]
          omega
        · have hvl := List.length_pos_iff.2 hv0
          have hhead : v.headD 0 ≠ 48 := by
            have := hh (by omega)
            cases v with
            | nil => exact absurd rfl hv0
            | cons y v => simpa using this
          have e := parseD_inv k v m (by omega) hv0 (fun _ => hhead) hv
          have hm : 1 ≤ m := by
            rcases Nat.eq_zero_or_pos m with rfl | h
            · rw [e, digN_lt (by omega)] at hhead
              exact absurd rfl hhead
            · exact h
          rw [digN_ge (by omega), show (m * 10 + (x - 48).toNat) / 10 = m by omega, ← e, show ((48 + (m * 10 + (x - 48).toNat) % 10 : Nat) : Int) = x by omega]
      · cases hp
theorem parseD_lt : ∀ (w : List Int) (acc n : Nat), acc < 18446744073709551616 → parseD w acc = some n → n < 18446744073709551616
  | [], acc, n, h, hp => by rw [parseD] at hp; obtain rfl := Option.some.inj hp; exact h
  | x :: w, acc, n, h, hp => by
    rw [parseD] at hp
    split at hp
    · rename_i hx; exact parseD_lt w _ n hx.2.2 hp
    · cases hp
theorem numV_inv {w : Word} {n : Nat} (h : numV w = some n) : w = digN n ∧ n < 18446744073709551616 := by
  unfold numV at h
  split at h
  · cases h
  · rename_i hc
    simp only [not_or, not_and] at hc
    exact ⟨parseD_inv w.length w n rfl hc.1 hc.2.2 h, parseD_lt w 0 n (by omega) h⟩

/-! ### Names -/
def findI : List Word → Word → Nat → Int
  | [], _, _ => -1
  | x :: l, s, i => if x = s then (i : Int) else findI l s (i + 1)
theorem findI_ge : ∀ (l : List Word) (s : Word) (i : Nat), findI l s i = -1 ∨ ∃ j : Nat, j < l.length ∧ findI l s i = ((i + j : Nat) : Int) ∧ l.getD j [] = s
  | [], s, i => .inl rfl
  | x :: l, s, i => by
    unfold findI
    split
    · rename_i h; exact .inr ⟨0, by simp, by simp, by simpa using h⟩
    · rcases findI_ge l s (i + 1) with h | ⟨j, h1, h2, h3⟩
      · exact .inl h
      · exact .inr ⟨j + 1, by simpa using h1, by rw [h2]; omega, by simpa using h3⟩
theorem findI_at : ∀ (l : List Word) (i j : Nat), l.Nodup → j < l.length → findI l (l.getD j []) i = ((i + j : Nat) : Int)
  | [], i, j, _, h => absurd h (by simp)
  | x :: l, i, 0, _, _ => by simp [findI]
  | x :: l, i, j + 1, hn, h => by
    have hj : j < l.length := by simpa using h
    obtain ⟨h1, h2⟩ := List.nodup_cons.1 hn
    have : x ≠ l.getD j [] := fun e => h1 (e ▸ getD_mem hj)
    have e : (x :: l).getD (j + 1) [] = l.getD j [] := by simp
    rw [e, findI, if_neg this, findI_at l (i + 1) j h2 hj]
    omega
def findF (l : List Word) (s : Word) : Int := findI l s 0
theorem find_loop (l : List Word) (s : Word) (hl : l.length ≤ 1000) : ∀ (k i : Nat), i + k = l.length → loopO (m_lockstepref05_find_L1 l s) (i : Int) = some (if findI (l.drop i) s i = -1 then .inl () else .inr (findI (l.drop i) s i))
  | 0, i, h => by
    obtain rfl : i = l.length := by omega
    have e0 : decide ((l.length : Int) < (l.length : Int)) = false := by simp
    rw [loopO_done (x := Sum.inl ()) (by unfold m_lockstepref05_find_L1; simp only [e0, cond_false]), List.drop_length]
    rfl
  | k + 1, i, h => by
    have hi : i < l.length := by omega
    have hd : l.drop i = l.getD i [] :: l.drop (i + 1) := by rw [List.drop_eq_getElem_cons hi, getD_eq_of_lt _ _ _ hi]
    have e0 : decide ((i : Int) < (l.length : Int)) = true := decide_eq_true (by omega)
    rw [hd, findI]
    by_cases hx : l.getD i [] = s
    · have e1 : (l.getD i [] == s) = true := by simpa using hx
      rw [loopO_done (x := Sum.inr (i : Int)) (by
        unfold m_lockstepref05_find_L1
        show (bif decide ((i : Int) < (l.length : Int)) then _ else _) = _
        rw [e0, cond_true, chk_pos' (inB_nat hi), Int.toNat_natCast, e1, cond_true]), if_pos hx, if_neg (by omega)]
    · have e1 : (l.getD i [] == s) = false := by simpa using hx
      rw [loopO_next (s' := ((i + 1 : Nat) : Int)) (by
        unfold m_lockstepref05_find_L1
        show (bif decide ((i : Int) < (l.length : Int)) then _ else _) = _
        rw [e0, cond_true, chk_pos' (inB_nat hi), Int.toNat_natCast, e1, cond_false, w64_succ hi (by omega)]
        rfl), find_loop l s hl k (i + 1) (by omega), if_neg hx]
theorem find_eq (l : List Word) (s : Word) (hl : l.length ≤ 1000) : m_lockstepref05_find l s = some (findF l s) := by
  have := find_loop l s hl l.length 0 (Nat.zero_add _)
  unfold m_lockstepref05_find findF
  rw [show ((0 : Nat) : Int) = 0 from rfl, List.drop_zero] at this
  rw [this, Option.bind_some]
  by_cases h : findI l s 0 = -1
  · rw [if_pos h, h]
  · rw [if_neg h]
theorem kinds_nodup : kindsW.Nodup := by decide
theorem ends_nodup : endsW.Nodup := by decide
theorem findK_name {k : Int} (h : 0 ≤ k ∧ k < 23) : findF kindsW (nameK k) = k := by
  have := findI_at kindsW 0 k.toNat kinds_nodup (by rw [show kindsW.length = 23 from rfl]; omega)
  unfold findF nameK
  rw [this]; omega
theorem findE_name {k : Int} (h : 0 ≤ k ∧ k < 4) : findF endsW (nameE k) = k := by
  have := findI_at endsW 0 k.toNat ends_nodup (by rw [show endsW.length = 4 from rfl]; omega)
  unfold findF nameE
  rw [this]; omega
theorem findK_inv (w : Word) : findF kindsW w = -1 ∨ ((0 ≤ findF kindsW w ∧ findF kindsW w < 23) ∧ nameK (findF kindsW w) = w) := by
  rcases findI_ge kindsW w 0 with h | ⟨j, h1, h2, h3⟩
  · exact .inl h
  · rw [show kindsW.length = 23 from rfl] at h1
    right
    unfold findF nameK
    rw [h2]
    refine ⟨⟨by omega, by omega⟩, ?_⟩
    rw [Int.toNat_natCast, Nat.zero_add]
    exact h3
theorem findE_inv (w : Word) : findF endsW w = -1 ∨ ((0 ≤ findF endsW w ∧ findF endsW w < 4) ∧ nameE (findF endsW w) = w) := by
  rcases findI_ge endsW w 0 with h | ⟨j, h1, h2, h3⟩
  · exact .inl h
  · rw [show endsW.length = 4 from rfl] at h1
    right
    unfold findF nameE
    rw [h2]
    refine ⟨⟨by omega, by omega⟩, ?_⟩
    rw [Int.toNat_natCast, Nat.zero_add]
    exact h3
/-- Kind. -/
def kindF (s : Word) : Int × Bool := if findF kindsW s = -1 then (0, false) else (findF kindsW s, true)
theorem rkind_eq (s : Word) : m_lockstepref05_Kind s = some (kindF s) := by
  unfold m_lockstepref05_Kind kindF
  rw [kinds_eq, Option.bind_some, find_eq _ _ (by decide), Option.bind_some]
  rcases findK_inv s with h | ⟨h, _⟩
  · rw [h]; rfl
  · have : decide (findF kindsW s < 0) = false := decide_eq_false (by omega)
    rw [this, cond_false, if_neg (by omega)]
end Go.Proofs.YtcddajbcbkbipaaDoor

namespace Go.Proofs.YtcddajbcbkbipaaDoor
open Go Go.RowKit
set_option linter.unusedVariables false
set_option linter.unusedSimpArgs false

def V5 : VW TReader where
  left s := s.W.drop s.At.toNat
  fine s := s.Bad = false ∧ 0 ≤ s.At ∧ s.At ≤ s.W.length ∧ s.W.length ≤ 1000000000000
  spent k s := s.Bad = true ∧ 0 ≤ s.At ∧ s.At + k ≤ 4000000000000
  mono k j s h := ⟨h.1, h.2.1, by have := h.2.2; omega⟩
theorem spent_of {s : TReader} (h : V5.fine s) : ∀ k, k + 1 ≤ lotsW → V5.spent k ⟨s.W, s.At, true⟩ := fun k hk => by
  obtain ⟨_, h1, h2, h3⟩ := h
  refine ⟨rfl, h1, ?_⟩
  have : (lotsW : Nat) = 1000000 := rfl
  show s.At + (k : Int) ≤ 4000000000000
  omega
theorem next_eq (s : TReader) (h : 0 ≤ s.At) : m_lockstepref05_Reader_Next s = some ((s.W.drop s.At.toNat).headD [], s) := by
  unfold m_lockstepref05_Reader_Next
  by_cases hl : (s.W.length : Int) ≤ s.At
  · rw [decide_eq_true hl, cond_true, List.drop_eq_nil_of_le (by omega)]
    rfl
  · have hi : s.At.toNat < s.W.length := by omega
    rw [decide_eq_false hl, cond_false, chk_pos' ⟨h, by omega⟩, List.drop_eq_getElem_cons hi, getD_eq_of_lt _ _ _ hi]
    rfl
theorem next_fine {s : TReader} (h : V5.fine s) : m_lockstepref05_Reader_Next s = some ((V5.left s).headD [], s) := next_eq s h.2.1
theorem next_spent {s : TReader} {k : Nat} (h : V5.spent k s) : m_lockstepref05_Reader_Next s = some ((V5.left s).headD [], s) := next_eq s h.2.1
/-- One on. -/
def adv (s : TReader) : TReader := ⟨s.W, w64 (s.At + 1), s.Bad⟩
theorem adv_spent {s : TReader} {k : Nat} (h : V5.spent (k + 1) s) : V5.spent k (adv s) := by
  obtain ⟨h0, h1, h2⟩ := h
  have e : w64 (s.At + 1) = s.At + 1 := w64_of (by omega) (by omega)
  exact ⟨h0, by show 0 ≤ w64 (s.At + 1); omega, by show w64 (s.At + 1) + (k : Int) ≤ _; omega⟩
theorem adv_fine {s : TReader} (h : V5.fine s) {w : Word} {l : List Word} (hl : V5.left s = w :: l) : V5.fine (adv s) ∧ V5.left (adv s) = l := by
  obtain ⟨h0, h1, h2, h3⟩ := h
  have hlt : s.At.toNat < s.W.length := by
    have : 0 < (V5.left s).length := by rw [hl]; simp
    simp only [V5, List.length_drop] at this
    omega
  have e : w64 (s.At + 1) = s.At + 1 := w64_of (by omega) (by omega)
  refine ⟨⟨h0, by show 0 ≤ w64 (s.At + 1); omega, by show w64 (s.At + 1) ≤ _; simp only [adv]; omega, h3⟩, ?_⟩
  show s.W.drop (w64 (s.At + 1)).toNat = l
  have hd : s.W.drop s.At.toNat = w :: l := hl
  rw [List.drop_eq_getElem_cons hlt] at hd
  rw [e, show (s.At + 1).toNat = s.At.toNat + 1 by omega]
  exact (List.cons.inj hd).2
theorem left_head {s : TReader} {w : Word} (hw : w ≠ []) (h : (V5.left s).headD [] = w) : ∃ l, V5.left s = w :: l := by
  cases hl : V5.left s with
  | nil => rw [hl] at h; exact absurd h.symm hw
  | cons x l => rw [hl] at h; exact ⟨l, by rw [← h]; rfl⟩
theorem left_len {s : TReader} (h : V5.fine s) : (V5.left s).length ≤ 1000000000000 := by
  obtain ⟨_, _, _, h3⟩ := h
  simp only [V5, List.length_drop]
  omega

/-! ### Numbers -/
theorem num_loop (w : Word) (s : TReader) (hw : w.length ≤ 20) : ∀ (k i acc : Nat), i + k = w.length → acc < 18446744073709551616 →
    loopO (m_lockstepref05_Reader_Num_L1 (w, s)) ((acc : Int), (i : Int)) = some (match parseD (w.drop i) acc with | some v => .inl (v : Int) | none => .inr (0, ⟨s.W, s.At, true⟩))
  | 0, i, acc, h, ha => by
    obtain rfl : i = w.length := by omega
    have e0 : decide ((w.length : Int) < (w.length : Int)) = false := by simp
    rw [loopO_done (x := Sum.inl (acc : Int)) (by unfold m_lockstepref05_Reader_Num_L1; simp only [e0, cond_false]), List.drop_length]
    rfl
  | k + 1, i, acc, h, ha => by
    have hi : i < w.length := by omega
    have hd : w.drop i = w.getD i 0 :: w.drop (i + 1) := by rw [List.drop_eq_getElem_cons hi, getD_eq_of_lt _ _ _ hi]
    have e0 : decide ((i : Int) < (w.length : Int)) = true := decide_eq_true (by omega)
    have hI : InB (i : Int) w.length := inB_nat hi
    have hstep : m_lockstepref05_Reader_Num_L1 (w, s) ((acc : Int), (i : Int)) = some (if 48 ≤ w.getD i 0 ∧ w.getD i 0 ≤ 57 ∧ acc * 10 + (w.getD i 0 - 48).toNat < 18446744073709551616 then .next (((acc * 10 + (w.getD i 0 - 48).toNat : Nat) : Int), ((i + 1 : Nat) : Int)) else .done (.inr (0, ⟨s.W, s.At, true⟩))) := by
      unfold m_lockstepref05_Reader_Num_L1
      show (bif decide ((i : Int) < (w.length : Int)) then _ else _) = _
      rw [e0, cond_true, Int.toNat_natCast]
      show chk (InB (i : Int) w.length) (chk (InB (i : Int) w.length) (chk (_ → InB (i : Int) w.length) _)) = _
      generalize w.getD i 0 = x
      rw [chk_pos' hI, chk_pos' hI, chk_pos' (fun _ => hI)]
      by_cases h1 : x < 48
      · rw [decide_eq_true h1, if_neg (by omega)]; rfl
      · by_cases h2 : 57 < x
        · rw [decide_eq_false h1, decide_eq_true h2, if_neg (by omega)]; rfl
        · have ew : wu64 x = x := wu64_of (by omega) (by omega)
          have ew2 : wu64 (x - 48) = x - 48 := wu64_of (by omega) (by omega)
          rw [decide_eq_false h1, decide_eq_false h2, ew, ew2]
          have e3 : wu64 ((18446744073709551615 : Int) - (x - 48)) = 18446744073709551615 - (x - 48) := wu64_of (by omega) (by omega)
          have e4 : Int.tdiv ((18446744073709551615 : Int) - (x - 48)) 10 = (18446744073709551615 - (x - 48)) / 10 := Int.tdiv_eq_ediv_of_nonneg (by omega)
          have e5 : wu64 (((18446744073709551615 : Int) - (x - 48)) / 10) = (18446744073709551615 - (x - 48)) / 10 := wu64_of (by omega) (by omega)
          rw [e3, e4, e5]
          by_cases h3 : acc * 10 + (x - 48).toNat < 18446744073709551616
          · have h4 : ¬ ((18446744073709551615 : Int) - (x - 48)) / 10 < (acc : Int) := by omega
            have e6 : wu64 ((acc : Int) * 10) = (acc : Int) * 10 := wu64_of (by omega) (by omega)
            have e7 : wu64 ((acc : Int) * 10 + (x - 48)) = ((acc * 10 + (x - 48).toNat : Nat) : Int) := by rw [wu64_of (by omega) (by omega)]; omega
            rw [decide_eq_false h4, e6, e7, if_pos ⟨by omega, by omega, h3⟩, w64_succ hi (by omega)]
            rfl
          · have h4 : ((18446744073709551615 : Int) - (x - 48)) / 10 < (acc : Int) := by omega
            rw [decide_eq_true h4, if_neg (by omega)]; rfl
    rw [hd, parseD]
    split at hstep
    · rename_i hc
      rw [loopO_next hstep, if_pos hc, num_loop w s hw k (i + 1) _ (by omega) hc.2.2]
    · rename_i hc
      rw [loopO_done hstep, if_neg hc]
theorem num_eq (most : Int) (s : TReader) (h : 0 ≤ s.At) : m_lockstepref05_Reader_Num most s = some (match numV ((V5.left s).headD []) with | some v => if (v : Int) ≤ most then ((v : Int), adv s) else (0, ⟨s.W, s.At, true⟩) | none => (0, ⟨s.W, s.At, true⟩)) := by
  unfold m_lockstepref05_Reader_Num
  rw [next_eq s h, Option.bind_some]
  show _ = some (match numV ((s.W.drop s.At.toNat).headD []) with | some v => _ | none => _)
  generalize (s.W.drop s.At.toNat).headD [] = w
  have hcond : (bif (bif (bif (w == ([] : Word)) then true else (decide ((20 : Int) < (w.length : Int)))) then true else (bif (decide ((1 : Int) < (w.length : Int))) then (w.getD ((0 : Int)).toNat 0 == 48) else false)) then true else false) = decide (w = [] ∨ 20 < w.length ∨ (1 < w.length ∧ w.headD 0 = 48)) := by
    have e1 : w.getD ((0 : Int)).toNat 0 = w.headD 0 := by cases w <;> rfl
    have e2 : decide ((20 : Int) < (w.length : Int)) = decide (20 < w.length) := by simp only [decide_eq_decide]; omega
    have e3 : decide ((1 : Int) < (w.length : Int)) = decide (1 < w.length) := by simp only [decide_eq_decide]; omega
    have e4 : (w.headD 0 == 48) = decide (w.headD 0 = 48) := by
      by_cases h : w.headD 0 = 48
      · rw [decide_eq_true h, h]; rfl
      · rw [decide_eq_false h, beq_eq_false_iff_ne]; exact h
    rw [e1, e2, e3, e4, beq_nil]
    by_cases a : w = [] <;> by_cases b : 20 < w.length <;> by_cases c : 1 < w.length <;> by_cases d : w.headD 0 = 48 <;> simp [a, b, c, d]
  show chk ((((bif (w == ([] : Word)) then true else (decide ((20 : Int) < (w.length : Int)))) == false) && ((decide ((1 : Int) < (w.length : Int))) == true)) = true → (InB (0 : Int) w.length)) (bif (bif (bif (w == ([] : Word)) then true else (decide ((20 : Int) < (w.length : Int)))) then true else (bif (decide ((1 : Int) < (w.length : Int))) then (w.getD ((0 : Int)).toNat 0 == 48) else false)) then _ else _) = _
  rw [chk_pos' (fun hh => by
    simp only [Bool.and_eq_true, beq_iff_eq, decide_eq_true_eq] at hh
    exact ⟨by omega, by omega⟩)]
  have hc2 : (bif (bif (w == ([] : Word)) then true else (decide ((20 : Int) < (w.length : Int)))) then true else (bif (decide ((1 : Int) < (w.length : Int))) then (w.getD ((0 : Int)).toNat 0 == 48) else false)) = decide (w = [] ∨ 20 < w.length ∨ (1 < w.length ∧ w.headD 0 = 48)) := by
    rw [← hcond]
    generalize (bif (bif (w == ([] : Word)) then true else (decide ((20 : Int) < (w.length : Int)))) then true else (bif (decide ((1 : Int) < (w.length : Int))) then (w.getD ((0 : Int)).toNat 0 == 48) else false)) = b
    cases b <;> rfl
  rw [hc2]
  unfold numV
  by_cases hc : w = [] ∨ 20 < w.length ∨ (1 < w.length ∧ w.headD 0 = 48)
  · rw [decide_eq_true hc, cond_true, if_pos hc]
  · rw [decide_eq_false hc, cond_false, if_neg hc]
    have hl := num_loop w s (by simp only [not_or] at hc; omega) w.length 0 0 (Nat.zero_add _) (by omega)
    rw [show ((0 : Nat) : Int) = 0 from rfl, List.drop_zero] at hl
    rw [hl, Option.bind_some]
    cases hp : parseD w 0 with
    | none => rfl
    | some v =>
      by_cases hv : (v : Int) ≤ most
      · have : decide (most < (v : Int)) = false := decide_eq_false (by omega)
        simp only [this, cond_false, if_pos hv]
        rfl
      · have : decide (most < (v : Int)) = true := decide_eq_true (by omega)
        simp only [this, cond_true, if_neg hv]
def oneW (x : Int) : List Word := [dg x]
theorem rd_num (most : Int) (h0 : 0 ≤ most) (hm : most < 18446744073709551616) : Rd V5 (m_lockstepref05_Reader_Num most) oneW (fun n => 0 ≤ n ∧ n ≤ most) anyW 1 where
  sticky k s hs := by
    rw [num_eq most s hs.2.1]
    have hbad : V5.spent k ⟨s.W, s.At, true⟩ := ⟨rfl, hs.2.1, by have := hs.2.2; show s.At + (k : Int) ≤ _; omega⟩
    cases numV ((V5.left s).headD []) with
    | none => exact ⟨_, _, rfl, hbad⟩
    | some v =>
      by_cases hv : (v : Int) ≤ most
      · exact ⟨(v : Int), adv s, by simp only [if_pos hv], adv_spent hs⟩
      · exact ⟨0, ⟨s.W, s.At, true⟩, by simp only [if_neg hv], hbad⟩
  any s hs _ := by
    rw [num_eq most s hs.2.1]
    cases hn : numV ((V5.left s).headD []) with
    | none => exact ⟨_, _, rfl, .inr (spent_of hs)⟩
    | some v =>
      by_cases hv : (v : Int) ≤ most
      · obtain ⟨h1, h2⟩ := numV_inv hn
        obtain ⟨l, hl⟩ := left_head (digN_ne v) h1
        obtain ⟨f1, f2⟩ := adv_fine hs hl
        refine ⟨(v : Int), adv s, by simp only [if_pos hv], .inl ⟨f1, ⟨by omega, hv⟩, trivial, ?_⟩⟩
        rw [f2, hl]
        simp [oneW, dg]
      · exact ⟨0, ⟨s.W, s.At, true⟩, by simp only [if_neg hv], .inr (spent_of hs)⟩
  whole s a more hs hp _ hl := by
    rw [num_eq most s hs.2.1]
    have hh : (V5.left s).headD [] = digN a.toNat := by rw [hl]; rfl
    rw [hh, numV_dig _ (by have := hp.2; have := hp.1; omega)]
    obtain ⟨f1, f2⟩ := adv_fine hs hl
    have ha : ((a.toNat : Nat) : Int) = a := by have := hp.1; omega
    exact ⟨adv s, by simp only [ha, if_pos hp.2], f1, f2⟩
theorem rd_int : Rd V5 m_lockstepref05_Reader_Int oneW isNum anyW 1 :=
  (rd_num 2147483647 (by decide) (by decide)).map (fun x => w64 x) (fun x => x) (fun b hb => w64_of (by have := hb.1; omega) (by have := hb.2; omega)) (fun b hb => hb) (fun a ha => by rw [w64_of (by have := ha.1; omega) (by have := ha.2; omega)]; exact ha) (fun a ha => by rw [w64_of (by have := ha.1; omega) (by have := ha.2; omega)])

/-! ### Lists -/
theorem list_stop (l : List Int) (s : TReader) (h : s.Bad = true) : m_lockstepref05_Reader_List_L1 (l, s.W, s.At, s.Bad) = some (.done (l, s.W, s.At, s.Bad)) := by
  obtain ⟨W, A, B⟩ := s
  obtain rfl : B = true := h
  unfold m_lockstepref05_Reader_List_L1
  rfl
theorem list_round (l : List Int) (s : TReader) (h : V5.fine s) : m_lockstepref05_Reader_List_L1 (l, s.W, s.At, s.Bad) = bif !((V5.left s).headD [] == [41]) then (m_lockstepref05_Reader_Int s).bind fun x11 => chk (l.length + 1 ≤ room) (some (.next (l ++ [x11.1], x11.2.W, x11.2.At, x11.2.Bad))) else some (.done (l, s.W, s.At, s.Bad)) := by
  have hn := next_fine h
  obtain ⟨W, A, B⟩ := s
  obtain rfl : B = false := h.1
  unfold m_lockstepref05_Reader_List_L1
  show ((bif ((!false) == true) then m_lockstepref05_Reader_Next ⟨W, A, false⟩ else _).bind _) = _
  rw [show ((!false) == true) = true from rfl, cond_true, hn, Option.bind_some]
  rfl
noncomputable def goL (l : List Int) (s : TReader) : Option (List Int × TReader) := (loopO m_lockstepref05_Reader_List_L1 (l, s.W, s.At, s.Bad)).bind fun x => some (x.1, ⟨x.2.1, x.2.2.1, x.2.2.2⟩)
def headL (l : List Word) : Bool := !(l.headD [] == [41])
theorem rd_items : Rd V5 (goL []) (fun l => (l.map oneW).flatten) (fun l => ∀ a ∈ l, isNum a) (fun more => more.headD [] = [41]) 1 := by
  refine RdH.star (m := m_lockstepref05_Reader_Int) (E := oneW) (Q := anyW) headL ⟨rd_int.sticky, fun s hs _ => rd_int.any s hs trivial, rd_int.whole⟩ (by decide) 1000000000000 _ goL (fun s hs => left_len hs) (fun a _ => by simp [oneW]) (fun a more ha => ?_) (fun _ _ _ _ => trivial) (fun more hm => ?_) (fun s hs hh => ?_) (fun l s hs hh => ?_) (fun k l s hs => ?_) (fun l s a s' hs hh hm _ hl => ?_)
  · unfold headL oneW
    have : (dg a == [41]) = false := by
      rw [beq_eq_false_iff_ne]
      intro h
      have := digN_dig a.toNat 41 (by show (41 : Int) ∈ dg a; rw [h]; simp)
      have := this.1
      omega
    show (!((dg a :: more).headD [] == [41])) = true
    rw [List.headD_cons, this]; rfl
  · unfold headL; rw [hm]; rfl
  · unfold headL at hh; simpa using hh
  · have hst : m_lockstepref05_Reader_List_L1 (l, s.W, s.At, s.Bad) = some (.done (l, s.W, s.At, s.Bad)) := by
      rw [list_round l s hs]
      unfold headL at hh
      rw [hh, cond_false]
    unfold goL
    rw [loopO_done hst, Option.bind_some]
  · refine ⟨l, s, ?_, hs⟩
    unfold goL
    rw [loopO_done (list_stop l s hs.1), Option.bind_some]
  · have hst : m_lockstepref05_Reader_List_L1 (l, s.W, s.At, s.Bad) = some (.next (l ++ [a], s'.W, s'.At, s'.Bad)) := by
      rw [list_round l s hs]
      unfold headL at hh
      rw [hh, cond_true, hm, Option.bind_some, chk_pos' (by simp only [room]; omega)]
    unfold goL
    rw [loopO_next hst]
theorem items_flat (l : List Int) : (l.map oneW).flatten = l.map dg := by
  induction l with
  | nil => rfl
  | cons x l ih => rw [List.map_cons, List.flatten_cons, ih, List.map_cons]; rfl
theorem list_run (s : TReader) (h : 0 ≤ s.At) : m_lockstepref05_Reader_List s = if (V5.left s).headD [] = [40] then (goL [] (adv s)).bind fun x => some (x.1, adv x.2) else some ([], ⟨s.W, s.At, true⟩) := by
  unfold m_lockstepref05_Reader_List
  rw [next_eq s h, Option.bind_some]
  show (bif !((V5.left s).headD [] == [40]) then _ else _) = _
  by_cases hc : (V5.left s).headD [] = [40]
  · have : ((V5.left s).headD [] == [40]) = true := by rw [hc]; rfl
    rw [this, if_pos hc, Bool.not_true, cond_false]
    unfold goL
    show Option.bind (loopO m_lockstepref05_Reader_List_L1 (([] : List Int), s.W, w64 (s.At + 1), s.Bad)) _ = Option.bind (Option.bind (loopO m_lockstepref05_Reader_List_L1 (([] : List Int), s.W, w64 (s.At + 1), s.Bad)) _) _
    cases loopO m_lockstepref05_Reader_List_L1 (([] : List Int), s.W, w64 (s.At + 1), s.Bad) with
    | none => rfl
    | some x => rfl
  · have : ((V5.left s).headD [] == [40]) = false := by rw [beq_eq_false_iff_ne]; exact hc
    rw [this, if_neg hc]
    rfl
theorem rd_list : Rd V5 m_lockstepref05_Reader_List listW (fun l => ∀ a ∈ l, isNum a) anyW 3 where
  sticky k s hs := by
    rw [list_run s hs.2.1]
    have hm : ∀ j, j ≤ k + 3 → V5.spent j s := fun j hj => V5.mono j (k + 3 - j) s (by rw [show j + (k + 3 - j) = k + 3 by omega]; exact hs)
    by_cases hc : (V5.left s).headD [] = [40]
    · rw [if_pos hc]
      have h1 : V5.spent (k + 2) (adv s) := adv_spent (hm (k + 3) (by omega))
      have e : goL [] (adv s) = some ([], adv s) := by
        unfold goL
        rw [loopO_done (list_stop [] (adv s) h1.1), Option.bind_some]
      rw [e, Option.bind_some]
      exact ⟨_, _, rfl, adv_spent (V5.mono (k + 1) 1 _ h1)⟩
    · rw [if_neg hc]
      refine ⟨_, _, rfl, ?_⟩
      obtain ⟨h0, h1, h2⟩ := hm k (by omega)
      exact ⟨rfl, h1, h2⟩
  any s hs _ := by
    rw [list_run s hs.2.1]
    by_cases hc : (V5.left s).headD [] = [40]
    · rw [if_pos hc]
      obtain ⟨l0, hl0⟩ := left_head (by decide) hc
      obtain ⟨f1, f2⟩ := adv_fine hs hl0
      obtain ⟨l, s', e, hd⟩ := rd_items.any (adv s) f1 trivial
      rw [e, Option.bind_some]
      refine ⟨l, adv s', rfl, ?_⟩
      rcases hd with ⟨g1, g2, g3, g4⟩ | hd
      · obtain ⟨l1, hl1⟩ := left_head (by decide) g3
        obtain ⟨j1, j2⟩ := adv_fine g1 hl1
        refine .inl ⟨j1, g2, trivial, ?_⟩
        rw [j2, hl0, ← f2, g4, hl1, items_flat]
        simp [listW]
      · exact .inr fun k hk => adv_spent (hd (k + 1) (by omega))
    · rw [if_neg hc]
      exact ⟨_, _, rfl, .inr fun k hk => spent_of hs k (by omega)⟩
  whole s l more hs hp _ hl := by
    rw [list_run s hs.2.1]
    have hl' : V5.left s = [40] :: ((l.map oneW).flatten ++ ([41] :: more)) := by rw [hl, items_flat]; simp [listW]
    have hc : (V5.left s).headD [] = [40] := by rw [hl']; rfl
    rw [if_pos hc]
    obtain ⟨f1, f2⟩ := adv_fine hs hl'
    obtain ⟨s', e, g1, g2⟩ := rd_items.whole (adv s) l ([41] :: more) f1 hp rfl f2
    obtain ⟨j1, j2⟩ := adv_fine g1 g2
    rw [e, Option.bind_some]
    exact ⟨adv s', rfl, j1, j2⟩
end Go.Proofs.YtcddajbcbkbipaaDoor

namespace Go.Proofs.YtcddajbcbkbipaaDoor
open Go Go.RowKit
set_option linter.unusedVariables false
set_option linter.unusedSimpArgs false

def numsP (l : List Int) : Prop := ∀ a ∈ l, isNum a
def phiP (p : TPhi) : Prop := isNum p.Bits ∧ isNum p.Dst ∧ numsP p.From ∧ numsP p.Args
def opP (o : TOp) : Prop := (0 ≤ o.Kind ∧ o.Kind < 23) ∧ isNum o.Bits ∧ isNum o.Lanes ∧ isNum o.Dst ∧ numsP o.Args ∧ wideP o.Imm
def endP (e : TEnd) : Prop := (0 ≤ e.Kind ∧ e.Kind < 4) ∧ isNum e.Arg ∧ numsP e.To
def blockP (b : TBlock) : Prop := (∀ p ∈ b.Phis, phiP p) ∧ (∀ o ∈ b.Ops, opP o) ∧ endP b.End
def funcP (f : TFunc) : Prop := numsP f.Params ∧ isNum f.Ret ∧ ∀ b ∈ f.Blocks, blockP b

theorem RdH.word {α : Type} {m : TReader → Option (α × TReader)} {E : α → List Word} {P : α → Prop} {Q : List Word → Prop} {c : Nat} (h : Rd V5 m E P Q c) (w0 : Word) (hw : w0 ≠ []) : RdH V5 (fun l => l.headD [] = w0) (fun s => m (adv s)) (fun a => w0 :: E a) P Q (c + 1) where
  sticky k s hs := h.sticky k (adv s) (adv_spent (by rw [show k + c + 1 = k + (c + 1) by omega]; exact hs))
  any s hs hh := by
    obtain ⟨l, hl⟩ := left_head hw hh
    obtain ⟨f1, f2⟩ := adv_fine hs hl
    obtain ⟨a, s', e, hd⟩ := h.any (adv s) f1 trivial
    refine ⟨a, s', e, ?_⟩
    rcases hd with ⟨g1, g2, g3, g4⟩ | hd
    · exact .inl ⟨g1, g2, g3, by rw [hl, ← f2, g4]; rfl⟩
    · exact .inr fun k hk => hd k (by omega)
  whole s a more hs hp hq hl := by
    obtain ⟨f1, f2⟩ := adv_fine hs hl
    exact h.whole (adv s) a more f1 hp hq f2

/-! ### Phis -/
noncomputable def mphi (s : TReader) : Option (TPhi × TReader) := (m_lockstepref05_Reader_Int s).bind fun x1 => (m_lockstepref05_Reader_Int x1.2).bind fun x2 => (m_lockstepref05_Reader_List x2.2).bind fun x3 => (m_lockstepref05_Reader_List x3.2).bind fun x4 => some ((⟨x1.1, x2.1, x3.1, x4.1⟩ : TPhi), x4.2)
theorem rd_phi : Rd V5 mphi (fun p => dg p.Bits :: dg p.Dst :: (listW p.From ++ listW p.Args)) phiP anyW 8 := by
  refine ((rd_int.pair (rd_int.pair (rd_list.pair rd_list (fun _ _ _ _ => trivial)) (fun _ _ _ _ => trivial)) (fun _ _ _ _ => trivial)).map (P' := phiP) (F := fun p => dg p.Bits :: dg p.Dst :: (listW p.From ++ listW p.Args)) (fun x => (⟨x.1, x.2.1, x.2.2.1, x.2.2.2⟩ : TPhi)) (fun p => (p.Bits, p.Dst, p.From, p.Args)) (fun _ _ => rfl) (fun p h => h) (fun a h => h) (fun _ _ => rfl)).of_eq (fun s => ?_)
  unfold mphi
  simp only [Option.bind_assoc, Option.bind_some]
def headP (l : List Word) : Bool := l.headD [] == phiT
theorem phis_stop (l : List TPhi) (s : TReader) (h : s.Bad = true) : m_lockstepref05_Reader_block_L1 (l, s.W, s.At, s.Bad) = some (.done (l, s.W, s.At, s.Bad)) := by
  obtain ⟨W, A, B⟩ := s
  obtain rfl : B = true := h
  unfold m_lockstepref05_Reader_block_L1
  rfl
theorem phis_round (l : List TPhi) (s : TReader) (h : V5.fine s) : m_lockstepref05_Reader_block_L1 (l, s.W, s.At, s.Bad) = bif headP (V5.left s) then (mphi (adv s)).bind fun x => chk (l.length + 1 ≤ room) (some (.next (l ++ [x.1], x.2.W, x.2.At, x.2.Bad))) else some (.done (l, s.W, s.At, s.Bad)) := by
  have hn := next_fine h
  obtain ⟨W, A, B⟩ := s
  obtain rfl : B = false := h.1
  unfold m_lockstepref05_Reader_block_L1
  show ((bif ((!false) == true) then m_lockstepref05_Reader_Next ⟨W, A, false⟩ else _).bind _) = _
  rw [show ((!false) == true) = true from rfl, cond_true, hn, Option.bind_some]
  unfold mphi
  simp only [Option.bind_assoc, Option.bind_some]
  rfl
noncomputable def goP (l : List TPhi) (s : TReader) : Option (List TPhi × TReader) := (loopO m_lockstepref05_Reader_block_L1 (l, s.W, s.At, s.Bad)).bind fun x => some (x.1, ⟨x.2.1, x.2.2.1, x.2.2.2⟩)
theorem rd_phis : Rd V5 (goP []) (fun l => (l.map phiW).flatten) (fun l => ∀ a ∈ l, phiP a) (fun more => headP more = false) 9 := by
  refine RdH.star (m := fun s => mphi (adv s)) (E := phiW) (Q := anyW) headP ((rd_phi.word phiT (by decide)).pre fun l hl => by simpa [headP] using hl) (by decide) 1000000000000 _ goP (fun s hs => left_len hs) (fun a _ => by simp [phiW]) (fun a more ha => rfl) (fun _ _ _ _ => trivial) (fun more hm => hm) (fun s hs hh => hh) (fun l s hs hh => ?_) (fun k l s hs => ?_) (fun l s a s' hs hh hm _ hl => ?_)
  · unfold goP
    rw [loopO_done (x := (l, s.W, s.At, s.Bad)) (by rw [phis_round l s hs, hh, cond_false]), Option.bind_some]
  · refine ⟨l, s, ?_, hs⟩
    unfold goP
    rw [loopO_done (phis_stop l s hs.1), Option.bind_some]
  · unfold goP
    rw [loopO_next (s' := (l ++ [a], s'.W, s'.At, s'.Bad)) (by rw [phis_round l s hs, hh, cond_true, hm, Option.bind_some, chk_pos' (by simp only [room]; omega)])]

/-! ### Operations -/
noncomputable def mop (k : Int) (s : TReader) : Option (TOp × TReader) := (m_lockstepref05_Reader_Int s).bind fun x1 => (m_lockstepref05_Reader_Int x1.2).bind fun x2 => (m_lockstepref05_Reader_Int x2.2).bind fun x3 => (m_lockstepref05_Reader_List x3.2).bind fun x4 => (m_lockstepref05_Reader_Num (18446744073709551615 : Int) x4.2).bind fun x5 => some ((⟨k, x1.1, x2.1, x3.1, x4.1, x5.1⟩ : TOp), x5.2)
def opT (o : TOp) : List Word := dg o.Bits :: dg o.Lanes :: dg o.Dst :: (listW o.Args ++ [dg o.Imm])
theorem wide_le {x : Int} (h : wideP x) : 0 ≤ x ∧ x ≤ 18446744073709551615 := ⟨h.1, by have := h.2; omega⟩
theorem le_wide {x : Int} (h : 0 ≤ x ∧ x ≤ 18446744073709551615) : wideP x := ⟨h.1, by have := h.2; omega⟩
theorem rd_op (k : Int) : Rd V5 (mop k) opT (fun o => o.Kind = k ∧ isNum o.Bits ∧ isNum o.Lanes ∧ isNum o.Dst ∧ numsP o.Args ∧ wideP o.Imm) anyW 7 := by
  refine ((rd_int.pair (rd_int.pair (rd_int.pair (rd_list.pair (rd_num 18446744073709551615 (by decide) (by decide)) (fun _ _ _ _ => trivial)) (fun _ _ _ _ => trivial)) (fun _ _ _ _ => trivial)) (fun _ _ _ _ => trivial)).map
    (P' := fun o => o.Kind = k ∧ isNum o.Bits ∧ isNum o.Lanes ∧ isNum o.Dst ∧ numsP o.Args ∧ wideP o.Imm) (F := opT) (fun x => (⟨k, x.1, x.2.1, x.2.2.1, x.2.2.2.1, x.2.2.2.2⟩ : TOp)) (fun o => (o.Bits, o.Lanes, o.Dst, o.Args, o.Imm)) (fun o h => ?_) (fun o h => ⟨h.2.1, h.2.2.1, h.2.2.2.1, h.2.2.2.2.1, wide_le h.2.2.2.2.2⟩) (fun a h => ⟨rfl, h.1, h.2.1, h.2.2.1, h.2.2.2.1, le_wide h.2.2.2.2⟩) (fun _ _ => rfl)).of_eq (fun s => ?_)
  · obtain ⟨rfl, _⟩ := h; rfl
  · unfold mop
    simp only [Option.bind_assoc, Option.bind_some]
def headO (l : List Word) : Bool := decide (0 ≤ findF kindsW (l.headD []))
noncomputable def mopI (s : TReader) : Option (TOp × TReader) := mop (findF kindsW ((V5.left s).headD [])) (adv s)
theorem headO_name {k : Int} (hk : 0 ≤ k ∧ k < 23) (l : List Word) : headO (nameK k :: l) = true := by
  unfold headO
  rw [List.headD_cons, findK_name hk]
  exact decide_eq_true hk.1
theorem rd_opI : RdH V5 (fun l => headO l = true) mopI opW opP anyW 8 where
  sticky k s hs := (rd_op _).sticky k (adv s) (adv_spent (by rw [show k + 7 + 1 = k + 8 by omega]; exact hs))
  any s hs hh := by
    have hk : 0 ≤ findF kindsW ((V5.left s).headD []) := by simpa [headO] using hh
    rcases findK_inv ((V5.left s).headD []) with h | ⟨h1, h2⟩
    · omega
    · have hne : nameK (findF kindsW ((V5.left s).headD [])) ≠ [] := (kinds_nosep _ (nameK_mem h1)).1
      obtain ⟨l, hl⟩ := left_head hne h2.symm
      obtain ⟨f1, f2⟩ := adv_fine hs hl
      obtain ⟨a, s', e, hd⟩ := (rd_op (findF kindsW ((V5.left s).headD []))).any (adv s) f1 trivial
      refine ⟨a, s', e, ?_⟩
      rcases hd with ⟨g1, ⟨g2, g5⟩, g3, g4⟩ | hd
      · refine .inl ⟨g1, ⟨by rw [g2]; exact h1, g5⟩, trivial, ?_⟩
        rw [hl, ← f2, g4, ← g2]
        rfl
      · exact .inr fun k hk => hd k (by omega)
  whole s a more hs hp hq hl := by
    have hl' : V5.left s = nameK a.Kind :: (opT a ++ more) := hl
    obtain ⟨f1, f2⟩ := adv_fine hs hl'
    have hk : findF kindsW ((V5.left s).headD []) = a.Kind := by rw [hl', List.headD_cons, findK_name hp.1]
    unfold mopI
    rw [hk]
    exact (rd_op a.Kind).whole (adv s) a more f1 ⟨rfl, hp.2⟩ trivial f2
theorem ops_stop (k : Int) (l : List TOp) (s : TReader) (h : s.Bad = true) : m_lockstepref05_Reader_block_L2 (k, l, s.W, s.At, s.Bad) = some (.done (l, s.W, s.At, s.Bad)) := by
  obtain ⟨W, A, B⟩ := s
  obtain rfl : B = true := h
  unfold m_lockstepref05_Reader_block_L2
  rfl
theorem ops_round (k : Int) (l : List TOp) (s : TReader) (h : s.Bad = false) : m_lockstepref05_Reader_block_L2 (k, l, s.W, s.At, s.Bad) = bif decide (0 ≤ k) then (mop k (adv s)).bind fun x => chk (l.length + 1 ≤ room) ((m_lockstepref05_Reader_Next x.2).bind fun y => some (.next (findF kindsW y.1, l ++ [x.1], y.2.W, y.2.At, y.2.Bad))) else some (.done (l, s.W, s.At, s.Bad)) := by
  obtain ⟨W, A, B⟩ := s
  obtain rfl : B = false := h
  unfold m_lockstepref05_Reader_block_L2 mop
  simp only [Option.bind_assoc, Option.bind_some, kinds_eq, find_eq kindsW _ (show kindsW.length ≤ 1000 by decide)]
  rfl
noncomputable def goO (l : List TOp) (s : TReader) : Option (List TOp × TReader) := (loopO m_lockstepref05_Reader_block_L2 (findF kindsW ((V5.left s).headD []), l, s.W, s.At, s.Bad)).bind fun x => some (x.1, ⟨x.2.1, x.2.2.1, x.2.2.2⟩)
theorem at_nonneg {s : TReader} (h : V5.fine s ∨ V5.spent 0 s) : 0 ≤ s.At := h.elim (fun h => h.2.1) fun h => h.2.1
theorem rd_ops : Rd V5 (goO []) (fun l => (l.map opW).flatten) (fun l => ∀ a ∈ l, opP a) (fun more => headO more = false) 8 := by
  refine RdH.star (m := mopI) (E := opW) (Q := anyW) headO rd_opI (by decide) 1000000000000 _ goO (fun s hs => left_len hs) (fun a _ => by simp [opW]) (fun a more ha => headO_name ha.1 _) (fun _ _ _ _ => trivial) (fun more hm => hm) (fun s hs hh => hh) (fun l s hs hh => ?_) (fun k l s hs => ?_) (fun l s a s' hs hh hm hs' hl => ?_)
  · unfold goO
    rw [loopO_done (x := (l, s.W, s.At, s.Bad)) (by rw [ops_round _ l s hs.1]; unfold headO at hh; rw [hh, cond_false]), Option.bind_some]
  · refine ⟨l, s, ?_, hs⟩
    unfold goO
    rw [loopO_done (ops_stop _ l s hs.1), Option.bind_some]
  · have hst : m_lockstepref05_Reader_block_L2 (findF kindsW ((V5.left s).headD []), l, s.W, s.At, s.Bad) = some (.next (findF kindsW ((V5.left s').headD []), l ++ [a], s'.W, s'.At, s'.Bad)) := by
      rw [ops_round _ l s hs.1]
      unfold headO at hh
      unfold mopI at hm
      rw [hh, cond_true, hm, Option.bind_some, chk_pos' (by simp only [room]; omega), next_eq s' (at_nonneg hs'), Option.bind_some]
      rfl
    unfold goO
    rw [loopO_next hst]

/-! ### Ends, blocks -/
noncomputable def mendT (k : Int) (s : TReader) : Option (TEnd × TReader) := (m_lockstepref05_Reader_Int s).bind fun x1 => (m_lockstepref05_Reader_List x1.2).bind fun x2 => some ((⟨k, x1.1, x2.1⟩ : TEnd), x2.2)
theorem rd_endT (k : Int) : Rd V5 (mendT k) (fun e => dg e.Arg :: listW e.To) (fun e => e.Kind = k ∧ isNum e.Arg ∧ numsP e.To) anyW 4 := by
  refine ((rd_int.pair rd_list (fun _ _ _ _ => trivial)).map (P' := fun e => e.Kind = k ∧ isNum e.Arg ∧ numsP e.To) (F := fun e => dg e.Arg :: listW e.To) (fun x => (⟨k, x.1, x.2⟩ : TEnd)) (fun e => (e.Arg, e.To)) (fun e h => ?_) (fun e h => h.2) (fun a h => ⟨rfl, h⟩) (fun _ _ => rfl)).of_eq (fun s => ?_)
  · obtain ⟨rfl, _⟩ := h; rfl
  · unfold mendT
    simp only [Option.bind_assoc, Option.bind_some]
noncomputable def mend (s : TReader) : Option (TEnd × TReader) := bif (bif s.Bad then true else decide (findF endsW ((V5.left s).headD []) < 0)) then some (⟨0, 0, []⟩, ⟨s.W, s.At, true⟩) else mendT (findF endsW ((V5.left s).headD [])) (adv s)
theorem rd_end : Rd V5 mend endW endP anyW 5 where
  sticky k s hs := by
    unfold mend
    rw [hs.1, cond_true, cond_true]
    exact ⟨_, _, rfl, ⟨rfl, hs.2.1, by have := hs.2.2; show s.At + (k : Int) ≤ _; omega⟩⟩
  any s hs _ := by
    unfold mend
    rw [hs.1, cond_false]
    rcases findE_inv ((V5.left s).headD []) with h | ⟨h1, h2⟩
    · rw [h]
      exact ⟨_, _, rfl, .inr fun k hk => spent_of hs k (by omega)⟩
    · have hne : nameE (findF endsW ((V5.left s).headD [])) ≠ [] := (ends_nosep _ (nameE_mem h1)).1
      obtain ⟨l, hl⟩ := left_head hne h2.symm
      obtain ⟨f1, f2⟩ := adv_fine hs hl
      have : decide (findF endsW ((V5.left s).headD []) < 0) = false := decide_eq_false (by omega)
      rw [this, cond_false]
      obtain ⟨a, s', e, hd⟩ := (rd_endT (findF endsW ((V5.left s).headD []))).any (adv s) f1 trivial
      refine ⟨a, s', e, ?_⟩
      rcases hd with ⟨g1, ⟨g2, g5⟩, g3, g4⟩ | hd
      · refine .inl ⟨g1, ⟨by rw [g2]; exact h1, g5⟩, trivial, ?_⟩
        rw [hl, ← f2, g4, ← g2]
        rfl
      · exact .inr fun k hk => hd k (by omega)
  whole s a more hs hp hq hl := by
    have hl' : V5.left s = nameE a.Kind :: ((dg a.Arg :: listW a.To) ++ more) := hl
    obtain ⟨f1, f2⟩ := adv_fine hs hl'
    have hk : findF endsW ((V5.left s).headD []) = a.Kind := by rw [hl', List.headD_cons, findE_name hp.1]
    unfold mend
    have : decide (a.Kind < 0) = false := decide_eq_false (by have := hp.1.1; omega)
    rw [hk, hs.1, cond_false, this, cond_false]
    exact (rd_endT a.Kind).whole (adv s) a more f1 ⟨rfl, hp.2⟩ trivial f2
theorem names_apart : ∀ w ∈ endsW, findF kindsW w = -1 ∧ w ≠ phiT := by decide
theorem headP_kind {k : Int} (hk : 0 ≤ k ∧ k < 23) (l : List Word) : headP (nameK k :: l) = false := by
  have h : ∀ w ∈ kindsW, (w == phiT) = false := by decide
  exact h _ (nameK_mem hk)
noncomputable def mblock (s : TReader) : Option (TBlock × TReader) := (goP [] s).bind fun x => (goO [] x.2).bind fun y => (mend y.2).bind fun z => some ((⟨x.1, y.1, z.1⟩ : TBlock), z.2)
theorem rd_mblock : Rd V5 mblock bodyW blockP anyW 22 := by
  refine ((rd_phis.pair (rd_ops.pair rd_end (fun e more he _ => ?_)) (fun x more hx _ => ?_)).map (P' := blockP) (F := bodyW) (fun x => (⟨x.1, x.2.1, x.2.2⟩ : TBlock)) (fun b => (b.Phis, b.Ops, b.End)) (fun _ _ => rfl) (fun b h => h) (fun a h => h) (fun _ _ => rfl)).of_eq (fun s => ?_)
  · show headO (endW e ++ more) = false
    unfold headO endW
    rw [List.cons_append, List.headD_cons, (names_apart _ (nameE_mem he.1)).1]
    rfl
  · obtain ⟨ops, e⟩ := x
    show headP ((ops.map opW).flatten ++ endW e ++ more) = false
    cases ops with
    | nil =>
      have := (names_apart _ (nameE_mem hx.2.1)).2
      show (nameE e.Kind == phiT) = false
      rw [beq_eq_false_iff_ne]; exact this
    | cons o ops => exact headP_kind (hx.1 o (by simp)).1 _
  · unfold mblock
    simp only [Option.bind_assoc, Option.bind_some]
theorem rd_block : Rd V5 m_lockstepref05_Reader_block bodyW blockP anyW 22 := by
  refine rd_mblock.of_on (fun _ _ _ => trivial) fun s hs => ?_
  obtain ⟨p, s1, e1, h1⟩ := rd_phis.reach (by decide) 13 (by decide) hs
  obtain ⟨o, s2, e2, h2⟩ := rd_ops.reach (by decide) 5 (by decide) (s := s1) (h1.imp (fun h => ⟨h, trivial⟩) fun h => h)
  have n1 : 0 ≤ s1.At := h1.elim (fun h => h.2.1) fun h => h.2.1
  have n2 : 0 ≤ s2.At := h2.elim (fun h => h.2.1) fun h => h.2.1
  unfold mblock m_lockstepref05_Reader_block
  rw [e1, Option.bind_some, e2, Option.bind_some]
  unfold goP at e1
  unfold goO at e2
  cases hl1 : loopO m_lockstepref05_Reader_block_L1 ([], s.W, s.At, s.Bad) with
  | none => rw [hl1] at e1; cases e1
  | some x1 =>
    rw [hl1, Option.bind_some] at e1
    obtain ⟨rfl, rfl⟩ := Prod.mk.inj (Option.some.inj e1)
    rw [Option.bind_some]
    show (m_lockstepref05_kinds).bind _ = _
    rw [kinds_eq, Option.bind_some]
    show (m_lockstepref05_Reader_Next ⟨x1.2.1, x1.2.2.1, x1.2.2.2⟩).bind _ = _
    rw [next_eq _ n1, Option.bind_some, find_eq _ _ (by decide), Option.bind_some]
    cases hl2 : loopO m_lockstepref05_Reader_block_L2 (findF kindsW ((V5.left ⟨x1.2.1, x1.2.2.1, x1.2.2.2⟩).headD []), [], x1.2.1, x1.2.2.1, x1.2.2.2) with
    | none => rw [hl2] at e2; cases e2
    | some x2 =>
      rw [hl2, Option.bind_some] at e2
      obtain ⟨rfl, rfl⟩ := Prod.mk.inj (Option.some.inj e2)
      have hl2' : loopO m_lockstepref05_Reader_block_L2 (findF kindsW ((x1.2.1.drop x1.2.2.1.toNat).headD []), [], x1.2.1, x1.2.2.1, x1.2.2.2) = some x2 := hl2
      show (loopO m_lockstepref05_Reader_block_L2 (findF kindsW ((x1.2.1.drop x1.2.2.1.toNat).headD []), [], x1.2.1, x1.2.2.1, x1.2.2.2)).bind _ = _
      rw [hl2', Option.bind_some]
      show (m_lockstepref05_ends).bind _ = _
      rw [ends_eq, Option.bind_some]
      show (m_lockstepref05_Reader_Next ⟨x2.2.1, x2.2.2.1, x2.2.2.2⟩).bind _ = _
      rw [next_eq _ n2, Option.bind_some, find_eq _ _ (by decide), Option.bind_some]
      unfold mend mendT
      show (bif (bif x2.2.2.2 then true else decide (findF endsW ((x2.2.1.drop x2.2.2.1.toNat).headD []) < 0)) then _ else _) = Option.bind (bif (bif x2.2.2.2 then true else decide (findF endsW ((x2.2.1.drop x2.2.2.1.toNat).headD []) < 0)) then _ else _) _
      cases (bif x2.2.2.2 then true else decide (findF endsW ((x2.2.1.drop x2.2.2.1.toNat).headD []) < 0)) with
      | true => rfl
      | false =>
        simp only [cond_false, Option.bind_assoc, Option.bind_some]
        rfl
end Go.Proofs.YtcddajbcbkbipaaDoor

namespace Go.Proofs.YtcddajbcbkbipaaDoor
open Go Go.RowKit
set_option linter.unusedVariables false
set_option linter.unusedSimpArgs false

/-- Such a function as has a text. -/
structure OkT (f : TFunc) : Prop where
  may : mayF f = true
  named : Named f
  imm : ∀ b ∈ f.Blocks, ∀ o ∈ b.Ops, wideP o.Imm
/-- What Parse is to answer of words. -/
def ParseAns (w : List Word) (r : TFunc × Int) : Prop := (∃ f, OkT f ∧ w = funcW f ∧ r = (f, 0)) ∨ ((∀ f, OkT f → w ≠ funcW f) ∧ r = (noF, 3))
theorem numsP_of {l : List Int} (h : listB l = true) : numsP l := (listB_iff.1 h).1
theorem phiP_of {p : TPhi} (h : phiB p = true) : phiP p := by
  simp only [phiB, Bool.and_eq_true] at h
  exact ⟨numB_iff.1 h.1.1.1, numB_iff.1 h.1.1.2, numsP_of h.1.2, numsP_of h.2⟩
theorem opP_of {o : TOp} (h : opB o = true) (hk : 0 ≤ o.Kind ∧ o.Kind < 23) (hi : wideP o.Imm) : opP o := by
  simp only [opB, Bool.and_eq_true] at h
  exact ⟨hk, numB_iff.1 h.1.1.1.2, numB_iff.1 h.1.1.2, numB_iff.1 h.1.2, numsP_of h.2, hi⟩
theorem endP_of {e : TEnd} (h : endB e = true) (hk : 0 ≤ e.Kind ∧ e.Kind < 4) : endP e := by
  simp only [endB, Bool.and_eq_true] at h
  exact ⟨hk, numB_iff.1 h.1.2, numsP_of h.2⟩
theorem OkT.parts {f : TFunc} (h : OkT f) : funcP f := by
  obtain ⟨_, _, _, h4, h5, _, h7⟩ := may_parts h.may
  refine ⟨numsP_of h4, numB_iff.1 h5, fun b hb => ?_⟩
  obtain ⟨b1, b2, b3⟩ := blockB_iff.1 (h7 b hb)
  exact ⟨fun p hp => phiP_of (b1 p hp), fun o ho => opP_of (b2 o ho) (h.named.op b hb o ho) (h.imm b hb o ho), endP_of b3 (h.named.en b hb)⟩
theorem okT_of {f : TFunc} (h : funcP f) (hm : mayF f = true) : OkT f :=
  ⟨hm, ⟨fun b hb o ho => ((h.2.2 b hb).2.1 o ho).1, fun b hb => (h.2.2 b hb).2.2.1⟩, fun b hb o ho => ((h.2.2 b hb).2.1 o ho).2.2.2.2.2⟩
theorem mem_flat {α β : Type} {l : List α} {E : α → List β} {a : α} (h : a ∈ l) : (E a).length ≤ (l.map E).flatten.length := by
  induction l with
  | nil => cases h
  | cons b l ih =>
    rw [List.map_cons, List.flatten_cons, List.length_append]
    rcases List.mem_cons.1 h with rfl | h
    · omega
    · have := ih h; omega
theorem len_flat {α β : Type} {l : List α} {E : α → List β} (h : ∀ a ∈ l, 1 ≤ (E a).length) : l.length ≤ (l.map E).flatten.length := by
  induction l with
  | nil => simp
  | cons b l ih =>
    have h1 := h b (by simp)
    have h2 := ih fun a ha => h a (by simp [ha])
    rw [List.map_cons, List.flatten_cons, List.length_append, List.length_cons]
    omega
theorem listW_len (l : List Int) : (listW l).length = l.length + 2 := by simp [listW]
theorem inF_words {f : TFunc} (h : funcP f) (hl : (funcW f).length ≤ 2000000000000) : InF f := by
  have hM : maxLen = 9223372036854775807 := rfl
  have e : (funcW f).length = (listW f.Params).length + ((f.Blocks.map blockW).flatten.length + 1) + 1 := by simp only [funcW, List.length_cons, List.length_append]
  rw [e, listW_len] at hl
  have hB : f.Blocks.length ≤ (f.Blocks.map blockW).flatten.length := len_flat fun b _ => by simp [blockW]
  have hb : ∀ b ∈ f.Blocks, (b.Phis.map phiW).flatten.length + (b.Ops.map opW).flatten.length + (b.End.To.length + 2) ≤ 2000000000000 := fun b hb => by
    have := mem_flat (E := blockW) hb
    have e2 : (blockW b).length = (b.Phis.map phiW).flatten.length + ((b.Ops.map opW).flatten.length + ((listW b.End.To).length + 1 + 1)) + 1 := by simp only [blockW, bodyW, endW, List.length_cons, List.length_append]
    rw [e2, listW_len] at this
    omega
  refine ⟨by omega, by omega, fun b hbm => ?_, fun b hbm p hp => ?_, fun b hbm o ho => ?_⟩
  · have h1 := hb b hbm
    have h2 : b.Phis.length ≤ (b.Phis.map phiW).flatten.length := len_flat fun p _ => by simp [phiW]
    have h3 : b.Ops.length ≤ (b.Ops.map opW).flatten.length := len_flat fun p _ => by simp [opW]
    exact ⟨by omega, by omega, by omega⟩
  · have h1 := hb b hbm
    have h2 := mem_flat (E := phiW) hp
    have e2 : (phiW p).length = (listW p.From).length + (listW p.Args).length + 1 + 1 + 1 := by simp only [phiW, List.length_cons, List.length_append]
    rw [e2, listW_len, listW_len] at h2
    exact ⟨by omega, by omega⟩
  · have h1 := hb b hbm
    have h2 := mem_flat (E := opW) ho
    have e2 : (opW o).length = (listW o.Args).length + 1 + 1 + 1 + 1 + 1 := by simp only [opW, List.length_cons, List.length_append, List.length_singleton, List.length_nil]
    rw [e2, listW_len] at h2
    have := ((h.2.2 b hbm).2.1 o ho).2.2.2.2.2
    exact ⟨by omega, this.1, this.2⟩

/-! ### Functions -/
def headB (l : List Word) : Bool := l.headD [] == blockT
theorem blocks_stop (l : List TBlock) (s : TReader) (h : s.Bad = true) : m_lockstepref05_Parse_L1 (l, s.W, s.At, s.Bad) = some (.done (l, s.W, s.At, s.Bad)) := by
  obtain ⟨W, A, B⟩ := s
  obtain rfl : B = true := h
  unfold m_lockstepref05_Parse_L1
  rfl
theorem blocks_round (l : List TBlock) (s : TReader) (h : V5.fine s) : m_lockstepref05_Parse_L1 (l, s.W, s.At, s.Bad) = bif headB (V5.left s) then (m_lockstepref05_Reader_block (adv s)).bind fun x => chk (l.length + 1 ≤ room) (some (.next (l ++ [x.1], x.2.W, x.2.At, x.2.Bad))) else some (.done (l, s.W, s.At, s.Bad)) := by
  have hn := next_fine h
  obtain ⟨W, A, B⟩ := s
  obtain rfl : B = false := h.1
  unfold m_lockstepref05_Parse_L1
  show ((bif ((!false) == true) then m_lockstepref05_Reader_Next ⟨W, A, false⟩ else _).bind _) = _
  rw [show ((!false) == true) = true from rfl, cond_true, hn, Option.bind_some]
  rfl
noncomputable def goB (l : List TBlock) (s : TReader) : Option (List TBlock × TReader) := (loopO m_lockstepref05_Parse_L1 (l, s.W, s.At, s.Bad)).bind fun x => some (x.1, ⟨x.2.1, x.2.2.1, x.2.2.2⟩)
theorem rd_blocks : Rd V5 (goB []) (fun l => (l.map blockW).flatten) (fun l => ∀ a ∈ l, blockP a) (fun more => headB more = false) 23 := by
  refine RdH.star (m := fun s => m_lockstepref05_Reader_block (adv s)) (E := blockW) (Q := anyW) headB ((rd_block.word blockT (by decide)).pre fun l hl => by simpa [headB] using hl) (by decide) 1000000000000 _ goB (fun s hs => left_len hs) (fun a _ => by simp [blockW]) (fun a more ha => rfl) (fun _ _ _ _ => trivial) (fun more hm => hm) (fun s hs hh => hh) (fun l s hs hh => ?_) (fun k l s hs => ?_) (fun l s a s' hs hh hm _ hl => ?_)
  · unfold goB
    rw [loopO_done (x := (l, s.W, s.At, s.Bad)) (by rw [blocks_round l s hs, hh, cond_false]), Option.bind_some]
  · refine ⟨l, s, ?_, hs⟩
    unfold goB
    rw [loopO_done (blocks_stop l s hs.1), Option.bind_some]
  · unfold goB
    rw [loopO_next (s' := (l ++ [a], s'.W, s'.At, s'.Bad)) (by rw [blocks_round l s hs, hh, cond_true, hm, Option.bind_some, chk_pos' (by simp only [room]; omega)])]
noncomputable def mfunc (s : TReader) : Option (TFunc × TReader) := (m_lockstepref05_Reader_List s).bind fun x1 => (m_lockstepref05_Reader_Int x1.2).bind fun x2 => (goB [] x2.2).bind fun x3 => some ((⟨x1.1, x2.1, x3.1⟩ : TFunc), x3.2)
def funcB (f : TFunc) : List Word := listW f.Params ++ (dg f.Ret :: (f.Blocks.map blockW).flatten)
theorem rd_func : Rd V5 mfunc funcB funcP (fun more => headB more = false) 27 := by
  refine ((rd_list.pair (rd_int.pair rd_blocks (fun _ _ _ _ => trivial)) (fun _ _ _ _ => trivial)).map (P' := funcP) (F := funcB) (fun x => (⟨x.1, x.2.1, x.2.2⟩ : TFunc)) (fun f => (f.Params, f.Ret, f.Blocks)) (fun _ _ => rfl) (fun f h => h) (fun a h => h) (fun _ _ => rfl)).of_eq (fun s => ?_)
  unfold mfunc
  simp only [Option.bind_assoc, Option.bind_some]
theorem funcW_eq (f : TFunc) : funcW f = funcT :: funcB f := rfl
/-- One function has one text. -/
theorem funcW_inj {f g : TFunc} (hf : OkT f) (hg : OkT g) (hl : (funcW f).length ≤ 1000000000000) (h : funcW f = funcW g) : f = g := by
  have hs : V5.fine ⟨funcB f, 0, false⟩ := ⟨rfl, Int.le_refl _, Int.natCast_nonneg _, by rw [funcW_eq, List.length_cons] at hl; show (funcB f).length ≤ _; omega⟩
  have hb : funcB f = funcB g := by rw [funcW_eq, funcW_eq] at h; exact (List.cons.inj h).2
  obtain ⟨s1, e1, _⟩ := rd_func.whole _ f [] hs hf.parts rfl (by rw [List.append_nil]; rfl)
  obtain ⟨s2, e2, _⟩ := rd_func.whole ⟨funcB f, 0, false⟩ g [] hs hg.parts rfl (by rw [List.append_nil, ← hb]; rfl)
  rw [e1] at e2
  exact (Prod.mk.inj (Option.some.inj e2)).1
theorem ParseAns.unique {w : List Word} {r r' : TFunc × Int} (hl : w.length ≤ 1000000000000) (h : ParseAns w r) (h' : ParseAns w r') : r = r' := by
  rcases h with ⟨f, h1, h2, rfl⟩ | ⟨h1, rfl⟩ <;> rcases h' with ⟨g, g1, g2, rfl⟩ | ⟨g1, rfl⟩
  · rw [funcW_inj h1 g1 (by rw [← h2]; exact hl) (h2.symm.trans g2)]
  · exact absurd h2 (g1 f h1)
  · exact absurd g2 (h1 g g1)
  · rfl
theorem parse_tail (w : List Word) (f : TFunc) (s : TReader) (hw : mfunc ⟨w, 1, false⟩ = some (f, s)) (hne : w.length ≠ 0) (hh : w.getD 0 [] = funcT) (ss : List Int) (hs : m_lockstepref05_Words ss = some w) :
    m_lockstepref05_Parse ss = ((bif ((bif s.Bad then true else (decide (s.At < (s.W.length : Int)))) == false) then m_lockstepref04_May f else some false).bind fun x => (bif (bif (bif s.Bad then true else (decide (s.At < (s.W.length : Int)))) then true else (!x)) then some (noF, 3) else some (f, 0))) := by
  have e0 : ((w.length : Int) == 0) = false := by rw [beq_eq_false_iff_ne]; omega
  have e1 : (w.getD ((0 : Int)).toNat [] == funcT) = true := by rw [show ((0 : Int)).toNat = 0 from rfl, hh]; rfl
  unfold m_lockstepref05_Parse
  rw [hs, Option.bind_some]
  show chk ((((w.length : Int) == 0) == false) = true → (InB (0 : Int) w.length)) (bif (bif ((w.length : Int) == 0) then true else (!(w.getD ((0 : Int)).toNat [] == funcT))) then _ else _) = _
  rw [chk_pos' (fun _ => ⟨Int.le_refl _, by omega⟩), e0, e1]
  show Option.bind (m_lockstepref05_Reader_List ⟨w, 1, false⟩) _ = _
  unfold mfunc at hw
  cases h1 : m_lockstepref05_Reader_List ⟨w, 1, false⟩ with
  | none => rw [h1] at hw; cases hw
  | some x1 =>
    rw [h1, Option.bind_some] at hw
    rw [Option.bind_some]
    cases h2 : m_lockstepref05_Reader_Int x1.2 with
    | none => rw [h2] at hw; cases hw
    | some x2 =>
      rw [h2, Option.bind_some] at hw
      rw [Option.bind_some]
      unfold goB at hw
      cases h3 : loopO m_lockstepref05_Parse_L1 ([], x2.2.W, x2.2.At, x2.2.Bad) with
      | none => rw [h3] at hw; cases hw
      | some x3 =>
        rw [h3, Option.bind_some, Option.bind_some] at hw
        obtain ⟨rfl, rfl⟩ := Prod.mk.inj (Option.some.inj hw)
        rw [Option.bind_some]
        rfl
theorem parse_none (w : List Word) (h : w.length = 0 ∨ w.getD 0 [] ≠ funcT) (ss : List Int) (hs : m_lockstepref05_Words ss = some w) : m_lockstepref05_Parse ss = some (noF, 3) := by
  unfold m_lockstepref05_Parse
  rw [hs, Option.bind_some]
  show chk ((((w.length : Int) == 0) == false) = true → (InB (0 : Int) w.length)) (bif (bif ((w.length : Int) == 0) then true else (!(w.getD ((0 : Int)).toNat [] == funcT))) then _ else _) = _
  rw [chk_pos' (fun hh => ⟨Int.le_refl _, by
    have : ((w.length : Int) == 0) = false := by simpa using hh
    rw [beq_eq_false_iff_ne] at this
    omega⟩)]
  by_cases h0 : w.length = 0
  · have e0 : ((w.length : Int) == 0) = true := by rw [h0]; rfl
    rw [e0]; rfl
  · have e0 : ((w.length : Int) == 0) = false := by rw [beq_eq_false_iff_ne]; omega
    have e1 : (w.getD ((0 : Int)).toNat [] == funcT) = false := by
      rw [beq_eq_false_iff_ne]
      exact h.resolve_left h0
    rw [e0, e1]; rfl
theorem rparse (ss : List Int) (hs : ss.length ≤ 100000000000) : ∃ r, m_lockstepref05_Parse ss = some r ∧ ParseAns (wordsS ss) r := by
  have hw := rwords_eq ss hs
  have hlen : (wordsS ss).length ≤ 1000000000000 := by have := wlen ss []; unfold wordsS; omega
  generalize wordsS ss = w at *
  by_cases hc : w.length = 0 ∨ w.getD 0 [] ≠ funcT
  · refine ⟨_, parse_none w hc ss hw, .inr ⟨fun f hf e => ?_, rfl⟩⟩
    subst e
    rcases hc with h | h
    · simp [funcW] at h
    · exact h rfl
  · have hne : w.length ≠ 0 := fun h => hc (.inl h)
    have hh : w.getD 0 [] = funcT := Decidable.byContradiction fun h => hc (.inr h)
    have hf0 : V5.fine ⟨w, 1, false⟩ := ⟨rfl, (by decide : (0 : Int) ≤ 1), by show (1 : Int) ≤ (w.length : Int); omega, hlen⟩
    have hwd : w = funcT :: V5.left ⟨w, 1, false⟩ := by
      show w = funcT :: w.drop (1 : Int).toNat
      cases w with
      | nil => exact absurd rfl hne
      | cons x w => rw [← hh]; rfl
    by_cases hex : ∃ g, OkT g ∧ w = funcW g
    · obtain ⟨g, hg, hwg⟩ := hex
      have hl : V5.left ⟨w, 1, false⟩ = funcB g ++ [] := by
        rw [List.append_nil]
        exact (List.cons.inj (hwd.symm.trans (hwg.trans (funcW_eq g)))).2
      obtain ⟨s', e, f1, f2⟩ := rd_func.whole _ g [] hf0 hg.parts rfl hl
      have hin : InF g := inF_words hg.parts (by rw [← hwg]; omega)
      have hat : decide (s'.At < (s'.W.length : Int)) = false := decide_eq_false (by
        have hd : s'.W.drop s'.At.toNat = [] := f2
        have := congrArg List.length hd
        rw [List.length_drop, List.length_nil] at this
        have := f1.2.1
        omega)
      refine ⟨(g, 0), ?_, .inl ⟨g, hg, hwg, rfl⟩⟩
      rw [parse_tail w g s' e hne hh ss hw, f1.1, hat]
      show Option.bind (m_lockstepref04_May g) _ = _
      rw [rmay_eq g hin, Option.bind_some, hg.may]
      rfl
    · obtain ⟨f, s', e, hd⟩ := rd_func.any _ hf0 trivial
      refine ⟨(noF, 3), ?_, .inr ⟨fun g hg h => hex ⟨g, hg, h⟩, rfl⟩⟩
      rw [parse_tail w f s' e hne hh ss hw]
      rcases hd with ⟨f1, f2, f3, f4⟩ | hd
      · rw [f1.1]
        by_cases hat : s'.At < (s'.W.length : Int)
        · rw [decide_eq_true hat]; rfl
        · rw [decide_eq_false hat]
          have hl0 : V5.left s' = [] := by
            show s'.W.drop s'.At.toNat = []
            exact List.drop_eq_nil_of_le (by have := f1.2.1; omega)
          rw [hl0, List.append_nil] at f4
          have hwf : w = funcW f := by rw [hwd, f4]; rfl
          have hin : InF f := inF_words f2 (by rw [← hwf]; omega)
          show Option.bind (m_lockstepref04_May f) _ = _
          rw [rmay_eq f hin, Option.bind_some]
          cases hm : mayF f with
          | true => exact absurd ⟨f, okT_of f2 hm, hwf⟩ hex
          | false => rfl
      · rw [(hd 0 (by decide)).1]; rfl
end Go.Proofs.YtcddajbcbkbipaaDoor

namespace Go.Proofs.YtcddajbcbkbipaaDoor
open Go Go.RowKit
set_option linter.unusedVariables false
set_option linter.unusedSimpArgs false

def BytesI (s : List Int) : Prop := ∀ x ∈ s, 0 ≤ x ∧ x < 256
/-- What the program's functions answer. -/
structure Facts5 : Prop where
  kind : ∀ s, BytesI s → s.length ≤ maxLen → m_text_Kind s = some (kindF s)
  print : ∀ f, InF f → (mayF f = true → OkF f) → m_text_Print f = some (printF f)
  parse : ∀ s, BytesI s → s.length ≤ 100000000000 → ∃ r, m_text_Parse s = some r ∧ ParseAns (wordsS s) r

/-! ### A text's bytes -/
theorem BytesI.app {a b : List Int} (h : BytesI a) (k : BytesI b) : BytesI (a ++ b) := fun x hx => (List.mem_append.1 hx).elim (h x) (k x)
theorem BytesI.flat {α : Type} {l : List α} {E : α → List Int} (h : ∀ a ∈ l, BytesI (E a)) : BytesI (l.map E).flatten := fun x hx => by
  obtain ⟨y, hy, hxy⟩ := List.mem_flatten.1 hx
  obtain ⟨a, ha, rfl⟩ := List.mem_map.1 hy
  exact h a ha x hxy
theorem BytesI.cons {c : Int} {l : List Int} (hc : 0 ≤ c ∧ c < 256) (h : BytesI l) : BytesI (c :: l) := fun x hx => (List.mem_cons.1 hx).elim (fun e => e ▸ hc) (h x)
theorem BytesI.nil : BytesI [] := fun x hx => by cases hx
theorem dg_bytes (x : Int) : BytesI (dg x) := fun y hy => by have := digN_dig _ y hy; exact ⟨by have := this.1; omega, by have := this.2; omega⟩
theorem numsS_bytes (l : List Int) : BytesI (numsS l) := BytesI.flat fun a _ => BytesI.cons (by decide) (dg_bytes a)
theorem listS_bytes (l : List Int) : BytesI (listS l) := BytesI.cons (by decide) (BytesI.cons (by decide) (BytesI.app (fun x hx => numsS_bytes l x (List.mem_of_mem_drop hx)) (BytesI.cons (by decide) BytesI.nil)))
theorem bytes_of {l : List Int} (h : l.all (fun x => decide (0 ≤ x) && decide (x < 256)) = true) : BytesI l := fun x hx => by
  have := List.all_eq_true.1 h x hx
  simpa using this
theorem nameK_bytes (k : Int) : BytesI (nameK k) := by
  unfold nameK
  by_cases h : k.toNat < kindsW.length
  · have hall : ∀ w ∈ kindsW, w.all (fun x => decide (0 ≤ x) && decide (x < 256)) = true := by decide
    exact bytes_of (hall _ (getD_mem h))
  · rw [List.getD, List.getElem?_eq_none (by omega)]; exact BytesI.nil
theorem nameE_bytes (k : Int) : BytesI (nameE k) := by
  unfold nameE
  by_cases h : k.toNat < endsW.length
  · have hall : ∀ w ∈ endsW, w.all (fun x => decide (0 ≤ x) && decide (x < 256)) = true := by decide
    exact bytes_of (hall _ (getD_mem h))
  · rw [List.getD, List.getElem?_eq_none (by omega)]; exact BytesI.nil
theorem line_bytes : BytesI [10] := bytes_of rfl
theorem textS_bytes (f : TFunc) : BytesI (textS f) := by
  refine BytesI.app (BytesI.app (BytesI.app (BytesI.app (bytes_of rfl) (listS_bytes _)) (numsS_bytes _)) line_bytes) (BytesI.flat fun b _ => ?_)
  refine BytesI.app (BytesI.app (BytesI.app (BytesI.app (bytes_of rfl) line_bytes) (BytesI.flat fun p _ => ?_)) (BytesI.flat fun o _ => ?_)) ?_
  · exact BytesI.app (BytesI.app (BytesI.app (BytesI.app (bytes_of rfl) (numsS_bytes _)) (listS_bytes _)) (listS_bytes _)) line_bytes
  · exact BytesI.app (BytesI.app (BytesI.app (BytesI.app (BytesI.app (nameK_bytes _) (numsS_bytes _)) (listS_bytes _)) (bytes_of rfl)) (dg_bytes _)) line_bytes
  · exact BytesI.app (BytesI.app (BytesI.app (nameE_bytes _) (numsS_bytes _)) (listS_bytes _)) line_bytes

/-! ### Small functions, told functions -/
theorem inF_noF : InF noF := ⟨by simp [noF], by simp [noF], by simp [noF], by simp [noF], by simp [noF]⟩
theorem okT_ok {f : TFunc} (hm : mayF f = true) (ok : OkF f) (hn : namedB f = true) : OkT f := ⟨hm, (named_iff hm).1 hn, fun b hb o ho => (ok.block b hb).imm o ho⟩
theorem flat_len {α β : Type} (l : List α) (E : α → List β) : (l.map E).flatten.length = (l.map fun a => (E a).length).sum := by
  induction l with
  | nil => rfl
  | cons a l ih => rw [List.map_cons, List.flatten_cons, List.length_append, ih, List.map_cons, List.sum_cons]
theorem ent_words (f : TFunc) : entF f ≤ (funcW f).length := by
  have hp : ∀ p : TPhi, entP p ≤ (phiW p).length := fun p => by
    have e2 : (phiW p).length = (listW p.From).length + (listW p.Args).length + 1 + 1 + 1 := by simp only [phiW, List.length_cons, List.length_append]
    rw [e2, listW_len, listW_len]; unfold entP; omega
  have ho : ∀ o : TOp, entO o ≤ (opW o).length := fun o => by
    have e2 : (opW o).length = (listW o.Args).length + 1 + 1 + 1 + 1 + 1 := by simp only [opW, List.length_cons, List.length_append, List.length_singleton, List.length_nil]
    rw [e2, listW_len]; unfold entO; omega
  have hb : ∀ b : TBlock, entB b ≤ (blockW b).length := fun b => by
    have e2 : (blockW b).length = (b.Phis.map phiW).flatten.length + ((b.Ops.map opW).flatten.length + ((listW b.End.To).length + 1 + 1)) + 1 := by simp only [blockW, bodyW, endW, List.length_cons, List.length_append]
    have q1 := sum_mono b.Phis entP (fun p => (phiW p).length) (fun p _ => hp p)
    have q2 := sum_mono b.Ops entO (fun o => (opW o).length) (fun o _ => ho o)
    rw [e2, listW_len, flat_len, flat_len]
    unfold entB
    omega
  have e : (funcW f).length = (listW f.Params).length + ((f.Blocks.map blockW).flatten.length + 1) + 1 := by simp only [funcW, List.length_cons, List.length_append]
  have q := sum_mono f.Blocks entB (fun b => (blockW b).length) (fun b _ => hb b)
  rw [e, listW_len, flat_len]
  unfold entF
  omega
def f5 : TFunc := ⟨[], 8, [⟨[], [⟨0, 8, 1, 1, [], 5⟩], ⟨0, 1, []⟩⟩]⟩
def s5 : List Int := [102, 117, 110, 99, 32, 40, 41, 32, 56, 10, 98, 108, 111, 99, 107, 10, 99, 111, 110, 115, 116, 32, 56, 32, 49, 32, 49, 32, 40, 41, 32, 53, 10, 114, 101, 116, 32, 49, 32, 40, 41, 10]
theorem f5_text : textS f5 = s5 := by
  simp [textS, f5, funcT, listS, numsS, numS, dg, digN_lt, blockS, blockT, opS, endS, nameK, nameE, kindsW, endsW, s5]
theorem f5_ok : OkF f5 := by
  refine ⟨rfl, by decide, rfl, by decide, fun b hb => ?_⟩
  simp only [f5, List.mem_singleton] at hb
  subst hb
  refine ⟨rfl, by decide, by decide, fun o ho => ?_⟩
  simp only [List.mem_singleton] at ho
  subst ho
  exact ⟨by decide, by decide⟩
theorem f5_okT : OkT f5 := okT_ok rfl f5_ok rfl

section
variable (F : Facts5)
include F
theorem parse_words {s : List Int} (hb : BytesI s) (hl : s.length ≤ 100000000000) {f : TFunc} (hf : OkT f) (hw : wordsS s = funcW f) : m_text_Parse s = some (f, 0) := by
  obtain ⟨r, hr, ha⟩ := F.parse s hb hl
  have hlen : (wordsS s).length ≤ 1000000000000 := by have := wlen s []; unfold wordsS; omega
  rw [hr, ParseAns.unique hlen ha (.inl ⟨f, hf, hw, rfl⟩)]
theorem parse_text {f : TFunc} (ok : OkF f) (hf : OkT f) : m_text_Parse (textS f) = some (f, 0) :=
  parse_words F (textS_bytes f) (by have := textS_len ok; omega) hf (words_text f hf.named)
theorem awake5 : m_locksteplaw05_awake = some true := by
  have p1 : m_text_Parse s5 = some (f5, 0) := by rw [← f5_text]; exact parse_text F f5_ok f5_okT
  have p2 : m_text_Print f5 = some (s5, 0) := by rw [F.print f5 (ok_in f5_ok) (fun _ => f5_ok), printF, f5_text]; rfl
  have p3 : ∃ g, m_text_Parse [102, 117, 110, 99, 32, 40, 41, 32, 48, 56] = some (g, 3) := by
    obtain ⟨r, hr, ha⟩ := F.parse [102, 117, 110, 99, 32, 40, 41, 32, 48, 56] (bytes_of rfl) (by decide)
    rcases ha with ⟨f, hf, hw, _⟩ | ⟨_, rfl⟩
    · exfalso
      have e : wordsS [102, 117, 110, 99, 32, 40, 41, 32, 48, 56] = [[102, 117, 110, 99], [40], [41], [48, 56]] := by decide
      rw [e] at hw
      cases hp : f.Params with
      | nil =>
        simp only [funcW, listW, hp, List.map_nil, List.nil_append, List.cons_append, List.cons.injEq] at hw
        obtain ⟨_, _, _, hw, _⟩ := hw
        have hlen : (digN f.Ret.toNat).length = 2 := by unfold dg at hw; rw [← hw]; rfl
        by_cases h : f.Ret.toNat < 10
        · rw [digN_lt h] at hlen; simp at hlen
        · have := digN_head f.Ret.toNat (by omega)
          unfold dg at hw
          rw [← hw] at this
          exact this rfl
      | cons x l =>
        simp only [funcW, listW, hp, List.map_cons, List.cons_append, List.cons.injEq] at hw
        obtain ⟨_, _, hw, _⟩ := hw
        have := digN_dig x.toNat 41 (by show (41 : Int) ∈ dg x; rw [← hw]; simp)
        have := this.1
        omega
    · exact ⟨_, hr⟩
  have p4 : m_text_Kind [97, 100, 100] = some (1, true) := by rw [F.kind _ (bytes_of rfl) (by decide)]; rfl
  obtain ⟨g, p3⟩ := p3
  unfold m_locksteplaw05_awake
  show Option.bind (m_text_Parse s5) _ = _
  rw [p1, Option.bind_some, p2, Option.bind_some, p3, Option.bind_some, p4, Option.bind_some, chk_pos' (fun _ => ⟨by decide, by decide⟩), chk_pos' (fun _ => ⟨by decide, by decide⟩)]
  rfl
omit F in
end
end Go.Proofs.YtcddajbcbkbipaaDoor

namespace Go.Proofs.YtcddajbcbkbipaaDoor
open Go Go.RowKit
set_option linter.unusedVariables false
set_option linter.unusedSimpArgs false

/-! ### Blanks -/
def blankL : List (List Int) := [[32], [10], [32, 32], [32, 10, 32, 10]]
theorem blank_ok : ∀ j : Nat, j < 4 → blankL.getD j [] ≠ [] ∧ (blankL.getD j []).length ≤ 4 ∧ ∀ x ∈ blankL.getD j [], blankB x = true := by
  intro j hj
  have : j = 0 ∨ j = 1 ∨ j = 2 ∨ j = 3 := by omega
  rcases this with rfl | rfl | rfl | rfl <;> decide
theorem flat_words : ∀ (s u : List Int), ((wordsA s u).flatten).length ≤ s.length + u.length
  | [], u => by unfold wordsA fl; split <;> simp
  | c :: s, u => by
    have h1 := flat_words s []
    have h2 := flat_words s (u ++ [c])
    have h3 : ((fl u).flatten).length ≤ u.length := by unfold fl; split <;> simp
    unfold wordsA
    split
    · simp only [List.length_nil] at h1
      rw [List.flatten_append, List.flatten_append, List.length_append, List.length_append, List.length_cons]
      split
      · rw [List.flatten_cons, List.flatten_nil, List.append_nil, List.length_singleton]; omega
      · rw [List.flatten_nil, List.length_nil]; omega
    · simp only [List.length_append, List.length_singleton] at h2
      simp only [List.length_cons]; omega
/-- What is put together so far. -/
structure BInv (w : List Word) (i : Nat) (u : List Int) : Prop where
  words : ∀ r, wordsA (u ++ r) [] = w.take i ++ wordsA r []
  len : u.length ≤ ((w.take i).flatten).length + 4 * i
  bytes : BytesI u
theorem tok_bytes {s u : List Int} (hs : BytesI s) (hu : BytesI u) : ∀ w ∈ wordsA s u, BytesI w := by
  induction s generalizing u with
  | nil =>
    intro w hw
    unfold wordsA fl at hw
    split at hw
    · cases hw
    · obtain rfl := List.mem_singleton.1 hw; exact hu
  | cons c s ih =>
    intro w hw
    have hc := hs c (by simp)
    have hs' : BytesI s := fun x hx => hs x (by simp [hx])
    unfold wordsA at hw
    split at hw
    · simp only [List.mem_append] at hw
      rcases hw with (hw | hw) | hw
      · unfold fl at hw
        split at hw
        · cases hw
        · obtain rfl := List.mem_singleton.1 hw; exact hu
      · split at hw
        · obtain rfl := List.mem_singleton.1 hw; exact BytesI.cons hc BytesI.nil
        · cases hw
      · exact ih hs' BytesI.nil w hw
    · exact ih hs' (hu.app (BytesI.cons hc BytesI.nil)) w hw
theorem take_flat (w : List Word) (i : Nat) (hi : i < w.length) : ((w.take (i + 1)).flatten).length = ((w.take i).flatten).length + (w.getD i []).length := by
  rw [List.take_succ_eq_append_getElem hi, List.flatten_append, List.length_append, getD_eq_of_lt _ _ _ hi]
  simp
theorem take_flat_le (w : List Word) (i : Nat) : ((w.take i).flatten).length ≤ w.flatten.length := by
  conv => rhs; rw [← List.take_append_drop i w]
  rw [List.flatten_append, List.length_append]; omega
section
variable (F : Facts5)
include F
end

/-! ### Names -/
def fK (k : Int) : TFunc := ⟨[], 8, [⟨[], [⟨k, 8, 1, 2, [], 0⟩], ⟨0, 0, []⟩⟩]⟩
theorem fK_ok {k : Int} (h : 0 ≤ k ∧ k < 23) : OkF (fK k) ∧ mayF (fK k) = true ∧ namedB (fK k) = true := by
  have hn : numB k = true := numB_iff.2 ⟨h.1, by omega⟩
  refine ⟨⟨rfl, by simp [fK], rfl, by simp [fK], fun b hb => ?_⟩, ?_, ?_⟩
  · simp only [fK, List.mem_singleton] at hb
    subst hb
    refine ⟨?_, by simp, by simp, fun o ho => ?_⟩
    · unfold blockB opB
      simp [hn]
      decide
    · simp only [List.mem_singleton] at ho
      subst ho
      exact ⟨(by decide : (0 : Int) ≤ 0), (by decide : (0 : Int) < 18446744073709551616)⟩
  · have hsz : sizeW (fK k) = 2 := rfl
    unfold mayF
    rw [hsz]
    unfold fK
    simp [blockB, opB, hn]
    decide
  · unfold namedB fK blockN opN
    simp [h.2]
theorem fK_text (k : Int) : textS (fK k) = [102, 117, 110, 99, 32, 40, 41, 32, 56, 10, 98, 108, 111, 99, 107, 10] ++ nameK k ++ [32, 56, 32, 49, 32, 50, 32, 40, 41, 32, 48, 10, 114, 101, 116, 32, 48, 32, 40, 41, 10] := by
  simp [textS, fK, funcT, listS, numsS, numS, dg, digN_lt, blockS, blockT, opS, endS, nameE, endsW]
theorem names_loop (s : Word) (x : Int × Bool) (hx : x = kindF s) : ∀ (k i : Nat) (b : Bool), i + k = kindsW.length → (b = true ↔ ∃ j, j < i ∧ kindsW.getD j [] = s) → loopO (m_locksteplaw05_TextNames_L1 s x) (b, (i : Int)) = some (.inl x.2)
  | 0, i, b, h, hb => by
    obtain rfl : i = kindsW.length := by omega
    have e : decide ((kindsW.length : Int) < (kindsW.length : Int)) = false := by decide
    rw [loopO_done (x := Sum.inl b) (by
      unfold m_locksteplaw05_TextNames_L1
      show (bif decide ((kindsW.length : Int) < (kindsW.length : Int)) then _ else _) = _
      rw [e, cond_false])]
    congr 2
    rw [hx]
    unfold kindF
    rcases findK_inv s with h1 | ⟨h1, h2⟩
    · rw [if_pos h1]
      cases b with
      | false => rfl
      | true =>
        obtain ⟨j, hj, e⟩ := hb.1 rfl
        have := findI_at kindsW 0 j kinds_nodup hj
        rw [e] at this
        unfold findF at h1
        omega
    · rw [if_neg (by omega)]
      exact hb.2 ⟨(findF kindsW s).toNat, by rw [show kindsW.length = 23 from rfl]; omega, h2⟩
  | k + 1, i, b, h, hb => by
    have hi : i < kindsW.length := by omega
    have e : decide ((i : Int) < (kindsW.length : Int)) = true := decide_eq_true (by omega)
    by_cases hs : kindsW.getD i [] = s
    · have hf : findF kindsW s = i := by
        have := findI_at kindsW 0 i kinds_nodup hi
        rw [hs] at this
        unfold findF
        omega
      have hx1 : x.1 = (i : Int) := by rw [hx]; unfold kindF; rw [if_neg (by omega), hf]
      have hstep : m_locksteplaw05_TextNames_L1 s x (b, (i : Int)) = some (.next (true, ((i + 1 : Nat) : Int))) := by
        unfold m_locksteplaw05_TextNames_L1
        show (bif decide ((i : Int) < (kindsW.length : Int)) then Option.bind (chk (InB (i : Int) kindsW.length) (bif (kindsW.getD ((i : Int)).toNat [] == s) then _ else _)) _ else _) = _
        have e2 : (kindsW.getD i [] == s) = true := by simpa using hs
        have e3 : (x.1 != (i : Int)) = false := by rw [hx1]; simp
        rw [e, cond_true, chk_pos' (inB_nat hi), Int.toNat_natCast, e2, cond_true, e3, cond_false, Option.bind_some, w64_succ hi (by decide)]
        rfl
      rw [loopO_next hstep]
      exact names_loop s x hx k (i + 1) true (by omega) ⟨fun _ => ⟨i, by omega, hs⟩, fun _ => rfl⟩
    · have hstep : m_locksteplaw05_TextNames_L1 s x (b, (i : Int)) = some (.next (b, ((i + 1 : Nat) : Int))) := by
        unfold m_locksteplaw05_TextNames_L1
        show (bif decide ((i : Int) < (kindsW.length : Int)) then Option.bind (chk (InB (i : Int) kindsW.length) (bif (kindsW.getD ((i : Int)).toNat [] == s) then _ else _)) _ else _) = _
        have e2 : (kindsW.getD i [] == s) = false := by simpa using hs
        rw [e, cond_true, chk_pos' (inB_nat hi), Int.toNat_natCast, e2, cond_false, Option.bind_some, w64_succ hi (by decide)]
        rfl
      rw [loopO_next hstep]
      refine names_loop s x hx k (i + 1) b (by omega) (hb.trans ⟨fun ⟨j, h1, h2⟩ => ⟨j, by omega, h2⟩, fun ⟨j, h1, h2⟩ => ⟨j, ?_, h2⟩⟩)
      rcases Nat.lt_or_ge j i with h3 | h3
      · exact h3
      · obtain rfl : j = i := by omega
        exact absurd h2 hs
section
variable (F : Facts5)
include F
theorem names5 (k : Int) (s : List Int) (hk : 0 ≤ k ∧ k < 256) (hs : BytesI s) (hl : s.length ≤ maxLen) : m_locksteplaw05_TextNames k s = some true := by
  unfold m_locksteplaw05_TextNames
  rw [awake5 F, Option.bind_some, Bool.not_true, cond_false]
  by_cases hlong : (50 : Int) < (s.length : Int)
  · rw [decide_eq_true hlong, cond_true]
  · rw [decide_eq_false hlong, cond_false]
    obtain ⟨n, rfl⟩ : ∃ n : Nat, k = n := ⟨k.toNat, by omega⟩
    have hw : w64 (n : Int) = n := w64_of (by omega) (by omega)
    have hi : n % 23 < 23 := Nat.mod_lt _ (by decide)
    have hi2 : 0 ≤ ((n % 23 : Nat) : Int) ∧ ((n % 23 : Nat) : Int) < 23 := ⟨by omega, by omega⟩
    obtain ⟨ok, hm, hn⟩ := fK_ok hi2
    have hmod : Int.tmod (n : Int) (kindsW.length : Int) = ((n % 23 : Nat) : Int) := rfl
    have hnk : kindsW.getD (n % 23) [] = nameK ((n % 23 : Nat) : Int) := rfl
    have hnl := nameK_len ((n % 23 : Nat) : Int)
    have hkf : kindF (nameK ((n % 23 : Nat) : Int)) = (((n % 23 : Nat) : Int), true) := by unfold kindF; rw [findK_name hi2, if_neg (by omega)]
    have hpr : printF (fK ((n % 23 : Nat) : Int)) = (textS (fK ((n % 23 : Nat) : Int)), 0) := by unfold printF; rw [hm, hn]; rfl
    have hfk : (⟨[], 8, [⟨[], [⟨((n % 23 : Nat) : Int), 8, 1, 2, [], 0⟩], ⟨0, 0, []⟩⟩]⟩ : TFunc) = fK ((n % 23 : Nat) : Int) := rfl
    rw [hw, show kc1_locksteplaw05_TextNames = kindsW from rfl, hmod, Int.toNat_natCast, hnk, hfk]
    generalize hK : nameK ((n % 23 : Nat) : Int) = K at *
    have l16 : ([102, 117, 110, 99, 32, 40, 41, 32, 56, 10, 98, 108, 111, 99, 107, 10] : List Int).length = 16 := rfl
    have l21 : ([32, 56, 32, 49, 32, 50, 32, 40, 41, 32, 48, 10, 114, 101, 116, 32, 48, 32, 40, 41, 10] : List Int).length = 21 := rfl
    have hIn : InB ((n % 23 : Nat) : Int) kindsW.length := inB_nat hi
    rw [chk_pos' (by decide), chk_pos' hIn, F.kind K (hK ▸ nameK_bytes _) (by rw [maxLen_eq]; omega), Option.bind_some, hkf, F.print _ (ok_in ok) (fun _ => ok), Option.bind_some, hpr, fK_text, hK]
    rw [chk_pos' (fun _ => hIn), chk_pos' (fun _ => by rw [l16]; omega), chk_pos' (fun _ => by rw [List.length_append, l16, l21]; omega)]
    have e1 : (((n % 23 : Nat) : Int) != ((n % 23 : Nat) : Int)) = false := by simp
    have e2 : (([102, 117, 110, 99, 32, 40, 41, 32, 56, 10, 98, 108, 111, 99, 107, 10] ++ K ++ [32, 56, 32, 49, 32, 50, 32, 40, 41, 32, 48, 10, 114, 101, 116, 32, 48, 32, 40, 41, 10] : List Int) == [102, 117, 110, 99, 32, 40, 41, 32, 56, 10, 98, 108, 111, 99, 107, 10] ++ K ++ [32, 56, 32, 49, 32, 50, 32, 40, 41, 32, 48, 10, 114, 101, 116, 32, 48, 32, 40, 41, 10]) = true := by simp
    show (bif (bif (bif (bif (!true) then true else (((n % 23 : Nat) : Int) != ((n % 23 : Nat) : Int))) then true else ((0 : Int) != 0)) then true else (!(([102, 117, 110, 99, 32, 40, 41, 32, 56, 10, 98, 108, 111, 99, 107, 10] ++ K ++ [32, 56, 32, 49, 32, 50, 32, 40, 41, 32, 48, 10, 114, 101, 116, 32, 48, 32, 40, 41, 10] : List Int) == [102, 117, 110, 99, 32, 40, 41, 32, 56, 10, 98, 108, 111, 99, 107, 10] ++ K ++ [32, 56, 32, 49, 32, 50, 32, 40, 41, 32, 48, 10, 114, 101, 116, 32, 48, 32, 40, 41, 10]))) then _ else _) = _
    rw [e1, e2]
    show Option.bind (m_text_Kind s) _ = _
    rw [F.kind s hs hl, Option.bind_some]
    have := names_loop s (kindF s) rfl 23 0 false rfl ⟨(fun h => by cases h), (fun ⟨j, h, _⟩ => by omega)⟩
    rw [show ((0 : Nat) : Int) = 0 from rfl] at this
    rw [this, Option.bind_some]
    by_cases h1 : findF kindsW s = -1
    · rw [show kindF s = (0, false) from if_pos h1]; rfl
    · rw [show kindF s = (findF kindsW s, true) from if_neg h1]; rfl
end

/-! ### Lines -/
def cntN (l : List Int) : Nat := (l.filter fun x => x == 10).length
theorem cntN_app (a b : List Int) : cntN (a ++ b) = cntN a + cntN b := by simp [cntN]
theorem cntN_flat {α : Type} (l : List α) (E : α → List Int) (h : ∀ a ∈ l, cntN (E a) = 1) : cntN (l.map E).flatten = l.length := by
  induction l with
  | nil => rfl
  | cons a l ih => rw [List.map_cons, List.flatten_cons, cntN_app, h a (by simp), ih (fun b hb => h b (by simp [hb])), List.length_cons]; omega
theorem cntN_none {l : List Int} (h : ∀ x ∈ l, x ≠ 10) : cntN l = 0 := by
  unfold cntN
  rw [List.filter_eq_nil_iff.2 (fun x hx => by simpa using h x hx)]
  rfl
theorem dg_noline (x : Int) : ∀ y ∈ dg x, y ≠ 10 := fun y hy e => by
  have := digN_dig _ y hy
  have := this.1
  omega
theorem numsS_noline (l : List Int) : ∀ y ∈ numsS l, y ≠ 10 := fun y hy => by
  obtain ⟨z, hz, hyz⟩ := List.mem_flatten.1 hy
  obtain ⟨a, _, rfl⟩ := List.mem_map.1 hz
  rcases List.mem_cons.1 hyz with rfl | h
  · decide
  · exact dg_noline a y h
theorem listS_noline (l : List Int) : ∀ y ∈ listS l, y ≠ 10 := fun y hy => by
  unfold listS at hy
  rcases List.mem_cons.1 hy with rfl | hy
  · decide
  rcases List.mem_cons.1 hy with rfl | hy
  · decide
  rcases List.mem_append.1 hy with hy | hy
  · exact numsS_noline l y (List.mem_of_mem_drop hy)
  · obtain rfl := List.mem_singleton.1 hy; decide
theorem sep_noline {w : List Int} (h : ∀ x ∈ w, sepB x = false) : ∀ y ∈ w, y ≠ 10 := fun y hy e => by
  have := h y hy
  rw [e] at this
  cases this
theorem cnt_phi (p : TPhi) : cntN (phiS p) = 1 := by
  unfold phiS
  rw [cntN_app, cntN_app, cntN_app, cntN_app, cntN_none (sep_noline phi_nosep), cntN_none (numsS_noline _), cntN_none (listS_noline _), cntN_none (listS_noline _)]
  rfl
theorem cnt_op (o : TOp) (h : 0 ≤ o.Kind ∧ o.Kind < 23) : cntN (opS o) = 1 := by
  unfold opS
  rw [cntN_app, cntN_app, cntN_app, cntN_app, cntN_app, cntN_none (sep_noline (kinds_nosep _ (nameK_mem h)).2), cntN_none (numsS_noline _), cntN_none (listS_noline _), cntN_none (dg_noline _)]
  rfl
theorem cnt_end (e : TEnd) (h : 0 ≤ e.Kind ∧ e.Kind < 4) : cntN (endS e) = 1 := by
  unfold endS
  rw [cntN_app, cntN_app, cntN_app, cntN_none (sep_noline (ends_nosep _ (nameE_mem h)).2), cntN_none (numsS_noline _), cntN_none (listS_noline _)]
  rfl
theorem cnt_text (f : TFunc) (h : Named f) : cntN (textS f) = 1 + f.Blocks.length + sizeN f := by
  have hb : ∀ b ∈ f.Blocks, cntN (blockS b) = 1 + sizeB b := fun b hb => by
    unfold blockS sizeB
    rw [cntN_app, cntN_app, cntN_app, cntN_app, cntN_none (sep_noline block_nosep), cntN_flat _ _ (fun p _ => cnt_phi p), cntN_flat _ _ (fun o ho => cnt_op o (h.op b hb o ho)), cnt_end _ (h.en b hb)]
    show 0 + 1 + _ + _ + 1 = _
    omega
  have hs : ∀ l : List TBlock, (∀ b ∈ l, cntN (blockS b) = 1 + sizeB b) → cntN (l.map blockS).flatten = l.length + (l.map sizeB).sum := fun l => by
    induction l with
    | nil => intro _; rfl
    | cons b l ih =>
      intro hl
      rw [List.map_cons, List.flatten_cons, cntN_app, hl b (by simp), ih (fun c hc => hl c (by simp [hc])), List.length_cons, List.map_cons, List.sum_cons]
      omega
  unfold textS
  rw [cntN_app, cntN_app, cntN_app, cntN_app, cntN_none (sep_noline func_nosep), cntN_none (listS_noline _), cntN_none (numsS_noline _), hs _ hb]
  show 0 + 0 + 0 + 1 + _ = _
  unfold sizeN
  omega
theorem textS_last (f : TFunc) (h : 1 ≤ f.Blocks.length) : ∃ t, textS f = [102, 117, 110, 99, 32] ++ (t ++ [10]) := by
  have hne : f.Blocks ≠ [] := fun e => by rw [e] at h; simp at h
  obtain ⟨bs, b, hb⟩ : ∃ bs b, f.Blocks = bs ++ [b] := ⟨_, _, (List.dropLast_concat_getLast hne).symm⟩
  refine ⟨40 :: ((numsS f.Params).drop 1 ++ [41] ++ numsS [f.Ret] ++ [10] ++ (bs.map blockS).flatten ++ (blockT ++ [10] ++ (b.Phis.map phiS).flatten ++ (b.Ops.map opS).flatten ++ (nameE b.End.Kind ++ numsS [b.End.Arg] ++ listS b.End.To))), ?_⟩
  unfold textS funcT
  rw [hb, show listS f.Params = 32 :: 40 :: ((numsS f.Params).drop 1 ++ [41]) from rfl]
  simp [blockS, endS]
section
variable (F : Facts5)
include F
end
end Go.Proofs.YtcddajbcbkbipaaDoor

namespace Go.Proofs.YtcddajbcbkbipaaDoor
open Go Go.RowKit
set_option linter.unusedVariables false
set_option linter.unusedSimpArgs false

theorem sum_suc {α : Type} (l : List α) (g : α → Nat) : (l.map fun a => g a + 1).sum = l.length + (l.map g).sum := by
  induction l with
  | nil => rfl
  | cons a l ih => simp only [List.map_cons, List.sum_cons, ih, List.length_cons]; omega
theorem w64_plus (a b : Int) : w64 (a + w64 b) = w64 (a + b) := by rw [Int.add_comm, w64_add, Int.add_comm]
theorem xsize (f : TFunc) (hf : InF f) : m_code_Size f = some (sizeW f) := by
  have hl := loop_addw f.Blocks (default : TBlock) (fun b => b.Phis.length + b.Ops.length) id (m_code_Size_L1 f) (fun n i hi => ?_) (fun n => ?_) f.Blocks.length 0 f.Blocks.length (Nat.zero_add _)
  · unfold m_code_Size
    rw [w64_nat (by have := hf.blocks; rw [maxLen_eq] at this; omega), show ((0 : Nat) : Int) = 0 from rfl] at hl
    rw [hl, Option.bind_some, List.drop_zero, sizeW, sizeN, show (sizeB : TBlock → Nat) = (fun b => (b.Phis.length + b.Ops.length) + 1) from rfl, sum_suc]
    rfl
  · have e1 : decide ((i : Int) < (f.Blocks.length : Int)) = true := decide_eq_true (by omega)
    unfold m_code_Size_L1
    simp only [e1, cond_true, chk_pos' (inB_nat hi), Int.toNat_natCast, w64_suc' hi hf.blocks, w64_plus, w64_add]
    rw [show (n : Int) + (((f.Blocks.getD i default).Phis.length : Int) + ((f.Blocks.getD i default).Ops.length : Int)) = ((n + ((f.Blocks.getD i default).Phis.length + (f.Blocks.getD i default).Ops.length) : Nat) : Int) by omega]
  · have e1 : decide ((f.Blocks.length : Int) < (f.Blocks.length : Int)) = false := by simp
    unfold m_code_Size_L1
    simp only [e1, cond_false, id]

/-- Whether all of a list fit, as such rounds tell it. -/
theorem all_loop {α : Type} (l : List α) (d : α) (p : α → Bool) (f : Int → Option (LR Int (Unit ⊕ Bool))) (hn : ∀ i : Nat, i < l.length → f i = bif p (l.getD i d) then some (.next ((i : Int) + 1)) else some (.done (.inr false)))
    (he : f l.length = some (.done (.inl ()))) : loopO f 0 = some (bif l.all p then .inl () else .inr false) := by
  have := loop_all l d p f (.inl ()) (.inr false) (fun i hi hp => by rw [hn i hi, hp]; rfl) (fun i hi hp => by rw [hn i hi, hp]; rfl) he l.length 0 (Nat.zero_add _)
  simpa using this
theorem numB_cond (x : Int) : (bif decide (x < 0) then true else decide (2147483647 < x)) = !numB x := by
  unfold numB
  by_cases h1 : x < 0
  · have : ¬ 0 ≤ x := by omega
    simp [h1, this]
  · by_cases h2 : 2147483647 < x
    · have : ¬ x ≤ 2147483647 := by omega
      simp [h1, h2, this]
    · have h3 : 0 ≤ x := by omega
      have h4 : x ≤ 2147483647 := by omega
      simp [h1, h2, h3, h4]
theorem xfits (l : List Int) (h : l.length ≤ maxLen) : m_code_numbersFit l = some (l.all numB) := by
  have hl := all_loop l 0 numB (m_code_numbersFit_L1 l) (fun i hi => ?_) ?_
  · unfold m_code_numbersFit
    rw [hl]
    cases l.all numB <;> rfl
  · have e1 : decide ((i : Int) < (l.length : Int)) = true := decide_eq_true (by omega)
    unfold m_code_numbersFit_L1
    simp only [e1, cond_true, chk_pos' (inB_nat hi), Int.toNat_natCast, numB_cond, w64_suc' hi h]
    cases numB (l.getD i 0) <;> simp
  · unfold m_code_numbersFit_L1
    simp
theorem xlistFits (l : List Int) (h : l.length ≤ maxLen) : m_code_listFits l = some (listB l) := by
  unfold m_code_listFits
  rw [xfits l h]
  by_cases h1 : l.length ≤ 64
  · have e1 : decide ((l.length : Int) ≤ 64) = true := decide_eq_true (by omega)
    rw [e1]
    simp [listB, h1]
  · have e1 : decide ((l.length : Int) ≤ 64) = false := decide_eq_false (by omega)
    rw [e1]
    simp [listB, h1]
theorem short_max {l : List Int} (h : l.length ≤ 10) : l.length ≤ maxLen := by rw [maxLen_eq]; omega
theorem xphiFits (p : TPhi) (h1 : p.From.length ≤ maxLen) (h2 : p.Args.length ≤ maxLen) : m_code_phiFits p = some (phiB p) := by
  unfold m_code_phiFits phiB
  rw [xfits _ (short_max (by simp)), xlistFits _ h1, xlistFits _ h2]
  simp only [List.all_cons, List.all_nil, Bool.and_true]
  cases numB p.Bits <;> cases numB p.Dst <;> cases listB p.From <;> cases listB p.Args <;> rfl
theorem xopFits (o : TOp) (h1 : o.Args.length ≤ maxLen) : m_code_opFits o = some (opB o) := by
  unfold m_code_opFits opB
  rw [xfits _ (short_max (by simp)), xlistFits _ h1]
  simp only [List.all_cons, List.all_nil, Bool.and_true]
  cases numB o.Kind <;> cases numB o.Bits <;> cases numB o.Lanes <;> cases numB o.Dst <;> cases listB o.Args <;> rfl
theorem xendFits (e : TEnd) (h1 : e.To.length ≤ maxLen) : m_code_endFits e = some (endB e) := by
  unfold m_code_endFits endB
  rw [xfits _ (short_max (by simp)), xlistFits _ h1]
  simp only [List.all_cons, List.all_nil, Bool.and_true]
  cases numB e.Kind <;> cases numB e.Arg <;> cases listB e.To <;> rfl
theorem not_cond {X : Type} (b : Bool) (x y : X) : (bif !b then x else y) = bif b then y else x := by cases b <;> rfl
theorem xphis_fit (l : List TPhi) (hl : l.length ≤ maxLen) (h : ∀ p ∈ l, p.From.length ≤ maxLen ∧ p.Args.length ≤ maxLen) : m_code_allFit_api_Phi l = some (l.all phiB) := by
  have hl' := all_loop l (default : TPhi) phiB (m_code_allFit_api_Phi_L1 l) (fun i hi => ?_) ?_
  · unfold m_code_allFit_api_Phi
    rw [hl']
    cases l.all phiB <;> rfl
  · have e1 : decide ((i : Int) < (l.length : Int)) = true := decide_eq_true (by omega)
    have := h _ (getD_mem (d := (default : TPhi)) hi)
    unfold m_code_allFit_api_Phi_L1
    simp only [e1, cond_true, chk_pos' (inB_nat hi), Int.toNat_natCast, xphiFits _ this.1 this.2, Option.bind_some, not_cond, w64_suc' hi hl, Int.natCast_add, Int.natCast_one]
  · unfold m_code_allFit_api_Phi_L1
    simp
theorem xops_fit (l : List TOp) (hl : l.length ≤ maxLen) (h : ∀ o ∈ l, o.Args.length ≤ maxLen) : m_code_allFit_api_Op l = some (l.all opB) := by
  have hl' := all_loop l (default : TOp) opB (m_code_allFit_api_Op_L1 l) (fun i hi => ?_) ?_
  · unfold m_code_allFit_api_Op
    rw [hl']
    cases l.all opB <;> rfl
  · have e1 : decide ((i : Int) < (l.length : Int)) = true := decide_eq_true (by omega)
    have := h _ (getD_mem (d := (default : TOp)) hi)
    unfold m_code_allFit_api_Op_L1
    simp only [e1, cond_true, chk_pos' (inB_nat hi), Int.toNat_natCast, xopFits _ this, Option.bind_some, not_cond, w64_suc' hi hl, Int.natCast_add, Int.natCast_one]
  · unfold m_code_allFit_api_Op_L1
    simp
theorem xblockFits (b : TBlock) (h1 : b.Phis.length ≤ maxLen) (h2 : b.Ops.length ≤ maxLen) (h3 : b.End.To.length ≤ maxLen) (h4 : ∀ p ∈ b.Phis, p.From.length ≤ maxLen ∧ p.Args.length ≤ maxLen) (h5 : ∀ o ∈ b.Ops, o.Args.length ≤ maxLen) : m_code_blockFits b = some (blockB b) := by
  unfold m_code_blockFits blockB
  rw [xphis_fit _ h1 h4, xops_fit _ h2 h5, xendFits _ h3]
  cases b.Phis.all phiB <;> cases b.Ops.all opB <;> cases endB b.End <;> rfl
theorem xblocks_fit (f : TFunc) (hf : InF f) : m_code_allFit_api_Block f.Blocks = some (f.Blocks.all blockB) := by
  have hl' := all_loop f.Blocks (default : TBlock) blockB (m_code_allFit_api_Block_L1 f.Blocks) (fun i hi => ?_) ?_
  · unfold m_code_allFit_api_Block
    rw [hl']
    cases f.Blocks.all blockB <;> rfl
  · have e1 : decide ((i : Int) < (f.Blocks.length : Int)) = true := decide_eq_true (by omega)
    have hm := getD_mem (d := (default : TBlock)) hi
    have q := hf.block _ hm
    unfold m_code_allFit_api_Block_L1
    simp only [e1, cond_true, chk_pos' (inB_nat hi), Int.toNat_natCast, xblockFits _ q.1 q.2.1 q.2.2 (hf.phi _ hm) (fun o ho => (hf.op _ hm o ho).1), Option.bind_some, not_cond, w64_suc' hi hf.blocks, Int.natCast_add, Int.natCast_one]
  · unfold m_code_allFit_api_Block_L1
    simp
theorem xmay (f : TFunc) (hf : InF f) : m_code_May f = some (mayF f) := by
  unfold m_code_May mayF
  rw [xsize f hf, xfits _ hf.params, xfits _ (short_max (by simp)), xblocks_fit f hf]
  simp only [List.all_cons, List.all_nil, Bool.and_true, listB]
  have d1 : ∀ n : Nat, decide ((n : Int) < 1) = !decide (1 ≤ n) := fun n => by by_cases h : 1 ≤ n <;> simp [h] <;> omega
  have d2 : ∀ n : Nat, decide ((64 : Int) < (n : Int)) = !decide (n ≤ 64) := fun n => by by_cases h : n ≤ 64 <;> simp [h] <;> omega
  have d3 : ∀ n : Nat, decide ((16 : Int) < (n : Int)) = !decide (n ≤ 16) := fun n => by by_cases h : n ≤ 16 <;> simp [h] <;> omega
  have d4 : ∀ n : Int, decide ((512 : Int) < n) = !decide (n ≤ 512) := fun n => by by_cases h : n ≤ 512 <;> simp [h] <;> omega
  simp only [d1, d2, d3, d4]
  have himp : decide (f.Params.length ≤ 16) = true → decide (f.Params.length ≤ 64) = true := fun h => by simp at h ⊢; omega
  revert himp
  generalize decide (1 ≤ f.Blocks.length) = c1
  generalize decide (f.Blocks.length ≤ 64) = c2
  generalize decide (f.Params.length ≤ 16) = c3
  generalize decide (f.Params.length ≤ 64) = c4
  generalize f.Params.all numB = c6
  generalize numB f.Ret = c7
  generalize f.Blocks.all blockB = c8
  cases c3 with
  | true =>
    intro h
    obtain rfl := h rfl
    simp only [Bool.not_true, beq_self_eq_true, cond_true, Option.bind_some, cond_false]
    generalize decide (sizeW f ≤ 512) = c5
    cases c1 <;> cases c2 <;> cases c6 <;> cases c7 <;> cases c8 <;> cases c5 <;> rfl
  | false =>
    intro _
    cases c1 <;> cases c2 <;> rfl
end Go.Proofs.YtcddajbcbkbipaaDoor

namespace Go.Proofs.YtcddajbcbkbipaaDoor
open Go Go.RowKit
set_option linter.unusedVariables false
set_option linter.unusedSimpArgs false

/-! ### Names -/
theorem gl0_eq : gl0 = kindsW := rfl
theorem gl1_eq : gl1 = endsW := rfl
theorem drop_getD {α : Type} (l : List α) (d : α) {i : Nat} (h : i < l.length) : l.drop i = l.getD i d :: l.drop (i + 1) := by
  rw [List.drop_eq_getElem_cons h, getD_eq_of_lt _ _ _ h]
theorem find_rounds (l : List Word) (s : Word) (hn : l.length < 1000) (f : Int → Option (LR Int (Unit ⊕ (Int × Bool))))
    (h1 : ∀ i : Nat, i < l.length → f (i : Int) = bif l.getD i [] == s then some (.done (.inr ((i : Int), true))) else some (.next ((i + 1 : Nat) : Int)))
    (h2 : f (l.length : Int) = some (.done (.inl ()))) : ∀ (k i : Nat), i + k = l.length → loopO f (i : Int) = some (if findI (l.drop i) s i = -1 then .inl () else .inr (findI (l.drop i) s i, true))
  | 0, i, h => by
    obtain rfl : i = l.length := by omega
    rw [loopO_done h2, List.drop_length]
    rfl
  | k + 1, i, h => by
    have hi : i < l.length := by omega
    have e := h1 i hi
    rw [drop_getD l [] hi, findI]
    by_cases hx : l.getD i [] = s
    · have e1 : (l.getD i [] == s) = true := by simpa using hx
      rw [e1, cond_true] at e
      rw [loopO_done e, if_pos hx, if_neg (by omega)]
    · have e1 : (l.getD i [] == s) = false := by simpa using hx
      rw [e1, cond_false] at e
      rw [loopO_next e, find_rounds l s hn f h1 h2 k (i + 1) (by omega), if_neg hx]
theorem xkind_eq (s : Word) : m_text_Kind s = some (kindF s) := by
  have hl := find_rounds kindsW s (by decide) (m_text_Kind_L1 s) (fun i hi => by
    rw [show kindsW.length = 23 from rfl] at hi
    have e0 : decide ((i : Int) < 23) = true := decide_eq_true (by omega)
    unfold m_text_Kind_L1
    show (bif decide ((i : Int) < 23) then _ else _) = _
    rw [e0, cond_true, chk_pos' (inB_nat hi), Int.toNat_natCast, gl0_eq, w64_succ hi (by omega)]
    rfl) (by unfold m_text_Kind_L1; rfl) _ 0 (Nat.zero_add _)
  unfold m_text_Kind kindF findF
  rw [show ((0 : Nat) : Int) = 0 from rfl, List.drop_zero] at hl
  rw [hl, Option.bind_some]
  by_cases h : findI kindsW s 0 = -1
  · rw [if_pos h, if_pos h]
  · rw [if_neg h, if_neg h]
/-- How a block may end. -/
def endF (s : Word) : Int × Bool := if findF endsW s = -1 then (0, false) else (findF endsW s, true)
theorem xend_eq (s : Word) : m_text_endKind s = some (endF s) := by
  have hl := find_rounds endsW s (by decide) (m_text_endKind_L1 s) (fun i hi => by
    rw [show endsW.length = 4 from rfl] at hi
    have e0 : decide ((i : Int) < 4) = true := decide_eq_true (by omega)
    unfold m_text_endKind_L1
    show (bif decide ((i : Int) < 4) then _ else _) = _
    rw [e0, cond_true, chk_pos' (inB_nat hi), Int.toNat_natCast, gl1_eq, w64_succ hi (by omega)]
    rfl) (by unfold m_text_endKind_L1; rfl) _ 0 (Nat.zero_add _)
  unfold m_text_endKind endF findF
  rw [show ((0 : Nat) : Int) = 0 from rfl, List.drop_zero] at hl
  rw [hl, Option.bind_some]
  by_cases h : findI endsW s 0 = -1
  · rw [if_pos h, if_pos h]
  · rw [if_neg h, if_neg h]

/-! ### Numbers, lists -/
theorem dec_dig (n : Nat) : bytesL (Lib.decDigits n) = digN n := by
  induction n using Nat.strongRecOn with
  | _ n ih =>
    have hb : ∀ k : Nat, k < 10 → ((UInt8.ofNat (48 + k)).toNat : Int) = ((48 + k : Nat) : Int) := fun k hk => by
      rw [UInt8.toNat_ofNat']; omega
    by_cases h : n < 10
    · rw [Lib.decDigits, dif_pos h, digN_lt h]
      simp only [bytesL, List.map_cons, List.map_nil, hb n h]
    · rw [Lib.decDigits, dif_neg h, digN_ge h]
      have := ih (n / 10) (by omega)
      simp only [bytesL, List.map_append, List.map_cons, List.map_nil, hb (n % 10) (by omega)] at this ⊢
      rw [this]
theorem xnumber_eq {n : Int} (h : numB n = true) : m_text_number n = some (dg n) := by
  have := numB_iff.1 h
  unfold m_text_number x_Itoa
  rw [chk_pos' ⟨this.1, by omega⟩, Option.bind_some, dec_dig]
  rfl
theorem ximm_eq {n : Int} (h : wideP n) : x_FormatUint n 10 = some (dg n) := by
  unfold x_FormatUint
  rw [chk_pos' ⟨rfl, h.1, h.2⟩, dec_dig]
  rfl
/-- Words, each with a blank ahead. -/
def sepS (l : List Word) : List Int := (l.map fun w => 32 :: w).flatten
theorem join_sep : ∀ l : List Word, joinI l [32] = (sepS l).drop 1
  | [] => rfl
  | [x] => by simp [joinI, sepS, List.intercalate]
  | x :: y :: l => by
    have ih := join_sep (y :: l)
    have e : joinI (x :: y :: l) [32] = x ++ ([32] ++ joinI (y :: l) [32]) := by
      simp [joinI, List.intercalate, List.intersperse]
    rw [e, ih]
    simp [sepS]
theorem sep_dg (l : List Int) : sepS (l.map dg) = numsS l := by
  simp only [sepS, numsS, List.map_map]
  rfl
theorem list_rounds (vs : List Int) (h : good31 vs) (hl : vs.length ≤ 1000) : ∀ (k i : Nat) (l : List Word), i + k = vs.length → l = (vs.take i).map dg ++ List.replicate k [] → loopO (m_text_list_L1 vs) ((i : Int), l) = some (vs.map dg)
  | 0, i, l, hk, hle => by
    obtain rfl : i = vs.length := by omega
    have e0 : decide ((vs.length : Int) < (vs.length : Int)) = false := by simp
    subst hle
    rw [loopO_done (x := (vs.take vs.length).map dg ++ List.replicate 0 []) (by unfold m_text_list_L1; simp only [e0, cond_false])]
    simp
  | k + 1, i, l, hk, hle => by
    have hi : i < vs.length := by omega
    have e0 : decide ((i : Int) < (vs.length : Int)) = true := decide_eq_true (by omega)
    have hlen : l.length = vs.length := by rw [hle]; simp; omega
    have hset : l.set i (dg (vs.getD i 0)) = (vs.take (i + 1)).map dg ++ List.replicate k [] := by
      have e1 : vs.take (i + 1) = vs.take i ++ [vs.getD i 0] := by rw [List.take_succ_eq_append_getElem hi, getD_eq_of_lt _ _ _ hi]
      have e2 : ((vs.take i).map dg).length = i := by simp; omega
      rw [hle, e1, List.map_append, List.replicate_succ, List.set_append_right _ _ (by omega), e2, Nat.sub_self]
      simp
    rw [loopO_next (s' := (((i + 1 : Nat) : Int), l.set i (dg (vs.getD i 0)))) (by
      unfold m_text_list_L1
      show (bif decide ((i : Int) < (vs.length : Int)) then _ else _) = _
      have hx := h _ (getD_mem (d := (0 : Int)) hi)
      rw [e0, cond_true, chk_pos' (inB_nat hi), Int.toNat_natCast, xnumber_eq (numB_iff.2 hx), Option.bind_some, chk_pos' (inB_nat (by omega)), w64_succ hi (by omega)]
      rfl), list_rounds vs h hl k (i + 1) _ (by omega) hset]
/-- A list, without what stands ahead of it. -/
def listT (l : List Int) : List Int := 40 :: ((numsS l).drop 1 ++ [41])
theorem xlist_eq {l : List Int} (h : listB l = true) : m_text_list l = some (listT l) := by
  obtain ⟨h1, h2⟩ := listB_iff.1 h
  have hb := numsS_len (good_wide h1)
  have hr := list_rounds l h1 (by omega) l.length 0 (List.replicate l.length []) (Nat.zero_add _) (by simp)
  rw [show ((0 : Nat) : Int) = 0 from rfl] at hr
  have hroom : room = 1099511627776 := rfl
  have hjl : (joinI (l.map dg) [32]).length ≤ 64 * 21 := by
    rw [join_sep, sep_dg, List.length_drop]
    have : l.length * 21 ≤ 64 * 21 := Nat.mul_le_mul_right _ h2
    omega
  unfold m_text_list x_Join
  rw [chk_pos' ⟨by omega, by omega, by omega⟩, Int.toNat_natCast, hr, Option.bind_some, chk_pos' ⟨by rw [List.length_map]; omega, by omega⟩, Option.bind_some, chk_pos' (by simp only [List.length_singleton]; omega), chk_pos' (by simp only [List.length_append, List.length_singleton]; omega), join_sep, sep_dg]
  rfl

/-! ### Lines -/
theorem xline2_eq (ws : List Word) (out : List Int) (h1 : ws.length ≤ 1000) (h2 : (sepS ws).length ≤ 1000000) (h3 : out.length ≤ 1000000000) : m_text_putLine_v2 ws out = some (out ++ ((sepS ws).drop 1 ++ [10])) := by
  have hroom : room = 1099511627776 := rfl
  have hj : (joinI ws [32]).length ≤ 1000000 := by rw [join_sep, List.length_drop]; omega
  unfold m_text_putLine_v2 x_Join m_strings_Builder_WriteString_v2 m_strings_Builder_WriteByte x_copyCheck
  rw [chk_pos' ⟨by omega, by omega⟩, Option.bind_some, Option.bind_some, chk_pos' (by omega), Option.bind_some, Option.bind_some, chk_pos' (by simp only [List.length_append, List.length_singleton]; omega), Option.bind_some, join_sep]
  simp
theorem xline_eq (ws : List Word) (out : List Int) (h1 : ws.length ≤ 1000) (h2 : (sepS ws).length ≤ 1000000000) (h3 : out.length ≤ 1000000000) : m_text_putLine ws out = some (out ++ ((sepS ws).drop 1 ++ [10])) := by
  have hroom : room = 1099511627776 := rfl
  have hj : (joinI ws [32]).length ≤ 1000000000 := by rw [join_sep, List.length_drop]; omega
  unfold m_text_putLine x_Join m_strings_Builder_WriteString m_strings_Builder_WriteByte x_copyCheck
  rw [chk_pos' ⟨by omega, by omega⟩, Option.bind_some, Option.bind_some, chk_pos' (by omega), Option.bind_some, Option.bind_some, chk_pos' (by simp only [List.length_append, List.length_singleton]; omega), Option.bind_some, join_sep]
  simp
theorem phi_line (p : TPhi) : (sepS [phiT, dg p.Bits, dg p.Dst, listT p.From, listT p.Args]).drop 1 ++ [10] = phiS p := by
  simp [sepS, phiS, numsS, numS, listS, listT]
theorem op_line (o : TOp) : (sepS [nameK o.Kind, dg o.Bits, dg o.Lanes, dg o.Dst, listT o.Args, dg o.Imm]).drop 1 ++ [10] = opS o := by
  simp [sepS, opS, numsS, numS, listS, listT]
theorem end_line (e : TEnd) : (sepS [nameE e.Kind, dg e.Arg, listT e.To]).drop 1 ++ [10] = endS e := by
  simp [sepS, endS, numsS, numS, listS, listT]
theorem func_line (f : TFunc) : (sepS [funcT, listT f.Params, dg f.Ret]).drop 1 ++ [10] = funcT ++ listS f.Params ++ numsS [f.Ret] ++ [10] := by
  simp [sepS, numsS, numS, listS, listT]
theorem sep_len (l : List Word) : (sepS l).length ≤ ((sepS l).drop 1 ++ [10]).length := by
  simp only [List.length_append, List.length_drop, List.length_singleton]; omega

/-! ### Print -/
/-- Put behind one another, counted ahead. -/
theorem loop_put {α β : Type} (l : List α) (d : α) (E : α → List β) (M : Nat) (f : Int × List β → Option (LR (Int × List β) (List β)))
    (hn : ∀ (out : List β) (i : Nat), i < l.length → out.length + (E (l.getD i d)).length ≤ M → f ((i : Int), out) = some (.next (((i + 1 : Nat) : Int), out ++ E (l.getD i d))))
    (hd : ∀ out : List β, f ((l.length : Int), out) = some (.done out)) :
    ∀ (k i : Nat) (out : List β), i + k = l.length → out.length + ((l.drop i).map E).flatten.length ≤ M → loopO f ((i : Int), out) = some (out ++ ((l.drop i).map E).flatten)
  | 0, i, out, h, _ => by
    obtain rfl : i = l.length := by omega
    rw [loopO_done (hd out)]
    simp
  | k + 1, i, out, h, hM => by
    have hi : i < l.length := by omega
    have hdr := drop_getD l d hi
    rw [hdr, List.map_cons, List.flatten_cons, List.length_append] at hM
    rw [loopO_next (hn out i hi (by omega)), loop_put l d E M f hn hd k (i + 1) _ (by omega) (by rw [List.length_append]; omega), hdr, List.map_cons, List.flatten_cons, List.append_assoc]
theorem xnames_ops (f : TFunc) (i : Nat) (hl : (f.Blocks.getD i default).Ops.length ≤ 512) : loopO (m_text_hasNames_L1 f i) 0 = some (bif (f.Blocks.getD i default).Ops.all opN then .inl () else .inr false) := by
  have := loop_all (f.Blocks.getD i default).Ops (default : TOp) opN (m_text_hasNames_L1 f i) (.inl ()) (.inr false) (fun j hj hp => by
    have e0 : decide ((j : Int) < ((f.Blocks.getD i default).Ops.length : Int)) = true := decide_eq_true (by omega)
    unfold opN at hp
    have e1 := of_decide_eq_true hp
    unfold m_text_hasNames_L1
    show (bif decide ((j : Int) < (((f.Blocks.getD ((i : Int)).toNat default).Ops).length : Int)) then _ else _) = _
    rw [Int.toNat_natCast, e0, cond_true, chk_pos' (inB_nat hj), Int.toNat_natCast, decide_eq_false (by omega), cond_false, w64_succ hj (by omega)]) (fun j hj hp => by
    have e0 : decide ((j : Int) < ((f.Blocks.getD i default).Ops.length : Int)) = true := decide_eq_true (by omega)
    unfold opN at hp
    have e1 := of_decide_eq_false hp
    unfold m_text_hasNames_L1
    show (bif decide ((j : Int) < (((f.Blocks.getD ((i : Int)).toNat default).Ops).length : Int)) then _ else _) = _
    rw [Int.toNat_natCast, e0, cond_true, chk_pos' (inB_nat hj), Int.toNat_natCast, decide_eq_true (by omega), cond_true]) (by
    have e0 : decide (((f.Blocks.getD i default).Ops.length : Int) < ((f.Blocks.getD i default).Ops.length : Int)) = false := by simp
    unfold m_text_hasNames_L1
    show (bif decide ((((f.Blocks.getD i default).Ops.length : Nat) : Int) < (((f.Blocks.getD ((i : Int)).toNat default).Ops).length : Int)) then _ else _) = _
    rw [Int.toNat_natCast, e0, cond_false]) _ 0 (Nat.zero_add _)
  rw [show ((0 : Nat) : Int) = 0 from rfl, List.drop_zero] at this
  exact this
theorem xnames (f : TFunc) (ok : OkF f) : m_text_hasNames f = some (namedB f) := by
  have := loop_all f.Blocks (default : TBlock) blockN (m_text_hasNames_L2 f) (.inl ()) (.inr false) (fun i hi hp => by
    have e0 : decide ((i : Int) < (f.Blocks.length : Int)) = true := decide_eq_true (by omega)
    have okb := ok.block _ (getD_mem (d := (default : TBlock)) hi)
    simp only [blockN, Bool.and_eq_true, decide_eq_true_eq] at hp
    unfold m_text_hasNames_L2
    show (bif decide ((i : Int) < (f.Blocks.length : Int)) then _ else _) = _
    rw [e0, cond_true, chk_pos' (inB_nat hi), xnames_ops f i okb.ops, hp.1, cond_true, Option.bind_some]
    simp only [Int.toNat_natCast]
    rw [decide_eq_false (by omega), cond_false, w64_succ hi (by have := ok.blocks; omega)]) (fun i hi hp => by
    have e0 : decide ((i : Int) < (f.Blocks.length : Int)) = true := decide_eq_true (by omega)
    have okb := ok.block _ (getD_mem (d := (default : TBlock)) hi)
    unfold m_text_hasNames_L2
    show (bif decide ((i : Int) < (f.Blocks.length : Int)) then _ else _) = _
    rw [e0, cond_true, chk_pos' (inB_nat hi), xnames_ops f i okb.ops]
    unfold blockN at hp
    cases ha : (f.Blocks.getD i default).Ops.all opN with
    | false => rfl
    | true =>
      rw [ha, Bool.true_and] at hp
      have e1 := of_decide_eq_false hp
      rw [cond_true, Option.bind_some]
      simp only [Int.toNat_natCast]
      rw [decide_eq_true (by omega), cond_true]) (by
    have e0 : decide ((f.Blocks.length : Int) < (f.Blocks.length : Int)) = false := by simp
    unfold m_text_hasNames_L2
    show (bif decide ((f.Blocks.length : Int) < (f.Blocks.length : Int)) then _ else _) = _
    rw [e0, cond_false]) _ 0 (Nat.zero_add _)
  rw [show ((0 : Nat) : Int) = 0 from rfl, List.drop_zero] at this
  unfold m_text_hasNames namedB
  rw [this, Option.bind_some]
  cases f.Blocks.all blockN <;> rfl
end Go.Proofs.YtcddajbcbkbipaaDoor

namespace Go.Proofs.YtcddajbcbkbipaaDoor
open Go Go.RowKit
set_option linter.unusedVariables false
set_option linter.unusedSimpArgs false

theorem sep_le {ws : List Word} {t : List Int} {B : Nat} (e : (sepS ws).drop 1 ++ [10] = t) (h : t.length ≤ B) : (sepS ws).length ≤ B := by
  have := sep_len ws
  rw [e] at this
  omega
theorem xphi_step (f : TFunc) (i j : Nat) (out : List Int) (hj : j < (f.Blocks.getD i default).Phis.length) (hl : (f.Blocks.getD i default).Phis.length ≤ 512) (hp : phiB ((f.Blocks.getD i default).Phis.getD j default) = true)
    (hle : out.length + (phiS ((f.Blocks.getD i default).Phis.getD j default)).length ≤ 900000000) :
    m_text_Print_L1 f i ((j : Int), out) = some (.next (((j + 1 : Nat) : Int), out ++ phiS ((f.Blocks.getD i default).Phis.getD j default))) := by
  have e0 : decide ((j : Int) < ((f.Blocks.getD i default).Phis.length : Int)) = true := decide_eq_true (by omega)
  have hs := phiS_len hp
  have hp' := hp
  simp only [phiB, Bool.and_eq_true] at hp'
  unfold m_text_Print_L1
  show (bif decide ((j : Int) < (((f.Blocks.getD ((i : Int)).toNat default).Phis).length : Int)) then _ else _) = _
  simp only [Int.toNat_natCast]
  rw [e0, cond_true, chk_pos' (inB_nat hj)]
  generalize (f.Blocks.getD i default).Phis.getD j default = p at *
  rw [xnumber_eq hp'.1.1.1, Option.bind_some, xnumber_eq hp'.1.1.2, Option.bind_some, xlist_eq hp'.1.2, Option.bind_some, xlist_eq hp'.2, Option.bind_some,
    show m_text_putLine_v2 [[112, 104, 105], dg p.Bits, dg p.Dst, listT p.From, listT p.Args] out = some (out ++ phiS p) from by rw [← phi_line p]; exact xline2_eq [phiT, dg p.Bits, dg p.Dst, listT p.From, listT p.Args] out (by simp) (sep_le (phi_line p) (by omega)) (by omega), Option.bind_some, w64_succ hj (by omega)]
  rfl
theorem xop_step (f : TFunc) (i j : Nat) (out : List Int) (hj : j < (f.Blocks.getD i default).Ops.length) (hl : (f.Blocks.getD i default).Ops.length ≤ 512) (hp : opB ((f.Blocks.getD i default).Ops.getD j default) = true) (hi6 : wideP ((f.Blocks.getD i default).Ops.getD j default).Imm) (hn : opN ((f.Blocks.getD i default).Ops.getD j default) = true)
    (hle : out.length + (opS ((f.Blocks.getD i default).Ops.getD j default)).length ≤ 900000000) :
    m_text_Print_L2 f i ((j : Int), out) = some (.next (((j + 1 : Nat) : Int), out ++ opS ((f.Blocks.getD i default).Ops.getD j default))) := by
  have e0 : decide ((j : Int) < ((f.Blocks.getD i default).Ops.length : Int)) = true := decide_eq_true (by omega)
  have hs := opS_len hp hi6
  have hp' := hp
  simp only [opB, Bool.and_eq_true] at hp'
  unfold opN at hn
  have hn := of_decide_eq_true hn
  have hk := numB_iff.1 hp'.1.1.1.1
  unfold m_text_Print_L2
  show (bif decide ((j : Int) < (((f.Blocks.getD ((i : Int)).toNat default).Ops).length : Int)) then _ else _) = _
  simp only [Int.toNat_natCast]
  rw [e0, cond_true, chk_pos' (inB_nat hj), chk_pos' ⟨hk.1, by omega⟩]
  generalize (f.Blocks.getD i default).Ops.getD j default = o at *
  rw [xnumber_eq hp'.1.1.1.2, Option.bind_some, xnumber_eq hp'.1.1.2, Option.bind_some, xnumber_eq hp'.1.2, Option.bind_some, xlist_eq hp'.2, Option.bind_some, ximm_eq hi6, Option.bind_some,
    xline2_eq [gl0.getD o.Kind.toNat [], dg o.Bits, dg o.Lanes, dg o.Dst, listT o.Args, dg o.Imm] out (by simp) (sep_le (op_line o) (by omega)) (by omega), Option.bind_some, w64_succ hj (by omega)]
  rw [show (sepS [gl0.getD o.Kind.toNat [], dg o.Bits, dg o.Lanes, dg o.Dst, listT o.Args, dg o.Imm]).drop 1 ++ [10] = opS o from op_line o]
  rfl
theorem xblock_step (f : TFunc) (i : Nat) (out : List Int) (hi : i < f.Blocks.length) (hl : f.Blocks.length ≤ 64) (okb : OkB (f.Blocks.getD i default)) (hb : blockN (f.Blocks.getD i default) = true)
    (hle : out.length + (blockS (f.Blocks.getD i default)).length ≤ 800000000) :
    m_text_Print_L3 f ((i : Int), out) = some (.next (((i + 1 : Nat) : Int), out ++ blockS (f.Blocks.getD i default))) := by
  obtain ⟨b1, b2, b3⟩ := blockB_iff.1 okb.may
  simp only [blockN, Bool.and_eq_true, decide_eq_true_eq] at hb
  have e0 : decide ((i : Int) < (f.Blocks.length : Int)) = true := decide_eq_true (by omega)
  have hle' := hle
  unfold blockS at hle
  simp only [List.length_append] at hle
  have hb5 : blockT.length = 5 := rfl
  have h10 : ([10] : List Int).length = 1 := rfl
  have l1 := loop_put (f.Blocks.getD i default).Phis (default : TPhi) phiS 900000000 (m_text_Print_L1 f i) (fun out j hj hle => xphi_step f i j out hj okb.phis (b1 _ (getD_mem hj)) hle) (fun out => by
    unfold m_text_Print_L1
    have : decide (((f.Blocks.getD i default).Phis.length : Int) < ((f.Blocks.getD i default).Phis.length : Int)) = false := by simp
    show (bif decide (((f.Blocks.getD i default).Phis.length : Int) < (((f.Blocks.getD ((i : Int)).toNat default).Phis).length : Int)) then _ else _) = _
    rw [Int.toNat_natCast, this, cond_false]) _ 0 (out ++ (blockT ++ [10])) (Nat.zero_add _) (by rw [List.drop_zero]; simp only [List.length_append]; omega)
  have l2 := loop_put (f.Blocks.getD i default).Ops (default : TOp) opS 900000000 (m_text_Print_L2 f i) (fun out j hj hle => xop_step f i j out hj okb.ops (b2 _ (getD_mem hj)) (okb.imm _ (getD_mem hj)) (List.all_eq_true.1 hb.1 _ (getD_mem hj)) hle) (fun out => by
    unfold m_text_Print_L2
    have : decide (((f.Blocks.getD i default).Ops.length : Int) < ((f.Blocks.getD i default).Ops.length : Int)) = false := by simp
    show (bif decide (((f.Blocks.getD i default).Ops.length : Int) < (((f.Blocks.getD ((i : Int)).toNat default).Ops).length : Int)) then _ else _) = _
    rw [Int.toNat_natCast, this, cond_false]) _ 0 (out ++ (blockT ++ [10]) ++ ((f.Blocks.getD i default).Phis.map phiS).flatten) (Nat.zero_add _) (by rw [List.drop_zero]; simp only [List.length_append]; omega)
  rw [show ((0 : Nat) : Int) = 0 from rfl, List.drop_zero] at l1 l2
  have b3' := b3
  simp only [endB, Bool.and_eq_true] at b3'
  have hk := numB_iff.1 b3'.1.1
  have hel := endS_len b3
  unfold m_text_Print_L3
  show (bif decide ((i : Int) < (f.Blocks.length : Int)) then _ else _) = _
  rw [e0, cond_true, chk_pos' (inB_nat hi), show m_text_putLine_v2 [[98, 108, 111, 99, 107]] out = some (out ++ (blockT ++ [10])) from xline2_eq [blockT] out (by simp) (by decide) (by omega), Option.bind_some]
  rw [l1, Option.bind_some, l2, Option.bind_some]
  simp only [Int.toNat_natCast]
  rw [chk_pos' ⟨hk.1, by omega⟩, xnumber_eq b3'.1.2, Option.bind_some, xlist_eq b3'.2, Option.bind_some]
  generalize hB : f.Blocks.getD i default = b at *
  rw [xline2_eq [gl1.getD b.End.Kind.toNat [], dg b.End.Arg, listT b.End.To] _ (by simp) (sep_le (end_line b.End) (by omega)) (by simp only [List.length_append]; omega), Option.bind_some, w64_succ hi (by omega),
    show (sepS [gl1.getD b.End.Kind.toNat [], dg b.End.Arg, listT b.End.To]).drop 1 ++ [10] = endS b.End from end_line b.End]
  unfold blockS
  simp only [List.append_assoc]
  rfl
theorem xprint_eq (f : TFunc) (hf : InF f) (hs : mayF f = true → OkF f) : m_text_Print f = some (printF f) := by
  unfold m_text_Print printF
  rw [xmay f hf, Option.bind_some]
  cases hm : mayF f with
  | false => rfl
  | true =>
    have ok := hs hm
    have hlenF := textS_len ok
    show Option.bind (m_text_hasNames f) _ = _
    rw [xnames f ok, Option.bind_some]
    cases hn : namedB f with
    | false => rfl
    | true =>
      have hfl := func_line f
      unfold textS at hlenF
      simp only [List.length_append, List.length_singleton] at hlenF
      have l3 := loop_put f.Blocks (default : TBlock) blockS 800000000 (m_text_Print_L3 f) (fun out i hi hle => xblock_step f i out hi ok.blocks (ok.block _ (getD_mem hi)) (List.all_eq_true.1 hn _ (getD_mem hi)) hle) (fun out => by
        have e0 : decide ((f.Blocks.length : Int) < (f.Blocks.length : Int)) = false := by simp
        unfold m_text_Print_L3
        show (bif decide ((f.Blocks.length : Int) < (f.Blocks.length : Int)) then _ else _) = _
        rw [e0, cond_false]) _ 0 (funcT ++ listS f.Params ++ numsS [f.Ret] ++ [10]) (Nat.zero_add _) (by rw [List.drop_zero]; simp only [List.length_append, List.length_singleton]; omega)
      rw [show ((0 : Nat) : Int) = 0 from rfl, List.drop_zero] at l3
      show Option.bind (m_text_list f.Params) _ = _
      rw [xlist_eq ok.params, Option.bind_some, xnumber_eq ok.ret, Option.bind_some,
        show m_text_putLine [[102, 117, 110, 99], listT f.Params, dg f.Ret] [] = some (funcT ++ listS f.Params ++ numsS [f.Ret] ++ [10]) from by
          have := xline_eq [funcT, listT f.Params, dg f.Ret] [] (by simp) (sep_le (B := 1000000000) hfl (by simp only [List.length_append, List.length_singleton]; omega)) (by simp)
          rw [hfl, List.nil_append] at this
          exact this]
      rw [Option.bind_some, l3, Option.bind_some]
      unfold x_String
      rw [show funcT ++ listS f.Params ++ numsS [f.Ret] ++ [10] ++ (f.Blocks.map blockS).flatten = textS f from rfl, chk_pos' ⟨by simp [textS, funcT], textS_bytes f⟩]
      rfl
end Go.Proofs.YtcddajbcbkbipaaDoor

namespace Go.Proofs.YtcddajbcbkbipaaDoor
open Go Go.RowKit
set_option linter.unusedVariables false
set_option linter.unusedSimpArgs false

theorem dec_lo (l : List Int) (i : Nat) (h : (l.getD i 0).toNat < 128) : decodeL l i = ((l.getD i 0).toNat, 1) := by
  unfold decodeL
  simp only [Nat.add_zero]
  rw [if_pos h]
theorem dec_hi (l : List Int) (i : Nat) (h : ¬ (l.getD i 0).toNat < 128) : 128 ≤ (decodeL l i).1 ∧ 1 ≤ (decodeL l i).2 ∧ ∀ k, 1 ≤ k → k < (decodeL l i).2 → i + k < l.length ∧ 128 ≤ (l.getD (i + k) 0).toNat := by
  have he : (128 : Nat) ≤ Utf8.runeError := by decide
  have one : ∀ k, 1 ≤ k → k < 1 → i + k < l.length ∧ 128 ≤ (l.getD (i + k) 0).toNat := fun k h1 h2 => by omega
  unfold decodeL
  simp only [Nat.add_zero]
  rw [if_neg h]
  split
  · rename_i h1
    simp only [Bool.and_eq_true, decide_eq_true_eq, beq_iff_eq] at h1
    split
    · rename_i h2
      refine ⟨h2, by show 1 ≤ 2; omega, fun k k1 k2 => ?_⟩
      obtain rfl : k = 1 := by change k < 2 at k2; omega
      exact ⟨h1.2.1, by omega⟩
    · exact ⟨he, Nat.le_refl _, one⟩
  · split
    · rename_i h1
      simp only [Bool.and_eq_true, decide_eq_true_eq, beq_iff_eq] at h1
      split
      · rename_i h2
        simp only [Bool.and_eq_true, decide_eq_true_eq] at h2
        refine ⟨by have := h2.1; change 128 ≤ _; omega, by show 1 ≤ 3; omega, fun k k1 k2 => ?_⟩
        change k < 3 at k2
        rcases (by omega : k = 1 ∨ k = 2) with rfl | rfl
        · exact ⟨h1.1.2.1, by omega⟩
        · exact ⟨h1.2.1, by omega⟩
      · exact ⟨he, Nat.le_refl _, one⟩
    · split
      · rename_i h1
        simp only [Bool.and_eq_true, decide_eq_true_eq, beq_iff_eq] at h1
        split
        · rename_i h2
          simp only [Bool.and_eq_true, decide_eq_true_eq] at h2
          refine ⟨by have := h2.1; change 128 ≤ _; omega, by show 1 ≤ 4; omega, fun k k1 k2 => ?_⟩
          change k < 4 at k2
          rcases (by omega : k = 1 ∨ k = 2 ∨ k = 3) with rfl | rfl | rfl
          · exact ⟨h1.1.1.2.1, by omega⟩
          · exact ⟨h1.1.2.1, by omega⟩
          · exact ⟨h1.2.1, by omega⟩
        · exact ⟨he, Nat.le_refl _, one⟩
      · exact ⟨he, Nat.le_refl _, one⟩
theorem sep_small {c : Int} (h : sepB c = true) : c = 32 ∨ c = 10 ∨ c = 40 ∨ c = 41 := by
  unfold sepB at h
  simp only [Bool.or_eq_true, beq_iff_eq] at h
  omega
theorem not_sep {c : Int} (h1 : c ≠ 32) (h2 : c ≠ 10) (h3 : c ≠ 40) (h4 : c ≠ 41) : sepB c = false := by
  unfold sepB
  simp [h1, h2, h3, h4]
theorem rune_sep {a : List Int} {n : Nat} (hn : n < a.length) (h : sepB (a.getD n 0) = true) : runeL a n = a.getD n 0 ∧ stepL a n = n + 1 := by
  have := sep_small h
  have e := dec_lo a n (by omega)
  have hb : Nat.blt n a.length = true := by rw [Nat.blt_eq]; exact hn
  unfold runeL stepL
  rw [e, hb]
  exact ⟨by show ((a.getD n 0).toNat : Int) = _; omega, rfl⟩
theorem rune_else {a : List Int} (hb : BytesI a) {n : Nat} (hn : n < a.length) (h : sepB (a.getD n 0) = false) : sepB (runeL a n) = false ∧ n < stepL a n ∧ stepL a n ≤ a.length ∧ ∀ j, n ≤ j → j < stepL a n → sepB (a.getD j 0) = false := by
  have hbl : Nat.blt n a.length = true := by rw [Nat.blt_eq]; exact hn
  have h0 := hb _ (getD_mem (d := (0 : Int)) hn)
  by_cases hl : (a.getD n 0).toNat < 128
  · have e := dec_lo a n hl
    unfold runeL stepL
    rw [e, hbl]
    have e2 : (((a.getD n 0).toNat : Nat) : Int) = a.getD n 0 := by omega
    refine ⟨by show sepB ((a.getD n 0).toNat : Int) = false; rw [e2]; exact h, by show n < n + 1; omega, by show n + 1 ≤ _; omega, fun j h1 h2 => ?_⟩
    change j < n + 1 at h2
    obtain rfl : j = n := by omega
    exact h
  · obtain ⟨d1, d2, d3⟩ := dec_hi a n hl
    have big : ∀ c : Int, 128 ≤ c.toNat → sepB c = false := fun c hc => not_sep (by omega) (by omega) (by omega) (by omega)
    unfold runeL stepL
    rw [hbl, cond_true]
    refine ⟨big _ (by omega), by omega, ?_, fun j h1 h2 => ?_⟩
    · by_cases h1 : (decodeL a n).2 = 1
      · omega
      · have := (d3 ((decodeL a n).2 - 1) (by omega) (by omega)).1
        omega
    · by_cases h3 : j = n
      · subst h3; exact h
      · have := (d3 (j - n) (by omega) (by omega)).2
        rw [show n + (j - n) = j by omega] at this
        exact big _ this

/-! ### The first word -/
/-- From b up to n. -/
def cutL (a : List Int) (b n : Nat) : List Int := (a.drop b).take (n - b)
theorem cut_add (a : List Int) {b n m : Nat} (h1 : b ≤ n) (h2 : n ≤ m) : cutL a b m = cutL a b n ++ cutL a n m := by
  unfold cutL
  rw [show m - b = (n - b) + (m - n) by omega, List.take_add, List.drop_drop, show b + (n - b) = n by omega]
theorem cut_self (a : List Int) (n : Nat) : cutL a n n = [] := by unfold cutL; simp
theorem cut_ne {a : List Int} {b n : Nat} (h1 : b < n) (h2 : n ≤ a.length) : cutL a b n ≠ [] := by
  intro h
  have := congrArg List.length h
  unfold cutL at this
  simp only [List.length_take, List.length_drop, List.length_nil] at this
  omega
theorem drop_cut (a : List Int) {n m : Nat} (h : n ≤ m) : a.drop n = cutL a n m ++ a.drop m := by
  unfold cutL
  conv => lhs; rw [← List.take_append_drop (m - n) (a.drop n), List.drop_drop, show n + (m - n) = m by omega]
theorem cut_nosep {a : List Int} {n m : Nat} (hm : m ≤ a.length) (h : ∀ j, n ≤ j → j < m → sepB (a.getD j 0) = false) : ∀ x ∈ cutL a n m, sepB x = false := fun x hx => by
  unfold cutL at hx
  obtain ⟨j, hj, rfl⟩ := List.getElem_of_mem hx
  simp only [List.length_take, List.length_drop] at hj
  have := h (n + j) (by omega) (by omega)
  rw [List.getElem_take, List.getElem_drop]
  rw [getD_eq_of_lt _ _ _ (by omega)] at this
  exact this
def Sub (w a : List Int) : Prop := (∀ x ∈ w, x ∈ a) ∧ w.length ≤ a.length
theorem sub_drop (a : List Int) (n : Nat) : Sub (a.drop n) a := ⟨fun x hx => List.mem_of_mem_drop hx, by simp⟩
theorem sub_cut (a : List Int) (b n : Nat) : Sub (cutL a b n) a := ⟨fun x hx => List.mem_of_mem_drop (List.mem_of_mem_take hx), by unfold cutL; simp only [List.length_take, List.length_drop]; omega⟩
theorem sub_nil (a : List Int) : Sub [] a := ⟨fun x hx => (by cases hx), by simp⟩
/-- What is cut off: a word and what stands behind it, or nothing. -/
def CutR (a : List Int) (ws : List Word) (r : List Int × List Int) : Prop := Sub r.1 a ∧ Sub r.2 a ∧ ((r.1 = [] ∧ r.2 = [] ∧ ws = []) ∨ (r.1 ≠ [] ∧ ws = r.1 :: wordsS r.2))
noncomputable def cutE (a : List Int) (x : Int ⊕ (List Int × List Int)) : Option (List Int × List Int) := match x with | (.inl i3) => (bif (decide ((i3 : Int) < (0 : Int))) then (some (([] : List Int), ([] : List Int))) else (chk (0 ≤ i3 ∧ i3 ≤ (a.length : Int)) (some ((a.drop (i3).toNat), ([] : List Int))))) | (.inr r13) => (some r13)
theorem cut_end (a : List Int) (i : Int) : m_text_cutWord_L1 a (i, a.length) = some (.done (.inl i)) := by
  have hb : Nat.blt a.length a.length = false := by
    rw [← Bool.not_eq_true, Nat.blt_eq]; omega
  unfold m_text_cutWord_L1
  simp only [hb, cond_false]
theorem cut_word {a : List Int} (hl : a.length ≤ 100000000000) {b n : Nat} (hbn : b < n) (hn : n < a.length) (h : sepB (a.getD n 0) = true) : m_text_cutWord_L1 a ((b : Int), n) = some (.done (.inr (cutL a b n, a.drop n))) := by
  obtain ⟨h1, h2⟩ := rune_sep hn h
  have hb : Nat.blt n a.length = true := by rw [Nat.blt_eq]; exact hn
  have e0 : decide ((0 : Int) ≤ (b : Int)) = true := decide_eq_true (by omega)
  have e1 : (bif (bif (a.getD n 0 == 32) then true else (a.getD n 0 == 10)) then true else (bif (a.getD n 0 == 40) then true else (a.getD n 0 == 41))) = true := by
    rcases sep_small h with e | e | e | e <;> rw [e] <;> rfl
  unfold m_text_cutWord_L1
  simp only [hb, cond_true, h1, e0]
  rw [chk_pos' trivial, chk_pos' trivial, e1, cond_true, chk_pos' ⟨by omega, by omega, by omega⟩, chk_pos' ⟨by omega, by omega⟩]
  rfl
theorem cut_brace {a : List Int} (hl : a.length ≤ 100000000000) {n : Nat} (hn : n < a.length) (h : brB (a.getD n 0) = true) : m_text_cutWord_L1 a (-1, n) = some (.done (.inr ([a.getD n 0], a.drop (n + 1)))) := by
  have hs : sepB (a.getD n 0) = true := by
    unfold brB at h
    unfold sepB
    simp only [Bool.or_eq_true, beq_iff_eq] at h ⊢
    omega
  obtain ⟨h1, h2⟩ := rune_sep hn hs
  have hb : Nat.blt n a.length = true := by rw [Nat.blt_eq]; exact hn
  have e1 : (bif (a.getD n 0 == 40) then true else (a.getD n 0 == 41)) = true := by
    unfold brB at h
    revert h
    cases (a.getD n 0 == 40) <;> cases (a.getD n 0 == 41) <;> intro h <;> first | rfl | exact h
  have e2 : w64 ((n : Int) + 1) = ((n + 1 : Nat) : Int) := by rw [w64_succ hn (by omega)]; rfl
  unfold m_text_cutWord_L1
  simp only [hb, cond_true, h1]
  rw [chk_pos' trivial, chk_pos' trivial, e2, e1, show decide ((0 : Int) ≤ -1) = false from rfl, cond_false, cond_false, cond_true, chk_pos' ⟨by omega, by omega, by omega⟩, chk_pos' ⟨by omega, by omega⟩]
  have e3 : (a.drop ((n : Int)).toNat).take ((((n + 1 : Nat) : Int)).toNat - ((n : Int)).toNat) = [a.getD n 0] := by
    rw [Int.toNat_natCast, Int.toNat_natCast, drop_getD a 0 hn, show n + 1 - n = 1 by omega]
    rfl
  rw [e3, Int.toNat_natCast]
theorem cut_gap {a : List Int} {n : Nat} (hn : n < a.length) (h : sepB (a.getD n 0) = true) (hbr : brB (a.getD n 0) = false) : m_text_cutWord_L1 a (-1, n) = some (.next (-1, n + 1)) := by
  obtain ⟨h1, h2⟩ := rune_sep hn h
  have hb : Nat.blt n a.length = true := by rw [Nat.blt_eq]; exact hn
  have e1 : (bif (a.getD n 0 == 40) then true else (a.getD n 0 == 41)) = false := by
    unfold brB at hbr
    revert hbr
    cases (a.getD n 0 == 40) <;> cases (a.getD n 0 == 41) <;> intro h <;> first | rfl | exact h
  have e3 : (bif (a.getD n 0 == 32) then true else (a.getD n 0 == 10)) = true := by
    rcases sep_small h with e | e | e | e
    · rw [e]; rfl
    · rw [e]; rfl
    · rw [e] at hbr; cases hbr
    · rw [e] at hbr; cases hbr
  unfold m_text_cutWord_L1
  simp only [hb, cond_true, h1, h2]
  rw [chk_pos' trivial, chk_pos' trivial, e1, e3]
  rfl
theorem cut_on {a : List Int} (hb' : BytesI a) {i : Int} {n : Nat} (hn : n < a.length) (h : sepB (a.getD n 0) = false) : m_text_cutWord_L1 a (i, n) = some (.next (if i < 0 then (n : Int) else i, stepL a n)) := by
  obtain ⟨h1, h2, h3, h4⟩ := rune_else hb' hn h
  have hb : Nat.blt n a.length = true := by rw [Nat.blt_eq]; exact hn
  unfold sepB at h1
  simp only [Bool.or_eq_false_iff] at h1
  obtain ⟨⟨⟨g1, g2⟩, g3⟩, g4⟩ := h1
  unfold m_text_cutWord_L1
  simp only [hb, cond_true, g1, g2, g3, g4, cond_false]
  rw [chk_pos' trivial, chk_pos' trivial]
  by_cases hi : i < 0
  · rw [decide_eq_false (by omega), decide_eq_true hi, if_pos hi]; rfl
  · rw [decide_eq_true (by omega), decide_eq_false hi, if_neg hi]; rfl
theorem cut_run {a : List Int} (hb : BytesI a) (hl : a.length ≤ 100000000000) : ∀ (k n : Nat), a.length - n ≤ k → n ≤ a.length →
    (∃ x, loopO (m_text_cutWord_L1 a) (-1, n) = some x ∧ ∃ r, cutE a x = some r ∧ CutR a (wordsA (a.drop n) []) r) ∧
    (∀ b : Nat, b < n → ∃ x, loopO (m_text_cutWord_L1 a) ((b : Int), n) = some x ∧ ∃ r, cutE a x = some r ∧ CutR a (wordsA (a.drop n) (cutL a b n)) r) := by
  intro k
  induction k with
  | zero =>
    intro n h1 h2
    obtain rfl : n = a.length := by omega
    refine ⟨⟨_, loopO_done (cut_end a (-1)), ([], []), rfl, sub_nil a, sub_nil a, .inl ⟨rfl, rfl, by rw [List.drop_length]; rfl⟩⟩, fun b hbn => ⟨_, loopO_done (cut_end a b), (a.drop b, []), ?_, sub_drop a b, sub_nil a, .inr ⟨?_, ?_⟩⟩⟩
    · unfold cutE
      simp only
      rw [decide_eq_false (by omega), cond_false, chk_pos' ⟨by omega, by omega⟩, Int.toNat_natCast]
    · intro h
      have := congrArg List.length h
      simp only [List.length_drop, List.length_nil] at this
      omega
    · have e : cutL a b a.length = a.drop b := by unfold cutL; rw [List.take_of_length_le (by simp)]
      have hne := cut_ne hbn (Nat.le_refl _)
      rw [List.drop_length, wordsA, fl_ne hne, e]
      rfl
  | succ k ih =>
    intro n h1 h2
    by_cases hn : ¬ n < a.length
    · exact ih n (by omega) h2
    have hn := Decidable.not_not.1 hn
    have hd := drop_getD a (0 : Int) hn
    cases hs : sepB (a.getD n 0) with
    | true =>
      constructor
      · cases hbr : brB (a.getD n 0) with
        | true =>
          refine ⟨_, loopO_done (cut_brace hl hn hbr), _, rfl, ?_, sub_drop a _, .inr ⟨by simp, ?_⟩⟩
          · refine ⟨fun x hx => ?_, by simp only [List.length_singleton]; omega⟩
            obtain rfl := List.mem_singleton.1 hx
            exact getD_mem hn
          · rw [hd, wordsA, hs, hbr, fl_nil]
            rfl
        | false =>
          obtain ⟨x, e, r, er, hr⟩ := (ih (n + 1) (by omega) (by omega)).1
          refine ⟨x, by rw [loopO_next (cut_gap hn hs hbr), e], r, er, ?_⟩
          rw [hd, wordsA, hs, hbr, fl_nil]
          exact hr
      · intro b hbn
        refine ⟨_, loopO_done (cut_word hl hbn hn hs), _, rfl, sub_cut a b n, sub_drop a n, .inr ⟨cut_ne hbn h2, ?_⟩⟩
        show wordsA (a.drop n) (cutL a b n) = cutL a b n :: wordsA (a.drop n) []
        rw [hd, words_sep hs, fl_ne (cut_ne hbn h2)]
        rfl
    | false =>
      obtain ⟨g1, g2, g3, g4⟩ := rune_else hb hn hs
      have hw : ∀ u, wordsA (a.drop n) u = wordsA (a.drop (stepL a n)) (u ++ cutL a n (stepL a n)) := fun u => by
        rw [drop_cut a (Nat.le_of_lt g2), words_run _ _ _ (cut_nosep g3 g4)]
      obtain ⟨_, q2⟩ := ih (stepL a n) (by omega) g3
      constructor
      · obtain ⟨x, e, r, er, hr⟩ := q2 n g2
        refine ⟨x, by rw [loopO_next (cut_on hb hn hs), if_pos (by omega), e], r, er, ?_⟩
        rw [hw, List.nil_append]
        exact hr
      · intro b hbn
        obtain ⟨x, e, r, er, hr⟩ := q2 b (by omega)
        refine ⟨x, by rw [loopO_next (cut_on hb hn hs), if_neg (by omega), e], r, er, ?_⟩
        rw [hw, ← cut_add a (by omega) (Nat.le_of_lt g2)]
        exact hr
theorem cutWord_eq {a : List Int} (hb : BytesI a) (hl : a.length ≤ 100000000000) : ∃ r, m_text_cutWord a = some r ∧ CutR a (wordsS a) r := by
  obtain ⟨x, e, r, er, hr⟩ := (cut_run hb hl a.length 0 (by omega) (by omega)).1
  refine ⟨r, ?_, hr⟩
  unfold m_text_cutWord
  rw [e, Option.bind_some]
  exact er
end Go.Proofs.YtcddajbcbkbipaaDoor

namespace Go.Proofs.YtcddajbcbkbipaaDoor
open Go Go.RowKit
set_option linter.unusedVariables false
set_option linter.unusedSimpArgs false

/-! ### What is left -/
def longW : Nat := 100000000000
def badX : Treader := ⟨[], [], true⟩
def VX : VW Treader where
  left s := if s.word = [] then [] else s.word :: wordsS s.rest
  fine s := s.wrong = false ∧ (s.word = [] → s.rest = []) ∧ BytesI s.word ∧ BytesI s.rest ∧ s.word.length ≤ longW ∧ s.rest.length ≤ longW
  spent _ s := s = badX
  mono _ _ _ h := h
theorem headX (s : Treader) : (VX.left s).headD [] = s.word := by
  show (if s.word = [] then [] else s.word :: wordsS s.rest).headD [] = s.word
  by_cases h : s.word = []
  · rw [if_pos h, h]; rfl
  · rw [if_neg h]; rfl
theorem leftX_nil {s : Treader} : VX.left s = [] ↔ s.word = [] := by
  show (if s.word = [] then [] else s.word :: wordsS s.rest) = [] ↔ _
  by_cases h : s.word = []
  · simp [h]
  · simp [h]
theorem leftX_word {s : Treader} (h : s.word ≠ []) : VX.left s = s.word :: wordsS s.rest := if_neg h
theorem step_any (s : Treader) (hw : s.wrong = false) (hb : BytesI s.rest) (hl : s.rest.length ≤ longW) : ∃ s', m_text_reader_step s = some s' ∧ VX.fine s' ∧ VX.left s' = wordsS s.rest := by
  obtain ⟨r, e, ⟨h1, h1'⟩, ⟨h2, h2'⟩, h3⟩ := cutWord_eq hb hl
  refine ⟨⟨r.1, r.2, s.wrong⟩, ?_, ⟨hw, fun h => ?_, fun x hx => hb x (h1 x hx), fun x hx => hb x (h2 x hx), ?_, ?_⟩, ?_⟩
  · unfold m_text_reader_step
    rw [e, Option.bind_some]
  · change r.1 = [] at h
    rcases h3 with ⟨_, g, _⟩ | ⟨g, _⟩
    · exact g
    · exact absurd h g
  · show r.1.length ≤ _; omega
  · show r.2.length ≤ _; omega
  · show (if r.1 = [] then [] else r.1 :: wordsS r.2) = _
    rcases h3 with ⟨g, _, g3⟩ | ⟨g, g2⟩
    · rw [if_pos g, g3]
    · rw [if_neg g, g2]
theorem step_fine {s : Treader} (h : VX.fine s) : ∃ s', m_text_reader_step s = some s' ∧ VX.fine s' ∧ VX.left s' = wordsS s.rest := step_any s h.1 h.2.2.2.1 h.2.2.2.2.2
theorem step_left {s : Treader} (h : VX.fine s) {w : Word} {l : List Word} (hl : VX.left s = w :: l) : s.word = w ∧ ∃ s', m_text_reader_step s = some s' ∧ VX.fine s' ∧ VX.left s' = l := by
  obtain ⟨s', e, h1, h2⟩ := step_fine h
  have hne : s.word ≠ [] := fun h => by rw [leftX_nil.2 h] at hl; cases hl
  rw [leftX_word hne] at hl
  obtain ⟨rfl, rfl⟩ := List.cons.inj hl
  exact ⟨rfl, s', e, h1, h2⟩
theorem words_nil : wordsS [] = [] := rfl
theorem step_bad : m_text_reader_step badX = some badX := by
  obtain ⟨r, e, ⟨h1, h1'⟩, ⟨h2, h2'⟩, h3⟩ := cutWord_eq BytesI.nil (by simp)
  have e1 : r = ([], []) := Prod.ext (List.length_eq_zero_iff.1 (by simpa using h1')) (List.length_eq_zero_iff.1 (by simpa using h2'))
  unfold m_text_reader_step
  show Option.bind (m_text_cutWord []) _ = _
  rw [e, e1]
  rfl
theorem fail_eq (s : Treader) : m_text_reader_fail s = some badX := rfl
theorem take_eq (w : Word) (s : Treader) : m_text_reader_take w s = if s.word = w then m_text_reader_step s else some badX := by
  unfold m_text_reader_take
  by_cases h : s.word = w
  · have : (s.word == w) = true := by rw [h]; simp
    rw [if_pos h, this]
    cases m_text_reader_step s <;> rfl
  · have : (s.word == w) = false := by rw [beq_eq_false_iff_ne]; exact h
    rw [if_neg h, this, fail_eq]
    rfl
theorem take_bad (w : Word) : m_text_reader_take w badX = some badX := by
  rw [take_eq]
  split
  · exact step_bad
  · rfl
/-- A word that has to stand here. -/
theorem rd_take (w : Word) (hw : w ≠ []) : Rd VX (fun s => (m_text_reader_take w s).bind fun x => some ((), x)) (fun _ => [w]) (fun _ => True) anyW 0 where
  sticky k s hs := by
    obtain rfl : s = badX := hs
    exact ⟨(), badX, by simp only [take_bad, Option.bind_some], rfl⟩
  any s hs _ := by
    by_cases h : s.word = w
    · have hne : s.word ≠ [] := by rw [h]; exact hw
      obtain ⟨s', e, h1, h2⟩ := step_fine hs
      refine ⟨(), s', by simp only [take_eq, if_pos h, e, Option.bind_some], .inl ⟨h1, trivial, trivial, ?_⟩⟩
      rw [leftX_word hne, h2, h]
      rfl
    · exact ⟨(), badX, by simp only [take_eq, if_neg h, Option.bind_some], .inr fun _ _ => rfl⟩
  whole s a more hs _ _ hl := by
    obtain ⟨h, s', e, h1, h2⟩ := step_left hs hl
    exact ⟨s', by simp only [take_eq, if_pos h, e, Option.bind_some], h1, h2⟩

/-! ### Numbers -/
theorem parseD_mono : ∀ (w : List Int) (acc n : Nat), parseD w acc = some n → acc ≤ n
  | [], acc, n, h => by rw [parseD] at h; obtain rfl := Option.some.inj h; exact Nat.le_refl _
  | x :: w, acc, n, h => by
    rw [parseD] at h
    split at h
    · have := parseD_mono w _ n h; omega
    · cases h
theorem pu_iff (M : Nat) (hM : M ≤ 18446744073709551615) : ∀ (w : List Int) (acc n : Nat), BytesI w → acc ≤ M → (Lib.parseUintM M acc (toU8 w) = .ok n ↔ parseD w acc = some n ∧ n ≤ M)
  | [], acc, n, _, ha => by
    show Lib.NumEnd.ok acc = .ok n ↔ some acc = some n ∧ n ≤ M
    constructor
    · intro h; obtain rfl := Lib.NumEnd.ok.inj h; exact ⟨rfl, ha⟩
    · rintro ⟨h, _⟩; obtain rfl := Option.some.inj h; rfl
  | x :: w, acc, n, hb, ha => by
    have hx := hb x (by simp)
    have hw : BytesI w := fun y hy => hb y (by simp [hy])
    have e0 : (UInt8.ofNat x.toNat).toNat = x.toNat := by rw [UInt8.toNat_ofNat']; omega
    show Lib.parseUintM M acc (UInt8.ofNat x.toNat :: toU8 w) = .ok n ↔ _
    rw [Lib.parseUintM, parseD, e0]
    by_cases h1 : 48 ≤ x ∧ x ≤ 57
    · rw [if_pos (by omega : 48 ≤ x.toNat ∧ x.toNat ≤ 57)]
      have e1 : acc * 10 + (x - 48).toNat = acc * 10 + (x.toNat - 48) := by omega
      rw [e1]
      by_cases h2 : 1844674407370955162 ≤ acc
      · rw [if_pos h2, if_neg (by omega)]
        exact ⟨fun h => (by cases h), fun h => (by cases h.1)⟩
      · rw [if_neg h2]
        by_cases h3 : M < acc * 10 + (x.toNat - 48)
        · rw [if_pos h3]
          refine ⟨fun h => (by cases h), fun h => ?_⟩
          obtain ⟨h4, h5⟩ := h
          split at h4
          · have := parseD_mono w _ n h4; omega
          · cases h4
        · rw [if_neg h3, if_pos ⟨h1.1, h1.2, by omega⟩]
          exact pu_iff M hM w _ n hw (by omega)
    · rw [if_neg (by omega : ¬ (48 ≤ x.toNat ∧ x.toNat ≤ 57)), if_neg (fun h => h1 ⟨h.1, h.2.1⟩)]
      exact ⟨fun h => (by cases h), fun h => (by cases h.1)⟩
theorem numV_iff (w : Word) (n : Nat) : numV w = some n ↔ w ≠ [] ∧ ¬ (1 < w.length ∧ w.headD 0 = 48) ∧ parseD w 0 = some n := by
  constructor
  · intro h
    unfold numV at h
    split at h
    · cases h
    · rename_i hc
      simp only [not_or] at hc
      exact ⟨hc.1, hc.2.2, h⟩
  · rintro ⟨h1, h2, h3⟩
    have hn := parseD_lt w 0 n (by omega) h3
    have e := parseD_inv w.length w n rfl h1 (fun h4 h5 => h2 ⟨h4, h5⟩) h3
    rw [e]
    exact numV_dig n hn
theorem pub_ok {B M : Nat} (hM : 2 ^ B - 1 = M) (hM' : M ≤ 18446744073709551615) {w : List Int} (hb : BytesI w) (n : Nat) : Lib.parseUintB B (toU8 w) = .ok n ↔ w ≠ [] ∧ parseD w 0 = some n ∧ n ≤ M := by
  unfold Lib.parseUintB
  by_cases h : w = []
  · subst h
    rw [if_pos (show toU8 [] = [] from rfl)]
    exact ⟨fun h => (by cases h), fun h => absurd rfl h.1⟩
  · have : toU8 w ≠ [] := fun e => h (List.map_eq_nil_iff.1 e)
    rw [if_neg this, hM, pu_iff M hM' w 0 n hb (by omega)]
    exact ⟨fun e => ⟨h, e⟩, fun e => e.2⟩
theorem whole_run (bits : Int) (M : Nat) (hbM : (bits = 31 ∧ M = 2147483647) ∨ (bits = 64 ∧ M = 18446744073709551615)) (s : Treader) (hw : BytesI s.word) (hl : s.word.length ≤ longW) :
    m_text_reader_whole bits s = match numV s.word with | some v => if (v : Int) ≤ M then (m_text_reader_step s).bind fun x => some ((v : Int), x) else some (0, badX) | none => some (0, badX) := by
  have hlw : longW = 100000000000 := rfl
  have hx : x_ParseUint s.word 10 bits = some (numEnd M (Lib.parseUintB bits.toNat (toU8 s.word))) := by
    unfold x_ParseUint
    rcases hbM with ⟨rfl, rfl⟩ | ⟨rfl, rfl⟩
    · rw [chk_pos' ⟨rfl, .inl rfl, by omega⟩, if_pos rfl]; rfl
    · rw [chk_pos' ⟨rfl, .inr rfl, by omega⟩, if_neg (by decide)]; rfl
  have hok := fun n => pub_ok (B := bits.toNat) (M := M) (by rcases hbM with ⟨rfl, rfl⟩ | ⟨rfl, rfl⟩ <;> rfl) (by rcases hbM with ⟨_, rfl⟩ | ⟨_, rfl⟩ <;> decide) hw n
  have e1 : s.word.getD ((0 : Int)).toNat 0 = s.word.headD 0 := by cases s.word <;> rfl
  have e2 : (bif decide ((1 : Int) < (s.word.length : Int)) then (s.word.headD 0 == (48 : Int)) else false) = decide (1 < s.word.length ∧ s.word.headD 0 = 48) := by
    by_cases a : 1 < s.word.length
    · rw [decide_eq_true (show (1 : Int) < (s.word.length : Int) by omega), cond_true]
      by_cases b : s.word.headD 0 = 48
      · rw [decide_eq_true ⟨a, b⟩, b]; rfl
      · rw [decide_eq_false (fun h => b h.2), beq_eq_false_iff_ne]; exact b
    · rw [decide_eq_false (show ¬ (1 : Int) < (s.word.length : Int) by omega), decide_eq_false (fun h => a h.1), cond_false]
  unfold m_text_reader_whole
  rw [hx, Option.bind_some, e1, e2, chk_pos' (fun h => by
    simp only [Bool.and_eq_true, beq_iff_eq, decide_eq_true_eq] at h
    exact ⟨Int.le_refl _, by omega⟩)]
  cases hr : Lib.parseUintB bits.toNat (toU8 s.word) with
  | ok u =>
    obtain ⟨h1, h2, h3⟩ := (hok u).1 hr
    show (bif (bif false then true else decide (1 < s.word.length ∧ s.word.headD 0 = 48)) then _ else _) = _
    by_cases hz : 1 < s.word.length ∧ s.word.headD 0 = 48
    · have hn : numV s.word = none := by
        cases hv : numV s.word with
        | none => rfl
        | some v => exact absurd hz ((numV_iff _ _).1 hv).2.1
      rw [decide_eq_true hz, hn]
      rfl
    · rw [decide_eq_false hz, (numV_iff _ u).2 ⟨h1, hz, h2⟩]
      show _ = if (u : Int) ≤ M then _ else _
      rw [if_pos (by omega)]
      rfl
  | _ =>
    have hn : ∀ v, numV s.word = some v → ¬ (v : Int) ≤ M := fun v hv hle => by
      obtain ⟨h1, _, h2⟩ := (numV_iff _ _).1 hv
      have := (hok v).2 ⟨h1, h2, by omega⟩
      rw [hr] at this
      cases this
    show some ((0 : Int), badX) = _
    cases hv : numV s.word with
    | none => rfl
    | some v =>
      show _ = if (v : Int) ≤ M then _ else _
      rw [if_neg (hn v hv)]
theorem numV_nil : numV [] = none := rfl
theorem rd_whole (bits : Int) (M : Nat) (hbM : (bits = 31 ∧ M = 2147483647) ∨ (bits = 64 ∧ M = 18446744073709551615)) : Rd VX (m_text_reader_whole bits) oneW (fun n => 0 ≤ n ∧ n ≤ (M : Int)) anyW 0 where
  sticky k s hs := by
    obtain rfl : s = badX := hs
    exact ⟨0, badX, whole_run bits M hbM badX BytesI.nil (by simp [badX]), rfl⟩
  any s hs _ := by
    rw [whole_run bits M hbM s hs.2.2.1 hs.2.2.2.2.1]
    cases hn : numV s.word with
    | none => exact ⟨0, badX, rfl, .inr fun _ _ => rfl⟩
    | some v =>
      by_cases hv : (v : Int) ≤ M
      · obtain ⟨h1, h2⟩ := numV_inv hn
        obtain ⟨s', e, f1, f2⟩ := step_fine hs
        refine ⟨(v : Int), s', by simp only [if_pos hv, e, Option.bind_some], .inl ⟨f1, ⟨by omega, hv⟩, trivial, ?_⟩⟩
        rw [leftX_word (by rw [h1]; exact digN_ne v), f2, h1]
        simp [oneW, dg]
      · exact ⟨0, badX, by simp only [if_neg hv], .inr fun _ _ => rfl⟩
  whole s a more hs hp _ hl := by
    obtain ⟨h, s', e, h1, h2⟩ := step_left hs (w := dg a) (l := more) hl
    rw [whole_run bits M hbM s hs.2.2.1 hs.2.2.2.2.1, h]
    have ha : ((a.toNat : Nat) : Int) = a := by have := hp.1; omega
    unfold dg
    rw [numV_dig _ (by rcases hbM with ⟨_, rfl⟩ | ⟨_, rfl⟩ <;> (have := hp.2; have := hp.1; omega))]
    exact ⟨s', by simp only [ha, if_pos hp.2, e, Option.bind_some], h1, h2⟩
theorem rd_number : Rd VX m_text_reader_number oneW isNum anyW 0 := by
  have := (rd_whole 31 2147483647 (.inl ⟨rfl, rfl⟩)).map (F := oneW) (P' := isNum) (fun x => w64 x) (fun x => x) (fun b hb => w64_of (by have := hb.1; omega) (by have := hb.2; omega)) (fun b hb => hb) (fun a ha => by rw [w64_of (by have := ha.1; omega) (by have := ha.2; omega)]; exact ha) (fun a ha => by rw [w64_of (by have := ha.1; omega) (by have := ha.2; omega)])
  exact this
/-! ### As many as there are, up to so many -/
theorem starB {S α R : Type} {V : VW S} {m : S → Option (α × S)} {E : α → List Word} {P : α → Prop} (head : List Word → Bool) (h : RdH V (fun l => head l = true) m E P anyW 0) (M : Nat) (go fin : List α → S → Option R)
    (hhead : ∀ a more, P a → head (E a ++ more) = true)
    (hstop : ∀ l s, V.fine s → head (V.left s) = false ∨ M ≤ l.length → go l s = fin l s) (hspent : ∀ l s, V.spent 0 s → go l s = fin l s)
    (hgo : ∀ l s a s', V.fine s → head (V.left s) = true → l.length < M → m s = some (a, s') → go l s = go (l ++ [a]) s') :
    (∀ s, V.fine s → ∃ l s', go [] s = fin l s' ∧ ((V.fine s' ∧ (∀ a ∈ l, P a) ∧ l.length ≤ M ∧ V.left s = (l.map E).flatten ++ V.left s') ∨ V.spent 0 s')) ∧
    (∀ s l more, V.fine s → (∀ a ∈ l, P a) → l.length ≤ M → head more = false → V.left s = (l.map E).flatten ++ more → ∃ s', go [] s = fin l s' ∧ V.fine s' ∧ V.left s' = more) := by
  have key : ∀ (k : Nat) (l : List α) (s : S), l.length + k = M → V.fine s → ∃ l' s', (go l s = fin (l ++ l') s' ∧ V.fine s' ∧ (∀ a ∈ l', P a) ∧ (l ++ l').length ≤ M ∧ V.left s = (l'.map E).flatten ++ V.left s') ∨ (go l s = fin l' s' ∧ V.spent 0 s') := by
    intro k
    induction k with
    | zero =>
      intro l s hk hs
      exact ⟨[], s, .inl ⟨by rw [hstop l s hs (.inr (by omega)), List.append_nil], hs, by simp, by simp; omega, by simp⟩⟩
    | succ k ih =>
      intro l s hk hs
      cases hh : head (V.left s) with
      | false => exact ⟨[], s, .inl ⟨by rw [hstop l s hs (.inl hh), List.append_nil], hs, by simp, by simp; omega, by simp⟩⟩
      | true =>
        obtain ⟨a, s', e, hd⟩ := h.any s hs hh
        have hg := hgo l s a s' hs hh (by omega) e
        rcases hd with ⟨hf, hp, _, hle⟩ | hd
        · obtain ⟨l', t, hr⟩ := ih (l ++ [a]) s' (by rw [List.length_append, List.length_singleton]; omega) hf
          rcases hr with ⟨e1, f1, f2, f3, f4⟩ | ⟨e1, f1⟩
          · exact ⟨a :: l', t, .inl ⟨by rw [hg, e1]; simp, f1, fun b hb => (List.mem_cons.1 hb).elim (fun h => h ▸ hp) (f2 b), by simpa using f3, by rw [hle, f4]; simp⟩⟩
          · exact ⟨l', t, .inr ⟨by rw [hg, e1], f1⟩⟩
        · have h0 := hd 0 (by decide)
          exact ⟨l ++ [a], s', .inr ⟨by rw [hg, hspent _ _ h0], h0⟩⟩
  have key2 : ∀ (l' l : List α) (s : S) (more : List Word), V.fine s → (∀ a ∈ l', P a) → l.length + l'.length ≤ M → head more = false → V.left s = (l'.map E).flatten ++ more → ∃ s', go l s = fin (l ++ l') s' ∧ V.fine s' ∧ V.left s' = more := by
    intro l'
    induction l' with
    | nil =>
      intro l s more hs hp hM hm hl
      have e : V.left s = more := by simpa using hl
      exact ⟨s, by rw [hstop l s hs (.inl (by rw [e]; exact hm)), List.append_nil], hs, e⟩
    | cons a l' ih =>
      intro l s more hs hp hM hm hl
      have hle : V.left s = E a ++ ((l'.map E).flatten ++ more) := by rw [hl]; simp
      have ha := hp a (by simp)
      obtain ⟨s', e, hf, hl'⟩ := h.whole s a _ hs ha trivial hle
      simp only [List.length_cons] at hM
      have hg := hgo l s a s' hs (by rw [hle]; exact hhead a _ ha) (by omega) e
      obtain ⟨t, e1, f1, f2⟩ := ih (l ++ [a]) s' more hf (fun b hb => hp b (by simp [hb])) (by rw [List.length_append, List.length_singleton]; omega) hm hl'
      exact ⟨t, by rw [hg, e1]; simp, f1, f2⟩
  refine ⟨fun s hs => ?_, fun s l more hs hp hM hm hl => ?_⟩
  · obtain ⟨l', s', hr⟩ := key M [] s (by simp) hs
    rcases hr with ⟨e, f1, f2, f3, f4⟩ | ⟨e, f1⟩
    · exact ⟨l', s', by simpa using e, .inl ⟨f1, f2, by simpa using f3, f4⟩⟩
    · exact ⟨l', s', e, .inr f1⟩
  · obtain ⟨t, e, f1, f2⟩ := key2 l [] s more hs hp (by simpa using hM) hm hl
    exact ⟨t, by simpa using e, f1, f2⟩

/-! ### Lists -/
def headI (l : List Word) : Bool := !(l.headD [] == [41]) && !(l.headD [] == [])
noncomputable def goXL (l : List Int) (s : Treader) : Option (List Int × List Int × List Int × Bool) := loopO m_text_reader_list_L1 (l, s.word, s.rest, s.wrong)
def finX {α : Type} (l : List α) (s : Treader) : Option (List α × List Int × List Int × Bool) := some (l, s.word, s.rest, s.wrong)
theorem list_roundX (l : List Int) (s : Treader) : m_text_reader_list_L1 (l, s.word, s.rest, s.wrong) = bif headI (VX.left s) && decide ((l.length : Int) < 64) then (m_text_reader_number s).bind fun x10 => chk (l.length + 1 ≤ room) (some (.next (l ++ [x10.1], x10.2.word, x10.2.rest, x10.2.wrong))) else some (.done (l, s.word, s.rest, s.wrong)) := by
  unfold m_text_reader_list_L1 headI
  rw [headX]
  show (bif (bif (bif !(s.word == [41]) then !(s.word == []) else false) then decide ((l.length : Int) < 64) else false) then _ else _) = _
  cases (s.word == [41]) <;> cases (s.word == ([] : Word)) <;> cases decide ((l.length : Int) < 64) <;> rfl
theorem headI_bad : headI (VX.left badX) = false := rfl
theorem starI : (∀ s, VX.fine s → ∃ l s', goXL [] s = finX l s' ∧ ((VX.fine s' ∧ (∀ a ∈ l, isNum a) ∧ l.length ≤ 64 ∧ VX.left s = (l.map oneW).flatten ++ VX.left s') ∨ VX.spent 0 s')) ∧
    (∀ s l more, VX.fine s → (∀ a ∈ l, isNum a) → l.length ≤ 64 → headI more = false → VX.left s = (l.map oneW).flatten ++ more → ∃ s', goXL [] s = finX l s' ∧ VX.fine s' ∧ VX.left s' = more) := by
  refine starB (m := m_text_reader_number) (E := oneW) headI (rd_number.pre fun _ _ => trivial) 64 goXL finX (fun a more ha => ?_) (fun l s hs hh => ?_) (fun l s hs => ?_) (fun l s a s' hs hh hl hm => ?_)
  · unfold headI oneW
    have h1 : (dg a == [41]) = false := by
      rw [beq_eq_false_iff_ne]
      intro h
      have := digN_dig a.toNat 41 (by show (41 : Int) ∈ dg a; rw [h]; simp)
      have := this.1
      omega
    have h2 : (dg a == []) = false := by rw [beq_eq_false_iff_ne]; exact dg_ne a
    show (!((dg a :: more).headD [] == [41]) && !((dg a :: more).headD [] == [])) = true
    rw [List.headD_cons, h1, h2]; rfl
  · have : (headI (VX.left s) && decide ((l.length : Int) < 64)) = false := by
      rcases hh with hh | hh
      · rw [hh]; rfl
      · rw [decide_eq_false (by omega), Bool.and_false]
    exact loopO_done (by rw [list_roundX, this, cond_false])
  · obtain rfl : s = badX := hs
    exact loopO_done (by rw [list_roundX, headI_bad, Bool.false_and, cond_false])
  · have : (headI (VX.left s) && decide ((l.length : Int) < 64)) = true := by rw [hh, decide_eq_true (by omega)]; rfl
    exact loopO_next (by rw [list_roundX, this, cond_true, hm, Option.bind_some, chk_pos' (by simp only [room]; omega)])
theorem list_runX (s : Treader) : m_text_reader_list s = (m_text_reader_take [40] s).bind fun x1 => (goXL [] x1).bind fun x => (m_text_reader_take [41] ⟨x.2.1, x.2.2.1, x.2.2.2⟩).bind fun y => some (x.1, y) := rfl
def listP (l : List Int) : Prop := numsP l ∧ l.length ≤ 64
theorem rd_xlist : Rd VX m_text_reader_list listW listP anyW 0 where
  sticky k s hs := by
    obtain rfl : s = badX := hs
    have e : goXL [] badX = some ([], badX.word, badX.rest, badX.wrong) := loopO_done (by rw [list_roundX, headI_bad, Bool.false_and, cond_false])
    refine ⟨[], badX, ?_, rfl⟩
    rw [list_runX, take_bad, Option.bind_some, e, Option.bind_some]
    show (m_text_reader_take [41] badX).bind _ = _
    rw [take_bad]; rfl
  any s hs _ := by
    obtain ⟨_, s1, e1, hd1⟩ := (rd_take [40] (by decide)).any s hs trivial
    have e1' : m_text_reader_take [40] s = some s1 := by
      cases ht : m_text_reader_take [40] s with
      | none => simp only [ht] at e1; cases e1
      | some y => simp only [ht, Option.bind_some] at e1; rw [(Prod.mk.inj (Option.some.inj e1)).2]
    have ebad : ∀ {l : List Int} {s2 : Treader}, goXL [] s1 = finX l s2 → s2 = badX → m_text_reader_list s = some (l, badX) := fun {l s2} h1 h2 => by
      subst h2
      rw [list_runX, e1', Option.bind_some, h1]
      unfold finX
      rw [Option.bind_some, show (⟨badX.word, badX.rest, badX.wrong⟩ : Treader) = badX from rfl, take_bad]; rfl
    rcases hd1 with ⟨f1, _, _, f4⟩ | hd1
    · obtain ⟨l, s2, e2, hd2⟩ := starI.1 s1 f1
      rcases hd2 with ⟨g1, g2, g3, g4⟩ | hd2
      · obtain ⟨_, s3, e3, hd3⟩ := (rd_take [41] (by decide)).any s2 g1 trivial
        refine ⟨l, s3, ?_, ?_⟩
        · rw [list_runX, e1', Option.bind_some, e2]
          show (m_text_reader_take [41] s2).bind _ = _
          cases ht : m_text_reader_take [41] s2 with
          | none => simp only [ht] at e3; cases e3
          | some y => simp only [ht, Option.bind_some] at e3; rw [(Prod.mk.inj (Option.some.inj e3)).2]; rfl
        · rcases hd3 with ⟨j1, _, _, j4⟩ | hd3
          · refine .inl ⟨j1, ⟨g2, g3⟩, trivial, ?_⟩
            rw [f4, g4, j4, items_flat]
            simp [listW]
          · exact .inr hd3
      · exact ⟨l, badX, ebad e2 hd2, .inr fun _ _ => rfl⟩
    · obtain rfl : s1 = badX := hd1 0 (by decide)
      have e : goXL [] badX = finX [] badX := loopO_done (by rw [list_roundX, headI_bad, Bool.false_and, cond_false])
      exact ⟨[], badX, ebad e rfl, .inr fun _ _ => rfl⟩
  whole s l more hs hp _ hl := by
    have hl' : VX.left s = [40] :: ((l.map oneW).flatten ++ ([41] :: more)) := by rw [hl, items_flat]; simp [listW]
    obtain ⟨h1, s1, e1, f1, f2⟩ := step_left hs hl'
    obtain ⟨s2, e2, g1, g2⟩ := starI.2 s1 l ([41] :: more) f1 hp.1 hp.2 rfl f2
    obtain ⟨h3, s3, e3, j1, j2⟩ := step_left g1 g2
    refine ⟨s3, ?_, j1, j2⟩
    rw [list_runX, take_eq, if_pos h1, e1, Option.bind_some, e2]
    show (m_text_reader_take [41] s2).bind _ = _
    rw [take_eq, if_pos h3, e3]
    rfl
end Go.Proofs.YtcddajbcbkbipaaDoor

namespace Go.Proofs.YtcddajbcbkbipaaDoor
open Go Go.RowKit
set_option linter.unusedVariables false
set_option linter.unusedSimpArgs false

def phiP2 (p : TPhi) : Prop := isNum p.Bits ∧ isNum p.Dst ∧ listP p.From ∧ listP p.Args
def opP2 (o : TOp) : Prop := (0 ≤ o.Kind ∧ o.Kind < 23) ∧ isNum o.Bits ∧ isNum o.Lanes ∧ isNum o.Dst ∧ listP o.Args ∧ (0 ≤ o.Imm ∧ o.Imm ≤ 18446744073709551615)
def endP2 (e : TEnd) : Prop := (0 ≤ e.Kind ∧ e.Kind < 4) ∧ isNum e.Arg ∧ listP e.To
def blockP2 (b : TBlock) : Prop := ((∀ p ∈ b.Phis, phiP2 p) ∧ b.Phis.length ≤ 512) ∧ ((∀ o ∈ b.Ops, opP2 o) ∧ b.Ops.length ≤ 512) ∧ endP2 b.End
def funcP2 (f : TFunc) : Prop := listP f.Params ∧ isNum f.Ret ∧ (∀ b ∈ f.Blocks, blockP2 b) ∧ f.Blocks.length ≤ 64

/-! ### Phis -/
theorem rd_phiX : Rd VX m_text_reader_phi phiW phiP2 anyW 0 := by
  refine (((rd_take phiT (by decide)).pair (rd_number.pair (rd_number.pair (rd_xlist.pair rd_xlist (fun _ _ _ _ => trivial)) (fun _ _ _ _ => trivial)) (fun _ _ _ _ => trivial)) (fun _ _ _ _ => trivial)).map (P' := phiP2) (F := phiW) (fun x => (⟨x.2.1, x.2.2.1, x.2.2.2.1, x.2.2.2.2⟩ : TPhi)) (fun p => ((), p.Bits, p.Dst, p.From, p.Args)) (fun _ _ => rfl) (fun p h => ⟨trivial, h⟩) (fun a h => h.2) (fun _ _ => rfl)).of_eq (fun s => ?_)
  unfold m_text_reader_phi
  simp only [Option.bind_assoc, Option.bind_some]
  rfl

/-! ### Operations -/
def headK (l : List Word) : Bool := (kindF (l.headD [])).2
theorem kindF_name {k : Int} (hk : 0 ≤ k ∧ k < 23) : kindF (nameK k) = (k, true) := by
  unfold kindF
  rw [findK_name hk, if_neg (by omega)]
theorem kindF_inv {w : Word} (h : (kindF w).2 = true) : (0 ≤ (kindF w).1 ∧ (kindF w).1 < 23) ∧ nameK (kindF w).1 = w := by
  unfold kindF at h ⊢
  rcases findK_inv w with e | e
  · rw [if_pos e] at h; cases h
  · rw [if_neg (by omega)]; exact e
theorem nameK_ne {k : Int} (hk : 0 ≤ k ∧ k < 23) : nameK k ≠ [] := (kinds_nosep _ (nameK_mem hk)).1
noncomputable def nameR (s : Treader) : Option (Int × Treader) := (m_text_reader_step s).bind fun x => some ((kindF s.word).1, x)
theorem rd_nameK : RdH VX (fun l => headK l = true) nameR (fun k => [nameK k]) (fun k => 0 ≤ k ∧ k < 23) anyW 0 where
  sticky k s hs := by
    obtain rfl : s = badX := hs
    unfold nameR
    exact ⟨_, badX, by rw [step_bad, Option.bind_some], rfl⟩
  any s hs hh := by
    unfold headK at hh
    rw [headX] at hh
    obtain ⟨h1, h2⟩ := kindF_inv hh
    obtain ⟨s', e, f1, f2⟩ := step_fine hs
    unfold nameR
    refine ⟨_, s', by rw [e, Option.bind_some], .inl ⟨f1, h1, trivial, ?_⟩⟩
    rw [leftX_word (by rw [← h2]; exact nameK_ne h1), f2, h2]
    rfl
  whole s a more hs hp _ hl := by
    obtain ⟨h, s', e, f1, f2⟩ := step_left hs hl
    unfold nameR
    exact ⟨s', by rw [h, kindF_name hp, e, Option.bind_some], f1, f2⟩
noncomputable def mopX (s : Treader) : Option (TOp × Treader) := m_text_reader_op (kindF s.word).1 s
theorem rd_opX : RdH VX (fun l => headK l = true) mopX opW opP2 anyW 0 := by
  refine ((rd_nameK.pair (rd_number.pair (rd_number.pair (rd_number.pair (rd_xlist.pair (rd_whole 64 18446744073709551615 (.inr ⟨rfl, rfl⟩)) (fun _ _ _ _ => trivial)) (fun _ _ _ _ => trivial)) (fun _ _ _ _ => trivial)) (fun _ _ _ _ => trivial)) (fun _ _ _ _ => trivial)).map
    (P' := opP2) (F := opW) (fun x => (⟨x.1, x.2.1, x.2.2.1, x.2.2.2.1, x.2.2.2.2.1, x.2.2.2.2.2⟩ : TOp)) (fun o => (o.Kind, o.Bits, o.Lanes, o.Dst, o.Args, o.Imm)) (fun o h => rfl) (fun o h => h) (fun a h => h) (fun _ _ => rfl)).of_eq (fun s => ?_)
  unfold mopX m_text_reader_op nameR
  simp only [Option.bind_assoc, Option.bind_some]

/-! ### Ends -/
def headE (l : List Word) : Bool := (endF (l.headD [])).2
theorem endF_name {k : Int} (hk : 0 ≤ k ∧ k < 4) : endF (nameE k) = (k, true) := by
  unfold endF
  rw [findE_name hk, if_neg (by omega)]
theorem endF_inv {w : Word} (h : (endF w).2 = true) : (0 ≤ (endF w).1 ∧ (endF w).1 < 4) ∧ nameE (endF w).1 = w := by
  unfold endF at h ⊢
  rcases findE_inv w with e | e
  · rw [if_pos e] at h; cases h
  · rw [if_neg (by omega)]; exact e
theorem nameE_ne {k : Int} (hk : 0 ≤ k ∧ k < 4) : nameE k ≠ [] := (ends_nosep _ (nameE_mem hk)).1
noncomputable def nameRE (s : Treader) : Option (Int × Treader) := (m_text_reader_step s).bind fun x => some ((endF s.word).1, x)
theorem rd_nameE : RdH VX (fun l => headE l = true) nameRE (fun k => [nameE k]) (fun k => 0 ≤ k ∧ k < 4) anyW 0 where
  sticky k s hs := by
    obtain rfl : s = badX := hs
    unfold nameRE
    exact ⟨_, badX, by rw [step_bad, Option.bind_some], rfl⟩
  any s hs hh := by
    unfold headE at hh
    rw [headX] at hh
    obtain ⟨h1, h2⟩ := endF_inv hh
    obtain ⟨s', e, f1, f2⟩ := step_fine hs
    unfold nameRE
    refine ⟨_, s', by rw [e, Option.bind_some], .inl ⟨f1, h1, trivial, ?_⟩⟩
    rw [leftX_word (by rw [← h2]; exact nameE_ne h1), f2, h2]
    rfl
  whole s a more hs hp _ hl := by
    obtain ⟨h, s', e, f1, f2⟩ := step_left hs hl
    unfold nameRE
    exact ⟨s', by rw [h, endF_name hp, e, Option.bind_some], f1, f2⟩
noncomputable def mendX (s : Treader) : Option (TEnd × Treader) := (nameRE s).bind fun x => (m_text_reader_number x.2).bind fun y => (m_text_reader_list y.2).bind fun z => some ((⟨x.1, y.1, z.1⟩ : TEnd), z.2)
theorem rd_mendX : RdH VX (fun l => headE l = true) mendX endW endP2 anyW 0 := by
  refine ((rd_nameE.pair (rd_number.pair rd_xlist (fun _ _ _ _ => trivial)) (fun _ _ _ _ => trivial)).map (P' := endP2) (F := endW) (fun x => (⟨x.1, x.2.1, x.2.2⟩ : TEnd)) (fun e => (e.Kind, e.Arg, e.To)) (fun _ _ => rfl) (fun _ h => h) (fun _ h => h) (fun _ _ => rfl)).of_eq (fun s => ?_)
  unfold mendX
  simp only [Option.bind_assoc, Option.bind_some]
theorem end_runX (s : Treader) : m_text_reader_end s = bif (endF s.word).2 then mendX s else some (⟨0, 0, []⟩, badX) := by
  unfold m_text_reader_end mendX nameRE
  rw [xend_eq, Option.bind_some]
  cases (endF s.word).2 with
  | true => simp only [Bool.not_true, cond_false, cond_true, Option.bind_assoc, Option.bind_some]
  | false => rfl
theorem rd_endX : Rd VX m_text_reader_end endW endP2 anyW 0 where
  sticky k s hs := by
    obtain rfl : s = badX := hs
    exact ⟨_, badX, end_runX badX, rfl⟩
  any s hs _ := by
    cases h : (endF s.word).2 with
    | false => exact ⟨_, badX, by rw [end_runX, h, cond_false], .inr fun _ _ => rfl⟩
    | true =>
      rw [end_runX, h, cond_true]
      exact rd_mendX.any s hs (by unfold headE; rw [headX]; exact h)
  whole s a more hs hp hq hl := by
    have h : (endF s.word).2 = true := by
      have := headX s
      rw [hl] at this
      have e : s.word = nameE a.Kind := this.symm
      rw [e, endF_name hp.1]
    rw [end_runX, h, cond_true]
    exact rd_mendX.whole s a more hs hp hq hl

/-! ### Blocks -/
noncomputable def goXP (l : List TPhi) (s : Treader) : Option (List TPhi × List Int × List Int × Bool) := loopO m_text_reader_block_L1 (l, s.word, s.rest, s.wrong)
theorem phis_roundX (l : List TPhi) (s : Treader) : m_text_reader_block_L1 (l, s.word, s.rest, s.wrong) = bif headP (VX.left s) && decide ((l.length : Int) < 512) then (m_text_reader_phi s).bind fun x => chk (l.length + 1 ≤ room) (some (.next (l ++ [x.1], x.2.word, x.2.rest, x.2.wrong))) else some (.done (l, s.word, s.rest, s.wrong)) := by
  unfold m_text_reader_block_L1 headP
  rw [headX]
  show (bif (bif (s.word == phiT) then decide ((l.length : Int) < 512) else false) then _ else _) = _
  cases (s.word == phiT) <;> cases decide ((l.length : Int) < 512) <;> rfl
theorem headP_bad : headP (VX.left badX) = false := rfl
theorem starP : (∀ s, VX.fine s → ∃ l s', goXP [] s = finX l s' ∧ ((VX.fine s' ∧ (∀ a ∈ l, phiP2 a) ∧ l.length ≤ 512 ∧ VX.left s = (l.map phiW).flatten ++ VX.left s') ∨ VX.spent 0 s')) ∧
    (∀ s l more, VX.fine s → (∀ a ∈ l, phiP2 a) → l.length ≤ 512 → headP more = false → VX.left s = (l.map phiW).flatten ++ more → ∃ s', goXP [] s = finX l s' ∧ VX.fine s' ∧ VX.left s' = more) := by
  refine starB (m := m_text_reader_phi) (E := phiW) headP (rd_phiX.pre fun _ _ => trivial) 512 goXP finX (fun a more ha => rfl) (fun l s hs hh => ?_) (fun l s hs => ?_) (fun l s a s' hs hh hl hm => ?_)
  · have : (headP (VX.left s) && decide ((l.length : Int) < 512)) = false := by
      rcases hh with hh | hh
      · rw [hh]; rfl
      · rw [decide_eq_false (by omega), Bool.and_false]
    exact loopO_done (by rw [phis_roundX, this, cond_false])
  · obtain rfl : s = badX := hs
    exact loopO_done (by rw [phis_roundX, headP_bad, Bool.false_and, cond_false])
  · have : (headP (VX.left s) && decide ((l.length : Int) < 512)) = true := by rw [hh, decide_eq_true (by omega)]; rfl
    exact loopO_next (by rw [phis_roundX, this, cond_true, hm, Option.bind_some, chk_pos' (by simp only [room]; omega)])
noncomputable def goXO (ps : List TPhi) (l : List TOp) (s : Treader) : Option (TBlock × Treader) := loopO m_text_reader_block_F2 (ps, l, s.word, s.rest, s.wrong)
noncomputable def finXO (ps : List TPhi) (l : List TOp) (s : Treader) : Option (TBlock × Treader) := (m_text_reader_end s).bind fun x => some ((⟨ps, l, x.1⟩ : TBlock), x.2)
theorem ops_roundX (ps : List TPhi) (l : List TOp) (s : Treader) : m_text_reader_block_F2 (ps, l, s.word, s.rest, s.wrong) = bif headK (VX.left s) && decide ((l.length : Int) < 512) then (mopX s).bind fun x => chk (l.length + 1 ≤ room) (some (.next (ps, l ++ [x.1], x.2.word, x.2.rest, x.2.wrong))) else (m_text_reader_end s).bind fun x => some (.done ((⟨ps, l, x.1⟩ : TBlock), x.2)) := by
  unfold m_text_reader_block_F2 headK mopX
  rw [headX]
  show (m_text_Kind s.word).bind _ = _
  rw [xkind_eq, Option.bind_some]
  cases (kindF s.word).2 <;> cases decide ((l.length : Int) < 512) <;> rfl
theorem headK_bad : headK (VX.left badX) = false := rfl
theorem ops_stopX {ps : List TPhi} {l : List TOp} {s : Treader} (h : (headK (VX.left s) && decide ((l.length : Int) < 512)) = false) : goXO ps l s = finXO ps l s := by
  have hr := ops_roundX ps l s
  rw [h, cond_false] at hr
  unfold finXO
  cases he : m_text_reader_end s with
  | none =>
    rw [he] at hr
    unfold goXO
    cases hl : loopO m_text_reader_block_F2 (ps, l, s.word, s.rest, s.wrong) with
    | none => rfl
    | some y => exact absurd (loopO_iff.1 hl) (by
        rintro ⟨n, hn⟩
        cases hn with
        | done h => rw [hr] at h; cases h
        | next h _ => rw [hr] at h; cases h)
  | some x =>
    rw [he, Option.bind_some] at hr
    exact loopO_done hr
theorem starO (ps : List TPhi) : (∀ s, VX.fine s → ∃ l s', goXO ps [] s = finXO ps l s' ∧ ((VX.fine s' ∧ (∀ a ∈ l, opP2 a) ∧ l.length ≤ 512 ∧ VX.left s = (l.map opW).flatten ++ VX.left s') ∨ VX.spent 0 s')) ∧
    (∀ s l more, VX.fine s → (∀ a ∈ l, opP2 a) → l.length ≤ 512 → headK more = false → VX.left s = (l.map opW).flatten ++ more → ∃ s', goXO ps [] s = finXO ps l s' ∧ VX.fine s' ∧ VX.left s' = more) := by
  refine starB (m := mopX) (E := opW) headK rd_opX 512 (goXO ps) (finXO ps) (fun a more ha => ?_) (fun l s hs hh => ?_) (fun l s hs => ?_) (fun l s a s' hs hh hl hm => ?_)
  · show (kindF (nameK a.Kind)).2 = true
    rw [kindF_name ha.1]
  · refine ops_stopX ?_
    rcases hh with hh | hh
    · rw [hh]; rfl
    · rw [decide_eq_false (by omega), Bool.and_false]
  · obtain rfl : s = badX := hs
    exact ops_stopX (by rw [headK_bad]; rfl)
  · have : (headK (VX.left s) && decide ((l.length : Int) < 512)) = true := by rw [hh, decide_eq_true (by omega)]; rfl
    exact loopO_next (by rw [ops_roundX, this, cond_true, hm, Option.bind_some, chk_pos' (by simp only [room]; omega)])
theorem block_runX (s : Treader) : m_text_reader_block s = (m_text_reader_take blockT s).bind fun x6 => (goXP [] x6).bind fun x => goXO x.1 [] ⟨x.2.1, x.2.2.1, x.2.2.2⟩ := by
  have e : m_text_reader_block s = (scopeO ((m_text_reader_take blockT s).bind fun x6 => (goXP [] x6).bind fun x => m_text_reader_block_F2 (x.1, [], x.2.1, x.2.2.1, x.2.2.2)) m_text_reader_block_F2).bind fun x27 => some x27 := rfl
  have e2 : ∀ o : Option (TBlock × Treader), (o.bind fun x27 => some x27) = o := fun o => by cases o <;> rfl
  rw [e, e2]
  cases m_text_reader_take blockT s with
  | none => rfl
  | some x6 =>
    rw [Option.bind_some, Option.bind_some]
    cases goXP [] x6 with
    | none => rfl
    | some x =>
      rw [Option.bind_some, Option.bind_some, scopeO_self]
      rfl
theorem take_any {w : Word} {s s1 : Treader} {u : Unit} (e : ((m_text_reader_take w s).bind fun x => some ((), x)) = some (u, s1)) : m_text_reader_take w s = some s1 := by
  cases ht : m_text_reader_take w s with
  | none => rw [ht] at e; cases e
  | some y => rw [ht, Option.bind_some] at e; rw [(Prod.mk.inj (Option.some.inj e)).2]
theorem phis_bad : goXP [] badX = finX [] badX := loopO_done (by rw [phis_roundX, headP_bad, Bool.false_and, cond_false])
theorem ops_bad (ps : List TPhi) (l : List TOp) : finXO ps l badX = some (⟨ps, l, ⟨0, 0, []⟩⟩, badX) := by
  unfold finXO
  rw [end_runX]
  rfl
theorem ops_bad' (ps : List TPhi) : goXO ps [] badX = some (⟨ps, [], ⟨0, 0, []⟩⟩, badX) := by
  rw [ops_stopX (by rw [headK_bad]; rfl), ops_bad]
theorem rd_blockX : Rd VX m_text_reader_block blockW blockP2 anyW 0 where
  sticky k s hs := by
    obtain rfl : s = badX := hs
    refine ⟨⟨[], [], ⟨0, 0, []⟩⟩, badX, ?_, rfl⟩
    rw [block_runX, take_bad, Option.bind_some, phis_bad]
    exact ops_bad' []
  any s hs _ := by
    obtain ⟨_, s1, e1, hd1⟩ := (rd_take blockT (by decide)).any s hs trivial
    have e1' := take_any e1
    rcases hd1 with ⟨f1, _, _, f4⟩ | hd1
    · obtain ⟨ps, s2, e2, hd2⟩ := starP.1 s1 f1
      have e12 : m_text_reader_block s = goXO ps [] s2 := by rw [block_runX, e1', Option.bind_some, e2]; rfl
      rcases hd2 with ⟨g1, g2, g3, g4⟩ | hd2
      · obtain ⟨os, s3, e3, hd3⟩ := (starO ps).1 s2 g1
        rcases hd3 with ⟨j1, j2, j3, j4⟩ | hd3
        · obtain ⟨e, s4, e4, hd4⟩ := rd_endX.any s3 j1 trivial
          refine ⟨⟨ps, os, e⟩, s4, by rw [e12, e3, finXO, e4]; rfl, ?_⟩
          rcases hd4 with ⟨k1, k2, _, k4⟩ | hd4
          · refine .inl ⟨k1, ⟨⟨g2, g3⟩, ⟨j2, j3⟩, k2⟩, trivial, ?_⟩
            rw [f4, g4, j4, k4]
            simp [blockW, bodyW]
          · exact .inr hd4
        · obtain rfl : s3 = badX := hd3
          exact ⟨_, badX, by rw [e12, e3, ops_bad], .inr fun _ _ => rfl⟩
      · obtain rfl : s2 = badX := hd2
        exact ⟨_, badX, by rw [e12, ops_bad'], .inr fun _ _ => rfl⟩
    · obtain rfl : s1 = badX := hd1 0 (by decide)
      exact ⟨_, badX, by rw [block_runX, e1', Option.bind_some, phis_bad]; exact ops_bad' [], .inr fun _ _ => rfl⟩
  whole s b more hs hp _ hl := by
    obtain ⟨⟨p1, p2⟩, ⟨o1, o2⟩, ep⟩ := hp
    have hl' : VX.left s = blockT :: ((b.Phis.map phiW).flatten ++ ((b.Ops.map opW).flatten ++ (endW b.End ++ more))) := by rw [hl]; simp [blockW, bodyW]
    obtain ⟨h1, s1, e1, f1, f2⟩ := step_left hs hl'
    obtain ⟨s2, e2, g1, g2⟩ := starP.2 s1 b.Phis _ f1 p1 p2 (by
      cases ho : b.Ops with
      | nil =>
        have := (names_apart _ (nameE_mem ep.1)).2
        show (nameE b.End.Kind == phiT) = false
        rw [beq_eq_false_iff_ne]; exact this
      | cons o ops => exact headP_kind (o1 o (by rw [ho]; simp)).1 _) f2
    obtain ⟨s3, e3, j1, j2⟩ := (starO b.Phis).2 s2 b.Ops _ g1 o1 o2 (by
      show (kindF (nameE b.End.Kind)).2 = false
      unfold kindF
      rw [if_pos (names_apart _ (nameE_mem ep.1)).1]) g2
    obtain ⟨s4, e4, k1, k2⟩ := rd_endX.whole s3 b.End more j1 ep trivial j2
    refine ⟨s4, ?_, k1, k2⟩
    rw [block_runX, take_eq, if_pos h1, e1, Option.bind_some, e2]
    show goXO b.Phis [] s2 = _
    rw [e3, finXO, e4]
    rfl

/-! ### Functions -/
def headA (l : List Word) : Bool := !(l.headD [] == [])
noncomputable def goXB (l : List TBlock) (s : Treader) : Option (List TBlock × List Int × List Int × Bool) := loopO m_text_reader_function_L1 (l, s.word, s.rest, s.wrong)
theorem blocks_roundX (l : List TBlock) (s : Treader) : m_text_reader_function_L1 (l, s.word, s.rest, s.wrong) = bif headA (VX.left s) && decide ((l.length : Int) < 64) then (m_text_reader_block s).bind fun x => chk (l.length + 1 ≤ room) (some (.next (l ++ [x.1], x.2.word, x.2.rest, x.2.wrong))) else some (.done (l, s.word, s.rest, s.wrong)) := by
  unfold m_text_reader_function_L1 headA
  rw [headX]
  show (bif (bif (!(s.word == [])) then decide ((l.length : Int) < 64) else false) then _ else _) = _
  cases (s.word == ([] : Word)) <;> cases decide ((l.length : Int) < 64) <;> rfl
theorem headA_bad : headA (VX.left badX) = false := rfl
theorem starX : (∀ s, VX.fine s → ∃ l s', goXB [] s = finX l s' ∧ ((VX.fine s' ∧ (∀ a ∈ l, blockP2 a) ∧ l.length ≤ 64 ∧ VX.left s = (l.map blockW).flatten ++ VX.left s') ∨ VX.spent 0 s')) ∧
    (∀ s l more, VX.fine s → (∀ a ∈ l, blockP2 a) → l.length ≤ 64 → headA more = false → VX.left s = (l.map blockW).flatten ++ more → ∃ s', goXB [] s = finX l s' ∧ VX.fine s' ∧ VX.left s' = more) := by
  refine starB (m := m_text_reader_block) (E := blockW) headA (rd_blockX.pre fun _ _ => trivial) 64 goXB finX (fun a more ha => rfl) (fun l s hs hh => ?_) (fun l s hs => ?_) (fun l s a s' hs hh hl hm => ?_)
  · have : (headA (VX.left s) && decide ((l.length : Int) < 64)) = false := by
      rcases hh with hh | hh
      · rw [hh]; rfl
      · rw [decide_eq_false (by omega), Bool.and_false]
    exact loopO_done (by rw [blocks_roundX, this, cond_false])
  · obtain rfl : s = badX := hs
    exact loopO_done (by rw [blocks_roundX, headA_bad, Bool.false_and, cond_false])
  · have : (headA (VX.left s) && decide ((l.length : Int) < 64)) = true := by rw [hh, decide_eq_true (by omega)]; rfl
    exact loopO_next (by rw [blocks_roundX, this, cond_true, hm, Option.bind_some, chk_pos' (by simp only [room]; omega)])
theorem func_runX (s : Treader) : m_text_reader_function s = (m_text_reader_take funcT s).bind fun x1 => (m_text_reader_list x1).bind fun x2 => (m_text_reader_number x2.2).bind fun x3 => (goXB [] x3.2).bind fun x => (m_text_reader_take [] ⟨x.2.1, x.2.2.1, x.2.2.2⟩).bind fun y => some ((⟨x2.1, x3.1, x.1⟩ : TFunc), y) := rfl
theorem blocks_bad : goXB [] badX = finX [] badX := loopO_done (by rw [blocks_roundX, headA_bad, Bool.false_and, cond_false])
/-- What stands ahead of the blocks. -/
theorem rd_front : Rd VX (fun s => (m_text_reader_take funcT s).bind fun x1 => (m_text_reader_list x1).bind fun x2 => (m_text_reader_number x2.2).bind fun x3 => some ((x2.1, x3.1), x3.2)) (fun x => funcT :: (listW x.1 ++ [dg x.2])) (fun x => listP x.1 ∧ isNum x.2) anyW 0 := by
  refine (((rd_take funcT (by decide)).pair (rd_xlist.pair rd_number (fun _ _ _ _ => trivial)) (fun _ _ _ _ => trivial)).map (P' := fun x : List Int × Int => listP x.1 ∧ isNum x.2) (F := fun x => funcT :: (listW x.1 ++ [dg x.2])) (fun x => x.2) (fun x => ((), x)) (fun _ _ => rfl) (fun _ h => ⟨trivial, h⟩) (fun _ h => h.2) (fun _ _ => rfl)).of_eq (fun s => ?_)
  simp only [Option.bind_assoc, Option.bind_some]
theorem func_front {s s1 : Treader} {a : List Int × Int} (e : ((m_text_reader_take funcT s).bind fun x1 => (m_text_reader_list x1).bind fun x2 => (m_text_reader_number x2.2).bind fun x3 => some ((x2.1, x3.1), x3.2)) = some (a, s1)) :
    m_text_reader_function s = (goXB [] s1).bind fun x => (m_text_reader_take [] ⟨x.2.1, x.2.2.1, x.2.2.2⟩).bind fun y => some ((⟨a.1, a.2, x.1⟩ : TFunc), y) := by
  rw [func_runX]
  cases h1 : m_text_reader_take funcT s with
  | none => rw [h1] at e; cases e
  | some x1 =>
    rw [h1, Option.bind_some] at e
    rw [Option.bind_some]
    cases h2 : m_text_reader_list x1 with
    | none => rw [h2] at e; cases e
    | some x2 =>
      rw [h2, Option.bind_some] at e
      rw [Option.bind_some]
      cases h3 : m_text_reader_number x2.2 with
      | none => rw [h3] at e; cases e
      | some x3 =>
        rw [h3, Option.bind_some] at e
        obtain ⟨rfl, rfl⟩ := Prod.mk.inj (Option.some.inj e)
        rw [Option.bind_some]
theorem func_any (s : Treader) (hs : VX.fine s) : ∃ f s', m_text_reader_function s = some (f, s') ∧ ((s'.wrong = false ∧ funcP2 f ∧ VX.left s = funcW f) ∨ s' = badX) := by
  obtain ⟨a, s1, e1, hd1⟩ := rd_front.any s hs trivial
  rw [func_front e1]
  rcases hd1 with ⟨f1, f2, _, f4⟩ | hd1
  · obtain ⟨bs, s2, e2, hd2⟩ := starX.1 s1 f1
    rw [e2]
    show ∃ f s', (m_text_reader_take [] s2).bind _ = some (f, s') ∧ _
    rw [take_eq]
    rcases hd2 with ⟨g1, g2, g3, g4⟩ | hd2
    · by_cases hw : s2.word = []
      · obtain ⟨s3, e3, j1, _⟩ := step_fine g1
        rw [if_pos hw, e3]
        refine ⟨⟨a.1, a.2, bs⟩, s3, rfl, .inl ⟨j1.1, ⟨f2.1, f2.2, g2, g3⟩, ?_⟩⟩
        rw [f4, g4, leftX_nil.2 hw]
        simp [funcW]
      · rw [if_neg hw]
        exact ⟨_, badX, rfl, .inr rfl⟩
    · obtain rfl : s2 = badX := hd2
      rw [if_pos (show badX.word = [] from rfl), step_bad]
      exact ⟨_, badX, rfl, .inr rfl⟩
  · obtain rfl : s1 = badX := hd1 0 (by decide)
    rw [blocks_bad]
    refine ⟨⟨a.1, a.2, []⟩, badX, ?_, .inr rfl⟩
    unfold finX
    rw [Option.bind_some, show (⟨badX.word, badX.rest, badX.wrong⟩ : Treader) = badX from rfl, take_bad]
    rfl
theorem func_whole (s : Treader) (hs : VX.fine s) (f : TFunc) (hf : funcP2 f) (hl : VX.left s = funcW f) : ∃ s', m_text_reader_function s = some (f, s') ∧ s'.wrong = false := by
  have hl' : VX.left s = (funcT :: (listW f.Params ++ [dg f.Ret])) ++ ((f.Blocks.map blockW).flatten ++ []) := by rw [hl]; simp [funcW]
  obtain ⟨s1, e1, f1, f2⟩ := rd_front.whole s (f.Params, f.Ret) _ hs ⟨hf.1, hf.2.1⟩ trivial hl'
  obtain ⟨s2, e2, g1, g2⟩ := starX.2 s1 f.Blocks [] f1 hf.2.2.1 hf.2.2.2 rfl f2
  have hw : s2.word = [] := leftX_nil.1 g2
  obtain ⟨s3, e3, j1, _⟩ := step_fine g1
  refine ⟨s3, ?_, j1.1⟩
  rw [func_front e1, e2]
  show (m_text_reader_take [] s2).bind _ = _
  rw [take_eq, if_pos hw, e3]
  rfl

/-! ### Parse -/
theorem phiP2_of {p : TPhi} (h : phiB p = true) : phiP2 p := by
  simp only [phiB, Bool.and_eq_true] at h
  exact ⟨numB_iff.1 h.1.1.1, numB_iff.1 h.1.1.2, listB_iff.1 h.1.2, listB_iff.1 h.2⟩
theorem opP2_of {o : TOp} (h : opB o = true) (hk : 0 ≤ o.Kind ∧ o.Kind < 23) (hi : wideP o.Imm) : opP2 o := by
  simp only [opB, Bool.and_eq_true] at h
  exact ⟨hk, numB_iff.1 h.1.1.1.2, numB_iff.1 h.1.1.2, numB_iff.1 h.1.2, listB_iff.1 h.2, wide_le hi⟩
theorem endP2_of {e : TEnd} (h : endB e = true) (hk : 0 ≤ e.Kind ∧ e.Kind < 4) : endP2 e := by
  simp only [endB, Bool.and_eq_true] at h
  exact ⟨hk, numB_iff.1 h.1.2, listB_iff.1 h.2⟩
theorem le_sum {α : Type} {l : List α} {g : α → Nat} {a : α} (h : a ∈ l) : g a ≤ (l.map g).sum := by
  induction l with
  | nil => cases h
  | cons b l ih =>
    rw [List.map_cons, List.sum_cons]
    rcases List.mem_cons.1 h with rfl | h
    · omega
    · have := ih h; omega
theorem size_words (f : TFunc) : sizeN f ≤ (funcW f).length := by
  have hb : ∀ b ∈ f.Blocks, sizeB b ≤ (blockW b).length := fun b _ => by
    have e2 : (blockW b).length = (b.Phis.map phiW).flatten.length + ((b.Ops.map opW).flatten.length + ((listW b.End.To).length + 1 + 1)) + 1 := by simp only [blockW, bodyW, endW, List.length_cons, List.length_append]
    have q1 : b.Phis.length ≤ (b.Phis.map phiW).flatten.length := len_flat fun p _ => by simp [phiW]
    have q2 : b.Ops.length ≤ (b.Ops.map opW).flatten.length := len_flat fun p _ => by simp [opW]
    rw [e2]
    unfold sizeB
    omega
  have e : (funcW f).length = (listW f.Params).length + ((f.Blocks.map blockW).flatten.length + 1) + 1 := by simp only [funcW, List.length_cons, List.length_append]
  have q := sum_mono f.Blocks sizeB (fun b => (blockW b).length) hb
  rw [e, flat_len f.Blocks blockW]
  unfold sizeN
  omega
theorem OkT.parts2 {f : TFunc} (h : OkT f) (hl : (funcW f).length ≤ 1000000000000) : funcP2 f := by
  obtain ⟨_, h2, _, h4, h5, h6, h7⟩ := may_parts h.may
  have hs := size_words f
  have hw : sizeW f = sizeN f := w64_of (by omega) (by omega)
  refine ⟨listB_iff.1 h4, numB_iff.1 h5, fun b hb => ?_, h2⟩
  obtain ⟨b1, b2, b3⟩ := blockB_iff.1 (h7 b hb)
  have hle : sizeB b ≤ sizeN f := le_sum hb
  unfold sizeB at hle
  exact ⟨⟨fun p hp => phiP2_of (b1 p hp), by omega⟩, ⟨fun o ho => opP2_of (b2 o ho) (h.named.op b hb o ho) (h.imm b hb o ho), by omega⟩, endP2_of b3 (h.named.en b hb)⟩
theorem funcP2_down {f : TFunc} (h : funcP2 f) : funcP f :=
  ⟨h.1.1, h.2.1, fun b hb => ⟨fun p hp => ⟨((h.2.2.1 b hb).1.1 p hp).1, ((h.2.2.1 b hb).1.1 p hp).2.1, ((h.2.2.1 b hb).1.1 p hp).2.2.1.1, ((h.2.2.1 b hb).1.1 p hp).2.2.2.1⟩,
    fun o ho => ⟨((h.2.2.1 b hb).2.1.1 o ho).1, ((h.2.2.1 b hb).2.1.1 o ho).2.1, ((h.2.2.1 b hb).2.1.1 o ho).2.2.1, ((h.2.2.1 b hb).2.1.1 o ho).2.2.2.1, ((h.2.2.1 b hb).2.1.1 o ho).2.2.2.2.1.1, le_wide ((h.2.2.1 b hb).2.1.1 o ho).2.2.2.2.2⟩,
    ⟨(h.2.2.1 b hb).2.2.1, (h.2.2.1 b hb).2.2.2.1, (h.2.2.1 b hb).2.2.2.2.1⟩⟩⟩
theorem parse_runX (s : List Int) {x : Treader} {f : TFunc} {y : Treader} (h1 : m_text_startReader s = some x) (h2 : m_text_reader_function x = some (f, y)) :
    m_text_Parse s = ((bif (y.wrong == false) then m_code_May f else some false).bind fun x3 => (bif (bif y.wrong then true else (!x3)) then some (noF, 3) else some (f, 0))) := by
  unfold m_text_Parse
  rw [h1, Option.bind_some, h2, Option.bind_some]
  rfl
theorem xparse (s : List Int) (hb : BytesI s) (hl : s.length ≤ 100000000000) : ∃ r, m_text_Parse s = some r ∧ ParseAns (wordsS s) r := by
  obtain ⟨x, e, hx, hlx⟩ := step_any ⟨[], s, false⟩ rfl hb hl
  have h1 : m_text_startReader s = some x := by
    unfold m_text_startReader
    rw [e]
    rfl
  have hlen : (wordsS s).length ≤ 1000000000000 := by have := wlen s []; unfold wordsS; omega
  change VX.left x = wordsS s at hlx
  rw [← hlx] at hlen ⊢
  by_cases hex : ∃ g, OkT g ∧ VX.left x = funcW g
  · obtain ⟨g, hg, hwg⟩ := hex
    have hg2 := hg.parts2 (by rw [← hwg]; exact hlen)
    obtain ⟨y, e2, hy⟩ := func_whole x hx g hg2 hwg
    have hin : InF g := inF_words (funcP2_down hg2) (by rw [← hwg]; omega)
    refine ⟨(g, 0), ?_, .inl ⟨g, hg, hwg, rfl⟩⟩
    rw [parse_runX s h1 e2, hy]
    show Option.bind (m_code_May g) _ = _
    rw [xmay g hin, Option.bind_some, hg.may]
    rfl
  · obtain ⟨f, y, e2, hd⟩ := func_any x hx
    refine ⟨(noF, 3), ?_, .inr ⟨fun g hg h => hex ⟨g, hg, h⟩, rfl⟩⟩
    rw [parse_runX s h1 e2]
    rcases hd with ⟨g1, g2, g3⟩ | rfl
    · have hin : InF f := inF_words (funcP2_down g2) (by rw [← g3]; omega)
      rw [g1]
      show Option.bind (m_code_May f) _ = _
      rw [xmay f hin, Option.bind_some]
      cases hm : mayF f with
      | true => exact absurd ⟨f, okT_of (funcP2_down g2) hm, g3⟩ hex
      | false => rfl
    · rfl
/-- What the program's functions answer. -/
theorem xf5 : Facts5 := ⟨fun s _ _ => xkind_eq s, fun f hf hs => xprint_eq f hf hs, xparse⟩
end Go.Proofs.YtcddajbcbkbipaaDoor
