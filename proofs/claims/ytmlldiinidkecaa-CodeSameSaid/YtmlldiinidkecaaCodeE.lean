/-
  Whether two functions are the same, as the document tells it.
-/
import Derived.Test.YtmlldiinidkecaaCodeR
namespace Go.Proofs.Ytmlldiinidkecaa
open Go Go.RowKit
set_option linter.unusedVariables false
set_option linter.unusedSimpArgs false

theorem drop0_beq {α : Type} [BEq α] (l m : List α) : (l.drop 0 == m.drop 0) = (l == m) := by simp
theorem len_beq {α β : Type} (l : List α) (m : List β) : ((l.length : Int) != (m.length : Int)) = !decide (l.length = m.length) := by
  by_cases h : l.length = m.length
  · rw [h]; simp
  · have : ((l.length : Int) != (m.length : Int)) = true := by simp; omega
    rw [this]; simp [h]
theorem beq_dec {α : Type} [BEq α] [LawfulBEq α] [DecidableEq α] (x y : α) : (x == y) = decide (x = y) := by
  by_cases h : x = y
  · subst h; simp
  · have : (x == y) = false := by simpa using h
    rw [this]; simp [h]
theorem rints_eq (l m : List Int) (hl : l.length ≤ maxLen) : m_lockstepref02_Ints l m = some (decide (l = m)) := by
  unfold m_lockstepref02_Ints
  rw [maxLen_eq] at hl
  rw [len_beq]
  by_cases he : l.length = m.length
  · have hloop := loop_eq l m (0 : Int) (m_lockstepref02_Ints_L1 l m) (.inl ()) (.inr false) he (fun i hi hp => by
        unfold m_lockstepref02_Ints_L1
        have : decide ((i : Int) < (l.length : Int)) = true := by simpa using hi
        simp only [this, cond_true, chk_pos' (inB_nat hi), chk_pos' (inB_nat (show i < m.length by omega)), Int.toNat_natCast, bne, hp, Bool.not_true, cond_false, w64_succ hi (by omega)]) (fun i hi hp => by
        unfold m_lockstepref02_Ints_L1
        have : decide ((i : Int) < (l.length : Int)) = true := by simpa using hi
        simp only [this, cond_true, chk_pos' (inB_nat hi), chk_pos' (inB_nat (show i < m.length by omega)), Int.toNat_natCast, bne, hp, Bool.not_false]) (by
        unfold m_lockstepref02_Ints_L1
        simp) l.length 0 (by omega)
    rw [decide_eq_true he, Bool.not_true, cond_false, show (0 : Int) = ((0 : Nat) : Int) from rfl, hloop, drop0_beq, beq_dec]
    cases decide (l = m) <;> rfl
  · have e3 : decide (l = m) = false := decide_eq_false (by rintro rfl; exact he rfl)
    rw [decide_eq_false he, e3]; rfl
theorem rop_eq (a b : TOp) (h : a.Args.length ≤ maxLen) : m_lockstepref03_Same a b = some (decide (a = b)) := by
  unfold m_lockstepref03_Same
  rw [rints_eq _ _ h]
  obtain ⟨k, b1, n, d, ar, i⟩ := a
  obtain ⟨k', b1', n', d', ar', i'⟩ := b
  have : decide ((⟨k, b1, n, d, ar, i⟩ : TOp) = ⟨k', b1', n', d', ar', i'⟩) = ((k == k') && (b1 == b1') && (n == n') && (d == d') && (i == i') && decide (ar = ar')) := by
    rw [Bool.eq_iff_iff]
    simp [and_assoc]
    intros; exact and_comm
  rw [this]
  simp only
  cases (k == k') <;> cases (b1 == b1') <;> cases (n == n') <;> cases (d == d') <;> cases (i == i') <;> rfl
theorem phi_dec (p q : TPhi) : (p == q) = ((p.Bits == q.Bits) && (p.Dst == q.Dst) && decide (p.From = q.From) && decide (p.Args = q.Args)) := by
  rw [beq_dec, Bool.eq_iff_iff]
  obtain ⟨a, b, c, d⟩ := p
  obtain ⟨a', b', c', d'⟩ := q
  simp [and_assoc]
theorem block_dec (x y : TBlock) : (x == y) = (decide (x.Phis = y.Phis) && decide (x.Ops = y.Ops) && ((x.End.Kind == y.End.Kind) && (x.End.Arg == y.End.Arg) && decide (x.End.To = y.End.To))) := by
  rw [beq_dec, Bool.eq_iff_iff]
  obtain ⟨p, o, ⟨k, a, t⟩⟩ := x
  obtain ⟨p', o', ⟨k', a', t'⟩⟩ := y
  simp [and_assoc]
theorem func_dec (x y : TFunc) : decide (x = y) = ((x.Ret == y.Ret) && decide (x.Params = y.Params) && decide (x.Blocks = y.Blocks)) := by
  rw [Bool.eq_iff_iff]
  obtain ⟨p, r, b⟩ := x
  obtain ⟨p', r', b'⟩ := y
  simp [and_assoc]
  constructor
  · rintro ⟨h1, h2, h3⟩; exact ⟨h2, h1, h3⟩
  · rintro ⟨h1, h2, h3⟩; exact ⟨h2, h1, h3⟩

theorem rsame_eq (a b : TFunc) (ha : InF a) : m_lockstepref04_Same a b = some (decide (a = b)) := by
  have hM := maxLen_eq
  unfold m_lockstepref04_Same
  rw [rints_eq _ _ ha.params, func_dec]
  simp only [len_beq]
  by_cases hr : a.Ret = b.Ret
  · have e1 : (a.Ret != b.Ret) = false := by simpa using hr
    have e1' : (a.Ret == b.Ret) = true := by simpa using hr
    rw [e1, e1']
    cases hp : decide (a.Params = b.Params) with
    | false => rfl
    | true =>
      by_cases hlen : a.Blocks.length = b.Blocks.length
      · have step : ∀ i : Nat, i < a.Blocks.length → m_lockstepref04_Same_L3 a b (i : Int) = bif (a.Blocks.getD i default == b.Blocks.getD i default) then some (.next ((i : Int) + 1)) else some (.done (.inr false)) := fun i hi => by
          have hmem := getD_mem (d := (default : TBlock)) hi
          obtain ⟨b1, b2, b3⟩ := ha.block _ hmem
          have hPh := ha.phi _ hmem
          have hOp := ha.op _ hmem
          have e0 : decide ((i : Int) < (a.Blocks.length : Int)) = true := by simpa using hi
          have hI : InB (i : Int) b.Blocks.length := inB_nat (by omega)
          rw [block_dec]
          unfold m_lockstepref04_Same_L3
          simp only [e0, cond_true, chk_pos' (inB_nat hi), chk_pos' hI, Int.toNat_natCast, rints_eq _ _ b3, len_beq]
          by_cases hphi : (a.Blocks.getD i default).Phis.length = (b.Blocks.getD i default).Phis.length
          · by_cases hops : (a.Blocks.getD i default).Ops.length = (b.Blocks.getD i default).Ops.length
            · rw [decide_eq_true hphi, decide_eq_true hops]
              have l1 := loop_eq (a.Blocks.getD i default).Phis (b.Blocks.getD i default).Phis (default : TPhi) (m_lockstepref04_Same_L1 a b i) (.inl ()) (.inr false) hphi (fun j hj hp => by
                  obtain ⟨p1, p2⟩ := hPh _ (getD_mem (d := (default : TPhi)) hj)
                  have q0 : decide ((j : Int) < ((a.Blocks.getD i default).Phis.length : Int)) = true := by simpa using hj
                  rw [phi_dec] at hp
                  unfold m_lockstepref04_Same_L1
                  simp only [q0, cond_true, Int.toNat_natCast, chk_pos' (inB_nat hj), chk_pos' (inB_nat (show j < (b.Blocks.getD i default).Phis.length by omega)), rints_eq _ _ p1, rints_eq _ _ p2, w64_succ hj (by omega), bne]
                  revert hp
                  cases (((a.Blocks.getD i default).Phis.getD j default).Bits == ((b.Blocks.getD i default).Phis.getD j default).Bits) <;> cases (((a.Blocks.getD i default).Phis.getD j default).Dst == ((b.Blocks.getD i default).Phis.getD j default).Dst) <;> cases decide (((a.Blocks.getD i default).Phis.getD j default).From = ((b.Blocks.getD i default).Phis.getD j default).From) <;> cases decide (((a.Blocks.getD i default).Phis.getD j default).Args = ((b.Blocks.getD i default).Phis.getD j default).Args) <;> simp) (fun j hj hp => by
                  obtain ⟨p1, p2⟩ := hPh _ (getD_mem (d := (default : TPhi)) hj)
                  have q0 : decide ((j : Int) < ((a.Blocks.getD i default).Phis.length : Int)) = true := by simpa using hj
                  rw [phi_dec] at hp
                  unfold m_lockstepref04_Same_L1
                  simp only [q0, cond_true, Int.toNat_natCast, chk_pos' (inB_nat hj), chk_pos' (inB_nat (show j < (b.Blocks.getD i default).Phis.length by omega)), rints_eq _ _ p1, rints_eq _ _ p2, w64_succ hj (by omega), bne]
                  revert hp
                  cases (((a.Blocks.getD i default).Phis.getD j default).Bits == ((b.Blocks.getD i default).Phis.getD j default).Bits) <;> cases (((a.Blocks.getD i default).Phis.getD j default).Dst == ((b.Blocks.getD i default).Phis.getD j default).Dst) <;> cases decide (((a.Blocks.getD i default).Phis.getD j default).From = ((b.Blocks.getD i default).Phis.getD j default).From) <;> cases decide (((a.Blocks.getD i default).Phis.getD j default).Args = ((b.Blocks.getD i default).Phis.getD j default).Args) <;> simp) (by
                  unfold m_lockstepref04_Same_L1
                  simp) _ 0 (Nat.zero_add _)
              have l2 := loop_eq (a.Blocks.getD i default).Ops (b.Blocks.getD i default).Ops (default : TOp) (m_lockstepref04_Same_L2 a b i) (.inl ()) (.inr false) hops (fun j hj hp => by
                  obtain ⟨p1, _⟩ := hOp _ (getD_mem (d := (default : TOp)) hj)
                  have q0 : decide ((j : Int) < ((a.Blocks.getD i default).Ops.length : Int)) = true := by simpa using hj
                  rw [beq_dec] at hp
                  unfold m_lockstepref04_Same_L2
                  simp only [q0, cond_true, Int.toNat_natCast, chk_pos' (inB_nat hj), chk_pos' (inB_nat (show j < (b.Blocks.getD i default).Ops.length by omega)), rop_eq _ _ p1, w64_succ hj (by omega), hp, Option.bind_some, Bool.not_true, cond_false]) (fun j hj hp => by
                  obtain ⟨p1, _⟩ := hOp _ (getD_mem (d := (default : TOp)) hj)
                  have q0 : decide ((j : Int) < ((a.Blocks.getD i default).Ops.length : Int)) = true := by simpa using hj
                  rw [beq_dec] at hp
                  unfold m_lockstepref04_Same_L2
                  simp only [q0, cond_true, Int.toNat_natCast, chk_pos' (inB_nat hj), chk_pos' (inB_nat (show j < (b.Blocks.getD i default).Ops.length by omega)), rop_eq _ _ p1, hp, Option.bind_some, Bool.not_false, cond_true]) (by
                  unfold m_lockstepref04_Same_L2
                  simp) _ 0 (Nat.zero_add _)
              rw [show ((0 : Nat) : Int) = 0 from rfl, drop0_beq, beq_dec] at l1 l2
              simp only [l1, Option.bind_some, w64_succ hi (by have := ha.blocks; omega), bne]
              cases ((a.Blocks.getD i default).End.Kind == (b.Blocks.getD i default).End.Kind) <;> cases ((a.Blocks.getD i default).End.Arg == (b.Blocks.getD i default).End.Arg) <;> cases decide ((a.Blocks.getD i default).End.To = (b.Blocks.getD i default).End.To) <;> cases decide ((a.Blocks.getD i default).Phis = (b.Blocks.getD i default).Phis) <;> simp only [Bool.not_true, Bool.not_false, cond_true, cond_false, l2, Bool.and_true, Bool.and_false, Bool.true_and, Bool.false_and, Option.bind_some]
              all_goals first | rfl | (cases decide ((a.Blocks.getD i default).Ops = (b.Blocks.getD i default).Ops) <;> rfl)
            · have : decide ((a.Blocks.getD i default).Ops = (b.Blocks.getD i default).Ops) = false := decide_eq_false fun h => hops (by rw [h])
              rw [decide_eq_true hphi, decide_eq_false hops, this]
              simp
          · have : decide ((a.Blocks.getD i default).Phis = (b.Blocks.getD i default).Phis) = false := decide_eq_false fun h => hphi (by rw [h])
            rw [decide_eq_false hphi, this]
            simp
        have hloop := loop_eq a.Blocks b.Blocks (default : TBlock) (m_lockstepref04_Same_L3 a b) (.inl ()) (.inr false) hlen (fun i hi hp => by rw [step i hi, hp]; rfl) (fun i hi hp => by rw [step i hi, hp]; rfl) (by
          unfold m_lockstepref04_Same_L3
          simp) _ 0 (Nat.zero_add _)
        rw [show ((0 : Nat) : Int) = 0 from rfl, drop0_beq, beq_dec] at hloop
        rw [decide_eq_true hlen]
        simp only [hloop, Bool.not_true, cond_false, cond_true, Option.bind_some, bne, Bool.true_and, Bool.and_true, Bool.not_false]
        all_goals first | rfl | (cases decide (a.Blocks = b.Blocks) <;> rfl)
      · have : decide (a.Blocks = b.Blocks) = false := decide_eq_false fun h => hlen (by rw [h])
        rw [decide_eq_false hlen, this]
        rfl
  · have e1 : (a.Ret != b.Ret) = true := by simpa using hr
    have e1' : (a.Ret == b.Ret) = false := by simpa using hr
    rw [e1, e1']
    rfl
end Go.Proofs.Ytmlldiinidkecaa
