/-
  What the document's own Encode answers.
-/
import Derived.Test.YtmlldiinidkecaaCodeF
namespace Go.Proofs.Ytmlldiinidkecaa
open Go Go.RowKit
set_option linter.unusedVariables false
set_option linter.unusedSimpArgs false

theorem rput4_eq (b : List Int) (n : Int) (hn : wideP n) (hb : b.length ≤ 2000000000) : m_lockstepref04_put b n = some (b ++ numE n) := by
  have hl := numE_len hn
  unfold m_lockstepref04_put
  have e : (n : Int) = (n.toNat : Int) := by have := hn.1; omega
  rw [wu64_of hn.1 (by have := hn.2; omega), e, rput_eq (by rw [two64]; have := hn.2; omega), Option.bind_some]
  rw [← e]
  exact chk_pos' (by show b.length + (numE n).length ≤ room; simp only [room]; omega)
theorem rrow4_eq (l : List Int) (h : listB l = true) : m_lockstepref02_Row l = some (rowE l) := by
  obtain ⟨h1, h2⟩ := listB_iff.1 h
  rw [rrow_eq l (by omega) h1.i64]
  unfold rowS
  rw [if_neg (by rintro ⟨x, hx, h⟩; have := h1 x hx; omega)]
  rfl

theorem rencode_eq (f : TFunc) (hf : InF f) (hs : mayF f = true → OkF f) : m_lockstepref04_Encode f = some (bif mayF f then funcE f else []) := by
  unfold m_lockstepref04_Encode
  rw [rmay_eq f hf, Option.bind_some]
  cases hm : mayF f with
  | false => rfl
  | true =>
    have ok := hs hm
    have hlenF := funcE_len ok
    have h3 := loop_append f.Blocks (default : TBlock) blockE 1000000000 (m_lockstepref04_Encode_L3 f) (fun out i hi hle => by
      have hmem := getD_mem (d := (default : TBlock)) hi
      have okb := ok.block _ hmem
      obtain ⟨b1, b2, b3⟩ := blockB_iff.1 okb.may
      have e0 : decide ((i : Int) < (f.Blocks.length : Int)) = true := by simpa using hi
      have hI : InB (i : Int) f.Blocks.length := inB_nat hi
      have l1 := loop_append (f.Blocks.getD i default).Phis (default : TPhi) phiE 1000000000 (m_lockstepref04_Encode_L1 f i) (fun out j hj hle => by
          have hp := b1 _ (getD_mem (d := (default : TPhi)) hj)
          have hp' := hp
          simp only [phiB, Bool.and_eq_true] at hp
          have q0 : decide ((j : Int) < ((f.Blocks.getD i default).Phis.length : Int)) = true := by simpa using hj
          simp only [phiE, List.length_append] at hle
          unfold m_lockstepref04_Encode_L1
          simp only [chk_pos' hI, Int.toNat_natCast, q0, cond_true, chk_pos' (inB_nat hj)]
          rw [rput4_eq _ _ (numB_wide hp.1.1.1) (by omega), Option.bind_some, rput4_eq _ _ (numB_wide hp.1.1.2) (by simp only [List.length_append]; omega), Option.bind_some, rrow4_eq _ hp.1.2, Option.bind_some,
            chk_pos' (by simp only [List.length_append, room]; omega), rrow4_eq _ hp.2, Option.bind_some, chk_pos' (by simp only [List.length_append, room]; omega), w64_succ hj (by have := okb.phis; omega)]
          simp only [phiE, List.append_assoc]
          rfl) (fun out => by
          unfold m_lockstepref04_Encode_L1
          simp only [chk_pos' hI, Int.toNat_natCast]
          simp)
      have l2 := loop_append (f.Blocks.getD i default).Ops (default : TOp) opE 1000000000 (m_lockstepref04_Encode_L2 f i) (fun out j hj hle => by
          have hp := b2 _ (getD_mem (d := (default : TOp)) hj)
          have hi6 := okb.imm _ (getD_mem (d := (default : TOp)) hj)
          simp only [opB, Bool.and_eq_true] at hp
          have q0 : decide ((j : Int) < ((f.Blocks.getD i default).Ops.length : Int)) = true := by simpa using hj
          simp only [opE, List.length_append] at hle
          have e6 : ((f.Blocks.getD i default).Ops.getD j default).Imm = (((f.Blocks.getD i default).Ops.getD j default).Imm.toNat : Int) := by have := hi6.1; omega
          have hput := rput_eq (v := ((f.Blocks.getD i default).Ops.getD j default).Imm.toNat) (by rw [two64]; have := hi6.2; omega)
          rw [← e6] at hput
          unfold m_lockstepref04_Encode_L2
          simp only [chk_pos' hI, Int.toNat_natCast, q0, cond_true, chk_pos' (inB_nat hj)]
          rw [rput4_eq _ _ (numB_wide hp.1.1.1.1) (by omega), Option.bind_some, rput4_eq _ _ (numB_wide hp.1.1.1.2) (by simp only [List.length_append]; omega), Option.bind_some,
            rput4_eq _ _ (numB_wide hp.1.1.2) (by simp only [List.length_append]; omega), Option.bind_some, rput4_eq _ _ (numB_wide hp.1.2) (by simp only [List.length_append]; omega), Option.bind_some, rrow4_eq _ hp.2, Option.bind_some,
            chk_pos' (by simp only [List.length_append, room]; omega), hput, Option.bind_some, chk_pos' (by simp only [numE] at hle; simp only [List.length_append, room, numE]; omega), w64_succ hj (by have := okb.ops; omega)]
          simp only [opE, List.append_assoc, numE]
          rfl) (fun out => by
          unfold m_lockstepref04_Encode_L2
          simp only [chk_pos' hI, Int.toNat_natCast]
          simp)
      simp only [endB, Bool.and_eq_true] at b3
      have hle' := hle
      simp only [blockE, manyE, endE, List.length_append] at hle
      have h1 := l1 _ 0 (out ++ numE ((f.Blocks.getD i default).Phis.length : Int)) (Nat.zero_add _) (by simp only [List.drop_zero, List.length_append]; omega)
      have h2 := l2 _ 0 (out ++ numE ((f.Blocks.getD i default).Phis.length : Int) ++ ((f.Blocks.getD i default).Phis.map phiE).flatten ++ numE ((f.Blocks.getD i default).Ops.length : Int)) (Nat.zero_add _) (by simp only [List.drop_zero, List.length_append]; omega)
      rw [show ((0 : Nat) : Int) = 0 from rfl, List.drop_zero] at h1 h2
      unfold m_lockstepref04_Encode_L3
      simp only [e0, cond_true, chk_pos' hI, Int.toNat_natCast]
      rw [rput4_eq _ _ ⟨by omega, by have := okb.phis; omega⟩ (by omega), Option.bind_some, h1, Option.bind_some, rput4_eq _ _ ⟨by omega, by have := okb.ops; omega⟩ (by simp only [List.length_append]; omega), Option.bind_some, h2, Option.bind_some,
        rput4_eq _ _ (numB_wide b3.1.1) (by simp only [List.length_append]; omega), Option.bind_some, rput4_eq _ _ (numB_wide b3.1.2) (by simp only [List.length_append]; omega), Option.bind_some, rrow4_eq _ b3.2, Option.bind_some,
        chk_pos' (by simp only [List.length_append, room]; omega), w64_succ hi (by have := ok.blocks; omega)]
      simp only [blockE, manyE, endE, List.append_assoc]
      rfl) (fun out => by
      unfold m_lockstepref04_Encode_L3
      simp)
    have hlF := hlenF
    simp only [funcE, manyE, List.length_append] at hlF
    have h4 := h3 _ 0 (rowE f.Params ++ numE f.Ret ++ numE (f.Blocks.length : Int)) (Nat.zero_add _) (by simp only [List.drop_zero, List.length_append]; omega)
    rw [show ((0 : Nat) : Int) = 0 from rfl, List.drop_zero] at h4
    rw [Bool.not_true, cond_false, cond_true, rrow4_eq _ ok.params, Option.bind_some, rput4_eq _ _ (numB_wide ok.ret) (by omega), Option.bind_some, rput4_eq _ _ ⟨by omega, by have := ok.blocks; omega⟩ (by simp only [List.length_append]; omega), Option.bind_some, h4, Option.bind_some]
    simp only [funcE, manyE, List.append_assoc]
end Go.Proofs.Ytmlldiinidkecaa
