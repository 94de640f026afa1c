/-
  The program's own: functions as bytes.
-/
import Derived.Test.YtmlldiinidkecaaCodeXB
namespace Go.Proofs.Ytmlldiinidkecaa
open Go Go.RowKit
set_option linter.unusedVariables false
set_option linter.unusedSimpArgs false

theorem xrow (l : List Int) (h : listB l = true) : m_num_Row l = some (rowE l) := by
  obtain ⟨h1, h2⟩ := listB_iff.1 h
  rw [row_eq l (by omega) h1.i64]
  unfold rowS
  rw [if_neg (by rintro ⟨x, hx, h⟩; have := h1 x hx; omega)]
  rfl
theorem xput (b l : List Int) (hg : ∀ x ∈ l, 0 ≤ x ∧ x ≤ 2147483647) (hl : l.length ≤ 10) (hb : b.length ≤ 2000000000) : m_code_put b l = some (b ++ (l.map numE).flatten) := by
  have h1 := flat_bound l numE 10 (fun x hx => numE_len ⟨(hg x hx).1, by have := (hg x hx).2; omega⟩)
  have h := loop_append l (0 : Int) numE 2000000100 (m_code_put_L1 l) (fun out i hi hle => ?_) (fun out => ?_) l.length 0 b (Nat.zero_add _) (by rw [List.drop_zero]; omega)
  · unfold m_code_put
    rw [show ((0 : Nat) : Int) = 0 from rfl, List.drop_zero] at h
    rw [h, Option.bind_some]
  · have e1 : decide ((i : Int) < (l.length : Int)) = true := decide_eq_true (by omega)
    have hx := hg _ (getD_mem (d := (0 : Int)) hi)
    have e : l.getD i 0 = ((l.getD i 0).toNat : Int) := by omega
    have hput := put_eq (v := (l.getD i 0).toNat) (by rw [two64]; omega)
    rw [← e] at hput
    unfold m_code_put_L1
    simp only [e1, cond_true, chk_pos' (inB_nat hi), Int.toNat_natCast, wu64_of hx.1 (show l.getD i 0 < 18446744073709551616 by omega), hput, Option.bind_some, w64_succ hi (by omega)]
    rw [chk_pos' (by unfold numE at hle; simp only [room]; omega)]
    rfl
  · unfold m_code_put_L1
    simp
theorem num2 {a b : Int} (h1 : numB a = true) (h2 : numB b = true) : ∀ x ∈ [a, b], 0 ≤ x ∧ x ≤ 2147483647 := by
  intro x hx
  rcases List.mem_cons.1 hx with rfl | hx
  · exact numB_iff.1 h1
  · obtain rfl := List.mem_singleton.1 hx; exact numB_iff.1 h2
theorem xputPhi (b : List Int) (p : TPhi) (hp : phiB p = true) (hb : b.length ≤ 1900000000) : m_code_putPhi b p = some (b ++ phiE p) := by
  have hl := phiE_len hp
  have hl' := hl
  simp only [phiB, Bool.and_eq_true] at hp
  simp only [phiE, List.length_append] at hl
  unfold m_code_putPhi
  rw [xput _ _ (num2 hp.1.1.1 hp.1.1.2) (by simp) (by omega), Option.bind_some, xrow _ hp.1.2, Option.bind_some]
  simp only [List.map_cons, List.map_nil, List.flatten_cons, List.flatten_nil, List.append_nil]
  rw [chk_pos' (by simp only [List.length_append, room]; omega), xrow _ hp.2, Option.bind_some, chk_pos' (by simp only [List.length_append, room]; omega)]
  simp only [phiE, List.append_assoc]
theorem xputEnd (b : List Int) (p : TEnd) (hp : endB p = true) (hb : b.length ≤ 1900000000) : m_code_putEnd b p = some (b ++ endE p) := by
  have hl := endE_len hp
  simp only [endB, Bool.and_eq_true] at hp
  simp only [endE, List.length_append] at hl
  unfold m_code_putEnd
  rw [xput _ _ (num2 hp.1.1 hp.1.2) (by simp) (by omega), Option.bind_some, xrow _ hp.2, Option.bind_some]
  simp only [List.map_cons, List.map_nil, List.flatten_cons, List.flatten_nil, List.append_nil]
  rw [chk_pos' (by simp only [List.length_append, room]; omega)]
  simp only [endE, List.append_assoc]
theorem xputOp (b : List Int) (p : TOp) (hp : opB p = true) (hi : wideP p.Imm) (hb : b.length ≤ 1900000000) : m_code_putOp b p = some (b ++ opE p) := by
  have hl := opE_len hp hi
  simp only [opB, Bool.and_eq_true] at hp
  simp only [opE, List.length_append] at hl
  have e6 : p.Imm = (p.Imm.toNat : Int) := by have := hi.1; omega
  have hput := put_eq (v := p.Imm.toNat) (by rw [two64]; have := hi.2; omega)
  rw [← e6] at hput
  have hnum : ∀ x ∈ [p.Kind, p.Bits, p.Lanes, p.Dst], 0 ≤ x ∧ x ≤ 2147483647 := by
    intro x hx
    simp only [List.mem_cons, List.not_mem_nil, or_false] at hx
    rcases hx with rfl | rfl | rfl | rfl
    · exact numB_iff.1 hp.1.1.1.1
    · exact numB_iff.1 hp.1.1.1.2
    · exact numB_iff.1 hp.1.1.2
    · exact numB_iff.1 hp.1.2
  unfold m_code_putOp
  rw [xput _ _ hnum (by simp) (by omega), Option.bind_some, xrow _ hp.2, Option.bind_some]
  simp only [List.map_cons, List.map_nil, List.flatten_cons, List.flatten_nil, List.append_nil]
  rw [chk_pos' (by simp only [List.length_append, room]; omega), hput, Option.bind_some, chk_pos' (by simp only [numE] at hl; simp only [List.length_append, room, numE]; omega)]
  simp only [opE, List.append_assoc, numE]
theorem one_num {n : Int} (h : 0 ≤ n ∧ n ≤ 2147483647) : ∀ x ∈ [n], 0 ≤ x ∧ x ≤ 2147483647 := fun x hx => by obtain rfl := List.mem_singleton.1 hx; exact h
theorem flat_one (n : Int) : ([n].map numE).flatten = numE n := by simp
theorem xencode (f : TFunc) (hf : InF f) (hs : mayF f = true → OkF f) : m_code_Encode f = some (bif mayF f then funcE f else []) := by
  unfold m_code_Encode
  rw [xmay f hf, Option.bind_some]
  cases hm : mayF f with
  | false => rfl
  | true =>
    have ok := hs hm
    have hlenF := funcE_len ok
    have h3 := loop_append f.Blocks (default : TBlock) blockE 1000000000 (m_code_Encode_L3 f) (fun out i hi hle => by
      have hmem := getD_mem (d := (default : TBlock)) hi
      have okb := ok.block _ hmem
      obtain ⟨b1, b2, b3⟩ := blockB_iff.1 okb.may
      have e0 : decide ((i : Int) < (f.Blocks.length : Int)) = true := by simpa using hi
      have hI : InB (i : Int) f.Blocks.length := inB_nat hi
      have l1 := loop_append (f.Blocks.getD i default).Phis (default : TPhi) phiE 1000000000 (m_code_Encode_L1 f i) (fun out j hj hle => by
          have hp := b1 _ (getD_mem (d := (default : TPhi)) hj)
          have q0 : decide ((j : Int) < ((f.Blocks.getD i default).Phis.length : Int)) = true := by simpa using hj
          unfold m_code_Encode_L1
          simp only [chk_pos' hI, Int.toNat_natCast, q0, cond_true, chk_pos' (inB_nat hj)]
          rw [xputPhi _ _ hp (by omega), Option.bind_some, w64_succ hj (by have := okb.phis; omega)]
          rfl) (fun out => by
          unfold m_code_Encode_L1
          simp only [chk_pos' hI, Int.toNat_natCast]
          simp)
      have l2 := loop_append (f.Blocks.getD i default).Ops (default : TOp) opE 1000000000 (m_code_Encode_L2 f i) (fun out j hj hle => by
          have hp := b2 _ (getD_mem (d := (default : TOp)) hj)
          have hi6 := okb.imm _ (getD_mem (d := (default : TOp)) hj)
          have q0 : decide ((j : Int) < ((f.Blocks.getD i default).Ops.length : Int)) = true := by simpa using hj
          unfold m_code_Encode_L2
          simp only [chk_pos' hI, Int.toNat_natCast, q0, cond_true, chk_pos' (inB_nat hj)]
          rw [xputOp _ _ hp hi6 (by omega), Option.bind_some, w64_succ hj (by have := okb.ops; omega)]
          rfl) (fun out => by
          unfold m_code_Encode_L2
          simp only [chk_pos' hI, Int.toNat_natCast]
          simp)
      have hle' := hle
      simp only [blockE, manyE, List.length_append] at hle
      have h1 := l1 _ 0 (out ++ numE ((f.Blocks.getD i default).Phis.length : Int)) (Nat.zero_add _) (by simp only [List.drop_zero, List.length_append]; omega)
      have h2 := l2 _ 0 (out ++ numE ((f.Blocks.getD i default).Phis.length : Int) ++ ((f.Blocks.getD i default).Phis.map phiE).flatten ++ numE ((f.Blocks.getD i default).Ops.length : Int)) (Nat.zero_add _) (by simp only [List.drop_zero, List.length_append]; omega)
      rw [show ((0 : Nat) : Int) = 0 from rfl, List.drop_zero] at h1 h2
      unfold m_code_Encode_L3
      simp only [e0, cond_true, chk_pos' hI, Int.toNat_natCast]
      rw [xput _ _ (one_num ⟨by omega, by have := okb.phis; omega⟩) (by simp) (by omega), Option.bind_some, flat_one, h1, Option.bind_some, xput _ _ (one_num ⟨by omega, by have := okb.ops; omega⟩) (by simp) (by simp only [List.length_append]; omega), Option.bind_some, flat_one, h2, Option.bind_some]
      rw [show m_code_putEnd _ (⟨(f.Blocks.getD i default).End.Kind, (f.Blocks.getD i default).End.Arg, (f.Blocks.getD i default).End.To⟩ : TEnd) = _ from xputEnd _ (f.Blocks.getD i default).End b3 (by simp only [List.length_append]; omega), Option.bind_some, w64_succ hi (by have := ok.blocks; omega)]
      simp only [blockE, manyE, List.append_assoc]
      rfl) (fun out => by
      unfold m_code_Encode_L3
      simp)
    have hlF := hlenF
    simp only [funcE, manyE, List.length_append] at hlF
    have h4 := h3 _ 0 (rowE f.Params ++ (numE f.Ret ++ numE (f.Blocks.length : Int))) (Nat.zero_add _) (by simp only [List.drop_zero, List.length_append]; omega)
    rw [show ((0 : Nat) : Int) = 0 from rfl, List.drop_zero] at h4
    have hn2 : ∀ x ∈ [f.Ret, (f.Blocks.length : Int)], 0 ≤ x ∧ x ≤ 2147483647 := num2 ok.ret (numB_iff.2 ⟨by omega, by have := ok.blocks; omega⟩)
    have e2 : ([f.Ret, (f.Blocks.length : Int)].map numE).flatten = numE f.Ret ++ numE (f.Blocks.length : Int) := by simp
    rw [Bool.not_true, cond_false, cond_true, xrow _ ok.params, Option.bind_some, xput _ _ hn2 (by simp) (by omega), Option.bind_some, e2, h4, Option.bind_some]
    simp only [funcE, manyE, List.append_assoc]
end Go.Proofs.Ytmlldiinidkecaa
