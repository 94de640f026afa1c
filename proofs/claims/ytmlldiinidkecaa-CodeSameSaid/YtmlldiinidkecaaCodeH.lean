/-
  The laws of layer 4, from what the program's functions answer.
-/
import Derived.Test.YtmlldiinidkecaaCodeE
import Derived.Test.YtmlldiinidkecaaCodeG
namespace Go.Proofs.Ytmlldiinidkecaa
open Go Go.RowKit
set_option linter.unusedVariables false
set_option linter.unusedSimpArgs false

def noF : TFunc := ⟨[], 0, []⟩
/-- What the program's functions answer. -/
structure Facts : Prop where
  may : ∀ f, InF f → m_code_May f = some (mayF f)
  size : ∀ f, InF f → m_code_Size f = some (sizeW f)
  same : ∀ f g, InF f → InF g → m_code_Same f g = some (decide (f = g))
  enc : ∀ f, InF f → (mayF f = true → OkF f) → m_code_Encode f = some (bif mayF f then funcE f else [])
  whole : ∀ f, OkF f → 1 ≤ f.Blocks.length → sizeN f ≤ 512 → m_code_Decode (funcE f) = some (f, 0)
  more : ∀ f x, OkF f → 1 ≤ f.Blocks.length → sizeN f ≤ 512 → 0 ≤ x ∧ x < 256 → m_code_Decode (funcE f ++ [x]) = some (noF, 3)
  cut : ∀ f c, OkF f → 1 ≤ f.Blocks.length → sizeN f ≤ 512 → c < (funcE f).length → m_code_Decode ((funcE f).take c) = some (noF, 2)
  any : ∀ b, Bytes b → b.length < 2 ^ 60 → ∃ g e, m_code_Decode b = some (g, e) ∧ (e = 0 → OkF g ∧ 1 ≤ g.Blocks.length ∧ sizeN g ≤ 512 ∧ funcE g = b) ∧ (e ≠ 0 → g = noF)

theorem ok_in {f : TFunc} (h : OkF f) : InF f := by
  have hM := maxLen_eq
  refine ⟨by have := h.few; omega, by have := h.blocks; omega, fun b hb => ?_, fun b hb p hp => ?_, fun b hb o ho => ?_⟩
  · have okb := h.block b hb
    obtain ⟨_, _, q3⟩ := blockB_iff.1 okb.may
    simp only [endB, Bool.and_eq_true] at q3
    have := (listB_iff.1 q3.2).2
    exact ⟨by have := okb.phis; omega, by have := okb.ops; omega, by omega⟩
  · have q := (blockB_iff.1 (h.block b hb).may).1 p hp
    simp only [phiB, Bool.and_eq_true] at q
    have h1 := (listB_iff.1 q.1.2).2
    have h2 := (listB_iff.1 q.2).2
    exact ⟨by omega, by omega⟩
  · have q := (blockB_iff.1 (h.block b hb).may).2.1 o ho
    simp only [opB, Bool.and_eq_true] at q
    have h1 := (listB_iff.1 q.2).2
    have h2 := (h.block b hb).imm o ho
    exact ⟨by omega, h2.1, h2.2⟩
theorem funcE_pos (f : TFunc) : 0 < (funcE f).length := by
  have := putN_pos f.Params.length
  simp only [funcE, rowE, List.length_append]
  omega
/-- What is gone through: of those that may be told, such as may be read. -/
theorem small_parts (f : TFunc) (hf : InF f) : ∃ sm, m_lockstepref04_Small f = some sm ∧ (sm = true → mayF f = true → OkF f ∧ sizeN f ≤ 512 ∧ 1 ≤ f.Blocks.length) := by
  obtain ⟨sm, h⟩ := small_some f hf
  refine ⟨sm, h, fun h1 h2 => ?_⟩
  obtain ⟨q1, q2⟩ := may_lists h2
  rw [small_eq f hf q1 q2] at h
  subst h1
  obtain ⟨r1, r2⟩ := may_ok hf h2 (by simpa using Option.some.inj h)
  exact ⟨r1, r2, (may_parts h2).1⟩
theorem same_refl (b : List Int) (h : b.length < 2 ^ 62) : m_lockstepref02_Same b b = some true := by rw [same_eq b b h h, decide_eq_true rfl]

section
variable (F : Facts)
include F
theorem code_inj {f g : TFunc} (hf : OkF f) (h1 : 1 ≤ f.Blocks.length) (h2 : sizeN f ≤ 512) (hg : OkF g) (g1 : 1 ≤ g.Blocks.length) (g2 : sizeN g ≤ 512) (h : funcE f = funcE g) : f = g := by
  have e1 := F.whole f hf h1 h2
  have e2 := F.whole g hg g1 g2
  rw [h, e2] at e1
  exact (Prod.mk.inj (Option.some.inj e1)).1.symm
def f0 : TFunc := ⟨[], 8, [⟨[], [⟨0, 8, 1, 1, [], 5⟩], ⟨0, 1, []⟩⟩]⟩
omit F in
theorem f0E : funcE f0 = [0, 8, 1, 0, 1, 0, 8, 1, 1, 0, 5, 0, 1, 0] := by
  simp [funcE, f0, manyE, blockE, opE, endE, numE, rowE, flat_nil, putN_lt]
omit F in
theorem f0_ok : OkF f0 := by
  refine ⟨rfl, by decide, rfl, by decide, fun b hb => ?_⟩
  simp only [f0, List.mem_singleton] at hb
  subst hb
  refine ⟨rfl, by decide, by decide, fun o ho => ?_⟩
  simp only [List.mem_singleton] at ho
  subst ho
  exact ⟨by decide, by decide⟩
theorem awake4 : m_locksteplaw04_awake = some true := by
  have w := F.whole f0 f0_ok (by decide) (by decide)
  have m := F.more f0 0 f0_ok (by decide) (by decide) (by decide)
  have c := F.cut f0 5 f0_ok (by decide) (by decide) (by rw [f0E]; decide)
  have e := F.enc f0 (ok_in f0_ok) (fun _ => f0_ok)
  have s := F.size f0 (ok_in f0_ok)
  rw [show mayF f0 = true from rfl, cond_true] at e
  rw [show sizeW f0 = 2 from rfl] at s
  rw [f0E] at w m c e
  unfold m_locksteplaw04_awake
  rw [w, Option.bind_some, chk_pos' (by decide), show ((5 : Int)).toNat = 5 from rfl, c, Option.bind_some, chk_pos' (by decide), chk_pos' (by decide), List.nil_append, m, Option.bind_some]
  rw [chk_pos' (fun _ => by decide), chk_pos' (fun _ => by decide), chk_pos' (fun _ => by decide), chk_pos' (fun _ => by decide)]
  change Option.bind (m_code_Encode f0) _ = _
  rw [e, Option.bind_some]
  change Option.bind (m_lockstepref02_Same [0, 8, 1, 0, 1, 0, 8, 1, 1, 0, 5, 0, 1, 0] [0, 8, 1, 0, 1, 0, 8, 1, 1, 0, 5, 0, 1, 0]) _ = _
  rw [same_refl _ (by decide), Option.bind_some]
  change Option.bind (m_code_Size f0) _ = _
  rw [s]
  rfl
theorem tells_true (f : TFunc) (hf : InF f) : m_locksteplaw04_CodeTells f = some true := by
  have hM := maxLen_eq
  obtain ⟨sm, hs, hok⟩ := small_parts f hf
  unfold m_locksteplaw04_CodeTells
  rw [awake4 F, Option.bind_some, Bool.not_true, cond_false, hs, Option.bind_some]
  cases sm with
  | false => rfl
  | true =>
    have hok' : mayF f = true → OkF f := fun h => (hok rfl h).1
    simp only [Bool.not_true, cond_false, F.enc f hf hok', rencode_eq f hf hok', F.may f hf, rmay_eq f hf, F.size f hf, rsize_eq f hf, Option.bind_some, bne_self_eq_false, beq_self_eq_true, cond_true]
    cases hm : mayF f with
    | false => rw [cond_false, same_refl _ (by decide)]; rfl
    | true =>
      obtain ⟨ok, h512, h1⟩ := hok rfl hm
      have hl := funcE_len ok
      rw [cond_true, same_refl _ (by omega), Option.bind_some]
      simp only [Bool.not_true, cond_false, F.whole f ok h1 h512, Option.bind_some, beq_self_eq_true, cond_true, rsame_eq f f hf, F.same f f hf hf, decide_true]
theorem same_true (f g : TFunc) (hf : InF f) (hg : InF g) : m_locksteplaw04_CodeSame f g = some true := by
  have hM := maxLen_eq
  obtain ⟨sm, hs, hok⟩ := small_parts f hf
  obtain ⟨sn, hs', hok2⟩ := small_parts g hg
  unfold m_locksteplaw04_CodeSame
  rw [awake4 F, Option.bind_some, Bool.not_true, cond_false, hs, Option.bind_some]
  cases sm with
  | false => rfl
  | true =>
    simp only [Bool.not_true, beq_self_eq_true, cond_true, hs', Option.bind_some]
    cases sn with
    | false => rfl
    | true =>
      simp only [Bool.not_true, cond_false, F.same f g hf hg, rsame_eq f g hf, F.same f f hf hf, Option.bind_some, bne_self_eq_false, beq_self_eq_true, cond_true, decide_true, rmay_eq f hf]
      cases hm : mayF f with
      | false => rfl
      | true =>
        simp only [Bool.not_true, beq_self_eq_true, cond_true, rmay_eq g hg, Option.bind_some, cond_false]
        cases hm' : mayF g with
        | false => rfl
        | true =>
          obtain ⟨ok, h512, h1⟩ := hok rfl hm
          obtain ⟨ok', g512, g1⟩ := hok2 rfl hm'
          have hl := funcE_len ok
          have hl' := funcE_len ok'
          simp only [Bool.not_true, beq_self_eq_true, cond_true, cond_false, F.enc f hf (fun _ => ok), F.enc g hg (fun _ => ok'), hm, hm', Option.bind_some, same_eq (funcE f) (funcE g) (by omega) (by omega)]
          congr 1
          by_cases h : f = g
          · subst h; simp
          · have : ¬ funcE f = funcE g := fun h' => h (code_inj F ok h1 h512 ok' g1 g512 h')
            rw [decide_eq_false h, decide_eq_false this]; rfl
theorem cuts_true (f : TFunc) (at_ more : Int) (hf : InF f) (ha : 0 ≤ at_ ∧ at_ < 65536) (hb : 0 ≤ more ∧ more < 256) : m_locksteplaw04_CodeCuts f at_ more = some true := by
  obtain ⟨sm, hs, hok⟩ := small_parts f hf
  unfold m_locksteplaw04_CodeCuts
  rw [awake4 F, Option.bind_some, Bool.not_true, cond_false, hs, Option.bind_some]
  cases sm with
  | false => rfl
  | true =>
    have hok' : mayF f = true → OkF f := fun h => (hok rfl h).1
    simp only [Bool.not_true, cond_false, F.enc f hf hok', Option.bind_some]
    cases hm : mayF f with
    | false => simp only [cond_false, List.length_nil, F.may f hf, hm, Option.bind_some]; rfl
    | true =>
      obtain ⟨ok, h512, h1⟩ := hok rfl hm
      have hl := funcE_len ok
      have hp := funcE_pos f
      have e0 : (((funcE f).length : Int) == 0) = false := by rw [beq_eq_false_iff_ne]; omega
      have hw : w64 at_ = at_ := w64_of (by omega) (by omega)
      have hmod : Int.tmod at_ ((funcE f).length : Int) = ((at_.toNat % (funcE f).length : Nat) : Int) := by
        obtain ⟨n, rfl⟩ : ∃ n : Nat, at_ = n := ⟨at_.toNat, by omega⟩
        rfl
      have hlt : at_.toNat % (funcE f).length < (funcE f).length := Nat.mod_lt _ hp
      simp only [cond_true, e0, cond_false, hw, hmod]
      rw [chk_pos' (by omega), chk_pos' (by omega), Int.toNat_natCast, F.cut f _ ok h1 h512 hlt, Option.bind_some, chk_pos' (by simp [room]; omega), chk_pos' (by simp [room]; omega), List.nil_append, F.more f more ok h1 h512 hb, Option.bind_some]
      have hb0 : (((([] : List TBlock).length : Int)) == 0) = true := rfl
      simp only [noF, hb0, beq_self_eq_true, cond_true, Option.bind_some, same_refl (funcE f) (show (funcE f).length < 2 ^ 62 by omega)]
omit F in
theorem set_bytes {b : List Int} (h : Bytes b) (i : Nat) {x : Int} (hx : 0 ≤ x ∧ x < 256) : Bytes (b.set i x) := fun y hy => by
  rcases List.mem_or_eq_of_mem_set hy with h' | rfl
  · exact h y h'
  · exact hx
theorem turned_true (f : TFunc) (at_ by_ : Int) (hf : InF f) (ha : 0 ≤ at_ ∧ at_ < 65536) (hb : 0 ≤ by_ ∧ by_ < 256) : m_locksteplaw04_CodeTurned f at_ by_ = some true := by
  obtain ⟨sm, hs, hok⟩ := small_parts f hf
  unfold m_locksteplaw04_CodeTurned
  rw [awake4 F, Option.bind_some, Bool.not_true, cond_false, hs, Option.bind_some]
  cases sm with
  | false => rfl
  | true =>
    have hok' : mayF f = true → OkF f := fun h => (hok rfl h).1
    simp only [Bool.not_true, cond_false, F.enc f hf hok', Option.bind_some]
    cases hm : mayF f with
    | false => rfl
    | true =>
      obtain ⟨ok, h512, h1⟩ := hok rfl hm
      have hl := funcE_len ok
      have hp := funcE_pos f
      have hB := funcE_bytes f
      have e0 : (((funcE f).length : Int) == 0) = false := by rw [beq_eq_false_iff_ne]; omega
      have hw : w64 at_ = at_ := w64_of (by omega) (by omega)
      have hmod : Int.tmod at_ ((funcE f).length : Int) = ((at_.toNat % (funcE f).length : Nat) : Int) := by
        obtain ⟨n, rfl⟩ : ∃ n : Nat, at_ = n := ⟨at_.toNat, by omega⟩
        rfl
      have hlt : at_.toNat % (funcE f).length < (funcE f).length := Nat.mod_lt _ hp
      generalize hi : at_.toNat % (funcE f).length = i at *
      have hx0 := hB _ (getD_mem (d := (0 : Int)) hlt)
      obtain ⟨x, hx⟩ : ∃ x : Nat, (funcE f).getD i 0 = x := ⟨((funcE f).getD i 0).toNat, by omega⟩
      obtain ⟨y, rfl⟩ : ∃ y : Nat, by_ = y := ⟨by_.toNat, by omega⟩
      have hxor : bitsV .xor .u8 ((funcE f).getD i 0) (y : Int) = ((x ^^^ y : Nat) : Int) := by rw [hx]; exact bits_xor .u8 rfl (by show x < 256; omega) (by show y < 256; omega)
      have hxlt : x ^^^ y < 256 := Nat.xor_lt_two_pow (n := 8) (by omega) (by omega)
      simp only [cond_true, e0, cond_false, hw, hmod]
      rw [chk_pos' (by simp only [room]; omega), chk_pos' (by omega), chk_pos' (inB_nat hlt), chk_pos' (inB_nat hlt)]
      simp only [Int.toNat_natCast, hxor]
      by_cases hy : y = 0
      · subst hy
        have : (funcE f).set i ((x ^^^ 0 : Nat) : Int) = funcE f := by
          rw [Nat.xor_zero, ← hx, getD_eq_of_lt _ _ _ hlt]
          exact List.set_getElem_self hlt
        rw [this, F.whole f ok h1 h512, Option.bind_some]
        simp only [F.same f f hf hf]
        simp
      · have hne : ¬ (funcE f).set i ((x ^^^ y : Nat) : Int) = funcE f := fun h => by
          have h2 : ((funcE f).set i ((x ^^^ y : Nat) : Int)).getD i 0 = (funcE f).getD i 0 := by rw [h]
          rw [getD_eq_of_lt _ _ _ (by simpa using hlt), List.getElem_set_self, hx] at h2
          have h3 : x ^^^ y = x := by exact_mod_cast h2
          have h4 : x ^^^ (x ^^^ y) = x ^^^ x := by rw [h3]
          rw [← Nat.xor_assoc, Nat.xor_self, Nat.zero_xor] at h4
          exact hy h4
        have hB' : Bytes ((funcE f).set i ((x ^^^ y : Nat) : Int)) := set_bytes hB i (by omega)
        have hlen' : ((funcE f).set i ((x ^^^ y : Nat) : Int)).length = (funcE f).length := by simp
        obtain ⟨g, e, hd, hz, hnz⟩ := F.any _ hB' (by omega)
        rw [hd, Option.bind_some]
        have ey : ((y : Int) == 0) = false := by simpa using hy
        rw [ey, cond_false]
        by_cases he : e = 0
        · subst he
          obtain ⟨okg, g1, g512, hE⟩ := hz rfl
          have hgf : ¬ g = f := fun h => hne (by rw [← hE, h])
          have hmg := ok_may okg g1 g512
          simp only [F.same g f (ok_in okg) hf, decide_eq_false hgf, F.enc g (ok_in okg) (fun _ => okg), hmg, hE, Option.bind_some, bne_self_eq_false, beq_self_eq_true, cond_true, cond_false, Bool.not_false, Bool.and_true, same_refl _ (show ((funcE f).set i ((x ^^^ y : Nat) : Int)).length < 2 ^ 62 by omega)]
        · have : (e != 0) = true := by simpa using he
          simp only [this]
          rfl
end
end Go.Proofs.Ytmlldiinidkecaa
