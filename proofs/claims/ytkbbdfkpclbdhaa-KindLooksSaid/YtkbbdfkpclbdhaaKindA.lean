/-
  What operations look like: the answers, told plainly.
-/
import Derived.Test.YtkbbdfkpclbdhaaGen3
import Derived.Test.YtkbbdfkpclbdhaaMod
namespace Go.Proofs.Ytkbbdfkpclbdhaa
open Go Go.RowKit
set_option linter.unusedVariables false
set_option linter.unusedSimpArgs false
set_option maxRecDepth 100000

theorem kinds (k : Int) : k = 0 ∨ k = 1 ∨ k = 2 ∨ k = 3 ∨ k = 4 ∨ k = 5 ∨ k = 6 ∨ k = 7 ∨ k = 8 ∨ k = 9 ∨ k = 10 ∨ k = 11 ∨ k = 12 ∨ k = 13 ∨ k = 14 ∨ k = 15 ∨ k = 16 ∨ k = 17 ∨ k = 18 ∨ k = 19 ∨ k = 20 ∨ k = 21 ∨ k = 22 ∨ (k < 0 ∨ 22 < k) := by omega
theorem out_ne {k : Int} (h : k < 0 ∨ 22 < k) : (k == 0) = false ∧ (k == 1) = false ∧ (k == 2) = false ∧ (k == 3) = false ∧ (k == 4) = false ∧ (k == 5) = false ∧ (k == 6) = false ∧ (k == 7) = false ∧ (k == 8) = false ∧ (k == 9) = false ∧ (k == 10) = false ∧ (k == 11) = false ∧ (k == 12) = false ∧
    (k == 13) = false ∧ (k == 14) = false ∧ (k == 15) = false ∧ (k == 16) = false ∧ (k == 17) = false ∧ (k == 18) = false ∧ (k == 19) = false ∧ (k == 20) = false ∧ (k == 21) = false ∧ (k == 22) = false := by
  simp only [beq_eq_false_iff_ne, ne_eq]; omega

def widthB (b : Int) : Bool := b == 1 || b == 8 || b == 16 || b == 32 || b == 64
def shapeB (b n : Int) : Bool := widthB b && (n == 1 || ((n == 2 || n == 4 || n == 8 || n == 16) && decide (8 ≤ b) && decide (b * n ≤ 128)))
theorem width_cases {b : Int} (h : widthB b = true) : b = 1 ∨ b = 8 ∨ b = 16 ∨ b = 32 ∨ b = 64 := by simp [widthB] at h; omega
theorem shape_width {b n : Int} (h : shapeB b n = true) : widthB b = true := by simp [shapeB] at h; exact h.1
theorem shape_lanes {b n : Int} (h : shapeB b n = true) : n = 1 ∨ n = 2 ∨ n = 4 ∨ n = 8 ∨ n = 16 := by simp [shapeB] at h; omega

theorem word_May (b : Int) : m_word_May b = some (widthB b) := by
  unfold m_word_May widthB
  by_cases h1 : b = 1
  · subst h1; rfl
  by_cases h2 : b = 8
  · subst h2; rfl
  by_cases h3 : b = 16
  · subst h3; rfl
  by_cases h4 : b = 32
  · subst h4; rfl
  by_cases h5 : b = 64
  · subst h5; rfl
  have e1 : (b == 1) = false := by simpa using h1
  have e2 : (b == 8) = false := by simpa using h2
  have e3 : (b == 16) = false := by simpa using h3
  have e4 : (b == 32) = false := by simpa using h4
  have e5 : (b == 64) = false := by simpa using h5
  simp [e1, e2, e3, e4, e5]
theorem ref_WMay (b : Int) : m_lockstepref01_May b = some (widthB b) := by
  unfold m_lockstepref01_May widthB
  cases (b == 1) <;> cases (b == 8) <;> cases (b == 16) <;> cases (b == 32) <;> rfl

theorem kind_Shape (b n : Int) : m_kind_Shape b n = some (shapeB b n) := by
  unfold m_kind_Shape
  simp only [word_May, Option.bind_some]
  by_cases hn : n = 1 ∨ n = 2 ∨ n = 4 ∨ n = 8 ∨ n = 16
  · cases hw : widthB b with
    | false => rcases hn with rfl | rfl | rfl | rfl | rfl <;> simp [shapeB, hw]
    | true =>
      rcases width_cases hw with rfl | rfl | rfl | rfl | rfl <;> rcases hn with rfl | rfl | rfl | rfl | rfl <;> rfl
  · have e1 : (n == 1) = false := by simp; omega
    have e2 : (n == 2) = false := by simp; omega
    have e3 : (n == 4) = false := by simp; omega
    have e4 : (n == 8) = false := by simp; omega
    have e5 : (n == 16) = false := by simp; omega
    simp [shapeB, e1, e2, e3, e4, e5]
theorem ref_Shape (b n : Int) : m_lockstepref03_Shape b n = some (shapeB b n) := by
  unfold m_lockstepref03_Shape
  simp only [ref_WMay, Option.bind_some]
  cases hw : widthB b with
  | false => simp [shapeB, hw]
  | true =>
    by_cases hn : n = 1 ∨ n = 2 ∨ n = 4 ∨ n = 8 ∨ n = 16
    · rcases width_cases hw with rfl | rfl | rfl | rfl | rfl <;> rcases hn with rfl | rfl | rfl | rfl | rfl <;> rfl
    · have e1 : (n == 1) = false := by simp; omega
      have e2 : (n == 2) = false := by simp; omega
      have e3 : (n == 4) = false := by simp; omega
      have e4 : (n == 8) = false := by simp; omega
      have e5 : (n == 16) = false := by simp; omega
      simp [shapeB, e1, e2, e3, e4, e5]

/-! ### Of what width a number is -/
theorem word_Cut {v b : Int} (hv : 0 ≤ v ∧ v < 18446744073709551616) (hb : widthB b = true) : m_word_Cut v b = some (v % 2 ^ b.toNat) := by
  unfold m_word_Cut
  simp only [word_May, hb, Option.bind_some, Bool.not_true, cond_false]
  have key : ∀ j : Nat, j < 64 → shrV .u64 (shlV .u64 v (j : Int)) (j : Int) = (v * 2 ^ j % 18446744073709551616) / 2 ^ j := fun j hj => by
    simp only [shrV, shlV, Int.toNat_natCast, IntKind.bits]
    rw [Nat.min_eq_left (by omega), fdiv_pow, show IntKind.u64.wrap (v * 2 ^ j) = v * 2 ^ j % 18446744073709551616 from wu64_mod _]
  rcases width_cases hb with rfl | rfl | rfl | rfl | rfl
  · have := key 63 (by decide); simp only [show w64 (64 - 1) = ((63 : Nat) : Int) from rfl, this]; rw [chk_pos' (by decide), chk_pos' (by decide)]; congr 1; simp only [show ((1 : Int).toNat) = 1 from rfl]; omega
  · have := key 56 (by decide); simp only [show w64 (64 - 8) = ((56 : Nat) : Int) from rfl, this]; rw [chk_pos' (by decide), chk_pos' (by decide)]; congr 1; simp only [show ((8 : Int).toNat) = 8 from rfl]; omega
  · have := key 48 (by decide); simp only [show w64 (64 - 16) = ((48 : Nat) : Int) from rfl, this]; rw [chk_pos' (by decide), chk_pos' (by decide)]; congr 1; simp only [show ((16 : Int).toNat) = 16 from rfl]; omega
  · have := key 32 (by decide); simp only [show w64 (64 - 32) = ((32 : Nat) : Int) from rfl, this]; rw [chk_pos' (by decide), chk_pos' (by decide)]; congr 1; simp only [show ((32 : Int).toNat) = 32 from rfl]; omega
  · have := key 0 (by decide); simp only [show w64 (64 - 64) = ((0 : Nat) : Int) from rfl, this]; rw [chk_pos' (by decide), chk_pos' (by decide)]; congr 1; simp only [show ((64 : Int).toNat) = 64 from rfl]; omega
theorem ref_Cut {v b : Int} (hv : 0 ≤ v ∧ v < 18446744073709551616) (hb : widthB b = true) : m_lockstepref01_Cut v b = some (v % 2 ^ b.toNat) := by
  unfold m_lockstepref01_Cut
  simp only [ref_WMay, hb, Option.bind_some, Bool.not_true, cond_false]
  rcases width_cases hb with rfl | rfl | rfl | rfl | rfl
  · rw [show ((1 : Int) == 64) = false from rfl, cond_false, chk_pos' (by decide), chk_pos' (by decide), show shlV .u64 (1 : Int) (wu64 1) = 2 ^ (1 : Int).toNat from rfl, Int.tmod_eq_emod_of_nonneg hv.1]
  · rw [show ((8 : Int) == 64) = false from rfl, cond_false, chk_pos' (by decide), chk_pos' (by decide), show shlV .u64 (1 : Int) (wu64 8) = 2 ^ (8 : Int).toNat from rfl, Int.tmod_eq_emod_of_nonneg hv.1]
  · rw [show ((16 : Int) == 64) = false from rfl, cond_false, chk_pos' (by decide), chk_pos' (by decide), show shlV .u64 (1 : Int) (wu64 16) = 2 ^ (16 : Int).toNat from rfl, Int.tmod_eq_emod_of_nonneg hv.1]
  · rw [show ((32 : Int) == 64) = false from rfl, cond_false, chk_pos' (by decide), chk_pos' (by decide), show shlV .u64 (1 : Int) (wu64 32) = 2 ^ (32 : Int).toNat from rfl, Int.tmod_eq_emod_of_nonneg hv.1]
  · rw [show ((64 : Int) == 64) = true from rfl, cond_true]
    congr 1
    simp only [show ((64 : Int).toNat) = 64 from rfl]
    omega
theorem kind_isWidth {i : Int} (h : 0 ≤ i ∧ i < 18446744073709551616) : m_kind_isWidth i = some (widthB i) := by
  unfold m_kind_isWidth
  by_cases hi : i ≤ 64
  · have : w64 i = i := w64_of (by omega) (by omega)
    simp [hi, this, word_May]
  · have : widthB i = false := by simp [widthB]; omega
    simp [hi, this]


/-! ### Operations -/
def isK (k : Int) : Bool := decide (0 ≤ k) && decide (k ≤ 22)
def nArgs (k n : Int) : Int :=
  bif k == 0 then 0 else bif k == 13 || k == 18 || k == 19 then 3 else bif k == 14 || k == 15 || k == 16 || k == 22 then 1 else bif k == 20 then 4 else bif k == 21 then n else 2
def sfitS (k b n : Int) : Bool :=
  bif k == 16 || k == 17 then decide (8 ≤ b) else bif k == 18 || k == 19 then decide (8 ≤ b) && n == 1 else
  bif k == 4 || k == 10 || k == 11 || k == 12 || k == 14 || k == 15 || k == 20 then n == 1 else bif k == 21 || k == 22 then decide (1 < n) else true
def ifitS (k b n i : Int) : Bool :=
  bif k == 0 then i % 2 ^ b.toNat == i else bif k == 14 then widthB i && decide (i < b) else bif k == 15 then widthB i && decide (b < i) else bif k == 22 then decide (i < n) else i == 0
def valS (v : Int) : Bool := decide (1 ≤ v) && decide (v ≤ 1023)
def dstS (k d : Int) : Bool := bif k == 17 || k == 19 then d == 0 else valS d
def mayS (o : TOp) : Bool := shapeB o.Bits o.Lanes && (isK o.Kind && sfitS o.Kind o.Bits o.Lanes && ifitS o.Kind o.Bits o.Lanes o.Imm && ((o.Args.length : Int) == nArgs o.Kind o.Lanes)) && (o.Args.all valS && dstS o.Kind o.Dst)
def elemS (o : TOp) (i : Nat) : Int × Int :=
  bif o.Kind == 13 || o.Kind == 20 then (bif Nat.beq i 0 then (1, 1) else (o.Bits, o.Lanes)) else bif o.Kind == 14 || o.Kind == 15 then (w64 o.Imm, 1) else
  bif o.Kind == 16 || o.Kind == 17 then (bif Nat.beq i 0 then (64, 1) else (o.Bits, o.Lanes)) else
  bif o.Kind == 18 || o.Kind == 19 then (bif Nat.beq i 1 then (64, 1) else bif Nat.beq i 0 then (1, 1) else (o.Bits, o.Lanes)) else bif o.Kind == 21 then (o.Bits, 1) else (o.Bits, o.Lanes)
def takesS (o : TOp) : List (Int × Int) := (List.range (nArgs o.Kind o.Lanes).toNat).map (elemS o)
def givesS (k b n : Int) : Int × Int := bif k == 17 || k == 19 then (0, 0) else bif k == 10 || k == 11 || k == 12 then (1, 1) else bif k == 22 then (b, 1) else (b, n)
def pureS (k : Int) : Bool := isK k && !(k == 4 || k == 16 || k == 17 || k == 18 || k == 19 || k == 20)

theorem isK_ne {k : Int} (h : isK k = true) : 0 ≤ k ∧ k ≤ 22 := by simpa [isK] using h
theorem isK_out {k : Int} (h : k < 0 ∨ 22 < k) : isK k = false := by simp [isK]; omega

theorem kind_isKind (k : Int) : m_kind_isKind k = some (isK k) := by unfold m_kind_isKind isK; cases decide ((0 : Int) ≤ k) <;> rfl
theorem kind_isValue (v : Int) : m_kind_isValue v = some (valS v) := by unfold m_kind_isValue valS; cases decide ((1 : Int) ≤ v) <;> rfl
theorem ref_Value (v : Int) : m_lockstepref03_Value v = some (valS v) := by
  unfold m_lockstepref03_Value valS
  have e1 : decide ((0 : Int) < v) = decide (1 ≤ v) := by congr 1
  have e2 : decide (v < (1024 : Int)) = decide (v ≤ 1023) := by apply decide_eq_decide.2; omega
  rw [e1, e2]
  cases decide ((1 : Int) ≤ v) <;> rfl

theorem kind_shapeFits (o : TOp) : m_kind_shapeFits o = some (sfitS o.Kind o.Bits o.Lanes) := by
  obtain ⟨k, b, n, d, args, i⟩ := o
  rcases kinds k with rfl | rfl | rfl | rfl | rfl | rfl | rfl | rfl | rfl | rfl | rfl | rfl | rfl | rfl | rfl | rfl | rfl | rfl | rfl | rfl | rfl | rfl | rfl | h
  any_goals rfl
  · show some (bif decide (8 ≤ b) then n == 1 else false) = some (decide (8 ≤ b) && n == 1); cases decide (8 ≤ b) <;> rfl
  · show some (bif decide (8 ≤ b) then n == 1 else false) = some (decide (8 ≤ b) && n == 1); cases decide (8 ≤ b) <;> rfl
  · unfold m_kind_shapeFits sfitS
    simp [out_ne h]
theorem kind_gives (o : TOp) : m_kind_gives o = some (givesS o.Kind o.Bits o.Lanes) := by
  obtain ⟨k, b, n, d, args, i⟩ := o
  rcases kinds k with rfl | rfl | rfl | rfl | rfl | rfl | rfl | rfl | rfl | rfl | rfl | rfl | rfl | rfl | rfl | rfl | rfl | rfl | rfl | rfl | rfl | rfl | rfl | h
  any_goals rfl
  unfold m_kind_gives givesS
  simp [out_ne h]
theorem kind_Pure (k : Int) : m_kind_Pure k = some (pureS k) := by
  rcases kinds k with rfl | rfl | rfl | rfl | rfl | rfl | rfl | rfl | rfl | rfl | rfl | rfl | rfl | rfl | rfl | rfl | rfl | rfl | rfl | rfl | rfl | rfl | rfl | h
  any_goals rfl
  unfold m_kind_Pure pureS
  simp [out_ne h, kind_isKind]
theorem ref_Pure (k : Int) : m_lockstepref03_Pure k = some (pureS k) := by
  rcases kinds k with rfl | rfl | rfl | rfl | rfl | rfl | rfl | rfl | rfl | rfl | rfl | rfl | rfl | rfl | rfl | rfl | rfl | rfl | rfl | rfl | rfl | rfl | rfl | h
  any_goals rfl
  unfold m_lockstepref03_Pure pureS
  have : (bif decide ((0 : Int) ≤ k) then decide (k ≤ 22) else false) = isK k := by unfold isK; cases decide ((0 : Int) ≤ k) <;> rfl
  rw [this, isK_out h]; rfl

theorem kind_immFits (o : TOp) (hw : widthB o.Bits = true) (hn : 0 ≤ o.Lanes ∧ o.Lanes ≤ 16) (hi : 0 ≤ o.Imm ∧ o.Imm < 18446744073709551616) : m_kind_immFits o = some (ifitS o.Kind o.Bits o.Lanes o.Imm) := by
  unfold m_kind_immFits ifitS
  have hb : wu64 o.Bits = o.Bits := by apply wu64_of <;> (rcases width_cases hw with h | h | h | h | h <;> omega)
  have hl : wu64 o.Lanes = o.Lanes := by apply wu64_of <;> omega
  rw [word_Cut hi hw, kind_isWidth hi, hb, hl]
  cases (o.Kind == 0) <;> cases (o.Kind == 14) <;> cases (o.Kind == 15) <;> cases (o.Kind == 22) <;> cases widthB o.Imm <;> rfl

/-- What is to be read of a kind, by the document. -/
def fitR (k b n i : Int) : Bool := isK k && sfitS k b n && ifitS k b n i
set_option maxHeartbeats 2000000 in
theorem ref_Fits (o : TOp) (hs : shapeB o.Bits o.Lanes = true) (hk : isK o.Kind = true) (hi : 0 ≤ o.Imm ∧ o.Imm < 18446744073709551616) : m_lockstepref03_Fits o = some (sfitS o.Kind o.Bits o.Lanes && ifitS o.Kind o.Bits o.Lanes o.Imm) := by
  have hw := shape_width hs
  have hl := shape_lanes hs
  obtain ⟨k, b, n, d, args, i⟩ := o
  simp only at hs hk hi hw hl ⊢
  have hb : wu64 b = b := by apply wu64_of <;> (rcases width_cases hw with h | h | h | h | h <;> omega)
  have hn : wu64 n = n := by apply wu64_of <;> omega
  have hb8 : decide (b < 8) = !decide (8 ≤ b) := by rw [← decide_not]; apply decide_eq_decide.2; omega
  have hn2 : decide (n < 2) = !decide (1 < n) := by rw [← decide_not]; apply decide_eq_decide.2; omega
  have h14 : (bif decide (i < b) then widthB (w64 i) else false) = (widthB i && decide (i < b)) := by
    by_cases h : i < b
    · have : w64 i = i := w64_of (by omega) (by rcases width_cases hw with h | h | h | h | h <;> omega)
      simp [h, this]
    · simp [h]
  have h15 : (bif (bif decide (b < i) then decide (i ≤ 64) else false) then widthB (w64 i) else false) = (widthB i && decide (b < i)) := by
    by_cases h : i ≤ 64
    · have : w64 i = i := w64_of (by omega) (by omega)
      by_cases h2 : b < i <;> simp [h, this, h2]
    · have : widthB i = false := by simp [widthB]; omega
      simp [h, this]
  have hc := ref_Cut (v := i) hi hw
  rcases kinds k with rfl | rfl | rfl | rfl | rfl | rfl | rfl | rfl | rfl | rfl | rfl | rfl | rfl | rfl | rfl | rfl | rfl | rfl | rfl | rfl | rfl | rfl | rfl | h
  case inl => unfold m_lockstepref03_Fits; simp [hc, sfitS, ifitS]
  all_goals first
    | (rw [isK_out h] at hk; cases hk)
    | (unfold m_lockstepref03_Fits sfitS ifitS
       simp only [hb8]
       generalize decide (8 ≤ b) = u at *
       clear hc h14 h15 hb8 hw hs
       rcases hl with rfl | rfl | rfl | rfl | rfl <;> cases u <;> simp_all
       done)
    | (unfold m_lockstepref03_Fits sfitS ifitS
       rw [hb]
       simp only [ref_WMay]
       clear hc hs
       generalize decide (i < b) = p at *
       generalize decide (b < i) = q at *
       generalize decide (i ≤ 64) = r at *
       generalize widthB (w64 i) = s at *
       rcases hl with rfl | rfl | rfl | rfl | rfl <;> cases p <;> cases q <;> cases r <;> cases s <;> simp_all
       done)
end Go.Proofs.Ytkbbdfkpclbdhaa
