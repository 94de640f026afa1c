/-
  The program's own: its reader.
-/
import Derived.Test.YtmlldiinidkecaaCodeXC
namespace Go.Proofs.Ytmlldiinidkecaa
open Go Go.RowKit
set_option linter.unusedVariables false
set_option linter.unusedSimpArgs false

theorem Reads.iff {S α : Type} {V : View S} {m : S → Option (α × S)} {E F : α → List Int} {P Q : α → Prop} (h : Reads V m E P) (hP : ∀ a, P a ↔ Q a) (hE : ∀ a, E a = F a) : Reads V m F Q := by
  rw [show F = E from funext fun a => (hE a).symm, show Q = P from funext fun a => propext (hP a).symm]; exact h
/-- What reads a number, at least and at most so much. -/
theorem reads_within {S : Type} {V : View S} {w m : S → Option (Int × S)} (least top : Int) (h0 : 0 ≤ least) (ht : top < 9223372036854775808) (h : Reads V w numE wideP)
    (hok : ∀ s v s', V.good s → w s = some (v, s') → V.good s' → V.bad s' = 0 → least ≤ v → v ≤ top → m s = some (v, s'))
    (hbig : ∀ s v s', V.good s → w s = some (v, s') → V.good s' → V.bad s' = 0 → (v < least ∨ top < v) → ∃ a t, m s = some (a, t) ∧ V.bad t ≠ 0 ∧ V.good t)
    (hbad : ∀ s v s', V.good s → w s = some (v, s') → V.good s' → V.bad s' ≠ 0 → ∃ a t, m s = some (a, t) ∧ V.bad t = V.bad s' ∧ V.good t) : Reads V m numE (fun n => least ≤ n ∧ n ≤ top) where
  sticky s hs hb := by
    obtain ⟨a, s', e, hb', hg⟩ := h.sticky s hs hb
    obtain ⟨b, t, q1, q2, q3⟩ := hbad s a s' hs e hg (by rw [hb']; exact hb)
    exact ⟨b, t, q1, by rw [q2, hb'], q3⟩
  any s hs hb := by
    obtain ⟨a, s', e, hg, hd⟩ := h.any s hs hb
    by_cases hb' : V.bad s' = 0
    · obtain ⟨p1, p2⟩ := hd hb'
      by_cases hv : least ≤ a ∧ a ≤ top
      · exact ⟨a, s', hok s a s' hs e hg hb' hv.1 hv.2, hg, fun _ => ⟨hv, p2⟩⟩
      · obtain ⟨b, t, q1, q2, q3⟩ := hbig s a s' hs e hg hb' (by omega)
        exact ⟨b, t, q1, q3, fun h => absurd h q2⟩
    · obtain ⟨b, t, q1, q2, q3⟩ := hbad s a s' hs e hg hb'
      exact ⟨b, t, q1, q3, fun h => absurd (q2 ▸ h) hb'⟩
  whole s a more hs hb hp hl := by
    obtain ⟨s', e, hb', hl', hg⟩ := h.whole s a more hs hb ⟨by have := hp.1; omega, by have := hp.2; omega⟩ hl
    exact ⟨s', hok s a s' hs e hg hb' hp.1 hp.2, hb', hl', hg⟩
  cut s a c hs hb hp hc hl := by
    obtain ⟨a', s', e, hb', hg⟩ := h.cut s a c hs hb ⟨by have := hp.1; omega, by have := hp.2; omega⟩ hc hl
    obtain ⟨b, t, q1, q2, q3⟩ := hbad s a' s' hs e hg (by rw [hb']; decide)
    exact ⟨b, t, q1, by rw [q2, hb'], q3⟩
/-- How many there are, and each. -/
theorem reads_manyQ {S : Type} {V : View S} {α : Type} [Inhabited α] {cnt : S → Option (Int × S)} {m : S → Option (α × S)} {E : α → List Int} {P : α → Prop} {Q : Int → Prop} (hQ : ∀ n, Q n → 0 ≤ n) (hc : Reads V cnt numE Q) (hm : Reads V m E P) :
    Reads V (fun s => (cnt s).bind fun x => readN m x.1.toNat x.2) (manyE E) (fun l => Q l.length ∧ ∀ a ∈ l, P a) := by
  refine Reads.dep (β := List α) (Q := fun l => ∀ a ∈ l, P a) (F := fun l => (l.map E).flatten) (n := fun x s => readN m x.toNat s) (fun l => (l.length : Int)) hc (fun a ha => ?_) (fun a s hs hb => readN_sticky hm _ s hs hb)
  have h0 := hQ a ha
  exact (hm.many a.toNat).iff (fun l => ⟨fun h => ⟨h.2, by have := h.1; omega⟩, fun h => ⟨by have := h.2; omega, h.1⟩⟩) (fun _ => rfl)

def V : View Treader := ⟨Treader.rest, Treader.code, fun s => Bytes s.rest ∧ s.rest.length < 2 ^ 61⟩
theorem V_cut {s : Treader} (h : V.good s) (n : Nat) (e : Int) : V.good ⟨s.rest.drop n, e⟩ := ⟨h.1.drop n, by have := h.2; simp only [List.length_drop]; omega⟩
theorem xany : Reads V m_code_reader_anyNumber numE wideP := by
  refine reads_wide (fun s h => h) (fun s hs hb => ?_) (fun s hs hb v e n hg hn => ?_)
  · refine ⟨0, s, ?_, rfl, hs⟩
    have : (s.code != 0) = true := bne_iff_ne.2 hb
    unfold m_code_reader_anyNumber
    rw [this, cond_true]
  · refine ⟨⟨s.rest.drop n, e⟩, ?_, rfl, rfl, V_cut hs n e⟩
    have h1 : (s.code != 0) = false := bne_eq_false_iff_eq.2 hb
    have hg' : m_num_Get s.rest = some (v, (n : Int), e) := hg
    unfold m_code_reader_anyNumber
    rw [h1, cond_false, hg', Option.bind_some]
    exact chk_pos' ⟨by simp, by show (n : Int) ≤ (s.rest.length : Int); exact_mod_cast hn⟩
theorem xwithin (least most : Int) (h0 : 0 ≤ least) (ht : most < 9223372036854775808) : Reads V (m_code_reader_within least most) numE (fun n => least ≤ n ∧ n ≤ most) := by
  refine reads_within least most h0 ht xany (fun s v s' hs hw hg hb h1 h2 => ?_) (fun s v s' hs hw hg hb hv => ?_) (fun s v s' hs hw hg hb => ?_)
  · have e1 : (s'.code != 0) = false := bne_eq_false_iff_eq.2 hb
    have e2 : decide (v < least) = false := decide_eq_false (by omega)
    have e3 : decide (most < v) = false := decide_eq_false (by omega)
    unfold m_code_reader_within
    simp only [hw, Option.bind_some, e1, e2, e3, cond_false, w64_of (n := v) (by omega) (by omega)]
  · have e1 : (s'.code != 0) = false := bne_eq_false_iff_eq.2 hb
    have e2 : (bif decide (v < least) then true else decide (most < v)) = true := by
      rcases hv with h | h
      · rw [decide_eq_true h]; rfl
      · rw [decide_eq_true h]; cases decide (v < least) <;> rfl
    refine ⟨0, ⟨s'.rest, 4⟩, ?_, (by decide : (4 : Int) ≠ 0), hg⟩
    unfold m_code_reader_within
    simp only [hw, Option.bind_some, e1, e2, cond_true, cond_false]
  · have e1 : (s'.code != 0) = true := bne_iff_ne.2 hb
    refine ⟨0, s', ?_, rfl, hg⟩
    unfold m_code_reader_within
    simp only [hw, Option.bind_some, e1, cond_true]
theorem bind_pair {α β : Type} (m : Option (α × β)) : (m.bind fun x1 => some (x1.1, x1.2)) = m := by cases m <;> rfl
theorem xnumber : Reads V m_code_reader_number numE isNum := (xwithin 0 2147483647 (by decide) (by decide)).of_eq (fun s => bind_pair _)

/-- Rounds of this program's kind: a list, a counter, a reader. -/
theorem xmany {α : Type} [Inhabited α] {m : Treader → Option (α × Treader)} {E : α → List Int} {P : α → Prop} (hm : Reads V m E P) (least top : Int) (h0 : 0 ≤ least) (ht : top ≤ 1000) (L : (Int × Treader) → (List α × Int × List Int × Int) → Option (LR (List α × Int × List Int × Int) ((List α × List Int × Int) ⊕ (List Int × Int))))
    (hL : ∀ (x1 : Int × Treader) (l : List α) (i : Nat) (r : List Int) (c : Int), L x1 (l, (i : Int), r, c) = bif decide ((i : Int) < x1.1) then (m ⟨r, c⟩).bind fun x9 => (bif x9.2.code != 0 then some (.done (.inr (x9.2.rest, x9.2.code))) else chk (l.length + 1 ≤ room) (some (.next (l ++ [x9.1], w64 ((i : Int) + 1), x9.2.rest, x9.2.code)))) else some (.done (.inl (l, r, c))))
    (F : (List Int × Int) → Option (LR (List Int × Int) (List α × Treader))) (hF : ∀ r c, F (r, c) = some (.done ([], ⟨r, c⟩))) (n : Treader → Option (List α × Treader))
    (hn : ∀ s x3 y, m_code_reader_within least top s = some x3 → loopO (L x3) (([] : List α), (0 : Int), x3.2.rest, x3.2.code) = some y → n s = match y with | .inl (l, r, c) => some (l, ⟨r, c⟩) | .inr (r, c) => some ([], ⟨r, c⟩)) :
    Reads V n (manyE E) (fun l => (least ≤ (l.length : Int) ∧ (l.length : Int) ≤ top) ∧ ∀ a ∈ l, P a) := by
  have hw := xwithin least top h0 (by omega)
  refine (reads_manyQ (Q := fun n => least ≤ n ∧ n ≤ top) (fun n h => by have := h.1; omega) hw hm).sim (fun s hs a s' he hg => ?_)
  obtain ⟨k0, s1, e1, hg1⟩ := hw.total s hs
  simp only [e1, Option.bind_some] at he
  by_cases hb1 : V.bad s1 = 0
  · -- how many
    have hk : least ≤ k0 ∧ k0 ≤ top := by
      by_cases hb : V.bad s = 0
      · obtain ⟨n', s1', e1', _, hd⟩ := hw.any s hs hb
        rw [e1] at e1'
        obtain ⟨rfl, rfl⟩ := Prod.mk.inj (Option.some.inj e1')
        exact (hd hb1).1
      · obtain ⟨n', s1', e1', hb', _⟩ := hw.sticky s hs hb
        rw [e1] at e1'
        obtain ⟨rfl, rfl⟩ := Prod.mk.inj (Option.some.inj e1')
        exact absurd (hb' ▸ hb1) hb
    obtain ⟨k, rfl⟩ : ∃ k : Nat, k0 = k := ⟨k0.toNat, by omega⟩
    have := sim_rounds hm k (fun l i s => (loopO (L ((k : Int), s1)) (l, (i : Int), s.rest, s.code)).bind (fun y => match y with | .inl (l, r, c) => some (l, (⟨r, c⟩ : Treader)) | .inr (r, c) => some ([], ⟨r, c⟩)))
      (fun l s hs hb hl => by
        have hx : L ((k : Int), s1) (l, (k : Int), s.rest, s.code) = some (.done (.inl (l, s.rest, s.code))) := by rw [hL]; simp
        simp only [loopO_done hx, Option.bind_some])
      (fun l i s a s' hi hl hs hb he hg hb' => by
        have e0 : decide ((i : Int) < (k : Int)) = true := decide_eq_true (by omega)
        have e3 : (s'.code != 0) = false := by rw [bne_eq_false_iff_eq]; exact hb'
        have hx : L ((k : Int), s1) (l, (i : Int), s.rest, s.code) = some (.next (l ++ [a], ((i + 1 : Nat) : Int), s'.rest, s'.code)) := by
          rw [hL]
          simp only [e0, cond_true, show (⟨s.rest, s.code⟩ : Treader) = s from rfl, he, Option.bind_some, e3, cond_false]
          rw [chk_pos' (by simp only [room]; omega), w64_of (by omega) (by omega)]
          rfl
        simp only [loopO_next hx])
      (fun l i s a s' hi hl hs hb he hg hb' => by
        have e0 : decide ((i : Int) < (k : Int)) = true := decide_eq_true (by omega)
        have e3 : (s'.code != 0) = true := bne_iff_ne.2 hb'
        have hx : L ((k : Int), s1) (l, (i : Int), s.rest, s.code) = some (.done (.inr (s'.rest, s'.code))) := by
          rw [hL]
          simp only [e0, cond_true, show (⟨s.rest, s.code⟩ : Treader) = s from rfl, he, Option.bind_some, e3]
        exact ⟨[], s', by simp only [loopO_done hx, Option.bind_some], rfl, hg⟩)
      k 0 [] s1 (Nat.zero_add _) rfl hg1 hb1 a s' (by simpa using he) hg
    have hrun : ∀ z, ((loopO (L ((k : Int), s1)) ([], ((0 : Nat) : Int), s1.rest, s1.code)).bind (fun y => match y with | .inl (l, r, c) => some (l, (⟨r, c⟩ : Treader)) | .inr (r, c) => some ([], ⟨r, c⟩))) = some z → n s = some z := fun z hz => by
      rw [show ((0 : Nat) : Int) = 0 from rfl] at hz
      cases hy : loopO (L ((k : Int), s1)) ([], 0, s1.rest, s1.code) with
      | none => rw [hy] at hz; cases hz
      | some y => rw [hn s _ y e1 hy]; rw [hy, Option.bind_some] at hz; rw [← hz]
    refine ⟨fun hb => hrun _ (by simpa using this.1 hb), fun hb => ?_⟩
    obtain ⟨b, t, q1, q2, q3⟩ := this.2 hb
    exact ⟨b, t, hrun _ q1, q2, q3⟩
  · -- wrong already
    obtain ⟨z, t, e2, hb2, hg2⟩ := readN_sticky hm k0.toNat s1 hg1 hb1
    rw [e2] at he
    obtain ⟨rfl, rfl⟩ := Prod.mk.inj (Option.some.inj he)
    refine ⟨fun h => absurd (hb2 ▸ h) hb1, fun _ => ?_⟩
    by_cases h0n : (0 : Int) < k0
    · obtain ⟨a, t', e3, hb3, hg3⟩ := hm.sticky s1 hg1 hb1
      have e4 : (t'.code != 0) = true := bne_iff_ne.2 (show V.bad t' ≠ 0 by rw [hb3]; exact hb1)
      have hx : L (k0, s1) ([], ((0 : Nat) : Int), s1.rest, s1.code) = some (.done (.inr (t'.rest, t'.code))) := by
        rw [hL]
        simp only [show ((0 : Nat) : Int) = 0 from rfl, decide_eq_true h0n, cond_true, show (⟨s1.rest, s1.code⟩ : Treader) = s1 from rfl, e3, Option.bind_some, e4]
      rw [show ((0 : Nat) : Int) = 0 from rfl] at hx
      exact ⟨[], t', by rw [hn s _ _ e1 (loopO_done hx)], by rw [hb3, hb2], hg3⟩
    · have hx : L (k0, s1) ([], ((0 : Nat) : Int), s1.rest, s1.code) = some (.done (.inl ([], s1.rest, s1.code))) := by
        rw [hL]
        simp only [show ((0 : Nat) : Int) = 0 from rfl, decide_eq_false h0n, cond_false]
      rw [show ((0 : Nat) : Int) = 0 from rfl] at hx
      exact ⟨[], s1, by rw [hn s _ _ e1 (loopO_done hx)], hb2.symm, hg1⟩
theorem scope_next {S X : Type} {s : S} {F : S → Option (LR S X)} {x : X} (h : F s = some (.done x)) : scopeO (some (.next s)) F = some x := loopO_done h
theorem scope_done {S X : Type} {F : S → Option (LR S X)} {x : X} : scopeO (S := S) (some (.done x)) F = some x := rfl
theorem xints_read (least top : Int) (h0 : 0 ≤ least) (ht : top ≤ 1000) : Reads V (m_code_many_int least top) (manyE numE) (fun l => (least ≤ (l.length : Int) ∧ (l.length : Int) ≤ top) ∧ ∀ a ∈ l, isNum a) :=
  xmany xnumber least top h0 ht m_code_many_int_L1 (fun x1 l i r c => rfl) m_code_many_int_F2 (fun r c => rfl) _ (fun s x3 y h1 h2 => by
    unfold m_code_many_int
    rw [h1, Option.bind_some, h2, Option.bind_some]
    rcases y with ⟨l, r, c⟩ | ⟨r, c⟩
    · rfl
    · exact congrArg (fun z : Option (List Int × Treader) => z.bind fun x => some x) (scope_next (F := m_code_many_int_F2) (s := (r, c)) rfl))
theorem xphis_read (least top : Int) (h0 : 0 ≤ least) (ht : top ≤ 1000) {P : TPhi → Prop} (hm : Reads V m_code_reader_phi phiE P) : Reads V (m_code_many_api_Phi least top) (manyE phiE) (fun l => (least ≤ (l.length : Int) ∧ (l.length : Int) ≤ top) ∧ ∀ a ∈ l, P a) :=
  xmany hm least top h0 ht m_code_many_api_Phi_L1 (fun x1 l i r c => rfl) m_code_many_api_Phi_F2 (fun r c => rfl) _ (fun s x3 y h1 h2 => by
    unfold m_code_many_api_Phi
    rw [h1, Option.bind_some, h2, Option.bind_some]
    rcases y with ⟨l, r, c⟩ | ⟨r, c⟩
    · rfl
    · exact congrArg (fun z : Option (List TPhi × Treader) => z.bind fun x => some x) (scope_next (F := m_code_many_api_Phi_F2) (s := (r, c)) rfl))
theorem xops_read (least top : Int) (h0 : 0 ≤ least) (ht : top ≤ 1000) {P : TOp → Prop} (hm : Reads V m_code_reader_op opE P) : Reads V (m_code_many_api_Op least top) (manyE opE) (fun l => (least ≤ (l.length : Int) ∧ (l.length : Int) ≤ top) ∧ ∀ a ∈ l, P a) :=
  xmany hm least top h0 ht m_code_many_api_Op_L1 (fun x1 l i r c => rfl) m_code_many_api_Op_F2 (fun r c => rfl) _ (fun s x3 y h1 h2 => by
    unfold m_code_many_api_Op
    rw [h1, Option.bind_some, h2, Option.bind_some]
    rcases y with ⟨l, r, c⟩ | ⟨r, c⟩
    · rfl
    · exact congrArg (fun z : Option (List TOp × Treader) => z.bind fun x => some x) (scope_next (F := m_code_many_api_Op_F2) (s := (r, c)) rfl))
theorem xblocks_read (least top : Int) (h0 : 0 ≤ least) (ht : top ≤ 1000) {P : TBlock → Prop} (hm : Reads V m_code_reader_block blockE P) : Reads V (m_code_many_api_Block least top) (manyE blockE) (fun l => (least ≤ (l.length : Int) ∧ (l.length : Int) ≤ top) ∧ ∀ a ∈ l, P a) :=
  xmany hm least top h0 ht m_code_many_api_Block_L1 (fun x1 l i r c => rfl) m_code_many_api_Block_F2 (fun r c => rfl) _ (fun s x3 y h1 h2 => by
    unfold m_code_many_api_Block
    rw [h1, Option.bind_some, h2, Option.bind_some]
    rcases y with ⟨l, r, c⟩ | ⟨r, c⟩
    · rfl
    · exact congrArg (fun z : Option (List TBlock × Treader) => z.bind fun x => some x) (scope_next (F := m_code_many_api_Block_F2) (s := (r, c)) rfl))
theorem isList_iff (top : Nat) (ht : top ≤ 64) (l : List Int) : ((0 ≤ (l.length : Int) ∧ (l.length : Int) ≤ top) ∧ ∀ a ∈ l, isNum a) ↔ isList top l := by
  constructor
  · rintro ⟨⟨_, h1⟩, h2⟩
    exact ⟨listB_iff.2 ⟨h2, by omega⟩, by omega⟩
  · rintro ⟨h1, h2⟩
    exact ⟨⟨by omega, by omega⟩, (listB_iff.1 h1).1⟩
theorem xlist : Reads V m_code_reader_list rowE (isList 64) := ((xints_read 0 64 (by decide) (by decide)).iff (isList_iff 64 (by decide)) (fun _ => rfl)).of_eq (fun s => bind_pair _)
theorem xparams : Reads V (m_code_many_int 0 16) rowE (isList 16) := (xints_read 0 16 (by decide) (by decide)).iff (isList_iff 16 (by decide)) (fun _ => rfl)
theorem xphi : Reads V m_code_reader_phi phiE (fun p => phiB p = true) := (reads_phi xnumber xlist).of_eq (fun s => rfl)
theorem xop : Reads V m_code_reader_op opE (fun o => opB o = true ∧ wideP o.Imm) := (reads_op xnumber xlist xany).of_eq (fun s => rfl)
theorem xend : Reads V m_code_reader_end endE (fun e => endB e = true) := (reads_end xnumber xlist).of_eq (fun s => rfl)
theorem cut0 (n : Nat) (k : Int) (p : Prop) : ((0 ≤ (n : Int) ∧ (n : Int) ≤ k) ∧ p) ↔ ((n : Int) ≤ k ∧ p) := ⟨fun h => ⟨h.1.2, h.2⟩, fun h => ⟨⟨by omega, h.1⟩, h.2⟩⟩
theorem xblock : Reads V m_code_reader_block blockE OkB := (reads_block ((xphis_read 0 512 (by decide) (by decide) xphi).iff (fun l => cut0 _ _ _) (fun _ => rfl)) ((xops_read 0 512 (by decide) (by decide) xop).iff (fun l => cut0 _ _ _) (fun _ => rfl)) xend).of_eq (fun s => rfl)
theorem xfunction : Reads V m_code_reader_function funcE (fun f => OkF f ∧ 1 ≤ f.Blocks.length) := by
  refine ((xparams.pair (xnumber.pair (xblocks_read 1 64 (by decide) (by decide) xblock))).map (fun x => (⟨x.1, x.2.1, x.2.2⟩ : TFunc)) (fun f => (f.Params, f.Ret, f.Blocks)) (fun _ _ => rfl) ?_ ?_ (fun _ _ => rfl)).of_eq (fun s => ?_)
  · rintro f ⟨⟨h1, h2, h3, h4, h5⟩, h6⟩
    exact ⟨⟨h1, h2⟩, numB_iff.1 h3, ⟨by show (1 : Int) ≤ (f.Blocks.length : Int); omega, by show (f.Blocks.length : Int) ≤ 64; omega⟩, h5⟩
  · rintro ⟨a, b, c⟩ ⟨⟨h1, h2⟩, h3, ⟨h6, h4⟩, h5⟩
    exact ⟨⟨h1, h2, numB_iff.2 h3, by show c.length ≤ 64; simp only at h4; omega, h5⟩, by show 1 ≤ c.length; simp only at h6; omega⟩
  · unfold m_code_reader_function
    simp only [Option.bind_assoc, Option.bind_some]
/-- The program's Decode. -/
theorem xdecode : DecFacts m_code_Decode := by
  refine dec_facts xfunction (fun f h => h.1) (fun f h h1 => ⟨h, h1⟩) m_code_Decode (fun b hB hl => ⟨⟨b, 0⟩, ⟨hB, hl⟩, rfl, rfl, fun f s' he hg => ?_⟩)
  have hF : ∀ (r : List Int) (e : Int), (scopeO (S := List Int × Int) (X := TFunc × Int) (some (.next (r, e))) m_code_Decode_F1).bind (fun x6 => some x6) = some (noF, e) := fun r e => by
    rw [scope_next (F := m_code_Decode_F1) (s := (r, e)) (x := (noF, e)) rfl]
    rfl
  unfold m_code_Decode
  rw [he, Option.bind_some]
  refine ⟨fun hb => ?_, fun hb hp h0 => absurd hp.2 (by omega), fun hb hp h1 hn => ?_, fun hb hp h1 hn h5 => ⟨4, by decide, ?_⟩, fun hb hp h1 hn h5 => ?_⟩
  · have : (s'.code != 0) = true := bne_iff_ne.2 hb
    simp only [this, cond_true]
    exact hF _ _
  · have e0 : (s'.code != 0) = false := bne_eq_false_iff_eq.2 hb
    have e1 : decide ((0 : Int) < (s'.rest.length : Int)) = true := decide_eq_true (by have := List.length_pos_iff.2 hn; show (0 : Int) < _; exact_mod_cast this)
    simp only [e0, cond_false, e1, cond_true]
    exact hF _ _
  · have e0 : (s'.code != 0) = false := bne_eq_false_iff_eq.2 hb
    have e1 : decide ((0 : Int) < (s'.rest.length : Int)) = false := by rw [show s'.rest = [] from hn]; rfl
    have e2 := hp.1.size.2
    have e3 : decide ((512 : Int) < sizeW f) = true := decide_eq_true (by rw [e2]; omega)
    simp only [e0, cond_false, e1, xsize f (ok_in hp.1), Option.bind_some, e3, cond_true]
    exact hF _ _
  · have e0 : (s'.code != 0) = false := bne_eq_false_iff_eq.2 hb
    have e1 : decide ((0 : Int) < (s'.rest.length : Int)) = false := by rw [show s'.rest = [] from hn]; rfl
    have e2 := hp.1.size.2
    have e3 : decide ((512 : Int) < sizeW f) = false := decide_eq_false (by rw [e2]; omega)
    simp only [e0, cond_false, e1, xsize f (ok_in hp.1), Option.bind_some, e3]
    rfl
theorem xfacts : Facts :=
  ⟨xmay, xsize, xsame, xencode, xdecode.whole, xdecode.more, xdecode.cut, xdecode.any⟩
end Go.Proofs.Ytmlldiinidkecaa
