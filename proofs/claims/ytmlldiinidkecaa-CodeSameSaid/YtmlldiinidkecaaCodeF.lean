/-
  Functions as bytes, and what reads them.
-/
import Derived.Test.YtmlldiinidkecaaNumI
import Derived.Test.YtmlldiinidkecaaCodeR
import Derived.Test.YtmlldiinidkecaaReads
namespace Go.Proofs.Ytmlldiinidkecaa
open Go Go.RowKit
set_option linter.unusedVariables false
set_option linter.unusedSimpArgs false

def numE (n : Int) : List Int := putN n.toNat
def phiE (p : TPhi) : List Int := numE p.Bits ++ (numE p.Dst ++ (rowE p.From ++ rowE p.Args))
def opE (o : TOp) : List Int := numE o.Kind ++ (numE o.Bits ++ (numE o.Lanes ++ (numE o.Dst ++ (rowE o.Args ++ numE o.Imm))))
def endE (e : TEnd) : List Int := numE e.Kind ++ (numE e.Arg ++ rowE e.To)
def manyE {α : Type} (E : α → List Int) (l : List α) : List Int := numE l.length ++ (l.map E).flatten
def blockE (b : TBlock) : List Int := manyE phiE b.Phis ++ (manyE opE b.Ops ++ endE b.End)
def funcE (f : TFunc) : List Int := rowE f.Params ++ (numE f.Ret ++ manyE blockE f.Blocks)

/-! ### Numbers and lists, as the program's own readers read them -/
theorem numB_iff {n : Int} : numB n = true ↔ 0 ≤ n ∧ n ≤ 2147483647 := by simp [numB]
theorem listB_iff {l : List Int} : listB l = true ↔ good31 l ∧ l.length ≤ 64 := by
  simp [listB, good31, numB_iff]
def wideP (n : Int) : Prop := 0 ≤ n ∧ n < 18446744073709551616
theorem numE_bytes (n : Int) : Bytes (numE n) := putN_bytes _
theorem Bytes.flat' {α : Type} {E : α → List Int} (h : ∀ a, Bytes (E a)) (l : List α) : Bytes (l.map E).flatten := fun x hx => by
  obtain ⟨y, hy, hxy⟩ := List.mem_flatten.1 hx
  obtain ⟨a, _, rfl⟩ := List.mem_map.1 hy
  exact h a x hxy
theorem phiE_bytes (p : TPhi) : Bytes (phiE p) := (numE_bytes _).app ((numE_bytes _).app ((rowE_bytes _).app (rowE_bytes _)))
theorem opE_bytes (o : TOp) : Bytes (opE o) := (numE_bytes _).app ((numE_bytes _).app ((numE_bytes _).app ((numE_bytes _).app ((rowE_bytes _).app (numE_bytes _)))))
theorem endE_bytes (e : TEnd) : Bytes (endE e) := (numE_bytes _).app ((numE_bytes _).app (rowE_bytes _))
theorem manyE_bytes {α : Type} {E : α → List Int} (h : ∀ a, Bytes (E a)) (l : List α) : Bytes (manyE E l) := (numE_bytes _).app (Bytes.flat' h l)
theorem blockE_bytes (b : TBlock) : Bytes (blockE b) := (manyE_bytes phiE_bytes _).app ((manyE_bytes opE_bytes _).app (endE_bytes _))
theorem funcE_bytes (f : TFunc) : Bytes (funcE f) := (rowE_bytes _).app ((numE_bytes _).app (manyE_bytes blockE_bytes _))

/-- What reads by Get. -/
theorem reads_wide {S : Type} {V : View S} {m : S → Option (Int × S)} (hV : ∀ s, V.good s → Bytes (V.left s) ∧ (V.left s).length < 2 ^ 61)
    (hbad : ∀ s, V.good s → V.bad s ≠ 0 → ∃ a s', m s = some (a, s') ∧ V.bad s' = V.bad s ∧ V.good s')
    (hok : ∀ s, V.good s → V.bad s = 0 → ∀ (v e : Int) (n : Nat), m_num_Get (V.left s) = some (v, (n : Int), e) → n ≤ (V.left s).length → ∃ s', m s = some (v, s') ∧ V.left s' = (V.left s).drop n ∧ V.bad s' = e ∧ V.good s') : Reads V m numE wideP where
  sticky := hbad
  any s hs hb := by
    obtain ⟨hB, hl⟩ := hV s hs
    have hg := get_eq (V.left s) hB (by omega)
    rcases getS_inv (V.left s) hB with ⟨w, hw, hd, he⟩ | he | he
    · rw [he] at hg
      have hle : (putN w).length ≤ (V.left s).length := by
        conv => rhs; rw [hd]
        simp
      obtain ⟨s', q1, q2, q3, q4⟩ := hok s hs hb _ _ _ hg hle
      exact ⟨_, s', q1, q4, fun _ => ⟨⟨by omega, by rw [two64] at hw; omega⟩, by rw [q2]; simpa [numE] using hd⟩⟩
    · rw [he] at hg
      obtain ⟨s', q1, q2, q3, q4⟩ := hok s hs hb 0 2 0 hg (Nat.zero_le _)
      exact ⟨_, s', q1, q4, fun h => absurd (q3.symm.trans h) (by decide)⟩
    · rw [he] at hg
      obtain ⟨s', q1, q2, q3, q4⟩ := hok s hs hb 0 3 0 hg (Nat.zero_le _)
      exact ⟨_, s', q1, q4, fun h => absurd (q3.symm.trans h) (by decide)⟩
  whole s a more hs hb hp hl := by
    obtain ⟨hB, hlen⟩ := hV s hs
    have hg := get_eq (V.left s) hB (by omega)
    rw [hl, numE, getS_put (by rw [two64]; have := hp.2; omega), ← numE, ← hl] at hg
    obtain ⟨s', q1, q2, q3, q4⟩ := hok s hs hb _ _ _ hg (by rw [hl]; simp)
    refine ⟨s', by rw [q1, Int.toNat_of_nonneg hp.1], q3, by rw [q2, hl]; simp, q4⟩
  cut s a c hs hb hp hc hl := by
    obtain ⟨hB, hlen⟩ := hV s hs
    have hg := get_eq (V.left s) hB (by omega)
    rw [hl, numE, getS_short (by rw [two64]; have := hp.2; omega) hc, ← numE, ← hl] at hg
    obtain ⟨s', q1, q2, q3, q4⟩ := hok s hs hb 0 2 0 hg (Nat.zero_le _)
    exact ⟨_, s', q1, q3, q4⟩

/-- What reads a number, at most so much. -/
theorem reads_most {S : Type} {V : View S} {w m : S → Option (Int × S)} (top : Int) (ht : top < 9223372036854775808) (h : Reads V w numE wideP)
    (hok : ∀ s v s', V.good s → w s = some (v, s') → V.good s' → V.bad s' = 0 → 0 ≤ v → v ≤ top → m s = some (v, s'))
    (hbig : ∀ s v s', V.good s → w s = some (v, s') → V.good s' → V.bad s' = 0 → top < v → ∃ a t, m s = some (a, t) ∧ V.bad t ≠ 0 ∧ V.good t)
    (hbad : ∀ s v s', V.good s → w s = some (v, s') → V.good s' → V.bad s' ≠ 0 → ∃ a t, m s = some (a, t) ∧ V.bad t = V.bad s' ∧ V.good t) : Reads V m numE (fun n => 0 ≤ n ∧ n ≤ top) where
  sticky s hs hb := by
    obtain ⟨a, s', e, hb', hg⟩ := h.sticky s hs hb
    obtain ⟨b, t, q1, q2, q3⟩ := hbad s a s' hs e hg (by rw [hb']; exact hb)
    exact ⟨b, t, q1, by rw [q2, hb'], q3⟩
  any s hs hb := by
    obtain ⟨a, s', e, hg, hd⟩ := h.any s hs hb
    by_cases hb' : V.bad s' = 0
    · obtain ⟨p1, p2⟩ := hd hb'
      by_cases hv : a ≤ top
      · exact ⟨a, s', hok s a s' hs e hg hb' p1.1 hv, hg, fun _ => ⟨⟨p1.1, hv⟩, p2⟩⟩
      · obtain ⟨b, t, q1, q2, q3⟩ := hbig s a s' hs e hg hb' (by omega)
        exact ⟨b, t, q1, q3, fun h => absurd h q2⟩
    · obtain ⟨b, t, q1, q2, q3⟩ := hbad s a s' hs e hg hb'
      exact ⟨b, t, q1, q3, fun h => absurd (q2 ▸ h) hb'⟩
  whole s a more hs hb hp hl := by
    obtain ⟨s', e, hb', hl', hg⟩ := h.whole s a more hs hb ⟨hp.1, by have := hp.2; omega⟩ hl
    exact ⟨s', hok s a s' hs e hg hb' hp.1 hp.2, hb', hl', hg⟩
  cut s a c hs hb hp hc hl := by
    obtain ⟨a', s', e, hb', hg⟩ := h.cut s a c hs hb ⟨hp.1, by have := hp.2; omega⟩ hc hl
    obtain ⟨b, t, q1, q2, q3⟩ := hbad s a' s' hs e hg (by rw [hb']; decide)
    exact ⟨b, t, q1, by rw [q2, hb'], q3⟩

/-! ### Phis, operations, ends, blocks, functions -/
section
variable {S : Type} {V : View S} {num wide : S → Option (Int × S)} {list list' : S → Option (List Int × S)}
abbrev isNum (n : Int) : Prop := 0 ≤ n ∧ n ≤ 2147483647
abbrev isList (top : Nat) (l : List Int) : Prop := listB l = true ∧ l.length ≤ top

theorem reads_phi (hn : Reads V num numE isNum) (hl : Reads V list rowE (isList 64)) :
    Reads V (fun s => (num s).bind fun x1 => (num x1.2).bind fun x2 => (list x2.2).bind fun x3 => (list x3.2).bind fun x4 => some ((⟨x1.1, x2.1, x3.1, x4.1⟩ : TPhi), x4.2)) phiE (fun p => phiB p = true) := by
  refine ((hn.pair (hn.pair (hl.pair hl))).map (fun x => (⟨x.1, x.2.1, x.2.2.1, x.2.2.2⟩ : TPhi)) (fun p => (p.Bits, p.Dst, p.From, p.Args)) (fun _ _ => rfl) ?_ ?_ (fun _ _ => rfl)).of_eq (fun s => ?_)
  · intro p hp
    simp only [phiB, Bool.and_eq_true] at hp
    exact ⟨numB_iff.1 hp.1.1.1, numB_iff.1 hp.1.1.2, ⟨hp.1.2, (listB_iff.1 hp.1.2).2⟩, hp.2, (listB_iff.1 hp.2).2⟩
  · rintro ⟨a, b, c, d⟩ ⟨h1, h2, h3, h4⟩
    simp only [phiB, Bool.and_eq_true]
    exact ⟨⟨⟨numB_iff.2 h1, numB_iff.2 h2⟩, h3.1⟩, h4.1⟩
  · simp only [Option.bind_assoc, Option.bind_some]
theorem reads_op (hn : Reads V num numE isNum) (hl : Reads V list rowE (isList 64)) (hw : Reads V wide numE wideP) :
    Reads V (fun s => (num s).bind fun x1 => (num x1.2).bind fun x2 => (num x2.2).bind fun x3 => (num x3.2).bind fun x4 => (list x4.2).bind fun x5 => (wide x5.2).bind fun x6 => some ((⟨x1.1, x2.1, x3.1, x4.1, x5.1, x6.1⟩ : TOp), x6.2)) opE (fun o => opB o = true ∧ wideP o.Imm) := by
  refine ((hn.pair (hn.pair (hn.pair (hn.pair (hl.pair hw))))).map (fun x => (⟨x.1, x.2.1, x.2.2.1, x.2.2.2.1, x.2.2.2.2.1, x.2.2.2.2.2⟩ : TOp)) (fun o => (o.Kind, o.Bits, o.Lanes, o.Dst, o.Args, o.Imm)) (fun _ _ => rfl) ?_ ?_ (fun _ _ => rfl)).of_eq (fun s => ?_)
  · rintro o ⟨hp, hi⟩
    simp only [opB, Bool.and_eq_true] at hp
    exact ⟨numB_iff.1 hp.1.1.1.1, numB_iff.1 hp.1.1.1.2, numB_iff.1 hp.1.1.2, numB_iff.1 hp.1.2, ⟨hp.2, (listB_iff.1 hp.2).2⟩, hi⟩
  · rintro ⟨a, b, c, d, e, i⟩ ⟨h1, h2, h3, h4, h5, h6⟩
    simp only [opB, Bool.and_eq_true]
    exact ⟨⟨⟨⟨⟨numB_iff.2 h1, numB_iff.2 h2⟩, numB_iff.2 h3⟩, numB_iff.2 h4⟩, h5.1⟩, h6⟩
  · simp only [Option.bind_assoc, Option.bind_some]
theorem reads_end (hn : Reads V num numE isNum) (hl : Reads V list rowE (isList 64)) :
    Reads V (fun s => (num s).bind fun x1 => (num x1.2).bind fun x2 => (list x2.2).bind fun x3 => some ((⟨x1.1, x2.1, x3.1⟩ : TEnd), x3.2)) endE (fun e => endB e = true) := by
  refine ((hn.pair (hn.pair hl)).map (fun x => (⟨x.1, x.2.1, x.2.2⟩ : TEnd)) (fun e => (e.Kind, e.Arg, e.To)) (fun _ _ => rfl) ?_ ?_ (fun _ _ => rfl)).of_eq (fun s => ?_)
  · intro p hp
    simp only [endB, Bool.and_eq_true] at hp
    exact ⟨numB_iff.1 hp.1.1, numB_iff.1 hp.1.2, hp.2, (listB_iff.1 hp.2).2⟩
  · rintro ⟨a, b, c⟩ ⟨h1, h2, h3⟩
    simp only [endB, Bool.and_eq_true]
    exact ⟨⟨numB_iff.2 h1, numB_iff.2 h2⟩, h3.1⟩
  · simp only [Option.bind_assoc, Option.bind_some]
/-- How many there are, and each. -/
theorem reads_many {α : Type} [Inhabited α] {cnt : S → Option (Int × S)} {m : S → Option (α × S)} {E : α → List Int} {P : α → Prop} (top : Int) (hc : Reads V cnt numE (fun n => 0 ≤ n ∧ n ≤ top)) (hm : Reads V m E P) :
    Reads V (fun s => (cnt s).bind fun x => readN m x.1.toNat x.2) (manyE E) (fun l => (l.length : Int) ≤ top ∧ ∀ a ∈ l, P a) := by
  have h := Reads.dep (β := List α) (Q := fun l => ∀ a ∈ l, P a) (F := fun l => (l.map E).flatten) (n := fun x s => readN m x.toNat s) (fun l => (l.length : Int)) hc (fun a ha => ?_) (fun a s hs hb => readN_sticky hm _ s hs hb)
  · refine ⟨h.sticky, fun s hs hb => ?_, fun s a more hs hb hp hl => ?_, fun s a c hs hb hp hc hl => ?_⟩
    · obtain ⟨a, s', e, hg, hd⟩ := h.any s hs hb
      exact ⟨a, s', e, hg, fun h0 => ⟨⟨(hd h0).1.1.2, (hd h0).1.2⟩, (hd h0).2⟩⟩
    · exact h.whole s a more hs hb ⟨⟨by omega, hp.1⟩, hp.2⟩ hl
    · exact h.cut s a c hs hb ⟨⟨by omega, hp.1⟩, hp.2⟩ hc hl
  · have h := hm.many a.toNat
    refine ⟨h.sticky, fun s hs hb => ?_, fun s l more hs hb hp hl => ?_, fun s l c hs hb hp hc hl => ?_⟩
    · obtain ⟨l, s', e, hg, hd⟩ := h.any s hs hb
      exact ⟨l, s', e, hg, fun h0 => ⟨⟨(hd h0).1.2, by have := (hd h0).1.1; have := ha.1; omega⟩, (hd h0).2⟩⟩
    · exact h.whole s l more hs hb ⟨by have := hp.2; omega, hp.1⟩ hl
    · exact h.cut s l c hs hb ⟨by have := hp.2; omega, hp.1⟩ hc hl
/-- Such a block, such a function, as may be read. -/
structure OkB (b : TBlock) : Prop where
  may : blockB b = true
  phis : b.Phis.length ≤ 512
  ops : b.Ops.length ≤ 512
  imm : ∀ o ∈ b.Ops, wideP o.Imm
structure OkF (f : TFunc) : Prop where
  params : listB f.Params = true
  few : f.Params.length ≤ 16
  ret : numB f.Ret = true
  blocks : f.Blocks.length ≤ 64
  block : ∀ b ∈ f.Blocks, OkB b
theorem blockB_iff {b : TBlock} : blockB b = true ↔ (∀ p ∈ b.Phis, phiB p = true) ∧ (∀ o ∈ b.Ops, opB o = true) ∧ endB b.End = true := by
  simp [blockB, and_assoc]
theorem reads_block {phis : S → Option (List TPhi × S)} {ops : S → Option (List TOp × S)} {en : S → Option (TEnd × S)} (hp : Reads V phis (manyE phiE) (fun l => (l.length : Int) ≤ 512 ∧ ∀ p ∈ l, phiB p = true))
    (ho : Reads V ops (manyE opE) (fun l => (l.length : Int) ≤ 512 ∧ ∀ o ∈ l, opB o = true ∧ wideP o.Imm)) (he : Reads V en endE (fun e => endB e = true)) :
    Reads V (fun s => (phis s).bind fun x1 => (ops x1.2).bind fun x2 => (en x2.2).bind fun x3 => some ((⟨x1.1, x2.1, x3.1⟩ : TBlock), x3.2)) blockE OkB := by
  refine ((hp.pair (ho.pair he)).map (fun x => (⟨x.1, x.2.1, x.2.2⟩ : TBlock)) (fun b => (b.Phis, b.Ops, b.End)) (fun _ _ => rfl) ?_ ?_ (fun _ _ => rfl)).of_eq (fun s => ?_)
  · rintro b ⟨h1, h2, h3, h4⟩
    obtain ⟨q1, q2, q3⟩ := blockB_iff.1 h1
    exact ⟨⟨by show (b.Phis.length : Int) ≤ 512; omega, q1⟩, ⟨by show (b.Ops.length : Int) ≤ 512; omega, fun o ho => ⟨q2 o ho, h4 o ho⟩⟩, q3⟩
  · rintro ⟨a, b, c⟩ ⟨⟨h1, h2⟩, ⟨h3, h4⟩, h5⟩
    exact ⟨blockB_iff.2 ⟨h2, fun o ho => (h4 o ho).1, h5⟩, by simpa using (show a.length ≤ 512 by simp only at h1; omega), by simpa using (show b.length ≤ 512 by simp only at h3; omega), fun o ho => (h4 o ho).2⟩
  · simp only [Option.bind_assoc, Option.bind_some]
theorem reads_func {blocks : S → Option (List TBlock × S)} (hl : Reads V list' rowE (isList 16)) (hn : Reads V num numE isNum) (hb : Reads V blocks (manyE blockE) (fun l => (l.length : Int) ≤ 64 ∧ ∀ b ∈ l, OkB b)) :
    Reads V (fun s => (list' s).bind fun x1 => (num x1.2).bind fun x2 => (blocks x2.2).bind fun x3 => some ((⟨x1.1, x2.1, x3.1⟩ : TFunc), x3.2)) funcE OkF := by
  refine ((hl.pair (hn.pair hb)).map (fun x => (⟨x.1, x.2.1, x.2.2⟩ : TFunc)) (fun f => (f.Params, f.Ret, f.Blocks)) (fun _ _ => rfl) ?_ ?_ (fun _ _ => rfl)).of_eq (fun s => ?_)
  · rintro f ⟨h1, h2, h3, h4, h5⟩
    exact ⟨⟨h1, h2⟩, numB_iff.1 h3, by show (f.Blocks.length : Int) ≤ 64; omega, h5⟩
  · rintro ⟨a, b, c⟩ ⟨⟨h1, h2⟩, h3, h4, h5⟩
    exact ⟨h1, h2, numB_iff.2 h3, by simpa using (show c.length ≤ 64 by simp only at h4; omega), h5⟩
  · simp only [Option.bind_assoc, Option.bind_some]
end

/-! ### How many, how long -/
theorem sum_le {α : Type} (l : List α) (g : α → Nat) (B : Nat) (h : ∀ a ∈ l, g a ≤ B) : (l.map g).sum ≤ l.length * B := by
  induction l with
  | nil => simp
  | cons a l ih =>
    have h1 := h a (by simp)
    have h2 := ih (fun b hb => h b (by simp [hb]))
    rw [List.map_cons, List.sum_cons, List.length_cons, Nat.add_mul]
    omega
theorem sum_mono {α : Type} (l : List α) (g k : α → Nat) (h : ∀ a ∈ l, g a ≤ k a) : (l.map g).sum ≤ (l.map k).sum := by
  induction l with
  | nil => simp
  | cons a l ih =>
    have h1 := h a (by simp)
    have h2 := ih (fun b hb => h b (by simp [hb]))
    rw [List.map_cons, List.sum_cons, List.map_cons, List.sum_cons]
    omega
theorem len_le_sum {α : Type} (l : List α) (g : α → Nat) (h : ∀ a ∈ l, 1 ≤ g a) : l.length ≤ (l.map g).sum := by
  induction l with
  | nil => simp
  | cons a l ih =>
    have h1 := h a (by simp)
    have h2 := ih (fun b hb => h b (by simp [hb]))
    rw [List.map_cons, List.sum_cons, List.length_cons]
    omega
theorem mem_le_sum {α : Type} {l : List α} {a : α} (g : α → Nat) (h : a ∈ l) : g a ≤ (l.map g).sum := by
  induction l with
  | nil => cases h
  | cons b l ih =>
    rw [List.map_cons, List.sum_cons]
    rcases List.mem_cons.1 h with rfl | h
    · omega
    · have := ih h; omega
theorem OkF.size {f : TFunc} (h : OkF f) : sizeN f ≤ 65600 ∧ sizeW f = sizeN f := by
  have : sizeN f ≤ f.Blocks.length * 1025 := sum_le _ _ _ fun b hb => by
    have h1 := (h.block b hb).phis
    have h2 := (h.block b hb).ops
    simp only [sizeB]
    omega
  have h2 := h.blocks
  have h3 : sizeN f ≤ 65600 := by omega
  exact ⟨h3, w64_nat (by omega)⟩
/-- May be told, and no more than is gone through: such as may be read, and few. -/
theorem may_parts {f : TFunc} (h : mayF f = true) : 1 ≤ f.Blocks.length ∧ f.Blocks.length ≤ 64 ∧ f.Params.length ≤ 16 ∧ listB f.Params = true ∧ numB f.Ret = true ∧ sizeW f ≤ 512 ∧ ∀ b ∈ f.Blocks, blockB b = true := by
  simp only [mayF, Bool.and_eq_true, decide_eq_true_eq, List.all_eq_true] at h
  exact ⟨h.1.1.1.1.1.1, h.1.1.1.1.1.2, h.1.1.1.1.2, h.1.1.1.2, h.1.1.2, h.1.2, h.2⟩
theorem may_lists {f : TFunc} (h : mayF f = true) : f.Params.length ≤ 64 ∧ ∀ b ∈ f.Blocks, b.End.To.length ≤ 64 ∧ (∀ p ∈ b.Phis, p.From.length ≤ 64 ∧ p.Args.length ≤ 64) ∧ ∀ o ∈ b.Ops, o.Args.length ≤ 64 := by
  obtain ⟨_, _, h3, _, _, _, h7⟩ := may_parts h
  refine ⟨by omega, fun b hb => ?_⟩
  obtain ⟨q1, q2, q3⟩ := blockB_iff.1 (h7 b hb)
  simp only [endB, Bool.and_eq_true] at q3
  refine ⟨(listB_iff.1 q3.2).2, fun p hp => ?_, fun o ho => ?_⟩
  · have := q1 p hp
    simp only [phiB, Bool.and_eq_true] at this
    exact ⟨(listB_iff.1 this.1.2).2, (listB_iff.1 this.2).2⟩
  · have := q2 o ho
    simp only [opB, Bool.and_eq_true] at this
    exact (listB_iff.1 this.2).2
theorem may_ok {f : TFunc} (hf : InF f) (h : mayF f = true) (hs : entF f ≤ 20000) : OkF f ∧ sizeN f ≤ 512 := by
  obtain ⟨h1, h2, h3, h4, h5, h6, h7⟩ := may_parts h
  have hle : sizeN f ≤ entF f := by
    have : sizeN f ≤ (f.Blocks.map entB).sum := sum_mono _ _ _ fun b hb => by
      have q1 : b.Phis.length ≤ (b.Phis.map entP).sum := len_le_sum _ _ fun p hp => by simp only [entP]; omega
      have q2 : b.Ops.length ≤ (b.Ops.map entO).sum := len_le_sum _ _ fun p hp => by simp only [entO]; omega
      simp only [sizeB, entB]
      omega
    simp only [entF]
    omega
  have hw : sizeW f = sizeN f := w64_nat (by omega)
  have h512 : sizeN f ≤ 512 := by omega
  refine ⟨⟨h4, h3, h5, h2, fun b hb => ?_⟩, h512⟩
  have hb512 : sizeB b ≤ sizeN f := mem_le_sum sizeB hb
  simp only [sizeB] at hb512
  exact ⟨h7 b hb, by omega, by omega, fun o ho => (hf.op b hb o ho).2⟩
theorem ok_may {f : TFunc} (h : OkF f) (h1 : 1 ≤ f.Blocks.length) (hs : sizeN f ≤ 512) : mayF f = true := by
  have hw := h.size.2
  simp only [mayF, Bool.and_eq_true, decide_eq_true_eq, List.all_eq_true]
  exact ⟨⟨⟨⟨⟨⟨h1, h.blocks⟩, h.few⟩, h.params⟩, h.ret⟩, by omega⟩, fun b hb => (h.block b hb).may⟩
theorem numE_len {n : Int} (h : wideP n) : (numE n).length ≤ 10 := putN_len10 (by rw [two64]; have := h.2; have := h.1; omega)
theorem numB_wide {n : Int} (h : numB n = true) : wideP n := by have := numB_iff.1 h; exact ⟨this.1, by omega⟩
theorem rowE_len {l : List Int} (h : listB l = true) : (rowE l).length ≤ 650 := by
  obtain ⟨h1, h2⟩ := listB_iff.1 h
  have q1 : (putN l.length).length ≤ 10 := putN_len10 (by rw [two64]; omega)
  have q2 : (flat l).length ≤ l.length * 10 := flat_bound l (fun x => putN x.toNat) 10 fun x hx => by
    have := h1 x hx
    exact putN_len10 (by rw [two64]; omega)
  rw [rowE, List.length_append]
  omega
theorem phiE_len {p : TPhi} (h : phiB p = true) : (phiE p).length ≤ 1320 := by
  simp only [phiB, Bool.and_eq_true] at h
  have q1 := numE_len (numB_wide h.1.1.1)
  have q2 := numE_len (numB_wide h.1.1.2)
  have q3 := rowE_len h.1.2
  have q4 := rowE_len h.2
  simp only [phiE, List.length_append]
  omega
theorem opE_len {o : TOp} (h : opB o = true) (hi : wideP o.Imm) : (opE o).length ≤ 700 := by
  simp only [opB, Bool.and_eq_true] at h
  have q1 := numE_len (numB_wide h.1.1.1.1)
  have q2 := numE_len (numB_wide h.1.1.1.2)
  have q3 := numE_len (numB_wide h.1.1.2)
  have q4 := numE_len (numB_wide h.1.2)
  have q5 := rowE_len h.2
  have q6 := numE_len hi
  simp only [opE, List.length_append]
  omega
theorem endE_len {e : TEnd} (h : endB e = true) : (endE e).length ≤ 670 := by
  simp only [endB, Bool.and_eq_true] at h
  have q1 := numE_len (numB_wide h.1.1)
  have q2 := numE_len (numB_wide h.1.2)
  have q3 := rowE_len h.2
  simp only [endE, List.length_append]
  omega
theorem manyE_len {α : Type} {E : α → List Int} {l : List α} (n B : Nat) (hl : l.length ≤ n) (hn : n ≤ 1000) (h : ∀ a ∈ l, (E a).length ≤ B) : (manyE E l).length ≤ 10 + n * B := by
  have q1 : (numE (l.length : Int)).length ≤ 10 := numE_len ⟨by omega, by omega⟩
  have q2 := flat_bound l E B h
  have q3 : l.length * B ≤ n * B := Nat.mul_le_mul_right _ hl
  simp only [manyE, List.length_append]
  omega
theorem blockE_len {b : TBlock} (h : OkB b) : (blockE b).length ≤ 1040000 := by
  obtain ⟨h1, h2, h3⟩ := blockB_iff.1 h.may
  have q1 := manyE_len (E := phiE) 512 1320 h.phis (by omega) fun p hp => phiE_len (h1 p hp)
  have q2 := manyE_len (E := opE) 512 700 h.ops (by omega) fun o ho => opE_len (h2 o ho) (h.imm o ho)
  have q3 := endE_len h3
  simp only [blockE, List.length_append]
  omega
theorem funcE_len {f : TFunc} (h : OkF f) : (funcE f).length ≤ 66600000 := by
  have q1 := rowE_len h.params
  have q2 := numE_len (numB_wide h.ret)
  have q3 := manyE_len (E := blockE) 64 1040000 h.blocks (by omega) fun b hb => blockE_len (h.block b hb)
  simp only [funcE, List.length_append]
  omega
end Go.Proofs.Ytmlldiinidkecaa
