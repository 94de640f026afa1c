/-
  The machine, the program's functions and the laws' arithmetic: part 6 of 6.
-/
import Derived.Test.YtjdddniaokcgnaaPk5
import Derived.OpenShut
import Derived.ShutString
set_option linter.unusedVariables false
set_option linter.unusedSimpArgs false
namespace Go.Proofs.Ytjdddniaokcgnaa
noncomputable section
open Go Go.RowKit
set_option linter.unusedVariables false
set_option linter.unusedSimpArgs false
def upD (t : List Int) : Nat → Int → Option (List Int)
  | 0, _ => none
  | k + 1, a => if 0 ≤ a ∧ a < (t.length : Int) then (if t.getD a.toNat 0 = -1 then some [a] else (upD t k (t.getD a.toNat 0)).map fun l => a :: l) else none
def E0 (t : List Int) (a : Int) : List Int := (upD t t.length a).getD []
theorem upD_len (t : List Int) : ∀ k a q, upD t k a = some q → q.length ≤ k ∧ 1 ≤ q.length := by
  intro k
  induction k with
  | zero => intro a q h; cases h
  | succ k ih =>
    intro a q h; unfold upD at h
    split at h
    · split at h
      · cases h; simp
      · cases hu : upD t k (t.getD a.toNat 0) with
        | none => rw [hu] at h; cases h
        | some q' => rw [hu] at h; cases h; have := ih _ _ hu; simp; omega
    · cases h
theorem pathD_nil {t : List Int} {a : Int} : E0 t a = [] ↔ upD t t.length a = none := by
  unfold E0
  cases h : upD t t.length a with
  | none => simp
  | some q => have := (upD_len t _ _ _ h).2; simp; intro e; subst e; simp at this
def N4 (t : List Int) (k : Nat) : Nat := ((List.range k).filter fun a => decide (t.getD a 0 = -1)).length
def okR (t : List Int) (a : Nat) : Bool := decide (t.getD a 0 = -2) || !decide (E0 t (a : Int) = [])
def Fl (t : List Int) : Bool := (List.range t.length).all (okR t) && decide (N4 t t.length = 1)
theorem Ri (t : List Int) (k : Nat) : N4 t (k + 1) = N4 t k + if t.getD k 0 = -1 then 1 else 0 := by
  unfold N4; rw [List.range_succ, List.filter_append, List.length_append]
  by_cases h : t.getD k 0 = -1
  · rw [if_pos h]
    have : List.filter (fun a => decide (t.getD a 0 = -1)) [k] = [k] := by rw [List.filter_cons, if_pos (decide_eq_true h)]; rfl
    rw [this]; rfl
  · rw [if_neg h]
    have : List.filter (fun a => decide (t.getD a 0 = -1)) [k] = [] := by rw [List.filter_cons, if_neg (by simpa using h)]; rfl
    rw [this]; rfl
def Jv (t : List Int) (a b : Int) : Int := if Fl t = true then ((E0 t a).find? fun x => (E0 t b).contains x).getD (-2) else -2
def Gz (t : List Int) (a b : Int) : Bool := Jv t a b == a && Jv t a b != -2
end
end Go.Proofs.Ytjdddniaokcgnaa

namespace Go.Proofs.Ytjdddniaokcgnaa
noncomputable section
open Go Go.RowKit
set_option linter.unusedVariables false
set_option linter.unusedSimpArgs false
section
variable {S : Nat → List Nat} {r n : Nat} {P : List Nat} {t : List Int}
theorem DomTree.up (h : DomTree S r n P t) : ∀ k x, x < n → A2 t x ≠ -2 → pos (r :: P) x < k → ∃ q, upD t k (x : Int) = some q ∧ (∀ w : Int, w ∈ q ↔ ∃ z : Nat, w = (z : Int) ∧ UpTo (A2 t) x z) ∧
    ∀ p : Int → Bool, (q.find? p = none ∧ ∀ z : Nat, UpTo (A2 t) x z → p (z : Int) = false) ∨ ∃ f : Nat, q.find? p = some (f : Int) ∧ UpTo (A2 t) x f ∧ p (f : Int) = true ∧ ∀ z : Nat, UpTo (A2 t) x z → p (z : Int) = true → UpTo (A2 t) f z := by
  intro k
  induction k with
  | zero => intro x _ _ hk; exact absurd hk (Nat.not_lt_zero _)
  | succ k ih =>
    intro x hx hp hk
    have hxt : (0 : Int) ≤ (x : Int) ∧ (x : Int) < (t.length : Int) := by rw [h.len]; omega
    unfold upD; rw [if_pos hxt, Ao]; have hpx : t.getD x 0 = A2 t x := rfl; rw [hpx]; rcases h.inv.kind x hx with h1 | rfl | ⟨z, hz⟩
    · exact absurd h1 hp
    · rw [if_pos h.inv.top]; refine ⟨_, rfl, fun w => ?_, fun p => ?_⟩
      · rw [List.mem_singleton]
        constructor
        · rintro rfl; exact ⟨x, rfl, .refl _⟩
        · rintro ⟨z, rfl, hz⟩; rw [h.inv.root_anc.1 hz]
      · cases hpp : p (x : Int) with
        | false => exact .inl ⟨by simp [List.find?, hpp], fun z hz => by rw [h.inv.root_anc.1 hz]; exact hpp⟩
        | true => exact .inr ⟨x, by simp [List.find?, hpp], .refl _, hpp, fun z hz _ => hz⟩
    · obtain ⟨z1, z2, z3, z4⟩ := h.inv.up x hx z hz; rw [hz, if_neg (by omega)]; obtain ⟨q, hq1, hq2, hq3⟩ := ih z z1 z2 (by omega); rw [hq1]; refine ⟨(x : Int) :: q, rfl, fun w => ?_, fun p => ?_⟩
      · rw [List.mem_cons, hq2 w]
        constructor
        · rintro (rfl | ⟨y, rfl, hy⟩)
          · exact ⟨x, rfl, .refl _⟩
          · exact ⟨y, rfl, .up hz hy⟩
        · rintro ⟨y, rfl, hy⟩; rcases (anc_up hz).1 hy with rfl | hy
          · exact .inl rfl
          · exact .inr ⟨y, rfl, hy⟩
      · cases hpp : p (x : Int) with
        | true => exact .inr ⟨x, by simp [List.find?, hpp], .refl _, hpp, fun y hy _ => hy⟩
        | false =>
          have hf : ((x : Int) :: q).find? p = q.find? p := by simp [List.find?, hpp]
          rw [hf]; rcases hq3 p with ⟨e1, e2⟩ | ⟨f, e1, e2, e3, e4⟩
          · refine .inl ⟨e1, fun y hy => ?_⟩; rcases (anc_up hz).1 hy with rfl | hy
            · exact hpp
            · exact e2 y hy
          · refine .inr ⟨f, e1, .up hz e2, e3, fun y hy hpy => ?_⟩; rcases (anc_up hz).1 hy with rfl | hy
            · rw [hpp] at hpy; cases hpy
            · exact e4 y hy hpy
theorem Ordered.pos_lt (o : Ordered S r n P) {x : Nat} (hx : x ∈ r :: P) : pos (r :: P) x < n := by
  obtain ⟨j, hj, rfl⟩ := List.getElem_of_mem hx; rw [(Rd o.nodup hj).2]; have := Ic n (r :: P) o.nodup fun y hy => o.lt hy; omega
theorem DomTree.path (h : DomTree S r n P t) (o : Ordered S r n P) {x : Nat} (hx : x < n) (hp : A2 t x ≠ -2) : E0 t (x : Int) ≠ [] ∧ (∀ w : Int, w ∈ E0 t (x : Int) ↔ ∃ z : Nat, w = (z : Int) ∧ UpTo (A2 t) x z) ∧
    ∀ p : Int → Bool, ((E0 t (x : Int)).find? p = none ∧ ∀ z : Nat, UpTo (A2 t) x z → p (z : Int) = false) ∨ ∃ f : Nat, (E0 t (x : Int)).find? p = some (f : Int) ∧ UpTo (A2 t) x f ∧ p (f : Int) = true ∧ ∀ z : Nat, UpTo (A2 t) x z → p (z : Int) = true → UpTo (A2 t) f z := by
  have hm := (o.mem x).2 (h.inv.rc x hx hp); obtain ⟨q, h1, h2, h3⟩ := h.up n x hx hp (o.pos_lt hm)
  have e : E0 t (x : Int) = q := by unfold E0; rw [h.len, h1]; rfl
  rw [e]; refine ⟨fun e => ?_, h2, h3⟩; have := (h2 (x : Int)).2 ⟨x, rfl, .refl _⟩; rw [e] at this
  cases this
theorem DomTree.nopath (h : DomTree S r n P t) {x : Nat} (hx : x < n) (hp : A2 t x = -2) : E0 t (x : Int) = [] := by
  rw [pathD_nil]
  cases hl : t.length with
  | zero => rfl
  | succ k =>
    unfold upD; rw [if_pos ⟨by omega, by rw [h.len]; omega⟩, Ao, show t.getD x 0 = A2 t x from rfl, hp, if_neg (by omega)]
    cases k with
    | zero => rfl
    | succ k => unfold upD; rw [if_neg (by omega)]; rfl
theorem DomTree.right (h : DomTree S r n P t) (o : Ordered S r n P) : Fl t = true := by
  unfold Fl; rw [Bool.and_eq_true]
  constructor
  · refine all_range.2 fun x hx => ?_; rw [h.len] at hx; unfold okR
    by_cases hp : A2 t x = -2
    · rw [show t.getD x 0 = A2 t x from rfl, hp]; rfl
    · rw [decide_eq_false (h.path o hx hp).1]; simp
  · apply decide_eq_true
    have key : ∀ k, k ≤ n → N4 t k = if r < k then 1 else 0 := by
      intro k
      induction k with
      | zero => intro _; rfl
      | succ k ih =>
        intro hk; rw [Ri, ih (by omega)]
        have hr : t.getD k 0 = -1 ↔ k = r := by
          constructor
          · intro he; rcases h.inv.kind k (by omega) with h1 | h1 | ⟨z, hz⟩
            · rw [show t.getD k 0 = A2 t k from rfl, h1] at he; omega
            · exact h1
            · rw [show t.getD k 0 = A2 t k from rfl, hz] at he; omega
          · rintro rfl; exact h.inv.top
        by_cases hkr : k = r
        · subst hkr; rw [if_neg (by omega), if_pos (hr.2 rfl), if_pos (by omega)]
        · rw [if_neg (fun e => hkr (hr.1 e))]
          by_cases h2 : r < k
          · rw [if_pos h2, if_pos (by omega)]
          · rw [if_neg h2, if_neg (by omega)]
    rw [h.len, key n (Nat.le_refl _), if_pos o.hr]
theorem DomTree.meet (h : DomTree S r n P t) (o : Ordered S r n P) {a b : Nat} (ha : a < n) (hb : b < n) (hpa : A2 t a ≠ -2) (hpb : A2 t b ≠ -2) : ∃ m : Nat, Jv t (a : Int) (b : Int) = (m : Int) ∧ MeetAt (A2 t) a b m ∧ m < n ∧ A2 t m ≠ -2 := by
  have rd : Ready S r n P t P.length := ⟨h.inv, h.len, fun x hx => by rw [List.take_length] at hx; exact h.full x (o.lt hx) ((o.mem x).1 hx)⟩; obtain ⟨c, hc1, hc2, hc3⟩ := h.inv.meets (rd.inj o) Yf _ a b (Nat.le_refl _) ha hb hpa hpb; refine ⟨c, ?_, hc1, hc2, hc3⟩; unfold Jv; rw [if_pos (h.right o)]; obtain ⟨hca, hcb⟩ := (hc1 c).1 (.refl _)
  have hin : ∀ z : Nat, (E0 t (b : Int)).contains (z : Int) = true ↔ UpTo (A2 t) b z := fun z => by
    rw [List.contains_iff_mem, (h.path o hb hpb).2.1]
    constructor
    · rintro ⟨y, hy, hu⟩; cases Int.ofNat.inj hy; exact hu
    · intro hu; exact ⟨z, rfl, hu⟩
  rcases (h.path o ha hpa).2.2 fun x => (E0 t (b : Int)).contains x with ⟨_, h2⟩ | ⟨f, h1, h2, h3, h4⟩
  · have := h2 c hca; rw [(hin c).2 hcb] at this
    cases this
  · rw [h1]; have hfc := h4 c hca ((hin c).2 hcb); have hcf := (hc1 f).2 ⟨h2, (hin f).1 h3⟩; rw [h.inv.antisymm hcf hfc hc2 hc3]
    rfl
theorem DomTree.meet_none (h : DomTree S r n P t) (o : Ordered S r n P) {a b : Nat} (ha : a < n) (hb : b < n) (hp : A2 t a = -2 ∨ A2 t b = -2) : Jv t (a : Int) (b : Int) = -2 := by
  unfold Jv; rw [if_pos (h.right o)]; rcases hp with hp | hp
  · rw [h.nopath ha hp]; rfl
  · rw [h.nopath hb hp]
    have : (E0 t (a : Int)).find? (fun x => ([] : List Int).contains x) = none := List.find?_eq_none.2 fun x _ => by simp
    rw [this]; rfl
theorem DomTree.over (h : DomTree S r n P t) (o : Ordered S r n P) {a b : Nat} (ha : a < n) (hb : b < n) : Gz t (a : Int) (b : Int) = true ↔ A2 t b ≠ -2 ∧ UpTo (A2 t) b a := by
  unfold Gz; rw [Bool.and_eq_true, beq_iff_eq, bne_iff_ne]
  by_cases hpa : A2 t a = -2
  · rw [h.meet_none o ha hb (.inl hpa)]
    constructor
    · rintro ⟨h1, _⟩; omega
    · rintro ⟨h1, h2⟩; exact absurd hpa (h.inv.anc h2 hb h1).2.1
  · by_cases hpb : A2 t b = -2
    · rw [h.meet_none o ha hb (.inr hpb)]
      constructor
      · rintro ⟨h1, _⟩; omega
      · rintro ⟨h1, _⟩; exact absurd hpb h1
    · obtain ⟨m, hm1, hm2, hm3, hm4⟩ := h.meet o ha hb hpa hpb; rw [hm1]
      constructor
      · rintro ⟨h1, _⟩; have h1 := Int.ofNat.inj h1; subst h1; exact ⟨hpb, ((hm2 _).1 (.refl _)).2⟩
      · rintro ⟨_, h2⟩; have := (hm2 a).2 ⟨.refl _, h2⟩; have h3 := ((hm2 m).1 (.refl _)).1; rw [h.inv.antisymm h3 this ha hpa]; exact ⟨rfl, by omega⟩
theorem DomTree.over_dom (h : DomTree S r n P t) (o : Ordered S r n P) {a b : Nat} (ha : a < n) (hb : b < n) : Gz t (a : Int) (b : Int) = true ↔ Rc S r b ∧ ¬ Av S r a b := by
  rw [h.over o ha hb]
  constructor
  · rintro ⟨h1, h2⟩; exact ⟨h.inv.rc b hb h1, (h.exact_ b hb h1 a).1 h2⟩
  · rintro ⟨h1, h2⟩; have := h.full b hb h1; exact ⟨this, (h.exact_ b hb this a).2 h2⟩
theorem DomTree.in_iff (h : DomTree S r n P t) {x : Nat} (hx : x < n) : A2 t x ≠ -2 ↔ Rc S r x := ⟨h.inv.rc x hx, h.full x hx⟩
end
section
variable {L : List (List Int)} (hm : Ds L = true) {r : Nat} (hr : r < L.length)
include hm hr
theorem U4 : ∃ P, Ord (sN L) r (r :: P) ∧ Ordered (sN L) r L.length P ∧ DomTree (sN L) r L.length P (F3 L r) := by
  obtain ⟨O, hO⟩ := Ord.exist (Je hm) hr; obtain ⟨P, rfl, o⟩ := hO.ordered hr (Je hm); obtain ⟨J, _, hJ⟩ := stops o; have hd := Qe o hJ; refine ⟨P, hO, o, ?_⟩; rw [← hd.eq hm hr o]; exact hd
end
end
end Go.Proofs.Ytjdddniaokcgnaa

namespace Go.Proofs.Ytjdddniaokcgnaa
noncomputable section
open Go Go.RowKit
set_option linter.unusedVariables false
set_option linter.unusedSimpArgs false
def H4 (L : List (List Int)) (s : Nat → Bool) (i : Nat) : Bool := (List.range L.length).any fun j => (Iu L i (-1)).getD j false && s j
def Bu (L : List (List Int)) : Nat → Nat → Bool
  | 0 => fun k => (L.getD k []).isEmpty
  | m + 1 => fun k => Bu L m k || (decide (k = m) && !H4 L (Bu L m) m)
def Er (L : List (List Int)) (s : Nat → Bool) (k : Nat) : List Int := L.getD k [] ++ (if s k = true then [(L.length : Int)] else [])
def Fz (L : List (List Int)) (s : Nat → Bool) : List (List Int) := (List.range L.length).map (Er L s) ++ [[]]
def exitL (L : List (List Int)) : List (List Int) := Fz L (Bu L L.length)
section
variable {L : List (List Int)}
theorem G5 {s : Nat → Bool} : (Fz L s).length = L.length + 1 := by simp [Fz]
theorem J6 : (exitL L).length = L.length + 1 := G5
theorem Oe {s : Nat → Bool} {k : Nat} (hk : k < L.length) : (Fz L s).getD k [] = Er L s k := by
  unfold Fz; rw [List.getD_eq_getElem?_getD, List.getElem?_append_left (by simpa using hk), ← List.getD_eq_getElem?_getD, Ia hk]
theorem Zb {s : Nat → Bool} : (Fz L s).getD L.length [] = [] := by
  unfold Fz; rw [List.getD_eq_getElem?_getD, List.getElem?_append_right (by simp)]
  simp
theorem T9 {s : Nat → Bool} {k : Nat} (hk : L.length ≤ k) : (Fz L s).getD k [] = [] := by
  by_cases e : k = L.length
  · rw [e, Zb]
  · rw [List.getD_eq_getElem?_getD, List.getElem?_eq_none (by rw [G5]; omega)]; rfl
theorem Pq (hm : Ds L = true) (hn : L.length < 64) (s : Nat → Bool) : Ds (Fz L s) = true := by
  obtain ⟨h1, h2, h3⟩ := mayS_iff.1 hm; refine mayS_iff.2 ⟨by rw [G5]; omega, by rw [G5]; omega, fun i hi => ?_⟩; rw [G5] at hi
  by_cases e : i < L.length
  · rw [Oe e, G5]; unfold Er; have hok := h3 i e; refine okL_of (fun x hx => ?_) ?_
    · rcases List.mem_append.1 hx with hx | hx
      · have := Jb hok hx; omega
      · split at hx
        · rw [List.mem_singleton.1 hx]; omega
        · cases hx
    · refine List.pairwise_append.2 ⟨Xw hok, by split <;> simp, fun a ha b hb => ?_⟩; have := Jb hok ha
      split at hb
      · rw [List.mem_singleton.1 hb]; omega
      · cases hb
  · rw [T9 (by omega)]
    rfl
theorem Ip (hm : Ds L = true) {s : Nat → Bool} {k y : Nat} : y ∈ sN (Fz L s) k ↔ k < L.length ∧ (y ∈ sN L k ∨ (s k = true ∧ y = L.length)) := by
  unfold sN
  by_cases e : k < L.length
  · rw [Oe e]; unfold Er; rw [List.map_append, List.mem_append]
    constructor
    · rintro (h | h)
      · exact ⟨e, .inl h⟩
      · split at h
        · rename_i hs
          rw [List.map_singleton, List.mem_singleton, Ao] at h; exact ⟨e, .inr ⟨hs, h⟩⟩
        · cases h
    · rintro ⟨_, h | ⟨h1, h2⟩⟩
      · exact .inl h
      · refine .inr ?_; rw [if_pos h1, List.map_singleton, List.mem_singleton, Ao]; exact h2
  · rw [T9 (by omega)]
    constructor
    · intro h; cases h
    · rintro ⟨h, _⟩; exact absurd h e
theorem Gw (hm : Ds L = true) {s : Nat → Bool} {i : Nat} (hi : i < L.length) : H4 L s i = true ↔ ∃ j, j < L.length ∧ Rc (sN L) i j ∧ s j = true := by
  unfold H4; rw [List.any_eq_true]
  constructor
  · rintro ⟨j, hj, h⟩; rw [Bool.and_eq_true, N1 hm hi] at h; exact ⟨j, List.mem_range.1 hj, h⟩
  · rintro ⟨j, hj, h⟩; refine ⟨j, List.mem_range.2 hj, ?_⟩; rw [Bool.and_eq_true, N1 hm hi]; exact h
theorem goesE_mono {m k : Nat} (h : Bu L m k = true) : ∀ d, Bu L (m + d) k = true := by
  intro d
  induction d with
  | zero => exact h
  | succ d ih =>
    show (Bu L (m + d) k || _) = true
    rw [ih, Bool.true_or]
theorem Sj {m m' k : Nat} (hm : m ≤ m') (h : Bu L m k = true) : Bu L m' k = true := by
  have := goesE_mono h (m' - m); rwa [show m + (m' - m) = m' by omega] at this
theorem goesE_cases {m k : Nat} (h : Bu L m k = true) : Bu L 0 k = true ∨ (k < m ∧ H4 L (Bu L k) k = false) := by
  induction m with
  | zero => exact .inl h
  | succ m ih =>
    have h' : (Bu L m k || (decide (k = m) && !H4 L (Bu L m) m)) = true := h; rw [Bool.or_eq_true, Bool.and_eq_true, decide_eq_true_eq, Bool.not_eq_true'] at h'; rcases h' with h1 | ⟨rfl, h2⟩
    · rcases ih h1 with h3 | ⟨h3, h4⟩
      · exact .inl h3
      · exact .inr ⟨by omega, h4⟩
    · exact .inr ⟨by omega, h2⟩
theorem all_hit (hm : Ds L = true) {i : Nat} (hi : i < L.length) : ∃ j, j < L.length ∧ Rc (sN L) i j ∧ Bu L L.length j = true := by
  cases hh : H4 L (Bu L i) i with
  | true =>
    obtain ⟨j, h1, h2, h3⟩ := (Gw hm hi).1 hh; exact ⟨j, h1, h2, Sj (by omega) h3⟩
  | false =>
    refine ⟨i, hi, .root, Sj (m := i + 1) (by omega) ?_⟩
    show (Bu L i i || (decide (i = i) && !H4 L (Bu L i) i)) = true
    rw [hh, decide_eq_true rfl]
    simp
theorem rc_withE (hm : Ds L = true) {s : Nat → Bool} {i j : Nat} (hi : i < L.length) (h : Rc (sN L) i j) : Rc (sN (Fz L s)) i j ∧ j < L.length := by
  induction h with
  | root => exact ⟨.root, hi⟩
  | step _ hy ih => exact ⟨.step ih.1 ((Ip hm).2 ⟨ih.2, .inl hy⟩), Je hm _ ih.2 _ hy⟩
theorem Mw (hm : Ds L = true) {b : Nat} (hb : b ≤ L.length) : Rc (sN (exitL L)) b L.length := by
  by_cases e : b = L.length
  · rw [e]; exact .root
  · obtain ⟨j, h1, h2, h3⟩ := all_hit hm (i := b) (by omega); exact .step (rc_withE hm (by omega) h2).1 ((Ip hm).2 ⟨h1, .inr ⟨h3, rfl⟩⟩)
end
section
variable {S T : Nat → List Nat}
theorem Rc.front {a b c : Nat} (h : b ∈ S a) (k : Rc S b c) : Rc S a c := by
  induction k with
  | root => exact .step .root h
  | step _ hy ih => exact .step ih hy
theorem Av.front {z a b c : Nat} (ha : a ≠ z) (h : b ∈ S a) (k : Av S b z c) : Av S a z c := by
  induction k with
  | root hb => exact .step (.root ha) h hb
  | step _ hy hz ih => exact .step ih hy hz
variable (hT : ∀ x y, y ∈ T x → x ∈ S y)
include hT
theorem Rc.turn {a b : Nat} (h : Rc T a b) : Rc S b a := by
  induction h with
  | root => exact .root
  | step _ hy ih => exact .front (hT _ _ hy) ih
theorem Av.turn {z a b : Nat} (h : Av T a z b) : Av S b z a := by
  induction h with
  | root h => exact .root h
  | step _ hy hz ih => exact .front hz (hT _ _ hy) ih
end
section
variable {L : List (List Int)} (hm : Ds L = true)
include hm
theorem Uf {x y : Nat} (hx : x < L.length) : y ∈ sN (Br L) x ↔ y < L.length ∧ x ∈ sN L y := by
  have hmem : ∀ z : Int, z ∈ (Br L).getD x [] ↔ ∃ p : Nat, z = (p : Int) ∧ p < L.length ∧ Hz L p x = true := fun z => by
    rw [Gk hx]; unfold D0; rw [mem_filt]
  have hs : ∀ p, p < L.length → (x ∈ sN L p ↔ Hz L p x = true) := fun p hp => by
    rw [goes_iff]; obtain ⟨_, _, h3⟩ := mayS_iff.1 hm
    constructor
    · intro h; obtain ⟨z, hz, rfl⟩ := List.mem_map.1 h; have := Jb (h3 p hp) hz; rw [Int.toNat_of_nonneg this.1]; exact hz
    · intro h; exact List.mem_map.2 ⟨_, h, Ao x⟩
  constructor
  · intro h; obtain ⟨z, hz, rfl⟩ := List.mem_map.1 h; obtain ⟨p, rfl, h1, h2⟩ := (hmem z).1 hz; rw [Ao]; exact ⟨h1, (hs p h1).2 h2⟩
  · rintro ⟨h1, h2⟩; exact List.mem_map.2 ⟨(y : Int), (hmem _).2 ⟨y, rfl, h1, (hs y h1).1 h2⟩, Ao y⟩
theorem sN_in {x y : Nat} (h : y ∈ sN L x) : x < L.length := by
  have _hm := hm
  by_cases e : x < L.length
  · exact e
  · unfold sN at h; rw [List.getD_eq_getElem?_getD, List.getElem?_eq_none (by omega)] at h; cases h
theorem Yw : ∀ x y, y ∈ sN (Br L) x → x ∈ sN L y := fun x y h => by
  have hx : x < L.length := by have := sN_in (Mv hm) h; rwa [Cr] at this
  exact ((Uf hm hx).1 h).2
theorem Ud : ∀ x y, y ∈ sN L x → x ∈ sN (Br L) y := fun x y h => by
  have hx := sN_in hm h; exact (Uf hm (Je hm x hx y h)).2 ⟨hx, h⟩
theorem O2 {a b : Nat} : Rc (sN (Br L)) a b ↔ Rc (sN L) b a := ⟨fun h => h.turn (Yw hm), fun h => h.turn (Ud hm)⟩
theorem av_turn {z a b : Nat} : Av (sN (Br L)) a z b ↔ Av (sN L) b z a := ⟨fun h => h.turn (Yw hm), fun h => h.turn (Ud hm)⟩
end
end
end Go.Proofs.Ytjdddniaokcgnaa

namespace Go.Proofs.Ytjdddniaokcgnaa
noncomputable section
open Go Go.RowKit
set_option linter.unusedVariables false
set_option linter.unusedSimpArgs false
section
variable {L : List (List Int)}
variable (hm : Ds L = true) (hn : L.length < 64)
include hm hn
end
end
end Go.Proofs.Ytjdddniaokcgnaa

namespace Go.Proofs.Ytjdddniaokcgnaa
noncomputable section
open Go Go.RowKit
set_option linter.unusedVariables false
set_option linter.unusedSimpArgs false
def Aad (L : List (List Int)) (k b : Nat) : Bool := !(Iu (exitL L) b (k : Int)).getD L.length false
def O0 (L : List (List Int)) (k a b : Nat) : Bool := decide (1 < ((exitL L).getD a []).length) && ((L.getD a []).contains (b : Int) && (Aad L k b && (decide (k = a) || !Aad L k a)))
def Ke (L : List (List Int)) (k a m : Nat) : List TDep := ((List.range m).filter (O0 L k a)).map fun b => ⟨(k : Int), (a : Int), ((b : Nat) : Int)⟩
def Qf (L : List (List Int)) (k m : Nat) : List TDep := ((List.range m).map fun a => Ke L k a L.length).flatten
def X2 (L : List (List Int)) (m : Nat) : List TDep := ((List.range m).map fun k => Qf L k L.length).flatten
def Gn (L : List (List Int)) : List TDep := X2 L L.length
def depG (g : Aj) : List TDep := if Ha g = true ∧ g.Succ.length < 64 then Gn g.Succ else []
section
variable {L : List (List Int)}
theorem Zh (k a m : Nat) : (Ke L k a m).length ≤ m := by
  unfold Ke; rw [List.length_map]; exact Nat.le_trans (List.length_filter_le ..) (by simp)
theorem depOn_len (k m : Nat) : (Qf L k m).length ≤ m * L.length := by
  have := Sb (List.range m) (fun a => Ke L k a L.length) L.length fun a _ => Zh k a _; rw [List.length_range] at this; exact this
theorem depTo_len (m : Nat) : (X2 L m).length ≤ m * (L.length * L.length) := by
  have := Sb (List.range m) (fun k => Qf L k L.length) (L.length * L.length) fun k _ => depOn_len k _; rw [List.length_range] at this; exact this
theorem mem_depL {d : TDep} : d ∈ Gn L ↔ ∃ k a b : Nat, d = ⟨(k : Int), (a : Int), (b : Int)⟩ ∧ k < L.length ∧ a < L.length ∧ b < L.length ∧ O0 L k a b = true := by
  unfold Gn X2 Qf Ke; simp only [List.mem_flatten, List.mem_map, List.mem_range]
  constructor
  · rintro ⟨_, ⟨k, hk, rfl⟩, hd⟩; simp only [List.mem_flatten, List.mem_map, List.mem_range] at hd; obtain ⟨_, ⟨a, ha, rfl⟩, hd⟩ := hd; obtain ⟨b, hb, rfl⟩ := List.mem_map.1 hd; obtain ⟨h1, h2⟩ := List.mem_filter.1 hb; exact ⟨k, a, b, rfl, hk, ha, List.mem_range.1 h1, h2⟩
  · rintro ⟨k, a, b, rfl, hk, ha, hb, h⟩; refine ⟨_, ⟨k, hk, rfl⟩, ?_⟩; simp only [List.mem_flatten, List.mem_map, List.mem_range]; exact ⟨_, ⟨a, ha, rfl⟩, List.mem_map.2 ⟨b, List.mem_filter.2 ⟨List.mem_range.2 hb, h⟩, rfl⟩⟩
variable (hm : Ds L = true) (hn : L.length < 64)
include hm hn
end
end
end Go.Proofs.Ytjdddniaokcgnaa

namespace Go.Proofs.Ytjdddniaokcgnaa
noncomputable section
open Go Go.RowKit
set_option linter.unusedVariables false
set_option linter.unusedSimpArgs false
def Hh (L : List (List Int)) (x b : Nat) : Bool := ((List.range L.length).any fun a => Hz L a b && Ez L 0 x a) && (decide (b = x) || !Ez L 0 x b)
def frontL (L : List (List Int)) (x : Nat) : List Int := ((List.range L.length).filter (Hh L x)).map Int.ofNat
def Vq (g : Aj) (x : Int) : List Int := if Ha g = true ∧ 0 ≤ x ∧ x < (g.Succ.length : Int) ∧ (Iu g.Succ 0 (-1)).getD x.toNat false = true then frontL g.Succ x.toNat else []
section
variable {L : List (List Int)} (hm : Ds L = true)
include hm
end
structure Zk : Prop where
  all : ∀ (g : Aj), Fits g.Succ → Fits g.Pred → Fy g = some (depG g)
  of_ : ∀ (g : Aj) (x : Int), Fits g.Succ → Fits g.Pred → Jq g x = some ((depG g).filter fun d => d.Block == x)
  front : ∀ (g : Aj) (x : Int), Fits g.Succ → Fits g.Pred → Eu g x = some (Vq g x)
  tree : ∀ (g : Aj) (r : Int), Fits g.Succ → Fits g.Pred → Fm g r = some (Xs g r)
  over : ∀ (t : List Int) (a b : Int), t.length ≤ 64 → Gd t a b = some (Gz t a b)
theorem Xd (g : Aj) : (depG g).length ≤ 262144 := by
  unfold depG
  split
  · rename_i h
    have h1 := depTo_len (L := g.Succ) g.Succ.length; have h2 : g.Succ.length * (g.Succ.length * g.Succ.length) ≤ 64 * (64 * 64) := Nat.mul_le_mul (by omega) (Nat.mul_le_mul (by omega) (by omega)); exact Nat.le_trans h1 h2
  · simp
theorem ints_same {a : List Int} (h : a.length ≤ 64) : Ce a a = some true := by
  rw [m_ints a a (by omega)]; simp
def Up : List (List Int) := [[1, 2], [3], [3], []]
theorem L9 : Ds Up = true := by decide
theorem wake9_dep : Gn Up = [⟨1, 0, 1⟩, ⟨2, 0, 2⟩] := by decide +kernel
theorem Ya : Vq (F8 Up) 1 = [3] := by decide +kernel
theorem Zm : depG (F8 Up) = [⟨1, 0, 1⟩, ⟨2, 0, 2⟩] := by
  unfold depG; rw [if_pos ⟨Ju L9, by decide⟩]; exact wake9_dep
theorem m_awake9 (F : Zk) : Dm = some true := by
  unfold Dm
  show Option.bind (D2 Up) _ = _
  obtain ⟨h1, h2⟩ := Gr L9; rw [Zx Up (Im (Ft L9)), L9, cond_true, Option.bind_some]; simp only [F.all _ h1 h2, F.of_ _ _ h1 h2, F.front _ _ h1 h2, Option.bind_some, Zm, Ya]; have i0 : A8 (0 : Int) ([⟨1, 0, 1⟩, ⟨2, 0, 2⟩] : List TDep).length := ⟨by decide, by decide⟩; have i1 : A8 (1 : Int) ([⟨1, 0, 1⟩, ⟨2, 0, 2⟩] : List TDep).length := ⟨by decide, by decide⟩; rw [Ad (fun _ => i0), Ad (fun _ => i1)]; have hi : Ce [3] ([(3 : Int)] : List (Int)) = some true := ints_same (by simp)
  show (Option.bind (Ce [3] [(3 : Int)]) fun x6 => Option.bind (bif (bif true then x6 else false) == true then some (([⟨1, 0, 1⟩, ⟨2, 0, 2⟩] : List TDep).filter fun d => d.Block == 3) else some []) fun x7 => some (bif (bif true then x6 else false) then (x7.length : Int) == 0 else false)) = _
  rw [hi]
  rfl
theorem filt_loop {f : List TDep × Int → Option (LR (List TDep × Int) (List TDep))} (l : List TDep) (p : TDep → Bool) (hl : l.length ≤ 262144)
    (h1 : ∀ (o : List TDep) i, i < l.length → o.length ≤ i → f (o, (i : Int)) = some (.next (o ++ (if p (l.getD i default) = true then [l.getD i default] else []), ((i + 1 : Nat) : Int)))) (h2 : ∀ o, f (o, (l.length : Int)) = some (.done o)) : Ay f (([] : List TDep), (0 : Int)) = some (l.filter p) := by
  have hlen : ∀ i, ((l.take i).filter p).length ≤ i := fun i => Nat.le_trans (List.length_filter_le ..) (by simp; omega)
  have := Eh f (fun i => ((l.take i).filter p, ((i : Nat) : Int))) (l.filter p) l.length (fun i hi => by
    show f (_, (i : Int)) = _
    rw [h1 _ i hi (hlen i), List.take_succ_eq_append_getElem hi, List.filter_append, Am _ _ _ hi]
    congr 3
    by_cases h : p l[i] = true
    · rw [if_pos h]; simp [h]
    · rw [if_neg h]; simp [h]) (by show f (_, _) = _; rw [h2, List.take_length])
  exact this
end
end Go.Proofs.Ytjdddniaokcgnaa

namespace Go.Proofs.Ytjdddniaokcgnaa
noncomputable section
open Go Go.RowKit
set_option linter.unusedVariables false
set_option linter.unusedSimpArgs false
theorem Av.head {S : Nat → List Nat} {z a c : Nat} (h : Av S a z c) : c = a ∨ ∃ b, b ∈ S a ∧ b ≠ z ∧ Av S b z c := by
  induction h with
  | root _ => exact .inl rfl
  | step _ hy hz ih =>
    rcases ih with rfl | ⟨b, h1, h2, h3⟩
    · exact .inr ⟨_, hy, hz, .root hz⟩
    · exact .inr ⟨b, h1, h2, .step h3 hy hz⟩
section
variable {L : List (List Int)} (hm : Ds L = true) (hn : L.length < 64)
include hm hn
theorem Ra {k b : Nat} (hb : b ≤ L.length) : Aad L k b = true ↔ ¬ Av (sN (exitL L)) b k L.length := by
  have he := Pq hm hn (Bu L L.length); unfold Aad; rw [Bool.not_eq_true', ← Bool.not_eq_true, R0 (L := exitL L) he (by rw [J6]; omega) (by rw [J6]; omega)]
omit hn in
theorem sN_goes {p y : Nat} (hp : p < L.length) : y ∈ sN L p ↔ (L.getD p []).contains (y : Int) = true := by
  rw [List.contains_iff_mem]; obtain ⟨_, _, h3⟩ := mayS_iff.1 hm
  constructor
  · intro h; obtain ⟨z, hz, rfl⟩ := List.mem_map.1 h; have := Jb (h3 p hp) hz; rw [Int.toNat_of_nonneg this.1]; exact hz
  · intro h; exact List.mem_map.2 ⟨_, h, Ao y⟩
omit hn in
theorem Jy {k a b : Nat} (ha : a < L.length) : O0 L k a b = true ↔ 1 < ((exitL L).getD a []).length ∧ b ∈ sN L a ∧ Aad L k b = true ∧ (k = a ∨ Aad L k a = false) := by
  unfold O0; rw [Bool.and_eq_true, Bool.and_eq_true, Bool.and_eq_true, Bool.or_eq_true, decide_eq_true_eq, decide_eq_true_eq, Bool.not_eq_true', sN_goes hm ha]
omit hn in
end
theorem depG_of {L : List (List Int)} (hm : Ds L = true) (hn : L.length < 64) : depG (F8 L) = Gn L := by
  unfold depG; rw [if_pos ⟨Ju hm, hn⟩]
  rfl
end
end Go.Proofs.Ytjdddniaokcgnaa

namespace Go.Proofs.Ytjdddniaokcgnaa
noncomputable section
open Go Go.RowKit
set_option linter.unusedVariables false
set_option linter.unusedSimpArgs false
def Nb (d e : TDep) : Prop := d.Block < e.Block ∨ (d.Block = e.Block ∧ (d.On < e.On ∨ (d.On = e.On ∧ d.To < e.To)))
theorem Oz {α : Type} {R : α → α → Prop} {f : Nat → α} (m : Nat) (h : ∀ i j, i < j → j < m → R (f i) (f j)) : ((List.range m).map f).Pairwise R := by
  rw [List.pairwise_map]; refine List.Pairwise.imp_of_mem ?_ (List.pairwise_lt_range (n := m)); intro a b ha hb hab; exact h a b hab (List.mem_range.1 hb)
section
variable {L : List (List Int)}
theorem Nh {k a m : Nat} {d : TDep} (h : d ∈ Ke L k a m) : d.Block = (k : Int) ∧ d.On = (a : Int) := by
  unfold Ke at h; obtain ⟨b, _, rfl⟩ := List.mem_map.1 h; exact ⟨rfl, rfl⟩
theorem depRow_pw (k a m : Nat) : (Ke L k a m).Pairwise Nb := by
  unfold Ke; rw [List.pairwise_map]; refine List.Pairwise.imp ?_ (List.Pairwise.filter _ (List.pairwise_lt_range (n := m))); intro x y hxy; exact .inr ⟨rfl, .inr ⟨rfl, by show ((x : Nat) : Int) < ((y : Nat) : Int); omega⟩⟩
theorem Ub {k m : Nat} {d : TDep} (h : d ∈ Qf L k m) : d.Block = (k : Int) := by
  unfold Qf at h; simp only [List.mem_flatten, List.mem_map, List.mem_range] at h; obtain ⟨_, ⟨a, _, rfl⟩, h⟩ := h; exact (Nh h).1
theorem depOn_pw (k m : Nat) : (Qf L k m).Pairwise Nb := by
  unfold Qf; rw [List.pairwise_flatten]; refine ⟨fun l hl => ?_, Oz m fun i j hij hj x hx y hy => ?_⟩
  · obtain ⟨a, _, rfl⟩ := List.mem_map.1 hl; exact depRow_pw k a _
  · have h1 := Nh hx; have h2 := Nh hy; exact .inr ⟨by rw [h1.1, h2.1], .inl (by rw [h1.2, h2.2]; omega)⟩
theorem Yr (m : Nat) : (X2 L m).Pairwise Nb := by
  unfold X2; rw [List.pairwise_flatten]; refine ⟨fun l hl => ?_, Oz m fun i j hij hj x hx y hy => ?_⟩
  · obtain ⟨k, _, rfl⟩ := List.mem_map.1 hl; exact depOn_pw k _
  · have h1 := Ub hx; have h2 := Ub hy; exact .inl (by rw [h1, h2]; omega)
theorem depL_adj {i : Nat} (h1 : 0 < i) (h2 : i < (Gn L).length) : Nb ((Gn L).getD (i - 1) default) ((Gn L).getD i default) := by
  rw [Am _ _ _ (show i - 1 < (Gn L).length by omega), Am _ _ _ h2]; have hP : (Gn L).Pairwise Nb := Yr L.length; exact List.pairwise_iff_getElem.1 hP (i - 1) i (by omega) h2 (by omega)
def fwAt (L : List (List Int)) (i : Nat) : Bool := (List.range (L.getD i []).length).all fun k => decide ((i : Int) < (L.getD i []).getD k 0)
def fwB (L : List (List Int)) : Bool := (List.range L.length).all (fwAt L)
theorem Z3 (h : fwB L = true) {i y : Nat} (hi : i < L.length) (hy : y ∈ sN L i) : i < y := by
  have := all_range.1 h i hi; unfold fwAt at this; obtain ⟨z, hz, rfl⟩ := List.mem_map.1 hy; obtain ⟨k, hk, e⟩ := List.getElem_of_mem hz; have := of_decide_eq_true (all_range.1 this k hk); rw [Am _ _ _ hk, e] at this; omega
variable (hm : Ds L = true) (hn : L.length < 64)
include hm
theorem fwd_hit (h : fwB L = true) : ∀ d i, i + d = L.length → i < L.length → H4 L (Bu L 0) i = true := by
  intro d
  induction d using Nat.strongRecOn with
  | _ d ih =>
    intro i hd hi; rw [Gw hm hi]
    cases hs : sN L i with
    | nil =>
      refine ⟨i, hi, .root, ?_⟩
      show (L.getD i []).isEmpty = true
      unfold sN at hs; rw [List.map_eq_nil_iff] at hs; rw [hs]; rfl
    | cons y l =>
      have hy : y ∈ sN L i := by rw [hs]; exact List.mem_cons_self ..
      have h1 := Z3 h hi hy; have h2 := Je hm i hi y hy; obtain ⟨j, j1, j2, j3⟩ := (Gw hm h2).1 (ih (L.length - y) (by omega) y (by omega) h2)
      have front : ∀ {a b c : Nat}, b ∈ sN L a → Rc (sN L) b c → Rc (sN L) a c := fun h k => by
        induction k with
        | root => exact .step .root h
        | step _ hy ih => exact .step ih hy
      exact ⟨j, j1, front hy j2, j3⟩
theorem fwd_goes (h : fwB L = true) {i : Nat} (hi : i < L.length) (hg : Bu L L.length i = true) : L.getD i [] = [] := by
  rcases goesE_cases hg with h1 | ⟨_, h2⟩
  · have : (L.getD i []).isEmpty = true := h1; exact List.isEmpty_iff.1 this
  · have h3 := fwd_hit hm h (L.length - i) i (by omega) hi; obtain ⟨j, j1, j2, j3⟩ := (Gw hm hi).1 h3; have := (Gw hm hi).2 ⟨j, j1, j2, Sj (m' := i) (Nat.zero_le _) j3⟩; rw [h2] at this
    cases this
theorem fwd_rc (h : fwB L = true) {b x : Nat} (hr : Rc (sN (exitL L)) b x) : b ≤ x := by
  induction hr with
  | root => exact Nat.le_refl _
  | step _ hy ih =>
    obtain ⟨h1, h2⟩ := (Ip hm).1 hy; rcases h2 with h2 | ⟨_, rfl⟩
    · have := Z3 h h1 h2; omega
    · omega
include hn
theorem fwd_dep (h : fwB L = true) {k a b : Nat} (ha : a < L.length) (hd : O0 L k a b = true) : k ≠ a ∧ 2 ≤ (L.getD a []).length := by
  obtain ⟨h1, h2, h3, h4⟩ := (Jy hm ha).1 hd; have hb := Je hm a ha b h2
  constructor
  · rintro rfl; have hlt := Z3 h ha h2; have hr := Mw hm (b := b) (by omega)
    have key : ∀ x, Rc (sN (exitL L)) b x → Av (sN (exitL L)) b k x := by
      intro x hx
      induction hx with
      | root => exact .root (by omega)
      | step hx' hy ih =>
        have := fwd_rc hm h (.step hx' hy); exact .step ih hy (by omega)
    exact (Ra hm hn (by omega)).1 h3 (key _ hr)
  · have hrow : (exitL L).getD a [] = Er L (Bu L L.length) a := Oe ha; rw [hrow] at h1; unfold Er at h1; rw [List.length_append] at h1
    split at h1
    · rename_i hg
      rw [fwd_goes hm h ha hg] at h1; simp at h1
    · simp only [List.length_nil, Nat.add_zero] at h1; omega
end
theorem fwd_L1 {a : List (List Int)} {i : Nat} (hi : i < a.length) (hl : (a.getD i []).length ≤ 64) (b : Bool) : Ay (Bs a (i : Int)) (b, (0 : Int)) = some (b && fwAt a i) := by
  have := Eh (Bs a (i : Int)) (fun m => (b && (List.range m).all fun k => decide ((i : Int) < (a.getD i []).getD k 0), ((m : Nat) : Int))) (b && fwAt a i) (a.getD i []).length (fun m hmm => by
    show Bs a (i : Int) (_, (m : Int)) = _
    unfold Bs; simp only [Ao, Cx hmm, cond_true]; rw [Ad (D3 hi), Ad (fun _ => D3 hi), Ad (fun _ => D3 hmm), w1 (by omega), List.range_succ, List.all_append, List.all_cons, List.all_nil, Bool.and_true, ← Bool.and_assoc]
    cases (b && (List.range m).all fun k => decide ((i : Int) < (a.getD i []).getD k 0)) <;> rfl) (by
    show Bs a (i : Int) (_, _) = _
    unfold Bs; simp only [Ao, Ej, cond_false]; rw [Ad (D3 hi)]
    rfl)
  have e : (b && (List.range 0).all fun k => decide ((i : Int) < (a.getD i []).getD k 0)) = b := by simp
  rw [e] at this; exact this
theorem depends9 (F : Zk) (a : List (List Int)) (ha : a.length ≤ maxLen) : Dz a = some true := by
  unfold Dz; rw [m_awake9 F, Option.bind_some, Bool.not_true, cond_false]
  by_cases h16 : (16 : Int) < (a.length : Int)
  · rw [decide_eq_true h16]; rfl
  · rw [decide_eq_false h16]; simp only [beq_self_eq_true, cond_true, cond_false, m_small a (small_len ha), Option.bind_some]
    cases hs : Sq a with
    | false => rfl
    | true =>
      have fa := Xc hs; simp only [Bool.not_true, cond_false, Zx a fa, Option.bind_some]
      cases hm : Ds a with
      | false =>
        have e : ((5 : Int) != 0) = true := rfl; have hf : Fits g0.Succ ∧ Fits g0.Pred := ⟨Re (by simp [g0]), Re (by simp [g0])⟩
        have hd : depG g0 = [] := by unfold depG; rw [if_neg (fun h => by rw [mayG_g0] at h; exact absurd h.1 (by decide))]
        simp only [cond_false, e, cond_true, F.all _ hf.1 hf.2, Option.bind_some, hd]
        rfl
      | true =>
        have hn : a.length < 64 := by omega
        obtain ⟨_, _, hok⟩ := mayS_iff.1 hm; obtain ⟨g1, g2⟩ := Gr hm; simp only [cond_true, bne_self_eq_false, cond_false, F.all _ g1 g2, depG_of hm hn, Option.bind_some]
        have l2 : Ay (Bp a) (true, (0 : Int)) = some (fwB a) := by
          refine Eh (Bp a) (fun m => ((List.range m).all (fwAt a), ((m : Nat) : Int))) _ a.length (fun m hmm => ?_) ?_
          · show Bp a (_, (m : Int)) = _
            unfold Bp; simp only [Cx hmm, cond_true]; rw [fwd_L1 hmm (by have := Mb (hok m hmm); omega), Option.bind_some, w1 (by omega), List.range_succ, List.all_append, List.all_cons, List.all_nil, Bool.and_true]
          · show Bp a (_, _) = _
            unfold Bp; simp only [Ej, cond_false]
            rfl
        have hdl : (Gn a).length ≤ 262144 := by have := Xd (F8 a); rwa [depG_of hm hn] at this
        have l3 : Ay (Bt a (Gn a) (fwB a)) (0 : Int) = some (.inl ()) := by
          refine Eh (Bt a (Gn a) (fwB a)) (fun i => ((i : Nat) : Int)) _ (Gn a).length (fun i hi => ?_) ?_
          · show Bt a _ _ (i : Int) = _
            unfold Bt; obtain ⟨k, u, v, he, hk, hu, hv, hdep⟩ := mem_depL.1 (Fp (d := (default : TDep)) hi); obtain ⟨q1, q2, q3, q4⟩ := (Jy hm hu).1 hdep
            have hul : (a.getD u []).length ≤ 64 := by have := Mb (hok u hu); omega
            have hh : Dj (a.getD u []) (v : Int) = some true := by rw [m_has _ _ (by omega), (sN_goes hm hu).1 q2]
            have n0 : decide ((u : Int) < 0) = false := decide_eq_false (by omega); have n1 : decide ((a.length : Int) ≤ (u : Int)) = false := decide_eq_false (by omega); have ihd : A8 (i : Int) (Gn a).length := D3 hi
            have hf : (bif fwB a then (bif ((k : Int) == (u : Int)) then true else decide (((a.getD u []).length : Int) < 2)) else false) = false := by
              cases hfw : fwB a with
              | false => rfl
              | true =>
                obtain ⟨z1, z2⟩ := fwd_dep hm hn hfw hu hdep; rw [Vk, decide_eq_false z1, decide_eq_false (show ¬ (((a.getD u []).length : Int) < 2) by omega)]
                rfl
            simp only [Cx hi, cond_true, Ao, he, n0, n1, cond_false, beq_self_eq_true, hh, Option.bind_some, Bool.not_true, hf]; rw [Ad ihd, Ad (fun _ => D3 hu), Ad (fun _ => D3 hu)]
            by_cases h0 : i = 0
            · subst h0; have z : decide ((0 : Int) < ((0 : Nat) : Int)) = false := rfl; simp only [z, show (false == true) = false from rfl, Bool.false_and, cond_false]; rw [Ad (fun h => by cases h), Ad (fun h => by cases h), Ad (fun h => by cases h), Ad (fun h => by cases h), Ad (fun h => by cases h), w1 (by omega)]
            · have hw : Bi ((i : Int) - 1) = ((i - 1 : Nat) : Int) := by rw [Jo (by omega) (by omega)]; omega
              have hlt := depL_adj (L := a) (i := i) (by omega) hi; rw [he] at hlt; have ib : A8 ((i - 1 : Nat) : Int) (Gn a).length := D3 (by omega); simp only [hw, Ao]; rw [Ad (fun _ => ib), Ad (fun _ => ib), Ad (fun _ => ib), Ad (fun _ => ib), Ad (fun _ => ib), w1 (by omega)]
              have hz : (bif decide ((k : Int) < ((Gn a).getD (i - 1) default).Block) then true else bif (((Gn a).getD (i - 1) default).Block == (k : Int)) then (bif decide ((u : Int) < ((Gn a).getD (i - 1) default).On) then true else bif (((Gn a).getD (i - 1) default).On == (u : Int)) then decide ((v : Int) ≤ ((Gn a).getD (i - 1) default).To) else false) else false) = false := by
                rcases hlt with h | ⟨h1, h2⟩
                · have h : ((Gn a).getD (i - 1) default).Block < (k : Int) := h; rw [decide_eq_false (by omega), beq_eq_false_iff_ne.2 (by omega)]; rfl
                · have h1 : ((Gn a).getD (i - 1) default).Block = (k : Int) := h1; rw [decide_eq_false (by omega), beq_iff_eq.2 h1, cond_false, cond_true]; rcases h2 with h2 | ⟨h2, h3⟩
                  · have h2 : ((Gn a).getD (i - 1) default).On < (u : Int) := h2; rw [decide_eq_false (by omega), beq_eq_false_iff_ne.2 (by omega)]; rfl
                  · have h2 : ((Gn a).getD (i - 1) default).On = (u : Int) := h2; have h3 : ((Gn a).getD (i - 1) default).To < (v : Int) := h3; rw [decide_eq_false (by omega), beq_iff_eq.2 h2, cond_false, cond_true, decide_eq_false (by omega)]
              rw [hz]
              cases decide ((0 : Int) < (i : Int)) <;> rfl
          · show Bt a _ _ _ = _
            unfold Bt; simp only [Ej, cond_false]
        rw [l2, Option.bind_some, l3]
        rfl
end
end Go.Proofs.Ytjdddniaokcgnaa

namespace Go.Proofs.Ytjdddniaokcgnaa
noncomputable section
open Go Go.RowKit
set_option linter.unusedVariables false
set_option linter.unusedSimpArgs false
section
variable {L : List (List Int)}
variable (hm : Ds L = true)
include hm
end
end
end Go.Proofs.Ytjdddniaokcgnaa

namespace Go.Proofs.Ytjdddniaokcgnaa
noncomputable section
open Go Go.RowKit
set_option linter.unusedVariables false
set_option linter.unusedSimpArgs false
def B2 (L : List (List Int)) : List Int := F3 (Br (exitL L)) L.length
section
variable {L : List (List Int)} (hm : Ds L = true) (hn : L.length < 64)
include hm hn
theorem Jw : Ds (exitL L) = true := Pq hm hn _
theorem Um : (B2 L).length = L.length + 1 := by
  have _hm := hm; have _hn := hn; unfold B2; rw [Fu, Cr, J6]
theorem Pv : ∃ P, Ordered (sN (Br (exitL L))) L.length (L.length + 1) P ∧ DomTree (sN (Br (exitL L))) L.length (L.length + 1) P (B2 L) := by
  have he := Jw hm hn; have hp := Mv he
  have hlen : (Br (exitL L)).length = L.length + 1 := by rw [Cr, J6]
  obtain ⟨P, _, h1, h2⟩ := U4 hp (r := L.length) (by rw [hlen]; omega); rw [hlen] at h1 h2; exact ⟨P, h1, h2⟩
theorem pover {a b : Nat} (ha : a ≤ L.length) (hb : b ≤ L.length) : Gz (B2 L) (a : Int) (b : Int) = true ↔ ¬ Av (sN (exitL L)) b a L.length := by
  have he := Jw hm hn; obtain ⟨P, h1, h2⟩ := Pv hm hn; rw [h2.over_dom h1 (by omega) (by omega), O2 he, av_turn he]; exact ⟨fun h => h.2, fun h => ⟨Mw hm hb, h⟩⟩
end
end
end Go.Proofs.Ytjdddniaokcgnaa

namespace Go.Proofs.Ytjdddniaokcgnaa
noncomputable section
open Go Go.RowKit
set_option linter.unusedVariables false
set_option linter.unusedSimpArgs false
section
variable {L : List (List Int)}
variable (hm : Ds L = true)
include hm
theorem hit_mono {s s' : Nat → Bool} {i : Nat} (hi : i < L.length) (h : ∀ j, s j = true → s' j = true) (hh : H4 L s i = true) : H4 L s' i = true := by
  obtain ⟨j, h1, h2, h3⟩ := (Gw hm hi).1 hh; exact (Gw hm hi).2 ⟨j, h1, h2, h j h3⟩
omit hm in
omit hm in
end
end
end Go.Proofs.Ytjdddniaokcgnaa

namespace Go.Proofs.Ytjdddniaokcgnaa
noncomputable section
open Go Go.RowKit
set_option linter.unusedVariables false
set_option linter.unusedSimpArgs false
section
variable {k : Nat} (h1 : 1 ≤ k) (h60 : k ≤ 60)
include h1 h60
omit h1 h60 in
end
end
end Go.Proofs.Ytjdddniaokcgnaa

namespace Go.Proofs.Ytjdddniaokcgnaa
noncomputable section
open Go Go.RowKit
set_option linter.unusedVariables false
set_option linter.unusedSimpArgs false
end
end Go.Proofs.Ytjdddniaokcgnaa

namespace Go.Proofs.Ytjdddniaokcgnaa
noncomputable section
open Go Go.RowKit
set_option linter.unusedVariables false
set_option linter.unusedSimpArgs false
inductive Tp (t : List Int) : Nat → Nat → Nat → Prop
  | top {x : Nat} (hx : x < t.length) (h : t.getD x 0 = -1) : Tp t x x 0
  | up {x y r k : Nat} (hx : x < t.length) (h : t.getD x 0 = (y : Int)) (hk : Tp t y r k) : Tp t x r (k + 1)
section
variable {t : List Int}
theorem Tp.lt {x r k : Nat} (h : Tp t x r k) : x < t.length := by cases h <;> assumption
theorem Tp.tops {x r k : Nat} (h : Tp t x r k) : r < t.length ∧ t.getD r 0 = -1 := by
  induction h with
  | top hx h => exact ⟨hx, h⟩
  | up _ _ _ ih => exact ih
theorem Tp.det {x r k r' k' : Nat} (h : Tp t x r k) (h' : Tp t x r' k') : r = r' ∧ k = k' := by
  induction h generalizing k' with
  | top hx h => cases h' with
    | top => exact ⟨rfl, rfl⟩
    | up _ h2 _ => omega
  | up hx h1 _ ih => cases h' with
    | top _ h2 => omega
    | up _ h2 k2 =>
      have : _ = _ := h1.symm.trans h2
      cases Int.ofNat.inj this
      obtain ⟨e1, e2⟩ := ih k2; exact ⟨e1, by omega⟩
theorem Tp.upTo {x r k : Nat} (h : Tp t x r k) : UpTo (A2 t) x r := by
  induction h with
  | top => exact .refl _
  | up _ h _ ih => exact .up h ih
theorem Tp.on {x r k z : Nat} (h : Tp t x r k) (hz : UpTo (A2 t) x z) : ∃ j, j ≤ k ∧ Tp t z r j ∧ (j = k → z = x) := by
  induction hz generalizing k with
  | refl x => exact ⟨k, Nat.le_refl _, h, fun _ => rfl⟩
  | up hp _ ih =>
    cases h with
    | top _ h2 => have : _ = _ := hp.symm.trans h2; omega
    | up _ h2 k2 =>
      have : _ = _ := hp.symm.trans h2
      cases Int.ofNat.inj this
      obtain ⟨j, h1, h3, _⟩ := ih k2; exact ⟨j, by omega, h3, fun e => by omega⟩
theorem Tp.anti {x r k z : Nat} (h : Tp t x r k) (h1 : UpTo (A2 t) x z) (h2 : UpTo (A2 t) z x) : z = x := by
  obtain ⟨j, j1, j2, j3⟩ := h.on h1; obtain ⟨i, i1, i2, i3⟩ := j2.on h2; have := h.det i2; exact j3 (by omega)
theorem Tp.list {x r k : Nat} (h : Tp t x r k) : ∃ l : List Nat, l.length = k + 1 ∧ l.Nodup ∧ ∀ y ∈ l, y < t.length ∧ ∃ j, j ≤ k ∧ Tp t y r j := by
  induction h with
  | top hx h => exact ⟨[_], rfl, by simp, fun y hy => by rw [List.mem_singleton.1 hy]; exact ⟨hx, 0, Nat.le_refl _, .top hx h⟩⟩
  | @up x y r k hx h hk ih =>
    obtain ⟨l, h1, h2, h3⟩ := ih; refine ⟨x :: l, by simp [h1], List.nodup_cons.2 ⟨fun hm => ?_, h2⟩, fun z hz => ?_⟩
    · obtain ⟨_, j, hj, hj2⟩ := h3 _ hm; have := (Tp.up hx h hk).det hj2; omega
    · rcases List.mem_cons.1 hz with rfl | hz
      · exact ⟨hx, k + 1, Nat.le_refl _, .up hx h hk⟩
      · obtain ⟨e1, j, e2, e3⟩ := h3 z hz; exact ⟨e1, j, by omega, e3⟩
theorem Tp.short {x r k : Nat} (h : Tp t x r k) : k < t.length := by
  obtain ⟨l, h1, h2, h3⟩ := h.list; have := Ic t.length l h2 fun y hy => (h3 y hy).1; omega
theorem Tp.upD {x r k : Nat} (h : Tp t x r k) : ∀ m, k < m → ∃ q, upD t m (x : Int) = some q ∧ (∀ w : Int, w ∈ q ↔ ∃ z : Nat, w = (z : Int) ∧ UpTo (A2 t) x z) ∧
    ∀ p : Int → Bool, (q.find? p = none ∧ ∀ z : Nat, UpTo (A2 t) x z → p (z : Int) = false) ∨ ∃ f : Nat, q.find? p = some (f : Int) ∧ UpTo (A2 t) x f ∧ p (f : Int) = true ∧ ∀ z : Nat, UpTo (A2 t) x z → p (z : Int) = true → UpTo (A2 t) f z := by
  induction h with
  | @top x hx h =>
    intro m hm; obtain ⟨m, rfl⟩ : ∃ i, m = i + 1 := ⟨m - 1, by omega⟩
    have htop : ∀ z, UpTo (A2 t) x z ↔ z = x := fun z => Qu fun p hp => by have : _ = _ := hp.symm.trans h; omega
    unfold Go.Proofs.Ytjdddniaokcgnaa.upD; rw [if_pos ⟨by omega, by omega⟩, Ao, if_pos h]; refine ⟨_, rfl, fun w => ?_, fun p => ?_⟩
    · rw [List.mem_singleton]
      constructor
      · rintro rfl; exact ⟨x, rfl, .refl _⟩
      · rintro ⟨z, rfl, hz⟩; rw [(htop z).1 hz]
    · cases hpp : p (x : Int) with
      | false => exact .inl ⟨by simp [List.find?, hpp], fun z hz => by rw [(htop z).1 hz]; exact hpp⟩
      | true => exact .inr ⟨x, by simp [List.find?, hpp], .refl _, hpp, fun z hz _ => hz⟩
  | @up x y r k hx h hk ih =>
    intro m hm; obtain ⟨m, rfl⟩ : ∃ i, m = i + 1 := ⟨m - 1, by omega⟩; unfold Go.Proofs.Ytjdddniaokcgnaa.upD; rw [if_pos ⟨by omega, by omega⟩, Ao, if_neg (by omega), h]; obtain ⟨q, hq1, hq2, hq3⟩ := ih m (by omega); rw [hq1]; refine ⟨(x : Int) :: q, rfl, fun w => ?_, fun p => ?_⟩
    · rw [List.mem_cons, hq2 w]
      constructor
      · rintro (rfl | ⟨y, rfl, hy⟩)
        · exact ⟨x, rfl, .refl _⟩
        · exact ⟨y, rfl, .up h hy⟩
      · rintro ⟨y, rfl, hy⟩; rcases (anc_up h).1 hy with rfl | hy
        · exact .inl rfl
        · exact .inr ⟨y, rfl, hy⟩
    · cases hpp : p (x : Int) with
      | true => exact .inr ⟨x, by simp [List.find?, hpp], .refl _, hpp, fun y hy _ => hy⟩
      | false =>
        have hf : ((x : Int) :: q).find? p = q.find? p := by simp [List.find?, hpp]
        rw [hf]; rcases hq3 p with ⟨e1, e2⟩ | ⟨f, e1, e2, e3, e4⟩
        · refine .inl ⟨e1, fun y hy => ?_⟩; rcases (anc_up h).1 hy with rfl | hy
          · exact hpp
          · exact e2 y hy
        · refine .inr ⟨f, e1, .up h e2, e3, fun y hy hpy => ?_⟩; rcases (anc_up h).1 hy with rfl | hy
          · rw [hpp] at hpy; cases hpy
          · exact e4 y hy hpy
theorem upD_tp : ∀ m (a : Int) q, upD t m a = some q → ∃ x r k : Nat, a = (x : Int) ∧ k < m ∧ Tp t x r k := by
  intro m
  induction m with
  | zero => intro a q h; cases h
  | succ m ih =>
    intro a q h; unfold Go.Proofs.Ytjdddniaokcgnaa.upD at h
    by_cases ha : 0 ≤ a ∧ a < (t.length : Int)
    · rw [if_pos ha] at h; have e : ((a.toNat : Nat) : Int) = a := Int.toNat_of_nonneg ha.1
      by_cases h1 : t.getD a.toNat 0 = -1
      · exact ⟨a.toNat, a.toNat, 0, e.symm, by omega, .top (by omega) h1⟩
      · rw [if_neg h1] at h
        cases hu : Go.Proofs.Ytjdddniaokcgnaa.upD t m (t.getD a.toNat 0) with
        | none => rw [hu] at h; cases h
        | some q' =>
          obtain ⟨y, r, k, e1, e2, e3⟩ := ih _ _ hu; exact ⟨a.toNat, r, k + 1, e.symm, by omega, .up (by omega) e1 e3⟩
    · rw [if_neg ha] at h; cases h
theorem pathD_tp {a : Int} : E0 t a ≠ [] ↔ ∃ x r k : Nat, a = (x : Int) ∧ Tp t x r k := by
  constructor
  · intro h
    cases hu : upD t t.length a with
    | none => exact absurd (pathD_nil.2 hu) h
    | some q => obtain ⟨x, r, k, e1, _, e2⟩ := upD_tp _ _ _ hu; exact ⟨x, r, k, e1, e2⟩
  · rintro ⟨x, r, k, rfl, h⟩ e; obtain ⟨q, hq, _⟩ := h.upD t.length h.short; rw [pathD_nil.1 e] at hq; cases hq
theorem Tp.path {x r k : Nat} (h : Tp t x r k) : (∀ w : Int, w ∈ E0 t (x : Int) ↔ ∃ z : Nat, w = (z : Int) ∧ UpTo (A2 t) x z) ∧
    ∀ p : Int → Bool, ((E0 t (x : Int)).find? p = none ∧ ∀ z : Nat, UpTo (A2 t) x z → p (z : Int) = false) ∨ ∃ f : Nat, (E0 t (x : Int)).find? p = some (f : Int) ∧ UpTo (A2 t) x f ∧ p (f : Int) = true ∧ ∀ z : Nat, UpTo (A2 t) x z → p (z : Int) = true → UpTo (A2 t) f z := by
  obtain ⟨q, h1, h2, h3⟩ := h.upD t.length h.short
  have e : E0 t (x : Int) = q := by unfold E0; rw [h1]; rfl
  rw [e]; exact ⟨h2, h3⟩
theorem Sf {α : Type} {l : List α} {i j : Nat} {x d : α} (hi : i < l.length) : (l.set i x).getD j d = if j = i then x else l.getD j d := by
  by_cases h : j = i
  · subst h; simp [List.getD, hi]
  · simp [List.getD, h, Ne.symm h]
theorem meet_L1 {x r k : Nat} (h : Tp t x r k) : ∀ l : List Bool, l.length = t.length → ∃ l', Ay (C4 t) ((x : Int), l) = some l' ∧ l'.length = t.length ∧ ∀ z, z < t.length → (l'.getD z false = true ↔ l.getD z false = true ∨ UpTo (A2 t) x z) := by
  induction h with
  | @top x hx h =>
    intro l hl
    have hs : C4 t ((x : Int), l) = some (.next (-1, l.set x true)) := by
      unfold C4
      have hb : ((x : Int) != (-1 : Int)) = true := by rw [bne_iff_ne]; omega
      simp only [hb, cond_true, Ao, h]; rw [Ad (D3 (by omega)), Ad (D3 hx)]
    have hd : C4 t (-1, l.set x true) = some (.done (l.set x true)) := by
      unfold C4
      rfl
    refine ⟨l.set x true, by rw [Bb hs, A1 hd], by simp [hl], fun z hz => ?_⟩; rw [Sf (by omega)]
    have htop : UpTo (A2 t) x z ↔ z = x := Qu fun p hp => by have : _ = _ := hp.symm.trans h; omega
    rw [htop]
    by_cases e : z = x
    · simp [e]
    · simp [e]
  | @up x y r k hx h hk ih =>
    intro l hl
    have hs : C4 t ((x : Int), l) = some (.next ((y : Int), l.set x true)) := by
      unfold C4
      have hb : ((x : Int) != (-1 : Int)) = true := by rw [bne_iff_ne]; omega
      simp only [hb, cond_true, Ao, h]; rw [Ad (D3 (by omega)), Ad (D3 hx)]
    obtain ⟨l', e1, e2, e3⟩ := ih (l.set x true) (by simp [hl]); refine ⟨l', by rw [Bb hs, e1], e2, fun z hz => ?_⟩; rw [e3 z hz, Sf (by omega), anc_up (par := A2 t) h]
    by_cases e : z = x
    · simp [e]
    · simp [e]
theorem meet_L2 {b r k : Nat} (h : Tp t b r k) (l : List Bool) (hl : l.length = t.length) : l.getD r false = true → ∃ c : Nat, Ay (C6 t l) (b : Int) = some (c : Int) ∧ UpTo (A2 t) b c ∧ l.getD c false = true ∧ ∀ z, UpTo (A2 t) b z → l.getD z false = true → UpTo (A2 t) c z := by
  induction h with
  | @top x hx h =>
    intro hr
    have hd : C6 t l (x : Int) = some (.done (x : Int)) := by
      unfold C6; rw [Ad (D3 (by omega)), Ao, hr]
      rfl
    exact ⟨x, A1 hd, .refl _, hr, fun z hz _ => hz⟩
  | @up x y r k hx h hk ih =>
    intro hr
    cases hx2 : l.getD x false with
    | true =>
      have hd : C6 t l (x : Int) = some (.done (x : Int)) := by
        unfold C6; rw [Ad (D3 (by omega)), Ao, hx2]
        rfl
      exact ⟨x, A1 hd, .refl _, hx2, fun z hz _ => hz⟩
    | false =>
      have hs : C6 t l (x : Int) = some (.next (y : Int)) := by
        unfold C6; rw [Ad (D3 (by omega)), Ao, hx2, Bool.not_false, cond_true, Ad (D3 hx), h]
      obtain ⟨c, e1, e2, e3, e4⟩ := ih hr; refine ⟨c, by rw [Bb hs, e1], .up h e2, e3, fun z hz hlz => ?_⟩; rcases (anc_up (par := A2 t) h).1 hz with rfl | hz
      · rw [hx2] at hlz; cases hlz
      · exact e4 z hz hlz
theorem P9 (ht : t.length ≤ 1000) {a b r k m : Nat} (ha : Tp t a r k) (hb : Tp t b r m) : ∃ c : Nat, Fj t (a : Int) (b : Int) = some (c : Int) ∧ MeetAt (A2 t) a b c := by
  unfold Fj
  have hroom : (1000 : Nat) ≤ room := by decide
  rw [Ad ⟨by omega, by omega, by omega⟩, Ao]; obtain ⟨l', h1, h2, h3⟩ := meet_L1 ha (List.replicate t.length false) (by simp); rw [h1, Option.bind_some]
  have h3' : ∀ z, z < t.length → (l'.getD z false = true ↔ UpTo (A2 t) a z) := fun z hz => by rw [h3 z hz, Ht]; simp
  obtain ⟨c, e1, e2, e3, e4⟩ := meet_L2 hb l' h2 ((h3' r ha.tops.1).2 ha.upTo)
  have hc : c < t.length := by obtain ⟨j, _, hj, _⟩ := hb.on e2; exact hj.lt
  refine ⟨c, by rw [e1]; rfl, fun w => ⟨fun hw => ⟨((h3' c hc).1 e3).trans hw, e2.trans hw⟩, fun ⟨hw1, hw2⟩ => ?_⟩⟩; obtain ⟨j, _, hj, _⟩ := ha.on hw1; exact e4 w hw2 ((h3' w hj.lt).2 hw1)
theorem meetD_at (hR : Fl t = true) {a b r k m : Nat} (ha : Tp t a r k) (hb : Tp t b r m) : ∃ c : Nat, Jv t (a : Int) (b : Int) = (c : Int) ∧ MeetAt (A2 t) a b c := by
  unfold Jv; rw [if_pos hR]
  have hcon : ∀ z : Nat, (E0 t (b : Int)).contains (z : Int) = true ↔ UpTo (A2 t) b z := fun z => by
    rw [List.contains_iff_mem, hb.path.1]
    constructor
    · rintro ⟨y, e, hy⟩; cases Int.ofNat.inj e; exact hy
    · intro hz; exact ⟨z, rfl, hz⟩
  rcases ha.path.2 (fun x => (E0 t (b : Int)).contains x) with ⟨e1, e2⟩ | ⟨f, e1, e2, e3, e4⟩
  · have := e2 r ha.upTo; rw [(hcon r).2 hb.upTo] at this
    cases this
  · exact ⟨f, by rw [e1]; rfl, fun w => ⟨fun hw => ⟨e2.trans hw, ((hcon f).1 e3).trans hw⟩, fun ⟨hw1, hw2⟩ => e4 w hw1 ((hcon w).2 hw2)⟩⟩
theorem MeetAt.same {a b r k c d : Nat} (ha : Tp t a r k) (hc : MeetAt (A2 t) a b c) (hd : MeetAt (A2 t) a b d) : c = d := by
  obtain ⟨j, _, hj, _⟩ := ha.on ((hc c).1 (.refl _)).1; exact (hj.anti ((hc d).2 ((hd d).1 (.refl _))) ((hd c).2 ((hc c).1 (.refl _)))).symm
end
end
end Go.Proofs.Ytjdddniaokcgnaa

namespace Go.Proofs.Ytjdddniaokcgnaa
noncomputable section
open Go Go.RowKit
set_option linter.unusedVariables false
set_option linter.unusedSimpArgs false
theorem m_index (t : List Int) (v : Int) (ht : t.length ≤ 1000) : (∃ r : Nat, r < t.length ∧ t.getD r 0 = v ∧ (∀ i, i < r → t.getD i 0 ≠ v) ∧ Cu t v = some (r : Int)) ∨ ((∀ i, i < t.length → t.getD i 0 ≠ v) ∧ Cu t v = some (-1)) := by
  have key : ∀ k i : Nat, i + k = t.length → (∀ j, j < i → t.getD j 0 ≠ v) →
      (∃ r : Nat, r < t.length ∧ t.getD r 0 = v ∧ (∀ i, i < r → t.getD i 0 ≠ v) ∧ Ay (Bw t v) (i : Int) = some (.inr (r : Int))) ∨ ((∀ i, i < t.length → t.getD i 0 ≠ v) ∧ Ay (Bw t v) (i : Int) = some (.inl ())) := by
    intro k
    induction k with
    | zero =>
      intro i hi hj
      obtain rfl : i = t.length := by omega
      refine .inr ⟨hj, A1 ?_⟩; unfold Bw; rw [Ej]; rfl
    | succ k ih =>
      intro i hi hj
      by_cases e : v = t.getD i 0
      · refine .inl ⟨i, by omega, e.symm, hj, A1 ?_⟩; unfold Bw; have hb : ((v : Int) == t.getD i 0) = true := beq_iff_eq.2 e; simp only [Cx (show i < t.length by omega), cond_true, Ao, hb]; rw [Ad (D3 (by omega))]
      · have hs : Bw t v (i : Int) = some (.next ((i + 1 : Nat) : Int)) := by
          unfold Bw; have hb : ((v : Int) == t.getD i 0) = false := beq_eq_false_iff_ne.2 e; simp only [Cx (show i < t.length by omega), cond_true, Ao, hb, cond_false]; rw [Ad (D3 (by omega)), w1 (by omega)]
        rw [Bb hs]
        exact ih (i + 1) (by omega) fun j hj2 => by
          by_cases ej : j = i
          · subst ej; exact fun h => e h.symm
          · exact hj j (by omega)
  have h0 := key t.length 0 (by omega) (fun j hj => absurd hj (Nat.not_lt_zero _)); unfold Cu; rcases h0 with ⟨r, h1, h2, h3, h4⟩ | ⟨h1, h2⟩
  · exact .inl ⟨r, h1, h2, h3, by rw [show ((0 : Int)) = ((0 : Nat) : Int) from rfl, h4]; rfl⟩
  · exact .inr ⟨h1, by rw [show ((0 : Int)) = ((0 : Nat) : Int) from rfl, h2]; rfl⟩
section
variable {t : List Int}
structure M5 (t : List Int) (r f : Nat) (w : List Int) : Prop where
  len : w.length = t.length
  old : ∀ y, y < t.length → w.getD y 0 ≠ 0 → (w.getD y 0 ≤ (f : Int)) ∧ ∃ k, Tp t y r k
structure Walk (t : List Int) (r f x : Nat) (w : List Int) : Prop where
  len : w.length = t.length
  hx : x < t.length
  old : ∀ y, y < t.length → w.getD y 0 ≠ 0 → w.getD y 0 ≤ (f : Int) ∧ (∃ k, Tp t y r k) ∨ w.getD y 0 = ((f + 1 : Nat) : Int) ∧ ∀ r' k, Tp t x r' k → ∃ j, k < j ∧ Tp t y r' j
  fwd : ∀ r' k, Tp t x r' k → ∃ j, k ≤ j ∧ Tp t f r' j
  back : ∀ r' k, Tp t f r' k → ∃ j, Tp t x r' j
def Uv (w : List Int) : Nat := w.countP fun z => z == 0
theorem zeros_set {w : List Int} {x : Nat} {v : Int} (hx : x < w.length) (h0 : w.getD x 0 = 0) (hv : v ≠ 0) : Uv (w.set x v) < Uv w := by
  unfold Uv; rw [List.countP_set hx]; rw [Am _ _ _ hx] at h0; have hp : 0 < w.countP fun z => z == 0 := List.countP_pos_iff.2 ⟨w[x], List.getElem_mem hx, by simp [h0]⟩; have hb : (v == 0) = false := beq_eq_false_iff_ne.2 hv; simp only [h0, beq_self_eq_true, if_true, hb, Bool.false_eq_true, if_false]; omega
theorem leads_loop (ht : t.length ≤ 1000) {r : Nat} (hr : r < t.length) (htop : t.getD r 0 = -1) {f : Nat} (hf : f < t.length) : ∀ (m x : Nat) (w : List Int), Uv w ≤ m → Walk t r f x w →
    (∃ w', Ay (Ca t (f : Int) (r : Int)) ((x : Int), w) = some (.inl w') ∧ M5 t r (f + 1) w' ∧ ∃ k, Tp t f r k) ∨
    ∃ b w', Ay (Ca t (f : Int) (r : Int)) ((x : Int), w) = some (.inr (b, w')) ∧ w'.length = t.length ∧ (b = true → M5 t r (f + 1) w' ∧ ∃ k, Tp t f r k) ∧ (b = false → ∀ k, ¬ Tp t f r k) := by
  intro m
  induction m with
  | zero =>
    intro x w hz hw; exact go 0 (fun x w hz => absurd hz (Nat.not_lt_zero _)) x w hz hw
  | succ m ih =>
    intro x w hz hw; exact go (m + 1) (fun x w hz => ih x w (Nat.le_of_lt_succ hz)) x w hz hw
where
  go (m : Nat) (ih : ∀ (x : Nat) (w : List Int), Uv w < m → Walk t r f x w →
    (∃ w', Ay (Ca t (f : Int) (r : Int)) ((x : Int), w) = some (.inl w') ∧ M5 t r (f + 1) w' ∧ ∃ k, Tp t f r k) ∨
    ∃ b w', Ay (Ca t (f : Int) (r : Int)) ((x : Int), w) = some (.inr (b, w')) ∧ w'.length = t.length ∧ (b = true → M5 t r (f + 1) w' ∧ ∃ k, Tp t f r k) ∧ (b = false → ∀ k, ¬ Tp t f r k)) (x : Nat) (w : List Int) (hz : Uv w ≤ m) (hw : Walk t r f x w) :
    (∃ w', Ay (Ca t (f : Int) (r : Int)) ((x : Int), w) = some (.inl w') ∧ M5 t r (f + 1) w' ∧ ∃ k, Tp t f r k) ∨
    ∃ b w', Ay (Ca t (f : Int) (r : Int)) ((x : Int), w) = some (.inr (b, w')) ∧ w'.length = t.length ∧ (b = true → M5 t r (f + 1) w' ∧ ∃ k, Tp t f r k) ∧ (b = false → ∀ k, ¬ Tp t f r k) := by
    have hxl := hw.hx
    have told : ∀ k, Tp t x r k → M5 t r (f + 1) w ∧ ∃ k, Tp t f r k := fun k hk => by
      obtain ⟨j, _, hj⟩ := hw.fwd _ _ hk; refine ⟨⟨hw.len, fun y hy hy0 => ?_⟩, j, hj⟩; rcases hw.old y hy hy0 with ⟨h1, h2⟩ | ⟨h1, h2⟩
      · exact ⟨by omega, h2⟩
      · obtain ⟨i, _, hi⟩ := h2 _ _ hk; exact ⟨by omega, i, hi⟩
    by_cases hxr : x = r
    · subst hxr; refine .inl ⟨w, A1 ?_, told 0 (.top hr htop)⟩; unfold Ca
      have hb : ((x : Int) != (x : Int)) = false := by simp
      simp only [hb, cond_false]
    · have hb : ((x : Int) != (r : Int)) = true := by rw [bne_iff_ne]; omega
      have hin : A8 (x : Int) w.length := D3 (by rw [hw.len]; exact hxl)
      by_cases hw0 : w.getD x 0 = 0
      · have hb0 : ((w.getD x 0 : Int) != 0) = false := by rw [hw0]; rfl
        by_cases hpl : 0 ≤ t.getD x 0 ∧ t.getD x 0 < (t.length : Int)
        · have hwf : Bi ((f : Int) + 1) = ((f + 1 : Nat) : Int) := w1 (by omega)
          have hs : Ca t (f : Int) (r : Int) ((x : Int), w) = some (.next (t.getD x 0, w.set x ((f + 1 : Nat) : Int))) := by
            unfold Ca Eo; simp only [hb, cond_true, Ao, hb0, cond_false]; rw [Ad hin, Ad (D3 hxl), decide_eq_true hpl.1, decide_eq_true hpl.2, cond_true, Option.bind_some, Bool.not_true, cond_false, Ad hin, Ad (D3 hxl), hwf]
          rw [Bb hs]; obtain ⟨y, hy⟩ : ∃ y : Nat, t.getD x 0 = (y : Int) := ⟨(t.getD x 0).toNat, (Int.toNat_of_nonneg hpl.1).symm⟩; rw [hy] at hpl ⊢
          have hyl : y < t.length := by omega
          have hst : ∀ r' k, Tp t y r' k → Tp t x r' (k + 1) := fun r' k hk => .up hxl hy hk
          have hset : ∀ z, z < t.length → (w.set x ((f + 1 : Nat) : Int)).getD z 0 = if z = x then ((f + 1 : Nat) : Int) else w.getD z 0 := fun z _ => Sf (by rw [hw.len]; exact hxl)
          have hW : Walk t r f y (w.set x ((f + 1 : Nat) : Int)) := by
            refine ⟨by simp [hw.len], hyl, fun z hzl hz0 => ?_, fun r' k hk => ?_, fun r' k hk => ?_⟩
            · rw [hset z hzl] at hz0 ⊢
              by_cases e : z = x
              · subst e; rw [if_pos rfl]; exact .inr ⟨rfl, fun r' k hk => ⟨k + 1, by omega, hst r' k hk⟩⟩
              · rw [if_neg e] at hz0 ⊢; rcases hw.old z hzl hz0 with h1 | ⟨h1, h2⟩
                · exact .inl h1
                · refine .inr ⟨h1, fun r' k hk => ?_⟩; obtain ⟨j, hj1, hj2⟩ := h2 _ _ (hst r' k hk); exact ⟨j, by omega, hj2⟩
            · obtain ⟨j, hj1, hj2⟩ := hw.fwd _ _ (hst r' k hk); exact ⟨j, by omega, hj2⟩
            · obtain ⟨j, hj⟩ := hw.back _ _ hk
              cases hj with
              | top _ h2 => omega
              | up _ h2 h3 =>
                have := hy.symm.trans h2
                cases Int.ofNat.inj this
                exact ⟨_, h3⟩
          have hzz := zeros_set (x := x) (v := ((f + 1 : Nat) : Int)) (by rw [hw.len]; exact hxl) hw0 (by omega); exact ih y _ (by omega) hW
        · refine .inr ⟨false, w, A1 ?_, hw.len, ⟨fun h => (by cases h), fun _ k hk => ?_⟩⟩
          · unfold Ca Eo; simp only [hb, cond_true, Ao, hb0, cond_false]; rw [Ad hin, Ad (D3 hxl)]
            have : (bif decide ((0 : Int) ≤ t.getD x 0) then decide (t.getD x 0 < (t.length : Int)) else false) = false := by
              cases h1 : decide ((0 : Int) ≤ t.getD x 0) with
              | false => rfl
              | true => rw [cond_true]; exact decide_eq_false fun h2 => hpl ⟨of_decide_eq_true h1, h2⟩
            rw [this, Option.bind_some]
            rfl
          · obtain ⟨j, hj⟩ := hw.back _ _ hk
            cases hj with
            | top => exact hxr rfl
            | up _ h2 h3 => have := h3.lt; exact hpl ⟨by omega, by omega⟩
      · have hb0 : ((w.getD x 0 : Int) != 0) = true := by rw [bne_iff_ne]; exact hw0
        have hwf : Bi ((f : Int) + 1) = ((f + 1 : Nat) : Int) := w1 (by omega); refine .inr ⟨w.getD x 0 != ((f + 1 : Nat) : Int), w, A1 ?_, hw.len, ⟨fun h => ?_, fun h k hk => ?_⟩⟩
        · unfold Ca; simp only [hb, cond_true, Ao, hb0]; rw [Ad hin, Ad hin, hwf]
        · rcases hw.old x hxl hw0 with ⟨_, k, hk⟩ | ⟨h1, _⟩
          · exact told k hk
          · rw [h1] at h; simp at h
        · have he : w.getD x 0 = ((f + 1 : Nat) : Int) := by simpa using h
          obtain ⟨j, hj⟩ := hw.back _ _ hk; rcases hw.old x hxl hw0 with ⟨h1, _⟩ | ⟨_, h2⟩
          · omega
          · obtain ⟨i, hi1, hi2⟩ := h2 _ _ hj; have := hj.det hi2; omega
end
end
end Go.Proofs.Ytjdddniaokcgnaa

namespace Go.Proofs.Ytjdddniaokcgnaa
noncomputable section
open Go Go.RowKit
set_option linter.unusedVariables false
set_option linter.unusedSimpArgs false
section
variable {t : List Int}
theorem m_leads (ht : t.length ≤ 1000) {r : Nat} (hr : r < t.length) (htop : t.getD r 0 = -1) {f : Nat} (hf : f < t.length) {w : List Int} (hw : M5 t r f w) :
    ∃ b w', Ho t w (f : Int) (r : Int) = some (b, w') ∧ w'.length = t.length ∧ (b = true → M5 t r (f + 1) w' ∧ ∃ k, Tp t f r k) ∧ (b = false → ∀ k, ¬ Tp t f r k) := by
  unfold Ho; have hW : Walk t r f f w := ⟨hw.len, hf, fun y hy h0 => .inl (hw.old y hy h0), fun r' k hk => ⟨k, Nat.le_refl _, hk⟩, fun r' k hk => ⟨k, hk⟩⟩; rcases leads_loop ht hr htop hf _ f w (Nat.le_refl _) hW with ⟨w', e1, e2⟩ | ⟨b, w', e1, e2, e3, e4⟩
  · exact ⟨true, w', by rw [e1]; rfl, e2.1.len, fun _ => e2, fun h => by cases h⟩
  · exact ⟨b, w', by rw [e1]; rfl, e2, e3, e4⟩
def Uz (t : List Int) (r : Nat) : Prop := ∀ f, f < t.length → t.getD f 0 ≠ -2 → ∃ k, Tp t f r k
open Classical in
theorem Wp (ht : t.length ≤ 1000) {r : Nat} (hr : r < t.length) (htop : t.getD r 0 = -1) : ∀ (k f : Nat) (w : List Int), f + k = t.length → M5 t r f w → (∀ y, y < f → t.getD y 0 ≠ -2 → ∃ k, Tp t y r k) →
    Ay (C9 t (r : Int)) ((f : Int), w) = some (if Uz t r then .inl () else .inr false) := by
  intro k
  induction k with
  | zero =>
    intro f w hk hw hd
    obtain rfl : f = t.length := by omega
    apply A1
    unfold C9; simp only [Ej, cond_false]; rw [if_pos (show Uz t r from hd)]
  | succ k ih =>
    intro f w hk hw hd
    have hf : f < t.length := by omega
    by_cases h2 : t.getD f 0 = -2
    · have hb : ((t.getD f 0 : Int) != (-2)) = false := by rw [h2]; rfl
      have hs : C9 t (r : Int) ((f : Int), w) = some (.next (((f + 1 : Nat) : Int), w)) := by
        unfold C9; simp only [Cx hf, cond_true, Ao, hb, show (false == true) = false from rfl, cond_false, Option.bind_some]; rw [Ad (D3 hf), Ad (fun h => by cases h), w1 (by omega)]
      rw [Bb hs]; refine ih (f + 1) w (by omega) ⟨hw.len, fun y hy h0 => ?_⟩ fun y hy hy2 => ?_
      · obtain ⟨e1, e2⟩ := hw.old y hy h0; exact ⟨by omega, e2⟩
      · by_cases e : y = f
        · subst e; exact absurd h2 hy2
        · exact hd y (by omega) hy2
    · have hb : ((t.getD f 0 : Int) != (-2)) = true := by rw [bne_iff_ne]; exact h2
      obtain ⟨b, w', e1, e2, e3, e4⟩ := m_leads ht hr htop hf hw
      cases b with
      | false =>
        rw [if_neg (fun hA : Uz t r => by obtain ⟨k, hk⟩ := hA f hf h2; exact e4 rfl k hk)]
        apply A1
        unfold C9; simp only [Cx hf, cond_true, Ao, hb, show (true == true) = true from rfl, e1, Option.bind_some]; rw [Ad (D3 hf), Ad (fun _ => by rw [hw.len, e2])]
        rfl
      | true =>
        have hs : C9 t (r : Int) ((f : Int), w) = some (.next (((f + 1 : Nat) : Int), w')) := by
          unfold C9; simp only [Cx hf, cond_true, Ao, hb, show (true == true) = true from rfl, e1, Option.bind_some]; rw [Ad (D3 hf), Ad (fun _ => by rw [hw.len, e2]), w1 (by omega)]
          rfl
        rw [Bb hs]; obtain ⟨e5, e6⟩ := e3 rfl; refine ih (f + 1) w' (by omega) e5 fun y hy hy2 => ?_
        by_cases e : y = f
        · subst e; exact e6
        · exact hd y (by omega) hy2
theorem tops_one : N4 t t.length = 1 ↔ ∃ r, r < t.length ∧ t.getD r 0 = -1 ∧ ∀ x, x < t.length → t.getD x 0 = -1 → x = r := by
  have key : ∀ n, (N4 t n = 0 ↔ ∀ x, x < n → t.getD x 0 ≠ -1) ∧ (N4 t n = 1 ↔ ∃ r, r < n ∧ t.getD r 0 = -1 ∧ ∀ x, x < n → t.getD x 0 = -1 → x = r) := by
    intro n
    induction n with
    | zero => exact ⟨⟨fun _ x hx => absurd hx (Nat.not_lt_zero _), fun _ => rfl⟩, ⟨fun h => by simp [N4] at h, fun ⟨r, h, _⟩ => absurd h (Nat.not_lt_zero _)⟩⟩
    | succ n ih =>
      rw [Ri]
      by_cases e : t.getD n 0 = -1
      · rw [if_pos e]; refine ⟨⟨fun h => by omega, fun h => absurd e (h n (by omega))⟩, ⟨fun h => ⟨n, by omega, e, fun x hx hx1 => ?_⟩, fun ⟨r, h1, h2, h3⟩ => ?_⟩⟩
        · by_cases ex : x = n
          · exact ex
          · exact absurd hx1 (ih.1.1 (by omega) x (by omega))
        · have := ih.1.2 fun x hx hx1 => by
            have := h3 x (by omega) hx1; have := h3 n (by omega) e; omega
          omega
      · rw [if_neg e, Nat.add_zero]; refine ⟨⟨fun h x hx => ?_, fun h => ih.1.2 fun x hx => h x (by omega)⟩, ⟨fun h => ?_, fun ⟨r, h1, h2, h3⟩ => ?_⟩⟩
        · by_cases ex : x = n
          · subst ex; exact e
          · exact ih.1.1 h x (by omega)
        · obtain ⟨r, h1, h2, h3⟩ := ih.2.1 h; refine ⟨r, by omega, h2, fun x hx hx1 => ?_⟩
          by_cases ex : x = n
          · subst ex; exact absurd hx1 e
          · exact h3 x (by omega) hx1
        · refine ih.2.2 ⟨r, ?_, h2, fun x hx hx1 => h3 x (by omega) hx1⟩
          by_cases ex : r = n
          · subst ex; exact absurd h2 e
          · omega
  exact (key _).2
theorem rightD_iff : Fl t = true ↔ ∃ r, r < t.length ∧ t.getD r 0 = -1 ∧ Uz t r := by
  unfold Fl; rw [Bool.and_eq_true, all_range, decide_eq_true_eq, tops_one]
  constructor
  · rintro ⟨h1, r, h2, h3, h4⟩; refine ⟨r, h2, h3, fun f hf hf2 => ?_⟩; have := h1 f hf; unfold okR at this; rw [Bool.or_eq_true, decide_eq_true_eq, Bool.not_eq_true', decide_eq_false_iff_not] at this; rcases this with h | h
    · exact absurd h hf2
    · obtain ⟨x, r', k, e, hk⟩ := pathD_tp.1 h
      cases Int.ofNat.inj e
      have := h4 _ hk.tops.1 hk.tops.2; subst this; exact ⟨k, hk⟩
  · rintro ⟨r, h2, h3, h4⟩; refine ⟨fun f hf => ?_, r, h2, h3, fun x hx hx1 => ?_⟩
    · unfold okR; rw [Bool.or_eq_true, decide_eq_true_eq, Bool.not_eq_true', decide_eq_false_iff_not]
      by_cases e : t.getD f 0 = -2
      · exact .inl e
      · obtain ⟨k, hk⟩ := h4 f hf e; exact .inr (pathD_tp.2 ⟨f, r, k, rfl, hk⟩)
    · obtain ⟨k, hk⟩ := h4 x hx (by omega); exact ((hk.det (.top hx hx1)).1).symm
theorem U0 (hR : Fl t = true) : ∃ r, Uz t r := by obtain ⟨r, _, _, h⟩ := rightD_iff.1 hR; exact ⟨r, h⟩
theorem m_isTree (ht : t.length ≤ 1000) : Gy t = some (Fl t) := by
  unfold Gy
  have hroom : (1000 : Nat) ≤ room := by decide
  rcases m_index t (-1) ht with ⟨r, h1, h2, h3, h4⟩ | ⟨h1, h2⟩
  · rw [h4, Option.bind_some, show decide ((r : Int) < 0) = false from decide_eq_false (by omega), cond_false, Ad ⟨by omega, by omega, by omega⟩, Ao]; have hl := Wp ht h1 h2 t.length 0 (List.replicate t.length 0) (by omega) ⟨by simp, fun y hy h0 => absurd Ht h0⟩ (fun y hy => absurd hy (Nat.not_lt_zero _)); rw [show (((0 : Nat) : Int)) = 0 from rfl] at hl; rw [hl, Option.bind_some]
    by_cases hA : Uz t r
    · rw [if_pos hA, rightD_iff.2 ⟨r, h1, h2, hA⟩]
    · rw [if_neg hA]
      have : Fl t = false := Bool.eq_false_iff.2 fun hR => by
        obtain ⟨r', g1, g2, g3⟩ := rightD_iff.1 hR; obtain ⟨k, hk⟩ := g3 r h1 (by omega); have := (hk.det (.top h1 h2)).1; subst this; exact hA g3
      rw [this]
  · rw [h2, Option.bind_some]
    have : Fl t = false := Bool.eq_false_iff.2 fun hR => by
      obtain ⟨r', g1, g2, g3⟩ := rightD_iff.1 hR; exact h1 r' g1 g2
    rw [this]
    rfl
def K4 (t : List Int) (a : Int) : Bool := decide (0 ≤ a) && decide (a < (t.length : Int)) && decide (t.getD a.toNat 0 ≠ -2)
theorem S9 (hR : Fl t = true) {a : Int} : K4 t a = true ↔ ∃ x k r : Nat, a = (x : Int) ∧ Tp t x r k := by
  unfold K4; rw [Bool.and_eq_true, Bool.and_eq_true, decide_eq_true_eq, decide_eq_true_eq, decide_eq_true_eq]
  constructor
  · rintro ⟨⟨h1, h2⟩, h3⟩; obtain ⟨r, hA⟩ := U0 hR; obtain ⟨k, hk⟩ := hA a.toNat (by omega) h3; exact ⟨a.toNat, k, r, (Int.toNat_of_nonneg h1).symm, hk⟩
  · rintro ⟨x, k, r, rfl, h⟩; have := h.lt; refine ⟨⟨by omega, by omega⟩, ?_⟩; rw [Ao]
    cases h with
    | top _ h2 => omega
    | up _ h2 _ => omega
theorem Sy (a : Int) : Ew t a = some (K4 t a) := by
  unfold Ew Eo K4; rw [Option.bind_some]
  cases h1 : decide ((0 : Int) ≤ a) with
  | false => rfl
  | true =>
    rw [cond_true, Bool.true_and]
    cases h2 : decide (a < (t.length : Int)) with
    | false => rfl
    | true =>
      rw [Ad (fun _ => ⟨of_decide_eq_true h1, of_decide_eq_true h2⟩), cond_true, Bool.true_and]
      congr 1
      rw [Bool.eq_iff_iff, bne_iff_ne, decide_eq_true_eq]
theorem m_areIn (ht : t.length ≤ 1000) (a b : Int) : Hn t a b = some (Fl t && K4 t a && K4 t b) := by
  unfold Hn; rw [m_isTree ht, Option.bind_some]
  cases Fl t with
  | false => rfl
  | true =>
    simp only [show (true == true) = true from rfl, cond_true, Sy, Option.bind_some, Bool.true_and]
    cases K4 t a with
    | false => rfl
    | true => simp only [show (true == true) = true from rfl, cond_true, Sy, Option.bind_some, Bool.true_and]
theorem Pn {a b : Int} (h : (Fl t && K4 t a && K4 t b) = false) : Jv t a b = -2 := by
  unfold Jv
  by_cases hR : Fl t = true
  · rw [if_pos hR]; rw [hR, Bool.true_and] at h
    have hno : ∀ c, K4 t c = false → E0 t c = [] := fun c hc => by
      by_cases e : E0 t c = []
      · exact e
      · obtain ⟨x, r, k, e1, e2⟩ := pathD_tp.1 e; rw [(S9 hR).2 ⟨x, k, r, e1, e2⟩] at hc; cases hc
    cases ha : K4 t a with
    | false => rw [hno a ha]; rfl
    | true =>
      rw [ha, Bool.true_and] at h; rw [hno b h]
      have : ((E0 t a).find? fun x => ([] : List Int).contains x) = none := List.find?_eq_none.2 fun x _ => by simp
      rw [this]
      rfl
  · rw [if_neg hR]
theorem Tx (ht : t.length ≤ 1000) {a b : Int} (h : (Fl t && K4 t a && K4 t b) = true) : Fj t a b = some (Jv t a b) ∧ 0 ≤ Jv t a b := by
  rw [Bool.and_eq_true, Bool.and_eq_true] at h; obtain ⟨⟨hR, ha⟩, hb⟩ := h; obtain ⟨x, k, r, rfl, hx⟩ := (S9 hR).1 ha; obtain ⟨y, m, r', rfl, hy⟩ := (S9 hR).1 hb; obtain ⟨rr, hA⟩ := U0 hR
  have top : ∀ {x r k}, Tp t x r k → r = rr := fun {x r k} h => by
    obtain ⟨i, hi⟩ := hA r h.tops.1 (by rw [h.tops.2]; omega); exact ((Tp.top h.tops.1 h.tops.2).det hi).1
  obtain rfl := top hx; obtain rfl := top hy; obtain ⟨c, h1, h2⟩ := P9 ht hx hy; obtain ⟨d, h3, h4⟩ := meetD_at hR hx hy; have := h2.same hx h4; subst this; exact ⟨by rw [h1, h3], by omega⟩
theorem Vc (ht : t.length ≤ 1000) (a b : Int) : Gd t a b = some (Gz t a b) := by
  unfold Gd Gz; rw [m_areIn ht, Option.bind_some]
  cases h : (Fl t && K4 t a && K4 t b) with
  | false =>
    rw [Pn h]
    have : ((-2 : Int) == a && ((-2 : Int) != -2)) = false := by simp
    rw [this]
    rfl
  | true =>
    obtain ⟨h1, h2⟩ := Tx ht h; simp only [show (true == true) = true from rfl, cond_true, h1, Option.bind_some]
    have : (Jv t a b != -2) = true := by rw [bne_iff_ne]; omega
    rw [this, Bool.and_true]
end
end
end Go.Proofs.Ytjdddniaokcgnaa

namespace Go.Proofs.Ytjdddniaokcgnaa
noncomputable section
open Go Go.RowKit
set_option linter.unusedVariables false
set_option linter.unusedSimpArgs false
theorem mul_fin : ∀ n : Fin 65, G4 (Dq 1) (Dq ((n.val : Nat) : Int)) = some (0, ((n.val : Nat) : Int)) := by decide +kernel
theorem mul_small {n : Nat} (h : n ≤ 64) : G4 (Dq 1) (Dq (n : Int)) = some (0, (n : Int)) := mul_fin ⟨n, by omega⟩
theorem Ym {v : Int} {n : Nat} (hn : n ≤ 64) : ∀ (m i : Nat) (l : List Int), n - i ≤ m → 1 ≤ i → i ≤ n → l.length = n → (∀ j, j < i → l.getD j 0 = v) → Ay Bz ((i : Int), l) = some (List.replicate n v) := by
  intro m
  induction m with
  | zero =>
    intro i l hm h1 h2 hl hv
    obtain rfl : i = n := by omega
    exact fin l hl hv
  | succ m ih =>
    intro i l hm h1 h2 hl hv
    by_cases e : i = n
    · subst e; exact fin l hl hv
    · have hs : Bz ((i : Int), l) = some (.next (((i + Nat.min i (n - i) : Nat) : Int), cpL l i (Nat.min i (n - i)) (fun j => l.getD (0 + j) 0))) := by
        unfold Bz; simp only [hl, Cx (show i < n by omega), cond_true, Ao, Nat.zero_add, Nat.sub_zero]; have hc : (0 : Int) ≤ (i : Int) ∧ i ≤ n := ⟨by omega, h2⟩; have hmn : Nat.min i (n - i) ≤ i := Nat.min_le_left _ _; rw [Ad hc, Ad hc, Jo (by omega) (by omega), Int.natCast_add]
      rw [Bb hs]; have hmn : Nat.min i (n - i) ≤ i ∧ Nat.min i (n - i) ≤ n - i := ⟨Nat.min_le_left _ _, Nat.min_le_right _ _⟩; have hge : 1 ≤ Nat.min i (n - i) := Nat.le_min.2 ⟨h1, by omega⟩; refine ih _ _ (by omega) (by omega) (by omega) (by rw [← Gh]; exact hl) fun j hj => ?_; rw [So _ _ _ _ _ _ (by omega)]
      by_cases hji : i ≤ j ∧ j < i + Nat.min i (n - i)
      · rw [if_pos hji, Nat.zero_add]; exact hv _ (by omega)
      · rw [if_neg hji]; exact hv _ (by omega)
where
  fin {v : Int} {i : Nat} (l : List Int) (hl : l.length = i) (hv : ∀ j, j < i → l.getD j 0 = v) : Ay Bz ((i : Int), l) = some (List.replicate i v) := by
    apply A1
    unfold Bz; simp only [hl, Ej, cond_false]
    congr 2
    refine List.ext_getElem (by simp [hl]) fun j h1 h2 => ?_; rw [← Am _ _ 0 h1, hv j (by omega)]
    simp
theorem m_repeat {v : Int} {n : Nat} (h1 : 1 ≤ n) (hn : n ≤ 64) : Dc [v] (n : Int) = some (List.replicate n v) := by
  have hroom : (64 : Nat) ≤ room := by decide
  unfold Dc; rw [show decide ((n : Int) < 0) = false from decide_eq_false (by omega), cond_false, Option.bind_some]
  show Option.bind (G4 (Dq 1) (Dq (n : Int))) _ = _
  rw [mul_small hn, Option.bind_some]; have e1 : decide ((0 : Int) < (0 : Int)) = false := rfl; have e2 : decide ((9223372036854775807 : Int) < (n : Int)) = false := decide_eq_false (by omega); simp only [e1, e2, cond_false, Option.bind_some]; have ew : Bi (n : Int) = (n : Int) := Jo (by omega) (by omega); rw [ew, Ad ⟨by omega, by omega, by omega⟩, Ao, List.length_replicate, Nat.sub_zero]; have em : Nat.min [v].length n = 1 := Nat.min_eq_left h1; rw [em, Ym hn n 1 _ (by omega) (Nat.le_refl _) h1 (by rw [← Gh]; simp) (fun j hj => ?_)]
  · rfl
  · rw [So _ _ _ _ _ _ (by simp; omega), if_pos ⟨by omega, by omega⟩]
    have : j - 0 = 0 := by omega
    rw [this]; rfl
theorem meet_v2 (t : List Int) (a b : Int) : F4 t a b = (Fj t a b).map fun c => (c, t) := by
  have e1 : G7 t = C4 t := rfl; have e2 : G2 t = C6 t := rfl; unfold F4 Fj; rw [e1, e2]
  by_cases hc : 0 ≤ (t.length : Int) ∧ (t.length : Int) ≤ (t.length : Int) ∧ (t.length : Int) ≤ (room : Int)
  · rw [Ad hc, Ad hc]
    cases Ay (C4 t) (a, List.replicate ((t.length : Int)).toNat false) with
    | none => rfl
    | some x =>
      rw [Option.bind_some, Option.bind_some]
      cases Ay (C6 t x) b with
      | none => rfl
      | some y => rfl
  · have hf : ∀ {R : Type} (k : Option R), Ci (0 ≤ (t.length : Int) ∧ (t.length : Int) ≤ (t.length : Int) ∧ (t.length : Int) ≤ (room : Int)) k = none := fun k => if_neg hc; rw [hf, hf]
    rfl
section
variable {S : Nat → List Nat} {r n : Nat} {P : List Nat}
theorem Inv.tp {at_ : Nat → Nat} {t : List Int} (h : Inv S r n at_ (A2 t)) (hl : t.length = n) : ∀ m x, at_ x ≤ m → x < n → A2 t x ≠ -2 → ∃ k, Tp t x r k := by
  intro m
  induction m with
  | zero =>
    intro x hm hx hp; rcases h.kind x hx with h1 | h1 | ⟨z, hz⟩
    · exact absurd h1 hp
    · subst h1; exact ⟨0, .top (by omega) h.top⟩
    · obtain ⟨_, _, h3, _⟩ := h.up x hx z hz; omega
  | succ m ih =>
    intro x hm hx hp; rcases h.kind x hx with h1 | h1 | ⟨z, hz⟩
    · exact absurd h1 hp
    · subst h1; exact ⟨0, .top (by omega) h.top⟩
    · obtain ⟨z1, z2, z3, _⟩ := h.up x hx z hz; obtain ⟨k, hk⟩ := ih z (by omega) z1 z2; exact ⟨k + 1, .up (by omega) hz hk⟩
def Ou (t l : List Int) (i : Nat) (v : Int) : Prop :=
  (v = -2 ∧ ∀ j, j < i → A2 t (l.getD j 0).toNat = -2) ∨
  ∃ z : Nat, v = (z : Int) ∧ z < t.length ∧ A2 t z ≠ -2 ∧ (∀ w, UpTo (A2 t) z w ↔ ∀ j, j < i → A2 t (l.getD j 0).toNat ≠ -2 → UpTo (A2 t) (l.getD j 0).toNat w)
theorem V6 {at_ : Nat → Nat} {t l : List Int} (ht : t.length ≤ 64) (hll : l.length ≤ 64) (h : Inv S r n at_ (A2 t)) (hl : t.length = n) (hin : ∀ x ∈ l, 0 ≤ x ∧ x < (n : Int)) : ∀ (k i : Nat) (v : Int), i + k = l.length → Ou t l i v →
    ∃ v', Ay (B8 l) (v, (i : Int), t) = some (v', t) ∧ Ou t l l.length v' := by
  intro k
  induction k with
  | zero =>
    intro i v hi hv
    obtain rfl : i = l.length := by omega
    refine ⟨v, A1 ?_, hv⟩; unfold B8; simp only [Ej, cond_false]
  | succ k ih =>
    intro i v hi hv
    have hil : i < l.length := by omega
    obtain ⟨x0, x1⟩ := hin _ (Fp (d := 0) hil); have hxe : (((l.getD i 0).toNat : Nat) : Int) = l.getD i 0 := Int.toNat_of_nonneg x0; have hxin : A8 (l.getD i 0) t.length := inbz x0 (by omega)
    have next : ∀ v', B8 l (v, (i : Int), t) = some (.next (v', ((i + 1 : Nat) : Int), t)) → Ou t l (i + 1) v' → ∃ v', Ay (B8 l) (v, (i : Int), t) = some (v', t) ∧ Ou t l l.length v' := fun v' hs hv' => by
      rw [Bb hs]; exact ih (i + 1) v' (by omega) hv'
    by_cases hp : A2 t (l.getD i 0).toNat = -2
    · have hb : ((t.getD (l.getD i 0).toNat 0 : Int) == -2) = true := beq_iff_eq.2 hp; refine next v ?_ ?_
      · unfold B8; simp only [Cx hil, cond_true, Ao, hb]; rw [Ad (D3 hil), Ad hxin, Option.bind_some, w1 (by omega)]
      · have hstep : ∀ w, (∀ j, j < i → A2 t (l.getD j 0).toNat ≠ -2 → UpTo (A2 t) (l.getD j 0).toNat w) ↔ ∀ j, j < i + 1 → A2 t (l.getD j 0).toNat ≠ -2 → UpTo (A2 t) (l.getD j 0).toNat w := fun w => by
          refine ⟨fun hj j hj1 hj2 => ?_, fun hj j hj1 => hj j (by omega)⟩
          by_cases e : j = i
          · subst e; exact absurd hp hj2
          · exact hj j (by omega) hj2
        rcases hv with ⟨h1, h2⟩ | ⟨z, h1, h2, h3, h4⟩
        · refine .inl ⟨h1, fun j hj => ?_⟩
          by_cases e : j = i
          · subst e; exact hp
          · exact h2 j (by omega)
        · exact .inr ⟨z, h1, h2, h3, fun w => by rw [h4 w, hstep w]⟩
    · have hb : ((t.getD (l.getD i 0).toNat 0 : Int) == -2) = false := beq_eq_false_iff_ne.2 hp; rcases hv with ⟨h1, h2⟩ | ⟨z, h1, h2, h3, h4⟩
      · subst h1; refine next (l.getD i 0) ?_ (.inr ⟨(l.getD i 0).toNat, hxe.symm, by omega, hp, fun w => ⟨fun hw j hj hj2 => ?_, fun hw => hw i (by omega) hp⟩⟩)
        · unfold B8; simp only [Cx hil, cond_true, Ao, hb, cond_false, show ((-2 : Int) == -2) = true from rfl]; rw [Ad (D3 hil), Ad hxin, Option.bind_some, w1 (by omega)]
        · by_cases e : j = i
          · subst e; exact hw
          · exact absurd (h2 j (by omega)) hj2
      · subst h1; have hb2 : ((z : Int) == -2) = false := beq_eq_false_iff_ne.2 (by omega); obtain ⟨k1, hk1⟩ := h.tp hl _ z (Nat.le_refl _) (by omega) h3; obtain ⟨k2, hk2⟩ := h.tp hl _ (l.getD i 0).toNat (Nat.le_refl _) (by omega) hp; obtain ⟨c, c1, c2⟩ := P9 (by omega) hk1 hk2; have hcz := (c2 c).1 (.refl _); obtain ⟨jc, _, hjc, _⟩ := hk1.on hcz.1
        have hcp : A2 t c ≠ -2 := by
          show t.getD c 0 ≠ -2
          cases hjc with
          | top _ h => omega
          | up _ h _ => omega
        refine next (c : Int) ?_ (.inr ⟨c, rfl, hjc.lt, hcp, fun w => ?_⟩)
        · rw [hxe] at c1; unfold B8; simp only [Cx hil, cond_true, Ao, hb, cond_false, hb2, meet_v2, c1, Option.map_some, Option.bind_some]; rw [Ad (D3 hil), Ad hxin, Ad trivial, Option.bind_some, w1 (by omega)]
        · rw [c2 w, h4 w]; refine ⟨fun ⟨a1, a2⟩ j hj hj2 => ?_, fun ha => ⟨fun j hj => ha j (by omega), ha i (by omega) hp⟩⟩
          by_cases e : j = i
          · subst e; exact a2
          · exact a1 j (by omega) hj2
theorem m_meetAll {at_ : Nat → Nat} {t l : List Int} (ht : t.length ≤ 64) (hll : l.length ≤ 64) (h : Inv S r n at_ (A2 t)) (hl : t.length = n) (hin : ∀ x ∈ l, 0 ≤ x ∧ x < (n : Int)) :
    ∃ v, Dr t l = some (v, t) ∧ Ou t l l.length v := by
  obtain ⟨v, h1, h2⟩ := V6 ht hll h hl hin l.length 0 (-2) (by omega) (.inl ⟨rfl, fun j hj => absurd hj (Nat.not_lt_zero _)⟩); refine ⟨v, ?_, h2⟩; unfold Dr; rw [show ((0 : Int)) = ((0 : Nat) : Int) from rfl, h1]
  rfl
end
section
variable {L : List (List Int)} (hm : Ds L = true) {r : Nat} {P : List Nat}
include hm
theorem sN_iff {p y : Nat} (hp : p < L.length) : y ∈ sN L p ↔ Hz L p y = true := by
  rw [goes_iff]; obtain ⟨_, _, h3⟩ := mayS_iff.1 hm
  constructor
  · intro h; obtain ⟨x, hx, rfl⟩ := List.mem_map.1 h; have := Jb (h3 p hp) hx; rw [Int.toNat_of_nonneg this.1]; exact hx
  · intro h; exact List.mem_map.2 ⟨_, h, Ao y⟩
theorem Sk {y : Nat} (hy : y < L.length) {x : Int} : x ∈ (Br L).getD y [] ↔ ∃ p : Nat, x = (p : Int) ∧ p < L.length ∧ y ∈ sN L p := by
  rw [Gk hy]; unfold D0; rw [mem_filt]
  constructor
  · rintro ⟨k, h1, h2, h3⟩; exact ⟨k, h1, h2, (sN_iff hm h2).2 h3⟩
  · rintro ⟨k, h1, h2, h3⟩; exact ⟨k, h1, h2, (sN_iff hm h2).1 h3⟩
theorem Vy (o : Ordered (sN L) r L.length P) {t : List Int} {i : Nat} (h : Ready (sN L) r L.length P t i) (hi : i < P.length) :
    Dr t ((Br L).getD (P.getD i 0) []) = some ((Gc (sN L) L.length t (P.getD i 0) : Int), t) := by
  obtain ⟨hL1, hL64, _⟩ := mayS_iff.1 hm; have hyn : P.getD i 0 < L.length := o.lt (List.mem_cons_of_mem _ (Ig hi))
  have hlen : ((Br L).getD (P.getD i 0) []).length ≤ 64 := by
    rw [Gk hyn]; have := Kg L L.length (P.getD i 0); omega
  obtain ⟨v, h1, h2⟩ := m_meetAll (by rw [h.len]; exact hL64) hlen h.inv h.len fun x hx => by
    obtain ⟨p, rfl, hp, _⟩ := (Sk hm hyn).1 hx; omega
  rw [h1]; have hb := h.best o hi
  have mem : ∀ p, p < L.length → P.getD i 0 ∈ sN L p → ∃ j, j < ((Br L).getD (P.getD i 0) []).length ∧ (((Br L).getD (P.getD i 0) []).getD j 0).toNat = p := fun p hp hy => by
    obtain ⟨j, hj, e⟩ := List.getElem_of_mem ((Sk hm hyn).2 ⟨p, rfl, hp, hy⟩); exact ⟨j, hj, by rw [Am _ _ _ hj, e, Ao]⟩
  have mem' : ∀ j, j < ((Br L).getD (P.getD i 0) []).length → (((Br L).getD (P.getD i 0) []).getD j 0).toNat < L.length ∧ P.getD i 0 ∈ sN L (((Br L).getD (P.getD i 0) []).getD j 0).toNat := fun j hj => by
    obtain ⟨p, e, hp, hy⟩ := (Sk hm hyn).1 (Fp (d := (0 : Int)) hj); rw [e, Ao]; exact ⟨hp, hy⟩
  rcases h2 with ⟨rfl, h3⟩ | ⟨z, rfl, hz, hz2, h4⟩
  · obtain ⟨p, hp, hyp, hp2, _⟩ := hb.fwd; obtain ⟨j, hj, e⟩ := mem p hp hyp; exact absurd (by rw [← e]; exact h3 j hj) hp2
  · have hbest : Best (sN L) L.length (A2 t) (P.getD i 0) z := fun w => by
      rw [h4 w]; refine ⟨fun ha p hp hyp hp2 => ?_, fun ha j hj hj2 => ?_⟩
      · obtain ⟨j, hj, e⟩ := mem p hp hyp; have := ha j hj (by rw [e]; exact hp2); rwa [e] at this
      · obtain ⟨q1, q2⟩ := mem' j hj; exact ha _ q1 q2 hj2
    rw [h.best_eq o hi (by rw [← h.len]; exact hz) hz2 hbest]
end
end
end Go.Proofs.Ytjdddniaokcgnaa

namespace Go.Proofs.Ytjdddniaokcgnaa
noncomputable section
open Go Go.RowKit
set_option linter.unusedVariables false
set_option linter.unusedSimpArgs false
theorem Yd {P : List Nat} {i : Nat} (h : i < P.length) : (Ih P).getD i 0 = ((P.getD i 0 : Nat) : Int) := by
  unfold Ih; rw [Am _ _ _ (by simpa using h), Am _ _ _ h, List.getElem_map]
  rfl
theorem Xh {t : List Int} {x : Nat} {v : Int} (hx : x < t.length) (h : t.getD x 0 = v) : t.set x v = t := by
  subst h; rw [Am _ _ _ hx]; exact List.set_getElem_self hx
section
variable {L : List (List Int)} (hm : Ds L = true) {r : Nat} {P : List Nat} (o : Ordered (sN L) r L.length P)
include hm o
theorem Y9 {t0 : List Int} (h : Ready (sN L) r L.length P t0 0) : ∀ (k i : Nat) (b : Bool), i + k = P.length →
    ∃ b', Ay (Ct (F8 L) (Ih (r :: P))) (b, (i : Int), K6 (sN L) L.length P t0 i) = some (b', K6 (sN L) L.length P t0 P.length) ∧
      (b' = false ↔ b = false ∧ ∀ j, i ≤ j → j < P.length → A2 (K6 (sN L) L.length P t0 j) (P.getD j 0) = (Gc (sN L) L.length (K6 (sN L) L.length P t0 j) (P.getD j 0) : Int)) := by
  have hP64 : P.length ≤ 64 := by
    have h1 := Ic L.length (r :: P) o.nodup fun x hx => o.lt hx; have h2 := (mayS_iff.1 hm).2.1; simp at h1; omega
  have hdl : (Ih (r :: P)).drop (1 : Int).toNat = Ih P := rfl
  have hlen : (Ih P).length = P.length := by simp [Ih]
  intro k
  induction k with
  | zero =>
    intro i b hi
    obtain rfl : i = P.length := by omega
    refine ⟨b, A1 ?_, fun h => ⟨h, fun j h1 h2 => by omega⟩, fun h => h.1⟩; unfold Ct; simp only [hdl, hlen, Ej, cond_false]
  | succ k ih =>
    intro i b hi
    have hil : i < P.length := by omega
    have rd := h.round o i (by omega); have hma := Vy hm o rd hil; have hyn : P.getD i 0 < L.length := o.lt (List.mem_cons_of_mem _ (Ig hil))
    have hyt : P.getD i 0 < (K6 (sN L) L.length P t0 i).length := by rw [rd.len]; exact hyn
    have hpred : (F8 L).Pred = Br L := rfl
    by_cases he : A2 (K6 (sN L) L.length P t0 i) (P.getD i 0) = (Gc (sN L) L.length (K6 (sN L) L.length P t0 i) (P.getD i 0) : Int)
    · have hb : ((Gc (sN L) L.length (K6 (sN L) L.length P t0 i) (P.getD i 0) : Int) != (K6 (sN L) L.length P t0 i).getD (P.getD i 0) 0) = false := by
        have : (K6 (sN L) L.length P t0 i).getD (P.getD i 0) 0 = _ := he; rw [this]; simp
      have hnx : K6 (sN L) L.length P t0 (i + 1) = K6 (sN L) L.length P t0 i := Xh hyt he
      have hs : Ct (F8 L) (Ih (r :: P)) (b, (i : Int), K6 (sN L) L.length P t0 i) = some (.next (b, ((i + 1 : Nat) : Int), K6 (sN L) L.length P t0 (i + 1))) := by
        unfold Ct; simp only [hdl, hlen, Cx hil, cond_true, Ao, Yd hil, hpred, hma, Option.bind_some, hb, cond_false]; rw [Ad (D3 hil), Ad (D3 (by rw [Cr]; exact hyn)), Ad trivial, Ad (D3 hyt), Option.bind_some, w1 (by omega), hnx]
      obtain ⟨b', e1, e2⟩ := ih (i + 1) b (by omega); refine ⟨b', by rw [Bb hs, e1], fun h => ?_, fun ⟨h1, h2⟩ => e2.2 ⟨h1, fun j hj => h2 j (by omega)⟩⟩; obtain ⟨h1, h2⟩ := e2.1 h; refine ⟨h1, fun j hj1 hj2 => ?_⟩
      by_cases e : j = i
      · subst e; exact he
      · exact h2 j (by omega) hj2
    · have hb : ((Gc (sN L) L.length (K6 (sN L) L.length P t0 i) (P.getD i 0) : Int) != (K6 (sN L) L.length P t0 i).getD (P.getD i 0) 0) = true := by
        rw [bne_iff_ne]; exact fun e => he e.symm
      have hs : Ct (F8 L) (Ih (r :: P)) (b, (i : Int), K6 (sN L) L.length P t0 i) = some (.next (true, ((i + 1 : Nat) : Int), K6 (sN L) L.length P t0 (i + 1))) := by
        unfold Ct; simp only [hdl, hlen, Cx hil, cond_true, Ao, Yd hil, hpred, hma, Option.bind_some, hb]; rw [Ad (D3 hil), Ad (D3 (by rw [Cr]; exact hyn)), Ad trivial, Ad (D3 hyt), Ad (D3 hyt), Option.bind_some, w1 (by omega)]
        rfl
      obtain ⟨b', e1, e2⟩ := ih (i + 1) true (by omega); refine ⟨b', by rw [Bb hs, e1], fun h => ?_, fun ⟨h1, h2⟩ => absurd (h2 i (Nat.le_refl _) hil) he⟩; obtain ⟨h1, _⟩ := e2.1 h; cases h1
theorem round_all {t0 : List Int} (h : Ready (sN L) r L.length P t0 0) : ∃ b, Ay (Ct (F8 L) (Ih (r :: P))) (false, (0 : Int), t0) = some (b, K6 (sN L) L.length P t0 P.length) ∧ (b = false ↔ Kw (sN L) L.length P t0) := by
  obtain ⟨b, e1, e2⟩ := Y9 hm o h P.length 0 false (by omega); refine ⟨b, e1, e2.trans ⟨fun ⟨_, h2⟩ => ?_, fun hs => ⟨rfl, fun j _ hj => ?_⟩⟩⟩
  · have key : ∀ j, j ≤ P.length → K6 (sN L) L.length P t0 j = t0 := by
      intro j
      induction j with
      | zero => intro _; rfl
      | succ j ih =>
        intro hj; have ih' := ih (by omega); have rd := h.round o j (by omega)
        have hyn : P.getD j 0 < (K6 (sN L) L.length P t0 j).length := by rw [rd.len]; exact o.lt (List.mem_cons_of_mem _ (Ig (by omega)))
        have : K6 (sN L) L.length P t0 (j + 1) = K6 (sN L) L.length P t0 j := Xh hyn (h2 j (Nat.zero_le _) (by omega)); rw [this, ih']
    intro i hi; have := h2 i (Nat.zero_le _) hi; rwa [key i (by omega)] at this
  · rw [L8 o h.len hs j (by omega)]; exact hs j hj
open Classical in
theorem tree_F3 (j : Nat) : De (F8 L) (Ih (r :: P), Qt (sN L) L.length P (Du L.length r) j) = some (if Kw (sN L) L.length P (Qt (sN L) L.length P (Du L.length r) j) then .done (Qt (sN L) L.length P (Du L.length r) (j + 1)) else .next (Ih (r :: P), Qt (sN L) L.length P (Du L.length r) (j + 1))) := by
  obtain ⟨b, e1, e2⟩ := round_all hm o (Ready.rounds o j); have hL2 : Hj (F8 L) (Ih (r :: P)) = Ct (F8 L) (Ih (r :: P)) := rfl
  have hlen : (0 : Int) ≤ 1 ∧ (1 : Int) ≤ ((Ih (r :: P)).length : Int) := by simp [Ih]; omega
  unfold De; simp only [hL2, e1, Option.bind_some]; rw [Ad hlen]
  cases b with
  | false => rw [if_pos (e2.1 rfl)]; rfl
  | true => rw [if_neg (fun h => by have := e2.2 h; cases this)]; rfl
theorem Wo : ∃ J, Kw (sN L) L.length P (Qt (sN L) L.length P (Du L.length r) J) ∧ Ay (De (F8 L)) (Ih (r :: P), Du L.length r) = some (Qt (sN L) L.length P (Du L.length r) J) := by
  obtain ⟨J, h1, h2⟩ := stops o; refine ⟨J, h2, ?_⟩
  have key : ∀ d j, j + d = J → Ay (De (F8 L)) (Ih (r :: P), Qt (sN L) L.length P (Du L.length r) j) = some (Qt (sN L) L.length P (Du L.length r) J) := by
    intro d
    induction d with
    | zero =>
      intro j hj
      obtain rfl : j = J := by omega
      have hF := tree_F3 hm o j; rw [if_pos h2] at hF; rw [A1 hF]; have : Qt (sN L) L.length P (Du L.length r) (j + 1) = Qt (sN L) L.length P (Du L.length r) j := L8 o (Ready.rounds o j).len h2 P.length (Nat.le_refl _); rw [this]
    | succ d ih =>
      intro j hj; have hF := tree_F3 hm o j; rw [if_neg (h1 j (by omega))] at hF; rw [Bb hF]; exact ih (j + 1) (by omega)
  exact key J 0 (by omega)
end
theorem Z7 (g : Aj) (r : Int) (h1 : Fits g.Succ) (h2 : Fits g.Pred) : Fm g r = some (Xs g r) := by
  unfold Xs
  by_cases hc : Ha g = true ∧ 0 ≤ r ∧ r < (g.Succ.length : Int)
  · rw [if_pos hc]; obtain ⟨hG, h0, hlt⟩ := hc; obtain ⟨hm, hg⟩ := Ow hG; obtain ⟨hL1, hL64, _⟩ := mayS_iff.1 hm
    have hr : r.toNat < g.Succ.length := by omega
    have hrn : ((r.toNat : Nat) : Int) = r := Int.toNat_of_nonneg h0; obtain ⟨O, hO⟩ := Ord.exist (Je hm) hr; have hord := (Vd g h1 trivial r).1 hG h0 hlt O hO; obtain ⟨P, rfl, o⟩ := hO.ordered hr (Je hm); obtain ⟨J, hJ, hl⟩ := Wo hm o; have ht := (Qe o hJ).eq hm hr o; rw [ht] at hl; have hlen : (((Ih (r.toNat :: P)).length : Int) == 0) = false := beq_eq_false_iff_ne.2 (by simp [Ih]; omega)
    have hlen2 : (0 : Int) ≤ 1 ∧ (1 : Int) ≤ ((Ih (r.toNat :: P)).length : Int) := by simp [Ih]; omega
    have hL2 : Hj g (Ih (r.toNat :: P)) = Ct g (Ih (r.toNat :: P)) := rfl
    have hst : (Ki (De g (Ih (r.toNat :: P), Du g.Succ.length r.toNat)) (De g)) = some (F3 g.Succ r.toNat) := by
      rw [Jc, hg]; exact hl
    unfold Fm; rw [hord, Option.bind_some, hlen, cond_false, m_repeat hL1 hL64, Option.bind_some, Ad (inbz h0 (by simpa using hlt)), Ad hlen2]
    have : (De g (Ih (r.toNat :: P), Du g.Succ.length r.toNat)) = (Ay (Ct g (Ih (r.toNat :: P))) (false, 0, (List.replicate g.Succ.length (-2 : Int)).set r.toNat (-1))).bind (fun x22 => (match x22 with | (b10, l11) => (bif b10 then (some (.next (Ih (r.toNat :: P), l11))) else (some (.done l11))))) := by
      unfold De Du; simp only [hL2]; rw [Ad hlen2]
    rw [this] at hst; refine Eq.trans ?_ (congrArg (fun x : Option (List Int) => x.bind fun x42 => some x42) hst)
    rfl
  · rw [if_neg hc]; unfold Fm
    have : (Ha g && (decide (0 ≤ r) && decide (r < (g.Succ.length : Int)))) = false := by
      rw [Bool.eq_false_iff]; intro h; rw [Bool.and_eq_true, Bool.and_eq_true, decide_eq_true_eq, decide_eq_true_eq] at h; exact hc h
    rw [(Vd g h1 trivial r).2 this, Option.bind_some]
    rfl
end
end Go.Proofs.Ytjdddniaokcgnaa

namespace Go.Proofs.Ytjdddniaokcgnaa
noncomputable section
open Go Go.RowKit
set_option linter.unusedVariables false
set_option linter.unusedSimpArgs false
theorem m_indexB (t : List Bool) (v : Bool) (ht : t.length ≤ 1000) : (∃ r : Nat, r < t.length ∧ t.getD r false = v ∧ (∀ i, i < r → t.getD i false ≠ v) ∧ B6 t v = some (r : Int)) ∨ ((∀ i, i < t.length → t.getD i false ≠ v) ∧ B6 t v = some (-1)) := by
  have key : ∀ k i : Nat, i + k = t.length → (∀ j, j < i → t.getD j false ≠ v) →
      (∃ r : Nat, r < t.length ∧ t.getD r false = v ∧ (∀ i, i < r → t.getD i false ≠ v) ∧ Ay (Bj t v) (i : Int) = some (.inr (r : Int))) ∨ ((∀ i, i < t.length → t.getD i false ≠ v) ∧ Ay (Bj t v) (i : Int) = some (.inl ())) := by
    intro k
    induction k with
    | zero =>
      intro i hi hj
      obtain rfl : i = t.length := by omega
      refine .inr ⟨hj, A1 ?_⟩; unfold Bj; rw [Ej]; rfl
    | succ k ih =>
      intro i hi hj
      by_cases e : v = t.getD i false
      · refine .inl ⟨i, by omega, e.symm, hj, A1 ?_⟩; unfold Bj; have hb : (v == t.getD i false) = true := beq_iff_eq.2 e; simp only [Cx (show i < t.length by omega), cond_true, Ao, hb]; rw [Ad (D3 (by omega))]
      · have hs : Bj t v (i : Int) = some (.next ((i + 1 : Nat) : Int)) := by
          unfold Bj; have hb : (v == t.getD i false) = false := beq_eq_false_iff_ne.2 e; simp only [Cx (show i < t.length by omega), cond_true, Ao, hb, cond_false]; rw [Ad (D3 (by omega)), w1 (by omega)]
        rw [Bb hs]
        exact ih (i + 1) (by omega) fun j hj2 => by
          by_cases ej : j = i
          · subst ej; exact fun h => e h.symm
          · exact hj j (by omega)
  have h0 := key t.length 0 (by omega) (fun j hj => absurd hj (Nat.not_lt_zero _)); unfold B6; rcases h0 with ⟨r, h1, h2, h3, h4⟩ | ⟨h1, h2⟩
  · exact .inl ⟨r, h1, h2, h3, by rw [show ((0 : Int)) = ((0 : Nat) : Int) from rfl, h4]; rfl⟩
  · exact .inr ⟨h1, by rw [show ((0 : Int)) = ((0 : Nat) : Int) from rfl, h2]; rfl⟩
def E1 (L : List (List Int)) (S : Nat → Bool) (k : Nat) : Bool := decide (k < L.length) && H4 L S k
theorem Ni {L : List (List Int)} {S : Nat → Bool} {k : Nat} (h : k < L.length) : E1 L S k = H4 L S k := by simp [E1, h]
theorem Zf {L : List (List Int)} {S S' : Nat → Bool} (h : ∀ j, j < L.length → S j = S' j) (k : Nat) : H4 L S k = H4 L S' k := by
  unfold H4; rw [Bool.eq_iff_iff, List.any_eq_true, List.any_eq_true]
  constructor
  · rintro ⟨j, hj, h'⟩; exact ⟨j, hj, by rwa [← h j (List.mem_range.1 hj)]⟩
  · rintro ⟨j, hj, h'⟩; exact ⟨j, hj, by rwa [h j (List.mem_range.1 hj)]⟩
theorem Jh {L : List (List Int)} {S S' : Nat → Bool} (h : ∀ j, j < L.length → S j = S' j) : E1 L S = E1 L S' := by
  funext k
  unfold E1; rw [Zf h]
section
variable {L : List (List Int)} (hm : Ds L = true)
include hm
theorem mark_loop {O : List Nat} (hO : ∀ z ∈ O, z < 64) (hl : O.length < 1000) : ∀ (k i : Nat) (l : List Bool) (s : Nat → Bool), i + k = O.length → RelS l s →
    ∃ l', Ay (Dd (Ih O)) ((i : Int), l) = some l' ∧ RelS l' (fun z => s z || (O.drop i).contains z) := by
  have _hm := hm
  have hlen : (Ih O).length = O.length := by simp [Ih]
  intro k
  induction k with
  | zero =>
    intro i l s hi hr
    obtain rfl : i = O.length := by omega
    refine ⟨l, A1 ?_, fun z hz => ?_⟩
    · unfold Dd; simp only [hlen, Ej, cond_false]
    · rw [hr z hz, List.drop_length]; simp
  | succ k ih =>
    intro i l s hi hr
    have hil : i < O.length := by omega
    have hz : O[i] < 64 := hO _ (List.getElem_mem hil)
    have hr' : RelS (E9 64 false l O[i] true) (fun z => s z || decide (z = O[i])) := fun z hz' => by
      rw [Hd hz', hr z hz']
      by_cases e : z = O[i]
      · simp [e]
      · simp [e]
    obtain ⟨l', h1, h2⟩ := ih (i + 1) _ _ (by omega) hr'
    have hs : Dd (Ih O) ((i : Int), l) = some (.next (((i + 1 : Nat) : Int), E9 64 false l O[i] true)) := by
      unfold Dd; simp only [hlen, Cx hil, cond_true, Ao, ofN_at hil]; rw [Ad (D3 hil), Ad (D3 hz), w1 (by omega)]
    refine ⟨l', by rw [Bb hs, h1], fun z hz' => ?_⟩; rw [h2 z hz', List.drop_eq_getElem_cons hil]
    show (s z || decide (z = O[i]) || (List.drop (i + 1) O).contains z) = (s z || (O[i] :: List.drop (i + 1) O).contains z)
    rw [List.contains_cons, Bool.or_assoc]
    rfl
theorem Yl {l : List Bool} {S : Nat → Bool} (hr : RelS l (E1 L S)) {at_ : Nat} (ha : at_ < L.length) :
    ∃ l', Dg l ⟨Br L, L⟩ (at_ : Int) = some l' ∧ RelS l' (E1 L (fun j => S j || decide (j = at_))) := by
  obtain ⟨h1, h2, _⟩ := mayS_iff.1 hm; have hp := Mv hm; have hlp := Cr L; obtain ⟨O, hO⟩ := Ord.exist (Je hp) (r := at_) (by rw [hlp]; exact ha); have hord := (Vd ⟨Br L, L⟩ (Gr hm).2 trivial (at_ : Int)).1 (Qj hm) (by omega) (by simp only [hlp]; omega) O (by rw [Ao]; exact hO)
  have hin : ∀ z, z ∈ O ↔ Rc (sN L) z at_ := fun z => by rw [hO.mem, ← Zr, O2 hm]
  have hlt : ∀ z ∈ O, z < L.length := fun z hz => by
    have := rch_lt hp ((hO.mem z).1 hz) (by rw [hlp]; exact ha); rwa [hlp] at this
  have hlen : O.length ≤ 64 := Nat.le_trans (Ic L.length O hO.nodup hlt) h2; obtain ⟨l', e1, e2⟩ := mark_loop hm (O := O) (fun z hz => by have := hlt z hz; omega) (by omega) O.length 0 l _ (by omega) hr; refine ⟨l', ?_, fun z hz => ?_⟩
  · unfold Dg; rw [hord, Option.bind_some]; exact congrArg (fun x : Option (List Bool) => x.bind fun x7 => some x7) e1
  · rw [e2 z hz, List.drop_zero, Bool.eq_iff_iff, Bool.or_eq_true, List.contains_iff_mem, hin]
    by_cases hzl : z < L.length
    · rw [Ni hzl, Ni hzl, Gw hm hzl, Gw hm hzl]
      constructor
      · rintro (⟨j, a, b, c⟩ | h)
        · exact ⟨j, a, b, by simp [c]⟩
        · exact ⟨at_, ha, h, by simp⟩
      · rintro ⟨j, a, b, c⟩; simp only [Bool.or_eq_true, decide_eq_true_eq] at c; rcases c with c | rfl
        · exact .inl ⟨j, a, b, c⟩
        · exact .inr b
    · have : ¬ Rc (sN L) z at_ := fun h => hzl (hlt z ((hin z).2 h)); simp [E1, hzl, this]
theorem Vx : ∃ l, Ek (F8 L) = some l ∧ RelS l (E1 L (Bu L 0)) := by
  obtain ⟨h1, h2, _⟩ := mayS_iff.1 hm
  have ht : C7 (F8 L) = some ⟨Br L, L⟩ := by rw [Rv _ (Gr hm).1, Ju hm, cond_true]; rfl
  have hS : (F8 L).Succ = L := rfl; have key : ∀ (k i : Nat) (l : List Bool), i + k = L.length → RelS l (E1 L (fun j => decide (j < i) && Bu L 0 j)) →
      ∃ l', Ay (Cg (F8 L) ⟨Br L, L⟩) ((i : Int), l) = some l' ∧ RelS l' (E1 L (Bu L 0)) := by
    intro k
    induction k with
    | zero =>
      intro i l hi hr
      obtain rfl : i = L.length := by omega
      refine ⟨l, A1 ?_, ?_⟩
      · unfold Cg; simp only [hS, Ej, cond_false]
      · rwa [Jh (S' := Bu L 0) (fun j hj => by simp [hj])] at hr
    | succ k ih =>
      intro i l hi hr
      have hil : i < L.length := by omega
      cases he : (L.getD i []).isEmpty with
      | true =>
        obtain ⟨l', e1, e2⟩ := Yl hm hr hil
        have hs : Cg (F8 L) ⟨Br L, L⟩ ((i : Int), l) = some (.next (((i + 1 : Nat) : Int), l')) := by
          unfold Cg
          have hb : (((L.getD i []).length : Int) == 0) = true := by rw [beq_iff_eq]; have := List.isEmpty_iff.1 he; rw [this]; rfl
          simp only [hS, Cx hil, cond_true, Ao, hb, e1, Option.bind_some]; rw [Ad (D3 hil), Option.bind_some, w1 (by omega)]
        obtain ⟨l'', f1, f2⟩ := ih (i + 1) l' (by omega) (by
          rwa [Jh (S' := fun j => decide (j < i + 1) && Bu L 0 j) (fun j hj => ?_)] at e2; have hg : Bu L 0 i = true := he
          by_cases e : j = i
          · subst e; simp [hg]
          · by_cases h : j < i
            · simp [h, e, show j < i + 1 by omega]
            · simp [h, e, show ¬ j < i + 1 by omega])
        exact ⟨l'', by rw [Bb hs, f1], f2⟩
      | false =>
        have hs : Cg (F8 L) ⟨Br L, L⟩ ((i : Int), l) = some (.next (((i + 1 : Nat) : Int), l)) := by
          unfold Cg
          have hb : (((L.getD i []).length : Int) == 0) = false := by
            rw [beq_eq_false_iff_ne]; intro h
            have : (L.getD i []).length = 0 := by omega
            rw [List.length_eq_zero_iff.1 this] at he; cases he
          simp only [hS, Cx hil, cond_true, Ao, hb, cond_false]; rw [Ad (D3 hil), Option.bind_some, w1 (by omega)]
        obtain ⟨l'', f1, f2⟩ := ih (i + 1) l (by omega) (by
          rwa [Jh (S' := fun j => decide (j < i + 1) && Bu L 0 j) (fun j hj => ?_)] at hr; have hg : Bu L 0 i = false := he
          by_cases e : j = i
          · subst e; simp [hg]
          · by_cases h : j < i
            · simp [h, e, show j < i + 1 by omega]
            · simp [h, e, show ¬ j < i + 1 by omega])
        exact ⟨l'', by rw [Bb hs, f1], f2⟩
  obtain ⟨l, e1, e2⟩ := key L.length 0 (List.replicate 64 false) (by omega) (fun z hz => by
    rw [Ht]
    have : H4 L (fun j => decide (j < 0) && Bu L 0 j) z = false := by simp [H4]
    unfold E1
    rw [this, Bool.and_false])
  refine ⟨l, ?_, e2⟩; unfold Ek; rw [ht, Option.bind_some]; exact congrArg (fun x : Option (List Bool) => x.bind fun x7 => some x7) e1
theorem Sg {m : Nat} : ∀ d, (∀ j, m ≤ j → j < m + d → H4 L (Bu L m) j = true) → Bu L (m + d) = Bu L m := by
  have _hm := hm; intro d
  induction d with
  | zero => intro _; rfl
  | succ d ih =>
    intro h; have ih' := ih (fun j h1 h2 => h j h1 (by omega))
    funext k
    show (Bu L (m + d) k || (decide (k = m + d) && !H4 L (Bu L (m + d)) (m + d))) = _
    rw [ih', h (m + d) (by omega) (by omega)]
    simp
variable (hn : L.length < 64)
include hn
theorem exit_loop (k : Nat) : ∀ (m : Nat) (l : List Bool), L.length - m ≤ k → m ≤ L.length → RelS l (E1 L (Bu L m)) → (∀ j, j < m → H4 L (Bu L m) j = true) →
    Ay (Dy (F8 L)) (l, Br L, L, Fz L (Bu L m)) = some (F8 (exitL L), 0) := by
  obtain ⟨h1, h2, _⟩ := mayS_iff.1 hm; have hS : (F8 L).Succ = L := rfl
  have hroom : (1000 : Nat) ≤ room := by decide
  have step : ∀ (m : Nat) (l : List Bool), m ≤ L.length → RelS l (E1 L (Bu L m)) → (∀ j, j < m → H4 L (Bu L m) j = true) →
      (∃ (r : Nat) (l' : List Bool), r < L.length ∧ m ≤ r ∧ Dy (F8 L) (l, Br L, L, Fz L (Bu L m)) = some (.next (l', Br L, L, Fz L (Bu L (r + 1)))) ∧ RelS l' (E1 L (Bu L (r + 1))) ∧ (∀ j, j < r + 1 → H4 L (Bu L (r + 1)) j = true)) ∨
      Dy (F8 L) (l, Br L, L, Fz L (Bu L m)) = some (.done (F8 (exitL L), 0)) := by
    intro m l hmn hr hh
    have hsl : (subN false l 0 ((0 + ((L.length : Int)).toNat) - 0)).length = L.length := by rw [Wk, Ao]; omega
    have hsg : ∀ i, i < L.length → (subN false l 0 ((0 + ((L.length : Int)).toNat) - 0)).getD i false = H4 L (Bu L m) i := fun i hi => by
      rw [S4 (by rw [Ao]; omega), Nat.zero_add, hr i (by omega), Ni hi]
    have hwl : (Fz L (Bu L m)).length = L.length + 1 := G5; have hwm := Pq hm hn (Bu L m); rcases m_indexB (subN false l 0 ((0 + ((L.length : Int)).toNat) - 0)) false (by rw [hsl]; omega) with ⟨r, q1, q2, q3, q4⟩ | ⟨q1, q2⟩
    · rw [hsl] at q1; rw [hsg r q1] at q2
      have hmr : m ≤ r := by
        rcases Nat.lt_or_ge r m with h | h
        · have := hh r h; rw [q2] at this; cases this
        · exact h
      have hsk : Bu L r = Bu L m := by
        have := Sg hm (m := m) (r - m) (fun j a b => by
          have := q3 j (by omega); rw [hsg j (by omega)] at this
          simpa using this)
        rwa [show m + (r - m) = r by omega] at this
      have hgr : Bu L m r = false := by
        cases hg : Bu L m r with
        | false => rfl
        | true => rw [(Gw hm q1).2 ⟨r, q1, .root, hg⟩] at q2; cases q2
      have hnew : Bu L (r + 1) = fun j => Bu L m j || decide (j = r) := by
        funext j
        show (Bu L r j || (decide (j = r) && !H4 L (Bu L r) r)) = _
        rw [hsk, q2]; simp
      obtain ⟨l', e1, e2⟩ := Yl hm hr q1; refine .inl ⟨r, l', q1, hmr, ?_, by rw [hnew]; exact e2, fun j hj => ?_⟩
      · unfold Dy
        have hrow : (Fz L (Bu L m)).getD r [] = L.getD r [] := by rw [Oe q1]; simp [Er, hgr]
        have hrl : (L.getD r []).length ≤ 64 := by
          have := (Ft hm).2 (L.getD r []) (Fp (d := []) q1); exact this
        have d0 : decide ((0 : Int) ≤ (r : Int)) = true := by simp
        simp only [hS]; rw [Ad ⟨by omega, by rw [Ao]; omega⟩, q4, Option.bind_some, d0, cond_true]; simp only [Ao, hrow]; rw [Ad (D3 (by omega)), Ad (D3 (by omega)), Ad (by simp only [List.length_singleton]; omega), Ad (D3 (by omega)), e1, Option.bind_some]
        have hset : (Fz L (Bu L m)).set r (L.getD r [] ++ [(L.length : Int)]) = Fz L (Bu L (r + 1)) := by
          unfold Fz; rw [List.set_append_left _ _ (by simpa using q1), Nf]
          congr 1
          refine Fq fun j hj => ?_
          by_cases e : j = r
          · subst e; simp [Er, hnew]
          · simp [Er, hnew, e]
        rw [hset]
      · rw [hnew]
        by_cases e : j = r
        · subst e; exact (Gw hm q1).2 ⟨j, q1, .root, by simp⟩
        · have hjl : j < L.length := by omega
          refine hit_mono hm hjl (s := Bu L m) (fun x hx => by simp [hx]) ?_
          by_cases hjm : j < m
          · exact hh j hjm
          · have := q3 j (by omega); rw [hsg j hjl] at this
            simpa using this
    · rw [hsl] at q1
      have hsk : Bu L L.length = Bu L m := by
        have := Sg hm (m := m) (L.length - m) (fun j a b => by
          have := q1 j (by omega); rw [hsg j (by omega)] at this
          simpa using this)
        rwa [show m + (L.length - m) = L.length by omega] at this
      refine .inr ?_; unfold Dy
      have d0 : decide ((0 : Int) ≤ (-1 : Int)) = false := by decide
      simp only [hS]; rw [Ad ⟨by omega, by rw [Ao]; omega⟩, q2, Option.bind_some, d0, cond_false, Zx _ (Im (Ft hwm)), hwm, cond_true, Option.bind_some]; unfold exitL; rw [hsk]
  induction k with
  | zero =>
    intro m l hk hmn hr hh; rcases step m l hmn hr hh with ⟨r, l', a, b, c, d, e⟩ | h
    · omega
    · exact A1 h
  | succ k ih =>
    intro m l hk hmn hr hh; rcases step m l hmn hr hh with ⟨r, l', a, b, c, d, e⟩ | h
    · rw [Bb c]; exact ih (r + 1) l' (by omega) (by omega) d e
    · exact A1 h
theorem exit_rows : Ay (Dx (F8 L)) ((0 : Int), List.replicate (L.length + 1) []) = some (Fz L (Bu L 0)) := by
  obtain ⟨h1, h2, _⟩ := mayS_iff.1 hm; have hS : (F8 L).Succ = L := rfl
  have hroom : (1000 : Nat) ≤ room := by decide
  have e0 : (List.replicate (L.length + 1) ([] : List Int)) = (List.range (L.length + 1)).map fun k => if k < 0 then Er L (Bu L 0) k else [] := by
    apply List.ext_getElem?
    intro i
    by_cases hi : i < L.length + 1 <;> simp [hi, List.getElem?_replicate]
  rw [e0]; refine Eh (Dx (F8 L)) (fun i => (((i : Nat) : Int), (List.range (L.length + 1)).map fun k => if k < i then Er L (Bu L 0) k else [])) _ L.length (fun i hi => ?_) ?_
  · show Dx (F8 L) ((i : Int), _) = _
    unfold Dx; have hrl : (L.getD i []).length ≤ 64 := (Ft hm).2 (L.getD i []) (Fp (d := []) hi)
    have hrow : ∀ x, x = Er L (Bu L 0) i → ((List.range (L.length + 1)).map fun k => if k < i then Er L (Bu L 0) k else []).set i x = (List.range (L.length + 1)).map fun k => if k < i + 1 then Er L (Bu L 0) k else [] := fun x hx => by
      rw [Nf]; refine Fq fun j hj => ?_
      by_cases e : j = i
      · subst e; simp [hx]
      · by_cases h : j < i
        · simp [e, h, show j < i + 1 by omega]
        · simp [e, h, show ¬ j < i + 1 by omega]
    simp only [hS, Cx hi, cond_true, Ao]; rw [Ad (D3 hi), Ad (D3 (by simp; omega)), m_clone _ (by omega), Option.bind_some, Ad (D3 (by simp; omega))]
    cases he : (L.getD i []).isEmpty with
    | true =>
      have hnil := List.isEmpty_iff.1 he
      have hb : (((L.getD i []).length : Int) == 0) = true := by rw [beq_iff_eq, hnil]; rfl
      simp only [hb, cond_true]
      rw [Ad (D3 (by simp; omega)), Ad (D3 (by simp; omega)), Option.bind_some, w1 (by omega), List.set_set, hrow _ (by
        have hg : Bu L 0 i = true := he; unfold Er
        rw [if_pos hg, hnil]; rfl)]
    | false =>
      have hb : (((L.getD i []).length : Int) == 0) = false := by
        rw [beq_eq_false_iff_ne]; intro h
        have : (L.getD i []).length = 0 := by omega
        rw [List.length_eq_zero_iff.1 this] at he; cases he
      simp only [hb, cond_false]
      rw [Option.bind_some, w1 (by omega), hrow _ (by
        have hg : ¬ Bu L 0 i = true := fun h => by have h' : (L.getD i []).isEmpty = true := h; rw [he] at h'; cases h'
        unfold Er
        rw [if_neg hg, List.append_nil])]
  · show Dx (F8 L) ((L.length : Int), _) = _
    unfold Dx; simp only [hS, Ej, cond_false]
    congr 2
    rw [List.range_succ, List.map_append]; unfold Fz
    congr 1
    · exact Fq fun j hj => by simp [hj]
    · simp
theorem exit_spec : Ey (F8 L) = some (F8 (exitL L), 0) := by
  obtain ⟨h1, h2, _⟩ := mayS_iff.1 hm; obtain ⟨l, e1, e2⟩ := Vx hm; have hS : (F8 L).Succ = L := rfl
  have hroom : (1000 : Nat) ≤ room := by decide
  have ht : C7 (F8 L) = some ⟨Br L, L⟩ := by rw [Rv _ (Gr hm).1, Ju hm, cond_true]; rfl
  have hx := exit_loop hm hn L.length 0 l (by omega) (by omega) e2 (fun j hj => absurd hj (Nat.not_lt_zero _))
  have hb : (((L.length : Int) : Int) == 64) = false := by rw [beq_eq_false_iff_ne]; omega
  unfold Ey; simp only [hS]; rw [Y0 _ (Gr hm).1, Option.bind_some, Ju hm, Bool.not_true, cond_false, hb, cond_false, w1 (by omega), Ad ⟨by omega, Int.le_refl _, by omega⟩, Ao, exit_rows hm hn, Option.bind_some, e1, Option.bind_some, ht, Option.bind_some]; refine Eq.trans ?_ (congrArg (fun x : Option (Aj × Int) => x.bind fun x39 => some x39) hx); rw [← Jc (f := Dy (F8 L))]
  rfl
end
theorem m_pTree (g : Aj) (h1 : Fits g.Succ) (h2 : Fits g.Pred) : Hm g = some (if Ha g = true ∧ g.Succ.length < 64 then B2 g.Succ else []) := by
  unfold Hm
  by_cases hc : Ha g = true ∧ g.Succ.length < 64
  · obtain ⟨hm, hg⟩ := Ow hc.1; have hn := hc.2; have he := Jw hm hn
    have hE : Ey g = some (F8 (exitL g.Succ), 0) := by rw [hg]; exact exit_spec hm hn
    have ht : C7 (F8 (exitL g.Succ)) = some ⟨Br (exitL g.Succ), exitL g.Succ⟩ := by rw [Rv _ (Gr he).1, Ju he, cond_true]; rfl
    rw [if_pos hc, hE, Option.bind_some, bne_self_eq_false, cond_false, ht, Option.bind_some, Z7 _ _ (Gr he).2 (Gr he).1, Option.bind_some]; unfold Xs B2; rw [if_pos ⟨Qj he, by omega, by simp only [Cr, J6]; omega⟩, Ao]
  · have hE : Ey g = some (g0, 5) := by
      unfold Ey
      have hb : (bif !(Ha g) then true else (((g.Succ.length : Int) : Int) == 64)) = true := by
        cases hm : Ha g with
        | false => rfl
        | true =>
          have h64 := (mayS_iff.1 (Ow hm).1).2.1; have : ¬ g.Succ.length < 64 := fun h => hc ⟨hm, h⟩
          show (((g.Succ.length : Int) : Int) == 64) = true
          rw [beq_iff_eq]; omega
      rw [Y0 _ h1, Option.bind_some, hb, cond_true]
      rfl
    rw [if_neg hc, hE, Option.bind_some]
    rfl
end
end Go.Proofs.Ytjdddniaokcgnaa

namespace Go.Proofs.Ytjdddniaokcgnaa
noncomputable section
open Go Go.RowKit Go.Sort
set_option linter.unusedVariables false
set_option linter.unusedSimpArgs false
theorem sortedU {α : Type} {R : α → α → Prop} (hR : ∀ x y, R x y → ¬ R y x) : ∀ {a b : List α}, a.Pairwise R → b.Pairwise R → (∀ x, x ∈ a ↔ x ∈ b) → a = b
  | [], [], _, _, _ => rfl
  | [], y :: b, _, _, h => by have := (h y).2 (List.mem_cons_self ..); cases this
  | x :: a, [], _, _, h => by have := (h x).1 (List.mem_cons_self ..); cases this
  | x :: a, y :: b, ha, hb, h => by
    have hxx : ∀ z, ¬ R z z := fun z hz => hR z z hz hz; obtain ⟨ha1, ha2⟩ := List.pairwise_cons.1 ha; obtain ⟨hb1, hb2⟩ := List.pairwise_cons.1 hb
    have e : x = y := by
      rcases List.mem_cons.1 ((h x).1 (List.mem_cons_self ..)) with h1 | h1
      · exact h1
      · rcases List.mem_cons.1 ((h y).2 (List.mem_cons_self ..)) with h2 | h2
        · exact h2.symm
        · exact (hR _ _ (hb1 x h1) (ha1 y h2)).elim
    subst e; rw [sortedU hR ha2 hb2 fun z => ⟨fun hz => ?_, fun hz => ?_⟩]
    · rcases List.mem_cons.1 ((h z).1 (List.mem_cons_of_mem _ hz)) with h1 | h1
      · subst h1; exact (hxx _ (ha1 _ hz)).elim
      · exact h1
    · rcases List.mem_cons.1 ((h z).2 (List.mem_cons_of_mem _ hz)) with h1 | h1
      · subst h1; exact (hxx _ (hb1 _ hz)).elim
      · exact h1
theorem Zo (x y : TDep) (h : Nb x y) : ¬ Nb y x := by unfold Nb at *; omega
theorem Zi {a b : List TDep} (ha : a.Nodup) (hb : b.Pairwise Nb) (h : ∀ x, x ∈ a ↔ x ∈ b) : Iy a = b := by
  have hp : (Iy a).Perm a := List.mergeSort_perm ..
  have hs : (Iy a).Pairwise fun x y => (!(ltOf Lo) y x) = true := List.pairwise_mergeSort (fun x y z h1 h2 => by
    rw [P6] at *; simp at *
    omega) (fun x y => by
    rw [P6, P6]
    simp
    omega) a
  refine sortedU Zo ?_ hb fun x => (hp.mem_iff).trans (h x); have hn : (Iy a).Pairwise fun x y => x ≠ y := hp.nodup_iff.2 ha; refine (hs.and hn).imp ?_; rintro ⟨b1, o1, t1⟩ ⟨b2, o2, t2⟩ ⟨h1, h2⟩; rw [P6] at h1; simp only [Bool.not_eq_true', decide_eq_false_iff_not, ne_eq, TDep.mk.injEq] at h1 h2; unfold Nb; simp only; omega
section
variable {L : List (List Int)} (hm : Ds L = true) (hn : L.length < 64)
include hm hn
theorem pUp {a b : Nat} (ha : a ≤ L.length) (hb : b ≤ L.length) : UpTo (A2 (B2 L)) b a ↔ ¬ Av (sN (exitL L)) b a L.length := by
  obtain ⟨P, h1, h2⟩ := Pv hm hn; have hin : ∀ x, x ≤ L.length → A2 (B2 L) x ≠ -2 := fun x hx => (h2.in_iff (by omega)).2 ((O2 (Jw hm hn)).2 (Mw hm hx)); rw [← pover hm hn ha hb, h2.over h1 (by omega) (by omega)]; exact ⟨fun h => ⟨hin b hb, h⟩, fun h => h.2⟩
theorem pUps : ∃ f : Nat → Nat, (∀ x, x ≤ L.length → f x ≤ 64) ∧ A2 (B2 L) L.length = -1 ∧ (∀ x, x < L.length → ∃ z : Nat, A2 (B2 L) x = (z : Int) ∧ z ≤ L.length) ∧
    (∀ x z : Nat, x ≤ L.length → A2 (B2 L) x = (z : Int) → z ≤ L.length ∧ f z < f x) ∧ ∀ x z, x ≤ L.length → UpTo (A2 (B2 L)) x z → f z ≤ f x ∧ z ≤ L.length := by
  obtain ⟨P, h1, h2⟩ := Pv hm hn; have hin : ∀ x, x ≤ L.length → A2 (B2 L) x ≠ -2 := fun x hx => (h2.in_iff (by omega)).2 ((O2 (Jw hm hn)).2 (Mw hm hx)); refine ⟨pos (L.length :: P), fun x hx => ?_, h2.inv.top, fun x hx => ?_, fun x z hx hz => ?_, fun x z hx hz => ?_⟩
  · have := h1.pos_lt ((h1.mem x).2 ((O2 (Jw hm hn)).2 (Mw hm hx))); omega
  · rcases h2.inv.kind x (by omega) with h | h | ⟨z, h⟩
    · exact (hin x (by omega) h).elim
    · omega
    · exact ⟨z, h, by have := (h2.inv.up x (by omega) z h).1; omega⟩
  · obtain ⟨g1, _, g3, _⟩ := h2.inv.up x (by omega) z hz; exact ⟨by omega, g3⟩
  · obtain ⟨g1, _, g3, _⟩ := h2.inv.anc hz (by omega) (hin x hx); exact ⟨g3, by omega⟩
theorem hang_loop {f : Nat → Nat} (hf : ∀ x z : Nat, x ≤ L.length → A2 (B2 L) x = (z : Int) → z ≤ L.length ∧ f z < f x) (hu : ∀ x z, x ≤ L.length → UpTo (A2 (B2 L)) x z → f z ≤ f x ∧ z ≤ L.length) {a p : Nat} (b : Int) (ha : a < L.length) (hp : A2 (B2 L) a = (p : Int)) {x : Nat} (hx : UpTo (A2 (B2 L)) x p) :
    x ≤ L.length → ∃ ks : List Nat, (∀ l : List TDep, l.length + f x ≤ 1000000 → Ay (Cj (B2 L) (a : Int) b) ((x : Int), l) = some (l ++ ks.map fun k => ⟨(k : Int), (a : Int), b⟩, l ++ ks.map fun k => ⟨(k : Int), (a : Int), b⟩)) ∧
      ks.Nodup ∧ ks.length ≤ f x ∧ ∀ k, k ∈ ks ↔ UpTo (A2 (B2 L)) x k ∧ ¬ UpTo (A2 (B2 L)) p k := by
  have hroom : (2000000 : Nat) ≤ room := by decide
  have hlen := Um hm hn; have hpa : (B2 L).getD a 0 = (p : Int) := hp
  induction hx with
  | refl p =>
    intro hxl; refine ⟨[], fun l hl => ?_, .nil, by simp, fun k => by simp⟩; refine A1 ?_; unfold Cj; simp only [Ao, hpa, beq_self_eq_true, cond_true]; rw [Ad (D3 (by omega))]
    simp
  | @up x y p hxy t ih =>
    intro hxl; obtain ⟨hy, hfy⟩ := hf x y hxl hxy; have hpy := hu y p hy t
    have hne : x ≠ p := fun e => by subst e; omega
    obtain ⟨ks, e1, e2, e3, e4⟩ := ih hp hpa hy
    have hxk : x ∉ ks := fun h => by
      have := hu y x hy ((e4 x).1 h).1; omega
    refine ⟨x :: ks, fun l hl => ?_, List.nodup_cons.2 ⟨hxk, e2⟩, by simp only [List.length_cons]; omega, fun k => ?_⟩
    · have hstep : Cj (B2 L) (a : Int) b ((x : Int), l) = some (.next ((y : Int), l ++ [⟨(x : Int), (a : Int), b⟩])) := by
        unfold Cj
        have hb : (((x : Nat) : Int) == (p : Int)) = false := by rw [Vk]; simpa using hne
        have hxp : (B2 L).getD x 0 = (y : Int) := hxy; simp only [Ao, hpa, hb, cond_false, hxp]; rw [Ad (D3 (by omega)), Ad (by simp only [List.length_singleton]; omega), Ad (D3 (by omega))]
      rw [Bb hstep, e1 _ (by simp only [List.length_append, List.length_singleton]; omega)]
      simp
    · rw [List.mem_cons, e4 k, anc_up hxy]
      constructor
      · rintro (rfl | ⟨h1, h2⟩)
        · exact ⟨.inl rfl, fun h => by have := hu p k hpy.2 h; omega⟩
        · exact ⟨.inr h1, h2⟩
      · rintro ⟨rfl | h1, h2⟩
        · exact .inl rfl
        · exact .inr ⟨h1, h2⟩
theorem up_entry {a b p : Nat} (ha : a < L.length) (hp : A2 (B2 L) a = (p : Int)) (hb : b ∈ sN (exitL L) a) (hbl : b ≤ L.length) : UpTo (A2 (B2 L)) b p := by
  obtain ⟨f, _, _, _, hf, hu⟩ := pUps hm hn; obtain ⟨hpl, hfp⟩ := hf a p (by omega) hp; rw [pUp hm hn hpl hbl]; intro h; have h2 : UpTo (A2 (B2 L)) a p := .up hp (.refl p); rw [pUp hm hn hpl (by omega)] at h2; exact h2 (h.front (fun e => by subst e; omega) hb)
theorem hang_dep {a b p k : Nat} (ha : a < L.length) (hp : A2 (B2 L) a = (p : Int)) (hb : b ∈ sN L a) : (UpTo (A2 (B2 L)) b k ∧ ¬ UpTo (A2 (B2 L)) p k) ↔ k < L.length ∧ O0 L k a b = true := by
  obtain ⟨f, _, htop, _, hf, hu⟩ := pUps hm hn; obtain ⟨hpl, hfp⟩ := hf a p (by omega) hp; have hbl := Je hm _ ha _ hb; have hbe : b ∈ sN (exitL L) a := (Ip hm).2 ⟨ha, .inl hb⟩; have hend : ∀ x, x ≤ L.length → UpTo (A2 (B2 L)) x L.length := fun x hx => (pUp hm hn (Nat.le_refl _) hx).2 fun h => h.ne rfl
  have hpa : ∀ k, k ≤ L.length → (Aad L k a = true ↔ k = a ∨ UpTo (A2 (B2 L)) p k) := fun k hk => by
    rw [Ra hm hn (by omega), ← pUp hm hn hk (by omega), anc_up hp]
  constructor
  · rintro ⟨h1, h2⟩; have hk := (hu b k (by omega) h1).2; have hkn : k ≠ L.length := fun e => h2 (e ▸ hend p hpl); refine ⟨by omega, (Jy hm ha).2 ⟨?_, hb, (Ra hm hn (by omega)).2 ((pUp hm hn hk (by omega)).1 h1), ?_⟩⟩
    · rcases Nat.lt_or_ge 1 ((exitL L).getD a []).length with h | h
      · exact h
      · exfalso
        have hone : ∀ c, c ∈ sN (exitL L) a → c = b := fun c hc => by
          unfold sN at hc hbe
          cases hr : (exitL L).getD a [] with
          | nil => rw [hr] at hbe; cases hbe
          | cons x l =>
            rw [hr] at hc hbe h
            obtain rfl : l = [] := by
              cases l with
              | nil => rfl
              | cons _ _ => simp at h
            simp at hc hbe; omega
        have hab : UpTo (A2 (B2 L)) a b := by
          rw [pUp hm hn (by omega) (by omega)]; intro h; rcases h.head with e | ⟨c, c1, c2, _⟩
          · omega
          · exact c2 (hone c c1)
        rcases (anc_up hp).1 hab with e | e
        · subst e; have hr := Mw hm (b := b) (by omega)
          have : ∀ x, Rc (sN (exitL L)) b x → x = b := fun x hx => by
            induction hx with
            | root => rfl
            | step _ hy ih => subst ih; exact hone _ hy
          have := this _ hr; omega
        · exact h2 (e.trans h1)
    · by_cases e : k = a
      · exact .inl e
      · refine .inr ?_; rw [← Bool.not_eq_true, hpa k hk]; rintro (h | h)
        · exact e h
        · exact h2 h
  · rintro ⟨hk, hd⟩; obtain ⟨_, _, h3, h4⟩ := (Jy hm ha).1 hd; refine ⟨(pUp hm hn (by omega) (by omega)).2 ((Ra hm hn (by omega)).1 h3), fun h => ?_⟩; rcases h4 with rfl | h4
    · have := hu p k hpl h; omega
    · rw [← Bool.not_eq_true, hpa k (by omega)] at h4; exact h4 (.inr h)
theorem m_hang {a b : Nat} (ha : a < L.length) (hb : b ∈ sN L a) : ∃ ks : List Nat, (∀ l : List TDep, l.length ≤ 500000 → Cy l (B2 L) (a : Int) (b : Int) = some (l ++ ks.map fun k => ⟨(k : Int), (a : Int), (b : Int)⟩, l ++ ks.map fun k => ⟨(k : Int), (a : Int), (b : Int)⟩)) ∧
    ks.Nodup ∧ ks.length ≤ 64 ∧ ∀ k, k ∈ ks ↔ k < L.length ∧ O0 L k a b = true := by
  obtain ⟨f, f64, _, hpar, hf, hu⟩ := pUps hm hn; obtain ⟨p, hp, hpl⟩ := hpar a ha; have hbl := Je hm _ ha _ hb; have hup := up_entry hm hn ha hp ((Ip hm).2 ⟨ha, .inl hb⟩) (by omega); have hfb := f64 b (by omega); obtain ⟨ks, e1, e2, e3, e4⟩ := hang_loop hm hn hf hu (b : Int) ha hp hup (by omega); refine ⟨ks, fun l hl => ?_, e2, by omega, fun k => by rw [e4 k, hang_dep hm hn ha hp hb]⟩; unfold Cy; refine Eq.trans ?_ (congrArg (fun x : Option (List TDep × List TDep) => x.bind fun x9 => some x9) (e1 l (by omega))); rw [← Jc (f := Cj (B2 L) (a : Int) (b : Int))]
  rfl
end
end
end Go.Proofs.Ytjdddniaokcgnaa

namespace Go.Proofs.Ytjdddniaokcgnaa
noncomputable section
open Go Go.RowKit Go.Sort
set_option linter.unusedVariables false
set_option linter.unusedSimpArgs false
def Z8 (L : List (List Int)) (a b : Nat) (ks : List Nat) : Prop :=
  (∀ l : List TDep, l.length ≤ 500000 → Cy l (B2 L) (a : Int) (b : Int) = some (l ++ ks.map fun k => ⟨(k : Int), (a : Int), (b : Int)⟩, l ++ ks.map fun k => ⟨(k : Int), (a : Int), (b : Int)⟩)) ∧
    ks.Nodup ∧ ks.length ≤ 64 ∧ ∀ k, k ∈ ks ↔ k < L.length ∧ O0 L k a b = true
open Classical in
def hangN (L : List (List Int)) (a b : Nat) : List Nat := if h : ∃ ks, Z8 L a b ks then Classical.choose h else []
def hgD (L : List (List Int)) (a : Nat) (b : Int) : List TDep := (hangN L a b.toNat).map fun k : Nat => ⟨(k : Int), (a : Int), b⟩
def In (L : List (List Int)) (a j : Nat) : List TDep := ((List.range j).map fun i => hgD L a ((L.getD a []).getD i 0)).flatten
def N9 (L : List (List Int)) (i : Nat) : List TDep := ((List.range i).map fun a => In L a (L.getD a []).length).flatten
theorem T7 (L : List (List Int)) (a j : Nat) : In L a (j + 1) = In L a j ++ hgD L a ((L.getD a []).getD j 0) := by
  unfold In; rw [List.range_succ, List.map_append, List.flatten_append]
  simp
theorem Wq (L : List (List Int)) (i : Nat) : N9 L (i + 1) = N9 L i ++ In L i (L.getD i []).length := by
  unfold N9; rw [List.range_succ, List.map_append, List.flatten_append]
  simp
section
variable {L : List (List Int)} (hm : Ds L = true) (hn : L.length < 64)
include hm hn
theorem hangN_ok {a b : Nat} (ha : a < L.length) (hb : b ∈ sN L a) : Z8 L a b (hangN L a b) := by
  have h : ∃ ks, Z8 L a b ks := m_hang hm hn ha hb; unfold hangN; rw [dif_pos h]; exact Classical.choose_spec h
theorem row_at {a i : Nat} (ha : a < L.length) (hi : i < (L.getD a []).length) : ∃ b : Nat, (L.getD a []).getD i 0 = (b : Int) ∧ b ∈ sN L a ∧ b < L.length := by
  have h0 := hn; obtain ⟨_, _, h3⟩ := mayS_iff.1 hm; obtain ⟨h4, h5⟩ := Np (h3 a ha) hi; refine ⟨((L.getD a []).getD i 0).toNat, by omega, List.mem_map.2 ⟨_, Fp (d := 0) hi, rfl⟩, by omega⟩
theorem J8 {a i : Nat} (ha : a < L.length) (hi : i < (L.getD a []).length) : (hgD L a ((L.getD a []).getD i 0)).length ≤ 64 ∧ (hgD L a ((L.getD a []).getD i 0)).Nodup ∧ (∀ d, d ∈ hgD L a ((L.getD a []).getD i 0) ↔ ∃ k b : Nat, (L.getD a []).getD i 0 = (b : Int) ∧ d = ⟨(k : Int), (a : Int), (b : Int)⟩ ∧ k < L.length ∧ O0 L k a b = true) ∧
    ∀ l : List TDep, l.length ≤ 500000 → Cy l (B2 L) (a : Int) ((L.getD a []).getD i 0) = some (l ++ hgD L a ((L.getD a []).getD i 0), l ++ hgD L a ((L.getD a []).getD i 0)) := by
  obtain ⟨b, e, hb, hbl⟩ := row_at hm hn ha hi; obtain ⟨h1, h2, h3, h4⟩ := hangN_ok hm hn ha hb; rw [e]; unfold hgD; rw [Ao]; refine ⟨by rw [List.length_map]; exact h3, ?_, fun d => ?_, h1⟩
  · refine List.pairwise_map.2 (h2.imp fun hne he => hne ?_); simp only [TDep.mk.injEq, Int.natCast_inj] at he; exact he.1
  · rw [List.mem_map]
    constructor
    · rintro ⟨k, hk, rfl⟩; exact ⟨k, b, rfl, rfl, (h4 k).1 hk⟩
    · rintro ⟨k, b', hb', rfl, hk⟩
      obtain rfl : b = b' := by omega
      exact ⟨k, (h4 k).2 hk, rfl⟩
theorem Pf {a : Nat} (ha : a < L.length) : ∀ j, j ≤ (L.getD a []).length → (In L a j).length ≤ j * 64
  | 0, _ => by simp [In]
  | j + 1, hj => by
    rw [T7, List.length_append]; have h1 := Pf ha j (by omega); have h2 := (J8 hm hn ha (i := j) (by omega)).1; omega
theorem row_le {a : Nat} (ha : a < L.length) : (L.getD a []).length ≤ 64 := by
  have h0 := hn; exact (Ft hm).2 (L.getD a []) (Fp (d := []) ha)
theorem Rx : ∀ i, i ≤ L.length → (N9 L i).length ≤ i * 4096
  | 0, _ => by simp [N9]
  | i + 1, hi => by
    rw [Wq, List.length_append]; have h1 := Rx i (by omega); have h2 := Pf hm hn (a := i) (by omega) _ (Nat.le_refl _); have h3 := row_le hm hn (a := i) (by omega); omega
theorem all_L1 {a : Nat} (ha : a < L.length) (l : List TDep) (hl : l.length ≤ 400000) : Ay (Ei (F8 L) (B2 L) (a : Int)) ((0 : Int), l) = some (l ++ In L a (L.getD a []).length) := by
  have hrl := row_le hm hn ha; have := Eh (Ei (F8 L) (B2 L) (a : Int)) (fun j => (((j : Nat) : Int), l ++ In L a j)) (l ++ In L a (L.getD a []).length) (L.getD a []).length (fun j hj => ?_) ?_
  · simpa [In] using this
  · show Ei (F8 L) (B2 L) (a : Int) ((j : Int), _) = _
    have hg : (F8 L).Succ = L := rfl; have h1 := Pf hm hn ha j (by omega); have h2 := (J8 hm hn ha hj).2.2.2 (l ++ In L a j) (by rw [List.length_append]; omega); unfold Ei; simp only [hg, Ao, Cx hj, cond_true]; rw [Ad (D3 hj), h2, Option.bind_some, w1 (by omega), T7, List.append_assoc]
  · show Ei (F8 L) (B2 L) (a : Int) (((L.getD a []).length : Int), _) = _
    have hg : (F8 L).Succ = L := rfl; unfold Ei; simp only [hg, Ao, Ej, cond_false]
theorem all_L2 : Ay (D1 (F8 L) (B2 L)) ((0 : Int), ([] : List TDep)) = some (N9 L L.length) := by
  have hg : (F8 L).Succ = L := rfl; refine Eh (D1 (F8 L) (B2 L)) (fun i => (((i : Nat) : Int), N9 L i)) _ L.length (fun i hi => ?_) ?_
  · show D1 (F8 L) (B2 L) ((i : Int), _) = _
    have h1 := Rx hm hn i (by omega); unfold D1; simp only [hg, Cx hi, cond_true]; rw [Ad (D3 hi), all_L1 hm hn hi _ (by omega), Option.bind_some, w1 (by omega), Wq]
  · show D1 (F8 L) (B2 L) ((L.length : Int), _) = _
    unfold D1; simp only [hg, Ej, cond_false]
theorem hgTo_mem (d : TDep) : d ∈ N9 L L.length ↔ d ∈ Gn L := by
  rw [mem_depL]; unfold N9 In; simp only [List.mem_flatten, List.mem_map, List.mem_range]
  constructor
  · rintro ⟨_, ⟨a, ha, rfl⟩, hd⟩; simp only [List.mem_flatten, List.mem_map, List.mem_range] at hd; obtain ⟨_, ⟨i, hi, rfl⟩, hd⟩ := hd; obtain ⟨k, b, hb, rfl, hk, hdep⟩ := ((J8 hm hn ha hi).2.2.1 d).1 hd; obtain ⟨b', e, _, hbl⟩ := row_at hm hn ha hi; exact ⟨k, a, b, rfl, hk, ha, by omega, hdep⟩
  · rintro ⟨k, a, b, rfl, hk, ha, hb, hdep⟩; have hmem := (Jy hm ha).1 hdep; obtain ⟨x, hx, hxb⟩ := List.mem_map.1 hmem.2.1; obtain ⟨i, hi, hix⟩ := List.mem_iff_getElem.1 hx
    have hxn : x = (b : Int) := by
      have := Jb ((mayS_iff.1 hm).2.2 a ha) hx; omega
    have e : (L.getD a []).getD i 0 = (b : Int) := by rw [Am _ _ _ hi, hix, hxn]
    refine ⟨_, ⟨a, ha, rfl⟩, ?_⟩; simp only [List.mem_flatten, List.mem_map, List.mem_range]; exact ⟨_, ⟨i, hi, rfl⟩, ((J8 hm hn ha hi).2.2.1 _).2 ⟨k, b, e, rfl, hk, hdep⟩⟩
theorem hgTo_nodup : (N9 L L.length).Nodup := by
  unfold N9; refine List.pairwise_flatten.2 ⟨fun l hl => ?_, ?_⟩
  · obtain ⟨a, ha, rfl⟩ := List.mem_map.1 hl; have ha := List.mem_range.1 ha; unfold In; refine List.pairwise_flatten.2 ⟨fun l hl => ?_, ?_⟩
    · obtain ⟨i, hi, rfl⟩ := List.mem_map.1 hl; exact (J8 hm hn ha (List.mem_range.1 hi)).2.1
    · refine Oz _ fun i j hij hj x hx y hy he => ?_; obtain ⟨_, b, hb, rfl, _⟩ := ((J8 hm hn ha (by omega)).2.2.1 x).1 hx; obtain ⟨_, b', hb', rfl, _⟩ := ((J8 hm hn ha hj).2.2.1 y).1 hy; have := U8 ((mayS_iff.1 hm).2.2 a ha) hij hj; simp only [TDep.mk.injEq] at he; omega
  · refine Oz _ fun i j hij hj x hx y hy he => ?_; unfold In at hx hy; obtain ⟨l1, hl1, hx⟩ := List.mem_flatten.1 hx; obtain ⟨l2, hl2, hy⟩ := List.mem_flatten.1 hy; obtain ⟨u, hu, rfl⟩ := List.mem_map.1 hl1; obtain ⟨v, hv, rfl⟩ := List.mem_map.1 hl2; obtain ⟨_, b, hb, rfl, _⟩ := ((J8 hm hn (by omega) (List.mem_range.1 hu)).2.2.1 x).1 hx; obtain ⟨_, b', hb', rfl, _⟩ := ((J8 hm hn (by omega) (List.mem_range.1 hv)).2.2.1 y).1 hy; simp only [TDep.mk.injEq] at he; omega
theorem sort_hg : Iy (N9 L L.length) = Gn L := Zi (hgTo_nodup hm hn) (Yr _) (hgTo_mem hm hn)
end
theorem m_All (g : Aj) (h1 : Fits g.Succ) (h2 : Fits g.Pred) : Fy g = some (depG g) := by
  unfold Fy depG; rw [m_pTree g h1 h2, Option.bind_some]
  by_cases hc : Ha g = true ∧ g.Succ.length < 64
  · obtain ⟨hm, hg⟩ := Ow hc.1; have hn := hc.2; rw [if_pos hc, if_pos hc]
    have hb : (((B2 g.Succ).length : Int) == 0) = false := by
      rw [beq_eq_false_iff_ne, Um hm hn]; omega
    have hl := Rx hm hn g.Succ.length (Nat.le_refl _)
    have hs : E5 (N9 g.Succ g.Succ.length) = some (Gn g.Succ) := by
      unfold E5; rw [Ad (by omega), sort_hg hm hn]
    have hlen : (N9 g.Succ g.Succ.length).length = (Gn g.Succ).length := by
      rw [← sort_hg hm hn]; exact (List.length_mergeSort _).symm
    simp only [hb, cond_false]; rw [hg]
    show Option.bind (Ay (D1 (F8 g.Succ) (B2 g.Succ)) _) _ = _
    rw [all_L2 hm hn, Option.bind_some, hs, Option.bind_some, Ad hlen]
    rfl
  · rw [if_neg hc, if_neg hc]
    rfl
theorem m_Of (g : Aj) (x : Int) (h1 : Fits g.Succ) (h2 : Fits g.Pred) : Jq g x = some ((depG g).filter fun d => d.Block == x) := by
  have hroom : (1000000 : Nat) ≤ room := by decide
  have hl := Xd g; unfold Jq; rw [m_All g h1 h2, Option.bind_some]
  generalize depG g = l at hl ⊢
  rw [filt_loop (f := Hp x l) l (fun d => d.Block == x) hl (fun o i hi ho => ?_) (fun o => ?_), Option.bind_some]
  · unfold Hp; simp only [Cx hi, cond_true, Ao]; rw [Ad (D3 hi)]
    cases hb : (l.getD i default).Block == x with
    | true =>
      rw [cond_true, Ad (by simp only [List.length_singleton]; omega), if_pos rfl, Option.bind_some, w1 (by omega)]
    | false =>
      rw [cond_false, if_neg (by simp), Option.bind_some, w1 (by omega), List.append_nil]
  · unfold Hp; simp only [Ej, cond_false]
theorem m_index_fn (l : List Int) (w : List Bool) (hl : l.length ≤ 64) (hin : ∀ x ∈ l, 0 ≤ x ∧ x < (w.length : Int)) : ∃ r : Int, Cp l w = some (r, w) ∧ (decide (0 ≤ r) = l.any fun p => w.getD p.toNat false) := by
  have key : ∀ (k i : Nat), i + k = l.length → (∀ j, j < i → w.getD (l.getD j 0).toNat false = false) → ∃ x, Ay (Bm l) ((i : Int), w) = some x ∧
      ((x = .inl w ∧ ∀ j, j < l.length → w.getD (l.getD j 0).toNat false = false) ∨ ∃ r, r < l.length ∧ x = .inr ((r : Int), w) ∧ w.getD (l.getD r 0).toNat false = true) := by
    intro k
    induction k with
    | zero =>
      intro i hi h
      obtain rfl : i = l.length := by omega
      refine ⟨.inl w, A1 ?_, .inl ⟨rfl, h⟩⟩; unfold Bm; simp only [Ej, cond_false]
    | succ k ih =>
      intro i hi h
      have hil : i < l.length := by omega
      have hx := hin _ (Fp (d := 0) hil)
      have hc : Et (l.getD i 0) w = some (w.getD (l.getD i 0).toNat false, w) := by
        unfold Et; rw [Ad (inbz hx.1 hx.2)]
      cases hb : w.getD (l.getD i 0).toNat false with
      | true =>
        refine ⟨.inr ((i : Int), w), A1 ?_, .inr ⟨i, hil, rfl, hb⟩⟩; unfold Bm; simp only [Cx hil, cond_true, Ao]; rw [Ad (D3 hil), hc, Option.bind_some]; simp only [hb, cond_true]
      | false =>
        obtain ⟨x, e1, e2⟩ := ih (i + 1) (by omega) (fun j hj => by
          by_cases e : j = i
          · subst e; exact hb
          · exact h j (by omega))
        refine ⟨x, ?_, e2⟩; rw [Bb (s' := (((i + 1 : Nat) : Int), w)) ?_]
        · exact e1
        · unfold Bm; simp only [Cx hil, cond_true, Ao]; rw [Ad (D3 hil), hc, Option.bind_some]; simp only [hb, cond_false]; rw [w1 (by omega)]
  obtain ⟨x, e1, e2⟩ := key l.length 0 (by omega) (fun j hj => absurd hj (Nat.not_lt_zero _)); unfold Cp; have e1' : Ay (Bm l) ((0 : Int), w) = some x := e1; rw [e1', Option.bind_some]; rcases e2 with ⟨rfl, h⟩ | ⟨r, hr, rfl, h⟩
  · refine ⟨-1, rfl, ?_⟩
    have : (l.any fun p => w.getD p.toNat false) = false := by
      rw [List.any_eq_false]; intro p hp; obtain ⟨j, hj, rfl⟩ := List.mem_iff_getElem.1 hp; have := h j hj; rw [Am _ _ _ hj] at this; rw [this]; simp
    rw [this]; rfl
  · refine ⟨(r : Int), rfl, ?_⟩; have : (l.any fun p => w.getD p.toNat false) = true := List.any_eq_true.2 ⟨_, Fp (d := 0) hr, h⟩; rw [this]; simp
theorem Aab (l : List Int) (w : List Bool) (hl : l.length ≤ 64) (hin : ∀ x ∈ l, 0 ≤ x ∧ x < (w.length : Int)) : Cf l w = some (l.any fun p => w.getD p.toNat false, w) := by
  obtain ⟨r, h1, h2⟩ := m_index_fn l w hl hin; unfold Cf; rw [h1, Option.bind_some]; simp only [h2]
section
variable {L : List (List Int)} (hm : Ds L = true)
include hm
theorem fr_L1 (x : Int) : Ay (C2 x (F3 L 0)) ((0 : Int), List.replicate ((((F3 L 0).length : Int)).toNat) false) = some ((List.range L.length).map fun i : Nat => Gz (F3 L 0) x (i : Int)) := by
  have h64 := (mayS_iff.1 hm).2.1; rw [Ao, Fu]
  have e0 : List.replicate L.length false = (List.range L.length).map fun j : Nat => if j < 0 then Gz (F3 L 0) x (j : Int) else false := by
    refine List.ext_getElem (by simp) fun i g1 g2 => by simp
  have e1 : ((List.range L.length).map fun i : Nat => Gz (F3 L 0) x (i : Int)) = (List.range L.length).map fun j : Nat => if j < L.length then Gz (F3 L 0) x (j : Int) else false := Fq fun i hi => by rw [if_pos hi]
  rw [e0, e1]; refine Eh (C2 x (F3 L 0)) (fun i => (((i : Nat) : Int), (List.range L.length).map fun j : Nat => if j < i then Gz (F3 L 0) x (j : Int) else false)) _ L.length (fun i hi => ?_) ?_
  · show C2 x (F3 L 0) ((i : Int), _) = _
    unfold C2; simp only [Ao, Fu, List.length_replicate, Cx hi, cond_true]; rw [Vc (by rw [Fu]; omega), Option.bind_some, Ad (D3 (by simpa using hi)), w1 (by omega), Nf]
    congr 3
    refine Fq fun j hj => ?_
    by_cases e : j = i
    · subst e; rw [if_pos rfl, if_pos (by omega)]
    · rw [if_neg e]
      by_cases e2 : j < i
      · rw [if_pos e2, if_pos (by omega)]
      · rw [if_neg e2, if_neg (by omega)]
  · show C2 x (F3 L 0) ((L.length : Int), _) = _
    unfold C2; simp only [Ao, Fu, List.length_replicate, Ej, cond_false]
theorem over_B {x i : Nat} (hx : x < L.length) (hi : i < L.length) : Gz (F3 L 0) (x : Int) (i : Int) = Ez L 0 x i := by
  have h1 := (mayS_iff.1 hm).1; obtain ⟨P, _, o, d⟩ := U4 hm (r := 0) (by omega); rw [Bool.eq_iff_iff, d.over_dom o hx hi, N5 hm (by omega) hi]
theorem fr_L2 {x : Nat} (hx : x < L.length) : Ay (Cm (F8 L) (x : Int)) (([] : List Int), (0 : Int), (List.range L.length).map fun i => Ez L 0 x i) = some (frontL L x) := by
  have hroom : (1000 : Nat) ≤ room := by decide
  have h64 := (mayS_iff.1 hm).2.1; have hg : (F8 L).Pred = Br L := rfl; refine Eh (Cm (F8 L) (x : Int)) (fun i => (((List.range i).filter (Hh L x)).map Int.ofNat, ((i : Nat) : Int), (List.range L.length).map fun i => Ez L 0 x i)) _ L.length (fun i hi => ?_) ?_
  · show Cm (F8 L) (x : Int) (_, (i : Int), _) = _
    have hfl : (((List.range i).filter (Hh L x)).map Int.ofNat).length ≤ 64 := by
      have := List.length_filter_le (Hh L x) (List.range i); simp only [List.length_map, List.length_range] at this ⊢; omega
    have hpl : (D0 L L.length i).length ≤ 64 := Nat.le_trans (Kg ..) h64
    have hin : ∀ y ∈ D0 L L.length i, 0 ≤ y ∧ y < ((((List.range L.length).map fun i => Ez L 0 x i).length : Nat) : Int) := fun y hy => by
      unfold D0 at hy; obtain ⟨k, hk, rfl⟩ := List.mem_map.1 hy; have := List.mem_range.1 (List.mem_filter.1 hk).1; simp only [List.length_map, List.length_range, Int.ofNat_eq_natCast]; omega
    have hany : ((D0 L L.length i).any fun p => ((List.range L.length).map fun i => Ez L 0 x i).getD p.toNat false) = (List.range L.length).any fun a => Hz L a i && Ez L 0 x a := by
      rw [Bool.eq_iff_iff, List.any_eq_true, List.any_eq_true]; unfold D0
      constructor
      · rintro ⟨p, hp, h⟩; obtain ⟨k, hk, rfl⟩ := List.mem_map.1 hp; obtain ⟨hk1, hk2⟩ := List.mem_filter.1 hk; refine ⟨k, hk1, ?_⟩; rw [show (Int.ofNat k).toNat = k from rfl, Ia (List.mem_range.1 hk1)] at h; rw [hk2, h]; rfl
      · rintro ⟨k, hk1, h⟩; rw [Bool.and_eq_true] at h; refine ⟨Int.ofNat k, List.mem_map.2 ⟨k, List.mem_filter.2 ⟨hk1, h.1⟩, rfl⟩, ?_⟩; rw [show (Int.ofNat k).toNat = k from rfl, Ia (List.mem_range.1 hk1)]; exact h.2
    have hcf := Aab _ _ hpl hin; rw [hany] at hcf; have hfr : Hh L x i = (((List.range L.length).any fun a => Hz L a i && Ez L 0 x a) && (decide (i = x) || !Ez L 0 x i)) := rfl; unfold Cm; simp only [hg, Cr, Cx hi, cond_true, Ao, Vk, Ia hi, Gk hi]; rw [Ad (D3 hi), Ad (fun _ => D3 (by simpa using hi))]; rw [List.range_succ, List.filter_append, List.map_append]
    cases hA : decide (i = x) with
    | true =>
      rw [hA] at hfr; simp only [cond_true, beq_self_eq_true, hcf, Option.bind_some]
      cases hB : ((List.range L.length).any fun a => Hz L a i && Ez L 0 x a) with
      | true =>
        rw [hB] at hfr
        have : Hh L x i = true := by rw [hfr]; rfl
        rw [cond_true, Ad (by simp only [List.length_singleton]; omega), Option.bind_some]; simp only [w1 (show i < 4611686018427387904 by omega)]; simp [this]
      | false =>
        rw [hB] at hfr
        have : Hh L x i = false := by rw [hfr]; rfl
        rw [cond_false, Option.bind_some]; simp only [w1 (show i < 4611686018427387904 by omega)]; simp [this]
    | false =>
      rw [hA] at hfr
      cases hO : Ez L 0 x i with
      | true =>
        rw [hO] at hfr
        have : Hh L x i = false := by rw [hfr]; simp
        simp only [cond_false, Bool.not_true, show (false == true) = false from rfl, Option.bind_some]; simp only [w1 (show i < 4611686018427387904 by omega)]; simp [this]
      | false =>
        rw [hO] at hfr; simp only [cond_false, Bool.not_false, beq_self_eq_true, cond_true, hcf, Option.bind_some]
        cases hB : ((List.range L.length).any fun a => Hz L a i && Ez L 0 x a) with
        | true =>
          rw [hB] at hfr
          have : Hh L x i = true := by rw [hfr]; rfl
          rw [cond_true, Ad (by simp only [List.length_singleton]; omega), Option.bind_some]; simp only [w1 (show i < 4611686018427387904 by omega)]; simp [this]
        | false =>
          rw [hB] at hfr
          have : Hh L x i = false := by rw [hfr]; rfl
          rw [cond_false, Option.bind_some]; simp only [w1 (show i < 4611686018427387904 by omega)]; simp [this]
  · show Cm (F8 L) (x : Int) (_, (L.length : Int), _) = _
    unfold Cm; simp only [hg, Cr, Ej, cond_false]
    rfl
end
theorem overD_nil (a b : Int) : Gz [] a b = false := by
  unfold Gz; rw [Pn (by simp [K4])]
  by_cases h : a = -2
  · subst h; decide
  · simp [Ne.symm h]
theorem overD_out {t : List Int} {a b : Int} (h : ¬ (0 ≤ a ∧ a < (t.length : Int))) : Gz t a b = false := by
  unfold Gz
  have hb : K4 t a = false := by
    unfold K4
    by_cases h0 : 0 ≤ a
    · have : ¬ a < (t.length : Int) := fun h1 => h ⟨h0, h1⟩; simp [this]
    · simp [h0]
  rw [Pn (by rw [hb]; simp)]
  simp
theorem m_Front (g : Aj) (x : Int) (h1 : Fits g.Succ) (h2 : Fits g.Pred) : Eu g x = some (Vq g x) := by
  have hroom : (1000 : Nat) ≤ room := by decide
  unfold Eu Vq; rw [Z7 g 0 h1 h2, Option.bind_some]; unfold Xs
  by_cases hG : Ha g = true
  · obtain ⟨hm, hg⟩ := Ow hG; obtain ⟨hL1, h64, _⟩ := mayS_iff.1 hm; rw [if_pos ⟨hG, by omega, by omega⟩, show (0 : Int).toNat = 0 from rfl, Vc (by rw [Fu]; omega), Option.bind_some]
    by_cases hx : 0 ≤ x ∧ x < (g.Succ.length : Int)
    · obtain ⟨x, rfl⟩ : ∃ y : Nat, x = (y : Int) := ⟨x.toNat, by omega⟩
      have hxl : x < g.Succ.length := by omega
      rw [over_B hm hxl hxl]
      have hxx : Ez g.Succ 0 x x = (Iu g.Succ 0 (-1)).getD x false := by
        rw [Bool.eq_iff_iff, N5 hm (by omega) hxl, N1 hm (by omega)]; exact ⟨fun h => h.1, fun h => ⟨h, fun k => k.ne rfl⟩⟩
      rw [hxx]
      cases hr : (Iu g.Succ 0 (-1)).getD x false with
      | false => rw [if_neg (fun h => by rw [Ao, hr] at h; cases h.2.2.2)]; rfl
      | true =>
        rw [if_pos ⟨hG, by omega, by omega, by rw [Ao]; exact hr⟩]; simp only [Bool.not_true, cond_false]; rw [Ad ⟨by omega, Int.le_refl _, by rw [Fu]; omega⟩, fr_L1 hm, Option.bind_some]; have e : ((List.range g.Succ.length).map fun i : Nat => Gz (F3 g.Succ 0) (x : Int) (i : Int)) = (List.range g.Succ.length).map fun i => Ez g.Succ 0 x i := Fq fun i hi => over_B hm hxl hi; rw [e, hg]
        show Option.bind (Ay (Cm (F8 g.Succ) (x : Int)) _) _ = _
        rw [show (F8 g.Succ).Succ = g.Succ from rfl, fr_L2 hm hxl]
        rfl
    · rw [overD_out (by rw [Fu]; exact hx), if_neg (fun h => hx ⟨h.2.1, h.2.2.1⟩)]
      rfl
  · rw [if_neg (fun h => hG h.1), if_neg (fun h => hG h.1), Vc (by simp), Option.bind_some, overD_nil]
    rfl
theorem facts9 : Zk := ⟨m_All, m_Of, m_Front, Z7, fun t a b h => Vc (by omega) a b⟩
end
end Go.Proofs.Ytjdddniaokcgnaa

namespace Go.Proofs.Ytjdddniaokcgnaa
noncomputable section
open Go Go.RowKit
end
end Go.Proofs.Ytjdddniaokcgnaa

namespace Go.Proofs.Ytjdddniaokcgnaa
noncomputable section
open Go Go.RowKit
set_option linter.unusedVariables false
abbrev Iall (w : World) : Nat → Nat → Prop := fun b o => ∃ u, w.cell? ⟨b, o, none⟩ = some u
structure CRep (w : World) (cs : List Value) (avs : List AV) : Prop where
  len : cs.length = avs.length
  one : ∀ j, j < avs.length → (cs.getD j undef).oneCell' = true
  rep : ∀ j, j < avs.length → RepV (Iall w) w (cs.getD j undef) (avs.getD j .any)
structure Sp (P : Program) (t : TypeId) {α : Type} (e : α → List AV) (ok : α → Prop) : Prop where
  get : ∀ {H : Type} {enc : TypeId × Value → H} {w : World} {base : Nat} {spare : Nat → Bool} {held : Bool} {fuel : Nat} {cs : List Value} {x : DataW H × List MemPlace},
    DataW.trod enc P w base spare held fuel t cs = some x → ∃ a, ok a ∧ CRep w cs (e a)
theorem Rq {w : World} {v : Value} {x : AV} (h1 : v.oneCell' = true) (h : RepV (Iall w) w v x) : CRep w [v] [x] :=
  ⟨rfl, fun j hj => (by
      have hj0 : j = 0 := by simpa using hj
      subst hj0
      exact h1), fun j hj => (by
      have hj0 : j = 0 := by simpa using hj
      subst hj0
      exact h)⟩
theorem opens_int {P : Program} {t : TypeId} {k : IntKind} {e : Int → List AV} (ht : P.underlying t = some (.int k)) (he : ∀ n, e n = [.int k n]) : Sp P t e (fun n => (Lit.int k n).wf = true) := by
  refine ⟨?_⟩; intro H enc w base spare held fuel cs x h; obtain ⟨n, rfl, rfl, hw⟩ := DataW.trod_int ht h; exact ⟨n, hw, by rw [he]; exact Rq rfl (.int _ _)⟩
theorem Aae {w : World} {base : Nat} {a : Addr} {n : Nat} {cs : List Value} (h : w.cells? base a n = some cs) : cs.length = n ∧ ∀ i, i < n → w.cell? (a.add i) = some (cs.getD i undef) := by
  unfold World.cells? at h
  split at h
  · have hl := mapM_some_length h; simp at hl; refine ⟨hl, fun i hi => ?_⟩; have := mapM_some_get h i i (by simp [hi]); rw [this]; simp [List.getD, show i < cs.length by omega]
  · cases h
theorem Px {P : Program} {t el : TypeId} {α : Type} {e : α → List AV} {ok : α → Prop} {sz : Nat} {d : α} {e' : List α → List AV} (ht : P.underlying t = some (.slice el)) (hs : P.cellsOf el = sz) (h1 : 1 ≤ sz) (he : Sp P el e ok) (hlen : ∀ a, (e a).length = sz)
    (he' : ∀ l, e' l = [AV.list sz e d l .none]) : Sp P t e' (fun l => (∀ a ∈ l, ok a) ∧ l.length ≤ maxLen) := by
  refine ⟨?_⟩; intro H enc w base spare held fuel cs x h; rcases DataW.trod_slice ht h with ⟨rfl, rfl⟩ | ⟨a, len, cap, elems, rest, n, _, rfl, rfl, hb, hl, hm, hlen2, hel, _⟩
  · exact ⟨[], ⟨by simp, by simp⟩, by rw [he']; exact Rq rfl (.slice none 0 0 sz _ (fun _ => undef) (Nat.le_refl _) (by simp) (fun h => by simp at h) (fun _ => rfl) (fun j hj => by simp at hj) (fun i hi => by simp at hi) (fun i c hi => by simp at hi))⟩
  · have each : ∀ i : Fin len, ∃ b, ok b ∧ ∃ cs, w.cells? base (a.add (i.1 * sz)) sz = some cs ∧ CRep w cs (e b) := fun ⟨i, hi⟩ => by
      have := hel i hi; rw [hs, List.getElem?_eq_getElem (by omega), Option.bind_eq_some_iff] at this; obtain ⟨cs, hcs, htr⟩ := this; obtain ⟨b, hb, hr⟩ := he.get htr; exact ⟨b, hb, cs, hcs, hr⟩
    let f : Fin len → α := fun i => (each i).choose
    have hf : ∀ i, ok (f i) ∧ ∃ cs, w.cells? base (a.add (i.1 * sz)) sz = some cs ∧ CRep w cs (e (f i)) := fun i => (each i).choose_spec
    have hlf : (List.ofFn f).length = len := by simp
    refine ⟨List.ofFn f, ⟨fun b hb => ?_, by simp; omega⟩, ?_⟩
    · obtain ⟨i, rfl⟩ := List.mem_ofFn.1 hb; exact (hf i).1
    rw [he']; refine Rq rfl ?_
    have hcell0 : ∀ i (hi : i < len), ∀ c, c < sz → ∃ u, w.cell? ((a.add (i * sz)).add c) = some u ∧ u.oneCell' = true ∧ RepV (Iall w) w u ((e (f ⟨i, hi⟩)).getD c .any) := fun i hi c hc => by
      obtain ⟨_, cs, hcs, hr⟩ := hf ⟨i, hi⟩; obtain ⟨hl, hg⟩ := Aae hcs; exact ⟨_, hg c hc, hr.one c (by rw [hlen]; exact hc), hr.rep c (by rw [hlen]; exact hc)⟩
    have hspot : 0 < len → a.spot = none := fun hp => by
      obtain ⟨u, hu, _⟩ := hcell0 0 hp 0 h1; have h2 := World.cell?_spot hu
      simpa [Addr.add] using h2
    have hcell : ∀ i (hi : i < len), ∀ c, c < sz → ∃ u, w.cell? ⟨a.block, a.off + (i * sz + c), none⟩ = some u ∧ u.oneCell' = true ∧ RepV (Iall w) w u ((e (f ⟨i, hi⟩)).getD c .any) := fun i hi c hc => by
      obtain ⟨u, hu, h1, h2⟩ := hcell0 i hi c hc; have hsp := hspot (by omega); rw [Fg hsp, Addr.add_lit] at hu; exact ⟨u, by rw [← Nat.add_assoc]; exact hu, h1, h2⟩
    have hdm : ∀ j, j < len * sz → ∃ i c, i < len ∧ c < sz ∧ j = i * sz + c := fun j hj => by
      refine ⟨j / sz, j % sz, (Nat.div_lt_iff_lt_mul (by omega)).2 hj, Nat.mod_lt _ (by omega), ?_⟩; rw [Nat.mul_comm]; exact (Nat.div_add_mod j sz).symm
    unfold AV.list; rw [hlf]; refine .slice (some a) len cap sz _ (fun j => (w.cell? ⟨a.block, a.off + j, none⟩).getD undef) hl hm (fun hp => ⟨a, rfl, hspot hp, fun j hj => ?_, fun j hj => ?_⟩) (fun h => by cases h) (fun j hj => ?_) (fun i hi => hlen _) (fun i c hi hc => ?_)
    · obtain ⟨i, c, hi, hc, rfl⟩ := hdm j hj; obtain ⟨u, hu, _⟩ := hcell i hi c hc; exact ⟨u, hu⟩
    · obtain ⟨i, c, hi, hc, rfl⟩ := hdm j hj; obtain ⟨u, hu, _⟩ := hcell i hi c hc; rw [hu]; rfl
    · obtain ⟨i, c, hi, hc, rfl⟩ := hdm j hj; obtain ⟨u, hu, h1, _⟩ := hcell i hi c hc; simp only [hu]; exact h1
    · obtain ⟨u, hu, _, h2⟩ := hcell i hi c hc
      have e1 : (List.ofFn f).getD i d = f ⟨i, hi⟩ := by simp [List.getD, hi]
      rw [e1, hu]; exact h2
structure OpensF (P : Program) (fs : List Field) (off N : Nat) {α : Type} (e : α → List AV) (ok : α → Prop) : Prop where
  get : ∀ {H : Type} {enc : TypeId × Value → H} {w : World} {base : Nat} {spare : Nat → Bool} {held : Bool} {n : Nat} {cs : List Value}, cs.length = N →
    (∀ f ∈ fs, ∃ x, DataW.trod enc P w base spare held n f.type ((cs.drop f.offset).take (P.cellsOf f.type)) = some x) → ∃ a, ok a ∧ CRep w (cs.drop off) (e a)
theorem arg_one {P : Program} {t : TypeId} {α : Type} {e : α → List AV} {ok : α → Prop} (h : Sp P t e ok) {x : α → AV} (he : ∀ a, e a = [x a]) {H : Type} {enc : TypeId × Value → H} {w : World} {base : Nat} {spare : Nat → Bool} {held : Bool} {v : Value} {d : DataW H} {ps : List MemPlace}
    (hv : v.cells = #[v]) (hd : DataW.Trod enc P w base spare held t v d ps) : ∃ a, ok a ∧ RepV (Iall w) w v (x a) := by
  obtain ⟨fuel, hf⟩ := hd; obtain ⟨a, ha, hr⟩ := h.get hf; refine ⟨a, ha, ?_⟩; have := hr.rep 0 (by simp [he])
  simpa [hv, he] using this
end
end Go.Proofs.Ytjdddniaokcgnaa

namespace Go.Proofs.Ytjdddniaokcgnaa
noncomputable section
open Go Go.RowKit
def okI64 (n : Int) : Prop := (Lit.int .i64 n).wf = true
theorem op_3 : Sp Try.prog 3 Ac okI64 := opens_int Try.underlying3 (fun _ => rfl)
def okLI64 (l : List (Int)) : Prop := (∀ a ∈ l, okI64 a) ∧ l.length ≤ maxLen
theorem op_31 : Sp Try.prog 31 eLI64 okLI64 := Px (d := (0 : Int)) Try.underlying31 (by kernel_rfl) (by decide) op_3 (fun _ => rfl) (fun _ => rfl)
def okLLI64 (l : List (List (Int))) : Prop := (∀ a ∈ l, okLI64 a) ∧ l.length ≤ maxLen
theorem op_22 : Sp Try.prog 22 eLLI64 okLLI64 := Px (d := []) Try.underlying22 (by kernel_rfl) (by decide) op_31 (fun _ => rfl) (fun _ => rfl)
end
end Go.Proofs.Ytjdddniaokcgnaa
