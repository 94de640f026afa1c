/-
  The machine, the program's functions and the laws' arithmetic: part 6 of 6.
-/
import Derived.Test.YtjpacggpipflcaaPk5
import Derived.OpenShut
import Derived.ShutString
set_option linter.unusedVariables false
set_option linter.unusedSimpArgs false
namespace Go.Proofs.Ytjpacggpipflcaa
noncomputable section
open Go Go.RowKit
set_option linter.unusedVariables false
set_option linter.unusedSimpArgs false
section
variable {S : Nat → List Nat}
end
section
variable {L : List (List Int)} (hm : Ex L = true)
include hm
theorem goes_sN {p y : Nat} (hp : p < L.length) : y ∈ sN L p ↔ Nb L p y = true := by
  rw [N0]; obtain ⟨_, _, h3⟩ := mayS_iff.1 hm
  constructor
  · intro h; obtain ⟨z, hz, rfl⟩ := List.mem_map.1 h; have := Gc (h3 p hp) hz; rw [Int.toNat_of_nonneg this.1]; exact hz
  · intro h; exact List.mem_map.2 ⟨_, h, Ap y⟩
theorem Sx {t h : Nat} (ht : t < L.length) : M1 L t h = true ↔ h ∈ sN L t ∧ Rc (sN L) 0 t ∧ ¬ Av (sN L) 0 h t := by
  have h1 := (mayS_iff.1 hm).1; unfold M1; rw [Bool.and_eq_true, N6 hm (by omega) ht, goes_sN hm ht]
theorem head_iff {h : Nat} : Hr L h = true ↔ ∃ t, t < L.length ∧ M1 L t h = true := by
  unfold Hr; rw [List.any_eq_true]
  constructor
  · rintro ⟨p, hp, he⟩; obtain ⟨a, b, rfl, ha, hb, hB⟩ := mem_backs.1 hp
    have : b = h := by have := beq_iff_eq.1 he; exact Int.ofNat.inj this
    subst this; exact ⟨a, ha, hB⟩
  · rintro ⟨t, ht, hB⟩; have hh := I9 hm t ht h ((Sx hm ht).1 hB).1; exact ⟨((t : Int), (h : Int)), mem_backs.2 ⟨t, h, rfl, ht, hh, hB⟩, by simp⟩
theorem body_iff {h x : Nat} (hx : x < L.length) : Pr L h x = true ↔ x = h ∨ (x ≠ h ∧ Rc (sN L) 0 x ∧ ∃ t, t < L.length ∧ M1 L t h = true ∧ Av (sN L) x h t) := by
  have h1 := (mayS_iff.1 hm).1; unfold Pr; rw [Bool.or_eq_true, decide_eq_true_eq, List.any_eq_true]
  constructor
  · rintro (e | ⟨p, hp, he⟩)
    · exact .inl e
    · obtain ⟨a, b, rfl, ha, hb, hB⟩ := mem_backs.1 hp; unfold inBy at he; rw [Bool.and_eq_true, Bool.and_eq_true, Bool.and_eq_true, decide_eq_true_eq] at he; obtain ⟨e1, e2, e3, e4⟩ := he
      have : b = h := by have := beq_iff_eq.1 e1; exact Int.ofNat.inj this
      subst this; refine .inr ⟨e2, (Fb hm (by omega)).1 e3, a, ha, hB, (Ip hm hx ha).1 ?_⟩
      simpa using e4
  · rintro (e | ⟨e2, e3, t, ht, hB, hA⟩)
    · exact .inl e
    · have hh := I9 hm t ht h ((Sx hm ht).1 hB).1; refine .inr ⟨((t : Int), (h : Int)), mem_backs.2 ⟨t, h, rfl, ht, hh, hB⟩, ?_⟩; unfold inBy; rw [Bool.and_eq_true, Bool.and_eq_true, Bool.and_eq_true, decide_eq_true_eq]; refine ⟨by simp, e2, (Fb hm (by omega)).2 e3, ?_⟩
      show (Ij L x (h : Int)).getD ((t : Int)).toNat false = true
      rw [Ap]; exact (Ip hm hx ht).2 hA
end
theorem Ty {L : List (List Int)} {h x : Nat} (hx : x < L.length) : (F7 L h).contains (x : Int) = Pr L h x := by
  rw [Bool.eq_iff_iff, List.contains_iff_mem]; unfold F7; rw [L4]
  constructor
  · rintro ⟨k, e, h1, h2⟩; cases Int.ofNat.inj e; exact h2
  · intro h; exact ⟨x, rfl, hx, h⟩
end
end Go.Proofs.Ytjpacggpipflcaa

namespace Go.Proofs.Ytjpacggpipflcaa
noncomputable section
open Go Go.RowKit
set_option linter.unusedVariables false
set_option linter.unusedSimpArgs false
section
variable {L : List (List Int)} (hm : Ex L = true)
include hm
theorem Pz {a : Nat} (ha : a < L.length) : On L a = true ↔ Rc (sN L) 0 a ∧ ∃ y, y ∈ sN L a ∧ Rc (sN L) y a := by
  have h1 := (mayS_iff.1 hm).1; have hok := (mayS_iff.1 hm).2.2; unfold On; rw [Bool.and_eq_true, Fb hm (by omega), List.any_eq_true]; refine and_congr Iff.rfl ?_
  constructor
  · rintro ⟨y, hy, h⟩; have hz := Gc (hok a ha) hy; exact ⟨y.toNat, List.mem_map.2 ⟨y, hy, rfl⟩, (Fb hm (by omega)).1 h⟩
  · rintro ⟨y, hy, h⟩; obtain ⟨z, hz, rfl⟩ := List.mem_map.1 hy; have hzb := Gc (hok a ha) hz; exact ⟨z, hz, (Fb hm (by omega)).2 h⟩
theorem Qz : Ng L = true ↔ ∃ a, a < L.length ∧ Rc (sN L) 0 a ∧ ∃ y, y ∈ sN L a ∧ Rc (sN L) y a := by
  unfold Ng; rw [List.any_eq_true]
  constructor
  · rintro ⟨a, ha, h⟩; exact ⟨a, List.mem_range.1 ha, (Pz hm (List.mem_range.1 ha)).1 h⟩
  · rintro ⟨a, ha, h⟩; exact ⟨a, List.mem_range.2 ha, (Pz hm ha).2 h⟩
end
end
end Go.Proofs.Ytjpacggpipflcaa

namespace Go.Proofs.Ytjpacggpipflcaa
noncomputable section
open Go Go.RowKit
set_option linter.unusedVariables false
set_option linter.unusedSimpArgs false
def B9 (k h : Nat) : List (List Int) := (List.range k).map fun j => if j + 1 < k then [((j + 1 : Nat) : Int)] else [((h : Nat) : Int)]
theorem filt_one (h : Nat) : ∀ k, h < k → (List.range k).filter (fun x => decide (x = h)) = [h] := by
  intro k
  induction k with
  | zero => intro hk; omega
  | succ k ih =>
    intro hk; rw [List.range_succ, List.filter_append, List.filter_cons, List.filter_nil]
    by_cases e : k = h
    · subst e; rw [if_pos (by simp)]
      have : (List.range k).filter (fun x => decide (x = k)) = [] := List.filter_eq_nil_iff.2 fun x hx => by have := List.mem_range.1 hx; simp; omega
      rw [this]; rfl
    · rw [if_neg (by simpa using e), List.append_nil]; exact ih (by omega)
theorem filt_from (h : Nat) : ∀ k, ((List.range k).filter fun x => decide (h ≤ x)).length = k - h := by
  intro k
  induction k with
  | zero => simp
  | succ k ih =>
    rw [List.range_succ, List.filter_append, List.length_append, ih, List.filter_cons, List.filter_nil]
    by_cases e : h ≤ k
    · rw [if_pos (by simpa using e)]; simp; omega
    · rw [if_neg (by simpa using e)]; simp; omega
section
variable {k h : Nat}
theorem B8 : (B9 k h).length = k := by simp [B9]
theorem Rt {j : Nat} (hj : j < k) : (B9 k h).getD j [] = if j + 1 < k then [((j + 1 : Nat) : Int)] else [((h : Nat) : Int)] := by unfold B9; rw [Hz hj]
variable (hh : h < k) (hk : k ≤ 60)
include hh hk
theorem Jr : Ex (B9 k h) = true := by
  refine mayS_iff.2 ⟨by rw [B8]; omega, by rw [B8]; omega, fun i hi => ?_⟩; rw [B8] at hi ⊢; rw [Rt hi]
  split
  · exact Z8 (fun x hx => by simp only [List.mem_singleton] at hx; omega) (List.pairwise_singleton _ _)
  · exact Z8 (fun x hx => by simp only [List.mem_singleton] at hx; omega) (List.pairwise_singleton _ _)
theorem Yl : Vn (B9 k h) = true := by
  have _hh := hh; unfold Vn; refine all_range.2 fun i hi => ?_; rw [B8] at hi; rw [Rt hi, Bool.and_eq_true, decide_eq_true_eq, decide_eq_true_eq]; refine ⟨?_, by omega⟩
  split <;> simp
omit hh hk in
theorem ring_sN {i y : Nat} (hi : i < k) : y ∈ sN (B9 k h) i ↔ (i + 1 < k ∧ y = i + 1) ∨ (i + 1 = k ∧ y = h) := by
  unfold sN; rw [Rt hi]
  by_cases e : i + 1 < k
  · rw [if_pos e, List.map_singleton, List.mem_singleton, Ap]; omega
  · rw [if_neg e, List.map_singleton, List.mem_singleton, Ap]; omega
omit hh hk in
theorem ring_rc {a : Nat} (ha : a < k) : ∀ d, a + d < k → Rc (sN (B9 k h)) a (a + d) := by
  intro d
  induction d with
  | zero => intro _; exact .root
  | succ d ih => intro hd; exact .step (ih (by omega)) ((ring_sN (by omega)).2 (.inl ⟨by omega, by omega⟩))
omit hk in
theorem R6 {x : Nat} (hx : x < k) : Rc (sN (B9 k h)) 0 x := by have _hh := hh; have := ring_rc (h := h) (a := 0) (k := k) (by omega) x (by omega); rwa [Nat.zero_add] at this
theorem Sr {a x : Nat} (ha : a < h) (hav : Av (sN (B9 k h)) a h x) : x < h := by
  have _hk := hk
  induction hav with
  | root _ => exact ha
  | @step y z hy' hy hz ih =>
    rcases (ring_sN (by omega)).1 hy with ⟨_, rfl⟩ | ⟨h1, _⟩
    · omega
    · omega
omit hh hk in
theorem ring_up {a z : Nat} : ∀ d, a + d < k → (z < a ∨ a + d < z) → Av (sN (B9 k h)) a z (a + d) := by
  intro d
  induction d with
  | zero => intro _ hz; exact .root (by omega)
  | succ d ih => intro hd hz; exact .step (ih (by omega) (by omega)) ((ring_sN (by omega)).2 (.inl ⟨by omega, by omega⟩)) (by omega)
theorem Jy {t b : Nat} (ht : t < k) : M1 (B9 k h) t b = true ↔ t + 1 = k ∧ b = h := by
  rw [Sx (Jr hh hk) (by rw [B8]; exact ht), ring_sN ht]
  constructor
  · rintro ⟨h1, _, h3⟩; rcases h1 with ⟨h1, rfl⟩ | h1
    · refine absurd ?_ h3; have := ring_up (k := k) (h := h) (a := 0) (z := t + 1) t (by omega) (by omega); rwa [Nat.zero_add] at this
    · exact h1
  · rintro ⟨h1, rfl⟩; refine ⟨.inr ⟨h1, rfl⟩, R6 hh ht, fun hav => ?_⟩
    by_cases e : b = 0
    · subst e; exact (av_iff.1 hav).1 rfl
    · have := Sr hh hk (by omega) hav; omega
theorem ring_head {b : Nat} : Hr (B9 k h) b = decide (b = h) := by
  rw [Bool.eq_iff_iff, head_iff (Jr hh hk), decide_eq_true_eq, B8]
  constructor
  · rintro ⟨t, ht, hB⟩; exact ((Jy hh hk ht).1 hB).2
  · rintro rfl; exact ⟨k - 1, by omega, (Jy hh hk (by omega)).2 ⟨by omega, rfl⟩⟩
theorem O2 {x : Nat} (hx : x < k) : Pr (B9 k h) h x = decide (h ≤ x) := by
  rw [Bool.eq_iff_iff, body_iff (Jr hh hk) (by rw [B8]; exact hx), decide_eq_true_eq, B8]
  constructor
  · rintro (rfl | ⟨_, _, t, ht, hB, hA⟩)
    · exact Nat.le_refl _
    · refine Nat.le_of_not_lt fun hlt => ?_; have h1 := ((Jy hh hk ht).1 hB).1; have := Sr hh hk hlt hA; omega
  · intro hle
    by_cases e : x = h
    · exact .inl e
    · refine .inr ⟨e, R6 hh hx, k - 1, by omega, (Jy hh hk (by omega)).2 ⟨by omega, rfl⟩, ?_⟩; have := ring_up (k := k) (h := h) (a := x) (z := h) (k - 1 - x) (by omega) (by omega); rwa [show x + (k - 1 - x) = k - 1 by omega] at this
theorem Zm : F7 (B9 k h) h = ((List.range k).filter fun x => decide (h ≤ x)).map Int.ofNat := by
  unfold F7; rw [B8]
  congr 1
  exact List.filter_congr fun x hx => O2 hh hk (List.mem_range.1 hx)
theorem Qu : Ik (B9 k h) = [⟨((h : Nat) : Int), F7 (B9 k h) h⟩] := by
  unfold Ik; rw [B8]
  have : (List.range k).filter (Hr (B9 k h)) = [h] := by
    rw [List.filter_congr (q := fun x => decide (x = h)) fun x hx => ring_head hh hk]; exact filt_one h k hh
  rw [this]
  rfl
theorem ring_deep {x : Nat} (hx : x < k) : Ig (Ik (B9 k h)) (x : Int) = if h ≤ x then 1 else 0 := by
  rw [Qu hh hk]; unfold Ig; have := Ty (L := B9 k h) (h := h) (x := x) (by rw [B8]; exact hx); rw [List.filter_cons, List.filter_nil]; simp only [this, O2 hh hk hx]
  by_cases e : h ≤ x
  · rw [if_pos e, if_pos (by simpa using e)]; rfl
  · rw [if_neg e, if_neg (by simpa using e)]; rfl
theorem ring_fwd : Fs (B9 k h) [] = true := by
  unfold Fs; rw [Rq]; refine (Qz (Jr hh hk)).2 ⟨k - 1, by rw [B8]; omega, R6 hh (by omega), h, (ring_sN (by omega)).2 (.inr ⟨by omega, rfl⟩), ?_⟩; have := ring_rc (h := h) (a := h) hh (k - 1 - h) (by omega); rwa [show h + (k - 1 - h) = k - 1 by omega] at this
theorem ring_red : Fs (B9 k h) (Cj (B9 k h)) = false := by
  have hm := Jr hh hk; have hc := Xi hm (Cj (B9 k h)); unfold Fs; rw [← Bool.not_eq_true, Qz hc]
  have hs : ∀ i y, i < k → y ∈ sN (Mv (B9 k h) (Cj (B9 k h))) i → y = i + 1 := fun i y hi hy => by
    unfold sN at hy; rw [cutL_at (by rw [B8]; exact hi)] at hy; obtain ⟨z, hz, rfl⟩ := List.mem_map.1 hy; unfold Jh at hz; obtain ⟨z1, z2⟩ := List.mem_filter.1 hz; have hyL : z.toNat ∈ sN (B9 k h) i := List.mem_map.2 ⟨z, z1, rfl⟩; rcases (ring_sN hi).1 hyL with h1 | ⟨h1, h2⟩
    · exact h1.2
    · have hz0 := (Gc ((mayS_iff.1 hm).2.2 i (by rw [B8]; exact hi)) z1).1; have hp : ((i : Int), (h : Int)) ∈ Cj (B9 k h) := mem_backs.2 ⟨i, h, rfl, by rw [B8]; exact hi, by rw [B8]; exact hh, (Jy hh hk hi).2 ⟨h1, rfl⟩⟩; unfold F0 at z2; have := List.all_eq_true.1 z2 _ hp
      have hzh : z = (h : Int) := by omega
      rw [hzh] at this; simp at this
  rintro ⟨a, ha, _, y, hy, hr⟩; rw [Gz, B8] at ha; have hya := hs a y ha hy
  have key : ∀ x, Rc (sN (Mv (B9 k h) (Cj (B9 k h)))) y x → y ≤ x ∧ x < k := by
    intro x hx
    have hyk : y < k := by have := I9 hc a (by rw [Gz, B8]; exact ha) y hy; rwa [Gz, B8] at this
    induction hx with
    | root => exact ⟨Nat.le_refl _, hyk⟩
    | @step x z _ hz ih =>
      have := hs x z ih.2 hz; have h2 := I9 hc x (by rw [Gz, B8]; exact ih.2) z hz; rw [Gz, B8] at h2; omega
  have := (key a hr).1; omega
end
def Ji (k m : Nat) : List (List Int) := (List.range k).map fun j => if j < m then [((j + 1 : Nat) : Int)] else []
theorem ring10 (F : Vl) (n to : Int) (hn : 0 ≤ n ∧ n < 256) (hto : 0 ≤ to ∧ to < 256) : Dz n to = some true := by
  obtain ⟨k, hk, h1, h60⟩ : ∃ k : Nat, A0 ((1 : Int) + (Int.tmod (A0 n) (60 : Int))) = (k : Int) ∧ 1 ≤ k ∧ k ≤ 60 := by
    have hwf : A0 n = n := Gr (by omega) (by omega); rw [hwf, Int.tmod_eq_emod_of_nonneg hn.1]; have g1 := Int.emod_nonneg n (show (60 : Int) ≠ 0 by omega); have g2 := Int.emod_lt_of_pos n (show (0 : Int) < 60 by omega); rw [Gr (by omega) (by omega)]; exact ⟨(1 + n % 60).toNat, by omega, by omega, by omega⟩
  obtain ⟨h, hhe, hh⟩ : ∃ h : Nat, Int.tmod (A0 to) (k : Int) = (h : Int) ∧ h < k := by
    have hwf : A0 to = to := Gr (by omega) (by omega); rw [hwf, Int.tmod_eq_emod_of_nonneg hto.1]; have g1 := Int.emod_nonneg to (show (k : Int) ≠ 0 by omega); have g2 := Int.emod_lt_of_pos to (show (0 : Int) < (k : Int) by omega); exact ⟨(to % (k : Int)).toNat, by omega, by omega⟩
  have hroom : (1000 : Nat) ≤ room := by decide
  have hm := Jr hh h60; obtain ⟨g1, g2⟩ := N9 hm; have hG : H2 (Jn (B9 k h)) = true := N4 hm; unfold Dz; rw [m_awake10 F, Option.bind_some, Bool.not_true, cond_false]; simp only [hk, hhe, Ap]; rw [Ad (by omega), Ad ⟨by omega, by omega, by omega⟩]
  have hl1 : Aw (Bk n) ((0 : Int), List.replicate k ([] : List Int)) = some (Ji k (k - 1)) := by
    have e0 : List.replicate k ([] : List Int) = Ji k 0 := by
      unfold Ji
      refine List.ext_getElem (by simp) fun i g1 g2 => by simp
    rw [e0]; refine D6 (Bk n) (fun i => (((i : Nat) : Int), Ji k i)) _ (k - 1) (fun i hi => ?_) ?_
    · show Bk n ((i : Int), _) = _
      unfold Bk; simp only [hk]; rw [w1 (by omega), C6 (by omega), cond_true, Ad (Ef (by unfold Ji; simp; omega)), Ap]; unfold Ji; rw [Lo]
      congr 3
      refine Fq fun j hj => ?_
      by_cases e : j = i
      · subst e; rw [if_pos rfl, if_pos (by omega)]
      · rw [if_neg e]
        by_cases e2 : j < i
        · rw [if_pos e2, if_pos (by omega)]
        · rw [if_neg e2, if_neg (by omega)]
    · show Bk n (((k - 1 : Nat) : Int), _) = _
      unfold Bk; simp only [hk]; rw [w1 (by omega), show k - 1 + 1 = k by omega, Et, cond_false]
  have hk1 : A0 ((k : Int) - 1) = ((k - 1 : Nat) : Int) := by rw [Gr (by omega) (by omega)]; omega
  have hset : (Ji k (k - 1)).set (k - 1) [((h : Nat) : Int)] = B9 k h := by
    unfold Ji B9; rw [Lo]; refine Fq fun j hj => ?_
    by_cases e : j = k - 1
    · rw [if_pos e, if_neg (by omega)]
    · rw [if_neg e, if_pos (by omega), if_pos (by omega)]
  have hkl : (Ji k (k - 1)).length = k := by simp [Ji]
  have hkh : A0 ((k : Int) - (h : Int)) = ((k - h : Nat) : Int) := by rw [Gr (by omega) (by omega)]; omega
  have hL : D3 (Jn (B9 k h)) = [⟨((h : Nat) : Int), F7 (B9 k h) h⟩] := by unfold D3; rw [if_pos hG]; exact Qu hh h60
  have hbl : (F7 (B9 k h) h).length = k - h := by rw [Zm hh h60, List.length_map, filt_from]
  have hred : Zw (Jn (B9 k h)) = true := by
    unfold Zw; rw [hG, Bool.true_and]
    show (!Fs (B9 k h) (Cj (B9 k h))) = true
    rw [ring_red hh h60]; rfl
  have hfwd : Va (Jn (B9 k h)) = false := by
    unfold Va; rw [hG, Bool.true_and]
    show (!Fs (B9 k h) []) = false
    rw [ring_fwd hh h60]; rfl
  have hsm : C5 (B9 k h) = some true := by rw [m_small _ (by rw [B8]; omega), Yl hh h60]
  rw [hl1, Option.bind_some]; simp only [hk1, Ap, hset]; rw [Ad (Ef (by rw [hkl]; omega)), Zb _ (Ih (Ju hm)), hm, cond_true, Option.bind_some]; simp only [F.all _ g1 g2, hL, Option.bind_some]; have i0 : A8 (0 : Int) ([⟨((h : Nat) : Int), F7 (B9 k h) h⟩] : List A2).length := ⟨Int.le_refl _, Int.zero_lt_one⟩; have e0 : ([⟨((h : Nat) : Int), F7 (B9 k h) h⟩] : List A2).getD ((0 : Int)).toNat default = ⟨((h : Nat) : Int), F7 (B9 k h) h⟩ := rfl; have e1 : (((([⟨((h : Nat) : Int), F7 (B9 k h) h⟩] : List A2).length : Nat) : Int) != 1) = false := rfl; simp only [e0, e1, hbl, hkh, bne_self_eq_false, cond_false, beq_self_eq_true, cond_true, hsm, Option.bind_some, Bool.not_true]; rw [Ad (fun _ => i0), Ad (fun _ => i0)]
  have hl2 : Aw (Bl n to (Jn (B9 k h), 0) [⟨((h : Nat) : Int), F7 (B9 k h) h⟩]) (0 : Int) = some (.inl ()) := by
    refine D6 (Bl n to (Jn (B9 k h), 0) [⟨((h : Nat) : Int), F7 (B9 k h) h⟩]) (fun i => ((i : Nat) : Int)) _ k (fun i hi => ?_) ?_
    · show Bl _ _ _ _ (i : Int) = _
      unfold Bl
      have hd : D8 (Jn (B9 k h)) (i : Int) = some (((if h ≤ i then 1 else 0 : Nat) : Int)) := by
        rw [F.depth _ _ g1 g2]
        have : D3 (Jn (B9 k h)) = Ik (B9 k h) := by unfold D3; rw [if_pos hG]; rfl
        rw [this, ring_deep hh h60 hi]
      have hb : (F7 (B9 k h) h).contains (i : Int) = decide (h ≤ i) := by rw [Ty (by rw [B8]; exact hi), O2 hh h60 hi]
      have hhas : Dl (F7 (B9 k h) h) (i : Int) = some (decide (h ≤ i)) := by rw [m_has _ _ (by rw [hbl]; omega), hb]
      have hdi : decide ((h : Int) ≤ (i : Int)) = decide (h ≤ i) := decide_eq_decide.2 (by omega); simp only [hk, hhe, C6 hi, cond_true, hd, e0, hhas, hdi]
      by_cases e : h ≤ i
      · rw [decide_eq_true e, if_pos e]; simp only [cond_true, Option.bind_some]
        show Cl _ (Option.bind (bif (((1 : Nat) : Int) != 1) == false then some true else some false) _) = _
        rw [Ad (fun _ => i0)]; simp only [show ((((1 : Nat) : Int) != 1) == false) = true from rfl, cond_true, Option.bind_some]; rw [w1 (by omega)]
        rfl
      · rw [decide_eq_false e, if_neg e]; simp only [cond_false, Option.bind_some]
        show Cl _ (Option.bind (bif (((0 : Nat) : Int) != 0) == false then some false else some false) _) = _
        rw [Ad (fun _ => i0)]; simp only [show ((((0 : Nat) : Int) != 0) == false) = true from rfl, cond_true, Option.bind_some]; rw [w1 (by omega)]
        rfl
    · show Bl _ _ _ _ _ = _
      unfold Bl; simp only [hk, Et, cond_false]
  rw [hl2]; simp only [Option.bind_some, F.red _ g1 g2, F.fwd _ g1 g2, hred, hfwd]
  rfl
end
end Go.Proofs.Ytjpacggpipflcaa

namespace Go.Proofs.Ytjpacggpipflcaa
noncomputable section
open Go Go.RowKit
set_option linter.unusedVariables false
set_option linter.unusedSimpArgs false
end
end Go.Proofs.Ytjpacggpipflcaa

namespace Go.Proofs.Ytjpacggpipflcaa
noncomputable section
open Go Go.RowKit
set_option linter.unusedVariables false
set_option linter.unusedSimpArgs false
inductive Tp (t : List Int) : Nat → Nat → Nat → Prop
  | top {x : Nat} (hx : x < t.length) (h : t.getD x 0 = -1) : Tp t x x 0
  | up {x y r k : Nat} (hx : x < t.length) (h : t.getD x 0 = (y : Int)) (hk : Tp t y r k) : Tp t x r (k + 1)
section
variable {t : List Int}
theorem Tp.lt {x r k : Nat} (h : Tp t x r k) : x < t.length := by cases h <;> assumption
theorem Tp.tops {x r k : Nat} (h : Tp t x r k) : r < t.length ∧ t.getD r 0 = -1 := by
  induction h with
  | top hx h => exact ⟨hx, h⟩
  | up _ _ _ ih => exact ih
theorem Tp.det {x r k r' k' : Nat} (h : Tp t x r k) (h' : Tp t x r' k') : r = r' ∧ k = k' := by
  induction h generalizing k' with
  | top hx h => cases h' with
    | top => exact ⟨rfl, rfl⟩
    | up _ h2 _ => omega
  | up hx h1 _ ih => cases h' with
    | top _ h2 => omega
    | up _ h2 k2 =>
      have : _ = _ := h1.symm.trans h2
      cases Int.ofNat.inj this
      obtain ⟨e1, e2⟩ := ih k2; exact ⟨e1, by omega⟩
theorem Tp.upTo {x r k : Nat} (h : Tp t x r k) : UpTo (Bg t) x r := by
  induction h with
  | top => exact .refl _
  | up _ h _ ih => exact .up h ih
theorem Tp.on {x r k z : Nat} (h : Tp t x r k) (hz : UpTo (Bg t) x z) : ∃ j, j ≤ k ∧ Tp t z r j ∧ (j = k → z = x) := by
  induction hz generalizing k with
  | refl x => exact ⟨k, Nat.le_refl _, h, fun _ => rfl⟩
  | up hp _ ih =>
    cases h with
    | top _ h2 => have : _ = _ := hp.symm.trans h2; omega
    | up _ h2 k2 =>
      have : _ = _ := hp.symm.trans h2
      cases Int.ofNat.inj this
      obtain ⟨j, h1, h3, _⟩ := ih k2; exact ⟨j, by omega, h3, fun e => by omega⟩
theorem Tp.anti {x r k z : Nat} (h : Tp t x r k) (h1 : UpTo (Bg t) x z) (h2 : UpTo (Bg t) z x) : z = x := by
  obtain ⟨j, j1, j2, j3⟩ := h.on h1; obtain ⟨i, i1, i2, i3⟩ := j2.on h2; have := h.det i2; exact j3 (by omega)
theorem Tp.list {x r k : Nat} (h : Tp t x r k) : ∃ l : List Nat, l.length = k + 1 ∧ l.Nodup ∧ ∀ y ∈ l, y < t.length ∧ ∃ j, j ≤ k ∧ Tp t y r j := by
  induction h with
  | top hx h => exact ⟨[_], rfl, by simp, fun y hy => by rw [List.mem_singleton.1 hy]; exact ⟨hx, 0, Nat.le_refl _, .top hx h⟩⟩
  | @up x y r k hx h hk ih =>
    obtain ⟨l, h1, h2, h3⟩ := ih; refine ⟨x :: l, by simp [h1], List.nodup_cons.2 ⟨fun hm => ?_, h2⟩, fun z hz => ?_⟩
    · obtain ⟨_, j, hj, hj2⟩ := h3 _ hm; have := (Tp.up hx h hk).det hj2; omega
    · rcases List.mem_cons.1 hz with rfl | hz
      · exact ⟨hx, k + 1, Nat.le_refl _, .up hx h hk⟩
      · obtain ⟨e1, j, e2, e3⟩ := h3 z hz; exact ⟨e1, j, by omega, e3⟩
theorem Tp.short {x r k : Nat} (h : Tp t x r k) : k < t.length := by
  obtain ⟨l, h1, h2, h3⟩ := h.list; have := H8 t.length l h2 fun y hy => (h3 y hy).1; omega
theorem Tp.upD {x r k : Nat} (h : Tp t x r k) : ∀ m, k < m → ∃ q, upD t m (x : Int) = some q ∧ (∀ w : Int, w ∈ q ↔ ∃ z : Nat, w = (z : Int) ∧ UpTo (Bg t) x z) ∧
    ∀ p : Int → Bool, (q.find? p = none ∧ ∀ z : Nat, UpTo (Bg t) x z → p (z : Int) = false) ∨ ∃ f : Nat, q.find? p = some (f : Int) ∧ UpTo (Bg t) x f ∧ p (f : Int) = true ∧ ∀ z : Nat, UpTo (Bg t) x z → p (z : Int) = true → UpTo (Bg t) f z := by
  induction h with
  | @top x hx h =>
    intro m hm; obtain ⟨m, rfl⟩ : ∃ i, m = i + 1 := ⟨m - 1, by omega⟩
    have htop : ∀ z, UpTo (Bg t) x z ↔ z = x := fun z => Qo fun p hp => by have : _ = _ := hp.symm.trans h; omega
    unfold Go.Proofs.Ytjpacggpipflcaa.upD; rw [if_pos ⟨by omega, by omega⟩, Ap, if_pos h]; refine ⟨_, rfl, fun w => ?_, fun p => ?_⟩
    · rw [List.mem_singleton]
      constructor
      · rintro rfl; exact ⟨x, rfl, .refl _⟩
      · rintro ⟨z, rfl, hz⟩; rw [(htop z).1 hz]
    · cases hpp : p (x : Int) with
      | false => exact .inl ⟨by simp [List.find?, hpp], fun z hz => by rw [(htop z).1 hz]; exact hpp⟩
      | true => exact .inr ⟨x, by simp [List.find?, hpp], .refl _, hpp, fun z hz _ => hz⟩
  | @up x y r k hx h hk ih =>
    intro m hm; obtain ⟨m, rfl⟩ : ∃ i, m = i + 1 := ⟨m - 1, by omega⟩; unfold Go.Proofs.Ytjpacggpipflcaa.upD; rw [if_pos ⟨by omega, by omega⟩, Ap, if_neg (by omega), h]; obtain ⟨q, hq1, hq2, hq3⟩ := ih m (by omega); rw [hq1]; refine ⟨(x : Int) :: q, rfl, fun w => ?_, fun p => ?_⟩
    · rw [List.mem_cons, hq2 w]
      constructor
      · rintro (rfl | ⟨y, rfl, hy⟩)
        · exact ⟨x, rfl, .refl _⟩
        · exact ⟨y, rfl, .up h hy⟩
      · rintro ⟨y, rfl, hy⟩; rcases (anc_up h).1 hy with rfl | hy
        · exact .inl rfl
        · exact .inr ⟨y, rfl, hy⟩
    · cases hpp : p (x : Int) with
      | true => exact .inr ⟨x, by simp [List.find?, hpp], .refl _, hpp, fun y hy _ => hy⟩
      | false =>
        have hf : ((x : Int) :: q).find? p = q.find? p := by simp [List.find?, hpp]
        rw [hf]; rcases hq3 p with ⟨e1, e2⟩ | ⟨f, e1, e2, e3, e4⟩
        · refine .inl ⟨e1, fun y hy => ?_⟩; rcases (anc_up h).1 hy with rfl | hy
          · exact hpp
          · exact e2 y hy
        · refine .inr ⟨f, e1, .up h e2, e3, fun y hy hpy => ?_⟩; rcases (anc_up h).1 hy with rfl | hy
          · rw [hpp] at hpy; cases hpy
          · exact e4 y hy hpy
theorem upD_tp : ∀ m (a : Int) q, upD t m a = some q → ∃ x r k : Nat, a = (x : Int) ∧ k < m ∧ Tp t x r k := by
  intro m
  induction m with
  | zero => intro a q h; cases h
  | succ m ih =>
    intro a q h; unfold Go.Proofs.Ytjpacggpipflcaa.upD at h
    by_cases ha : 0 ≤ a ∧ a < (t.length : Int)
    · rw [if_pos ha] at h; have e : ((a.toNat : Nat) : Int) = a := Int.toNat_of_nonneg ha.1
      by_cases h1 : t.getD a.toNat 0 = -1
      · exact ⟨a.toNat, a.toNat, 0, e.symm, by omega, .top (by omega) h1⟩
      · rw [if_neg h1] at h
        cases hu : Go.Proofs.Ytjpacggpipflcaa.upD t m (t.getD a.toNat 0) with
        | none => rw [hu] at h; cases h
        | some q' =>
          obtain ⟨y, r, k, e1, e2, e3⟩ := ih _ _ hu; exact ⟨a.toNat, r, k + 1, e.symm, by omega, .up (by omega) e1 e3⟩
    · rw [if_neg ha] at h; cases h
theorem pathD_tp {a : Int} : E2 t a ≠ [] ↔ ∃ x r k : Nat, a = (x : Int) ∧ Tp t x r k := by
  constructor
  · intro h
    cases hu : upD t t.length a with
    | none => exact absurd (pathD_nil.2 hu) h
    | some q => obtain ⟨x, r, k, e1, _, e2⟩ := upD_tp _ _ _ hu; exact ⟨x, r, k, e1, e2⟩
  · rintro ⟨x, r, k, rfl, h⟩ e; obtain ⟨q, hq, _⟩ := h.upD t.length h.short; rw [pathD_nil.1 e] at hq; cases hq
theorem Tp.path {x r k : Nat} (h : Tp t x r k) : (∀ w : Int, w ∈ E2 t (x : Int) ↔ ∃ z : Nat, w = (z : Int) ∧ UpTo (Bg t) x z) ∧
    ∀ p : Int → Bool, ((E2 t (x : Int)).find? p = none ∧ ∀ z : Nat, UpTo (Bg t) x z → p (z : Int) = false) ∨ ∃ f : Nat, (E2 t (x : Int)).find? p = some (f : Int) ∧ UpTo (Bg t) x f ∧ p (f : Int) = true ∧ ∀ z : Nat, UpTo (Bg t) x z → p (z : Int) = true → UpTo (Bg t) f z := by
  obtain ⟨q, h1, h2, h3⟩ := h.upD t.length h.short
  have e : E2 t (x : Int) = q := by unfold E2; rw [h1]; rfl
  rw [e]; exact ⟨h2, h3⟩
theorem Ru {α : Type} {l : List α} {i j : Nat} {x d : α} (hi : i < l.length) : (l.set i x).getD j d = if j = i then x else l.getD j d := by
  by_cases h : j = i
  · subst h; simp [List.getD, hi]
  · simp [List.getD, h, Ne.symm h]
theorem meet_L1 {x r k : Nat} (h : Tp t x r k) : ∀ l : List Bool, l.length = t.length → ∃ l', Aw (C8 t) ((x : Int), l) = some l' ∧ l'.length = t.length ∧ ∀ z, z < t.length → (l'.getD z false = true ↔ l.getD z false = true ∨ UpTo (Bg t) x z) := by
  induction h with
  | @top x hx h =>
    intro l hl
    have hs : C8 t ((x : Int), l) = some (.next (-1, l.set x true)) := by
      unfold C8
      have hb : ((x : Int) != (-1 : Int)) = true := by rw [bne_iff_ne]; omega
      simp only [hb, cond_true, Ap, h]; rw [Ad (Ef (by omega)), Ad (Ef hx)]
    have hd : C8 t (-1, l.set x true) = some (.done (l.set x true)) := by
      unfold C8
      rfl
    refine ⟨l.set x true, by rw [Bs hs, A7 hd], by simp [hl], fun z hz => ?_⟩; rw [Ru (by omega)]
    have htop : UpTo (Bg t) x z ↔ z = x := Qo fun p hp => by have : _ = _ := hp.symm.trans h; omega
    rw [htop]
    by_cases e : z = x
    · simp [e]
    · simp [e]
  | @up x y r k hx h hk ih =>
    intro l hl
    have hs : C8 t ((x : Int), l) = some (.next ((y : Int), l.set x true)) := by
      unfold C8
      have hb : ((x : Int) != (-1 : Int)) = true := by rw [bne_iff_ne]; omega
      simp only [hb, cond_true, Ap, h]; rw [Ad (Ef (by omega)), Ad (Ef hx)]
    obtain ⟨l', e1, e2, e3⟩ := ih (l.set x true) (by simp [hl]); refine ⟨l', by rw [Bs hs, e1], e2, fun z hz => ?_⟩; rw [e3 z hz, Ru (by omega), anc_up (par := Bg t) h]
    by_cases e : z = x
    · simp [e]
    · simp [e]
theorem meet_L2 {b r k : Nat} (h : Tp t b r k) (l : List Bool) (hl : l.length = t.length) : l.getD r false = true → ∃ c : Nat, Aw (C7 t l) (b : Int) = some (c : Int) ∧ UpTo (Bg t) b c ∧ l.getD c false = true ∧ ∀ z, UpTo (Bg t) b z → l.getD z false = true → UpTo (Bg t) c z := by
  induction h with
  | @top x hx h =>
    intro hr
    have hd : C7 t l (x : Int) = some (.done (x : Int)) := by
      unfold C7; rw [Ad (Ef (by omega)), Ap, hr]
      rfl
    exact ⟨x, A7 hd, .refl _, hr, fun z hz _ => hz⟩
  | @up x y r k hx h hk ih =>
    intro hr
    cases hx2 : l.getD x false with
    | true =>
      have hd : C7 t l (x : Int) = some (.done (x : Int)) := by
        unfold C7; rw [Ad (Ef (by omega)), Ap, hx2]
        rfl
      exact ⟨x, A7 hd, .refl _, hx2, fun z hz _ => hz⟩
    | false =>
      have hs : C7 t l (x : Int) = some (.next (y : Int)) := by
        unfold C7; rw [Ad (Ef (by omega)), Ap, hx2, Bool.not_false, cond_true, Ad (Ef hx), h]
      obtain ⟨c, e1, e2, e3, e4⟩ := ih hr; refine ⟨c, by rw [Bs hs, e1], .up h e2, e3, fun z hz hlz => ?_⟩; rcases (anc_up (par := Bg t) h).1 hz with rfl | hz
      · rw [hx2] at hlz; cases hlz
      · exact e4 z hz hlz
theorem P3 (ht : t.length ≤ 1000) {a b r k m : Nat} (ha : Tp t a r k) (hb : Tp t b r m) : ∃ c : Nat, Fk t (a : Int) (b : Int) = some (c : Int) ∧ MeetAt (Bg t) a b c := by
  unfold Fk
  have hroom : (1000 : Nat) ≤ room := by decide
  rw [Ad ⟨by omega, by omega, by omega⟩, Ap]; obtain ⟨l', h1, h2, h3⟩ := meet_L1 ha (List.replicate t.length false) (by simp); rw [h1, Option.bind_some]
  have h3' : ∀ z, z < t.length → (l'.getD z false = true ↔ UpTo (Bg t) a z) := fun z hz => by rw [h3 z hz, F5]; simp
  obtain ⟨c, e1, e2, e3, e4⟩ := meet_L2 hb l' h2 ((h3' r ha.tops.1).2 ha.upTo)
  have hc : c < t.length := by obtain ⟨j, _, hj, _⟩ := hb.on e2; exact hj.lt
  refine ⟨c, by rw [e1]; rfl, fun w => ⟨fun hw => ⟨((h3' c hc).1 e3).trans hw, e2.trans hw⟩, fun ⟨hw1, hw2⟩ => ?_⟩⟩; obtain ⟨j, _, hj, _⟩ := ha.on hw1; exact e4 w hw2 ((h3' w hj.lt).2 hw1)
theorem meetD_at (hR : Fl t = true) {a b r k m : Nat} (ha : Tp t a r k) (hb : Tp t b r m) : ∃ c : Nat, Jo t (a : Int) (b : Int) = (c : Int) ∧ MeetAt (Bg t) a b c := by
  unfold Jo; rw [if_pos hR]
  have hcon : ∀ z : Nat, (E2 t (b : Int)).contains (z : Int) = true ↔ UpTo (Bg t) b z := fun z => by
    rw [List.contains_iff_mem, hb.path.1]
    constructor
    · rintro ⟨y, e, hy⟩; cases Int.ofNat.inj e; exact hy
    · intro hz; exact ⟨z, rfl, hz⟩
  rcases ha.path.2 (fun x => (E2 t (b : Int)).contains x) with ⟨e1, e2⟩ | ⟨f, e1, e2, e3, e4⟩
  · have := e2 r ha.upTo; rw [(hcon r).2 hb.upTo] at this
    cases this
  · exact ⟨f, by rw [e1]; rfl, fun w => ⟨fun hw => ⟨e2.trans hw, ((hcon f).1 e3).trans hw⟩, fun ⟨hw1, hw2⟩ => e4 w hw1 ((hcon w).2 hw2)⟩⟩
theorem MeetAt.same {a b r k c d : Nat} (ha : Tp t a r k) (hc : MeetAt (Bg t) a b c) (hd : MeetAt (Bg t) a b d) : c = d := by
  obtain ⟨j, _, hj, _⟩ := ha.on ((hc c).1 (.refl _)).1; exact (hj.anti ((hc d).2 ((hd d).1 (.refl _))) ((hd c).2 ((hc c).1 (.refl _)))).symm
end
end
end Go.Proofs.Ytjpacggpipflcaa

namespace Go.Proofs.Ytjpacggpipflcaa
noncomputable section
open Go Go.RowKit
set_option linter.unusedVariables false
set_option linter.unusedSimpArgs false
theorem m_index (t : List Int) (v : Int) (ht : t.length ≤ 1000) : (∃ r : Nat, r < t.length ∧ t.getD r 0 = v ∧ (∀ i, i < r → t.getD i 0 ≠ v) ∧ Ck t v = some (r : Int)) ∨ ((∀ i, i < t.length → t.getD i 0 ≠ v) ∧ Ck t v = some (-1)) := by
  have key : ∀ k i : Nat, i + k = t.length → (∀ j, j < i → t.getD j 0 ≠ v) →
      (∃ r : Nat, r < t.length ∧ t.getD r 0 = v ∧ (∀ i, i < r → t.getD i 0 ≠ v) ∧ Aw (Bu t v) (i : Int) = some (.inr (r : Int))) ∨ ((∀ i, i < t.length → t.getD i 0 ≠ v) ∧ Aw (Bu t v) (i : Int) = some (.inl ())) := by
    intro k
    induction k with
    | zero =>
      intro i hi hj
      obtain rfl : i = t.length := by omega
      refine .inr ⟨hj, A7 ?_⟩; unfold Bu; rw [Et]; rfl
    | succ k ih =>
      intro i hi hj
      by_cases e : v = t.getD i 0
      · refine .inl ⟨i, by omega, e.symm, hj, A7 ?_⟩; unfold Bu; have hb : ((v : Int) == t.getD i 0) = true := beq_iff_eq.2 e; simp only [C6 (show i < t.length by omega), cond_true, Ap, hb]; rw [Ad (Ef (by omega))]
      · have hs : Bu t v (i : Int) = some (.next ((i + 1 : Nat) : Int)) := by
          unfold Bu; have hb : ((v : Int) == t.getD i 0) = false := beq_eq_false_iff_ne.2 e; simp only [C6 (show i < t.length by omega), cond_true, Ap, hb, cond_false]; rw [Ad (Ef (by omega)), w1 (by omega)]
        rw [Bs hs]
        exact ih (i + 1) (by omega) fun j hj2 => by
          by_cases ej : j = i
          · subst ej; exact fun h => e h.symm
          · exact hj j (by omega)
  have h0 := key t.length 0 (by omega) (fun j hj => absurd hj (Nat.not_lt_zero _)); unfold Ck; rcases h0 with ⟨r, h1, h2, h3, h4⟩ | ⟨h1, h2⟩
  · exact .inl ⟨r, h1, h2, h3, by rw [show ((0 : Int)) = ((0 : Nat) : Int) from rfl, h4]; rfl⟩
  · exact .inr ⟨h1, by rw [show ((0 : Int)) = ((0 : Nat) : Int) from rfl, h2]; rfl⟩
section
variable {t : List Int}
structure M6 (t : List Int) (r f : Nat) (w : List Int) : Prop where
  len : w.length = t.length
  old : ∀ y, y < t.length → w.getD y 0 ≠ 0 → (w.getD y 0 ≤ (f : Int)) ∧ ∃ k, Tp t y r k
structure Walk (t : List Int) (r f x : Nat) (w : List Int) : Prop where
  len : w.length = t.length
  hx : x < t.length
  old : ∀ y, y < t.length → w.getD y 0 ≠ 0 → w.getD y 0 ≤ (f : Int) ∧ (∃ k, Tp t y r k) ∨ w.getD y 0 = ((f + 1 : Nat) : Int) ∧ ∀ r' k, Tp t x r' k → ∃ j, k < j ∧ Tp t y r' j
  fwd : ∀ r' k, Tp t x r' k → ∃ j, k ≤ j ∧ Tp t f r' j
  back : ∀ r' k, Tp t f r' k → ∃ j, Tp t x r' j
def Uj (w : List Int) : Nat := w.countP fun z => z == 0
theorem zeros_set {w : List Int} {x : Nat} {v : Int} (hx : x < w.length) (h0 : w.getD x 0 = 0) (hv : v ≠ 0) : Uj (w.set x v) < Uj w := by
  unfold Uj; rw [List.countP_set hx]; rw [Ag _ _ _ hx] at h0; have hp : 0 < w.countP fun z => z == 0 := List.countP_pos_iff.2 ⟨w[x], List.getElem_mem hx, by simp [h0]⟩; have hb : (v == 0) = false := beq_eq_false_iff_ne.2 hv; simp only [h0, beq_self_eq_true, if_true, hb, Bool.false_eq_true, if_false]; omega
theorem leads_loop (ht : t.length ≤ 1000) {r : Nat} (hr : r < t.length) (htop : t.getD r 0 = -1) {f : Nat} (hf : f < t.length) : ∀ (m x : Nat) (w : List Int), Uj w ≤ m → Walk t r f x w →
    (∃ w', Aw (Ca t (f : Int) (r : Int)) ((x : Int), w) = some (.inl w') ∧ M6 t r (f + 1) w' ∧ ∃ k, Tp t f r k) ∨
    ∃ b w', Aw (Ca t (f : Int) (r : Int)) ((x : Int), w) = some (.inr (b, w')) ∧ w'.length = t.length ∧ (b = true → M6 t r (f + 1) w' ∧ ∃ k, Tp t f r k) ∧ (b = false → ∀ k, ¬ Tp t f r k) := by
  intro m
  induction m with
  | zero =>
    intro x w hz hw; exact go 0 (fun x w hz => absurd hz (Nat.not_lt_zero _)) x w hz hw
  | succ m ih =>
    intro x w hz hw; exact go (m + 1) (fun x w hz => ih x w (Nat.le_of_lt_succ hz)) x w hz hw
where
  go (m : Nat) (ih : ∀ (x : Nat) (w : List Int), Uj w < m → Walk t r f x w →
    (∃ w', Aw (Ca t (f : Int) (r : Int)) ((x : Int), w) = some (.inl w') ∧ M6 t r (f + 1) w' ∧ ∃ k, Tp t f r k) ∨
    ∃ b w', Aw (Ca t (f : Int) (r : Int)) ((x : Int), w) = some (.inr (b, w')) ∧ w'.length = t.length ∧ (b = true → M6 t r (f + 1) w' ∧ ∃ k, Tp t f r k) ∧ (b = false → ∀ k, ¬ Tp t f r k)) (x : Nat) (w : List Int) (hz : Uj w ≤ m) (hw : Walk t r f x w) :
    (∃ w', Aw (Ca t (f : Int) (r : Int)) ((x : Int), w) = some (.inl w') ∧ M6 t r (f + 1) w' ∧ ∃ k, Tp t f r k) ∨
    ∃ b w', Aw (Ca t (f : Int) (r : Int)) ((x : Int), w) = some (.inr (b, w')) ∧ w'.length = t.length ∧ (b = true → M6 t r (f + 1) w' ∧ ∃ k, Tp t f r k) ∧ (b = false → ∀ k, ¬ Tp t f r k) := by
    have hxl := hw.hx
    have told : ∀ k, Tp t x r k → M6 t r (f + 1) w ∧ ∃ k, Tp t f r k := fun k hk => by
      obtain ⟨j, _, hj⟩ := hw.fwd _ _ hk; refine ⟨⟨hw.len, fun y hy hy0 => ?_⟩, j, hj⟩; rcases hw.old y hy hy0 with ⟨h1, h2⟩ | ⟨h1, h2⟩
      · exact ⟨by omega, h2⟩
      · obtain ⟨i, _, hi⟩ := h2 _ _ hk; exact ⟨by omega, i, hi⟩
    by_cases hxr : x = r
    · subst hxr; refine .inl ⟨w, A7 ?_, told 0 (.top hr htop)⟩; unfold Ca
      have hb : ((x : Int) != (x : Int)) = false := by simp
      simp only [hb, cond_false]
    · have hb : ((x : Int) != (r : Int)) = true := by rw [bne_iff_ne]; omega
      have hin : A8 (x : Int) w.length := Ef (by rw [hw.len]; exact hxl)
      by_cases hw0 : w.getD x 0 = 0
      · have hb0 : ((w.getD x 0 : Int) != 0) = false := by rw [hw0]; rfl
        by_cases hpl : 0 ≤ t.getD x 0 ∧ t.getD x 0 < (t.length : Int)
        · have hwf : A0 ((f : Int) + 1) = ((f + 1 : Nat) : Int) := w1 (by omega)
          have hs : Ca t (f : Int) (r : Int) ((x : Int), w) = some (.next (t.getD x 0, w.set x ((f + 1 : Nat) : Int))) := by
            unfold Ca Er; simp only [hb, cond_true, Ap, hb0, cond_false]; rw [Ad hin, Ad (Ef hxl), decide_eq_true hpl.1, decide_eq_true hpl.2, cond_true, Option.bind_some, Bool.not_true, cond_false, Ad hin, Ad (Ef hxl), hwf]
          rw [Bs hs]; obtain ⟨y, hy⟩ : ∃ y : Nat, t.getD x 0 = (y : Int) := ⟨(t.getD x 0).toNat, (Int.toNat_of_nonneg hpl.1).symm⟩; rw [hy] at hpl ⊢
          have hyl : y < t.length := by omega
          have hst : ∀ r' k, Tp t y r' k → Tp t x r' (k + 1) := fun r' k hk => .up hxl hy hk
          have hset : ∀ z, z < t.length → (w.set x ((f + 1 : Nat) : Int)).getD z 0 = if z = x then ((f + 1 : Nat) : Int) else w.getD z 0 := fun z _ => Ru (by rw [hw.len]; exact hxl)
          have hW : Walk t r f y (w.set x ((f + 1 : Nat) : Int)) := by
            refine ⟨by simp [hw.len], hyl, fun z hzl hz0 => ?_, fun r' k hk => ?_, fun r' k hk => ?_⟩
            · rw [hset z hzl] at hz0 ⊢
              by_cases e : z = x
              · subst e; rw [if_pos rfl]; exact .inr ⟨rfl, fun r' k hk => ⟨k + 1, by omega, hst r' k hk⟩⟩
              · rw [if_neg e] at hz0 ⊢; rcases hw.old z hzl hz0 with h1 | ⟨h1, h2⟩
                · exact .inl h1
                · refine .inr ⟨h1, fun r' k hk => ?_⟩; obtain ⟨j, hj1, hj2⟩ := h2 _ _ (hst r' k hk); exact ⟨j, by omega, hj2⟩
            · obtain ⟨j, hj1, hj2⟩ := hw.fwd _ _ (hst r' k hk); exact ⟨j, by omega, hj2⟩
            · obtain ⟨j, hj⟩ := hw.back _ _ hk
              cases hj with
              | top _ h2 => omega
              | up _ h2 h3 =>
                have := hy.symm.trans h2
                cases Int.ofNat.inj this
                exact ⟨_, h3⟩
          have hzz := zeros_set (x := x) (v := ((f + 1 : Nat) : Int)) (by rw [hw.len]; exact hxl) hw0 (by omega); exact ih y _ (by omega) hW
        · refine .inr ⟨false, w, A7 ?_, hw.len, ⟨fun h => (by cases h), fun _ k hk => ?_⟩⟩
          · unfold Ca Er; simp only [hb, cond_true, Ap, hb0, cond_false]; rw [Ad hin, Ad (Ef hxl)]
            have : (bif decide ((0 : Int) ≤ t.getD x 0) then decide (t.getD x 0 < (t.length : Int)) else false) = false := by
              cases h1 : decide ((0 : Int) ≤ t.getD x 0) with
              | false => rfl
              | true => rw [cond_true]; exact decide_eq_false fun h2 => hpl ⟨of_decide_eq_true h1, h2⟩
            rw [this, Option.bind_some]
            rfl
          · obtain ⟨j, hj⟩ := hw.back _ _ hk
            cases hj with
            | top => exact hxr rfl
            | up _ h2 h3 => have := h3.lt; exact hpl ⟨by omega, by omega⟩
      · have hb0 : ((w.getD x 0 : Int) != 0) = true := by rw [bne_iff_ne]; exact hw0
        have hwf : A0 ((f : Int) + 1) = ((f + 1 : Nat) : Int) := w1 (by omega); refine .inr ⟨w.getD x 0 != ((f + 1 : Nat) : Int), w, A7 ?_, hw.len, ⟨fun h => ?_, fun h k hk => ?_⟩⟩
        · unfold Ca; simp only [hb, cond_true, Ap, hb0]; rw [Ad hin, Ad hin, hwf]
        · rcases hw.old x hxl hw0 with ⟨_, k, hk⟩ | ⟨h1, _⟩
          · exact told k hk
          · rw [h1] at h; simp at h
        · have he : w.getD x 0 = ((f + 1 : Nat) : Int) := by simpa using h
          obtain ⟨j, hj⟩ := hw.back _ _ hk; rcases hw.old x hxl hw0 with ⟨h1, _⟩ | ⟨_, h2⟩
          · omega
          · obtain ⟨i, hi1, hi2⟩ := h2 _ _ hj; have := hj.det hi2; omega
end
end
end Go.Proofs.Ytjpacggpipflcaa

namespace Go.Proofs.Ytjpacggpipflcaa
noncomputable section
open Go Go.RowKit
set_option linter.unusedVariables false
set_option linter.unusedSimpArgs false
section
variable {t : List Int}
theorem m_leads (ht : t.length ≤ 1000) {r : Nat} (hr : r < t.length) (htop : t.getD r 0 = -1) {f : Nat} (hf : f < t.length) {w : List Int} (hw : M6 t r f w) :
    ∃ b w', Hm t w (f : Int) (r : Int) = some (b, w') ∧ w'.length = t.length ∧ (b = true → M6 t r (f + 1) w' ∧ ∃ k, Tp t f r k) ∧ (b = false → ∀ k, ¬ Tp t f r k) := by
  unfold Hm; have hW : Walk t r f f w := ⟨hw.len, hf, fun y hy h0 => .inl (hw.old y hy h0), fun r' k hk => ⟨k, Nat.le_refl _, hk⟩, fun r' k hk => ⟨k, hk⟩⟩; rcases leads_loop ht hr htop hf _ f w (Nat.le_refl _) hW with ⟨w', e1, e2⟩ | ⟨b, w', e1, e2, e3, e4⟩
  · exact ⟨true, w', by rw [e1]; rfl, e2.1.len, fun _ => e2, fun h => by cases h⟩
  · exact ⟨b, w', by rw [e1]; rfl, e2, e3, e4⟩
def Uq (t : List Int) (r : Nat) : Prop := ∀ f, f < t.length → t.getD f 0 ≠ -2 → ∃ k, Tp t f r k
open Classical in
theorem Wo (ht : t.length ≤ 1000) {r : Nat} (hr : r < t.length) (htop : t.getD r 0 = -1) : ∀ (k f : Nat) (w : List Int), f + k = t.length → M6 t r f w → (∀ y, y < f → t.getD y 0 ≠ -2 → ∃ k, Tp t y r k) →
    Aw (Da t (r : Int)) ((f : Int), w) = some (if Uq t r then .inl () else .inr false) := by
  intro k
  induction k with
  | zero =>
    intro f w hk hw hd
    obtain rfl : f = t.length := by omega
    apply A7
    unfold Da; simp only [Et, cond_false]; rw [if_pos (show Uq t r from hd)]
  | succ k ih =>
    intro f w hk hw hd
    have hf : f < t.length := by omega
    by_cases h2 : t.getD f 0 = -2
    · have hb : ((t.getD f 0 : Int) != (-2)) = false := by rw [h2]; rfl
      have hs : Da t (r : Int) ((f : Int), w) = some (.next (((f + 1 : Nat) : Int), w)) := by
        unfold Da; simp only [C6 hf, cond_true, Ap, hb, show (false == true) = false from rfl, cond_false, Option.bind_some]; rw [Ad (Ef hf), Ad (fun h => by cases h), w1 (by omega)]
      rw [Bs hs]; refine ih (f + 1) w (by omega) ⟨hw.len, fun y hy h0 => ?_⟩ fun y hy hy2 => ?_
      · obtain ⟨e1, e2⟩ := hw.old y hy h0; exact ⟨by omega, e2⟩
      · by_cases e : y = f
        · subst e; exact absurd h2 hy2
        · exact hd y (by omega) hy2
    · have hb : ((t.getD f 0 : Int) != (-2)) = true := by rw [bne_iff_ne]; exact h2
      obtain ⟨b, w', e1, e2, e3, e4⟩ := m_leads ht hr htop hf hw
      cases b with
      | false =>
        rw [if_neg (fun hA : Uq t r => by obtain ⟨k, hk⟩ := hA f hf h2; exact e4 rfl k hk)]
        apply A7
        unfold Da; simp only [C6 hf, cond_true, Ap, hb, show (true == true) = true from rfl, e1, Option.bind_some]; rw [Ad (Ef hf), Ad (fun _ => by rw [hw.len, e2])]
        rfl
      | true =>
        have hs : Da t (r : Int) ((f : Int), w) = some (.next (((f + 1 : Nat) : Int), w')) := by
          unfold Da; simp only [C6 hf, cond_true, Ap, hb, show (true == true) = true from rfl, e1, Option.bind_some]; rw [Ad (Ef hf), Ad (fun _ => by rw [hw.len, e2]), w1 (by omega)]
          rfl
        rw [Bs hs]; obtain ⟨e5, e6⟩ := e3 rfl; refine ih (f + 1) w' (by omega) e5 fun y hy hy2 => ?_
        by_cases e : y = f
        · subst e; exact e6
        · exact hd y (by omega) hy2
theorem tops_one : Of t t.length = 1 ↔ ∃ r, r < t.length ∧ t.getD r 0 = -1 ∧ ∀ x, x < t.length → t.getD x 0 = -1 → x = r := by
  have key : ∀ n, (Of t n = 0 ↔ ∀ x, x < n → t.getD x 0 ≠ -1) ∧ (Of t n = 1 ↔ ∃ r, r < n ∧ t.getD r 0 = -1 ∧ ∀ x, x < n → t.getD x 0 = -1 → x = r) := by
    intro n
    induction n with
    | zero => exact ⟨⟨fun _ x hx => absurd hx (Nat.not_lt_zero _), fun _ => rfl⟩, ⟨fun h => by simp [Of] at h, fun ⟨r, h, _⟩ => absurd h (Nat.not_lt_zero _)⟩⟩
    | succ n ih =>
      rw [Qw]
      by_cases e : t.getD n 0 = -1
      · rw [if_pos e]; refine ⟨⟨fun h => by omega, fun h => absurd e (h n (by omega))⟩, ⟨fun h => ⟨n, by omega, e, fun x hx hx1 => ?_⟩, fun ⟨r, h1, h2, h3⟩ => ?_⟩⟩
        · by_cases ex : x = n
          · exact ex
          · exact absurd hx1 (ih.1.1 (by omega) x (by omega))
        · have := ih.1.2 fun x hx hx1 => by
            have := h3 x (by omega) hx1; have := h3 n (by omega) e; omega
          omega
      · rw [if_neg e, Nat.add_zero]; refine ⟨⟨fun h x hx => ?_, fun h => ih.1.2 fun x hx => h x (by omega)⟩, ⟨fun h => ?_, fun ⟨r, h1, h2, h3⟩ => ?_⟩⟩
        · by_cases ex : x = n
          · subst ex; exact e
          · exact ih.1.1 h x (by omega)
        · obtain ⟨r, h1, h2, h3⟩ := ih.2.1 h; refine ⟨r, by omega, h2, fun x hx hx1 => ?_⟩
          by_cases ex : x = n
          · subst ex; exact absurd hx1 e
          · exact h3 x (by omega) hx1
        · refine ih.2.2 ⟨r, ?_, h2, fun x hx hx1 => h3 x (by omega) hx1⟩
          by_cases ex : r = n
          · subst ex; exact absurd h2 e
          · omega
  exact (key _).2
theorem rightD_iff : Fl t = true ↔ ∃ r, r < t.length ∧ t.getD r 0 = -1 ∧ Uq t r := by
  unfold Fl; rw [Bool.and_eq_true, all_range, decide_eq_true_eq, tops_one]
  constructor
  · rintro ⟨h1, r, h2, h3, h4⟩; refine ⟨r, h2, h3, fun f hf hf2 => ?_⟩; have := h1 f hf; unfold okR at this; rw [Bool.or_eq_true, decide_eq_true_eq, Bool.not_eq_true', decide_eq_false_iff_not] at this; rcases this with h | h
    · exact absurd h hf2
    · obtain ⟨x, r', k, e, hk⟩ := pathD_tp.1 h
      cases Int.ofNat.inj e
      have := h4 _ hk.tops.1 hk.tops.2; subst this; exact ⟨k, hk⟩
  · rintro ⟨r, h2, h3, h4⟩; refine ⟨fun f hf => ?_, r, h2, h3, fun x hx hx1 => ?_⟩
    · unfold okR; rw [Bool.or_eq_true, decide_eq_true_eq, Bool.not_eq_true', decide_eq_false_iff_not]
      by_cases e : t.getD f 0 = -2
      · exact .inl e
      · obtain ⟨k, hk⟩ := h4 f hf e; exact .inr (pathD_tp.2 ⟨f, r, k, rfl, hk⟩)
    · obtain ⟨k, hk⟩ := h4 x hx (by omega); exact ((hk.det (.top hx hx1)).1).symm
theorem T5 (hR : Fl t = true) : ∃ r, Uq t r := by obtain ⟨r, _, _, h⟩ := rightD_iff.1 hR; exact ⟨r, h⟩
theorem m_isTree (ht : t.length ≤ 1000) : Gq t = some (Fl t) := by
  unfold Gq
  have hroom : (1000 : Nat) ≤ room := by decide
  rcases m_index t (-1) ht with ⟨r, h1, h2, h3, h4⟩ | ⟨h1, h2⟩
  · rw [h4, Option.bind_some, show decide ((r : Int) < 0) = false from decide_eq_false (by omega), cond_false, Ad ⟨by omega, by omega, by omega⟩, Ap]; have hl := Wo ht h1 h2 t.length 0 (List.replicate t.length 0) (by omega) ⟨by simp, fun y hy h0 => absurd F5 h0⟩ (fun y hy => absurd hy (Nat.not_lt_zero _)); rw [show (((0 : Nat) : Int)) = 0 from rfl] at hl; rw [hl, Option.bind_some]
    by_cases hA : Uq t r
    · rw [if_pos hA, rightD_iff.2 ⟨r, h1, h2, hA⟩]
    · rw [if_neg hA]
      have : Fl t = false := Bool.eq_false_iff.2 fun hR => by
        obtain ⟨r', g1, g2, g3⟩ := rightD_iff.1 hR; obtain ⟨k, hk⟩ := g3 r h1 (by omega); have := (hk.det (.top h1 h2)).1; subst this; exact hA g3
      rw [this]
  · rw [h2, Option.bind_some]
    have : Fl t = false := Bool.eq_false_iff.2 fun hR => by
      obtain ⟨r', g1, g2, g3⟩ := rightD_iff.1 hR; exact h1 r' g1 g2
    rw [this]
    rfl
def Nd (t : List Int) (a : Int) : Bool := decide (0 ≤ a) && decide (a < (t.length : Int)) && decide (t.getD a.toNat 0 ≠ -2)
theorem R5 (hR : Fl t = true) {a : Int} : Nd t a = true ↔ ∃ x k r : Nat, a = (x : Int) ∧ Tp t x r k := by
  unfold Nd; rw [Bool.and_eq_true, Bool.and_eq_true, decide_eq_true_eq, decide_eq_true_eq, decide_eq_true_eq]
  constructor
  · rintro ⟨⟨h1, h2⟩, h3⟩; obtain ⟨r, hA⟩ := T5 hR; obtain ⟨k, hk⟩ := hA a.toNat (by omega) h3; exact ⟨a.toNat, k, r, (Int.toNat_of_nonneg h1).symm, hk⟩
  · rintro ⟨x, k, r, rfl, h⟩; have := h.lt; refine ⟨⟨by omega, by omega⟩, ?_⟩; rw [Ap]
    cases h with
    | top _ h2 => omega
    | up _ h2 _ => omega
theorem Sj (a : Int) : Ey t a = some (Nd t a) := by
  unfold Ey Er Nd; rw [Option.bind_some]
  cases h1 : decide ((0 : Int) ≤ a) with
  | false => rfl
  | true =>
    rw [cond_true, Bool.true_and]
    cases h2 : decide (a < (t.length : Int)) with
    | false => rfl
    | true =>
      rw [Ad (fun _ => ⟨of_decide_eq_true h1, of_decide_eq_true h2⟩), cond_true, Bool.true_and]
      congr 1
      rw [Bool.eq_iff_iff, bne_iff_ne, decide_eq_true_eq]
theorem m_areIn (ht : t.length ≤ 1000) (a b : Int) : Hj t a b = some (Fl t && Nd t a && Nd t b) := by
  unfold Hj; rw [m_isTree ht, Option.bind_some]
  cases Fl t with
  | false => rfl
  | true =>
    simp only [show (true == true) = true from rfl, cond_true, Sj, Option.bind_some, Bool.true_and]
    cases Nd t a with
    | false => rfl
    | true => simp only [show (true == true) = true from rfl, cond_true, Sj, Option.bind_some, Bool.true_and]
theorem meetD_out {a b : Int} (h : (Fl t && Nd t a && Nd t b) = false) : Jo t a b = -2 := by
  unfold Jo
  by_cases hR : Fl t = true
  · rw [if_pos hR]; rw [hR, Bool.true_and] at h
    have hno : ∀ c, Nd t c = false → E2 t c = [] := fun c hc => by
      by_cases e : E2 t c = []
      · exact e
      · obtain ⟨x, r, k, e1, e2⟩ := pathD_tp.1 e; rw [(R5 hR).2 ⟨x, k, r, e1, e2⟩] at hc; cases hc
    cases ha : Nd t a with
    | false => rw [hno a ha]; rfl
    | true =>
      rw [ha, Bool.true_and] at h; rw [hno b h]
      have : ((E2 t a).find? fun x => ([] : List Int).contains x) = none := List.find?_eq_none.2 fun x _ => by simp
      rw [this]
      rfl
  · rw [if_neg hR]
theorem Tu (ht : t.length ≤ 1000) {a b : Int} (h : (Fl t && Nd t a && Nd t b) = true) : Fk t a b = some (Jo t a b) ∧ 0 ≤ Jo t a b := by
  rw [Bool.and_eq_true, Bool.and_eq_true] at h; obtain ⟨⟨hR, ha⟩, hb⟩ := h; obtain ⟨x, k, r, rfl, hx⟩ := (R5 hR).1 ha; obtain ⟨y, m, r', rfl, hy⟩ := (R5 hR).1 hb; obtain ⟨rr, hA⟩ := T5 hR
  have top : ∀ {x r k}, Tp t x r k → r = rr := fun {x r k} h => by
    obtain ⟨i, hi⟩ := hA r h.tops.1 (by rw [h.tops.2]; omega); exact ((Tp.top h.tops.1 h.tops.2).det hi).1
  obtain rfl := top hx; obtain rfl := top hy; obtain ⟨c, h1, h2⟩ := P3 ht hx hy; obtain ⟨d, h3, h4⟩ := meetD_at hR hx hy; have := h2.same hx h4; subst this; exact ⟨by rw [h1, h3], by omega⟩
theorem m_Over (ht : t.length ≤ 1000) (a b : Int) : Hc t a b = some (T7 t a b) := by
  unfold Hc T7; rw [m_areIn ht, Option.bind_some]
  cases h : (Fl t && Nd t a && Nd t b) with
  | false =>
    rw [meetD_out h]
    have : ((-2 : Int) == a && ((-2 : Int) != -2)) = false := by simp
    rw [this]
    rfl
  | true =>
    obtain ⟨h1, h2⟩ := Tu ht h; simp only [show (true == true) = true from rfl, cond_true, h1, Option.bind_some]
    have : (Jo t a b != -2) = true := by rw [bne_iff_ne]; omega
    rw [this, Bool.and_true]
end
end
end Go.Proofs.Ytjpacggpipflcaa

namespace Go.Proofs.Ytjpacggpipflcaa
noncomputable section
open Go Go.RowKit
set_option linter.unusedVariables false
set_option linter.unusedSimpArgs false
theorem mul_fin : ∀ n : Fin 65, G9 (Ff 1) (Ff ((n.val : Nat) : Int)) = some (0, ((n.val : Nat) : Int)) := by decide +kernel
theorem mul_small {n : Nat} (h : n ≤ 64) : G9 (Ff 1) (Ff (n : Int)) = some (0, (n : Int)) := mul_fin ⟨n, by omega⟩
theorem Xj {v : Int} {n : Nat} (hn : n ≤ 64) : ∀ (m i : Nat) (l : List Int), n - i ≤ m → 1 ≤ i → i ≤ n → l.length = n → (∀ j, j < i → l.getD j 0 = v) → Aw Bw ((i : Int), l) = some (List.replicate n v) := by
  intro m
  induction m with
  | zero =>
    intro i l hm h1 h2 hl hv
    obtain rfl : i = n := by omega
    exact fin l hl hv
  | succ m ih =>
    intro i l hm h1 h2 hl hv
    by_cases e : i = n
    · subst e; exact fin l hl hv
    · have hs : Bw ((i : Int), l) = some (.next (((i + Nat.min i (n - i) : Nat) : Int), cpL l i (Nat.min i (n - i)) (fun j => l.getD (0 + j) 0))) := by
        unfold Bw; simp only [hl, C6 (show i < n by omega), cond_true, Ap, Nat.zero_add, Nat.sub_zero]; have hc : (0 : Int) ≤ (i : Int) ∧ i ≤ n := ⟨by omega, h2⟩; have hmn : Nat.min i (n - i) ≤ i := Nat.min_le_left _ _; rw [Ad hc, Ad hc, Gr (by omega) (by omega), Int.natCast_add]
      rw [Bs hs]; have hmn : Nat.min i (n - i) ≤ i ∧ Nat.min i (n - i) ≤ n - i := ⟨Nat.min_le_left _ _, Nat.min_le_right _ _⟩; have hge : 1 ≤ Nat.min i (n - i) := Nat.le_min.2 ⟨h1, by omega⟩; refine ih _ _ (by omega) (by omega) (by omega) (by rw [← Gg]; exact hl) fun j hj => ?_; rw [Rr _ _ _ _ _ _ (by omega)]
      by_cases hji : i ≤ j ∧ j < i + Nat.min i (n - i)
      · rw [if_pos hji, Nat.zero_add]; exact hv _ (by omega)
      · rw [if_neg hji]; exact hv _ (by omega)
where
  fin {v : Int} {i : Nat} (l : List Int) (hl : l.length = i) (hv : ∀ j, j < i → l.getD j 0 = v) : Aw Bw ((i : Int), l) = some (List.replicate i v) := by
    apply A7
    unfold Bw; simp only [hl, Et, cond_false]
    congr 2
    refine List.ext_getElem (by simp [hl]) fun j h1 h2 => ?_; rw [← Ag _ _ 0 h1, hv j (by omega)]
    simp
theorem m_repeat {v : Int} {n : Nat} (h1 : 1 ≤ n) (hn : n ≤ 64) : Dc [v] (n : Int) = some (List.replicate n v) := by
  have hroom : (64 : Nat) ≤ room := by decide
  unfold Dc; rw [show decide ((n : Int) < 0) = false from decide_eq_false (by omega), cond_false, Option.bind_some]
  show Option.bind (G9 (Ff 1) (Ff (n : Int))) _ = _
  rw [mul_small hn, Option.bind_some]; have e1 : decide ((0 : Int) < (0 : Int)) = false := rfl; have e2 : decide ((9223372036854775807 : Int) < (n : Int)) = false := decide_eq_false (by omega); simp only [e1, e2, cond_false, Option.bind_some]; have ew : A0 (n : Int) = (n : Int) := Gr (by omega) (by omega); rw [ew, Ad ⟨by omega, by omega, by omega⟩, Ap, List.length_replicate, Nat.sub_zero]; have em : Nat.min [v].length n = 1 := Nat.min_eq_left h1; rw [em, Xj hn n 1 _ (by omega) (Nat.le_refl _) h1 (by rw [← Gg]; simp) (fun j hj => ?_)]
  · rfl
  · rw [Rr _ _ _ _ _ _ (by simp; omega), if_pos ⟨by omega, by omega⟩]
    have : j - 0 = 0 := by omega
    rw [this]; rfl
theorem meet_v2 (t : List Int) (a b : Int) : Ga t a b = (Fk t a b).map fun c => (c, t) := by
  have e1 : G7 t = C8 t := rfl; have e2 : Hb t = C7 t := rfl; unfold Ga Fk; rw [e1, e2]
  by_cases hc : 0 ≤ (t.length : Int) ∧ (t.length : Int) ≤ (t.length : Int) ∧ (t.length : Int) ≤ (room : Int)
  · rw [Ad hc, Ad hc]
    cases Aw (C8 t) (a, List.replicate ((t.length : Int)).toNat false) with
    | none => rfl
    | some x =>
      rw [Option.bind_some, Option.bind_some]
      cases Aw (C7 t x) b with
      | none => rfl
      | some y => rfl
  · have hf : ∀ {R : Type} (k : Option R), Cl (0 ≤ (t.length : Int) ∧ (t.length : Int) ≤ (t.length : Int) ∧ (t.length : Int) ≤ (room : Int)) k = none := fun k => if_neg hc; rw [hf, hf]
    rfl
section
variable {S : Nat → List Nat} {r n : Nat} {P : List Nat}
theorem Inv.tp {at_ : Nat → Nat} {t : List Int} (h : Inv S r n at_ (Bg t)) (hl : t.length = n) : ∀ m x, at_ x ≤ m → x < n → Bg t x ≠ -2 → ∃ k, Tp t x r k := by
  intro m
  induction m with
  | zero =>
    intro x hm hx hp; rcases h.kind x hx with h1 | h1 | ⟨z, hz⟩
    · exact absurd h1 hp
    · subst h1; exact ⟨0, .top (by omega) h.top⟩
    · obtain ⟨_, _, h3, _⟩ := h.up x hx z hz; omega
  | succ m ih =>
    intro x hm hx hp; rcases h.kind x hx with h1 | h1 | ⟨z, hz⟩
    · exact absurd h1 hp
    · subst h1; exact ⟨0, .top (by omega) h.top⟩
    · obtain ⟨z1, z2, z3, _⟩ := h.up x hx z hz; obtain ⟨k, hk⟩ := ih z (by omega) z1 z2; exact ⟨k + 1, .up (by omega) hz hk⟩
def N7 (t l : List Int) (i : Nat) (v : Int) : Prop :=
  (v = -2 ∧ ∀ j, j < i → Bg t (l.getD j 0).toNat = -2) ∨
  ∃ z : Nat, v = (z : Int) ∧ z < t.length ∧ Bg t z ≠ -2 ∧ (∀ w, UpTo (Bg t) z w ↔ ∀ j, j < i → Bg t (l.getD j 0).toNat ≠ -2 → UpTo (Bg t) (l.getD j 0).toNat w)
theorem V0 {at_ : Nat → Nat} {t l : List Int} (ht : t.length ≤ 64) (hll : l.length ≤ 64) (h : Inv S r n at_ (Bg t)) (hl : t.length = n) (hin : ∀ x ∈ l, 0 ≤ x ∧ x < (n : Int)) : ∀ (k i : Nat) (v : Int), i + k = l.length → N7 t l i v →
    ∃ v', Aw (B7 l) (v, (i : Int), t) = some (v', t) ∧ N7 t l l.length v' := by
  intro k
  induction k with
  | zero =>
    intro i v hi hv
    obtain rfl : i = l.length := by omega
    refine ⟨v, A7 ?_, hv⟩; unfold B7; simp only [Et, cond_false]
  | succ k ih =>
    intro i v hi hv
    have hil : i < l.length := by omega
    obtain ⟨x0, x1⟩ := hin _ (Fg (d := 0) hil); have hxe : (((l.getD i 0).toNat : Nat) : Int) = l.getD i 0 := Int.toNat_of_nonneg x0; have hxin : A8 (l.getD i 0) t.length := inbz x0 (by omega)
    have next : ∀ v', B7 l (v, (i : Int), t) = some (.next (v', ((i + 1 : Nat) : Int), t)) → N7 t l (i + 1) v' → ∃ v', Aw (B7 l) (v, (i : Int), t) = some (v', t) ∧ N7 t l l.length v' := fun v' hs hv' => by
      rw [Bs hs]; exact ih (i + 1) v' (by omega) hv'
    by_cases hp : Bg t (l.getD i 0).toNat = -2
    · have hb : ((t.getD (l.getD i 0).toNat 0 : Int) == -2) = true := beq_iff_eq.2 hp; refine next v ?_ ?_
      · unfold B7; simp only [C6 hil, cond_true, Ap, hb]; rw [Ad (Ef hil), Ad hxin, Option.bind_some, w1 (by omega)]
      · have hstep : ∀ w, (∀ j, j < i → Bg t (l.getD j 0).toNat ≠ -2 → UpTo (Bg t) (l.getD j 0).toNat w) ↔ ∀ j, j < i + 1 → Bg t (l.getD j 0).toNat ≠ -2 → UpTo (Bg t) (l.getD j 0).toNat w := fun w => by
          refine ⟨fun hj j hj1 hj2 => ?_, fun hj j hj1 => hj j (by omega)⟩
          by_cases e : j = i
          · subst e; exact absurd hp hj2
          · exact hj j (by omega) hj2
        rcases hv with ⟨h1, h2⟩ | ⟨z, h1, h2, h3, h4⟩
        · refine .inl ⟨h1, fun j hj => ?_⟩
          by_cases e : j = i
          · subst e; exact hp
          · exact h2 j (by omega)
        · exact .inr ⟨z, h1, h2, h3, fun w => by rw [h4 w, hstep w]⟩
    · have hb : ((t.getD (l.getD i 0).toNat 0 : Int) == -2) = false := beq_eq_false_iff_ne.2 hp; rcases hv with ⟨h1, h2⟩ | ⟨z, h1, h2, h3, h4⟩
      · subst h1; refine next (l.getD i 0) ?_ (.inr ⟨(l.getD i 0).toNat, hxe.symm, by omega, hp, fun w => ⟨fun hw j hj hj2 => ?_, fun hw => hw i (by omega) hp⟩⟩)
        · unfold B7; simp only [C6 hil, cond_true, Ap, hb, cond_false, show ((-2 : Int) == -2) = true from rfl]; rw [Ad (Ef hil), Ad hxin, Option.bind_some, w1 (by omega)]
        · by_cases e : j = i
          · subst e; exact hw
          · exact absurd (h2 j (by omega)) hj2
      · subst h1; have hb2 : ((z : Int) == -2) = false := beq_eq_false_iff_ne.2 (by omega); obtain ⟨k1, hk1⟩ := h.tp hl _ z (Nat.le_refl _) (by omega) h3; obtain ⟨k2, hk2⟩ := h.tp hl _ (l.getD i 0).toNat (Nat.le_refl _) (by omega) hp; obtain ⟨c, c1, c2⟩ := P3 (by omega) hk1 hk2; have hcz := (c2 c).1 (.refl _); obtain ⟨jc, _, hjc, _⟩ := hk1.on hcz.1
        have hcp : Bg t c ≠ -2 := by
          show t.getD c 0 ≠ -2
          cases hjc with
          | top _ h => omega
          | up _ h _ => omega
        refine next (c : Int) ?_ (.inr ⟨c, rfl, hjc.lt, hcp, fun w => ?_⟩)
        · rw [hxe] at c1; unfold B7; simp only [C6 hil, cond_true, Ap, hb, cond_false, hb2, meet_v2, c1, Option.map_some, Option.bind_some]; rw [Ad (Ef hil), Ad hxin, Ad trivial, Option.bind_some, w1 (by omega)]
        · rw [c2 w, h4 w]; refine ⟨fun ⟨a1, a2⟩ j hj hj2 => ?_, fun ha => ⟨fun j hj => ha j (by omega), ha i (by omega) hp⟩⟩
          by_cases e : j = i
          · subst e; exact a2
          · exact a1 j (by omega) hj2
theorem m_meetAll {at_ : Nat → Nat} {t l : List Int} (ht : t.length ≤ 64) (hll : l.length ≤ 64) (h : Inv S r n at_ (Bg t)) (hl : t.length = n) (hin : ∀ x ∈ l, 0 ≤ x ∧ x < (n : Int)) :
    ∃ v, Du t l = some (v, t) ∧ N7 t l l.length v := by
  obtain ⟨v, h1, h2⟩ := V0 ht hll h hl hin l.length 0 (-2) (by omega) (.inl ⟨rfl, fun j hj => absurd hj (Nat.not_lt_zero _)⟩); refine ⟨v, ?_, h2⟩; unfold Du; rw [show ((0 : Int)) = ((0 : Nat) : Int) from rfl, h1]
  rfl
end
section
variable {L : List (List Int)} (hm : Ex L = true) {r : Nat} {P : List Nat}
include hm
theorem sN_iff {p y : Nat} (hp : p < L.length) : y ∈ sN L p ↔ Nb L p y = true := by
  rw [N0]; obtain ⟨_, _, h3⟩ := mayS_iff.1 hm
  constructor
  · intro h; obtain ⟨x, hx, rfl⟩ := List.mem_map.1 h; have := Gc (h3 p hp) hx; rw [Int.toNat_of_nonneg this.1]; exact hx
  · intro h; exact List.mem_map.2 ⟨_, h, Ap y⟩
theorem Lc {y : Nat} (hy : y < L.length) {x : Int} : x ∈ (D4 L).getD y [] ↔ ∃ p : Nat, x = (p : Int) ∧ p < L.length ∧ y ∈ sN L p := by
  rw [Pa hy]; unfold Es; rw [L4]
  constructor
  · rintro ⟨k, h1, h2, h3⟩; exact ⟨k, h1, h2, (sN_iff hm h2).2 h3⟩
  · rintro ⟨k, h1, h2, h3⟩; exact ⟨k, h1, h2, (sN_iff hm h2).1 h3⟩
theorem U5 (o : Ordered (sN L) r L.length P) {t : List Int} {i : Nat} (h : Ready (sN L) r L.length P t i) (hi : i < P.length) :
    Du t ((D4 L).getD (P.getD i 0) []) = some ((Ge (sN L) L.length t (P.getD i 0) : Int), t) := by
  obtain ⟨hL1, hL64, _⟩ := mayS_iff.1 hm; have hyn : P.getD i 0 < L.length := o.lt (List.mem_cons_of_mem _ (H6 hi))
  have hlen : ((D4 L).getD (P.getD i 0) []).length ≤ 64 := by
    rw [Pa hyn]; have := J8 L L.length (P.getD i 0); omega
  obtain ⟨v, h1, h2⟩ := m_meetAll (by rw [h.len]; exact hL64) hlen h.inv h.len fun x hx => by
    obtain ⟨p, rfl, hp, _⟩ := (Lc hm hyn).1 hx; omega
  rw [h1]; have hb := h.best o hi
  have mem : ∀ p, p < L.length → P.getD i 0 ∈ sN L p → ∃ j, j < ((D4 L).getD (P.getD i 0) []).length ∧ (((D4 L).getD (P.getD i 0) []).getD j 0).toNat = p := fun p hp hy => by
    obtain ⟨j, hj, e⟩ := List.getElem_of_mem ((Lc hm hyn).2 ⟨p, rfl, hp, hy⟩); exact ⟨j, hj, by rw [Ag _ _ _ hj, e, Ap]⟩
  have mem' : ∀ j, j < ((D4 L).getD (P.getD i 0) []).length → (((D4 L).getD (P.getD i 0) []).getD j 0).toNat < L.length ∧ P.getD i 0 ∈ sN L (((D4 L).getD (P.getD i 0) []).getD j 0).toNat := fun j hj => by
    obtain ⟨p, e, hp, hy⟩ := (Lc hm hyn).1 (Fg (d := (0 : Int)) hj); rw [e, Ap]; exact ⟨hp, hy⟩
  rcases h2 with ⟨rfl, h3⟩ | ⟨z, rfl, hz, hz2, h4⟩
  · obtain ⟨p, hp, hyp, hp2, _⟩ := hb.fwd; obtain ⟨j, hj, e⟩ := mem p hp hyp; exact absurd (by rw [← e]; exact h3 j hj) hp2
  · have hbest : Yp (sN L) L.length (Bg t) (P.getD i 0) z := fun w => by
      rw [h4 w]; refine ⟨fun ha p hp hyp hp2 => ?_, fun ha j hj hj2 => ?_⟩
      · obtain ⟨j, hj, e⟩ := mem p hp hyp; have := ha j hj (by rw [e]; exact hp2); rwa [e] at this
      · obtain ⟨q1, q2⟩ := mem' j hj; exact ha _ q1 q2 hj2
    rw [h.best_eq o hi (by rw [← h.len]; exact hz) hz2 hbest]
end
end
end Go.Proofs.Ytjpacggpipflcaa

namespace Go.Proofs.Ytjpacggpipflcaa
noncomputable section
open Go Go.RowKit
set_option linter.unusedVariables false
set_option linter.unusedSimpArgs false
theorem Xs {P : List Nat} {i : Nat} (h : i < P.length) : (Gn P).getD i 0 = ((P.getD i 0 : Nat) : Int) := by
  unfold Gn; rw [Ag _ _ _ (by simpa using h), Ag _ _ _ h, List.getElem_map]
  rfl
theorem Xy {t : List Int} {x : Nat} {v : Int} (hx : x < t.length) (h : t.getD x 0 = v) : t.set x v = t := by
  subst h; rw [Ag _ _ _ hx]; exact List.set_getElem_self hx
section
variable {L : List (List Int)} (hm : Ex L = true) {r : Nat} {P : List Nat} (o : Ordered (sN L) r L.length P)
include hm o
theorem Z3 {t0 : List Int} (h : Ready (sN L) r L.length P t0 0) : ∀ (k i : Nat) (b : Bool), i + k = P.length →
    ∃ b', Aw (Cv (Jn L) (Gn (r :: P))) (b, (i : Int), K1 (sN L) L.length P t0 i) = some (b', K1 (sN L) L.length P t0 P.length) ∧
      (b' = false ↔ b = false ∧ ∀ j, i ≤ j → j < P.length → Bg (K1 (sN L) L.length P t0 j) (P.getD j 0) = (Ge (sN L) L.length (K1 (sN L) L.length P t0 j) (P.getD j 0) : Int)) := by
  have hP64 : P.length ≤ 64 := by
    have h1 := H8 L.length (r :: P) o.nodup fun x hx => o.lt hx; have h2 := (mayS_iff.1 hm).2.1; simp at h1; omega
  have hdl : (Gn (r :: P)).drop (1 : Int).toNat = Gn P := rfl
  have hlen : (Gn P).length = P.length := by simp [Gn]
  intro k
  induction k with
  | zero =>
    intro i b hi
    obtain rfl : i = P.length := by omega
    refine ⟨b, A7 ?_, fun h => ⟨h, fun j h1 h2 => by omega⟩, fun h => h.1⟩; unfold Cv; simp only [hdl, hlen, Et, cond_false]
  | succ k ih =>
    intro i b hi
    have hil : i < P.length := by omega
    have rd := h.round o i (by omega); have hma := U5 hm o rd hil; have hyn : P.getD i 0 < L.length := o.lt (List.mem_cons_of_mem _ (H6 hil))
    have hyt : P.getD i 0 < (K1 (sN L) L.length P t0 i).length := by rw [rd.len]; exact hyn
    have hpred : (Jn L).Pred = D4 L := rfl
    by_cases he : Bg (K1 (sN L) L.length P t0 i) (P.getD i 0) = (Ge (sN L) L.length (K1 (sN L) L.length P t0 i) (P.getD i 0) : Int)
    · have hb : ((Ge (sN L) L.length (K1 (sN L) L.length P t0 i) (P.getD i 0) : Int) != (K1 (sN L) L.length P t0 i).getD (P.getD i 0) 0) = false := by
        have : (K1 (sN L) L.length P t0 i).getD (P.getD i 0) 0 = _ := he; rw [this]; simp
      have hnx : K1 (sN L) L.length P t0 (i + 1) = K1 (sN L) L.length P t0 i := Xy hyt he
      have hs : Cv (Jn L) (Gn (r :: P)) (b, (i : Int), K1 (sN L) L.length P t0 i) = some (.next (b, ((i + 1 : Nat) : Int), K1 (sN L) L.length P t0 (i + 1))) := by
        unfold Cv; simp only [hdl, hlen, C6 hil, cond_true, Ap, Xs hil, hpred, hma, Option.bind_some, hb, cond_false]; rw [Ad (Ef hil), Ad (Ef (by rw [Kp]; exact hyn)), Ad trivial, Ad (Ef hyt), Option.bind_some, w1 (by omega), hnx]
      obtain ⟨b', e1, e2⟩ := ih (i + 1) b (by omega); refine ⟨b', by rw [Bs hs, e1], fun h => ?_, fun ⟨h1, h2⟩ => e2.2 ⟨h1, fun j hj => h2 j (by omega)⟩⟩; obtain ⟨h1, h2⟩ := e2.1 h; refine ⟨h1, fun j hj1 hj2 => ?_⟩
      by_cases e : j = i
      · subst e; exact he
      · exact h2 j (by omega) hj2
    · have hb : ((Ge (sN L) L.length (K1 (sN L) L.length P t0 i) (P.getD i 0) : Int) != (K1 (sN L) L.length P t0 i).getD (P.getD i 0) 0) = true := by
        rw [bne_iff_ne]; exact fun e => he e.symm
      have hs : Cv (Jn L) (Gn (r :: P)) (b, (i : Int), K1 (sN L) L.length P t0 i) = some (.next (true, ((i + 1 : Nat) : Int), K1 (sN L) L.length P t0 (i + 1))) := by
        unfold Cv; simp only [hdl, hlen, C6 hil, cond_true, Ap, Xs hil, hpred, hma, Option.bind_some, hb]; rw [Ad (Ef hil), Ad (Ef (by rw [Kp]; exact hyn)), Ad trivial, Ad (Ef hyt), Ad (Ef hyt), Option.bind_some, w1 (by omega)]
        rfl
      obtain ⟨b', e1, e2⟩ := ih (i + 1) true (by omega); refine ⟨b', by rw [Bs hs, e1], fun h => ?_, fun ⟨h1, h2⟩ => absurd (h2 i (Nat.le_refl _) hil) he⟩; obtain ⟨h1, _⟩ := e2.1 h; cases h1
theorem round_all {t0 : List Int} (h : Ready (sN L) r L.length P t0 0) : ∃ b, Aw (Cv (Jn L) (Gn (r :: P))) (false, (0 : Int), t0) = some (b, K1 (sN L) L.length P t0 P.length) ∧ (b = false ↔ Kx (sN L) L.length P t0) := by
  obtain ⟨b, e1, e2⟩ := Z3 hm o h P.length 0 false (by omega); refine ⟨b, e1, e2.trans ⟨fun ⟨_, h2⟩ => ?_, fun hs => ⟨rfl, fun j _ hj => ?_⟩⟩⟩
  · have key : ∀ j, j ≤ P.length → K1 (sN L) L.length P t0 j = t0 := by
      intro j
      induction j with
      | zero => intro _; rfl
      | succ j ih =>
        intro hj; have ih' := ih (by omega); have rd := h.round o j (by omega)
        have hyn : P.getD j 0 < (K1 (sN L) L.length P t0 j).length := by rw [rd.len]; exact o.lt (List.mem_cons_of_mem _ (H6 (by omega)))
        have : K1 (sN L) L.length P t0 (j + 1) = K1 (sN L) L.length P t0 j := Xy hyn (h2 j (Nat.zero_le _) (by omega)); rw [this, ih']
    intro i hi; have := h2 i (Nat.zero_le _) hi; rwa [key i (by omega)] at this
  · rw [Ll o h.len hs j (by omega)]; exact hs j hj
open Classical in
theorem Aao (j : Nat) : De (Jn L) (Gn (r :: P), Qk (sN L) L.length P (Dx L.length r) j) = some (if Kx (sN L) L.length P (Qk (sN L) L.length P (Dx L.length r) j) then .done (Qk (sN L) L.length P (Dx L.length r) (j + 1)) else .next (Gn (r :: P), Qk (sN L) L.length P (Dx L.length r) (j + 1))) := by
  obtain ⟨b, e1, e2⟩ := round_all hm o (Ready.rounds o j); have hL2 : Hh (Jn L) (Gn (r :: P)) = Cv (Jn L) (Gn (r :: P)) := rfl
  have hlen : (0 : Int) ≤ 1 ∧ (1 : Int) ≤ ((Gn (r :: P)).length : Int) := by simp [Gn]; omega
  unfold De; simp only [hL2, e1, Option.bind_some]; rw [Ad hlen]
  cases b with
  | false => rw [if_pos (e2.1 rfl)]; rfl
  | true => rw [if_neg (fun h => by have := e2.2 h; cases this)]; rfl
theorem Wb : ∃ J, Kx (sN L) L.length P (Qk (sN L) L.length P (Dx L.length r) J) ∧ Aw (De (Jn L)) (Gn (r :: P), Dx L.length r) = some (Qk (sN L) L.length P (Dx L.length r) J) := by
  obtain ⟨J, h1, h2⟩ := stops o; refine ⟨J, h2, ?_⟩
  have key : ∀ d j, j + d = J → Aw (De (Jn L)) (Gn (r :: P), Qk (sN L) L.length P (Dx L.length r) j) = some (Qk (sN L) L.length P (Dx L.length r) J) := by
    intro d
    induction d with
    | zero =>
      intro j hj
      obtain rfl : j = J := by omega
      have hF := Aao hm o j; rw [if_pos h2] at hF; rw [A7 hF]; have : Qk (sN L) L.length P (Dx L.length r) (j + 1) = Qk (sN L) L.length P (Dx L.length r) j := Ll o (Ready.rounds o j).len h2 P.length (Nat.le_refl _); rw [this]
    | succ d ih =>
      intro j hj; have hF := Aao hm o j; rw [if_neg (h1 j (by omega))] at hF; rw [Bs hF]; exact ih (j + 1) (by omega)
  exact key J 0 (by omega)
end
theorem m_Tree (g : Ao) (r : Int) (h1 : Fits g.Succ) (h2 : Fits g.Pred) : He g r = some (treeG g r) := by
  unfold treeG
  by_cases hc : H2 g = true ∧ 0 ≤ r ∧ r < (g.Succ.length : Int)
  · rw [if_pos hc]; obtain ⟨hG, h0, hlt⟩ := hc; obtain ⟨hm, hg⟩ := Mn hG; obtain ⟨hL1, hL64, _⟩ := mayS_iff.1 hm
    have hr : r.toNat < g.Succ.length := by omega
    have hrn : ((r.toNat : Nat) : Int) = r := Int.toNat_of_nonneg h0; obtain ⟨O, hO⟩ := Ord.exist (I9 hm) hr; have hord := (Qp g h1 trivial r).1 hG h0 hlt O hO; obtain ⟨P, rfl, o⟩ := hO.ordered hr (I9 hm); obtain ⟨J, hJ, hl⟩ := Wb hm o; have ht := (P0 o hJ).eq hm hr o; rw [ht] at hl; have hlen : (((Gn (r.toNat :: P)).length : Int) == 0) = false := beq_eq_false_iff_ne.2 (by simp [Gn]; omega)
    have hlen2 : (0 : Int) ≤ 1 ∧ (1 : Int) ≤ ((Gn (r.toNat :: P)).length : Int) := by simp [Gn]; omega
    have hL2 : Hh g (Gn (r.toNat :: P)) = Cv g (Gn (r.toNat :: P)) := rfl
    have hst : (Kq (De g (Gn (r.toNat :: P), Dx g.Succ.length r.toNat)) (De g)) = some (Hl g.Succ r.toNat) := by
      rw [Lm, hg]; exact hl
    unfold He; rw [hord, Option.bind_some, hlen, cond_false, m_repeat hL1 hL64, Option.bind_some, Ad (inbz h0 (by simpa using hlt)), Ad hlen2]
    have : (De g (Gn (r.toNat :: P), Dx g.Succ.length r.toNat)) = (Aw (Cv g (Gn (r.toNat :: P))) (false, 0, (List.replicate g.Succ.length (-2 : Int)).set r.toNat (-1))).bind (fun x22 => (match x22 with | (b10, l11) => (bif b10 then (some (.next (Gn (r.toNat :: P), l11))) else (some (.done l11))))) := by
      unfold De Dx; simp only [hL2]; rw [Ad hlen2]
    rw [this] at hst; refine Eq.trans ?_ (congrArg (fun x : Option (List Int) => x.bind fun x42 => some x42) hst)
    rfl
  · rw [if_neg hc]; unfold He
    have : (H2 g && (decide (0 ≤ r) && decide (r < (g.Succ.length : Int)))) = false := by
      rw [Bool.eq_false_iff]; intro h; rw [Bool.and_eq_true, Bool.and_eq_true, decide_eq_true_eq, decide_eq_true_eq] at h; exact hc h
    rw [(Qp g h1 trivial r).2 this, Option.bind_some]
    rfl
end
end Go.Proofs.Ytjpacggpipflcaa

namespace Go.Proofs.Ytjpacggpipflcaa
noncomputable section
open Go Go.RowKit
set_option linter.unusedVariables false
set_option linter.unusedSimpArgs false
section
variable {L : List (List Int)} (hm : Ex L = true)
include hm
theorem over_tree {a b : Nat} (ha : a < L.length) (hb : b < L.length) : T7 (Hl L 0) (a : Int) (b : Int) = G4 L 0 a b := by
  have h1 := (mayS_iff.1 hm).1; obtain ⟨P, _, o, h⟩ := treeD_dom hm (r := 0) (by omega); rw [Bool.eq_iff_iff, h.over_dom o ha hb, N6 hm (by omega) hb]
def Ti (L : List (List Int)) (a : Nat) (l : List Int) : List (Int × Int) := (l.filter fun y => G4 L 0 y.toNat a).map fun y => ((a : Int), y)
theorem rowW_all {a : Nat} (ha : a < L.length) : Ti L a (L.getD a []) = Hy L a L.length := by
  obtain ⟨h1, h64, hok⟩ := mayS_iff.1 hm
  have e : (L.getD a []).filter (fun y => G4 L 0 y.toNat a) = ((List.range L.length).filter (M1 L a)).map Int.ofNat := by
    refine Nv (List.Pairwise.filter _ (Xp (hok a ha))) (Lu _ _) fun x => ?_; rw [L4, List.mem_filter]
    constructor
    · rintro ⟨hx, ho⟩; obtain ⟨x0, x1⟩ := Gc (hok a ha) hx; refine ⟨x.toNat, by omega, by omega, ?_⟩; unfold M1; rw [ho, Bool.and_true, N0, Int.toNat_of_nonneg x0]; exact hx
    · rintro ⟨k, rfl, hk, hb⟩; unfold M1 at hb; rw [Bool.and_eq_true, N0] at hb; exact ⟨hb.1, by rw [Ap]; exact hb.2⟩
  unfold Ti Hy; rw [e, List.map_map]
  rfl
theorem prog_L1 {a : Nat} (ha : a < L.length) (l : List (Int × Int)) (hl : l.length ≤ 10000) : Aw (Dn (Jn L) (Hl L 0) (a : Int)) (l, (0 : Int)) = some (l ++ Hy L a L.length) := by
  have hroom : (1000000 : Nat) ≤ room := by decide
  have hg : (Jn L).Succ = L := rfl; obtain ⟨h1, h64, hok⟩ := mayS_iff.1 hm
  have hrl : (L.getD a []).length ≤ 64 := by have := Ka (hok a ha); omega
  have hlen : ∀ m, (Ti L a ((L.getD a []).take m)).length ≤ m := fun m => by
    unfold Ti; rw [List.length_map]; exact Nat.le_trans (List.length_filter_le ..) (by rw [List.length_take]; omega)
  have e0 : (l, (0 : Int)) = (l ++ Ti L a ((L.getD a []).take 0), ((0 : Nat) : Int)) := by simp [Ti]
  rw [← rowW_all hm ha, e0]; refine D6 (Dn (Jn L) (Hl L 0) (a : Int)) (fun m => (l ++ Ti L a ((L.getD a []).take m), ((m : Nat) : Int))) _ (L.getD a []).length (fun m hmm => ?_) ?_
  · show Dn _ _ _ (_, (m : Int)) = _
    unfold Dn; have hlm := hlen m; obtain ⟨z0, z1⟩ := Gc (hok a ha) (Fg (d := (0 : Int)) hmm); have ho := over_tree hm (a := ((L.getD a []).getD m 0).toNat) (b := a) (by omega) ha; rw [Int.toNat_of_nonneg z0] at ho
    have hO : Hc (Hl L 0) ((L.getD a []).getD m 0) (a : Int) = some (G4 L 0 ((L.getD a []).getD m 0).toNat a) := by rw [m_Over (by rw [O8]; omega), ho]
    have ht : Ti L a ((L.getD a []).take (m + 1)) = Ti L a ((L.getD a []).take m) ++ (if G4 L 0 ((L.getD a []).getD m 0).toNat a = true then [((a : Int), (L.getD a []).getD m 0)] else []) := by
      unfold Ti; rw [O9 hmm, List.filter_append, List.map_append, List.filter_cons, List.filter_nil]
      split <;> rfl
    simp only [hg, Ap, C6 hmm, cond_true, hO, Option.bind_some]; rw [Ad (Ef hmm), ht]
    cases G4 L 0 ((L.getD a []).getD m 0).toNat a with
    | true => rw [cond_true, Ad (by rw [List.length_append]; simp only [List.length_cons, List.length_nil]; omega), Option.bind_some, w1 (by omega), if_pos rfl, List.append_assoc]
    | false => rw [cond_false, Option.bind_some, w1 (by omega), if_neg (by simp), List.append_nil]
  · show Dn _ _ _ (_, _) = _
    unfold Dn; simp only [hg, Ap, Et, cond_false]; rw [List.take_length]
theorem prog_L2 : Aw (Cn (Jn L) (Hl L 0)) (([] : List (Int × Int)), (0 : Int)) = some (Cj L) := by
  have hg : (Jn L).Succ = L := rfl; obtain ⟨_, h64, _⟩ := mayS_iff.1 hm; have htl := O8 L 0
  have e : Cj L = L6 L (Hl L 0).length := by rw [htl]; rfl
  rw [e]; refine D6 (Cn (Jn L) (Hl L 0)) (fun m => (L6 L m, ((m : Nat) : Int))) _ (Hl L 0).length (fun m hmm => ?_) ?_
  · show Cn _ _ (_, (m : Int)) = _
    unfold Cn; have h1 := Rw (L := L) m; have h2 : m * L.length ≤ 64 * 64 := Nat.mul_le_mul (by omega) (by omega); simp only [hg, C6 hmm, cond_true]; rw [Ad (Ef (by omega)), prog_L1 hm (by omega) _ (by omega), Option.bind_some, w1 (by omega), W9]
  · show Cn _ _ (_, _) = _
    unfold Cn; simp only [Et, cond_false]
end
theorem Kl (g : Ao) (h1 : Fits g.Succ) (h2 : Fits g.Pred) : D9 g = some (Ni g) := by
  unfold D9; rw [m_Tree g 0 h1 h2, Option.bind_some]; unfold treeG Ni
  cases hG : H2 g with
  | false =>
    rw [if_neg (by simp), if_neg (by simp)]; rw [A7 (f := Cn g []) (x := ([] : List (Int × Int))) (by unfold Cn; rfl)]
    rfl
  | true =>
    obtain ⟨hm, hg⟩ := Mn hG; have hL := (mayS_iff.1 hm).1; have hl := prog_L2 hm; rw [← hg] at hl; rw [if_pos ⟨rfl, by omega, by omega⟩, if_pos rfl]
    show Option.bind (Aw (Cn g (Hl g.Succ 0)) _) _ = _
    rw [hl]
    rfl
def Gs (W : List (Int × Int)) (h : Nat) : List Int := (W.filter fun p => p.2 == (h : Int)).map Prod.fst
def K9 (W : List (Int × Int)) : List (List Int) := (List.range 64).map (Gs W)
theorem Vo {W : List (Int × Int)} {h : Nat} (hh : h < 64) : (K9 W).getD h [] = Gs W h := by unfold K9; rw [Hz hh]
theorem Un (W : List (Int × Int)) (h : Nat) : (Gs W h).length ≤ W.length := by unfold Gs; rw [List.length_map]; exact List.length_filter_le ..
theorem Pu {W : List (Int × Int)} (hW : W.length ≤ 4096) (hin : ∀ p ∈ W, 0 ≤ p.2 ∧ p.2 < 64) : Aw (Ea W) ((0 : Int), List.replicate 64 ([] : List Int)) = some (K9 W) := by
  have hroom : (10000 : Nat) ≤ room := by decide
  have e0 : ((0 : Int), List.replicate 64 ([] : List Int)) = (((0 : Nat) : Int), K9 (W.take 0)) := by
    have : List.replicate 64 ([] : List Int) = K9 (W.take 0) := by
      unfold K9; rw [List.take_zero]
      rfl
    rw [this]; rfl
  have e1 : K9 W = K9 (W.take W.length) := by rw [List.take_length]
  rw [e0, e1]; refine D6 (Ea W) (fun m => (((m : Nat) : Int), K9 (W.take m))) _ W.length (fun m hmm => ?_) ?_
  · show Ea W ((m : Int), _) = _
    unfold Ea; obtain ⟨z0, z1⟩ := hin _ (Fg (d := ((0 : Int), (0 : Int))) hmm); obtain ⟨t, ht⟩ : ∃ t : Nat, (W.getD m ((0 : Int), (0 : Int))).2 = (t : Int) := ⟨_, (Int.toNat_of_nonneg z0).symm⟩
    have ht64 : t < 64 := by omega
    have hp : E8 64 [] (K9 (W.take m)) = K9 (W.take m) := (Ub (by simp [K9])).symm; have hl := Un (W.take m) t; rw [List.length_take] at hl; simp only [C6 hmm, cond_true, Ap, ht, hp, Vo ht64]; rw [Ad (Ef hmm), Ad (Ef ht64), Ad (Ef ht64), Ad (by simp only [List.length_cons, List.length_nil]; omega), Ad (Ef ht64), w1 (by omega)]
    congr 3
    unfold K9; rw [Lo]; refine Fq fun x hx => ?_
    have htk : W.take (m + 1) = W.take m ++ [W.getD m ((0 : Int), (0 : Int))] := by rw [List.take_succ_eq_append_getElem hmm, Ag _ _ _ hmm]
    have : Gs (W.take (m + 1)) x = Gs (W.take m) x ++ (if x = t then [(W.getD m ((0 : Int), (0 : Int))).1] else []) := by
      unfold Gs; rw [htk, List.filter_append, List.map_append, List.filter_cons, List.filter_nil, ht]
      by_cases e : x = t
      · subst e; rw [if_pos (by simp), if_pos rfl]; rfl
      · rw [if_neg (by simp; omega), if_neg e]; rfl
    rw [this]
    by_cases e : x = t
    · subst e; rw [if_pos rfl, if_pos rfl]
    · rw [if_neg e, if_neg e, List.append_nil]
  · show Ea W (_, _) = _
    unfold Ea; simp only [Et, cond_false]
theorem Q0 {R : List Bool} {s : Nat → Bool} (h : RelS R s) : Dk R = some (((List.range 64).filter s).map Int.ofNat) := by
  have hroom : (1000 : Nat) ≤ room := by decide
  unfold Dk
  have hl : Aw (B1 R) (([] : List Int), (0 : Int)) = some (((List.range 64).filter s).map Int.ofNat) := by
    refine D6 (B1 R) (fun m => (((List.range m).filter s).map Int.ofNat, ((m : Nat) : Int))) _ 64 (fun m hmm => ?_) ?_
    · show B1 R (_, (m : Int)) = _
      unfold B1; have hlen := V8 s m
      have hd : decide ((m : Int) < (64 : Int)) = true := by simpa using (show (m : Int) < 64 by omega)
      simp only [hd, cond_true, Ap, h m hmm]; rw [Ad (Ef hmm), filt_succ]
      cases s m with
      | true => rw [cond_true, Ad (by simp only [List.length_cons, List.length_nil]; omega), Option.bind_some, w1 (by omega), if_pos rfl]
      | false => rw [cond_false, Option.bind_some, w1 (by omega), if_neg (by simp), List.append_nil]
    · show B1 R (_, _) = _
      unfold B1
      rfl
  rw [hl]
  rfl
theorem Sl {O : List Nat} (hO : ∀ z ∈ O, z < 64) (hl : O.length < 1000) : ∃ l, Fd (Gn O) = some l ∧ RelS l (fun z => O.contains z) := by
  have hlen : (Gn O).length = O.length := by simp [Gn]
  have key : ∀ (k i : Nat) (l : List Bool) (s : Nat → Bool), i + k = O.length → RelS l s → ∃ l', Aw (Ds (Gn O)) ((i : Int), l) = some l' ∧ RelS l' (fun z => s z || (O.drop i).contains z) := by
    intro k
    induction k with
    | zero =>
      intro i l s hi hr
      obtain rfl : i = O.length := by omega
      refine ⟨l, A7 ?_, fun z hz => ?_⟩
      · unfold Ds; simp only [hlen, Et, cond_false]
      · rw [hr z hz, List.drop_length]; simp
    | succ k ih =>
      intro i l s hi hr
      have hil : i < O.length := by omega
      have hz : O[i] < 64 := hO _ (List.getElem_mem hil)
      have hr' : RelS (Dp 64 false l O[i] true) (fun z => s z || decide (z = O[i])) := fun z hz' => by
        rw [Gt hz', hr z hz']
        by_cases e : z = O[i]
        · simp [e]
        · simp [e]
      obtain ⟨l', h1, h2⟩ := ih (i + 1) _ _ (by omega) hr'
      have hs : Ds (Gn O) ((i : Int), l) = some (.next (((i + 1 : Nat) : Int), Dp 64 false l O[i] true)) := by
        unfold Ds; simp only [hlen, C6 hil, cond_true, Ap, ofN_at hil]; rw [Ad (Ef hil), Ad (Ef hz), w1 (by omega)]
      refine ⟨l', by rw [Bs hs, h1], fun z hz' => ?_⟩; rw [h2 z hz', List.drop_eq_getElem_cons hil]
      show (s z || decide (z = O[i]) || (List.drop (i + 1) O).contains z) = (s z || (O[i] :: List.drop (i + 1) O).contains z)
      rw [List.contains_cons, Bool.or_assoc]
      rfl
  obtain ⟨l', e1, e2⟩ := key O.length 0 (List.replicate 64 false) (fun _ => false) (by omega) (fun z hz => F5); refine ⟨l', ?_, fun z hz => ?_⟩
  · unfold Fd
    show Option.bind (Aw (Ds (Gn O)) (((0 : Nat) : Int), _)) _ = _
    rw [e1]
    rfl
  · rw [e2 z hz]
    show (false || (List.drop 0 O).contains z) = O.contains z
    rw [List.drop_zero, Bool.false_or]
theorem Av.head {S : Nat → List Nat} {h x y b : Nat} (hy : y ≠ h) (hx : x ∈ S y) (k : Av S x h b) : Av S y h b := by
  induction k with
  | root hx' => exact .step (.root hy) hx hx'
  | step _ h2 h3 ih => exact .step ih h2 h3
theorem filt_cut {n : Nat} {s p : Nat → Bool} (hn : n ≤ 64) (h : ∀ x, x < 64 → s x = (decide (x < n) && p x)) : ((List.range 64).filter s).map Int.ofNat = ((List.range n).filter p).map Int.ofNat := by
  refine Nv (Lu _ _) (Lu _ _) fun x => ?_; rw [L4, L4]
  constructor
  · rintro ⟨k, rfl, hk, hs⟩; rw [h k hk, Bool.and_eq_true, decide_eq_true_eq] at hs; exact ⟨k, rfl, hs.1, hs.2⟩
  · rintro ⟨k, rfl, hk, hs⟩; exact ⟨k, rfl, by omega, by rw [h k (by omega), hs, Bool.and_true]; exact decide_eq_true hk⟩
section
variable {L : List (List Int)} (hm : Ex L = true)
include hm
structure Goes (L : List (List Int)) (re : Nat → Bool) (h : Nat) (B : List Int) (Q : Nat → Prop) (s : Nat → Bool) (rest : List Int) : Prop where
  inr : ∀ x ∈ rest, 0 ≤ x ∧ x < (L.length : Int)
  head : s h = true
  only : ∀ x, s x = true → x = h ∨ Q x
  onlyr : ∀ x : Nat, (x : Int) ∈ rest → re x = true → x = h ∨ Q x
  begs : ∀ b : Nat, (b : Int) ∈ B → re b = true → s b = true ∨ (b : Int) ∈ rest
  preds : ∀ x, s x = true → x ≠ h → ∀ y, y < L.length → x ∈ sN L y → re y = true → s y = true ∨ (y : Int) ∈ rest
theorem body_loop {re : Nat → Bool} {h : Nat} {B : List Int} {Q : Nat → Prop} {Re : List Bool} (hRe : RelS Re re) (hQn : ∀ x, Q x → x < L.length) (hQ : ∀ x, Q x → ∀ y, y < L.length → x ∈ sN L y → re y = true → y = h ∨ Q y) :
    ∀ (m : Nat) (R : List Bool) (s : Nat → Bool) (rest : List Int), 65 * S9 64 s + rest.length ≤ m → m ≤ 10000 → RelS R s → Goes L re h B Q s rest →
      ∃ s', Aw (Dj (D4 L) Re) (R, rest) = some (((List.range 64).filter s').map Int.ofNat) ∧ Goes L re h B Q s' [] := by
  have hroom : (100000 : Nat) ≤ room := by decide
  obtain ⟨h1, h64, hok⟩ := mayS_iff.1 hm; have hpl := Kp L; intro m
  induction m with
  | zero =>
    intro R s rest hmeas _ hR hG; obtain rfl : rest = [] := List.eq_nil_of_length_eq_zero (by omega); refine ⟨s, A7 ?_, hG⟩; unfold Dj; simp only [List.length_nil]
    show (bif (((0 : Nat) : Int) == (0 : Int)) then _ else _) = _
    rw [show ((((0 : Nat) : Int) == (0 : Int))) = true from rfl, cond_true, Q0 hR]
    rfl
  | succ m ih =>
    intro R s rest hmeas hm1 hR hG; rcases List.eq_nil_or_concat rest with rfl | ⟨st, a, rfl⟩
    · refine ⟨s, A7 ?_, hG⟩; unfold Dj
      show (bif (((0 : Nat) : Int) == (0 : Int)) then _ else _) = _
      rw [show ((((0 : Nat) : Int) == (0 : Int))) = true from rfl, cond_true, Q0 hR]
      rfl
    · rw [List.concat_eq_append] at hG hmeas ⊢; rw [List.length_append, List.length_singleton] at hmeas; obtain ⟨a0, a1⟩ := hG.inr a (by simp); obtain ⟨n, rfl⟩ : ∃ n : Nat, a = (n : Int) := ⟨_, (Int.toNat_of_nonneg a0).symm⟩
      have hn : n < L.length := by omega
      have htop := top (st := st) (a := (n : Int)) (by omega); have htopi := topi (st := st) (a := (n : Int)) (by omega)
      have hne : (((((st ++ [(n : Int)]).length : Nat) : Int)) == (0 : Int)) = false := by
        rw [beq_eq_false_iff_ne, List.length_append, List.length_singleton]; omega
      have hgd : (st ++ [(n : Int)]).getD st.length 0 = (n : Int) := by rw [List.getD_eq_getElem?_getD, List.getElem?_append_right (Nat.le_refl _)]; simp
      have htk : (st ++ [(n : Int)]).take st.length = st := by rw [List.take_append_of_le_length (Nat.le_refl _), List.take_length]
      have hi1 : A8 ((st.length : Nat) : Int) (st ++ [(n : Int)]).length := Ef (by rw [List.length_append, List.length_singleton]; omega); have hi2 : 0 ≤ ((st.length : Nat) : Int) ∧ 0 + st.length ≤ (st ++ [(n : Int)]).length := ⟨by omega, by rw [List.length_append, List.length_singleton]; omega⟩; have hi3 : A8 ((n : Nat) : Int) 64 := Ef (by omega)
      cases hc : re n && !s n with
      | true =>
        rw [Bool.and_eq_true, Bool.not_eq_true'] at hc; obtain ⟨hre, hsn⟩ := hc; have hpr : (D4 L).getD n [] = Es L L.length n := Pa hn
        have hpm : ∀ x ∈ Es L L.length n, ∃ p : Nat, x = (p : Int) ∧ p < L.length ∧ n ∈ sN L p := fun x hx => by rw [← hpr] at hx; exact (Lc hm hn).1 hx
        have hplen : (Es L L.length n).length ≤ 64 := by have := J8 L L.length n; omega
        have hcn := Ks (n := 64) (s := s) (y := n) (by omega) hsn; have hQa : n = h ∨ Q n := hG.onlyr n (by simp) hre
        have hnh : n ≠ h := by rintro rfl; rw [hG.head] at hsn; cases hsn
        have hQn' : Q n := hQa.resolve_left hnh
        have hG' : Goes L re h B Q (upd s n) (st ++ Es L L.length n) := by
          refine ⟨fun x hx => ?_, upd_true.2 (.inr hG.head), fun x hx => ?_, fun x hx hrx => ?_, fun b hb hrb => ?_, fun x hx hxh y hy hxy hry => ?_⟩
          · rcases List.mem_append.1 hx with h | h
            · exact hG.inr x (by simp [h])
            · obtain ⟨p, rfl, hp, _⟩ := hpm x h; omega
          · rcases upd_true.1 hx with rfl | h
            · exact .inr hQn'
            · exact hG.only x h
          · rcases List.mem_append.1 hx with h | h
            · exact hG.onlyr x (by simp [h]) hrx
            · obtain ⟨p, e, hp, hnp⟩ := hpm _ h
              obtain rfl : x = p := by omega
              exact hQ n hQn' x hp hnp hrx
          · rcases hG.begs b hb hrb with h | h
            · exact .inl (upd_true.2 (.inr h))
            · rcases List.mem_append.1 h with h | h
              · exact .inr (by simp [h])
              · rw [List.mem_singleton] at h; exact .inl (upd_true.2 (.inl (by omega)))
          · rcases upd_true.1 hx with rfl | hsx
            · refine .inr (List.mem_append.2 (.inr ?_)); rw [← hpr]; exact (Lc hm hn).2 ⟨y, rfl, hy, hxy⟩
            · rcases hG.preds x hsx hxh y hy hxy hry with h | h
              · exact .inl (upd_true.2 (.inr h))
              · rcases List.mem_append.1 h with h | h
                · exact .inr (by simp [h])
                · rw [List.mem_singleton] at h; exact .inl (upd_true.2 (.inl (by omega)))
        obtain ⟨s', e1, e2⟩ := ih (Dp 64 false R n true) (upd s n) (st ++ Es L L.length n) (by rw [List.length_append]; omega) (by omega) hR.set hG'; refine ⟨s', ?_, e2⟩; rw [Bs (s' := (Dp 64 false R n true, st ++ Es L L.length n)) ?_, e1]; unfold Dj; simp only [hne, cond_false, htopi, Ap, hgd, htk, hRe n (by omega), hR n (by omega), hre, hsn, Bool.not_false, cond_true, hpr]; rw [Ad hi1, Ad hi2, Ad hi3, chk_imp hi3, Ad hi3, Ad (Ef (by omega)), Ad (by omega), Option.bind_some]
      | false =>
        have hG' : Goes L re h B Q s st := by
          have hdrop : ∀ b : Nat, (b : Int) ∈ st ++ [(n : Int)] → re b = true → s b = true ∨ (b : Int) ∈ st := fun b hb hrb => by
            rcases List.mem_append.1 hb with h | h
            · exact .inr h
            · rw [List.mem_singleton] at h
              obtain rfl : b = n := by omega
              rw [hrb, Bool.true_and] at hc; exact .inl (by simpa using hc)
          refine ⟨fun x hx => hG.inr x (by simp [hx]), hG.head, hG.only, fun x hx => hG.onlyr x (by simp [hx]), fun b hb hrb => ?_, fun x hx hxh y hy hxy hry => ?_⟩
          · rcases hG.begs b hb hrb with h | h
            · exact .inl h
            · exact hdrop b h hrb
          · rcases hG.preds x hx hxh y hy hxy hry with h | h
            · exact .inl h
            · exact hdrop y h hry
        obtain ⟨s', e1, e2⟩ := ih R s st (by omega) (by omega) hR hG'; refine ⟨s', ?_, e2⟩; rw [Bs (s' := (R, st)) ?_, e1]; unfold Dj
        have hcc : (bif re n then !s n else false) = false := by rw [← hc]; cases re n <;> rfl
        simp only [hne, cond_false, htopi, Ap, hgd, htk, hRe n (by omega), hR n (by omega), hcc]; rw [Ad hi1, Ad hi2, Ad hi3, chk_imp hi3, Option.bind_some]
end
end
end Go.Proofs.Ytjpacggpipflcaa

namespace Go.Proofs.Ytjpacggpipflcaa
noncomputable section
open Go Go.RowKit
set_option linter.unusedVariables false
set_option linter.unusedSimpArgs false
theorem Ym (l : List Int) (h : l.length ≤ room) : Cy l = some l := by
  unfold Cy; rw [Ad h]
section
variable {L : List (List Int)} (hm : Ex L = true)
include hm
theorem Oa {h b : Nat} : (b : Int) ∈ Gs (Cj L) h ↔ ((b : Int), (h : Int)) ∈ Cj L := by
  have _hm := hm; unfold Gs; rw [List.mem_map]
  constructor
  · rintro ⟨p, hp, e⟩; obtain ⟨h1, h2⟩ := List.mem_filter.1 hp; have : p = ((b : Int), (h : Int)) := Prod.ext e (by simpa using h2); rw [← this]; exact h1
  · intro hp; exact ⟨_, List.mem_filter.2 ⟨hp, by simp⟩, rfl⟩
theorem m_body {Re : List Bool} (hRe : RelS Re fun z => J7 L z) {h : Nat} (hh : h < L.length) : Hs (D4 L) Re (h : Int) (Gs (Cj L) h) = some (F7 L h) := by
  have hroom : (100000 : Nat) ≤ room := by decide
  obtain ⟨h1, h64, hok⟩ := mayS_iff.1 hm; have hbl := Pl (L := L) h64; have hbg := Un (Cj L) h
  let Q : Nat → Prop := fun x => x ≠ h ∧ x < L.length ∧ J7 L x = true ∧ ∃ b : Nat, (b : Int) ∈ Gs (Cj L) h ∧ Av (sN L) x h b
  have hst : ∀ x, x < L.length → (J7 L x = true ↔ Rc (sN L) 0 x) := fun x hx => Fb hm (by omega)
  have hG : Goes L (fun z => J7 L z) h (Gs (Cj L) h) Q (upd (fun _ => false) h) (Gs (Cj L) h) := by
    refine ⟨fun x hx => ?_, upd_true.2 (.inl rfl), fun x hx => ?_, fun x hx hrx => ?_, fun b hb hrb => .inr hb, fun x hx hxh => ?_⟩
    · unfold Gs at hx; obtain ⟨p, hp, rfl⟩ := List.mem_map.1 hx; obtain ⟨a, b, rfl, ha, _⟩ := mem_backs.1 (List.mem_filter.1 hp).1; exact ⟨by omega, by show (a : Int) < _; omega⟩
    · rcases upd_true.1 hx with rfl | h'
      · exact .inl rfl
      · cases h'
    · by_cases e : x = h
      · exact .inl e
      · obtain ⟨a, b, hp, ha, _⟩ := mem_backs.1 ((Oa hm).1 hx)
        have : x = a := by have := congrArg Prod.fst hp; exact Int.ofNat.inj this
        exact .inr ⟨e, by omega, hrx, x, hx, .root e⟩
    · rcases upd_true.1 hx with rfl | h'
      · exact absurd rfl hxh
      · cases h'
  obtain ⟨s', e1, e2⟩ := body_loop hm hRe (h := h) (B := Gs (Cj L) h) (Q := Q) (fun x hx => hx.2.1) (fun x hx y hy hxy hry => by
      by_cases e : y = h
      · exact .inl e
      · obtain ⟨_, _, _, b, hb, k⟩ := hx
        exact .inr ⟨e, hy, hry, b, hb, k.head e hxy⟩) 9000 (Dp 64 false (List.replicate 64 false) h true) _ _ (by
      have : S9 64 (upd (fun _ => false) h) ≤ 64 := by
        unfold S9; exact Nat.le_trans (List.length_filter_le ..) (by simp)
      omega) (by omega) (RelS.set (s := fun _ => false) (fun z hz => F5)) hG
  have hfin : ∀ x, x < 64 → s' x = (decide (x < L.length) && Pr L h x) := fun x hx => by
    rw [Bool.eq_iff_iff, Bool.and_eq_true, decide_eq_true_eq]
    have hb : x < L.length → (Pr L h x = true ↔ x = h ∨ (x ≠ h ∧ J7 L x = true ∧ ∃ b : Nat, (b : Int) ∈ Gs (Cj L) h ∧ Av (sN L) x h b)) := fun hxn => by
      unfold Pr; rw [Bool.or_eq_true, decide_eq_true_eq, List.any_eq_true]; refine or_congr Iff.rfl ⟨?_, ?_⟩
      · rintro ⟨p, hp, hi⟩; obtain ⟨a, b, rfl, ha, hbn, _⟩ := mem_backs.1 hp; unfold inBy at hi; simp only [Bool.and_eq_true, decide_eq_true_eq, beq_iff_eq, Ap] at hi; obtain ⟨i1, i2, i3, i4⟩ := hi
        obtain rfl : b = h := by omega
        exact ⟨i2, i3, a, (Oa hm).2 hp, (Ip hm hxn ha).1 i4⟩
      · rintro ⟨i2, i3, b, hbb, k⟩; refine ⟨_, (Oa hm).1 hbb, ?_⟩; obtain ⟨a, c, hp, ha, _⟩ := mem_backs.1 ((Oa hm).1 hbb)
        have hba : b < L.length := by have := congrArg Prod.fst hp; have : b = a := Int.ofNat.inj this; omega
        unfold inBy; simp only [Bool.and_eq_true, decide_eq_true_eq, beq_iff_eq, Ap]; exact ⟨trivial, i2, i3, (Ip hm hxn hba).2 k⟩
    constructor
    · intro hs; rcases e2.only x hs with rfl | ⟨q1, q2, q0, b, q3, q4⟩
      · exact ⟨hh, (hb hh).2 (.inl rfl)⟩
      · exact ⟨q2, (hb q2).2 (.inr ⟨q1, q0, b, q3, q4⟩)⟩
    · rintro ⟨hxn, hbx⟩; rcases (hb hxn).1 hbx with rfl | ⟨q1, q2, b, q3, q4⟩
      · exact e2.head
      · have hrc : ∀ w, Av (sN L) x h w → Rc (sN L) 0 w := fun w k => by
          induction k with
          | root _ => exact (hst x hxn).1 q2
          | step _ k2 _ ih => exact .step ih k2
        have hlt : ∀ w, Av (sN L) x h w → w < L.length := fun w k => Ya (I9 hm) (by omega) (hrc w k)
        have back : ∀ w, Av (sN L) x h w → s' w = true → s' x = true := fun w k => by
          induction k with
          | root _ => exact id
          | @step u w k1 k2 k3 ih =>
            intro hw; have hu := hlt _ k1; rcases e2.preds w hw k3 u hu k2 ((hst u hu).2 (hrc u k1)) with h' | h'
            · exact ih h'
            · cases h'
        have hbn := hlt b q4; rcases e2.begs b q3 ((hst b hbn).2 (hrc b q4)) with h' | h'
        · exact back b q4 h'
        · cases h'
  unfold Hs; rw [Ap, Ad (Ef (by omega)), Ym _ (by omega), Option.bind_some]
  show Option.bind (Kq (Dj (D4 L) Re (Dp 64 false (List.replicate 64 false) h true, Gs (Cj L) h)) (Dj (D4 L) Re)) _ = _
  rw [Lm, e1, Option.bind_some, filt_cut h64 hfin]
  rfl
theorem heads_beg {h : Nat} : decide ((0 : Int) < (((Gs (Cj L) h).length : Nat) : Int)) = Hr L h := by
  have _hm := hm; rw [Bool.eq_iff_iff, decide_eq_true_eq]; unfold Hr Gs; rw [List.length_map, List.any_eq_true]
  constructor
  · intro hl
    have : 0 < ((Cj L).filter fun p => p.2 == (h : Int)).length := by omega
    obtain ⟨p, hp⟩ := List.exists_mem_of_length_pos this; exact ⟨p, (List.mem_filter.1 hp).1, (List.mem_filter.1 hp).2⟩
  · rintro ⟨p, hp, e⟩; have : 0 < ((Cj L).filter fun p => p.2 == (h : Int)).length := List.length_pos_of_mem (List.mem_filter.2 ⟨hp, e⟩); omega
theorem Xr {h : Nat} (hh : Hr L h = true) : h < L.length := by
  have _hm := hm; unfold Hr at hh; rw [List.any_eq_true] at hh; obtain ⟨p, hp, e⟩ := hh; obtain ⟨a, b, rfl, _, hb, _⟩ := mem_backs.1 hp
  have : (b : Int) = (h : Int) := by simpa using e
  omega
theorem prog_all {Re : List Bool} (hRe : RelS Re fun z => J7 L z) : Aw (Ce (Jn L) (K9 (Cj L)) Re) (([] : List A2), (0 : Int)) = some (Ik L) := by
  have hroom : (1000 : Nat) ≤ room := by decide
  have hp : (Jn L).Pred = D4 L := rfl; obtain ⟨h1, h64, _⟩ := mayS_iff.1 hm
  have hlen : ∀ m, (((List.range m).filter (Hr L)).map fun h => (⟨((h : Nat) : Int), F7 L h⟩ : A2)).length ≤ m := fun m => by
    rw [List.length_map]; exact Nat.le_trans (List.length_filter_le ..) (by simp)
  have e : Ik L = ((List.range 64).filter (Hr L)).map fun h => (⟨((h : Nat) : Int), F7 L h⟩ : A2) := by
    unfold Ik
    congr 1
    have hk : ∀ k, L.length + k ≤ 64 → (List.range (L.length + k)).filter (Hr L) = (List.range L.length).filter (Hr L) := fun k => by
      induction k with
      | zero => intro _; rfl
      | succ k ih =>
        intro hk; rw [← Nat.add_assoc, List.range_succ, List.filter_append, ih (by omega)]
        have : Hr L (L.length + k) = false := by
          cases hh : Hr L (L.length + k) with
          | false => rfl
          | true => have := Xr hm hh; omega
        simp [this]
    have := hk (64 - L.length) (by omega); rw [show L.length + (64 - L.length) = 64 by omega] at this; exact this.symm
  rw [e]; refine D6 (Ce (Jn L) (K9 (Cj L)) Re) (fun m => (((List.range m).filter (Hr L)).map fun h => (⟨((h : Nat) : Int), F7 L h⟩ : A2), ((m : Nat) : Int))) _ 64 (fun m hmm => ?_) ?_
  · show Ce _ _ _ (_, (m : Int)) = _
    unfold Ce; have hl := hlen m
    have hd : decide ((m : Int) < (64 : Int)) = true := by simpa using (show (m : Int) < 64 by omega)
    simp only [hd, cond_true, Ap, hp, Vo hmm, heads_beg hm]; rw [Ad (Ef hmm), List.range_succ, List.filter_append, List.map_append]
    cases hh : Hr L m with
    | true =>
      rw [cond_true, m_body hm hRe (Xr hm hh), Option.bind_some, Ad (by simp only [List.length_cons, List.length_nil]; omega), Option.bind_some, w1 (by omega)]; simp [hh]
    | false =>
      rw [cond_false, Option.bind_some, w1 (by omega)]; simp [hh]
  · show Ce _ _ _ (_, _) = _
    unfold Ce
    rfl
end
theorem order0 {L : List (List Int)} (hm : Ex L = true) : ∃ O : List Nat, Ord (sN L) 0 O ∧ C9 (Jn L) 0 = some (Gn O) ∧ (∀ z ∈ O, z < L.length) ∧ O.length ≤ 64 := by
  obtain ⟨h1, h64, _⟩ := mayS_iff.1 hm; obtain ⟨O, hO⟩ := Ord.exist (I9 hm) (r := 0) (by omega); have hord := (Qp (Jn L) (N9 hm).1 trivial 0).1 (N4 hm) (by omega) (by show (0 : Int) < (L.length : Int); omega) O hO; have hlt : ∀ z ∈ O, z < L.length := fun z hz => rch_lt hm ((hO.mem z).1 hz) (by omega); exact ⟨O, hO, hord, hlt, Nat.le_trans (H8 L.length O hO.nodup hlt) h64⟩
theorem Rf {g : Ao} (h : Fits g.Succ) (hG : H2 g = false) : C9 g 0 = some [] := (Qp g h trivial 0).2 (by rw [hG]; rfl)
theorem Rz (g : Ao) (h1 : Fits g.Succ) (h2 : Fits g.Pred) : Fm g = some (D3 g) := by
  unfold Fm D3; rw [Kl g h1 h2, Option.bind_some]; unfold Ni
  cases hG : H2 g with
  | false =>
    rw [if_neg (by simp), if_neg (by simp)]; rw [Pu (by simp) (fun p hp => by cases hp), Option.bind_some, Rf h1 hG, Option.bind_some]; obtain ⟨l, hl, _⟩ := Sl (O := []) (fun z hz => by cases hz) (by simp); rw [show Fd [] = some l from hl, Option.bind_some]
    have hn : ∀ m, m < 64 → (K9 []).getD m [] = [] := fun m hm => by rw [Vo hm]; rfl
    have hloop : Aw (Ce g (K9 []) l) (([] : List A2), (0 : Int)) = some [] := by
      refine D6 (Ce g (K9 []) l) (fun m => (([] : List A2), ((m : Nat) : Int))) _ 64 (fun m hmm => ?_) ?_
      · show Ce _ _ _ (_, (m : Int)) = _
        unfold Ce
        have hd : decide ((m : Int) < (64 : Int)) = true := by simpa using (show (m : Int) < 64 by omega)
        simp only [hd, cond_true, Ap, hn m hmm]; rw [Ad (Ef hmm)]
        show Option.bind (some _) _ = _
        rw [Option.bind_some, w1 (by omega)]
      · show Ce _ _ _ (_, _) = _
        unfold Ce
        rfl
    rw [hloop]
    rfl
  | true =>
    obtain ⟨hm, hg⟩ := Mn hG; obtain ⟨_, h64, _⟩ := mayS_iff.1 hm
    rw [if_pos rfl, if_pos rfl, Pu (Pl h64) (fun p hp => by
      obtain ⟨a, b, rfl, _, hb, _⟩ := mem_backs.1 hp
      exact ⟨by show (0 : Int) ≤ (b : Int); omega, by show (b : Int) < 64; omega⟩), Option.bind_some]
    obtain ⟨O, hO, hord, hlt, hlen⟩ := order0 hm; rw [← hg] at hord; obtain ⟨l, hl, hr⟩ := Sl (O := O) (fun z hz => by have := hlt z hz; omega) (by omega)
    have hRe : RelS l fun z => J7 g.Succ z := fun z hz => by
      rw [hr z hz, Bool.eq_iff_iff, List.contains_iff_mem, hO.mem, ← rc_iff]; unfold J7; rw [Fb hm (by have := (mayS_iff.1 hm).1; omega)]
    have ha := prog_all hm hRe; rw [← hg] at ha; rw [hord, Option.bind_some, hl, Option.bind_some, ha]
    rfl
theorem Vx (l : List Int) (v : Int) (hl : l.length ≤ 1000) : Cx l v = some (l.contains v) := by
  unfold Cx; rcases m_index l v hl with ⟨r, h1, h2, h3, h4⟩ | ⟨h1, h2⟩
  · rw [h4, Option.bind_some]; have : l.contains v = true := List.contains_iff_mem.2 (by rw [← h2]; exact Fg h1); rw [this, decide_eq_true (by omega)]
  · rw [h2, Option.bind_some]
    have : l.contains v = false := by
      cases hc : l.contains v with
      | false => rfl
      | true =>
        obtain ⟨i, hi, e⟩ := List.getElem_of_mem (List.contains_iff_mem.1 hc); exact absurd (by rw [Ag _ _ _ hi]; exact e) (h1 i hi)
    rw [this]
    rfl
theorem Vm (g : Ao) (x : Int) (h1 : Fits g.Succ) (h2 : Fits g.Pred) : D8 g x = some ((Ig (D3 g) x : Nat) : Int) := by
  unfold D8; obtain ⟨hll, hlb⟩ := Yu g; rw [Rz g h1 h2, Option.bind_some]
  have l2 : Aw (Dm x (D3 g)) ((0 : Int), (0 : Int)) = some ((Ig (D3 g) x : Nat) : Int) := by
    have e : Ig (D3 g) x = Ig ((D3 g).take (D3 g).length) x := by rw [List.take_length]
    rw [e]; refine D6 (Dm x (D3 g)) (fun m => (((Ig ((D3 g).take m) x : Nat) : Int), ((m : Nat) : Int))) _ (D3 g).length (fun m hmm => ?_) ?_
    · show Dm _ _ (_, (m : Int)) = _
      unfold Dm; have hb := hlb _ (Fg (d := (default : A2)) hmm); have hd := deepN_le ((D3 g).take m) x; have hd : Ig ((D3 g).take m) x ≤ 64 := Nat.le_trans hd (by rw [List.length_take]; omega); simp only [C6 hmm, cond_true, Ap, Vx _ _ (show ((D3 g).getD m default).Body.length ≤ 1000 by omega), Option.bind_some]; rw [Ad (Ef hmm), Z2 _ _ hmm]
      cases ((D3 g).getD m default).Body.contains x with
      | true => rw [cond_true, Option.bind_some, w1 (by omega), w1 (by omega)]; rfl
      | false => rw [cond_false, Option.bind_some, w1 (by omega)]; rfl
    · show Dm _ _ (_, _) = _
      unfold Dm; simp only [Et, cond_false]
  rw [l2]
  rfl
end
end Go.Proofs.Ytjpacggpipflcaa

namespace Go.Proofs.Ytjpacggpipflcaa
noncomputable section
open Go Go.RowKit
set_option linter.unusedVariables false
set_option linter.unusedSimpArgs false
section
variable {S : Nat → List Nat}
theorem VL.edges {s s' : Nat → Bool} {l o : List Nat} (h : VL S s l s' o) : ∀ z ∈ o, ∀ y ∈ S z, s y = true ∨ (∃ A B, o = A ++ z :: B ∧ y ∈ A) ∨ Rch S y z := by
  induction h with
  | nil => intro z hz; cases hz
  | skip _ _ ih => exact ih
  | @step s s1 s2 y0 l o1 o2 h0 a b iha ihb =>
    intro z hz y hy; rcases List.mem_append.1 hz with hz1 | hz1
    · rcases iha z hz1 y hy with h | ⟨A, B, e, hA⟩ | h
      · rcases upd_true.1 h with rfl | h
        · obtain ⟨w, hw, hr⟩ := a.rch hz1; exact .inr (.inr (.head hw hr))
        · exact .inl h
      · exact .inr (.inl ⟨A, B ++ y0 :: o2, by rw [e]; simp, hA⟩)
      · exact .inr (.inr h)
    · rcases List.mem_cons.1 hz1 with rfl | hz2
      · rcases (a.seen y).1 (a.closed.1 y hy) with h | h
        · rcases upd_true.1 h with rfl | h
          · exact .inr (.inr (.refl _))
          · exact .inl h
        · exact .inr (.inl ⟨o1, o2, rfl, h⟩)
      · rcases ihb z hz2 y hy with h | ⟨A, B, e, hA⟩ | h
        · rcases (a.seen y).1 h with h | h
          · rcases upd_true.1 h with rfl | h
            · obtain ⟨A, B, e⟩ := List.append_of_mem hz2; exact .inr (.inl ⟨o1 ++ y :: A, B, by rw [e]; simp, by simp⟩)
            · exact .inl h
          · obtain ⟨A, B, e⟩ := List.append_of_mem hz2; exact .inr (.inl ⟨o1 ++ y0 :: A, B, by rw [e]; simp, by simp [h]⟩)
        · exact .inr (.inl ⟨o1 ++ y0 :: A, B, by rw [e]; simp, by simp [hA]⟩)
        · exact .inr (.inr h)
theorem Ord.edges {r : Nat} {O : List Nat} (h : Ord S r O) : ∀ z ∈ O, ∀ y ∈ S z, (∃ A B, O = A ++ z :: B ∧ y ∈ B) ∨ Rch S y z := by
  obtain ⟨s', o, hv, rfl⟩ := h; intro z hz0 y hy; rcases List.mem_cons.1 hz0 with rfl | hz
  · rcases (hv.seen y).1 (hv.closed.1 y hy) with h | h
    · have : y = z := by simpa [one] using h
      subst this; exact .inr (.refl _)
    · exact .inl ⟨[], o.reverse, rfl, by simpa using h⟩
  · have hz3 := List.mem_reverse.1 hz; rcases hv.edges z hz3 y hy with h | ⟨A, B, e, hA⟩ | h
    · have : y = r := by simpa [one] using h
      subst this; obtain ⟨w, hw, hr⟩ := hv.rch hz3; exact .inr (.head hw hr)
    · exact .inl ⟨r :: B.reverse, A.reverse, by rw [e]; simp, by simpa using hA⟩
    · exact .inr h
end
def Kj (S : Nat → List Nat) (O : List Nat) (i : Nat) : Bool := !(S (O.getD i 0)).any fun y => (O.take (i + 1)).contains y
section
variable {L : List (List Int)} (hm : Ex L = true)
include hm
theorem roundC_at : Ng L = true ↔ ∃ a y, a < L.length ∧ Rch (sN L) 0 a ∧ y ∈ sN L a ∧ Rch (sN L) y a := by
  have h1 := (mayS_iff.1 hm).1; unfold Ng; rw [List.any_eq_true]
  constructor
  · rintro ⟨a, ha, h⟩; rw [List.mem_range] at ha; unfold On at h; rw [Bool.and_eq_true, Fb hm (by omega), List.any_eq_true] at h; obtain ⟨h2, y, hy, h3⟩ := h; obtain ⟨y0, y1⟩ := Gc ((mayS_iff.1 hm).2.2 a ha) hy; refine ⟨a, y.toNat, ha, rc_iff.1 h2, ?_, rc_iff.1 ((Fb hm (by omega)).1 h3)⟩; rw [mem_sN hm ha, Int.toNat_of_nonneg y0]; exact hy
  · rintro ⟨a, y, ha, h2, hy, h3⟩; refine ⟨a, List.mem_range.2 ha, ?_⟩; have hyl := I9 hm a ha y hy; unfold On; rw [Bool.and_eq_true, Fb hm (by omega), List.any_eq_true]; refine ⟨rc_iff.2 h2, (y : Int), (mem_sN hm ha).1 hy, ?_⟩; rw [Ap, Fb hm hyl]; exact rc_iff.2 h3
theorem okAt_all {O : List Nat} (hO : Ord (sN L) 0 O) : (List.range O.length).all (Kj (sN L) O) = !Ng L := by
  have h1 := (mayS_iff.1 hm).1; have hd := hO.nodup
  have hinj : ∀ (i j : Nat) (hi : i < O.length) (hj : j < O.length), O[i] = O[j] → i = j := fun i j hi hj e => by
    have h1 := (Ja hd hi).2; rw [e, (Ja hd hj).2] at h1; exact h1.symm
  have hin : ∀ z, z ∈ O ↔ Rch (sN L) 0 z := hO.mem; have hlt : ∀ z ∈ O, z < L.length := fun z hz => rch_lt hm ((hin z).1 hz) (by omega); rw [Bool.eq_iff_iff, all_range, Bool.not_eq_true', ← Bool.not_eq_true, roundC_at hm]
  constructor
  · rintro hall ⟨a, y, ha, h2, hy, h3⟩
    have step : ∀ u v, u ∈ O → v ∈ sN L u → pos O u < pos O v := fun u v hu hv => by
      have hvO : v ∈ O := (hin v).2 (((hin u).1 hu).tail hv); obtain ⟨i, hi, rfl⟩ := List.getElem_of_mem hu; obtain ⟨j, hj, rfl⟩ := List.getElem_of_mem hvO; rw [(Ja hd hi).2, (Ja hd hj).2]; refine Nat.lt_of_not_le fun hji => ?_; have := hall i hi; unfold Kj at this; rw [Bool.not_eq_true', ← Bool.not_eq_true, List.any_eq_true] at this; refine this ⟨O[j], by rw [Ag _ _ _ hi]; exact hv, List.contains_iff_mem.2 ?_⟩; rw [List.mem_take_iff_getElem]; exact ⟨j, by omega, rfl⟩
    have path : ∀ u v, Rch (sN L) u v → u ∈ O → pos O u ≤ pos O v := fun u v h => by
      induction h with
      | refl => intro _; exact Nat.le_refl _
      | @head u w v hw _ ih =>
        intro hu; have h5 := step u w hu hw; have := ih ((hin w).2 (((hin u).1 hu).tail hw)); omega
    have haO : a ∈ O := (hin a).2 h2; have h5 := step a y haO hy; have := path y a h3 ((hin y).2 (((hin a).1 haO).tail hy)); omega
  · intro hno i hi; unfold Kj; rw [Bool.not_eq_true', ← Bool.not_eq_true, List.any_eq_true]; rintro ⟨y, hy, hc⟩; rw [List.contains_iff_mem] at hc; rw [Ag _ _ _ hi] at hy; have hzO : O[i] ∈ O := List.getElem_mem hi; rcases hO.edges _ hzO y hy with ⟨A, B, e, hB⟩ | h
    · obtain ⟨j, hj, hjy⟩ := List.mem_take_iff_getElem.1 hc
      have hjl : j < O.length := by omega
      have hAi : A.length = i := by
        have hA : A.length < O.length := by rw [e]; simp
        have : O[A.length] = O[i] := by
          have h6 : O[A.length]? = some O[i] := by
            conv => lhs; rw [e]
            rw [List.getElem?_append_right (Nat.le_refl _)]; simp
          rw [List.getElem?_eq_getElem hA] at h6; exact OI h6
        exact hinj _ _ hA hi this
      obtain ⟨k, hk, hky⟩ := List.getElem_of_mem hB
      have hkl : A.length + (k + 1) < O.length := by rw [e]; simp; omega
      have h7 : O[A.length + (k + 1)] = y := by
        have h6 : O[A.length + (k + 1)]? = some y := by
          conv => lhs; rw [e]
          rw [List.getElem?_append_right (by omega)]; simp [hk, hky]
        rw [List.getElem?_eq_getElem hkl] at h6; exact OI h6
      have := hinj _ _ hjl hkl (hjy.trans h7.symm); omega
    · exact hno ⟨O[i], y, hlt _ hzO, (hin _).1 hzO, hy, h⟩
end
theorem m_any {l : List Int} {R : List Bool} (hl : l.length ≤ 64) (hin : ∀ x ∈ l, 0 ≤ x ∧ x < 64) : Ch l R = some (l.any fun y => R.getD y.toNat false, R) := by
  have key : ∀ k i : Nat, i + k = l.length → (∀ j, j < i → R.getD (l.getD j 0).toNat false = false) →
      (∃ r : Nat, r < l.length ∧ R.getD (l.getD r 0).toNat false = true ∧ Aw (Be l) ((i : Int), R) = some (.inr ((r : Int), R))) ∨ ((∀ j, j < l.length → R.getD (l.getD j 0).toNat false = false) ∧ Aw (Be l) ((i : Int), R) = some (.inl R)) := by
    intro k
    induction k with
    | zero =>
      intro i hi hj
      obtain rfl : i = l.length := by omega
      refine .inr ⟨hj, A7 ?_⟩; unfold Be; simp only [Et, cond_false]
    | succ k ih =>
      intro i hi hj; obtain ⟨z0, z1⟩ := hin _ (Fg (d := (0 : Int)) (show i < l.length by omega))
      have hf : Ew (l.getD i 0) R = some (R.getD (l.getD i 0).toNat false, R) := by
        unfold Ew; rw [Ad ⟨z0, z1⟩]
      cases e : R.getD (l.getD i 0).toNat false with
      | true =>
        refine .inl ⟨i, by omega, e, A7 ?_⟩; unfold Be; simp only [C6 (show i < l.length by omega), cond_true, Ap, hf, Option.bind_some, e]; rw [Ad (Ef (by omega))]
      | false =>
        have hs : Be l ((i : Int), R) = some (.next (((i + 1 : Nat) : Int), R)) := by
          unfold Be; simp only [C6 (show i < l.length by omega), cond_true, Ap, hf, Option.bind_some, e, cond_false]; rw [Ad (Ef (by omega)), w1 (by omega)]
        rw [Bs hs]
        exact ih (i + 1) (by omega) fun j hj2 => by
          by_cases ej : j = i
          · subst ej; exact e
          · exact hj j (by omega)
  unfold Ch Dh; rcases key l.length 0 (by omega) (fun j hj => absurd hj (Nat.not_lt_zero _)) with ⟨r, h1, h2, h3⟩ | ⟨h1, h2⟩
  · have : (l.any fun y => R.getD y.toNat false) = true := List.any_eq_true.2 ⟨_, Fg h1, h2⟩; rw [this]
    show Option.bind (Option.bind (Aw _ (((0 : Nat) : Int), R)) _) _ = _
    rw [h3]; simp only [Option.bind_some]; rw [decide_eq_true (by omega)]
  · have : (l.any fun y => R.getD y.toNat false) = false := by
      cases hc : (l.any fun y => R.getD y.toNat false) with
      | false => rfl
      | true =>
        obtain ⟨y, hy, e⟩ := List.any_eq_true.1 hc; obtain ⟨i, hi, ei⟩ := List.getElem_of_mem hy; have := h1 i hi; rw [Ag _ _ _ hi, ei, e] at this
        cases this
    rw [this]
    show Option.bind (Option.bind (Aw _ (((0 : Nat) : Int), R)) _) _ = _
    rw [h2]
    rfl
def Gv (O : List Nat) : Nat → List Bool
  | 0 => List.replicate 64 false
  | i + 1 => Dp 64 false (Gv O i) (O.getD i 0) true
theorem Sy {O : List Nat} : ∀ i, i ≤ O.length → RelS (Gv O i) (fun z => (O.take i).contains z)
  | 0, _ => fun z hz => by rw [Gv, F5]; simp
  | i + 1, h => fun z hz => by
    rw [Gv, Gt hz, Sy i (by omega) z hz]
    have e : O.take (i + 1) = O.take i ++ [O.getD i 0] := by rw [List.take_succ_eq_append_getElem (show i < O.length by omega), Ag _ _ _ (show i < O.length by omega)]
    rw [e, Bool.eq_iff_iff]
    by_cases hz' : z = O.getD i 0
    · rw [if_pos hz']; simp [hz']
    · rw [if_neg hz', List.contains_iff_mem, List.contains_iff_mem, List.mem_append, List.mem_singleton]; exact ⟨.inl, fun h => h.resolve_right hz'⟩
theorem Rl (g : Ao) (h1 : Fits g.Succ) (h2 : Fits g.Pred) : D1 g = some (Va g) := by
  unfold D1 Va
  cases hG : H2 g with
  | false =>
    rw [Rf h1 hG, Option.bind_some]
    rfl
  | true =>
    obtain ⟨hm, hg⟩ := Mn hG; obtain ⟨_, h64, hok⟩ := mayS_iff.1 hm; obtain ⟨O, hO, hord, hlt, hlen⟩ := order0 hm; rw [← hg] at hord; have h0 : 0 ∈ O := (hO.mem 0).2 (.refl 0); have hpos : 0 < O.length := List.length_pos_of_mem h0
    have hol : (Gn O).length = O.length := by simp [Gn]
    have hne : ((((Gn O).length : Nat) : Int) == (0 : Int)) = false := beq_eq_false_iff_ne.2 (by rw [hol]; omega)
    have hr : Fs g.Succ [] = Ng g.Succ := by unfold Fs; rw [Rq]
    rw [hord, Option.bind_some, hne, cond_false, Bool.true_and, hr, ← okAt_all hm hO]
    have hstep : ∀ i, i < O.length → Cc g (Gn O) ((i : Int), Gv O i) = bif Kj (sN g.Succ) O i then some (.next (((i + 1 : Nat) : Int), Gv O (i + 1))) else some (.done (.inr false)) := fun i hi => by
      unfold Cc; have hz : O[i] < g.Succ.length := hlt _ (List.getElem_mem hi)
      have hd : decide ((i : Int) < (((Gn O).length : Nat) : Int)) = true := by rw [hol]; exact C6 hi
      have hmk : Dp 64 false (Gv O i) O[i] true = Gv O (i + 1) := by rw [Gv, Ag _ _ _ hi]
      have hrl : (g.Succ.getD O[i] []).length ≤ 64 := by have := Ka (hok _ hz); omega
      have hsm : ∀ x ∈ g.Succ.getD O[i] [], 0 ≤ x ∧ x < (g.Succ.length : Int) := fun x hx => Gc (hok _ hz) hx
      have hany : ((g.Succ.getD O[i] []).any fun y => (Gv O (i + 1)).getD y.toNat false) = !Kj (sN g.Succ) O i := by
        unfold Kj; rw [Bool.not_not, Ag _ _ _ hi]; unfold sN; rw [List.any_map, Bool.eq_iff_iff, List.any_eq_true, List.any_eq_true]; refine exists_congr fun x => and_congr_right fun hx => ?_; obtain ⟨x0, x1⟩ := hsm x hx; rw [Sy (i + 1) hi x.toNat (by omega)]
        rfl
      simp only [hd, cond_true, Ap, ofN_at hi, hmk]; rw [Ad (Ef (by rw [hol]; exact hi)), Ad (Ef (show O[i] < 64 by omega)), Ad (Ef hz), m_any hrl (fun x hx => by have := hsm x hx; omega), Option.bind_some]; simp only [hany]
      cases Kj (sN g.Succ) O i with
      | true => rw [cond_true, Bool.not_true, cond_false, w1 (by omega)]
      | false => rfl
    have hfind := Gh (Cc g (Gn O)) (fun i => (((i : Nat) : Int), Gv O i)) (Kj (sN g.Succ) O) (.inl ()) (.inr false) O.length
      (fun i hi hp => by show Cc g (Gn O) ((i : Int), Gv O i) = _; rw [hstep i hi, hp]; rfl)
      (fun i hi hp => by show Cc g (Gn O) ((i : Int), Gv O i) = _; rw [hstep i hi, hp]; rfl)
      (by
        show Cc g (Gn O) (_, _) = _
        unfold Cc; rw [hol]
        simp only [Et, cond_false])
    show Option.bind (Aw (Cc g (Gn O)) (((0 : Nat) : Int), Gv O 0)) _ = _
    rw [hfind]
    cases (List.range O.length).all (Kj (sN g.Succ) O) <;> rfl
theorem m_has2 (W : List (Int × Int)) (v : Int × Int) (hW : W.length ≤ 5000) : Cg W v = some (!F0 W v.1 v.2) := by
  have key : ∀ k i : Nat, i + k = W.length → (∀ j, j < i → ((W.getD j ((0 : Int), (0 : Int))).1 == v.1 && (W.getD j ((0 : Int), (0 : Int))).2 == v.2) = false) →
      (∃ r : Nat, r < W.length ∧ ((W.getD r ((0 : Int), (0 : Int))).1 == v.1 && (W.getD r ((0 : Int), (0 : Int))).2 == v.2) = true ∧ Aw (Bd W v) (i : Int) = some (.inr (r : Int))) ∨
      ((∀ j, j < W.length → ((W.getD j ((0 : Int), (0 : Int))).1 == v.1 && (W.getD j ((0 : Int), (0 : Int))).2 == v.2) = false) ∧ Aw (Bd W v) (i : Int) = some (.inl ())) := by
    intro k
    induction k with
    | zero =>
      intro i hi hj
      obtain rfl : i = W.length := by omega
      refine .inr ⟨hj, A7 ?_⟩; unfold Bd; simp only [Et, cond_false]
    | succ k ih =>
      intro i hi hj
      have hcm : ((v.1 == (W.getD i ((0 : Int), (0 : Int))).1) && ((v.2 == (W.getD i ((0 : Int), (0 : Int))).2) && true)) = ((W.getD i ((0 : Int), (0 : Int))).1 == v.1 && (W.getD i ((0 : Int), (0 : Int))).2 == v.2) := by
        rw [Bool.and_true, Bool.eq_iff_iff, Bool.and_eq_true, Bool.and_eq_true, beq_iff_eq, beq_iff_eq, beq_iff_eq, beq_iff_eq]; exact ⟨fun h => ⟨h.1.symm, h.2.symm⟩, fun h => ⟨h.1.symm, h.2.symm⟩⟩
      cases e : ((W.getD i ((0 : Int), (0 : Int))).1 == v.1 && (W.getD i ((0 : Int), (0 : Int))).2 == v.2) with
      | true =>
        refine .inl ⟨i, by omega, e, A7 ?_⟩; unfold Bd; simp only [C6 (show i < W.length by omega), cond_true, Ap, hcm, e]; rw [Ad (Ef (by omega))]
      | false =>
        have hs : Bd W v (i : Int) = some (.next ((i + 1 : Nat) : Int)) := by
          unfold Bd; simp only [C6 (show i < W.length by omega), cond_true, Ap, hcm, e, cond_false]; rw [Ad (Ef (by omega)), w1 (by omega)]
        rw [Bs hs]
        exact ih (i + 1) (by omega) fun j hj2 => by
          by_cases ej : j = i
          · subst ej; exact e
          · exact hj j (by omega)
  unfold Cg Df; rcases key W.length 0 (by omega) (fun j hj => absurd hj (Nat.not_lt_zero _)) with ⟨r, h1, h2, h3⟩ | ⟨h1, h2⟩
  · have : F0 W v.1 v.2 = false := by
      cases hk : F0 W v.1 v.2 with
      | false => rfl
      | true =>
        unfold F0 at hk; have := List.all_eq_true.1 hk _ (Fg (d := ((0 : Int), (0 : Int))) h1); rw [h2] at this
        cases this
    rw [this]
    show Option.bind (Option.bind (Aw _ ((0 : Nat) : Int)) _) _ = _
    rw [h3]; simp only [Option.bind_some]; rw [decide_eq_true (by omega)]
    rfl
  · have : F0 W v.1 v.2 = true := by
      unfold F0; refine List.all_eq_true.2 fun p hp => ?_; obtain ⟨i, hi, e⟩ := List.getElem_of_mem hp; have := h1 i hi; rw [Ag _ _ _ hi, e] at this; rw [this]; rfl
    rw [this]
    show Option.bind (Option.bind (Aw _ ((0 : Nat) : Int)) _) _ = _
    rw [h2]
    rfl
section
variable {L : List (List Int)} (hm : Ex L = true)
include hm
theorem Y2 {W : List (Int × Int)} (hW : W.length ≤ 4096) {a : Nat} (ha : a < L.length) (l : List (List Int)) (hl : l.length = L.length) (h0 : l.getD a [] = []) : Aw (Cf L W (a : Int)) ((0 : Int), l) = some (l.set a (Jh L W a)) := by
  have hroom : (1000 : Nat) ≤ room := by decide
  obtain ⟨_, h64, hok⟩ := mayS_iff.1 hm
  have hrl : (L.getD a []).length ≤ 64 := by have := Ka (hok a ha); omega
  have hal : a < l.length := by omega
  have hlen : ∀ m, (((L.getD a []).take m).filter (F0 W (a : Int))).length ≤ m := fun m => Nat.le_trans (List.length_filter_le ..) (by simp; omega)
  have e : l.set a (Jh L W a) = l.set a (((L.getD a []).take (L.getD a []).length).filter (F0 W (a : Int))) := by rw [List.take_length]; rfl
  have e0 : l = l.set a (((L.getD a []).take 0).filter (F0 W (a : Int))) := by
    rw [List.take_zero, List.filter_nil]; rw [Ag _ _ _ hal] at h0; rw [← h0]; exact (List.set_getElem_self hal).symm
  have hgo : Aw (Cf L W (a : Int)) ((0 : Int), l.set a (((L.getD a []).take 0).filter (F0 W (a : Int)))) = some (l.set a (((L.getD a []).take (L.getD a []).length).filter (F0 W (a : Int)))) := by
    refine D6 (Cf L W (a : Int)) (fun m => (((m : Nat) : Int), l.set a (((L.getD a []).take m).filter (F0 W (a : Int))))) _ (L.getD a []).length (fun m hmm => ?_) ?_
    · show Cf _ _ _ ((m : Int), _) = _
      unfold Cf
      have hat : (l.set a (((L.getD a []).take m).filter (F0 W (a : Int)))).getD a [] = ((L.getD a []).take m).filter (F0 W (a : Int)) := by rw [Ag _ _ _ (by simpa using hal)]; simp
      have hil : A8 (a : Int) (l.set a (((L.getD a []).take m).filter (F0 W (a : Int)))).length := Ef (by simpa using hal); have hl2 := hlen m; have hh := m_has2 W ((a : Int), (L.getD a []).getD m 0) (by omega); simp only [Ap, C6 hmm, cond_true, hh, Option.bind_some, hat, List.set_set, Bool.not_not]
      have hnx : ((L.getD a []).take (m + 1)).filter (F0 W (a : Int)) = ((L.getD a []).take m).filter (F0 W (a : Int)) ++ (if F0 W (a : Int) ((L.getD a []).getD m 0) = true then [(L.getD a []).getD m 0] else []) := by
        rw [List.take_succ_eq_append_getElem hmm, List.filter_append, Ag _ _ _ hmm]; rw [List.filter_cons, List.filter_nil]
      rw [Ad (Ef hmm), hnx]
      cases F0 W (a : Int) ((L.getD a []).getD m 0) with
      | true => rw [cond_true, Ad hil, Ad hil, Ad (by simp only [List.length_cons, List.length_nil]; omega), Ad hil, Option.bind_some, w1 (by omega), if_pos rfl]
      | false => rw [cond_false, Option.bind_some, w1 (by omega), if_neg (by simp), List.append_nil]
    · show Cf _ _ _ (_, _) = _
      unfold Cf; simp only [Ap, Et, cond_false]
  rw [e, ← hgo]; exact congrArg (fun z => Aw (Cf L W (a : Int)) ((0 : Int), z)) e0
theorem m_without {W : List (Int × Int)} (hW : W.length ≤ 4096) : Fo L W = some (Mv L W) := by
  have hroom : (1000 : Nat) ≤ room := by decide
  obtain ⟨_, h64, _⟩ := mayS_iff.1 hm
  have e0 : List.replicate L.length ([] : List Int) = (List.range L.length).map fun a => if a < 0 then Jh L W a else [] := by
    refine List.ext_getElem (by simp) fun i g1 g2 => by simp
  have e1 : Mv L W = (List.range L.length).map fun a => if a < L.length then Jh L W a else [] := Fq fun a ha => by rw [if_pos ha]
  have hl : Aw (C2 L W) ((0 : Int), List.replicate L.length ([] : List Int)) = some (Mv L W) := by
    rw [e0, e1]; refine D6 (C2 L W) (fun m => (((m : Nat) : Int), (List.range L.length).map fun a => if a < m then Jh L W a else [])) _ L.length (fun m hmm => ?_) ?_
    · show C2 _ _ ((m : Int), _) = _
      unfold C2; simp only [C6 hmm, cond_true]; rw [Ad (Ef hmm), Y2 hm hW hmm _ (by simp) (by rw [Hz hmm, if_neg (by omega)]), Option.bind_some, w1 (by omega), Lo]
      congr 3
      refine Fq fun x hx => ?_
      by_cases e : x = m
      · subst e; rw [if_pos rfl, if_pos (by omega)]
      · rw [if_neg e]
        by_cases e2 : x < m
        · rw [if_pos e2, if_pos (by omega)]
        · rw [if_neg e2, if_neg (by omega)]
    · show C2 _ _ (_, _) = _
      unfold C2; simp only [Et, cond_false]
  unfold Fo; rw [Ad ⟨by omega, by omega, by omega⟩, Ap, hl]
  rfl
end
theorem Zj (g : Ao) (h1 : Fits g.Succ) (h2 : Fits g.Pred) : Dv g = some (Zw g) := by
  unfold Dv Zw; rw [m_may g h1, Option.bind_some]
  cases hG : H2 g with
  | false => rfl
  | true =>
    obtain ⟨hm, hg⟩ := Mn hG
    have hb : D9 g = some (Cj g.Succ) := by rw [Kl g h1 h2]; unfold Ni; rw [if_pos hG]
    have hW := Pl (mayS_iff.1 hm).2.1; have hc := Xi hm (Cj g.Succ); obtain ⟨f1, f2⟩ := N9 hc
    have hf : Va (Jn (Mv g.Succ (Cj g.Succ))) = !Fs g.Succ (Cj g.Succ) := by
      unfold Va; rw [N4 hc, Bool.true_and]
      show (!Fs (Mv g.Succ (Cj g.Succ)) []) = _
      unfold Fs; rw [Rq]
    rw [Bool.not_true, cond_false, hb, Option.bind_some, m_without hm hW, Option.bind_some, Zb (Mv g.Succ (Cj g.Succ)) f1, hc, cond_true, Option.bind_some, Rl _ f1 f2, Option.bind_some, hf, Bool.true_and]
theorem facts10 : Vl := ⟨Kl, Rz, Vm, Zj, Rl⟩
end
end Go.Proofs.Ytjpacggpipflcaa

namespace Go.Proofs.Ytjpacggpipflcaa
noncomputable section
open Go Go.RowKit
theorem wf_u8 {n : Int} (h : (Lit.int .u8 n).wf = true) : 0 ≤ n ∧ n < 256 := by simp [Lit.wf, IntKind.min, IntKind.max, IntKind.bits, IntKind.signed] at h; omega
end
end Go.Proofs.Ytjpacggpipflcaa

namespace Go.Proofs.Ytjpacggpipflcaa
noncomputable section
open Go Go.RowKit
set_option linter.unusedVariables false
abbrev Iall (w : World) : Nat → Nat → Prop := fun b o => ∃ u, w.cell? ⟨b, o, none⟩ = some u
structure CRep (w : World) (cs : List Value) (avs : List AV) : Prop where
  len : cs.length = avs.length
  one : ∀ j, j < avs.length → (cs.getD j undef).oneCell' = true
  rep : ∀ j, j < avs.length → RepV (Iall w) w (cs.getD j undef) (avs.getD j .any)
structure Opens (P : Program) (t : TypeId) {α : Type} (e : α → List AV) (ok : α → Prop) : Prop where
  get : ∀ {H : Type} {enc : TypeId × Value → H} {w : World} {base : Nat} {spare : Nat → Bool} {held : Bool} {fuel : Nat} {cs : List Value} {x : DataW H × List MemPlace},
    DataW.trod enc P w base spare held fuel t cs = some x → ∃ a, ok a ∧ CRep w cs (e a)
theorem crep_one {w : World} {v : Value} {x : AV} (h1 : v.oneCell' = true) (h : RepV (Iall w) w v x) : CRep w [v] [x] :=
  ⟨rfl, fun j hj => (by
      have hj0 : j = 0 := by simpa using hj
      subst hj0
      exact h1), fun j hj => (by
      have hj0 : j = 0 := by simpa using hj
      subst hj0
      exact h)⟩
theorem opens_int {P : Program} {t : TypeId} {k : IntKind} {e : Int → List AV} (ht : P.underlying t = some (.int k)) (he : ∀ n, e n = [.int k n]) : Opens P t e (fun n => (Lit.int k n).wf = true) := by
  refine ⟨?_⟩; intro H enc w base spare held fuel cs x h; obtain ⟨n, rfl, rfl, hw⟩ := DataW.trod_int ht h; exact ⟨n, hw, by rw [he]; exact crep_one rfl (.int _ _)⟩
structure OpensF (P : Program) (fs : List Field) (off N : Nat) {α : Type} (e : α → List AV) (ok : α → Prop) : Prop where
  get : ∀ {H : Type} {enc : TypeId × Value → H} {w : World} {base : Nat} {spare : Nat → Bool} {held : Bool} {n : Nat} {cs : List Value}, cs.length = N →
    (∀ f ∈ fs, ∃ x, DataW.trod enc P w base spare held n f.type ((cs.drop f.offset).take (P.cellsOf f.type)) = some x) → ∃ a, ok a ∧ CRep w (cs.drop off) (e a)
theorem arg_one {P : Program} {t : TypeId} {α : Type} {e : α → List AV} {ok : α → Prop} (h : Opens P t e ok) {x : α → AV} (he : ∀ a, e a = [x a]) {H : Type} {enc : TypeId × Value → H} {w : World} {base : Nat} {spare : Nat → Bool} {held : Bool} {v : Value} {d : DataW H} {ps : List MemPlace}
    (hv : v.cells = #[v]) (hd : DataW.Trod enc P w base spare held t v d ps) : ∃ a, ok a ∧ RepV (Iall w) w v (x a) := by
  obtain ⟨fuel, hf⟩ := hd; obtain ⟨a, ha, hr⟩ := h.get hf; refine ⟨a, ha, ?_⟩; have := hr.rep 0 (by simp [he])
  simpa [hv, he] using this
end
end Go.Proofs.Ytjpacggpipflcaa

namespace Go.Proofs.Ytjpacggpipflcaa
noncomputable section
open Go Go.RowKit
def eU8 (x : Int) : List AV := [(.int .u8 x)]
def okU8 (n : Int) : Prop := (Lit.int .u8 n).wf = true
theorem op_5 : Opens Try.prog 5 eU8 okU8 := opens_int Try.underlying5 (fun _ => rfl)
end
end Go.Proofs.Ytjpacggpipflcaa
