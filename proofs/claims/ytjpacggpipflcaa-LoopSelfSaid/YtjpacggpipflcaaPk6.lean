/-
  The machine, the program's functions and the laws' arithmetic: part 6 of 6.
-/
import Derived.Test.YtjpacggpipflcaaPk5
import Derived.OpenShut
import Derived.ShutString
set_option linter.unusedVariables false
set_option linter.unusedSimpArgs false
namespace Go.Proofs.Ytjpacggpipflcaa
noncomputable section
open Go Go.RowKit
set_option linter.unusedVariables false
set_option linter.unusedSimpArgs false
section
variable {L : List (List Int)} (hm : Eu L = true)
include hm
end
theorem Ww {X : Type} {α : Type} {f : Bool × Int → Option (LR (Bool × Int) Bool)} (l : List α) (d : α) (p : α → Bool) (b : Bool)
    (h1 : ∀ (c : Bool) i, i < l.length → f (c, (i : Int)) = some (.next (c || p (l.getD i d), ((i + 1 : Nat) : Int)))) (h2 : ∀ c, f (c, (l.length : Int)) = some (.done c)) : At f (b, (0 : Int)) = some (b || l.any p) := by
  have := Do f (fun m => (b || (l.take m).any p, ((m : Nat) : Int))) (b || l.any p) l.length (fun m hmm => by
    show f (_, (m : Int)) = _
    rw [h1 _ m hmm, List.take_succ_eq_append_getElem hmm, List.any_append, List.any_cons, List.any_nil, Bool.or_false, ← Ag _ _ d hmm, Bool.or_assoc]) (by show f (_, _) = _; rw [h2, List.take_length])
  rw [List.take_zero, List.any_nil, Bool.or_false] at this; exact this
theorem self10 (F : Uw) (a : List (List Int)) (ha : a.length ≤ maxLen) (hrow : ∀ l ∈ a, l.length ≤ maxLen) : Dy a = some true := by
  unfold Dy; rw [m_awake10 F, Option.bind_some, Bool.not_true, cond_false]
  by_cases h16 : (16 : Int) < (a.length : Int)
  · rw [decide_eq_true h16]; rfl
  · rw [decide_eq_false h16, cond_false]
    have hl1 : At (A4 a) (0 : Int) = some (bif (List.range a.length).all fun i => decide ((a.getD i []).length ≤ 100) then .inl () else .inr true) := by
      refine Gx (A4 a) (fun i => ((i : Nat) : Int)) (fun i => decide ((a.getD i []).length ≤ 100)) (.inl ()) (.inr true) _ (fun i hi hp => ?_) (fun i hi hp => ?_) ?_
      · show A4 a (i : Int) = _
        unfold A4; have hp := of_decide_eq_true hp; simp only [Cz hi, cond_true, An, decide_eq_false (show ¬ ((100 : Int) < ((a.getD i []).length : Int)) by omega), cond_false]; rw [Ad (D3 hi), w1 (by omega)]
      · show A4 a (i : Int) = _
        unfold A4; have hp := of_decide_eq_false hp; simp only [Cz hi, cond_true, An, decide_eq_true (show ((100 : Int) < ((a.getD i []).length : Int)) by omega)]; rw [Ad (D3 hi)]
      · show A4 a _ = _
        unfold A4; simp only [Ee, cond_false]
    rw [hl1]
    cases hall : (List.range a.length).all fun i => decide ((a.getD i []).length ≤ 100) with
    | false => rfl
    | true =>
      have fa : Fits a := Aac ⟨by omega, fun l hl => by
        obtain ⟨i, hi, e⟩ := List.getElem_of_mem hl; have := of_decide_eq_true (all_range.1 hall i hi); rw [Ag _ _ _ hi, e] at this
        omega⟩
      simp only [cond_true, Option.bind_some, Ym a fa]
      cases hm : Eu a with
      | false => rfl
      | true =>
        obtain ⟨h1, h64, hok⟩ := mayS_iff.1 hm; obtain ⟨g1, g2⟩ := Nm hm; have hG : Hs (I4 a) = true := Ol hm
        have hl : D4 (I4 a) = Er a := by unfold D4; rw [if_pos hG]; rfl
        have hb : Ju (I4 a) = Bz a := by unfold Ju; rw [if_pos hG]; rfl
        obtain ⟨hll, hlb⟩ := Qk (I4 a); have hbl := L9 (L := a) h64; rw [hl] at hll hlb; simp only [cond_true, bne_self_eq_false, cond_false, F.all _ g1 g2, F.backs _ g1 g2, Option.bind_some, hl, hb]
        have l3 : ∀ i, i < (Bz a).length → At (B4 (Er a) (Bz a) (i : Int)) (false, (0 : Int)) = some true := fun i hi => by
          have hl2 : ∀ k, k < (Er a).length → At (Cp (Er a) (Bz a) (i : Int) (k : Int)) (false, (0 : Int)) = some (false || ((Er a).getD k default).Body.any fun y => y == ((Bz a).getD i ((0 : Int), (0 : Int))).1) := fun k hk => by
            have hbk := hlb _ (Eb (d := (default : A1)) hk); refine Ww (X := Unit) _ (0 : Int) _ false (fun c j hj => ?_) (fun c => ?_)
            · unfold Cp; simp only [An, Cz hj, cond_true]; rw [Ad (D3 hk), Ad (fun _ => D3 hk), Ad (fun _ => D3 hj), Ad (fun _ => D3 hi), w1 (by omega)]
              cases c <;> rfl
            · unfold Cp; simp only [An, Ee, cond_false]; rw [Ad (D3 hk)]
          have := Ww (X := Unit) (f := B4 (Er a) (Bz a) (i : Int)) (Er a) default (fun z => (z.Head == ((Bz a).getD i ((0 : Int), (0 : Int))).2) && z.Body.any fun y => y == ((Bz a).getD i ((0 : Int), (0 : Int))).1) false (fun c k hk => by
            unfold B4; simp only [An, Cz hk, cond_true, hl2 k hk, Option.bind_some]; rw [Ad (fun _ => D3 hk), Ad (fun _ => D3 hi), w1 (by omega), Bool.false_or]
            cases c with
            | true => rfl
            | false => cases (((Er a).getD k default).Head == ((Bz a).getD i ((0 : Int), (0 : Int))).2) <;> rfl) (fun c => by
            unfold B4
            simp only [Ee, cond_false])
          rw [this, Bool.false_or]
          congr 1
          rw [List.any_eq_true]; obtain ⟨t, h, he, ht, hh, hB⟩ := mem_backs.1 (Eb (d := ((0 : Int), (0 : Int))) hi); rw [he]; have hhead : Gs a h = true := (W7 hm).2 ⟨t, ht, hB⟩; refine ⟨_, mem_loops.2 ⟨h, hh, hhead, rfl⟩, ?_⟩; rw [Bool.and_eq_true]; refine ⟨by simp, ?_⟩; rw [List.any_eq_true]; refine ⟨(t : Int), ?_, by simp⟩
          have hbody : Pu a h t = true := by
            refine (Xp hm ht).2 ?_
            by_cases e : t = h
            · exact .inl e
            · exact .inr ⟨e, ((Nk hm ht).1 hB).2.1, t, ht, hB, .root e⟩
          have := T7 (L := a) (h := h) ht; rw [hbody, List.contains_iff_mem] at this; exact this
        have l4 : At (Bj (Er a) (Bz a)) (0 : Int) = some (.inl ()) := by
          refine Do (Bj (Er a) (Bz a)) (fun i => ((i : Nat) : Int)) _ (Bz a).length (fun i hi => ?_) ?_
          · show Bj _ _ (i : Int) = _
            unfold Bj; simp only [Cz hi, cond_true, l3 i hi, Option.bind_some, Bool.not_true, cond_false]; rw [w1 (by omega)]
          · show Bj _ _ _ = _
            unfold Bj; simp only [Ee, cond_false]
        obtain ⟨O, hO⟩ := Ord.exist (Is hm) (r := 0) (show 0 < a.length by omega); have hord : Co (I4 a) 0 = some (Ft O) := (Oc (I4 a) g1 trivial 0).1 hG (by omega) (by show (0 : Int) < (a.length : Int); omega) O hO
        have hOm : ∀ x ∈ O, Rc (sN a) 0 x ∧ x < a.length := fun x hx => by
          have := rc_iff.2 ((hO.mem x).1 hx); exact ⟨this, T4 (Is hm) (by omega) this⟩
        have hol : (Ft O).length = O.length := by simp [Ft]
        have hO64 : O.length ≤ 64 := Nat.le_trans (G7 a.length O hO.nodup fun x hx => (hOm x hx).2) h64
        have l5 : ∀ i, i < O.length → At (Bk a (I4 a, 0) (Ft O) (i : Int)) (0 : Int) = some (.inl ()) := fun i hi => by
          have hx : (Ft O).getD i 0 = ((O.getD i 0 : Nat) : Int) := by
            unfold Ft; rw [Ag _ _ _ (by simpa using hi), Ag _ _ _ hi, List.getElem_map]
            rfl
          obtain ⟨rx, hxl⟩ := hOm _ (Eb (d := 0) hi)
          have hrl : (a.getD (O.getD i 0) []).length ≤ 64 := by have := It (hok _ hxl); omega
          refine Do (Bk a (I4 a, 0) (Ft O) (i : Int)) (fun k => ((k : Nat) : Int)) _ (a.getD (O.getD i 0) []).length (fun k hk => ?_) ?_
          · show Bk _ _ _ _ (k : Int) = _
            unfold Bk; simp only [An, hx, Cz hk, cond_true, F.depth _ _ g1 g2, hl]; rw [Ad (D3 hxl), Ad (D3 hxl), Ad (D3 hk), w1 (by omega)]
            cases hq : ((a.getD (O.getD i 0) []).getD k 0 == ((O.getD i 0 : Nat) : Int)) with
            | false => rfl
            | true =>
              have hself : O.getD i 0 ∈ sN a (O.getD i 0) := List.mem_map.2 ⟨_, Eb (d := (0 : Int)) hk, by rw [beq_iff_eq.1 hq, An]⟩; have hB : Mq a (O.getD i 0) (O.getD i 0) = true := (Nk hm hxl).2 ⟨hself, rx, fun h => h.ne rfl⟩; have hhead : Gs a (O.getD i 0) = true := (W7 hm).2 ⟨_, hxl, hB⟩
              have hin : (Mw a (O.getD i 0)).contains ((O.getD i 0 : Nat) : Int) = true := by rw [T7 hxl]; exact (Xp hm hxl).2 (.inl rfl)
              have hd : 1 ≤ Hp (Er a) ((O.getD i 0 : Nat) : Int) := by
                unfold Hp; exact List.length_pos_of_mem (List.mem_filter.2 ⟨mem_loops.2 ⟨_, hxl, hhead, rfl⟩, hin⟩)
              simp only [beq_self_eq_true, cond_true, Option.bind_some, decide_eq_false (show ¬ (((Hp (Er a) ((O.getD i 0 : Nat) : Int) : Nat) : Int) < 1) by omega), cond_false]
          · show Bk _ _ _ _ _ = _
            unfold Bk; simp only [An, hx, Ee, cond_false]; rw [Ad (D3 hxl)]
        have l6 : At (Bl a (I4 a, 0) (Ft O)) (0 : Int) = some (.inl ()) := by
          refine Do (Bl a (I4 a, 0) (Ft O)) (fun i => ((i : Nat) : Int)) _ O.length (fun i hi => ?_) ?_
          · show Bl _ _ _ (i : Int) = _
            unfold Bl; simp only [hol, Cz hi, cond_true, l5 i hi, Option.bind_some]; rw [Ad (D3 hi), w1 (by omega)]
          · show Bl _ _ _ _ = _
            unfold Bl; simp only [hol, Ee, cond_false]
        simp only [l4, Option.bind_some, hord, l6]
end
end Go.Proofs.Ytjpacggpipflcaa

namespace Go.Proofs.Ytjpacggpipflcaa
noncomputable section
open Go Go.RowKit
set_option linter.unusedVariables false
set_option linter.unusedSimpArgs false
section
variable {k h : Nat}
variable (hh : h < k) (hk : k ≤ 60)
include hh hk
omit hh hk in
omit hh hk in
omit hk in
omit hh hk in
end
end
end Go.Proofs.Ytjpacggpipflcaa

namespace Go.Proofs.Ytjpacggpipflcaa
noncomputable section
open Go Go.RowKit
set_option linter.unusedVariables false
set_option linter.unusedSimpArgs false
end
end Go.Proofs.Ytjpacggpipflcaa

namespace Go.Proofs.Ytjpacggpipflcaa
noncomputable section
open Go Go.RowKit
set_option linter.unusedVariables false
set_option linter.unusedSimpArgs false
inductive Tp (t : List Int) : Nat → Nat → Nat → Prop
  | top {x : Nat} (hx : x < t.length) (h : t.getD x 0 = -1) : Tp t x x 0
  | up {x y r k : Nat} (hx : x < t.length) (h : t.getD x 0 = (y : Int)) (hk : Tp t y r k) : Tp t x r (k + 1)
section
variable {t : List Int}
theorem Tp.lt {x r k : Nat} (h : Tp t x r k) : x < t.length := by cases h <;> assumption
theorem Tp.tops {x r k : Nat} (h : Tp t x r k) : r < t.length ∧ t.getD r 0 = -1 := by
  induction h with
  | top hx h => exact ⟨hx, h⟩
  | up _ _ _ ih => exact ih
theorem Tp.det {x r k r' k' : Nat} (h : Tp t x r k) (h' : Tp t x r' k') : r = r' ∧ k = k' := by
  induction h generalizing k' with
  | top hx h => cases h' with
    | top => exact ⟨rfl, rfl⟩
    | up _ h2 _ => omega
  | up hx h1 _ ih => cases h' with
    | top _ h2 => omega
    | up _ h2 k2 =>
      have : _ = _ := h1.symm.trans h2
      cases Int.ofNat.inj this
      obtain ⟨e1, e2⟩ := ih k2; exact ⟨e1, by omega⟩
theorem Tp.upTo {x r k : Nat} (h : Tp t x r k) : UpTo (Bf t) x r := by
  induction h with
  | top => exact .refl _
  | up _ h _ ih => exact .up h ih
theorem Tp.on {x r k z : Nat} (h : Tp t x r k) (hz : UpTo (Bf t) x z) : ∃ j, j ≤ k ∧ Tp t z r j ∧ (j = k → z = x) := by
  induction hz generalizing k with
  | refl x => exact ⟨k, Nat.le_refl _, h, fun _ => rfl⟩
  | up hp _ ih =>
    cases h with
    | top _ h2 => have : _ = _ := hp.symm.trans h2; omega
    | up _ h2 k2 =>
      have : _ = _ := hp.symm.trans h2
      cases Int.ofNat.inj this
      obtain ⟨j, h1, h3, _⟩ := ih k2; exact ⟨j, by omega, h3, fun e => by omega⟩
theorem Tp.anti {x r k z : Nat} (h : Tp t x r k) (h1 : UpTo (Bf t) x z) (h2 : UpTo (Bf t) z x) : z = x := by
  obtain ⟨j, j1, j2, j3⟩ := h.on h1; obtain ⟨i, i1, i2, i3⟩ := j2.on h2; have := h.det i2; exact j3 (by omega)
theorem Tp.list {x r k : Nat} (h : Tp t x r k) : ∃ l : List Nat, l.length = k + 1 ∧ l.Nodup ∧ ∀ y ∈ l, y < t.length ∧ ∃ j, j ≤ k ∧ Tp t y r j := by
  induction h with
  | top hx h => exact ⟨[_], rfl, by simp, fun y hy => by rw [List.mem_singleton.1 hy]; exact ⟨hx, 0, Nat.le_refl _, .top hx h⟩⟩
  | @up x y r k hx h hk ih =>
    obtain ⟨l, h1, h2, h3⟩ := ih; refine ⟨x :: l, by simp [h1], List.nodup_cons.2 ⟨fun hm => ?_, h2⟩, fun z hz => ?_⟩
    · obtain ⟨_, j, hj, hj2⟩ := h3 _ hm; have := (Tp.up hx h hk).det hj2; omega
    · rcases List.mem_cons.1 hz with rfl | hz
      · exact ⟨hx, k + 1, Nat.le_refl _, .up hx h hk⟩
      · obtain ⟨e1, j, e2, e3⟩ := h3 z hz; exact ⟨e1, j, by omega, e3⟩
theorem Tp.short {x r k : Nat} (h : Tp t x r k) : k < t.length := by
  obtain ⟨l, h1, h2, h3⟩ := h.list; have := G7 t.length l h2 fun y hy => (h3 y hy).1; omega
theorem Tp.upD {x r k : Nat} (h : Tp t x r k) : ∀ m, k < m → ∃ q, upD t m (x : Int) = some q ∧ (∀ w : Int, w ∈ q ↔ ∃ z : Nat, w = (z : Int) ∧ UpTo (Bf t) x z) ∧
    ∀ p : Int → Bool, (q.find? p = none ∧ ∀ z : Nat, UpTo (Bf t) x z → p (z : Int) = false) ∨ ∃ f : Nat, q.find? p = some (f : Int) ∧ UpTo (Bf t) x f ∧ p (f : Int) = true ∧ ∀ z : Nat, UpTo (Bf t) x z → p (z : Int) = true → UpTo (Bf t) f z := by
  induction h with
  | @top x hx h =>
    intro m hm; obtain ⟨m, rfl⟩ : ∃ i, m = i + 1 := ⟨m - 1, by omega⟩
    have htop : ∀ z, UpTo (Bf t) x z ↔ z = x := fun z => P7 fun p hp => by have : _ = _ := hp.symm.trans h; omega
    unfold Go.Proofs.Ytjpacggpipflcaa.upD; rw [if_pos ⟨by omega, by omega⟩, An, if_pos h]; refine ⟨_, rfl, fun w => ?_, fun p => ?_⟩
    · rw [List.mem_singleton]
      constructor
      · rintro rfl; exact ⟨x, rfl, .refl _⟩
      · rintro ⟨z, rfl, hz⟩; rw [(htop z).1 hz]
    · cases hpp : p (x : Int) with
      | false => exact .inl ⟨by simp [List.find?, hpp], fun z hz => by rw [(htop z).1 hz]; exact hpp⟩
      | true => exact .inr ⟨x, by simp [List.find?, hpp], .refl _, hpp, fun z hz _ => hz⟩
  | @up x y r k hx h hk ih =>
    intro m hm; obtain ⟨m, rfl⟩ : ∃ i, m = i + 1 := ⟨m - 1, by omega⟩; unfold Go.Proofs.Ytjpacggpipflcaa.upD; rw [if_pos ⟨by omega, by omega⟩, An, if_neg (by omega), h]; obtain ⟨q, hq1, hq2, hq3⟩ := ih m (by omega); rw [hq1]; refine ⟨(x : Int) :: q, rfl, fun w => ?_, fun p => ?_⟩
    · rw [List.mem_cons, hq2 w]
      constructor
      · rintro (rfl | ⟨y, rfl, hy⟩)
        · exact ⟨x, rfl, .refl _⟩
        · exact ⟨y, rfl, .up h hy⟩
      · rintro ⟨y, rfl, hy⟩; rcases (anc_up h).1 hy with rfl | hy
        · exact .inl rfl
        · exact .inr ⟨y, rfl, hy⟩
    · cases hpp : p (x : Int) with
      | true => exact .inr ⟨x, by simp [List.find?, hpp], .refl _, hpp, fun y hy _ => hy⟩
      | false =>
        have hf : ((x : Int) :: q).find? p = q.find? p := by simp [List.find?, hpp]
        rw [hf]; rcases hq3 p with ⟨e1, e2⟩ | ⟨f, e1, e2, e3, e4⟩
        · refine .inl ⟨e1, fun y hy => ?_⟩; rcases (anc_up h).1 hy with rfl | hy
          · exact hpp
          · exact e2 y hy
        · refine .inr ⟨f, e1, .up h e2, e3, fun y hy hpy => ?_⟩; rcases (anc_up h).1 hy with rfl | hy
          · rw [hpp] at hpy; cases hpy
          · exact e4 y hy hpy
theorem upD_tp : ∀ m (a : Int) q, upD t m a = some q → ∃ x r k : Nat, a = (x : Int) ∧ k < m ∧ Tp t x r k := by
  intro m
  induction m with
  | zero => intro a q h; cases h
  | succ m ih =>
    intro a q h; unfold Go.Proofs.Ytjpacggpipflcaa.upD at h
    by_cases ha : 0 ≤ a ∧ a < (t.length : Int)
    · rw [if_pos ha] at h; have e : ((a.toNat : Nat) : Int) = a := Int.toNat_of_nonneg ha.1
      by_cases h1 : t.getD a.toNat 0 = -1
      · exact ⟨a.toNat, a.toNat, 0, e.symm, by omega, .top (by omega) h1⟩
      · rw [if_neg h1] at h
        cases hu : Go.Proofs.Ytjpacggpipflcaa.upD t m (t.getD a.toNat 0) with
        | none => rw [hu] at h; cases h
        | some q' =>
          obtain ⟨y, r, k, e1, e2, e3⟩ := ih _ _ hu; exact ⟨a.toNat, r, k + 1, e.symm, by omega, .up (by omega) e1 e3⟩
    · rw [if_neg ha] at h; cases h
theorem pathD_tp {a : Int} : E0 t a ≠ [] ↔ ∃ x r k : Nat, a = (x : Int) ∧ Tp t x r k := by
  constructor
  · intro h
    cases hu : upD t t.length a with
    | none => exact absurd (pathD_nil.2 hu) h
    | some q => obtain ⟨x, r, k, e1, _, e2⟩ := upD_tp _ _ _ hu; exact ⟨x, r, k, e1, e2⟩
  · rintro ⟨x, r, k, rfl, h⟩ e; obtain ⟨q, hq, _⟩ := h.upD t.length h.short; rw [pathD_nil.1 e] at hq; cases hq
theorem Tp.path {x r k : Nat} (h : Tp t x r k) : (∀ w : Int, w ∈ E0 t (x : Int) ↔ ∃ z : Nat, w = (z : Int) ∧ UpTo (Bf t) x z) ∧
    ∀ p : Int → Bool, ((E0 t (x : Int)).find? p = none ∧ ∀ z : Nat, UpTo (Bf t) x z → p (z : Int) = false) ∨ ∃ f : Nat, (E0 t (x : Int)).find? p = some (f : Int) ∧ UpTo (Bf t) x f ∧ p (f : Int) = true ∧ ∀ z : Nat, UpTo (Bf t) x z → p (z : Int) = true → UpTo (Bf t) f z := by
  obtain ⟨q, h1, h2, h3⟩ := h.upD t.length h.short
  have e : E0 t (x : Int) = q := by unfold E0; rw [h1]; rfl
  rw [e]; exact ⟨h2, h3⟩
theorem Sd {α : Type} {l : List α} {i j : Nat} {x d : α} (hi : i < l.length) : (l.set i x).getD j d = if j = i then x else l.getD j d := by
  by_cases h : j = i
  · subst h; simp [List.getD, hi]
  · simp [List.getD, h, Ne.symm h]
theorem meet_L1 {x r k : Nat} (h : Tp t x r k) : ∀ l : List Bool, l.length = t.length → ∃ l', At (C7 t) ((x : Int), l) = some l' ∧ l'.length = t.length ∧ ∀ z, z < t.length → (l'.getD z false = true ↔ l.getD z false = true ∨ UpTo (Bf t) x z) := by
  induction h with
  | @top x hx h =>
    intro l hl
    have hs : C7 t ((x : Int), l) = some (.next (-1, l.set x true)) := by
      unfold C7
      have hb : ((x : Int) != (-1 : Int)) = true := by rw [bne_iff_ne]; omega
      simp only [hb, cond_true, An, h]; rw [Ad (D3 (by omega)), Ad (D3 hx)]
    have hd : C7 t (-1, l.set x true) = some (.done (l.set x true)) := by
      unfold C7
      rfl
    refine ⟨l.set x true, by rw [Bs hs, A7 hd], by simp [hl], fun z hz => ?_⟩; rw [Sd (by omega)]
    have htop : UpTo (Bf t) x z ↔ z = x := P7 fun p hp => by have : _ = _ := hp.symm.trans h; omega
    rw [htop]
    by_cases e : z = x
    · simp [e]
    · simp [e]
  | @up x y r k hx h hk ih =>
    intro l hl
    have hs : C7 t ((x : Int), l) = some (.next ((y : Int), l.set x true)) := by
      unfold C7
      have hb : ((x : Int) != (-1 : Int)) = true := by rw [bne_iff_ne]; omega
      simp only [hb, cond_true, An, h]; rw [Ad (D3 (by omega)), Ad (D3 hx)]
    obtain ⟨l', e1, e2, e3⟩ := ih (l.set x true) (by simp [hl]); refine ⟨l', by rw [Bs hs, e1], e2, fun z hz => ?_⟩; rw [e3 z hz, Sd (by omega), anc_up (par := Bf t) h]
    by_cases e : z = x
    · simp [e]
    · simp [e]
theorem meet_L2 {b r k : Nat} (h : Tp t b r k) (l : List Bool) (hl : l.length = t.length) : l.getD r false = true → ∃ c : Nat, At (C6 t l) (b : Int) = some (c : Int) ∧ UpTo (Bf t) b c ∧ l.getD c false = true ∧ ∀ z, UpTo (Bf t) b z → l.getD z false = true → UpTo (Bf t) c z := by
  induction h with
  | @top x hx h =>
    intro hr
    have hd : C6 t l (x : Int) = some (.done (x : Int)) := by
      unfold C6; rw [Ad (D3 (by omega)), An, hr]
      rfl
    exact ⟨x, A7 hd, .refl _, hr, fun z hz _ => hz⟩
  | @up x y r k hx h hk ih =>
    intro hr
    cases hx2 : l.getD x false with
    | true =>
      have hd : C6 t l (x : Int) = some (.done (x : Int)) := by
        unfold C6; rw [Ad (D3 (by omega)), An, hx2]
        rfl
      exact ⟨x, A7 hd, .refl _, hx2, fun z hz _ => hz⟩
    | false =>
      have hs : C6 t l (x : Int) = some (.next (y : Int)) := by
        unfold C6; rw [Ad (D3 (by omega)), An, hx2, Bool.not_false, cond_true, Ad (D3 hx), h]
      obtain ⟨c, e1, e2, e3, e4⟩ := ih hr; refine ⟨c, by rw [Bs hs, e1], .up h e2, e3, fun z hz hlz => ?_⟩; rcases (anc_up (par := Bf t) h).1 hz with rfl | hz
      · rw [hx2] at hlz; cases hlz
      · exact e4 z hz hlz
theorem Ph (ht : t.length ≤ 1000) {a b r k m : Nat} (ha : Tp t a r k) (hb : Tp t b r m) : ∃ c : Nat, Fk t (a : Int) (b : Int) = some (c : Int) ∧ MeetAt (Bf t) a b c := by
  unfold Fk
  have hroom : (1000 : Nat) ≤ room := by decide
  rw [Ad ⟨by omega, by omega, by omega⟩, An]; obtain ⟨l', h1, h2, h3⟩ := meet_L1 ha (List.replicate t.length false) (by simp); rw [h1, Option.bind_some]
  have h3' : ∀ z, z < t.length → (l'.getD z false = true ↔ UpTo (Bf t) a z) := fun z hz => by rw [h3 z hz, F5]; simp
  obtain ⟨c, e1, e2, e3, e4⟩ := meet_L2 hb l' h2 ((h3' r ha.tops.1).2 ha.upTo)
  have hc : c < t.length := by obtain ⟨j, _, hj, _⟩ := hb.on e2; exact hj.lt
  refine ⟨c, by rw [e1]; rfl, fun w => ⟨fun hw => ⟨((h3' c hc).1 e3).trans hw, e2.trans hw⟩, fun ⟨hw1, hw2⟩ => ?_⟩⟩; obtain ⟨j, _, hj, _⟩ := ha.on hw1; exact e4 w hw2 ((h3' w hj.lt).2 hw1)
theorem meetD_at (hR : Fi t = true) {a b r k m : Nat} (ha : Tp t a r k) (hb : Tp t b r m) : ∃ c : Nat, Jq t (a : Int) (b : Int) = (c : Int) ∧ MeetAt (Bf t) a b c := by
  unfold Jq; rw [if_pos hR]
  have hcon : ∀ z : Nat, (E0 t (b : Int)).contains (z : Int) = true ↔ UpTo (Bf t) b z := fun z => by
    rw [List.contains_iff_mem, hb.path.1]
    constructor
    · rintro ⟨y, e, hy⟩; cases Int.ofNat.inj e; exact hy
    · intro hz; exact ⟨z, rfl, hz⟩
  rcases ha.path.2 (fun x => (E0 t (b : Int)).contains x) with ⟨e1, e2⟩ | ⟨f, e1, e2, e3, e4⟩
  · have := e2 r ha.upTo; rw [(hcon r).2 hb.upTo] at this
    cases this
  · exact ⟨f, by rw [e1]; rfl, fun w => ⟨fun hw => ⟨e2.trans hw, ((hcon f).1 e3).trans hw⟩, fun ⟨hw1, hw2⟩ => e4 w hw1 ((hcon w).2 hw2)⟩⟩
theorem MeetAt.same {a b r k c d : Nat} (ha : Tp t a r k) (hc : MeetAt (Bf t) a b c) (hd : MeetAt (Bf t) a b d) : c = d := by
  obtain ⟨j, _, hj, _⟩ := ha.on ((hc c).1 (.refl _)).1; exact (hj.anti ((hc d).2 ((hd d).1 (.refl _))) ((hd c).2 ((hc c).1 (.refl _)))).symm
end
end
end Go.Proofs.Ytjpacggpipflcaa

namespace Go.Proofs.Ytjpacggpipflcaa
noncomputable section
open Go Go.RowKit
set_option linter.unusedVariables false
set_option linter.unusedSimpArgs false
theorem m_index (t : List Int) (v : Int) (ht : t.length ≤ 1000) : (∃ r : Nat, r < t.length ∧ t.getD r 0 = v ∧ (∀ i, i < r → t.getD i 0 ≠ v) ∧ Ci t v = some (r : Int)) ∨ ((∀ i, i < t.length → t.getD i 0 ≠ v) ∧ Ci t v = some (-1)) := by
  have key : ∀ k i : Nat, i + k = t.length → (∀ j, j < i → t.getD j 0 ≠ v) →
      (∃ r : Nat, r < t.length ∧ t.getD r 0 = v ∧ (∀ i, i < r → t.getD i 0 ≠ v) ∧ At (Bt t v) (i : Int) = some (.inr (r : Int))) ∨ ((∀ i, i < t.length → t.getD i 0 ≠ v) ∧ At (Bt t v) (i : Int) = some (.inl ())) := by
    intro k
    induction k with
    | zero =>
      intro i hi hj
      obtain rfl : i = t.length := by omega
      refine .inr ⟨hj, A7 ?_⟩; unfold Bt; rw [Ee]; rfl
    | succ k ih =>
      intro i hi hj
      by_cases e : v = t.getD i 0
      · refine .inl ⟨i, by omega, e.symm, hj, A7 ?_⟩; unfold Bt; have hb : ((v : Int) == t.getD i 0) = true := beq_iff_eq.2 e; simp only [Cz (show i < t.length by omega), cond_true, An, hb]; rw [Ad (D3 (by omega))]
      · have hs : Bt t v (i : Int) = some (.next ((i + 1 : Nat) : Int)) := by
          unfold Bt; have hb : ((v : Int) == t.getD i 0) = false := beq_eq_false_iff_ne.2 e; simp only [Cz (show i < t.length by omega), cond_true, An, hb, cond_false]; rw [Ad (D3 (by omega)), w1 (by omega)]
        rw [Bs hs]
        exact ih (i + 1) (by omega) fun j hj2 => by
          by_cases ej : j = i
          · subst ej; exact fun h => e h.symm
          · exact hj j (by omega)
  have h0 := key t.length 0 (by omega) (fun j hj => absurd hj (Nat.not_lt_zero _)); unfold Ci; rcases h0 with ⟨r, h1, h2, h3, h4⟩ | ⟨h1, h2⟩
  · exact .inl ⟨r, h1, h2, h3, by rw [show ((0 : Int)) = ((0 : Nat) : Int) from rfl, h4]; rfl⟩
  · exact .inr ⟨h1, by rw [show ((0 : Int)) = ((0 : Nat) : Int) from rfl, h2]; rfl⟩
section
variable {t : List Int}
structure Mt (t : List Int) (r f : Nat) (w : List Int) : Prop where
  len : w.length = t.length
  old : ∀ y, y < t.length → w.getD y 0 ≠ 0 → (w.getD y 0 ≤ (f : Int)) ∧ ∃ k, Tp t y r k
structure Walk (t : List Int) (r f x : Nat) (w : List Int) : Prop where
  len : w.length = t.length
  hx : x < t.length
  old : ∀ y, y < t.length → w.getD y 0 ≠ 0 → w.getD y 0 ≤ (f : Int) ∧ (∃ k, Tp t y r k) ∨ w.getD y 0 = ((f + 1 : Nat) : Int) ∧ ∀ r' k, Tp t x r' k → ∃ j, k < j ∧ Tp t y r' j
  fwd : ∀ r' k, Tp t x r' k → ∃ j, k ≤ j ∧ Tp t f r' j
  back : ∀ r' k, Tp t f r' k → ∃ j, Tp t x r' j
def Tn (w : List Int) : Nat := w.countP fun z => z == 0
theorem zeros_set {w : List Int} {x : Nat} {v : Int} (hx : x < w.length) (h0 : w.getD x 0 = 0) (hv : v ≠ 0) : Tn (w.set x v) < Tn w := by
  unfold Tn; rw [List.countP_set hx]; rw [Ag _ _ _ hx] at h0; have hp : 0 < w.countP fun z => z == 0 := List.countP_pos_iff.2 ⟨w[x], List.getElem_mem hx, by simp [h0]⟩; have hb : (v == 0) = false := beq_eq_false_iff_ne.2 hv; simp only [h0, beq_self_eq_true, if_true, hb, Bool.false_eq_true, if_false]; omega
theorem leads_loop (ht : t.length ≤ 1000) {r : Nat} (hr : r < t.length) (htop : t.getD r 0 = -1) {f : Nat} (hf : f < t.length) : ∀ (m x : Nat) (w : List Int), Tn w ≤ m → Walk t r f x w →
    (∃ w', At (B9 t (f : Int) (r : Int)) ((x : Int), w) = some (.inl w') ∧ Mt t r (f + 1) w' ∧ ∃ k, Tp t f r k) ∨
    ∃ b w', At (B9 t (f : Int) (r : Int)) ((x : Int), w) = some (.inr (b, w')) ∧ w'.length = t.length ∧ (b = true → Mt t r (f + 1) w' ∧ ∃ k, Tp t f r k) ∧ (b = false → ∀ k, ¬ Tp t f r k) := by
  intro m
  induction m with
  | zero =>
    intro x w hz hw; exact go 0 (fun x w hz => absurd hz (Nat.not_lt_zero _)) x w hz hw
  | succ m ih =>
    intro x w hz hw; exact go (m + 1) (fun x w hz => ih x w (Nat.le_of_lt_succ hz)) x w hz hw
where
  go (m : Nat) (ih : ∀ (x : Nat) (w : List Int), Tn w < m → Walk t r f x w →
    (∃ w', At (B9 t (f : Int) (r : Int)) ((x : Int), w) = some (.inl w') ∧ Mt t r (f + 1) w' ∧ ∃ k, Tp t f r k) ∨
    ∃ b w', At (B9 t (f : Int) (r : Int)) ((x : Int), w) = some (.inr (b, w')) ∧ w'.length = t.length ∧ (b = true → Mt t r (f + 1) w' ∧ ∃ k, Tp t f r k) ∧ (b = false → ∀ k, ¬ Tp t f r k)) (x : Nat) (w : List Int) (hz : Tn w ≤ m) (hw : Walk t r f x w) :
    (∃ w', At (B9 t (f : Int) (r : Int)) ((x : Int), w) = some (.inl w') ∧ Mt t r (f + 1) w' ∧ ∃ k, Tp t f r k) ∨
    ∃ b w', At (B9 t (f : Int) (r : Int)) ((x : Int), w) = some (.inr (b, w')) ∧ w'.length = t.length ∧ (b = true → Mt t r (f + 1) w' ∧ ∃ k, Tp t f r k) ∧ (b = false → ∀ k, ¬ Tp t f r k) := by
    have hxl := hw.hx
    have told : ∀ k, Tp t x r k → Mt t r (f + 1) w ∧ ∃ k, Tp t f r k := fun k hk => by
      obtain ⟨j, _, hj⟩ := hw.fwd _ _ hk; refine ⟨⟨hw.len, fun y hy hy0 => ?_⟩, j, hj⟩; rcases hw.old y hy hy0 with ⟨h1, h2⟩ | ⟨h1, h2⟩
      · exact ⟨by omega, h2⟩
      · obtain ⟨i, _, hi⟩ := h2 _ _ hk; exact ⟨by omega, i, hi⟩
    by_cases hxr : x = r
    · subst hxr; refine .inl ⟨w, A7 ?_, told 0 (.top hr htop)⟩; unfold B9
      have hb : ((x : Int) != (x : Int)) = false := by simp
      simp only [hb, cond_false]
    · have hb : ((x : Int) != (r : Int)) = true := by rw [bne_iff_ne]; omega
      have hin : A6 (x : Int) w.length := D3 (by rw [hw.len]; exact hxl)
      by_cases hw0 : w.getD x 0 = 0
      · have hb0 : ((w.getD x 0 : Int) != 0) = false := by rw [hw0]; rfl
        by_cases hpl : 0 ≤ t.getD x 0 ∧ t.getD x 0 < (t.length : Int)
        · have hwf : Bg ((f : Int) + 1) = ((f + 1 : Nat) : Int) := w1 (by omega)
          have hs : B9 t (f : Int) (r : Int) ((x : Int), w) = some (.next (t.getD x 0, w.set x ((f + 1 : Nat) : Int))) := by
            unfold B9 Eo; simp only [hb, cond_true, An, hb0, cond_false]; rw [Ad hin, Ad (D3 hxl), decide_eq_true hpl.1, decide_eq_true hpl.2, cond_true, Option.bind_some, Bool.not_true, cond_false, Ad hin, Ad (D3 hxl), hwf]
          rw [Bs hs]; obtain ⟨y, hy⟩ : ∃ y : Nat, t.getD x 0 = (y : Int) := ⟨(t.getD x 0).toNat, (Int.toNat_of_nonneg hpl.1).symm⟩; rw [hy] at hpl ⊢
          have hyl : y < t.length := by omega
          have hst : ∀ r' k, Tp t y r' k → Tp t x r' (k + 1) := fun r' k hk => .up hxl hy hk
          have hset : ∀ z, z < t.length → (w.set x ((f + 1 : Nat) : Int)).getD z 0 = if z = x then ((f + 1 : Nat) : Int) else w.getD z 0 := fun z _ => Sd (by rw [hw.len]; exact hxl)
          have hW : Walk t r f y (w.set x ((f + 1 : Nat) : Int)) := by
            refine ⟨by simp [hw.len], hyl, fun z hzl hz0 => ?_, fun r' k hk => ?_, fun r' k hk => ?_⟩
            · rw [hset z hzl] at hz0 ⊢
              by_cases e : z = x
              · subst e; rw [if_pos rfl]; exact .inr ⟨rfl, fun r' k hk => ⟨k + 1, by omega, hst r' k hk⟩⟩
              · rw [if_neg e] at hz0 ⊢; rcases hw.old z hzl hz0 with h1 | ⟨h1, h2⟩
                · exact .inl h1
                · refine .inr ⟨h1, fun r' k hk => ?_⟩; obtain ⟨j, hj1, hj2⟩ := h2 _ _ (hst r' k hk); exact ⟨j, by omega, hj2⟩
            · obtain ⟨j, hj1, hj2⟩ := hw.fwd _ _ (hst r' k hk); exact ⟨j, by omega, hj2⟩
            · obtain ⟨j, hj⟩ := hw.back _ _ hk
              cases hj with
              | top _ h2 => omega
              | up _ h2 h3 =>
                have := hy.symm.trans h2
                cases Int.ofNat.inj this
                exact ⟨_, h3⟩
          have hzz := zeros_set (x := x) (v := ((f + 1 : Nat) : Int)) (by rw [hw.len]; exact hxl) hw0 (by omega); exact ih y _ (by omega) hW
        · refine .inr ⟨false, w, A7 ?_, hw.len, ⟨fun h => (by cases h), fun _ k hk => ?_⟩⟩
          · unfold B9 Eo; simp only [hb, cond_true, An, hb0, cond_false]; rw [Ad hin, Ad (D3 hxl)]
            have : (bif decide ((0 : Int) ≤ t.getD x 0) then decide (t.getD x 0 < (t.length : Int)) else false) = false := by
              cases h1 : decide ((0 : Int) ≤ t.getD x 0) with
              | false => rfl
              | true => rw [cond_true]; exact decide_eq_false fun h2 => hpl ⟨of_decide_eq_true h1, h2⟩
            rw [this, Option.bind_some]
            rfl
          · obtain ⟨j, hj⟩ := hw.back _ _ hk
            cases hj with
            | top => exact hxr rfl
            | up _ h2 h3 => have := h3.lt; exact hpl ⟨by omega, by omega⟩
      · have hb0 : ((w.getD x 0 : Int) != 0) = true := by rw [bne_iff_ne]; exact hw0
        have hwf : Bg ((f : Int) + 1) = ((f + 1 : Nat) : Int) := w1 (by omega); refine .inr ⟨w.getD x 0 != ((f + 1 : Nat) : Int), w, A7 ?_, hw.len, ⟨fun h => ?_, fun h k hk => ?_⟩⟩
        · unfold B9; simp only [hb, cond_true, An, hb0]; rw [Ad hin, Ad hin, hwf]
        · rcases hw.old x hxl hw0 with ⟨_, k, hk⟩ | ⟨h1, _⟩
          · exact told k hk
          · rw [h1] at h; simp at h
        · have he : w.getD x 0 = ((f + 1 : Nat) : Int) := by simpa using h
          obtain ⟨j, hj⟩ := hw.back _ _ hk; rcases hw.old x hxl hw0 with ⟨h1, _⟩ | ⟨_, h2⟩
          · omega
          · obtain ⟨i, hi1, hi2⟩ := h2 _ _ hj; have := hj.det hi2; omega
end
end
end Go.Proofs.Ytjpacggpipflcaa

namespace Go.Proofs.Ytjpacggpipflcaa
noncomputable section
open Go Go.RowKit
set_option linter.unusedVariables false
set_option linter.unusedSimpArgs false
section
variable {t : List Int}
theorem m_leads (ht : t.length ≤ 1000) {r : Nat} (hr : r < t.length) (htop : t.getD r 0 = -1) {f : Nat} (hf : f < t.length) {w : List Int} (hw : Mt t r f w) :
    ∃ b w', Hm t w (f : Int) (r : Int) = some (b, w') ∧ w'.length = t.length ∧ (b = true → Mt t r (f + 1) w' ∧ ∃ k, Tp t f r k) ∧ (b = false → ∀ k, ¬ Tp t f r k) := by
  unfold Hm; have hW : Walk t r f f w := ⟨hw.len, hf, fun y hy h0 => .inl (hw.old y hy h0), fun r' k hk => ⟨k, Nat.le_refl _, hk⟩, fun r' k hk => ⟨k, hk⟩⟩; rcases leads_loop ht hr htop hf _ f w (Nat.le_refl _) hW with ⟨w', e1, e2⟩ | ⟨b, w', e1, e2, e3, e4⟩
  · exact ⟨true, w', by rw [e1]; rfl, e2.1.len, fun _ => e2, fun h => by cases h⟩
  · exact ⟨b, w', by rw [e1]; rfl, e2, e3, e4⟩
def T3 (t : List Int) (r : Nat) : Prop := ∀ f, f < t.length → t.getD f 0 ≠ -2 → ∃ k, Tp t f r k
open Classical in
theorem Vx (ht : t.length ≤ 1000) {r : Nat} (hr : r < t.length) (htop : t.getD r 0 = -1) : ∀ (k f : Nat) (w : List Int), f + k = t.length → Mt t r f w → (∀ y, y < f → t.getD y 0 ≠ -2 → ∃ k, Tp t y r k) →
    At (C8 t (r : Int)) ((f : Int), w) = some (if T3 t r then .inl () else .inr false) := by
  intro k
  induction k with
  | zero =>
    intro f w hk hw hd
    obtain rfl : f = t.length := by omega
    apply A7
    unfold C8; simp only [Ee, cond_false]; rw [if_pos (show T3 t r from hd)]
  | succ k ih =>
    intro f w hk hw hd
    have hf : f < t.length := by omega
    by_cases h2 : t.getD f 0 = -2
    · have hb : ((t.getD f 0 : Int) != (-2)) = false := by rw [h2]; rfl
      have hs : C8 t (r : Int) ((f : Int), w) = some (.next (((f + 1 : Nat) : Int), w)) := by
        unfold C8; simp only [Cz hf, cond_true, An, hb, show (false == true) = false from rfl, cond_false, Option.bind_some]; rw [Ad (D3 hf), Ad (fun h => by cases h), w1 (by omega)]
      rw [Bs hs]; refine ih (f + 1) w (by omega) ⟨hw.len, fun y hy h0 => ?_⟩ fun y hy hy2 => ?_
      · obtain ⟨e1, e2⟩ := hw.old y hy h0; exact ⟨by omega, e2⟩
      · by_cases e : y = f
        · subst e; exact absurd h2 hy2
        · exact hd y (by omega) hy2
    · have hb : ((t.getD f 0 : Int) != (-2)) = true := by rw [bne_iff_ne]; exact h2
      obtain ⟨b, w', e1, e2, e3, e4⟩ := m_leads ht hr htop hf hw
      cases b with
      | false =>
        rw [if_neg (fun hA : T3 t r => by obtain ⟨k, hk⟩ := hA f hf h2; exact e4 rfl k hk)]
        apply A7
        unfold C8; simp only [Cz hf, cond_true, An, hb, show (true == true) = true from rfl, e1, Option.bind_some]; rw [Ad (D3 hf), Ad (fun _ => by rw [hw.len, e2])]
        rfl
      | true =>
        have hs : C8 t (r : Int) ((f : Int), w) = some (.next (((f + 1 : Nat) : Int), w')) := by
          unfold C8; simp only [Cz hf, cond_true, An, hb, show (true == true) = true from rfl, e1, Option.bind_some]; rw [Ad (D3 hf), Ad (fun _ => by rw [hw.len, e2]), w1 (by omega)]
          rfl
        rw [Bs hs]; obtain ⟨e5, e6⟩ := e3 rfl; refine ih (f + 1) w' (by omega) e5 fun y hy hy2 => ?_
        by_cases e : y = f
        · subst e; exact e6
        · exact hd y (by omega) hy2
theorem tops_one : Of t t.length = 1 ↔ ∃ r, r < t.length ∧ t.getD r 0 = -1 ∧ ∀ x, x < t.length → t.getD x 0 = -1 → x = r := by
  have key : ∀ n, (Of t n = 0 ↔ ∀ x, x < n → t.getD x 0 ≠ -1) ∧ (Of t n = 1 ↔ ∃ r, r < n ∧ t.getD r 0 = -1 ∧ ∀ x, x < n → t.getD x 0 = -1 → x = r) := by
    intro n
    induction n with
    | zero => exact ⟨⟨fun _ x hx => absurd hx (Nat.not_lt_zero _), fun _ => rfl⟩, ⟨fun h => by simp [Of] at h, fun ⟨r, h, _⟩ => absurd h (Nat.not_lt_zero _)⟩⟩
    | succ n ih =>
      rw [R9]
      by_cases e : t.getD n 0 = -1
      · rw [if_pos e]; refine ⟨⟨fun h => by omega, fun h => absurd e (h n (by omega))⟩, ⟨fun h => ⟨n, by omega, e, fun x hx hx1 => ?_⟩, fun ⟨r, h1, h2, h3⟩ => ?_⟩⟩
        · by_cases ex : x = n
          · exact ex
          · exact absurd hx1 (ih.1.1 (by omega) x (by omega))
        · have := ih.1.2 fun x hx hx1 => by
            have := h3 x (by omega) hx1; have := h3 n (by omega) e; omega
          omega
      · rw [if_neg e, Nat.add_zero]; refine ⟨⟨fun h x hx => ?_, fun h => ih.1.2 fun x hx => h x (by omega)⟩, ⟨fun h => ?_, fun ⟨r, h1, h2, h3⟩ => ?_⟩⟩
        · by_cases ex : x = n
          · subst ex; exact e
          · exact ih.1.1 h x (by omega)
        · obtain ⟨r, h1, h2, h3⟩ := ih.2.1 h; refine ⟨r, by omega, h2, fun x hx hx1 => ?_⟩
          by_cases ex : x = n
          · subst ex; exact absurd hx1 e
          · exact h3 x (by omega) hx1
        · refine ih.2.2 ⟨r, ?_, h2, fun x hx hx1 => h3 x (by omega) hx1⟩
          by_cases ex : r = n
          · subst ex; exact absurd h2 e
          · omega
  exact (key _).2
theorem rightD_iff : Fi t = true ↔ ∃ r, r < t.length ∧ t.getD r 0 = -1 ∧ T3 t r := by
  unfold Fi; rw [Bool.and_eq_true, all_range, decide_eq_true_eq, tops_one]
  constructor
  · rintro ⟨h1, r, h2, h3, h4⟩; refine ⟨r, h2, h3, fun f hf hf2 => ?_⟩; have := h1 f hf; unfold okR at this; rw [Bool.or_eq_true, decide_eq_true_eq, Bool.not_eq_true', decide_eq_false_iff_not] at this; rcases this with h | h
    · exact absurd h hf2
    · obtain ⟨x, r', k, e, hk⟩ := pathD_tp.1 h
      cases Int.ofNat.inj e
      have := h4 _ hk.tops.1 hk.tops.2; subst this; exact ⟨k, hk⟩
  · rintro ⟨r, h2, h3, h4⟩; refine ⟨fun f hf => ?_, r, h2, h3, fun x hx hx1 => ?_⟩
    · unfold okR; rw [Bool.or_eq_true, decide_eq_true_eq, Bool.not_eq_true', decide_eq_false_iff_not]
      by_cases e : t.getD f 0 = -2
      · exact .inl e
      · obtain ⟨k, hk⟩ := h4 f hf e; exact .inr (pathD_tp.2 ⟨f, r, k, rfl, hk⟩)
    · obtain ⟨k, hk⟩ := h4 x hx (by omega); exact ((hk.det (.top hx hx1)).1).symm
theorem T0 (hR : Fi t = true) : ∃ r, T3 t r := by obtain ⟨r, _, _, h⟩ := rightD_iff.1 hR; exact ⟨r, h⟩
theorem m_isTree (ht : t.length ≤ 1000) : Gm t = some (Fi t) := by
  unfold Gm
  have hroom : (1000 : Nat) ≤ room := by decide
  rcases m_index t (-1) ht with ⟨r, h1, h2, h3, h4⟩ | ⟨h1, h2⟩
  · rw [h4, Option.bind_some, show decide ((r : Int) < 0) = false from decide_eq_false (by omega), cond_false, Ad ⟨by omega, by omega, by omega⟩, An]; have hl := Vx ht h1 h2 t.length 0 (List.replicate t.length 0) (by omega) ⟨by simp, fun y hy h0 => absurd F5 h0⟩ (fun y hy => absurd hy (Nat.not_lt_zero _)); rw [show (((0 : Nat) : Int)) = 0 from rfl] at hl; rw [hl, Option.bind_some]
    by_cases hA : T3 t r
    · rw [if_pos hA, rightD_iff.2 ⟨r, h1, h2, hA⟩]
    · rw [if_neg hA]
      have : Fi t = false := Bool.eq_false_iff.2 fun hR => by
        obtain ⟨r', g1, g2, g3⟩ := rightD_iff.1 hR; obtain ⟨k, hk⟩ := g3 r h1 (by omega); have := (hk.det (.top h1 h2)).1; subst this; exact hA g3
      rw [this]
  · rw [h2, Option.bind_some]
    have : Fi t = false := Bool.eq_false_iff.2 fun hR => by
      obtain ⟨r', g1, g2, g3⟩ := rightD_iff.1 hR; exact h1 r' g1 g2
    rw [this]
    rfl
def M9 (t : List Int) (a : Int) : Bool := decide (0 ≤ a) && decide (a < (t.length : Int)) && decide (t.getD a.toNat 0 ≠ -2)
theorem Ry (hR : Fi t = true) {a : Int} : M9 t a = true ↔ ∃ x k r : Nat, a = (x : Int) ∧ Tp t x r k := by
  unfold M9; rw [Bool.and_eq_true, Bool.and_eq_true, decide_eq_true_eq, decide_eq_true_eq, decide_eq_true_eq]
  constructor
  · rintro ⟨⟨h1, h2⟩, h3⟩; obtain ⟨r, hA⟩ := T0 hR; obtain ⟨k, hk⟩ := hA a.toNat (by omega) h3; exact ⟨a.toNat, k, r, (Int.toNat_of_nonneg h1).symm, hk⟩
  · rintro ⟨x, k, r, rfl, h⟩; have := h.lt; refine ⟨⟨by omega, by omega⟩, ?_⟩; rw [An]
    cases h with
    | top _ h2 => omega
    | up _ h2 _ => omega
theorem Rk (a : Int) : Ex t a = some (M9 t a) := by
  unfold Ex Eo M9; rw [Option.bind_some]
  cases h1 : decide ((0 : Int) ≤ a) with
  | false => rfl
  | true =>
    rw [cond_true, Bool.true_and]
    cases h2 : decide (a < (t.length : Int)) with
    | false => rfl
    | true =>
      rw [Ad (fun _ => ⟨of_decide_eq_true h1, of_decide_eq_true h2⟩), cond_true, Bool.true_and]
      congr 1
      rw [Bool.eq_iff_iff, bne_iff_ne, decide_eq_true_eq]
theorem m_areIn (ht : t.length ≤ 1000) (a b : Int) : Hi t a b = some (Fi t && M9 t a && M9 t b) := by
  unfold Hi; rw [m_isTree ht, Option.bind_some]
  cases Fi t with
  | false => rfl
  | true =>
    simp only [show (true == true) = true from rfl, cond_true, Rk, Option.bind_some, Bool.true_and]
    cases M9 t a with
    | false => rfl
    | true => simp only [show (true == true) = true from rfl, cond_true, Rk, Option.bind_some, Bool.true_and]
theorem meetD_out {a b : Int} (h : (Fi t && M9 t a && M9 t b) = false) : Jq t a b = -2 := by
  unfold Jq
  by_cases hR : Fi t = true
  · rw [if_pos hR]; rw [hR, Bool.true_and] at h
    have hno : ∀ c, M9 t c = false → E0 t c = [] := fun c hc => by
      by_cases e : E0 t c = []
      · exact e
      · obtain ⟨x, r, k, e1, e2⟩ := pathD_tp.1 e; rw [(Ry hR).2 ⟨x, k, r, e1, e2⟩] at hc; cases hc
    cases ha : M9 t a with
    | false => rw [hno a ha]; rfl
    | true =>
      rw [ha, Bool.true_and] at h; rw [hno b h]
      have : ((E0 t a).find? fun x => ([] : List Int).contains x) = none := List.find?_eq_none.2 fun x _ => by simp
      rw [this]
      rfl
  · rw [if_neg hR]
theorem S0 (ht : t.length ≤ 1000) {a b : Int} (h : (Fi t && M9 t a && M9 t b) = true) : Fk t a b = some (Jq t a b) ∧ 0 ≤ Jq t a b := by
  rw [Bool.and_eq_true, Bool.and_eq_true] at h; obtain ⟨⟨hR, ha⟩, hb⟩ := h; obtain ⟨x, k, r, rfl, hx⟩ := (Ry hR).1 ha; obtain ⟨y, m, r', rfl, hy⟩ := (Ry hR).1 hb; obtain ⟨rr, hA⟩ := T0 hR
  have top : ∀ {x r k}, Tp t x r k → r = rr := fun {x r k} h => by
    obtain ⟨i, hi⟩ := hA r h.tops.1 (by rw [h.tops.2]; omega); exact ((Tp.top h.tops.1 h.tops.2).det hi).1
  obtain rfl := top hx; obtain rfl := top hy; obtain ⟨c, h1, h2⟩ := Ph ht hx hy; obtain ⟨d, h3, h4⟩ := meetD_at hR hx hy; have := h2.same hx h4; subst this; exact ⟨by rw [h1, h3], by omega⟩
theorem m_Over (ht : t.length ≤ 1000) (a b : Int) : Gz t a b = some (Tv t a b) := by
  unfold Gz Tv; rw [m_areIn ht, Option.bind_some]
  cases h : (Fi t && M9 t a && M9 t b) with
  | false =>
    rw [meetD_out h]
    have : ((-2 : Int) == a && ((-2 : Int) != -2)) = false := by simp
    rw [this]
    rfl
  | true =>
    obtain ⟨h1, h2⟩ := S0 ht h; simp only [show (true == true) = true from rfl, cond_true, h1, Option.bind_some]
    have : (Jq t a b != -2) = true := by rw [bne_iff_ne]; omega
    rw [this, Bool.and_true]
end
end
end Go.Proofs.Ytjpacggpipflcaa

namespace Go.Proofs.Ytjpacggpipflcaa
noncomputable section
open Go Go.RowKit
set_option linter.unusedVariables false
set_option linter.unusedSimpArgs false
theorem mul_fin : ∀ n : Fin 65, G4 (Fd 1) (Fd ((n.val : Nat) : Int)) = some (0, ((n.val : Nat) : Int)) := by decide +kernel
theorem mul_small {n : Nat} (h : n ≤ 64) : G4 (Fd 1) (Fd (n : Int)) = some (0, (n : Int)) := mul_fin ⟨n, by omega⟩
theorem Wo {v : Int} {n : Nat} (hn : n ≤ 64) : ∀ (m i : Nat) (l : List Int), n - i ≤ m → 1 ≤ i → i ≤ n → l.length = n → (∀ j, j < i → l.getD j 0 = v) → At Bw ((i : Int), l) = some (List.replicate n v) := by
  intro m
  induction m with
  | zero =>
    intro i l hm h1 h2 hl hv
    obtain rfl : i = n := by omega
    exact fin l hl hv
  | succ m ih =>
    intro i l hm h1 h2 hl hv
    by_cases e : i = n
    · subst e; exact fin l hl hv
    · have hs : Bw ((i : Int), l) = some (.next (((i + Nat.min i (n - i) : Nat) : Int), cpL l i (Nat.min i (n - i)) (fun j => l.getD (0 + j) 0))) := by
        unfold Bw; simp only [hl, Cz (show i < n by omega), cond_true, An, Nat.zero_add, Nat.sub_zero]; have hc : (0 : Int) ≤ (i : Int) ∧ i ≤ n := ⟨by omega, h2⟩; have hmn : Nat.min i (n - i) ≤ i := Nat.min_le_left _ _; rw [Ad hc, Ad hc, Lx (by omega) (by omega), Int.natCast_add]
      rw [Bs hs]; have hmn : Nat.min i (n - i) ≤ i ∧ Nat.min i (n - i) ≤ n - i := ⟨Nat.min_le_left _ _, Nat.min_le_right _ _⟩; have hge : 1 ≤ Nat.min i (n - i) := Nat.le_min.2 ⟨h1, by omega⟩; refine ih _ _ (by omega) (by omega) (by omega) (by rw [← Ga]; exact hl) fun j hj => ?_; rw [Sf _ _ _ _ _ _ (by omega)]
      by_cases hji : i ≤ j ∧ j < i + Nat.min i (n - i)
      · rw [if_pos hji, Nat.zero_add]; exact hv _ (by omega)
      · rw [if_neg hji]; exact hv _ (by omega)
where
  fin {v : Int} {i : Nat} (l : List Int) (hl : l.length = i) (hv : ∀ j, j < i → l.getD j 0 = v) : At Bw ((i : Int), l) = some (List.replicate i v) := by
    apply A7
    unfold Bw; simp only [hl, Ee, cond_false]
    congr 2
    refine List.ext_getElem (by simp [hl]) fun j h1 h2 => ?_; rw [← Ag _ _ 0 h1, hv j (by omega)]
    simp
theorem m_repeat {v : Int} {n : Nat} (h1 : 1 ≤ n) (hn : n ≤ 64) : Da [v] (n : Int) = some (List.replicate n v) := by
  have hroom : (64 : Nat) ≤ room := by decide
  unfold Da; rw [show decide ((n : Int) < 0) = false from decide_eq_false (by omega), cond_false, Option.bind_some]
  show Option.bind (G4 (Fd 1) (Fd (n : Int))) _ = _
  rw [mul_small hn, Option.bind_some]; have e1 : decide ((0 : Int) < (0 : Int)) = false := rfl; have e2 : decide ((9223372036854775807 : Int) < (n : Int)) = false := decide_eq_false (by omega); simp only [e1, e2, cond_false, Option.bind_some]; have ew : Bg (n : Int) = (n : Int) := Lx (by omega) (by omega); rw [ew, Ad ⟨by omega, by omega, by omega⟩, An, List.length_replicate, Nat.sub_zero]; have em : Nat.min [v].length n = 1 := Nat.min_eq_left h1; rw [em, Wo hn n 1 _ (by omega) (Nat.le_refl _) h1 (by rw [← Ga]; simp) (fun j hj => ?_)]
  · rfl
  · rw [Sf _ _ _ _ _ _ (by simp; omega), if_pos ⟨by omega, by omega⟩]
    have : j - 0 = 0 := by omega
    rw [this]; rfl
theorem meet_v2 (t : List Int) (a b : Int) : F1 t a b = (Fk t a b).map fun c => (c, t) := by
  have e1 : G5 t = C7 t := rfl; have e2 : G6 t = C6 t := rfl; unfold F1 Fk; rw [e1, e2]
  by_cases hc : 0 ≤ (t.length : Int) ∧ (t.length : Int) ≤ (t.length : Int) ∧ (t.length : Int) ≤ (room : Int)
  · rw [Ad hc, Ad hc]
    cases At (C7 t) (a, List.replicate ((t.length : Int)).toNat false) with
    | none => rfl
    | some x =>
      rw [Option.bind_some, Option.bind_some]
      cases At (C6 t x) b with
      | none => rfl
      | some y => rfl
  · have hf : ∀ {R : Type} (k : Option R), Cj (0 ≤ (t.length : Int) ∧ (t.length : Int) ≤ (t.length : Int) ∧ (t.length : Int) ≤ (room : Int)) k = none := fun k => if_neg hc; rw [hf, hf]
    rfl
section
variable {S : Nat → List Nat} {r n : Nat} {P : List Nat}
theorem Inv.tp {at_ : Nat → Nat} {t : List Int} (h : Inv S r n at_ (Bf t)) (hl : t.length = n) : ∀ m x, at_ x ≤ m → x < n → Bf t x ≠ -2 → ∃ k, Tp t x r k := by
  intro m
  induction m with
  | zero =>
    intro x hm hx hp; rcases h.kind x hx with h1 | h1 | ⟨z, hz⟩
    · exact absurd h1 hp
    · subst h1; exact ⟨0, .top (by omega) h.top⟩
    · obtain ⟨_, _, h3, _⟩ := h.up x hx z hz; omega
  | succ m ih =>
    intro x hm hx hp; rcases h.kind x hx with h1 | h1 | ⟨z, hz⟩
    · exact absurd h1 hp
    · subst h1; exact ⟨0, .top (by omega) h.top⟩
    · obtain ⟨z1, z2, z3, _⟩ := h.up x hx z hz; obtain ⟨k, hk⟩ := ih z (by omega) z1 z2; exact ⟨k + 1, .up (by omega) hz hk⟩
def Nz (t l : List Int) (i : Nat) (v : Int) : Prop :=
  (v = -2 ∧ ∀ j, j < i → Bf t (l.getD j 0).toNat = -2) ∨
  ∃ z : Nat, v = (z : Int) ∧ z < t.length ∧ Bf t z ≠ -2 ∧ (∀ w, UpTo (Bf t) z w ↔ ∀ j, j < i → Bf t (l.getD j 0).toNat ≠ -2 → UpTo (Bf t) (l.getD j 0).toNat w)
theorem Uy {at_ : Nat → Nat} {t l : List Int} (ht : t.length ≤ 64) (hll : l.length ≤ 64) (h : Inv S r n at_ (Bf t)) (hl : t.length = n) (hin : ∀ x ∈ l, 0 ≤ x ∧ x < (n : Int)) : ∀ (k i : Nat) (v : Int), i + k = l.length → Nz t l i v →
    ∃ v', At (B7 l) (v, (i : Int), t) = some (v', t) ∧ Nz t l l.length v' := by
  intro k
  induction k with
  | zero =>
    intro i v hi hv
    obtain rfl : i = l.length := by omega
    refine ⟨v, A7 ?_, hv⟩; unfold B7; simp only [Ee, cond_false]
  | succ k ih =>
    intro i v hi hv
    have hil : i < l.length := by omega
    obtain ⟨x0, x1⟩ := hin _ (Eb (d := 0) hil); have hxe : (((l.getD i 0).toNat : Nat) : Int) = l.getD i 0 := Int.toNat_of_nonneg x0; have hxin : A6 (l.getD i 0) t.length := inbz x0 (by omega)
    have next : ∀ v', B7 l (v, (i : Int), t) = some (.next (v', ((i + 1 : Nat) : Int), t)) → Nz t l (i + 1) v' → ∃ v', At (B7 l) (v, (i : Int), t) = some (v', t) ∧ Nz t l l.length v' := fun v' hs hv' => by
      rw [Bs hs]; exact ih (i + 1) v' (by omega) hv'
    by_cases hp : Bf t (l.getD i 0).toNat = -2
    · have hb : ((t.getD (l.getD i 0).toNat 0 : Int) == -2) = true := beq_iff_eq.2 hp; refine next v ?_ ?_
      · unfold B7; simp only [Cz hil, cond_true, An, hb]; rw [Ad (D3 hil), Ad hxin, Option.bind_some, w1 (by omega)]
      · have hstep : ∀ w, (∀ j, j < i → Bf t (l.getD j 0).toNat ≠ -2 → UpTo (Bf t) (l.getD j 0).toNat w) ↔ ∀ j, j < i + 1 → Bf t (l.getD j 0).toNat ≠ -2 → UpTo (Bf t) (l.getD j 0).toNat w := fun w => by
          refine ⟨fun hj j hj1 hj2 => ?_, fun hj j hj1 => hj j (by omega)⟩
          by_cases e : j = i
          · subst e; exact absurd hp hj2
          · exact hj j (by omega) hj2
        rcases hv with ⟨h1, h2⟩ | ⟨z, h1, h2, h3, h4⟩
        · refine .inl ⟨h1, fun j hj => ?_⟩
          by_cases e : j = i
          · subst e; exact hp
          · exact h2 j (by omega)
        · exact .inr ⟨z, h1, h2, h3, fun w => by rw [h4 w, hstep w]⟩
    · have hb : ((t.getD (l.getD i 0).toNat 0 : Int) == -2) = false := beq_eq_false_iff_ne.2 hp; rcases hv with ⟨h1, h2⟩ | ⟨z, h1, h2, h3, h4⟩
      · subst h1; refine next (l.getD i 0) ?_ (.inr ⟨(l.getD i 0).toNat, hxe.symm, by omega, hp, fun w => ⟨fun hw j hj hj2 => ?_, fun hw => hw i (by omega) hp⟩⟩)
        · unfold B7; simp only [Cz hil, cond_true, An, hb, cond_false, show ((-2 : Int) == -2) = true from rfl]; rw [Ad (D3 hil), Ad hxin, Option.bind_some, w1 (by omega)]
        · by_cases e : j = i
          · subst e; exact hw
          · exact absurd (h2 j (by omega)) hj2
      · subst h1; have hb2 : ((z : Int) == -2) = false := beq_eq_false_iff_ne.2 (by omega); obtain ⟨k1, hk1⟩ := h.tp hl _ z (Nat.le_refl _) (by omega) h3; obtain ⟨k2, hk2⟩ := h.tp hl _ (l.getD i 0).toNat (Nat.le_refl _) (by omega) hp; obtain ⟨c, c1, c2⟩ := Ph (by omega) hk1 hk2; have hcz := (c2 c).1 (.refl _); obtain ⟨jc, _, hjc, _⟩ := hk1.on hcz.1
        have hcp : Bf t c ≠ -2 := by
          show t.getD c 0 ≠ -2
          cases hjc with
          | top _ h => omega
          | up _ h _ => omega
        refine next (c : Int) ?_ (.inr ⟨c, rfl, hjc.lt, hcp, fun w => ?_⟩)
        · rw [hxe] at c1; unfold B7; simp only [Cz hil, cond_true, An, hb, cond_false, hb2, meet_v2, c1, Option.map_some, Option.bind_some]; rw [Ad (D3 hil), Ad hxin, Ad trivial, Option.bind_some, w1 (by omega)]
        · rw [c2 w, h4 w]; refine ⟨fun ⟨a1, a2⟩ j hj hj2 => ?_, fun ha => ⟨fun j hj => ha j (by omega), ha i (by omega) hp⟩⟩
          by_cases e : j = i
          · subst e; exact a2
          · exact a1 j (by omega) hj2
theorem m_meetAll {at_ : Nat → Nat} {t l : List Int} (ht : t.length ≤ 64) (hll : l.length ≤ 64) (h : Inv S r n at_ (Bf t)) (hl : t.length = n) (hin : ∀ x ∈ l, 0 ≤ x ∧ x < (n : Int)) :
    ∃ v, Ds t l = some (v, t) ∧ Nz t l l.length v := by
  obtain ⟨v, h1, h2⟩ := Uy ht hll h hl hin l.length 0 (-2) (by omega) (.inl ⟨rfl, fun j hj => absurd hj (Nat.not_lt_zero _)⟩); refine ⟨v, ?_, h2⟩; unfold Ds; rw [show ((0 : Int)) = ((0 : Nat) : Int) from rfl, h1]
  rfl
end
section
variable {L : List (List Int)} (hm : Eu L = true) {r : Nat} {P : List Nat}
include hm
theorem sN_iff {p y : Nat} (hp : p < L.length) : y ∈ sN L p ↔ Mx L p y = true := by
  rw [N2]; obtain ⟨_, _, h3⟩ := mayS_iff.1 hm
  constructor
  · intro h; obtain ⟨x, hx, rfl⟩ := List.mem_map.1 h; have := Hw (h3 p hp) hx; rw [Int.toNat_of_nonneg this.1]; exact hx
  · intro h; exact List.mem_map.2 ⟨_, h, An y⟩
theorem Lq {y : Nat} (hy : y < L.length) {x : Int} : x ∈ (Dz L).getD y [] ↔ ∃ p : Nat, x = (p : Int) ∧ p < L.length ∧ y ∈ sN L p := by
  rw [O0 hy]; unfold En; rw [K2]
  constructor
  · rintro ⟨k, h1, h2, h3⟩; exact ⟨k, h1, h2, (sN_iff hm h2).2 h3⟩
  · rintro ⟨k, h1, h2, h3⟩; exact ⟨k, h1, h2, (sN_iff hm h2).1 h3⟩
theorem Ut (o : Ordered (sN L) r L.length P) {t : List Int} {i : Nat} (h : Ready (sN L) r L.length P t i) (hi : i < P.length) :
    Ds t ((Dz L).getD (P.getD i 0) []) = some ((F8 (sN L) L.length t (P.getD i 0) : Int), t) := by
  obtain ⟨hL1, hL64, _⟩ := mayS_iff.1 hm; have hyn : P.getD i 0 < L.length := o.lt (List.mem_cons_of_mem _ (H3 hi))
  have hlen : ((Dz L).getD (P.getD i 0) []).length ≤ 64 := by
    rw [O0 hyn]; have := Kg L L.length (P.getD i 0); omega
  obtain ⟨v, h1, h2⟩ := m_meetAll (by rw [h.len]; exact hL64) hlen h.inv h.len fun x hx => by
    obtain ⟨p, rfl, hp, _⟩ := (Lq hm hyn).1 hx; omega
  rw [h1]; have hb := h.best o hi
  have mem : ∀ p, p < L.length → P.getD i 0 ∈ sN L p → ∃ j, j < ((Dz L).getD (P.getD i 0) []).length ∧ (((Dz L).getD (P.getD i 0) []).getD j 0).toNat = p := fun p hp hy => by
    obtain ⟨j, hj, e⟩ := List.getElem_of_mem ((Lq hm hyn).2 ⟨p, rfl, hp, hy⟩); exact ⟨j, hj, by rw [Ag _ _ _ hj, e, An]⟩
  have mem' : ∀ j, j < ((Dz L).getD (P.getD i 0) []).length → (((Dz L).getD (P.getD i 0) []).getD j 0).toNat < L.length ∧ P.getD i 0 ∈ sN L (((Dz L).getD (P.getD i 0) []).getD j 0).toNat := fun j hj => by
    obtain ⟨p, e, hp, hy⟩ := (Lq hm hyn).1 (Eb (d := (0 : Int)) hj); rw [e, An]; exact ⟨hp, hy⟩
  rcases h2 with ⟨rfl, h3⟩ | ⟨z, rfl, hz, hz2, h4⟩
  · obtain ⟨p, hp, hyp, hp2, _⟩ := hb.fwd; obtain ⟨j, hj, e⟩ := mem p hp hyp; exact absurd (by rw [← e]; exact h3 j hj) hp2
  · have hbest : Zf (sN L) L.length (Bf t) (P.getD i 0) z := fun w => by
      rw [h4 w]; refine ⟨fun ha p hp hyp hp2 => ?_, fun ha j hj hj2 => ?_⟩
      · obtain ⟨j, hj, e⟩ := mem p hp hyp; have := ha j hj (by rw [e]; exact hp2); rwa [e] at this
      · obtain ⟨q1, q2⟩ := mem' j hj; exact ha _ q1 q2 hj2
    rw [h.best_eq o hi (by rw [← h.len]; exact hz) hz2 hbest]
end
end
end Go.Proofs.Ytjpacggpipflcaa

namespace Go.Proofs.Ytjpacggpipflcaa
noncomputable section
open Go Go.RowKit
set_option linter.unusedVariables false
set_option linter.unusedSimpArgs false
theorem Wg {P : List Nat} {i : Nat} (h : i < P.length) : (Ft P).getD i 0 = ((P.getD i 0 : Nat) : Int) := by
  unfold Ft; rw [Ag _ _ _ (by simpa using h), Ag _ _ _ h, List.getElem_map]
  rfl
theorem Vt {t : List Int} {x : Nat} {v : Int} (hx : x < t.length) (h : t.getD x 0 = v) : t.set x v = t := by
  subst h; rw [Ag _ _ _ hx]; exact List.set_getElem_self hx
section
variable {L : List (List Int)} (hm : Eu L = true) {r : Nat} {P : List Nat} (o : Ordered (sN L) r L.length P)
include hm o
theorem Y2 {t0 : List Int} (h : Ready (sN L) r L.length P t0 0) : ∀ (k i : Nat) (b : Bool), i + k = P.length →
    ∃ b', At (Cu (I4 L) (Ft (r :: P))) (b, (i : Int), Kr (sN L) L.length P t0 i) = some (b', Kr (sN L) L.length P t0 P.length) ∧
      (b' = false ↔ b = false ∧ ∀ j, i ≤ j → j < P.length → Bf (Kr (sN L) L.length P t0 j) (P.getD j 0) = (F8 (sN L) L.length (Kr (sN L) L.length P t0 j) (P.getD j 0) : Int)) := by
  have hP64 : P.length ≤ 64 := by
    have h1 := G7 L.length (r :: P) o.nodup fun x hx => o.lt hx; have h2 := (mayS_iff.1 hm).2.1; simp at h1; omega
  have hdl : (Ft (r :: P)).drop (1 : Int).toNat = Ft P := rfl
  have hlen : (Ft P).length = P.length := by simp [Ft]
  intro k
  induction k with
  | zero =>
    intro i b hi
    obtain rfl : i = P.length := by omega
    refine ⟨b, A7 ?_, fun h => ⟨h, fun j h1 h2 => by omega⟩, fun h => h.1⟩; unfold Cu; simp only [hdl, hlen, Ee, cond_false]
  | succ k ih =>
    intro i b hi
    have hil : i < P.length := by omega
    have rd := h.round o i (by omega); have hma := Ut hm o rd hil; have hyn : P.getD i 0 < L.length := o.lt (List.mem_cons_of_mem _ (H3 hil))
    have hyt : P.getD i 0 < (Kr (sN L) L.length P t0 i).length := by rw [rd.len]; exact hyn
    have hpred : (I4 L).Pred = Dz L := rfl
    by_cases he : Bf (Kr (sN L) L.length P t0 i) (P.getD i 0) = (F8 (sN L) L.length (Kr (sN L) L.length P t0 i) (P.getD i 0) : Int)
    · have hb : ((F8 (sN L) L.length (Kr (sN L) L.length P t0 i) (P.getD i 0) : Int) != (Kr (sN L) L.length P t0 i).getD (P.getD i 0) 0) = false := by
        have : (Kr (sN L) L.length P t0 i).getD (P.getD i 0) 0 = _ := he; rw [this]; simp
      have hnx : Kr (sN L) L.length P t0 (i + 1) = Kr (sN L) L.length P t0 i := Vt hyt he
      have hs : Cu (I4 L) (Ft (r :: P)) (b, (i : Int), Kr (sN L) L.length P t0 i) = some (.next (b, ((i + 1 : Nat) : Int), Kr (sN L) L.length P t0 (i + 1))) := by
        unfold Cu; simp only [hdl, hlen, Cz hil, cond_true, An, Wg hil, hpred, hma, Option.bind_some, hb, cond_false]; rw [Ad (D3 hil), Ad (D3 (by rw [J6]; exact hyn)), Ad trivial, Ad (D3 hyt), Option.bind_some, w1 (by omega), hnx]
      obtain ⟨b', e1, e2⟩ := ih (i + 1) b (by omega); refine ⟨b', by rw [Bs hs, e1], fun h => ?_, fun ⟨h1, h2⟩ => e2.2 ⟨h1, fun j hj => h2 j (by omega)⟩⟩; obtain ⟨h1, h2⟩ := e2.1 h; refine ⟨h1, fun j hj1 hj2 => ?_⟩
      by_cases e : j = i
      · subst e; exact he
      · exact h2 j (by omega) hj2
    · have hb : ((F8 (sN L) L.length (Kr (sN L) L.length P t0 i) (P.getD i 0) : Int) != (Kr (sN L) L.length P t0 i).getD (P.getD i 0) 0) = true := by
        rw [bne_iff_ne]; exact fun e => he e.symm
      have hs : Cu (I4 L) (Ft (r :: P)) (b, (i : Int), Kr (sN L) L.length P t0 i) = some (.next (true, ((i + 1 : Nat) : Int), Kr (sN L) L.length P t0 (i + 1))) := by
        unfold Cu; simp only [hdl, hlen, Cz hil, cond_true, An, Wg hil, hpred, hma, Option.bind_some, hb]; rw [Ad (D3 hil), Ad (D3 (by rw [J6]; exact hyn)), Ad trivial, Ad (D3 hyt), Ad (D3 hyt), Option.bind_some, w1 (by omega)]
        rfl
      obtain ⟨b', e1, e2⟩ := ih (i + 1) true (by omega); refine ⟨b', by rw [Bs hs, e1], fun h => ?_, fun ⟨h1, h2⟩ => absurd (h2 i (Nat.le_refl _) hil) he⟩; obtain ⟨h1, _⟩ := e2.1 h; cases h1
theorem round_all {t0 : List Int} (h : Ready (sN L) r L.length P t0 0) : ∃ b, At (Cu (I4 L) (Ft (r :: P))) (false, (0 : Int), t0) = some (b, Kr (sN L) L.length P t0 P.length) ∧ (b = false ↔ Kp (sN L) L.length P t0) := by
  obtain ⟨b, e1, e2⟩ := Y2 hm o h P.length 0 false (by omega); refine ⟨b, e1, e2.trans ⟨fun ⟨_, h2⟩ => ?_, fun hs => ⟨rfl, fun j _ hj => ?_⟩⟩⟩
  · have key : ∀ j, j ≤ P.length → Kr (sN L) L.length P t0 j = t0 := by
      intro j
      induction j with
      | zero => intro _; rfl
      | succ j ih =>
        intro hj; have ih' := ih (by omega); have rd := h.round o j (by omega)
        have hyn : P.getD j 0 < (Kr (sN L) L.length P t0 j).length := by rw [rd.len]; exact o.lt (List.mem_cons_of_mem _ (H3 (by omega)))
        have : Kr (sN L) L.length P t0 (j + 1) = Kr (sN L) L.length P t0 j := Vt hyn (h2 j (Nat.zero_le _) (by omega)); rw [this, ih']
    intro i hi; have := h2 i (Nat.zero_le _) hi; rwa [key i (by omega)] at this
  · rw [Lu o h.len hs j (by omega)]; exact hs j hj
open Classical in
theorem Z0 (j : Nat) : Dc (I4 L) (Ft (r :: P), Qd (sN L) L.length P (Du L.length r) j) = some (if Kp (sN L) L.length P (Qd (sN L) L.length P (Du L.length r) j) then .done (Qd (sN L) L.length P (Du L.length r) (j + 1)) else .next (Ft (r :: P), Qd (sN L) L.length P (Du L.length r) (j + 1))) := by
  obtain ⟨b, e1, e2⟩ := round_all hm o (Ready.rounds o j); have hL2 : G8 (I4 L) (Ft (r :: P)) = Cu (I4 L) (Ft (r :: P)) := rfl
  have hlen : (0 : Int) ≤ 1 ∧ (1 : Int) ≤ ((Ft (r :: P)).length : Int) := by simp [Ft]; omega
  unfold Dc; simp only [hL2, e1, Option.bind_some]; rw [Ad hlen]
  cases b with
  | false => rw [if_pos (e2.1 rfl)]; rfl
  | true => rw [if_neg (fun h => by have := e2.2 h; cases this)]; rfl
theorem Xb : ∃ J, Kp (sN L) L.length P (Qd (sN L) L.length P (Du L.length r) J) ∧ At (Dc (I4 L)) (Ft (r :: P), Du L.length r) = some (Qd (sN L) L.length P (Du L.length r) J) := by
  obtain ⟨J, h1, h2⟩ := stops o; refine ⟨J, h2, ?_⟩
  have key : ∀ d j, j + d = J → At (Dc (I4 L)) (Ft (r :: P), Qd (sN L) L.length P (Du L.length r) j) = some (Qd (sN L) L.length P (Du L.length r) J) := by
    intro d
    induction d with
    | zero =>
      intro j hj
      obtain rfl : j = J := by omega
      have hF := Z0 hm o j; rw [if_pos h2] at hF; rw [A7 hF]; have : Qd (sN L) L.length P (Du L.length r) (j + 1) = Qd (sN L) L.length P (Du L.length r) j := Lu o (Ready.rounds o j).len h2 P.length (Nat.le_refl _); rw [this]
    | succ d ih =>
      intro j hj; have hF := Z0 hm o j; rw [if_neg (h1 j (by omega))] at hF; rw [Bs hF]; exact ih (j + 1) (by omega)
  exact key J 0 (by omega)
end
theorem m_Tree (g : Ap) (r : Int) (h1 : Fits g.Succ) (h2 : Fits g.Pred) : Gu g r = some (treeG g r) := by
  unfold treeG
  by_cases hc : Hs g = true ∧ 0 ≤ r ∧ r < (g.Succ.length : Int)
  · rw [if_pos hc]; obtain ⟨hG, h0, hlt⟩ := hc; obtain ⟨hm, hg⟩ := L2 hG; obtain ⟨hL1, hL64, _⟩ := mayS_iff.1 hm
    have hr : r.toNat < g.Succ.length := by omega
    have hrn : ((r.toNat : Nat) : Int) = r := Int.toNat_of_nonneg h0; obtain ⟨O, hO⟩ := Ord.exist (Is hm) hr; have hord := (Oc g h1 trivial r).1 hG h0 hlt O hO; obtain ⟨P, rfl, o⟩ := hO.ordered hr (Is hm); obtain ⟨J, hJ, hl⟩ := Xb hm o; have ht := (Pt o hJ).eq hm hr o; rw [ht] at hl; have hlen : (((Ft (r.toNat :: P)).length : Int) == 0) = false := beq_eq_false_iff_ne.2 (by simp [Ft]; omega)
    have hlen2 : (0 : Int) ≤ 1 ∧ (1 : Int) ≤ ((Ft (r.toNat :: P)).length : Int) := by simp [Ft]; omega
    have hL2 : G8 g (Ft (r.toNat :: P)) = Cu g (Ft (r.toNat :: P)) := rfl
    have hst : (J7 (Dc g (Ft (r.toNat :: P), Du g.Succ.length r.toNat)) (Dc g)) = some (Hk g.Succ r.toNat) := by
      rw [Lo, hg]; exact hl
    unfold Gu; rw [hord, Option.bind_some, hlen, cond_false, m_repeat hL1 hL64, Option.bind_some, Ad (inbz h0 (by simpa using hlt)), Ad hlen2]
    have : (Dc g (Ft (r.toNat :: P), Du g.Succ.length r.toNat)) = (At (Cu g (Ft (r.toNat :: P))) (false, 0, (List.replicate g.Succ.length (-2 : Int)).set r.toNat (-1))).bind (fun x22 => (match x22 with | (b10, l11) => (bif b10 then (some (.next (Ft (r.toNat :: P), l11))) else (some (.done l11))))) := by
      unfold Dc Du; simp only [hL2]; rw [Ad hlen2]
    rw [this] at hst; refine Eq.trans ?_ (congrArg (fun x : Option (List Int) => x.bind fun x42 => some x42) hst)
    rfl
  · rw [if_neg hc]; unfold Gu
    have : (Hs g && (decide (0 ≤ r) && decide (r < (g.Succ.length : Int)))) = false := by
      rw [Bool.eq_false_iff]; intro h; rw [Bool.and_eq_true, Bool.and_eq_true, decide_eq_true_eq, decide_eq_true_eq] at h; exact hc h
    rw [(Oc g h1 trivial r).2 this, Option.bind_some]
    rfl
end
end Go.Proofs.Ytjpacggpipflcaa

namespace Go.Proofs.Ytjpacggpipflcaa
noncomputable section
open Go Go.RowKit
set_option linter.unusedVariables false
set_option linter.unusedSimpArgs false
section
variable {L : List (List Int)} (hm : Eu L = true)
include hm
theorem over_tree {a b : Nat} (ha : a < L.length) (hb : b < L.length) : Tv (Hk L 0) (a : Int) (b : Int) = Gt L 0 a b := by
  have h1 := (mayS_iff.1 hm).1; obtain ⟨P, _, o, h⟩ := treeD_dom hm (r := 0) (by omega); rw [Bool.eq_iff_iff, h.over_dom o ha hb, N7 hm (by omega) hb]
def S1 (L : List (List Int)) (a : Nat) (l : List Int) : List (Int × Int) := (l.filter fun y => Gt L 0 y.toNat a).map fun y => ((a : Int), y)
theorem rowW_all {a : Nat} (ha : a < L.length) : S1 L a (L.getD a []) = Hv L a L.length := by
  obtain ⟨h1, h64, hok⟩ := mayS_iff.1 hm
  have e : (L.getD a []).filter (fun y => Gt L 0 y.toNat a) = ((List.range L.length).filter (Mq L a)).map Int.ofNat := by
    refine M4 (List.Pairwise.filter _ (Wa (hok a ha))) (Ld _ _) fun x => ?_; rw [K2, List.mem_filter]
    constructor
    · rintro ⟨hx, ho⟩; obtain ⟨x0, x1⟩ := Hw (hok a ha) hx; refine ⟨x.toNat, by omega, by omega, ?_⟩; unfold Mq; rw [ho, Bool.and_true, N2, Int.toNat_of_nonneg x0]; exact hx
    · rintro ⟨k, rfl, hk, hb⟩; unfold Mq at hb; rw [Bool.and_eq_true, N2] at hb; exact ⟨hb.1, by rw [An]; exact hb.2⟩
  unfold S1 Hv; rw [e, List.map_map]
  rfl
theorem prog_L1 {a : Nat} (ha : a < L.length) (l : List (Int × Int)) (hl : l.length ≤ 10000) : At (Dj (I4 L) (Hk L 0) (a : Int)) (l, (0 : Int)) = some (l ++ Hv L a L.length) := by
  have hroom : (1000000 : Nat) ≤ room := by decide
  have hg : (I4 L).Succ = L := rfl; obtain ⟨h1, h64, hok⟩ := mayS_iff.1 hm
  have hrl : (L.getD a []).length ≤ 64 := by have := It (hok a ha); omega
  have hlen : ∀ m, (S1 L a ((L.getD a []).take m)).length ≤ m := fun m => by
    unfold S1; rw [List.length_map]; exact Nat.le_trans (List.length_filter_le ..) (by rw [List.length_take]; omega)
  have e0 : (l, (0 : Int)) = (l ++ S1 L a ((L.getD a []).take 0), ((0 : Nat) : Int)) := by simp [S1]
  rw [← rowW_all hm ha, e0]; refine Do (Dj (I4 L) (Hk L 0) (a : Int)) (fun m => (l ++ S1 L a ((L.getD a []).take m), ((m : Nat) : Int))) _ (L.getD a []).length (fun m hmm => ?_) ?_
  · show Dj _ _ _ (_, (m : Int)) = _
    unfold Dj; have hlm := hlen m; obtain ⟨z0, z1⟩ := Hw (hok a ha) (Eb (d := (0 : Int)) hmm); have ho := over_tree hm (a := ((L.getD a []).getD m 0).toNat) (b := a) (by omega) ha; rw [Int.toNat_of_nonneg z0] at ho
    have hO : Gz (Hk L 0) ((L.getD a []).getD m 0) (a : Int) = some (Gt L 0 ((L.getD a []).getD m 0).toNat a) := by rw [m_Over (by rw [Ot]; omega), ho]
    have ht : S1 L a ((L.getD a []).take (m + 1)) = S1 L a ((L.getD a []).take m) ++ (if Gt L 0 ((L.getD a []).getD m 0).toNat a = true then [((a : Int), (L.getD a []).getD m 0)] else []) := by
      unfold S1; rw [O4 hmm, List.filter_append, List.map_append, List.filter_cons, List.filter_nil]
      split <;> rfl
    simp only [hg, An, Cz hmm, cond_true, hO, Option.bind_some]; rw [Ad (D3 hmm), ht]
    cases Gt L 0 ((L.getD a []).getD m 0).toNat a with
    | true => rw [cond_true, Ad (by rw [List.length_append]; simp only [List.length_cons, List.length_nil]; omega), Option.bind_some, w1 (by omega), if_pos rfl, List.append_assoc]
    | false => rw [cond_false, Option.bind_some, w1 (by omega), if_neg (by simp), List.append_nil]
  · show Dj _ _ _ (_, _) = _
    unfold Dj; simp only [hg, An, Ee, cond_false]; rw [List.take_length]
theorem prog_L2 : At (Ck (I4 L) (Hk L 0)) (([] : List (Int × Int)), (0 : Int)) = some (Bz L) := by
  have hg : (I4 L).Succ = L := rfl; obtain ⟨_, h64, _⟩ := mayS_iff.1 hm; have htl := Ot L 0
  have e : Bz L = K6 L (Hk L 0).length := by rw [htl]; rfl
  rw [e]; refine Do (Ck (I4 L) (Hk L 0)) (fun m => (K6 L m, ((m : Nat) : Int))) _ (Hk L 0).length (fun m hmm => ?_) ?_
  · show Ck _ _ (_, (m : Int)) = _
    unfold Ck; have h1 := Rw (L := L) m; have h2 : m * L.length ≤ 64 * 64 := Nat.mul_le_mul (by omega) (by omega); simp only [hg, Cz hmm, cond_true]; rw [Ad (D3 (by omega)), prog_L1 hm (by omega) _ (by omega), Option.bind_some, w1 (by omega), Wr]
  · show Ck _ _ (_, _) = _
    unfold Ck; simp only [Ee, cond_false]
end
theorem J9 (g : Ap) (h1 : Fits g.Succ) (h2 : Fits g.Pred) : Dw g = some (Ju g) := by
  unfold Dw; rw [m_Tree g 0 h1 h2, Option.bind_some]; unfold treeG Ju
  cases hG : Hs g with
  | false =>
    rw [if_neg (by simp), if_neg (by simp)]; rw [A7 (f := Ck g []) (x := ([] : List (Int × Int))) (by unfold Ck; rfl)]
    rfl
  | true =>
    obtain ⟨hm, hg⟩ := L2 hG; have hL := (mayS_iff.1 hm).1; have hl := prog_L2 hm; rw [← hg] at hl; rw [if_pos ⟨rfl, by omega, by omega⟩, if_pos rfl]
    show Option.bind (At (Ck g (Hk g.Succ 0)) _) _ = _
    rw [hl]
    rfl
def Gh (W : List (Int × Int)) (h : Nat) : List Int := (W.filter fun p => p.2 == (h : Int)).map Prod.fst
def Ky (W : List (Int × Int)) : List (List Int) := (List.range 64).map (Gh W)
theorem Vk {W : List (Int × Int)} {h : Nat} (hh : h < 64) : (Ky W).getD h [] = Gh W h := by unfold Ky; rw [I5 hh]
theorem Tg (W : List (Int × Int)) (h : Nat) : (Gh W h).length ≤ W.length := by unfold Gh; rw [List.length_map]; exact List.length_filter_le ..
theorem Ps {W : List (Int × Int)} (hW : W.length ≤ 4096) (hin : ∀ p ∈ W, 0 ≤ p.2 ∧ p.2 < 64) : At (D8 W) ((0 : Int), List.replicate 64 ([] : List Int)) = some (Ky W) := by
  have hroom : (10000 : Nat) ≤ room := by decide
  have e0 : ((0 : Int), List.replicate 64 ([] : List Int)) = (((0 : Nat) : Int), Ky (W.take 0)) := by
    have : List.replicate 64 ([] : List Int) = Ky (W.take 0) := by
      unfold Ky; rw [List.take_zero]
      rfl
    rw [this]; rfl
  have e1 : Ky W = Ky (W.take W.length) := by rw [List.take_length]
  rw [e0, e1]; refine Do (D8 W) (fun m => (((m : Nat) : Int), Ky (W.take m))) _ W.length (fun m hmm => ?_) ?_
  · show D8 W ((m : Int), _) = _
    unfold D8; obtain ⟨z0, z1⟩ := hin _ (Eb (d := ((0 : Int), (0 : Int))) hmm); obtain ⟨t, ht⟩ : ∃ t : Nat, (W.getD m ((0 : Int), (0 : Int))).2 = (t : Int) := ⟨_, (Int.toNat_of_nonneg z0).symm⟩
    have ht64 : t < 64 := by omega
    have hp : E7 64 [] (Ky (W.take m)) = Ky (W.take m) := (Tm (by simp [Ky])).symm; have hl := Tg (W.take m) t; rw [List.length_take] at hl; simp only [Cz hmm, cond_true, An, ht, hp, Vk ht64]; rw [Ad (D3 hmm), Ad (D3 ht64), Ad (D3 ht64), Ad (by simp only [List.length_cons, List.length_nil]; omega), Ad (D3 ht64), w1 (by omega)]
    congr 3
    unfold Ky; rw [Oq]; refine Gn fun x hx => ?_
    have htk : W.take (m + 1) = W.take m ++ [W.getD m ((0 : Int), (0 : Int))] := by rw [List.take_succ_eq_append_getElem hmm, Ag _ _ _ hmm]
    have : Gh (W.take (m + 1)) x = Gh (W.take m) x ++ (if x = t then [(W.getD m ((0 : Int), (0 : Int))).1] else []) := by
      unfold Gh; rw [htk, List.filter_append, List.map_append, List.filter_cons, List.filter_nil, ht]
      by_cases e : x = t
      · subst e; rw [if_pos (by simp), if_pos rfl]; rfl
      · rw [if_neg (by simp; omega), if_neg e]; rfl
    rw [this]
    by_cases e : x = t
    · subst e; rw [if_pos rfl, if_pos rfl]
    · rw [if_neg e, if_neg e, List.append_nil]
  · show D8 W (_, _) = _
    unfold D8; simp only [Ee, cond_false]
theorem Qr {R : List Bool} {s : Nat → Bool} (h : RelS R s) : Di R = some (((List.range 64).filter s).map Int.ofNat) := by
  have hroom : (1000 : Nat) ≤ room := by decide
  unfold Di
  have hl : At (B0 R) (([] : List Int), (0 : Int)) = some (((List.range 64).filter s).map Int.ofNat) := by
    refine Do (B0 R) (fun m => (((List.range m).filter s).map Int.ofNat, ((m : Nat) : Int))) _ 64 (fun m hmm => ?_) ?_
    · show B0 R (_, (m : Int)) = _
      unfold B0; have hlen := Xx s m
      have hd : decide ((m : Int) < (64 : Int)) = true := by simpa using (show (m : Int) < 64 by omega)
      simp only [hd, cond_true, An, h m hmm]; rw [Ad (D3 hmm), filt_succ]
      cases s m with
      | true => rw [cond_true, Ad (by simp only [List.length_cons, List.length_nil]; omega), Option.bind_some, w1 (by omega), if_pos rfl]
      | false => rw [cond_false, Option.bind_some, w1 (by omega), if_neg (by simp), List.append_nil]
    · show B0 R (_, _) = _
      unfold B0
      rfl
  rw [hl]
  rfl
theorem Qs {O : List Nat} (hO : ∀ z ∈ O, z < 64) (hl : O.length < 1000) : ∃ l, Fa (Ft O) = some l ∧ RelS l (fun z => O.contains z) := by
  have hlen : (Ft O).length = O.length := by simp [Ft]
  have key : ∀ (k i : Nat) (l : List Bool) (s : Nat → Bool), i + k = O.length → RelS l s → ∃ l', At (Dr (Ft O)) ((i : Int), l) = some l' ∧ RelS l' (fun z => s z || (O.drop i).contains z) := by
    intro k
    induction k with
    | zero =>
      intro i l s hi hr
      obtain rfl : i = O.length := by omega
      refine ⟨l, A7 ?_, fun z hz => ?_⟩
      · unfold Dr; simp only [hlen, Ee, cond_false]
      · rw [hr z hz, List.drop_length]; simp
    | succ k ih =>
      intro i l s hi hr
      have hil : i < O.length := by omega
      have hz : O[i] < 64 := hO _ (List.getElem_mem hil)
      have hr' : RelS (Dm 64 false l O[i] true) (fun z => s z || decide (z = O[i])) := fun z hz' => by
        rw [Gj hz', hr z hz']
        by_cases e : z = O[i]
        · simp [e]
        · simp [e]
      obtain ⟨l', h1, h2⟩ := ih (i + 1) _ _ (by omega) hr'
      have hs : Dr (Ft O) ((i : Int), l) = some (.next (((i + 1 : Nat) : Int), Dm 64 false l O[i] true)) := by
        unfold Dr; simp only [hlen, Cz hil, cond_true, An, ofN_at hil]; rw [Ad (D3 hil), Ad (D3 hz), w1 (by omega)]
      refine ⟨l', by rw [Bs hs, h1], fun z hz' => ?_⟩; rw [h2 z hz', List.drop_eq_getElem_cons hil]
      show (s z || decide (z = O[i]) || (List.drop (i + 1) O).contains z) = (s z || (O[i] :: List.drop (i + 1) O).contains z)
      rw [List.contains_cons, Bool.or_assoc]
      rfl
  obtain ⟨l', e1, e2⟩ := key O.length 0 (List.replicate 64 false) (fun _ => false) (by omega) (fun z hz => F5); refine ⟨l', ?_, fun z hz => ?_⟩
  · unfold Fa
    show Option.bind (At (Dr (Ft O)) (((0 : Nat) : Int), _)) _ = _
    rw [e1]
    rfl
  · rw [e2 z hz]
    show (false || (List.drop 0 O).contains z) = O.contains z
    rw [List.drop_zero, Bool.false_or]
theorem Av.head {S : Nat → List Nat} {h x y b : Nat} (hy : y ≠ h) (hx : x ∈ S y) (k : Av S x h b) : Av S y h b := by
  induction k with
  | root hx' => exact .step (.root hy) hx hx'
  | step _ h2 h3 ih => exact .step ih h2 h3
theorem filt_cut {n : Nat} {s p : Nat → Bool} (hn : n ≤ 64) (h : ∀ x, x < 64 → s x = (decide (x < n) && p x)) : ((List.range 64).filter s).map Int.ofNat = ((List.range n).filter p).map Int.ofNat := by
  refine M4 (Ld _ _) (Ld _ _) fun x => ?_; rw [K2, K2]
  constructor
  · rintro ⟨k, rfl, hk, hs⟩; rw [h k hk, Bool.and_eq_true, decide_eq_true_eq] at hs; exact ⟨k, rfl, hs.1, hs.2⟩
  · rintro ⟨k, rfl, hk, hs⟩; exact ⟨k, rfl, by omega, by rw [h k (by omega), hs, Bool.and_true]; exact decide_eq_true hk⟩
section
variable {L : List (List Int)} (hm : Eu L = true)
include hm
structure Goes (L : List (List Int)) (re : Nat → Bool) (h : Nat) (B : List Int) (Q : Nat → Prop) (s : Nat → Bool) (rest : List Int) : Prop where
  inr : ∀ x ∈ rest, 0 ≤ x ∧ x < (L.length : Int)
  head : s h = true
  only : ∀ x, s x = true → x = h ∨ Q x
  onlyr : ∀ x : Nat, (x : Int) ∈ rest → re x = true → x = h ∨ Q x
  begs : ∀ b : Nat, (b : Int) ∈ B → re b = true → s b = true ∨ (b : Int) ∈ rest
  preds : ∀ x, s x = true → x ≠ h → ∀ y, y < L.length → x ∈ sN L y → re y = true → s y = true ∨ (y : Int) ∈ rest
theorem body_loop {re : Nat → Bool} {h : Nat} {B : List Int} {Q : Nat → Prop} {Re : List Bool} (hRe : RelS Re re) (hQn : ∀ x, Q x → x < L.length) (hQ : ∀ x, Q x → ∀ y, y < L.length → x ∈ sN L y → re y = true → y = h ∨ Q y) :
    ∀ (m : Nat) (R : List Bool) (s : Nat → Bool) (rest : List Int), 65 * S8 64 s + rest.length ≤ m → m ≤ 10000 → RelS R s → Goes L re h B Q s rest →
      ∃ s', At (Df (Dz L) Re) (R, rest) = some (((List.range 64).filter s').map Int.ofNat) ∧ Goes L re h B Q s' [] := by
  have hroom : (100000 : Nat) ≤ room := by decide
  obtain ⟨h1, h64, hok⟩ := mayS_iff.1 hm; have hpl := J6 L; intro m
  induction m with
  | zero =>
    intro R s rest hmeas _ hR hG; obtain rfl : rest = [] := List.eq_nil_of_length_eq_zero (by omega); refine ⟨s, A7 ?_, hG⟩; unfold Df; simp only [List.length_nil]
    show (bif (((0 : Nat) : Int) == (0 : Int)) then _ else _) = _
    rw [show ((((0 : Nat) : Int) == (0 : Int))) = true from rfl, cond_true, Qr hR]
    rfl
  | succ m ih =>
    intro R s rest hmeas hm1 hR hG; rcases List.eq_nil_or_concat rest with rfl | ⟨st, a, rfl⟩
    · refine ⟨s, A7 ?_, hG⟩; unfold Df
      show (bif (((0 : Nat) : Int) == (0 : Int)) then _ else _) = _
      rw [show ((((0 : Nat) : Int) == (0 : Int))) = true from rfl, cond_true, Qr hR]
      rfl
    · rw [List.concat_eq_append] at hG hmeas ⊢; rw [List.length_append, List.length_singleton] at hmeas; obtain ⟨a0, a1⟩ := hG.inr a (by simp); obtain ⟨n, rfl⟩ : ∃ n : Nat, a = (n : Int) := ⟨_, (Int.toNat_of_nonneg a0).symm⟩
      have hn : n < L.length := by omega
      have htop := top (st := st) (a := (n : Int)) (by omega); have htopi := topi (st := st) (a := (n : Int)) (by omega)
      have hne : (((((st ++ [(n : Int)]).length : Nat) : Int)) == (0 : Int)) = false := by
        rw [beq_eq_false_iff_ne, List.length_append, List.length_singleton]; omega
      have hgd : (st ++ [(n : Int)]).getD st.length 0 = (n : Int) := by rw [List.getD_eq_getElem?_getD, List.getElem?_append_right (Nat.le_refl _)]; simp
      have htk : (st ++ [(n : Int)]).take st.length = st := by rw [List.take_append_of_le_length (Nat.le_refl _), List.take_length]
      have hi1 : A6 ((st.length : Nat) : Int) (st ++ [(n : Int)]).length := D3 (by rw [List.length_append, List.length_singleton]; omega); have hi2 : 0 ≤ ((st.length : Nat) : Int) ∧ 0 + st.length ≤ (st ++ [(n : Int)]).length := ⟨by omega, by rw [List.length_append, List.length_singleton]; omega⟩; have hi3 : A6 ((n : Nat) : Int) 64 := D3 (by omega)
      cases hc : re n && !s n with
      | true =>
        rw [Bool.and_eq_true, Bool.not_eq_true'] at hc; obtain ⟨hre, hsn⟩ := hc; have hpr : (Dz L).getD n [] = En L L.length n := O0 hn
        have hpm : ∀ x ∈ En L L.length n, ∃ p : Nat, x = (p : Int) ∧ p < L.length ∧ n ∈ sN L p := fun x hx => by rw [← hpr] at hx; exact (Lq hm hn).1 hx
        have hplen : (En L L.length n).length ≤ 64 := by have := Kg L L.length n; omega
        have hcn := Kb (n := 64) (s := s) (y := n) (by omega) hsn; have hQa : n = h ∨ Q n := hG.onlyr n (by simp) hre
        have hnh : n ≠ h := by rintro rfl; rw [hG.head] at hsn; cases hsn
        have hQn' : Q n := hQa.resolve_left hnh
        have hG' : Goes L re h B Q (upd s n) (st ++ En L L.length n) := by
          refine ⟨fun x hx => ?_, upd_true.2 (.inr hG.head), fun x hx => ?_, fun x hx hrx => ?_, fun b hb hrb => ?_, fun x hx hxh y hy hxy hry => ?_⟩
          · rcases List.mem_append.1 hx with h | h
            · exact hG.inr x (by simp [h])
            · obtain ⟨p, rfl, hp, _⟩ := hpm x h; omega
          · rcases upd_true.1 hx with rfl | h
            · exact .inr hQn'
            · exact hG.only x h
          · rcases List.mem_append.1 hx with h | h
            · exact hG.onlyr x (by simp [h]) hrx
            · obtain ⟨p, e, hp, hnp⟩ := hpm _ h
              obtain rfl : x = p := by omega
              exact hQ n hQn' x hp hnp hrx
          · rcases hG.begs b hb hrb with h | h
            · exact .inl (upd_true.2 (.inr h))
            · rcases List.mem_append.1 h with h | h
              · exact .inr (by simp [h])
              · rw [List.mem_singleton] at h; exact .inl (upd_true.2 (.inl (by omega)))
          · rcases upd_true.1 hx with rfl | hsx
            · refine .inr (List.mem_append.2 (.inr ?_)); rw [← hpr]; exact (Lq hm hn).2 ⟨y, rfl, hy, hxy⟩
            · rcases hG.preds x hsx hxh y hy hxy hry with h | h
              · exact .inl (upd_true.2 (.inr h))
              · rcases List.mem_append.1 h with h | h
                · exact .inr (by simp [h])
                · rw [List.mem_singleton] at h; exact .inl (upd_true.2 (.inl (by omega)))
        obtain ⟨s', e1, e2⟩ := ih (Dm 64 false R n true) (upd s n) (st ++ En L L.length n) (by rw [List.length_append]; omega) (by omega) hR.set hG'; refine ⟨s', ?_, e2⟩; rw [Bs (s' := (Dm 64 false R n true, st ++ En L L.length n)) ?_, e1]; unfold Df; simp only [hne, cond_false, htopi, An, hgd, htk, hRe n (by omega), hR n (by omega), hre, hsn, Bool.not_false, cond_true, hpr]; rw [Ad hi1, Ad hi2, Ad hi3, Aai hi3, Ad hi3, Ad (D3 (by omega)), Ad (by omega), Option.bind_some]
      | false =>
        have hG' : Goes L re h B Q s st := by
          have hdrop : ∀ b : Nat, (b : Int) ∈ st ++ [(n : Int)] → re b = true → s b = true ∨ (b : Int) ∈ st := fun b hb hrb => by
            rcases List.mem_append.1 hb with h | h
            · exact .inr h
            · rw [List.mem_singleton] at h
              obtain rfl : b = n := by omega
              rw [hrb, Bool.true_and] at hc; exact .inl (by simpa using hc)
          refine ⟨fun x hx => hG.inr x (by simp [hx]), hG.head, hG.only, fun x hx => hG.onlyr x (by simp [hx]), fun b hb hrb => ?_, fun x hx hxh y hy hxy hry => ?_⟩
          · rcases hG.begs b hb hrb with h | h
            · exact .inl h
            · exact hdrop b h hrb
          · rcases hG.preds x hx hxh y hy hxy hry with h | h
            · exact .inl h
            · exact hdrop y h hry
        obtain ⟨s', e1, e2⟩ := ih R s st (by omega) (by omega) hR hG'; refine ⟨s', ?_, e2⟩; rw [Bs (s' := (R, st)) ?_, e1]; unfold Df
        have hcc : (bif re n then !s n else false) = false := by rw [← hc]; cases re n <;> rfl
        simp only [hne, cond_false, htopi, An, hgd, htk, hRe n (by omega), hR n (by omega), hcc]; rw [Ad hi1, Ad hi2, Ad hi3, Aai hi3, Option.bind_some]
end
end
end Go.Proofs.Ytjpacggpipflcaa

namespace Go.Proofs.Ytjpacggpipflcaa
noncomputable section
open Go Go.RowKit
set_option linter.unusedVariables false
set_option linter.unusedSimpArgs false
theorem Za (l : List Int) (h : l.length ≤ room) : Cx l = some l := by
  unfold Cx; rw [Ad h]
section
variable {L : List (List Int)} (hm : Eu L = true)
include hm
theorem Og {h b : Nat} : (b : Int) ∈ Gh (Bz L) h ↔ ((b : Int), (h : Int)) ∈ Bz L := by
  have _hm := hm; unfold Gh; rw [List.mem_map]
  constructor
  · rintro ⟨p, hp, e⟩; obtain ⟨h1, h2⟩ := List.mem_filter.1 hp; have : p = ((b : Int), (h : Int)) := Prod.ext e (by simpa using h2); rw [← this]; exact h1
  · intro hp; exact ⟨_, List.mem_filter.2 ⟨hp, by simp⟩, rfl⟩
theorem m_body {Re : List Bool} (hRe : RelS Re fun z => Jz L z) {h : Nat} (hh : h < L.length) : Hg (Dz L) Re (h : Int) (Gh (Bz L) h) = some (Mw L h) := by
  have hroom : (100000 : Nat) ≤ room := by decide
  obtain ⟨h1, h64, hok⟩ := mayS_iff.1 hm; have hbl := L9 (L := L) h64; have hbg := Tg (Bz L) h
  let Q : Nat → Prop := fun x => x ≠ h ∧ x < L.length ∧ Jz L x = true ∧ ∃ b : Nat, (b : Int) ∈ Gh (Bz L) h ∧ Av (sN L) x h b
  have hst : ∀ x, x < L.length → (Jz L x = true ↔ Rc (sN L) 0 x) := fun x hx => Gk hm (by omega)
  have hG : Goes L (fun z => Jz L z) h (Gh (Bz L) h) Q (upd (fun _ => false) h) (Gh (Bz L) h) := by
    refine ⟨fun x hx => ?_, upd_true.2 (.inl rfl), fun x hx => ?_, fun x hx hrx => ?_, fun b hb hrb => .inr hb, fun x hx hxh => ?_⟩
    · unfold Gh at hx; obtain ⟨p, hp, rfl⟩ := List.mem_map.1 hx; obtain ⟨a, b, rfl, ha, _⟩ := mem_backs.1 (List.mem_filter.1 hp).1; exact ⟨by omega, by show (a : Int) < _; omega⟩
    · rcases upd_true.1 hx with rfl | h'
      · exact .inl rfl
      · cases h'
    · by_cases e : x = h
      · exact .inl e
      · obtain ⟨a, b, hp, ha, _⟩ := mem_backs.1 ((Og hm).1 hx)
        have : x = a := by have := congrArg Prod.fst hp; exact Int.ofNat.inj this
        exact .inr ⟨e, by omega, hrx, x, hx, .root e⟩
    · rcases upd_true.1 hx with rfl | h'
      · exact absurd rfl hxh
      · cases h'
  obtain ⟨s', e1, e2⟩ := body_loop hm hRe (h := h) (B := Gh (Bz L) h) (Q := Q) (fun x hx => hx.2.1) (fun x hx y hy hxy hry => by
      by_cases e : y = h
      · exact .inl e
      · obtain ⟨_, _, _, b, hb, k⟩ := hx
        exact .inr ⟨e, hy, hry, b, hb, k.head e hxy⟩) 9000 (Dm 64 false (List.replicate 64 false) h true) _ _ (by
      have : S8 64 (upd (fun _ => false) h) ≤ 64 := by
        unfold S8; exact Nat.le_trans (List.length_filter_le ..) (by simp)
      omega) (by omega) (RelS.set (s := fun _ => false) (fun z hz => F5)) hG
  have hfin : ∀ x, x < 64 → s' x = (decide (x < L.length) && Pu L h x) := fun x hx => by
    rw [Bool.eq_iff_iff, Bool.and_eq_true, decide_eq_true_eq]
    have hb : x < L.length → (Pu L h x = true ↔ x = h ∨ (x ≠ h ∧ Jz L x = true ∧ ∃ b : Nat, (b : Int) ∈ Gh (Bz L) h ∧ Av (sN L) x h b)) := fun hxn => by
      unfold Pu; rw [Bool.or_eq_true, decide_eq_true_eq, List.any_eq_true]; refine or_congr Iff.rfl ⟨?_, ?_⟩
      · rintro ⟨p, hp, hi⟩; obtain ⟨a, b, rfl, ha, hbn, _⟩ := mem_backs.1 hp; unfold inBy at hi; simp only [Bool.and_eq_true, decide_eq_true_eq, beq_iff_eq, An] at hi; obtain ⟨i1, i2, i3, i4⟩ := hi
        obtain rfl : b = h := by omega
        exact ⟨i2, i3, a, (Og hm).2 hp, (Id hm hxn ha).1 i4⟩
      · rintro ⟨i2, i3, b, hbb, k⟩; refine ⟨_, (Og hm).1 hbb, ?_⟩; obtain ⟨a, c, hp, ha, _⟩ := mem_backs.1 ((Og hm).1 hbb)
        have hba : b < L.length := by have := congrArg Prod.fst hp; have : b = a := Int.ofNat.inj this; omega
        unfold inBy; simp only [Bool.and_eq_true, decide_eq_true_eq, beq_iff_eq, An]; exact ⟨trivial, i2, i3, (Id hm hxn hba).2 k⟩
    constructor
    · intro hs; rcases e2.only x hs with rfl | ⟨q1, q2, q0, b, q3, q4⟩
      · exact ⟨hh, (hb hh).2 (.inl rfl)⟩
      · exact ⟨q2, (hb q2).2 (.inr ⟨q1, q0, b, q3, q4⟩)⟩
    · rintro ⟨hxn, hbx⟩; rcases (hb hxn).1 hbx with rfl | ⟨q1, q2, b, q3, q4⟩
      · exact e2.head
      · have hrc : ∀ w, Av (sN L) x h w → Rc (sN L) 0 w := fun w k => by
          induction k with
          | root _ => exact (hst x hxn).1 q2
          | step _ k2 _ ih => exact .step ih k2
        have hlt : ∀ w, Av (sN L) x h w → w < L.length := fun w k => T4 (Is hm) (by omega) (hrc w k)
        have back : ∀ w, Av (sN L) x h w → s' w = true → s' x = true := fun w k => by
          induction k with
          | root _ => exact id
          | @step u w k1 k2 k3 ih =>
            intro hw; have hu := hlt _ k1; rcases e2.preds w hw k3 u hu k2 ((hst u hu).2 (hrc u k1)) with h' | h'
            · exact ih h'
            · cases h'
        have hbn := hlt b q4; rcases e2.begs b q3 ((hst b hbn).2 (hrc b q4)) with h' | h'
        · exact back b q4 h'
        · cases h'
  unfold Hg; rw [An, Ad (D3 (by omega)), Za _ (by omega), Option.bind_some]
  show Option.bind (J7 (Df (Dz L) Re (Dm 64 false (List.replicate 64 false) h true, Gh (Bz L) h)) (Df (Dz L) Re)) _ = _
  rw [Lo, e1, Option.bind_some, filt_cut h64 hfin]
  rfl
theorem heads_beg {h : Nat} : decide ((0 : Int) < (((Gh (Bz L) h).length : Nat) : Int)) = Gs L h := by
  have _hm := hm; rw [Bool.eq_iff_iff, decide_eq_true_eq]; unfold Gs Gh; rw [List.length_map, List.any_eq_true]
  constructor
  · intro hl
    have : 0 < ((Bz L).filter fun p => p.2 == (h : Int)).length := by omega
    obtain ⟨p, hp⟩ := List.exists_mem_of_length_pos this; exact ⟨p, (List.mem_filter.1 hp).1, (List.mem_filter.1 hp).2⟩
  · rintro ⟨p, hp, e⟩; have : 0 < ((Bz L).filter fun p => p.2 == (h : Int)).length := List.length_pos_of_mem (List.mem_filter.2 ⟨hp, e⟩); omega
theorem Wm {h : Nat} (hh : Gs L h = true) : h < L.length := by
  have _hm := hm; unfold Gs at hh; rw [List.any_eq_true] at hh; obtain ⟨p, hp, e⟩ := hh; obtain ⟨a, b, rfl, _, hb, _⟩ := mem_backs.1 hp
  have : (b : Int) = (h : Int) := by simpa using e
  omega
theorem prog_all {Re : List Bool} (hRe : RelS Re fun z => Jz L z) : At (Cc (I4 L) (Ky (Bz L)) Re) (([] : List A1), (0 : Int)) = some (Er L) := by
  have hroom : (1000 : Nat) ≤ room := by decide
  have hp : (I4 L).Pred = Dz L := rfl; obtain ⟨h1, h64, _⟩ := mayS_iff.1 hm
  have hlen : ∀ m, (((List.range m).filter (Gs L)).map fun h => (⟨((h : Nat) : Int), Mw L h⟩ : A1)).length ≤ m := fun m => by
    rw [List.length_map]; exact Nat.le_trans (List.length_filter_le ..) (by simp)
  have e : Er L = ((List.range 64).filter (Gs L)).map fun h => (⟨((h : Nat) : Int), Mw L h⟩ : A1) := by
    unfold Er
    congr 1
    have hk : ∀ k, L.length + k ≤ 64 → (List.range (L.length + k)).filter (Gs L) = (List.range L.length).filter (Gs L) := fun k => by
      induction k with
      | zero => intro _; rfl
      | succ k ih =>
        intro hk; rw [← Nat.add_assoc, List.range_succ, List.filter_append, ih (by omega)]
        have : Gs L (L.length + k) = false := by
          cases hh : Gs L (L.length + k) with
          | false => rfl
          | true => have := Wm hm hh; omega
        simp [this]
    have := hk (64 - L.length) (by omega); rw [show L.length + (64 - L.length) = 64 by omega] at this; exact this.symm
  rw [e]; refine Do (Cc (I4 L) (Ky (Bz L)) Re) (fun m => (((List.range m).filter (Gs L)).map fun h => (⟨((h : Nat) : Int), Mw L h⟩ : A1), ((m : Nat) : Int))) _ 64 (fun m hmm => ?_) ?_
  · show Cc _ _ _ (_, (m : Int)) = _
    unfold Cc; have hl := hlen m
    have hd : decide ((m : Int) < (64 : Int)) = true := by simpa using (show (m : Int) < 64 by omega)
    simp only [hd, cond_true, An, hp, Vk hmm, heads_beg hm]; rw [Ad (D3 hmm), List.range_succ, List.filter_append, List.map_append]
    cases hh : Gs L m with
    | true =>
      rw [cond_true, m_body hm hRe (Wm hm hh), Option.bind_some, Ad (by simp only [List.length_cons, List.length_nil]; omega), Option.bind_some, w1 (by omega)]; simp [hh]
    | false =>
      rw [cond_false, Option.bind_some, w1 (by omega)]; simp [hh]
  · show Cc _ _ _ (_, _) = _
    unfold Cc
    rfl
end
theorem order0 {L : List (List Int)} (hm : Eu L = true) : ∃ O : List Nat, Ord (sN L) 0 O ∧ Co (I4 L) 0 = some (Ft O) ∧ (∀ z ∈ O, z < L.length) ∧ O.length ≤ 64 := by
  obtain ⟨h1, h64, _⟩ := mayS_iff.1 hm; obtain ⟨O, hO⟩ := Ord.exist (Is hm) (r := 0) (by omega); have hord := (Oc (I4 L) (Nm hm).1 trivial 0).1 (Ol hm) (by omega) (by show (0 : Int) < (L.length : Int); omega) O hO; have hlt : ∀ z ∈ O, z < L.length := fun z hz => rch_lt hm ((hO.mem z).1 hz) (by omega); exact ⟨O, hO, hord, hlt, Nat.le_trans (G7 L.length O hO.nodup hlt) h64⟩
theorem Rh {g : Ap} (h : Fits g.Succ) (hG : Hs g = false) : Co g 0 = some [] := (Oc g h trivial 0).2 (by rw [hG]; rfl)
theorem Qi (g : Ap) (h1 : Fits g.Succ) (h2 : Fits g.Pred) : Fg g = some (D4 g) := by
  unfold Fg D4; rw [J9 g h1 h2, Option.bind_some]; unfold Ju
  cases hG : Hs g with
  | false =>
    rw [if_neg (by simp), if_neg (by simp)]; rw [Ps (by simp) (fun p hp => by cases hp), Option.bind_some, Rh h1 hG, Option.bind_some]; obtain ⟨l, hl, _⟩ := Qs (O := []) (fun z hz => by cases hz) (by simp); rw [show Fa [] = some l from hl, Option.bind_some]
    have hn : ∀ m, m < 64 → (Ky []).getD m [] = [] := fun m hm => by rw [Vk hm]; rfl
    have hloop : At (Cc g (Ky []) l) (([] : List A1), (0 : Int)) = some [] := by
      refine Do (Cc g (Ky []) l) (fun m => (([] : List A1), ((m : Nat) : Int))) _ 64 (fun m hmm => ?_) ?_
      · show Cc _ _ _ (_, (m : Int)) = _
        unfold Cc
        have hd : decide ((m : Int) < (64 : Int)) = true := by simpa using (show (m : Int) < 64 by omega)
        simp only [hd, cond_true, An, hn m hmm]; rw [Ad (D3 hmm)]
        show Option.bind (some _) _ = _
        rw [Option.bind_some, w1 (by omega)]
      · show Cc _ _ _ (_, _) = _
        unfold Cc
        rfl
    rw [hloop]
    rfl
  | true =>
    obtain ⟨hm, hg⟩ := L2 hG; obtain ⟨_, h64, _⟩ := mayS_iff.1 hm
    rw [if_pos rfl, if_pos rfl, Ps (L9 h64) (fun p hp => by
      obtain ⟨a, b, rfl, _, hb, _⟩ := mem_backs.1 hp
      exact ⟨by show (0 : Int) ≤ (b : Int); omega, by show (b : Int) < 64; omega⟩), Option.bind_some]
    obtain ⟨O, hO, hord, hlt, hlen⟩ := order0 hm; rw [← hg] at hord; obtain ⟨l, hl, hr⟩ := Qs (O := O) (fun z hz => by have := hlt z hz; omega) (by omega)
    have hRe : RelS l fun z => Jz g.Succ z := fun z hz => by
      rw [hr z hz, Bool.eq_iff_iff, List.contains_iff_mem, hO.mem, ← rc_iff]; unfold Jz; rw [Gk hm (by have := (mayS_iff.1 hm).1; omega)]
    have ha := prog_all hm hRe; rw [← hg] at ha; rw [hord, Option.bind_some, hl, Option.bind_some, ha]
    rfl
theorem Va (l : List Int) (v : Int) (hl : l.length ≤ 1000) : Cy l v = some (l.contains v) := by
  unfold Cy; rcases m_index l v hl with ⟨r, h1, h2, h3, h4⟩ | ⟨h1, h2⟩
  · rw [h4, Option.bind_some]; have : l.contains v = true := List.contains_iff_mem.2 (by rw [← h2]; exact Eb h1); rw [this, decide_eq_true (by omega)]
  · rw [h2, Option.bind_some]
    have : l.contains v = false := by
      cases hc : l.contains v with
      | false => rfl
      | true =>
        obtain ⟨i, hi, e⟩ := List.getElem_of_mem (List.contains_iff_mem.1 hc); exact absurd (by rw [Ag _ _ _ hi]; exact e) (h1 i hi)
    rw [this]
    rfl
theorem U6 (g : Ap) (x : Int) (h1 : Fits g.Succ) (h2 : Fits g.Pred) : Em g x = some ((Hp (D4 g) x : Nat) : Int) := by
  unfold Em; obtain ⟨hll, hlb⟩ := Qk g; rw [Qi g h1 h2, Option.bind_some]
  have l2 : At (Dk x (D4 g)) ((0 : Int), (0 : Int)) = some ((Hp (D4 g) x : Nat) : Int) := by
    have e : Hp (D4 g) x = Hp ((D4 g).take (D4 g).length) x := by rw [List.take_length]
    rw [e]; refine Do (Dk x (D4 g)) (fun m => (((Hp ((D4 g).take m) x : Nat) : Int), ((m : Nat) : Int))) _ (D4 g).length (fun m hmm => ?_) ?_
    · show Dk _ _ (_, (m : Int)) = _
      unfold Dk; have hb := hlb _ (Eb (d := (default : A1)) hmm); have hd := deepN_le ((D4 g).take m) x; have hd : Hp ((D4 g).take m) x ≤ 64 := Nat.le_trans hd (by rw [List.length_take]; omega); simp only [Cz hmm, cond_true, An, Va _ _ (show ((D4 g).getD m default).Body.length ≤ 1000 by omega), Option.bind_some]; rw [Ad (D3 hmm), Ya _ _ hmm]
      cases ((D4 g).getD m default).Body.contains x with
      | true => rw [cond_true, Option.bind_some, w1 (by omega), w1 (by omega)]; rfl
      | false => rw [cond_false, Option.bind_some, w1 (by omega)]; rfl
    · show Dk _ _ (_, _) = _
      unfold Dk; simp only [Ee, cond_false]
  rw [l2]
  rfl
end
end Go.Proofs.Ytjpacggpipflcaa

namespace Go.Proofs.Ytjpacggpipflcaa
noncomputable section
open Go Go.RowKit
set_option linter.unusedVariables false
set_option linter.unusedSimpArgs false
section
variable {S : Nat → List Nat}
theorem VL.edges {s s' : Nat → Bool} {l o : List Nat} (h : VL S s l s' o) : ∀ z ∈ o, ∀ y ∈ S z, s y = true ∨ (∃ A B, o = A ++ z :: B ∧ y ∈ A) ∨ Rch S y z := by
  induction h with
  | nil => intro z hz; cases hz
  | skip _ _ ih => exact ih
  | @step s s1 s2 y0 l o1 o2 h0 a b iha ihb =>
    intro z hz y hy; rcases List.mem_append.1 hz with hz1 | hz1
    · rcases iha z hz1 y hy with h | ⟨A, B, e, hA⟩ | h
      · rcases upd_true.1 h with rfl | h
        · obtain ⟨w, hw, hr⟩ := a.rch hz1; exact .inr (.inr (.head hw hr))
        · exact .inl h
      · exact .inr (.inl ⟨A, B ++ y0 :: o2, by rw [e]; simp, hA⟩)
      · exact .inr (.inr h)
    · rcases List.mem_cons.1 hz1 with rfl | hz2
      · rcases (a.seen y).1 (a.closed.1 y hy) with h | h
        · rcases upd_true.1 h with rfl | h
          · exact .inr (.inr (.refl _))
          · exact .inl h
        · exact .inr (.inl ⟨o1, o2, rfl, h⟩)
      · rcases ihb z hz2 y hy with h | ⟨A, B, e, hA⟩ | h
        · rcases (a.seen y).1 h with h | h
          · rcases upd_true.1 h with rfl | h
            · obtain ⟨A, B, e⟩ := List.append_of_mem hz2; exact .inr (.inl ⟨o1 ++ y :: A, B, by rw [e]; simp, by simp⟩)
            · exact .inl h
          · obtain ⟨A, B, e⟩ := List.append_of_mem hz2; exact .inr (.inl ⟨o1 ++ y0 :: A, B, by rw [e]; simp, by simp [h]⟩)
        · exact .inr (.inl ⟨o1 ++ y0 :: A, B, by rw [e]; simp, by simp [hA]⟩)
        · exact .inr (.inr h)
theorem Ord.edges {r : Nat} {O : List Nat} (h : Ord S r O) : ∀ z ∈ O, ∀ y ∈ S z, (∃ A B, O = A ++ z :: B ∧ y ∈ B) ∨ Rch S y z := by
  obtain ⟨s', o, hv, rfl⟩ := h; intro z hz0 y hy; rcases List.mem_cons.1 hz0 with rfl | hz
  · rcases (hv.seen y).1 (hv.closed.1 y hy) with h | h
    · have : y = z := by simpa [one] using h
      subst this; exact .inr (.refl _)
    · exact .inl ⟨[], o.reverse, rfl, by simpa using h⟩
  · have hz3 := List.mem_reverse.1 hz; rcases hv.edges z hz3 y hy with h | ⟨A, B, e, hA⟩ | h
    · have : y = r := by simpa [one] using h
      subst this; obtain ⟨w, hw, hr⟩ := hv.rch hz3; exact .inr (.head hw hr)
    · exact .inl ⟨r :: B.reverse, A.reverse, by rw [e]; simp, by simpa using hA⟩
    · exact .inr h
end
def Ke (S : Nat → List Nat) (O : List Nat) (i : Nat) : Bool := !(S (O.getD i 0)).any fun y => (O.take (i + 1)).contains y
section
variable {L : List (List Int)} (hm : Eu L = true)
include hm
theorem roundC_at : Rz L = true ↔ ∃ a y, a < L.length ∧ Rch (sN L) 0 a ∧ y ∈ sN L a ∧ Rch (sN L) y a := by
  have h1 := (mayS_iff.1 hm).1; unfold Rz; rw [List.any_eq_true]
  constructor
  · rintro ⟨a, ha, h⟩; rw [List.mem_range] at ha; unfold Vi at h; rw [Bool.and_eq_true, Gk hm (by omega), List.any_eq_true] at h; obtain ⟨h2, y, hy, h3⟩ := h; obtain ⟨y0, y1⟩ := Hw ((mayS_iff.1 hm).2.2 a ha) hy; refine ⟨a, y.toNat, ha, rc_iff.1 h2, ?_, rc_iff.1 ((Gk hm (by omega)).1 h3)⟩; rw [mem_sN hm ha, Int.toNat_of_nonneg y0]; exact hy
  · rintro ⟨a, y, ha, h2, hy, h3⟩; refine ⟨a, List.mem_range.2 ha, ?_⟩; have hyl := Is hm a ha y hy; unfold Vi; rw [Bool.and_eq_true, Gk hm (by omega), List.any_eq_true]; refine ⟨rc_iff.2 h2, (y : Int), (mem_sN hm ha).1 hy, ?_⟩; rw [An, Gk hm hyl]; exact rc_iff.2 h3
theorem okAt_all {O : List Nat} (hO : Ord (sN L) 0 O) : (List.range O.length).all (Ke (sN L) O) = !Rz L := by
  have h1 := (mayS_iff.1 hm).1; have hd := hO.nodup
  have hinj : ∀ (i j : Nat) (hi : i < O.length) (hj : j < O.length), O[i] = O[j] → i = j := fun i j hi hj e => by
    have h1 := (I6 hd hi).2; rw [e, (I6 hd hj).2] at h1; exact h1.symm
  have hin : ∀ z, z ∈ O ↔ Rch (sN L) 0 z := hO.mem; have hlt : ∀ z ∈ O, z < L.length := fun z hz => rch_lt hm ((hin z).1 hz) (by omega); rw [Bool.eq_iff_iff, all_range, Bool.not_eq_true', ← Bool.not_eq_true, roundC_at hm]
  constructor
  · rintro hall ⟨a, y, ha, h2, hy, h3⟩
    have step : ∀ u v, u ∈ O → v ∈ sN L u → pos O u < pos O v := fun u v hu hv => by
      have hvO : v ∈ O := (hin v).2 (((hin u).1 hu).tail hv); obtain ⟨i, hi, rfl⟩ := List.getElem_of_mem hu; obtain ⟨j, hj, rfl⟩ := List.getElem_of_mem hvO; rw [(I6 hd hi).2, (I6 hd hj).2]; refine Nat.lt_of_not_le fun hji => ?_; have := hall i hi; unfold Ke at this; rw [Bool.not_eq_true', ← Bool.not_eq_true, List.any_eq_true] at this; refine this ⟨O[j], by rw [Ag _ _ _ hi]; exact hv, List.contains_iff_mem.2 ?_⟩; rw [List.mem_take_iff_getElem]; exact ⟨j, by omega, rfl⟩
    have path : ∀ u v, Rch (sN L) u v → u ∈ O → pos O u ≤ pos O v := fun u v h => by
      induction h with
      | refl => intro _; exact Nat.le_refl _
      | @head u w v hw _ ih =>
        intro hu; have h5 := step u w hu hw; have := ih ((hin w).2 (((hin u).1 hu).tail hw)); omega
    have haO : a ∈ O := (hin a).2 h2; have h5 := step a y haO hy; have := path y a h3 ((hin y).2 (((hin a).1 haO).tail hy)); omega
  · intro hno i hi; unfold Ke; rw [Bool.not_eq_true', ← Bool.not_eq_true, List.any_eq_true]; rintro ⟨y, hy, hc⟩; rw [List.contains_iff_mem] at hc; rw [Ag _ _ _ hi] at hy; have hzO : O[i] ∈ O := List.getElem_mem hi; rcases hO.edges _ hzO y hy with ⟨A, B, e, hB⟩ | h
    · obtain ⟨j, hj, hjy⟩ := List.mem_take_iff_getElem.1 hc
      have hjl : j < O.length := by omega
      have hAi : A.length = i := by
        have hA : A.length < O.length := by rw [e]; simp
        have : O[A.length] = O[i] := by
          have h6 : O[A.length]? = some O[i] := by
            conv => lhs; rw [e]
            rw [List.getElem?_append_right (Nat.le_refl _)]; simp
          rw [List.getElem?_eq_getElem hA] at h6; exact OI h6
        exact hinj _ _ hA hi this
      obtain ⟨k, hk, hky⟩ := List.getElem_of_mem hB
      have hkl : A.length + (k + 1) < O.length := by rw [e]; simp; omega
      have h7 : O[A.length + (k + 1)] = y := by
        have h6 : O[A.length + (k + 1)]? = some y := by
          conv => lhs; rw [e]
          rw [List.getElem?_append_right (by omega)]; simp [hk, hky]
        rw [List.getElem?_eq_getElem hkl] at h6; exact OI h6
      have := hinj _ _ hjl hkl (hjy.trans h7.symm); omega
    · exact hno ⟨O[i], y, hlt _ hzO, (hin _).1 hzO, hy, h⟩
end
theorem m_any {l : List Int} {R : List Bool} (hl : l.length ≤ 64) (hin : ∀ x ∈ l, 0 ≤ x ∧ x < 64) : Cf l R = some (l.any fun y => R.getD y.toNat false, R) := by
  have key : ∀ k i : Nat, i + k = l.length → (∀ j, j < i → R.getD (l.getD j 0).toNat false = false) →
      (∃ r : Nat, r < l.length ∧ R.getD (l.getD r 0).toNat false = true ∧ At (Be l) ((i : Int), R) = some (.inr ((r : Int), R))) ∨ ((∀ j, j < l.length → R.getD (l.getD j 0).toNat false = false) ∧ At (Be l) ((i : Int), R) = some (.inl R)) := by
    intro k
    induction k with
    | zero =>
      intro i hi hj
      obtain rfl : i = l.length := by omega
      refine .inr ⟨hj, A7 ?_⟩; unfold Be; simp only [Ee, cond_false]
    | succ k ih =>
      intro i hi hj; obtain ⟨z0, z1⟩ := hin _ (Eb (d := (0 : Int)) (show i < l.length by omega))
      have hf : Et (l.getD i 0) R = some (R.getD (l.getD i 0).toNat false, R) := by
        unfold Et; rw [Ad ⟨z0, z1⟩]
      cases e : R.getD (l.getD i 0).toNat false with
      | true =>
        refine .inl ⟨i, by omega, e, A7 ?_⟩; unfold Be; simp only [Cz (show i < l.length by omega), cond_true, An, hf, Option.bind_some, e]; rw [Ad (D3 (by omega))]
      | false =>
        have hs : Be l ((i : Int), R) = some (.next (((i + 1 : Nat) : Int), R)) := by
          unfold Be; simp only [Cz (show i < l.length by omega), cond_true, An, hf, Option.bind_some, e, cond_false]; rw [Ad (D3 (by omega)), w1 (by omega)]
        rw [Bs hs]
        exact ih (i + 1) (by omega) fun j hj2 => by
          by_cases ej : j = i
          · subst ej; exact e
          · exact hj j (by omega)
  unfold Cf Dd; rcases key l.length 0 (by omega) (fun j hj => absurd hj (Nat.not_lt_zero _)) with ⟨r, h1, h2, h3⟩ | ⟨h1, h2⟩
  · have : (l.any fun y => R.getD y.toNat false) = true := List.any_eq_true.2 ⟨_, Eb h1, h2⟩; rw [this]
    show Option.bind (Option.bind (At _ (((0 : Nat) : Int), R)) _) _ = _
    rw [h3]; simp only [Option.bind_some]; rw [decide_eq_true (by omega)]
  · have : (l.any fun y => R.getD y.toNat false) = false := by
      cases hc : (l.any fun y => R.getD y.toNat false) with
      | false => rfl
      | true =>
        obtain ⟨y, hy, e⟩ := List.any_eq_true.1 hc; obtain ⟨i, hi, ei⟩ := List.getElem_of_mem hy; have := h1 i hi; rw [Ag _ _ _ hi, ei, e] at this
        cases this
    rw [this]
    show Option.bind (Option.bind (At _ (((0 : Nat) : Int), R)) _) _ = _
    rw [h2]
    rfl
def Gl (O : List Nat) : Nat → List Bool
  | 0 => List.replicate 64 false
  | i + 1 => Dm 64 false (Gl O i) (O.getD i 0) true
theorem Se {O : List Nat} : ∀ i, i ≤ O.length → RelS (Gl O i) (fun z => (O.take i).contains z)
  | 0, _ => fun z hz => by rw [Gl, F5]; simp
  | i + 1, h => fun z hz => by
    rw [Gl, Gj hz, Se i (by omega) z hz]
    have e : O.take (i + 1) = O.take i ++ [O.getD i 0] := by rw [List.take_succ_eq_append_getElem (show i < O.length by omega), Ag _ _ _ (show i < O.length by omega)]
    rw [e, Bool.eq_iff_iff]
    by_cases hz' : z = O.getD i 0
    · rw [if_pos hz']; simp [hz']
    · rw [if_neg hz', List.contains_iff_mem, List.contains_iff_mem, List.mem_append, List.mem_singleton]; exact ⟨.inl, fun h => h.resolve_right hz'⟩
theorem Ri (g : Ap) (h1 : Fits g.Succ) (h2 : Fits g.Pred) : Ec g = some (Y8 g) := by
  unfold Ec Y8
  cases hG : Hs g with
  | false =>
    rw [Rh h1 hG, Option.bind_some]
    rfl
  | true =>
    obtain ⟨hm, hg⟩ := L2 hG; obtain ⟨_, h64, hok⟩ := mayS_iff.1 hm; obtain ⟨O, hO, hord, hlt, hlen⟩ := order0 hm; rw [← hg] at hord; have h0 : 0 ∈ O := (hO.mem 0).2 (.refl 0); have hpos : 0 < O.length := List.length_pos_of_mem h0
    have hol : (Ft O).length = O.length := by simp [Ft]
    have hne : ((((Ft O).length : Nat) : Int) == (0 : Int)) = false := beq_eq_false_iff_ne.2 (by rw [hol]; omega)
    have hr : Ic g.Succ [] = Rz g.Succ := by unfold Ic; rw [V1]
    rw [hord, Option.bind_some, hne, cond_false, Bool.true_and, hr, ← okAt_all hm hO]
    have hstep : ∀ i, i < O.length → Cd g (Ft O) ((i : Int), Gl O i) = bif Ke (sN g.Succ) O i then some (.next (((i + 1 : Nat) : Int), Gl O (i + 1))) else some (.done (.inr false)) := fun i hi => by
      unfold Cd; have hz : O[i] < g.Succ.length := hlt _ (List.getElem_mem hi)
      have hd : decide ((i : Int) < (((Ft O).length : Nat) : Int)) = true := by rw [hol]; exact Cz hi
      have hmk : Dm 64 false (Gl O i) O[i] true = Gl O (i + 1) := by rw [Gl, Ag _ _ _ hi]
      have hrl : (g.Succ.getD O[i] []).length ≤ 64 := by have := It (hok _ hz); omega
      have hsm : ∀ x ∈ g.Succ.getD O[i] [], 0 ≤ x ∧ x < (g.Succ.length : Int) := fun x hx => Hw (hok _ hz) hx
      have hany : ((g.Succ.getD O[i] []).any fun y => (Gl O (i + 1)).getD y.toNat false) = !Ke (sN g.Succ) O i := by
        unfold Ke; rw [Bool.not_not, Ag _ _ _ hi]; unfold sN; rw [List.any_map, Bool.eq_iff_iff, List.any_eq_true, List.any_eq_true]; refine exists_congr fun x => and_congr_right fun hx => ?_; obtain ⟨x0, x1⟩ := hsm x hx; rw [Se (i + 1) hi x.toNat (by omega)]
        rfl
      simp only [hd, cond_true, An, ofN_at hi, hmk]; rw [Ad (D3 (by rw [hol]; exact hi)), Ad (D3 (show O[i] < 64 by omega)), Ad (D3 hz), m_any hrl (fun x hx => by have := hsm x hx; omega), Option.bind_some]; simp only [hany]
      cases Ke (sN g.Succ) O i with
      | true => rw [cond_true, Bool.not_true, cond_false, w1 (by omega)]
      | false => rfl
    have hfind := Gx (Cd g (Ft O)) (fun i => (((i : Nat) : Int), Gl O i)) (Ke (sN g.Succ) O) (.inl ()) (.inr false) O.length
      (fun i hi hp => by show Cd g (Ft O) ((i : Int), Gl O i) = _; rw [hstep i hi, hp]; rfl)
      (fun i hi hp => by show Cd g (Ft O) ((i : Int), Gl O i) = _; rw [hstep i hi, hp]; rfl)
      (by
        show Cd g (Ft O) (_, _) = _
        unfold Cd; rw [hol]
        simp only [Ee, cond_false])
    show Option.bind (At (Cd g (Ft O)) (((0 : Nat) : Int), Gl O 0)) _ = _
    rw [hfind]
    cases (List.range O.length).all (Ke (sN g.Succ) O) <;> rfl
theorem m_has2 (W : List (Int × Int)) (v : Int × Int) (hW : W.length ≤ 5000) : Cg W v = some (!F3 W v.1 v.2) := by
  have key : ∀ k i : Nat, i + k = W.length → (∀ j, j < i → ((W.getD j ((0 : Int), (0 : Int))).1 == v.1 && (W.getD j ((0 : Int), (0 : Int))).2 == v.2) = false) →
      (∃ r : Nat, r < W.length ∧ ((W.getD r ((0 : Int), (0 : Int))).1 == v.1 && (W.getD r ((0 : Int), (0 : Int))).2 == v.2) = true ∧ At (Bd W v) (i : Int) = some (.inr (r : Int))) ∨
      ((∀ j, j < W.length → ((W.getD j ((0 : Int), (0 : Int))).1 == v.1 && (W.getD j ((0 : Int), (0 : Int))).2 == v.2) = false) ∧ At (Bd W v) (i : Int) = some (.inl ())) := by
    intro k
    induction k with
    | zero =>
      intro i hi hj
      obtain rfl : i = W.length := by omega
      refine .inr ⟨hj, A7 ?_⟩; unfold Bd; simp only [Ee, cond_false]
    | succ k ih =>
      intro i hi hj
      have hcm : ((v.1 == (W.getD i ((0 : Int), (0 : Int))).1) && ((v.2 == (W.getD i ((0 : Int), (0 : Int))).2) && true)) = ((W.getD i ((0 : Int), (0 : Int))).1 == v.1 && (W.getD i ((0 : Int), (0 : Int))).2 == v.2) := by
        rw [Bool.and_true, Bool.eq_iff_iff, Bool.and_eq_true, Bool.and_eq_true, beq_iff_eq, beq_iff_eq, beq_iff_eq, beq_iff_eq]; exact ⟨fun h => ⟨h.1.symm, h.2.symm⟩, fun h => ⟨h.1.symm, h.2.symm⟩⟩
      cases e : ((W.getD i ((0 : Int), (0 : Int))).1 == v.1 && (W.getD i ((0 : Int), (0 : Int))).2 == v.2) with
      | true =>
        refine .inl ⟨i, by omega, e, A7 ?_⟩; unfold Bd; simp only [Cz (show i < W.length by omega), cond_true, An, hcm, e]; rw [Ad (D3 (by omega))]
      | false =>
        have hs : Bd W v (i : Int) = some (.next ((i + 1 : Nat) : Int)) := by
          unfold Bd; simp only [Cz (show i < W.length by omega), cond_true, An, hcm, e, cond_false]; rw [Ad (D3 (by omega)), w1 (by omega)]
        rw [Bs hs]
        exact ih (i + 1) (by omega) fun j hj2 => by
          by_cases ej : j = i
          · subst ej; exact e
          · exact hj j (by omega)
  unfold Cg Dh; rcases key W.length 0 (by omega) (fun j hj => absurd hj (Nat.not_lt_zero _)) with ⟨r, h1, h2, h3⟩ | ⟨h1, h2⟩
  · have : F3 W v.1 v.2 = false := by
      cases hk : F3 W v.1 v.2 with
      | false => rfl
      | true =>
        unfold F3 at hk; have := List.all_eq_true.1 hk _ (Eb (d := ((0 : Int), (0 : Int))) h1); rw [h2] at this
        cases this
    rw [this]
    show Option.bind (Option.bind (At _ ((0 : Nat) : Int)) _) _ = _
    rw [h3]; simp only [Option.bind_some]; rw [decide_eq_true (by omega)]
    rfl
  · have : F3 W v.1 v.2 = true := by
      unfold F3; refine List.all_eq_true.2 fun p hp => ?_; obtain ⟨i, hi, e⟩ := List.getElem_of_mem hp; have := h1 i hi; rw [Ag _ _ _ hi, e] at this; rw [this]; rfl
    rw [this]
    show Option.bind (Option.bind (At _ ((0 : Nat) : Int)) _) _ = _
    rw [h2]
    rfl
section
variable {L : List (List Int)} (hm : Eu L = true)
include hm
theorem Yf {W : List (Int × Int)} (hW : W.length ≤ 4096) {a : Nat} (ha : a < L.length) (l : List (List Int)) (hl : l.length = L.length) (h0 : l.getD a [] = []) : At (Cb L W (a : Int)) ((0 : Int), l) = some (l.set a (Jy L W a)) := by
  have hroom : (1000 : Nat) ≤ room := by decide
  obtain ⟨_, h64, hok⟩ := mayS_iff.1 hm
  have hrl : (L.getD a []).length ≤ 64 := by have := It (hok a ha); omega
  have hal : a < l.length := by omega
  have hlen : ∀ m, (((L.getD a []).take m).filter (F3 W (a : Int))).length ≤ m := fun m => Nat.le_trans (List.length_filter_le ..) (by simp; omega)
  have e : l.set a (Jy L W a) = l.set a (((L.getD a []).take (L.getD a []).length).filter (F3 W (a : Int))) := by rw [List.take_length]; rfl
  have e0 : l = l.set a (((L.getD a []).take 0).filter (F3 W (a : Int))) := by
    rw [List.take_zero, List.filter_nil]; rw [Ag _ _ _ hal] at h0; rw [← h0]; exact (List.set_getElem_self hal).symm
  have hgo : At (Cb L W (a : Int)) ((0 : Int), l.set a (((L.getD a []).take 0).filter (F3 W (a : Int)))) = some (l.set a (((L.getD a []).take (L.getD a []).length).filter (F3 W (a : Int)))) := by
    refine Do (Cb L W (a : Int)) (fun m => (((m : Nat) : Int), l.set a (((L.getD a []).take m).filter (F3 W (a : Int))))) _ (L.getD a []).length (fun m hmm => ?_) ?_
    · show Cb _ _ _ ((m : Int), _) = _
      unfold Cb
      have hat : (l.set a (((L.getD a []).take m).filter (F3 W (a : Int)))).getD a [] = ((L.getD a []).take m).filter (F3 W (a : Int)) := by rw [Ag _ _ _ (by simpa using hal)]; simp
      have hil : A6 (a : Int) (l.set a (((L.getD a []).take m).filter (F3 W (a : Int)))).length := D3 (by simpa using hal); have hl2 := hlen m; have hh := m_has2 W ((a : Int), (L.getD a []).getD m 0) (by omega); simp only [An, Cz hmm, cond_true, hh, Option.bind_some, hat, List.set_set, Bool.not_not]
      have hnx : ((L.getD a []).take (m + 1)).filter (F3 W (a : Int)) = ((L.getD a []).take m).filter (F3 W (a : Int)) ++ (if F3 W (a : Int) ((L.getD a []).getD m 0) = true then [(L.getD a []).getD m 0] else []) := by
        rw [List.take_succ_eq_append_getElem hmm, List.filter_append, Ag _ _ _ hmm]; rw [List.filter_cons, List.filter_nil]
      rw [Ad (D3 hmm), hnx]
      cases F3 W (a : Int) ((L.getD a []).getD m 0) with
      | true => rw [cond_true, Ad hil, Ad hil, Ad (by simp only [List.length_cons, List.length_nil]; omega), Ad hil, Option.bind_some, w1 (by omega), if_pos rfl]
      | false => rw [cond_false, Option.bind_some, w1 (by omega), if_neg (by simp), List.append_nil]
    · show Cb _ _ _ (_, _) = _
      unfold Cb; simp only [An, Ee, cond_false]
  rw [e, ← hgo]; exact congrArg (fun z => At (Cb L W (a : Int)) ((0 : Int), z)) e0
theorem m_without {W : List (Int × Int)} (hW : W.length ≤ 4096) : Fl L W = some (Od L W) := by
  have hroom : (1000 : Nat) ≤ room := by decide
  obtain ⟨_, h64, _⟩ := mayS_iff.1 hm
  have e0 : List.replicate L.length ([] : List Int) = (List.range L.length).map fun a => if a < 0 then Jy L W a else [] := by
    refine List.ext_getElem (by simp) fun i g1 g2 => by simp
  have e1 : Od L W = (List.range L.length).map fun a => if a < L.length then Jy L W a else [] := Gn fun a ha => by rw [if_pos ha]
  have hl : At (C4 L W) ((0 : Int), List.replicate L.length ([] : List Int)) = some (Od L W) := by
    rw [e0, e1]; refine Do (C4 L W) (fun m => (((m : Nat) : Int), (List.range L.length).map fun a => if a < m then Jy L W a else [])) _ L.length (fun m hmm => ?_) ?_
    · show C4 _ _ ((m : Int), _) = _
      unfold C4; simp only [Cz hmm, cond_true]; rw [Ad (D3 hmm), Yf hm hW hmm _ (by simp) (by rw [I5 hmm, if_neg (by omega)]), Option.bind_some, w1 (by omega), Oq]
      congr 3
      refine Gn fun x hx => ?_
      by_cases e : x = m
      · subst e; rw [if_pos rfl, if_pos (by omega)]
      · rw [if_neg e]
        by_cases e2 : x < m
        · rw [if_pos e2, if_pos (by omega)]
        · rw [if_neg e2, if_neg (by omega)]
    · show C4 _ _ (_, _) = _
      unfold C4; simp only [Ee, cond_false]
  unfold Fl; rw [Ad ⟨by omega, by omega, by omega⟩, An, hl]
  rfl
end
theorem Zk (g : Ap) (h1 : Fits g.Succ) (h2 : Fits g.Pred) : D9 g = some (redG g) := by
  unfold D9 redG; rw [m_may g h1, Option.bind_some]
  cases hG : Hs g with
  | false => rfl
  | true =>
    obtain ⟨hm, hg⟩ := L2 hG
    have hb : Dw g = some (Bz g.Succ) := by rw [J9 g h1 h2]; unfold Ju; rw [if_pos hG]
    have hW := L9 (mayS_iff.1 hm).2.1; have hc := cutL_may hm (Bz g.Succ); obtain ⟨f1, f2⟩ := Nm hc
    have hf : Y8 (I4 (Od g.Succ (Bz g.Succ))) = !Ic g.Succ (Bz g.Succ) := by
      unfold Y8; rw [Ol hc, Bool.true_and]
      show (!Ic (Od g.Succ (Bz g.Succ)) []) = _
      unfold Ic; rw [V1]
    rw [Bool.not_true, cond_false, hb, Option.bind_some, m_without hm hW, Option.bind_some, Ym (Od g.Succ (Bz g.Succ)) f1, hc, cond_true, Option.bind_some, Ri _ f1 f2, Option.bind_some, hf, Bool.true_and]
theorem facts10 : Uw := ⟨J9, Qi, U6, Zk, Ri⟩
end
end Go.Proofs.Ytjpacggpipflcaa

namespace Go.Proofs.Ytjpacggpipflcaa
noncomputable section
open Go Go.RowKit
end
end Go.Proofs.Ytjpacggpipflcaa

namespace Go.Proofs.Ytjpacggpipflcaa
noncomputable section
open Go Go.RowKit
set_option linter.unusedVariables false
abbrev Iall (w : World) : Nat → Nat → Prop := fun b o => ∃ u, w.cell? ⟨b, o, none⟩ = some u
structure CRep (w : World) (cs : List Value) (avs : List AV) : Prop where
  len : cs.length = avs.length
  one : ∀ j, j < avs.length → (cs.getD j undef).oneCell' = true
  rep : ∀ j, j < avs.length → RepV (Iall w) w (cs.getD j undef) (avs.getD j .any)
structure Sj (P : Program) (t : TypeId) {α : Type} (e : α → List AV) (ok : α → Prop) : Prop where
  get : ∀ {H : Type} {enc : TypeId × Value → H} {w : World} {base : Nat} {spare : Nat → Bool} {held : Bool} {fuel : Nat} {cs : List Value} {x : DataW H × List MemPlace},
    DataW.trod enc P w base spare held fuel t cs = some x → ∃ a, ok a ∧ CRep w cs (e a)
theorem Rg {w : World} {v : Value} {x : AV} (h1 : v.oneCell' = true) (h : RepV (Iall w) w v x) : CRep w [v] [x] :=
  ⟨rfl, fun j hj => (by
      have hj0 : j = 0 := by simpa using hj
      subst hj0
      exact h1), fun j hj => (by
      have hj0 : j = 0 := by simpa using hj
      subst hj0
      exact h)⟩
theorem opens_int {P : Program} {t : TypeId} {k : IntKind} {e : Int → List AV} (ht : P.underlying t = some (.int k)) (he : ∀ n, e n = [.int k n]) : Sj P t e (fun n => (Lit.int k n).wf = true) := by
  refine ⟨?_⟩; intro H enc w base spare held fuel cs x h; obtain ⟨n, rfl, rfl, hw⟩ := DataW.trod_int ht h; exact ⟨n, hw, by rw [he]; exact Rg rfl (.int _ _)⟩
theorem Zu {w : World} {base : Nat} {a : Addr} {n : Nat} {cs : List Value} (h : w.cells? base a n = some cs) : cs.length = n ∧ ∀ i, i < n → w.cell? (a.add i) = some (cs.getD i undef) := by
  unfold World.cells? at h
  split at h
  · have hl := mapM_some_length h; simp at hl; refine ⟨hl, fun i hi => ?_⟩; have := mapM_some_get h i i (by simp [hi]); rw [this]; simp [List.getD, show i < cs.length by omega]
  · cases h
theorem Pp {P : Program} {t el : TypeId} {α : Type} {e : α → List AV} {ok : α → Prop} {sz : Nat} {d : α} {e' : List α → List AV} (ht : P.underlying t = some (.slice el)) (hs : P.cellsOf el = sz) (h1 : 1 ≤ sz) (he : Sj P el e ok) (hlen : ∀ a, (e a).length = sz)
    (he' : ∀ l, e' l = [AV.list sz e d l .none]) : Sj P t e' (fun l => (∀ a ∈ l, ok a) ∧ l.length ≤ maxLen) := by
  refine ⟨?_⟩; intro H enc w base spare held fuel cs x h; rcases DataW.trod_slice ht h with ⟨rfl, rfl⟩ | ⟨a, len, cap, elems, rest, n, _, rfl, rfl, hb, hl, hm, hlen2, hel, _⟩
  · exact ⟨[], ⟨by simp, by simp⟩, by rw [he']; exact Rg rfl (.slice none 0 0 sz _ (fun _ => undef) (Nat.le_refl _) (by simp) (fun h => by simp at h) (fun _ => rfl) (fun j hj => by simp at hj) (fun i hi => by simp at hi) (fun i c hi => by simp at hi))⟩
  · have each : ∀ i : Fin len, ∃ b, ok b ∧ ∃ cs, w.cells? base (a.add (i.1 * sz)) sz = some cs ∧ CRep w cs (e b) := fun ⟨i, hi⟩ => by
      have := hel i hi; rw [hs, List.getElem?_eq_getElem (by omega), Option.bind_eq_some_iff] at this; obtain ⟨cs, hcs, htr⟩ := this; obtain ⟨b, hb, hr⟩ := he.get htr; exact ⟨b, hb, cs, hcs, hr⟩
    let f : Fin len → α := fun i => (each i).choose
    have hf : ∀ i, ok (f i) ∧ ∃ cs, w.cells? base (a.add (i.1 * sz)) sz = some cs ∧ CRep w cs (e (f i)) := fun i => (each i).choose_spec
    have hlf : (List.ofFn f).length = len := by simp
    refine ⟨List.ofFn f, ⟨fun b hb => ?_, by simp; omega⟩, ?_⟩
    · obtain ⟨i, rfl⟩ := List.mem_ofFn.1 hb; exact (hf i).1
    rw [he']; refine Rg rfl ?_
    have hcell0 : ∀ i (hi : i < len), ∀ c, c < sz → ∃ u, w.cell? ((a.add (i * sz)).add c) = some u ∧ u.oneCell' = true ∧ RepV (Iall w) w u ((e (f ⟨i, hi⟩)).getD c .any) := fun i hi c hc => by
      obtain ⟨_, cs, hcs, hr⟩ := hf ⟨i, hi⟩; obtain ⟨hl, hg⟩ := Zu hcs; exact ⟨_, hg c hc, hr.one c (by rw [hlen]; exact hc), hr.rep c (by rw [hlen]; exact hc)⟩
    have hspot : 0 < len → a.spot = none := fun hp => by
      obtain ⟨u, hu, _⟩ := hcell0 0 hp 0 h1; have h2 := World.cell?_spot hu
      simpa [Addr.add] using h2
    have hcell : ∀ i (hi : i < len), ∀ c, c < sz → ∃ u, w.cell? ⟨a.block, a.off + (i * sz + c), none⟩ = some u ∧ u.oneCell' = true ∧ RepV (Iall w) w u ((e (f ⟨i, hi⟩)).getD c .any) := fun i hi c hc => by
      obtain ⟨u, hu, h1, h2⟩ := hcell0 i hi c hc; have hsp := hspot (by omega); rw [Fm hsp, Addr.add_lit] at hu; exact ⟨u, by rw [← Nat.add_assoc]; exact hu, h1, h2⟩
    have hdm : ∀ j, j < len * sz → ∃ i c, i < len ∧ c < sz ∧ j = i * sz + c := fun j hj => by
      refine ⟨j / sz, j % sz, (Nat.div_lt_iff_lt_mul (by omega)).2 hj, Nat.mod_lt _ (by omega), ?_⟩; rw [Nat.mul_comm]; exact (Nat.div_add_mod j sz).symm
    unfold AV.list; rw [hlf]; refine .slice (some a) len cap sz _ (fun j => (w.cell? ⟨a.block, a.off + j, none⟩).getD undef) hl hm (fun hp => ⟨a, rfl, hspot hp, fun j hj => ?_, fun j hj => ?_⟩) (fun h => by cases h) (fun j hj => ?_) (fun i hi => hlen _) (fun i c hi hc => ?_)
    · obtain ⟨i, c, hi, hc, rfl⟩ := hdm j hj; obtain ⟨u, hu, _⟩ := hcell i hi c hc; exact ⟨u, hu⟩
    · obtain ⟨i, c, hi, hc, rfl⟩ := hdm j hj; obtain ⟨u, hu, _⟩ := hcell i hi c hc; rw [hu]; rfl
    · obtain ⟨i, c, hi, hc, rfl⟩ := hdm j hj; obtain ⟨u, hu, h1, _⟩ := hcell i hi c hc; simp only [hu]; exact h1
    · obtain ⟨u, hu, _, h2⟩ := hcell i hi c hc
      have e1 : (List.ofFn f).getD i d = f ⟨i, hi⟩ := by simp [List.getD, hi]
      rw [e1, hu]; exact h2
structure OpensF (P : Program) (fs : List Field) (off N : Nat) {α : Type} (e : α → List AV) (ok : α → Prop) : Prop where
  get : ∀ {H : Type} {enc : TypeId × Value → H} {w : World} {base : Nat} {spare : Nat → Bool} {held : Bool} {n : Nat} {cs : List Value}, cs.length = N →
    (∀ f ∈ fs, ∃ x, DataW.trod enc P w base spare held n f.type ((cs.drop f.offset).take (P.cellsOf f.type)) = some x) → ∃ a, ok a ∧ CRep w (cs.drop off) (e a)
theorem arg_one {P : Program} {t : TypeId} {α : Type} {e : α → List AV} {ok : α → Prop} (h : Sj P t e ok) {x : α → AV} (he : ∀ a, e a = [x a]) {H : Type} {enc : TypeId × Value → H} {w : World} {base : Nat} {spare : Nat → Bool} {held : Bool} {v : Value} {d : DataW H} {ps : List MemPlace}
    (hv : v.cells = #[v]) (hd : DataW.Trod enc P w base spare held t v d ps) : ∃ a, ok a ∧ RepV (Iall w) w v (x a) := by
  obtain ⟨fuel, hf⟩ := hd; obtain ⟨a, ha, hr⟩ := h.get hf; refine ⟨a, ha, ?_⟩; have := hr.rep 0 (by simp [he])
  simpa [hv, he] using this
end
end Go.Proofs.Ytjpacggpipflcaa

namespace Go.Proofs.Ytjpacggpipflcaa
noncomputable section
open Go Go.RowKit
def okI64 (n : Int) : Prop := (Lit.int .i64 n).wf = true
theorem op_3 : Sj Try.prog 3 Ac okI64 := opens_int Try.underlying3 (fun _ => rfl)
def okLI64 (l : List (Int)) : Prop := (∀ a ∈ l, okI64 a) ∧ l.length ≤ maxLen
theorem op_36 : Sj Try.prog 36 eLI64 okLI64 := Pp (d := (0 : Int)) Try.underlying36 (by kernel_rfl) (by decide) op_3 (fun _ => rfl) (fun _ => rfl)
def okLLI64 (l : List (List (Int))) : Prop := (∀ a ∈ l, okLI64 a) ∧ l.length ≤ maxLen
theorem op_22 : Sj Try.prog 22 eLLI64 okLLI64 := Pp (d := []) Try.underlying22 (by kernel_rfl) (by decide) op_36 (fun _ => rfl) (fun _ => rfl)
end
end Go.Proofs.Ytjpacggpipflcaa
