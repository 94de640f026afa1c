/-
  The machine, the program's functions and the laws' arithmetic: part 3 of 6.
-/
import Derived.Test.YtlkcijaejngomaaPk2
import Derived.Test.YtlkcijaejngomaaProg
set_option linter.unusedVariables false
set_option linter.unusedSimpArgs false
namespace Go.Proofs.Ytlkcijaejngomaa
open Go Go.RowKit

/-! ### Loops, as functions -/
inductive LR (S X : Type) where
  | next (s : S)
  | done (x : X)

inductive LRuns {S X : Type} (f : S → Option (LR S X)) : S → X → Nat → Prop
  | done {s : S} {x : X} (h : f s = some (.done x)) : LRuns f s x 0
  | next {s s' : S} {x : X} {n : Nat} (h : f s = some (.next s')) (t : LRuns f s' x n) : LRuns f s x (n + 1)

theorem LRuns.unique {S X : Type} {f : S → Option (LR S X)} {s : S} {x y : X} {n m : Nat} (h : LRuns f s x n) (k : LRuns f s y m) : x = y := by
  induction h generalizing m with
  | done h => cases k with
    | done h' => rw [h] at h'; cases h'; rfl
    | next h' _ => rw [h] at h'; cases h'
  | next h _ ih => cases k with
    | done h' => rw [h] at h'; cases h'
    | next h' t' => rw [h] at h'; cases h'; exact ih t'

open Classical in
/-- Round and round till it is done; none, if it never is, or comes to nothing. -/
noncomputable def loopO {S X : Type} (f : S → Option (LR S X)) (s : S) : Option X :=
  if h : ∃ x n, LRuns f s x n then some h.choose else none

theorem loopO_iff {S X : Type} {f : S → Option (LR S X)} {s : S} {x : X} : loopO f s = some x ↔ ∃ n, LRuns f s x n := by
  unfold loopO
  constructor
  · intro h
    split at h
    · rename_i hx
      obtain ⟨n, hn⟩ := hx.choose_spec
      simp only [Option.some.injEq] at h
      subst h
      exact ⟨n, hn⟩
    · cases h
  · rintro ⟨n, hn⟩
    have hx : ∃ x n, LRuns f s x n := ⟨x, n, hn⟩
    rw [dif_pos hx]
    obtain ⟨m, hm⟩ := hx.choose_spec
    rw [hm.unique hn]
theorem loopO_done {S X : Type} {f : S → Option (LR S X)} {s : S} {x : X} (h : f s = some (.done x)) : loopO f s = some x := loopO_iff.2 ⟨0, .done h⟩
theorem loopO_next {S X : Type} {f : S → Option (LR S X)} {s s' : S} (h : f s = some (.next s')) : loopO f s = loopO f s' := by
  apply Option.ext
  intro x
  constructor
  · intro hx
    obtain ⟨n, hn⟩ := loopO_iff.1 hx
    cases hn with
    | done h' => rw [h] at h'; cases h'
    | next h' t => rw [h] at h'; cases h'; exact loopO_iff.2 ⟨_, t⟩
  · intro hx
    obtain ⟨n, hn⟩ := loopO_iff.1 hx
    exact loopO_iff.2 ⟨_, .next h hn⟩
theorem loopO_none {S X : Type} {f : S → Option (LR S X)} {s : S} (h : f s = none) : loopO f s = none := by
  cases hx : loopO f s with
  | none => rfl
  | some x =>
    obtain ⟨n, hn⟩ := loopO_iff.1 hx
    cases hn with
    | done h' => rw [h] at h'; cases h'
    | next h' t => rw [h] at h'; cases h'

/-- What is asked for must hold. -/
def chk {R : Type} (p : Prop) [Decidable p] (k : Option R) : Option R := if p then k else none
theorem chk_some {R : Type} {p : Prop} [Decidable p] {k : Option R} {r : R} (h : chk p k = some r) : p ∧ k = some r := by
  unfold chk at h
  split at h
  · exact ⟨‹p›, h⟩
  · cases h
theorem chk_pos {R : Type} {p : Prop} [Decidable p] {k : Option R} (h : p) : chk p k = k := by simp [chk, h]
/-- From labels to labels, till it is done. -/
noncomputable def scopeO {S X : Type} (f0 : Option (LR S X)) (f : S → Option (LR S X)) : Option X := f0.bind fun | .next s => loopO f s | .done x => some x
theorem bind_some {A R : Type} {x : Option A} {k : A → Option R} {r : R} (h : x.bind k = some r) : ∃ a, x = some a ∧ k a = some r := Option.bind_eq_some_iff.1 h

section
variable {P : Program} {Γ : Env}

/-! ### From store to store without a step -/
def Le (Γ : Env) (st st' : St) : Prop := ∀ (I : Nat → Nat → Prop) (θ : Nat → Option (Nat × Nat)) (a : Act) (w : World), Rel Γ st.sto I θ a w → ∃ I' θ', Rel Γ st'.sto I' θ' a w
theorem Le.refl (Γ : Env) (st : St) : Le Γ st st := fun I θ _ _ h => ⟨I, θ, h⟩
theorem Le.trans {st st' st'' : St} (h : Le Γ st st') (k : Le Γ st' st'') : Le Γ st st'' := fun I θ a w hr => let ⟨I', θ', hr'⟩ := h I θ a w hr; k I' θ' a w hr'

theorem AVle.refl (x : AV) : AVle x x := fun _ _ _ _ _ h => h
theorem AVle.any (x : AV) : AVle x .any := fun _ _ _ _ v _ => .val _ _ (.any v)
theorem RepV.slice_ext {I : Nat → Nat → Prop} {w : World} {v : Value} {sz n : Nat} {f g : Nat → List AV} (h : RepV I w v (.slice sz n f .none)) (hf : ∀ i, i < n → f i = g i) : RepV I w v (.slice sz n g .none) := by
  obtain ⟨_, ad, cap, us, rfl, hcap, hmax, hz, hn, h1, hl, hr⟩ := h.slice_inv
  exact .slice ad n cap sz g us hcap hmax hz hn h1 (fun i hi => by rw [← hf i hi]; exact hl i hi) (fun i c hi hc => by rw [← hf i hi]; exact hr i c hi hc)
/-- The same elements. -/
theorem AVle.slice {sz n n' : Nat} {f g : Nat → List AV} {t : Tag} (hn : n = n') (hf : ∀ i, i < n → f i = g i) : AVle (.slice sz n f t) (.slice sz n' g t) := by
  subst hn
  intro I own θ w v h
  cases h with
  | val v x h => obtain ⟨rfl, _⟩ := h.slice_inv; exact .val _ _ (h.slice_ext hf)
  | exact a n sz f h => exact .exact a n sz g (h.slice_ext hf)
  | own nm sz e m a n cap f ho hm hv h => exact .own nm sz e m a n cap g ho hm hv (h.slice_ext hf)
  | fam b i sz e m a n cap f hi ho hm hv h => exact .fam b i sz e m a n cap g hi ho hm hv (h.slice_ext hf)
/-- The tag forgotten. -/
theorem AVle.untag {sz n : Nat} {f : Nat → List AV} {t : Tag} : AVle (.slice sz n f t) (.slice sz n f .none) := fun _ _ _ _ _ h => .val _ _ h.slice_val
/-- Without elements any size serves. -/
theorem AVle.empty {sz sz' n : Nat} {f g : Nat → List AV} {t : Tag} (hn : n = 0) (ht : ∀ nm, t ≠ .own nm) (ht' : ∀ b i, t ≠ .fam b i := by intro _ _ h; cases h) : AVle (.slice sz n f t) (.slice sz' n g t) := by
  subst hn
  intro I own θ w v h
  have key : ∀ v, RepV I w v (.slice sz 0 f .none) → RepV I w v (.slice sz' 0 g .none) := fun v h => by
    obtain ⟨_, ad, cap, us, rfl, hcap, hmax, hz, hn, h1, hl, hr⟩ := h.slice_inv
    exact .slice ad 0 cap sz' g us hcap hmax (fun h => by omega) hn (fun j hj => by omega) (fun i hi => by omega) (fun i c hi => by omega)
  cases h with
  | val v x h => obtain ⟨rfl, _⟩ := h.slice_inv; exact .val _ _ (key _ h)
  | exact a n sz f h => exact .exact a _ sz' g (key _ h)
  | own nm => exact (ht nm rfl).elim
  | fam b i => exact (ht' b i rfl).elim

inductive AVleL : List AV → List AV → Prop
  | nil : AVleL [] []
  | cons {x y : AV} {l m : List AV} (h : AVle x y) (t : AVleL l m) : AVleL (x :: l) (y :: m)
theorem AVleL.length {l m : List AV} (h : AVleL l m) : l.length = m.length := by induction h with | nil => rfl | cons _ _ ih => simp [ih]
theorem AVleL.get {l m : List AV} (h : AVleL l m) (j : Nat) : AVle (l.getD j .any) (m.getD j .any) := by
  induction h generalizing j with
  | nil => exact .refl _
  | cons h _ ih => cases j with
    | zero => simpa using h
    | succ j => simpa using ih j
theorem AVleL.refl (l : List AV) : AVleL l l := by induction l with | nil => exact .nil | cons x l ih => exact .cons (.refl x) ih
theorem AVle.agg {l m : List AV} (h : AVleL l m) : AVle (.agg l) (.agg m) := by
  intro I own θ w v hv
  obtain ⟨vs, rfl, hl, h1, hr⟩ := hv.agg_inv
  exact .agg vs m (by rw [hl, h.length]) (fun j hj => h1 j (by rw [h.length]; exact hj)) (fun j hj => h.get j I own θ w _ (hr j (by rw [h.length]; exact hj)))
theorem AVle.tuple {l m : List AV} (h : AVleL l m) : AVle (.tuple l) (.tuple m) := by
  intro I own θ w v hv
  obtain ⟨vs, rfl, hl, hr⟩ := hv.tuple_inv
  exact .tuple vs m (by rw [hl, h.length]) (fun j hj => h.get j I own θ w _ (hr j (by rw [h.length]; exact hj)))

inductive TmpsLe : List (Nat × AV) → List (Nat × AV) → Prop
  | nil : TmpsLe [] []
  | cons {t : Nat} {x y : AV} {l m : List (Nat × AV)} (h : AVle x y) (k : TmpsLe l m) : TmpsLe ((t, x) :: l) ((t, y) :: m)
inductive OwnsLe : List (Nat × Own) → List (Nat × Own) → Prop
  | nil : OwnsLe [] []
  | row {n : Nat} {e : TypeId} {x y : List AV} {l m : List (Nat × Own)} (h : AVleL x y) (k : OwnsLe l m) : OwnsLe ((n, .row e x) :: l) ((n, .row e y) :: m)
  | same {n : Nat} {o : Own} {l m : List (Nat × Own)} (k : OwnsLe l m) : OwnsLe ((n, o) :: l) ((n, o) :: m)
  | arr {n sz : Nat} {e : TypeId} {k : Nat} {f g : Nat → List AV} {l m : List (Nat × Own)} (h : ∀ i, i < k → AVleL (f i) (g i)) (t : OwnsLe l m) : OwnsLe ((n, .arr sz e k f) :: l) ((n, .arr sz e k g) :: m)
theorem TmpsLe.refl (l : List (Nat × AV)) : TmpsLe l l := by induction l with | nil => exact .nil | cons x l ih => exact .cons (.refl _) ih
theorem OwnsLe.refl (l : List (Nat × Own)) : OwnsLe l l := by induction l with | nil => exact .nil | cons x l ih => exact .same ih
theorem TmpsLe.get {l m : List (Nat × AV)} (h : TmpsLe l m) (t : Nat) : AVle (match look l t with | some x => x | none => .any) (match look m t with | some x => x | none => .any) := by
  induction h with
  | nil => exact .refl _
  | @cons t' x y l m h _ ih =>
    simp only [look]
    cases Nat.beq t' t with
    | true => exact h
    | false => exact ih
theorem OwnsLe.get {l m : List (Nat × Own)} (h : OwnsLe l m) (n : Nat) : (∀ o, look l n = some o → ∃ o', look m n = some o' ∧ (o = o' ∨ (∃ e x y, o = .row e x ∧ o' = .row e y ∧ AVleL x y) ∨ ∃ sz e k f g, o = .arr sz e k f ∧ o' = .arr sz e k g ∧ ∀ i, i < k → AVleL (f i) (g i))) ∧ (∀ o', look m n = some o' → ∃ o, look l n = some o) := by
  induction h with
  | nil => exact ⟨(fun o h => by cases h), (fun o h => by cases h)⟩
  | @row n' e x y l m h _ ih =>
    simp only [look]
    cases Nat.beq n' n with
    | true =>
      refine ⟨fun o ho => ?_, fun o ho => ⟨_, rfl⟩⟩
      simp only [cond_true, Option.some.injEq] at ho
      subst ho
      exact ⟨_, rfl, .inr (.inl ⟨e, x, y, rfl, rfl, h⟩)⟩
    | false => exact ih
  | @arr n' sz e k f g l m h _ ih =>
    simp only [look]
    cases Nat.beq n' n with
    | true =>
      refine ⟨fun o ho => ?_, fun o ho => ⟨_, rfl⟩⟩
      simp only [cond_true, Option.some.injEq] at ho
      subst ho
      exact ⟨_, rfl, .inr (.inr ⟨sz, e, k, f, g, rfl, rfl, h⟩)⟩
    | false => exact ih
  | @same n' o l m _ ih =>
    simp only [look]
    cases Nat.beq n' n with
    | true => exact ⟨fun o ho => ⟨o, ho, .inl rfl⟩, fun o ho => ⟨o, ho⟩⟩
    | false => exact ih

theorem le_of {st st' : St} (ht : TmpsLe st.tmps st'.tmps) (ho : OwnsLe st.own st'.own) (hfam : st'.fam = st.fam := by rfl) : Le Γ st st' := by
  intro I θ a w h
  have hg1 : ∀ nm o, st.sto.own nm = some o → ∃ o', st'.sto.own nm = some o' ∧ (o = o' ∨ (∃ e x y, o = .row e x ∧ o' = .row e y ∧ AVleL x y) ∨ ∃ sz e k f g, o = .arr sz e k f ∧ o' = .arr sz e k g ∧ ∀ i, i < k → AVleL (f i) (g i)) := fun nm o hn => by
    by_cases hlt : nm < famB
    · have hn' : look st.own nm = some o := by rw [← hn]; exact (famOwn_lt hlt).symm
      obtain ⟨o', h1, h2⟩ := (ho.get nm).1 o hn'
      exact ⟨o', (famOwn_lt hlt).trans h1, h2⟩
    · refine ⟨o, ?_, .inl rfl⟩
      rw [← hn]
      show famOwn _ _ nm = famOwn _ _ nm
      rw [famOwn_ge hlt, famOwn_ge hlt, hfam]
  have hg2 : ∀ nm o', st'.sto.own nm = some o' → ∃ o, st.sto.own nm = some o := fun nm o' hn => by
    by_cases hlt : nm < famB
    · have hn' : look st'.own nm = some o' := by rw [← hn]; exact (famOwn_lt hlt).symm
      obtain ⟨o, h1⟩ := (ho.get nm).2 o' hn'
      exact ⟨o, (famOwn_lt hlt).trans h1⟩
    · refine ⟨o', ?_⟩
      rw [← hn]
      show famOwn _ _ nm = famOwn _ _ nm
      rw [famOwn_ge hlt, famOwn_ge hlt, hfam]
  have hmono : ∀ v x, Rep I st.sto.own θ w v x → Rep I st'.sto.own θ w v x := fun v x h => h.mono (fun _ _ h => h) (fun _ _ _ => rfl) fun nm o hn => by
    obtain ⟨o', h1, h2⟩ := hg1 nm o hn
    refine ⟨o', h1, ?_⟩
    rcases h2 with rfl | ⟨e1, x, y, rfl, rfl, _⟩ | ⟨sz, e, k, f, g, rfl, rfl, _⟩
    · exact .refl _ _
    · exact ⟨rfl, rfl⟩
    · exact ⟨rfl, rfl, Nat.le_refl _, fun _ => rfl⟩
  refine ⟨I, θ, h.size, h.defers, fun t => hmono _ _ (ht.get t I _ θ w _ (h.slots t)), { h.chg with le := fun nm o hn => ?_, rel := ⟨fun nm e0 cells hn => ?_, fun nm sz e m hn => ?_, fun nm nm' g c c' hn hn' => ?_, fun nm sz e m f hn => ?_, fun nm x hn => ?_, fun nm sz m hn hnn => ?_⟩, new := fun nm g c hn hg => ?_ }⟩
  rotate_left 6
  · obtain ⟨o, h1⟩ := hg2 nm _ hn
    obtain ⟨o', h2, h3⟩ := hg1 nm o h1
    have e' : st'.sto.own nm = some o' := h2
    rw [e'] at hn
    obtain rfl := Option.some.inj hn
    rcases h3 with rfl | ⟨e1, x, y, rfl, h5, h6⟩ | ⟨sz, e, k, f, g, rfl, h5, h6⟩
    · exact h.chg.rel.tok8 nm _ _ h1 hnn
    · cases h5
    · cases h5
  rotate_right 6
  rotate_left 5
  · obtain ⟨o, h1⟩ := hg2 nm _ hn
    obtain ⟨o', h2, h3⟩ := hg1 nm o h1
    have e' : st'.sto.own nm = some o' := h2
    rw [e'] at hn
    obtain rfl := Option.some.inj hn
    rcases h3 with rfl | ⟨e1, x, y, rfl, h5, h6⟩ | ⟨sz, e, k, f, g, rfl, h5, h6⟩
    · exact obj_map (h.chg.rel.obj nm _ h1) rfl (fun _ _ _ => rfl) (fun _ _ _ _ h => h) (fun _ hh => hh.mono hmono) id_nil
    · cases h5
    · cases h5
  rotate_left 1
  · obtain ⟨o', h1, h2⟩ := h.chg.le nm o hn
    obtain ⟨o'', h3, h4⟩ := hg1 nm o' h1
    refine ⟨o'', h3, ?_⟩
    rcases h4 with rfl | ⟨e1, x, y, rfl, rfl, _⟩ | ⟨sz, e, k, f, g, rfl, rfl, _⟩
    · exact h2
    · cases o <;> simp_all [OwnLe]
    · cases o <;> simp_all [OwnLe]
  · obtain ⟨o, h1⟩ := hg2 nm _ hn
    obtain ⟨o', h2, h3⟩ := hg1 nm o h1
    have e : st'.sto.own nm = some o' := h2
    rw [e] at hn
    obtain rfl := Option.some.inj hn
    rcases h3 with rfl | ⟨e1, x, y, rfl, h5, h6⟩ | ⟨sz, e, k, f, g, rfl, h5, h6⟩
    rotate_left 2
    · cases h5
    · obtain ⟨g, c, vs, r1, r2, r3, r4, r5, r6⟩ := h.chg.rel.row nm _ _ h1
      exact ⟨g, c, vs, r1, r2, r3, r4, fun j hj => hmono _ _ (r5 j hj), r6⟩
    · simp only [Own.row.injEq] at h5
      obtain ⟨rfl, rfl⟩ := h5
      obtain ⟨g, c, vs, r1, r2, r3, r4, r5, r6⟩ := h.chg.rel.row nm _ _ h1
      exact ⟨g, c, vs, r1, r2, by rw [r3, h6.length], fun j hj => r4 j (by rw [h6.length]; exact hj), fun j hj => hmono _ _ (h6.get j I _ θ w _ (r5 j (by rw [h6.length]; exact hj))), r6⟩
  · obtain ⟨o, h1⟩ := hg2 nm _ hn
    obtain ⟨o', h2, h3⟩ := hg1 nm o h1
    have e' : st'.sto.own nm = some o' := h2
    rw [e'] at hn
    obtain rfl := Option.some.inj hn
    rcases h3 with rfl | ⟨e1, x, y, rfl, h5, h6⟩ | ⟨sz, e, k, f, g, rfl, h5, h6⟩
    · exact h.chg.rel.tok nm _ _ _ h1
    · cases h5
    · cases h5
  · have hx : ∀ nm, st'.sto.own nm ≠ none → st.sto.own nm ≠ none := fun nm hn => by
      cases hs : st'.sto.own nm with
      | none => exact (hn hs).elim
      | some o => obtain ⟨o', h1⟩ := hg2 nm _ hs; have : st.sto.own nm = some o' := h1; simp [this]
    exact h.chg.rel.inj nm nm' g c c' (hx nm hn) (hx nm' hn')
  · obtain ⟨o, h1⟩ := hg2 nm _ hn
    obtain ⟨o', h2, h3⟩ := hg1 nm o h1
    have e' : st'.sto.own nm = some o' := h2
    rw [e'] at hn
    obtain rfl := Option.some.inj hn
    rcases h3 with rfl | ⟨e1, x, y, rfl, h5, h6⟩ | ⟨sz', e2, k, f2, g, rfl, h5, h6⟩
    · exact arr_map (h.chg.rel.arr nm _ _ _ _ h1) rfl (fun _ _ _ => rfl) (fun _ _ _ _ h => h) (fun _ _ => rfl) (fun v i j _ _ hv => hmono _ _ hv)
    · cases h5
    · simp only [Own.arr.injEq] at h5
      obtain ⟨rfl, rfl, rfl, rfl⟩ := h5
      exact arr_map (h.chg.rel.arr nm _ _ _ _ h1) rfl (fun _ _ _ => rfl) (fun _ _ _ _ h => h) (fun i hi => (h6 i hi).length.symm) (fun v i j hi _ hv => hmono _ _ ((h6 i hi).get j I _ θ w v hv))
  · refine h.chg.new nm g c ?_ hg
    cases hs : st'.sto.own nm with
    | none => exact (hn hs).elim
    | some o => obtain ⟨o', h1⟩ := hg2 nm _ hs; have : st.sto.own nm = some o' := h1; simp [this]

/-- Less is told. -/
theorem le_restrict {st : St} (live names : List Nat) (hn : ∀ nm, Γ.own0 nm ≠ none → nm ∈ names) : Le Γ st (restrict live names st) := fun I θ _ _ h => ⟨I, θ, rel_restrict h hn⟩

/-- The same for a cell of a row. -/
theorem le_tag_cell {st : St} {r j nm sz sz' n : Nat} {e0 : TypeId} {f : Nat → List AV} {cells : List AV} (g : Nat → List AV) (e : TypeId) (hr : look st.own r = some (.row e0 cells)) (hs : cells.getD j .any = .slice sz n f .exact) (hj : j < cells.length) (hn : look st.own nm = none) (hz : (sz = sz' ∧ f = g) ∨ n = 0) (h8 : e = tokU8 → n = 0) (hlt : Nat.blt nm famB = true := by rfl) (hltr : Nat.blt r famB = true := by rfl) :
    Le Γ st ⟨st.tmps, putA (putA st.own r (.row e0 (cells.set j (.slice sz' n g (.own nm))))) nm (.tok sz' e n), st.fam⟩ := by
  intro I θ a w h
  have hlt : nm < famB := by simpa [Nat.blt_eq] using hlt
  have hltr : r < famB := by simpa [Nat.blt_eq] using hltr
  have hn : st.sto.own nm = none := (famOwn_lt hlt).trans hn
  have hr : st.sto.own r = some (.row e0 cells) := (famOwn_lt hltr).trans hr
  have hne : r ≠ nm := by rintro rfl; rw [hr] at hn; cases hn
  let own' : Nat → Option Own := fun k => if k = nm then some (.tok sz' e n) else if k = r then some (.row e0 (cells.set j (.slice sz' n g (.own nm)))) else st.sto.own k
  have hown : (⟨st.tmps, putA (putA st.own r (.row e0 (cells.set j (.slice sz' n g (.own nm))))) nm (.tok sz' e n), st.fam⟩ : St).sto.own = own' := by
    funext k
    show famOwn (putA (putA st.own r _) nm _) _ k = _
    rw [famOwn_putA hlt, famOwn_putA hltr]
    simp only [own', eq_comm (a := nm), eq_comm (a := r)]
    rfl
  have hle : ∀ nm' o, st.sto.own nm' = some o → ∃ o', own' nm' = some o' ∧ OwnLe o (θ nm') o' (thUp θ nm none nm') := fun nm' o ho => by
    have h1 : nm' ≠ nm := by rintro rfl; have : st.sto.own nm' = some o := ho; rw [hn] at this; cases this
    by_cases h2 : nm' = r
    · subst h2
      have : st.sto.own nm' = some o := ho
      rw [hr] at this
      obtain rfl := Option.some.inj this
      exact ⟨.row e0 (cells.set j (.slice sz' n g (.own nm))), by simp [own', h1], by simp [thUp, h1, OwnLe]⟩
    · exact ⟨o, by simp [own', h1, h2, ho], by simp [thUp, h1, OwnLe.refl]⟩
  have hmono : ∀ v x, Rep I st.sto.own θ w v x → Rep I own' (thUp θ nm none) w v x := fun v x h => h.mono (fun _ _ h => h) (fun _ _ _ => rfl) hle
  have hrel := h.chg.rel
  have k : Chg st.sto.own θ I w own' (thUp θ nm none) I w := by
    refine { imm := fun _ _ h => h, cell := fun _ _ _ => rfl, le := hle, rel := ?_, valid := h.chg.valid, os := rfl, tape := rfl, output := rfl, grow := Nat.le_refl _, frame := fun _ _ _ => rfl, new := fun nm' g' c ho hg => ?_, immNew := fun _ _ h => .inl h }
    · refine ⟨fun nm' e2 cells' ho => ?_, fun nm' s' e' m ho g' c hg => ?_, fun n1 n2 g' c c' ho ho' hg hg' => ?_, fun nm' s' e' m f' ho => ?_, fun nm' x' ho => ?_, fun nm' s' m ho hnn => ?_⟩
      rotate_left 5
      · by_cases h1 : nm' = nm
        · simp only [own', h1, if_true, Option.some.injEq, Own.tok.injEq] at ho
          obtain ⟨rfl, he, rfl⟩ := ho
          exact h8 he
        · have h2 : nm' ≠ r := by rintro rfl; simp [own', h1] at ho
          simp only [own', h1, h2, if_false] at ho
          simp only [thUp, h1, if_false] at hnn
          exact hrel.tok8 nm' _ _ ho hnn
      · by_cases h1 : nm' = nm
        · simp [own', h1] at ho
        · by_cases h2 : nm' = r
          · subst h2
            simp only [own', h1, if_false, if_true, Option.some.injEq, Own.row.injEq] at ho
            obtain ⟨rfl, rfl⟩ := ho
            obtain ⟨g', c, vs, r1, r2, r3, r4, r5, r6⟩ := hrel.row nm' _ cells hr
            refine ⟨g', c, vs, by simpa [thUp, h1] using r1, r2, by simpa using r3, fun j' hj' => r4 j' (by simpa using hj'), fun j' hj' => ?_, r6⟩
            have hj'' : j' < cells.length := by simpa using hj'
            by_cases hjj : j' = j
            · subst hjj
              have e1 : (cells.set j' (.slice sz' n g (.own nm))).getD j' .any = .slice sz' n g (.own nm) := by simp [List.getD, hj]
              rw [e1]
              have hr' := r5 j' hj''
              rw [hs] at hr'
              obtain ⟨ad, hv⟩ := hr'.exact_inv
              have hV := hr'.slice_val
              rw [hv] at hV ⊢
              refine .own nm sz' e n ad n n g (by simp [own']) (Nat.le_refl _) (fun _ => by simp [thUp]) ?_
              rcases hz with ⟨rfl, rfl⟩ | rfl
              · exact hV
              · obtain ⟨_, ad', cap, us, he, hcap, hmax, hz, hn', h1', hl, hr⟩ := hV.slice_inv
                simp only [Value.slice.injEq, true_and] at he
                obtain ⟨rfl, rfl⟩ := he
                exact .slice ad 0 0 sz' g us hcap hmax (fun h => by omega) hn' (fun j hj => by omega) (fun i hi => by omega) (fun i c hi => by omega)
            · have e1 : (cells.set j (.slice sz' n g (.own nm))).getD j' .any = cells.getD j' .any := by simp [List.getD, Ne.symm hjj]
              rw [e1]
              exact hmono _ _ (r5 j' hj'')
          · simp only [own', h1, h2, if_false] at ho
            obtain ⟨g', c, vs, r1, r2, r3, r4, r5, r6⟩ := hrel.row nm' _ cells' ho
            exact ⟨g', c, vs, by simpa [thUp, h1] using r1, r2, r3, r4, fun j' hj' => hmono _ _ (r5 j' hj'), r6⟩
      · by_cases h1 : nm' = nm
        · simp [thUp, h1] at hg
        · have h2 : nm' ≠ r := by rintro rfl; simp [own', h1] at ho
          simp only [own', h1, h2, if_false] at ho
          simp only [thUp, h1, if_false] at hg
          exact hrel.tok nm' _ _ _ ho g' c hg
      · have hx : ∀ n1 g' c, own' n1 ≠ none → thUp θ nm none n1 = some (g', c) → st.sto.own n1 ≠ none ∧ θ n1 = some (g', c) := fun n1 g' c ho hg => by
          by_cases h1 : n1 = nm
          · simp [thUp, h1] at hg
          · simp only [thUp, h1, if_false] at hg
            refine ⟨?_, hg⟩
            by_cases h2 : n1 = r
            · subst h2; have : st.sto.own n1 = some (.row e0 cells) := hr; simp [this]
            · simpa [own', h1, h2] using ho
        obtain ⟨a1, a2⟩ := hx n1 g' c ho hg
        obtain ⟨b1, b2⟩ := hx n2 g' c' ho' hg'
        exact hrel.inj n1 n2 g' c c' a1 b1 a2 b2
      · by_cases h1 : nm' = nm
        · simp [own', h1] at ho
        · have h2 : nm' ≠ r := by rintro rfl; simp [own', h1] at ho
          simp only [own', h1, h2, if_false] at ho
          exact arr_map (hrel.arr nm' _ _ _ _ ho) (by simp [thUp, h1]) (fun _ _ _ => rfl) (fun _ _ _ _ h => h) (fun _ _ => rfl) (fun v i j _ _ hv => hmono _ _ hv)
      · by_cases h1 : nm' = nm
        · simp [own', h1] at ho
        · have h2 : nm' ≠ r := by rintro rfl; simp [own', h1] at ho
          simp only [own', h1, h2, if_false] at ho
          exact obj_map (hrel.obj nm' _ ho) (by simp [thUp, h1]) (fun _ _ _ => rfl) (fun _ _ _ _ h => h) (fun _ hh => hh.mono hmono) id_nil
    · by_cases h1 : nm' = nm
      · simp [thUp, h1] at hg
      · simp only [thUp, h1, if_false] at hg
        refine .inr ⟨nm', c, ?_, hg⟩
        by_cases h2 : nm' = r
        · subst h2; have : st.sto.own nm' = some (.row e0 cells) := hr; simp [this]
        · simpa [own', h1, h2] using ho
  refine ⟨I, thUp θ nm none, h.size, h.defers, fun t' => ?_, ?_⟩
  · rw [hown]; exact (h.slots t').chg k
  · rw [hown]; exact h.chg.trans k

/-- What has no room to spare may be taken for one's own. -/
theorem le_tag {st : St} {t nm sz sz' n : Nat} {f : Nat → List AV} (g : Nat → List AV) (e : TypeId) (hs : st.get t = .slice sz n f .exact) (hn : look st.own nm = none) (hz : (sz = sz' ∧ f = g) ∨ n = 0) (h8 : e = tokU8 → n = 0)  (hlt : Nat.blt nm famB = true := by rfl) :
    Le Γ st ⟨putA st.tmps t (.slice sz' n g (.own nm)), putA st.own nm (.tok sz' e n), st.fam⟩ := by
  intro I θ a w h
  have hlt : nm < famB := by simpa [Nat.blt_eq] using hlt
  have hn : st.sto.own nm = none := (famOwn_lt hlt).trans hn
  have hown : (⟨putA st.tmps t (.slice sz' n g (.own nm)), putA st.own nm (.tok sz' e n), st.fam⟩ : St).sto.own = ownUp st.sto.own nm (.tok sz' e n) := by
    funext k
    show famOwn (putA st.own nm _) _ k = _
    rw [famOwn_putA hlt]
    simp only [ownUp]
    by_cases hk : nm = k
    · subst hk; simp
    · simp [hk, Ne.symm hk]; rfl
  have k : Chg st.sto.own θ I w (ownUp st.sto.own nm (.tok sz' e n)) (thUp θ nm none) I w :=
    chg_tok h.chg.rel (fun _ _ h => h) (fun _ _ _ => rfl) (.inl hn) (fun _ _ _ => rfl) (fun _ _ h => .inl h) h.chg.valid rfl rfl rfl (Nat.le_refl _) (by simp) (by simp) (fun _ => h8)
  refine ⟨I, thUp θ nm none, h.size, h.defers, fun t' => ?_, ?_⟩
  · rw [hown]
    have hget : (⟨putA st.tmps t (.slice sz' n g (.own nm)), putA st.own nm (.tok sz' e n), st.fam⟩ : St).sto.tmp t' = if t = t' then .slice sz' n g (.own nm) else st.get t' := by
      show (match look (putA st.tmps t _) t' with | some x => x | none => .any) = _
      rw [look_putA]
      by_cases hk : t = t'
      · simp [hk]
      · simp [hk]; rfl
    rw [hget]
    split
    · rename_i htt
      subst htt
      have hr := h.slots t
      have hr' : Rep I st.sto.own θ w (a.tmps.getD t undef) (.slice sz n f .exact) := by rw [← hs]; exact hr
      obtain ⟨ad, hv⟩ := hr'.exact_inv
      have hV := hr'.slice_val
      rw [hv] at hV ⊢
      refine .own nm sz' e n ad n n g (by simp [ownUp]) (Nat.le_refl _) (fun _ => by simp [thUp]) ?_
      rcases hz with ⟨rfl, rfl⟩ | rfl
      · exact hV
      · obtain ⟨_, ad', cap, us, he, hcap, hmax, hz, hn', h1, hl, hr⟩ := hV.slice_inv
        simp only [Value.slice.injEq, true_and] at he
        obtain ⟨rfl, rfl⟩ := he
        exact .slice ad 0 0 sz' g us hcap hmax (fun h => by omega) hn' (fun j hj => by omega) (fun i hi => by omega) (fun i c hi => by omega)
    · exact (h.slots t').chg k
  · rw [hown]
    exact h.chg.trans k

/-- Nothing, with no room, may be taken for a row of one's own that is to be written. -/
theorem le_arr {st : St} {t nm sz sz' : Nat} {f : Nat → List AV} (g : Nat → List AV) (e : TypeId) (hs : st.get t = .slice sz 0 f .exact) (hn : look st.own nm = none)  (hlt : Nat.blt nm famB = true := by rfl) :
    Le Γ st ⟨putA st.tmps t (.vsl nm 0), putA st.own nm (.arr sz' e 0 g), st.fam⟩ := by
  intro I θ a w h
  have hlt : nm < famB := by simpa [Nat.blt_eq] using hlt
  have hn : st.sto.own nm = none := (famOwn_lt hlt).trans hn
  have hown : (⟨putA st.tmps t (.vsl nm 0), putA st.own nm (.arr sz' e 0 g), st.fam⟩ : St).sto.own = ownUp st.sto.own nm (.arr sz' e 0 g) := by
    funext k
    show famOwn (putA st.own nm _) _ k = _
    rw [famOwn_putA hlt]
    simp only [ownUp]
    by_cases hk : nm = k
    · subst hk; simp
    · simp [hk, Ne.symm hk]; rfl
  have k : Chg st.sto.own θ I w (ownUp st.sto.own nm (.arr sz' e 0 g)) (thUp θ nm none) I w :=
    chg_arr h.chg.rel h.chg.valid (fun _ _ _ => rfl) (.inl hn) (fun _ _ _ => rfl) rfl rfl rfl (Nat.le_refl _) (fun _ => rfl) (by simp) (by simp)
  refine ⟨I, thUp θ nm none, h.size, h.defers, fun t' => ?_, ?_⟩
  · rw [hown]
    have hget : (⟨putA st.tmps t (.vsl nm 0), putA st.own nm (.arr sz' e 0 g), st.fam⟩ : St).sto.tmp t' = if t = t' then .vsl nm 0 else st.get t' := by
      show (match look (putA st.tmps t _) t' with | some x => x | none => .any) = _
      rw [look_putA]
      by_cases hk : t = t'
      · simp [hk]
      · simp [hk]; rfl
    rw [hget]
    split
    · rename_i htt
      subst htt
      have hr := h.slots t
      have hr' : Rep I st.sto.own θ w (a.tmps.getD t undef) (.slice sz 0 f .exact) := by rw [← hs]; exact hr
      obtain ⟨ad, hv⟩ := hr'.exact_inv
      rw [hv]
      exact .vsl nm sz' e 0 g ad 0 0 (by simp [ownUp]) (Nat.le_refl _) (Nat.le_refl _) (Nat.zero_le _) (fun _ => rfl) (fun _ => by simp [thUp])
    · exact (h.slots t').chg k
  · rw [hown]
    exact h.chg.trans k

/-! ### Rules -/
theorem awp_mono {c : Code} {K K' : Exit → St → Prop} {st : St} (h : awp P Γ c K st) (hk : ∀ e st, K e st → K' e st) : awp P Γ c K' st := fun I θ a w hr =>
  wp_mono (h I θ a w hr) fun _ _ _ ⟨st', I', θ', h1, h2⟩ => ⟨st', I', θ', hk _ _ h1, h2⟩
theorem awp_le {c : Code} {K : Exit → St → Prop} {st st' : St} (h : Le Γ st st') (k : awp P Γ c K st') : awp P Γ c K st := fun I θ a w hr => let ⟨I', θ', hr'⟩ := h I θ a w hr; k I' θ' a w hr'
/-- Where one ends, less may be told of the store. -/
def clK (Γ : Env) (K : Exit → St → Prop) : Exit → St → Prop := fun e st => ∃ st', Le Γ st st' ∧ K e st'
theorem awp_cl {c : Code} {K : Exit → St → Prop} {st : St} (h : awp P Γ c (clK Γ K) st) : awp P Γ c K st := fun I θ a w hr =>
  wp_mono (h I θ a w hr) fun e a' w' ⟨st1, I1, θ1, ⟨st2, hl, hk⟩, hr1⟩ => let ⟨I2, θ2, hr2⟩ := hl I1 θ1 a' w' hr1; ⟨st2, I2, θ2, hk, hr2⟩
theorem cl_of {K : Exit → St → Prop} {e : Exit} {st st' : St} (h : Le Γ st st') (hk : K e st') : clK Γ K e st := ⟨st', h, hk⟩
theorem awp_skip {K : Exit → St → Prop} {st : St} (h : K .normal st) : awp P Γ .skip K st := fun I θ _ _ hr => wp_skip ⟨st, I, θ, h, hr⟩
theorem awp_label {l : Nat} {K : Exit → St → Prop} {st : St} (h : K .normal st) : awp P Γ (.label l) K st := fun I θ _ _ hr => wp_label ⟨st, I, θ, h, hr⟩
theorem awp_ret {K : Exit → St → Prop} {st : St} (h : K .ret st) : awp P Γ .ret K st := fun I θ _ _ hr => wp_ret ⟨st, I, θ, h, hr⟩
theorem awp_exit {id : Nat} {K : Exit → St → Prop} {st : St} (h : K (.exit id) st) : awp P Γ (.exit id) K st := fun I θ _ _ hr => wp_exit ⟨st, I, θ, h, hr⟩
theorem awp_goto {l : Nat} {K : Exit → St → Prop} {st : St} (h : K (.goto l) st) : awp P Γ (.goto l) K st := fun I θ _ _ hr => wp_goto ⟨st, I, θ, h, hr⟩
def thenK (P : Program) (Γ : Env) (y : Code) (K : Exit → St → Prop) : Exit → St → Prop
  | .normal, st => awp P Γ y K st
  | e, st => K e st
theorem awp_seq {x y : Code} {K : Exit → St → Prop} {st : St} (h : awp P Γ x (thenK P Γ y K) st) : awp P Γ (.seq x y) K st := fun I θ a w hr =>
  wp_seq (wp_mono (h I θ a w hr) fun e a' w' ⟨st', I', θ', h1, h2⟩ => by
    cases e with
    | normal => exact h1 I' θ' a' w' h2
    | _ => exact ⟨st', I', θ', h1, h2⟩)
theorem awp_cond {c : Operand} {x y : Code} {K : Exit → St → Prop} {st : St} (b : Bool) (hc : evA st.get c = .bool b) (ht : b = true → awp P Γ x K st) (hf : b = false → awp P Γ y K st) : awp P Γ (.cond c x y) K st := fun I θ a w hr => by
  have he := rep_eval hr c
  have hc' : evA st.sto.tmp c = .bool b := hc
  rw [hc'] at he
  exact wp_cond_split he.bool_inv (fun h => ht h I θ a w hr) (fun h => hf h I θ a w hr)
/-- Upon a question whether a slice is nil, both ways are gone. -/
theorem awp_nilq {c : Operand} {x y : Code} {K : Exit → St → Prop} {st : St} (pos : Bool) (n : Nat) (hc : evA st.get c = .nilq pos n) (ht : (pos = true → n = 0) → awp P Γ x K st)
    (hf : (pos = false → n = 0) → awp P Γ y K st) : awp P Γ (.cond c x y) K st := fun I θ a w hr => by
  have he := rep_eval hr c
  have hc' : evA st.sto.tmp c = .nilq pos n := hc
  rw [hc'] at he
  obtain ⟨b, hb, hn⟩ := he.nilq_inv
  exact wp_cond_split hb (fun h => ht (fun hp => hn (h.trans hp.symm)) I θ a w hr) (fun h => hf (fun hp => hn (h.trans hp.symm)) I θ a w hr)
/-- What is told of a list is told of none, where it has no elements. -/
theorem nil_at {α β : Type} {l : List α} {n : Nat} {r : β} (m : Option β) (F : List α → Option β) (h : F l = some r) (hn : n = 0) (hl : n = l.length) (hm : F [] = some r → m = some r) : m = some r := by
  obtain rfl := List.eq_nil_of_length_eq_zero (hl.symm.trans hn)
  exact hm h
def blockK (id : Nat) (K : Exit → St → Prop) : Exit → St → Prop
  | .exit id', st => if id' = id then K .normal st else K (.exit id') st
  | e, st => K e st
theorem awp_block {id : Nat} {c : Code} {K : Exit → St → Prop} {st : St} (h : awp P Γ c (blockK id K) st) : awp P Γ (.block id c) K st := fun I θ a w hr =>
  wp_block (wp_mono (h I θ a w hr) fun e a' w' ⟨st', I', θ', h1, h2⟩ => by
    cases e with
    | exit id' =>
      simp only [blockK] at h1
      simp only [Exit.inBlock]
      split
      · rename_i h; rw [if_pos h] at h1; exact ⟨st', I', θ', h1, h2⟩
      · rename_i h; rw [if_neg h] at h1; exact ⟨st', I', θ', h1, h2⟩
    | _ => exact ⟨st', I', θ', h1, h2⟩)

theorem wp_loop_n {c : Code} {Q : Exit → Act → World → Prop} (J : Nat → Act → World → Prop) (round : ∀ n a w, J n a w → c.wp P (Exit.then (fun a' w' => ∃ m, m < n ∧ J m a' w') Q) a w) {n : Nat} {a : Act} {w : World} (h : J n a w) : (Code.loop c).wp P Q a w := by
  intro b k cs
  have key : ∀ n a w, J n a w → ∃ e a' w', Q e a' w' ∧ Arrives P (lone (b.at a (.code c :: .inLoop c :: k)) cs w) b k cs e a' w' := by
    intro n
    induction n using Nat.strongRecOn with
    | _ n ih =>
      intro a w hJ
      obtain ⟨e, a₁, w₁, hq, harr⟩ := round n a w hJ b (.inLoop c :: k) cs
      cases e with
      | normal =>
        obtain ⟨m, hlt, hJ'⟩ := hq
        obtain ⟨e₂, a₂, w₂, hq₂, harr₂⟩ := ih m hlt a₁ w₁ hJ'
        exact ⟨e₂, a₂, w₂, hq₂, .of_steps (Steps.trans harr (.one step_inLoop)) harr₂⟩
      | exit id => exact ⟨_, a₁, w₁, hq, .pass (x := .inLoop c) rfl (fun _ _ => .inl (by simp)) harr⟩
      | goto l => exact ⟨_, a₁, w₁, hq, .pass (x := .inLoop c) rfl (fun _ _ => .inl (by simp)) harr⟩
      | ret => exact ⟨_, a₁, w₁, hq, .pass (x := .inLoop c) rfl (fun _ _ => .inl (by simp)) harr⟩
      | panic ch => exact ⟨_, a₁, w₁, hq, .pass (x := .inLoop c) rfl (fun _ _ => .inl (by simp)) harr⟩
      | outgrown => exact ⟨_, a₁, w₁, hq, .pass (x := .inLoop c) rfl (fun _ _ => .inl (by simp)) harr⟩
  obtain ⟨e, a', w', hq, harr⟩ := key n a w h
  exact ⟨e, a', w', hq, .of_steps (.one step_loop) harr⟩

/-- What a round comes to. -/
def roundK {S X : Type} (Γ : Env) (H : S → St) (KX : X → Exit → St → Prop) : LR S X → Exit → St → Prop
  | .next s', e, st' => e = .normal ∧ Le Γ st' (H s')
  | .done x, e, st' => e ≠ .normal ∧ KX x e st'
theorem awp_loop {S X : Type} {body : Code} (H : S → St) (f : S → Option (LR S X)) (KX : X → Exit → St → Prop) {K : Exit → St → Prop}
    (hb : ∀ s y, f s = some y → awp P Γ body (roundK Γ H KX y) (H s)) {s : S} {x : X} (hr : loopO f s = some x) (hK : ∀ e st', KX x e st' → K e st') : awp P Γ (.loop body) K (H s) := by
  intro I θ a w hrel
  obtain ⟨n, hn⟩ := loopO_iff.1 hr
  refine wp_loop_n (fun n a w => ∃ s I θ, LRuns f s x n ∧ Rel Γ (H s).sto I θ a w) (fun n a w ⟨s, I, θ, hs, hrel⟩ => ?_) (n := n) ⟨s, I, θ, hn, hrel⟩
  cases hs with
  | done hd =>
    refine wp_mono (hb s _ hd I θ a w hrel) fun e a' w' ⟨st', I', θ', h1, h2⟩ => ?_
    obtain ⟨hne, hx⟩ := h1
    cases e with
    | normal => exact (hne rfl).elim
    | _ => exact ⟨st', I', θ', hK _ _ hx, h2⟩
  | @next _ s' _ m hd ht =>
    refine wp_mono (hb s _ hd I θ a w hrel) fun e a' w' ⟨st', I', θ', h1, h2⟩ => ?_
    obtain ⟨rfl, hle⟩ := h1
    obtain ⟨I'', θ'', h3⟩ := hle I' θ' a' w' h2
    exact ⟨m, Nat.lt_succ_self m, s', I'', θ'', ht, h3⟩

/-! ### Jumps -/
def jumpQ (c : Code) (J : Nat → Act → World → Prop) (Q : Exit → Act → World → Prop) : Exit → Act → World → Prop
  | .goto l, a, w => match findLabel c l with | some _ => J l a w | none => Q (.goto l) a w
  | e, a, w => Q e a w
theorem wp_scope_n {c : Code} {Q : Exit → Act → World → Prop} (J : Nat → Nat → Act → World → Prop) {a : Act} {w : World} (first : c.wp P (jumpQ c (fun l a' w' => ∃ n, J n l a' w') Q) a w)
    (pass : ∀ n l rest a w, findLabel c l = some rest → J n l a w → rest.wp P (jumpQ c (fun l' a' w' => ∃ m, m < n ∧ J m l' a' w') Q) a w) : (Code.scope c).wp P Q a w := by
  intro b k cs
  have hg : ∀ l rest, findLabel c l = some rest → gotoIn l (.inScope c :: k) = some (.code rest :: .inScope c :: k) := fun l rest hf => by simp [gotoIn, hf]
  have hg' : ∀ l k', findLabel c l = none → gotoIn l k = some k' → gotoIn l (.inScope c :: k) = some k' := fun l k' hf hk => by simp [gotoIn, hf, hk]
  have key : ∀ n l rest a w, findLabel c l = some rest → J n l a w → ∃ e a' w', Q e a' w' ∧ Arrives P (lone (b.at a (.code rest :: .inScope c :: k)) cs w) b k cs e a' w' := by
    intro n
    induction n using Nat.strongRecOn with
    | _ n ih =>
      intro l rest a w hf hJ
      obtain ⟨e, a₁, w₁, hq, harr⟩ := pass n l rest a w hf hJ b (.inScope c :: k) cs
      cases e with
      | normal => exact ⟨.normal, a₁, w₁, hq, Steps.trans harr (.one step_inScope)⟩
      | exit id => exact ⟨.exit id, a₁, w₁, hq, fun k' hk => harr k' (by simp [exitTo, hk])⟩
      | goto l' =>
        simp only [jumpQ] at hq
        cases hf' : findLabel c l' with
        | some rest' =>
          rw [hf'] at hq
          obtain ⟨m, hlt, hJ'⟩ := hq
          obtain ⟨e₂, a₂, w₂, hq₂, harr₂⟩ := ih m hlt l' rest' a₁ w₁ hf' hJ'
          exact ⟨e₂, a₂, w₂, hq₂, .of_steps (harr _ (hg l' rest' hf')) harr₂⟩
        | none =>
          rw [hf'] at hq
          exact ⟨.goto l', a₁, w₁, hq, fun k' hk => harr k' (hg' l' k' hf' hk)⟩
      | ret => exact ⟨_, a₁, w₁, hq, harr⟩
      | panic ch => exact ⟨_, a₁, w₁, hq, harr⟩
      | outgrown => exact ⟨_, a₁, w₁, hq, harr⟩
  obtain ⟨e, a₁, w₁, hq, harr⟩ := first b (.inScope c :: k) cs
  cases e with
  | normal => exact ⟨.normal, a₁, w₁, hq, .head step_scope (Steps.trans harr (.one step_inScope))⟩
  | exit id => exact ⟨.exit id, a₁, w₁, hq, fun k' hk => .head step_scope (harr k' (by simp [exitTo, hk]))⟩
  | goto l' =>
    simp only [jumpQ] at hq
    cases hf' : findLabel c l' with
    | some rest' =>
      rw [hf'] at hq
      obtain ⟨n, hJ'⟩ := hq
      obtain ⟨e₂, a₂, w₂, hq₂, harr₂⟩ := key n l' rest' a₁ w₁ hf' hJ'
      exact ⟨e₂, a₂, w₂, hq₂, .of_steps (.head step_scope (harr _ (hg l' rest' hf'))) harr₂⟩
    | none =>
      rw [hf'] at hq
      exact ⟨.goto l', a₁, w₁, hq, fun k' hk => .head step_scope (harr k' (hg' l' k' hf' hk))⟩
  | ret => exact ⟨_, a₁, w₁, hq, .of_steps (.one step_scope) harr⟩
  | panic ch => exact ⟨_, a₁, w₁, hq, .of_steps (.one step_scope) harr⟩
  | outgrown => exact ⟨_, a₁, w₁, hq, .of_steps (.one step_scope) harr⟩

/-- What one comes to from a label on: another label, or out. -/
def jumpK {S X : Type} (Γ : Env) (c : Code) (lab : S → Nat) (H : S → St) (KX : X → Exit → St → Prop) : LR S X → Exit → St → Prop
  | .next s', e, st' => e = .goto (lab s') ∧ (findLabel c (lab s')).isSome = true ∧ Le Γ st' (H s')
  | .done x, e, st' => (∀ l, e = .goto l → findLabel c l = none) ∧ KX x e st'
theorem awp_scope {S X : Type} {c : Code} (lab : S → Nat) (H : S → St) (f0 : Option (LR S X)) (f : S → Option (LR S X)) (KX : X → Exit → St → Prop) {K : Exit → St → Prop} {st : St}
    (h0 : ∀ y, f0 = some y → awp P Γ c (jumpK Γ c lab H KX y) st) (hb : ∀ s y rest, findLabel c (lab s) = some rest → f s = some y → awp P Γ rest (jumpK Γ c lab H KX y) (H s))
    {x : X} (hr : scopeO f0 f = some x) (hK : ∀ e st', KX x e st' → K e st') : awp P Γ (.scope c) K st := by
  intro I θ a w hrel
  obtain ⟨y, hy, hr⟩ := bind_some hr
  have fin : ∀ (J : Nat → Act → World → Prop) (a' : Act) (w' : World) (e : Exit) st' I' θ', jumpK Γ c lab H KX (.done x) e st' → Rel Γ st'.sto I' θ' a' w' → jumpQ c J (fun e a' w' => ∃ st' I' θ', K e st' ∧ Rel Γ st'.sto I' θ' a' w') e a' w' := fun J a' w' e st' I' θ' h1 h2 => by
    obtain ⟨hl, hx⟩ := h1
    cases e with
    | goto l => simp only [jumpQ, hl l rfl]; exact ⟨st', I', θ', hK _ _ hx, h2⟩
    | _ => exact ⟨st', I', θ', hK _ _ hx, h2⟩
  refine wp_scope_n (fun n l a w => ∃ s I θ, LRuns f s x n ∧ lab s = l ∧ Rel Γ (H s).sto I θ a w) ?_ (fun n l rest a w hf ⟨s, I, θ, hs, hl, hrel⟩ => ?_)
  · refine wp_mono (h0 y hy I θ a w hrel) fun e a' w' ⟨st', I', θ', h1, h2⟩ => ?_
    cases y with
    | done x' =>
      simp only [Option.some.injEq] at hr
      subst hr
      exact fin _ a' w' e st' I' θ' h1 h2
    | next s =>
      obtain ⟨n, hn⟩ := loopO_iff.1 hr
      obtain ⟨rfl, hf, hle⟩ := h1
      obtain ⟨I'', θ'', h3⟩ := hle I' θ' a' w' h2
      obtain ⟨rest, hf'⟩ := Option.isSome_iff_exists.1 hf
      simp only [jumpQ, hf']
      exact ⟨n, s, I'', θ'', hn, rfl, h3⟩
  · subst hl
    cases hs with
    | done hd => exact wp_mono (hb s _ rest hf hd I θ a w hrel) fun e a' w' ⟨st', I', θ', h1, h2⟩ => fin _ a' w' e st' I' θ' h1 h2
    | @next _ s' _ m hd ht =>
      refine wp_mono (hb s _ rest hf hd I θ a w hrel) fun e a' w' ⟨st', I', θ', h1, h2⟩ => ?_
      obtain ⟨rfl, hf', hle⟩ := h1
      obtain ⟨I'', θ'', h3⟩ := hle I' θ' a' w' h2
      obtain ⟨rest', hf''⟩ := Option.isSome_iff_exists.1 hf'
      simp only [jumpQ, hf'']
      exact ⟨m, Nat.lt_succ_self m, s', I'', θ'', ht, rfl, h3⟩
/-! ### How one gets on -/
theorem then_normal {y : Code} {K : Exit → St → Prop} {st : St} (h : awp P Γ y K st) : thenK P Γ y K .normal st := h
theorem then_ret {y : Code} {K : Exit → St → Prop} {st : St} (h : K .ret st) : thenK P Γ y K .ret st := h
theorem then_exit {y : Code} {K : Exit → St → Prop} {st : St} {id : Nat} (h : K (.exit id) st) : thenK P Γ y K (.exit id) st := h
theorem then_goto {y : Code} {K : Exit → St → Prop} {st : St} {l : Nat} (h : K (.goto l) st) : thenK P Γ y K (.goto l) st := h
theorem block_normal {id : Nat} {K : Exit → St → Prop} {st : St} (h : K .normal st) : blockK id K .normal st := h
theorem block_ret {id : Nat} {K : Exit → St → Prop} {st : St} (h : K .ret st) : blockK id K .ret st := h
theorem block_goto {id l : Nat} {K : Exit → St → Prop} {st : St} (h : K (.goto l) st) : blockK id K (.goto l) st := h
theorem block_here {id : Nat} {K : Exit → St → Prop} {st : St} (h : K .normal st) : blockK id K (.exit id) st := by show if id = id then K .normal st else K (.exit id) st; rw [if_pos rfl]; exact h
theorem block_exit {id id' : Nat} {K : Exit → St → Prop} {st : St} (hne : Nat.beq id' id = false) (h : K (.exit id') st) : blockK id K (.exit id') st := by
  simp only [blockK]; rw [if_neg (by rintro rfl; simp at hne)]; exact h
theorem cond_t {R : Type} {b : Bool} {x y : Option R} {r : R} (hb : b = true) (h : (bif b then x else y) = some r) : x = some r := by rw [hb] at h; exact h
theorem cond_f {R : Type} {b : Bool} {x y : Option R} {r : R} (hb : b = false) (h : (bif b then x else y) = some r) : y = some r := by rw [hb] at h; exact h
theorem hand_in {names : List Nat} {H : List (Nat × Own)} (h : Γ.own0 = look H) (hm : (H.all fun x => memB x.1 names) = true) : ∀ nm, Γ.own0 nm ≠ none → nm ∈ names := fun nm hn => by
  rw [h] at hn
  cases hl : look H nm with
  | none => exact (hn hl).elim
  | some o => exact memB_mem.1 (List.all_eq_true.1 hm _ (look_mem hl))
theorem no_hand {names : List Nat} (h : Γ.own0 = look []) : ∀ nm, Γ.own0 nm ≠ none → nm ∈ names := fun nm hn => by rw [h] at hn; exact (hn rfl).elim
theorem awp_join {X : Type} {c : Code} {m : Option X} (KX : X → Exit → St → Prop) {K : Exit → St → Prop} {st : St} {x : X} (hr : m = some x) (hx : ∀ x, m = some x → awp P Γ c (KX x) st) (hK : ∀ e st', KX x e st' → K e st') : awp P Γ c K st :=
  awp_mono (hx x hr) hK

end
section
variable {P : Program} {Γ : Env}
/-- A region, told shortly: what is live, and what is owned, is what is told. -/
theorem rg {id : Nat} {ops : List Oper} {draw : Bool} {K : Exit → St → Prop} {st : St} {n : Nat} (rs : List Orc) (cs : List (Nat × AV)) (st' : St) (obs : List Prop) (hnn : Γ.n = n) (hm : P.follows .mixedOrders = true) (hn : ∀ nm, Γ.own0 nm ≠ none → nm ∈ st'.own.map (·.1))
    (h : aregion P (Spec P) n cs (st'.tmps.map (·.1)) (st'.own.map (·.1) ++ st'.fam.map (·.1)) ops draw st rs = some (st', obs, true)) (hob : conjL obs) (hK : K .normal st') : awp P Γ (.region id ops.toArray draw) K st := awp_region hnn hm (fun nm h0 => List.mem_append.2 (.inl (hn nm h0))) h hob hK
theorem rg0 {id : Nat} {ops : List Oper} {draw : Bool} {K : Exit → St → Prop} {st : St} {n : Nat} (st' : St) (hnn : Γ.n = n) (hm : P.follows .mixedOrders = true) (hn : ∀ nm, Γ.own0 nm ≠ none → nm ∈ st'.own.map (·.1))
    (h : aregion P (Spec P) n [] (st'.tmps.map (·.1)) (st'.own.map (·.1) ++ st'.fam.map (·.1)) ops draw st [] = some (st', [], true)) (hK : K .normal st') : awp P Γ (.region id ops.toArray draw) K st := awp_region hnn hm (fun nm h0 => List.mem_append.2 (.inl (hn nm h0))) h trivial hK
theorem rgs {id : Nat} {ops : List Oper} {draw : Bool} {y : Code} {K : Exit → St → Prop} {st : St} {n : Nat} (rs : List Orc) (cs : List (Nat × AV)) (st' : St) (obs : List Prop) (hnn : Γ.n = n) (hm : P.follows .mixedOrders = true) (hn : ∀ nm, Γ.own0 nm ≠ none → nm ∈ st'.own.map (·.1))
    (h : aregion P (Spec P) n cs (st'.tmps.map (·.1)) (st'.own.map (·.1) ++ st'.fam.map (·.1)) ops draw st rs = some (st', obs, true)) (hob : conjL obs) (hK : awp P Γ y K st') : awp P Γ (.seq (.region id ops.toArray draw) y) K st := awp_seq (awp_region hnn hm (fun nm h0 => List.mem_append.2 (.inl (hn nm h0))) h hob hK)
theorem rgs0 {id : Nat} {ops : List Oper} {draw : Bool} {y : Code} {K : Exit → St → Prop} {st : St} {n : Nat} (st' : St) (hnn : Γ.n = n) (hm : P.follows .mixedOrders = true) (hn : ∀ nm, Γ.own0 nm ≠ none → nm ∈ st'.own.map (·.1))
    (h : aregion P (Spec P) n [] (st'.tmps.map (·.1)) (st'.own.map (·.1) ++ st'.fam.map (·.1)) ops draw st [] = some (st', [], true)) (hK : awp P Γ y K st') : awp P Γ (.seq (.region id ops.toArray draw) y) K st := awp_seq (awp_region hnn hm (fun nm h0 => List.mem_append.2 (.inl (hn nm h0))) h trivial hK)
end
end Go.Proofs.Ytlkcijaejngomaa

namespace Go.Proofs.Ytlkcijaejngomaa
open Go Go.RowKit

def resA (P : Program) (st : St) : ResultVar → Option AV
  | .tmp t => some (st.get t)
  | .cell a t =>
    bif hasT P t then
      match st.get a with
      | .ptr nm off =>
        match bif Nat.blt nm famB then look st.own nm else none with
        | some (.row _ cells) =>
          bif isAggT P t then (bif Nat.ble (off + szT P t) cells.length then some (.agg ((cells.drop off).take (szT P t))) else none)
          else (bif Nat.blt off cells.length then some (cells.getD off .any) else none)
        | _ => none
      | .vpt nm n 0 0 =>
        match bif Nat.blt nm famB then look st.own nm else none with
        | some (.arr sz _ m f) => bif isAggT P t && Nat.beq n m && Nat.beq (szT P t) (n * sz) then some (.agg (flatF n f)) else none
        | _ => none
      | _ => none
    else none
def resAll (P : Program) (st : St) : List ResultVar → Option (List AV)
  | [] => some []
  | r :: rs => match resA P st r, resAll P st rs with | some x, some l => some (x :: l) | _, _ => none
def retRaw (P : Program) (st : St) (rs : List ResultVar) : Option AV :=
  match resAll P st rs with
  | some [x] => some x
  | some l => some (.tuple l)
  | none => none
def retH (ρ : List (Nat × Nat)) (st : St) : List (Nat × Own) :=
  ρ.filterMap fun x => match look st.own x.1 with | some o => some (x.2, o.ren ρ) | none => none
def retCheck (H : List (Nat × Own)) (ρ : List (Nat × Nat)) : Bool :=
  nodupB (ρ.map (·.1)) && (nodupB (ρ.map (·.2)) && ρ.all (fun x => Nat.blt x.1 famB)) && H.all (fun x => match look ρ x.1 with | some k => Nat.beq k x.1 | none => false)
def retOf (P : Program) (rs : List ResultVar) (ρ : List (Nat × Nat)) (H : List (Nat × Own)) (st : St) : Option (AV × List (Nat × Own)) :=
  bif retCheck H ρ then match retRaw P st rs with | some x => some (x.ren ρ, retH ρ st) | none => none else none
def retK (P : Program) (rs : List ResultVar) (H : List (Nat × Own)) (res : AV) (H' : List (Nat × Own)) (e : Exit) (st : St) : Prop :=
  (e = .ret ∨ e = .normal) ∧ ∃ ρ, retOf P rs ρ H st = some (res, H')
def enumA : Nat → List AV → List (Nat × AV)
  | _, [] => []
  | i, x :: l => (i, x) :: enumA (i + 1) l
def initSt (args : List AV) (H : List (Nat × Own)) : St := ⟨enumA 0 args, H, []⟩

section
variable {P : Program} {Γ : Env} {I : Nat → Nat → Prop} {θ : Nat → Option (Nat × Nat)} {a : Act} {w : World} {st : St}

def resSem (a : Act) (r : ResultVar) : Sem Value :=
  match r with
  | .tmp t => Pure.pure (a.tmps.getD t undef)
  | .cell b t => do loadVar t (← asAddr (a.tmps.getD b undef))

theorem resA_sound (h : Rel Γ st.sto I θ a w) {r : ResultVar} {x : AV} (hx : resA P st r = some x) :
    ∃ v, (resSem a r).run P w = .ok v w ∧ Rep I st.sto.own θ w v x := by
  cases r with
  | tmp t =>
    simp only [resA, Option.some.injEq] at hx
    subst hx
    exact ⟨_, rfl, h.slots t⟩
  | cell b t =>
    simp only [resA] at hx
    cases hT : hasT P t with
    | false => simp [hT] at hx
    | true =>
      simp only [hT, cond_true] at hx
      split at hx
      · rename_i nm off hb
        split at hx
        · rename_i e1 cells hown0
          have hown : st.sto.own nm = some (.row e1 cells) := by
            cases hb : Nat.blt nm famB with
            | false => rw [hb] at hown0; cases hown0
            | true => rw [hb] at hown0; exact (famOwn_lt (by simpa [Nat.blt_eq] using hb)).trans hown0
          have hs := h.slots b
          have hs' : Rep I st.sto.own θ w (a.tmps.getD b undef) (.ptr nm off) := by rw [← hb]; exact hs
          obtain ⟨e', cells', g, c, ho', hg, he⟩ := hs'.ptr_inv
          obtain ⟨g', c', vs, hg', hh, hsz, h1, hrep, _⟩ := h.chg.rel.row nm _ cells hown
          rw [hg] at hg'
          simp only [Option.some.injEq, Prod.mk.injEq] at hg'
          obtain ⟨rfl, rfl⟩ := hg'
          have hcell : ∀ j, j < cells.length → w.cell? ⟨g, j, none⟩ = some (vs.getD j undef) := fun j hj => by
            rw [cell_of_row w g j vs _ (0, 0) hh]
            exact agetD_of (by omega)
          simp only [resSem, he, Sem.run_bind, asAddr, Sem.run_pure, Result.andThen_ok]
          cases hagg : isAggT P t with
          | true =>
            simp only [hagg, cond_true] at hx
            cases hle : Nat.ble (off + szT P t) cells.length with
            | false => simp [hle] at hx
            | true =>
              simp only [hle, cond_true, Option.some.injEq] at hx
              subst hx
              have hle' := Nat.le_of_ble_eq_true hle
              refine ⟨_, run_loadVar_agg hT hagg _ (fun j => vs.getD (off + j) undef) (fun j hj => by rw [Addr.add_lit]; exact hcell _ (by omega)), .agg _ _ (by simp; omega) (fun j hj => ?_) (fun j hj => ?_)⟩
              · have hj' : j < szT P t := by simp at hj; omega
                rw [range_getD _ _ _ hj']
                exact h1 _ (by omega)
              · have hj' : j < szT P t := by simp at hj; omega
                rw [range_getD _ _ _ hj', drop_take_getD _ _ _ _ _ hj']
                exact hrep _ (by omega)
          | false =>
            simp only [hagg, cond_false] at hx
            cases hlt : Nat.blt off cells.length with
            | false => simp [hlt] at hx
            | true =>
              simp only [hlt, cond_true, Option.some.injEq] at hx
              subst hx
              have hlt' : off < cells.length := by simpa [Nat.blt_eq] using hlt
              exact ⟨_, run_loadVar_one hT hagg _ _ (hcell _ hlt'), hrep _ hlt'⟩
        · cases hx
      · rename_i nm n hb
        split at hx
        · rename_i sz e1 m f hown0
          have hown : st.sto.own nm = some (.arr sz e1 m f) := by
            cases hb : Nat.blt nm famB with
            | false => rw [hb] at hown0; cases hown0
            | true => rw [hb] at hown0; exact (famOwn_lt (by simpa [Nat.blt_eq] using hb)).trans hown0
          cases hk : (isAggT P t && Nat.beq n m && Nat.beq (szT P t) (n * sz)) with
          | false => simp [hk] at hx
          | true =>
            simp only [hk, cond_true, Option.some.injEq] at hx
            subst hx
            simp only [Bool.and_eq_true] at hk
            have hs := h.slots b
            have hs' : Rep I st.sto.own θ w (a.tmps.getD b undef) (.vpt nm n 0 0) := by rw [← hb]; exact hs
            obtain ⟨ad, he, vs, hrun, hrep⟩ := whole_arr (P := P) h hT hk.1.1 hs' hown (Nat.eq_of_beq_eq_true hk.1.2) (Nat.eq_of_beq_eq_true hk.2)
            exact ⟨_, by simp only [resSem, he, Sem.run_bind, asAddr, Sem.run_pure, Result.andThen_ok, hrun], hrep⟩
        · cases hx
      · cases hx

theorem resAll_sound (h : Rel Γ st.sto I θ a w) : ∀ {rs : List ResultVar} {xs : List AV}, resAll P st rs = some xs →
    ∃ vs : List Value, (rs.mapM (resSem a)).run P w = .ok vs w ∧ RepL I st.sto.own θ w vs xs
  | [], xs, hx => by simp only [resAll, Option.some.injEq] at hx; subst hx; exact ⟨[], by simp, .nil⟩
  | r :: rs, xs, hx => by
    simp only [resAll] at hx
    split at hx
    · rename_i x l h1 h2
      simp only [Option.some.injEq] at hx
      subst hx
      obtain ⟨v, hv, hr⟩ := resA_sound h h1
      obtain ⟨vs, hvs, hrs⟩ := resAll_sound h h2
      refine ⟨v :: vs, ?_, .cons hr hrs⟩
      simp only [List.mapM_cons, Sem.run_bind, hv, Result.andThen_ok, hvs, Sem.run_pure]
    · cases hx

theorem RepL.length {own : Nat → Option Own} {l : List Value} {m : List AV} (h : RepL I own θ w l m) : l.length = m.length := by induction h with | nil => rfl | cons _ _ ih => simp [ih]
theorem RepL.get {own : Nat → Option Own} {l : List Value} {m : List AV} (h : RepL I own θ w l m) (j : Nat) (hj : j < m.length) : Rep I own θ w (l.getD j undef) (m.getD j .any) := by
  induction h generalizing j with
  | nil => cases hj
  | cons h _ ih => cases j with
    | zero => simpa using h
    | succ j => simpa using ih j (by simpa using hj)

theorem ret_sound (h : Rel Γ st.sto I θ a w) {fn : Func} {x : AV} (hx : retRaw P st fn.results.toList = some x) : ∃ v, (results fn a.tmps).run P w = .ok v w ∧ Rep I st.sto.own θ w v x := by
  unfold retRaw at hx
  have hrun : ∀ vs : List Value, (fn.results.toList.mapM (resSem a)).run P w = .ok vs w →
      (results fn a.tmps).run P w = .ok (if h : vs.toArray.size = 1 then vs.toArray[0] else .tuple vs.toArray) w := fun vs hvs => by
    have e : results fn a.tmps = (do let vs ← fn.results.mapM (resSem a); pure (if h : vs.size = 1 then vs[0] else .tuple vs)) := by
      unfold results
      congr 1
    rw [e, Array.mapM_eq_mapM_toList]
    simp only [Sem.run_bind, Sem.run_map]
    rw [hvs]
    simp only [Result.andThen_ok, Sem.run_pure]
  split at hx
  · rename_i y hy
    simp only [Option.some.injEq] at hx
    subst hx
    obtain ⟨vs, hvs, hr⟩ := resAll_sound h hy
    have hl := hr.length
    match vs, hl, hr, hvs with
    | [v], _, hr, hvs =>
      cases hr with | cons hr _ => exact ⟨v, by rw [hrun _ hvs]; simp, hr⟩
  · rename_i l hne hl
    simp only [Option.some.injEq] at hx
    subst hx
    obtain ⟨vs, hvs, hr⟩ := resAll_sound h hl
    have hlen := hr.length
    have hn1 : vs.length ≠ 1 := fun h1 => by
      match l, hlen, hne with
      | [], hlen, _ => simp at hlen; simp [hlen] at h1
      | [x], _, hne => exact hne x rfl
      | _ :: _ :: _, hlen, _ => simp at hlen; omega
    refine ⟨.tuple vs.toArray, by rw [hrun _ hvs]; simp [hn1], .tuple _ _ (by simpa using hlen) fun j hj => ?_⟩
    have := hr.get j hj
    rwa [← list_toArray_getD] at this
  · cases hx

theorem look_enum : ∀ (l : List AV) (i t : Nat), look (enumA i l) t = if i ≤ t ∧ t < i + l.length then some (l.getD (t - i) .any) else none
  | [], i, t => by rw [if_neg (by simp)]; rfl
  | x :: l, i, t => by
    simp only [enumA, look, look_enum l (i + 1) t, List.length_cons]
    cases hb : Nat.beq i t with
    | true =>
      have := Nat.eq_of_beq_eq_true hb
      subst this
      simp
    | false =>
      have hne : i ≠ t := by rintro rfl; simp at hb
      simp only [cond_false]
      by_cases h : i + 1 ≤ t ∧ t < i + 1 + l.length
      · rw [if_pos h, if_pos (by omega)]
        have : t - i = (t - (i + 1)) + 1 := by omega
        rw [this, List.getD_cons_succ]
      · rw [if_neg h, if_neg (by omega)]

theorem retH_look {ρ : List (Nat × Nat)} (h2 : (ρ.map (·.2)).Nodup) (st : St) (k : Nat) : look (retH ρ st) k = (look (swapL ρ) k).bind fun nm => (look st.own nm).map (Own.ren ρ) := by
  have key : ∀ (l : List (Nat × Nat)), (l.map (·.2)).Nodup → look (l.filterMap fun x => match look st.own x.1 with | some o => some (x.2, o.ren ρ) | none => none) k = (look (swapL l) k).bind fun nm => (look st.own nm).map (Own.ren ρ) := by
    intro l
    induction l with
    | nil => intro _; rfl
    | cons x l ih =>
      intro hn
      obtain ⟨nm, c⟩ := x
      simp only [List.map_cons, List.nodup_cons] at hn
      have ih := ih hn.2
      simp only [List.filterMap_cons, swapL, List.map_cons, look]
      cases ho : look st.own nm with
      | some o =>
        simp only [look]
        cases hb : Nat.beq c k with
        | true => simp [ho]
        | false => simpa [swapL] using ih
      | none =>
        simp only
        cases hb : Nat.beq c k with
        | true =>
          have := Nat.eq_of_beq_eq_true hb
          subst this
          simp only [cond_true, Option.bind_some, ho, Option.map_none]
          apply look_none
          intro hm
          obtain ⟨y, hy, rfl⟩ := List.mem_map.1 hm
          obtain ⟨z, hz, hzy⟩ := List.mem_filterMap.1 hy
          cases hz' : look st.own z.1 with
          | none => rw [hz'] at hzy; cases hzy
          | some o' =>
            rw [hz'] at hzy
            simp only [Option.some.injEq] at hzy
            subst hzy
            exact hn.1 (List.mem_map.2 ⟨z, hz, rfl⟩)
        | false => simpa [swapL] using ih
  exact key ρ h2

/-- Names turned at a function's end. -/
theorem chg_ret {own0 : Nat → Option Own} {θ0 : Nat → Option (Nat × Nat)} {I0 : Nat → Nat → Prop} {w0 : World} {own : Nat → Option Own} {ρ : List (Nat × Nat)} (hρ : ∀ nm c, look ρ nm = some c → own nm = look st.own nm) (h1 : (ρ.map (·.1)).Nodup) (h2 : (ρ.map (·.2)).Nodup) (k : Chg own0 θ0 I0 w0 own θ I w)
    (hh : ∀ nm, own0 nm ≠ none → look ρ nm = some nm) :
    Chg own0 θ0 I0 w0 (look (retH ρ st)) (fun k => (look (swapL ρ) k).bind θ) I w ∧ ∀ v x, Rep I own θ w v x → Rep I (look (retH ρ st)) (fun k => (look (swapL ρ) k).bind θ) w v (x.ren ρ) := by
  have hfw : ∀ nm c o, look ρ nm = some c → own nm = some o → look (retH ρ st) c = some (o.ren ρ) ∧ (look (swapL ρ) c).bind θ = θ nm := fun nm c o hl ho => by
    have hs := (look_swap h1 h2).1 hl
    rw [hρ nm c hl] at ho
    rw [retH_look h2, hs]
    simp [ho]
  have hbw : ∀ c o, look (retH ρ st) c = some o → ∃ nm o', look ρ nm = some c ∧ own nm = some o' ∧ o = o'.ren ρ ∧ (look (swapL ρ) c).bind θ = θ nm := fun c o ho => by
    rw [retH_look h2] at ho
    obtain ⟨nm, hs, ho'⟩ := Option.bind_eq_some_iff.1 ho
    obtain ⟨o', ho'', rfl⟩ := Option.map_eq_some_iff.1 ho'
    exact ⟨nm, o', (look_swap h1 h2).2 hs, (hρ nm c ((look_swap h1 h2).2 hs)).trans ho'', rfl, by simp [hs]⟩
  refine ⟨{ k with le := fun nm o ho => ?_, rel := ⟨fun c e' cells hc => ?_, fun c sz e m hc g cc hg => ?_, fun c c' g cc cc' hc hc' hg hg' => ?_, fun c sz e m f hc => ?_, fun c x hc => ?_, fun c sz m hc hnn => ?_⟩, new := fun c g cc hc hg => ?_ }, fun v x hx => hx.ren ρ hfw⟩
  · obtain ⟨o', ho', hl⟩ := k.le nm o ho
    obtain ⟨e1, e2⟩ := hfw nm nm o' (hh nm (by simp [ho])) ho'
    refine ⟨_, e1, ?_⟩
    rw [e2]
    cases o <;> cases o' <;> simp_all [OwnLe, Own.ren]
  rotate_left 5
  · obtain ⟨nm, o', hl, ho', he, ht⟩ := hbw c _ hc
    cases o' with
    | row => simp [Own.ren] at he
    | arr => simp [Own.ren] at he
    | obj => simp [Own.ren] at he
    | tok =>
      simp only [Own.ren, Own.tok.injEq] at he
      obtain ⟨rfl, rfl, rfl⟩ := he
      exact k.rel.tok8 nm _ _ ho' (ht.symm.trans hnn)
  rotate_right 1
  · obtain ⟨nm, o', hl, ho', he, ht⟩ := hbw c _ hc
    cases o' with
    | row => simp [Own.ren] at he
    | tok => simp [Own.ren] at he
    | arr => simp [Own.ren] at he
    | obj x' =>
      simp only [Own.ren, Own.obj.injEq] at he
      subst he
      exact obj_map (θ' := fun c => (look (swapL ρ) c).bind θ) (nm' := c) (k.rel.obj nm _ ho') ht (fun _ _ _ => rfl) (fun _ _ _ _ h => h) (fun _ hh => hh.on _ (fun _ _ h => h) (fun _ _ _ => rfl) fun _ _ hv => hv.ren ρ hfw) on_nil
  rotate_left 1
  · obtain ⟨nm, o', hl, ho', he, ht⟩ := hbw c _ hc
    cases o' with
    | tok => simp [Own.ren] at he
    | arr => simp [Own.ren] at he
    | obj => simp [Own.ren] at he
    | row e1 cs =>
      simp only [Own.ren, Own.row.injEq] at he
      obtain ⟨rfl, rfl⟩ := he
      obtain ⟨g, c', vs, r1, r2, r3, r4, r5, r6⟩ := k.rel.row nm _ cs ho'
      refine ⟨g, c', vs, ht.trans r1, r2, by rw [ren_length]; exact r3, fun j hj => r4 j (by rwa [ren_length] at hj), fun j hj => ?_, r6⟩
      rw [ren_getD]
      exact (r5 j (by rwa [ren_length] at hj)).ren ρ hfw
  · obtain ⟨nm, o', hl, ho', he, ht⟩ := hbw c _ hc
    cases o' with
    | row => simp [Own.ren] at he
    | arr => simp [Own.ren] at he
    | obj => simp [Own.ren] at he
    | tok =>
      simp only [Own.ren, Own.tok.injEq] at he
      obtain ⟨rfl, rfl, rfl⟩ := he
      exact k.rel.tok nm _ _ _ ho' g cc (by rw [← ht]; exact hg)
  · cases hx : look (retH ρ st) c with
    | none => exact (hc hx).elim
    | some o =>
      cases hx' : look (retH ρ st) c' with
      | none => exact (hc' hx').elim
      | some o' =>
        obtain ⟨nm, o1, hl, ho1, _, ht⟩ := hbw c o hx
        obtain ⟨nm', o2, hl', ho2, _, ht'⟩ := hbw c' o' hx'
        rw [ht] at hg
        rw [ht'] at hg'
        have := k.rel.inj nm nm' g cc cc' (by simp [ho1]) (by simp [ho2]) hg hg'
        subst this
        rw [hl] at hl'
        exact Option.some.inj hl'
  · obtain ⟨nm, o', hl, ho', he, ht⟩ := hbw c _ hc
    cases o' with
    | row => simp [Own.ren] at he
    | tok => simp [Own.ren] at he
    | obj => simp [Own.ren] at he
    | arr sz' e' m' f' =>
      simp only [Own.ren, Own.arr.injEq] at he
      obtain ⟨rfl, rfl, rfl, rfl⟩ := he
      exact arr_map (k.rel.arr nm _ _ _ _ ho') ht (fun _ _ _ => rfl) (fun _ _ _ _ h => h) (fun i _ => ren_length _ _) (fun v i j _ _ hv => by rw [ren_getD]; exact hv.ren ρ hfw)
  · cases hx : look (retH ρ st) c with
    | none => exact (hc hx).elim
    | some o =>
      obtain ⟨nm, o1, hl, ho1, _, ht⟩ := hbw c o hx
      rw [ht] at hg
      exact k.new nm g cc (by simp [ho1]) hg

theorem spec_of_awp {f : FuncId} {fn : Func} {c : Code} {args : List AV} {H H' : List (Nat × Own)} {res : AV} (hf : P.funcs[f]? = some fn) (hb : fn.body = some c) (hname : (fn.name == "runtime.NumGoroutine") = false) (hlen : Nat.ble args.length fn.ntmps = true)
    (h : ∀ Γ : Env, Γ.n = fn.ntmps → Γ.own0 = look H → awp P Γ c (retK P fn.results.toList H res H') (initSt args H)) (hpl : plainB H = true := by rfl) : Spec P f args H res H' := by
  have hlen := Nat.le_of_ble_eq_true hlen
  refine ⟨fun az w => ?_, fun w I θ az hargs hown hval hglob => ?_⟩
  · have hn : ¬ fn.name = "runtime.NumGoroutine" := by simpa using hname
    simp [callFunc, hf, hn, hb]
  · let Γ : Env := ⟨w, fn.ntmps, look H, θ, I, hglob, fun nm h => plain_lt hpl h⟩
    refine calls_of_wp hf hb ?_
    have has : az.size = args.length := by simpa using hargs.length
    have hown0 : (initSt args H).sto.own = look H := famOwn_plain hpl
    have hrel : Rel Γ (initSt args H).sto I θ ⟨az ++ Array.replicate (fn.ntmps - az.size) undef, []⟩ w := by
      refine ⟨by simp [Γ]; omega, rfl, fun t => ?_, by rw [hown0]; exact .refl hown hval⟩
      have e : (initSt args H).sto.tmp t = if t < args.length then args.getD t .any else .any := by
        show (match look (enumA 0 args) t with | some x => x | none => .any) = _
        rw [look_enum]
        by_cases ht : t < args.length
        · simp [ht]
        · simp [ht]
      rw [e, hown0]
      by_cases ht : t < args.length
      · rw [if_pos ht]
        have := hargs.get t ht
        have e2 : (az ++ Array.replicate (fn.ntmps - az.size) undef).getD t undef = az.toList.getD t undef := by
          have hts : t < az.size := by omega
          simp [Array.getD_eq_getD_getElem?, List.getD, Array.getElem?_append_left hts]
        rw [e2]
        exact this
      · rw [if_neg ht]
        exact .val _ _ (.any _)
    refine wp_mono (h Γ rfl rfl I θ _ w hrel) fun e a' w' ⟨st', I', θ', ⟨he, ρ, hret⟩, hr⟩ => ?_
    unfold retOf at hret
    cases hc : retCheck H ρ with
    | false => simp [hc] at hret
    | true =>
      simp only [hc, cond_true] at hret
      split at hret
      · rename_i x hx
        simp only [Option.some.injEq, Prod.mk.injEq] at hret
        obtain ⟨rfl, rfl⟩ := hret
        simp only [retCheck, Bool.and_eq_true] at hc
        obtain ⟨⟨c1, c2, c4⟩, c3⟩ := hc
        obtain ⟨v, hv, hrep⟩ := ret_sound (fn := fn) hr hx
        obtain ⟨k1, k2⟩ := chg_ret (own := st'.sto.own) (st := st') (fun nm c hl => famOwn_lt (by have := List.all_eq_true.1 c4 _ (look_mem hl); simpa [Nat.blt_eq] using this)) (nodupB_nodup c1) (nodupB_nodup c2) hr.chg (fun nm hn => by
          cases hl : look H nm with
          | none => exact (hn hl).elim
          | some o =>
            have := List.all_eq_true.1 c3 _ (look_mem hl)
            simp only at this
            split at this
            · rename_i k hk
              rw [hk, Nat.eq_of_beq_eq_true this]
            · cases this)
        have hfin : a'.defers = [] ∧ ∃ v, (results fn a'.tmps).run P w' = .ok v w' ∧ (∃ v_1 I' θ', Ending.returned v = .returned v_1 ∧ Chg (look H) θ I w (look (retH ρ st')) θ' I' w' ∧ Rep I' (look (retH ρ st')) θ' w' v_1 (x.ren ρ)) :=
          ⟨hr.defers, v, hv, v, I', _, rfl, k1, k2 _ _ hrep⟩
        rcases he with rfl | rfl <;> exact hfin
      · cases hret

/-- A law: it answers true, and of what was there nothing has turned. -/
theorem law_of_spec {f : FuncId} {args : List AV} (h : Spec P f args [] (.bool true) []) (w : World) (az : Array Value) (hargs : RepL (fun b o => ∃ u, w.cell? ⟨b, o, none⟩ = some u) (look []) (fun _ => none) w az.toList args) (hG : GOk (fun b o => ∃ u, w.cell? ⟨b, o, none⟩ = some u) w) :
    Calls P f az w fun e w' => e = .returned (.bool true) ∧ Below w.heap.size w w' := by
  refine Calls.mono (h.2 w _ (fun _ => none) az hargs ⟨(fun _ _ _ h => by cases h), (fun _ _ _ _ h => by cases h), (fun _ _ _ _ _ h => (h rfl).elim), (fun _ _ _ _ _ h => by cases h), (fun _ _ h => by cases h), (fun _ _ _ h => by cases h)⟩ (fun _ _ h => h) hG) fun e w' ⟨v, I', θ', he, k, hr⟩ => ?_
  subst he
  rw [hr.bool_inv]
  exact ⟨rfl, k.os, k.tape, k.output, k.grow, fun b hb => k.frame b hb fun _ _ h => (h rfl).elim⟩
end
end Go.Proofs.Ytlkcijaejngomaa

namespace Go.Proofs.Ytlkcijaejngomaa
open Go Go.RowKit
set_option linter.unusedSimpArgs false
set_option linter.unusedVariables false

/-- A slice whose elements are those of a list. -/
def AV.list {α : Type} (sz : Nat) (e : α → List AV) (d : α) (l : List α) (t : Tag) : AV := .slice sz l.length (fun i => e (l.getD i d)) t

section
variable {α : Type} {sz : Nat} {e : α → List AV} {d : α}
theorem av_nil : AVle (.slice 0 0 (fun _ => []) .exact) (AV.list sz e d [] .exact) := AVle.empty rfl (fun _ h => by cases h)
theorem av_lit {n : Nat} {f : Nat → List AV} {t : Tag} {xs : List α} (hn : n = xs.length) (hf : ∀ i, i < n → f i = e (xs.getD i d)) : AVle (.slice sz n f t) (AV.list sz e d xs t) := AVle.slice hn hf
theorem map_get (xs : List α) (i : Nat) (h : i < xs.length) : (xs.map e).getD i [] = e (xs.getD i d) := by simp [List.getD, h]
theorem app_get (l m : List α) (i : Nat) (h : i < l.length + m.length) : appF l.length (fun i => e (l.getD i d)) (fun i => e (m.getD i d)) i = e ((l ++ m).getD i d) := by
  by_cases hi : i < l.length
  · rw [appF_lt _ _ hi, List.getD, List.getD, List.getElem?_append_left hi]
  · rw [appF_ge _ _ (by omega), List.getD, List.getD, List.getElem?_append_right (by omega)]
theorem av_app {t : Tag} {l m : List α} : AVle (.slice sz (l.length + m.length) (appF l.length (fun i => e (l.getD i d)) (fun i => e (m.getD i d))) t) (AV.list sz e d (l ++ m) t) :=
  AVle.slice (by simp) fun i hi => app_get l m i hi
theorem len_app (l m : List α) : l.length + m.length = (l ++ m).length := by simp
theorem av_drop {t : Tag} {l : List α} {k : Nat} : AVle (.slice sz (l.length - k) (fun i => e (l.getD (k + i) d)) t) (AV.list sz e d (l.drop k) t) :=
  AVle.slice (by simp) fun i _ => by simp [List.getD]
theorem av_take {t : Tag} {l : List α} {k : Nat} (h : k ≤ l.length) : AVle (.slice sz k (fun i => e (l.getD i d)) t) (AV.list sz e d (l.take k) t) :=
  AVle.slice (by simp; omega) fun i hi => by simp [List.getD, List.getElem?_take, hi]
theorem av_sub {t : Tag} {l : List α} {k m : Nat} (h : m ≤ l.length) : AVle (.slice sz (m - k) (fun i => e (l.getD (k + i) d)) t) (AV.list sz e d ((l.take m).drop k) t) :=
  AVle.slice (by simp; omega) fun i hi => by
    have : k + i < m := by omega
    simp [List.getD, List.getElem?_take, this]
end

/-- What is new is forgotten. -/
theorem Spec.drop {P : Program} {f : FuncId} {args : List AV} {res : AV} {H' : List (Nat × Own)} (h : Spec P f args [] res H') : Spec P f args [] res.strip [] := by
  refine ⟨h.1, fun w I θ az ha ho hv hg => Calls.mono (h.2 w I θ az ha ho hv hg) fun e w' ⟨v, I', θ', he, k, hr⟩ => ⟨v, I', θ', he, ⟨k.imm, k.cell, (fun _ _ h => by cases h), ⟨(fun _ _ _ h => by cases h), (fun _ _ _ _ h => by cases h), (fun _ _ _ _ _ h => (h rfl).elim), (fun _ _ _ _ _ h => by cases h), (fun _ _ h => by cases h), (fun _ _ _ h => by cases h)⟩, k.valid, k.os, k.tape, k.output, k.grow, k.frame, (fun _ _ _ h => (h rfl).elim), fun b o hi => ?_⟩, .val _ _ hr.strip⟩⟩
  exact k.immNew b o hi

/-- Of two, by a guard, told anew. -/
theorem av_bif_int {γ : Bool} {k : IntKind} {a : Int} : AVle (.int k (bif γ then a else a)) (.int k a) := by cases γ <;> exact fun _ _ _ _ _ h => h
theorem av_bif_bool {γ a : Bool} : AVle (.bool (bif γ then a else a)) (.bool a) := by cases γ <;> exact fun _ _ _ _ _ h => h
theorem av_bif_str {γ : Bool} {a : List Int} : AVle (.str (bif γ then a else a)) (.str a) := by cases γ <;> exact fun _ _ _ _ _ h => h
theorem av_bif_list {α : Type} {sz : Nat} {e : α → List AV} {d : α} {γ : Bool} {l m : List α} : AVle (.slice sz (bif γ then m.length else l.length) (fun i => bif γ then e (m.getD i d) else e (l.getD i d)) .none) (AV.list sz e d (bif γ then m else l) .none) := by cases γ <;> exact fun _ _ _ _ _ h => h
theorem av_bif_same {α : Type} {sz : Nat} {e : α → List AV} {d : α} {γ : Bool} {l : List α} : AVle (.slice sz (bif γ then l.length else l.length) (fun i => bif γ then e (l.getD i d) else e (l.getD i d)) .none) (AV.list sz e d l .none) := by cases γ <;> exact fun _ _ _ _ _ h => h

/-- What is told of less is told of more. -/
theorem Spec.args {P : Program} {f : FuncId} {xs ys : List AV} {H : List (Nat × Own)} {res : AV} {H' : List (Nat × Own)} (hl : AVleL xs ys) (h : Spec P f ys H res H') : Spec P f xs H res H' := by
  refine ⟨h.1, fun w I θ az ha ho hv hg => h.2 w I θ az ?_ ho hv hg⟩
  revert hl
  have key : ∀ {vs : List Value} {xs ys : List AV}, AVleL xs ys → RepL I (look H) θ w vs xs → RepL I (look H) θ w vs ys := by
    intro vs xs ys hl
    induction hl generalizing vs with
    | nil => intro h; cases h; exact .nil
    | cons h1 _ ih => intro h; cases h with | cons h2 h3 => exact .cons (h1 _ _ _ _ _ h2) (ih h3)
  exact fun hl => key hl ha
theorem av_nil0 {α : Type} {sz : Nat} {e : α → List AV} {d : α} : AVle (.slice 0 0 (fun _ => []) .none) (AV.list sz e d [] .none) := AVle.empty rfl (fun _ h => by cases h)

/-- A table's element. -/
theorem av_tabS {l : List (List Int)} {i : Nat} (h : i < l.length) : AVle ((l.map AV.str).getD i .any) (.str (l.getD i [])) := by
  have : (l.map AV.str).getD i .any = .str (l.getD i []) := by simp [List.getD, h]
  rw [this]
  exact .refl _
theorem av_tabI {k : IntKind} {l : List Int} {i : Nat} (h : i < l.length) : AVle ((l.map (AV.int k)).getD i .any) (.int k (l.getD i 0)) := by
  have : (l.map (AV.int k)).getD i .any = .int k (l.getD i 0) := by simp [List.getD, h]
  rw [this]
  exact .refl _
theorem av_tabSP {l : List (List Int)} {i : Nat} (h : i < l.length) : AVle ((l.map AV.str).getD (i * 1) .any) (.str (l.getD i [])) := by rw [Nat.mul_one]; exact av_tabS h
theorem av_tabIP {k : IntKind} {l : List Int} {i : Nat} (h : i < l.length) : AVle ((l.map (AV.int k)).getD (i * 1) .any) (.int k (l.getD i 0)) := by rw [Nat.mul_one]; exact av_tabI h

instance (i : Int) (n : Nat) : Decidable (InB i n) := inferInstanceAs (Decidable (_ ∧ _))

theorem and_l {a b : Bool} (h : (a && b) = true) : a = true := by cases a <;> simp_all
abbrev w64 (n : Int) : Int := IntKind.i64.wrap n
abbrev wu64 (n : Int) : Int := IntKind.u64.wrap n
abbrev wu8 (n : Int) : Int := IntKind.u8.wrap n
open Classical in
/-- What comes of it with all fuel that is enough. -/
noncomputable def fixO {R : Type} (f : Nat → Option R) : Option R := if h : ∃ r n, ∀ m, n ≤ m → f m = some r then some h.choose else none
theorem fixO_some {R : Type} {f : Nat → Option R} {r : R} (h : fixO f = some r) : ∃ n, f n = some r := by
  unfold fixO at h
  split at h
  · rename_i hx
    obtain ⟨n, hn⟩ := hx.choose_spec
    simp only [Option.some.injEq] at h
    exact ⟨n, h ▸ hn n (Nat.le_refl n)⟩
  · cases h
theorem fixO_of {R : Type} {f : Nat → Option R} {r : R} (n : Nat) (h : ∀ m, n ≤ m → f m = some r) : fixO f = some r := by
  have hx : ∃ r n, ∀ m, n ≤ m → f m = some r := ⟨r, n, h⟩
  unfold fixO
  rw [dif_pos hx]
  obtain ⟨k, hk⟩ := hx.choose_spec
  have h1 := hk (max n k) (by omega)
  rw [h (max n k) (by omega)] at h1
  exact h1.symm
section
variable {Γ : Env}
theorem le_restrict_eq {st st' : St} (live names : List Nat) (h : restrict live names st = st') (hn : ∀ nm, Γ.own0 nm ≠ none → nm ∈ names) : Le Γ st st' := h ▸ le_restrict live names hn
theorem le_eq {st st' : St} (h : st = st') : Le Γ st st' := h ▸ Le.refl _ _
end
end Go.Proofs.Ytlkcijaejngomaa

namespace Go.Proofs.Ytlkcijaejngomaa
open Go Go.RowKit
set_option linter.unusedVariables false

section
variable {P : Program} {Γ : Env}

def notB (nm : Nat) (k : Nat) : Bool := !Nat.beq k nm
mutual
/-- The row 'nm' is written no more: what bears it whole is a slice whose elements never change any more. -/
def AV.frz (nm sz n : Nat) (g : Nat → List AV) : AV → AV
  | .slice s m f (.own k) => .slice s m f (bif Nat.beq k nm then .none else .own k)
  | .ptr k off => bif Nat.beq k nm then .any else .ptr k off
  | .vsl k j => bif Nat.beq k nm then .slice sz n g (.own nm) else .vsl k j
  | .vpt k j i c => bif Nat.beq k nm then .any else .vpt k j i c
  | .vsub k j l h => bif Nat.beq k nm then .any else .vsub k j l h
  | .optr k => bif Nat.beq k nm then .any else .optr k
  | .omap k => bif Nat.beq k nm then .any else .omap k
  | .clo f xs ys => .clo f (AV.frzAll nm sz n g xs) (AV.frzAll nm sz n g ys)
  | .agg cs => .agg (AV.frzAll nm sz n g cs)
  | .tuple cs => .tuple (AV.frzAll nm sz n g cs)
  | .cond c x => .cond c (x.frz nm sz n g)
  | x => x
def AV.frzAll (nm sz n : Nat) (g : Nat → List AV) : List AV → List AV
  | [] => []
  | x :: l => x.frz nm sz n g :: AV.frzAll nm sz n g l
end
mutual
/-- What bears the row bears it whole. -/
def AV.wholes (nm n : Nat) : AV → List Prop
  | .vsl k j => bif Nat.beq k nm then [j = n] else []
  | .agg cs => AV.wholesAll nm n cs
  | .tuple cs => AV.wholesAll nm n cs
  | .cond _ x => x.wholes nm n
  | .clo _ xs ys => AV.wholesAll nm n xs ++ AV.wholesAll nm n ys
  | _ => []
def AV.wholesAll (nm n : Nat) : List AV → List Prop
  | [] => []
  | x :: l => x.wholes nm n ++ AV.wholesAll nm n l
end
mutual
/-- What is told of elements elsewhere: the row 'nm', borne whole, is a slice whose elements never change any more. -/
def AV.frw (nm sz n : Nat) (g : Nat → List AV) : AV → AV
  | .slice s m f (.own k) => .slice s m f (bif notB nm k then .own k else .none)
  | .slice s m f (.fam b i) => .slice s m f (bif notB nm b then .fam b i else .none)
  | .ptr k off => bif notB nm k then .ptr k off else .any
  | .vsl k j => bif notB nm k then .vsl k j else bif Nat.beq j n then .slice sz n g .none else .any
  | .vpt k j i c => bif notB nm k then .vpt k j i c else .any
  | .vsub k j l h => bif notB nm k then .vsub k j l h else .any
  | .optr k => bif notB nm k then .optr k else .any
  | .omap k => bif notB nm k then .omap k else .any
  | .clo f xs ys => .clo f (AV.frwAll nm sz n g xs) (AV.frwAll nm sz n g ys)
  | .agg cs => .agg (AV.frwAll nm sz n g cs)
  | .tuple cs => .tuple (AV.frwAll nm sz n g cs)
  | .cond c x => .cond c (x.frw nm sz n g)
  | x => x
def AV.frwAll (nm sz n : Nat) (g : Nat → List AV) : List AV → List AV
  | [] => []
  | x :: l => x.frw nm sz n g :: AV.frwAll nm sz n g l
end
theorem frw_length (nm sz n : Nat) (g : Nat → List AV) (l : List AV) : (AV.frwAll nm sz n g l).length = l.length := by induction l with | nil => rfl | cons x l ih => simp [AV.frwAll, ih]
theorem frw_getD (nm sz n : Nat) (g : Nat → List AV) (l : List AV) (j : Nat) : (AV.frwAll nm sz n g l).getD j .any = (l.getD j .any).frw nm sz n g := by
  induction l generalizing j with
  | nil => simp [AV.frwAll, AV.frw]
  | cons x l ih => cases j with
    | zero => simp [AV.frwAll]
    | succ j => simpa [AV.frwAll] using ih j
theorem frw_append (nm sz n : Nat) (g : Nat → List AV) (l m : List AV) : AV.frwAll nm sz n g (l ++ m) = AV.frwAll nm sz n g l ++ AV.frwAll nm sz n g m := by induction l with | nil => rfl | cons x l ih => simp [AV.frwAll, ih]
theorem frw_drop (nm sz n : Nat) (g : Nat → List AV) (l : List AV) (k : Nat) : AV.frwAll nm sz n g (l.drop k) = (AV.frwAll nm sz n g l).drop k := by
  induction l generalizing k with
  | nil => simp [AV.frwAll]
  | cons x l ih => cases k with
    | zero => simp
    | succ k => simpa [AV.frwAll] using ih k
theorem RepV.frw {I : Nat → Nat → Prop} {w : World} {v : Value} {x : AV} (h : RepV I w v x) (nm sz n : Nat) (g : Nat → List AV) : RepV I w v (x.frw nm sz n g) := by
  induction h with
  | any v => exact .any v
  | undef => exact .undef
  | int k n => exact .int k n
  | bool b => exact .bool b
  | str s => exact .str s
  | clo f => exact .clo f
  | nxt1 i r => exact .nxt1 i r
  | nxt0 i r => exact .nxt0 i r
  | nilq b pos n h => exact .nilq b pos n h
  | err0 => exact .err0
  | err1 t v => exact .err1 t v
  | nilp => exact .nilp
  | nilm => exact .nilm
  | cond v c x _ h' ih => exact .cond v c _ ih h'
  | rptr a cells us hs hI' hc h1 hr _ => exact .rptr a cells us hs hI' hc h1 hr
  | slice a n cap sz f us hcap hmax hz hn h1 hl hr _ => exact .slice a n cap sz f us hcap hmax hz hn h1 hl hr
  | agg vs cs hl h1 _ ih => exact .agg vs _ (by rw [frw_length, hl]) (fun j hj => h1 j (by rwa [frw_length] at hj)) (fun j hj => by rw [frw_getD]; exact ih j (by rwa [frw_length] at hj))
  | tuple vs cs hl _ ih => exact .tuple vs _ (by rw [frw_length, hl]) (fun j hj => by rw [frw_getD]; exact ih j (by rwa [frw_length] at hj))
def Own.frz (nm sz n : Nat) (g : Nat → List AV) : Own → Own
  | .row e cells => .row e (AV.frzAll nm sz n g cells)
  | .arr s e m f => .arr s e m (fun i => AV.frwAll nm sz n g (f i))
  | .obj x => .obj (x.on (AV.frw nm sz n g))
  | .tok s e m => .tok s e m
def Own.wholes (nm n : Nat) : Own → List Prop
  | .row _ cells => AV.wholesAll nm n cells
  | _ => []
def St.wholes (st : St) (nm n : Nat) : List Prop := (st.tmps.map fun x => x.2.wholes nm n).flatten ++ (st.own.map fun x => x.2.wholes nm n).flatten
def St.freeze (st : St) (nm sz n : Nat) (e : TypeId) (g : Nat → List AV) : St :=
  ⟨st.tmps.map fun x => (x.1, x.2.frz nm sz n g), st.own.map fun x => (x.1, bif Nat.beq x.1 nm then .tok sz e n else x.2.frz nm sz n g), st.fam⟩

theorem frz_length (nm sz n : Nat) (g : Nat → List AV) (l : List AV) : (AV.frzAll nm sz n g l).length = l.length := by induction l with | nil => rfl | cons x l ih => simp [AV.frzAll, ih]
theorem frz_getD (nm sz n : Nat) (g : Nat → List AV) (l : List AV) (j : Nat) : (AV.frzAll nm sz n g l).getD j .any = (l.getD j .any).frz nm sz n g := by
  induction l generalizing j with
  | nil => simp [AV.frzAll, AV.frz]
  | cons x l ih => cases j with
    | zero => simp [AV.frzAll]
    | succ j => simpa [AV.frzAll] using ih j
theorem wholes_getD {nm n : Nat} {l : List AV} (h : ∀ p ∈ AV.wholesAll nm n l, p) (j : Nat) : ∀ p ∈ (l.getD j .any).wholes nm n, p := by
  induction l generalizing j with
  | nil => intro p hp; simp [AV.wholes] at hp
  | cons x l ih =>
    simp only [AV.wholesAll] at h
    cases j with
    | zero => intro p hp; exact h p (List.mem_append.2 (.inl (by simpa using hp)))
    | succ j => intro p hp; exact ih (fun q hq => h q (List.mem_append.2 (.inr hq))) j p (by simpa using hp)

theorem RepV.frz {I : Nat → Nat → Prop} {w : World} {v : Value} {x : AV} (h : RepV I w v x) (nm sz n : Nat) (g : Nat → List AV) : RepV I w v (x.frz nm sz n g) := by
  induction h with
  | any v => exact .any v
  | undef => exact .undef
  | int k n => exact .int k n
  | bool b => exact .bool b
  | str s => exact .str s
  | clo f => exact .clo f
  | nxt1 i r => exact .nxt1 i r
  | nxt0 i r => exact .nxt0 i r
  | nilq b pos n h => exact .nilq b pos n h
  | err0 => exact .err0
  | err1 t v => exact .err1 t v
  | nilp => exact .nilp
  | nilm => exact .nilm
  | cond v c x _ h' ih => exact .cond v c _ ih h'
  | rptr a cells us hs hI' hc h1 hr _ => exact .rptr a cells us hs hI' hc h1 hr
  | slice a n cap sz f us hcap hmax hz hn h1 hl hr _ => exact .slice a n cap sz f us hcap hmax hz hn h1 hl hr
  | agg vs cs hl h1 _ ih => exact .agg vs _ (by rw [frz_length, hl]) (fun j hj => h1 j (by rwa [frz_length] at hj)) (fun j hj => by rw [frz_getD]; exact ih j (by rwa [frz_length] at hj))
  | tuple vs cs hl _ ih => exact .tuple vs _ (by rw [frz_length, hl]) (fun j hj => by rw [frz_getD]; exact ih j (by rwa [frz_length] at hj))
theorem Rep.frz {I I' : Nat → Nat → Prop} {own own' : Nat → Option Own} {θ : Nat → Option (Nat × Nat)} {w : World} {v : Value} {x : AV} {nm sz n : Nat} {g : Nat → List AV} (h : Rep I own θ w v x) (hp : ∀ p ∈ x.wholes nm n, p) (hI : ∀ b o, I b o → I' b o)
    (ho : ∀ k o, own k = some o → Nat.beq k nm = false → own' k = some (o.frz nm sz n g)) (hk : ∀ v, Rep I own θ w v (.vsl nm n) → Rep I' own' θ w v (.slice sz n g (.own nm))) (hlt' : ∀ b i, Nat.beq (big b i) nm = false) : Rep I' own' θ w v (x.frz nm sz n g) := by
  induction h with
  | val v x h => exact .val _ _ ((h.frz nm sz n g).mono hI (fun _ _ _ => rfl))
  | exact a n sz f h => exact .exact a n sz f (h.mono hI (fun _ _ _ => rfl))
  | own k sz e m a n cap f hn hm hv h =>
    simp only [AV.frz]
    cases hb : Nat.beq k nm with
    | true => exact .val _ _ (h.mono hI (fun _ _ _ => rfl))
    | false => exact .own k sz e m a n cap f (ho k _ hn hb) hm hv (h.mono hI (fun _ _ _ => rfl))
  | fam b i sz e m a n cap f hi hn hm hv h =>
    exact .fam b i sz e m a n cap f hi (ho _ _ hn (hlt' b i)) hm hv (h.mono hI (fun _ _ _ => rfl))
  | ptr k off e0 cells g c hn hg =>
    simp only [AV.frz]
    cases hb : Nat.beq k nm with
    | true => exact .val _ _ (.any _)
    | false => exact .ptr k off e0 _ g c (ho k _ hn hb) hg
  | vsl k s2 e m f a j cap hn hm hcap hmax hnn hv =>
    simp only [AV.frz]
    cases hb : Nat.beq k nm with
    | true =>
      obtain rfl := Nat.eq_of_beq_eq_true hb
      obtain rfl : j = n := hp _ (by simp [AV.wholes])
      exact hk _ (.vsl k s2 e m f a j cap hn hm hcap hmax hnn hv)
    | false => exact .vsl k s2 e m _ a j cap (ho k _ hn hb) hm hcap hmax hnn hv
  | vpt k s2 e m f j i c ad hn hm hi hv =>
    simp only [AV.frz]
    cases hb : Nat.beq k nm with
    | true => exact .val _ _ (.any _)
    | false => exact .vpt k s2 e m _ j i c ad (ho k _ hn hb) hm hi hv
  | clo f fs cs xs ys hl hl' _ _ ih ih' =>
    simp only [AV.wholes, List.mem_append] at hp
    exact .clo f fs cs _ _ (by rw [frz_length, hl]) (by rw [frz_length, hl']) (fun j hj => by rw [frz_getD]; exact ih j (by rwa [frz_length] at hj) (wholes_getD (fun p h => hp p (.inl h)) j)) (fun j hj => by rw [frz_getD]; exact ih' j (by rwa [frz_length] at hj) (wholes_getD (fun p h => hp p (.inr h)) j))
  | vsub k s2 e m f j lo hi a cap hn hm hlo hhi hcap hmax hnn hv =>
    simp only [AV.frz]
    cases hb : Nat.beq k nm with
    | true => exact .val _ _ (.any _)
    | false => exact .vsub k s2 e m _ j lo hi a cap (ho k _ hn hb) hm hlo hhi hcap hmax hnn hv
  | optr k x g c hn hg =>
    simp only [AV.frz]
    cases hb : Nat.beq k nm with
    | true => exact .val _ _ (.any _)
    | false => exact .optr k _ g c (ho k _ hn hb) hg
  | omap k x hn =>
    simp only [AV.frz]
    cases hb : Nat.beq k nm with
    | true => exact .val _ _ (.any _)
    | false => exact .omap k _ (ho k _ hn hb)
  | cond v c x _ h' ih => exact .cond v c _ (fun hc => ih hc (by simpa [AV.wholes] using hp)) h'
  | agg vs cs hl h1 _ ih => exact .agg vs _ (by rw [frz_length, hl]) (fun j hj => h1 j (by rwa [frz_length] at hj)) (fun j hj => by rw [frz_getD]; exact ih j (by rwa [frz_length] at hj) (wholes_getD (by simpa [AV.wholes] using hp) j))
  | tuple vs cs hl _ ih => exact .tuple vs _ (by rw [frz_length, hl]) (fun j hj => by rw [frz_getD]; exact ih j (by rwa [frz_length] at hj) (wholes_getD (by simpa [AV.wholes] using hp) j))

theorem look_mapK {α β : Type} (l : List (Nat × α)) (g : Nat → α → β) (k : Nat) : look (l.map fun x => (x.1, g x.1 x.2)) k = (look l k).map (g k) := by
  induction l with
  | nil => rfl
  | cons x l ih =>
    obtain ⟨a, b⟩ := x
    simp only [List.map_cons, look]
    cases hb : Nat.beq a k with
    | true => have := Nat.eq_of_beq_eq_true hb; subst this; simp
    | false => simpa using ih

theorem memW {α β : Type} {l : List (Nat × α)} {g : α → List β} {k : Nat} {x : α} (h : look l k = some x) {p : β} (hp : p ∈ g x) : p ∈ (l.map fun y => g y.2).flatten :=
  List.mem_flatten.2 ⟨g x, List.mem_map.2 ⟨(k, x), look_mem h, rfl⟩, hp⟩

theorem le_freeze {st : St} {nm sz n : Nat} {e : TypeId} {f g : Nat → List AV} (ho : look st.own nm = some (.arr sz e n f)) (hwh : conjL (st.wholes nm n)) (hf : ∀ i, i < n → AV.stripAll (f i) = g i) (h0 : Γ.own0 nm = none) (hlt : Nat.blt nm famB = true := by rfl) :
    Le Γ st (st.freeze nm sz n e g) := by
  intro I θ a w h
  have hall := conjL_all hwh
  have hlt : nm < famB := by simpa [Nat.blt_eq] using hlt
  have ho : st.sto.own nm = some (.arr sz e n f) := (famOwn_lt hlt).trans ho
  have hown' : (st.freeze nm sz n e g).sto.own = fun k => (st.sto.own k).map fun o => bif Nat.beq k nm then Own.tok sz e n else o.frz nm sz n g := by
    funext k
    by_cases hk : k < famB
    · show famOwn _ _ k = (famOwn _ _ k).map _
      rw [famOwn_lt hk, famOwn_lt hk]
      exact look_mapK st.own (fun k o => bif Nat.beq k nm then Own.tok sz e n else o.frz nm sz n g) k
    · have hb : Nat.beq k nm = false := by cases hb : Nat.beq k nm with | false => rfl | true => exact absurd (Nat.eq_of_beq_eq_true hb) (by rintro rfl; exact hk hlt)
      show famOwn _ _ k = (famOwn _ _ k).map _
      rw [famOwn_ge hk, famOwn_ge hk, hb]
      show (look st.fam (k / famB - 1)).bind _ = _
      cases look st.fam (k / famB - 1) with
      | none => rfl
      | some F => simp only [Option.bind_some, Option.map_map]; cases F.m (k % famB) <;> rfl
  have hnm : (st.freeze nm sz n e g).sto.own nm = some (.tok sz e n) := by rw [hown']; simp [ho]
  have hne : ∀ k, k ≠ nm → (st.freeze nm sz n e g).sto.own k = (st.sto.own k).map (Own.frz nm sz n g) := fun k hk => by
    have : Nat.beq k nm = false := by cases hb : Nat.beq k nm with | false => rfl | true => exact absurd (Nat.eq_of_beq_eq_true hb) hk
    rw [hown']; simp [this]
  have hkeep : ∀ k o, st.sto.own k = some o → Nat.beq k nm = false → (st.freeze nm sz n e g).sto.own k = some (o.frz nm sz n g) := fun k o hk hb => by
    have : k ≠ nm := by rintro rfl; simp at hb
    rw [hne k this]
    rw [hk]; rfl
  have hback : ∀ k, k ≠ nm → ∀ o', (st.freeze nm sz n e g).sto.own k = some o' → ∃ o, st.sto.own k = some o ∧ o' = o.frz nm sz n g := fun k hk o' ho' => by
    rw [hne k hk] at ho'
    obtain ⟨o, h1, h2⟩ := Option.map_eq_some_iff.1 ho'
    exact ⟨o, h1, h2.symm⟩
  have hnone : ∀ k, (st.freeze nm sz n e g).sto.own k ≠ none → st.sto.own k ≠ none := fun k hk => by
    by_cases hkn : k = nm
    · subst hkn; simp [ho]
    · cases hx : (st.freeze nm sz n e g).sto.own k with
      | none => exact (hk hx).elim
      | some o' => obtain ⟨o, h1, _⟩ := hback k hkn o' hx; simp [h1]
  have hrel := h.chg.rel
  obtain ⟨q0, q1⟩ := hrel.arr nm sz e n f ho
  let I' : Nat → Nat → Prop := fun b o => I b o ∨ ((∃ c, θ nm = some (b, c)) ∧ o < n * sz)
  have hII : ∀ b o, I b o → I' b o := fun _ _ h => .inl h
  have hkey : ∀ v, Rep I st.sto.own θ w v (.vsl nm n) → Rep I' (st.freeze nm sz n e g).sto.own θ w v (.slice sz n g (.own nm)) := fun v hs => by
    obtain ⟨sz', e', m, f2, ad, cap, hval, ho', hmm, hcap, hmax, hnn, hvv⟩ := hs.vsl_inv
    have ho'' : st.sto.own nm = some (.arr sz' e' m f2) := ho'
    rw [ho] at ho''
    simp only [Option.some.injEq, Own.arr.injEq] at ho''
    obtain ⟨rfl, rfl, rfl, rfl⟩ := ho''
    have hvv := hvv rfl
    rw [hval]
    refine .own nm sz e n ad n cap g hnm (Nat.le_refl _) (fun _ => hvv) ?_
    cases hθ : θ nm with
    | none =>
      have hn0 := q0 hθ
      subst hn0
      exact .slice ad 0 cap sz g (fun _ => undef) hcap hmax (fun h => by omega) hnn (fun j hj => by omega) (fun i hi => by omega) (fun i c hi => by omega)
    | some gc =>
      obtain ⟨b, c⟩ := gc
      rw [hθ] at hvv
      simp only at hvv
      obtain ⟨rfl, rfl⟩ := hvv
      obtain ⟨cur, r1, r2, r3, r4, r5, r6, r7⟩ := q1 b cap hθ
      have hcell : ∀ j, j < n * sz → w.cell? ⟨b, j, none⟩ = some (cur.getD j undef) := fun j hj => by
        have : n * sz ≤ cap * sz := Nat.mul_le_mul_right _ r2
        rw [cell_of_row w b j cur e (0, 0) r1]
        exact agetD_of (by omega)
      refine .slice _ n cap sz g (fun j => cur.getD j undef) hcap hmax (fun _ => ⟨⟨b, 0, none⟩, rfl, rfl, fun j hj => .inr ⟨⟨cap, hθ⟩, by simpa using hj⟩, fun j hj => by simpa using hcell j hj⟩) (by simp) (fun j hj => ?_) (fun i hi => ?_) (fun i k hi hk => ?_)
      · have hs : 0 < sz := by
          rcases Nat.eq_zero_or_pos sz with h0 | h0
          · rw [h0] at hj; omega
          · exact h0
        have e2 : j / sz * sz + j % sz = j := by rw [Nat.mul_comm]; exact Nat.div_add_mod j sz
        have := (r6 (j / sz) (j % sz) (by rw [Nat.div_lt_iff_lt_mul hs]; exact hj) (Nat.mod_lt _ hs)).1
        rwa [e2] at this
      · rw [← hf i hi, stripAll_length]; exact r5 i hi
      · rw [← hf i hi, stripAll_getD]
        exact ((r6 i k hi hk).2.strip).mono hII (fun _ _ _ => rfl)
  have hlt' : ∀ b i, Nat.beq (big b i) nm = false := fun b i => by cases hb : Nat.beq (big b i) nm with | false => rfl | true => exact absurd (Nat.eq_of_beq_eq_true hb) (by rintro rfl; exact big_ge b i hlt)
  have hcast : ∀ v x, Rep I st.sto.own θ w v x → (∀ p ∈ x.wholes nm n, p) → Rep I' (st.freeze nm sz n e g).sto.own θ w v (x.frz nm sz n g) := fun v x hx hp => hx.frz hp hII hkeep hkey hlt'
  have hfar : ∀ k b c, k ≠ nm → st.sto.own k ≠ none → θ k = some (b, c) → ∀ j, I' b j → I b j := fun k b c hk hk' hg j hj => by
    rcases hj with hj | ⟨⟨c', hc'⟩, _⟩
    · exact hj
    · exact (hk (hrel.inj k nm b c c' hk' (by simp [ho]) hg hc')).elim
  -- what is told of elements elsewhere: nothing that bears the row
  have hcast2 : ∀ v x, Rep I st.sto.own θ w v x → Rep I' (st.freeze nm sz n e g).sto.own θ w v (x.frw nm sz n g) := fun v x hx => by
    have key : ∀ {v : Value} {x : AV}, Rep I st.sto.own θ w v x → Rep I' (st.freeze nm sz n e g).sto.own θ w v (x.frw nm sz n g) := by
      intro v x h
      induction h with
      | val v x h => exact .val _ _ ((h.frw nm sz n g).mono hII (fun _ _ _ => rfl))
      | exact a n sz f h => exact .exact a n sz f (h.mono hII (fun _ _ _ => rfl))
      | own k sz e m a n cap f hn hm hv h =>
        simp only [AV.frw, notB]
        cases hb : Nat.beq k nm with
        | true => exact .val _ _ (h.mono hII (fun _ _ _ => rfl))
        | false => exact .own k sz e m a n cap f (hkeep k _ hn hb) hm hv (h.mono hII (fun _ _ _ => rfl))
      | fam b i sz e m a n cap f hi hn hm hv h =>
        simp only [AV.frw, notB]
        cases hb : Nat.beq b nm with
        | true => exact .val _ _ (h.mono hII (fun _ _ _ => rfl))
        | false => exact .fam b i sz e m a n cap f hi (hkeep _ _ hn (hlt' b i)) hm hv (h.mono hII (fun _ _ _ => rfl))
      | ptr k off e0 cells g c hn hg =>
        simp only [AV.frw, notB]
        cases hb : Nat.beq k nm with
        | true => exact .val _ _ (.any _)
        | false => exact .ptr k off e0 _ g c (hkeep k _ hn hb) hg
      | vsl k s2 e m f a j cap hn hm hcap hmax hnn hv =>
        simp only [AV.frw, notB]
        cases hb : Nat.beq k nm with
        | true =>
          simp only [Bool.not_true, cond_false]
          cases hj : Nat.beq j n with
          | false => exact .val _ _ (.any _)
          | true =>
            obtain rfl := Nat.eq_of_beq_eq_true hb
            obtain rfl := Nat.eq_of_beq_eq_true hj
            exact .val _ _ (hkey _ (.vsl k s2 e m f a j cap hn hm hcap hmax hnn hv)).slice_val
        | false => exact .vsl k s2 e m _ a j cap (hkeep k _ hn hb) hm hcap hmax hnn hv
      | vpt k s2 e m f j i c ad hn hm hi hv =>
        simp only [AV.frw, notB]
        cases hb : Nat.beq k nm with
        | true => exact .val _ _ (.any _)
        | false => exact .vpt k s2 e m _ j i c ad (hkeep k _ hn hb) hm hi hv
      | clo f fs cs xs ys hl hl' _ _ ih ih' => exact .clo f fs cs _ _ (by rw [frw_length, hl]) (by rw [frw_length, hl']) (fun j hj => by rw [frw_getD]; exact ih j (by rwa [frw_length] at hj)) (fun j hj => by rw [frw_getD]; exact ih' j (by rwa [frw_length] at hj))
      | vsub k s2 e m f j lo hi a cap hn hm hlo hhi hcap hmax hnn hv =>
        simp only [AV.frw, notB]
        cases hb : Nat.beq k nm with
        | true => exact .val _ _ (.any _)
        | false => exact .vsub k s2 e m _ j lo hi a cap (hkeep k _ hn hb) hm hlo hhi hcap hmax hnn hv
      | optr k x g c hn hg =>
        simp only [AV.frw, notB]
        cases hb : Nat.beq k nm with
        | true => exact .val _ _ (.any _)
        | false => exact .optr k _ g c (hkeep k _ hn hb) hg
      | omap k x hn =>
        simp only [AV.frw, notB]
        cases hb : Nat.beq k nm with
        | true => exact .val _ _ (.any _)
        | false => exact .omap k _ (hkeep k _ hn hb)
      | cond v c x _ h' ih => exact .cond v c _ ih h'
      | agg vs cs hl h1 _ ih => exact .agg vs _ (by rw [frw_length, hl]) (fun j hj => h1 j (by rwa [frw_length] at hj)) (fun j hj => by rw [frw_getD]; exact ih j (by rwa [frw_length] at hj))
      | tuple vs cs hl _ ih => exact .tuple vs _ (by rw [frw_length, hl]) (fun j hj => by rw [frw_getD]; exact ih j (by rwa [frw_length] at hj))
    exact key hx
  refine ⟨I', θ, h.size, h.defers, fun t => ?_, ?_⟩
  · have hslot : (st.freeze nm sz n e g).sto.tmp t = match look st.tmps t with | some x => x.frz nm sz n g | none => .any := by
      show (match look (st.tmps.map fun x => (x.1, x.2.frz nm sz n g)) t with | some x => x | none => .any) = _
      rw [look_mapK st.tmps (fun _ x => x.frz nm sz n g) t]
      cases look st.tmps t <;> rfl
    rw [hslot]
    have hs := h.slots t
    have hget : st.sto.tmp t = match look st.tmps t with | some x => x | none => .any := rfl
    cases hl : look st.tmps t with
    | none => exact .val _ _ (.any _)
    | some x =>
      rw [hget, hl] at hs
      exact hcast _ _ hs (fun p hp => hall p (List.mem_append.2 (.inl (memW (g := fun x => x.wholes nm n) hl hp))))
  · refine { h.chg with imm := fun b o hi => .inl (h.chg.imm b o hi), le := fun k o hk => ?_, rel := ⟨fun k e0 cells hk => ?_, fun k s2 e2 m hk b c hg => ?_, fun k k' b c c' hk hk' => ?_, fun k s2 e2 m f2 hk => ?_, fun k x hk => ?_, fun k s2 m hk hnn => ?_⟩, valid := fun b o hi => ?_, new := fun k b c hk hg => ?_, immNew := fun b o hi => ?_ }
    · obtain ⟨o', ho', hl⟩ := h.chg.le k o hk
      have hkn : k ≠ nm := by rintro rfl; rw [h0] at hk; cases hk
      have hkb : Nat.beq k nm = false := by cases hb : Nat.beq k nm with | false => rfl | true => exact absurd (Nat.eq_of_beq_eq_true hb) hkn
      refine ⟨_, hkeep k o' ho' hkb, ?_⟩
      cases o <;> cases o' <;> first | exact hl | exact hl.elim
    rotate_left 4
    · have hkn : k ≠ nm := by rintro rfl; rw [hnm] at hk; cases hk
      obtain ⟨o, h1, h2⟩ := hback k hkn _ hk
      cases o with
      | row => simp [Own.frz] at h2
      | tok => simp [Own.frz] at h2
      | arr => simp [Own.frz] at h2
      | obj x' =>
        simp only [Own.frz, Own.obj.injEq] at h2
        subst h2
        exact obj_map (hrel.obj k _ h1) rfl (fun _ _ _ => rfl) (fun b c j hg hj => hfar k b c hkn (by simp [h1]) hg j hj) (fun _ hh => hh.on _ hII (fun _ _ _ => rfl) fun v y hv => hcast2 _ _ hv) on_nil
    · by_cases hkn : k = nm
      · subst hkn
        rw [hnm] at hk
        simp only [Option.some.injEq, Own.tok.injEq] at hk
        obtain ⟨rfl, _, rfl⟩ := hk
        exact q0 hnn
      · obtain ⟨o, h1, h2⟩ := hback k hkn _ hk
        cases o with
        | row => simp [Own.frz] at h2
        | arr => simp [Own.frz] at h2
        | obj => simp [Own.frz] at h2
        | tok =>
          simp only [Own.frz, Own.tok.injEq] at h2
          obtain ⟨rfl, rfl, rfl⟩ := h2
          exact hrel.tok8 k _ _ h1 hnn
    rotate_left 3
    · have hkn : k ≠ nm := by rintro rfl; rw [hnm] at hk; cases hk
      obtain ⟨o, h1, h2⟩ := hback k hkn _ hk
      cases o with
      | tok => simp [Own.frz] at h2
      | arr => simp [Own.frz] at h2
      | obj => simp [Own.frz] at h2
      | row e' cs =>
        simp only [Own.frz, Own.row.injEq] at h2
        obtain ⟨rfl, rfl⟩ := h2
        obtain ⟨b, c, vs, r1, r2, r3, r4, r5, r6⟩ := hrel.row k _ cs h1
        refine ⟨b, c, vs, r1, r2, by rw [frz_length]; exact r3, fun j hj => r4 j (by rwa [frz_length] at hj), fun j hj => ?_, fun j hj => r6 j (hfar k b c hkn (by simp [h1]) r1 j hj)⟩
        rw [frz_getD]
        refine hcast _ _ (r5 j (by rwa [frz_length] at hj)) (wholes_getD (fun p hp => hall p (List.mem_append.2 (.inr (memW (g := fun x => x.wholes nm n) (famOwn_look h1 (fun _ _ _ h => by cases h)) (by simpa [Own.wholes] using hp))))) j)
    · by_cases hkn : k = nm
      · subst hkn
        rw [hnm] at hk
        simp only [Option.some.injEq, Own.tok.injEq] at hk
        obtain ⟨rfl, rfl, rfl⟩ := hk
        obtain ⟨cur, r1, r2, r3, r4, r5, r6, r7⟩ := q1 b c hg
        refine ⟨cur, 0, r1, r2, r3, r4, Nat.zero_le _, fun j hj => ?_⟩
        rcases hj with hj | ⟨_, hj⟩
        · exact (r7 j hj).elim
        · exact hj
      · obtain ⟨o, h1, h2⟩ := hback k hkn _ hk
        cases o with
        | row => simp [Own.frz] at h2
        | arr => simp [Own.frz] at h2
        | obj => simp [Own.frz] at h2
        | tok =>
          simp only [Own.frz, Own.tok.injEq] at h2
          obtain ⟨rfl, rfl, rfl⟩ := h2
          obtain ⟨cur, fz, r1, r2, r3, r4, r5', r5⟩ := hrel.tok k _ _ _ h1 b c hg
          exact ⟨cur, fz, r1, r2, r3, r4, r5', fun j hj => r5 j (hfar k b c hkn (by simp [h1]) hg j hj)⟩
    · exact hrel.inj k k' b c c' (hnone k hk) (hnone k' hk')
    · have hkn : k ≠ nm := by rintro rfl; rw [hnm] at hk; cases hk
      obtain ⟨o, h1, h2⟩ := hback k hkn _ hk
      cases o with
      | row => simp [Own.frz] at h2
      | tok => simp [Own.frz] at h2
      | obj => simp [Own.frz] at h2
      | arr s3 e3 m3 f3 =>
        simp only [Own.frz, Own.arr.injEq] at h2
        obtain ⟨rfl, rfl, rfl, rfl⟩ := h2
        exact arr_map (hrel.arr k _ _ _ _ h1) rfl (fun _ _ _ => rfl) (fun b c j hg hj => hfar k b c hkn (by simp [h1]) hg j hj) (fun i _ => frw_length _ _ _ _ _) (fun v i j _ _ hv => by rw [frw_getD]; exact hcast2 _ _ hv)
    · rcases hi with hi | ⟨⟨c, hc⟩, hj⟩
      · exact h.chg.valid b o hi
      · obtain ⟨cur, r1, r2, r3, r4, r5, r6, r7⟩ := q1 b c hc
        have : n * sz ≤ c * sz := Nat.mul_le_mul_right _ r2
        exact ⟨cur.getD o undef, by rw [cell_of_row w b o cur e (0, 0) r1]; exact agetD_of (by omega)⟩
    · exact h.chg.new k b c (hnone k hk) hg
    · rcases hi with hi | ⟨⟨c, hc⟩, _⟩
      · exact h.chg.immNew b o hi
      · exact .inr (h.chg.new nm b c (by simp [ho]) hc)
end

section
variable {α : Type} {e : α → List AV} {d : α}
/-- One element written, as lists. -/
theorem putF_set {f : Nat → List AV} {l : List α} {i j : Nat} {cs : List AV} {x : α} (hf : ∀ k, k < l.length → f k = e (l.getD k d)) (hi : i < l.length) (hx : (e (l.getD i d)).take j ++ cs ++ (e (l.getD i d)).drop (j + cs.length) = e x) :
    ∀ k, k < (l.set i x).length → putF f i j cs k = e ((l.set i x).getD k d) := by
  intro k hk
  rw [List.length_set] at hk
  by_cases h : k = i
  · subst h
    rw [putF_here, hf k hk, hx]
    simp [List.getD, hk]
  · rw [putF_else f cs h, hf k hk]
    simp [List.getD, Ne.symm h]
/-- Elements copied over others, as lists. -/
def cpL {α : Type} (l : List α) (lo k : Nat) (s : Nat → α) : List α := l.mapIdx fun i x => if lo ≤ i ∧ i < lo + k then s (i - lo) else x
theorem cpL_length (l : List α) (lo k : Nat) (s : Nat → α) : l.length = (cpL l lo k s).length := by simp [cpL]
theorem cpL_getD (l : List α) (lo k : Nat) (s : Nat → α) (i : Nat) (d : α) (h : i < l.length) : (cpL l lo k s).getD i d = if lo ≤ i ∧ i < lo + k then s (i - lo) else l.getD i d := by
  simp [cpL, List.getD, h]
theorem cpF_cpL {f g : Nat → List AV} {l : List α} {s : Nat → α} {lo k : Nat} (hf : ∀ i, i < l.length → f i = e (l.getD i d)) (hg : ∀ i, i < k → g i = e (s i)) : ∀ i, i < (cpL l lo k s).length → cpF f lo k g i = e ((cpL l lo k s).getD i d) := by
  intro i hi
  rw [← cpL_length] at hi
  rw [cpL_getD _ _ _ _ _ _ hi]
  by_cases h : lo ≤ i ∧ i < lo + k
  · rw [cpF_in f g h, if_pos h, hg _ (by omega)]
  · rw [cpF_out f g h, if_neg h, hf i hi]
theorem eraseAll_append (keep : Nat → Bool) (l m : List AV) : AV.eraseAll keep (l ++ m) = AV.eraseAll keep l ++ AV.eraseAll keep m := by induction l with | nil => rfl | cons x l ih => simp [AV.eraseAll, ih]
theorem eraseAll_take (keep : Nat → Bool) (l : List AV) (n : Nat) : AV.eraseAll keep (l.take n) = (AV.eraseAll keep l).take n := by
  induction l generalizing n with
  | nil => simp [AV.eraseAll]
  | cons x l ih => cases n with
    | zero => simp [AV.eraseAll]
    | succ n => simp [AV.eraseAll, ih]
theorem eraseAll_drop (keep : Nat → Bool) (l : List AV) (n : Nat) : AV.eraseAll keep (l.drop n) = (AV.eraseAll keep l).drop n := by
  induction l generalizing n with
  | nil => simp [AV.eraseAll]
  | cons x l ih => cases n with
    | zero => simp
    | succ n => simpa [AV.eraseAll] using ih n
/-- One element written, whose names are then forgotten, as lists. -/
theorem putF_erase {keep : Nat → Bool} {f : Nat → List AV} {l : List α} {i j : Nat} {cs : List AV} {x : α} (hf : ∀ k, k < l.length → f k = e (l.getD k d)) (he : ∀ a, AV.eraseAll keep (e a) = e a) (hi : i < l.length) (hx : (e (l.getD i d)).take j ++ AV.eraseAll keep cs ++ (e (l.getD i d)).drop (j + cs.length) = e x) :
    ∀ k, k < (l.set i x).length → AV.eraseAll keep (putF f i j cs k) = e ((l.set i x).getD k d) := by
  intro k hk
  rw [List.length_set] at hk
  by_cases h : k = i
  · subst h
    rw [putF_here, eraseAll_append, eraseAll_append, eraseAll_take, eraseAll_drop, hf k hk, he, hx]
    simp [List.getD, hk]
  · rw [putF_else f cs h, hf k hk, he]
    simp [List.getD, Ne.symm h]
theorem appF_app {f f' : Nat → List AV} {l m : List α} (hf : ∀ k, k < l.length → f k = e (l.getD k d)) (hf' : ∀ k, k < m.length → f' k = e (m.getD k d)) : ∀ k, k < (l ++ m).length → appF l.length f f' k = e ((l ++ m).getD k d) := by
  intro k hk
  rw [List.length_append] at hk
  rw [← app_get (e := e) (d := d) l m k hk]
  by_cases h : k < l.length
  · rw [appF_lt _ _ h, appF_lt _ _ h, hf k h]
  · rw [appF_ge _ _ (by omega), appF_ge _ _ (by omega), hf' _ (by omega)]
theorem make_le {z : List AV} (h : AVleL z (e d)) (n : Nat) : ∀ k, k < (List.replicate n d).length → AVleL z (e ((List.replicate n d).getD k d)) := fun k hk => by
  have : (List.replicate n d).getD k d = d := by simp at hk; simp [List.getD, hk]
  rw [this]; exact h
theorem leL_of_eq {f g : Nat → List AV} {n m : Nat} (hn : n = m) (h : ∀ k, k < m → f k = g k) : ∀ k, k < n → AVleL (f k) (g k) := fun k hk => by rw [h k (by omega)]; exact .refl _
end
section
variable {α : Type} {e : α → List AV} {d : α}
theorem lit_nil {n : Nat} (h : n = 0) {l : List (List AV)} {az : List α} : ∀ i, i < n → AVleL (l.getD i []) (e (az.getD i d)) := fun i hi => by omega
theorem lit_cons {n : Nat} {x : List AV} {l : List (List AV)} {a : α} {az : List α} (h : AVleL x (e a)) (t : ∀ i, i < n → AVleL (l.getD i []) (e (az.getD i d))) : ∀ i, i < n + 1 → AVleL ((x :: l).getD i []) (e ((a :: az).getD i d)) := fun i hi => by
  cases i with
  | zero => simpa using h
  | succ i => simpa using t i (by omega)
/-- A literal whose elements are told as more. -/
theorem av_litL {sz n : Nat} {f : Nat → List AV} {xs : List α} (hn : n = xs.length) (h : ∀ i, i < n → AVleL (f i) (e (xs.getD i d))) (hs : ∀ a, AV.stripAll (e a) = e a) : AVle (.slice sz n f .exact) (AV.list sz e d xs .exact) := by
  intro I own θ w v hv
  obtain ⟨ad, rfl⟩ := hv.exact_inv
  have hV := hv.slice_val
  obtain ⟨_, ad', cap, us, he, hcap, hmax, hz, hnn, h1, hl, hr⟩ := hV.slice_inv
  simp only [Value.slice.injEq, true_and] at he
  obtain ⟨rfl, rfl⟩ := he
  unfold AV.list
  subst hn
  refine .exact _ _ sz _ (.slice _ _ _ sz _ us hcap hmax hz hnn h1 (fun i hi => ?_) (fun i c hi hc => ?_))
  · rw [← (h i hi).length]; exact hl i hi
  · have := (h i hi).get c I (fun _ => none) (fun _ => none) w _ (.val _ _ (hr i c hi hc))
    have := this.strip
    rw [← stripAll_getD, hs] at this
    exact this
end
noncomputable instance (n : Nat) (f : Nat → List AV) : Decidable (ByteF n f) := Classical.propDecidable _
/-- Of numbers that are there. -/
theorem nl {a b : Nat} (h : Nat.ble a b = true) : a ≤ b := Nat.le_of_ble_eq_true h
theorem gT {c : Bool} (h : c = true) : (c == true) = true := by rw [h]; rfl
theorem gF {c : Bool} (h : c = false) : (c == false) = true := by rw [h]; rfl
theorem aT {g c : Bool} (hg : g = true) (h : c = true) : (g && (c == true)) = true := by rw [hg, h]; rfl
theorem aF {g c : Bool} (hg : g = true) (h : c = false) : (g && (c == false)) = true := by rw [hg, h]; rfl
theorem inB_lt0 {α : Type} {i : Int} {l : List α} (h : InB i l.length) : i.toNat < l.length := by unfold InB at h; omega
theorem inB_lt1 {α : Type} {i : Int} {l : List α} {a : Nat} {x : α} (h : InB i l.length) : i.toNat < (l.set a x).length := by rw [List.length_set]; exact inB_lt0 h
theorem inB_lt2 {α : Type} {i : Int} {l : List α} {a b : Nat} {x y : α} (h : InB i l.length) : i.toNat < ((l.set a x).set b y).length := by rw [List.length_set]; exact inB_lt1 h
theorem inB_lt3 {α : Type} {i : Int} {l : List α} {a b c : Nat} {x y z : α} (h : InB i l.length) : i.toNat < (((l.set a x).set b y).set c z).length := by rw [List.length_set]; exact inB_lt2 h
theorem toNat_le2 {h : Int} {n : Nat} (q : 0 ≤ h ∧ h ≤ (n : Int)) : h.toNat ≤ n := by omega
theorem toNat_le3 {l h : Int} {n : Nat} (q : 0 ≤ l ∧ l ≤ h ∧ h ≤ (n : Int)) : h.toNat ≤ n := by omega
theorem repl_lt {α : Type} {d : α} {n k : Nat} (h : k < n) : k < (List.replicate n d).length := by rw [List.length_replicate]; exact h
/-- A list of N elements, one of them anew. -/
def setN {α : Type} (N : Nat) (d : α) (l : List α) (i : Nat) (x : α) : List α := (List.range N).map fun j => bif Nat.beq j i then x else l.getD j d
theorem setN_getD {α : Type} {N : Nat} {d : α} {l : List α} {i : Nat} {x : α} {k : Nat} (hk : k < N) : (setN N d l i x).getD k d = bif Nat.beq k i then x else l.getD k d := by
  unfold setN
  rw [List.getD, List.getElem?_map, List.getElem?_range hk]
  rfl
theorem setN_length {α : Type} {N : Nat} {d : α} {l : List α} {i : Nat} {x : α} : (setN N d l i x).length = N := by simp [setN]
theorem putF_setN {α : Type} {e : α → List AV} {d : α} {f : Nat → List AV} {l : List α} {N i j : Nat} {cs : List AV} {x : α} (hf : ∀ k, k < N → f k = e (l.getD k d)) (hi : i < N) (hx : (e (l.getD i d)).take j ++ cs ++ (e (l.getD i d)).drop (j + cs.length) = e x) :
    ∀ k, k < N → putF f i j cs k = e ((setN N d l i x).getD k d) := by
  intro k hk
  rw [setN_getD hk]
  unfold putF
  cases hb : Nat.beq k i with
  | true =>
    obtain rfl := Nat.eq_of_beq_eq_true hb
    rw [cond_true, cond_true, hf k hk]
    exact hx
  | false => rw [cond_false, cond_false, hf k hk]
theorem inB_lit {i : Int} {N : Nat} (h : InB i N) : i.toNat < N := by unfold InB at h; omega
theorem flat_rep {α : Type} (z : List α) (sz : Nat) (hz : z.length = sz) : ∀ (N k : Nat), k < N → (((List.replicate N z).flatten).drop (k * sz)).take sz = z
  | 0, k, h => by omega
  | N + 1, 0, h => by
    rw [List.replicate_succ, List.flatten_cons, Nat.zero_mul, List.drop_zero, List.take_append_of_le_length (by omega), List.take_of_length_le (by omega)]
  | N + 1, k + 1, h => by
    rw [List.replicate_succ, List.flatten_cons, show (k + 1) * sz = z.length + k * sz by rw [Nat.add_mul, hz]; omega, List.drop_append, List.drop_eq_nil_of_le (by omega), List.nil_append, Nat.add_sub_cancel_left]
    exact flat_rep z sz hz N k (by omega)
theorem arr_zero {α : Type} {e : α → List AV} {d : α} {z : List AV} {N sz : Nat} (hz : z.length = sz) (h : z = e d) : ∀ k, k < N → AVleL ((((List.replicate N z).flatten).drop (k * sz)).take sz) (e ((List.replicate N d).getD k d)) := fun k hk => by
  have : (List.replicate N d).getD k d = d := by simp [List.getD, hk]
  rw [flat_rep z sz hz N k hk, this, h]
  exact .refl _
end Go.Proofs.Ytlkcijaejngomaa

namespace Go.Proofs.Ytlkcijaejngomaa
open Go Go.RowKit

/-- A row of slices, told with their tags. -/
def rowF {α : Type} (sz : Nat) (e : α → List AV) (d : α) (L : List (List α)) (t : Nat → Tag) : Nat → List AV := fun j => [AV.list sz e d (L.getD j []) (t j)]
def famTag (b i k j : Nat) : Tag := bif Nat.beq j i then .own k else .fam b j
def famM {α : Type} (L : List (List α)) : Nat → Option Nat := fun j => if j < L.length then some (L.getD j []).length else none
/-- The same without one. -/
def holeM {α : Type} (L : List (List α)) (i : Nat) : Nat → Option Nat := fun j => if j = i then none else famM L j

mutual
/-- No slice in it has a tag that 'p' forbids. -/
def AV.free (p : Tag → Bool) : AV → Bool
  | .slice _ _ _ t => p t
  | .clo _ xs ys => AV.freeAll p xs && AV.freeAll p ys
  | .agg cs => AV.freeAll p cs
  | .tuple cs => AV.freeAll p cs
  | .cond _ x => x.free p
  | _ => true
def AV.freeAll (p : Tag → Bool) : List AV → Bool
  | [] => true
  | x :: l => x.free p && AV.freeAll p l
end
theorem freeAll_getD {p : Tag → Bool} {l : List AV} (h : AV.freeAll p l = true) (j : Nat) : (l.getD j .any).free p = true := by
  induction l generalizing j with
  | nil => simp [AV.free]
  | cons x l ih =>
    simp only [AV.freeAll, Bool.and_eq_true] at h
    cases j with
    | zero => simpa using h.1
    | succ j => simpa using ih h.2 j
/-- Whatever an object holds is such. -/
def AObj.Al (P : AV → Prop) : AObj → Prop
  | .iter _ _ => True
  | .map _ _ _ => True
  | .miter m _ _ => P m
theorem AObj.Al.imp {P Q : AV → Prop} {x : AObj} (h : x.Al P) (k : ∀ y, P y → Q y) : x.Al Q := by
  cases x with
  | iter => trivial
  | map => trivial
  | miter => exact k _ h
theorem ObjR.al {P : AV → Prop} {I I' : Nat → Nat → Prop} {own own' : Nat → Option Own} {θ θ' : Nat → Option (Nat × Nat)} {w w' : World} {o : Obj} {x : AObj} (h : ObjR I own θ w o x) (hx : x.Al P) (hI : ∀ b o, I b o → I' b o) (hw : ∀ b o, I b o → w'.cell? ⟨b, o, none⟩ = w.cell? ⟨b, o, none⟩) (hf : ∀ v y, P y → Rep I own θ w v y → Rep I' own' θ' w' v y) : ObjR I' own' θ' w' o x := by
  cases h with
  | iter s p => exact .iter s p
  | map es nn k l hs hr =>
    refine .map es nn k l hs fun i hi => ?_
    obtain ⟨v, h1, h2, h3⟩ := hr i hi
    exact ⟨v, h1, h2.mono hI hw, h3⟩
  | miter r m n c seen hc hr => exact .miter r m n c seen hc (hf _ _ hx hr)
def noFam (b : Nat) : Tag → Bool
  | .fam b' _ => !Nat.beq b' b
  | .own nm => Nat.blt nm famB
  | _ => true
def noOwn (k : Nat) : Tag → Bool
  | .own k' => !Nat.beq k' k
  | _ => true

/-- Whatever is told of it hangs on no name 'q'. -/
def Fr (q : Nat) (x : AV) : Prop := ∀ (I : Nat → Nat → Prop) (own own' : Nat → Option Own) (θ θ' : Nat → Option (Nat × Nat)) (w : World) (v : Value), (∃ sz e m, own q = some (.tok sz e m)) →
  (∀ nm o, nm ≠ q → own nm = some o → ∃ o', own' nm = some o' ∧ OwnLe o (θ nm) o' (θ' nm)) → Rep I own θ w v x → Rep I own' θ' w v x
theorem fr_of {q : Nat} {p : Tag → Bool} (hp : ∀ nm, p (.own nm) = true → nm ≠ q) (hf : ∀ b i, i < famB → p (.fam b i) = true → big b i ≠ q) {x : AV} (hx : x.free p = true) : Fr q x := by
  intro I own own' θ θ' w v hq ho h
  obtain ⟨s0, e0, m0, hq⟩ := hq
  have hall : ∀ nm o, nm ≠ q → own nm = some o → ∃ o', own' nm = some o' ∧ OwnLe o (θ nm) o' (θ' nm) := ho
  have hne : ∀ {nm o}, own nm = some o → (∀ sz e m, o ≠ .tok sz e m) → nm ≠ q := fun hn hh => by
    rintro rfl
    rw [hq] at hn
    exact hh _ _ _ (Option.some.inj hn).symm
  induction h with
  | val v x h => exact .val v x h
  | exact a n sz f h => exact .exact a n sz f h
  | own nm sz e m a n cap f hn hm hv h =>
    obtain ⟨o', ho', hle⟩ := ho nm _ (hp nm hx) hn
    cases o' with
    | tok sz' e' m' =>
      obtain ⟨rfl, rfl, hmm, hθ⟩ := hle
      refine .own nm _ _ m' a n cap f ho' (Nat.le_trans hm hmm) (fun he => ?_) h
      rw [hθ (by omega)]
      exact hv (by omega)
    | _ => exact hle.elim
  | fam b i sz e m a n cap f hi hn hm hv h =>
    obtain ⟨o', ho', hle⟩ := ho (big b i) _ (hf b i hi hx) hn
    cases o' with
    | tok sz' e' m' =>
      obtain ⟨rfl, rfl, hmm, hθ⟩ := hle
      refine .fam b i _ _ m' a n cap f hi ho' (Nat.le_trans hm hmm) (fun he => ?_) h
      rw [hθ (by omega)]
      exact hv (by omega)
    | _ => exact hle.elim
  | ptr nm off e cells g c hn hg =>
    obtain ⟨o', ho', hle⟩ := ho nm _ (hne hn (fun _ _ _ h => by cases h)) hn
    cases o' with
    | row e' cells' =>
      have e : θ' nm = θ nm := hle.2
      exact .ptr nm off e' cells' g c ho' (e.trans hg)
    | _ => exact hle.elim
  | vsl nm sz e m f a n cap hn hm hcap hmax hnn hv =>
    obtain ⟨o', ho', hle⟩ := ho nm _ (hne hn (fun _ _ _ h => by cases h)) hn
    cases o' with
    | arr sz' e' m' f' =>
      obtain ⟨rfl, rfl, hmm, hθ⟩ := hle
      refine .vsl nm _ _ m' f' a n cap ho' (Nat.le_trans hm hmm) hcap hmax hnn (fun he => ?_)
      rw [hθ (by omega)]
      exact hv (by omega)
    | _ => exact hle.elim
  | vpt nm sz e m f n i j ad hn hm hi hv =>
    obtain ⟨o', ho', hle⟩ := ho nm _ (hne hn (fun _ _ _ h => by cases h)) hn
    cases o' with
    | arr sz' e' m' f' =>
      obtain ⟨rfl, rfl, hmm, hθ⟩ := hle
      refine .vpt nm _ _ m' f' n i j ad ho' (Nat.le_trans hm hmm) hi (fun he => ?_)
      rw [hθ (by omega)]
      exact hv (by omega)
    | _ => exact hle.elim
  | clo f fs cs xs ys hl hl' _ _ ih ih' =>
    simp only [AV.free, Bool.and_eq_true] at hx
    exact .clo f fs cs xs ys hl hl' (fun j hj => ih j hj (freeAll_getD hx.1 j)) (fun j hj => ih' j hj (freeAll_getD hx.2 j))
  | optr nm x g c hn hg =>
    obtain ⟨o', ho', hle⟩ := ho nm _ (hne hn (fun _ _ _ h => by cases h)) hn
    cases o' with
    | obj x' => exact .optr nm x' g c ho' (by rw [hle, hg])
    | _ => exact hle.elim
  | omap nm x hn =>
    obtain ⟨o', ho', hle⟩ := ho nm _ (hne hn (fun _ _ _ h => by cases h)) hn
    cases o' with
    | obj x' =>
      have hle : θ' nm = θ nm := hle
      rw [← hle]
      exact .omap nm x' ho'
    | _ => exact hle.elim
  | vsub nm sz e m f n lo hi a cap hn hm hlo hhi hcap hmax hnn hv =>
    obtain ⟨o', ho', hle⟩ := ho nm _ (hne hn (fun _ _ _ h => by cases h)) hn
    cases o' with
    | arr sz' e' m' f' =>
      obtain ⟨rfl, rfl, hmm, hθ⟩ := hle
      refine .vsub nm _ _ m' f' n lo hi a cap ho' (Nat.le_trans hm hmm) hlo hhi hcap hmax hnn (fun he => ?_)
      rw [hθ (by omega)]
      exact hv (by omega)
    | _ => exact hle.elim
  | cond v c x _ h' ih => exact .cond v c x (fun hc => ih hc hx) h'
  | agg vs cs hl h1 _ ih => exact .agg vs cs hl h1 (fun j hj => ih j hj (freeAll_getD hx j))
  | tuple vs cs hl _ ih => exact .tuple vs cs hl (fun j hj => ih j hj (freeAll_getD hx j))
theorem fr_fam {b i : Nat} (hi : i < famB) {x : AV} (hx : x.free (noFam b) = true) : Fr (big b i) x :=
  fr_of (p := noFam b) (fun nm hp he => by
    have hlt : nm < famB := by simpa [noFam, Nat.blt_eq] using hp
    rw [he] at hlt
    exact big_ge b i hlt) (fun b' i' hi' hp he => by
    have h1 := big_div (b := b') hi'
    rw [he, big_div hi] at h1
    subst h1
    simp [noFam] at hp) hx
theorem fr_own {k : Nat} (hk : k < famB) {x : AV} (hx : x.free (noOwn k) = true) : Fr k x :=
  fr_of (p := noOwn k) (fun nm hp he => by subst he; simp [noOwn] at hp) (fun b i _ _ he => by rw [← he] at hk; exact big_ge b i hk) hx
def OwnFr (q : Nat) : Own → Prop
  | .row _ cells => ∀ j, j < cells.length → Fr q (cells.getD j .any)
  | .arr sz _ m f => ∀ i j, i < m → j < sz → Fr q ((f i).getD j .any)
  | .obj x => x.Al (Fr q)
  | .tok .. => True

theorem arr_map' {I : Nat → Nat → Prop} {own own' : Nat → Option Own} {θ θ' : Nat → Option (Nat × Nat)} {w : World} {nm sz m : Nat} {e : TypeId} {f f' : Nat → List AV}
    (h : (θ nm = none → m = 0) ∧ ∀ g c, θ nm = some (g, c) → ∃ cur, w.heap[g]? = some (.cells cur e (0, 0)) ∧ m ≤ c ∧ c ≤ maxLen ∧ cur.size = c * sz ∧
      (∀ i, i < m → (f i).length = sz) ∧ (∀ i j, i < m → j < sz → (cur.getD (i * sz + j) undef).oneCell' = true ∧ Rep I own θ w (cur.getD (i * sz + j) undef) ((f i).getD j .any)) ∧ ∀ j, ¬ I g j)
    (hθ : θ' nm = θ nm) (hf : ∀ i, i < m → (f' i).length = (f i).length) (hr : ∀ i j v, i < m → j < sz → Rep I own θ w v ((f i).getD j .any) → Rep I own' θ' w v ((f' i).getD j .any)) :
    (θ' nm = none → m = 0) ∧ ∀ g c, θ' nm = some (g, c) → ∃ cur, w.heap[g]? = some (.cells cur e (0, 0)) ∧ m ≤ c ∧ c ≤ maxLen ∧ cur.size = c * sz ∧
      (∀ i, i < m → (f' i).length = sz) ∧ (∀ i j, i < m → j < sz → (cur.getD (i * sz + j) undef).oneCell' = true ∧ Rep I own' θ' w (cur.getD (i * sz + j) undef) ((f' i).getD j .any)) ∧ ∀ j, ¬ I g j := by
  rw [hθ]
  refine ⟨h.1, fun g c hg => ?_⟩
  obtain ⟨cur, q1, q2, q3, q4, q5, q6, q7⟩ := h.2 g c hg
  exact ⟨cur, q1, q2, q3, q4, fun i hi => (hf i hi).trans (q5 i hi), fun i j hi hj => ⟨(q6 i j hi hj).1, hr i j _ hi hj (q6 i j hi hj).2⟩, q7⟩

section
variable {Γ : Env} {σ : Sto} {I : Nat → Nat → Prop} {θ : Nat → Option (Nat × Nat)} {a : Act} {w : World}

/-- A token's name turned, with the row that has it. -/
theorem rel_rename (h : Rel Γ σ I θ a w) {p q r sz m s1 n : Nat} {e e1 : TypeId} {F F' : Nat → List AV} (hp : σ.own p = some (.tok sz e m)) (hq : σ.own q = none) (hr : σ.own r = some (.arr s1 e1 n F)) (hp0 : Γ.own0 p = none)
    (hfree : ∀ t, Fr p (σ.tmp t)) (hrows : ∀ nm o, nm ≠ r → σ.own nm = some o → OwnFr p o) {own' : Nat → Option Own} {θ' : Nat → Option (Nat × Nat)}
    (hown : own' = fun x => if x = q then some (.tok sz e m) else if x = p then none else if x = r then some (.arr s1 e1 n F') else σ.own x)
    (hθ : θ' = fun x => if x = q then θ p else if x = p then none else θ x)
    (hlen : ∀ j, j < n → (F' j).length = (F j).length)
    (hF : ∀ j c v, j < n → c < s1 → Rep I σ.own θ w v ((F j).getD c .any) → Rep I own' θ' w v ((F' j).getD c .any)) :
    Rel Γ ⟨σ.tmp, own'⟩ I θ' a w := by
  have hpq : p ≠ q := by rintro rfl; rw [hp] at hq; cases hq
  have hpr : p ≠ r := by rintro rfl; rw [hp] at hr; cases hr
  have hqr : q ≠ r := by rintro rfl; rw [hq] at hr; cases hr
  have hkeep : ∀ nm o, nm ≠ p → σ.own nm = some o → ∃ o', own' nm = some o' ∧ OwnLe o (θ nm) o' (θ' nm) := fun nm o hnp ho => by
    have hnq : nm ≠ q := by rintro rfl; rw [hq] at ho; cases ho
    by_cases hnr : nm = r
    · subst hnr
      rw [hr] at ho
      obtain rfl := Option.some.inj ho
      exact ⟨.arr s1 e1 n F', by simp [hown, hnq, hnp], by simp [hθ, hnq, hnp, OwnLe]⟩
    · exact ⟨o, by simp [hown, hnq, hnp, hnr, ho], by simp [hθ, hnq, hnp, OwnLe.refl]⟩
  have hT : ∀ v x, Fr p x → Rep I σ.own θ w v x → Rep I own' θ' w v x := fun v x hx hv => hx I _ _ _ _ w v ⟨_, _, _, hp⟩ hkeep hv
  have hinv : ∀ nm o, nm ≠ q → nm ≠ r → own' nm = some o → nm ≠ p ∧ σ.own nm = some o ∧ θ' nm = θ nm := fun nm o h1 h2 ho => by
    by_cases h3 : nm = p
    · simp [hown, h3, hpq] at ho
    · simp [hown, h1, h2, h3] at ho
      exact ⟨h3, ho, by simp [hθ, h1, h3]⟩
  have hnone : ∀ nm, own' nm ≠ none → ∃ nm', σ.own nm' ≠ none ∧ θ' nm = θ nm' ∧ (nm = q → nm' = p) ∧ (nm ≠ q → nm' = nm ∧ nm ≠ p) := fun nm hn => by
    by_cases h1 : nm = q
    · exact ⟨p, by simp [hp], by simp [hθ, h1], fun _ => rfl, fun h => (h h1).elim⟩
    · by_cases h2 : nm = r
      · subst h2; exact ⟨nm, by simp [hr], by simp [hθ, h1, Ne.symm hpr], fun h => (h1 h).elim, fun _ => ⟨rfl, Ne.symm hpr⟩⟩
      · cases hx : own' nm with
        | none => exact (hn hx).elim
        | some o =>
          obtain ⟨h3, h4, h5⟩ := hinv nm o h1 h2 hx
          exact ⟨nm, by simp [h4], h5, fun h => (h1 h).elim, fun _ => ⟨rfl, h3⟩⟩
  have hq' : own' q = some (.tok sz e m) := by simp [hown]
  have hr' : own' r = some (.arr s1 e1 n F') := by simp [hown, Ne.symm hqr, Ne.symm hpr]
  have hrel := h.chg.rel
  have hθr : θ' r = θ r := by simp [hθ, Ne.symm hqr, Ne.symm hpr]
  have hθq : θ' q = θ p := by simp [hθ]
  refine ⟨h.size, h.defers, fun t => hT _ _ (hfree t) (h.slots t), { h.chg with le := fun nm o ho => ?_, rel := ⟨fun nm e0 cells ho => ?_, fun nm s' e' m' ho g c hg => ?_, fun nm nm' g c c' ho ho' hg hg' => ?_, fun nm s' e' m' f' ho => ?_, fun nm x ho => ?_, fun nm s' m' ho hnn => ?_⟩, new := fun nm g c ho hg => ?_ }⟩
  · obtain ⟨o', ho', hl⟩ := h.chg.le nm o ho
    have hnp : nm ≠ p := by rintro rfl; rw [hp0] at ho; cases ho
    obtain ⟨o'', h1, h2⟩ := hkeep nm o' hnp ho'
    exact ⟨o'', h1, hl.trans h2⟩
  · replace ho : own' nm = some _ := ho
    have h1 : nm ≠ q := by rintro rfl; rw [hq'] at ho; cases ho
    have h2 : nm ≠ r := by rintro rfl; rw [hr'] at ho; cases ho
    obtain ⟨h3, h4, h5⟩ := hinv nm _ h1 h2 ho
    obtain ⟨g, c, vs, r1, r2, r3, r4, r5, r6⟩ := hrel.row nm e0 cells h4
    exact ⟨g, c, vs, h5.trans r1, r2, r3, r4, fun j hj => hT _ _ (hrows nm _ h2 h4 j hj) (r5 j hj), r6⟩
  · replace ho : own' nm = some _ := ho
    by_cases h1 : nm = q
    · subst h1
      rw [hq'] at ho
      simp only [Option.some.injEq, Own.tok.injEq] at ho
      obtain ⟨rfl, rfl, rfl⟩ := ho
      exact hrel.tok p _ _ _ hp g c (hθq.symm.trans hg)
    · have h2 : nm ≠ r := by rintro rfl; rw [hr'] at ho; cases ho
      obtain ⟨h3, h4, h5⟩ := hinv nm _ h1 h2 ho
      exact hrel.tok nm _ _ _ h4 g c (h5.symm.trans hg)
  · obtain ⟨n1, a1, a2, a3, a4⟩ := hnone nm ho
    obtain ⟨n2, b1, b2, b3, b4⟩ := hnone nm' ho'
    have := hrel.inj n1 n2 g c c' a1 b1 (a2.symm.trans hg) (b2.symm.trans hg')
    by_cases h1 : nm = q
    · by_cases h2 : nm' = q
      · rw [h1, h2]
      · have := a3 h1; have := b4 h2; omega
    · by_cases h2 : nm' = q
      · have := a4 h1; have := b3 h2; omega
      · have := a4 h1; have := b4 h2; omega
  · replace ho : own' nm = some _ := ho
    have h1 : nm ≠ q := by rintro rfl; rw [hq'] at ho; cases ho
    by_cases h2 : nm = r
    · subst h2
      rw [hr'] at ho
      simp only [Option.some.injEq, Own.arr.injEq] at ho
      obtain ⟨rfl, rfl, rfl, rfl⟩ := ho
      exact arr_map' (hrel.arr nm _ _ _ _ hr) hθr hlen hF
    · obtain ⟨h3, h4, h5⟩ := hinv nm _ h1 h2 ho
      exact arr_map' (hrel.arr nm _ _ _ _ h4) h5 (fun _ _ => rfl) (fun i j v hi hj hv => hT _ _ (hrows nm _ h2 h4 i j hi hj) hv)
  · replace ho : own' nm = some _ := ho
    have h1 : nm ≠ q := by rintro rfl; rw [hq'] at ho; cases ho
    have h2 : nm ≠ r := by rintro rfl; rw [hr'] at ho; cases ho
    obtain ⟨h3, h4, h5⟩ := hinv nm _ h1 h2 ho
    exact obj_map (hrel.obj nm _ h4) h5 (fun _ _ _ => rfl) (fun _ _ _ _ h => h) (fun _ hh => hh.al (hrows nm _ h2 h4) (fun _ _ h => h) (fun _ _ _ => rfl) fun v y hy hv => hT v y hy hv) id_nil
  · replace ho : own' nm = some _ := ho
    by_cases h1 : nm = q
    · subst h1
      rw [hq'] at ho
      simp only [Option.some.injEq, Own.tok.injEq] at ho
      obtain ⟨rfl, he, rfl⟩ := ho
      exact hrel.tok8 p _ _ (by rw [hp, he]) (hθq.symm.trans hnn)
    · have h2 : nm ≠ r := by rintro rfl; rw [hr'] at ho; cases ho
      obtain ⟨h3, h4, h5⟩ := hinv nm _ h1 h2 ho
      exact hrel.tok8 nm _ _ h4 (h5.symm.trans hnn)
  · obtain ⟨n1, a1, a2, _, _⟩ := hnone nm ho
    exact h.chg.new n1 g c a1 (a2.symm.trans hg)

/-- Names that are new, of slices that lie nowhere yet, with the row that has them. -/
theorem rel_births (h : Rel Γ σ I θ a w) {r s1 n : Nat} {e1 : TypeId} {F F' : Nat → List AV} (hr : σ.own r = some (.arr s1 e1 n F)) {S : Nat → Option (Nat × TypeId × Nat)} (hS : ∀ x y, S x = some y → σ.own x = none)
    (h8 : ∀ x sz m, S x = some (sz, tokU8, m) → m = 0) {own' : Nat → Option Own} {θ' : Nat → Option (Nat × Nat)}
    (hown : own' = fun x => match S x with | some y => some (.tok y.1 y.2.1 y.2.2) | none => if x = r then some (.arr s1 e1 n F') else σ.own x)
    (hθ : θ' = fun x => match S x with | some _ => none | none => θ x) (hlen : ∀ j, j < n → (F' j).length = (F j).length)
    (hF : ∀ j c v, j < n → c < s1 → Rep I σ.own θ w v ((F j).getD c .any) → Rep I own' θ' w v ((F' j).getD c .any)) :
    Rel Γ ⟨σ.tmp, own'⟩ I θ' a w := by
  have hSn : ∀ nm o, σ.own nm = some o → S nm = none := fun nm o ho => by
    cases hx : S nm with
    | none => rfl
    | some y => rw [hS nm y hx] at ho; cases ho
  have hkeep : ∀ nm o, σ.own nm = some o → ∃ o', own' nm = some o' ∧ OwnLe o (θ nm) o' (θ' nm) := fun nm o ho => by
    have h1 := hSn nm o ho
    by_cases hnr : nm = r
    · subst hnr
      rw [hr] at ho
      obtain rfl := Option.some.inj ho
      exact ⟨.arr s1 e1 n F', by simp [hown, h1], by simp [hθ, h1, OwnLe]⟩
    · exact ⟨o, by simp [hown, h1, hnr, ho], by simp [hθ, h1, OwnLe.refl]⟩
  have hT : ∀ v x, Rep I σ.own θ w v x → Rep I own' θ' w v x := fun v x hv => hv.mono (fun _ _ h => h) (fun _ _ _ => rfl) hkeep
  have hinv : ∀ nm o, own' nm = some o → (∀ sz e m, o ≠ .tok sz e m) → nm ≠ r → σ.own nm = some o ∧ θ' nm = θ nm := fun nm o ho hn h2 => by
    cases hx : S nm with
    | none => simp [hown, hx, h2] at ho; exact ⟨ho, by simp [hθ, hx]⟩
    | some y => simp [hown, hx] at ho; exact (hn _ _ _ ho.symm).elim
  have hold : ∀ nm g c, own' nm ≠ none → θ' nm = some (g, c) → σ.own nm ≠ none ∧ θ nm = some (g, c) := fun nm g c ho hg => by
    cases hx : S nm with
    | some y => simp [hθ, hx] at hg
    | none =>
      simp [hθ, hx] at hg
      refine ⟨?_, hg⟩
      by_cases h2 : nm = r
      · subst h2; simp [hr]
      · simpa [hown, hx, h2] using ho
  have hSr : S r = none := hSn r _ hr
  have hr' : own' r = some (.arr s1 e1 n F') := by simp [hown, hSr]
  have hθr : θ' r = θ r := by simp [hθ, hSr]
  have hrel := h.chg.rel
  refine ⟨h.size, h.defers, fun t => hT _ _ (h.slots t), { h.chg with le := fun nm o ho => ?_, rel := ⟨fun nm e0 cells ho => ?_, fun nm s' e' m' ho g c hg => ?_, fun nm nm' g c c' ho ho' hg hg' => ?_, fun nm s' e' m' f' ho => ?_, fun nm x ho => ?_, fun nm s' m' ho hnn => ?_⟩, new := fun nm g c ho hg => ?_ }⟩
  · obtain ⟨o', ho', hl⟩ := h.chg.le nm o ho
    obtain ⟨o'', h1, h2⟩ := hkeep nm o' ho'
    exact ⟨o'', h1, hl.trans h2⟩
  · replace ho : own' nm = some _ := ho
    have h2 : nm ≠ r := by rintro rfl; rw [hr'] at ho; cases ho
    obtain ⟨h4, h5⟩ := hinv nm _ ho (fun _ _ _ h => by cases h) h2
    obtain ⟨g, c, vs, r1, r2, r3, r4, r5, r6⟩ := hrel.row nm e0 cells h4
    exact ⟨g, c, vs, h5.trans r1, r2, r3, r4, fun j hj => hT _ _ (r5 j hj), r6⟩
  · replace ho : own' nm = some _ := ho
    obtain ⟨h1, h2⟩ := hold nm g c (by rw [ho]; simp) hg
    cases hx : S nm with
    | some y => simp [hθ, hx] at hg
    | none =>
      have h3 : nm ≠ r := by rintro rfl; rw [hr'] at ho; cases ho
      simp [hown, hx, h3] at ho
      exact hrel.tok nm _ _ _ ho g c h2
  · obtain ⟨a1, a2⟩ := hold nm g c ho hg
    obtain ⟨b1, b2⟩ := hold nm' g c' ho' hg'
    exact hrel.inj nm nm' g c c' a1 b1 a2 b2
  · replace ho : own' nm = some _ := ho
    by_cases h2 : nm = r
    · subst h2
      rw [hr'] at ho
      simp only [Option.some.injEq, Own.arr.injEq] at ho
      obtain ⟨rfl, rfl, rfl, rfl⟩ := ho
      exact arr_map' (hrel.arr nm _ _ _ _ hr) hθr hlen hF
    · obtain ⟨h4, h5⟩ := hinv nm _ ho (fun _ _ _ h => by cases h) h2
      exact arr_map' (hrel.arr nm _ _ _ _ h4) h5 (fun _ _ => rfl) (fun i j v _ _ hv => hT _ _ hv)
  · replace ho : own' nm = some _ := ho
    have h2 : nm ≠ r := by rintro rfl; rw [hr'] at ho; cases ho
    obtain ⟨h4, h5⟩ := hinv nm _ ho (fun _ _ _ h => by cases h) h2
    exact obj_map (hrel.obj nm _ h4) h5 (fun _ _ _ => rfl) (fun _ _ _ _ h => h) (fun _ hh => hh.mono hT) id_nil
  · replace ho : own' nm = some _ := ho
    cases hx : S nm with
    | some y =>
      simp only [hown, hx, Option.some.injEq, Own.tok.injEq] at ho
      obtain ⟨h1, h2, h3⟩ := ho
      rw [← h3]
      exact h8 nm y.1 y.2.2 (by rw [hx, ← h2])
    | none =>
      have h3 : nm ≠ r := by rintro rfl; rw [hr'] at ho; cases ho
      simp [hown, hx, h3] at ho
      simp [hθ, hx] at hnn
      exact hrel.tok8 nm _ _ ho hnn
  · obtain ⟨a1, a2⟩ := hold nm g c ho hg
    exact h.chg.new nm g c a1 a2

/-! ### The same of stores -/
inductive OwnsFr (p : Tag → Bool) (r : Nat) : List (Nat × Own) → Prop
  | nil : OwnsFr p r []
  | row {nm : Nat} {e : TypeId} {cells : List AV} {l : List (Nat × Own)} (h : AV.freeAll p cells = true) (t : OwnsFr p r l) : OwnsFr p r ((nm, .row e cells) :: l)
  | here {o : Own} {l : List (Nat × Own)} (t : OwnsFr p r l) : OwnsFr p r ((r, o) :: l)
  | arr {nm sz m : Nat} {e : TypeId} {f : Nat → List AV} {l : List (Nat × Own)} (h : ∀ j, AV.freeAll p (f j) = true) (t : OwnsFr p r l) : OwnsFr p r ((nm, .arr sz e m f) :: l)
  | tok {nm sz m : Nat} {e : TypeId} {l : List (Nat × Own)} (t : OwnsFr p r l) : OwnsFr p r ((nm, .tok sz e m) :: l)
  | obj {nm : Nat} {x : AObj} {l : List (Nat × Own)} (t : OwnsFr p r l) (h : x.Al (fun y => y.free p = true) := by first | trivial | rfl) : OwnsFr p r ((nm, .obj x) :: l)
theorem OwnsFr.get {p : Tag → Bool} {r q : Nat} (hp : ∀ x : AV, x.free p = true → Fr q x) {l : List (Nat × Own)} (h : OwnsFr p r l) {nm : Nat} {o : Own} (hn : nm ≠ r) (ho : look l nm = some o) : OwnFr q o := by
  induction h with
  | nil => cases ho
  | @row k e cells l h _ ih =>
    simp only [look] at ho
    cases hb : Nat.beq k nm with
    | true => rw [hb] at ho; simp only [cond_true, Option.some.injEq] at ho; subst ho; exact fun j _ => hp _ (freeAll_getD h j)
    | false => rw [hb] at ho; exact ih ho
  | @here o' l _ ih =>
    simp only [look] at ho
    cases hb : Nat.beq r nm with
    | true => exact (hn (Nat.eq_of_beq_eq_true hb).symm).elim
    | false => rw [hb] at ho; exact ih ho
  | @arr k sz m e f l h _ ih =>
    simp only [look] at ho
    cases hb : Nat.beq k nm with
    | true => rw [hb] at ho; simp only [cond_true, Option.some.injEq] at ho; subst ho; exact fun i j _ _ => hp _ (freeAll_getD (h i) j)
    | false => rw [hb] at ho; exact ih ho
  | @tok k sz m e l _ ih =>
    simp only [look] at ho
    cases hb : Nat.beq k nm with
    | true => rw [hb] at ho; simp only [cond_true, Option.some.injEq] at ho; subst ho; trivial
    | false => rw [hb] at ho; exact ih ho
  | @obj k x l _ h ih =>
    simp only [look] at ho
    cases hb : Nat.beq k nm with
    | true => rw [hb] at ho; simp only [cond_true, Option.some.injEq] at ho; subst ho; exact h.imp fun y hy => hp y hy
    | false => rw [hb] at ho; exact ih ho
theorem OwnsFr.sto {p : Tag → Bool} {r q : Nat} (hp : ∀ x : AV, x.free p = true → Fr q x) {st : St} (h : OwnsFr p r st.own) {nm : Nat} {o : Own} (hn : nm ≠ r) (ho : st.sto.own nm = some o) : OwnFr q o := by
  by_cases hlt : nm < famB
  · exact h.get hp hn ((famOwn_lt hlt).symm.trans ho)
  · obtain ⟨sz, e, m, rfl⟩ := famOwn_tok hlt ho
    trivial
theorem tmps_fr {p : Tag → Bool} {q : Nat} (hp : ∀ x : AV, x.free p = true → Fr q x) {st : St} (h : st.tmps.all (fun x => x.2.free p) = true) (t : Nat) : Fr q (st.sto.tmp t) := by
  show Fr q (match look st.tmps t with | some x => x | none => .any)
  cases hx : look st.tmps t with
  | none => exact hp _ rfl
  | some x => exact hp _ (List.all_eq_true.1 h _ (look_mem' hx))
def remA {α : Type} (l : List (Nat × α)) (k : Nat) : List (Nat × α) := l.filter fun p => !Nat.beq p.1 k
theorem look_remA {α : Type} (l : List (Nat × α)) (k n : Nat) : look (remA l k) n = if k = n then none else look l n := by
  induction l with
  | nil => simp [remA, look]
  | cons p l ih =>
    obtain ⟨m, x⟩ := p
    have ih' : look (List.filter (fun p => !Nat.beq p.1 k) l) n = if k = n then none else look l n := ih
    simp only [remA, List.filter_cons, look]
    cases hb : Nat.beq m k with
    | true =>
      have := Nat.eq_of_beq_eq_true hb
      subst this
      simp only [Bool.not_true, Bool.false_eq_true, if_false, ih']
      by_cases h : m = n
      · simp [h]
      · have : Nat.beq m n = false := by cases hb : Nat.beq m n with | false => rfl | true => exact absurd (Nat.eq_of_beq_eq_true hb) h
        simp [h, this]
    | false =>
      simp only [Bool.not_false, if_true, look, ih']
      cases hb' : Nat.beq m n with
      | true =>
        have := Nat.eq_of_beq_eq_true hb'
        subst this
        have : k ≠ m := by rintro rfl; simp at hb
        simp [this]
      | false => simp

theorem rep_out {I : Nat → Nat → Prop} {own own' : Nat → Option Own} {θ θ' : Nat → Option (Nat × Nat)} {w : World} {v : Value} {sz n b i p q m : Nat} {e : TypeId} {f : Nat → List AV} (hv : Rep I own θ w v (.slice sz n f (.fam b i))) (hb : big b i = p) (hp : own p = some (.tok sz e m))
    (hq : own' q = some (.tok sz e m)) (hθ : θ' q = θ p) : Rep I own' θ' w v (.slice sz n f (.own q)) := by
  cases hv with
  | val v x h => obtain ⟨h, _⟩ := h.slice_inv; cases h
  | fam _ _ _ e' m a n' cap f hi' ho' hm hv' h' =>
    rw [hb] at ho' hv'
    rw [hp] at ho'
    simp only [Option.some.injEq, Own.tok.injEq] at ho'
    obtain ⟨_, rfl, rfl⟩ := ho'
    exact .own q sz e _ _ _ _ _ hq hm (fun hh => by rw [hθ]; exact hv' hh) h'
theorem rep_stay {I : Nat → Nat → Prop} {own own' : Nat → Option Own} {θ θ' : Nat → Option (Nat × Nat)} {w : World} {v : Value} {sz n b i p : Nat} {f : Nat → List AV} (hv : Rep I own θ w v (.slice sz n f (.fam b i))) (hb : big b i = p) (ho : i < famB → own' p = own p) (hθ : i < famB → θ' p = θ p) : Rep I own' θ' w v (.slice sz n f (.fam b i)) := by
  cases hv with
  | val v x h => obtain ⟨h, _⟩ := h.slice_inv; cases h
  | fam _ _ _ e' m a n' cap f hi' ho' hm hv' h' =>
    rw [hb] at ho' hv'
    exact .fam b i sz e' m _ _ _ _ hi' (by rw [hb, ho hi']; exact ho') hm (fun hh => by rw [hb, hθ hi']; exact hv' hh) h'
theorem rep_back {I : Nat → Nat → Prop} {own own' : Nat → Option Own} {θ θ' : Nat → Option (Nat × Nat)} {w : World} {v : Value} {sz n b i p q m : Nat} {e : TypeId} {f : Nat → List AV} (hv : Rep I own θ w v (.slice sz n f (.own p))) (hb : big b i = q) (hi : i < famB) (hp : own p = some (.tok sz e m))
    (hq : own' q = some (.tok sz e m)) (hθ : θ' q = θ p) : Rep I own' θ' w v (.slice sz n f (.fam b i)) := by
  cases hv with
  | val v x h => obtain ⟨h, _⟩ := h.slice_inv; cases h
  | own _ _ e' m' a n' cap f ho' hm' hv' h' =>
    rw [hp] at ho'
    simp only [Option.some.injEq, Own.tok.injEq] at ho'
    obtain ⟨_, rfl, rfl⟩ := ho'
    exact .fam b i sz e m _ _ _ _ hi (by rw [hb]; exact hq) hm' (fun hh => by rw [hb, hθ]; exact hv' hh) h'
theorem rep_new {I : Nat → Nat → Prop} {own own' : Nat → Option Own} {θ θ' : Nat → Option (Nat × Nat)} {w : World} {v : Value} {sz n b i q : Nat} {e : TypeId} {f : Nat → List AV} (hv : Rep I own θ w v (.slice sz n f .exact)) (hb : big b i = q) (hi : i < famB) (hq : own' q = some (.tok sz e n)) (hθ : θ' q = none) :
    Rep I own' θ' w v (.slice sz n f (.fam b i)) := by
  cases hv with
  | val v x h => obtain ⟨h, _⟩ := h.slice_inv; cases h
  | exact a n' s' f h' => exact .fam b i sz e _ _ _ _ _ hi (by rw [hb]; exact hq) (Nat.le_refl _) (fun _ => by rw [hb, hθ]) h'

section
variable {α : Type} {st : St} {r b k n sz : Nat} {e1 : TypeId}

theorem row_lt {I : Nat → Nat → Prop} {own : Nat → Option Own} {θ : Nat → Option (Nat × Nat)} {w : World} (h : OwnRel I own θ w) {s1 : Nat} {F : Nat → List AV} (hr : own r = some (.arr s1 e1 n F)) {i : Nat} (hi : i < n) : i < famB := by
  have hm : maxLen < famB := by decide
  obtain ⟨h1, h2⟩ := h.arr r _ _ _ _ hr
  cases hx : θ r with
  | none => have := h1 hx; omega
  | some y => obtain ⟨_, _, h3, h4, _⟩ := h2 y.1 y.2 hx; omega

/-- One of a family by a name of its own. -/
theorem le_take (enc : α → List AV) (d : α) (L : List (List α)) (i : Nat) (e : TypeId) (hr : look st.own r = some (.arr 1 e1 n (rowF sz enc d L (Tag.fam b)))) (hb : look st.fam b = some ⟨sz, e, famM L⟩) (hk : look st.own k = none) (hn : n = L.length) (hi : i < L.length)
    (ht : st.tmps.all (fun x => x.2.free (noFam b)) = true) (ho : OwnsFr (noFam b) r st.own) (hlr : Nat.blt r famB = true := by rfl) (hlk : Nat.blt k famB = true := by rfl) :
    Le Γ st ⟨st.tmps, putA (putA st.own r (.arr 1 e1 n (rowF sz enc d L (famTag b i k)))) k (.tok sz e (L.getD i []).length), putA st.fam b ⟨sz, e, holeM L i⟩⟩ := by
  intro I θ a w h
  have hlr : r < famB := by simpa [Nat.blt_eq] using hlr
  have hlk : k < famB := by simpa [Nat.blt_eq] using hlk
  have hr' : st.sto.own r = some (.arr 1 e1 n (rowF sz enc d L (Tag.fam b))) := (famOwn_lt hlr).trans hr
  have hk' : st.sto.own k = none := (famOwn_lt hlk).trans hk
  have hib : i < famB := row_lt h.chg.rel hr' (by omega)
  have hp : st.sto.own (big b i) = some (.tok sz e (L.getD i []).length) := by
    show famOwn _ _ _ = _
    rw [famOwn_big hib, hb]
    simp [famM, hi]
  have hkb : k ≠ big b i := fun he => by rw [he] at hlk; exact big_ge b i hlk
  have hrb : r ≠ big b i := fun he => by rw [he] at hlr; exact big_ge b i hlr
  have hown : (⟨st.tmps, putA (putA st.own r (.arr 1 e1 n (rowF sz enc d L (famTag b i k)))) k (.tok sz e (L.getD i []).length), putA st.fam b ⟨sz, e, holeM L i⟩⟩ : St).sto.own =
      fun x => if x = k then some (.tok sz e (L.getD i []).length) else if x = big b i then none else if x = r then some (.arr 1 e1 n (rowF sz enc d L (famTag b i k))) else st.sto.own x := by
    funext x
    show famOwn (putA (putA st.own r _) k _) (putA st.fam b _) x = if x = k then _ else if x = big b i then none else if x = r then _ else famOwn st.own st.fam x
    by_cases hx : x < famB
    · have h1 : x ≠ big b i := fun he => by rw [he] at hx; exact big_ge b i hx
      rw [famOwn_lt hx, famOwn_lt hx, look_putA, look_putA]
      simp only [eq_comm (a := k), eq_comm (a := r), h1, if_false]
    · have h1 : x ≠ k := by rintro rfl; exact hx hlk
      have h2 : x ≠ r := by rintro rfl; exact hx hlr
      rw [famOwn_ge hx, famOwn_ge hx, look_putA, if_neg h1, if_neg h2]
      by_cases hd : b = x / famB - 1
      · have hxe := big_of hx
        rw [← hd] at hxe
        by_cases hm : x % famB = i
        · rw [hm] at hxe
          rw [if_pos hd, if_pos hxe, hm]
          simp [holeM]
        · have h3 : x ≠ big b i := fun he => hm (by rw [he, big_mod hib])
          rw [if_pos hd, if_neg h3, ← hd, hb]
          simp [holeM, hm]
      · have h3 : x ≠ big b i := fun he => hd (by rw [he, big_div hib])
        rw [if_neg hd, if_neg h3]
  let θ' : Nat → Option (Nat × Nat) := fun x => if x = k then θ (big b i) else if x = big b i then none else θ x
  refine ⟨I, θ', ?_⟩
  have hrr := rel_rename (θ' := θ') h hp hk' hr' (by cases hx : Γ.own0 (big b i) with | none => rfl | some o => exact (big_ge b i (Γ.lt0 _ (by rw [hx]; simp))).elim)
    (fun t => tmps_fr (fun x hx => fr_fam hib hx) ht t) (fun nm o hne ho' => ho.sto (fun x hx => fr_fam hib hx) hne ho') hown rfl (fun j _ => rfl) (fun j c v hj hc hv => ?_)
  · exact hrr
  · obtain rfl : c = 0 := by omega
    show Rep I _ θ' w v (.slice sz _ _ (famTag b i k j))
    replace hv : Rep I st.sto.own θ w v (.slice sz (L.getD j []).length (fun i_ => enc ((L.getD j []).getD i_ d)) (.fam b j)) := hv
    cases hji : Nat.beq j i with
    | true =>
      have := Nat.eq_of_beq_eq_true hji
      subst this
      rw [show famTag b j k j = .own k by simp [famTag]]
      exact rep_out hv rfl hp ((congrFun hown k).trans (if_pos rfl)) (if_pos rfl)
    | false =>
      have hne : j ≠ i := by rintro rfl; simp at hji
      rw [show famTag b i k j = .fam b j by simp [famTag, hji]]
      have h3 : j < famB → big b j ≠ big b i := fun hi' he => hne (by rw [← big_mod (b := b) hi', he, big_mod hib])
      have h4 : big b j ≠ k := fun he => by rw [← he] at hlk; exact big_ge b j hlk
      have h5 : big b j ≠ r := fun he => by rw [← he] at hlr; exact big_ge b j hlr
      exact rep_stay hv rfl (fun hi' => (congrFun hown _).trans ((if_neg h4).trans ((if_neg (h3 hi')).trans (if_neg h5)))) (fun hi' => (if_neg h4).trans (if_neg (h3 hi')))

/-- .. and back. -/
theorem le_put (enc : α → List AV) (d : α) (L : List (List α)) (i : Nat) (x : List α) (e : TypeId) {F : Nat → List AV} {m : Nat} (hr : look st.own r = some (.arr 1 e1 n F)) (hF : ∀ j, j < n → F j = rowF sz enc d (L.set i x) (famTag b i k) j) (hb : look st.fam b = some ⟨sz, e, holeM L i⟩) (hk : look st.own k = some (.tok sz e m)) (hm : m = x.length) (hn : n = L.length) (hi : i < L.length)
    (ht : st.tmps.all (fun x => x.2.free (noOwn k)) = true) (ho : OwnsFr (noOwn k) r st.own) (h0 : Γ.own0 k = none) (hlr : Nat.blt r famB = true := by rfl) (hlk : Nat.blt k famB = true := by rfl) :
    Le Γ st ⟨st.tmps, remA (putA st.own r (.arr 1 e1 n (rowF sz enc d (L.set i x) (Tag.fam b)))) k, putA st.fam b ⟨sz, e, famM (L.set i x)⟩⟩ := by
  intro I θ a w h
  have hlr : r < famB := by simpa [Nat.blt_eq] using hlr
  have hlk : k < famB := by simpa [Nat.blt_eq] using hlk
  have hr' : st.sto.own r = some (.arr 1 e1 n F) := (famOwn_lt hlr).trans hr
  have hk' : st.sto.own k = some (.tok sz e m) := (famOwn_lt hlk).trans hk
  have hib : i < famB := row_lt h.chg.rel hr' (by omega)
  have hp : st.sto.own (big b i) = none := by
    show famOwn _ _ _ = _
    rw [famOwn_big hib, hb]
    simp [holeM]
  have hgi : (L.set i x).getD i [] = x := by simp [List.getD, hi]
  have hgj : ∀ j, j ≠ i → (L.set i x).getD j [] = L.getD j [] := fun j hj => by simp [List.getD, Ne.symm hj]
  have hkr : k ≠ r := by rintro rfl; rw [hk] at hr; cases hr
  have hkb : k ≠ big b i := fun he => by rw [he] at hlk; exact big_ge b i hlk
  have hown : (⟨st.tmps, remA (putA st.own r (.arr 1 e1 n (rowF sz enc d (L.set i x) (Tag.fam b)))) k, putA st.fam b ⟨sz, e, famM (L.set i x)⟩⟩ : St).sto.own =
      fun y => if y = big b i then some (.tok sz e m) else if y = k then none else if y = r then some (.arr 1 e1 n (rowF sz enc d (L.set i x) (Tag.fam b))) else st.sto.own y := by
    funext y
    show famOwn (remA (putA st.own r _) k) (putA st.fam b _) y = if y = big b i then _ else if y = k then none else if y = r then _ else famOwn st.own st.fam y
    by_cases hx : y < famB
    · have h1 : y ≠ big b i := fun he => by rw [he] at hx; exact big_ge b i hx
      rw [famOwn_lt hx, famOwn_lt hx, look_remA, look_putA]
      simp only [eq_comm (a := k), eq_comm (a := r), h1, if_false]
    · have h1 : y ≠ k := by rintro rfl; exact hx hlk
      have h2 : y ≠ r := by rintro rfl; exact hx hlr
      rw [famOwn_ge hx, famOwn_ge hx, look_putA, if_neg h1, if_neg h2]
      by_cases hd : b = y / famB - 1
      · have hxe := big_of hx
        rw [← hd] at hxe
        by_cases hm' : y % famB = i
        · rw [hm'] at hxe
          rw [if_pos hd, if_pos hxe, hm', Option.bind_some]
          show (famM (L.set i x) i).map _ = _
          simp only [famM, List.length_set, hi, if_true, hgi, hm, Option.map_some]
        · have h3 : y ≠ big b i := fun he => hm' (by rw [he, big_mod hib])
          rw [if_pos hd, if_neg h3, ← hd, hb]
          simp only [Option.bind_some, holeM, hm', if_false, famM, List.length_set, hgj _ hm']
      · have h3 : y ≠ big b i := fun he => hd (by rw [he, big_div hib])
        rw [if_neg hd, if_neg h3]
  let θ' : Nat → Option (Nat × Nat) := fun y => if y = big b i then θ k else if y = k then none else θ y
  refine ⟨I, θ', ?_⟩
  have hrr := rel_rename (θ' := θ') h hk' hp hr' h0 (fun t => tmps_fr (fun x hx => fr_own hlk hx) ht t) (fun nm o hne ho' => ho.sto (fun x hx => fr_own hlk hx) hne ho') hown rfl
    (fun j hj => by rw [hF j hj]; rfl) (fun j c v hj hc hv => ?_)
  · exact hrr
  · obtain rfl : c = 0 := by omega
    rw [hF j hj] at hv
    show Rep I _ θ' w v (.slice sz _ _ (.fam b j))
    replace hv : Rep I st.sto.own θ w v (.slice sz ((L.set i x).getD j []).length (fun i_ => enc (((L.set i x).getD j []).getD i_ d)) (famTag b i k j)) := hv
    cases hji : Nat.beq j i with
    | true =>
      have := Nat.eq_of_beq_eq_true hji
      subst this
      rw [show famTag b j k j = .own k by simp [famTag]] at hv
      exact rep_back hv rfl hib hk' ((congrFun hown _).trans (if_pos rfl)) (if_pos rfl)
    | false =>
      have hne : j ≠ i := by rintro rfl; simp at hji
      rw [show famTag b i k j = .fam b j by simp [famTag, hji]] at hv
      have h3 : j < famB → big b j ≠ big b i := fun hi' he => hne (by rw [← big_mod (b := b) hi', he, big_mod hib])
      have h4 : big b j ≠ k := fun he => by rw [← he] at hlk; exact big_ge b j hlk
      have h5 : big b j ≠ r := fun he => by rw [← he] at hlr; exact big_ge b j hlr
      exact rep_stay hv rfl (fun hi' => (congrFun hown _).trans ((if_neg (h3 hi')).trans ((if_neg h4).trans (if_neg h5)))) (fun hi' => (if_neg (h3 hi')).trans (if_neg h4))

/-- One that has no room to spare takes a place in a family. -/
def famTagX (b i j : Nat) : Tag := bif Nat.beq j i then .exact else .fam b j
theorem le_putx (enc : α → List AV) (d : α) (L : List (List α)) (i : Nat) (x : List α) (e : TypeId) {F : Nat → List AV} (hr : look st.own r = some (.arr 1 e1 n F)) (hF : ∀ j, j < n → F j = rowF sz enc d (L.set i x) (famTagX b i) j) (hb : look st.fam b = some ⟨sz, e, holeM L i⟩) (hn : n = L.length) (hi : i < L.length)
    (h8 : e = tokU8 → x.length = 0) (hlr : Nat.blt r famB = true := by rfl) :
    Le Γ st ⟨st.tmps, putA st.own r (.arr 1 e1 n (rowF sz enc d (L.set i x) (Tag.fam b))), putA st.fam b ⟨sz, e, famM (L.set i x)⟩⟩ := by
  intro I θ a w h
  have hlr : r < famB := by simpa [Nat.blt_eq] using hlr
  have hr' : st.sto.own r = some (.arr 1 e1 n F) := (famOwn_lt hlr).trans hr
  have hib : i < famB := row_lt h.chg.rel hr' (by omega)
  obtain ⟨q, hq⟩ : ∃ q, big b i = q := ⟨_, rfl⟩
  have hqg : ¬ q < famB := by rw [← hq]; exact big_ge b i
  have hqd : q / famB - 1 = b := by rw [← hq]; exact big_div hib
  have hqm : q % famB = i := by rw [← hq]; exact big_mod hib
  have hgi : (L.set i x).getD i [] = x := by simp [List.getD, hi]
  have hgj : ∀ j, j ≠ i → (L.set i x).getD j [] = L.getD j [] := fun j hj => by simp [List.getD, Ne.symm hj]
  let S : Nat → Option (Nat × TypeId × Nat) := fun y => if y = q then some (sz, e, x.length) else none
  have hown : (⟨st.tmps, putA st.own r (.arr 1 e1 n (rowF sz enc d (L.set i x) (Tag.fam b))), putA st.fam b ⟨sz, e, famM (L.set i x)⟩⟩ : St).sto.own =
      fun y => match S y with | some y => some (.tok y.1 y.2.1 y.2.2) | none => if y = r then some (.arr 1 e1 n (rowF sz enc d (L.set i x) (Tag.fam b))) else st.sto.own y := by
    funext y
    show famOwn (putA st.own r _) (putA st.fam b _) y = match S y with | some y => _ | none => if y = r then _ else famOwn st.own st.fam y
    by_cases hx : y < famB
    · have h1 : y ≠ q := fun he => hqg (he ▸ hx)
      have : S y = none := if_neg h1
      rw [famOwn_lt hx, famOwn_lt hx, look_putA, this]
      simp only [eq_comm (a := r)]
    · have h2 : y ≠ r := by rintro rfl; exact hx hlr
      rw [famOwn_ge hx, famOwn_ge hx, look_putA]
      by_cases hd : b = y / famB - 1
      · have hxe := big_of hx
        rw [← hd] at hxe
        by_cases hm' : y % famB = i
        · rw [hm', hq] at hxe
          have : S y = some (sz, e, x.length) := if_pos hxe
          rw [if_pos hd, this, hm', Option.bind_some]
          show (famM (L.set i x) i).map _ = _
          simp only [famM, List.length_set, hi, if_true, hgi, Option.map_some]
        · have h3 : y ≠ q := fun he => hm' (by rw [he, hqm])
          have : S y = none := if_neg h3
          rw [if_pos hd, this, if_neg h2, ← hd, hb]
          simp only [Option.bind_some, holeM, hm', if_false, famM, List.length_set, hgj _ hm']
      · have h3 : y ≠ q := fun he => hd (by rw [he, hqd])
        have : S y = none := if_neg h3
        rw [if_neg hd, this, if_neg h2]
  have hp : st.sto.own q = none := by
    rw [← hq]
    show famOwn _ _ _ = _
    rw [famOwn_big hib, hb]
    simp [holeM]
  refine ⟨I, _, rel_births h hr' (S := S) (fun y z hy => ?_) (fun y s m hy => ?_) hown rfl (fun j hj => by rw [hF j hj]; rfl) (fun j c v hj hc hv => ?_)⟩
  · by_cases h1 : y = q
    · rw [h1]; exact hp
    · have h2 : S y = none := if_neg h1
      rw [h2] at hy; cases hy
  · by_cases h1 : y = q
    · have h2 : S y = some (sz, e, x.length) := if_pos h1
      rw [h2] at hy
      simp only [Option.some.injEq, Prod.mk.injEq] at hy
      obtain ⟨_, he, rfl⟩ := hy
      exact h8 he
    · have h2 : S y = none := if_neg h1
      rw [h2] at hy; cases hy
  · obtain rfl : c = 0 := by omega
    rw [hF j hj] at hv
    show Rep I _ _ w v (.slice sz _ _ (.fam b j))
    replace hv : Rep I st.sto.own θ w v (.slice sz ((L.set i x).getD j []).length (fun i_ => enc (((L.set i x).getD j []).getD i_ d)) (famTagX b i j)) := hv
    cases hji : Nat.beq j i with
    | true =>
      have := Nat.eq_of_beq_eq_true hji
      subst this
      rw [show famTagX b j j = .exact by simp [famTagX]] at hv
      have hSj : S q = some (sz, e, x.length) := if_pos rfl
      exact rep_new (q := q) (e := e) hv hq hib ((congrFun hown _).trans (by rw [hSj, hgi])) (by rw [hSj])
    | false =>
      have hne : j ≠ i := by rintro rfl; simp at hji
      rw [show famTagX b i j = .fam b j by simp [famTagX, hji]] at hv
      obtain ⟨q', hq'⟩ : ∃ q', big b j = q' := ⟨_, rfl⟩
      have h3 : j < famB → q' ≠ q := fun hi' he => hne (by rw [← big_mod (b := b) hi', hq', he, hqm])
      have h5 : q' ≠ r := fun he => by rw [← he, ← hq'] at hlr; exact big_ge b j hlr
      have hS' : j < famB → S q' = none := fun hi' => if_neg (h3 hi')
      exact rep_stay hv hq' (fun hi' => (congrFun hown _).trans (by rw [hS' hi']; exact if_neg h5)) (fun hi' => by rw [hS' hi'])

/-- A row of slices that have no room to spare becomes a family. -/
theorem le_birth (enc : α → List AV) (d : α) (L : List (List α)) (e : TypeId) (hr : look st.own r = some (.arr 1 e1 n (rowF sz enc d L (fun _ => .exact)))) (hb : look st.fam b = none) (hn : n = L.length) (h8 : e = tokU8 → ∀ j, (L.getD j []).length = 0) (hlr : Nat.blt r famB = true := by rfl) :
    Le Γ st ⟨st.tmps, putA st.own r (.arr 1 e1 n (rowF sz enc d L (Tag.fam b))), putA st.fam b ⟨sz, e, famM L⟩⟩ := by
  intro I θ a w h
  have hlr : r < famB := by simpa [Nat.blt_eq] using hlr
  have hr' : st.sto.own r = some (.arr 1 e1 n (rowF sz enc d L (fun _ => .exact))) := (famOwn_lt hlr).trans hr
  let S : Nat → Option (Nat × TypeId × Nat) := fun x => if x < famB then none else if b = x / famB - 1 then (famM L (x % famB)).map fun m => (sz, e, m) else none
  have hown : (⟨st.tmps, putA st.own r (.arr 1 e1 n (rowF sz enc d L (Tag.fam b))), putA st.fam b ⟨sz, e, famM L⟩⟩ : St).sto.own =
      fun x => match S x with | some y => some (.tok y.1 y.2.1 y.2.2) | none => if x = r then some (.arr 1 e1 n (rowF sz enc d L (Tag.fam b))) else st.sto.own x := by
    funext x
    show famOwn (putA st.own r _) (putA st.fam b _) x = match S x with | some y => _ | none => if x = r then _ else famOwn st.own st.fam x
    by_cases hx : x < famB
    · have : S x = none := by simp [S, hx]
      rw [famOwn_lt hx, famOwn_lt hx, look_putA, this]
      simp only [eq_comm (a := r)]
    · have h2 : x ≠ r := by rintro rfl; exact hx hlr
      rw [famOwn_ge hx, famOwn_ge hx, look_putA]
      by_cases hd : b = x / famB - 1
      · have : S x = (famM L (x % famB)).map fun m => (sz, e, m) := by simp only [S, hx, if_false, if_pos hd]
        rw [if_pos hd, this, if_neg h2, ← hd, hb]
        simp only [Option.bind_some]
        cases famM L (x % famB) <;> rfl
      · have : S x = none := by simp only [S, hx, if_false, if_neg hd]
        rw [if_neg hd, this, if_neg h2]
  have hS : ∀ x y, S x = some y → st.sto.own x = none := fun x y hx => by
    by_cases h1 : x < famB
    · simp [S, h1] at hx
    · by_cases hd : b = x / famB - 1
      · show famOwn _ _ x = none
        rw [famOwn_ge h1, ← hd, hb]; rfl
      · simp only [S, h1, if_false, if_neg hd] at hx; cases hx
  refine ⟨I, _, rel_births h hr' hS (fun x s m hx => ?_) hown rfl (fun j _ => rfl) (fun j c v hj hc hv => ?_)⟩
  · by_cases h1 : x < famB
    · simp [S, h1] at hx
    · by_cases hd : b = x / famB - 1
      · simp only [S, h1, if_false, if_pos hd] at hx
        obtain ⟨m', hm', he⟩ := Option.map_eq_some_iff.1 hx
        simp only [Prod.mk.injEq] at he
        obtain ⟨_, he, rfl⟩ := he
        unfold famM at hm'
        split at hm'
        · simp only [Option.some.injEq] at hm'; rw [← hm']; exact h8 he _
        · cases hm'
      · simp only [S, h1, if_false, if_neg hd] at hx; cases hx
  · obtain rfl : c = 0 := by omega
    have hjb : j < famB := row_lt h.chg.rel hr' hj
    replace hv : Rep I st.sto.own θ w v (.slice sz (L.getD j []).length (fun i_ => enc ((L.getD j []).getD i_ d)) .exact) := hv
    show Rep I _ _ w v (.slice sz (L.getD j []).length (fun i_ => enc ((L.getD j []).getD i_ d)) (.fam b j))
    have hSj : S (big b j) = some (sz, e, (L.getD j []).length) := by
      simp only [S, big_ge b j, if_false, big_div hjb, if_true, big_mod hjb, famM]
      rw [if_pos (by omega)]; rfl
    exact rep_new hv rfl hjb ((congrFun hown _).trans (by rw [hSj])) (by rw [hSj])
end
end
theorem av_famtag {α : Type} {sz b i k : Nat} {e : α → List AV} {d : α} {l : List α} : AVle (AV.list sz e d l (famTag b i k i)) (AV.list sz e d l (.own k)) := by
  have : famTag b i k i = .own k := by simp [famTag]
  rw [this]
  exact AVle.refl _
theorem putF_fam {α : Type} {sz b i k k0 : Nat} {e : α → List AV} {d : α} {L : List (List α)} {x : List α} {n : Nat} {keep : Nat → Bool} (hi : i < L.length) (hk : keep k = true) (hb : keep b = true) :
    ∀ j, j < n → AV.eraseAll keep (putF (rowF sz e d L (famTag b i k0)) i 0 [AV.list sz e d x (.own k)] j) = rowF sz e d (L.set i x) (famTag b i k) j := fun j _ => by
  unfold putF
  cases hji : Nat.beq j i with
  | true =>
    have := Nat.eq_of_beq_eq_true hji
    subst this
    simp [rowF, AV.eraseAll, AV.erase, AV.list, famTag, hk, List.getD, hi]
  | false =>
    have hne : i ≠ j := by rintro rfl; simp at hji
    simp [rowF, AV.eraseAll, AV.erase, AV.list, famTag, hji, hb, List.getD, hne]
theorem putF_famx {α : Type} {sz b i k0 : Nat} {e : α → List AV} {d : α} {L : List (List α)} {x : List α} {n : Nat} {keep : Nat → Bool} (hi : i < L.length) (hb : keep b = true) :
    ∀ j, j < n → AV.eraseAll keep (putF (rowF sz e d L (famTag b i k0)) i 0 [AV.list sz e d x .exact] j) = rowF sz e d (L.set i x) (famTagX b i) j := fun j _ => by
  unfold putF
  cases hji : Nat.beq j i with
  | true =>
    have := Nat.eq_of_beq_eq_true hji
    subst this
    simp [rowF, AV.eraseAll, AV.erase, AV.list, famTagX, List.getD, hi]
  | false =>
    have hne : i ≠ j := by rintro rfl; simp at hji
    simp [rowF, AV.eraseAll, AV.erase, AV.list, famTag, famTagX, hji, hb, List.getD, hne]
theorem fam_zero {α : Type} {sz n : Nat} {e : α → List AV} {d : α} {keep : Nat → Bool} : ∀ k, k < n → AVleL (AV.eraseAll keep [.slice 0 0 (fun _ => []) .exact]) (rowF sz e d (List.replicate n []) (fun _ => .exact) k) := fun k hk => by
  have : (List.replicate n ([] : List α)).getD k [] = [] := by simp [List.getD, hk]
  unfold rowF
  rw [this]
  exact .cons av_nil .nil

/-! ### Arrays, whole and in part -/
/-- An element's cells, out of all. -/
theorem flat_chunk {n sz : Nat} {f : Nat → List AV} (hf : ∀ i, i < n → (f i).length = sz) : ∀ k, k < n → ((flatF n f).drop (k * sz)).take sz = f k := fun k hk => by
  have hl := flatF_len hf
  have h1 : (k + 1) * sz ≤ n * sz := Nat.mul_le_mul_right _ hk
  rw [Nat.add_mul] at h1
  apply List.ext_getElem
  · rw [List.length_take, List.length_drop, hl, hf k hk]; omega
  · intro j h2 h3
    have hj : j < sz := by rw [hf k hk] at h3; exact h3
    have := flatF_get hf k j hk hj
    rw [List.getElem_take, List.getElem_drop]
    rw [List.getD_eq_getElem?_getD, List.getElem?_eq_getElem (by omega), List.getD_eq_getElem?_getD, List.getElem?_eq_getElem h3] at this
    simpa using this
/-- So many elements, from one on. -/
def subN {α : Type} (d : α) (l : List α) (lo k : Nat) : List α := (List.range k).map fun i => l.getD (lo + i) d
theorem subN_len {α : Type} {d : α} {l : List α} {lo k : Nat} : (subN d l lo k).length = k := by simp [subN]
theorem subN_get {α : Type} {d : α} {l : List α} {lo k i : Nat} (h : i < k) : (subN d l lo k).getD i d = l.getD (lo + i) d := by
  simp [subN, List.getD, h]
theorem sub_le {α : Type} {sz k lo : Nat} {e : α → List AV} {d : α} {l : List α} (hs : ∀ a, AV.stripAll (e a) = e a) : AVle (.slice sz k (fun i => AV.stripAll (e (l.getD (lo + i) d))) .none) (AV.list sz e d (subN d l lo k) .none) := by
  intro I own θ w v hv
  obtain ⟨_, a, cap, us, rfl, hcap, hmax, hz, hn, h1, hl, hr⟩ := hv.slice_val.slice_inv
  unfold AV.list
  rw [subN_len]
  refine .val _ _ (.slice _ _ _ sz _ us hcap hmax hz hn h1 (fun i hi => ?_) (fun i c hi hc => ?_))
  · rw [subN_get hi, ← hs]; exact hl i hi
  · rw [subN_get hi, ← hs]; exact hr i c hi hc

/-! ### Rows cut off -/
mutual
/-- A row's name isn't in it. -/
def AV.freeN (r : Nat) : AV → Bool
  | .vsl nm _ => !Nat.beq nm r
  | .vpt nm _ _ _ => !Nat.beq nm r
  | .vsub nm _ _ _ => !Nat.beq nm r
  | .clo _ xs ys => AV.freeNAll r xs && AV.freeNAll r ys
  | .agg cs => AV.freeNAll r cs
  | .tuple cs => AV.freeNAll r cs
  | .cond _ x => x.freeN r
  | _ => true
def AV.freeNAll (r : Nat) : List AV → Bool
  | [] => true
  | x :: l => x.freeN r && AV.freeNAll r l
end
theorem freeNAll_getD {r : Nat} {l : List AV} (h : AV.freeNAll r l = true) (j : Nat) : (l.getD j .any).freeN r = true := by
  induction l generalizing j with
  | nil => simp [AV.freeN]
  | cons x l ih =>
    simp only [AV.freeNAll, Bool.and_eq_true] at h
    cases j with
    | zero => simpa using h.1
    | succ j => simpa using ih h.2 j
theorem rep_freeN {I : Nat → Nat → Prop} {own own' : Nat → Option Own} {θ : Nat → Option (Nat × Nat)} {w : World} {v : Value} {x : AV} {r : Nat} (h : Rep I own θ w v x) (hx : x.freeN r = true) (hr : ∃ sz e m f, own r = some (.arr sz e m f))
    (ho : ∀ nm, nm ≠ r → own' nm = own nm) : Rep I own' θ w v x := by
  obtain ⟨s0, e0, m0, f0, hr⟩ := hr
  have hne : ∀ {nm o}, own nm = some o → (∀ sz e m f, o ≠ .arr sz e m f) → own' nm = some o := fun {nm o} hn hh => by
    rw [ho nm (by rintro rfl; rw [hr] at hn; exact hh _ _ _ _ (Option.some.inj hn).symm)]
    exact hn
  have hbq : ∀ {nm : Nat}, (!Nat.beq nm r) = true → nm ≠ r := fun h e => by subst e; simp at h
  induction h with
  | val v x h => exact .val v x h
  | exact a n sz f h => exact .exact a n sz f h
  | own nm sz e m a n cap f hn hm hv h => exact .own nm sz e m a n cap f (hne hn (fun _ _ _ _ h => by cases h)) hm hv h
  | fam b i sz e m a n cap f hi hn hm hv h => exact .fam b i sz e m a n cap f hi (hne hn (fun _ _ _ _ h => by cases h)) hm hv h
  | ptr nm off e cells g c hn hg => exact .ptr nm off e cells g c (hne hn (fun _ _ _ _ h => by cases h)) hg
  | vsl nm sz e m f a n cap hn hm hcap hmax hnn hv => exact .vsl nm sz e m f a n cap ((ho nm (hbq hx)).trans hn) hm hcap hmax hnn hv
  | vpt nm sz e m f n i j ad hn hm hi hv => exact .vpt nm sz e m f n i j ad ((ho nm (hbq hx)).trans hn) hm hi hv
  | clo f fs cs xs ys hl hl' _ _ ih ih' =>
    simp only [AV.freeN, Bool.and_eq_true] at hx
    exact .clo f fs cs xs ys hl hl' (fun j hj => ih j hj (freeNAll_getD hx.1 j)) (fun j hj => ih' j hj (freeNAll_getD hx.2 j))
  | optr nm x g c hn hg => exact .optr nm x g c (hne hn (fun _ _ _ _ h => by cases h)) hg
  | omap nm x hn => exact .omap nm x (hne hn (fun _ _ _ _ h => by cases h))
  | vsub nm sz e m f n lo hi a cap hn hm hlo hhi hcap hmax hnn hv => exact .vsub nm sz e m f n lo hi a cap ((ho nm (hbq hx)).trans hn) hm hlo hhi hcap hmax hnn hv
  | cond v c x _ h' ih => exact .cond v c x (fun hc => ih hc hx) h'
  | agg vs cs hl h1 _ ih => exact .agg vs cs hl h1 (fun j hj => ih j hj (freeNAll_getD hx j))
  | tuple vs cs hl _ ih => exact .tuple vs cs hl (fun j hj => ih j hj (freeNAll_getD hx j))
inductive OwnsFrN (r : Nat) : List (Nat × Own) → Prop
  | nil : OwnsFrN r []
  | row {nm : Nat} {e : TypeId} {cells : List AV} {l : List (Nat × Own)} (h : AV.freeNAll r cells = true) (t : OwnsFrN r l) : OwnsFrN r ((nm, .row e cells) :: l)
  | arr {nm sz m : Nat} {e : TypeId} {f : Nat → List AV} {l : List (Nat × Own)} (h : ∀ j, AV.freeNAll r (f j) = true) (t : OwnsFrN r l) : OwnsFrN r ((nm, .arr sz e m f) :: l)
  | tok {nm sz m : Nat} {e : TypeId} {l : List (Nat × Own)} (t : OwnsFrN r l) : OwnsFrN r ((nm, .tok sz e m) :: l)
  | obj {nm : Nat} {x : AObj} {l : List (Nat × Own)} (t : OwnsFrN r l) (h : x.Al (fun y => y.freeN r = true) := by first | trivial | rfl) : OwnsFrN r ((nm, .obj x) :: l)
def OwnN (r : Nat) : Own → Prop
  | .row _ cells => AV.freeNAll r cells = true
  | .arr _ _ _ f => ∀ j, AV.freeNAll r (f j) = true
  | .obj x => x.Al (fun y => y.freeN r = true)
  | .tok .. => True
theorem OwnsFrN.get {r : Nat} {l : List (Nat × Own)} (h : OwnsFrN r l) {nm : Nat} {o : Own} (ho : look l nm = some o) : OwnN r o := by
  induction h with
  | nil => cases ho
  | @row k e cells l h _ ih =>
    simp only [look] at ho
    cases hb : Nat.beq k nm with
    | true => rw [hb] at ho; simp only [cond_true, Option.some.injEq] at ho; subst ho; exact h
    | false => rw [hb] at ho; exact ih ho
  | @arr k sz m e f l h _ ih =>
    simp only [look] at ho
    cases hb : Nat.beq k nm with
    | true => rw [hb] at ho; simp only [cond_true, Option.some.injEq] at ho; subst ho; exact h
    | false => rw [hb] at ho; exact ih ho
  | @tok k sz m e l _ ih =>
    simp only [look] at ho
    cases hb : Nat.beq k nm with
    | true => rw [hb] at ho; simp only [cond_true, Option.some.injEq] at ho; subst ho; trivial
    | false => rw [hb] at ho; exact ih ho
  | @obj k x l _ h ih =>
    simp only [look] at ho
    cases hb : Nat.beq k nm with
    | true => rw [hb] at ho; simp only [cond_true, Option.some.injEq] at ho; subst ho; exact h
    | false => rw [hb] at ho; exact ih ho

/-- A row of which only a part, from its beginning on, is told any more. -/
theorem le_trunc {Γ : Env} {st : St} {t r s n k : Nat} {e : TypeId} {f : Nat → List AV} (hs : st.get t = .vsub r n 0 k) (hr : look st.own r = some (.arr s e n f)) (hk : k ≤ n)
    (ht : (st.tmps.all fun x => Nat.beq x.1 t || x.2.freeN r) = true) (ho : OwnsFrN r st.own) (h0 : Γ.own0 r = none) (hlt : Nat.blt r famB = true := by rfl) (hB : arrB e = false := by rfl) :
    Le Γ st ⟨putA st.tmps t (.vsl r k), putA st.own r (.arr s e k f), st.fam⟩ := by
  intro I θ a w h
  have hlt : r < famB := by simpa [Nat.blt_eq] using hlt
  have hr' : st.sto.own r = some (.arr s e n f) := (famOwn_lt hlt).trans hr
  have hown : (⟨putA st.tmps t (.vsl r k), putA st.own r (.arr s e k f), st.fam⟩ : St).sto.own = ownUp st.sto.own r (.arr s e k f) := by
    funext x
    show famOwn (putA st.own r _) _ x = _
    rw [famOwn_putA hlt]
    simp only [ownUp]
    by_cases hx : r = x
    · subst hx; simp
    · simp [hx, Ne.symm hx]; rfl
  have hsame : ∀ nm, nm ≠ r → ownUp st.sto.own r (.arr s e k f) nm = st.sto.own nm := fun nm hn => by simp [ownUp, hn]
  have hT : ∀ v x, x.freeN r = true → Rep I st.sto.own θ w v x → Rep I (ownUp st.sto.own r (.arr s e k f)) θ w v x := fun v x hx hv => rep_freeN hv hx ⟨_, _, _, _, hr'⟩ hsame
  have hrel := h.chg.rel
  have hrows : ∀ nm o, st.sto.own nm = some o → OwnN r o := fun nm o hn => by
    by_cases hl : nm < famB
    · exact ho.get ((famOwn_lt hl).symm.trans hn)
    · obtain ⟨_, _, _, rfl⟩ := famOwn_tok hl hn; trivial
  have hget : ∀ t', (⟨putA st.tmps t (.vsl r k), putA st.own r (.arr s e k f), st.fam⟩ : St).sto.tmp t' = if t = t' then .vsl r k else st.get t' := fun t' => by
    show (match look (putA st.tmps t _) t' with | some x => x | none => .any) = _
    rw [look_putA]
    by_cases hk : t = t'
    · simp [hk]
    · simp [hk]; rfl
  refine ⟨I, θ, h.size, h.defers, fun t' => ?_, ?_⟩
  · rw [hown, hget]
    split
    · rename_i htt
      subst htt
      have hv := h.slots t
      have hv' : Rep I st.sto.own θ w (a.tmps.getD t undef) (.vsub r n 0 k) := by rw [← hs]; exact hv
      obtain ⟨sz, e', m, f', ad, cap, he, ho', hm, _, hhi, hcap, hmax, hn, hvv⟩ := hv'.vsub_inv
      rw [hr'] at ho'
      simp only [Option.some.injEq, Own.arr.injEq] at ho'
      obtain ⟨rfl, rfl, rfl, rfl⟩ := ho'
      rw [he]
      refine .vsl r s e k f ad _ cap (by simp [ownUp]) (Nat.le_refl _) hcap hmax hn (fun _ => ?_)
      have hz := (hvv rfl).2 rfl
      cases hθ : θ r with
      | none => rw [hθ] at hz; have := (hrel.arr r _ _ _ _ hr').1 hθ; simp only at hz ⊢; omega
      | some gc => rw [hθ] at hz; exact ⟨hz.1, hz.2.resolve_right (by rw [hB]; decide)⟩
    · rename_i htt
      have hx : (st.get t').freeN r = true := by
        unfold St.get
        cases hl : look st.tmps t' with
        | none => rfl
        | some x =>
          have := List.all_eq_true.1 ht _ (look_mem' hl)
          simp only [Bool.or_eq_true] at this
          rcases this with h' | h'
          · exact (htt (Nat.eq_of_beq_eq_true h').symm).elim
          · exact h'
      exact hT _ _ hx (h.slots t')
  · rw [hown]
    refine { h.chg with le := fun nm o hno => ?_, rel := ⟨fun nm e0 cells hn => ?_, fun nm s' e' m' hn g c hg => ?_, fun nm nm' g c c' hn hn' hg hg' => ?_, fun nm s' e' m' f' hn => ?_, fun nm x hn => ?_, fun nm s' m' hn hnn => ?_⟩, new := fun nm g c hn hg => ?_ }
    · obtain ⟨o', ho', hl⟩ := h.chg.le nm o hno
      exact ⟨o', (hsame nm (by rintro rfl; rw [h0] at hno; cases hno)).trans ho', hl⟩
    · have hne : nm ≠ r := by rintro rfl; simp [ownUp] at hn
      rw [hsame nm hne] at hn
      obtain ⟨g, c, vs, r1, r2, r3, r4, r5, r6⟩ := hrel.row nm e0 cells hn
      exact ⟨g, c, vs, r1, r2, r3, r4, fun j hj => hT _ _ (freeNAll_getD (hrows nm _ hn) j) (r5 j hj), r6⟩
    · have hne : nm ≠ r := by rintro rfl; simp [ownUp] at hn
      rw [hsame nm hne] at hn
      exact hrel.tok nm _ _ _ hn g c hg
    · have hx : ∀ nm, ownUp st.sto.own r (.arr s e k f) nm ≠ none → st.sto.own nm ≠ none := fun nm hn => by
        by_cases hne : nm = r
        · subst hne; rw [hr']; simp
        · rwa [hsame nm hne] at hn
      exact hrel.inj nm nm' g c c' (hx nm hn) (hx nm' hn') hg hg'
    · by_cases hne : nm = r
      · subst hne
        simp only [ownUp, if_true, Option.some.injEq, Own.arr.injEq] at hn
        obtain ⟨rfl, rfl, rfl, rfl⟩ := hn
        obtain ⟨q0, q1⟩ := hrel.arr nm _ _ _ _ hr'
        refine ⟨fun hθ => by have := q0 hθ; omega, fun g c hg => ?_⟩
        obtain ⟨cur, p1, p2, p3, p4, p5, p6, p7⟩ := q1 g c hg
        exact ⟨cur, p1, by omega, p3, p4, fun i hi => p5 i (by omega), fun i j hi hj => ⟨(p6 i j (by omega) hj).1, hT _ _ (freeNAll_getD (hrows nm _ hr' i) j) (p6 i j (by omega) hj).2⟩, p7⟩
      · rw [hsame nm hne] at hn
        exact arr_map' (hrel.arr nm _ _ _ _ hn) rfl (fun _ _ => rfl) (fun i j v _ _ hv => hT _ _ (freeNAll_getD (hrows nm _ hn i) j) hv)
    · have hne : nm ≠ r := by rintro rfl; simp [ownUp] at hn
      rw [hsame nm hne] at hn
      exact obj_map (hrel.obj nm _ hn) rfl (fun _ _ _ => rfl) (fun _ _ _ _ h => h) (fun _ hh => hh.al (P := fun y => y.freeN r = true) (hrows nm _ hn) (fun _ _ h => h) (fun _ _ _ => rfl) fun v y hy hv => hT v y hy hv) id_nil
    · have hne : nm ≠ r := by rintro rfl; simp [ownUp] at hn
      rw [hsame nm hne] at hn
      exact hrel.tok8 nm _ _ hn hnn
    · have hx : st.sto.own nm ≠ none := by
        by_cases hne : nm = r
        · subst hne; rw [hr']; simp
        · rwa [hsame nm hne] at hn
      exact h.chg.new nm g c hx hg
theorem take_le {α : Type} {e : α → List AV} {d : α} {l : List α} {k : Nat} : ∀ i, i < 0 + k → AVleL (e (l.getD i d)) (e ((l.take k).getD i d)) := fun i hi => by
  have : (l.take k).getD i d = l.getD i d := by simp [List.getD, show i < k by omega]
  rw [this]
  exact .refl _
theorem take_len {α : Type} {l : List α} {k : Nat} (h : 0 + k ≤ l.length) : 0 + k = (l.take k).length := by simp; omega
theorem pw_nil {f g : Nat → List AV} : ∀ k, k < 0 → f k = g k := fun _ h => by omega
theorem pw_snoc {n : Nat} {f g : Nat → List AV} (h : ∀ k, k < n → f k = g k) (h' : f n = g n) : ∀ k, k < n + 1 → f k = g k := fun k hk => by
  by_cases hkn : k = n
  · subst hkn; exact h'
  · exact h k (by omega)
theorem pwl_nil {f g : Nat → List AV} : ∀ k, k < 0 → AVleL (f k) (g k) := fun _ h => by omega
theorem pwl_snoc {n : Nat} {f g : Nat → List AV} (h : ∀ k, k < n → AVleL (f k) (g k)) (h' : AVleL (f n) (g n)) : ∀ k, k < n + 1 → AVleL (f k) (g k) := fun k hk => by
  by_cases hkn : k = n
  · subst hkn; exact h'
  · exact h k (by omega)
theorem arrE_zero {α : Type} {keep : Nat → Bool} {e : α → List AV} {d : α} {z : List AV} {N sz : Nat} (hz : z.length = sz) (h : z = e d) (hk : AV.eraseAll keep z = z) : ∀ k, k < N → AVleL (AV.eraseAll keep ((((List.replicate N z).flatten).drop (k * sz)).take sz)) (e ((List.replicate N d).getD k d)) := fun k hk' => by
  have : (List.replicate N d).getD k d = d := by simp [List.getD, hk']
  rw [flat_rep z sz hz N k hk', this, hk, h]
  exact .refl _
-- rows lent: an element of a row that is a row itself
theorem lent_load {f : Nat → List AV} {i : Nat} {x : AV} : AVle ((putF f i 0 [x] i).getD 0 .any) x := by
  rw [putF_here]
  simpa using AVle.refl x
theorem lent_keep {keep : Nat → Bool} {f : Nat → List AV} {i k R m : Nat} (hf : ∀ j, AV.eraseAll keep (f j) = f j) (hk : keep R = true) : ∀ j, j < k → AVleL (AV.eraseAll keep (putF f i 0 [.vsl R m] j)) (putF f i 0 [.vsl R m] j) := fun j _ => by
  have h : AV.eraseAll keep (putF f i 0 [.vsl R m] j) = putF f i 0 [.vsl R m] j := by
    by_cases hj : j = i
    · subst hj
      rw [putF_here, eraseAll_append, eraseAll_append, eraseAll_take, eraseAll_drop, hf]
      simp [AV.eraseAll, AV.erase, hk]
    · rw [putF_else f _ hj, hf]
  rw [h]
  exact .refl _
theorem lent_put {α : Type} {enc : α → List AV} {d x : α} {l : List α} {i nm sz n : Nat} {g : Nat → List AV} (hf : ∀ a, AV.frwAll nm sz n g (enc a) = enc a) (h1 : ∀ a, (enc a).length = 1) (hx : enc x = [.slice sz n g .none]) :
    ∀ j, j < l.length → AVleL (AV.frwAll nm sz n g (putF (fun k => enc (l.getD k d)) i 0 [.vsl nm n] j)) (enc ((l.set i x).getD j d)) := fun j hl => by
  have h : AV.frwAll nm sz n g (putF (fun k => enc (l.getD k d)) i 0 [.vsl nm n] j) = enc ((l.set i x).getD j d) := by
    by_cases hj : j = i
    · subst hj
      have e1 : (l.set j x).getD j d = x := by simp [List.getD, hl]
      have e2 : (enc (l.getD j d)).drop (0 + [AV.vsl nm n].length) = [] := List.drop_eq_nil_of_le (by rw [h1]; exact Nat.le_refl _)
      have e3 : notB nm nm = false := by simp [notB]
      rw [putF_here, e1, e2, hx]
      simp [AV.frwAll, AV.frw, e3]
    · have e1 : (l.set i x).getD j d = l.getD j d := by simp [List.getD, Ne.symm hj]
      rw [putF_else _ _ hj, e1, hf]
  rw [h]
  exact .refl _
-- rows handed to guarded calls
section
variable {α : Type} {g : Bool} {a b : List α}
theorem bif_len : (bif g then a.length else b.length) = (bif g then a else b).length := by cases g <;> rfl
theorem bif_row {e : α → List AV} {d : α} {k : Nat} : (bif g then e (a.getD k d) else e (b.getD k d)) = e ((bif g then a else b).getD k d) := by cases g <;> rfl
theorem bif_was (h : g = true → b.length = a.length) : b.length = (bif g then a else b).length := by
  cases g with
  | false => rfl
  | true => exact h rfl
end
/-! ### Maps -/
/-- Entries of a kind, as the machine tells them. -/
abbrev mapE {V : Type} (f : V → AV) (l : List (Int × V)) : List (Int × AV) := l.map fun p => (p.1, f p.2)
section
variable {V : Type} {f : V → AV} {l : List (Int × V)} {r : List (Int × AV)} {k : Int}
theorem mget_mapE {z : V} (k : Int) : ∀ l : List (Int × V), mget (f z) (mapE f l) k = f (mget z l k)
  | [] => rfl
  | (a, b) :: l => by
    simp only [mapE, List.map_cons, mget]
    cases k == a with
    | true => rfl
    | false => exact mget_mapE k l
theorem mhas_mapE (k : Int) : ∀ l : List (Int × V), mhas (mapE f l) k = mhas l k
  | [] => rfl
  | (a, b) :: l => by
    simp only [mapE, List.map_cons, mhas]
    rw [← mhas_mapE k l]
theorem mset_mapE (k : Int) (v : V) : ∀ l : List (Int × V), mset (mapE f l) k (f v) = mapE f (mset l k v)
  | [] => rfl
  | (a, b) :: l => by
    simp only [mapE, List.map_cons, mset]
    cases k == a with
    | true => rfl
    | false =>
      simp only [cond_false, List.map_cons]
      exact congrArg _ (mset_mapE k v l)
theorem mget_le {z : V} {zz : AV} (hz : AVle zz (f z)) (hr : r = mapE f l) : AVle (mget zz r k) (f (mget z l k)) := by
  subst hr
  induction l with
  | nil => exact hz
  | cons p l ih =>
    obtain ⟨a, b⟩ := p
    simp only [mapE, List.map_cons, mget]
    cases k == a with
    | true => exact AVle.refl _
    | false => exact ih
theorem mlook_le {z : V} {zz : AV} (hz : AVle zz (f z)) (hr : r = mapE f l) : AVle (.tuple [mget zz r k, .bool (mhas r k)]) (.tuple [f (mget z l k), .bool (mhas l k)]) := by
  have h := mget_le (k := k) hz hr
  subst hr
  rw [mhas_mapE]
  exact AVle.tuple (.cons h (.cons (AVle.refl _) .nil))
theorem mlen_le (hr : r = mapE f l) : AVle (.int .i64 (r.length : Int)) (.int .i64 (l.length : Int)) := by
  subst hr
  rw [mapE, List.length_map]
  exact AVle.refl _
theorem mset_eq {v : V} {x : AV} (hx : x = f v) (hr : r = mapE f l) : mset r k x = mapE f (mset l k v) := by
  subst hr hx
  exact mset_mapE k v l
theorem bif_mapE {g : Bool} {a b : List (Int × V)} {ra rb : List (Int × AV)} (ha : ra = mapE f a) (hb : rb = mapE f b) : (bif g then ra else rb) = mapE f (bif g then a else b) := by
  subst ha hb
  cases g <;> rfl
theorem bif_mapE1 {g : Bool} {a : List (Int × V)} {ra rb : List (Int × AV)} (ha : ra = mapE f a) (hb : rb = mapE f a) : (bif g then ra else rb) = mapE f a := by
  subst ha hb
  cases g <;> rfl
end
theorem mapE_flat {V : Type} {f : V → AV} {l : List (Int × V)} (h : ∀ v, (f v).flat = true) : ∀ q ∈ mapE f l, q.2.flat = true := fun q hq => by
  obtain ⟨p, _, rfl⟩ := List.mem_map.1 hq
  exact h p.2
/-- A row told by value, behind a write. -/
theorem view_le {α : Type} {sz n : Nat} {raw : Nat → List AV} {e : α → List AV} {d : α} {l : List α} (hn : n = l.length) (h : ∀ k, k < n → raw k = e (l.getD k d)) (hs : ∀ a, AV.stripAll (e a) = e a) :
    AVle (.slice sz n (fun i => AV.stripAll (raw i)) .none) (AV.list sz e d l .none) :=
  AVle.slice hn fun i hi => by rw [h i hi, hs]
/-- An object told otherwise. -/
theorem le_obj {Γ : Env} {st : St} {nm : Nat} {x : AObj} (y : AObj) (hn : look st.own nm = some (.obj x)) (hxy : ∀ I own θ w, ObjAt I own θ w nm x → ObjAt I own θ w nm y) (hlt : Nat.blt nm famB = true := by rfl) :
    Le Γ st ⟨st.tmps, putA st.own nm (.obj y), st.fam⟩ := by
  intro I θ a w h
  have hlt : nm < famB := by simpa [Nat.blt_eq] using hlt
  have hn : st.sto.own nm = some (.obj x) := (famOwn_lt hlt).trans hn
  have hown : (⟨st.tmps, putA st.own nm (.obj y), st.fam⟩ : St).sto.own = ownUp st.sto.own nm (.obj y) := by
    funext k
    show famOwn (putA st.own nm _) _ k = _
    rw [famOwn_putA hlt]
    simp only [ownUp]
    by_cases hk : nm = k
    · subst hk; simp
    · simp [hk, Ne.symm hk]; rfl
  have hle : ∀ k o, st.sto.own k = some o → ∃ o', ownUp st.sto.own nm (.obj y) k = some o' ∧ OwnLe o (θ k) o' (θ k) := fun k o ho => by
    by_cases hk : k = nm
    · subst hk
      rw [hn] at ho
      obtain rfl := Option.some.inj ho
      exact ⟨.obj y, by simp [ownUp], rfl⟩
    · exact ⟨o, by simp [ownUp, hk, ho], OwnLe.refl _ _⟩
  have hrel := h.chg.rel
  have hmono : ∀ v z, Rep I st.sto.own θ w v z → Rep I (ownUp st.sto.own nm (.obj y)) θ w v z := fun v z hz => hz.mono (fun _ _ h => h) (fun _ _ _ => rfl) hle
  have k : Chg st.sto.own θ I w (ownUp st.sto.own nm (.obj y)) θ I w := by
    refine { imm := fun _ _ h => h, cell := fun _ _ _ => rfl, le := hle, rel := ?_, valid := h.chg.valid, os := rfl, tape := rfl, output := rfl, grow := Nat.le_refl _, frame := fun _ _ _ => rfl, new := fun k g c ho hg => ?_, immNew := fun b o h => .inl h }
    · refine ownRel_upd hrel (· = nm) hmono (fun k hne => ⟨by simp [ownUp, hne], rfl⟩) (fun k g c hne ho hg => ⟨rfl, fun j h => h⟩) ?_ ?_ ?_ (fun _ _ h h' => h.trans h'.symm) (hobj := ?_)
      · rintro k e' cells rfl ho; simp [ownUp] at ho
      · rintro k sz e' m rfl ho; simp [ownUp] at ho
      · rintro k k' g c c' rfl hne _ ho' hg hg'
        exact hne (hrel.inj k' k _ _ _ ho' (by simp [hn]) hg' hg)
      · rintro k z rfl ho
        simp only [ownUp, if_true, Option.some.injEq, Own.obj.injEq] at ho
        subst ho
        exact obj_map (hxy _ _ _ _ (hrel.obj k x hn)) rfl (fun _ _ _ => rfl) (fun _ _ _ _ h => h) (fun _ hh => hh.mono hmono) id_nil
    · by_cases hk : k = nm
      · subst hk; exact .inr ⟨k, c, by simp [hn], hg⟩
      · exact .inr ⟨k, c, by simpa [ownUp, hk] using ho, hg⟩
  exact ⟨I, θ, h.size, h.defers, fun t' => by rw [hown]; exact (h.slots t').chg k, by rw [hown]; exact h.chg.trans k⟩
theorem objAt_nn {I : Nat → Nat → Prop} {own : Nat → Option Own} {θ : Nat → Option (Nat × Nat)} {w : World} {nm : Nat} {nn : Bool} {k : IntKind} {l : List (Int × AV)} (h : ObjAt I own θ w nm (.map nn k l)) : ObjAt I own θ w nm (.map false k l) := by
  rcases h with ⟨g, c, o, h1, h2, h3, h4⟩ | ⟨h1, k', h2⟩
  · refine .inl ⟨g, c, o, h1, h2, ?_, h4⟩
    cases h3 with
    | map es nn k l hs hr => exact .map es false k l hs hr
  · simp only [AObj.map.injEq] at h2
    obtain ⟨rfl, rfl, rfl⟩ := h2
    exact .inr ⟨h1, k, rfl⟩
/-- Nothing, as a map. -/
theorem le_nilm {Γ : Env} {st : St} {t nm : Nat} (k : IntKind) (hs : st.get t = .nilm) (hn : look st.own nm = none) (hlt : Nat.blt nm famB = true := by rfl) :
    Le Γ st ⟨putA st.tmps t (.omap nm), putA st.own nm (.obj (.map false k [])), st.fam⟩ := by
  intro I θ a w h
  have hlt : nm < famB := by simpa [Nat.blt_eq] using hlt
  have hn : st.sto.own nm = none := (famOwn_lt hlt).trans hn
  have hown : (⟨putA st.tmps t (.omap nm), putA st.own nm (.obj (.map false k [])), st.fam⟩ : St).sto.own = ownUp st.sto.own nm (.obj (.map false k [])) := by
    funext k
    show famOwn (putA st.own nm _) _ k = _
    rw [famOwn_putA hlt]
    simp only [ownUp]
    by_cases hk : nm = k
    · subst hk; simp
    · simp [hk, Ne.symm hk]; rfl
  have hle : ∀ j o, st.sto.own j = some o → ∃ o', ownUp st.sto.own nm (.obj (.map false k [])) j = some o' ∧ OwnLe o (θ j) o' (thUp θ nm none j) := fun j o ho => by
    have hne : j ≠ nm := by rintro rfl; rw [hn] at ho; cases ho
    exact ⟨o, by simp [ownUp, hne, ho], by simp [thUp, hne, OwnLe.refl]⟩
  have hrel := h.chg.rel
  have hmono : ∀ v z, Rep I st.sto.own θ w v z → Rep I (ownUp st.sto.own nm (.obj (.map false k []))) (thUp θ nm none) w v z := fun v z hz => hz.mono (fun _ _ h => h) (fun _ _ _ => rfl) hle
  have kk : Chg st.sto.own θ I w (ownUp st.sto.own nm (.obj (.map false k []))) (thUp θ nm none) I w := by
    refine { imm := fun _ _ h => h, cell := fun _ _ _ => rfl, le := hle, rel := ?_, valid := h.chg.valid, os := rfl, tape := rfl, output := rfl, grow := Nat.le_refl _, frame := fun _ _ _ => rfl, new := fun j g c ho hg => ?_, immNew := fun b o h => .inl h }
    · refine ownRel_upd hrel (· = nm) hmono (fun j hne => ⟨by simp [ownUp, hne], by simp [thUp, hne]⟩) (fun j g c hne ho hg => ⟨rfl, fun j h => h⟩) ?_ ?_ ?_ (fun _ _ h h' => h.trans h'.symm) (hobj := ?_)
      · rintro j e' cells rfl ho; simp [ownUp] at ho
      · rintro j sz e' m rfl ho; simp [ownUp] at ho
      · rintro j k' g c c' rfl hne _ ho' hg hg'
        simp [thUp] at hg
      · rintro j z rfl ho
        simp only [ownUp, if_true, Option.some.injEq, Own.obj.injEq] at ho
        subst ho
        exact .inr ⟨by simp [thUp], k, rfl⟩
    · by_cases hk : j = nm
      · subst hk; simp [thUp] at hg
      · exact .inr ⟨j, c, by simpa [ownUp, hk] using ho, by simpa [thUp, hk] using hg⟩
  refine ⟨I, thUp θ nm none, h.size, h.defers, fun t' => ?_, ?_⟩
  · rw [hown]
    have hget : (⟨putA st.tmps t (.omap nm), putA st.own nm (.obj (.map false k [])), st.fam⟩ : St).sto.tmp t' = if t = t' then .omap nm else st.get t' := by
      show (match look (putA st.tmps t _) t' with | some x => x | none => .any) = _
      rw [look_putA]
      by_cases hk : t = t'
      · simp [hk]
      · simp [hk]; rfl
    rw [hget]
    split
    · rename_i htt
      subst htt
      have hr := h.slots t
      have hr' : Rep I st.sto.own θ w (a.tmps.getD t undef) .nilm := by rw [← hs]; exact hr
      rw [hr'.nilm_inv]
      have := Rep.omap (I := I) (own := ownUp st.sto.own nm (.obj (.map false k []))) (θ := thUp θ nm none) (w := w) nm (.map false k []) (by simp [ownUp])
      simpa [thUp] using this
    · exact (h.slots t').chg kk
  · rw [hown]
    exact h.chg.trans kk
end Go.Proofs.Ytlkcijaejngomaa
