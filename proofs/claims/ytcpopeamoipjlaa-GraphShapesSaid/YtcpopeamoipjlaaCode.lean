/-
  Rules for code: one behind the other, tests, blocks, loops, jumps; and what a function answers.
-/
import Derived.Test.YtcpopeamoipjlaaRegion
namespace Go.Proofs.Ytcpopeamoipjlaa
open Go Go.RowKit

/-! ### Loops, as functions -/
inductive LR (S X : Type) where
  | next (s : S)
  | done (x : X)

inductive LRuns {S X : Type} (f : S → Option (LR S X)) : S → X → Nat → Prop
  | done {s : S} {x : X} (h : f s = some (.done x)) : LRuns f s x 0
  | next {s s' : S} {x : X} {n : Nat} (h : f s = some (.next s')) (t : LRuns f s' x n) : LRuns f s x (n + 1)

theorem LRuns.unique {S X : Type} {f : S → Option (LR S X)} {s : S} {x y : X} {n m : Nat} (h : LRuns f s x n) (k : LRuns f s y m) : x = y := by
  induction h generalizing m with
  | done h => cases k with
    | done h' => rw [h] at h'; cases h'; rfl
    | next h' _ => rw [h] at h'; cases h'
  | next h _ ih => cases k with
    | done h' => rw [h] at h'; cases h'
    | next h' t' => rw [h] at h'; cases h'; exact ih t'

open Classical in
/-- Round and round till it is done; none, if it never is, or comes to nothing. -/
noncomputable def loopO {S X : Type} (f : S → Option (LR S X)) (s : S) : Option X :=
  if h : ∃ x n, LRuns f s x n then some h.choose else none

theorem loopO_iff {S X : Type} {f : S → Option (LR S X)} {s : S} {x : X} : loopO f s = some x ↔ ∃ n, LRuns f s x n := by
  unfold loopO
  constructor
  · intro h
    split at h
    · rename_i hx
      obtain ⟨n, hn⟩ := hx.choose_spec
      simp only [Option.some.injEq] at h
      subst h
      exact ⟨n, hn⟩
    · cases h
  · rintro ⟨n, hn⟩
    have hx : ∃ x n, LRuns f s x n := ⟨x, n, hn⟩
    rw [dif_pos hx]
    obtain ⟨m, hm⟩ := hx.choose_spec
    rw [hm.unique hn]
theorem loopO_done {S X : Type} {f : S → Option (LR S X)} {s : S} {x : X} (h : f s = some (.done x)) : loopO f s = some x := loopO_iff.2 ⟨0, .done h⟩
theorem loopO_next {S X : Type} {f : S → Option (LR S X)} {s s' : S} (h : f s = some (.next s')) : loopO f s = loopO f s' := by
  apply Option.ext
  intro x
  constructor
  · intro hx
    obtain ⟨n, hn⟩ := loopO_iff.1 hx
    cases hn with
    | done h' => rw [h] at h'; cases h'
    | next h' t => rw [h] at h'; cases h'; exact loopO_iff.2 ⟨_, t⟩
  · intro hx
    obtain ⟨n, hn⟩ := loopO_iff.1 hx
    exact loopO_iff.2 ⟨_, .next h hn⟩
theorem loopO_none {S X : Type} {f : S → Option (LR S X)} {s : S} (h : f s = none) : loopO f s = none := by
  cases hx : loopO f s with
  | none => rfl
  | some x =>
    obtain ⟨n, hn⟩ := loopO_iff.1 hx
    cases hn with
    | done h' => rw [h] at h'; cases h'
    | next h' t => rw [h] at h'; cases h'

/-- What is asked for must hold. -/
def chk {R : Type} (p : Prop) [Decidable p] (k : Option R) : Option R := if p then k else none
theorem chk_some {R : Type} {p : Prop} [Decidable p] {k : Option R} {r : R} (h : chk p k = some r) : p ∧ k = some r := by
  unfold chk at h
  split at h
  · exact ⟨‹p›, h⟩
  · cases h
theorem chk_pos {R : Type} {p : Prop} [Decidable p] {k : Option R} (h : p) : chk p k = k := by simp [chk, h]
/-- From labels to labels, till it is done. -/
noncomputable def scopeO {S X : Type} (f0 : Option (LR S X)) (f : S → Option (LR S X)) : Option X := f0.bind fun | .next s => loopO f s | .done x => some x
theorem bind_some {A R : Type} {x : Option A} {k : A → Option R} {r : R} (h : x.bind k = some r) : ∃ a, x = some a ∧ k a = some r := Option.bind_eq_some_iff.1 h

section
variable {P : Program} {Γ : Env}

/-! ### From store to store without a step -/
def Le (Γ : Env) (st st' : St) : Prop := ∀ (I : Nat → Nat → Prop) (θ : Nat → Option (Nat × Nat)) (a : Act) (w : World), Rel Γ st.sto I θ a w → ∃ I' θ', Rel Γ st'.sto I' θ' a w
theorem Le.refl (Γ : Env) (st : St) : Le Γ st st := fun I θ _ _ h => ⟨I, θ, h⟩
theorem Le.trans {st st' st'' : St} (h : Le Γ st st') (k : Le Γ st' st'') : Le Γ st st'' := fun I θ a w hr => let ⟨I', θ', hr'⟩ := h I θ a w hr; k I' θ' a w hr'

theorem AVle.refl (x : AV) : AVle x x := fun _ _ _ _ _ h => h
theorem AVle.any (x : AV) : AVle x .any := fun _ _ _ _ v _ => .val _ _ (.any v)
theorem RepV.slice_ext {I : Nat → Nat → Prop} {w : World} {v : Value} {sz n : Nat} {f g : Nat → List AV} (h : RepV I w v (.slice sz n f .none)) (hf : ∀ i, i < n → f i = g i) : RepV I w v (.slice sz n g .none) := by
  obtain ⟨_, ad, cap, us, rfl, hcap, hmax, hz, hn, h1, hl, hr⟩ := h.slice_inv
  exact .slice ad n cap sz g us hcap hmax hz hn h1 (fun i hi => by rw [← hf i hi]; exact hl i hi) (fun i c hi hc => by rw [← hf i hi]; exact hr i c hi hc)
/-- The same elements. -/
theorem AVle.slice {sz n n' : Nat} {f g : Nat → List AV} {t : Tag} (hn : n = n') (hf : ∀ i, i < n → f i = g i) : AVle (.slice sz n f t) (.slice sz n' g t) := by
  subst hn
  intro I own θ w v h
  cases h with
  | val v x h => obtain ⟨rfl, _⟩ := h.slice_inv; exact .val _ _ (h.slice_ext hf)
  | exact a n sz f h => exact .exact a n sz g (h.slice_ext hf)
  | own nm sz e m a n cap f ho hm hv h => exact .own nm sz e m a n cap g ho hm hv (h.slice_ext hf)
  | fam b i sz e m a n cap f hi ho hm hv h => exact .fam b i sz e m a n cap g hi ho hm hv (h.slice_ext hf)
/-- The tag forgotten. -/
theorem AVle.untag {sz n : Nat} {f : Nat → List AV} {t : Tag} : AVle (.slice sz n f t) (.slice sz n f .none) := fun _ _ _ _ _ h => .val _ _ h.slice_val
/-- Without elements any size serves. -/
theorem AVle.empty {sz sz' n : Nat} {f g : Nat → List AV} {t : Tag} (hn : n = 0) (ht : ∀ nm, t ≠ .own nm) (ht' : ∀ b i, t ≠ .fam b i := by intro _ _ h; cases h) : AVle (.slice sz n f t) (.slice sz' n g t) := by
  subst hn
  intro I own θ w v h
  have key : ∀ v, RepV I w v (.slice sz 0 f .none) → RepV I w v (.slice sz' 0 g .none) := fun v h => by
    obtain ⟨_, ad, cap, us, rfl, hcap, hmax, hz, hn, h1, hl, hr⟩ := h.slice_inv
    exact .slice ad 0 cap sz' g us hcap hmax (fun h => by omega) hn (fun j hj => by omega) (fun i hi => by omega) (fun i c hi => by omega)
  cases h with
  | val v x h => obtain ⟨rfl, _⟩ := h.slice_inv; exact .val _ _ (key _ h)
  | exact a n sz f h => exact .exact a _ sz' g (key _ h)
  | own nm => exact (ht nm rfl).elim
  | fam b i => exact (ht' b i rfl).elim

inductive AVleL : List AV → List AV → Prop
  | nil : AVleL [] []
  | cons {x y : AV} {l m : List AV} (h : AVle x y) (t : AVleL l m) : AVleL (x :: l) (y :: m)
theorem AVleL.length {l m : List AV} (h : AVleL l m) : l.length = m.length := by induction h with | nil => rfl | cons _ _ ih => simp [ih]
theorem AVleL.get {l m : List AV} (h : AVleL l m) (j : Nat) : AVle (l.getD j .any) (m.getD j .any) := by
  induction h generalizing j with
  | nil => exact .refl _
  | cons h _ ih => cases j with
    | zero => simpa using h
    | succ j => simpa using ih j
theorem AVleL.refl (l : List AV) : AVleL l l := by induction l with | nil => exact .nil | cons x l ih => exact .cons (.refl x) ih
theorem AVle.agg {l m : List AV} (h : AVleL l m) : AVle (.agg l) (.agg m) := by
  intro I own θ w v hv
  obtain ⟨vs, rfl, hl, h1, hr⟩ := hv.agg_inv
  exact .agg vs m (by rw [hl, h.length]) (fun j hj => h1 j (by rw [h.length]; exact hj)) (fun j hj => h.get j I own θ w _ (hr j (by rw [h.length]; exact hj)))
theorem AVle.tuple {l m : List AV} (h : AVleL l m) : AVle (.tuple l) (.tuple m) := by
  intro I own θ w v hv
  obtain ⟨vs, rfl, hl, hr⟩ := hv.tuple_inv
  exact .tuple vs m (by rw [hl, h.length]) (fun j hj => h.get j I own θ w _ (hr j (by rw [h.length]; exact hj)))

inductive TmpsLe : List (Nat × AV) → List (Nat × AV) → Prop
  | nil : TmpsLe [] []
  | cons {t : Nat} {x y : AV} {l m : List (Nat × AV)} (h : AVle x y) (k : TmpsLe l m) : TmpsLe ((t, x) :: l) ((t, y) :: m)
inductive OwnsLe : List (Nat × Own) → List (Nat × Own) → Prop
  | nil : OwnsLe [] []
  | row {n : Nat} {e : TypeId} {x y : List AV} {l m : List (Nat × Own)} (h : AVleL x y) (k : OwnsLe l m) : OwnsLe ((n, .row e x) :: l) ((n, .row e y) :: m)
  | same {n : Nat} {o : Own} {l m : List (Nat × Own)} (k : OwnsLe l m) : OwnsLe ((n, o) :: l) ((n, o) :: m)
  | arr {n sz : Nat} {e : TypeId} {k : Nat} {f g : Nat → List AV} {l m : List (Nat × Own)} (h : ∀ i, i < k → AVleL (f i) (g i)) (t : OwnsLe l m) : OwnsLe ((n, .arr sz e k f) :: l) ((n, .arr sz e k g) :: m)
theorem TmpsLe.refl (l : List (Nat × AV)) : TmpsLe l l := by induction l with | nil => exact .nil | cons x l ih => exact .cons (.refl _) ih
theorem OwnsLe.refl (l : List (Nat × Own)) : OwnsLe l l := by induction l with | nil => exact .nil | cons x l ih => exact .same ih
theorem TmpsLe.get {l m : List (Nat × AV)} (h : TmpsLe l m) (t : Nat) : AVle (match look l t with | some x => x | none => .any) (match look m t with | some x => x | none => .any) := by
  induction h with
  | nil => exact .refl _
  | @cons t' x y l m h _ ih =>
    simp only [look]
    cases Nat.beq t' t with
    | true => exact h
    | false => exact ih
theorem OwnsLe.get {l m : List (Nat × Own)} (h : OwnsLe l m) (n : Nat) : (∀ o, look l n = some o → ∃ o', look m n = some o' ∧ (o = o' ∨ (∃ e x y, o = .row e x ∧ o' = .row e y ∧ AVleL x y) ∨ ∃ sz e k f g, o = .arr sz e k f ∧ o' = .arr sz e k g ∧ ∀ i, i < k → AVleL (f i) (g i))) ∧ (∀ o', look m n = some o' → ∃ o, look l n = some o) := by
  induction h with
  | nil => exact ⟨(fun o h => by cases h), (fun o h => by cases h)⟩
  | @row n' e x y l m h _ ih =>
    simp only [look]
    cases Nat.beq n' n with
    | true =>
      refine ⟨fun o ho => ?_, fun o ho => ⟨_, rfl⟩⟩
      simp only [cond_true, Option.some.injEq] at ho
      subst ho
      exact ⟨_, rfl, .inr (.inl ⟨e, x, y, rfl, rfl, h⟩)⟩
    | false => exact ih
  | @arr n' sz e k f g l m h _ ih =>
    simp only [look]
    cases Nat.beq n' n with
    | true =>
      refine ⟨fun o ho => ?_, fun o ho => ⟨_, rfl⟩⟩
      simp only [cond_true, Option.some.injEq] at ho
      subst ho
      exact ⟨_, rfl, .inr (.inr ⟨sz, e, k, f, g, rfl, rfl, h⟩)⟩
    | false => exact ih
  | @same n' o l m _ ih =>
    simp only [look]
    cases Nat.beq n' n with
    | true => exact ⟨fun o ho => ⟨o, ho, .inl rfl⟩, fun o ho => ⟨o, ho⟩⟩
    | false => exact ih

theorem le_of {st st' : St} (ht : TmpsLe st.tmps st'.tmps) (ho : OwnsLe st.own st'.own) (hfam : st'.fam = st.fam := by rfl) : Le Γ st st' := by
  intro I θ a w h
  have hg1 : ∀ nm o, st.sto.own nm = some o → ∃ o', st'.sto.own nm = some o' ∧ (o = o' ∨ (∃ e x y, o = .row e x ∧ o' = .row e y ∧ AVleL x y) ∨ ∃ sz e k f g, o = .arr sz e k f ∧ o' = .arr sz e k g ∧ ∀ i, i < k → AVleL (f i) (g i)) := fun nm o hn => by
    by_cases hlt : nm < famB
    · have hn' : look st.own nm = some o := by rw [← hn]; exact (famOwn_lt hlt).symm
      obtain ⟨o', h1, h2⟩ := (ho.get nm).1 o hn'
      exact ⟨o', (famOwn_lt hlt).trans h1, h2⟩
    · refine ⟨o, ?_, .inl rfl⟩
      rw [← hn]
      show famOwn _ _ nm = famOwn _ _ nm
      rw [famOwn_ge hlt, famOwn_ge hlt, hfam]
  have hg2 : ∀ nm o', st'.sto.own nm = some o' → ∃ o, st.sto.own nm = some o := fun nm o' hn => by
    by_cases hlt : nm < famB
    · have hn' : look st'.own nm = some o' := by rw [← hn]; exact (famOwn_lt hlt).symm
      obtain ⟨o, h1⟩ := (ho.get nm).2 o' hn'
      exact ⟨o, (famOwn_lt hlt).trans h1⟩
    · refine ⟨o', ?_⟩
      rw [← hn]
      show famOwn _ _ nm = famOwn _ _ nm
      rw [famOwn_ge hlt, famOwn_ge hlt, hfam]
  have hmono : ∀ v x, Rep I st.sto.own θ w v x → Rep I st'.sto.own θ w v x := fun v x h => h.mono (fun _ _ h => h) (fun _ _ _ => rfl) fun nm o hn => by
    obtain ⟨o', h1, h2⟩ := hg1 nm o hn
    refine ⟨o', h1, ?_⟩
    rcases h2 with rfl | ⟨e1, x, y, rfl, rfl, _⟩ | ⟨sz, e, k, f, g, rfl, rfl, _⟩
    · exact .refl _ _
    · exact ⟨rfl, rfl⟩
    · exact ⟨rfl, rfl, Nat.le_refl _, fun _ => rfl⟩
  refine ⟨I, θ, h.size, h.defers, fun t => hmono _ _ (ht.get t I _ θ w _ (h.slots t)), { h.chg with le := fun nm o hn => ?_, rel := ⟨fun nm e0 cells hn => ?_, fun nm sz e m hn => ?_, fun nm nm' g c c' hn hn' => ?_, fun nm sz e m f hn => ?_, fun nm x hn => ?_, fun nm sz m hn hnn => ?_⟩, new := fun nm g c hn hg => ?_ }⟩
  rotate_left 6
  · obtain ⟨o, h1⟩ := hg2 nm _ hn
    obtain ⟨o', h2, h3⟩ := hg1 nm o h1
    have e' : st'.sto.own nm = some o' := h2
    rw [e'] at hn
    obtain rfl := Option.some.inj hn
    rcases h3 with rfl | ⟨e1, x, y, rfl, h5, h6⟩ | ⟨sz, e, k, f, g, rfl, h5, h6⟩
    · exact h.chg.rel.tok8 nm _ _ h1 hnn
    · cases h5
    · cases h5
  rotate_right 6
  rotate_left 5
  · obtain ⟨o, h1⟩ := hg2 nm _ hn
    obtain ⟨o', h2, h3⟩ := hg1 nm o h1
    have e' : st'.sto.own nm = some o' := h2
    rw [e'] at hn
    obtain rfl := Option.some.inj hn
    rcases h3 with rfl | ⟨e1, x, y, rfl, h5, h6⟩ | ⟨sz, e, k, f, g, rfl, h5, h6⟩
    · exact h.chg.rel.obj nm _ h1
    · cases h5
    · cases h5
  rotate_left 1
  · obtain ⟨o', h1, h2⟩ := h.chg.le nm o hn
    obtain ⟨o'', h3, h4⟩ := hg1 nm o' h1
    refine ⟨o'', h3, ?_⟩
    rcases h4 with rfl | ⟨e1, x, y, rfl, rfl, _⟩ | ⟨sz, e, k, f, g, rfl, rfl, _⟩
    · exact h2
    · cases o <;> simp_all [OwnLe]
    · cases o <;> simp_all [OwnLe]
  · obtain ⟨o, h1⟩ := hg2 nm _ hn
    obtain ⟨o', h2, h3⟩ := hg1 nm o h1
    have e : st'.sto.own nm = some o' := h2
    rw [e] at hn
    obtain rfl := Option.some.inj hn
    rcases h3 with rfl | ⟨e1, x, y, rfl, h5, h6⟩ | ⟨sz, e, k, f, g, rfl, h5, h6⟩
    rotate_left 2
    · cases h5
    · obtain ⟨g, c, vs, r1, r2, r3, r4, r5, r6⟩ := h.chg.rel.row nm _ _ h1
      exact ⟨g, c, vs, r1, r2, r3, r4, fun j hj => hmono _ _ (r5 j hj), r6⟩
    · simp only [Own.row.injEq] at h5
      obtain ⟨rfl, rfl⟩ := h5
      obtain ⟨g, c, vs, r1, r2, r3, r4, r5, r6⟩ := h.chg.rel.row nm _ _ h1
      exact ⟨g, c, vs, r1, r2, by rw [r3, h6.length], fun j hj => r4 j (by rw [h6.length]; exact hj), fun j hj => hmono _ _ (h6.get j I _ θ w _ (r5 j (by rw [h6.length]; exact hj))), r6⟩
  · obtain ⟨o, h1⟩ := hg2 nm _ hn
    obtain ⟨o', h2, h3⟩ := hg1 nm o h1
    have e' : st'.sto.own nm = some o' := h2
    rw [e'] at hn
    obtain rfl := Option.some.inj hn
    rcases h3 with rfl | ⟨e1, x, y, rfl, h5, h6⟩ | ⟨sz, e, k, f, g, rfl, h5, h6⟩
    · exact h.chg.rel.tok nm _ _ _ h1
    · cases h5
    · cases h5
  · have hx : ∀ nm, st'.sto.own nm ≠ none → st.sto.own nm ≠ none := fun nm hn => by
      cases hs : st'.sto.own nm with
      | none => exact (hn hs).elim
      | some o => obtain ⟨o', h1⟩ := hg2 nm _ hs; have : st.sto.own nm = some o' := h1; simp [this]
    exact h.chg.rel.inj nm nm' g c c' (hx nm hn) (hx nm' hn')
  · obtain ⟨o, h1⟩ := hg2 nm _ hn
    obtain ⟨o', h2, h3⟩ := hg1 nm o h1
    have e' : st'.sto.own nm = some o' := h2
    rw [e'] at hn
    obtain rfl := Option.some.inj hn
    rcases h3 with rfl | ⟨e1, x, y, rfl, h5, h6⟩ | ⟨sz', e2, k, f2, g, rfl, h5, h6⟩
    · exact arr_map (h.chg.rel.arr nm _ _ _ _ h1) rfl (fun _ _ _ => rfl) (fun _ _ _ _ h => h) (fun _ _ => rfl) (fun v i j _ _ hv => hmono _ _ hv)
    · cases h5
    · simp only [Own.arr.injEq] at h5
      obtain ⟨rfl, rfl, rfl, rfl⟩ := h5
      exact arr_map (h.chg.rel.arr nm _ _ _ _ h1) rfl (fun _ _ _ => rfl) (fun _ _ _ _ h => h) (fun i hi => (h6 i hi).length.symm) (fun v i j hi _ hv => hmono _ _ ((h6 i hi).get j I _ θ w v hv))
  · refine h.chg.new nm g c ?_ hg
    cases hs : st'.sto.own nm with
    | none => exact (hn hs).elim
    | some o => obtain ⟨o', h1⟩ := hg2 nm _ hs; have : st.sto.own nm = some o' := h1; simp [this]

/-- Less is told. -/
theorem le_restrict {st : St} (live names : List Nat) (hn : ∀ nm, Γ.own0 nm ≠ none → nm ∈ names) : Le Γ st (restrict live names st) := fun I θ _ _ h => ⟨I, θ, rel_restrict h hn⟩

/-- The same for a cell of a row. -/
theorem le_tag_cell {st : St} {r j nm sz sz' n : Nat} {e0 : TypeId} {f : Nat → List AV} {cells : List AV} (g : Nat → List AV) (e : TypeId) (hr : look st.own r = some (.row e0 cells)) (hs : cells.getD j .any = .slice sz n f .exact) (hj : j < cells.length) (hn : look st.own nm = none) (hz : (sz = sz' ∧ f = g) ∨ n = 0) (h8 : e = tokU8 → n = 0) (hlt : Nat.blt nm famB = true := by rfl) (hltr : Nat.blt r famB = true := by rfl) :
    Le Γ st ⟨st.tmps, putA (putA st.own r (.row e0 (cells.set j (.slice sz' n g (.own nm))))) nm (.tok sz' e n), st.fam⟩ := by
  intro I θ a w h
  have hlt : nm < famB := by simpa [Nat.blt_eq] using hlt
  have hltr : r < famB := by simpa [Nat.blt_eq] using hltr
  have hn : st.sto.own nm = none := (famOwn_lt hlt).trans hn
  have hr : st.sto.own r = some (.row e0 cells) := (famOwn_lt hltr).trans hr
  have hne : r ≠ nm := by rintro rfl; rw [hr] at hn; cases hn
  let own' : Nat → Option Own := fun k => if k = nm then some (.tok sz' e n) else if k = r then some (.row e0 (cells.set j (.slice sz' n g (.own nm)))) else st.sto.own k
  have hown : (⟨st.tmps, putA (putA st.own r (.row e0 (cells.set j (.slice sz' n g (.own nm))))) nm (.tok sz' e n), st.fam⟩ : St).sto.own = own' := by
    funext k
    show famOwn (putA (putA st.own r _) nm _) _ k = _
    rw [famOwn_putA hlt, famOwn_putA hltr]
    simp only [own', eq_comm (a := nm), eq_comm (a := r)]
    rfl
  have hle : ∀ nm' o, st.sto.own nm' = some o → ∃ o', own' nm' = some o' ∧ OwnLe o (θ nm') o' (thUp θ nm none nm') := fun nm' o ho => by
    have h1 : nm' ≠ nm := by rintro rfl; have : st.sto.own nm' = some o := ho; rw [hn] at this; cases this
    by_cases h2 : nm' = r
    · subst h2
      have : st.sto.own nm' = some o := ho
      rw [hr] at this
      obtain rfl := Option.some.inj this
      exact ⟨.row e0 (cells.set j (.slice sz' n g (.own nm))), by simp [own', h1], by simp [thUp, h1, OwnLe]⟩
    · exact ⟨o, by simp [own', h1, h2, ho], by simp [thUp, h1, OwnLe.refl]⟩
  have hmono : ∀ v x, Rep I st.sto.own θ w v x → Rep I own' (thUp θ nm none) w v x := fun v x h => h.mono (fun _ _ h => h) (fun _ _ _ => rfl) hle
  have hrel := h.chg.rel
  have k : Chg st.sto.own θ I w own' (thUp θ nm none) I w := by
    refine { imm := fun _ _ h => h, cell := fun _ _ _ => rfl, le := hle, rel := ?_, valid := h.chg.valid, os := rfl, tape := rfl, output := rfl, grow := Nat.le_refl _, frame := fun _ _ _ => rfl, new := fun nm' g' c ho hg => ?_, immNew := fun _ _ h => .inl h }
    · refine ⟨fun nm' e2 cells' ho => ?_, fun nm' s' e' m ho g' c hg => ?_, fun n1 n2 g' c c' ho ho' hg hg' => ?_, fun nm' s' e' m f' ho => ?_, fun nm' x' ho => ?_, fun nm' s' m ho hnn => ?_⟩
      rotate_left 5
      · by_cases h1 : nm' = nm
        · simp only [own', h1, if_true, Option.some.injEq, Own.tok.injEq] at ho
          obtain ⟨rfl, he, rfl⟩ := ho
          exact h8 he
        · have h2 : nm' ≠ r := by rintro rfl; simp [own', h1] at ho
          simp only [own', h1, h2, if_false] at ho
          simp only [thUp, h1, if_false] at hnn
          exact hrel.tok8 nm' _ _ ho hnn
      · by_cases h1 : nm' = nm
        · simp [own', h1] at ho
        · by_cases h2 : nm' = r
          · subst h2
            simp only [own', h1, if_false, if_true, Option.some.injEq, Own.row.injEq] at ho
            obtain ⟨rfl, rfl⟩ := ho
            obtain ⟨g', c, vs, r1, r2, r3, r4, r5, r6⟩ := hrel.row nm' _ cells hr
            refine ⟨g', c, vs, by simpa [thUp, h1] using r1, r2, by simpa using r3, fun j' hj' => r4 j' (by simpa using hj'), fun j' hj' => ?_, r6⟩
            have hj'' : j' < cells.length := by simpa using hj'
            by_cases hjj : j' = j
            · subst hjj
              have e1 : (cells.set j' (.slice sz' n g (.own nm))).getD j' .any = .slice sz' n g (.own nm) := by simp [List.getD, hj]
              rw [e1]
              have hr' := r5 j' hj''
              rw [hs] at hr'
              obtain ⟨ad, hv⟩ := hr'.exact_inv
              have hV := hr'.slice_val
              rw [hv] at hV ⊢
              refine .own nm sz' e n ad n n g (by simp [own']) (Nat.le_refl _) (fun _ => by simp [thUp]) ?_
              rcases hz with ⟨rfl, rfl⟩ | rfl
              · exact hV
              · obtain ⟨_, ad', cap, us, he, hcap, hmax, hz, hn', h1', hl, hr⟩ := hV.slice_inv
                simp only [Value.slice.injEq, true_and] at he
                obtain ⟨rfl, rfl⟩ := he
                exact .slice ad 0 0 sz' g us hcap hmax (fun h => by omega) hn' (fun j hj => by omega) (fun i hi => by omega) (fun i c hi => by omega)
            · have e1 : (cells.set j (.slice sz' n g (.own nm))).getD j' .any = cells.getD j' .any := by simp [List.getD, Ne.symm hjj]
              rw [e1]
              exact hmono _ _ (r5 j' hj'')
          · simp only [own', h1, h2, if_false] at ho
            obtain ⟨g', c, vs, r1, r2, r3, r4, r5, r6⟩ := hrel.row nm' _ cells' ho
            exact ⟨g', c, vs, by simpa [thUp, h1] using r1, r2, r3, r4, fun j' hj' => hmono _ _ (r5 j' hj'), r6⟩
      · by_cases h1 : nm' = nm
        · simp [thUp, h1] at hg
        · have h2 : nm' ≠ r := by rintro rfl; simp [own', h1] at ho
          simp only [own', h1, h2, if_false] at ho
          simp only [thUp, h1, if_false] at hg
          exact hrel.tok nm' _ _ _ ho g' c hg
      · have hx : ∀ n1 g' c, own' n1 ≠ none → thUp θ nm none n1 = some (g', c) → st.sto.own n1 ≠ none ∧ θ n1 = some (g', c) := fun n1 g' c ho hg => by
          by_cases h1 : n1 = nm
          · simp [thUp, h1] at hg
          · simp only [thUp, h1, if_false] at hg
            refine ⟨?_, hg⟩
            by_cases h2 : n1 = r
            · subst h2; have : st.sto.own n1 = some (.row e0 cells) := hr; simp [this]
            · simpa [own', h1, h2] using ho
        obtain ⟨a1, a2⟩ := hx n1 g' c ho hg
        obtain ⟨b1, b2⟩ := hx n2 g' c' ho' hg'
        exact hrel.inj n1 n2 g' c c' a1 b1 a2 b2
      · by_cases h1 : nm' = nm
        · simp [own', h1] at ho
        · have h2 : nm' ≠ r := by rintro rfl; simp [own', h1] at ho
          simp only [own', h1, h2, if_false] at ho
          exact arr_map (hrel.arr nm' _ _ _ _ ho) (by simp [thUp, h1]) (fun _ _ _ => rfl) (fun _ _ _ _ h => h) (fun _ _ => rfl) (fun v i j _ _ hv => hmono _ _ hv)
      · by_cases h1 : nm' = nm
        · simp [own', h1] at ho
        · have h2 : nm' ≠ r := by rintro rfl; simp [own', h1] at ho
          simp only [own', h1, h2, if_false] at ho
          exact obj_map (hrel.obj nm' _ ho) (by simp [thUp, h1]) (fun _ _ _ => rfl) (fun _ _ _ _ h => h) (fun _ h => h)
    · by_cases h1 : nm' = nm
      · simp [thUp, h1] at hg
      · simp only [thUp, h1, if_false] at hg
        refine .inr ⟨nm', c, ?_, hg⟩
        by_cases h2 : nm' = r
        · subst h2; have : st.sto.own nm' = some (.row e0 cells) := hr; simp [this]
        · simpa [own', h1, h2] using ho
  refine ⟨I, thUp θ nm none, h.size, h.defers, fun t' => ?_, ?_⟩
  · rw [hown]; exact (h.slots t').chg k
  · rw [hown]; exact h.chg.trans k

/-- What has no room to spare may be taken for one's own. -/
theorem le_tag {st : St} {t nm sz sz' n : Nat} {f : Nat → List AV} (g : Nat → List AV) (e : TypeId) (hs : st.get t = .slice sz n f .exact) (hn : look st.own nm = none) (hz : (sz = sz' ∧ f = g) ∨ n = 0) (h8 : e = tokU8 → n = 0)  (hlt : Nat.blt nm famB = true := by rfl) :
    Le Γ st ⟨putA st.tmps t (.slice sz' n g (.own nm)), putA st.own nm (.tok sz' e n), st.fam⟩ := by
  intro I θ a w h
  have hlt : nm < famB := by simpa [Nat.blt_eq] using hlt
  have hn : st.sto.own nm = none := (famOwn_lt hlt).trans hn
  have hown : (⟨putA st.tmps t (.slice sz' n g (.own nm)), putA st.own nm (.tok sz' e n), st.fam⟩ : St).sto.own = ownUp st.sto.own nm (.tok sz' e n) := by
    funext k
    show famOwn (putA st.own nm _) _ k = _
    rw [famOwn_putA hlt]
    simp only [ownUp]
    by_cases hk : nm = k
    · subst hk; simp
    · simp [hk, Ne.symm hk]; rfl
  have k : Chg st.sto.own θ I w (ownUp st.sto.own nm (.tok sz' e n)) (thUp θ nm none) I w :=
    chg_tok h.chg.rel (fun _ _ h => h) (fun _ _ _ => rfl) (.inl hn) (fun _ _ _ => rfl) (fun _ _ h => .inl h) h.chg.valid rfl rfl rfl (Nat.le_refl _) (by simp) (by simp) (fun _ => h8)
  refine ⟨I, thUp θ nm none, h.size, h.defers, fun t' => ?_, ?_⟩
  · rw [hown]
    have hget : (⟨putA st.tmps t (.slice sz' n g (.own nm)), putA st.own nm (.tok sz' e n), st.fam⟩ : St).sto.tmp t' = if t = t' then .slice sz' n g (.own nm) else st.get t' := by
      show (match look (putA st.tmps t _) t' with | some x => x | none => .any) = _
      rw [look_putA]
      by_cases hk : t = t'
      · simp [hk]
      · simp [hk]; rfl
    rw [hget]
    split
    · rename_i htt
      subst htt
      have hr := h.slots t
      have hr' : Rep I st.sto.own θ w (a.tmps.getD t undef) (.slice sz n f .exact) := by rw [← hs]; exact hr
      obtain ⟨ad, hv⟩ := hr'.exact_inv
      have hV := hr'.slice_val
      rw [hv] at hV ⊢
      refine .own nm sz' e n ad n n g (by simp [ownUp]) (Nat.le_refl _) (fun _ => by simp [thUp]) ?_
      rcases hz with ⟨rfl, rfl⟩ | rfl
      · exact hV
      · obtain ⟨_, ad', cap, us, he, hcap, hmax, hz, hn', h1, hl, hr⟩ := hV.slice_inv
        simp only [Value.slice.injEq, true_and] at he
        obtain ⟨rfl, rfl⟩ := he
        exact .slice ad 0 0 sz' g us hcap hmax (fun h => by omega) hn' (fun j hj => by omega) (fun i hi => by omega) (fun i c hi => by omega)
    · exact (h.slots t').chg k
  · rw [hown]
    exact h.chg.trans k

/-- Nothing, with no room, may be taken for a row of one's own that is to be written. -/
theorem le_arr {st : St} {t nm sz sz' : Nat} {f : Nat → List AV} (g : Nat → List AV) (e : TypeId) (hs : st.get t = .slice sz 0 f .exact) (hn : look st.own nm = none)  (hlt : Nat.blt nm famB = true := by rfl) :
    Le Γ st ⟨putA st.tmps t (.vsl nm 0), putA st.own nm (.arr sz' e 0 g), st.fam⟩ := by
  intro I θ a w h
  have hlt : nm < famB := by simpa [Nat.blt_eq] using hlt
  have hn : st.sto.own nm = none := (famOwn_lt hlt).trans hn
  have hown : (⟨putA st.tmps t (.vsl nm 0), putA st.own nm (.arr sz' e 0 g), st.fam⟩ : St).sto.own = ownUp st.sto.own nm (.arr sz' e 0 g) := by
    funext k
    show famOwn (putA st.own nm _) _ k = _
    rw [famOwn_putA hlt]
    simp only [ownUp]
    by_cases hk : nm = k
    · subst hk; simp
    · simp [hk, Ne.symm hk]; rfl
  have k : Chg st.sto.own θ I w (ownUp st.sto.own nm (.arr sz' e 0 g)) (thUp θ nm none) I w :=
    chg_arr h.chg.rel h.chg.valid (fun _ _ _ => rfl) (.inl hn) (fun _ _ _ => rfl) rfl rfl rfl (Nat.le_refl _) (fun _ => rfl) (by simp) (by simp)
  refine ⟨I, thUp θ nm none, h.size, h.defers, fun t' => ?_, ?_⟩
  · rw [hown]
    have hget : (⟨putA st.tmps t (.vsl nm 0), putA st.own nm (.arr sz' e 0 g), st.fam⟩ : St).sto.tmp t' = if t = t' then .vsl nm 0 else st.get t' := by
      show (match look (putA st.tmps t _) t' with | some x => x | none => .any) = _
      rw [look_putA]
      by_cases hk : t = t'
      · simp [hk]
      · simp [hk]; rfl
    rw [hget]
    split
    · rename_i htt
      subst htt
      have hr := h.slots t
      have hr' : Rep I st.sto.own θ w (a.tmps.getD t undef) (.slice sz 0 f .exact) := by rw [← hs]; exact hr
      obtain ⟨ad, hv⟩ := hr'.exact_inv
      rw [hv]
      exact .vsl nm sz' e 0 g ad 0 0 (by simp [ownUp]) (Nat.le_refl _) (Nat.le_refl _) (Nat.zero_le _) (fun _ => rfl) (fun _ => by simp [thUp])
    · exact (h.slots t').chg k
  · rw [hown]
    exact h.chg.trans k

/-! ### Rules -/
theorem awp_mono {c : Code} {K K' : Exit → St → Prop} {st : St} (h : awp P Γ c K st) (hk : ∀ e st, K e st → K' e st) : awp P Γ c K' st := fun I θ a w hr =>
  wp_mono (h I θ a w hr) fun _ _ _ ⟨st', I', θ', h1, h2⟩ => ⟨st', I', θ', hk _ _ h1, h2⟩
theorem awp_le {c : Code} {K : Exit → St → Prop} {st st' : St} (h : Le Γ st st') (k : awp P Γ c K st') : awp P Γ c K st := fun I θ a w hr => let ⟨I', θ', hr'⟩ := h I θ a w hr; k I' θ' a w hr'
/-- Where one ends, less may be told of the store. -/
def clK (Γ : Env) (K : Exit → St → Prop) : Exit → St → Prop := fun e st => ∃ st', Le Γ st st' ∧ K e st'
theorem awp_cl {c : Code} {K : Exit → St → Prop} {st : St} (h : awp P Γ c (clK Γ K) st) : awp P Γ c K st := fun I θ a w hr =>
  wp_mono (h I θ a w hr) fun e a' w' ⟨st1, I1, θ1, ⟨st2, hl, hk⟩, hr1⟩ => let ⟨I2, θ2, hr2⟩ := hl I1 θ1 a' w' hr1; ⟨st2, I2, θ2, hk, hr2⟩
theorem cl_of {K : Exit → St → Prop} {e : Exit} {st st' : St} (h : Le Γ st st') (hk : K e st') : clK Γ K e st := ⟨st', h, hk⟩
theorem awp_skip {K : Exit → St → Prop} {st : St} (h : K .normal st) : awp P Γ .skip K st := fun I θ _ _ hr => wp_skip ⟨st, I, θ, h, hr⟩
theorem awp_label {l : Nat} {K : Exit → St → Prop} {st : St} (h : K .normal st) : awp P Γ (.label l) K st := fun I θ _ _ hr => wp_label ⟨st, I, θ, h, hr⟩
theorem awp_ret {K : Exit → St → Prop} {st : St} (h : K .ret st) : awp P Γ .ret K st := fun I θ _ _ hr => wp_ret ⟨st, I, θ, h, hr⟩
theorem awp_exit {id : Nat} {K : Exit → St → Prop} {st : St} (h : K (.exit id) st) : awp P Γ (.exit id) K st := fun I θ _ _ hr => wp_exit ⟨st, I, θ, h, hr⟩
theorem awp_goto {l : Nat} {K : Exit → St → Prop} {st : St} (h : K (.goto l) st) : awp P Γ (.goto l) K st := fun I θ _ _ hr => wp_goto ⟨st, I, θ, h, hr⟩
def thenK (P : Program) (Γ : Env) (y : Code) (K : Exit → St → Prop) : Exit → St → Prop
  | .normal, st => awp P Γ y K st
  | e, st => K e st
theorem awp_seq {x y : Code} {K : Exit → St → Prop} {st : St} (h : awp P Γ x (thenK P Γ y K) st) : awp P Γ (.seq x y) K st := fun I θ a w hr =>
  wp_seq (wp_mono (h I θ a w hr) fun e a' w' ⟨st', I', θ', h1, h2⟩ => by
    cases e with
    | normal => exact h1 I' θ' a' w' h2
    | _ => exact ⟨st', I', θ', h1, h2⟩)
theorem awp_cond {c : Operand} {x y : Code} {K : Exit → St → Prop} {st : St} (b : Bool) (hc : evA st.get c = .bool b) (ht : b = true → awp P Γ x K st) (hf : b = false → awp P Γ y K st) : awp P Γ (.cond c x y) K st := fun I θ a w hr => by
  have he := rep_eval hr c
  have hc' : evA st.sto.tmp c = .bool b := hc
  rw [hc'] at he
  exact wp_cond_split he.bool_inv (fun h => ht h I θ a w hr) (fun h => hf h I θ a w hr)
/-- Upon a question whether a slice is nil, both ways are gone. -/
theorem awp_nilq {c : Operand} {x y : Code} {K : Exit → St → Prop} {st : St} (pos : Bool) (n : Nat) (hc : evA st.get c = .nilq pos n) (ht : (pos = true → n = 0) → awp P Γ x K st)
    (hf : (pos = false → n = 0) → awp P Γ y K st) : awp P Γ (.cond c x y) K st := fun I θ a w hr => by
  have he := rep_eval hr c
  have hc' : evA st.sto.tmp c = .nilq pos n := hc
  rw [hc'] at he
  obtain ⟨b, hb, hn⟩ := he.nilq_inv
  exact wp_cond_split hb (fun h => ht (fun hp => hn (h.trans hp.symm)) I θ a w hr) (fun h => hf (fun hp => hn (h.trans hp.symm)) I θ a w hr)
/-- What is told of a list is told of none, where it has no elements. -/
theorem nil_at {α β : Type} {l : List α} {n : Nat} {r : β} (m : Option β) (F : List α → Option β) (h : F l = some r) (hn : n = 0) (hl : n = l.length) (hm : F [] = some r → m = some r) : m = some r := by
  obtain rfl := List.eq_nil_of_length_eq_zero (hl.symm.trans hn)
  exact hm h
def blockK (id : Nat) (K : Exit → St → Prop) : Exit → St → Prop
  | .exit id', st => if id' = id then K .normal st else K (.exit id') st
  | e, st => K e st
theorem awp_block {id : Nat} {c : Code} {K : Exit → St → Prop} {st : St} (h : awp P Γ c (blockK id K) st) : awp P Γ (.block id c) K st := fun I θ a w hr =>
  wp_block (wp_mono (h I θ a w hr) fun e a' w' ⟨st', I', θ', h1, h2⟩ => by
    cases e with
    | exit id' =>
      simp only [blockK] at h1
      simp only [Exit.inBlock]
      split
      · rename_i h; rw [if_pos h] at h1; exact ⟨st', I', θ', h1, h2⟩
      · rename_i h; rw [if_neg h] at h1; exact ⟨st', I', θ', h1, h2⟩
    | _ => exact ⟨st', I', θ', h1, h2⟩)

theorem wp_loop_n {c : Code} {Q : Exit → Act → World → Prop} (J : Nat → Act → World → Prop) (round : ∀ n a w, J n a w → c.wp P (Exit.then (fun a' w' => ∃ m, m < n ∧ J m a' w') Q) a w) {n : Nat} {a : Act} {w : World} (h : J n a w) : (Code.loop c).wp P Q a w := by
  intro b k cs
  have key : ∀ n a w, J n a w → ∃ e a' w', Q e a' w' ∧ Arrives P (lone (b.at a (.code c :: .inLoop c :: k)) cs w) b k cs e a' w' := by
    intro n
    induction n using Nat.strongRecOn with
    | _ n ih =>
      intro a w hJ
      obtain ⟨e, a₁, w₁, hq, harr⟩ := round n a w hJ b (.inLoop c :: k) cs
      cases e with
      | normal =>
        obtain ⟨m, hlt, hJ'⟩ := hq
        obtain ⟨e₂, a₂, w₂, hq₂, harr₂⟩ := ih m hlt a₁ w₁ hJ'
        exact ⟨e₂, a₂, w₂, hq₂, .of_steps (Steps.trans harr (.one step_inLoop)) harr₂⟩
      | exit id => exact ⟨_, a₁, w₁, hq, .pass (x := .inLoop c) rfl (fun _ _ => .inl (by simp)) harr⟩
      | goto l => exact ⟨_, a₁, w₁, hq, .pass (x := .inLoop c) rfl (fun _ _ => .inl (by simp)) harr⟩
      | ret => exact ⟨_, a₁, w₁, hq, .pass (x := .inLoop c) rfl (fun _ _ => .inl (by simp)) harr⟩
      | panic ch => exact ⟨_, a₁, w₁, hq, .pass (x := .inLoop c) rfl (fun _ _ => .inl (by simp)) harr⟩
      | outgrown => exact ⟨_, a₁, w₁, hq, .pass (x := .inLoop c) rfl (fun _ _ => .inl (by simp)) harr⟩
  obtain ⟨e, a', w', hq, harr⟩ := key n a w h
  exact ⟨e, a', w', hq, .of_steps (.one step_loop) harr⟩

/-- What a round comes to. -/
def roundK {S X : Type} (Γ : Env) (H : S → St) (KX : X → Exit → St → Prop) : LR S X → Exit → St → Prop
  | .next s', e, st' => e = .normal ∧ Le Γ st' (H s')
  | .done x, e, st' => e ≠ .normal ∧ KX x e st'
theorem awp_loop {S X : Type} {body : Code} (H : S → St) (f : S → Option (LR S X)) (KX : X → Exit → St → Prop) {K : Exit → St → Prop}
    (hb : ∀ s y, f s = some y → awp P Γ body (roundK Γ H KX y) (H s)) {s : S} {x : X} (hr : loopO f s = some x) (hK : ∀ e st', KX x e st' → K e st') : awp P Γ (.loop body) K (H s) := by
  intro I θ a w hrel
  obtain ⟨n, hn⟩ := loopO_iff.1 hr
  refine wp_loop_n (fun n a w => ∃ s I θ, LRuns f s x n ∧ Rel Γ (H s).sto I θ a w) (fun n a w ⟨s, I, θ, hs, hrel⟩ => ?_) (n := n) ⟨s, I, θ, hn, hrel⟩
  cases hs with
  | done hd =>
    refine wp_mono (hb s _ hd I θ a w hrel) fun e a' w' ⟨st', I', θ', h1, h2⟩ => ?_
    obtain ⟨hne, hx⟩ := h1
    cases e with
    | normal => exact (hne rfl).elim
    | _ => exact ⟨st', I', θ', hK _ _ hx, h2⟩
  | @next _ s' _ m hd ht =>
    refine wp_mono (hb s _ hd I θ a w hrel) fun e a' w' ⟨st', I', θ', h1, h2⟩ => ?_
    obtain ⟨rfl, hle⟩ := h1
    obtain ⟨I'', θ'', h3⟩ := hle I' θ' a' w' h2
    exact ⟨m, Nat.lt_succ_self m, s', I'', θ'', ht, h3⟩

/-! ### Jumps -/
def jumpQ (c : Code) (J : Nat → Act → World → Prop) (Q : Exit → Act → World → Prop) : Exit → Act → World → Prop
  | .goto l, a, w => match findLabel c l with | some _ => J l a w | none => Q (.goto l) a w
  | e, a, w => Q e a w
theorem wp_scope_n {c : Code} {Q : Exit → Act → World → Prop} (J : Nat → Nat → Act → World → Prop) {a : Act} {w : World} (first : c.wp P (jumpQ c (fun l a' w' => ∃ n, J n l a' w') Q) a w)
    (pass : ∀ n l rest a w, findLabel c l = some rest → J n l a w → rest.wp P (jumpQ c (fun l' a' w' => ∃ m, m < n ∧ J m l' a' w') Q) a w) : (Code.scope c).wp P Q a w := by
  intro b k cs
  have hg : ∀ l rest, findLabel c l = some rest → gotoIn l (.inScope c :: k) = some (.code rest :: .inScope c :: k) := fun l rest hf => by simp [gotoIn, hf]
  have hg' : ∀ l k', findLabel c l = none → gotoIn l k = some k' → gotoIn l (.inScope c :: k) = some k' := fun l k' hf hk => by simp [gotoIn, hf, hk]
  have key : ∀ n l rest a w, findLabel c l = some rest → J n l a w → ∃ e a' w', Q e a' w' ∧ Arrives P (lone (b.at a (.code rest :: .inScope c :: k)) cs w) b k cs e a' w' := by
    intro n
    induction n using Nat.strongRecOn with
    | _ n ih =>
      intro l rest a w hf hJ
      obtain ⟨e, a₁, w₁, hq, harr⟩ := pass n l rest a w hf hJ b (.inScope c :: k) cs
      cases e with
      | normal => exact ⟨.normal, a₁, w₁, hq, Steps.trans harr (.one step_inScope)⟩
      | exit id => exact ⟨.exit id, a₁, w₁, hq, fun k' hk => harr k' (by simp [exitTo, hk])⟩
      | goto l' =>
        simp only [jumpQ] at hq
        cases hf' : findLabel c l' with
        | some rest' =>
          rw [hf'] at hq
          obtain ⟨m, hlt, hJ'⟩ := hq
          obtain ⟨e₂, a₂, w₂, hq₂, harr₂⟩ := ih m hlt l' rest' a₁ w₁ hf' hJ'
          exact ⟨e₂, a₂, w₂, hq₂, .of_steps (harr _ (hg l' rest' hf')) harr₂⟩
        | none =>
          rw [hf'] at hq
          exact ⟨.goto l', a₁, w₁, hq, fun k' hk => harr k' (hg' l' k' hf' hk)⟩
      | ret => exact ⟨_, a₁, w₁, hq, harr⟩
      | panic ch => exact ⟨_, a₁, w₁, hq, harr⟩
      | outgrown => exact ⟨_, a₁, w₁, hq, harr⟩
  obtain ⟨e, a₁, w₁, hq, harr⟩ := first b (.inScope c :: k) cs
  cases e with
  | normal => exact ⟨.normal, a₁, w₁, hq, .head step_scope (Steps.trans harr (.one step_inScope))⟩
  | exit id => exact ⟨.exit id, a₁, w₁, hq, fun k' hk => .head step_scope (harr k' (by simp [exitTo, hk]))⟩
  | goto l' =>
    simp only [jumpQ] at hq
    cases hf' : findLabel c l' with
    | some rest' =>
      rw [hf'] at hq
      obtain ⟨n, hJ'⟩ := hq
      obtain ⟨e₂, a₂, w₂, hq₂, harr₂⟩ := key n l' rest' a₁ w₁ hf' hJ'
      exact ⟨e₂, a₂, w₂, hq₂, .of_steps (.head step_scope (harr _ (hg l' rest' hf'))) harr₂⟩
    | none =>
      rw [hf'] at hq
      exact ⟨.goto l', a₁, w₁, hq, fun k' hk => .head step_scope (harr k' (hg' l' k' hf' hk))⟩
  | ret => exact ⟨_, a₁, w₁, hq, .of_steps (.one step_scope) harr⟩
  | panic ch => exact ⟨_, a₁, w₁, hq, .of_steps (.one step_scope) harr⟩
  | outgrown => exact ⟨_, a₁, w₁, hq, .of_steps (.one step_scope) harr⟩

/-- What one comes to from a label on: another label, or out. -/
def jumpK {S X : Type} (Γ : Env) (c : Code) (lab : S → Nat) (H : S → St) (KX : X → Exit → St → Prop) : LR S X → Exit → St → Prop
  | .next s', e, st' => e = .goto (lab s') ∧ (findLabel c (lab s')).isSome = true ∧ Le Γ st' (H s')
  | .done x, e, st' => (∀ l, e = .goto l → findLabel c l = none) ∧ KX x e st'
theorem awp_scope {S X : Type} {c : Code} (lab : S → Nat) (H : S → St) (f0 : Option (LR S X)) (f : S → Option (LR S X)) (KX : X → Exit → St → Prop) {K : Exit → St → Prop} {st : St}
    (h0 : ∀ y, f0 = some y → awp P Γ c (jumpK Γ c lab H KX y) st) (hb : ∀ s y rest, findLabel c (lab s) = some rest → f s = some y → awp P Γ rest (jumpK Γ c lab H KX y) (H s))
    {x : X} (hr : scopeO f0 f = some x) (hK : ∀ e st', KX x e st' → K e st') : awp P Γ (.scope c) K st := by
  intro I θ a w hrel
  obtain ⟨y, hy, hr⟩ := bind_some hr
  have fin : ∀ (J : Nat → Act → World → Prop) (a' : Act) (w' : World) (e : Exit) st' I' θ', jumpK Γ c lab H KX (.done x) e st' → Rel Γ st'.sto I' θ' a' w' → jumpQ c J (fun e a' w' => ∃ st' I' θ', K e st' ∧ Rel Γ st'.sto I' θ' a' w') e a' w' := fun J a' w' e st' I' θ' h1 h2 => by
    obtain ⟨hl, hx⟩ := h1
    cases e with
    | goto l => simp only [jumpQ, hl l rfl]; exact ⟨st', I', θ', hK _ _ hx, h2⟩
    | _ => exact ⟨st', I', θ', hK _ _ hx, h2⟩
  refine wp_scope_n (fun n l a w => ∃ s I θ, LRuns f s x n ∧ lab s = l ∧ Rel Γ (H s).sto I θ a w) ?_ (fun n l rest a w hf ⟨s, I, θ, hs, hl, hrel⟩ => ?_)
  · refine wp_mono (h0 y hy I θ a w hrel) fun e a' w' ⟨st', I', θ', h1, h2⟩ => ?_
    cases y with
    | done x' =>
      simp only [Option.some.injEq] at hr
      subst hr
      exact fin _ a' w' e st' I' θ' h1 h2
    | next s =>
      obtain ⟨n, hn⟩ := loopO_iff.1 hr
      obtain ⟨rfl, hf, hle⟩ := h1
      obtain ⟨I'', θ'', h3⟩ := hle I' θ' a' w' h2
      obtain ⟨rest, hf'⟩ := Option.isSome_iff_exists.1 hf
      simp only [jumpQ, hf']
      exact ⟨n, s, I'', θ'', hn, rfl, h3⟩
  · subst hl
    cases hs with
    | done hd => exact wp_mono (hb s _ rest hf hd I θ a w hrel) fun e a' w' ⟨st', I', θ', h1, h2⟩ => fin _ a' w' e st' I' θ' h1 h2
    | @next _ s' _ m hd ht =>
      refine wp_mono (hb s _ rest hf hd I θ a w hrel) fun e a' w' ⟨st', I', θ', h1, h2⟩ => ?_
      obtain ⟨rfl, hf', hle⟩ := h1
      obtain ⟨I'', θ'', h3⟩ := hle I' θ' a' w' h2
      obtain ⟨rest', hf''⟩ := Option.isSome_iff_exists.1 hf'
      simp only [jumpQ, hf'']
      exact ⟨m, Nat.lt_succ_self m, s', I'', θ'', ht, rfl, h3⟩
/-! ### How one gets on -/
theorem then_normal {y : Code} {K : Exit → St → Prop} {st : St} (h : awp P Γ y K st) : thenK P Γ y K .normal st := h
theorem then_ret {y : Code} {K : Exit → St → Prop} {st : St} (h : K .ret st) : thenK P Γ y K .ret st := h
theorem then_exit {y : Code} {K : Exit → St → Prop} {st : St} {id : Nat} (h : K (.exit id) st) : thenK P Γ y K (.exit id) st := h
theorem then_goto {y : Code} {K : Exit → St → Prop} {st : St} {l : Nat} (h : K (.goto l) st) : thenK P Γ y K (.goto l) st := h
theorem block_normal {id : Nat} {K : Exit → St → Prop} {st : St} (h : K .normal st) : blockK id K .normal st := h
theorem block_ret {id : Nat} {K : Exit → St → Prop} {st : St} (h : K .ret st) : blockK id K .ret st := h
theorem block_goto {id l : Nat} {K : Exit → St → Prop} {st : St} (h : K (.goto l) st) : blockK id K (.goto l) st := h
theorem block_here {id : Nat} {K : Exit → St → Prop} {st : St} (h : K .normal st) : blockK id K (.exit id) st := by show if id = id then K .normal st else K (.exit id) st; rw [if_pos rfl]; exact h
theorem block_exit {id id' : Nat} {K : Exit → St → Prop} {st : St} (hne : Nat.beq id' id = false) (h : K (.exit id') st) : blockK id K (.exit id') st := by
  simp only [blockK]; rw [if_neg (by rintro rfl; simp at hne)]; exact h
theorem cond_t {R : Type} {b : Bool} {x y : Option R} {r : R} (hb : b = true) (h : (bif b then x else y) = some r) : x = some r := by rw [hb] at h; exact h
theorem cond_f {R : Type} {b : Bool} {x y : Option R} {r : R} (hb : b = false) (h : (bif b then x else y) = some r) : y = some r := by rw [hb] at h; exact h
theorem hand_in {names : List Nat} {H : List (Nat × Own)} (h : Γ.own0 = look H) (hm : (H.all fun x => memB x.1 names) = true) : ∀ nm, Γ.own0 nm ≠ none → nm ∈ names := fun nm hn => by
  rw [h] at hn
  cases hl : look H nm with
  | none => exact (hn hl).elim
  | some o => exact memB_mem.1 (List.all_eq_true.1 hm _ (look_mem hl))
theorem no_hand {names : List Nat} (h : Γ.own0 = look []) : ∀ nm, Γ.own0 nm ≠ none → nm ∈ names := fun nm hn => by rw [h] at hn; exact (hn rfl).elim
theorem awp_join {X : Type} {c : Code} {m : Option X} (KX : X → Exit → St → Prop) {K : Exit → St → Prop} {st : St} {x : X} (hr : m = some x) (hx : ∀ x, m = some x → awp P Γ c (KX x) st) (hK : ∀ e st', KX x e st' → K e st') : awp P Γ c K st :=
  awp_mono (hx x hr) hK

end
section
variable {P : Program} {Γ : Env}
/-- A region, told shortly: what is live, and what is owned, is what is told. -/
theorem rg {id : Nat} {ops : List Oper} {draw : Bool} {K : Exit → St → Prop} {st : St} {n : Nat} (rs : List Orc) (cs : List (Nat × AV)) (st' : St) (obs : List Prop) (hnn : Γ.n = n) (hm : P.follows .mixedOrders = true) (hn : ∀ nm, Γ.own0 nm ≠ none → nm ∈ st'.own.map (·.1))
    (h : aregion P (Spec P) n cs (st'.tmps.map (·.1)) (st'.own.map (·.1) ++ st'.fam.map (·.1)) ops draw st rs = some (st', obs, true)) (hob : conjL obs) (hK : K .normal st') : awp P Γ (.region id ops.toArray draw) K st := awp_region hnn hm (fun nm h0 => List.mem_append.2 (.inl (hn nm h0))) h hob hK
theorem rg0 {id : Nat} {ops : List Oper} {draw : Bool} {K : Exit → St → Prop} {st : St} {n : Nat} (st' : St) (hnn : Γ.n = n) (hm : P.follows .mixedOrders = true) (hn : ∀ nm, Γ.own0 nm ≠ none → nm ∈ st'.own.map (·.1))
    (h : aregion P (Spec P) n [] (st'.tmps.map (·.1)) (st'.own.map (·.1) ++ st'.fam.map (·.1)) ops draw st [] = some (st', [], true)) (hK : K .normal st') : awp P Γ (.region id ops.toArray draw) K st := awp_region hnn hm (fun nm h0 => List.mem_append.2 (.inl (hn nm h0))) h trivial hK
theorem rgs {id : Nat} {ops : List Oper} {draw : Bool} {y : Code} {K : Exit → St → Prop} {st : St} {n : Nat} (rs : List Orc) (cs : List (Nat × AV)) (st' : St) (obs : List Prop) (hnn : Γ.n = n) (hm : P.follows .mixedOrders = true) (hn : ∀ nm, Γ.own0 nm ≠ none → nm ∈ st'.own.map (·.1))
    (h : aregion P (Spec P) n cs (st'.tmps.map (·.1)) (st'.own.map (·.1) ++ st'.fam.map (·.1)) ops draw st rs = some (st', obs, true)) (hob : conjL obs) (hK : awp P Γ y K st') : awp P Γ (.seq (.region id ops.toArray draw) y) K st := awp_seq (awp_region hnn hm (fun nm h0 => List.mem_append.2 (.inl (hn nm h0))) h hob hK)
theorem rgs0 {id : Nat} {ops : List Oper} {draw : Bool} {y : Code} {K : Exit → St → Prop} {st : St} {n : Nat} (st' : St) (hnn : Γ.n = n) (hm : P.follows .mixedOrders = true) (hn : ∀ nm, Γ.own0 nm ≠ none → nm ∈ st'.own.map (·.1))
    (h : aregion P (Spec P) n [] (st'.tmps.map (·.1)) (st'.own.map (·.1) ++ st'.fam.map (·.1)) ops draw st [] = some (st', [], true)) (hK : awp P Γ y K st') : awp P Γ (.seq (.region id ops.toArray draw) y) K st := awp_seq (awp_region hnn hm (fun nm h0 => List.mem_append.2 (.inl (hn nm h0))) h trivial hK)
end
end Go.Proofs.Ytcpopeamoipjlaa
