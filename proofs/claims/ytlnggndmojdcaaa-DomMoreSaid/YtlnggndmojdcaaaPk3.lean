/-
  The machine, the program's functions and the laws' arithmetic: part 3 of 6.
-/
import Derived.Test.YtlnggndmojdcaaaPk2
import Derived.Test.YtlnggndmojdcaaaProg
set_option linter.unusedVariables false
set_option linter.unusedSimpArgs false
namespace Go.Proofs.Ytlnggndmojdcaaa
open Go Go.RowKit

/-- A row of slices, told with their tags. -/
def rowF {α : Type} (sz : Nat) (e : α → List AV) (d : α) (L : List (List α)) (t : Nat → Tag) : Nat → List AV := fun j => [AV.list sz e d (L.getD j []) (t j)]
def famTag (b i k j : Nat) : Tag := bif Nat.beq j i then .own k else .fam b j
def famM {α : Type} (L : List (List α)) : Nat → Option Nat := fun j => if j < L.length then some (L.getD j []).length else none
/-- The same without one. -/
def holeM {α : Type} (L : List (List α)) (i : Nat) : Nat → Option Nat := fun j => if j = i then none else famM L j

mutual
/-- No slice in it has a tag that 'p' forbids. -/
def AV.free (p : Tag → Bool) : AV → Bool
  | .slice _ _ _ t => p t
  | .clo _ xs ys => AV.freeAll p xs && AV.freeAll p ys
  | .agg cs => AV.freeAll p cs
  | .tuple cs => AV.freeAll p cs
  | .cond _ x => x.free p
  | _ => true
def AV.freeAll (p : Tag → Bool) : List AV → Bool
  | [] => true
  | x :: l => x.free p && AV.freeAll p l
end
theorem freeAll_getD {p : Tag → Bool} {l : List AV} (h : AV.freeAll p l = true) (j : Nat) : (l.getD j .any).free p = true := by
  induction l generalizing j with
  | nil => simp [AV.free]
  | cons x l ih =>
    simp only [AV.freeAll, Bool.and_eq_true] at h
    cases j with
    | zero => simpa using h.1
    | succ j => simpa using ih h.2 j
def noFam (b : Nat) : Tag → Bool
  | .fam b' _ => !Nat.beq b' b
  | .own nm => Nat.blt nm famB
  | _ => true
def noOwn (k : Nat) : Tag → Bool
  | .own k' => !Nat.beq k' k
  | _ => true

/-- Whatever is told of it hangs on no name 'q'. -/
def Fr (q : Nat) (x : AV) : Prop := ∀ (I : Nat → Nat → Prop) (own own' : Nat → Option Own) (θ θ' : Nat → Option (Nat × Nat)) (w : World) (v : Value), (∃ sz e m, own q = some (.tok sz e m)) →
  (∀ nm o, nm ≠ q → own nm = some o → ∃ o', own' nm = some o' ∧ OwnLe o (θ nm) o' (θ' nm)) → Rep I own θ w v x → Rep I own' θ' w v x
theorem fr_of {q : Nat} {p : Tag → Bool} (hp : ∀ nm, p (.own nm) = true → nm ≠ q) (hf : ∀ b i, i < famB → p (.fam b i) = true → big b i ≠ q) {x : AV} (hx : x.free p = true) : Fr q x := by
  intro I own own' θ θ' w v hq ho h
  obtain ⟨s0, e0, m0, hq⟩ := hq
  have hall : ∀ nm o, nm ≠ q → own nm = some o → ∃ o', own' nm = some o' ∧ OwnLe o (θ nm) o' (θ' nm) := ho
  have hne : ∀ {nm o}, own nm = some o → (∀ sz e m, o ≠ .tok sz e m) → nm ≠ q := fun hn hh => by
    rintro rfl
    rw [hq] at hn
    exact hh _ _ _ (Option.some.inj hn).symm
  induction h with
  | val v x h => exact .val v x h
  | exact a n sz f h => exact .exact a n sz f h
  | own nm sz e m a n cap f hn hm hv h =>
    obtain ⟨o', ho', hle⟩ := ho nm _ (hp nm hx) hn
    cases o' with
    | tok sz' e' m' =>
      obtain ⟨rfl, rfl, hmm, hθ⟩ := hle
      refine .own nm _ _ m' a n cap f ho' (Nat.le_trans hm hmm) (fun he => ?_) h
      rw [hθ (by omega)]
      exact hv (by omega)
    | _ => exact hle.elim
  | fam b i sz e m a n cap f hi hn hm hv h =>
    obtain ⟨o', ho', hle⟩ := ho (big b i) _ (hf b i hi hx) hn
    cases o' with
    | tok sz' e' m' =>
      obtain ⟨rfl, rfl, hmm, hθ⟩ := hle
      refine .fam b i _ _ m' a n cap f hi ho' (Nat.le_trans hm hmm) (fun he => ?_) h
      rw [hθ (by omega)]
      exact hv (by omega)
    | _ => exact hle.elim
  | ptr nm off e cells g c hn hg =>
    obtain ⟨o', ho', hle⟩ := ho nm _ (hne hn (fun _ _ _ h => by cases h)) hn
    cases o' with
    | row e' cells' =>
      have e : θ' nm = θ nm := hle.2
      exact .ptr nm off e' cells' g c ho' (e.trans hg)
    | _ => exact hle.elim
  | vsl nm sz e m f a n cap hn hm hcap hmax hnn hv =>
    obtain ⟨o', ho', hle⟩ := ho nm _ (hne hn (fun _ _ _ h => by cases h)) hn
    cases o' with
    | arr sz' e' m' f' =>
      obtain ⟨rfl, rfl, hmm, hθ⟩ := hle
      refine .vsl nm _ _ m' f' a n cap ho' (Nat.le_trans hm hmm) hcap hmax hnn (fun he => ?_)
      rw [hθ (by omega)]
      exact hv (by omega)
    | _ => exact hle.elim
  | vpt nm sz e m f n i j ad hn hm hi hv =>
    obtain ⟨o', ho', hle⟩ := ho nm _ (hne hn (fun _ _ _ h => by cases h)) hn
    cases o' with
    | arr sz' e' m' f' =>
      obtain ⟨rfl, rfl, hmm, hθ⟩ := hle
      refine .vpt nm _ _ m' f' n i j ad ho' (Nat.le_trans hm hmm) hi (fun he => ?_)
      rw [hθ (by omega)]
      exact hv (by omega)
    | _ => exact hle.elim
  | clo f fs cs xs ys hl hl' _ _ ih ih' =>
    simp only [AV.free, Bool.and_eq_true] at hx
    exact .clo f fs cs xs ys hl hl' (fun j hj => ih j hj (freeAll_getD hx.1 j)) (fun j hj => ih' j hj (freeAll_getD hx.2 j))
  | optr nm x g c hn hg =>
    obtain ⟨o', ho', hle⟩ := ho nm _ (hne hn (fun _ _ _ h => by cases h)) hn
    cases o' with
    | obj x' => exact .optr nm x' g c ho' (by rw [hle, hg])
    | _ => exact hle.elim
  | vsub nm sz e m f n lo hi a cap hn hm hlo hhi hcap hmax hnn hv =>
    obtain ⟨o', ho', hle⟩ := ho nm _ (hne hn (fun _ _ _ h => by cases h)) hn
    cases o' with
    | arr sz' e' m' f' =>
      obtain ⟨rfl, rfl, hmm, hθ⟩ := hle
      refine .vsub nm _ _ m' f' n lo hi a cap ho' (Nat.le_trans hm hmm) hlo hhi hcap hmax hnn (fun he => ?_)
      rw [hθ (by omega)]
      exact hv (by omega)
    | _ => exact hle.elim
  | cond v c x _ h' ih => exact .cond v c x (fun hc => ih hc hx) h'
  | agg vs cs hl h1 _ ih => exact .agg vs cs hl h1 (fun j hj => ih j hj (freeAll_getD hx j))
  | tuple vs cs hl _ ih => exact .tuple vs cs hl (fun j hj => ih j hj (freeAll_getD hx j))
theorem fr_fam {b i : Nat} (hi : i < famB) {x : AV} (hx : x.free (noFam b) = true) : Fr (big b i) x :=
  fr_of (p := noFam b) (fun nm hp he => by
    have hlt : nm < famB := by simpa [noFam, Nat.blt_eq] using hp
    rw [he] at hlt
    exact big_ge b i hlt) (fun b' i' hi' hp he => by
    have h1 := big_div (b := b') hi'
    rw [he, big_div hi] at h1
    subst h1
    simp [noFam] at hp) hx
theorem fr_own {k : Nat} (hk : k < famB) {x : AV} (hx : x.free (noOwn k) = true) : Fr k x :=
  fr_of (p := noOwn k) (fun nm hp he => by subst he; simp [noOwn] at hp) (fun b i _ _ he => by rw [← he] at hk; exact big_ge b i hk) hx
def OwnFr (q : Nat) : Own → Prop
  | .row _ cells => ∀ j, j < cells.length → Fr q (cells.getD j .any)
  | .arr sz _ m f => ∀ i j, i < m → j < sz → Fr q ((f i).getD j .any)
  | _ => True

theorem arr_map' {I : Nat → Nat → Prop} {own own' : Nat → Option Own} {θ θ' : Nat → Option (Nat × Nat)} {w : World} {nm sz m : Nat} {e : TypeId} {f f' : Nat → List AV}
    (h : (θ nm = none → m = 0) ∧ ∀ g c, θ nm = some (g, c) → ∃ cur, w.heap[g]? = some (.cells cur e (0, 0)) ∧ m ≤ c ∧ c ≤ maxLen ∧ cur.size = c * sz ∧
      (∀ i, i < m → (f i).length = sz) ∧ (∀ i j, i < m → j < sz → (cur.getD (i * sz + j) undef).oneCell' = true ∧ Rep I own θ w (cur.getD (i * sz + j) undef) ((f i).getD j .any)) ∧ ∀ j, ¬ I g j)
    (hθ : θ' nm = θ nm) (hf : ∀ i, i < m → (f' i).length = (f i).length) (hr : ∀ i j v, i < m → j < sz → Rep I own θ w v ((f i).getD j .any) → Rep I own' θ' w v ((f' i).getD j .any)) :
    (θ' nm = none → m = 0) ∧ ∀ g c, θ' nm = some (g, c) → ∃ cur, w.heap[g]? = some (.cells cur e (0, 0)) ∧ m ≤ c ∧ c ≤ maxLen ∧ cur.size = c * sz ∧
      (∀ i, i < m → (f' i).length = sz) ∧ (∀ i j, i < m → j < sz → (cur.getD (i * sz + j) undef).oneCell' = true ∧ Rep I own' θ' w (cur.getD (i * sz + j) undef) ((f' i).getD j .any)) ∧ ∀ j, ¬ I g j := by
  rw [hθ]
  refine ⟨h.1, fun g c hg => ?_⟩
  obtain ⟨cur, q1, q2, q3, q4, q5, q6, q7⟩ := h.2 g c hg
  exact ⟨cur, q1, q2, q3, q4, fun i hi => (hf i hi).trans (q5 i hi), fun i j hi hj => ⟨(q6 i j hi hj).1, hr i j _ hi hj (q6 i j hi hj).2⟩, q7⟩

section
variable {Γ : Env} {σ : Sto} {I : Nat → Nat → Prop} {θ : Nat → Option (Nat × Nat)} {a : Act} {w : World}

/-- A token's name turned, with the row that has it. -/
theorem rel_rename (h : Rel Γ σ I θ a w) {p q r sz m s1 n : Nat} {e e1 : TypeId} {F F' : Nat → List AV} (hp : σ.own p = some (.tok sz e m)) (hq : σ.own q = none) (hr : σ.own r = some (.arr s1 e1 n F)) (hp0 : Γ.own0 p = none)
    (hfree : ∀ t, Fr p (σ.tmp t)) (hrows : ∀ nm o, nm ≠ r → σ.own nm = some o → OwnFr p o) {own' : Nat → Option Own} {θ' : Nat → Option (Nat × Nat)}
    (hown : own' = fun x => if x = q then some (.tok sz e m) else if x = p then none else if x = r then some (.arr s1 e1 n F') else σ.own x)
    (hθ : θ' = fun x => if x = q then θ p else if x = p then none else θ x)
    (hlen : ∀ j, j < n → (F' j).length = (F j).length)
    (hF : ∀ j c v, j < n → c < s1 → Rep I σ.own θ w v ((F j).getD c .any) → Rep I own' θ' w v ((F' j).getD c .any)) :
    Rel Γ ⟨σ.tmp, own'⟩ I θ' a w := by
  have hpq : p ≠ q := by rintro rfl; rw [hp] at hq; cases hq
  have hpr : p ≠ r := by rintro rfl; rw [hp] at hr; cases hr
  have hqr : q ≠ r := by rintro rfl; rw [hq] at hr; cases hr
  have hkeep : ∀ nm o, nm ≠ p → σ.own nm = some o → ∃ o', own' nm = some o' ∧ OwnLe o (θ nm) o' (θ' nm) := fun nm o hnp ho => by
    have hnq : nm ≠ q := by rintro rfl; rw [hq] at ho; cases ho
    by_cases hnr : nm = r
    · subst hnr
      rw [hr] at ho
      obtain rfl := Option.some.inj ho
      exact ⟨.arr s1 e1 n F', by simp [hown, hnq, hnp], by simp [hθ, hnq, hnp, OwnLe]⟩
    · exact ⟨o, by simp [hown, hnq, hnp, hnr, ho], by simp [hθ, hnq, hnp, OwnLe.refl]⟩
  have hT : ∀ v x, Fr p x → Rep I σ.own θ w v x → Rep I own' θ' w v x := fun v x hx hv => hx I _ _ _ _ w v ⟨_, _, _, hp⟩ hkeep hv
  have hinv : ∀ nm o, nm ≠ q → nm ≠ r → own' nm = some o → nm ≠ p ∧ σ.own nm = some o ∧ θ' nm = θ nm := fun nm o h1 h2 ho => by
    by_cases h3 : nm = p
    · simp [hown, h3, hpq] at ho
    · simp [hown, h1, h2, h3] at ho
      exact ⟨h3, ho, by simp [hθ, h1, h3]⟩
  have hnone : ∀ nm, own' nm ≠ none → ∃ nm', σ.own nm' ≠ none ∧ θ' nm = θ nm' ∧ (nm = q → nm' = p) ∧ (nm ≠ q → nm' = nm ∧ nm ≠ p) := fun nm hn => by
    by_cases h1 : nm = q
    · exact ⟨p, by simp [hp], by simp [hθ, h1], fun _ => rfl, fun h => (h h1).elim⟩
    · by_cases h2 : nm = r
      · subst h2; exact ⟨nm, by simp [hr], by simp [hθ, h1, Ne.symm hpr], fun h => (h1 h).elim, fun _ => ⟨rfl, Ne.symm hpr⟩⟩
      · cases hx : own' nm with
        | none => exact (hn hx).elim
        | some o =>
          obtain ⟨h3, h4, h5⟩ := hinv nm o h1 h2 hx
          exact ⟨nm, by simp [h4], h5, fun h => (h1 h).elim, fun _ => ⟨rfl, h3⟩⟩
  have hq' : own' q = some (.tok sz e m) := by simp [hown]
  have hr' : own' r = some (.arr s1 e1 n F') := by simp [hown, Ne.symm hqr, Ne.symm hpr]
  have hrel := h.chg.rel
  have hθr : θ' r = θ r := by simp [hθ, Ne.symm hqr, Ne.symm hpr]
  have hθq : θ' q = θ p := by simp [hθ]
  refine ⟨h.size, h.defers, fun t => hT _ _ (hfree t) (h.slots t), { h.chg with le := fun nm o ho => ?_, rel := ⟨fun nm e0 cells ho => ?_, fun nm s' e' m' ho g c hg => ?_, fun nm nm' g c c' ho ho' hg hg' => ?_, fun nm s' e' m' f' ho => ?_, fun nm x ho => ?_, fun nm s' m' ho hnn => ?_⟩, new := fun nm g c ho hg => ?_ }⟩
  · obtain ⟨o', ho', hl⟩ := h.chg.le nm o ho
    have hnp : nm ≠ p := by rintro rfl; rw [hp0] at ho; cases ho
    obtain ⟨o'', h1, h2⟩ := hkeep nm o' hnp ho'
    exact ⟨o'', h1, hl.trans h2⟩
  · replace ho : own' nm = some _ := ho
    have h1 : nm ≠ q := by rintro rfl; rw [hq'] at ho; cases ho
    have h2 : nm ≠ r := by rintro rfl; rw [hr'] at ho; cases ho
    obtain ⟨h3, h4, h5⟩ := hinv nm _ h1 h2 ho
    obtain ⟨g, c, vs, r1, r2, r3, r4, r5, r6⟩ := hrel.row nm e0 cells h4
    exact ⟨g, c, vs, h5.trans r1, r2, r3, r4, fun j hj => hT _ _ (hrows nm _ h2 h4 j hj) (r5 j hj), r6⟩
  · replace ho : own' nm = some _ := ho
    by_cases h1 : nm = q
    · subst h1
      rw [hq'] at ho
      simp only [Option.some.injEq, Own.tok.injEq] at ho
      obtain ⟨rfl, rfl, rfl⟩ := ho
      exact hrel.tok p _ _ _ hp g c (hθq.symm.trans hg)
    · have h2 : nm ≠ r := by rintro rfl; rw [hr'] at ho; cases ho
      obtain ⟨h3, h4, h5⟩ := hinv nm _ h1 h2 ho
      exact hrel.tok nm _ _ _ h4 g c (h5.symm.trans hg)
  · obtain ⟨n1, a1, a2, a3, a4⟩ := hnone nm ho
    obtain ⟨n2, b1, b2, b3, b4⟩ := hnone nm' ho'
    have := hrel.inj n1 n2 g c c' a1 b1 (a2.symm.trans hg) (b2.symm.trans hg')
    by_cases h1 : nm = q
    · by_cases h2 : nm' = q
      · rw [h1, h2]
      · have := a3 h1; have := b4 h2; omega
    · by_cases h2 : nm' = q
      · have := a4 h1; have := b3 h2; omega
      · have := a4 h1; have := b4 h2; omega
  · replace ho : own' nm = some _ := ho
    have h1 : nm ≠ q := by rintro rfl; rw [hq'] at ho; cases ho
    by_cases h2 : nm = r
    · subst h2
      rw [hr'] at ho
      simp only [Option.some.injEq, Own.arr.injEq] at ho
      obtain ⟨rfl, rfl, rfl, rfl⟩ := ho
      exact arr_map' (hrel.arr nm _ _ _ _ hr) hθr hlen hF
    · obtain ⟨h3, h4, h5⟩ := hinv nm _ h1 h2 ho
      exact arr_map' (hrel.arr nm _ _ _ _ h4) h5 (fun _ _ => rfl) (fun i j v hi hj hv => hT _ _ (hrows nm _ h2 h4 i j hi hj) hv)
  · replace ho : own' nm = some _ := ho
    have h1 : nm ≠ q := by rintro rfl; rw [hq'] at ho; cases ho
    have h2 : nm ≠ r := by rintro rfl; rw [hr'] at ho; cases ho
    obtain ⟨h3, h4, h5⟩ := hinv nm _ h1 h2 ho
    exact obj_map (hrel.obj nm _ h4) h5 (fun _ _ _ => rfl) (fun _ _ _ _ h => h) (fun _ h => h)
  · replace ho : own' nm = some _ := ho
    by_cases h1 : nm = q
    · subst h1
      rw [hq'] at ho
      simp only [Option.some.injEq, Own.tok.injEq] at ho
      obtain ⟨rfl, he, rfl⟩ := ho
      exact hrel.tok8 p _ _ (by rw [hp, he]) (hθq.symm.trans hnn)
    · have h2 : nm ≠ r := by rintro rfl; rw [hr'] at ho; cases ho
      obtain ⟨h3, h4, h5⟩ := hinv nm _ h1 h2 ho
      exact hrel.tok8 nm _ _ h4 (h5.symm.trans hnn)
  · obtain ⟨n1, a1, a2, _, _⟩ := hnone nm ho
    exact h.chg.new n1 g c a1 (a2.symm.trans hg)

/-- Names that are new, of slices that lie nowhere yet, with the row that has them. -/
theorem rel_births (h : Rel Γ σ I θ a w) {r s1 n : Nat} {e1 : TypeId} {F F' : Nat → List AV} (hr : σ.own r = some (.arr s1 e1 n F)) {S : Nat → Option (Nat × TypeId × Nat)} (hS : ∀ x y, S x = some y → σ.own x = none)
    (h8 : ∀ x sz m, S x = some (sz, tokU8, m) → m = 0) {own' : Nat → Option Own} {θ' : Nat → Option (Nat × Nat)}
    (hown : own' = fun x => match S x with | some y => some (.tok y.1 y.2.1 y.2.2) | none => if x = r then some (.arr s1 e1 n F') else σ.own x)
    (hθ : θ' = fun x => match S x with | some _ => none | none => θ x) (hlen : ∀ j, j < n → (F' j).length = (F j).length)
    (hF : ∀ j c v, j < n → c < s1 → Rep I σ.own θ w v ((F j).getD c .any) → Rep I own' θ' w v ((F' j).getD c .any)) :
    Rel Γ ⟨σ.tmp, own'⟩ I θ' a w := by
  have hSn : ∀ nm o, σ.own nm = some o → S nm = none := fun nm o ho => by
    cases hx : S nm with
    | none => rfl
    | some y => rw [hS nm y hx] at ho; cases ho
  have hkeep : ∀ nm o, σ.own nm = some o → ∃ o', own' nm = some o' ∧ OwnLe o (θ nm) o' (θ' nm) := fun nm o ho => by
    have h1 := hSn nm o ho
    by_cases hnr : nm = r
    · subst hnr
      rw [hr] at ho
      obtain rfl := Option.some.inj ho
      exact ⟨.arr s1 e1 n F', by simp [hown, h1], by simp [hθ, h1, OwnLe]⟩
    · exact ⟨o, by simp [hown, h1, hnr, ho], by simp [hθ, h1, OwnLe.refl]⟩
  have hT : ∀ v x, Rep I σ.own θ w v x → Rep I own' θ' w v x := fun v x hv => hv.mono (fun _ _ h => h) (fun _ _ _ => rfl) hkeep
  have hinv : ∀ nm o, own' nm = some o → (∀ sz e m, o ≠ .tok sz e m) → nm ≠ r → σ.own nm = some o ∧ θ' nm = θ nm := fun nm o ho hn h2 => by
    cases hx : S nm with
    | none => simp [hown, hx, h2] at ho; exact ⟨ho, by simp [hθ, hx]⟩
    | some y => simp [hown, hx] at ho; exact (hn _ _ _ ho.symm).elim
  have hold : ∀ nm g c, own' nm ≠ none → θ' nm = some (g, c) → σ.own nm ≠ none ∧ θ nm = some (g, c) := fun nm g c ho hg => by
    cases hx : S nm with
    | some y => simp [hθ, hx] at hg
    | none =>
      simp [hθ, hx] at hg
      refine ⟨?_, hg⟩
      by_cases h2 : nm = r
      · subst h2; simp [hr]
      · simpa [hown, hx, h2] using ho
  have hSr : S r = none := hSn r _ hr
  have hr' : own' r = some (.arr s1 e1 n F') := by simp [hown, hSr]
  have hθr : θ' r = θ r := by simp [hθ, hSr]
  have hrel := h.chg.rel
  refine ⟨h.size, h.defers, fun t => hT _ _ (h.slots t), { h.chg with le := fun nm o ho => ?_, rel := ⟨fun nm e0 cells ho => ?_, fun nm s' e' m' ho g c hg => ?_, fun nm nm' g c c' ho ho' hg hg' => ?_, fun nm s' e' m' f' ho => ?_, fun nm x ho => ?_, fun nm s' m' ho hnn => ?_⟩, new := fun nm g c ho hg => ?_ }⟩
  · obtain ⟨o', ho', hl⟩ := h.chg.le nm o ho
    obtain ⟨o'', h1, h2⟩ := hkeep nm o' ho'
    exact ⟨o'', h1, hl.trans h2⟩
  · replace ho : own' nm = some _ := ho
    have h2 : nm ≠ r := by rintro rfl; rw [hr'] at ho; cases ho
    obtain ⟨h4, h5⟩ := hinv nm _ ho (fun _ _ _ h => by cases h) h2
    obtain ⟨g, c, vs, r1, r2, r3, r4, r5, r6⟩ := hrel.row nm e0 cells h4
    exact ⟨g, c, vs, h5.trans r1, r2, r3, r4, fun j hj => hT _ _ (r5 j hj), r6⟩
  · replace ho : own' nm = some _ := ho
    obtain ⟨h1, h2⟩ := hold nm g c (by rw [ho]; simp) hg
    cases hx : S nm with
    | some y => simp [hθ, hx] at hg
    | none =>
      have h3 : nm ≠ r := by rintro rfl; rw [hr'] at ho; cases ho
      simp [hown, hx, h3] at ho
      exact hrel.tok nm _ _ _ ho g c h2
  · obtain ⟨a1, a2⟩ := hold nm g c ho hg
    obtain ⟨b1, b2⟩ := hold nm' g c' ho' hg'
    exact hrel.inj nm nm' g c c' a1 b1 a2 b2
  · replace ho : own' nm = some _ := ho
    by_cases h2 : nm = r
    · subst h2
      rw [hr'] at ho
      simp only [Option.some.injEq, Own.arr.injEq] at ho
      obtain ⟨rfl, rfl, rfl, rfl⟩ := ho
      exact arr_map' (hrel.arr nm _ _ _ _ hr) hθr hlen hF
    · obtain ⟨h4, h5⟩ := hinv nm _ ho (fun _ _ _ h => by cases h) h2
      exact arr_map' (hrel.arr nm _ _ _ _ h4) h5 (fun _ _ => rfl) (fun i j v _ _ hv => hT _ _ hv)
  · replace ho : own' nm = some _ := ho
    have h2 : nm ≠ r := by rintro rfl; rw [hr'] at ho; cases ho
    obtain ⟨h4, h5⟩ := hinv nm _ ho (fun _ _ _ h => by cases h) h2
    exact obj_map (hrel.obj nm _ h4) h5 (fun _ _ _ => rfl) (fun _ _ _ _ h => h) (fun _ h => h)
  · replace ho : own' nm = some _ := ho
    cases hx : S nm with
    | some y =>
      simp only [hown, hx, Option.some.injEq, Own.tok.injEq] at ho
      obtain ⟨h1, h2, h3⟩ := ho
      rw [← h3]
      exact h8 nm y.1 y.2.2 (by rw [hx, ← h2])
    | none =>
      have h3 : nm ≠ r := by rintro rfl; rw [hr'] at ho; cases ho
      simp [hown, hx, h3] at ho
      simp [hθ, hx] at hnn
      exact hrel.tok8 nm _ _ ho hnn
  · obtain ⟨a1, a2⟩ := hold nm g c ho hg
    exact h.chg.new nm g c a1 a2

/-! ### The same of stores -/
inductive OwnsFr (p : Tag → Bool) (r : Nat) : List (Nat × Own) → Prop
  | nil : OwnsFr p r []
  | row {nm : Nat} {e : TypeId} {cells : List AV} {l : List (Nat × Own)} (h : AV.freeAll p cells = true) (t : OwnsFr p r l) : OwnsFr p r ((nm, .row e cells) :: l)
  | here {o : Own} {l : List (Nat × Own)} (t : OwnsFr p r l) : OwnsFr p r ((r, o) :: l)
  | arr {nm sz m : Nat} {e : TypeId} {f : Nat → List AV} {l : List (Nat × Own)} (h : ∀ j, AV.freeAll p (f j) = true) (t : OwnsFr p r l) : OwnsFr p r ((nm, .arr sz e m f) :: l)
  | tok {nm sz m : Nat} {e : TypeId} {l : List (Nat × Own)} (t : OwnsFr p r l) : OwnsFr p r ((nm, .tok sz e m) :: l)
  | obj {nm : Nat} {x : AObj} {l : List (Nat × Own)} (t : OwnsFr p r l) : OwnsFr p r ((nm, .obj x) :: l)
theorem OwnsFr.get {p : Tag → Bool} {r q : Nat} (hp : ∀ x : AV, x.free p = true → Fr q x) {l : List (Nat × Own)} (h : OwnsFr p r l) {nm : Nat} {o : Own} (hn : nm ≠ r) (ho : look l nm = some o) : OwnFr q o := by
  induction h with
  | nil => cases ho
  | @row k e cells l h _ ih =>
    simp only [look] at ho
    cases hb : Nat.beq k nm with
    | true => rw [hb] at ho; simp only [cond_true, Option.some.injEq] at ho; subst ho; exact fun j _ => hp _ (freeAll_getD h j)
    | false => rw [hb] at ho; exact ih ho
  | @here o' l _ ih =>
    simp only [look] at ho
    cases hb : Nat.beq r nm with
    | true => exact (hn (Nat.eq_of_beq_eq_true hb).symm).elim
    | false => rw [hb] at ho; exact ih ho
  | @arr k sz m e f l h _ ih =>
    simp only [look] at ho
    cases hb : Nat.beq k nm with
    | true => rw [hb] at ho; simp only [cond_true, Option.some.injEq] at ho; subst ho; exact fun i j _ _ => hp _ (freeAll_getD (h i) j)
    | false => rw [hb] at ho; exact ih ho
  | @tok k sz m e l _ ih =>
    simp only [look] at ho
    cases hb : Nat.beq k nm with
    | true => rw [hb] at ho; simp only [cond_true, Option.some.injEq] at ho; subst ho; trivial
    | false => rw [hb] at ho; exact ih ho
  | @obj k x l _ ih =>
    simp only [look] at ho
    cases hb : Nat.beq k nm with
    | true => rw [hb] at ho; simp only [cond_true, Option.some.injEq] at ho; subst ho; trivial
    | false => rw [hb] at ho; exact ih ho
theorem OwnsFr.sto {p : Tag → Bool} {r q : Nat} (hp : ∀ x : AV, x.free p = true → Fr q x) {st : St} (h : OwnsFr p r st.own) {nm : Nat} {o : Own} (hn : nm ≠ r) (ho : st.sto.own nm = some o) : OwnFr q o := by
  by_cases hlt : nm < famB
  · exact h.get hp hn ((famOwn_lt hlt).symm.trans ho)
  · obtain ⟨sz, e, m, rfl⟩ := famOwn_tok hlt ho
    trivial
theorem tmps_fr {p : Tag → Bool} {q : Nat} (hp : ∀ x : AV, x.free p = true → Fr q x) {st : St} (h : st.tmps.all (fun x => x.2.free p) = true) (t : Nat) : Fr q (st.sto.tmp t) := by
  show Fr q (match look st.tmps t with | some x => x | none => .any)
  cases hx : look st.tmps t with
  | none => exact hp _ rfl
  | some x => exact hp _ (List.all_eq_true.1 h _ (look_mem' hx))
def remA {α : Type} (l : List (Nat × α)) (k : Nat) : List (Nat × α) := l.filter fun p => !Nat.beq p.1 k
theorem look_remA {α : Type} (l : List (Nat × α)) (k n : Nat) : look (remA l k) n = if k = n then none else look l n := by
  induction l with
  | nil => simp [remA, look]
  | cons p l ih =>
    obtain ⟨m, x⟩ := p
    have ih' : look (List.filter (fun p => !Nat.beq p.1 k) l) n = if k = n then none else look l n := ih
    simp only [remA, List.filter_cons, look]
    cases hb : Nat.beq m k with
    | true =>
      have := Nat.eq_of_beq_eq_true hb
      subst this
      simp only [Bool.not_true, Bool.false_eq_true, if_false, ih']
      by_cases h : m = n
      · simp [h]
      · have : Nat.beq m n = false := by cases hb : Nat.beq m n with | false => rfl | true => exact absurd (Nat.eq_of_beq_eq_true hb) h
        simp [h, this]
    | false =>
      simp only [Bool.not_false, if_true, look, ih']
      cases hb' : Nat.beq m n with
      | true =>
        have := Nat.eq_of_beq_eq_true hb'
        subst this
        have : k ≠ m := by rintro rfl; simp at hb
        simp [this]
      | false => simp

theorem rep_out {I : Nat → Nat → Prop} {own own' : Nat → Option Own} {θ θ' : Nat → Option (Nat × Nat)} {w : World} {v : Value} {sz n b i p q m : Nat} {e : TypeId} {f : Nat → List AV} (hv : Rep I own θ w v (.slice sz n f (.fam b i))) (hb : big b i = p) (hp : own p = some (.tok sz e m))
    (hq : own' q = some (.tok sz e m)) (hθ : θ' q = θ p) : Rep I own' θ' w v (.slice sz n f (.own q)) := by
  cases hv with
  | val v x h => obtain ⟨h, _⟩ := h.slice_inv; cases h
  | fam _ _ _ e' m a n' cap f hi' ho' hm hv' h' =>
    rw [hb] at ho' hv'
    rw [hp] at ho'
    simp only [Option.some.injEq, Own.tok.injEq] at ho'
    obtain ⟨_, rfl, rfl⟩ := ho'
    exact .own q sz e _ _ _ _ _ hq hm (fun hh => by rw [hθ]; exact hv' hh) h'
theorem rep_stay {I : Nat → Nat → Prop} {own own' : Nat → Option Own} {θ θ' : Nat → Option (Nat × Nat)} {w : World} {v : Value} {sz n b i p : Nat} {f : Nat → List AV} (hv : Rep I own θ w v (.slice sz n f (.fam b i))) (hb : big b i = p) (ho : i < famB → own' p = own p) (hθ : i < famB → θ' p = θ p) : Rep I own' θ' w v (.slice sz n f (.fam b i)) := by
  cases hv with
  | val v x h => obtain ⟨h, _⟩ := h.slice_inv; cases h
  | fam _ _ _ e' m a n' cap f hi' ho' hm hv' h' =>
    rw [hb] at ho' hv'
    exact .fam b i sz e' m _ _ _ _ hi' (by rw [hb, ho hi']; exact ho') hm (fun hh => by rw [hb, hθ hi']; exact hv' hh) h'
theorem rep_back {I : Nat → Nat → Prop} {own own' : Nat → Option Own} {θ θ' : Nat → Option (Nat × Nat)} {w : World} {v : Value} {sz n b i p q m : Nat} {e : TypeId} {f : Nat → List AV} (hv : Rep I own θ w v (.slice sz n f (.own p))) (hb : big b i = q) (hi : i < famB) (hp : own p = some (.tok sz e m))
    (hq : own' q = some (.tok sz e m)) (hθ : θ' q = θ p) : Rep I own' θ' w v (.slice sz n f (.fam b i)) := by
  cases hv with
  | val v x h => obtain ⟨h, _⟩ := h.slice_inv; cases h
  | own _ _ e' m' a n' cap f ho' hm' hv' h' =>
    rw [hp] at ho'
    simp only [Option.some.injEq, Own.tok.injEq] at ho'
    obtain ⟨_, rfl, rfl⟩ := ho'
    exact .fam b i sz e m _ _ _ _ hi (by rw [hb]; exact hq) hm' (fun hh => by rw [hb, hθ]; exact hv' hh) h'
theorem rep_new {I : Nat → Nat → Prop} {own own' : Nat → Option Own} {θ θ' : Nat → Option (Nat × Nat)} {w : World} {v : Value} {sz n b i q : Nat} {e : TypeId} {f : Nat → List AV} (hv : Rep I own θ w v (.slice sz n f .exact)) (hb : big b i = q) (hi : i < famB) (hq : own' q = some (.tok sz e n)) (hθ : θ' q = none) :
    Rep I own' θ' w v (.slice sz n f (.fam b i)) := by
  cases hv with
  | val v x h => obtain ⟨h, _⟩ := h.slice_inv; cases h
  | exact a n' s' f h' => exact .fam b i sz e _ _ _ _ _ hi (by rw [hb]; exact hq) (Nat.le_refl _) (fun _ => by rw [hb, hθ]) h'

section
variable {α : Type} {st : St} {r b k n sz : Nat} {e1 : TypeId}

theorem row_lt {I : Nat → Nat → Prop} {own : Nat → Option Own} {θ : Nat → Option (Nat × Nat)} {w : World} (h : OwnRel I own θ w) {s1 : Nat} {F : Nat → List AV} (hr : own r = some (.arr s1 e1 n F)) {i : Nat} (hi : i < n) : i < famB := by
  have hm : maxLen < famB := by decide
  obtain ⟨h1, h2⟩ := h.arr r _ _ _ _ hr
  cases hx : θ r with
  | none => have := h1 hx; omega
  | some y => obtain ⟨_, _, h3, h4, _⟩ := h2 y.1 y.2 hx; omega

/-- One of a family by a name of its own. -/
theorem le_take (enc : α → List AV) (d : α) (L : List (List α)) (i : Nat) (e : TypeId) (hr : look st.own r = some (.arr 1 e1 n (rowF sz enc d L (Tag.fam b)))) (hb : look st.fam b = some ⟨sz, e, famM L⟩) (hk : look st.own k = none) (hn : n = L.length) (hi : i < L.length)
    (ht : st.tmps.all (fun x => x.2.free (noFam b)) = true) (ho : OwnsFr (noFam b) r st.own) (hlr : Nat.blt r famB = true := by rfl) (hlk : Nat.blt k famB = true := by rfl) :
    Le Γ st ⟨st.tmps, putA (putA st.own r (.arr 1 e1 n (rowF sz enc d L (famTag b i k)))) k (.tok sz e (L.getD i []).length), putA st.fam b ⟨sz, e, holeM L i⟩⟩ := by
  intro I θ a w h
  have hlr : r < famB := by simpa [Nat.blt_eq] using hlr
  have hlk : k < famB := by simpa [Nat.blt_eq] using hlk
  have hr' : st.sto.own r = some (.arr 1 e1 n (rowF sz enc d L (Tag.fam b))) := (famOwn_lt hlr).trans hr
  have hk' : st.sto.own k = none := (famOwn_lt hlk).trans hk
  have hib : i < famB := row_lt h.chg.rel hr' (by omega)
  have hp : st.sto.own (big b i) = some (.tok sz e (L.getD i []).length) := by
    show famOwn _ _ _ = _
    rw [famOwn_big hib, hb]
    simp [famM, hi]
  have hkb : k ≠ big b i := fun he => by rw [he] at hlk; exact big_ge b i hlk
  have hrb : r ≠ big b i := fun he => by rw [he] at hlr; exact big_ge b i hlr
  have hown : (⟨st.tmps, putA (putA st.own r (.arr 1 e1 n (rowF sz enc d L (famTag b i k)))) k (.tok sz e (L.getD i []).length), putA st.fam b ⟨sz, e, holeM L i⟩⟩ : St).sto.own =
      fun x => if x = k then some (.tok sz e (L.getD i []).length) else if x = big b i then none else if x = r then some (.arr 1 e1 n (rowF sz enc d L (famTag b i k))) else st.sto.own x := by
    funext x
    show famOwn (putA (putA st.own r _) k _) (putA st.fam b _) x = if x = k then _ else if x = big b i then none else if x = r then _ else famOwn st.own st.fam x
    by_cases hx : x < famB
    · have h1 : x ≠ big b i := fun he => by rw [he] at hx; exact big_ge b i hx
      rw [famOwn_lt hx, famOwn_lt hx, look_putA, look_putA]
      simp only [eq_comm (a := k), eq_comm (a := r), h1, if_false]
    · have h1 : x ≠ k := by rintro rfl; exact hx hlk
      have h2 : x ≠ r := by rintro rfl; exact hx hlr
      rw [famOwn_ge hx, famOwn_ge hx, look_putA, if_neg h1, if_neg h2]
      by_cases hd : b = x / famB - 1
      · have hxe := big_of hx
        rw [← hd] at hxe
        by_cases hm : x % famB = i
        · rw [hm] at hxe
          rw [if_pos hd, if_pos hxe, hm]
          simp [holeM]
        · have h3 : x ≠ big b i := fun he => hm (by rw [he, big_mod hib])
          rw [if_pos hd, if_neg h3, ← hd, hb]
          simp [holeM, hm]
      · have h3 : x ≠ big b i := fun he => hd (by rw [he, big_div hib])
        rw [if_neg hd, if_neg h3]
  let θ' : Nat → Option (Nat × Nat) := fun x => if x = k then θ (big b i) else if x = big b i then none else θ x
  refine ⟨I, θ', ?_⟩
  have hrr := rel_rename (θ' := θ') h hp hk' hr' (by cases hx : Γ.own0 (big b i) with | none => rfl | some o => exact (big_ge b i (Γ.lt0 _ (by rw [hx]; simp))).elim)
    (fun t => tmps_fr (fun x hx => fr_fam hib hx) ht t) (fun nm o hne ho' => ho.sto (fun x hx => fr_fam hib hx) hne ho') hown rfl (fun j _ => rfl) (fun j c v hj hc hv => ?_)
  · exact hrr
  · obtain rfl : c = 0 := by omega
    show Rep I _ θ' w v (.slice sz _ _ (famTag b i k j))
    replace hv : Rep I st.sto.own θ w v (.slice sz (L.getD j []).length (fun i_ => enc ((L.getD j []).getD i_ d)) (.fam b j)) := hv
    cases hji : Nat.beq j i with
    | true =>
      have := Nat.eq_of_beq_eq_true hji
      subst this
      rw [show famTag b j k j = .own k by simp [famTag]]
      exact rep_out hv rfl hp ((congrFun hown k).trans (if_pos rfl)) (if_pos rfl)
    | false =>
      have hne : j ≠ i := by rintro rfl; simp at hji
      rw [show famTag b i k j = .fam b j by simp [famTag, hji]]
      have h3 : j < famB → big b j ≠ big b i := fun hi' he => hne (by rw [← big_mod (b := b) hi', he, big_mod hib])
      have h4 : big b j ≠ k := fun he => by rw [← he] at hlk; exact big_ge b j hlk
      have h5 : big b j ≠ r := fun he => by rw [← he] at hlr; exact big_ge b j hlr
      exact rep_stay hv rfl (fun hi' => (congrFun hown _).trans ((if_neg h4).trans ((if_neg (h3 hi')).trans (if_neg h5)))) (fun hi' => (if_neg h4).trans (if_neg (h3 hi')))

/-- .. and back. -/
theorem le_put (enc : α → List AV) (d : α) (L : List (List α)) (i : Nat) (x : List α) (e : TypeId) {F : Nat → List AV} {m : Nat} (hr : look st.own r = some (.arr 1 e1 n F)) (hF : ∀ j, j < n → F j = rowF sz enc d (L.set i x) (famTag b i k) j) (hb : look st.fam b = some ⟨sz, e, holeM L i⟩) (hk : look st.own k = some (.tok sz e m)) (hm : m = x.length) (hn : n = L.length) (hi : i < L.length)
    (ht : st.tmps.all (fun x => x.2.free (noOwn k)) = true) (ho : OwnsFr (noOwn k) r st.own) (h0 : Γ.own0 k = none) (hlr : Nat.blt r famB = true := by rfl) (hlk : Nat.blt k famB = true := by rfl) :
    Le Γ st ⟨st.tmps, remA (putA st.own r (.arr 1 e1 n (rowF sz enc d (L.set i x) (Tag.fam b)))) k, putA st.fam b ⟨sz, e, famM (L.set i x)⟩⟩ := by
  intro I θ a w h
  have hlr : r < famB := by simpa [Nat.blt_eq] using hlr
  have hlk : k < famB := by simpa [Nat.blt_eq] using hlk
  have hr' : st.sto.own r = some (.arr 1 e1 n F) := (famOwn_lt hlr).trans hr
  have hk' : st.sto.own k = some (.tok sz e m) := (famOwn_lt hlk).trans hk
  have hib : i < famB := row_lt h.chg.rel hr' (by omega)
  have hp : st.sto.own (big b i) = none := by
    show famOwn _ _ _ = _
    rw [famOwn_big hib, hb]
    simp [holeM]
  have hgi : (L.set i x).getD i [] = x := by simp [List.getD, hi]
  have hgj : ∀ j, j ≠ i → (L.set i x).getD j [] = L.getD j [] := fun j hj => by simp [List.getD, Ne.symm hj]
  have hkr : k ≠ r := by rintro rfl; rw [hk] at hr; cases hr
  have hkb : k ≠ big b i := fun he => by rw [he] at hlk; exact big_ge b i hlk
  have hown : (⟨st.tmps, remA (putA st.own r (.arr 1 e1 n (rowF sz enc d (L.set i x) (Tag.fam b)))) k, putA st.fam b ⟨sz, e, famM (L.set i x)⟩⟩ : St).sto.own =
      fun y => if y = big b i then some (.tok sz e m) else if y = k then none else if y = r then some (.arr 1 e1 n (rowF sz enc d (L.set i x) (Tag.fam b))) else st.sto.own y := by
    funext y
    show famOwn (remA (putA st.own r _) k) (putA st.fam b _) y = if y = big b i then _ else if y = k then none else if y = r then _ else famOwn st.own st.fam y
    by_cases hx : y < famB
    · have h1 : y ≠ big b i := fun he => by rw [he] at hx; exact big_ge b i hx
      rw [famOwn_lt hx, famOwn_lt hx, look_remA, look_putA]
      simp only [eq_comm (a := k), eq_comm (a := r), h1, if_false]
    · have h1 : y ≠ k := by rintro rfl; exact hx hlk
      have h2 : y ≠ r := by rintro rfl; exact hx hlr
      rw [famOwn_ge hx, famOwn_ge hx, look_putA, if_neg h1, if_neg h2]
      by_cases hd : b = y / famB - 1
      · have hxe := big_of hx
        rw [← hd] at hxe
        by_cases hm' : y % famB = i
        · rw [hm'] at hxe
          rw [if_pos hd, if_pos hxe, hm', Option.bind_some]
          show (famM (L.set i x) i).map _ = _
          simp only [famM, List.length_set, hi, if_true, hgi, hm, Option.map_some]
        · have h3 : y ≠ big b i := fun he => hm' (by rw [he, big_mod hib])
          rw [if_pos hd, if_neg h3, ← hd, hb]
          simp only [Option.bind_some, holeM, hm', if_false, famM, List.length_set, hgj _ hm']
      · have h3 : y ≠ big b i := fun he => hd (by rw [he, big_div hib])
        rw [if_neg hd, if_neg h3]
  let θ' : Nat → Option (Nat × Nat) := fun y => if y = big b i then θ k else if y = k then none else θ y
  refine ⟨I, θ', ?_⟩
  have hrr := rel_rename (θ' := θ') h hk' hp hr' h0 (fun t => tmps_fr (fun x hx => fr_own hlk hx) ht t) (fun nm o hne ho' => ho.sto (fun x hx => fr_own hlk hx) hne ho') hown rfl
    (fun j hj => by rw [hF j hj]; rfl) (fun j c v hj hc hv => ?_)
  · exact hrr
  · obtain rfl : c = 0 := by omega
    rw [hF j hj] at hv
    show Rep I _ θ' w v (.slice sz _ _ (.fam b j))
    replace hv : Rep I st.sto.own θ w v (.slice sz ((L.set i x).getD j []).length (fun i_ => enc (((L.set i x).getD j []).getD i_ d)) (famTag b i k j)) := hv
    cases hji : Nat.beq j i with
    | true =>
      have := Nat.eq_of_beq_eq_true hji
      subst this
      rw [show famTag b j k j = .own k by simp [famTag]] at hv
      exact rep_back hv rfl hib hk' ((congrFun hown _).trans (if_pos rfl)) (if_pos rfl)
    | false =>
      have hne : j ≠ i := by rintro rfl; simp at hji
      rw [show famTag b i k j = .fam b j by simp [famTag, hji]] at hv
      have h3 : j < famB → big b j ≠ big b i := fun hi' he => hne (by rw [← big_mod (b := b) hi', he, big_mod hib])
      have h4 : big b j ≠ k := fun he => by rw [← he] at hlk; exact big_ge b j hlk
      have h5 : big b j ≠ r := fun he => by rw [← he] at hlr; exact big_ge b j hlr
      exact rep_stay hv rfl (fun hi' => (congrFun hown _).trans ((if_neg (h3 hi')).trans ((if_neg h4).trans (if_neg h5)))) (fun hi' => (if_neg (h3 hi')).trans (if_neg h4))

/-- A row of slices that have no room to spare becomes a family. -/
theorem le_birth (enc : α → List AV) (d : α) (L : List (List α)) (e : TypeId) (hr : look st.own r = some (.arr 1 e1 n (rowF sz enc d L (fun _ => .exact)))) (hb : look st.fam b = none) (hn : n = L.length) (h8 : e = tokU8 → ∀ j, (L.getD j []).length = 0) (hlr : Nat.blt r famB = true := by rfl) :
    Le Γ st ⟨st.tmps, putA st.own r (.arr 1 e1 n (rowF sz enc d L (Tag.fam b))), putA st.fam b ⟨sz, e, famM L⟩⟩ := by
  intro I θ a w h
  have hlr : r < famB := by simpa [Nat.blt_eq] using hlr
  have hr' : st.sto.own r = some (.arr 1 e1 n (rowF sz enc d L (fun _ => .exact))) := (famOwn_lt hlr).trans hr
  let S : Nat → Option (Nat × TypeId × Nat) := fun x => if x < famB then none else if b = x / famB - 1 then (famM L (x % famB)).map fun m => (sz, e, m) else none
  have hown : (⟨st.tmps, putA st.own r (.arr 1 e1 n (rowF sz enc d L (Tag.fam b))), putA st.fam b ⟨sz, e, famM L⟩⟩ : St).sto.own =
      fun x => match S x with | some y => some (.tok y.1 y.2.1 y.2.2) | none => if x = r then some (.arr 1 e1 n (rowF sz enc d L (Tag.fam b))) else st.sto.own x := by
    funext x
    show famOwn (putA st.own r _) (putA st.fam b _) x = match S x with | some y => _ | none => if x = r then _ else famOwn st.own st.fam x
    by_cases hx : x < famB
    · have : S x = none := by simp [S, hx]
      rw [famOwn_lt hx, famOwn_lt hx, look_putA, this]
      simp only [eq_comm (a := r)]
    · have h2 : x ≠ r := by rintro rfl; exact hx hlr
      rw [famOwn_ge hx, famOwn_ge hx, look_putA]
      by_cases hd : b = x / famB - 1
      · have : S x = (famM L (x % famB)).map fun m => (sz, e, m) := by simp only [S, hx, if_false, if_pos hd]
        rw [if_pos hd, this, if_neg h2, ← hd, hb]
        simp only [Option.bind_some]
        cases famM L (x % famB) <;> rfl
      · have : S x = none := by simp only [S, hx, if_false, if_neg hd]
        rw [if_neg hd, this, if_neg h2]
  have hS : ∀ x y, S x = some y → st.sto.own x = none := fun x y hx => by
    by_cases h1 : x < famB
    · simp [S, h1] at hx
    · by_cases hd : b = x / famB - 1
      · show famOwn _ _ x = none
        rw [famOwn_ge h1, ← hd, hb]; rfl
      · simp only [S, h1, if_false, if_neg hd] at hx; cases hx
  refine ⟨I, _, rel_births h hr' hS (fun x s m hx => ?_) hown rfl (fun j _ => rfl) (fun j c v hj hc hv => ?_)⟩
  · by_cases h1 : x < famB
    · simp [S, h1] at hx
    · by_cases hd : b = x / famB - 1
      · simp only [S, h1, if_false, if_pos hd] at hx
        obtain ⟨m', hm', he⟩ := Option.map_eq_some_iff.1 hx
        simp only [Prod.mk.injEq] at he
        obtain ⟨_, he, rfl⟩ := he
        unfold famM at hm'
        split at hm'
        · simp only [Option.some.injEq] at hm'; rw [← hm']; exact h8 he _
        · cases hm'
      · simp only [S, h1, if_false, if_neg hd] at hx; cases hx
  · obtain rfl : c = 0 := by omega
    have hjb : j < famB := row_lt h.chg.rel hr' hj
    replace hv : Rep I st.sto.own θ w v (.slice sz (L.getD j []).length (fun i_ => enc ((L.getD j []).getD i_ d)) .exact) := hv
    show Rep I _ _ w v (.slice sz (L.getD j []).length (fun i_ => enc ((L.getD j []).getD i_ d)) (.fam b j))
    have hSj : S (big b j) = some (sz, e, (L.getD j []).length) := by
      simp only [S, big_ge b j, if_false, big_div hjb, if_true, big_mod hjb, famM]
      rw [if_pos (by omega)]; rfl
    exact rep_new hv rfl hjb ((congrFun hown _).trans (by rw [hSj])) (by rw [hSj])
end
end
theorem av_famtag {α : Type} {sz b i k : Nat} {e : α → List AV} {d : α} {l : List α} : AVle (AV.list sz e d l (famTag b i k i)) (AV.list sz e d l (.own k)) := by
  have : famTag b i k i = .own k := by simp [famTag]
  rw [this]
  exact AVle.refl _
theorem putF_fam {α : Type} {sz b i k k0 : Nat} {e : α → List AV} {d : α} {L : List (List α)} {x : List α} {n : Nat} {keep : Nat → Bool} (hi : i < L.length) (hk : keep k = true) (hb : keep b = true) :
    ∀ j, j < n → AV.eraseAll keep (putF (rowF sz e d L (famTag b i k0)) i 0 [AV.list sz e d x (.own k)] j) = rowF sz e d (L.set i x) (famTag b i k) j := fun j _ => by
  unfold putF
  cases hji : Nat.beq j i with
  | true =>
    have := Nat.eq_of_beq_eq_true hji
    subst this
    simp [rowF, AV.eraseAll, AV.erase, AV.list, famTag, hk, List.getD, hi]
  | false =>
    have hne : i ≠ j := by rintro rfl; simp at hji
    simp [rowF, AV.eraseAll, AV.erase, AV.list, famTag, hji, hb, List.getD, hne]
theorem fam_zero {α : Type} {sz n : Nat} {e : α → List AV} {d : α} {keep : Nat → Bool} : ∀ k, k < n → AVleL (AV.eraseAll keep [.slice 0 0 (fun _ => []) .exact]) (rowF sz e d (List.replicate n []) (fun _ => .exact) k) := fun k hk => by
  have : (List.replicate n ([] : List α)).getD k [] = [] := by simp [List.getD, hk]
  unfold rowF
  rw [this]
  exact .cons av_nil .nil

/-! ### Rows cut off -/
mutual
/-- A row's name isn't in it. -/
def AV.freeN (r : Nat) : AV → Bool
  | .vsl nm _ => !Nat.beq nm r
  | .vpt nm _ _ _ => !Nat.beq nm r
  | .vsub nm _ _ _ => !Nat.beq nm r
  | .clo _ xs ys => AV.freeNAll r xs && AV.freeNAll r ys
  | .agg cs => AV.freeNAll r cs
  | .tuple cs => AV.freeNAll r cs
  | .cond _ x => x.freeN r
  | _ => true
def AV.freeNAll (r : Nat) : List AV → Bool
  | [] => true
  | x :: l => x.freeN r && AV.freeNAll r l
end
theorem freeNAll_getD {r : Nat} {l : List AV} (h : AV.freeNAll r l = true) (j : Nat) : (l.getD j .any).freeN r = true := by
  induction l generalizing j with
  | nil => simp [AV.freeN]
  | cons x l ih =>
    simp only [AV.freeNAll, Bool.and_eq_true] at h
    cases j with
    | zero => simpa using h.1
    | succ j => simpa using ih h.2 j
theorem rep_freeN {I : Nat → Nat → Prop} {own own' : Nat → Option Own} {θ : Nat → Option (Nat × Nat)} {w : World} {v : Value} {x : AV} {r : Nat} (h : Rep I own θ w v x) (hx : x.freeN r = true) (hr : ∃ sz e m f, own r = some (.arr sz e m f))
    (ho : ∀ nm, nm ≠ r → own' nm = own nm) : Rep I own' θ w v x := by
  obtain ⟨s0, e0, m0, f0, hr⟩ := hr
  have hne : ∀ {nm o}, own nm = some o → (∀ sz e m f, o ≠ .arr sz e m f) → own' nm = some o := fun {nm o} hn hh => by
    rw [ho nm (by rintro rfl; rw [hr] at hn; exact hh _ _ _ _ (Option.some.inj hn).symm)]
    exact hn
  have hbq : ∀ {nm : Nat}, (!Nat.beq nm r) = true → nm ≠ r := fun h e => by subst e; simp at h
  induction h with
  | val v x h => exact .val v x h
  | exact a n sz f h => exact .exact a n sz f h
  | own nm sz e m a n cap f hn hm hv h => exact .own nm sz e m a n cap f (hne hn (fun _ _ _ _ h => by cases h)) hm hv h
  | fam b i sz e m a n cap f hi hn hm hv h => exact .fam b i sz e m a n cap f hi (hne hn (fun _ _ _ _ h => by cases h)) hm hv h
  | ptr nm off e cells g c hn hg => exact .ptr nm off e cells g c (hne hn (fun _ _ _ _ h => by cases h)) hg
  | vsl nm sz e m f a n cap hn hm hcap hmax hnn hv => exact .vsl nm sz e m f a n cap ((ho nm (hbq hx)).trans hn) hm hcap hmax hnn hv
  | vpt nm sz e m f n i j ad hn hm hi hv => exact .vpt nm sz e m f n i j ad ((ho nm (hbq hx)).trans hn) hm hi hv
  | clo f fs cs xs ys hl hl' _ _ ih ih' =>
    simp only [AV.freeN, Bool.and_eq_true] at hx
    exact .clo f fs cs xs ys hl hl' (fun j hj => ih j hj (freeNAll_getD hx.1 j)) (fun j hj => ih' j hj (freeNAll_getD hx.2 j))
  | optr nm x g c hn hg => exact .optr nm x g c (hne hn (fun _ _ _ _ h => by cases h)) hg
  | vsub nm sz e m f n lo hi a cap hn hm hlo hhi hcap hmax hnn hv => exact .vsub nm sz e m f n lo hi a cap ((ho nm (hbq hx)).trans hn) hm hlo hhi hcap hmax hnn hv
  | cond v c x _ h' ih => exact .cond v c x (fun hc => ih hc hx) h'
  | agg vs cs hl h1 _ ih => exact .agg vs cs hl h1 (fun j hj => ih j hj (freeNAll_getD hx j))
  | tuple vs cs hl _ ih => exact .tuple vs cs hl (fun j hj => ih j hj (freeNAll_getD hx j))
inductive OwnsFrN (r : Nat) : List (Nat × Own) → Prop
  | nil : OwnsFrN r []
  | row {nm : Nat} {e : TypeId} {cells : List AV} {l : List (Nat × Own)} (h : AV.freeNAll r cells = true) (t : OwnsFrN r l) : OwnsFrN r ((nm, .row e cells) :: l)
  | arr {nm sz m : Nat} {e : TypeId} {f : Nat → List AV} {l : List (Nat × Own)} (h : ∀ j, AV.freeNAll r (f j) = true) (t : OwnsFrN r l) : OwnsFrN r ((nm, .arr sz e m f) :: l)
  | tok {nm sz m : Nat} {e : TypeId} {l : List (Nat × Own)} (t : OwnsFrN r l) : OwnsFrN r ((nm, .tok sz e m) :: l)
  | obj {nm : Nat} {x : AObj} {l : List (Nat × Own)} (t : OwnsFrN r l) : OwnsFrN r ((nm, .obj x) :: l)
def OwnN (r : Nat) : Own → Prop
  | .row _ cells => AV.freeNAll r cells = true
  | .arr _ _ _ f => ∀ j, AV.freeNAll r (f j) = true
  | _ => True
theorem OwnsFrN.get {r : Nat} {l : List (Nat × Own)} (h : OwnsFrN r l) {nm : Nat} {o : Own} (ho : look l nm = some o) : OwnN r o := by
  induction h with
  | nil => cases ho
  | @row k e cells l h _ ih =>
    simp only [look] at ho
    cases hb : Nat.beq k nm with
    | true => rw [hb] at ho; simp only [cond_true, Option.some.injEq] at ho; subst ho; exact h
    | false => rw [hb] at ho; exact ih ho
  | @arr k sz m e f l h _ ih =>
    simp only [look] at ho
    cases hb : Nat.beq k nm with
    | true => rw [hb] at ho; simp only [cond_true, Option.some.injEq] at ho; subst ho; exact h
    | false => rw [hb] at ho; exact ih ho
  | @tok k sz m e l _ ih =>
    simp only [look] at ho
    cases hb : Nat.beq k nm with
    | true => rw [hb] at ho; simp only [cond_true, Option.some.injEq] at ho; subst ho; trivial
    | false => rw [hb] at ho; exact ih ho
  | @obj k x l _ ih =>
    simp only [look] at ho
    cases hb : Nat.beq k nm with
    | true => rw [hb] at ho; simp only [cond_true, Option.some.injEq] at ho; subst ho; trivial
    | false => rw [hb] at ho; exact ih ho

/-- A row of which only a part, from its beginning on, is told any more. -/
theorem le_trunc {Γ : Env} {st : St} {t r s n k : Nat} {e : TypeId} {f : Nat → List AV} (hs : st.get t = .vsub r n 0 k) (hr : look st.own r = some (.arr s e n f)) (hk : k ≤ n)
    (ht : (st.tmps.all fun x => Nat.beq x.1 t || x.2.freeN r) = true) (ho : OwnsFrN r st.own) (h0 : Γ.own0 r = none) (hlt : Nat.blt r famB = true := by rfl) :
    Le Γ st ⟨putA st.tmps t (.vsl r k), putA st.own r (.arr s e k f), st.fam⟩ := by
  intro I θ a w h
  have hlt : r < famB := by simpa [Nat.blt_eq] using hlt
  have hr' : st.sto.own r = some (.arr s e n f) := (famOwn_lt hlt).trans hr
  have hown : (⟨putA st.tmps t (.vsl r k), putA st.own r (.arr s e k f), st.fam⟩ : St).sto.own = ownUp st.sto.own r (.arr s e k f) := by
    funext x
    show famOwn (putA st.own r _) _ x = _
    rw [famOwn_putA hlt]
    simp only [ownUp]
    by_cases hx : r = x
    · subst hx; simp
    · simp [hx, Ne.symm hx]; rfl
  have hsame : ∀ nm, nm ≠ r → ownUp st.sto.own r (.arr s e k f) nm = st.sto.own nm := fun nm hn => by simp [ownUp, hn]
  have hT : ∀ v x, x.freeN r = true → Rep I st.sto.own θ w v x → Rep I (ownUp st.sto.own r (.arr s e k f)) θ w v x := fun v x hx hv => rep_freeN hv hx ⟨_, _, _, _, hr'⟩ hsame
  have hrel := h.chg.rel
  have hrows : ∀ nm o, st.sto.own nm = some o → OwnN r o := fun nm o hn => by
    by_cases hl : nm < famB
    · exact ho.get ((famOwn_lt hl).symm.trans hn)
    · obtain ⟨_, _, _, rfl⟩ := famOwn_tok hl hn; trivial
  have hget : ∀ t', (⟨putA st.tmps t (.vsl r k), putA st.own r (.arr s e k f), st.fam⟩ : St).sto.tmp t' = if t = t' then .vsl r k else st.get t' := fun t' => by
    show (match look (putA st.tmps t _) t' with | some x => x | none => .any) = _
    rw [look_putA]
    by_cases hk : t = t'
    · simp [hk]
    · simp [hk]; rfl
  refine ⟨I, θ, h.size, h.defers, fun t' => ?_, ?_⟩
  · rw [hown, hget]
    split
    · rename_i htt
      subst htt
      have hv := h.slots t
      have hv' : Rep I st.sto.own θ w (a.tmps.getD t undef) (.vsub r n 0 k) := by rw [← hs]; exact hv
      obtain ⟨sz, e', m, f', ad, cap, he, ho', hm, _, hhi, hcap, hmax, hn, hvv⟩ := hv'.vsub_inv
      rw [hr'] at ho'
      simp only [Option.some.injEq, Own.arr.injEq] at ho'
      obtain ⟨rfl, rfl, rfl, rfl⟩ := ho'
      rw [he]
      refine .vsl r s e k f ad _ cap (by simp [ownUp]) (Nat.le_refl _) hcap hmax hn (fun _ => ?_)
      have hz := (hvv rfl).2 rfl
      cases hθ : θ r with
      | none => rw [hθ] at hz; have := (hrel.arr r _ _ _ _ hr').1 hθ; simp only at hz ⊢; omega
      | some gc => rw [hθ] at hz; exact hz
    · rename_i htt
      have hx : (st.get t').freeN r = true := by
        unfold St.get
        cases hl : look st.tmps t' with
        | none => rfl
        | some x =>
          have := List.all_eq_true.1 ht _ (look_mem' hl)
          simp only [Bool.or_eq_true] at this
          rcases this with h' | h'
          · exact (htt (Nat.eq_of_beq_eq_true h').symm).elim
          · exact h'
      exact hT _ _ hx (h.slots t')
  · rw [hown]
    refine { h.chg with le := fun nm o hno => ?_, rel := ⟨fun nm e0 cells hn => ?_, fun nm s' e' m' hn g c hg => ?_, fun nm nm' g c c' hn hn' hg hg' => ?_, fun nm s' e' m' f' hn => ?_, fun nm x hn => ?_, fun nm s' m' hn hnn => ?_⟩, new := fun nm g c hn hg => ?_ }
    · obtain ⟨o', ho', hl⟩ := h.chg.le nm o hno
      exact ⟨o', (hsame nm (by rintro rfl; rw [h0] at hno; cases hno)).trans ho', hl⟩
    · have hne : nm ≠ r := by rintro rfl; simp [ownUp] at hn
      rw [hsame nm hne] at hn
      obtain ⟨g, c, vs, r1, r2, r3, r4, r5, r6⟩ := hrel.row nm e0 cells hn
      exact ⟨g, c, vs, r1, r2, r3, r4, fun j hj => hT _ _ (freeNAll_getD (hrows nm _ hn) j) (r5 j hj), r6⟩
    · have hne : nm ≠ r := by rintro rfl; simp [ownUp] at hn
      rw [hsame nm hne] at hn
      exact hrel.tok nm _ _ _ hn g c hg
    · have hx : ∀ nm, ownUp st.sto.own r (.arr s e k f) nm ≠ none → st.sto.own nm ≠ none := fun nm hn => by
        by_cases hne : nm = r
        · subst hne; rw [hr']; simp
        · rwa [hsame nm hne] at hn
      exact hrel.inj nm nm' g c c' (hx nm hn) (hx nm' hn') hg hg'
    · by_cases hne : nm = r
      · subst hne
        simp only [ownUp, if_true, Option.some.injEq, Own.arr.injEq] at hn
        obtain ⟨rfl, rfl, rfl, rfl⟩ := hn
        obtain ⟨q0, q1⟩ := hrel.arr nm _ _ _ _ hr'
        refine ⟨fun hθ => by have := q0 hθ; omega, fun g c hg => ?_⟩
        obtain ⟨cur, p1, p2, p3, p4, p5, p6, p7⟩ := q1 g c hg
        exact ⟨cur, p1, by omega, p3, p4, fun i hi => p5 i (by omega), fun i j hi hj => ⟨(p6 i j (by omega) hj).1, hT _ _ (freeNAll_getD (hrows nm _ hr' i) j) (p6 i j (by omega) hj).2⟩, p7⟩
      · rw [hsame nm hne] at hn
        exact arr_map' (hrel.arr nm _ _ _ _ hn) rfl (fun _ _ => rfl) (fun i j v _ _ hv => hT _ _ (freeNAll_getD (hrows nm _ hn i) j) hv)
    · have hne : nm ≠ r := by rintro rfl; simp [ownUp] at hn
      rw [hsame nm hne] at hn
      exact obj_map (hrel.obj nm _ hn) rfl (fun _ _ _ => rfl) (fun _ _ _ _ h => h) (fun _ h => h)
    · have hne : nm ≠ r := by rintro rfl; simp [ownUp] at hn
      rw [hsame nm hne] at hn
      exact hrel.tok8 nm _ _ hn hnn
    · have hx : st.sto.own nm ≠ none := by
        by_cases hne : nm = r
        · subst hne; rw [hr']; simp
        · rwa [hsame nm hne] at hn
      exact h.chg.new nm g c hx hg
theorem take_le {α : Type} {e : α → List AV} {d : α} {l : List α} {k : Nat} : ∀ i, i < 0 + k → AVleL (e (l.getD i d)) (e ((l.take k).getD i d)) := fun i hi => by
  have : (l.take k).getD i d = l.getD i d := by simp [List.getD, show i < k by omega]
  rw [this]
  exact .refl _
theorem take_len {α : Type} {l : List α} {k : Nat} (h : 0 + k ≤ l.length) : 0 + k = (l.take k).length := by simp; omega
theorem pw_nil {f g : Nat → List AV} : ∀ k, k < 0 → f k = g k := fun _ h => by omega
theorem pw_snoc {n : Nat} {f g : Nat → List AV} (h : ∀ k, k < n → f k = g k) (h' : f n = g n) : ∀ k, k < n + 1 → f k = g k := fun k hk => by
  by_cases hkn : k = n
  · subst hkn; exact h'
  · exact h k (by omega)
theorem arrE_zero {α : Type} {keep : Nat → Bool} {e : α → List AV} {d : α} {z : List AV} {N sz : Nat} (hz : z.length = sz) (h : z = e d) (hk : AV.eraseAll keep z = z) : ∀ k, k < N → AVleL (AV.eraseAll keep ((((List.replicate N z).flatten).drop (k * sz)).take sz)) (e ((List.replicate N d).getD k d)) := fun k hk' => by
  have : (List.replicate N d).getD k d = d := by simp [List.getD, hk']
  rw [flat_rep z sz hz N k hk', this, hk, h]
  exact .refl _
-- rows lent: an element of a row that is a row itself
theorem lent_load {f : Nat → List AV} {i : Nat} {x : AV} : AVle ((putF f i 0 [x] i).getD 0 .any) x := by
  rw [putF_here]
  simpa using AVle.refl x
theorem lent_keep {keep : Nat → Bool} {f : Nat → List AV} {i k R m : Nat} (hf : ∀ j, AV.eraseAll keep (f j) = f j) (hk : keep R = true) : ∀ j, j < k → AVleL (AV.eraseAll keep (putF f i 0 [.vsl R m] j)) (putF f i 0 [.vsl R m] j) := fun j _ => by
  have h : AV.eraseAll keep (putF f i 0 [.vsl R m] j) = putF f i 0 [.vsl R m] j := by
    by_cases hj : j = i
    · subst hj
      rw [putF_here, eraseAll_append, eraseAll_append, eraseAll_take, eraseAll_drop, hf]
      simp [AV.eraseAll, AV.erase, hk]
    · rw [putF_else f _ hj, hf]
  rw [h]
  exact .refl _
theorem lent_put {α : Type} {enc : α → List AV} {d x : α} {l : List α} {i nm sz n : Nat} {g : Nat → List AV} (hf : ∀ a, AV.frwAll nm sz n g (enc a) = enc a) (h1 : ∀ a, (enc a).length = 1) (hx : enc x = [.slice sz n g .none]) :
    ∀ j, j < l.length → AVleL (AV.frwAll nm sz n g (putF (fun k => enc (l.getD k d)) i 0 [.vsl nm n] j)) (enc ((l.set i x).getD j d)) := fun j hl => by
  have h : AV.frwAll nm sz n g (putF (fun k => enc (l.getD k d)) i 0 [.vsl nm n] j) = enc ((l.set i x).getD j d) := by
    by_cases hj : j = i
    · subst hj
      have e1 : (l.set j x).getD j d = x := by simp [List.getD, hl]
      have e2 : (enc (l.getD j d)).drop (0 + [AV.vsl nm n].length) = [] := List.drop_eq_nil_of_le (by rw [h1]; exact Nat.le_refl _)
      have e3 : notB nm nm = false := by simp [notB]
      rw [putF_here, e1, e2, hx]
      simp [AV.frwAll, AV.frw, e3]
    · have e1 : (l.set i x).getD j d = l.getD j d := by simp [List.getD, Ne.symm hj]
      rw [putF_else _ _ hj, e1, hf]
  rw [h]
  exact .refl _
-- rows handed to guarded calls
section
variable {α : Type} {g : Bool} {a b : List α}
theorem bif_len : (bif g then a.length else b.length) = (bif g then a else b).length := by cases g <;> rfl
theorem bif_row {e : α → List AV} {d : α} {k : Nat} : (bif g then e (a.getD k d) else e (b.getD k d)) = e ((bif g then a else b).getD k d) := by cases g <;> rfl
theorem bif_was (h : g = true → b.length = a.length) : b.length = (bif g then a else b).length := by
  cases g with
  | false => rfl
  | true => exact h rfl
end
end Go.Proofs.Ytlnggndmojdcaaa
