/-
  What a function does, told abstractly; a call by what is told.
-/
import Derived.Test.YtcpopeamoipjlaaOpsS
namespace Go.Proofs.Ytcpopeamoipjlaa
open Go Go.RowKit

/-- Called with these arguments, and with this handed in, function 'f' answers 'res', and what was handed in (and what is new) is then as 'H'' says. -/
def Spec (P : Program) : SpecT := fun f args H res H' =>
  (∀ (as : Array Value) (w : World), (callFunc f as).run P w = .ok (.enter f as) w) ∧
  ∀ (w : World) (I : Nat → Nat → Prop) (θ : Nat → Option (Nat × Nat)) (as : Array Value), RepL I (look H) θ w as.toList args → OwnRel I (look H) θ w → (∀ b o, I b o → ∃ u, w.cell? ⟨b, o, none⟩ = some u) → GOk I w →
    Calls P f as w fun e w' => ∃ v I' θ', e = .returned v ∧ Chg (look H) θ I w (look H') θ' I' w' ∧ Rep I' (look H') θ' w' v res

theorem ren_length (ρ : List (Nat × Nat)) (l : List AV) : (AV.renAll ρ l).length = l.length := by induction l with | nil => rfl | cons x l ih => simp [AV.renAll, ih]
theorem ren_getD (ρ : List (Nat × Nat)) (l : List AV) (j : Nat) : (AV.renAll ρ l).getD j .any = (l.getD j .any).ren ρ := by
  induction l generalizing j with
  | nil => simp [AV.renAll, AV.ren]
  | cons x l ih => cases j with
    | zero => simp [AV.renAll]
    | succ j => simpa [AV.renAll] using ih j

theorem RepV.ren {I : Nat → Nat → Prop} {w : World} {v : Value} {x : AV} (h : RepV I w v x) (ρ : List (Nat × Nat)) : RepV I w v (x.ren ρ) := by
  induction h with
  | any v => exact .any v
  | undef => exact .undef
  | int k n => exact .int k n
  | bool b => exact .bool b
  | str s => exact .str s
  | clo f => exact .clo f
  | nxt1 i r => exact .nxt1 i r
  | nxt0 i r => exact .nxt0 i r
  | nilq b pos n h => exact .nilq b pos n h
  | err0 => exact .err0
  | err1 t v => exact .err1 t v
  | nilp => exact .nilp
  | cond v c x _ h' ih => exact .cond v c _ ih h'
  | rptr a cells us hs hI' hc h1 hr _ => exact .rptr a cells us hs hI' hc h1 hr
  | slice a n cap sz f us hcap hmax hz hn h1 hl hr _ => exact .slice a n cap sz f us hcap hmax hz hn h1 hl hr
  | agg vs cs hl h1 _ ih => exact .agg vs _ (by rw [ren_length, hl]) (fun j hj => h1 j (by rwa [ren_length] at hj)) (fun j hj => by rw [ren_getD]; exact ih j (by rwa [ren_length] at hj))
  | tuple vs cs hl _ ih => exact .tuple vs _ (by rw [ren_length, hl]) (fun j hj => by rw [ren_getD]; exact ih j (by rwa [ren_length] at hj))
theorem Rep.ren {I : Nat → Nat → Prop} {own own' : Nat → Option Own} {θ θ' : Nat → Option (Nat × Nat)} {w : World} {v : Value} {x : AV} (h : Rep I own θ w v x) (ρ : List (Nat × Nat))
    (ho : ∀ nm k o, look ρ nm = some k → own nm = some o → own' k = some (o.ren ρ) ∧ θ' k = θ nm) : Rep I own' θ' w v (x.ren ρ) := by
  induction h with
  | val v x h => exact .val _ _ (h.ren ρ)
  | exact a n sz f h => exact .exact a n sz f h
  | own nm sz e m a n cap f hn hm hv h =>
    simp only [AV.ren]
    cases hk : look ρ nm with
    | some k =>
      obtain ⟨h1, h2⟩ := ho nm k _ hk hn
      exact .own k sz e m a n cap f h1 hm (by rw [h2]; exact hv) h
    | none => exact .val _ _ h
  | fam b i sz e m a n cap f hi hn hm hv h => exact .val _ _ h
  | ptr nm off e cells g c hn hg =>
    simp only [AV.ren]
    cases hk : look ρ nm with
    | some k =>
      obtain ⟨h1, h2⟩ := ho nm k _ hk hn
      exact .ptr k off e _ g c h1 (h2.trans hg)
    | none => exact .val _ _ (.any _)
  | vsl nm sz e m f a n cap hn hm hcap hmax hnn hv =>
    simp only [AV.ren]
    cases hk : look ρ nm with
    | some k =>
      obtain ⟨h1, h2⟩ := ho nm k _ hk hn
      exact .vsl k sz e m _ a n cap h1 hm hcap hmax hnn (by rw [h2]; exact hv)
    | none => exact .val _ _ (.any _)
  | vpt nm sz e m f n i j ad hn hm hi hv =>
    simp only [AV.ren]
    cases hk : look ρ nm with
    | some k =>
      obtain ⟨h1, h2⟩ := ho nm k _ hk hn
      exact .vpt k sz e m _ n i j ad h1 hm hi (by rw [h2]; exact hv)
    | none => exact .val _ _ (.any _)
  | clo f fs cs xs ys hl hl' _ _ ih ih' => exact .clo f fs cs _ _ (by rw [ren_length, hl]) (by rw [ren_length, hl']) (fun j hj => by rw [ren_getD]; exact ih j (by rwa [ren_length] at hj)) (fun j hj => by rw [ren_getD]; exact ih' j (by rwa [ren_length] at hj))
  | vsub nm sz e m f n lo hi a cap hn hm hlo hhi hcap hmax hnn hv =>
    simp only [AV.ren]
    cases hk : look ρ nm with
    | some k =>
      obtain ⟨h1, h2⟩ := ho nm k _ hk hn
      exact .vsub k sz e m _ n lo hi a cap h1 hm hlo hhi hcap hmax hnn (by rw [h2]; exact hv)
    | none => exact .val _ _ (.any _)
  | optr nm x g c hn hg =>
    simp only [AV.ren]
    cases hk : look ρ nm with
    | some k =>
      obtain ⟨h1, h2⟩ := ho nm k _ hk hn
      exact .optr k x g c h1 (h2.trans hg)
    | none => exact .val _ _ (.any _)
  | cond v c x _ h' ih => exact .cond v c _ ih h'
  | agg vs cs hl h1 _ ih => exact .agg vs _ (by rw [ren_length, hl]) (fun j hj => h1 j (by rwa [ren_length] at hj)) (fun j hj => by rw [ren_getD]; exact ih j (by rwa [ren_length] at hj))
  | tuple vs cs hl _ ih => exact .tuple vs _ (by rw [ren_length, hl]) (fun j hj => by rw [ren_getD]; exact ih j (by rwa [ren_length] at hj))

theorem RepL.ren {I : Nat → Nat → Prop} {own own' : Nat → Option Own} {θ θ' : Nat → Option (Nat × Nat)} {w : World} {l : List Value} {m : List AV} (h : RepL I own θ w l m) (ρ : List (Nat × Nat))
    (ho : ∀ nm k o, look ρ nm = some k → own nm = some o → own' k = some (o.ren ρ) ∧ θ' k = θ nm) : RepL I own' θ' w l (m.map (AV.ren ρ)) := by
  induction h with
  | nil => exact .nil
  | cons h _ ih => exact .cons (h.ren ρ ho) ih

theorem looseAll_length (l : List AV) : (AV.looseAll l).length = l.length := by induction l with | nil => rfl | cons x l ih => simp [AV.looseAll, ih]
theorem looseAll_getD (l : List AV) (j : Nat) : (AV.looseAll l).getD j .any = (l.getD j .any).loose := by
  induction l generalizing j with
  | nil => simp [AV.looseAll, AV.loose]
  | cons x l ih => cases j with
    | zero => simp [AV.looseAll]
    | succ j => simpa [AV.looseAll] using ih j
theorem RepV.loose {I : Nat → Nat → Prop} {w : World} {v : Value} {x : AV} (h : RepV I w v x) : RepV I w v x.loose := by
  induction h with
  | agg vs cs hl h1 _ ih => exact .agg vs _ (by rw [looseAll_length, hl]) (fun j hj => h1 j (by rwa [looseAll_length] at hj)) (fun j hj => by rw [looseAll_getD]; exact ih j (by rwa [looseAll_length] at hj))
  | any v => exact .any v
  | undef => exact .undef
  | int k n => exact .int k n
  | bool b => exact .bool b
  | str s => exact .str s
  | clo f => exact .clo f
  | nxt1 i r => exact .nxt1 i r
  | nxt0 i r => exact .nxt0 i r
  | nilq b pos n h => exact .nilq b pos n h
  | err0 => exact .err0
  | err1 t v => exact .err1 t v
  | nilp => exact .nilp
  | cond v c x h h' => exact .cond v c x h h'
  | rptr a cells us hs hI hc h1 hr => exact .rptr a cells us hs hI hc h1 hr
  | slice a n cap sz f us hcap hmax hz hn h1 hl hr => exact .slice a n cap sz f us hcap hmax hz hn h1 hl hr
  | tuple vs cs hl hr => exact .tuple vs cs hl hr
theorem Rep.loose {I : Nat → Nat → Prop} {own : Nat → Option Own} {θ : Nat → Option (Nat × Nat)} {w : World} {v : Value} {x : AV} (h : Rep I own θ w v x) : Rep I own θ w v x.loose := by
  induction h with
  | val v x h => exact .val _ _ h.loose
  | exact a n sz f h => exact .val _ _ h
  | own nm sz e m a n cap f ho hm hv h => exact .own nm sz e m a n cap f ho hm hv h
  | fam b i sz e m a n cap f hi ho hm hv h => exact .fam b i sz e m a n cap f hi ho hm hv h
  | ptr nm off e cells g c ho hg => exact .ptr nm off e cells g c ho hg
  | vsl nm sz e m f a n cap ho hm hcap hmax hn hv => exact .vsl nm sz e m f a n cap ho hm hcap hmax hn hv
  | vpt nm sz e m f n i j ad ho hm hi hv => exact .vpt nm sz e m f n i j ad ho hm hi hv
  | clo f fs cs xs ys hl hl' hr hr' _ _ => exact .clo f fs cs xs ys hl hl' hr hr'
  | vsub nm sz e m f n lo hi a cap ho hm hlo hhi hcap hmax hn hv => exact .vsub nm sz e m f n lo hi a cap ho hm hlo hhi hcap hmax hn hv
  | optr nm x g c ho hg => exact .optr nm x g c ho hg
  | cond v c x h h' _ => exact .cond v c x h h'
  | agg vs cs hl h1 _ ih => exact .agg vs _ (by rw [looseAll_length, hl]) (fun j hj => h1 j (by rwa [looseAll_length] at hj)) (fun j hj => by rw [looseAll_getD]; exact ih j (by rwa [looseAll_length] at hj))
  | tuple vs cs hl hr _ => exact .tuple vs cs hl hr
theorem RepL.loose {I : Nat → Nat → Prop} {own : Nat → Option Own} {θ : Nat → Option (Nat × Nat)} {w : World} {l : List Value} {m : List AV} (h : RepL I own θ w l m) : RepL I own θ w l (m.map AV.loose) := by
  induction h with
  | nil => exact .nil
  | cons h _ ih => exact .cons h.loose ih

/-! ### Lists of names -/
theorem look_mem {α : Type} {l : List (Nat × α)} {k : Nat} {v : α} (h : look l k = some v) : (k, v) ∈ l := by
  induction l with
  | nil => cases h
  | cons x l ih =>
    obtain ⟨k', v'⟩ := x
    simp only [look] at h
    cases hb : Nat.beq k' k with
    | true => simp only [hb, cond_true, Option.some.injEq] at h; rw [Nat.eq_of_beq_eq_true hb, h]; simp
    | false => simp only [hb, cond_false] at h; exact List.mem_cons_of_mem _ (ih h)
theorem memB_mem {n : Nat} {l : List Nat} : memB n l = true ↔ n ∈ l := by
  induction l with
  | nil => simp [memB]
  | cons k l ih =>
    simp only [memB, Bool.or_eq_true, ih, List.mem_cons]
    constructor
    · rintro (h | h)
      · exact .inl (Nat.eq_of_beq_eq_true h).symm
      · exact .inr h
    · rintro (rfl | h)
      · exact .inl (by simp)
      · exact .inr h
theorem nodupB_nodup {l : List Nat} (h : nodupB l = true) : l.Nodup := by
  induction l with
  | nil => simp
  | cons k l ih =>
    simp only [nodupB, Bool.and_eq_true, Bool.not_eq_true'] at h
    refine List.nodup_cons.2 ⟨fun hm => ?_, ih h.2⟩
    rw [memB_mem.2 hm] at h
    exact absurd h.1 (by simp)
theorem mem_look {α : Type} {l : List (Nat × α)} (hn : (l.map (·.1)).Nodup) {k : Nat} {v : α} (h : (k, v) ∈ l) : look l k = some v := by
  induction l with
  | nil => cases h
  | cons x l ih =>
    obtain ⟨k', v'⟩ := x
    simp only [List.map_cons, List.nodup_cons] at hn
    simp only [look]
    rcases List.mem_cons.1 h with h | h
    · cases h; simp
    · have : k' ≠ k := by rintro rfl; exact hn.1 (List.mem_map.2 ⟨_, h, rfl⟩)
      cases hb : Nat.beq k' k with
      | true => exact (this (Nat.eq_of_beq_eq_true hb)).elim
      | false => simpa using ih hn.2 h
theorem look_none {α : Type} {l : List (Nat × α)} {k : Nat} (h : k ∉ l.map (·.1)) : look l k = none := by
  cases hl : look l k with
  | none => rfl
  | some v => exact (h (List.mem_map.2 ⟨_, look_mem hl, rfl⟩)).elim
/-- Turned round. -/
def swapL (l : List (Nat × Nat)) : List (Nat × Nat) := l.map fun x => (x.2, x.1)
theorem look_swap {l : List (Nat × Nat)} (h1 : (l.map (·.1)).Nodup) (h2 : (l.map (·.2)).Nodup) {k c : Nat} : look l k = some c ↔ look (swapL l) c = some k := by
  have e : (swapL l).map (·.1) = l.map (·.2) := by simp [swapL]
  constructor
  · intro h
    exact mem_look (by rw [e]; exact h2) (List.mem_map.2 ⟨_, look_mem h, rfl⟩)
  · intro h
    obtain ⟨x, hx, hx'⟩ := List.mem_map.1 (look_mem h)
    cases hx'
    exact mem_look h1 hx
theorem look_map {α β : Type} (g : α → β) (l : List (Nat × α)) (k : Nat) : look (l.map fun x => (x.1, g x.2)) k = (look l k).map g := by
  induction l with
  | nil => rfl
  | cons x l ih =>
    obtain ⟨k', v'⟩ := x
    simp only [List.map_cons, look]
    cases Nat.beq k' k <;> simp [ih]

theorem allNone_map {l : List Nat} {own : Nat → Option Own} (h : allNone (l.map own) = true) : ∀ n ∈ l, own n = none := by
  induction l with
  | nil => intro n hn; cases hn
  | cons k l ih =>
    intro n hn
    simp only [List.map_cons] at h
    cases hk : own k with
    | some o => rw [hk] at h; simp [allNone] at h
    | none =>
      rw [hk] at h
      simp only [allNone] at h
      rcases List.mem_cons.1 hn with rfl | hn
      · exact hk
      · exact ih h n hn

theorem handIn_spec {own : Nat → Option Own} {tl : List (Option Own)} : ∀ {hs : List (Nat × Nat)} {H : List (Nat × Own)}, handIn hs (hs.map (fun x => own x.1) ++ tl) = some H →
    H.map (·.1) = hs.map (·.2) ∧ ∀ c k, (c, k) ∈ hs → ∃ o, own c = some o ∧ (k, o) ∈ H
  | [], H, h => by simp only [handIn, Option.some.injEq] at h; subst h; exact ⟨rfl, fun _ _ h => by cases h⟩
  | (c, k) :: hs, H, h => by
    simp only [List.map_cons, List.cons_append] at h
    cases hc : own c with
    | none => rw [hc] at h; simp [handIn] at h
    | some o =>
      rw [hc] at h
      simp only [handIn] at h
      cases hr : handIn hs (hs.map (fun x => own x.1) ++ tl) with
      | none => rw [hr] at h; cases h
      | some H' =>
        rw [hr] at h
        simp only [Option.some.injEq] at h
        subst h
        obtain ⟨h1, h2⟩ := handIn_spec hr
        refine ⟨by simp [h1], fun c' k' hm => ?_⟩
        rcases List.mem_cons.1 hm with hm | hm
        · cases hm; exact ⟨o, hc, by simp⟩
        · obtain ⟨o', ho', hm'⟩ := h2 c' k' hm
          exact ⟨o', ho', List.mem_cons_of_mem _ hm'⟩

section
variable {P : Program} {Γ : Env} {σ : Sto} {I : Nat → Nat → Prop} {θ : Nat → Option (Nat × Nat)} {a : Act} {w : World} {o : Oper}

theorem OwnLe_ren {o o' : Own} {t t' : Option (Nat × Nat)} (ρ ρ' : List (Nat × Nat)) (h : OwnLe (o.ren ρ) t o' t') : OwnLe o t (o'.ren ρ') t' := by
  cases o <;> cases o' <;> simp_all [OwnLe, Own.ren]

/-- From the callee's change to the caller's. 'cs': the caller's names, the callee's. -/
theorem chg_call {own own' : Nat → Option Own} {θ θ' : Nat → Option (Nat × Nat)} {I I' : Nat → Nat → Prop} {w w' : World} (hrel : OwnRel I own θ w) {co co' : Nat → Option Own} {ct ct' : Nat → Option (Nat × Nat)}
    {hs bk : List (Nat × Nat)} (k : Chg co ct I w co' ct' I' w')
    -- each name that is handed in
    (hco : ∀ n, co n ≠ none → ∃ c o, (c, n) ∈ hs ∧ own c = some o ∧ co n = some (o.ren hs) ∧ ct n = θ c)
    (hhs : ∀ c n o, (c, n) ∈ hs → own c = some o → co n = some (o.ren hs) ∧ ct n = θ c ∧ look bk n = some c)
    -- each name that comes back
    (hbk1 : ∀ n c, look bk n = some c → (∃ o, (c, n) ∈ hs ∧ own c = some o) ∨ own c = none)
    (hbk : ∀ n c o, look bk n = some c → co' n = some o → own' c = some (o.ren bk) ∧ θ' c = ct' n)
    -- all others
    (hoth : ∀ c, (∀ n, co' n ≠ none → look bk n ≠ some c) → own' c = own c ∧ θ' c = θ c) :
    Chg own θ I w own' θ' I' w' := by
  have hle : ∀ nm o, own nm = some o → ∃ o', own' nm = some o' ∧ OwnLe o (θ nm) o' (θ' nm) := fun nm o ho => by
    by_cases hx : ∃ n, (nm, n) ∈ hs
    · obtain ⟨n, hn⟩ := hx
      obtain ⟨h1, h2, h3⟩ := hhs nm n o hn ho
      obtain ⟨o', ho', hl⟩ := k.le n _ h1
      obtain ⟨h4, h5⟩ := hbk n nm o' h3 ho'
      refine ⟨_, h4, ?_⟩
      rw [h5, ← h2]
      exact OwnLe_ren hs bk hl
    · obtain ⟨h1, h2⟩ := hoth nm (fun n hn hb => by
        rcases hbk1 n nm hb with ⟨o', h', _⟩ | h'
        · exact hx ⟨n, h'⟩
        · rw [h'] at ho; cases ho)
      exact ⟨o, h1.trans ho, by rw [h2]; exact .refl _ _⟩
  have hmono : ∀ v x, Rep I own θ w v x → Rep I' own' θ' w' v x := fun v x h => h.mono k.imm k.cell hle
  -- a block of the caller's that wasn't handed in is none of the callee's
  have hfar : ∀ c g cc, (∀ n, co' n ≠ none → look bk n ≠ some c) → own c ≠ none → θ c = some (g, cc) → ∀ n cc', co n ≠ none → ct n ≠ some (g, cc') := fun c g cc hc ho hg n cc' hn hg' => by
    obtain ⟨c', o', hm, ho', _, ht⟩ := hco n hn
    rw [ht] at hg'
    have := hrel.inj c c' g cc cc' ho (by simp [ho']) hg hg'
    subst this
    obtain ⟨h1, h2, h3⟩ := hhs c n o' hm ho'
    obtain ⟨o'', ho'', _⟩ := k.le n _ h1
    exact hc n (by simp [ho'']) h3
  refine { imm := k.imm, cell := k.cell, le := hle, rel := ?_, valid := k.valid, os := k.os, tape := k.tape, output := k.output, grow := k.grow, frame := fun b hb hn => k.frame b hb (fun n cc hn' hg => ?_),
           new := fun nm g c ho hg => ?_, immNew := fun b o h => ?_ }
  · -- what is owned then
    have hsplit : ∀ nm, (∃ n, co' n ≠ none ∧ look bk n = some nm) ∨ (own' nm = own nm ∧ θ' nm = θ nm ∧ ∀ n, co' n ≠ none → look bk n ≠ some nm) := fun nm => by
      by_cases h : ∃ n, co' n ≠ none ∧ look bk n = some nm
      · exact .inl h
      · have h' : ∀ n, co' n ≠ none → look bk n ≠ some nm := fun n h1 h2 => h ⟨n, h1, h2⟩
        obtain ⟨h1, h2⟩ := hoth nm h'
        exact .inr ⟨h1, h2, h'⟩
    have hkeep : ∀ nm g cc, (∀ n, co' n ≠ none → look bk n ≠ some nm) → own nm ≠ none → θ nm = some (g, cc) → w'.heap[g]? = w.heap[g]? ∧ ∀ j, I' g j → I g j := fun nm g cc hn ho hg => by
      have hlt := owned_lt hrel ho hg
      have hf := hfar nm g cc hn ho hg
      refine ⟨k.frame g hlt hf, fun j hj => ?_⟩
      rcases k.immNew g j hj with h | h | ⟨n, c, h1, h2⟩
      · exact h
      · omega
      · exact (hf n c h1 h2).elim
    refine ⟨fun nm e0 cells ho => ?_, fun nm sz e m ho g c hg => ?_, fun nm nm' g c c' ho ho' hg hg' => ?_, fun nm sz e m f ho => ?_, fun nm x ho => ?_, fun nm sz m ho hnn => ?_⟩
    rotate_left 5
    · rcases hsplit nm with ⟨n, hn, hb⟩ | ⟨h1, h2, h3⟩
      · cases hcn : co' n with
        | none => exact (hn hcn).elim
        | some o' =>
          obtain ⟨h1, h2⟩ := hbk n nm o' hb hcn
          rw [ho] at h1
          cases o' with
          | row => simp [Own.ren] at h1
          | arr => simp [Own.ren] at h1
          | obj => simp [Own.ren] at h1
          | tok s' e' m' =>
            simp only [Own.ren, Option.some.injEq, Own.tok.injEq] at h1
            obtain ⟨rfl, rfl, rfl⟩ := h1
            exact k.rel.tok8 n _ _ hcn (h2.symm.trans hnn)
      · rw [h1] at ho
        exact hrel.tok8 nm sz m ho (h2.symm.trans hnn)
    rotate_left 4
    · rcases hsplit nm with ⟨n, hn, hb⟩ | ⟨h1, h2, h3⟩
      · cases hcn : co' n with
        | none => exact (hn hcn).elim
        | some o' =>
          obtain ⟨h1, h2⟩ := hbk n nm o' hb hcn
          rw [ho] at h1
          cases o' with
          | tok => simp [Own.ren] at h1
          | row => simp [Own.ren] at h1
          | arr => simp [Own.ren] at h1
          | obj x' =>
            simp only [Own.ren, Option.some.injEq, Own.obj.injEq] at h1
            subst h1
            exact obj_map (k.rel.obj n _ hcn) h2 (fun _ _ _ => rfl) (fun _ _ _ _ h => h) (fun _ h => h)
      · rw [h1] at ho
        exact obj_map (hrel.obj nm _ ho) h2 (fun g c hg => (hkeep nm g c h3 (by simp [ho]) hg).1) (fun g c j hg hj => (hkeep nm g c h3 (by simp [ho]) hg).2 j hj) (fun _ h => h.mono k.imm k.cell)
    rotate_left 3
    · rcases hsplit nm with ⟨n, hn, hb⟩ | ⟨h1, h2, h3⟩
      · cases hcn : co' n with
        | none => exact (hn hcn).elim
        | some o' =>
          obtain ⟨h1, h2⟩ := hbk n nm o' hb hcn
          rw [ho] at h1
          cases o' with
          | tok => simp [Own.ren] at h1
          | row => simp [Own.ren] at h1
          | obj => simp [Own.ren] at h1
          | arr s' e' m' f' =>
            simp only [Own.ren, Option.some.injEq, Own.arr.injEq] at h1
            obtain ⟨rfl, rfl, rfl, rfl⟩ := h1
            exact arr_map (k.rel.arr n _ _ _ _ hcn) h2 (fun _ _ _ => rfl) (fun _ _ _ _ h => h) (fun i _ => ren_length _ _) (fun v i j _ _ hv => by rw [ren_getD]; exact hv.ren bk (fun n' c' o h h' => hbk n' c' o h h'))
      · rw [h1] at ho
        exact arr_map (hrel.arr nm _ _ _ _ ho) h2 (fun g c hg => (hkeep nm g c h3 (by simp [ho]) hg).1) (fun g c j hg hj => (hkeep nm g c h3 (by simp [ho]) hg).2 j hj) (fun _ _ => rfl) (fun v i j _ _ hv => hmono _ _ hv)
    · rcases hsplit nm with ⟨n, hn, hb⟩ | ⟨h1, h2, h3⟩
      · cases hcn : co' n with
        | none => exact (hn hcn).elim
        | some o' =>
          obtain ⟨h1, h2⟩ := hbk n nm o' hb hcn
          rw [ho] at h1
          cases o' with
          | tok => simp [Own.ren] at h1
          | arr => simp [Own.ren] at h1
          | obj => simp [Own.ren] at h1
          | row e' cs =>
            simp only [Own.ren, Option.some.injEq, Own.row.injEq] at h1
            obtain ⟨rfl, rfl⟩ := h1
            obtain ⟨g, c, vs, r1, r2, r3, r4, r5, r6⟩ := k.rel.row n _ cs hcn
            refine ⟨g, c, vs, h2.trans r1, r2, by rw [ren_length]; exact r3, fun j hj => r4 j (by rwa [ren_length] at hj), fun j hj => ?_, r6⟩
            rw [ren_getD]
            exact (r5 j (by rwa [ren_length] at hj)).ren bk (fun n' c' o h h' => hbk n' c' o h h')
      · rw [h1] at ho
        obtain ⟨g, c, vs, r1, r2, r3, r4, r5, r6⟩ := hrel.row nm _ cells ho
        obtain ⟨q1, q2⟩ := hkeep nm g c h3 (by simp [ho]) r1
        exact ⟨g, c, vs, h2.trans r1, q1.trans r2, r3, r4, fun j hj => hmono _ _ (r5 j hj), fun j hj => r6 j (q2 j hj)⟩
    · rcases hsplit nm with ⟨n, hn, hb⟩ | ⟨h1, h2, h3⟩
      · cases hcn : co' n with
        | none => exact (hn hcn).elim
        | some o' =>
          obtain ⟨h1, h2⟩ := hbk n nm o' hb hcn
          rw [ho] at h1
          cases o' with
          | row => simp [Own.ren] at h1
          | arr => simp [Own.ren] at h1
          | obj => simp [Own.ren] at h1
          | tok s' e' m' =>
            simp only [Own.ren, Option.some.injEq, Own.tok.injEq] at h1
            obtain ⟨rfl, rfl, rfl⟩ := h1
            exact k.rel.tok n _ _ _ hcn g c (by rw [← h2]; exact hg)
      · rw [h1] at ho
        rw [h2] at hg
        obtain ⟨cur, fz, r1, r2, r3, r4, r5', r5⟩ := hrel.tok nm sz e m ho g c hg
        obtain ⟨q1, q2⟩ := hkeep nm g c h3 (by simp [ho]) hg
        exact ⟨cur, fz, q1.trans r1, r2, r3, r4, r5', fun j hj => r5 j (q2 j hj)⟩
    · have hθb : ∀ n nm, co' n ≠ none → look bk n = some nm → θ' nm = ct' n := fun n nm hn hb => by
        cases hcn : co' n with
        | none => exact (hn hcn).elim
        | some o' => exact (hbk n nm o' hb hcn).2
      have hmix : ∀ nm nm' n c c', co' n ≠ none → look bk n = some nm → (∀ n, co' n ≠ none → look bk n ≠ some nm') → own nm' ≠ none → θ nm' = some (g, c') → ct' n = some (g, c) → False := fun nm nm' n c c' hn hb h3 ho hg hg' => by
        have hlt := owned_lt hrel ho hg
        rcases k.new n g c hn hg' with h | ⟨n', cc, h, h'⟩
        · omega
        · exact hfar nm' g c' h3 ho hg n' cc h h'
      rcases hsplit nm with ⟨n, hn, hb⟩ | ⟨h1, h2, h3⟩ <;> rcases hsplit nm' with ⟨n', hn', hb'⟩ | ⟨h1', h2', h3'⟩
      · rw [hθb n nm hn hb] at hg
        rw [hθb n' nm' hn' hb'] at hg'
        have := k.rel.inj n n' g c c' hn hn' hg hg'
        subst this
        rw [hb] at hb'
        exact Option.some.inj hb'
      · rw [hθb n nm hn hb] at hg
        rw [h1'] at ho'
        rw [h2'] at hg'
        exact (hmix nm nm' n c c' hn hb h3' ho' hg' hg).elim
      · rw [hθb n' nm' hn' hb'] at hg'
        rw [h1] at ho
        rw [h2] at hg
        exact (hmix nm' nm n' c' c hn' hb' h3 ho hg hg').elim
      · rw [h1] at ho
        rw [h1'] at ho'
        rw [h2] at hg
        rw [h2'] at hg'
        exact hrel.inj nm nm' g c c' ho ho' hg hg'
  · obtain ⟨c', o', hm, ho', _, ht⟩ := hco n hn'
    exact hn c' cc (by simp [ho']) (by rw [← ht]; exact hg)
  · by_cases hx : ∃ n, co' n ≠ none ∧ look bk n = some nm
    · obtain ⟨n, hn, hb⟩ := hx
      cases hcn : co' n with
      | none => exact (hn hcn).elim
      | some o' =>
        obtain ⟨_, h2⟩ := hbk n nm o' hb hcn
        rw [h2] at hg
        rcases k.new n g c hn hg with h | ⟨n', cc, h, h'⟩
        · exact .inl h
        · obtain ⟨c', o'', hm, ho', _, ht⟩ := hco n' h
          exact .inr ⟨c', cc, by simp [ho'], by rw [← ht]; exact h'⟩
    · obtain ⟨h1, h2⟩ := hoth nm (fun n h1 h2 => hx ⟨n, h1, h2⟩)
      exact .inr ⟨nm, c, by rwa [h1] at ho, by rwa [h2] at hg⟩
  · rcases k.immNew b o h with h | h | ⟨n, c, h1, h2⟩
    · exact .inl h
    · exact .inr (.inl h)
    · obtain ⟨c', o', hm, ho', _, ht⟩ := hco n h1
      exact .inr (.inr ⟨c', c, by simp [ho'], by rw [← ht]; exact h2⟩)

theorem rep_ren_back {own own' : Nat → Option Own} {θ θ' : Nat → Option (Nat × Nat)} {v : Value} {x : AV} (h : Rep I own θ w v x) (ρ : List (Nat × Nat))
    (ho : ∀ n c o, look ρ n = some c → own n = some o → own' c = some (o.ren ρ) ∧ θ' c = θ n) : Rep I own' θ' w v (x.ren ρ) := h.ren ρ ho

theorem ok_call (h : Rel Γ σ I θ a w) (hd : ∀ d, o.dst = some d → d < Γ.n) {f : FuncId} {vs : List AV} {ws : List Value} (hex : (execOp a.eval o).run P w = (callFunc f ws.toArray).run P w) (hvs : RepL I σ.own θ w ws vs)
    {r : Orc} {es : List (Option Own)} (hes : es = (callNeeds r).map σ.own) {e : Eff} (he : aCall (Spec P) f vs es r = some e) (hob : ∀ p ∈ e.ob, p) : OpOK P Γ σ o a w e.v e.wo := by
  unfold aCall at he
  split at he
  · rename_i H hH
    cases hc : callCheck es r with
    | false => simp [hc] at he
    | true =>
      simp only [hc, cond_true, Option.some.injEq] at he
      subst he
      obtain ⟨henter, hspec⟩ := hob _ (List.mem_singleton.2 rfl)
      simp only [callCheck, Bool.and_eq_true] at hc
      obtain ⟨⟨⟨⟨⟨c1, c2⟩, c3⟩, c4⟩, c5⟩, c6⟩ := hc
      have c2 := nodupB_nodup c2
      have c3 := nodupB_nodup c3
      have c4 := nodupB_nodup c4
      have c5 := nodupB_nodup c5
      have hes' : es = r.hs.map (fun x => σ.own x.1) ++ r.fr.map (fun x => σ.own x.2) := by
        rw [hes]; simp [callNeeds, Function.comp_def]
      rw [hes'] at hH c1
      have hfr : ∀ k c, (k, c) ∈ r.fr → σ.own c = none := fun k c hm => by
        have hl : (r.hs.map (fun x => σ.own x.1)).length = r.hs.length := by simp
        rw [← hl, List.drop_left] at c1
        have e1 : r.fr.map (fun x => σ.own x.2) = (r.fr.map (·.2)).map σ.own := by simp [Function.comp_def]
        rw [e1] at c1
        exact allNone_map c1 c (List.mem_map.2 ⟨_, hm, rfl⟩)
      obtain ⟨h1, h2⟩ := handIn_spec hH
      have hbk : backOf r = swapL r.hs ++ r.fr := rfl
      have hHn : (H.map (·.1)).Nodup := by
        rw [h1]
        have : (backOf r).map (·.1) = r.hs.map (·.2) ++ r.fr.map (·.1) := by simp [backOf, Function.comp_def]
        rw [this] at c3
        exact (List.nodup_append.1 c3).1
      have hsn : ((swapL r.hs).map (·.1)).Nodup := by
        have : (swapL r.hs).map (·.1) = r.hs.map (·.2) := by simp [swapL]
        rw [this, ← h1]; exact hHn
      -- the callee's view
      have hHl : ∀ c n, (c, n) ∈ r.hs → ∃ o, σ.own c = some o ∧ look H n = some o := fun c n hm => by
        obtain ⟨o', ho', hm'⟩ := h2 c n hm
        exact ⟨o', ho', mem_look hHn hm'⟩
      have hco : ∀ n, look (H.map fun x => (x.1, x.2.ren r.hs)) n = (look H n).map (Own.ren r.hs) := fun n => look_map _ _ _
      have hct : ∀ c n, (c, n) ∈ r.hs → (look (swapL r.hs) n).bind θ = θ c := fun c n hm => by
        rw [mem_look hsn (List.mem_map.2 ⟨_, hm, rfl⟩)]; rfl
      have hbkh : ∀ c n, (c, n) ∈ r.hs → look (backOf r) n = some c := fun c n hm => mem_look c3 (by rw [hbk]; exact List.mem_append.2 (.inl (List.mem_map.2 ⟨_, hm, rfl⟩)))
      have hin : ∀ nm k o, look r.hs nm = some k → σ.own nm = some o → look (H.map fun x => (x.1, x.2.ren r.hs)) k = some (o.ren r.hs) ∧ (look (swapL r.hs) k).bind θ = θ nm := fun nm k o hl ho' => by
        have hm := look_mem hl
        obtain ⟨o', ho'', hl'⟩ := hHl nm k hm
        rw [ho'] at ho''
        obtain rfl := Option.some.inj ho''
        exact ⟨by rw [hco, hl']; rfl, hct nm k hm⟩
      have hcown : ∀ n, look (H.map fun x => (x.1, x.2.ren r.hs)) n ≠ none → ∃ c o, (c, n) ∈ r.hs ∧ σ.own c = some o ∧ look (H.map fun x => (x.1, x.2.ren r.hs)) n = some (o.ren r.hs) ∧ (look (swapL r.hs) n).bind θ = θ c := fun n hn => by
        rw [hco] at hn
        cases hl : look H n with
        | none => rw [hl] at hn; simp at hn
        | some o' =>
          have hm : n ∈ H.map (·.1) := List.mem_map.2 ⟨_, look_mem hl, rfl⟩
          rw [h1] at hm
          obtain ⟨⟨c, n'⟩, hm', rfl⟩ := List.mem_map.1 hm
          obtain ⟨o'', ho'', hl''⟩ := hHl c n' hm'
          simp only at hl
          rw [hl''] at hl
          obtain rfl := Option.some.inj hl
          exact ⟨c, o'', hm', ho'', by rw [hco, hl'']; rfl, hct c n' hm'⟩
      have hrelc : OwnRel I (look (H.map fun x => (x.1, x.2.ren r.hs))) (fun n => (look (swapL r.hs) n).bind θ) w := by
        have hrel := h.chg.rel
        refine ⟨fun nm e0 cells hn => ?_, fun nm sz e m hn g c hg => ?_, fun nm nm' g c c' hn hn' hg hg' => ?_, fun nm sz e m f hn => ?_, fun nm x hn => ?_, fun nm sz m hn hnn => ?_⟩
        rotate_left 5
        · obtain ⟨c', o', hm, ho', hl, ht⟩ := hcown nm (by simp [hn])
          rw [hl] at hn
          cases o' with
          | row => simp [Own.ren] at hn
          | arr => simp [Own.ren] at hn
          | obj => simp [Own.ren] at hn
          | tok s' e' m' =>
            simp only [Own.ren, Option.some.injEq, Own.tok.injEq] at hn
            obtain ⟨rfl, rfl, rfl⟩ := hn
            exact hrel.tok8 c' _ _ ho' (ht.symm.trans hnn)
        rotate_left 4
        · obtain ⟨c, o', hm, ho', hl, ht⟩ := hcown nm (by simp [hn])
          rw [hl] at hn
          cases o' with
          | tok => simp [Own.ren] at hn
          | row => simp [Own.ren] at hn
          | arr => simp [Own.ren] at hn
          | obj x' =>
            simp only [Own.ren, Option.some.injEq, Own.obj.injEq] at hn
            subst hn
            exact obj_map (θ' := fun n => (look (swapL r.hs) n).bind θ) (nm' := nm) (hrel.obj c _ ho') ht (fun _ _ _ => rfl) (fun _ _ _ _ h => h) (fun _ h => h)
        rotate_left 3
        · obtain ⟨c, o', hm, ho', hl, ht⟩ := hcown nm (by simp [hn])
          rw [hl] at hn
          cases o' with
          | tok => simp [Own.ren] at hn
          | row => simp [Own.ren] at hn
          | obj => simp [Own.ren] at hn
          | arr s' e' m' f' =>
            simp only [Own.ren, Option.some.injEq, Own.arr.injEq] at hn
            obtain ⟨rfl, rfl, rfl, rfl⟩ := hn
            exact arr_map (hrel.arr c _ _ _ _ ho') ht (fun _ _ _ => rfl) (fun _ _ _ _ h => h) (fun i _ => ren_length _ _) (fun v i j _ _ hv => by rw [ren_getD]; exact hv.ren r.hs hin)
        · obtain ⟨c, o', hm, ho', hl, ht⟩ := hcown nm (by simp [hn])
          rw [hl] at hn
          cases o' with
          | tok => simp [Own.ren] at hn
          | arr => simp [Own.ren] at hn
          | obj => simp [Own.ren] at hn
          | row e' cs =>
            simp only [Own.ren, Option.some.injEq, Own.row.injEq] at hn
            obtain ⟨rfl, rfl⟩ := hn
            obtain ⟨g, cc, vs', r1, r2, r3, r4, r5, r6⟩ := hrel.row c _ cs ho'
            refine ⟨g, cc, vs', ht.trans r1, r2, by rw [ren_length]; exact r3, fun j hj => r4 j (by rwa [ren_length] at hj), fun j hj => ?_, r6⟩
            rw [ren_getD]
            exact (r5 j (by rwa [ren_length] at hj)).ren r.hs hin
        · obtain ⟨c', o', hm, ho', hl, ht⟩ := hcown nm (by simp [hn])
          rw [hl] at hn
          cases o' with
          | row => simp [Own.ren] at hn
          | arr => simp [Own.ren] at hn
          | obj => simp [Own.ren] at hn
          | tok s' e' m' =>
            simp only [Own.ren, Option.some.injEq, Own.tok.injEq] at hn
            obtain ⟨rfl, rfl, rfl⟩ := hn
            exact hrel.tok c' _ _ _ ho' g c (by rw [← ht]; exact hg)
        · obtain ⟨c1', o1, hm, ho1, _, ht⟩ := hcown nm hn
          obtain ⟨c2', o2, hm', ho2, _, ht'⟩ := hcown nm' hn'
          rw [ht] at hg
          rw [ht'] at hg'
          have := hrel.inj c1' c2' g c c' (by simp [ho1]) (by simp [ho2]) hg hg'
          subst this
          have e1 := hbkh c1' nm hm
          have e2 := hbkh c1' nm' hm'
          rw [look_swap c3 c2] at e1 e2
          rw [e1] at e2
          exact Option.some.inj e2
      intro K Q hK
      unfold Oper.wp
      have hexec : (execOp a.eval o).run P w = .ok (.enter f ws.toArray) w := hex.trans (henter _ _)
      rw [hexec]
      simp only [Oper.upon]
      refine Calls.mono (hspec w I (fun n => (look (swapL r.hs) n).bind θ) ws.toArray (by have := (hvs.ren r.hs hin).loose; exact this) hrelc h.chg.valid h.glob) fun e' w' hq => ?_
      obtain ⟨v, I', ct', rfl, kc, hres⟩ := hq
      -- the caller's view
      have hwo : ∀ n c o', look (backOf r) n = some c → look r.H n = some o' → look (backWo r) c = some (o'.ren (backOf r)) := fun n c o' hb hl =>
        mem_look c5 (List.mem_map.2 ⟨(n, o'), look_mem hl, by simp [hb]⟩)
      have hwo' : ∀ c, (∀ n, look r.H n ≠ none → look (backOf r) n ≠ some c) → look (backWo r) c = none := fun c hn => look_none fun hm => by
        obtain ⟨x, hx, rfl⟩ := List.mem_map.1 hm
        obtain ⟨⟨n, o'⟩, hm', rfl⟩ := List.mem_map.1 hx
        have hmem : n ∈ (backOf r).map (·.1) := memB_mem.1 (List.all_eq_true.1 c6 _ hm')
        obtain ⟨⟨n', c'⟩, hb, rfl⟩ := List.mem_map.1 hmem
        have hb' := mem_look c3 hb
        have hl := mem_look c4 hm'
        refine hn n' (by simp [hl]) ?_
        simp [hb']
      have hinj : ∀ n n' c, look (backOf r) n = some c → look (backOf r) n' = some c → n = n' := fun n n' c e1 e2 => by
        rw [look_swap c3 c2] at e1 e2
        rw [e1] at e2
        exact Option.some.inj e2
      let θ' : Nat → Option (Nat × Nat) := fun c => match look (swapL (backOf r)) c with | some n => if (look r.H n).isSome then ct' n else θ c | none => θ c
      have hθ1 : ∀ n c o', look (backOf r) n = some c → look r.H n = some o' → θ' c = ct' n := fun n c o' hb hl => by
        have hb' := (look_swap c3 c2).1 hb
        simp [θ', hb', hl]
      have hθ2 : ∀ c, (∀ n, look r.H n ≠ none → look (backOf r) n ≠ some c) → θ' c = θ c := fun c hn => by
        simp only [θ']
        split
        · rename_i n hl
          have hb := (look_swap c3 c2).2 hl
          cases hr : look r.H n with
          | none => simp
          | some o' => exact (hn n (by simp [hr]) hb).elim
        · rfl
      have hbk2 : ∀ n c o', look (backOf r) n = some c → look r.H n = some o' → (σ.upd o.dst (r.res.ren (backOf r)) (backWo r)).own c = some (o'.ren (backOf r)) ∧ θ' c = ct' n := fun n c o' hb hl =>
        ⟨by simp [Sto.upd, hwo n c o' hb hl], hθ1 n c o' hb hl⟩
      have kk : Chg σ.own θ I w (σ.upd o.dst (r.res.ren (backOf r)) (backWo r)).own θ' I' w' := by
        refine chg_call (hs := r.hs) (bk := backOf r) h.chg.rel kc hcown (fun c n o' hm ho' => ?_) (fun n c hb => ?_) hbk2 (fun c hn => ⟨by simp [Sto.upd, hwo' c hn], hθ2 c hn⟩)
        · obtain ⟨o'', ho'', hl⟩ := hHl c n hm
          rw [ho'] at ho''
          obtain rfl := Option.some.inj ho''
          exact ⟨by rw [hco, hl]; rfl, hct c n hm, hbkh c n hm⟩
        · have hm := look_mem hb
          rw [hbk] at hm
          rcases List.mem_append.1 hm with hm | hm
          · obtain ⟨⟨c', n'⟩, hm', he'⟩ := List.mem_map.1 hm
            simp only [Prod.mk.injEq] at he'
            obtain ⟨rfl, rfl⟩ := he'
            obtain ⟨o', ho', _⟩ := hHl c' n' hm'
            exact .inl ⟨o', hm', ho'⟩
          · exact .inr (hfr n c hm)
      exact hK I' θ' _ _ (rel_put h kk (hres.ren (backOf r) hbk2) hd)
  · cases he
end
end Go.Proofs.Ytcpopeamoipjlaa
