/-
  A region whose order is drawn: whatever the order, it comes to the same.
-/
import Derived.Test.YtcpopeamoipjlaaStep
namespace Go.Proofs.Ytcpopeamoipjlaa
open Go Go.RowKit

structure Ev where
  rt : List (Nat × AV)
  ro : List (Nat × Option Own)
  wt : Option Nat
  v : AV
  wo : List (Nat × Own)

def Ev.ok (σ : Sto) (e : Ev) : Prop := (∀ p ∈ e.rt, σ.tmp p.1 = p.2) ∧ ∀ p ∈ e.ro, σ.own p.1 = p.2
def Ev.app (σ : Sto) (e : Ev) : Sto := σ.upd e.wt e.v e.wo
def Ev.tr (e : Ev) : Tr := ⟨e.rt.map (·.1), e.wt, e.ro.map (·.1), e.wo.map (·.1)⟩

structure Indep (x y : Ev) : Prop where
  a : ∀ d, x.wt = some d → d ∉ y.rt.map (·.1)
  b : ∀ d, x.wt = some d → y.wt ≠ some d
  c : ∀ d, y.wt = some d → d ∉ x.rt.map (·.1)
  d : ∀ n ∈ x.wo.map (·.1), n ∉ y.ro.map (·.1) ∧ n ∉ y.wo.map (·.1)
  e : ∀ n ∈ y.wo.map (·.1), n ∉ x.ro.map (·.1)

theorem notMemB {n : Nat} {l : List Nat} (h : (!memB n l) = true) : n ∉ l := fun hm => by rw [memB_mem.2 hm] at h; cases h
theorem indepB_indep {x y : Ev} (h : indepB x.tr y.tr = true) : Indep x y := by
  simp only [indepB, Ev.tr, Bool.and_eq_true] at h
  obtain ⟨⟨⟨h1, h2⟩, h3⟩, h4⟩ := h
  refine ⟨fun d hd => ?_, fun d hd => ?_, fun d hd => ?_, fun n hn => ?_, fun n hn => ?_⟩
  · rw [hd] at h1; simp only [Bool.and_eq_true] at h1; exact notMemB h1.1
  · rw [hd] at h1; simp only [Bool.and_eq_true] at h1
    intro he
    rw [he] at h1
    simp at h1
  · rw [hd] at h2; exact notMemB h2
  · have := List.all_eq_true.1 h3 n hn
    simp only [Bool.and_eq_true] at this
    exact ⟨notMemB this.1, notMemB this.2⟩
  · exact notMemB (List.all_eq_true.1 h4 n hn)

inductive Runs : List (Nat × Ev) → Sto → Sto → Prop
  | nil (σ : Sto) : Runs [] σ σ
  | cons {i : Nat} {e : Ev} {l : List (Nat × Ev)} {σ σ' : Sto} (h : e.ok σ) (t : Runs l (e.app σ) σ') : Runs ((i, e) :: l) σ σ'

theorem app_tmp (σ : Sto) (e : Ev) (t : Nat) (h : e.wt ≠ some t) : (e.app σ).tmp t = σ.tmp t := by simp [Ev.app, Sto.upd, h]
theorem app_own (σ : Sto) (e : Ev) (n : Nat) (h : n ∉ e.wo.map (·.1)) : (e.app σ).own n = σ.own n := by simp [Ev.app, Sto.upd, look_none h]

theorem ok_back {σ : Sto} {x y : Ev} (hi : Indep x y) (h : y.ok (x.app σ)) : y.ok σ := by
  refine ⟨fun p hp => ?_, fun p hp => ?_⟩
  · rw [← h.1 p hp, app_tmp]
    intro he
    exact hi.a p.1 he (List.mem_map.2 ⟨p, hp, rfl⟩)
  · rw [← h.2 p hp, app_own]
    intro he
    exact (hi.d p.1 he).1 (List.mem_map.2 ⟨p, hp, rfl⟩)
theorem ok_fwd {σ : Sto} {x y : Ev} (hi : Indep x y) (h : x.ok σ) : x.ok (y.app σ) := by
  refine ⟨fun p hp => ?_, fun p hp => ?_⟩
  · rw [app_tmp]
    · exact h.1 p hp
    · intro he
      exact hi.c p.1 he (List.mem_map.2 ⟨p, hp, rfl⟩)
  · rw [app_own]
    · exact h.2 p hp
    · intro he
      exact hi.e p.1 he (List.mem_map.2 ⟨p, hp, rfl⟩)
theorem app_comm {σ : Sto} {x y : Ev} (hi : Indep x y) : x.app (y.app σ) = y.app (x.app σ) := by
  simp only [Ev.app, Sto.upd, Sto.mk.injEq]
  constructor
  · funext t
    by_cases h1 : x.wt = some t
    · have := hi.b t h1
      simp [h1, this]
    · simp [h1]
  · funext n
    by_cases h1 : n ∈ x.wo.map (·.1)
    · have := look_none (hi.d n h1).2
      simp [this]
    · simp [look_none h1]

theorem runs_take {pre : List (Nat × Ev)} : ∀ {post : List (Nat × Ev)} {i : Nat} {e : Ev} {σ σ' : Sto}, Runs (pre ++ (i, e) :: post) σ σ' → (∀ p ∈ pre, Indep p.2 e) → e.ok σ ∧ Runs (pre ++ post) (e.app σ) σ' := by
  induction pre with
  | nil => intro post i e σ σ' h _; cases h with | cons h t => exact ⟨h, t⟩
  | cons p pre ih =>
    intro post i e σ σ' h hi
    obtain ⟨j, x⟩ := p
    cases h with | cons hx t =>
    obtain ⟨h1, h2⟩ := ih t fun p hp => hi p (List.mem_cons_of_mem _ hp)
    have hxe := hi (j, x) (by simp)
    refine ⟨ok_back hxe h1, .cons (ok_fwd hxe hx) ?_⟩
    rw [app_comm hxe]
    exact h2

section
variable {P : Program} {Γ : Env} {ops : Array Oper} {Q : Exit → Act → World → Prop}

def EvSound (P : Program) (Γ : Env) (ops : Array Oper) (Q : Exit → Act → World → Prop) (i : Nat) (e : Ev) : Prop :=
  ∀ (σ : Sto), e.ok σ → ∀ (I : Nat → Nat → Prop) (θ : Nat → Option (Nat × Nat)) (a : Act) (w : World), Rel Γ σ I θ a w → ∀ K : Act → World → Prop, (∀ I' θ' a' w', Rel Γ (e.app σ) I' θ' a' w' → K a' w') → wpOp P ops Q i K a w

/-- In the order of the text. -/
theorem text_sound : ∀ (es : List (Nat × Ev)) (σ σ' : Sto), (∀ p ∈ es, EvSound P Γ ops Q p.1 p.2) → Runs es σ σ' → (∀ I θ a w, Rel Γ σ' I θ a w → Q .normal a w) →
    ∀ I θ a w, Rel Γ σ I θ a w → wpOps P ops Q (es.map (·.1)) a w
  | [], σ, σ', _, hr, hQ, I, θ, a, w, h => by cases hr; simpa [wpOps] using hQ I θ a w h
  | (i, e) :: es, σ, σ', hs, hr, hQ, I, θ, a, w, h => by
    cases hr with | cons hok t =>
    simp only [List.map_cons]
    rw [wpOps_cons]
    exact hs (i, e) (by simp) σ hok I θ a w h _ fun I' θ' a' w' h' => text_sound es _ σ' (fun p hp => hs p (List.mem_cons_of_mem _ hp)) t hQ I' θ' a' w' h'

inductive Anc (ops : Array Oper) : Nat → Nat → Prop
  | direct {i : Nat} {o : Oper} {e : Edge} (ho : ops[i]? = some o) (he : e ∈ o.after) (hb : Region.binds .any e = true) : Anc ops e.on i
  | trans {i j k : Nat} (h : Anc ops i j) (h' : Anc ops j k) : Anc ops i k

def Closed (ops : Array Oper) (listed : Array Bool) : Prop := ∀ i o, ops[i]? = some o → listed.getD i false = true → ∀ e ∈ o.after, Region.binds .any e = true → listed.getD e.on false = true

theorem anc_listed {listed : Array Bool} (hc : Closed ops listed) {j i : Nat} (h : Anc ops j i) : (∀ o, ops[i]? = some o → ∀ e ∈ o.after, Region.binds .any e = true → listed.getD e.on false = true) → listed.getD j false = true := by
  induction h with
  | direct ho he hb => intro hi; exact hi _ ho _ he hb
  | trans _ _ ih1 ih2 => intro hi; exact ih1 fun o ho e he hb => hc _ o ho (ih2 hi) e he hb

theorem any_sound (hedge : ∀ i o, ops[i]? = some o → ∀ e ∈ o.after, Region.binds .any e = true → e.on < i) (σ' : Sto) (hQ : ∀ I θ a w, Rel Γ σ' I θ a w → Q .normal a w) : ∀ (fuel : Nat) (es : List (Nat × Ev)) (listed : Array Bool) (σ : Sto),
    (∀ p ∈ es, EvSound P Γ ops Q p.1 p.2) → Runs es σ σ' → es.Pairwise (fun p q => p.1 < q.1) → listed.size = ops.size → (∀ j, j ∈ es.map (·.1) ↔ j < ops.size ∧ listed.getD j true = false) → es.length = fuel →
    (∀ p ∈ es, ∀ q ∈ es, p.1 < q.1 → ¬ Indep p.2 q.2 → Anc ops p.1 q.1) → Closed ops listed → ∀ I θ a w, Rel Γ σ I θ a w → wpAny P .any ops Q fuel listed a w
  | 0, es, listed, σ, _, hr, _, _, hmem, hlen, _, _, I, θ, a, w, h => by
    have : es = [] := List.eq_nil_of_length_eq_zero hlen
    subst this
    cases hr
    refine ⟨?_, hQ I θ a w h⟩
    cases hready : Region.ready .any ops listed with
    | nil => rfl
    | cons i l =>
      have hi : i ∈ Region.ready .any ops listed := by rw [hready]; simp
      obtain ⟨h1, o, ho, _⟩ := mem_ready.1 hi
      have := (hmem i).2 ⟨(Array.getElem?_eq_some_iff.1 ho).1, h1⟩
      cases this
  | fuel + 1, es, listed, σ, hs, hr, hpw, hsz, hmem, hlen, hdep, hcl, I, θ, a, w, h => by
    refine ⟨fun hnil => ?_, fun i hi => ?_⟩
    · cases es with
      | nil => simp at hlen
      | cons p es =>
        obtain ⟨i, e⟩ := p
        have hi := (hmem i).1 (by simp)
        have hin : i ∈ Region.ready .any ops listed := by
          refine mem_ready.2 ⟨hi.2, ops[i]'hi.1, by simp [hi.1], fun e' he' hb => ?_⟩
          have hlt := hedge i _ (Array.getElem?_eq_getElem hi.1) e' he' hb
          have hnot : ¬ (e'.on ∈ ((i, e) :: es).map (·.1)) := by
            intro hm
            simp only [List.map_cons, List.mem_cons] at hm
            rcases hm with hm | hm
            · omega
            · obtain ⟨q, hq, hq'⟩ := List.mem_map.1 hm
              have := (List.pairwise_cons.1 hpw).1 q hq
              simp only at this
              omega
          rw [hmem] at hnot
          have hlt' : e'.on < ops.size := by omega
          have hls : e'.on < listed.size := by omega
          cases hb' : listed.getD e'.on false with
          | true => rfl
          | false =>
            refine (hnot ⟨hlt', ?_⟩).elim
            simpa [Array.getD, hls] using hb'
        rw [hnil] at hin
        cases hin
    · obtain ⟨h1, o, ho, hedges⟩ := mem_ready.1 hi
      have hlt := (Array.getElem?_eq_some_iff.1 ho).1
      have hin := (hmem i).2 ⟨hlt, h1⟩
      obtain ⟨⟨i', e⟩, hie, rfl⟩ := List.mem_map.1 hin
      obtain ⟨pre, post, rfl⟩ := List.append_of_mem hie
      simp only at *
      have hpre : ∀ p ∈ pre, Indep p.2 e := fun p hp => by
        refine Classical.byContradiction fun hni => ?_
        have hpi : p.1 < i' := by
          have := (List.pairwise_append.1 hpw).2.2 p hp (i', e) (by simp)
          exact this
        have hanc := hdep p (by simp [hp]) (i', e) (by simp) hpi hni
        have hl := anc_listed hcl hanc (fun o' ho' e' he' hb => by
          simp only at ho'
          rw [ho] at ho'
          obtain rfl := Option.some.inj ho'
          exact hedges e' he' hb)
        have hp' := (hmem p.1).1 (List.mem_map.2 ⟨p, by simp [hp], rfl⟩)
        have hls : p.1 < listed.size := by omega
        simp [Array.getD, hls] at hl hp'
        rw [hl] at hp'
        simp at hp'
      obtain ⟨hok, hr'⟩ := runs_take hr hpre
      have hpw' : (pre ++ post).Pairwise (fun p q => p.1 < q.1) := by
        refine hpw.sublist ?_
        exact List.Sublist.append (List.Sublist.refl _) (List.sublist_cons_self _ _)
      have hsub : ∀ p, p ∈ pre ++ post → p ∈ pre ++ (i', e) :: post := fun p hp => by
        rcases List.mem_append.1 hp with hp | hp
        · exact List.mem_append.2 (.inl hp)
        · exact List.mem_append.2 (.inr (List.mem_cons_of_mem _ hp))
      refine hs (i', e) (by simp) σ hok I θ a w h _ fun I' θ' a' w' h' =>
        any_sound hedge σ' hQ fuel (pre ++ post) (listed.setIfInBounds i' true) _ (fun p hp => hs p (hsub p hp)) hr' hpw' (by simp [hsz]) (fun j => ?_) (by simp at hlen ⊢; omega) (fun p hp q hq => hdep p (hsub p hp) q (hsub q hq)) ?_ I' θ' a' w' h'
      · have hne : ∀ p ∈ pre ++ post, p.1 ≠ i' := fun p hp he => by
          rcases List.mem_append.1 hp with hp | hp
          · have := (List.pairwise_append.1 hpw).2.2 p hp (i', e) (by simp)
            simp only at this
            omega
          · have := (List.pairwise_cons.1 (List.pairwise_append.1 hpw).2.1).1 p hp
            simp only at this
            omega
        constructor
        · intro hj
          obtain ⟨p, hp, rfl⟩ := List.mem_map.1 hj
          have := (hmem p.1).1 (List.mem_map.2 ⟨p, hsub p hp, rfl⟩)
          refine ⟨this.1, ?_⟩
          rw [getD_set_ne true (Ne.symm (hne p hp))]
          exact this.2
        · rintro ⟨hj1, hj2⟩
          by_cases hji : j = i'
          · subst hji
            have hls : j < listed.size := by omega
            simp [Array.getD, hls] at hj2
          · rw [getD_set_ne true (Ne.symm hji)] at hj2
            have := (hmem j).2 ⟨hj1, hj2⟩
            obtain ⟨p, hp, rfl⟩ := List.mem_map.1 this
            refine List.mem_map.2 ⟨p, ?_, rfl⟩
            rcases List.mem_append.1 hp with hp | hp
            · exact List.mem_append.2 (.inl hp)
            · rcases List.mem_cons.1 hp with rfl | hp
              · exact (hji rfl).elim
              · exact List.mem_append.2 (.inr hp)
      · intro x ox hox hx e' he' hb
        apply getD_set_true
        by_cases hxi : i' = x
        · subst hxi
          rw [ho] at hox
          obtain rfl := Option.some.inj hox
          exact hedges e' he' hb
        · rw [getD_set_ne false hxi] at hx
          exact hcl x ox hox hx e' he' hb
end
end Go.Proofs.Ytcpopeamoipjlaa
