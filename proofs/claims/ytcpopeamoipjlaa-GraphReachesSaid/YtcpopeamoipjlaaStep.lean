/-
  One operation of a region, with its guard: what is told of it holds.
-/
import Derived.Test.YtcpopeamoipjlaaCall
import Derived.Orders
namespace Go.Proofs.Ytcpopeamoipjlaa
open Go Go.RowKit

section
variable {P : Program} {Γ : Env} {σ : Sto} {I : Nat → Nat → Prop} {θ : Nat → Option (Nat × Nat)} {a : Act} {w : World} {o : Oper}

theorem rep_eval (h : Rel Γ σ I θ a w) (x : Operand) : Rep I σ.own θ w (a.eval x) (evA σ.tmp x) := by
  cases x with
  | tmp t => exact h.slots t
  | const v => exact rep_ofValue (σ := σ) v
  | global g =>
    show Rep I σ.own θ w _ (match globA g with | some cells => .rptr cells | none => .any)
    cases hg : globA g with
    | none => exact .val _ _ (.any _)
    | some cells => exact .val _ _ (h.glob g cells hg)
  | func f => exact .val _ _ (.clo f)
theorem repL_eval (h : Rel Γ σ I θ a w) (l : List Operand) : RepL I σ.own θ w (l.map a.eval) (l.map (evA σ.tmp)) := by
  induction l with
  | nil => exact .nil
  | cons x l ih => exact .cons (rep_eval h x) ih

theorem rep_uncond {v : Value} {x : AV} {γ gd : Bool} (h : Rep I σ.own θ w v x) (hγ : gd = true → γ = true) (ht : ∀ p ∈ x.there γ gd, p) : Rep I σ.own θ w v x.uncond := by
  cases x with
  | cond c y =>
    obtain ⟨h1, _⟩ := h.cond_inv
    apply h1
    cases gd with
    | false => exact ht _ (by simp [AV.there])
    | true => exact ht (γ = true → c = true) (by simp [AV.there]) (hγ rfl)
  | _ => exact h
theorem repL_uncond {l : List Value} {m : List AV} {γ gd : Bool} (h : RepL I σ.own θ w l m) (hγ : gd = true → γ = true) (ht : ∀ p ∈ (m.map (AV.there γ gd)).flatten, p) : RepL I σ.own θ w l (m.map AV.uncond) := by
  induction h with
  | nil => exact .nil
  | cons h _ ih =>
    simp only [List.map_cons, List.flatten_cons, List.mem_append] at ht
    exact .cons (rep_uncond h hγ fun p hp => ht p (.inl hp)) (ih fun p hp => ht p (.inr hp))

theorem boolIn_sound {v : Value} {x : AV} {ps : List Prop} {b : Bool} (hx : x.boolIn = some (ps, b)) (h : Rep I σ.own θ w v x) (hp : ∀ p ∈ ps, p) : v = .bool b := by
  unfold AV.boolIn at hx
  split at hx
  · simp only [Option.some.injEq, Prod.mk.injEq] at hx
    obtain ⟨rfl, rfl⟩ := hx
    exact h.bool_inv
  · simp only [Option.some.injEq, Prod.mk.injEq] at hx
    obtain ⟨rfl, rfl⟩ := hx
    exact (h.cond_inv.1 (hp _ (by simp))).bool_inv
  · cases hx

theorem ok_pick (h : Rel Γ σ I θ a w) (hd : ∀ d, o.dst = some d → d < Γ.n) {vs : List AV} (hp : isPick o = true) (hvs : RepL I σ.own θ w (o.op.operands.toList.map a.eval) vs) {γ gd : Bool} (hγ : gd = true → γ = true)
    (hth : ∀ p ∈ headThere γ gd vs, p) {e : Eff} (he : aPick vs = some e) (hob : ∀ p ∈ e.ob, p) : OpOK P Γ σ o a w e.v e.wo := by
  unfold isPick at hp
  split at hp
  · rename_i c x y ho
    simp only [ho, Op.operands, List.map_cons, List.map_nil] at hvs
    obtain ⟨vc, vx, vy, rfl, hc, hx, hy⟩ := hvs.three
    simp only [aPick] at he
    split at he
    · rename_i cb pa xa pb xb hcu hxa hyb
      simp only [Option.some.injEq] at he
      subst he
      have hc' := rep_uncond hc hγ hth
      rw [hcu] at hc'
      have ec := hc'.bool_inv
      simp only [List.mem_append] at hob
      cases cb with
      | true =>
        have ex := boolIn_sound hxa hx (fun p hp => hob _ (.inl (List.mem_map.2 ⟨p, hp, rfl⟩)) rfl)
        exact ok_pure h hd (v := .bool xa) (by simp [execOp, ho, ec, ex, asBool]) (.val _ _ (.bool _))
      | false =>
        have ey := boolIn_sound hyb hy (fun p hp => hob _ (.inr (List.mem_map.2 ⟨p, hp, rfl⟩)) rfl)
        exact ok_pure h hd (v := .bool xb) (by simp [execOp, ho, ec, ey, asBool]) (.val _ _ (.bool _))
    · cases he
  · cases hp

theorem RepL.append {own : Nat → Option Own} {l l' : List Value} {m m' : List AV} (h : RepL I own θ w l m) (h' : RepL I own θ w l' m') : RepL I own θ w (l ++ l') (m ++ m') := by
  induction h with
  | nil => exact h'
  | cons h _ ih => exact .cons h ih
theorem repL_of {own : Nat → Option Own} : ∀ {l : List Value} {m : List AV}, l.length = m.length → (∀ j, j < m.length → Rep I own θ w (l.getD j undef) (m.getD j .any)) → RepL I own θ w l m
  | [], [], _, _ => .nil
  | [], _ :: _, h, _ => by simp at h
  | _ :: _, [], h, _ => by simp at h
  | v :: l, x :: m, h, hr => .cons (by simpa using hr 0 (by simp)) (repL_of (by simpa using h) fun j hj => by simpa using hr (j + 1) (by simpa using hj))
theorem repL_of_arr {own : Nat → Option Own} {l : Array Value} {m : List AV} (h : l.size = m.length) (hr : ∀ j, j < m.length → Rep I own θ w (l.getD j undef) (m.getD j .any)) : RepL I own θ w l.toList m :=
  repL_of (by simpa using h) fun j hj => by
    have e : l.toList.getD j undef = l.getD j undef := by simp [Array.getD_eq_getD_getElem?, List.getD]
    rw [e]; exact hr j hj
/-- The operation's own part. -/
theorem eff_sound (h : Rel Γ σ I θ a w) (hd : ∀ d, o.dst = some d → d < Γ.n) {vs : List AV} (hvs : vs = o.op.operands.toList.map (evA σ.tmp)) {r : Option Orc} {es : List (Option Own)} (hes : es = (needsV o vs r).map σ.own) {γ gd hint : Bool} (hγ : gd = true → γ = true)
    (hth : ∀ p ∈ (bif isPick o then headThere γ gd vs else (vs.map (AV.there γ gd)).flatten), p) {e : Eff}
    (he : effOf P (Spec P) hint o vs es r = some e) (hob : ∀ p ∈ e.ob, p) :
    OpOK P Γ σ o a w e.v e.wo := by
  have hall : RepL I σ.own θ w (o.op.operands.toList.map a.eval) vs := by rw [hvs]; exact repL_eval h _
  unfold effOf at he
  cases hp : isPick o with
  | true =>
    simp only [hp, cond_true] at he hth
    exact ok_pick h hd hp hall hγ hth he hob
  | false =>
    simp only [hp, cond_false] at he hth
    have hun := repL_uncond hall hγ hth
    cases hc : isCall o with
    | false =>
      simp only [hc, cond_false] at he
      exact asemX_sound h hd hun (by rw [hes]; simp [needsV, hc]) he hob
    | true =>
      simp only [hc, cond_true] at he
      split at he
      · rename_i f as r' hf
        unfold callTo at hf
        split at hf
        · rename_i g xs ts ho
          simp only [Option.some.injEq, Prod.mk.injEq] at hf
          obtain ⟨rfl, rfl⟩ := hf
          have e1 : o.op.operands.toList.map a.eval = .func (.func g) #[] #[] :: xs.toList.map a.eval := by rw [ho]; simp [Op.operands, Call.operands, Act.eval]
          have hl : RepL I σ.own θ w (xs.toList.map a.eval) ((vs.map AV.uncond).drop 1) := by
            rw [e1] at hun
            generalize vs.map AV.uncond = m at hun
            cases hun with | cons _ t => simpa using t
          refine ok_call (ws := xs.toList.map a.eval) h hd ?_ hl (by rw [hes]; simp [needsV, hc]) he hob
          have e2 : (xs.toList.map a.eval).toArray = xs.map a.eval := by apply Array.ext'; simp
          rw [e2]
          simp [execOp, ho, resolve, invoke, Deferred.ofValue, Act.eval]
        · rename_i t xs ts ho
          split at hf
          · rename_i g fs cs rest hm
            simp only [Option.some.injEq, Prod.mk.injEq] at hf
            obtain ⟨rfl, rfl⟩ := hf
            have e1 : o.op.operands.toList.map a.eval = a.eval (.tmp t) :: xs.toList.map a.eval := by rw [ho]; simp [Op.operands, Call.operands]
            rw [e1, hm] at hun
            cases hun with
            | cons hh ht =>
              obtain ⟨fv, cv, hv, l1, l2, r1, r2⟩ := hh.clo_inv
              have hR : RepL I σ.own θ w (fv.toList ++ xs.toList.map a.eval ++ cv.toList) (fs ++ rest ++ cs) := RepL.append (RepL.append (repL_of_arr l1 r1) ht) (repL_of_arr l2 r2)
              refine ok_call (ws := fv.toList ++ xs.toList.map a.eval ++ cv.toList) h hd ?_ hR (by rw [hes]; simp [needsV, hc]) he hob
              have e2 : (fv.toList ++ xs.toList.map a.eval ++ cv.toList).toArray = fv ++ xs.map a.eval ++ cv := by apply Array.ext'; simp
              rw [e2]
              simp [execOp, ho, resolve, invoke, Deferred.ofValue, hv]
          · cases hf
        · cases hf
      · cases he

theorem rel_cast {d : Option Nat} {x y : AV} {wo : List (Nat × Own)} (h : Rel Γ (σ.upd d x wo) I θ a w) (hxy : AVle x y) : Rel Γ (σ.upd d y wo) I θ a w := by
  refine ⟨h.size, h.defers, fun t => ?_, h.chg⟩
  have := h.slots t
  simp only [Sto.upd] at this ⊢
  split
  · rename_i hdt
    rw [if_pos hdt] at this
    exact hxy _ _ _ _ _ this
  · rename_i hdt
    rw [if_neg hdt] at this
    exact this
theorem castWo_sound {y : AV} {wo : List (Nat × Own)} (h : ∀ p ∈ (castWo y wo).2, p) : (castWo y wo).1 = wo := by
  unfold castWo at h ⊢
  split at h
  · have := h _ (List.mem_singleton.2 rfl)
    subst this
    rfl
  · rfl
theorem castE_sound {c : Option AV} {e : Eff} (hob : ∀ p ∈ (castE c e).ob, p) : (∀ p ∈ e.ob, p) ∧ (castE c e).wo = e.wo ∧ AVle e.v (castE c e).v := by
  unfold castE at hob ⊢
  split at hob
  · exact ⟨hob, rfl, fun _ _ _ _ _ h => h⟩
  · refine ⟨fun p hp => hob p (List.mem_append.2 (.inl hp)), castWo_sound fun p hp => hob p (List.mem_append.2 (.inr (List.mem_cons_of_mem _ hp))), hob _ (List.mem_append.2 (.inr (by simp)))⟩

theorem rel_cond {d : Option Nat} {x : AV} {wo : List (Nat × Own)} {c : Bool} (h : Rel Γ (σ.upd d x wo) I θ a w) (hc : c = true) : Rel Γ (σ.upd d (.cond c x) wo) I θ a w := by
  refine ⟨h.size, h.defers, fun t => ?_, h.chg⟩
  have := h.slots t
  simp only [Sto.upd] at this ⊢
  split
  · rename_i hdt
    rw [if_pos hdt] at this
    exact .cond _ _ _ (fun _ => this) (fun hf => by rw [hc] at hf; cases hf)
  · rename_i hdt
    rw [if_neg hdt] at this
    exact this

theorem gamma_sound {ops : Array Oper} {j : Nat} {want : Bool} (hg : o.guard = some (j, want)) {oj : Oper} (hj : ops[j]? = some oj) {t : Nat} (ht : oj.dst = some t) (h : Rel Γ σ I θ a w) {γ : Bool} (hγ : gamma want (σ.tmp t) = some γ) :
    Region.wanted o (yielded ops a.tmps) = γ := by
  have hs := h.slots t
  have hy : yielded ops a.tmps j = match a.tmps.getD t undef with | .bool b => some b | _ => none := by
    simp only [yielded, hj, Option.bind_some, ht]
    by_cases hlt : t < a.tmps.size
    · obtain ⟨u, hu, hu'⟩ := aget_some (l := a.tmps) hlt
      rw [hu, hu']
      cases u <;> rfl
    · simp [Array.getD, hlt, undef]
  simp only [Region.wanted, hg, hy]
  unfold gamma at hγ
  split at hγ
  · rename_i b hb
    rw [hb] at hs
    rw [hs.bool_inv]
    simp only [Option.some.injEq] at hγ
    subst hγ
    cases b <;> cases want <;> rfl
  · rename_i c b hb
    rw [hb] at hs
    obtain ⟨h1, h2⟩ := hs.cond_inv
    simp only [Option.some.injEq] at hγ
    subst hγ
    cases c with
    | true => rw [(h1 rfl).bool_inv]; cases b <;> cases want <;> rfl
    | false => rw [h2 rfl]; rfl
  · rename_i hb
    rw [hb] at hs
    rw [hs.undef_inv]
    simp only [Option.some.injEq] at hγ
    subst hγ
    rfl
  · cases hγ

theorem merge_eq {γ : Bool} {x y z : AV} (h : x.merge γ y = some z) : z = bif γ then y else x := by
  cases x <;> cases y <;> simp only [AV.merge, reduceCtorEq, Option.some.injEq] at h <;> try (cases h; done)
  case int.int k a k' b =>
    cases hk : kEq k k' with
    | false => simp [hk] at h
    | true => obtain rfl := kEq_eq hk; simp only [hk, cond_true, Option.some.injEq] at h; subst h; cases γ <;> rfl
  case bool.bool => subst h; cases γ <;> rfl
  case str.str => subst h; cases γ <;> rfl
  case nilp.nilp => subst h; cases γ <;> rfl
  case any.any => subst h; cases γ <;> rfl
  case ptr.ptr n o n' o' =>
    cases hb : (Nat.beq n n' && Nat.beq o o') with
    | false => simp [hb] at h
    | true =>
      simp only [hb, cond_true, Option.some.injEq] at h
      simp only [Bool.and_eq_true] at hb
      obtain rfl := Nat.eq_of_beq_eq_true hb.1
      obtain rfl := Nat.eq_of_beq_eq_true hb.2
      subst h; cases γ <;> rfl
  case slice.slice sz n f t sz' n' f' t' =>
    cases t <;> cases t' <;> simp only [AV.merge, reduceCtorEq] at h
    cases hb : Nat.beq sz sz' with
    | false => simp [hb] at h
    | true =>
      obtain rfl := Nat.eq_of_beq_eq_true hb
      simp only [hb, cond_true, Option.some.injEq] at h
      subst h; cases γ <;> rfl
theorem mergeAll_eq {γ : Bool} : ∀ {l m r : List AV}, AV.mergeAll γ l m = some r → r = bif γ then m else l
  | [], [], r, h => by simp only [AV.mergeAll, Option.some.injEq] at h; subst h; cases γ <;> rfl
  | [], _ :: _, r, h => by simp [AV.mergeAll] at h
  | _ :: _, [], r, h => by simp [AV.mergeAll] at h
  | x :: l, y :: m, r, h => by
    simp only [AV.mergeAll] at h
    split at h
    · rename_i z q h1 h2
      simp only [Option.some.injEq] at h
      subst h
      rw [merge_eq h1, mergeAll_eq h2]
      cases γ <;> rfl
    · cases h
theorem ownMerge_eq {γ : Bool} {x y z : Own} (h : x.merge γ y = some z) : z = bif γ then y else x := by
  cases x <;> cases y <;> simp only [Own.merge, reduceCtorEq] at h
  rename_i e l e' m
  cases hb : Nat.beq e e' with
  | false => simp [hb] at h
  | true =>
    obtain rfl := Nat.eq_of_beq_eq_true hb
    simp only [hb, cond_true] at h
    split at h
    · rename_i r hr
      simp only [Option.some.injEq] at h
      subst h
      rw [mergeAll_eq hr]
      cases γ <;> rfl
    · cases h
theorem oldOf_eq {own : Nat → Option Own} : ∀ {ns : List Nat} {n : Nat} {o : Own}, oldOf ns (ns.map own) n = some o → own n = some o
  | [], n, o, h => by simp [oldOf] at h
  | k :: ns, n, o, h => by
    simp only [List.map_cons, oldOf] at h
    cases hb : Nat.beq k n with
    | true => obtain rfl := Nat.eq_of_beq_eq_true hb; simpa [hb] using h
    | false => simp only [hb, cond_false] at h; exact oldOf_eq h
theorem mergeWo_true {ns : List Nat} {es : List (Option Own)} : ∀ {wo wo' : List (Nat × Own)}, mergeWo true ns es wo = some wo' → wo' = wo
  | [], wo', h => by simp only [mergeWo, Option.some.injEq] at h; exact h.symm
  | (n, o) :: r, wo', h => by
    simp only [mergeWo] at h
    split at h
    · split at h
      · rename_i z r' h1 h2
        simp only [Option.some.injEq] at h
        subst h
        rw [ownMerge_eq h1, mergeWo_true h2]
        rfl
      · cases h
    · cases h
theorem mergeWo_false {own : Nat → Option Own} {ns : List Nat} : ∀ {wo wo' : List (Nat × Own)}, mergeWo false ns (ns.map own) wo = some wo' → ∀ n o, look wo' n = some o → own n = some o
  | [], wo', h => by simp only [mergeWo, Option.some.injEq] at h; subst h; intro n o h; cases h
  | (n, o) :: r, wo', h => by
    simp only [mergeWo] at h
    split at h
    · rename_i o' ho'
      split at h
      · rename_i z r' h1 h2
        simp only [Option.some.injEq] at h
        subst h
        intro k q hk
        simp only [look] at hk
        cases hb : Nat.beq n k with
        | true =>
          obtain rfl := Nat.eq_of_beq_eq_true hb
          simp only [hb, cond_true, Option.some.injEq] at hk
          subst hk
          rw [ownMerge_eq h1]
          exact oldOf_eq ho'
        | false => simp only [hb, cond_false] at hk; exact mergeWo_false h2 k q hk
      · cases h
    · cases h
theorem upd_same {d : Option Nat} {x : AV} {wo : List (Nat × Own)} (h : ∀ n o, look wo n = some o → σ.own n = some o) : σ.upd d x wo = σ.upd d x [] := by
  simp only [Sto.upd, Sto.mk.injEq, true_and]
  funext n
  cases hl : look wo n with
  | none => rfl
  | some o => simp [h n o hl, look]

/-- One operation of a region. -/
theorem step_sound {ops : Array Oper} {i : Nat} (hi : ops[i]? = some o) (h : Rel Γ σ I θ a w) (hd : ∀ d, o.dst = some d → d < Γ.n) {vs : List AV} (hvs : vs = o.op.operands.toList.map (evA σ.tmp)) {gv : Option (AV × Bool)} (hgv : guardVal ops.toList σ.tmp o = some gv)
    {r : Option Orc} {es : List (Option Own)} (hes : es = (needsV o vs r).map σ.own) {cs : Option AV} {e : Step} (he : stepV P (Spec P) cs o vs gv es r = some e) (hob : ∀ p ∈ e.ob, p)
    (K : Act → World → Prop) (Q : Exit → Act → World → Prop) (hK : ∀ I' θ' a' w', Rel Γ (σ.upd o.dst e.v e.wo) I' θ' a' w' → K a' w') : wpOp P ops Q i K a w := by
  unfold stepV at he
  unfold guardVal at hgv
  unfold wpOp
  simp only [hi]
  cases hg : o.guard with
  | none =>
    simp only [hg, Option.some.injEq] at hgv
    subst hgv
    simp only at he
    split at he
    · rename_i ef' hef'
      obtain ⟨ef, hef, rfl⟩ := Option.map_eq_some_iff.1 hef'
      simp only [Option.some.injEq] at he
      subst he
      simp only [List.mem_append] at hob
      obtain ⟨c1, c2, c3⟩ := castE_sound (fun p hp => hob p (.inr hp))
      rw [if_pos (by simp [Region.wanted, hg])]
      have hok := eff_sound h hd hvs hes (γ := true) (gd := false) (fun h => by cases h) (fun p hp => hob p (.inl hp)) hef c1
      refine .inl (hok K Q fun I' θ' a' w' hr => hK I' θ' a' w' ?_)
      rw [c2]
      exact rel_cast hr c3
    · cases he
  | some gg =>
    obtain ⟨j, want⟩ := gg
    simp only [hg] at hgv
    split at hgv
    · rename_i oj hoj
      split at hgv
      · rename_i t ht
        simp only [Option.some.injEq] at hgv
        subst hgv
        simp only at he
        split at he
        · rename_i γ ef' hγ hef'
          obtain ⟨ef, hef, rfl⟩ := Option.map_eq_some_iff.1 hef'
          split at he
          · rename_i wo hwo
            simp only [Option.some.injEq] at he
            subst he
            have hj : ops[j]? = some oj := by simpa using hoj
            have hw := gamma_sound hg hj ht h hγ
            rw [hw]
            simp only [List.mem_append] at hob
            cases γ with
            | false =>
              rw [if_neg (by simp)]
              rw [hes] at hwo
              have hs := upd_same (σ := σ) (d := o.dst) (x := .cond false (castE (noHint cs) ef).v) (mergeWo_false hwo)
              refine hK I θ _ _ ?_
              simp only
              rw [hs]
              exact rel_put h (.refl h.chg.rel h.chg.valid) (x := .cond false _) (.cond _ _ _ (fun hf => by cases hf) (fun _ => rfl)) hd
            | true =>
              rw [if_pos rfl]
              obtain ⟨c1, c2, c3⟩ := castE_sound (c := noHint cs) (e := ef) (fun p hp => hob _ (.inr (List.mem_map.2 ⟨p, hp, rfl⟩)) rfl)
              have hok := eff_sound h hd hvs hes (γ := true) (gd := true) (fun _ => rfl) (fun p hp => hob p (.inl hp)) hef c1
              have hm := mergeWo_true hwo
              rw [c2] at hm
              subst hm
              exact .inl (hok K Q fun I' θ' a' w' hr => hK I' θ' a' w' (rel_cond (rel_cast hr c3) rfl))
          · cases he
        · cases he
      · cases hgv
    · cases hgv
end
end Go.Proofs.Ytcpopeamoipjlaa
