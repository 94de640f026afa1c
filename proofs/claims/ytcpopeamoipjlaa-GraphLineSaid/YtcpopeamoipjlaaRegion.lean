/-
  A region by its evaluation; abstract weakest preconditions of code.
-/
import Derived.Test.YtcpopeamoipjlaaOrder
namespace Go.Proofs.Ytcpopeamoipjlaa
open Go Go.RowKit

theorem look_putA {α : Type} (l : List (Nat × α)) (k : Nat) (x : α) (n : Nat) : look (putA l k x) n = if k = n then some x else look l n := by
  induction l with
  | nil =>
    simp only [putA, look]
    by_cases h : k = n
    · subst h; simp
    · cases hb : Nat.beq k n with
      | true => exact (h (Nat.eq_of_beq_eq_true hb)).elim
      | false => simp [h]
  | cons p l ih =>
    obtain ⟨k', y⟩ := p
    simp only [putA]
    cases hb : Nat.beq k' k with
    | true =>
      have := Nat.eq_of_beq_eq_true hb
      subst this
      simp only [cond_true, look]
      by_cases h : k' = n
      · subst h; simp
      · cases hb : Nat.beq k' n with
        | true => exact (h (Nat.eq_of_beq_eq_true hb)).elim
        | false => simp [h]
    | false =>
      simp only [cond_false, look, ih]
      cases hb' : Nat.beq k' n with
      | true =>
        have := Nat.eq_of_beq_eq_true hb'
        subst this
        have : k ≠ k' := by rintro rfl; simp at hb
        simp [this]
      | false => simp

theorem look_putAll {α : Type} (l r : List (Nat × α)) (n : Nat) : look (putAll l r) n = match look r n with | some x => some x | none => look l n := by
  induction r with
  | nil => rfl
  | cons p r ih =>
    obtain ⟨k, x⟩ := p
    simp only [putAll, look_putA, look, ih]
    by_cases h : k = n
    · subst h; simp
    · cases hb : Nat.beq k n with
      | true => exact (h (Nat.eq_of_beq_eq_true hb)).elim
      | false => simp [h]

theorem famOwn_lt {l : List (Nat × Own)} {r : List (Nat × Fam)} {k : Nat} (h : k < famB) : famOwn l r k = look l k := by simp [famOwn, h]
theorem big_ge (b i : Nat) : ¬ big b i < famB := by unfold big; have : famB * 1 ≤ famB * (b + 1) := Nat.mul_le_mul_left _ (by omega); omega
theorem big_div {b i : Nat} (h : i < famB) : big b i / famB - 1 = b := by
  have h0 : 0 < famB := by decide
  unfold big
  rw [Nat.mul_add_div h0, Nat.div_eq_of_lt h]
  omega
theorem big_mod {b i : Nat} (h : i < famB) : big b i % famB = i := by
  unfold big
  rw [Nat.mul_add_mod, Nat.mod_eq_of_lt h]
theorem big_of {k : Nat} (h : ¬ k < famB) : k = big (k / famB - 1) (k % famB) := by
  have h0 : 0 < famB := by decide
  unfold big
  have : 1 ≤ k / famB := (Nat.one_le_div_iff h0).2 (by omega)
  rw [Nat.sub_add_cancel this, Nat.div_add_mod]
theorem famOwn_ge {l : List (Nat × Own)} {r : List (Nat × Fam)} {k : Nat} (h : ¬ k < famB) : famOwn l r k = (look r (k / famB - 1)).bind fun F => (F.m (k % famB)).map (Own.tok F.sz F.e) := by simp [famOwn, h]
theorem famOwn_big {l : List (Nat × Own)} {r : List (Nat × Fam)} {b i : Nat} (h : i < famB) : famOwn l r (big b i) = (look r b).bind fun F => (F.m i).map (Own.tok F.sz F.e) := by
  rw [famOwn_ge (big_ge b i), big_div h, big_mod h]
theorem famOwn_tok {l : List (Nat × Own)} {r : List (Nat × Fam)} {k : Nat} (h : ¬ k < famB) {o : Own} (ho : famOwn l r k = some o) : ∃ sz e m, o = .tok sz e m := by
  rw [famOwn_ge h] at ho
  obtain ⟨F, _, hF⟩ := Option.bind_eq_some_iff.1 ho
  obtain ⟨m, _, rfl⟩ := Option.map_eq_some_iff.1 hF
  exact ⟨_, _, _, rfl⟩
theorem famOwn_look {l : List (Nat × Own)} {r : List (Nat × Fam)} {k : Nat} {o : Own} (ho : famOwn l r k = some o) (hn : ∀ sz e m, o ≠ .tok sz e m) : look l k = some o := by
  by_cases hk : k < famB
  · rw [← ho, famOwn_lt hk]
  · obtain ⟨sz, e, m, rfl⟩ := famOwn_tok hk ho
    exact (hn _ _ _ rfl).elim
theorem look_mem' {α : Type} {l : List (Nat × α)} {n : Nat} {x : α} (h : look l n = some x) : (n, x) ∈ l := by
  induction l with
  | nil => cases h
  | cons p l ih =>
    obtain ⟨k, y⟩ := p
    simp only [look] at h
    cases hb : Nat.beq k n with
    | true =>
      have := Nat.eq_of_beq_eq_true hb
      subst this
      rw [hb] at h
      simp only [cond_true, Option.some.injEq] at h
      subst h
      exact List.mem_cons_self ..
    | false => rw [hb] at h; exact List.mem_cons_of_mem _ (ih h)
theorem plain_lt {l : List (Nat × Own)} (h : plainB l = true) {k : Nat} (hk : look l k ≠ none) : k < famB := by
  cases hx : look l k with
  | none => exact (hk hx).elim
  | some o => have := List.all_eq_true.1 h _ (look_mem' hx); simpa [Nat.blt_eq] using this
theorem famOwn_plain {l : List (Nat × Own)} (h : plainB l = true) : famOwn l [] = look l := by
  funext k
  by_cases hk : k < famB
  · exact famOwn_lt hk
  · rw [famOwn_ge hk]
    cases hx : look l k with
    | none => rfl
    | some o => exact (hk (plain_lt h (by rw [hx]; simp))).elim
theorem famOwn_putA {l : List (Nat × Own)} {r : List (Nat × Fam)} {n : Nat} (hn : n < famB) (o : Own) (k : Nat) : famOwn (putA l n o) r k = if n = k then some o else famOwn l r k := by
  by_cases hk : k < famB
  · rw [famOwn_lt hk, famOwn_lt hk, look_putA]
  · rw [famOwn_ge hk, famOwn_ge hk, if_neg (by rintro rfl; exact hk hn)]
theorem famOwn_putAll {l wo : List (Nat × Own)} {r : List (Nat × Fam)} {ns : List Nat} (h : namesOk ns wo = true) (k : Nat) : famOwn (putAll l wo) r k = match look wo k with | some o => some o | none => famOwn l r k := by
  simp only [namesOk, Bool.and_eq_true] at h
  by_cases hk : k < famB
  · rw [famOwn_lt hk, famOwn_lt hk, look_putAll]
    cases look wo k <;> rfl
  · have hn : look wo k = none := by
      cases hx : look wo k with
      | none => rfl
      | some o => exact (hk (plain_lt h.2 (by rw [hx]; simp))).elim
    rw [hn, famOwn_ge hk, famOwn_ge hk]

theorem sto_upd (st : St) (d : Option Nat) (v : AV) (wo : List (Nat × Own)) {ns : List Nat} (hok : namesOk ns wo = true) : (st.upd d v wo).sto = st.sto.upd d v wo := by
  simp only [St.sto, St.upd, Sto.upd, Sto.mk.injEq]
  constructor
  · funext t
    cases d with
    | none => simp [St.get]
    | some d =>
      simp only [St.get, look_putA, Option.some.injEq]
      by_cases h : d = t <;> simp [h]
  · funext n
    rw [famOwn_putAll hok]
    cases look wo n <;> rfl

section
variable {P : Program} {Γ : Env} {ops : Array Oper} {Q : Exit → Act → World → Prop}

theorem evA_congr {g g' : Nat → AV} (l : List Operand) (h : ∀ t, .tmp t ∈ l → g t = g' t) : l.map (evA g) = l.map (evA g') := by
  apply List.map_congr_left
  intro x hx
  cases x with
  | tmp t => exact h t hx
  | _ => rfl

theorem arun_events (cs : List (Nat × AV)) : ∀ (rest : List Oper) (k : Nat) (st : St) (rs : List Orc) (st' : St) (obs : List Prop) (trs : List Tr), arun P (Spec P) Γ.n cs ops.toList rest st rs = some (st', obs, trs) →
    (∀ j, rest[j]? = ops[k + j]?) → (∀ p ∈ obs, p) →
    ∃ es : List (Nat × Ev), es.map (·.1) = List.range' k rest.length ∧ Runs es st.sto st'.sto ∧ (∀ p ∈ es, EvSound P Γ ops Q p.1 p.2) ∧ es.map (fun p => p.2.tr) = trs
  | [], k, st, rs, st', obs, trs, h, _, _ => by
    simp only [arun, Option.some.injEq, Prod.mk.injEq] at h
    obtain ⟨rfl, rfl, rfl⟩ := h
    exact ⟨[], rfl, .nil _, (fun _ h => by cases h), rfl⟩
  | o :: rest, k, st, rs, st', obs, trs, h, hops, hob => by
    simp only [arun] at h
    generalize hr : orcOf o rs = r at h
    have ho : ops[k]? = some o := by simpa using (hops 0).symm
    split at h
    · cases h
    · rename_i gv hgv
      split at h
      · cases h
      · rename_i e he
        cases hdn : dstOk Γ.n o && namesOk (needsV o (o.op.operands.toList.map (evA st.get)) r) e.wo with
        | false => rw [hdn] at h; simp at h
        | true =>
          rw [hdn] at h
          simp only [cond_true] at h
          simp only [Bool.and_eq_true] at hdn
          obtain ⟨hd, hnok⟩ := hdn
          have hnlt : ∀ n ∈ needsV o (o.op.operands.toList.map (evA st.get)) r, n < famB := fun n hn => by
            have hnok' := hnok
            simp only [namesOk, Bool.and_eq_true] at hnok'
            have := List.all_eq_true.1 hnok'.1 n hn
            simpa [Nat.blt_eq] using this
          split at h
          · cases h
          · rename_i st1 obs1 trs1 hrec
            simp only [Option.some.injEq, Prod.mk.injEq] at h
            obtain ⟨rfl, rfl, rfl⟩ := h
            obtain ⟨es, h1, h2, h3, h4⟩ := arun_events cs rest (k + 1) _ _ _ _ _ hrec (fun j => by have := hops (j + 1); simpa [Nat.add_assoc, Nat.add_comm 1 j] using this) (fun p hp => hob p (List.mem_append.2 (.inr hp)))
            let ns := needsV o (o.op.operands.toList.map (evA st.get)) r
            let ev : Ev := ⟨(guardSlot ops.toList o ++ tmpsOf o).map (fun t => (t, st.get t)), ns.map (fun n => (n, look st.own n)), o.dst, e.v, e.wo⟩
            refine ⟨(k, ev) :: es, by simp [List.range'_succ, h1], .cons ⟨fun p hp => ?_, fun p hp => ?_⟩ (by rw [show ev.app st.sto = (st.upd o.dst e.v e.wo).sto from (sto_upd _ _ _ _ hnok).symm]; exact h2), fun p hp => ?_, ?_⟩
            · obtain ⟨t, _, rfl⟩ := List.mem_map.1 hp; rfl
            · obtain ⟨n, hn, rfl⟩ := List.mem_map.1 hp; exact famOwn_lt (hnlt n hn)
            · rcases List.mem_cons.1 hp with rfl | hp
              · intro σ hok I θ a w hrel K hK
                have ht : ∀ t, t ∈ guardSlot ops.toList o ++ tmpsOf o → σ.tmp t = st.get t := fun t ht => hok.1 (t, st.get t) (List.mem_map.2 ⟨t, ht, rfl⟩)
                have hn : ∀ n, n ∈ ns → σ.own n = look st.own n := fun n hn => hok.2 (n, look st.own n) (List.mem_map.2 ⟨n, hn, rfl⟩)
                have hvs : o.op.operands.toList.map (evA st.get) = o.op.operands.toList.map (evA σ.tmp) := evA_congr _ fun t hm => (ht t (List.mem_append.2 (.inr (List.mem_filterMap.2 ⟨.tmp t, hm, rfl⟩)))).symm
                have hgv' : guardVal ops.toList σ.tmp o = some gv := by
                  rw [← hgv]
                  unfold guardVal
                  cases hg : o.guard with
                  | none => rfl
                  | some jw =>
                    obtain ⟨j, want⟩ := jw
                    dsimp only
                    cases hj : ops.toList[j]? with
                    | none => rfl
                    | some oj =>
                      dsimp only
                      cases hdj : oj.dst with
                      | none => rfl
                      | some t =>
                        dsimp only
                        rw [ht t (List.mem_append.2 (.inl (by simp only [guardSlot, hg, hj, hdj]; simp)))]
                refine step_sound ho hrel (fun d hdd => ?_) hvs hgv' (r := r) (es := ns.map (look st.own)) ?_ he (fun p hp => hob p (List.mem_append.2 (.inl hp))) K Q hK
                · simp only [dstOk, hdd] at hd; simpa [Nat.blt_eq] using hd
                · exact List.map_congr_left fun n hn' => (hn n hn').symm
              · exact h3 p hp
            · simp only [List.map_cons, h4, List.cons.injEq, and_true]
              simp [Ev.tr, ev, ns, Function.comp_def]

/-! ### The check of the order -/
theorem maskOf_spec (done : List Nat) (l : List Edge) : ∀ (s j : Nat), (l.foldl (fun s e => bif Region.binds .any e then s ||| (2 ^ e.on ||| done.getD e.on 0) else s) s).testBit j = true →
    s.testBit j = true ∨ ∃ e ∈ l, Region.binds .any e = true ∧ (e.on = j ∨ (done.getD e.on 0).testBit j = true) := by
  induction l with
  | nil => intro s j h; exact .inl h
  | cons e l ih =>
    intro s j h
    simp only [List.foldl_cons] at h
    rcases ih _ j h with h' | ⟨e', he', hb, hh⟩
    · cases hb : Region.binds .any e with
      | false => rw [hb] at h'; exact .inl (by simpa using h')
      | true =>
        rw [hb] at h'
        simp only [cond_true, Nat.testBit_or, Bool.or_eq_true] at h'
        rcases h' with h' | h' | h'
        · exact .inl h'
        · refine .inr ⟨e, by simp, hb, .inl ?_⟩
          rw [Nat.testBit_two_pow] at h'
          simpa using h'
        · exact .inr ⟨e, by simp, hb, .inr h'⟩
    · exact .inr ⟨e', List.mem_cons_of_mem _ he', hb, hh⟩

theorem ancGo_spec : ∀ (l : List Oper) (done : List Nat), (∀ j, l[j]? = ops[done.length + j]?) → (∀ i j, (done.getD i 0).testBit j = true → Anc ops j i) →
    ∀ i j, ((ancGo done l).getD i 0).testBit j = true → Anc ops j i
  | [], done, _, hd, i, j, h => hd i j h
  | o :: l, done, hops, hd, i, j, h => by
    simp only [ancGo] at h
    refine ancGo_spec l (done ++ [maskOf done o]) (fun j => by have := hops (j + 1); simpa [Nat.add_assoc, Nat.add_comm 1 j] using this) (fun i j hb => ?_) i j h
    by_cases hlt : i < done.length
    · exact hd i j (by rwa [List.getD, List.getElem?_append_left hlt] at hb)
    · by_cases hi : i = done.length
      · subst hi
        rw [List.getD, List.getElem?_append_right (Nat.le_refl _)] at hb
        simp only [Nat.sub_self, List.getElem?_cons_zero, Option.getD_some] at hb
        have ho : ops[done.length]? = some o := by simpa using (hops 0).symm
        rcases maskOf_spec done o.after.toList 0 j hb with h' | ⟨e, he, hbd, h' | h'⟩
        · simp at h'
        · subst h'
          exact .direct ho (by simpa using he) hbd
        · exact .trans (hd _ _ h') (.direct ho (by simpa using he) hbd)
      · rw [List.getD, List.getElem?_eq_none (by simp; omega)] at hb
        simp at hb

theorem edgesGo_spec : ∀ (l : List Oper) (k : Nat), edgesGo k l = true → ∀ j o, l[j]? = some o → ∀ e ∈ o.after, Region.binds .any e = true → e.on < k + j
  | [], _, _, j, o, h => by simp at h
  | x :: l, k, hg, j, o, h => by
    simp only [edgesGo, Bool.and_eq_true] at hg
    intro e he hb
    cases j with
    | zero =>
      simp only [List.getElem?_cons_zero, Option.some.injEq] at h
      subst h
      have := List.all_eq_true.1 hg.1 e (by simpa using he)
      simpa [hb, Nat.blt_eq] using this
    | succ j =>
      have := edgesGo_spec l (k + 1) hg.2 j o (by simpa using h) e he hb
      omega

theorem depGo_spec (ms : List Nat) : ∀ (l : List (Nat × Ev)) (i : Nat) (prev : List (Nat × Ev)), depGo ms i (prev.map fun p => (p.1, p.2.tr)) (l.map fun p => p.2.tr) = true → l.map (·.1) = List.range' i l.length →
    (∀ q ∈ l, ∀ p ∈ prev, Indep p.2 q.2 ∨ (ms.getD q.1 0).testBit p.1 = true) ∧ (∀ p ∈ l, ∀ q ∈ l, p.1 < q.1 → Indep p.2 q.2 ∨ (ms.getD q.1 0).testBit p.1 = true)
  | [], _, _, _, _ => ⟨(fun _ h => by cases h), (fun _ h => by cases h)⟩
  | (i', e) :: l, i, prev, h, hi => by
    simp only [List.map_cons, List.length_cons, List.range'_succ, List.cons.injEq] at hi
    obtain ⟨rfl, hi⟩ := hi
    simp only [List.map_cons, depGo, Bool.and_eq_true] at h
    obtain ⟨h1, h2⟩ := h
    obtain ⟨r1, r2⟩ := depGo_spec ms l (i' + 1) ((i', e) :: prev) h2 hi
    have hd : ∀ p ∈ prev, Indep p.2 e ∨ (ms.getD i' 0).testBit p.1 = true := fun p hp => by
      have := List.all_eq_true.1 h1 (p.1, p.2.tr) (List.mem_map.2 ⟨p, hp, rfl⟩)
      simp only [Bool.or_eq_true] at this
      rcases this with h | h
      · exact .inl (indepB_indep h)
      · exact .inr h
    refine ⟨fun q hq p hp => ?_, fun p hp q hq hlt => ?_⟩
    · rcases List.mem_cons.1 hq with rfl | hq
      · exact hd p hp
      · exact r1 q hq p (List.mem_cons_of_mem _ hp)
    · rcases List.mem_cons.1 hq with rfl | hq
      · rcases List.mem_cons.1 hp with rfl | hp
        · exact (Nat.lt_irrefl _ hlt).elim
        · have hm : p.1 ∈ l.map (·.1) := List.mem_map.2 ⟨p, hp, rfl⟩
          rw [hi] at hm
          have := (List.mem_range'_1.1 hm).1
          simp only at hlt
          omega
      · rcases List.mem_cons.1 hp with rfl | hp
        · exact r1 q hq _ (by simp)
        · exact r2 p hp q hq hlt

theorem range'_pairwise : ∀ (n k : Nat) (l : List (Nat × Ev)), l.map (·.1) = List.range' k n → l.Pairwise (fun p q => p.1 < q.1)
  | 0, _, l, h => by
    have : l = [] := by simpa using h
    subst this; exact .nil
  | n + 1, k, [], h => by simp [List.range'_succ] at h
  | n + 1, k, p :: l, h => by
    simp only [List.map_cons, List.range'_succ, List.cons.injEq] at h
    refine .cons (fun q hq => ?_) (range'_pairwise n (k + 1) l h.2)
    have hm : q.1 ∈ l.map (·.1) := List.mem_map.2 ⟨q, hq, rfl⟩
    rw [h.2] at hm
    have := (List.mem_range'_1.1 hm).1
    rw [h.1]
    omega
end

/-! ### What is kept -/
theorem look_live (l : List Nat) (g : Nat → AV) (t : Nat) : look (l.map fun t => (t, g t)) t = if t ∈ l then some (g t) else none := by
  induction l with
  | nil => simp [look]
  | cons k l ih =>
    simp only [List.map_cons, look, ih]
    cases hb : Nat.beq k t with
    | true => have := Nat.eq_of_beq_eq_true hb; subst this; simp
    | false =>
      have : t ≠ k := by rintro rfl; simp at hb
      simp [this]
theorem look_names (l : List Nat) (g : Nat → Option Own) (n : Nat) : look (l.filterMap fun n => match g n with | some o => some (n, o) | none => none) n = if n ∈ l then g n else none := by
  induction l with
  | nil => simp [look]
  | cons k l ih =>
    simp only [List.filterMap_cons]
    cases hk : g k with
    | none =>
      simp only [ih]
      by_cases h : n = k
      · subst h; simp [hk]
      · simp [h]
    | some o =>
      simp only [look, ih]
      cases hb : Nat.beq k n with
      | true => have := Nat.eq_of_beq_eq_true hb; subst this; simp [hk]
      | false =>
        have : n ≠ k := by rintro rfl; simp at hb
        simp [this]

theorem look_namesF (l : List Nat) (g : Nat → Option Fam) (n : Nat) : look (l.filterMap fun n => match g n with | some o => some (n, o) | none => none) n = if n ∈ l then g n else none := by
  induction l with
  | nil => simp [look]
  | cons k l ih =>
    simp only [List.filterMap_cons]
    cases hk : g k with
    | none =>
      simp only [ih]
      by_cases h : n = k
      · subst h; simp [hk]
      · simp [h]
    | some o =>
      simp only [look, ih]
      cases hb : Nat.beq k n with
      | true => have := Nat.eq_of_beq_eq_true hb; subst this; simp [hk]
      | false =>
        have : n ≠ k := by rintro rfl; simp at hb
        simp [this]

theorem restrict0_fam (live names : List Nat) (st : St) (n : Nat) : look (restrict0 live names st).fam n = if n ∈ names then look st.fam n else none := by
  have e : (restrict0 live names st).fam = names.filterMap fun n => match look st.fam n with | some o => some (n, o) | none => none := by
    simp only [restrict0]
    apply congrArg (fun f => names.filterMap f)
    funext n
    cases look st.fam n <;> rfl
  rw [e, look_namesF]
theorem restrict0_own (live names : List Nat) (st : St) (n : Nat) : look (restrict0 live names st).own n = if n ∈ names then (look st.own n).map (Own.erase fun n => memB n names) else none := by
  have e : (restrict0 live names st).own = names.filterMap fun n => match (look st.own n).map (Own.erase fun n => memB n names) with | some o => some (n, o) | none => none := by
    simp only [restrict0]
    congr 1
    funext n
    cases look st.own n <;> rfl
  rw [e, look_names]

theorem rel_restrict0 {Γ : Env} {I : Nat → Nat → Prop} {θ : Nat → Option (Nat × Nat)} {a : Act} {w : World} {st : St} {live names : List Nat} (h : Rel Γ st.sto I θ a w) (hn : ∀ nm, Γ.own0 nm ≠ none → nm ∈ names) (hlt : ∀ n ∈ names, n < famB) : Rel Γ (restrict0 live names st).sto I θ a w := by
  have hL : ∀ nm, look (restrict0 live names st).own nm = if nm ∈ names then (look st.own nm).map (Own.erase fun n => memB n names) else none := restrict0_own live names st
  have hF : ∀ nm, look (restrict0 live names st).fam nm = if nm ∈ names then look st.fam nm else none := restrict0_fam live names st
  have hown : ∀ nm, nm < famB → (restrict0 live names st).sto.own nm = if nm ∈ names then (st.sto.own nm).map (Own.erase fun n => memB n names) else none := fun nm hlt => by
    show famOwn _ _ nm = _
    rw [famOwn_lt hlt, hL]
    show _ = if nm ∈ names then (famOwn st.own _ nm).map _ else none
    rw [famOwn_lt hlt]
  have hbig : ∀ k, ¬ k < famB → (restrict0 live names st).sto.own k = if k / famB - 1 ∈ names then st.sto.own k else none := fun k hk => by
    show famOwn _ _ k = if _ then famOwn _ _ k else none
    rw [famOwn_ge hk, famOwn_ge hk, hF]
    split <;> rfl
  have hk : ∀ nm o, st.sto.own nm = some o → memB nm names = true → (restrict0 live names st).sto.own nm = some (o.erase fun n => memB n names) := fun nm o ho hm => by
    rw [hown nm (hlt nm (memB_mem.1 hm)), if_pos (memB_mem.1 hm), ho]; rfl
  have hkb : ∀ b i sz e m, i < famB → st.sto.own (big b i) = some (.tok sz e m) → memB b names = true → (restrict0 live names st).sto.own (big b i) = some (.tok sz e m) := fun b i sz e m hi ho hm => by
    rw [hbig _ (big_ge b i), big_div hi, if_pos (memB_mem.1 hm), ho]
  have hinv : ∀ nm o, (restrict0 live names st).sto.own nm = some o → ∃ o', st.sto.own nm = some o' ∧ o = o'.erase fun n => memB n names := fun nm o ho => by
    by_cases hlt : nm < famB
    · rw [hown nm hlt] at ho
      split at ho
      · obtain ⟨o', ho', rfl⟩ := Option.map_eq_some_iff.1 ho
        exact ⟨o', ho', rfl⟩
      · cases ho
    · rw [hbig nm hlt] at ho
      split at ho
      · obtain ⟨sz, e, m, rfl⟩ := famOwn_tok hlt (show famOwn st.own st.fam nm = some o from ho)
        exact ⟨_, ho, rfl⟩
      · cases ho
  refine ⟨h.size, h.defers, fun t => ?_, ?_⟩
  · have e : (restrict0 live names st).sto.tmp t = if t ∈ live then (st.get t).erase (fun n => memB n names) else .any := by
      simp only [St.sto, St.get, restrict0, look_live]
      split
      · rename_i h; split at h <;> simp_all
      · rename_i h; split at h <;> simp_all
    rw [e]
    split
    · exact (h.slots t).erase _ hk hkb
    · exact .val _ _ (.any _)
  · refine { h.chg with le := fun nm o ho => ?_, rel := ⟨fun nm e0 cells ho => ?_, fun nm sz e m ho => ?_, fun nm nm' g c c' ho ho' => ?_, fun nm sz e m f ho => ?_, fun nm x ho => ?_, fun nm sz m ho hnn => ?_⟩, new := fun nm g c ho hg => ?_ }
    rotate_left 6
    · obtain ⟨o', ho', he⟩ := hinv nm _ ho
      cases o' with
      | row => simp [Own.erase] at he
      | arr => simp [Own.erase] at he
      | obj => simp [Own.erase] at he
      | tok =>
        simp only [Own.erase, Own.tok.injEq] at he
        obtain ⟨rfl, rfl, rfl⟩ := he
        exact h.chg.rel.tok8 nm _ _ ho' hnn
    rotate_right 6
    rotate_left 5
    · obtain ⟨o', ho', he⟩ := hinv nm _ ho
      cases o' with
      | row => simp [Own.erase] at he
      | tok => simp [Own.erase] at he
      | arr => simp [Own.erase] at he
      | obj x' =>
        simp only [Own.erase, Own.obj.injEq] at he
        subst he
        exact h.chg.rel.obj nm _ ho'
    rotate_left 1
    · obtain ⟨o', ho', hl⟩ := h.chg.le nm o ho
      refine ⟨_, hk nm o' ho' (memB_mem.2 (hn nm (by simp [ho]))), ?_⟩
      cases o <;> cases o' <;> simp_all [OwnLe, Own.erase]
    · obtain ⟨o', ho', he⟩ := hinv nm _ ho
      cases o' with
      | tok => simp [Own.erase] at he
      | arr => simp [Own.erase] at he
      | obj => simp [Own.erase] at he
      | row e' cs =>
        simp only [Own.erase, Own.row.injEq] at he
        obtain ⟨rfl, rfl⟩ := he
        obtain ⟨g, c, vs, r1, r2, r3, r4, r5, r6⟩ := h.chg.rel.row nm _ cs ho'
        refine ⟨g, c, vs, r1, r2, by rw [eraseAll_length]; exact r3, fun j hj => r4 j (by rwa [eraseAll_length] at hj), fun j hj => ?_, r6⟩
        rw [eraseAll_getD]
        exact (r5 j (by rwa [eraseAll_length] at hj)).erase _ hk hkb
    · obtain ⟨o', ho', he⟩ := hinv nm _ ho
      cases o' with
      | row => simp [Own.erase] at he
      | arr => simp [Own.erase] at he
      | obj => simp [Own.erase] at he
      | tok =>
        simp only [Own.erase, Own.tok.injEq] at he
        obtain ⟨rfl, rfl, rfl⟩ := he
        exact h.chg.rel.tok nm _ _ _ ho'
    · refine h.chg.rel.inj nm nm' g c c' ?_ ?_
      · cases hx : (restrict0 live names st).sto.own nm with
        | none => exact (ho hx).elim
        | some o => obtain ⟨o', ho', _⟩ := hinv nm o hx; simp [ho']
      · cases hx : (restrict0 live names st).sto.own nm' with
        | none => exact (ho' hx).elim
        | some o => obtain ⟨o', ho', _⟩ := hinv nm' o hx; simp [ho']
    · obtain ⟨o', ho', he⟩ := hinv nm _ ho
      cases o' with
      | row => simp [Own.erase] at he
      | tok => simp [Own.erase] at he
      | obj => simp [Own.erase] at he
      | arr sz' e' m' f' =>
        simp only [Own.erase, Own.arr.injEq] at he
        obtain ⟨rfl, rfl, rfl, rfl⟩ := he
        exact arr_map (h.chg.rel.arr nm _ _ _ _ ho') rfl (fun _ _ _ => rfl) (fun _ _ _ _ h => h) (fun i _ => eraseAll_length _ _) (fun v i j _ _ hv => by rw [eraseAll_getD]; exact hv.erase _ hk hkb)
    · cases hx : (restrict0 live names st).sto.own nm with
      | none => exact (ho hx).elim
      | some o =>
        obtain ⟨o', ho', _⟩ := hinv nm o hx
        exact h.chg.new nm g c (by simp [ho']) hg

theorem rel_restrict {Γ : Env} {I : Nat → Nat → Prop} {θ : Nat → Option (Nat × Nat)} {a : Act} {w : World} {st : St} {live names : List Nat} (h : Rel Γ st.sto I θ a w) (hn : ∀ nm, Γ.own0 nm ≠ none → nm ∈ names) : Rel Γ (restrict live names st).sto I θ a w :=
  rel_restrict0 h (fun nm h0 => List.mem_filter.2 ⟨hn nm h0, by simpa [Nat.blt_eq] using Γ.lt0 nm h0⟩) (fun n hn => by have := (List.mem_filter.1 hn).2; simpa [Nat.blt_eq] using this)

theorem conjL_all {l : List Prop} (h : conjL l) : ∀ p ∈ l, p := by
  induction l with
  | nil => intro p hp; cases hp
  | cons x l ih =>
    intro p hp
    rcases List.mem_cons.1 hp with rfl | hp
    · exact h.1
    · exact ih h.2 p hp

theorem rel_drew {Γ : Env} {σ : Sto} {I : Nat → Nat → Prop} {θ : Nat → Option (Nat × Nat)} {a : Act} {w : World} (h : Rel Γ σ I θ a w) : Rel Γ σ I θ a { w with drawn := w.drawn + 1 } :=
  ⟨h.size, h.defers, fun t => (h.slots t).mono (fun _ _ h => h) (fun _ _ _ => rfl) (fun _ o ho => ⟨o, ho, .refl _ _⟩),
    { h.chg with rel := ⟨fun nm e cells ho => by
                            obtain ⟨g, c, vs, r1, r2, r3, r4, r5, r6⟩ := h.chg.rel.row nm e cells ho
                            exact ⟨g, c, vs, r1, r2, r3, r4, fun j hj => (r5 j hj).mono (fun _ _ h => h) (fun _ _ _ => rfl) (fun _ o ho => ⟨o, ho, .refl _ _⟩), r6⟩, h.chg.rel.tok, h.chg.rel.inj,
                          fun nm sz e m f ho => arr_map (h.chg.rel.arr nm sz e m f ho) rfl (fun _ _ _ => rfl) (fun _ _ _ _ h => h) (fun _ _ => rfl) (fun v i j _ _ hv => hv.mono (fun _ _ h => h) (fun _ _ _ => rfl) (fun _ o ho => ⟨o, ho, .refl _ _⟩)),
                          fun nm x ho => obj_map (h.chg.rel.obj nm x ho) rfl (fun _ _ _ => rfl) (fun _ _ _ _ h => h) (fun _ h => h.mono (fun _ _ h => h) (fun _ _ _ => rfl)), h.chg.rel.tok8⟩ }⟩

/-- Abstractly: from this store the code ends so that 'K' holds of how it ends, and of the store. -/
def awp (P : Program) (Γ : Env) (c : Code) (K : Exit → St → Prop) (st : St) : Prop :=
  ∀ (I : Nat → Nat → Prop) (θ : Nat → Option (Nat × Nat)) (a : Act) (w : World), Rel Γ st.sto I θ a w → c.wp P (fun e a' w' => ∃ st' I' θ', K e st' ∧ Rel Γ st'.sto I' θ' a' w') a w

theorem awp_region {P : Program} {Γ : Env} {id : Nat} {ops : List Oper} {draw : Bool} {K : Exit → St → Prop} {st st' : St} {rs : List Orc} {cs : List (Nat × AV)} {live names : List Nat} {obs : List Prop} {n : Nat} (hnn : Γ.n = n) (hm : P.follows .mixedOrders = true) (hn : ∀ nm, Γ.own0 nm ≠ none → nm ∈ names)
    (h : aregion P (Spec P) n cs live names ops draw st rs = some (st', obs, true)) (hob : conjL obs) (hK : K .normal st') : awp P Γ (.region id ops.toArray draw) K st := by
  subst hnn
  unfold aregion at h
  split at h
  · rename_i st1 obs1 trs hr
    simp only [Option.some.injEq, Prod.mk.injEq] at h
    obtain ⟨rfl, rfl, hord⟩ := h
    have hr' : arun P (Spec P) Γ.n cs ops.toArray.toList ops st rs = some (st1, obs1, trs) := by simpa using hr
    intro I θ a w hrel
    obtain ⟨es, h1, h2, h3, h4⟩ := arun_events (cs := cs) (Q := fun e a' w' => ∃ st' I' θ', K e st' ∧ Rel Γ st'.sto I' θ' a' w') ops 0 st rs st1 obs1 trs hr' (fun j => by simp) (conjL_all hob)
    have hfin : ∀ I θ a w, Rel Γ st1.sto I θ a w → ∃ st' I' θ', K .normal st' ∧ Rel Γ st'.sto I' θ' a w := fun I θ a w hrel => ⟨_, I, θ, hK, rel_restrict hrel hn⟩
    cases draw with
    | false =>
      refine wp_region ?_
      have := text_sound es st.sto st1.sto h3 h2 hfin I θ a w hrel
      rw [h1] at this
      rwa [List.range_eq_range', List.size_toArray]
    | true =>
      simp only [cond_true, orderOk, Bool.and_eq_true] at hord
      obtain ⟨o1, o2⟩ := hord
      refine wp_region_any hm ?_
      have hlen : es.length = ops.length := by have := congrArg List.length h1; simpa using this
      rw [← h4] at o2
      have hdep := (depGo_spec (ancGo [] ops) es 0 [] o2 (by rw [h1, hlen])).2
      refine any_sound (fun i o ho e he hb => ?_) st1.sto hfin ops.toArray.size es (Array.replicate ops.toArray.size false) st.sto h3 h2 (range'_pairwise _ _ _ h1) (by simp) (fun j => ?_) (by simp [hlen]) (fun p hp q hq hlt hni => ?_) ?_ I θ a _ (rel_drew hrel)
      · have := edgesGo_spec ops 0 o1 i o (by simpa using ho) e he hb
        omega
      · rw [h1, List.mem_range'_1]
        constructor
        · intro hj
          have hj' : j < ops.length := by omega
          exact ⟨by simpa using hj', by simp [Array.getD, hj']⟩
        · rintro ⟨hj, _⟩
          have : j < ops.length := by simpa using hj
          omega
      · rcases hdep p hp q hq hlt with h | h
        · exact (hni h).elim
        · exact ancGo_spec ops [] (fun j => by simp) (fun i j h => by simp at h) q.1 p.1 h
      · intro i o ho hl
        simp [Array.getD] at hl
  · cases h
end Go.Proofs.Ytcpopeamoipjlaa
