/-
  Rows that may be written and appended to.
-/
import Derived.Test.YtcpopeamoipjlaaOpsG
namespace Go.Proofs.Ytcpopeamoipjlaa
open Go Go.RowKit
set_option linter.unusedVariables false

section
variable {P : Program} {Γ : Env} {σ : Sto} {I : Nat → Nat → Prop} {θ : Nat → Option (Nat × Nat)} {a : Act} {w : World} {o : Oper}

/-- What is known of such a row, at its newest. -/
theorem arr_at (h : Rel Γ σ I θ a w) {nm sz m n i j : Nat} {e : TypeId} {f : Nat → List AV} {v : Value} (hown : σ.own nm = some (.arr sz e m f)) (hx : Rep I σ.own θ w v (.vpt nm n i j)) (hn : n = m) :
    ∃ g c cur, v = .pointer (some ⟨g, i * sz + j, none⟩) ∧ θ nm = some (g, c) ∧ w.heap[g]? = some (.cells cur e (0, 0)) ∧ i < m ∧ m ≤ c ∧ c ≤ maxLen ∧ cur.size = c * sz ∧ (∀ i, i < m → (f i).length = sz) ∧
      (∀ i j, i < m → j < sz → (cur.getD (i * sz + j) undef).oneCell' = true ∧ Rep I σ.own θ w (cur.getD (i * sz + j) undef) ((f i).getD j .any)) ∧ ∀ j, ¬ I g j := by
  obtain ⟨sz', e', m', f', ad, rfl, ho, hm, hi, hv⟩ := hx.vpt_inv
  rw [hown] at ho
  simp only [Option.some.injEq, Own.arr.injEq] at ho
  obtain ⟨rfl, rfl, rfl, rfl⟩ := ho
  obtain ⟨g, c, hg, rfl⟩ := hv hn
  obtain ⟨cur, q1, q2, q3, q4, q5, q6, q7⟩ := (h.chg.rel.arr nm _ _ _ _ hown).2 g c hg
  exact ⟨g, c, cur, rfl, hg, q1, by omega, q2, q3, q4, q5, q6, q7⟩
theorem pos_lt {i j m c sz : Nat} (hi : i < m) (hj : j < sz) (hc : m ≤ c) : i * sz + j < c * sz := by
  have : (i + 1) * sz ≤ c * sz := Nat.mul_le_mul_right _ (by omega)
  rw [Nat.add_mul] at this
  omega

theorem ok_load_arr (h : Rel Γ σ I θ a w) (hd : ∀ d, o.dst = some d → d < Γ.n) {t : TypeId} {x : Operand} (ho : o.op = .load t x) (ht : hasT P t = true) {nm n i j sz m : Nat} {e : TypeId} {f : Nat → List AV}
    (hx : Rep I σ.own θ w (a.eval x) (.vpt nm n i j)) (hown : σ.own nm = some (.arr sz e m f)) (hn : n = m) :
    (isAggT P t = true → j + szT P t ≤ sz → OpOK P Γ σ o a w (.agg (((f i).drop j).take (szT P t))) []) ∧
    (isAggT P t = false → j < sz → OpOK P Γ σ o a w ((f i).getD j .any) []) := by
  obtain ⟨g, c, cur, he, hg, hh, hi, hmc, hcm, hsz, hf, hr, hI⟩ := arr_at h hown hx hn
  have hcell : ∀ k, k < sz → w.cell? ⟨g, i * sz + k, none⟩ = some (cur.getD (i * sz + k) undef) := fun k hk => by
    rw [cell_of_row w g _ cur e (0, 0) hh]
    exact agetD_of (by rw [hsz]; exact pos_lt hi hk hmc)
  refine ⟨fun hagg hle => ?_, fun hagg hlt => ?_⟩
  · have hrun : (loadVar t ⟨g, i * sz + j, none⟩).run P w = .ok (.agg ((List.range (szT P t)).map fun k => cur.getD (i * sz + (j + k)) undef).toArray) w :=
      run_loadVar_agg ht hagg _ _ (fun k hk => by rw [Addr.add_lit, Nat.add_assoc]; exact hcell _ (by omega))
    refine ok_pure h hd (v := .agg ((List.range (szT P t)).map fun k => cur.getD (i * sz + (j + k)) undef).toArray) ?_ ?_
    · simp only [execOp, ho, he, Instr.loadAt, Instr.sureAddr, Sem.run_bind, Sem.run_pure, Result.andThen_ok, hrun]
    · have hl := hf i hi
      refine .agg _ _ (by simp; omega) (fun k hk => ?_) (fun k hk => ?_)
      · have hk' : k < szT P t := by simp at hk; omega
        rw [range_getD _ _ _ hk']
        exact (hr i (j + k) hi (by omega)).1
      · have hk' : k < szT P t := by simp at hk; omega
        rw [range_getD _ _ _ hk', drop_take_getD _ _ _ _ _ hk']
        exact (hr i (j + k) hi (by omega)).2
  · have hrun := run_loadVar_one (P := P) ht hagg ⟨g, i * sz + j, none⟩ _ (hcell j hlt)
    refine ok_pure h hd (v := cur.getD (i * sz + j) undef) ?_ (hr i j hi hlt).2
    simp only [execOp, ho, he, Instr.loadAt, Instr.sureAddr, Sem.run_bind, Sem.run_pure, Result.andThen_ok, hrun]

theorem ok_fieldAddr_arr (h : Rel Γ σ I θ a w) (hd : ∀ d, o.dst = some d → d < Γ.n) {s : TypeId} {x : Operand} {k : Nat} (ho : o.op = .fieldAddr s x k) {fields : Array Field} {fd : Field}
    (hs : P.underlying s = some (.struct fields)) (hf : fields[k]? = some fd) (ht : hasT P fd.type = true) (h1 : 1 ≤ szT P fd.type) {nm n i j : Nat} (hx : Rep I σ.own θ w (a.eval x) (.vpt nm n i j)) :
    OpOK P Γ σ o a w (.vpt nm n i (j + fd.offset)) [] := by
  obtain ⟨sz', e', m', f', ad, he, ho', hm, hi, hv⟩ := hx.vpt_inv
  refine ok_pure h hd (v := .pointer (some (ad.add fd.offset))) ?_ (.vpt nm sz' e' m' f' n i _ _ ho' hm hi (fun hn => ?_))
  · simp [execOp, ho, he, Instr.fieldAt, Instr.sureAddr, run_underlying hs, hf, run_fieldPlace ht h1]
  · obtain ⟨g, c, hg, rfl⟩ := hv hn
    exact ⟨g, c, hg, by rw [Addr.add_lit, Nat.add_assoc]⟩

theorem ok_index_arr (h : Rel Γ σ I θ a w) (hd : ∀ d, o.dst = some d → d < Γ.n) {t e : TypeId} {x i : Operand} (ho : o.op = .indexAddr t x i) (hu : P.underlying t = some (.slice e)) (ht : hasT P e = true)
    {nm n : Nat} {k : IntKind} {j : Int} (hx : Rep I σ.own θ w (a.eval x) (.vsl nm n)) (hi : Rep I σ.own θ w (a.eval i) (.int k j)) (hb : InB j n) (hs : ∃ sz e' m f, σ.own nm = some (.arr sz e' m f) ∧ sz = szT P e) :
    OpOK P Γ σ o a w (.vpt nm n j.toNat 0) [] := by
  obtain ⟨hb0, hb1⟩ := hb
  obtain ⟨sz, e', m, f, ad, cap, he, ho', hm, hcap, hmax, hn, hv⟩ := hx.vsl_inv
  obtain ⟨sz2, e2, m2, f2, ho2, hsz2⟩ := hs
  rw [ho'] at ho2
  simp only [Option.some.injEq, Own.arr.injEq] at ho2
  obtain ⟨rfl, rfl, rfl, rfl⟩ := ho2
  subst hsz2
  have hi' := hi.int_inv
  have hne : ad ≠ none := fun h => by have := hn h; omega
  obtain ⟨b, rfl⟩ := Option.ne_none_iff_exists'.1 hne
  refine ok_pure h hd (v := .pointer (some (b.add (j.toNat * szT P e)))) ?_ (.vpt nm _ e' m f n _ _ _ ho' hm (by omega) (fun hnm => ?_))
  · simp [execOp, ho, he, hi', Instr.indexAt, asIntOf, run_underlying hu, hb0, hb1, run_sizeOf' ht]
  · have := hv hnm
    cases hθ : θ nm with
    | none =>
      have := (h.chg.rel.arr nm _ _ _ _ ho').1 hθ
      omega
    | some gc =>
      obtain ⟨g, c⟩ := gc
      rw [hθ] at this
      simp only at this
      obtain ⟨h1, h2⟩ := this
      simp only [Option.some.injEq] at h1
      subst h1
      exact ⟨g, c, rfl, by rw [Addr.add_lit]; simp⟩

/-- What becomes of such a row. -/
theorem chg_arr {own : Nat → Option Own} (hrel : OwnRel I own θ w) (hval : ∀ b o, I b o → ∃ u, w.cell? ⟨b, o, none⟩ = some u) {nm s m' : Nat} {e : TypeId} {f' : Nat → List AV} {t' : Option (Nat × Nat)} {w' : World}
    (hcell : ∀ b o, I b o → w'.cell? ⟨b, o, none⟩ = w.cell? ⟨b, o, none⟩)
    (hle : own nm = none ∨ ∃ m f, own nm = some (.arr s e m f) ∧ m ≤ m' ∧ (m = m' → t' = θ nm))
    (hblk : ∀ b, b < w.heap.size → (∀ c, own nm ≠ none → θ nm ≠ some (b, c)) → w'.heap[b]? = w.heap[b]?)
    (hos : w'.os = w.os) (htape : w'.tape = w.tape) (hout : w'.output = w.output) (hgrow : w.heap.size ≤ w'.heap.size)
    (hnone : t' = none → m' = 0)
    (harr : ∀ g c, t' = some (g, c) → ∃ cur, w'.heap[g]? = some (.cells cur e (0, 0)) ∧ m' ≤ c ∧ c ≤ maxLen ∧ cur.size = c * s ∧ (∀ i, i < m' → (f' i).length = s) ∧
      (∀ i j, i < m' → j < s → (cur.getD (i * s + j) undef).oneCell' = true ∧ ((∀ v x, Rep I own θ w v x → Rep I (ownUp own nm (.arr s e m' f')) (thUp θ nm t') w' v x) → Rep I (ownUp own nm (.arr s e m' f')) (thUp θ nm t') w' (cur.getD (i * s + j) undef) ((f' i).getD j .any))) ∧ ∀ j, ¬ I g j)
    (hloc : ∀ g c, t' = some (g, c) → w.heap.size ≤ g ∨ (own nm ≠ none ∧ ∃ c', θ nm = some (g, c'))) :
    Chg own θ I w (ownUp own nm (.arr s e m' f')) (thUp θ nm t') I w' := by
  have hle' : ∀ nm' o, own nm' = some o → ∃ o', ownUp own nm (.arr s e m' f') nm' = some o' ∧ OwnLe o (θ nm') o' (thUp θ nm t' nm') := fun nm' o ho => by
    by_cases hne : nm' = nm
    · subst hne
      rcases hle with h | ⟨m, f, h, h1, h2⟩
      · rw [h] at ho; cases ho
      · rw [h] at ho
        obtain rfl := Option.some.inj ho
        exact ⟨.arr s e m' f', by simp [ownUp], rfl, rfl, h1, fun he => by simpa [thUp] using h2 he⟩
    · exact ⟨o, by simp [ownUp, hne, ho], by simp [thUp, hne, OwnLe.refl]⟩
  have hmono : ∀ v x, Rep I own θ w v x → Rep I (ownUp own nm (.arr s e m' f')) (thUp θ nm t') w' v x := fun v x h => h.mono (fun _ _ h => h) hcell hle'
  have hother : ∀ nm' g c, nm' ≠ nm → own nm' ≠ none → θ nm' = some (g, c) → ∀ c', own nm ≠ none → θ nm ≠ some (g, c') := fun nm' g c hne ho hg c' ho' hg' => hne (hrel.inj nm' nm g c c' ho ho' hg hg')
  refine { imm := fun _ _ h => h, cell := hcell, le := hle', rel := ?_, valid := fun b o hi => ?_, os := hos, tape := htape, output := hout, grow := hgrow, frame := fun b hb hn => hblk b hb (fun c ho hg => hn nm c ho hg),
           new := fun nm' g c ho hg => ?_, immNew := fun b o h => .inl h }
  · refine ownRel_upd hrel (· = nm) hmono (fun nm' hne => ⟨by simp [ownUp, hne], by simp [thUp, hne]⟩) (fun nm' g c hne ho hg => ⟨hblk g (owned_lt hrel ho hg) (hother nm' g c hne ho hg), fun j hj => hj⟩) ?_ ?_ ?_ (fun _ _ h h' => h.trans h'.symm) ?_ (hobj' := fun _ _ h => h.mono (fun _ _ h => h) hcell)
    · rintro nm' e' cells rfl ho
      simp [ownUp] at ho
    · rintro nm' sz' e' m rfl ho
      simp [ownUp] at ho
    · rintro nm' nm'' g c c' rfl hne _ ho' hg hg'
      rcases hloc g c (by simpa [thUp] using hg) with h | ⟨h1, c'', h2⟩
      · have := owned_lt hrel ho' hg'; omega
      · exact hother nm'' g c' hne ho' hg' c'' h1 h2
    · rintro nm' sz' e' m f rfl ho
      simp only [ownUp, if_true, Option.some.injEq, Own.arr.injEq] at ho
      obtain ⟨rfl, rfl, rfl, rfl⟩ := ho
      refine ⟨fun hg => hnone (by simpa [thUp] using hg), fun g c hg => ?_⟩
      obtain ⟨cur, q1, q2, q3, q4, q5, q6, q7⟩ := harr g c (by simpa [thUp] using hg)
      exact ⟨cur, q1, q2, q3, q4, q5, fun i j hi hj => ⟨(q6 i j hi hj).1, (q6 i j hi hj).2 hmono⟩, q7⟩
  · obtain ⟨u, hu⟩ := hval b o hi
    exact ⟨u, (hcell b o hi).trans hu⟩
  · by_cases hne : nm' = nm
    · subst hne
      rcases hloc g c (by simpa [thUp] using hg) with h | ⟨h1, c', h2⟩
      · exact .inl h
      · exact .inr ⟨nm', c', h1, h2⟩
    · exact .inr ⟨nm', c, by simpa [ownUp, hne] using ho, by simpa [thUp, hne] using hg⟩

theorem thUp_self {nm : Nat} {t : Option (Nat × Nat)} (h : θ nm = t) : thUp θ nm t = θ := by
  funext k
  by_cases hk : k = nm
  · subst hk; simp [thUp, h]
  · simp [thUp, hk]

theorem putF_here (f : Nat → List AV) (i j : Nat) (cs : List AV) : putF f i j cs i = (f i).take j ++ cs ++ (f i).drop (j + cs.length) := by
  have : Nat.beq i i = true := by simp
  simp [putF]
theorem putF_else (f : Nat → List AV) {i j k : Nat} (cs : List AV) (h : k ≠ i) : putF f i j cs k = f k := by
  have : Nat.beq k i = false := by cases hb : Nat.beq k i with | false => rfl | true => exact absurd (Nat.eq_of_beq_eq_true hb) h
  simp [putF, this]

theorem ok_store_arr (h : Rel Γ σ I θ a w) (hd : ∀ d, o.dst = some d → d < Γ.n) {t : TypeId} {x y : Operand} (ho : o.op = .store t x y) (ht : hasT P t = true) {nm n i j sz m : Nat} {e : TypeId} {f : Nat → List AV} {cs : List AV} {z : AV}
    (hx : Rep I σ.own θ w (a.eval x) (.vpt nm n i j)) (hy : Rep I σ.own θ w (a.eval y) z) (hown : σ.own nm = some (.arr sz e m f)) (hn : n = m) (hc : z.cells = some cs) (hsz : cs.length = szT P t) (hle : j + cs.length ≤ sz) :
    OpOK P Γ σ o a w .undef [(nm, .arr sz e m (putF f i j cs))] := by
  obtain ⟨g, c, cur, he, hg, hh, hi, hmc, hcm, hcs, hf, hr, hI⟩ := arr_at h hown hx hn
  have hcl := cells_sound hc hy
  have hrel := h.chg.rel
  have hvl : (a.eval y).cells.toList.length = cs.length := by simp [hcl.size]
  have hfit : i * sz + j + cs.length ≤ cur.size := by
    have : (i + 1) * sz ≤ c * sz := Nat.mul_le_mul_right _ (by omega)
    rw [Nat.add_mul] at this
    omega
  have hst := run_storeCells_at P g (i * sz + j) e (a.eval y).cells.toList 0 cur w hh (by rw [hvl]; omega) hcl.all
  simp only [Nat.add_zero] at hst
  have hrun : (execOp a.eval o).run P w = .ok .skip (w.setRow g (cur.toList.take (i * sz + j) ++ (a.eval y).cells.toList ++ cur.toList.drop (i * sz + j + (a.eval y).cells.toList.length)).toArray) := by
    have hn : ¬ ((a.eval y).cells.size ≠ szT P t) := by rw [hcl.size, hsz]; simp
    simp only [execOp, ho, he, Instr.storeAt, Instr.sureAddr, Sem.run_bind, Sem.run_pure, Result.andThen_ok, storeVar, run_sizeOf' ht, if_neg hn, hst]
  have hother : ∀ b, b ≠ g → (w.setRow g (cur.toList.take (i * sz + j) ++ (a.eval y).cells.toList ++ cur.toList.drop (i * sz + j + cs.length)).toArray).heap[b]? = w.heap[b]? := fun b hb => setRow_other w g b _ hb
  have hk := chg_arr (w' := w.setRow g (cur.toList.take (i * sz + j) ++ (a.eval y).cells.toList ++ cur.toList.drop (i * sz + j + cs.length)).toArray) (t' := some (g, c)) (m' := m) (f' := putF f i j cs) hrel h.chg.valid (nm := nm) (s := sz) (e := e)
    (fun b k hi => World.cell?_of_block (a := ⟨b, k, none⟩) (hother b (by rintro rfl; exact hI k hi))) (.inr ⟨m, f, hown, Nat.le_refl _, fun _ => hg.symm⟩)
    (fun b hb hn => hother b (by rintro rfl; exact hn c (by simp [hown]) hg)) rfl rfl rfl (by simp) (by simp) (fun g' c' hgc => ?_) (fun g' c' hgc => ?_)
  · rw [thUp_self hg] at hk
    refine ok_skip h hd (I' := I) (θ' := θ) hrun ?_
    rw [upd_one, hvl]
    exact hk
  · simp only [Option.some.injEq, Prod.mk.injEq] at hgc
    obtain ⟨rfl, rfl⟩ := hgc
    have hlen : (cur.toList.take (i * sz + j) ++ (a.eval y).cells.toList ++ cur.toList.drop (i * sz + j + cs.length)).length = cur.size := by
      simp only [List.length_append, List.length_take, List.length_drop, Array.length_toList, hcl.size]; omega
    have hget : ∀ k, ((cur.toList.take (i * sz + j) ++ (a.eval y).cells.toList ++ cur.toList.drop (i * sz + j + cs.length)).toArray).getD k undef = if i * sz + j ≤ k ∧ k < i * sz + j + cs.length then (a.eval y).cells.getD (k - (i * sz + j)) undef else cur.getD k undef := fun k => by
      have := take_mid_getD undef cur.toList (a.eval y).cells.toList (i * sz + j) k (by rw [hvl]; simpa using hfit)
      rw [hvl] at this
      have e1 : ∀ (l : List Value), (l.toArray).getD k undef = l.getD k undef := fun l => by simp [Array.getD_eq_getD_getElem?, List.getD]
      rw [e1, this]
      congr 1
      · simp [Array.getD_eq_getD_getElem?, List.getD]
      · simp [Array.getD_eq_getD_getElem?, List.getD]
    have hfl : ∀ i', i' < m → (putF f i j cs i').length = sz := fun i' hi' => by
      by_cases hii : i' = i
      · subst hii
        have := hf i' hi
        rw [putF_here]
        simp only [List.length_append, List.length_take, List.length_drop]; omega
      · rw [putF_else f cs hii]; exact hf i' hi'
    refine ⟨_, setRow_heap w g cur _ e _ hh, hmc, hcm, by simp only [List.size_toArray]; rw [hlen, hcs], hfl, fun i' j' hi' hj' => ?_, hI⟩
    rw [hget]
    by_cases hii : i' = i
    · subst hii
      rw [putF_here]
      have hl := hf i' hi
      by_cases hin : j ≤ j' ∧ j' < j + cs.length
      · rw [if_pos (by omega)]
        have e1 : i' * sz + j' - (i' * sz + j) = j' - j := by omega
        rw [e1, take_mid_getD _ _ _ _ _ (by omega), if_pos hin]
        exact ⟨hcl.one _ (by omega), fun hmono => hmono _ _ (hcl.rep _ (by omega))⟩
      · rw [if_neg (by omega), take_mid_getD _ _ _ _ _ (by omega), if_neg hin]
        exact ⟨(hr i' j' hi hj').1, fun hmono => hmono _ _ (hr i' j' hi hj').2⟩
    · have hout : ¬ (i * sz + j ≤ i' * sz + j' ∧ i' * sz + j' < i * sz + j + cs.length) := by
        rcases Nat.lt_or_gt_of_ne hii with hlt | hgt
        · have : (i' + 1) * sz ≤ i * sz := Nat.mul_le_mul_right _ hlt
          rw [Nat.add_mul] at this
          omega
        · have : (i + 1) * sz ≤ i' * sz := Nat.mul_le_mul_right _ hgt
          rw [Nat.add_mul] at this
          omega
      rw [if_neg hout, putF_else f cs hii]
      exact ⟨(hr i' j' hi' hj').1, fun hmono => hmono _ _ (hr i' j' hi' hj').2⟩
  · simp only [Option.some.injEq, Prod.mk.injEq] at hgc
    obtain ⟨rfl, rfl⟩ := hgc
    exact .inr ⟨by simp [hown], c, hg⟩

theorem ok_make (h : Rel Γ σ I θ a w) (hd : ∀ d, o.dst = some d → d < Γ.n) {t e : TypeId} {x y : Operand} (ho : o.op = .makeSlice t x y) (hu : P.underlying t = some (.slice e)) (ht : hasT P e = true) {k k' : IntKind} {l c : Int}
    (hx : Rep I σ.own θ w (a.eval x) (.int k l)) (hy : Rep I σ.own θ w (a.eval y) (.int k' c)) {d : Nat} (hdst : o.dst = some d) (hn : σ.own d = none) {z : List AV} (hz : zeroA P e = some z) (hs1 : 1 ≤ szT P e) (hzl : z.length = szT P e)
    (hby : ((P.info? e).map (·.bytes)).getD 1000 ≤ 128) (hb : 0 ≤ l ∧ l ≤ c ∧ c ≤ (room : Int)) : OpOK P Γ σ o a w (.vsl d l.toNat) [(d, .arr (szT P e) e l.toNat (fun _ => z))] := by
  obtain ⟨i, v, hi, hv, h1, rfl⟩ := zeroA_inv hz
  have hzc := cells_ofCell (I := I) (w := w) (σ := σ) (θ := θ) h1
  have hsi : szT P e = i.size := by simp [szT, hi]
  simp only [hi, Option.map_some, Option.getD_some] at hby
  have hroom : (room : Int) = 1099511627776 := rfl
  rw [hroom] at hb
  have hbytes : (i.bytes : Int) * c ≤ 281474976710656 := by
    have h1 : (i.bytes : Int) * c ≤ 128 * c := Int.mul_le_mul_of_nonneg_right (by omega) (by omega)
    omega
  have hr := run_make (P := P) w t e i v hu hi hv k k' l c hb.1 hb.2.1 hbytes (by omega)
  have hsz : v.cells.size = szT P e := by simpa using hzl
  have hsize : (madeCells v.cells (c.toNat * i.size)).size = c.toNat * i.size := by simp [madeCells]
  have hget : ∀ i' j', i' < l.toNat → j' < szT P e → (madeCells v.cells (c.toNat * i.size)).getD (i' * szT P e + j') undef = v.cells.getD j' undef := fun i' j' hi' hj' => by
    have hlt := pos_lt (c := c.toNat) hi' hj' (by omega)
    have hm : (i' * szT P e + j') % v.cells.size = j' := by rw [hsz, Nat.mul_comm, Nat.mul_add_mod, Nat.mod_eq_of_lt hj']
    rw [← hsi]
    simp only [madeCells, Array.getD_eq_getD_getElem?, Array.getElem?_map]
    rw [show (Array.range (c.toNat * szT P e))[i' * szT P e + j']? = some (i' * szT P e + j') by simp [hlt]]
    simp only [Option.map_some, Option.getD_some, hm]
    have : j' < v.cells.size := by omega
    simp [this]
  have hk := chg_arr (w' := w.alloc (.cells (madeCells v.cells (c.toNat * i.size)) e)) (t' := some (w.heap.size, c.toNat)) (m' := l.toNat) (f' := fun _ => v.cells.toList.map AV.ofCell) (nm := d) (s := szT P e) (e := e) h.chg.rel h.chg.valid
    (fun b o hi => by obtain ⟨u, hu⟩ := h.chg.valid b o hi; exact alloc_cell _ hu) (.inl hn) (fun b hb _ => _root_.Go.heap_alloc_old w _ hb) rfl rfl rfl (by simp) (by simp) (fun g c' hgc => ?_) (fun g c' hgc => ?_)
  · refine ok_chg h hd (v := .slice (some ⟨w.heap.size, 0, none⟩) l.toNat c.toNat) ?_ (by rw [upd_one]; exact hk) ?_
    · have hx' := hx.int_inv
      have hy' := hy.int_inv
      simp only [execOp, ho, hx', hy', Sem.run_bind, hr, Result.andThen_ok, Sem.run_pure]
    · rw [upd_one]
      exact .vsl d (szT P e) e l.toNat (fun _ => v.cells.toList.map AV.ofCell) (some ⟨w.heap.size, 0, none⟩) l.toNat c.toNat (by simp [ownUp]) (Nat.le_refl _) (by omega) (by unfold maxLen; omega) (by simp) (fun _ => by simp [thUp])
  · simp only [Option.some.injEq, Prod.mk.injEq] at hgc
    obtain ⟨rfl, rfl⟩ := hgc
    refine ⟨_, _root_.Go.heap_alloc_new w _, by omega, by unfold maxLen; omega, by rw [hsize, hsi], fun _ _ => hzl, fun i' j' hi' hj' => ?_, fun j hj => ?_⟩
    · rw [hget i' j' hi' hj']
      exact ⟨hzc.one _ (by omega), fun hmono => hmono _ _ (hzc.rep _ (by omega))⟩
    · obtain ⟨u, hu⟩ := h.chg.valid _ _ hj
      exact Nat.lt_irrefl _ (cell_lt hu)
  · simp only [Option.some.injEq, Prod.mk.injEq] at hgc
    exact .inl (by omega)

theorem append_arr_core (h : Rel Γ σ I θ a w) {t e : TypeId} {i : TypeInfo} {z : Value} (ty : TypeId) (ht : P.underlying t = some (.slice e)) (hi : P.info? e = some i) (hz : i.zero = some z) (hzs : z.cells.size = i.size) (hby : i.bytes ≤ 128)
    {n n' : Nat} {f f' : Nat → List AV} {vs vx : Value} (hvx : RepV I w vx (.slice i.size n' f' .none)) (hroom : n + n' ≤ room) (nm : Nat)
    (hcase : (σ.own nm = none ∧ n = 0 ∧ ∃ ad, vs = .slice ad 0 0) ∨ (σ.own nm = some (.arr i.size e n f) ∧ Rep I σ.own θ w vs (.vsl nm n))) :
    ∃ v w' θ', (Builtin.append_ #[t, t] ty #[vs, vx]).run P w = .ok v w' ∧ Chg σ.own θ I w (ownUp σ.own nm (.arr i.size e (n + n') (appF n f f'))) θ' I w' ∧
      Rep I (ownUp σ.own nm (.arr i.size e (n + n') (appF n f f'))) θ' w' v (.vsl nm (n + n')) := by
  have hrel := h.chg.rel
  have hval := h.chg.valid
  obtain ⟨bd, cap', cs', rfl, hcap', hmax', hnn', hl', h1', hf', hr', hc'⟩ := cells_list hvx
  -- what lies there
  obtain ⟨ad, cap, cs, rfl, hcap, hmax, hnn, hl, h1, hf, hr, hc, hold⟩ : ∃ (ad : Option Addr) (cap : Nat) (cs : List Value), vs = .slice ad n cap ∧ n ≤ cap ∧ cap ≤ maxLen ∧ (ad = none → cap = 0) ∧ cs.length = n * i.size ∧ (∀ u ∈ cs, u.oneCell' = true) ∧
      (∀ k, k < n → (f k).length = i.size) ∧ (∀ k c, k < n → c < i.size → Rep I σ.own θ w (cs.getD (k * i.size + c) undef) ((f k).getD c .any)) ∧ (0 < n → ∃ b, ad = some b ∧ ∀ j u, cs[j]? = some u → w.cell? (b.add j) = some u) ∧
      ((cap = 0 ∧ (σ.own nm = none ∨ (θ nm = none ∧ σ.own nm = some (.arr i.size e n f)))) ∨
        ∃ g cur, σ.own nm = some (.arr i.size e n f) ∧ θ nm = some (g, cap) ∧ ad = some ⟨g, 0, none⟩ ∧ w.heap[g]? = some (.cells cur e (0, 0)) ∧ cur.size = cap * i.size ∧ cs = cur.toList.take (n * i.size) ∧ ∀ j, ¬ I g j) := by
    rcases hcase with ⟨hno, rfl, ad, rfl⟩ | ⟨hown, hrep⟩
    · exact ⟨ad, 0, [], rfl, by omega, by unfold maxLen; omega, fun _ => rfl, by simp, by simp, fun k hk => by omega, fun k c hk => by omega, fun h => by omega, .inl ⟨rfl, .inl hno⟩⟩
    · obtain ⟨sz, e2, m, f2, ad, cap, rfl, ho, hm, hcap, hmax, hn, hv⟩ := hrep.vsl_inv
      rw [hown] at ho
      simp only [Option.some.injEq, Own.arr.injEq] at ho
      obtain ⟨rfl, rfl, rfl, rfl⟩ := ho
      have hv := hv rfl
      obtain ⟨k1, k2⟩ := hrel.arr nm _ _ _ _ hown
      cases hθ : θ nm with
      | none =>
        rw [hθ] at hv
        simp only at hv
        have hn0 := k1 hθ
        subst hn0
        exact ⟨ad, cap, [], rfl, hcap, hmax, hn, by simp, by simp, fun k hk => by omega, fun k c hk => by omega, fun h => by omega, .inl ⟨hv, .inr ⟨rfl, hown⟩⟩⟩
      | some gc =>
        obtain ⟨g, c⟩ := gc
        rw [hθ] at hv
        simp only at hv
        obtain ⟨rfl, rfl⟩ := hv
        obtain ⟨cur, q1, q2, q3, q4, q5, q6, q7⟩ := k2 g cap hθ
        have hle : n * i.size ≤ cur.size := by rw [q4]; exact Nat.mul_le_mul_right _ q2
        have hcl : (cur.toList.take (n * i.size)).length = n * i.size := by simp; omega
        have hg : ∀ j, j < n * i.size → (cur.toList.take (n * i.size)).getD j undef = cur.getD j undef := fun j hj => by
          simp only [List.getD, List.getElem?_take, hj, if_true, Array.getD_eq_getD_getElem?, Array.getElem?_toList]
        refine ⟨some ⟨g, 0, none⟩, cap, cur.toList.take (n * i.size), rfl, hcap, hmax, (by simp), hcl, fun u hu => ?_, q5, fun k c hk hc => ?_, fun _ => ⟨_, rfl, fun j u hu => ?_⟩, .inr ⟨g, cur, hown, rfl, rfl, q1, q4, rfl, q7⟩⟩
        · obtain ⟨j, hj, rfl⟩ := List.mem_iff_getElem.1 hu
          rw [hcl] at hj
          have e1 := hg j hj
          rw [List.getD, List.getElem?_eq_getElem (by omega)] at e1
          simp only [Option.getD_some] at e1
          rw [e1]
          have hs : 0 < i.size := by
            rcases Nat.eq_zero_or_pos i.size with h0 | h0
            · rw [h0] at hj; omega
            · exact h0
          have e2 : j / i.size * i.size + j % i.size = j := by rw [Nat.mul_comm]; exact Nat.div_add_mod j i.size
          have := (q6 (j / i.size) (j % i.size) (by rw [Nat.div_lt_iff_lt_mul hs]; exact hj) (Nat.mod_lt _ hs)).1
          rwa [e2] at this
        · rw [hg _ (pos_lt hk hc (Nat.le_refl _))]
          exact (q6 k c hk hc).2
        · have hj : j < n * i.size := by
            rcases Nat.lt_or_ge j (n * i.size) with h' | h'
            · exact h'
            · rw [List.getElem?_eq_none (by omega)] at hu; cases hu
          rw [Addr.add_lit, Nat.zero_add, cell_of_row w g _ cur e (0, 0) q1]
          rw [List.getElem?_take, if_pos hj, Array.getElem?_toList] at hu
          exact hu
  have hrun := run_append_all (P := P) (w := w) (n := n) (cap := cap) (n' := n') (cap' := cap') (ad := ad) (bd := bd) ty ht hi hz hl hl' hcap hnn h1' hc
    (fun hp => by obtain ⟨b, h1, _, _, h4⟩ := hc' hp; exact ⟨b, h1, h4⟩) hroom hby
  obtain ⟨r0, r1, r2⟩ := hrun
  have hmaxr : n + n' ≤ maxLen := by unfold room at hroom; unfold maxLen; omega
  have happ : ∀ k, k < n + n' → (appF n f f' k).length = i.size := fun k hk => by
    by_cases hlt : k < n
    · rw [appF_lt _ _ hlt]; exact hf k hlt
    · rw [appF_ge _ _ (by omega)]; exact hf' _ (by omega)
  have hlen : (cs ++ cs').length = (n + n') * i.size := by rw [List.length_append, hl, hl', Nat.add_mul]
  have hboth : ∀ k c, k < n + n' → c < i.size → ((cs ++ cs').getD (k * i.size + c) undef).oneCell' = true ∧ (∀ {own' : Nat → Option Own} {θ' : Nat → Option (Nat × Nat)} {w' : World}, (∀ v x, Rep I σ.own θ w v x → Rep I own' θ' w' v x) →
      Rep I own' θ' w' ((cs ++ cs').getD (k * i.size + c) undef) ((appF n f f' k).getD c .any)) := fun k c hk hc => by
    have hm : (cs ++ cs').getD (k * i.size + c) undef ∈ cs ++ cs' := by
      have := pos_lt hk hc (Nat.le_refl _)
      rw [List.getD, List.getElem?_eq_getElem (by omega)]
      exact List.getElem_mem _
    refine ⟨(List.mem_append.1 hm).elim (h1 _) (h1' _), fun hmono => ?_⟩
    by_cases hlt : k < n
    · rw [appF_lt _ _ hlt]
      have := pos_lt hlt hc (Nat.le_refl n)
      have e : (cs ++ cs').getD (k * i.size + c) undef = cs.getD (k * i.size + c) undef := by
        rw [List.getD, List.getElem?_append_left (by omega)]; rfl
      rw [e]
      exact hmono _ _ (hr k c hlt hc)
    · rw [appF_ge _ _ (by omega)]
      have h2 : n * i.size ≤ k * i.size := Nat.mul_le_mul_right _ (by omega)
      have e : (cs ++ cs').getD (k * i.size + c) undef = cs'.getD ((k - n) * i.size + c) undef := by
        rw [List.getD, List.getElem?_append_right (by omega), hl, Nat.sub_mul]
        congr 2
        omega
      rw [e]
      exact hmono _ _ (.val _ _ (hr' (k - n) c (by omega) hc))
  by_cases hz' : n' = 0
  · subst hz'
    -- nothing is appended
    rcases hold with ⟨rfl, hno⟩ | ⟨g, cur, hown, hθ, rfl, hh, hcs, hcc, hI⟩
    · have hn0 : n = 0 := by omega
      subst hn0
      have hk := chg_arr (w' := w) (t' := none) (m' := 0 + 0) (f' := appF 0 f f') (nm := nm) (s := i.size) (e := e) hrel hval (fun _ _ _ => rfl) (by
        rcases hno with h | ⟨h1, h2⟩
        · exact .inl h
        · exact .inr ⟨0, f, h2, by omega, fun _ => h1.symm⟩) (fun _ _ _ => rfl) rfl rfl rfl (Nat.le_refl _) (fun _ => rfl) (by simp) (by simp)
      exact ⟨_, w, _, r0 rfl, hk, .vsl nm i.size e 0 (appF 0 f f') ad 0 0 (by simp [ownUp]) (Nat.le_refl _) (Nat.le_refl _) hmax hnn (fun _ => by simp [thUp])⟩
    · have hk := chg_arr (w' := w) (t' := some (g, cap)) (m' := n + 0) (f' := appF n f f') (nm := nm) (s := i.size) (e := e) hrel hval (fun _ _ _ => rfl) (.inr ⟨n, f, hown, by omega, fun _ => hθ.symm⟩) (fun _ _ _ => rfl) rfl rfl rfl (Nat.le_refl _) (by simp)
        (fun g' c' hgc => ?_) (fun g' c' hgc => ?_)
      · exact ⟨_, w, _, r0 rfl, hk, .vsl nm i.size e (n + 0) (appF n f f') (some ⟨g, 0, none⟩) n cap (by simp [ownUp]) (Nat.le_refl _) hcap hmax hnn (fun _ => by simp [thUp])⟩
      · simp only [Option.some.injEq, Prod.mk.injEq] at hgc
        obtain ⟨rfl, rfl⟩ := hgc
        refine ⟨cur, hh, hcap, hmax, hcs, happ, fun k c hk hc => ?_, hI⟩
        have hk' : k < n := by omega
        have := hboth k c hk hc
        have e : (cs ++ cs').getD (k * i.size + c) undef = cur.getD (k * i.size + c) undef := by
          have := pos_lt hk' hc (Nat.le_refl n)
          rw [List.getD, List.getElem?_append_left (by omega), hcc]
          simp only [List.getElem?_take, this, if_true, Array.getD_eq_getD_getElem?, Array.getElem?_toList]
        rw [e] at this
        exact ⟨this.1, fun hmono => this.2 hmono⟩
      · simp only [Option.some.injEq, Prod.mk.injEq] at hgc
        obtain ⟨rfl, rfl⟩ := hgc
        exact .inr ⟨by simp [hown], cap, hθ⟩
  · have hp : 0 < n' := Nat.pos_of_ne_zero hz'
    by_cases hg : cap < n + n'
    · -- a new block
      obtain ⟨zs, nc, hnc, hnc', hzsz, hrun⟩ := r2 hp hg
      have hheap : (w.drew.alloc (.cells (cs.toArray ++ cs'.toArray ++ zs) e)).heap[w.heap.size]? = some (.cells (cs.toArray ++ cs'.toArray ++ zs) e (0, 0)) := _root_.Go.heap_alloc_new w.drew _
      have hk := chg_arr (w' := w.drew.alloc (.cells (cs.toArray ++ cs'.toArray ++ zs) e)) (t' := some (w.heap.size, nc)) (m' := n + n') (f' := appF n f f') (nm := nm) (s := i.size) (e := e) hrel hval
        (fun b o hi => by obtain ⟨u, hu⟩ := hval b o hi; exact alloc_cell (w := w.drew) _ (by simpa using hu))
        (by
          rcases hold with ⟨_, h | ⟨_, h⟩⟩ | ⟨_, _, h, _⟩
          · exact .inl h
          · exact .inr ⟨n, f, h, by omega, fun he => by omega⟩
          · exact .inr ⟨n, f, h, by omega, fun he => by omega⟩)
        (fun b hb _ => _root_.Go.heap_alloc_old w.drew _ hb) rfl rfl rfl (by simp) (by simp) (fun g' c' hgc => ?_) (fun g' c' hgc => ?_)
      · exact ⟨_, _, _, hrun, hk, .vsl nm i.size e (n + n') (appF n f f') (some ⟨w.heap.size, 0, none⟩) (n + n') nc (by simp [ownUp]) (Nat.le_refl _) hnc hnc' (by simp) (fun _ => by simp [thUp])⟩
      · simp only [Option.some.injEq, Prod.mk.injEq] at hgc
        obtain ⟨rfl, rfl⟩ := hgc
        refine ⟨_, hheap, hnc, hnc', ?_, happ, fun k c hk hc => ?_, fun j hj => ?_⟩
        · simp only [Array.size_append, List.size_toArray, hl, hl', hzsz, hzs, ← Nat.add_mul]
          congr 1
          omega
        · have := hboth k c hk hc
          have hlt := pos_lt hk hc (Nat.le_refl (n + n'))
          have e1 : (cs.toArray ++ cs'.toArray ++ zs).getD (k * i.size + c) undef = (cs ++ cs').getD (k * i.size + c) undef := by
            rw [Array.getD_eq_getD_getElem?, Array.getElem?_append_left (by simp at hlen ⊢; omega)]
            have : cs.toArray ++ cs'.toArray = (cs ++ cs').toArray := by simp
            rw [this]
            simp [List.getD]
          rw [e1]
          exact ⟨this.1, fun hmono => this.2 hmono⟩
        · obtain ⟨u, hu⟩ := hval _ _ hj
          exact Nat.lt_irrefl _ (cell_lt hu)
      · simp only [Option.some.injEq, Prod.mk.injEq] at hgc
        exact .inl (by omega)
    · -- there is room
      rcases hold with ⟨rfl, _⟩ | ⟨g, cur, hown, hθ, rfl, hh, hcs, hcc, hI⟩
      · omega
      · have hfit : n * i.size + cs'.length ≤ cur.size := by rw [hl', hcs, ← Nat.add_mul]; exact Nat.mul_le_mul_right _ (by omega)
        have hrun := r1 hp (by omega) g cur 0 rfl hh (Nat.zero_le _) hfit
        have hother : ∀ b, b ≠ g → (w.setRow g (cur.toList.take (n * i.size) ++ cs' ++ cur.toList.drop (n * i.size + cs'.length)).toArray).heap[b]? = w.heap[b]? := fun b hb => setRow_other w g b _ hb
        have hnew := setRow_heap w g cur (cur.toList.take (n * i.size) ++ cs' ++ cur.toList.drop (n * i.size + cs'.length)).toArray e _ hh
        have hsize : (cur.toList.take (n * i.size) ++ cs' ++ cur.toList.drop (n * i.size + cs'.length)).length = cur.size := by
          simp only [List.length_append, List.length_take, List.length_drop, Array.length_toList]; omega
        have hk := chg_arr (w' := w.setRow g (cur.toList.take (n * i.size) ++ cs' ++ cur.toList.drop (n * i.size + cs'.length)).toArray) (t' := some (g, cap)) (m' := n + n') (f' := appF n f f') (nm := nm) (s := i.size) (e := e) hrel hval
          (fun b k hi => World.cell?_of_block (a := ⟨b, k, none⟩) (hother b (by rintro rfl; exact hI k hi))) (.inr ⟨n, f, hown, by omega, fun he => by omega⟩)
          (fun b hb hn => hother b (by rintro rfl; exact hn cap (by simp [hown]) hθ)) rfl rfl rfl (by simp) (by simp) (fun g' c' hgc => ?_) (fun g' c' hgc => ?_)
        · exact ⟨_, _, _, hrun, hk, .vsl nm i.size e (n + n') (appF n f f') (some ⟨g, 0, none⟩) (n + n') cap (by simp [ownUp]) (Nat.le_refl _) (by omega) hmax (by simp) (fun _ => by simp [thUp])⟩
        · simp only [Option.some.injEq, Prod.mk.injEq] at hgc
          obtain ⟨rfl, rfl⟩ := hgc
          refine ⟨_, hnew, by omega, hmax, by simpa [hcs] using hsize, happ, fun k c hk hc => ?_, hI⟩
          have := hboth k c hk hc
          have hlt := pos_lt hk hc (Nat.le_refl (n + n'))
          have e1 : ((cur.toList.take (n * i.size) ++ cs' ++ cur.toList.drop (n * i.size + cs'.length)).toArray).getD (k * i.size + c) undef = (cs ++ cs').getD (k * i.size + c) undef := by
            rw [list_toArray_getD, ← hcc, List.getD, List.getElem?_append_left (by omega)]
            rfl
          rw [e1]
          exact ⟨this.1, fun hmono => this.2 hmono⟩
        · simp only [Option.some.injEq, Prod.mk.injEq] at hgc
          obtain ⟨rfl, rfl⟩ := hgc
          exact .inr ⟨by simp [hown], cap, hθ⟩
end
end Go.Proofs.Ytcpopeamoipjlaa
