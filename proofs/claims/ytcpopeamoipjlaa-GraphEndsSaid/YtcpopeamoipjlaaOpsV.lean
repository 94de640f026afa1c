/-
  Parts of rows that may be written; what is copied into them.
-/
import Derived.Test.YtcpopeamoipjlaaOpsR
import Derived.Test.YtcpopeamoipjlaaOpsH
namespace Go.Proofs.Ytcpopeamoipjlaa
open Go Go.RowKit
set_option linter.unusedVariables false
set_option linter.unusedSimpArgs false

section
variable {P : Program} {Γ : Env} {σ : Sto} {I : Nat → Nat → Prop} {θ : Nat → Option (Nat × Nat)} {a : Act} {w : World} {o : Oper}

theorem view_inv (h : Rel Γ σ I θ a w) {x : AV} {nm n lo hi : Nat} (hv : x.view = some (nm, n, lo, hi)) {v : Value} (hx : Rep I σ.own θ w v x) : ∃ sz e m f ad cap, v = .slice ad (hi - lo) cap ∧ σ.own nm = some (.arr sz e m f) ∧ n ≤ m ∧ lo ≤ hi ∧ hi ≤ n ∧ hi - lo ≤ cap ∧ cap ≤ maxLen ∧ (ad = none → cap = 0) ∧
    (n = m → VsubAt (θ nm) n lo hi sz ad cap) := by
  cases x <;> simp [AV.view] at hv
  case vsl nm' n' =>
    obtain ⟨rfl, rfl, rfl, rfl⟩ := hv
    obtain ⟨sz, e, m, f, ad, cap, rfl, ho, hm, hcap, hmax, hn, hvv⟩ := hx.vsl_inv
    refine ⟨sz, e, m, f, ad, cap, by simp, ho, hm, Nat.zero_le _, Nat.le_refl _, by omega, hmax, hn, fun hnm => ⟨fun hlt => ?_, fun _ => hvv hnm⟩⟩
    have := hvv hnm
    cases hθ : θ nm' with
    | none => have := (h.chg.rel.arr nm' _ _ _ _ ho).1 hθ; omega
    | some gc =>
      obtain ⟨g, c⟩ := gc
      rw [hθ] at this
      simp only at this
      exact ⟨g, c, rfl, by rw [this.1]; simp⟩
  case vsub nm' n' lo' hi' =>
    obtain ⟨rfl, rfl, rfl, rfl⟩ := hv
    obtain ⟨sz, e, m, f, ad, cap, rfl, ho, hm, h1, h2, hcap, hmax, hn, hvv⟩ := hx.vsub_inv
    exact ⟨sz, e, m, f, ad, cap, rfl, ho, hm, h1, h2, hcap, hmax, hn, hvv⟩

theorem run_first {ad : Option Addr} {n cap sz k : Nat} {us : Nat → Value} (h : 0 < k → ∃ b, ad = some b ∧ b.spot = none ∧ ∀ j, j < k * sz → w.cell? ⟨b.block, b.off + j, none⟩ = some (us j)) :
    (Builtin.firstCells sz k (.slice ad n cap)).run P w = .ok ((List.range (k * sz)).map us).toArray w := by
  rcases Nat.eq_zero_or_pos k with rfl | hk
  · cases ad with
    | none => simp [Builtin.firstCells]
    | some b => simp [Builtin.firstCells, loadCells, loadCellsFrom]
  · obtain ⟨b, rfl, hs, hc⟩ := h hk
    show (loadCells b (k * sz)).run P w = _
    refine run_loadCells_list (P := P) (w := w) b ((List.range (k * sz)).map us) (fun j v hj => ?_) |>.trans ?_ |> fun h => by simpa using h
    · rw [List.getElem?_map] at hj
      by_cases hlt : j < k * sz
      · rw [List.getElem?_range hlt] at hj
        simp only [Option.map_some, Option.some.injEq] at hj
        subst hj
        rw [add_none hs]
        exact hc j hlt
      · rw [List.getElem?_eq_none (by simp; omega)] at hj
        cases hj
    · rfl

/-- What is copied, as cells. -/
structure SrcOK (P : Program) (I : Nat → Nat → Prop) (own : Nat → Option Own) (θ : Nat → Option (Nat × Nat)) (w : World) (sz k : Nat) (v : Value) (g : Nat → List AV) (cs : List Value) : Prop where
  run : (Builtin.firstCells sz k v).run P w = .ok cs.toArray w
  len : cs.length = k * sz
  one : ∀ u ∈ cs, u.oneCell' = true
  rep : ∀ i c, i < k → c < sz → Rep I own θ w (cs.getD (i * sz + c) undef) ((g i).getD c .any)
  wid : ∀ i, i < k → (g i).length = sz

theorem pos_lt' {i j k sz : Nat} (hi : i < k) (hj : j < sz) : i * sz + j < k * sz := pos_lt hi hj (Nat.le_refl k)

theorem src_val {v : Value} {sz sz' n k : Nat} {f : Nat → List AV} (hk : k ≤ n) (hsz : sz' = sz ∨ n = 0) (h : RepV I w v (.slice sz' n f .none)) : ∃ cs, SrcOK P I σ.own θ w sz k v f cs := by
  obtain ⟨_, ad, cap, us, rfl, hcap, hmax, hz, hn, h1, hl, hr⟩ := h.slice_inv
  by_cases hk0 : k = 0
  · subst hk0
    exact ⟨[], by simpa using run_first (P := P) (w := w) (us := us) (k := 0) (fun h => by omega), by simp, by simp, fun i c hi => by omega, fun i hi => by omega⟩
  · obtain rfl : sz' = sz := by omega
    obtain ⟨b, rfl, hs, hI, hc⟩ := hz (by omega)
    have hle : k * sz' ≤ n * sz' := Nat.mul_le_mul_right _ hk
    refine ⟨(List.range (k * sz')).map us, run_first (fun _ => ⟨b, rfl, hs, fun j hj => hc j (by omega)⟩), by simp, fun u hu => ?_, fun i c hi hcc => ?_, fun i hi => hl i (by omega)⟩
    · obtain ⟨j, hj, rfl⟩ := List.mem_map.1 hu
      exact h1 j (by have := List.mem_range.1 hj; omega)
    · rw [list_getD _ _ _ (pos_lt' hi hcc)]
      exact .val _ _ (hr i c (by omega) hcc)

theorem src_view (h : Rel Γ σ I θ a w) {x : AV} {nm n lo hi sz m k : Nat} {e : TypeId} {f : Nat → List AV} (hv : x.view = some (nm, n, lo, hi)) {v : Value} (hx : Rep I σ.own θ w v x) (hown : σ.own nm = some (.arr sz e m f)) (hn : n = m) (hk : k ≤ hi - lo) :
    ∃ cs, SrcOK P I σ.own θ w sz k v (fun i => f (lo + i)) cs := by
  obtain ⟨sz', e', m', f', ad, cap, rfl, ho, hm, hlo, hhi, hcap, hmax, hnn, hvv⟩ := view_inv h hv hx
  rw [hown] at ho
  simp only [Option.some.injEq, Own.arr.injEq] at ho
  obtain ⟨rfl, rfl, rfl, rfl⟩ := ho
  by_cases hk0 : k = 0
  · subst hk0
    exact ⟨[], by simpa using run_first (P := P) (w := w) (us := fun _ => undef) (k := 0) (fun h => by omega), by simp, by simp, fun i c hi => by omega, fun i hi => by omega⟩
  · obtain ⟨g, c, hg, rfl⟩ := (hvv hn).1 (by omega)
    obtain ⟨cur, q1, q2, q3, q4, q5, q6, q7⟩ := (h.chg.rel.arr nm _ _ _ _ hown).2 g c hg
    have hfit : ∀ j, j < k * sz → lo * sz + j < c * sz := fun j hj => by
      have : (lo + k) * sz ≤ c * sz := Nat.mul_le_mul_right _ (by omega)
      rw [Nat.add_mul] at this
      omega
    refine ⟨(List.range (k * sz)).map fun j => cur.getD (lo * sz + j) undef, run_first (fun _ => ⟨_, rfl, rfl, fun j hj => ?_⟩), by simp, fun u hu => ?_, fun i c' hi hcc => ?_, fun i hi => q5 _ (by omega)⟩
    · rw [cell_of_row w g _ cur e (0, 0) q1]
      exact agetD_of (by rw [q4]; exact hfit j hj)
    · obtain ⟨j, hj, rfl⟩ := List.mem_map.1 hu
      have hj := List.mem_range.1 hj
      have hs : 0 < sz := by
        rcases Nat.eq_zero_or_pos sz with h0 | h0
        · rw [h0] at hj; omega
        · exact h0
      have e1 : lo * sz + j = (lo + j / sz) * sz + j % sz := by
        rw [Nat.add_mul, Nat.add_assoc]
        congr 1
        rw [Nat.mul_comm]; exact (Nat.div_add_mod j sz).symm
      have e2 : j / sz < k := Nat.div_lt_of_lt_mul (by rw [Nat.mul_comm]; exact hj)
      rw [e1]
      exact (q6 (lo + j / sz) (j % sz) (by omega) (Nat.mod_lt _ hs)).1
    · rw [list_getD _ _ _ (pos_lt' hi hcc), ← Nat.add_assoc, ← Nat.add_mul]
      exact (q6 (lo + i) c' (by omega) hcc).2

theorem cpF_in (f g : Nat → List AV) {lo k i : Nat} (h : lo ≤ i ∧ i < lo + k) : cpF f lo k g i = g (i - lo) := by
  have h1 : Nat.ble lo i = true := Nat.ble_eq_true_of_le h.1
  have h2 : Nat.blt i (lo + k) = true := by simpa [Nat.blt_eq] using h.2
  simp [cpF, h1, h2]
theorem cpF_out (f g : Nat → List AV) {lo k i : Nat} (h : ¬ (lo ≤ i ∧ i < lo + k)) : cpF f lo k g i = f i := by
  have : (Nat.ble lo i && Nat.blt i (lo + k)) = false := by
    cases h1 : Nat.ble lo i with
    | false => rfl
    | true =>
      cases h2 : Nat.blt i (lo + k) with
      | false => rfl
      | true => rw [Nat.blt_eq] at h2; exact (h ⟨Nat.le_of_ble_eq_true h1, h2⟩).elim
  simp [cpF, this]

theorem ok_copy (h : Rel Γ σ I θ a w) (hd : ∀ d, o.dst = some d → d < Γ.n) {t t' e : TypeId} {x y : Operand} (ho : o.op = .call { callee := .builtin .copy, args := #[x, y], argTypes := #[t, t'] }) (hu : P.underlying t = some (.slice e)) (hT : hasT P e = true)
    {dx : AV} {nm n lo hi sz m : Nat} {e0 : TypeId} {f g : Nat → List AV} (hv : dx.view = some (nm, n, lo, hi)) (hx : Rep I σ.own θ w (a.eval x) dx) (hown : σ.own nm = some (.arr sz e0 m f)) (hn : n = m) (hsz : sz = szT P e)
    {ad : Option Addr} {len cap : Nat} (hy : a.eval y = .slice ad len cap) {cs : List Value} (hs : SrcOK P I σ.own θ w sz (Nat.min len (hi - lo)) (a.eval y) g cs) :
    OpOK P Γ σ o a w (.int .i64 (Nat.min len (hi - lo) : Nat)) [(nm, .arr sz e0 m (cpF f lo (Nat.min len (hi - lo)) g))] := by
  obtain ⟨sz', e', m', f', ad', cap', hex, ho', hm, hlo, hhi, hcap, hmax, hnn, hvv⟩ := view_inv h hv hx
  rw [hown] at ho'
  simp only [Option.some.injEq, Own.arr.injEq] at ho'
  obtain ⟨rfl, rfl, rfl, rfl⟩ := ho'
  obtain ⟨k, hk⟩ : ∃ k, k = Nat.min len (hi - lo) := ⟨_, rfl⟩
  rw [← hk] at hs ⊢
  have hkl : k ≤ hi - lo := by rw [hk]; exact Nat.min_le_right _ _
  obtain ⟨q0, q⟩ := h.chg.rel.arr nm _ _ _ _ hown
  have hrel := h.chg.rel
  -- what the store leaves
  have key : ∃ w', (match ad' with | some b => storeCells b cs | none => pure ()).run P w = .ok () w' ∧ Chg σ.own θ I w (ownUp σ.own nm (.arr sz e0 m (cpF f lo k g))) θ I w' := by
    rcases Nat.eq_zero_or_pos k with h0 | hpos
    · have hcs : cs = [] := List.length_eq_zero_iff.1 (by rw [hs.len, h0]; simp)
      refine ⟨w, by cases ad' <;> simp [hcs, storeCells], ?_⟩
      have hself : thUp θ nm (θ nm) = θ := thUp_self rfl
      have hk2 := chg_arr (w' := w) (t' := θ nm) (m' := m) (f' := cpF f lo k g) hrel h.chg.valid (nm := nm) (s := sz) (e := e0) (fun _ _ _ => rfl) (.inr ⟨m, f, hown, Nat.le_refl _, fun _ => rfl⟩) (fun _ _ _ => rfl) rfl rfl rfl (Nat.le_refl _) q0 (fun g' c' hg => by
        obtain ⟨cur, r1, r2, r3, r4, r5, r6, r7⟩ := q g' c' hg
        refine ⟨cur, r1, r2, r3, r4, fun i hi => by rw [cpF_out f g (by omega)]; exact r5 i hi, fun i j hi hj => ?_, r7⟩
        rw [cpF_out f g (by omega)]
        exact ⟨(r6 i j hi hj).1, fun hmono => hmono _ _ (r6 i j hi hj).2⟩) (fun g' c' hg => .inr ⟨by simp [hown], c', hg⟩)
      rwa [hself] at hk2
    · obtain ⟨g0, c, hg, rfl⟩ := (hvv hn).1 (by omega)
      obtain ⟨cur, r1, r2, r3, r4, r5, r6, r7⟩ := q g0 c hg
      have hfit : lo * sz + cs.length ≤ cur.size := by
        have : (lo + k) * sz ≤ c * sz := Nat.mul_le_mul_right _ (by omega)
        rw [Nat.add_mul] at this
        rw [hs.len, r4]
        exact this
      have hst := run_storeCells_at P g0 (lo * sz) e0 cs 0 cur w r1 (by simpa using hfit) hs.one
      simp only [Nat.add_zero] at hst
      have hother : ∀ b, b ≠ g0 → (w.setRow g0 (cur.toList.take (lo * sz) ++ cs ++ cur.toList.drop (lo * sz + cs.length)).toArray).heap[b]? = w.heap[b]? := fun b hb => setRow_other w g0 b _ hb
      refine ⟨_, hst, ?_⟩
      have hk2 := chg_arr (w' := w.setRow g0 (cur.toList.take (lo * sz) ++ cs ++ cur.toList.drop (lo * sz + cs.length)).toArray) (t' := some (g0, c)) (m' := m) (f' := cpF f lo k g) hrel h.chg.valid (nm := nm) (s := sz) (e := e0)
        (fun b j hi => World.cell?_of_block (a := ⟨b, j, none⟩) (hother b (by rintro rfl; exact r7 j hi))) (.inr ⟨m, f, hown, Nat.le_refl _, fun _ => hg.symm⟩)
        (fun b hb hn => hother b (by rintro rfl; exact hn c (by simp [hown]) hg)) rfl rfl rfl (by simp) (by simp) (fun g' c' hgc => ?_) (fun g' c' hgc => ?_)
      · rwa [thUp_self hg] at hk2
      · simp only [Option.some.injEq, Prod.mk.injEq] at hgc
        obtain ⟨rfl, rfl⟩ := hgc
        have hlen : (cur.toList.take (lo * sz) ++ cs ++ cur.toList.drop (lo * sz + cs.length)).length = cur.size := by
          simp only [List.length_append, List.length_take, List.length_drop, Array.length_toList]; omega
        have hget : ∀ j, ((cur.toList.take (lo * sz) ++ cs ++ cur.toList.drop (lo * sz + cs.length)).toArray).getD j undef = if lo * sz ≤ j ∧ j < lo * sz + cs.length then cs.getD (j - lo * sz) undef else cur.getD j undef := fun j => by
          have := take_mid_getD undef cur.toList cs (lo * sz) j (by simpa using hfit)
          have e1 : ∀ (l : List Value), (l.toArray).getD j undef = l.getD j undef := fun l => by simp [Array.getD_eq_getD_getElem?, List.getD]
          rw [e1, this]
          congr 1
          simp [Array.getD_eq_getD_getElem?, List.getD]
        refine ⟨_, setRow_heap w g0 cur _ e0 _ r1, r2, r3, by simp only [List.size_toArray]; rw [hlen, r4], fun i hi => ?_, fun i j hi hj => ?_, r7⟩
        · by_cases hin : lo ≤ i ∧ i < lo + k
          · rw [cpF_in f g hin]; exact hs.wid _ (by omega)
          · rw [cpF_out f g hin]; exact r5 i hi
        · rw [hget]
          by_cases hin : lo ≤ i ∧ i < lo + k
          · have h1 : (i - lo) * sz + j < k * sz := pos_lt' (by omega) hj
            have h2 : i * sz + j = lo * sz + ((i - lo) * sz + j) := by
              rw [← Nat.add_assoc, ← Nat.add_mul]
              congr 2
              omega
            rw [if_pos (by rw [hs.len]; omega), cpF_in f g hin]
            have h3 : i * sz + j - lo * sz = (i - lo) * sz + j := by omega
            rw [h3]
            have hmem : cs.getD ((i - lo) * sz + j) undef ∈ cs := by
              have : (i - lo) * sz + j < cs.length := by rw [hs.len]; exact h1
              simp [List.getD, this]
            exact ⟨hs.one _ hmem, fun hmono => hmono _ _ (hs.rep (i - lo) j (by omega) hj)⟩
          · have hout : ¬ (lo * sz ≤ i * sz + j ∧ i * sz + j < lo * sz + cs.length) := by
              rw [hs.len, ← Nat.add_mul]
              rcases Nat.lt_or_ge i lo with hlt | hge
              · have : (i + 1) * sz ≤ lo * sz := Nat.mul_le_mul_right _ hlt
                rw [Nat.add_mul] at this
                omega
              · have : (lo + k) * sz ≤ i * sz := Nat.mul_le_mul_right _ (by omega)
                omega
            rw [if_neg hout, cpF_out f g hin]
            exact ⟨(r6 i j hi hj).1, fun hmono => hmono _ _ (r6 i j hi hj).2⟩
      · simp only [Option.some.injEq, Prod.mk.injEq] at hgc
        obtain ⟨rfl, rfl⟩ := hgc
        exact .inr ⟨by simp [hown], c, hg⟩
  obtain ⟨w', hst, hchg⟩ := key
  have hrun : (execOp a.eval o).run P w = .ok (.value (goInt k)) w' := by
    have hlenof : (Builtin.lenOf (a.eval y)).run P w = .ok len w := by rw [hy]; rfl
    have hfc := hs.run
    rw [hsz] at hfc
    have hcp : (Builtin.copy_ #[t, t'] o.type #[a.eval x, a.eval y]).run P w = .ok (goInt k) w' := by
      simp only [Builtin.copy_]
      simp [hex, run_underlying hu, hlenof, run_sizeOf' hT, ← hk, hfc]
      cases ad' with
      | none => simp at hst; subst hst; simp
      | some b => simp only at hst; simp [hst]
    simp [execOp, ho, resolve, invoke, builtin, hcp]
  exact ok_chg (w' := w') (I' := I) (θ' := θ) h hd (v := goInt k) hrun (by rw [upd_one]; exact hchg) (.val _ _ (.int _ _))

theorem ok_index_view (h : Rel Γ σ I θ a w) (hd : ∀ d, o.dst = some d → d < Γ.n) {t e : TypeId} {x i : Operand} (ho : o.op = .indexAddr t x i) (hu : P.underlying t = some (.slice e)) (ht : hasT P e = true)
    {nm n lo hi : Nat} {k : IntKind} {j : Int} (hx : Rep I σ.own θ w (a.eval x) (.vsub nm n lo hi)) (hi' : Rep I σ.own θ w (a.eval i) (.int k j)) (hb : InB j (hi - lo)) {sz m : Nat} {e' : TypeId} {f : Nat → List AV} (hown : σ.own nm = some (.arr sz e' m f)) (hs : sz = szT P e) :
    OpOK P Γ σ o a w (.vpt nm n (lo + j.toNat) 0) [] := by
  obtain ⟨hb0, hb1⟩ := hb
  obtain ⟨sz2, e2, m2, f2, ad, cap, he, ho', hm, hlo, hhi, hcap, hmax, hn, hv⟩ := hx.vsub_inv
  rw [hown] at ho'
  simp only [Option.some.injEq, Own.arr.injEq] at ho'
  obtain ⟨rfl, rfl, rfl, rfl⟩ := ho'
  subst hs
  have hi' := hi'.int_inv
  have hne : ad ≠ none := fun h => by have := hn h; omega
  obtain ⟨b, rfl⟩ := Option.ne_none_iff_exists'.1 hne
  refine ok_pure h hd (v := .pointer (some (b.add (j.toNat * szT P e)))) ?_ (.vpt nm _ _ _ f n _ _ _ hown hm (by omega) (fun hnm => ?_))
  · have hb2 : j < ((hi - lo : Nat) : Int) := hb1
    simp [execOp, ho, he, hi', Instr.indexAt, asIntOf, run_underlying hu, hb0, hb2, run_sizeOf' ht]
  · obtain ⟨g, c, hg, hb⟩ := (hv hnm).1 (by omega)
    simp only [Option.some.injEq] at hb
    subst hb
    exact ⟨g, c, hg, by rw [Addr.add_lit, Nat.add_zero, Nat.add_mul]⟩

theorem rep_view (h : Rel Γ σ I θ a w) {x : AV} {nm n l0 h0 : Nat} (hv : x.view = some (nm, n, l0, h0)) {ad : Option Addr} {len cap : Nat} (hx : Rep I σ.own θ w (.slice ad len cap) x) {l k sz m : Nat} {e : TypeId} {f : Nat → List AV} (hown : σ.own nm = some (.arr sz e m f)) (hlk : l ≤ k) (hk : l0 + k ≤ h0) (hlen : len = h0 - l0) :
    Rep I σ.own θ w (.slice (if cap = l then ad else ad.map (·.add (l * sz))) (k - l) (cap - l)) (.vsub nm n (l0 + l) (l0 + k)) := by
  obtain ⟨sz', e', m', f', ad', cap', hex, ho, hm, hlo, hhi, hcap, hmax, hnn, hvv⟩ := view_inv h hv hx
  simp only [Value.slice.injEq] at hex
  obtain ⟨rfl, _, rfl⟩ := hex
  rw [hown] at ho
  simp only [Option.some.injEq, Own.arr.injEq] at ho
  obtain ⟨rfl, rfl, rfl, rfl⟩ := ho
  have e1 : k - l = (l0 + k) - (l0 + l) := by omega
  rw [e1]
  refine .vsub nm sz e m f n _ _ _ _ hown hm (by omega) (by omega) (by omega) (by omega) (fun hnone => ?_) (fun hnm => ⟨fun hlt => ?_, fun h00 => ?_⟩)
  · by_cases hc : cap = l
    · omega
    · rw [if_neg hc] at hnone
      have := hnn (by simpa using hnone)
      omega
  · obtain ⟨g, c, hg, rfl⟩ := (hvv hnm).1 (by omega)
    refine ⟨g, c, hg, ?_⟩
    rw [if_neg (by omega)]
    simp [Addr.add_lit, Nat.add_mul]
  · have hz := (hvv hnm).2 (by omega)
    have hl0 : l = 0 := by omega
    subst hl0
    cases hθ : θ nm with
    | none => rw [hθ] at hz; simpa using hz
    | some gc =>
      obtain ⟨g, c⟩ := gc
      rw [hθ] at hz
      obtain ⟨rfl, rfl⟩ := hz
      refine ⟨?_, by simp⟩
      by_cases hc : cap = 0
      · simp [hc]
      · simp [hc, Addr.add_lit]

theorem ok_view (h : Rel Γ σ I θ a w) (hd : ∀ d, o.dst = some d → d < Γ.n) {t el : TypeId} {y : Operand} {lo hi mx : Option Operand} (ho : o.op = .slice t y lo hi mx) (hu : P.underlying t = some (.slice el)) {e : Eff} {x : AV} {vs : List AV}
    (hvs : RepL I σ.own θ w ([a.eval y] ++ (lo.map a.eval).toList ++ (hi.map a.eval).toList ++ (mx.map a.eval).toList) (x :: vs)) (he : aView P t lo.isSome hi.isSome mx.isSome x vs = some e) (hob : ∀ p ∈ e.ob, p)
    (hown : ∀ nm n l0 h0, x.view = some (nm, n, l0, h0) → ∃ sz e m f, σ.own nm = some (.arr sz e m f) ∧ sz = szT P el) :
    e.wo = [] ∧ OpOK P Γ σ o a w e.v [] := by
  unfold aView at he
  split at he
  · rename_i el' nm n l0 h0 hu' hv
    rw [hu] at hu'
    simp only [Option.some.injEq, TypeDesc.slice.injEq] at hu'
    subst hu'
    obtain ⟨sz, e1, m, f, hown, rfl⟩ := hown nm n l0 h0 hv
    cases hT : hasT P el with
    | false => simp [hT] at he
    | true =>
      simp only [hT, cond_true] at he
      split at he
      · rename_i k l h1 h2 h3
        cases lo <;> simp at h1
        cases hi <;> simp at h2
        cases mx <;> simp at h3
        obtain ⟨p, q, e1, hy, hz⟩ := hvs.two
        simp only [List.cons.injEq, and_true] at e1
        obtain ⟨rfl, rfl⟩ := e1
        simp only [Eff.pure, Option.some.injEq] at he
        subst he
        obtain ⟨hb0, hb1⟩ := hob _ (List.mem_singleton.2 rfl)
        obtain ⟨_, _, _, _, ad, cap, hex, _, _, hlo, hhi, hcap, hmax, _⟩ := view_inv h hv hy
        rw [hex] at hy
        have hl := hz.int_inv
        have hr := run_cut (P := P) (a := a) (w := w) (l := l.toNat) (h := h0 - l0) (m := cap) ho hu hT hex (by simp [Instr.sliceBounds, hl, run_sliceBound (P := P) w k l (h0 - l0) _ hb0 (by omega)])
        have hrep := rep_view h hv hy (l := l.toNat) (k := h0 - l0) hown (by omega) (by omega) rfl
        rw [show l0 + (h0 - l0) = h0 by omega] at hrep
        exact ⟨rfl, ok_pure h hd hr hrep⟩
      · rename_i k l h1 h2 h3
        cases lo <;> simp at h1
        cases hi <;> simp at h2
        cases mx <;> simp at h3
        obtain ⟨p, q, e1, hy, hz⟩ := hvs.two
        simp only [List.cons.injEq, and_true] at e1
        obtain ⟨rfl, rfl⟩ := e1
        simp only [Eff.pure, Option.some.injEq] at he
        subst he
        obtain ⟨hb0, hb1⟩ := hob _ (List.mem_singleton.2 rfl)
        obtain ⟨_, _, _, _, ad, cap, hex, _, _, hlo, hhi, hcap, hmax, _⟩ := view_inv h hv hy
        rw [hex] at hy
        have hl := hz.int_inv
        have hr := run_cut (P := P) (a := a) (w := w) (l := 0) (h := l.toNat) (m := cap) ho hu hT hex (by simp [Instr.sliceBounds, hl, run_sliceBound (P := P) w k l cap _ hb0 (by omega)])
        have hrep := rep_view h hv hy (l := 0) (k := l.toNat) hown (by omega) (by omega) rfl
        rw [Nat.add_zero] at hrep
        exact ⟨rfl, ok_pure h hd hr hrep⟩
      · rename_i k l k' m' h1 h2 h3
        cases lo <;> simp at h1
        cases hi <;> simp at h2
        cases mx <;> simp at h3
        obtain ⟨p, q, u, e1, hy, hz, hz'⟩ := hvs.three
        simp only [List.cons.injEq, and_true] at e1
        obtain ⟨rfl, rfl, rfl⟩ := e1
        simp only [Eff.pure, Option.some.injEq] at he
        subst he
        obtain ⟨hb0, hb1, hb2⟩ := hob _ (List.mem_singleton.2 rfl)
        obtain ⟨_, _, _, _, ad, cap, hex, _, _, hlo, hhi, hcap, hmax, _⟩ := view_inv h hv hy
        rw [hex] at hy
        have hl := hz.int_inv
        have hl' := hz'.int_inv
        have hr := run_cut (P := P) (a := a) (w := w) (l := l.toNat) (h := m'.toNat) (m := cap) ho hu hT hex (by simp [Instr.sliceBounds, hl, hl', run_sliceBound (P := P) w k l m'.toNat _ hb0 (by omega), run_sliceBound (P := P) w k' m' cap _ (by omega) (by omega)])
        have hrep := rep_view h hv hy (l := l.toNat) (k := m'.toNat) hown (by omega) (by omega) rfl
        exact ⟨rfl, ok_pure h hd hr hrep⟩
      · simp at he
  · simp at he
end
end Go.Proofs.Ytcpopeamoipjlaa
