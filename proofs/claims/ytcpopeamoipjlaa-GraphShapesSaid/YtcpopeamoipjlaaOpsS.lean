/-
  The operations on rows that may be written, in the store.
-/
import Derived.Test.YtcpopeamoipjlaaOpsI
namespace Go.Proofs.Ytcpopeamoipjlaa
open Go Go.RowKit
set_option linter.unusedVariables false

section
variable {P : Program} {Γ : Env} {σ : Sto} {I : Nat → Nat → Prop} {θ : Nat → Option (Nat × Nat)} {a : Act} {w : World} {o : Oper}

theorem appOK_inv {t t' e : TypeId} (h : appOK P t t' e = true) : t' = t ∧ ∃ i z, P.info? e = some i ∧ i.zero = some z ∧ z.cells.size = i.size ∧ i.bytes ≤ 128 ∧ szT P e = i.size := by
  simp only [appOK, Bool.and_eq_true] at h
  obtain ⟨⟨⟨⟨⟨htt, hT⟩, hs1⟩, hby⟩, hzz⟩, hzs⟩ := h
  obtain rfl := Nat.eq_of_beq_eq_true htt
  obtain ⟨i, dd, hi, _, hsi⟩ := hasT_inv hT
  obtain ⟨z, hz⟩ := Option.isSome_iff_exists.1 hzz
  simp only [hi, Option.bind_some] at hz
  simp only [hi, Option.map_some, Option.getD_some, Option.bind_some, hz] at hby hzs
  have hzq := Nat.eq_of_beq_eq_true hzs
  rw [hsi] at hzq
  exact ⟨rfl, i, z, hi, hz, hzq, Nat.le_of_ble_eq_true hby, hsi⟩

theorem args_one {xs : Array Operand} {ts : Array TypeId} {b : Go.Builtin} (ho : o.op = .call { callee := .builtin b, args := xs, argTypes := ts }) {u : AV} (hvs : RepL I σ.own θ w (o.op.operands.toList.map a.eval) [u]) :
    ∃ x, xs.toList = [x] ∧ Rep I σ.own θ w (a.eval x) u := by
  have : o.op.operands.toList.map a.eval = xs.toList.map a.eval := by rw [ho]; simp [Op.operands, Call.operands]
  rw [this] at hvs
  cases hl : xs.toList with
  | nil => rw [hl] at hvs; cases hvs
  | cons x l =>
    rw [hl] at hvs
    cases hvs with | cons h t => cases l with
      | nil => exact ⟨x, rfl, h⟩
      | cons _ _ => cases t
theorem args_two {xs : Array Operand} {ts : Array TypeId} {b : Go.Builtin} (ho : o.op = .call { callee := .builtin b, args := xs, argTypes := ts }) {u v : AV} (hvs : RepL I σ.own θ w (o.op.operands.toList.map a.eval) [u, v]) :
    ∃ x y, xs.toList = [x, y] ∧ Rep I σ.own θ w (a.eval x) u ∧ Rep I σ.own θ w (a.eval y) v := by
  have : o.op.operands.toList.map a.eval = xs.toList.map a.eval := by rw [ho]; simp [Op.operands, Call.operands]
  rw [this] at hvs
  cases hl : xs.toList with
  | nil => rw [hl] at hvs; cases hvs
  | cons x l =>
    rw [hl] at hvs
    cases hvs with | cons h t => cases l with
      | nil => cases t
      | cons y l => cases t with | cons h2 t2 => cases l with
        | nil => exact ⟨x, y, rfl, h, h2⟩
        | cons _ _ => cases t2

theorem asemR_sound (h : Rel Γ σ I θ a w) (hd : ∀ d, o.dst = some d → d < Γ.n) {vs : List AV} (hvs : RepL I σ.own θ w (o.op.operands.toList.map a.eval) vs) {es : List (Option Own)} (hes : es = (needs o vs).map σ.own) {hint : Bool}
    {e : Eff} (he : asemR P hint o vs es = some e) (hob : ∀ p ∈ e.ob, p) : OpOK P Γ σ o a w e.v e.wo := by
  unfold asemR at he
  split at he
  · -- load
    rename_i t x nm n i j sz e0 m f ho
    simp only [ho, Op.operands, List.map_cons, List.map_nil] at hvs
    obtain ⟨u, hu', hu⟩ := hvs.one
    simp only [List.cons.injEq, and_true] at hu'
    subst hu'
    have hown : σ.own nm = some (.arr sz e0 m f) := by simpa [needs, ho] using hes.symm
    cases hT : hasT P t with
    | false => simp [hT] at he
    | true =>
      simp only [hT, cond_true] at he
      cases hagg : isAggT P t with
      | true =>
        simp only [hagg, cond_true] at he
        cases hb : Nat.ble (j + szT P t) sz with
        | false => simp [hb] at he
        | true =>
          simp only [hb, cond_true, Eff.pure, Option.some.injEq] at he
          subst he
          exact (ok_load_arr (P := P) h hd ho hT hu hown (hob _ (by simp))).1 hagg (Nat.le_of_ble_eq_true hb)
      | false =>
        simp only [hagg, cond_false] at he
        cases hb : Nat.blt j sz with
        | false => simp [hb] at he
        | true =>
          simp only [hb, cond_true, Eff.pure, Option.some.injEq] at he
          subst he
          exact (ok_load_arr (P := P) h hd ho hT hu hown (hob _ (by simp))).2 hagg (by simpa [Nat.blt_eq] using hb)
  · -- store
    rename_i t x y nm n i j z sz e0 m f ho
    simp only [ho, Op.operands, List.map_cons, List.map_nil] at hvs
    obtain ⟨u, v, hu', hu, hv⟩ := hvs.two
    simp only [List.cons.injEq, and_true] at hu'
    obtain ⟨rfl, rfl⟩ := hu'
    have hown : σ.own nm = some (.arr sz e0 m f) := by simpa [needs, ho] using hes.symm
    split at he
    · rename_i cs hc
      cases hb : (hasT P t && Nat.beq cs.length (szT P t) && Nat.ble (j + cs.length) sz) with
      | false => simp [hb] at he
      | true =>
        simp only [hb, cond_true, Option.some.injEq] at he
        subst he
        simp only [Bool.and_eq_true] at hb
        exact ok_store_arr h hd ho hb.1.1 hu hv hown (hob _ (by simp)) hc (Nat.eq_of_beq_eq_true hb.1.2) (Nat.le_of_ble_eq_true hb.2)
    · simp at he
  · -- fieldAddr
    rename_i s x k nm n i j ho
    simp only [ho, Op.operands, List.map_cons, List.map_nil] at hvs
    obtain ⟨u, hu', hu⟩ := hvs.one
    simp only [List.cons.injEq, and_true] at hu'
    subst hu'
    split at he
    · rename_i fields hs
      split at he
      · rename_i fd hf
        cases hb : (hasT P fd.type && Nat.ble 1 (szT P fd.type)) with
        | false => simp [hb] at he
        | true =>
          simp only [hb, cond_true, Eff.pure, Option.some.injEq] at he
          subst he
          simp only [Bool.and_eq_true] at hb
          exact ok_fieldAddr_arr h hd ho hs hf hb.1 (Nat.le_of_ble_eq_true hb.2) hu
      · simp at he
    · simp at he
  · -- indexAddr
    rename_i t x y nm n k i sz e0 m f ho
    simp only [ho, Op.operands, List.map_cons, List.map_nil] at hvs
    obtain ⟨u, v, hu', hu, hv⟩ := hvs.two
    simp only [List.cons.injEq, and_true] at hu'
    obtain ⟨rfl, rfl⟩ := hu'
    have hown : σ.own nm = some (.arr sz e0 m f) := by simpa [needs, ho] using hes.symm
    split at he
    · rename_i e1 hun
      cases hb : (hasT P e1 && Nat.beq sz (szT P e1)) with
      | false => simp [hb] at he
      | true =>
        simp only [hb, cond_true, Eff.pure, Option.some.injEq] at he
        subst he
        simp only [Bool.and_eq_true] at hb
        exact ok_index_arr h hd ho hun hb.1 hu hv (hob _ (by simp)) ⟨sz, e0, m, f, hown, Nat.eq_of_beq_eq_true hb.2⟩
    · simp at he
  · -- indexAddr of a part
    rename_i t x y nm n lo hi k i sz e0 m f ho
    simp only [ho, Op.operands, List.map_cons, List.map_nil] at hvs
    obtain ⟨u, v, hu', hu, hv⟩ := hvs.two
    simp only [List.cons.injEq, and_true] at hu'
    obtain ⟨rfl, rfl⟩ := hu'
    have hown : σ.own nm = some (.arr sz e0 m f) := by simpa [needs, ho] using hes.symm
    split at he
    · rename_i e1 hun
      cases hb : (hasT P e1 && Nat.beq sz (szT P e1)) with
      | false => simp [hb] at he
      | true =>
        simp only [hb, cond_true, Eff.pure, Option.some.injEq] at he
        subst he
        simp only [Bool.and_eq_true] at hb
        exact ok_index_view h hd ho hun hb.1 hu hv (hob _ (by simp)) hown (Nat.eq_of_beq_eq_true hb.2)
    · simp at he
  · -- a part of a row
    rename_i t y lo hi mx x vs' sz e0 m f ho
    split at he
    · rename_i e1 hun
      cases hb : Nat.beq sz (szT P e1) with
      | false => simp [hb] at he
      | true =>
        simp only [hb, cond_true] at he
        have hs := Nat.eq_of_beq_eq_true hb
        have hvs' : RepL I σ.own θ w ([a.eval y] ++ (lo.map a.eval).toList ++ (hi.map a.eval).toList ++ (mx.map a.eval).toList) (x :: vs') := by
          have : o.op.operands.toList.map a.eval = [a.eval y] ++ (lo.map a.eval).toList ++ (hi.map a.eval).toList ++ (mx.map a.eval).toList := by
            rw [ho]; cases lo <;> cases hi <;> cases mx <;> simp [Op.operands]
          rwa [this] at hvs
        obtain ⟨h1, h2⟩ := ok_view h hd ho hun hvs' he hob (fun nm n l0 h0 hv => by
          have : needs o (x :: vs') = [nm] := by
            cases x <;> simp [AV.view] at hv
            · obtain ⟨rfl, rfl, rfl, rfl⟩ := hv; simp [needs, ho]
            · obtain ⟨rfl, rfl, rfl, rfl⟩ := hv; simp [needs, ho]
          rw [this] at hes
          simp at hes
          exact ⟨sz, e0, m, f, hes.symm, hs⟩)
        rw [h1]
        exact h2
    · simp at he
  · -- copy
    rename_i xs ts x y ho
    unfold aCopy at he
    split at he
    · rename_i t t' nm n lo hi hts hview
      split at he
      · rename_i e1 sz e0 m f es' hun
        cases hb : (hasT P e1 && Nat.beq sz (szT P e1)) with
        | false => simp [hb] at he
        | true =>
          simp only [hb, cond_true] at he
          simp only [Bool.and_eq_true] at hb
          have hs := Nat.eq_of_beq_eq_true hb.2
          obtain ⟨p, q, hx, hu, hv⟩ := args_two ho hvs
          obtain rfl : ts = #[t, t'] := by apply Array.ext'; simpa using hts
          obtain rfl : xs = #[p, q] := by apply Array.ext'; simpa using hx
          have hneed : needs o [x, y] = [nm] ++ viewNeed y := by simp [needs, ho, viewNeed, hview]
          rw [hneed] at hes
          simp only [List.cons_append, List.nil_append, List.map_cons, List.cons.injEq] at hes
          obtain ⟨hown, hes'⟩ := hes
          have hown := hown.symm
          split at he
          · rename_i nm' n' lo' hi' sz' e2 m' f' hview'
            cases hb2 : Nat.beq sz' sz with
            | false => simp [hb2] at he
            | true =>
              simp only [hb2, cond_true, Option.some.injEq] at he
              subst he
              obtain rfl := Nat.eq_of_beq_eq_true hb2
              simp [viewNeed, hview'] at hes'
              have hes' := hes'.symm
              obtain ⟨_, _, _, _, ad', cap', hey, _⟩ := view_inv h hview' hv
              obtain ⟨cs, hsrc⟩ := src_view (P := P) (k := Nat.min (hi' - lo') (hi - lo)) h hview' hv hes' (hob _ (by simp)) (Nat.min_le_left _ _)
              exact ok_copy h hd ho hun hb.1 hview hu hown (hob _ (by simp)) hs hey hsrc
          · split at he
            · rename_i sz' n' f' tag _
              cases hb2 : (Nat.beq sz' sz || Nat.beq n' 0) with
              | false => simp [hb2] at he
              | true =>
                simp only [hb2, cond_true, Option.some.injEq] at he
                subst he
                have hval := hv.slice_val
                obtain ⟨_, ad', cap', us, hey, _⟩ := hval.slice_inv
                obtain ⟨cs, hsrc⟩ := src_val (P := P) (σ := σ) (θ := θ) (sz := sz) (k := Nat.min n' (hi - lo)) (Nat.min_le_left _ _) (szor hb2) hval
                exact ok_copy h hd ho hun hb.1 hview hu hown (hob _ (by simp)) hs hey hsrc
            · simp at he
          · simp at he
      · simp at he
    · simp at he
  · -- nilCheck
    rename_i x nm n i j ho
    simp only [ho, Op.operands, List.map_cons, List.map_nil] at hvs
    obtain ⟨u, hu', hu⟩ := hvs.one
    simp only [List.cons.injEq, and_true] at hu'
    subst hu'
    simp only [Eff.pure, Option.some.injEq] at he
    subst he
    obtain ⟨_, _, _, _, ad, hv, _⟩ := hu.vpt_inv
    exact ok_pure h hd (v := a.eval x) (by simp [execOp, ho, hv]) hu
  · -- nilCheck of a function value
    rename_i x f xs ys ho
    simp only [ho, Op.operands, List.map_cons, List.map_nil] at hvs
    obtain ⟨u, hu', hu⟩ := hvs.one
    simp only [List.cons.injEq, and_true] at hu'
    subst hu'
    simp only [Eff.pure, Option.some.injEq] at he
    subst he
    obtain ⟨_, _, hv, _⟩ := hu.clo_inv
    exact ok_pure h hd (v := a.eval x) (by simp [execOp, ho, hv]) hu
  · -- makeFunc
    rename_i vs es0 x0 vs0 es1 f first captured ho
    cases hb : Nat.beq vs.length (first.toList.length + captured.toList.length) with
    | false => rw [hb] at he; simp at he
    | true =>
      have hlen := Nat.eq_of_beq_eq_true hb
      simp only [hb, cond_true, Eff.pure, Option.some.injEq] at he
      subst he
      have e1 : o.op.operands.toList.map a.eval = first.toList.map a.eval ++ captured.toList.map a.eval := by rw [ho]; simp [Op.operands]
      rw [e1] at hvs
      have hget : ∀ {l : List Value} {m : List AV}, RepL I σ.own θ w l m → ∀ j, j < m.length → Rep I σ.own θ w (l.getD j undef) (m.getD j .any) := by
        intro l m h
        induction h with
        | nil => intro j hj; simp at hj
        | cons h _ ih => intro j hj; cases j with
          | zero => simpa using h
          | succ j => simpa using ih j (by simpa using hj)
      have hg := hget hvs
      refine ok_pure h hd (v := .func (.func f) (first.map a.eval) (captured.map a.eval)) (by simp [execOp, ho, Instr.makeFunc]) (.clo f _ _ _ _ (by simp at hlen ⊢; omega) (by simp at hlen ⊢; omega) (fun j hj => ?_) (fun j hj => ?_))
      · simp only [List.length_take] at hj
        have := hg j (by omega)
        have hj1 : j < first.size := by simp at hj; omega
        have e2 : (first.toList.map a.eval ++ captured.toList.map a.eval).getD j undef = (first.map a.eval).getD j undef := by
          rw [List.getD, List.getElem?_append_left (by simpa using hj1)]
          simp [Array.getD, hj1, List.getD]
        rw [e2] at this
        have hj2 : j < first.toList.length := by simpa using hj1
        rw [show (vs.take first.toList.length).getD j .any = vs.getD j .any by simp [List.getD, List.getElem?_take, hj1]]
        exact this
      · simp only [List.length_drop] at hj
        have := hg (first.toList.length + j) (by omega)
        have hj1 : j < captured.size := by simp at hj hlen; omega
        have e2 : (first.toList.map a.eval ++ captured.toList.map a.eval).getD (first.toList.length + j) undef = (captured.map a.eval).getD j undef := by
          rw [List.getD, List.getElem?_append_right (by simp)]
          simp [Array.getD, hj1, List.getD]
        rw [e2] at this
        rw [show (vs.drop first.toList.length).getD j .any = vs.getD (first.toList.length + j) .any by simp [List.getD, List.getElem?_drop]]
        exact this
  · -- makeSlice
    rename_i t x y k l k' c ho
    simp only [ho, Op.operands, List.map_cons, List.map_nil] at hvs
    obtain ⟨u, v, hu', hu, hv⟩ := hvs.two
    simp only [List.cons.injEq, and_true] at hu'
    obtain ⟨rfl, rfl⟩ := hu'
    split at he
    · rename_i d e0 hdst hun
      have hown : σ.own d = none := by simpa [needs, ho, hdst] using hes.symm
      split at he
      · rename_i z hz
        cases hb : (hasT P e0 && Nat.ble 1 (szT P e0) && Nat.beq z.length (szT P e0) && Nat.ble (((P.info? e0).map (·.bytes)).getD 1000) 128) with
        | false => simp [hb] at he
        | true =>
          simp only [hb, cond_true, Option.some.injEq] at he
          subst he
          simp only [Bool.and_eq_true] at hb
          exact ok_make h hd ho hun hb.1.1.1 hu hv hdst hown hz (Nat.le_of_ble_eq_true hb.1.1.2) (Nat.eq_of_beq_eq_true hb.1.2) (Nat.le_of_ble_eq_true hb.2) (hob _ (by simp))
      · simp at he
    · simp at he
  · -- len
    rename_i xs ts nm n ho
    split at he
    · rename_i t hts
      split at he
      · rename_i e0 hun
        simp only [Eff.pure, Option.some.injEq] at he
        subst he
        obtain ⟨x, hx, hu⟩ := args_one ho hvs
        obtain ⟨_, _, _, _, ad, cap, he, _⟩ := hu.vsl_inv
        obtain rfl : xs = #[x] := by apply Array.ext'; simpa using hx
        obtain rfl : ts = #[t] := by apply Array.ext'; simpa using hts
        exact ok_pure h hd (v := .int .i64 n) (by simp [execOp, ho, resolve, invoke, builtin, Builtin.len_, he, run_underlying hun, goInt]) (.val _ _ (.int _ _))
      · simp at he
    · simp at he
  · -- len of a part
    rename_i xs ts nm n lo hi ho
    split at he
    · rename_i t hts
      split at he
      · rename_i e0 hun
        simp only [Eff.pure, Option.some.injEq] at he
        subst he
        obtain ⟨x, hx, hu⟩ := args_one ho hvs
        obtain ⟨_, _, _, _, ad, cap, he, _⟩ := hu.vsub_inv
        obtain rfl : xs = #[x] := by apply Array.ext'; simpa using hx
        obtain rfl : ts = #[t] := by apply Array.ext'; simpa using hts
        exact ok_pure h hd (v := .int .i64 (hi - lo : Nat)) (by simp [execOp, ho, resolve, invoke, builtin, Builtin.len_, he, run_underlying hun, goInt]) (.val _ _ (.int _ _))
      · simp at he
    · simp at he
  · -- append to such a row
    rename_i xs ts nm n sz' n' f' tag' sz0 e0 m f ho
    have hown : σ.own nm = some (.arr sz0 e0 m f) := by simpa [needs, ho] using hes.symm
    split at he
    · rename_i t t' hts
      split at he
      · rename_i e1 hun
        cases hb : (appOK P t t' e1 && (Nat.beq sz' (szT P e1) || Nat.beq n' 0) && Nat.beq sz0 (szT P e1) && Nat.beq e0 e1) with
        | false => simp [hb] at he
        | true =>
          simp only [hb, cond_true, Option.some.injEq] at he
          subst he
          simp only [Bool.and_eq_true] at hb
          obtain ⟨⟨⟨hok, hsz'⟩, hsz0⟩, he0⟩ := hb
          obtain ⟨rfl, i, z, hi, hz, hzq, hby, hsi⟩ := appOK_inv hok
          obtain rfl := Nat.eq_of_beq_eq_true he0
          have hsz0 := Nat.eq_of_beq_eq_true hsz0
          rw [hsi] at hsz0 hsz'
          subst hsz0
          obtain ⟨x, y, hx, hu, hv⟩ := args_two ho hvs
          have hnm : n = m := hob _ (by simp)
          have hroom : n + n' ≤ room := hob _ (by simp)
          subst hnm
          have hV' := repV_sz0 hv.slice_val (szor hsz')
          obtain rfl : ts = #[t', t'] := by apply Array.ext'; simpa using hts
          obtain rfl : xs = #[x, y] := by apply Array.ext'; simpa using hx
          obtain ⟨v', w', θ', hr, hk, hrep⟩ := append_arr_core (P := P) h o.type hun hi hz hzq hby hV' hroom nm (.inr ⟨hown, hu⟩)
          exact ok_chg (w' := w') h hd (v := v') (by simp [execOp, ho, resolve, invoke, builtin, hr]) (by rw [upd_one]; exact hk) (by rw [upd_one]; exact hrep)
      · simp at he
    · simp at he
  · -- append to nothing
    rename_i xs ts sz n f sz' n' f' tag' ho
    split at he
    · rename_i t t' d hts hdst
      have hown : σ.own d = none := by simpa [needs, ho, hdst] using hes.symm
      split at he
      · rename_i e1 hun
        cases hb : (hint && appOK P t t' e1 && (Nat.beq sz' (szT P e1) || Nat.beq n' 0) && Nat.beq n 0) with
        | false => simp [hb] at he
        | true =>
          simp only [hb, cond_true, Option.some.injEq] at he
          subst he
          simp only [Bool.and_eq_true] at hb
          obtain ⟨⟨⟨_, hok⟩, hsz'⟩, hn0⟩ := hb
          obtain ⟨rfl, i, z, hi, hz, hzq, hby, hsi⟩ := appOK_inv hok
          obtain rfl := Nat.eq_of_beq_eq_true hn0
          rw [hsi] at hsz'
          obtain ⟨x, y, hx, hu, hv⟩ := args_two ho hvs
          have hroom : n' ≤ room := hob _ (by simp)
          have hV' := repV_sz0 hv.slice_val (szor hsz')
          obtain rfl : ts = #[t', t'] := by apply Array.ext'; simpa using hts
          obtain rfl : xs = #[x, y] := by apply Array.ext'; simpa using hx
          obtain ⟨ad, hvx⟩ := hu.exact_inv
          obtain ⟨v', w', θ', hr, hk, hrep⟩ := append_arr_core (P := P) (f := f') h o.type hun hi hz hzq hby hV' (n := 0) (by omega) d (.inl ⟨hown, rfl, ad, hvx⟩)
          have e1 : appF 0 f' f' = f' := by funext k; rw [appF_ge _ _ (Nat.zero_le _)]; rfl
          rw [e1, Nat.zero_add] at hk
          rw [e1, Nat.zero_add] at hrep
          rw [hsi]
          exact ok_chg (w' := w') h hd (v := v') (by simp [execOp, ho, resolve, invoke, builtin, hr]) (by rw [upd_one]; exact hk) (by rw [upd_one]; exact hrep)
      · simp at he
    · simp at he
  · simp at he

theorem asemX_sound (h : Rel Γ σ I θ a w) (hd : ∀ d, o.dst = some d → d < Γ.n) {vs : List AV} (hvs : RepL I σ.own θ w (o.op.operands.toList.map a.eval) vs) {es : List (Option Own)} (hes : es = (needs o vs).map σ.own) {hint : Bool}
    {e : Eff} (he : asemX P hint o vs es = some e) (hob : ∀ p ∈ e.ob, p) : OpOK P Γ σ o a w e.v e.wo := by
  unfold asemX at he
  split at he
  · rename_i e' he'
    simp only [Option.some.injEq] at he
    subst he
    exact asemR_sound h hd hvs hes he' hob
  · split at he
    · rename_i e' he'
      simp only [Option.some.injEq] at he
      subst he
      exact asemI_sound h hd hvs hes he' hob
    · exact asem_sound h hd hvs hes he hob
end
end Go.Proofs.Ytcpopeamoipjlaa
