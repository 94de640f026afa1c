/-
  Every operation does what is told of it.
-/
import Derived.Test.YtcpopeamoipjlaaOpsG
namespace Go.Proofs.Ytcpopeamoipjlaa
open Go Go.RowKit

section
variable {P : Program} {Γ : Env} {σ : Sto} {I : Nat → Nat → Prop} {θ : Nat → Option (Nat × Nat)} {a : Act} {w : World} {o : Oper}

theorem partsOK : ∀ (ps : List (Nat × Operand)) (vs : List AV), RepL I σ.own θ w (ps.map fun p => a.eval p.2) vs → PartsOK I σ.own θ w (ps.map fun p => (p.1, a.eval p.2)) ((ps.map (·.1)).zip vs)
  | [], _, h => by cases h; exact .nil
  | p :: ps, _, h => by cases h with | cons h t => exact .cons h (partsOK ps _ t)

theorem eq_sing {α : Type} {xs : Array α} {x : α} (h : xs.toList = [x]) : xs = #[x] := by apply Array.ext'; simpa using h

theorem asem_sound (h : Rel Γ σ I θ a w) (hd : ∀ d, o.dst = some d → d < Γ.n) {vs : List AV} (hvs : RepL I σ.own θ w (o.op.operands.toList.map a.eval) vs) {es : List (Option Own)} (hes : es = (needs o vs).map σ.own)
    {e : Eff} (he : asem P o vs es = some e) (hob : ∀ p ∈ e.ob, p) : OpOK P Γ σ o a w e.v e.wo := by
  unfold asem at he
  split at he
  · -- move
    rename_i x ho
    simp only [ho, Op.operands, List.map_cons, List.map_nil] at hvs
    obtain ⟨y, rfl, hy⟩ := hvs.one
    simp only [Eff.pure, Option.some.injEq] at he
    subst he
    exact ok_move h hd x (.inl ho) hy
  · rename_i x ho
    simp only [ho, Op.operands, List.map_cons, List.map_nil] at hvs
    obtain ⟨y, rfl, hy⟩ := hvs.one
    simp only [Eff.pure, Option.some.injEq] at he
    subst he
    exact ok_move h hd x (.inr ho) hy
  · -- binOp
    rename_i op xt x y yt ho
    simp only [ho, Op.operands, List.map_cons, List.map_nil] at hvs
    obtain ⟨u, v, rfl, hu, hv⟩ := hvs.two
    obtain ⟨hw, r, hr, hrun⟩ := aBinT_sound (P := P) he hob hu hv x y
    rw [hw]
    refine ok_pure h hd (v := r) ?_ (.val _ _ hr)
    simp only [Sem.run_bind] at hrun
    simp only [execOp, ho, Sem.run_bind, Sem.run_pure]
    rw [hrun]
    rfl
  · rename_i op xt x ho
    simp only [ho, Op.operands, List.map_cons, List.map_nil] at hvs
    obtain ⟨u, rfl, hu⟩ := hvs.one
    obtain ⟨hw, r, hr, hrun⟩ := aUn_sound (P := P) he hu
    rw [hw]
    refine ok_pure h hd (v := r) ?_ (.val _ _ hr)
    simp only [execOp, ho, Sem.run_bind, Sem.run_pure, hrun, Result.andThen_ok]
  · -- convert
    rename_i src dst x ho
    simp only [ho, Op.operands, List.map_cons, List.map_nil] at hvs
    obtain ⟨u, rfl, hu⟩ := hvs.one
    split at he
    · rename_i k0 k k' n hs ht hv
      simp only [List.cons.injEq, and_true] at hv
      subst hv
      simp only [Eff.pure, Option.some.injEq] at he
      subst he
      exact ok_convert_int h hd ho hs ht hu
    · rename_i s hs ht hv
      simp only [List.cons.injEq, and_true] at hv
      subst hv
      simp only [Eff.pure, Option.some.injEq] at he
      subst he
      exact ok_convert_str h hd ho hs ht hu
    · rename_i e0 sz n f tag hs ht hv
      simp only [List.cons.injEq, and_true] at hv
      subst hv
      cases hb : (u8T P e0 && (Nat.beq sz 1 || Nat.beq n 0)) with
      | false => simp [hb] at he
      | true =>
        simp only [hb, cond_true, Eff.pure, Option.some.injEq] at he
        subst he
        simp only [Bool.and_eq_true, Bool.or_eq_true] at hb
        obtain ⟨hb1, hb2⟩ := hb
        have hu8 : P.underlying e0 = some (.int .u8) := by
          unfold u8T at hb1
          split at hb1
          · assumption
          · simp at hb1
        exact ok_convert_bytes h hd ho hs ht hu8 (hb2.imp Nat.eq_of_beq_eq_true Nat.eq_of_beq_eq_true) (hob _ (by simp)) hu
    · simp at he
  · -- load
    rename_i t x ho
    simp only [ho, Op.operands, List.map_cons, List.map_nil] at hvs
    obtain ⟨u, rfl, hu⟩ := hvs.one
    cases hT : hasT P t with
    | false => simp [hT] at he
    | true =>
      simp only [hT, cond_true] at he
      split at he
      · rename_i nm off e0 cells hv
        simp only [List.cons.injEq, and_true] at hv
        subst hv
        have hown : σ.own nm = some (.row e0 cells) := by simpa [needs, ho] using hes.symm
        obtain ⟨l1, l2⟩ := ok_load_row (P := P) h hd ho hT hu hown
        cases hagg : isAggT P t with
        | true =>
          simp only [hagg, cond_true] at he
          cases hb : Nat.ble (off + szT P t) cells.length with
          | false => simp [hb] at he
          | true =>
            simp only [hb, cond_true, Eff.pure, Option.some.injEq] at he
            subst he
            exact l1 hagg (Nat.le_of_ble_eq_true hb)
        | false =>
          simp only [hagg, cond_false] at he
          cases hb : Nat.blt off cells.length with
          | false => simp [hb] at he
          | true =>
            simp only [hb, cond_true, Eff.pure, Option.some.injEq] at he
            subst he
            exact l2 hagg (by simpa [Nat.blt_eq] using hb)
      · rename_i cells hv
        simp only [List.cons.injEq, and_true] at hv
        subst hv
        obtain ⟨l1, l2⟩ := ok_load_rptr (P := P) h hd ho hT hu
        cases hagg : isAggT P t with
        | true =>
          simp only [hagg, cond_true] at he
          cases hb : Nat.beq (szT P t) cells.length with
          | false => simp [hb] at he
          | true =>
            simp only [hb, cond_true, Eff.pure, Option.some.injEq] at he
            subst he
            exact l1 hagg (Nat.eq_of_beq_eq_true hb)
        | false =>
          simp only [hagg, cond_false] at he
          cases hb : Nat.ble 1 cells.length with
          | false => simp [hb] at he
          | true =>
            simp only [hb, cond_true, Eff.pure, Option.some.injEq] at he
            subst he
            exact l2 hagg (Nat.le_of_ble_eq_true hb)
      · simp at he
  · -- store
    rename_i t x y ho
    simp only [ho, Op.operands, List.map_cons, List.map_nil] at hvs
    obtain ⟨u, v, rfl, hu, hv⟩ := hvs.two
    cases hT : hasT P t with
    | false => simp [hT] at he
    | true =>
      simp only [hT, cond_true] at he
      split at he
      · rename_i nm off z e0 cells hvv
        simp only [List.cons.injEq, and_true] at hvv
        obtain ⟨rfl, rfl⟩ := hvv
        have hown : σ.own nm = some (.row e0 cells) := by simpa [needs, ho] using hes.symm
        split at he
        · rename_i cs hc
          cases hb : (Nat.beq cs.length (szT P t) && Nat.ble (off + cs.length) cells.length) with
          | false => simp [hb] at he
          | true =>
            simp only [hb, cond_true, Option.some.injEq] at he
            subst he
            simp only [Bool.and_eq_true] at hb
            exact ok_store h hd ho hT hu hv hown hc (Nat.eq_of_beq_eq_true hb.1) (Nat.le_of_ble_eq_true hb.2)
        · simp at he
      · simp at he
  · -- fieldAddr
    rename_i s x f ho
    simp only [ho, Op.operands, List.map_cons, List.map_nil] at hvs
    obtain ⟨u, rfl, hu⟩ := hvs.one
    split at he
    · rename_i fields hs
      split at he
      · rename_i fd hf
        cases hb : (hasT P fd.type && Nat.ble 1 (szT P fd.type)) with
        | false => simp [hb] at he
        | true =>
          simp only [hb, cond_true] at he
          simp only [Bool.and_eq_true] at hb
          obtain ⟨l1, l2⟩ := ok_fieldAddr (P := P) h hd ho hs hf hb.1 (Nat.le_of_ble_eq_true hb.2)
          split at he
          · rename_i nm off hv
            simp only [List.cons.injEq, and_true] at hv
            subst hv
            simp only [Eff.pure, Option.some.injEq] at he
            subst he
            exact l1 nm off hu
          · rename_i cells hv
            simp only [List.cons.injEq, and_true] at hv
            subst hv
            cases hb2 : Nat.ble (fd.offset + szT P fd.type) cells.length with
            | false => simp [hb2] at he
            | true =>
              simp only [hb2, cond_true, Eff.pure, Option.some.injEq] at he
              subst he
              exact l2 cells hu (Nat.le_of_ble_eq_true hb2)
          · simp at he
      · simp at he
    · simp at he
  · -- field
    rename_i s x f ho
    simp only [ho, Op.operands, List.map_cons, List.map_nil] at hvs
    obtain ⟨u, rfl, hu⟩ := hvs.one
    split at he
    · rename_i fields cs hs hv
      simp only [List.cons.injEq, and_true] at hv
      subst hv
      split at he
      · rename_i fd hf
        split at he
        · rename_i y hp
          simp only [Eff.pure, Option.some.injEq] at he
          subst he
          exact ok_field h hd ho hs hf hu hp
        · simp at he
      · simp at he
    · simp at he
  · -- indexAddr
    rename_i t x i ho
    simp only [ho, Op.operands, List.map_cons, List.map_nil] at hvs
    obtain ⟨u, v, rfl, hu, hv⟩ := hvs.two
    split at he
    · rename_i e0 sz n f tag k j hun hvv
      simp only [List.cons.injEq, and_true] at hvv
      obtain ⟨rfl, rfl⟩ := hvv
      cases hb : (hasT P e0 && (Nat.beq sz (szT P e0) || Nat.beq n 0)) with
      | false => simp [hb] at he
      | true =>
        simp only [hb, cond_true, Eff.pure, Option.some.injEq] at he
        subst he
        simp only [Bool.and_eq_true] at hb
        exact ok_index_slice h hd ho hun hb.1 hu hv (szor (by simpa using hb.2)) (hob _ (by simp))
    · rename_i len e0 nm off k j hun hvv
      simp only [List.cons.injEq, and_true] at hvv
      obtain ⟨rfl, rfl⟩ := hvv
      cases hb : hasT P e0 with
      | false => simp [hb] at he
      | true =>
        simp only [hb, cond_true, Eff.pure, Option.some.injEq] at he
        subst he
        exact (ok_index_array (P := P) h hd ho hun hb hv (hob _ (by simp))).1 nm off hu
    · rename_i len e0 cells k j hun hvv
      simp only [List.cons.injEq, and_true] at hvv
      obtain ⟨rfl, rfl⟩ := hvv
      cases hb : (hasT P e0 && Nat.beq cells.length (len * szT P e0)) with
      | false => simp [hb] at he
      | true =>
        simp only [hb, cond_true, Eff.pure, Option.some.injEq] at he
        subst he
        simp only [Bool.and_eq_true] at hb
        exact (ok_index_array (P := P) h hd ho hun hb.1 hv (hob _ (by simp))).2 cells hu (Nat.eq_of_beq_eq_true hb.2)
    · simp at he
  · -- index
    rename_i t x i ho
    simp only [ho, Op.operands, List.map_cons, List.map_nil] at hvs
    obtain ⟨u, v, rfl, hu, hv⟩ := hvs.two
    split at he
    · rename_i len e0 cs k j hun hvv
      simp only [List.cons.injEq, and_true] at hvv
      obtain ⟨rfl, rfl⟩ := hvv
      cases hb : (hasT P e0 && !isAggT P e0 && Nat.beq (szT P e0) 1 && Nat.beq cs.length len) with
      | false => simp [hb] at he
      | true =>
        simp only [hb, cond_true, Eff.pure, Option.some.injEq] at he
        subst he
        simp only [Bool.and_eq_true, Bool.not_eq_true'] at hb
        exact ok_index_value h hd ho hun hb.1.1.1 hb.1.1.2 (Nat.eq_of_beq_eq_true hb.1.2) (Nat.eq_of_beq_eq_true hb.2) hv (hob _ (by simp)) hu
    · rename_i s0 k j hun hvv
      simp only [List.cons.injEq, and_true] at hvv
      obtain ⟨rfl, rfl⟩ := hvv
      simp only [Eff.pure, Option.some.injEq] at he
      subst he
      exact ok_index_str h hd ho hun hv (hob _ (by simp)) hu
    · simp at he
  · -- extract
    rename_i x ix ho
    simp only [ho, Op.operands, List.map_cons, List.map_nil] at hvs
    obtain ⟨u, rfl, hu⟩ := hvs.one
    split at he
    · rename_i xs hv
      simp only [List.cons.injEq, and_true] at hv
      subst hv
      cases hb : Nat.blt ix xs.length with
      | false => simp [hb] at he
      | true =>
        simp only [hb, cond_true, Eff.pure, Option.some.injEq] at he
        subst he
        exact ok_extract h hd ho hu (by simpa [Nat.blt_eq] using hb)
    · simp at he
  · -- nilCheck
    rename_i x ho
    simp only [ho, Op.operands, List.map_cons, List.map_nil] at hvs
    obtain ⟨u, rfl, hu⟩ := hvs.one
    split at he
    · rename_i nm off hv
      simp only [List.cons.injEq, and_true] at hv
      subst hv
      simp only [Eff.pure, Option.some.injEq] at he
      subst he
      exact (ok_nilCheck (P := P) h hd ho).1 nm off hu
    · rename_i cs hv
      simp only [List.cons.injEq, and_true] at hv
      subst hv
      simp only [Eff.pure, Option.some.injEq] at he
      subst he
      exact (ok_nilCheck (P := P) h hd ho).2 cs hu
    · simp at he
  · -- alloc
    rename_i t ho
    split at he
    · rename_i d z hdst hz
      cases hb : hasT P t with
      | false => simp [hb] at he
      | true =>
        simp only [hb, cond_true, Option.some.injEq] at he
        subst he
        exact ok_alloc h hd hdst (by simpa [needs, ho, hdst] using hes.symm) ho hz
    · simp at he
  · -- box
    rename_i t x ho
    simp only [ho, Op.operands, List.map_cons, List.map_nil] at hvs
    obtain ⟨u, rfl, hu⟩ := hvs.one
    split at he
    · rename_i d y hdst hv
      simp only [List.cons.injEq, and_true] at hv
      subst hv
      split at he
      · rename_i cs hc
        simp only [Option.some.injEq] at he
        subst he
        exact ok_box h hd hdst (by simpa [needs, ho, hdst] using hes.symm) ho hu hc
      · simp at he
    · simp at he
  · -- build
    rename_i t parts ho
    have hvs' : RepL I σ.own θ w (parts.toList.map fun p => a.eval p.2) vs := by
      simpa [ho, Op.operands, List.map_map, Function.comp_def] using hvs
    obtain ⟨hw, hok⟩ := ok_build (P := P) h hd ho (partsOK _ _ hvs') he
    rw [hw]; exact hok
  · rename_i t len parts ho
    have hvs' : RepL I σ.own θ w (parts.toList.map fun p => a.eval p.2) vs := by
      simpa [ho, Op.operands, List.map_map, Function.comp_def] using hvs
    obtain ⟨hw, hok⟩ := ok_buildSlice (P := P) h hd ho (partsOK _ _ hvs') he
    rw [hw]; exact hok
  · -- slice
    rename_i t x lo hi mx ho
    have hvs' : RepL I σ.own θ w ([a.eval x] ++ (lo.map a.eval).toList ++ (hi.map a.eval).toList ++ (mx.map a.eval).toList) vs := by
      have e : o.op.operands.toList.map a.eval = [a.eval x] ++ (lo.map a.eval).toList ++ (hi.map a.eval).toList ++ (mx.map a.eval).toList := by
        rw [ho]; cases lo <;> cases hi <;> cases mx <;> simp [Op.operands]
      rwa [e] at hvs
    obtain ⟨hw, hok⟩ := ok_slice (P := P) h hd ho hvs' he hob
    rw [hw]; exact hok
  · -- len
    rename_i args ts ho
    split at he
    · rename_i t hts
      have hargs : ∀ u, vs = [u] → ∃ x, args.toList = [x] ∧ Rep I σ.own θ w (a.eval x) u := fun u hu => by
        subst hu
        have : o.op.operands.toList.map a.eval = args.toList.map a.eval := by rw [ho]; simp [Op.operands, Call.operands]
        rw [this] at hvs
        cases hl : args.toList with
        | nil => rw [hl] at hvs; cases hvs
        | cons x l =>
          rw [hl] at hvs
          cases hvs with | cons h t => cases l with
            | nil => exact ⟨x, rfl, h⟩
            | cons _ _ => cases t
      split at he
      · rename_i e0 sz n f tag hun
        obtain ⟨x, hx, hr⟩ := hargs _ rfl
        simp only [Eff.pure, Option.some.injEq] at he
        subst he
        exact (ok_len (P := P) h hd ho hx hts).1 _ _ _ _ _ hun hr
      · rename_i s hun
        obtain ⟨x, hx, hr⟩ := hargs _ rfl
        simp only [Eff.pure, Option.some.injEq] at he
        subst he
        exact (ok_len (P := P) h hd ho hx hts).2.1 _ hun hr
      · rename_i n e0 y hun
        obtain ⟨x, hx, hr⟩ := hargs _ rfl
        simp only [Eff.pure, Option.some.injEq] at he
        subst he
        exact (ok_len (P := P) h hd ho hx hts).2.2 _ _ hun
      · simp at he
    · simp at he
  · -- min
    rename_i args ts ho
    split at he
    · rename_i k m k' n
      simp only [Eff.pure, Option.some.injEq] at he
      subst he
      have : o.op.operands.toList.map a.eval = args.toList.map a.eval := by rw [ho]; simp [Op.operands, Call.operands]
      rw [this] at hvs
      cases hl : args.toList with
      | nil => rw [hl] at hvs; cases hvs
      | cons x l =>
        rw [hl] at hvs
        cases hvs with | cons h1 t => cases l with
          | nil => cases t
          | cons y l' => cases t with | cons h2 t' => cases l' with
            | nil => exact ok_max h hd ho hl h1 h2
            | cons _ _ => cases t'
    · simp at he
  · -- min
    rename_i args ts ho
    split at he
    · rename_i k m k' n
      simp only [Eff.pure, Option.some.injEq] at he
      subst he
      have : o.op.operands.toList.map a.eval = args.toList.map a.eval := by rw [ho]; simp [Op.operands, Call.operands]
      rw [this] at hvs
      cases hl : args.toList with
      | nil => rw [hl] at hvs; cases hvs
      | cons x l =>
        rw [hl] at hvs
        cases hvs with | cons h1 t => cases l with
          | nil => cases t
          | cons y l' => cases t with | cons h2 t' => cases l' with
            | nil => exact ok_min h hd ho hl h1 h2
            | cons _ _ => cases t'
    · simp at he
  · -- append
    rename_i args ts ho
    split at he
    · rename_i d hdst
      have : o.op.operands.toList.map a.eval = args.toList.map a.eval := by rw [ho]; simp [Op.operands, Call.operands]
      rw [this] at hvs
      cases hl : args.toList with
      | nil =>
        rw [hl] at hvs; cases hvs
        unfold aAppend at he
        split at he <;> simp_all
      | cons x l =>
        cases l with
        | nil =>
          rw [hl] at hvs
          obtain ⟨u, rfl, _⟩ := hvs.one
          unfold aAppend at he
          split at he <;> simp_all
        | cons y l' =>
          cases l' with
          | nil => rw [hl] at hvs; exact ok_append h hd ho hl hvs hes hdst he hob
          | cons z l'' =>
            rw [hl] at hvs
            cases hvs with | cons h1 t => cases t with | cons h2 t => cases t with | cons h3 t =>
            unfold aAppend at he
            split at he <;> simp_all
    · simp at he
  · simp at he
end
end Go.Proofs.Ytcpopeamoipjlaa
