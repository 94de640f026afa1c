/-
  Operations that read memory, or reckon addresses.
-/
import Derived.Test.YtcpopeamoipjlaaOpsA
import Derived.Laws.BytesString
import Derived.Laws.Cells
namespace Go.Proofs.Ytcpopeamoipjlaa
open Go Go.RowKit

theorem run_isAgg' {P : Program} {t : TypeId} (h : hasT P t = true) (w : World) : (isAgg t).run P w = .ok (isAggT P t) w := by
  obtain ⟨i, d, hi, hd, hs⟩ := hasT_inv h
  unfold isAgg isAggT
  rw [Sem.run_bind, run_underlying hd w, hd]
  cases d <;> simp

theorem getD_of {α : Type} {l : List α} {j : Nat} (d : α) (h : j < l.length) : l[j]? = some (l.getD j d) := by simp [List.getD, h]
theorem agetD_of {l : Array Value} {j : Nat} (h : j < l.size) : l[j]? = some (l.getD j undef) := by simp [Array.getD, h]
theorem drop_take_getD {α : Type} (l : List α) (o n j : Nat) (d : α) (h : j < n) : ((l.drop o).take n).getD j d = l.getD (o + j) d := by
  simp [List.getD, h, List.getElem?_drop]
theorem range_getD (n j : Nat) (f : Nat → Value) (h : j < n) : (((List.range n).map f).toArray).getD j undef = f j := by
  simp [Array.getD, h]
theorem extract_getD (vs : Array Value) (o n j : Nat) (h : j < n) : (vs.extract o (o + n)).getD j undef = vs.getD (o + j) undef := by
  simp only [Array.getD_eq_getD_getElem?, Array.getElem?_extract]
  by_cases hs : o + j < vs.size
  · rw [if_pos (by omega)]
  · rw [if_neg (by omega), Array.getElem?_eq_none (by omega)]
theorem aget_some {l : Array Value} {j : Nat} (h : j < l.size) : ∃ u, l[j]? = some u ∧ l.getD j undef = u :=
  ⟨l[j], by simp [h], by simp [Array.getD, h]⟩
theorem list_getD (n j : Nat) (f : Nat → Value) (h : j < n) : (((List.range n).map f)).getD j undef = f j := by
  simp [List.getD, h]

section
variable {P : Program} {Γ : Env} {σ : Sto} {I : Nat → Nat → Prop} {θ : Nat → Option (Nat × Nat)} {a : Act} {w : World} {o : Oper}

theorem run_loadVar_agg {t : TypeId} (ht : hasT P t = true) (hagg : isAggT P t = true) (ad : Addr) (f : Nat → Value) (h : ∀ j, j < szT P t → w.cell? (ad.add j) = some (f j)) :
    (loadVar t ad).run P w = .ok (.agg ((List.range (szT P t)).map f).toArray) w := by
  simp only [loadVar, Sem.run_bind, run_isAgg' ht, Result.andThen_ok, hagg, if_true, run_sizeOf' ht]
  rw [run_loadCells w ad (szT P t) f h]
  rfl
theorem run_loadVar_one {t : TypeId} (ht : hasT P t = true) (hagg : isAggT P t = false) (ad : Addr) (v : Value) (h : w.cell? ad = some v) :
    (loadVar t ad).run P w = .ok v w := by
  simp [loadVar, run_isAgg' ht, hagg, h]

theorem ok_load_row (h : Rel Γ σ I θ a w) (hd : ∀ d, o.dst = some d → d < Γ.n) {t : TypeId} {x : Operand} (ho : o.op = .load t x) (ht : hasT P t = true) {nm off : Nat} {cells : List AV}
    (hx : Rep I σ.own θ w (a.eval x) (.ptr nm off)) {e0 : TypeId} (hown : σ.own nm = some (.row e0 cells)) :
    (isAggT P t = true → off + szT P t ≤ cells.length → OpOK P Γ σ o a w (.agg ((cells.drop off).take (szT P t))) []) ∧
    (isAggT P t = false → off < cells.length → OpOK P Γ σ o a w (cells.getD off .any) []) := by
  obtain ⟨e', cells', g, c, ho', hg, he⟩ := hx.ptr_inv
  rw [hown] at ho'
  simp only [Option.some.injEq, Own.row.injEq] at ho'
  obtain ⟨rfl, rfl⟩ := ho'
  obtain ⟨g', c', vs, hg', hh, hsz, h1, hrep, _⟩ := h.chg.rel.row nm _ cells hown
  rw [hg] at hg'
  simp only [Option.some.injEq, Prod.mk.injEq] at hg'
  obtain ⟨rfl, rfl⟩ := hg'
  have hcell : ∀ j, j < cells.length → w.cell? ⟨g, j, none⟩ = some (vs.getD j undef) := fun j hj => by
    rw [cell_of_row w g j vs _ (0, 0) hh]
    exact agetD_of (by omega)
  refine ⟨fun hagg hle => ?_, fun hagg hlt => ?_⟩
  · have hr : (loadVar t ⟨g, off, none⟩).run P w = .ok (.agg ((List.range (szT P t)).map fun j => vs.getD (off + j) undef).toArray) w :=
      run_loadVar_agg ht hagg _ _ (fun j hj => by rw [Addr.add_lit]; exact hcell _ (by omega))
    refine ok_pure h hd (v := .agg ((List.range (szT P t)).map fun j => vs.getD (off + j) undef).toArray) ?_ ?_
    · simp only [execOp, ho, he, Instr.loadAt, Instr.sureAddr, Sem.run_bind, Sem.run_pure, Result.andThen_ok, hr]
    · refine .agg _ _ (by simp; omega) (fun j hj => ?_) (fun j hj => ?_)
      · have hj' : j < szT P t := by simp at hj; omega
        rw [range_getD _ _ _ hj']
        exact h1 _ (by omega)
      · have hj' : j < szT P t := by simp at hj; omega
        rw [range_getD _ _ _ hj', drop_take_getD _ _ _ _ _ hj']
        exact hrep _ (by omega)
  · have hr := run_loadVar_one (P := P) ht hagg ⟨g, off, none⟩ _ (hcell off hlt)
    refine ok_pure h hd (v := vs.getD off undef) ?_ (hrep off hlt)
    simp only [execOp, ho, he, Instr.loadAt, Instr.sureAddr, Sem.run_bind, Sem.run_pure, Result.andThen_ok, hr]

theorem add_none {ad : Addr} (hs : ad.spot = none) (n : Nat) : ad.add n = ⟨ad.block, ad.off + n, none⟩ := by
  cases ad with
  | mk b o s => simp only at hs; subst hs; exact Addr.add_lit b o n

theorem ok_load_rptr (h : Rel Γ σ I θ a w) (hd : ∀ d, o.dst = some d → d < Γ.n) {t : TypeId} {x : Operand} (ho : o.op = .load t x) (ht : hasT P t = true) {cells : List AV}
    (hx : Rep I σ.own θ w (a.eval x) (.rptr cells)) :
    (isAggT P t = true → szT P t = cells.length → OpOK P Γ σ o a w (.agg cells) []) ∧
    (isAggT P t = false → 1 ≤ cells.length → OpOK P Γ σ o a w (cells.getD 0 .any) []) := by
  obtain ⟨ad, us, he, hs, _, hc, h1, hrep⟩ := hx.rptr_inv
  refine ⟨fun hagg hle => ?_, fun hagg hlt => ?_⟩
  · have hr : (loadVar t ad).run P w = .ok (.agg ((List.range (szT P t)).map us).toArray) w :=
      run_loadVar_agg ht hagg _ _ (fun j hj => by rw [add_none hs]; exact hc _ (by omega))
    refine ok_pure h hd (v := .agg ((List.range (szT P t)).map us).toArray) ?_ ?_
    · simp only [execOp, ho, he, Instr.loadAt, Instr.sureAddr, Sem.run_bind, Sem.run_pure, Result.andThen_ok, hr]
    · refine .val _ _ (.agg _ _ (by simp; omega) (fun j hj => ?_) (fun j hj => ?_))
      · rw [range_getD _ _ _ (by omega)]
        exact h1 _ hj
      · rw [range_getD _ _ _ (by omega)]
        exact hrep _ hj
  · have hc0 := hc 0 (by omega)
    rw [Nat.add_zero] at hc0
    have e : (⟨ad.block, ad.off, none⟩ : Addr) = ad := by cases ad; simp_all
    rw [e] at hc0
    have hr := run_loadVar_one (P := P) ht hagg ad _ hc0
    refine ok_pure h hd (v := us 0) ?_ (.val _ _ (hrep 0 (by omega)))
    simp only [execOp, ho, he, Instr.loadAt, Instr.sureAddr, Sem.run_bind, Sem.run_pure, Result.andThen_ok, hr]

theorem run_fieldPlace {f : Field} (ht : hasT P f.type = true) (h1 : 1 ≤ szT P f.type) (ad : Addr) : (fieldPlace ad f).run P w = .ok (ad.add f.offset) w := by
  have hn : ¬ (szT P f.type = 0) := by omega
  simp [fieldPlace, run_sizeOf' ht, hn]

theorem rep_rptr_part {cells : List AV} {ad : Addr} {us : Nat → Value} (hs : ad.spot = none) (hI : ∀ j, j < cells.length → I ad.block (ad.off + j))
    (hc : ∀ j, j < cells.length → w.cell? ⟨ad.block, ad.off + j, none⟩ = some (us j)) (h1 : ∀ j, j < cells.length → (us j).oneCell' = true)
    (hr : ∀ j, j < cells.length → RepV I w (us j) (cells.getD j .any)) (off n : Nat) (hle : off + n ≤ cells.length) : RepV I w (.pointer (some (ad.add off))) (.rptr ((cells.drop off).take n)) := by
  have hl : ((cells.drop off).take n).length = n := by simp; omega
  rw [add_none hs]
  refine .rptr _ _ (fun j => us (off + j)) rfl (fun j hj => ?_) (fun j hj => ?_) (fun j hj => ?_) (fun j hj => ?_) <;> rw [hl] at hj
  · have := hI (off + j) (by omega); rwa [← Nat.add_assoc] at this
  · have := hc (off + j) (by omega); rwa [← Nat.add_assoc] at this
  · exact h1 _ (by omega)
  · rw [drop_take_getD _ _ _ _ _ hj]; exact hr _ (by omega)

theorem ok_fieldAddr (h : Rel Γ σ I θ a w) (hd : ∀ d, o.dst = some d → d < Γ.n) {s : TypeId} {x : Operand} {f : Nat} (ho : o.op = .fieldAddr s x f) {fields : Array Field} {fd : Field}
    (hs : P.underlying s = some (.struct fields)) (hf : fields[f]? = some fd) (ht : hasT P fd.type = true) (h1 : 1 ≤ szT P fd.type) :
    (∀ nm off, Rep I σ.own θ w (a.eval x) (.ptr nm off) → OpOK P Γ σ o a w (.ptr nm (off + fd.offset)) []) ∧
    (∀ cells, Rep I σ.own θ w (a.eval x) (.rptr cells) → fd.offset + szT P fd.type ≤ cells.length → OpOK P Γ σ o a w (.rptr ((cells.drop fd.offset).take (szT P fd.type))) []) := by
  refine ⟨fun nm off hx => ?_, fun cells hx hle => ?_⟩
  · obtain ⟨e', cells', g, c, ho', hg, he⟩ := hx.ptr_inv
    refine ok_pure h hd (v := .pointer (some ⟨g, off + fd.offset, none⟩)) ?_ (.ptr nm _ _ _ g c ho' hg)
    simp [execOp, ho, he, Instr.fieldAt, Instr.sureAddr, run_underlying hs, hf, run_fieldPlace ht h1, Addr.add_lit]
  · obtain ⟨ad, us, he, hs', hI, hc, h1', hrep⟩ := hx.rptr_inv
    refine ok_pure h hd (v := .pointer (some (ad.add fd.offset))) ?_ (.val _ _ (rep_rptr_part hs' hI hc h1' hrep _ _ hle))
    simp [execOp, ho, he, Instr.fieldAt, Instr.sureAddr, run_underlying hs, hf, run_fieldPlace ht h1]

theorem part_sound {t : TypeId} {cs : List AV} {off : Nat} {x : AV} (h : partA P t cs off = some x) {vs : Array Value} (hl : vs.size = cs.length) (h1 : ∀ j, j < cs.length → (vs.getD j undef).oneCell' = true)
    (hr : ∀ j, j < cs.length → Rep I σ.own θ w (vs.getD j undef) (cs.getD j .any)) : ∃ v, (part t vs off).run P w = .ok v w ∧ Rep I σ.own θ w v x := by
  unfold partA at h
  cases ht : hasT P t with
  | false => simp [ht] at h
  | true =>
    simp only [ht, cond_true] at h
    cases hagg : isAggT P t with
    | true =>
      simp only [hagg, cond_true] at h
      cases hle : Nat.ble (off + szT P t) cs.length with
      | false => simp [hle] at h
      | true =>
        simp only [hle, cond_true, Option.some.injEq] at h
        subst h
        have hle' := Nat.le_of_ble_eq_true hle
        refine ⟨.agg (vs.extract off (off + szT P t)), by simp [part, run_isAgg' ht, hagg, run_sizeOf' ht], .agg _ _ ?_ ?_ ?_⟩
        · simp; omega
        · intro j hj
          have hj' : j < szT P t := by simp at hj; omega
          rw [extract_getD _ _ _ _ hj']; exact h1 _ (by omega)
        · intro j hj
          have hj' : j < szT P t := by simp at hj; omega
          rw [extract_getD _ _ _ _ hj', drop_take_getD _ _ _ _ _ hj']; exact hr _ (by omega)
    | false =>
      simp only [hagg, cond_false] at h
      cases hlt : Nat.blt off cs.length with
      | false => simp [hlt] at h
      | true =>
        simp only [hlt, cond_true, Option.some.injEq] at h
        subst h
        have hlt' : off < cs.length := by simpa [Nat.blt_eq] using hlt
        obtain ⟨u, hu, hu'⟩ := aget_some (l := vs) (j := off) (by omega)
        have := hr _ hlt'
        rw [hu'] at this
        refine ⟨u, ?_, this⟩
        simp [part, run_isAgg' ht, hagg, hu]

theorem ok_field (h : Rel Γ σ I θ a w) (hd : ∀ d, o.dst = some d → d < Γ.n) {s : TypeId} {x : Operand} {f : Nat} (ho : o.op = .field s x f) {fields : Array Field} {fd : Field}
    (hs : P.underlying s = some (.struct fields)) (hf : fields[f]? = some fd) {cs : List AV} {y : AV} (hx : Rep I σ.own θ w (a.eval x) (.agg cs)) (hp : partA P fd.type cs fd.offset = some y) : OpOK P Γ σ o a w y [] := by
  obtain ⟨vs, he, hl, h1, hr⟩ := hx.agg_inv
  obtain ⟨v, hv, hrep⟩ := part_sound (P := P) hp hl h1 hr
  refine ok_pure h hd ?_ hrep
  simp [execOp, ho, he, Instr.field, run_underlying hs, hf, asAgg, hv]

theorem ok_index_slice (h : Rel Γ σ I θ a w) (hd : ∀ d, o.dst = some d → d < Γ.n) {t e : TypeId} {x i : Operand} (ho : o.op = .indexAddr t x i) (hu : P.underlying t = some (.slice e)) (ht : hasT P e = true)
    {sz n : Nat} {f : Nat → List AV} {tag : Tag} {k : IntKind} {j : Int} (hx : Rep I σ.own θ w (a.eval x) (.slice sz n f tag)) (hi : Rep I σ.own θ w (a.eval i) (.int k j)) (hsz : sz = szT P e ∨ n = 0) (hb : InB j n) :
    OpOK P Γ σ o a w (.rptr (f j.toNat)) [] := by
  obtain ⟨hb0, hb1⟩ := hb
  have hsz : sz = szT P e := by rcases hsz with h | h <;> omega
  subst hsz
  have hi' := hi.int_inv
  obtain ⟨_, ad, cap, us, he, hcap, hmax, hz, hn, h1, hl, hr⟩ := hx.slice_val.slice_inv
  obtain ⟨b, rfl, hs, hI, hc⟩ := hz (by omega)
  have hlt : j.toNat < n := by omega
  have hlen := hl _ hlt
  have hpos : ∀ c, c < szT P e → j.toNat * szT P e + c < n * szT P e := fun c hc => by
    have : (j.toNat + 1) * szT P e ≤ n * szT P e := Nat.mul_le_mul_right _ hlt
    rw [Nat.add_mul] at this
    omega
  refine ok_pure h hd (v := .pointer (some (b.add (j.toNat * szT P e)))) ?_ (.val _ _ ?_)
  · simp [execOp, ho, he, hi', Instr.indexAt, asIntOf, run_underlying hu, hb0, hb1, run_sizeOf' ht]
  · rw [add_none hs]
    refine .rptr _ _ (fun c => us (j.toNat * szT P e + c)) rfl (fun c hc' => ?_) (fun c hc' => ?_) (fun c hc' => ?_) (fun c hc' => ?_) <;> rw [hlen] at hc'
    · have := hI _ (hpos c hc'); rwa [← Nat.add_assoc] at this
    · have := hc _ (hpos c hc'); rwa [← Nat.add_assoc] at this
    · exact h1 _ (hpos c hc')
    · exact hr _ _ hlt hc'

theorem partL_eq : ∀ (cells : List AV) (k n : Nat), k + n ≤ cells.length → partL cells k n = (cells.drop k).take n
  | cells, k, 0, _ => by simp [partL]
  | cells, k, n + 1, h => by
    have hk : k < cells.length := by omega
    rw [partL, partL_eq cells (k + 1) n (by omega), List.drop_eq_getElem_cons hk, List.take_succ_cons, List.getD, List.getElem?_eq_getElem hk]
    rfl

theorem ok_index_array (h : Rel Γ σ I θ a w) (hd : ∀ d, o.dst = some d → d < Γ.n) {t e : TypeId} {len : Nat} {x i : Operand} (ho : o.op = .indexAddr t x i) (hu : P.underlying t = some (.array len e)) (ht : hasT P e = true)
    {k : IntKind} {j : Int} (hi : Rep I σ.own θ w (a.eval i) (.int k j)) (hb : InB j len) :
    (∀ nm off, Rep I σ.own θ w (a.eval x) (.ptr nm off) → OpOK P Γ σ o a w (.ptr nm (off + j.toNat * szT P e)) []) ∧
    (∀ cells, Rep I σ.own θ w (a.eval x) (.rptr cells) → cells.length = len * szT P e → OpOK P Γ σ o a w (.rptr (partL cells (j.toNat * szT P e) (szT P e))) []) := by
  obtain ⟨hb0, hb1⟩ := hb
  have hi' := hi.int_inv
  refine ⟨fun nm off hx => ?_, fun cells hx hle => ?_⟩
  · obtain ⟨e', cells', g, c, ho', hg, he⟩ := hx.ptr_inv
    refine ok_pure h hd (v := .pointer (some ⟨g, off + j.toNat * szT P e, none⟩)) ?_ (.ptr nm _ _ _ g c ho' hg)
    simp [execOp, ho, he, hi', Instr.indexAt, Instr.sureAddr, asIntOf, run_underlying hu, hb0, hb1, run_sizeOf' ht, Addr.add_lit]
  · obtain ⟨ad, us, he, hs', hI, hc, h1', hrep⟩ := hx.rptr_inv
    have hle' : j.toNat * szT P e + szT P e ≤ cells.length := by
      have : (j.toNat + 1) * szT P e ≤ len * szT P e := Nat.mul_le_mul_right _ (by omega)
      rw [Nat.add_mul] at this
      omega
    rw [partL_eq _ _ _ hle']
    refine ok_pure h hd (v := .pointer (some (ad.add (j.toNat * szT P e)))) ?_ (.val _ _ (rep_rptr_part hs' hI hc h1' hrep _ _ ?_))
    · simp [execOp, ho, he, hi', Instr.indexAt, Instr.sureAddr, asIntOf, run_underlying hu, hb0, hb1, run_sizeOf' ht]
    · have : (j.toNat + 1) * szT P e ≤ len * szT P e := Nat.mul_le_mul_right _ (by omega)
      rw [Nat.add_mul] at this
      omega

theorem ok_index_value (h : Rel Γ σ I θ a w) (hd : ∀ d, o.dst = some d → d < Γ.n) {t e : TypeId} {len : Nat} {x i : Operand} (ho : o.op = .index t x i) (hu : P.underlying t = some (.array len e)) (ht : hasT P e = true)
    (hagg : isAggT P e = false) (hsz : szT P e = 1) {k : IntKind} {j : Int} {cs : List AV} (hl : cs.length = len) (hi : Rep I σ.own θ w (a.eval i) (.int k j)) (hb : InB j len) (hx : Rep I σ.own θ w (a.eval x) (.agg cs)) :
    OpOK P Γ σ o a w (cs.getD j.toNat .any) [] := by
  obtain ⟨hb0, hb1⟩ := hb
  have hi' := hi.int_inv
  obtain ⟨vs, he, hl', h1, hr⟩ := hx.agg_inv
  have hlt : j.toNat < cs.length := by omega
  obtain ⟨u, hg, hg'⟩ := aget_some (l := vs) (j := j.toNat) (by omega)
  have hv := hr _ hlt
  rw [hg'] at hv
  refine ok_pure h hd (v := u) ?_ hv
  simp [execOp, ho, he, hi', Instr.index, asIntOf, run_underlying hu, hb0, hb1, run_sizeOf' ht, hsz, part, run_isAgg' ht, hagg, hg]

theorem ok_extract (h : Rel Γ σ I θ a w) (hd : ∀ d, o.dst = some d → d < Γ.n) {x : Operand} {ix : Nat} (ho : o.op = .extract x ix) {xs : List AV} (hx : Rep I σ.own θ w (a.eval x) (.tuple xs)) (hlt : ix < xs.length) :
    OpOK P Γ σ o a w (xs.getD ix .any) [] := by
  obtain ⟨vs, he, hl, hr⟩ := hx.tuple_inv
  obtain ⟨u, hg, hg'⟩ := aget_some (l := vs) (j := ix) (by omega)
  have hv := hr _ hlt
  rw [hg'] at hv
  refine ok_pure h hd (v := u) ?_ hv
  simp [execOp, ho, he, Instr.extract, hg]

theorem ok_nilCheck (h : Rel Γ σ I θ a w) (hd : ∀ d, o.dst = some d → d < Γ.n) {x : Operand} (ho : o.op = .nilCheck x) :
    (∀ nm off, Rep I σ.own θ w (a.eval x) (.ptr nm off) → OpOK P Γ σ o a w (.ptr nm off) []) ∧ (∀ cs, Rep I σ.own θ w (a.eval x) (.rptr cs) → OpOK P Γ σ o a w (.rptr cs) []) := by
  refine ⟨fun nm off hx => ?_, fun cs hx => ?_⟩
  · obtain ⟨e', cells', g, c, ho', hg, he⟩ := hx.ptr_inv
    exact ok_pure h hd (v := a.eval x) (by simp [execOp, ho, he]) hx
  · obtain ⟨ad, us, he, _⟩ := hx.rptr_inv
    exact ok_pure h hd (v := a.eval x) (by simp [execOp, ho, he]) hx

theorem ok_convert_int (h : Rel Γ σ I θ a w) (hd : ∀ d, o.dst = some d → d < Γ.n) {s t : TypeId} {x : Operand} (ho : o.op = .convert s t x) {k k' k0 : IntKind} {n : Int} (hs : P.underlying s = some (.int k0)) (ht : P.underlying t = some (.int k))
    (hx : Rep I σ.own θ w (a.eval x) (.int k' n)) : OpOK P Γ σ o a w (.int k (k.wrap n)) [] := by
  have hx' := hx.int_inv
  refine ok_pure h hd (v := .int k (k.wrap n)) ?_ (.val _ _ (.int _ _))
  simp [execOp, ho, hx', convert, run_underlying hs, run_underlying ht, Conv.intToInt]
theorem ok_convert_str (h : Rel Γ σ I θ a w) (hd : ∀ d, o.dst = some d → d < Γ.n) {s t : TypeId} {x : Operand} (ho : o.op = .convert s t x) {b : List Int} (hs : P.underlying s = some .string) (ht : P.underlying t = some .string)
    (hx : Rep I σ.own θ w (a.eval x) (.str b)) : OpOK P Γ σ o a w (.str b) [] := by
  obtain ⟨b, hx', rfl⟩ := hx.str_inv
  refine ok_pure h hd (v := .string b) ?_ (.val _ _ (.str _))
  simp [execOp, ho, hx', convert, run_underlying hs, run_underlying ht]

theorem ok_index_str (h : Rel Γ σ I θ a w) (hd : ∀ d, o.dst = some d → d < Γ.n) {t : TypeId} {x i : Operand} (ho : o.op = .index t x i) (hu : P.underlying t = some .string)
    {k : IntKind} {j : Int} {s : List Int} (hi : Rep I σ.own θ w (a.eval i) (.int k j)) (hb : InB j s.length) (hx : Rep I σ.own θ w (a.eval x) (.str s)) :
    OpOK P Γ σ o a w (.int .u8 (s.getD j.toNat 0)) [] := by
  obtain ⟨b, he, rfl⟩ := hx.str_inv
  obtain ⟨hb0, hb1⟩ := hb
  rw [bytesI_length] at hb1
  have hi' := hi.int_inv
  obtain ⟨g1, g2⟩ := bytesI_get b j.toNat (by omega)
  refine ok_pure h hd (v := .int .u8 (b[j.toNat]'(by omega)).toNat) ?_ (by rw [← g2]; exact .val _ _ (.int _ _))
  simp [execOp, ho, he, hi', Instr.index, asIntOf, run_underlying hu, hb0, g1]

theorem fold_push : ∀ (ns : List Int) (s : ByteArray), bytesI (ns.foldl (fun r n => r.push (UInt8.ofNat n.toNat)) s) = bytesI s ++ ns.map (fun n => ((UInt8.ofNat n.toNat).toNat : Int))
  | [], s => by simp
  | n :: ns, s => by
    rw [List.foldl_cons, fold_push ns]
    unfold bytesI
    rw [ByteArray.data_push, Array.toList_push]
    simp
theorem ok_convert_bytes (h : Rel Γ σ I θ a w) (hd : ∀ d, o.dst = some d → d < Γ.n) {s t e : TypeId} {x : Operand} (ho : o.op = .convert s t x) {n sz : Nat} {f : Nat → List AV} {tag : Tag} (hs : P.underlying s = some (.slice e)) (ht : P.underlying t = some .string)
    (he : P.underlying e = some (.int .u8)) (hsz : sz = 1 ∨ n = 0) (hB : ByteF n f) (hx : Rep I σ.own θ w (a.eval x) (.slice sz n f tag)) : OpOK P Γ σ o a w (.str (bytesF n f)) [] := by
  obtain ⟨_, ad, cap, us, hex, hcap, hmax, hz, hn, h1, hl, hr⟩ := hx.slice_val.slice_inv
  have key : ∀ (S : ByteArray), bytesI S = bytesF n f → (Conv.bytesToString (.slice ad n cap)).run P w = .ok (.string S) w → OpOK P Γ σ o a w (.str (bytesF n f)) [] := fun S hS hrun => by
    refine ok_pure h hd (v := .string S) ?_ (by rw [← hS]; exact .val _ _ (.str _))
    simp [execOp, ho, hex, convert, run_underlying hs, run_underlying ht, run_underlying he, hrun]
  rcases ad with _ | b
  · have : n = 0 := by have := hn rfl; omega
    subst this
    exact key .empty rfl (by simp [Conv.bytesToString, Sem.run_pure])
  · refine key _ ?_ (run_bytesToString w b n cap (bytesF n f) ?_)
    · rw [fold_push]
      show [] ++ _ = _
      rw [List.nil_append]
      have : ∀ l : List Int, (∀ x ∈ l, 0 ≤ x ∧ x < 256) → l.map (fun n => ((UInt8.ofNat n.toNat).toNat : Int)) = l := fun l => by
        induction l with
        | nil => intro _; rfl
        | cons y l ih =>
          intro hy
          have h0 := hy y (by simp)
          rw [List.map_cons, ih fun z hz => hy z (by simp [hz])]
          congr 1
          rw [UInt8.toNat_ofNat']
          omega
      refine this _ fun y hy => ?_
      obtain ⟨i, hi, rfl⟩ := List.mem_map.1 hy
      exact (hB i (List.mem_range.1 hi)).2
    · have hcell : ∀ j, j < n → w.cell? (b.add j) = some (us j) := fun j hj => by
        obtain ⟨b', hb', hsp, _, hc⟩ := hz (by omega)
        obtain rfl := Option.some.inj hb'
        have hsz1 : sz = 1 := by omega
        subst hsz1
        rw [← hc j (by omega)]
        congr 1
        obtain ⟨bl, of, sp⟩ := b
        simp only at hsp
        subst hsp
        simp [Addr.add_lit]
      rw [run_loadCells w b n us hcell]
      congr 2
      unfold bytesF
      rw [List.map_map]
      apply List.map_congr_left
      intro j hj
      have hj' := List.mem_range.1 hj
      have hsz1 : sz = 1 := by omega
      subst hsz1
      have hv := hr j 0 hj' (by omega)
      rw [(hB j hj').1] at hv
      simp only [Nat.mul_one, Nat.add_zero, List.getD_cons_zero] at hv
      generalize us j = v at hv
      cases hv
      rfl

theorem ok_len (h : Rel Γ σ I θ a w) (hd : ∀ d, o.dst = some d → d < Γ.n) {t : TypeId} {xs : Array Operand} {x : Operand} {ts : Array TypeId} (ho : o.op = .call { callee := .builtin .len, args := xs, argTypes := ts }) (hxs : xs.toList = [x]) (hts : ts.toList = [t]) :
    (∀ e sz n f tag, P.underlying t = some (.slice e) → Rep I σ.own θ w (a.eval x) (.slice sz n f tag) → OpOK P Γ σ o a w (.int .i64 n) []) ∧
    (∀ s, P.underlying t = some .string → Rep I σ.own θ w (a.eval x) (.str s) → OpOK P Γ σ o a w (.int .i64 s.length) []) ∧
    (∀ n e, P.underlying t = some (.array n e) → OpOK P Γ σ o a w (.int .i64 n) []) := by
  obtain rfl : xs = #[x] := by apply Array.ext'; simpa using hxs
  obtain rfl : ts = #[t] := by apply Array.ext'; simpa using hts
  refine ⟨fun e sz n f tag hu hx => ?_, fun s hu hx => ?_, fun n e hu => ?_⟩
  · obtain ⟨_, ad, cap, us, he, _⟩ := hx.slice_val.slice_inv
    exact ok_pure h hd (v := .int .i64 n) (by simp [execOp, ho, resolve, invoke, builtin, Builtin.len_, he, run_underlying hu, goInt]) (.val _ _ (.int _ _))
  · obtain ⟨s, he, rfl⟩ := hx.str_inv
    rw [bytesI_length]
    exact ok_pure h hd (v := .int .i64 s.size) (by simp [execOp, ho, resolve, invoke, builtin, Builtin.len_, he, run_underlying hu, goInt]) (.val _ _ (.int _ _))
  · exact ok_pure h hd (v := .int .i64 n) (by simp [execOp, ho, resolve, invoke, builtin, Builtin.len_, run_underlying hu, goInt]) (.val _ _ (.int _ _))

theorem ok_min (h : Rel Γ σ I θ a w) (hd : ∀ d, o.dst = some d → d < Γ.n) {xs : Array Operand} {x y : Operand} {ts : Array TypeId} (ho : o.op = .call { callee := .builtin .min, args := xs, argTypes := ts }) (hxs : xs.toList = [x, y])
    {k k' : IntKind} {m n : Int} (hx : Rep I σ.own θ w (a.eval x) (.int k m)) (hy : Rep I σ.own θ w (a.eval y) (.int k' n)) : OpOK P Γ σ o a w (.int k (if n < m then n else m)) [] := by
  obtain rfl : xs = #[x, y] := by apply Array.ext'; simpa using hxs
  have e1 := hx.int_inv
  have e2 := hy.int_inv
  exact ok_pure h hd (v := .int k (if n < m then n else m)) (by simp [execOp, ho, resolve, invoke, builtin, Builtin.min_, Builtin.min2, e1, e2]) (.val _ _ (.int _ _))
theorem ok_max (h : Rel Γ σ I θ a w) (hd : ∀ d, o.dst = some d → d < Γ.n) {xs : Array Operand} {x y : Operand} {ts : Array TypeId} (ho : o.op = .call { callee := .builtin .max, args := xs, argTypes := ts }) (hxs : xs.toList = [x, y])
    {k k' : IntKind} {m n : Int} (hx : Rep I σ.own θ w (a.eval x) (.int k m)) (hy : Rep I σ.own θ w (a.eval y) (.int k' n)) : OpOK P Γ σ o a w (.int k (if m < n then n else m)) [] := by
  obtain rfl : xs = #[x, y] := by apply Array.ext'; simpa using hxs
  have e1 := hx.int_inv
  have e2 := hy.int_inv
  exact ok_pure h hd (v := .int k (if m < n then n else m)) (by simp [execOp, ho, resolve, invoke, builtin, Builtin.max_, Builtin.max2, e1, e2]) (.val _ _ (.int _ _))
end
end Go.Proofs.Ytcpopeamoipjlaa
