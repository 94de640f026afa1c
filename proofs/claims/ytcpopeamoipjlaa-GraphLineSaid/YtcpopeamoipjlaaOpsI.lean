/-
  Strings that are gone over.
-/
import Derived.Test.YtcpopeamoipjlaaOpsV
import Derived.Laws.RangeAny
import Derived.Laws.Cover3
namespace Go.Proofs.Ytcpopeamoipjlaa
open Go Go.RowKit
set_option linter.unusedVariables false

theorem get_nat (s : ByteArray) (i : Nat) : (s.get! i).toNat = ((bytesI s).getD i 0).toNat := by
  unfold bytesI
  by_cases h : i < s.size
  · have h' : i < s.data.toList.length := h
    rw [List.getD, List.getElem?_map, List.getElem?_eq_getElem h']
    simp only [Option.map_some, Option.getD_some]
    have e : s.get! i = s.data.toList[i] := by
      show s.data[i]! = _
      rw [getElem!_pos s.data i h]
      rfl
    rw [e]
    simp
  · have h' : ¬ i < s.data.toList.length := h
    rw [List.getD, List.getElem?_eq_none (by simpa using Nat.le_of_not_lt h')]
    have e : s.get! i = 0 := by
      show s.data[i]! = _
      rw [getElem!_neg s.data i h]
      rfl
    rw [e]; rfl
theorem decode_eq (s : ByteArray) (i : Nat) : Utf8.decode s i = decodeL (bytesI s) i := by
  unfold Utf8.decode decodeL
  simp only [get_nat, bytesI_length]

section
variable {P : Program} {Γ : Env} {σ : Sto} {I : Nat → Nat → Prop} {θ : Nat → Option (Nat × Nat)} {a : Act} {w : World} {o : Oper}
/-- A new block that is no row. -/
theorem chg_newobj {own : Nat → Option Own} (hrel : OwnRel I own θ w) (hval : ∀ b o, I b o → ∃ u, w.cell? ⟨b, o, none⟩ = some u) {d : Nat} (hn : own d = none) {ob : Obj} {x : AObj} (hc : ObjR I w ob x) :
    Chg own θ I w (ownUp own d (.obj x)) (thUp θ d (some (w.heap.size, 0))) I (w.alloc ob) := by
  have hcell : ∀ b o, I b o → (w.alloc ob).cell? ⟨b, o, none⟩ = w.cell? ⟨b, o, none⟩ := fun b o hi => by
    obtain ⟨u, hu⟩ := hval b o hi
    exact alloc_cell _ hu
  have hle : ∀ nm o, own nm = some o → ∃ o', ownUp own d (.obj x) nm = some o' ∧ OwnLe o (θ nm) o' (thUp θ d (some (w.heap.size, 0)) nm) := fun nm o ho => by
    have hne : nm ≠ d := by rintro rfl; rw [hn] at ho; cases ho
    exact ⟨o, by simp [ownUp, hne, ho], by simp [thUp, hne, OwnLe.refl]⟩
  have hmono : ∀ v y, Rep I own θ w v y → Rep I (ownUp own d (.obj x)) (thUp θ d (some (w.heap.size, 0))) (w.alloc ob) v y := fun v y h => h.mono (fun _ _ h => h) hcell hle
  refine { imm := fun _ _ h => h, cell := hcell, le := hle, rel := ?_, valid := fun b o hi => ?_, os := rfl, tape := rfl, output := rfl, grow := by simp, frame := fun b hb _ => _root_.Go.heap_alloc_old w _ hb,
           new := fun nm g c ho hg => ?_, immNew := fun b o h => .inl h }
  · refine ownRel_upd hrel (· = d) hmono (fun nm hne => ⟨by simp [ownUp, hne], by simp [thUp, hne]⟩) (fun nm g c hne ho hg => ⟨_root_.Go.heap_alloc_old w _ (owned_lt hrel ho hg), fun j h => h⟩) ?_ ?_ ?_ (fun _ _ h h' => h.trans h'.symm) (hobj' := fun _ _ h => h.mono (fun _ _ h => h) hcell) (hobj := ?_)
    · rintro nm e' cells rfl ho
      simp [ownUp] at ho
    · rintro nm sz e' m rfl ho
      simp [ownUp] at ho
    · rintro nm nm' g c c' rfl hne _ ho' hg hg'
      simp only [thUp, if_true, Option.some.injEq, Prod.mk.injEq] at hg
      have := owned_lt hrel ho' hg'
      omega
    · rintro nm y rfl ho
      simp only [ownUp, if_true, Option.some.injEq, Own.obj.injEq] at ho
      subst ho
      refine ⟨w.heap.size, 0, ob, by simp [thUp], _root_.Go.heap_alloc_new w _, hc.mono (fun _ _ h => h) hcell, fun j hj => ?_⟩
      obtain ⟨u, hu⟩ := hval _ _ hj
      exact Nat.lt_irrefl _ (cell_lt hu)
  · obtain ⟨u, hu⟩ := hval b o hi
    exact ⟨u, (hcell b o hi).trans hu⟩
  · by_cases hne : nm = d
    · simp only [thUp, hne, if_true, Option.some.injEq, Prod.mk.injEq] at hg
      exact .inl (by omega)
    · simp only [ownUp, hne, if_false] at ho
      simp only [thUp, hne, if_false] at hg
      exact .inr ⟨nm, c, ho, hg⟩
/-- Such a block turned. -/
def setO (w : World) (g : Nat) (ob : Obj) : World := { w with heap := w.heap.setIfInBounds g ob }
theorem setO_other (w : World) (g b : Nat) (ob : Obj) (h : b ≠ g) : (setO w g ob).heap[b]? = w.heap[b]? := by
  simp [setO, Array.getElem?_setIfInBounds, Ne.symm h]
theorem setO_this (w : World) (g : Nat) (ob : Obj) (h : g < w.heap.size) : (setO w g ob).heap[g]? = some ob := by
  simp [setO, Array.getElem?_setIfInBounds, h]
theorem chg_setobj {own : Nat → Option Own} (hrel : OwnRel I own θ w) (hval : ∀ b o, I b o → ∃ u, w.cell? ⟨b, o, none⟩ = some u) {d g c : Nat} {x : AObj} (hn : own d = some (.obj x)) (hg : θ d = some (g, c)) {ob : Obj} {y : AObj} (hc : ObjR I w ob y) :
    Chg own θ I w (ownUp own d (.obj y)) θ I (setO w g ob) := by
  obtain ⟨g', c', o0, h1, h2, h3, h4⟩ := hrel.obj d x hn
  rw [hg] at h1
  simp only [Option.some.injEq, Prod.mk.injEq] at h1
  obtain ⟨rfl, rfl⟩ := h1
  have hlt := heap_lt h2
  have hcell : ∀ b j, I b j → (setO w g ob).cell? ⟨b, j, none⟩ = w.cell? ⟨b, j, none⟩ := fun b j hi =>
    World.cell?_of_block (a := ⟨b, j, none⟩) (setO_other w g b ob (by rintro rfl; exact h4 j hi))
  have hle : ∀ nm' o, own nm' = some o → ∃ o', ownUp own d (.obj y) nm' = some o' ∧ OwnLe o (θ nm') o' (θ nm') := fun nm' o ho => by
    by_cases hne : nm' = d
    · subst hne
      rw [hn] at ho
      obtain rfl := Option.some.inj ho
      exact ⟨.obj y, by simp [ownUp], rfl⟩
    · exact ⟨o, by simp [ownUp, hne, ho], .refl _ _⟩
  have hmono : ∀ v z, Rep I own θ w v z → Rep I (ownUp own d (.obj y)) θ (setO w g ob) v z := fun v z h => h.mono (fun _ _ h => h) hcell hle
  refine { imm := fun _ _ h => h, cell := hcell, le := hle, rel := ?_, valid := fun b j hi => ?_, os := rfl, tape := rfl, output := rfl, grow := by simp [setO], frame := fun b hb hn' => setO_other w g b ob ?_,
           new := fun nm' g' c' ho hg' => ?_, immNew := fun b o h => .inl h }
  · refine ownRel_upd hrel (· = d) hmono (fun nm' hne => ⟨by simp [ownUp, hne], rfl⟩) (fun nm' g' c' hne ho hg' => ⟨setO_other w g g' ob ?_, fun j h => h⟩) ?_ ?_ ?_ (fun _ _ h h' => h.trans h'.symm) (hobj' := fun _ _ h => h.mono (fun _ _ h => h) hcell) (hobj := ?_)
    · rintro rfl
      exact hne (hrel.inj nm' d _ _ _ ho (by simp [hn]) hg' hg)
    · rintro nm' e' cells' rfl ho
      simp [ownUp] at ho
    · rintro nm' sz e' m rfl ho
      simp [ownUp] at ho
    · rintro nm' nm'' g' c1 c2 rfl hne _ ho' hg1 hg2
      exact hne (hrel.inj nm'' nm' _ _ _ ho' (by simp [hn]) hg2 hg1)
    · rintro nm' z rfl ho
      simp only [ownUp, if_true, Option.some.injEq, Own.obj.injEq] at ho
      subst ho
      exact ⟨g, c, ob, hg, setO_this w g ob hlt, hc.mono (fun _ _ h => h) hcell, h4⟩
  · obtain ⟨u, hu⟩ := hval b j hi
    exact ⟨u, (hcell b j hi).trans hu⟩
  · rintro rfl
    exact hn' d c (by simp [hn]) hg
  · refine .inr ⟨nm', c', ?_, hg'⟩
    by_cases hne : nm' = d
    · subst hne; simp [hn]
    · simpa [ownUp, hne] using ho

/-- An array as a row of elements. -/
theorem ok_allocarr (h : Rel Γ σ I θ a w) (hd : ∀ d, o.dst = some d → d < Γ.n) {t e : TypeId} (ho : o.op = .alloc t) {d : Nat} (hdst : o.dst = some d) (hn : σ.own d = none) {z : List AV} (hz : zeroA P t = some z) {len : Nat}
    (h1 : 1 ≤ len) (hzl : z.length = len * szT P e) (hr : len ≤ room) : OpOK P Γ σ o a w (.vpt d len 0 0) [(d, .arr (szT P e) t len (fun i => (z.drop (i * szT P e)).take (szT P e)))] := by
  obtain ⟨i, v, hi, hv, hone, rfl⟩ := zeroA_inv hz
  have hzc := cells_ofCell (I := I) (w := w) (σ := σ) (θ := θ) hone
  have hsz : v.cells.size = len * szT P e := by simpa using hzl
  have hk := chg_arr (w' := w.alloc (.cells v.cells t)) (t' := some (w.heap.size, len)) (m' := len) (f' := fun i => ((v.cells.toList.map AV.ofCell).drop (i * szT P e)).take (szT P e)) (nm := d) (s := szT P e) (e := t) h.chg.rel h.chg.valid
    (fun b o hi => by obtain ⟨u, hu⟩ := h.chg.valid b o hi; exact alloc_cell _ hu) (.inl hn) (fun b hb _ => _root_.Go.heap_alloc_old w _ hb) rfl rfl rfl (by simp) (by simp) (fun g c' hgc => ?_) (fun g c' hgc => ?_)
  · refine ok_chg h hd (v := .pointer (some ⟨w.heap.size, 0, none⟩)) ?_ (by rw [upd_one]; exact hk) ?_
    · simp [execOp, ho, Instr.alloc, run_zero hi hv, newVar, newRow]
    · rw [upd_one]
      refine .vpt d (szT P e) t len _ len 0 0 _ (by simp [ownUp]; rfl) (Nat.le_refl _) h1 (fun _ => ⟨w.heap.size, len, by simp [thUp], by simp⟩)
  · simp only [Option.some.injEq, Prod.mk.injEq] at hgc
    obtain ⟨rfl, rfl⟩ := hgc
    have hchunk : ∀ i', i' < len → i' * szT P e + szT P e ≤ len * szT P e := fun i' hi' => by
      have : (i' + 1) * szT P e ≤ len * szT P e := Nat.mul_le_mul_right _ hi'
      rw [Nat.add_mul] at this
      omega
    refine ⟨_, _root_.Go.heap_alloc_new w _, Nat.le_refl _, by simp only [room] at hr; unfold maxLen; omega, hsz, fun i' hi' => ?_, fun i' j' hi' hj' => ?_, fun j hj => ?_⟩
    · have := hchunk i' hi'
      rw [List.length_take, List.length_drop, hzl]
      omega
    · have := hchunk i' hi'
      have e1 : (((v.cells.toList.map AV.ofCell).drop (i' * szT P e)).take (szT P e)).getD j' .any = (v.cells.toList.map AV.ofCell).getD (i' * szT P e + j') .any := by
        rw [List.getD, List.getElem?_take, if_pos hj', List.getElem?_drop, List.getD]
      exact ⟨hzc.one _ (by rw [hzl]; omega), fun hmono => by rw [e1]; exact hmono _ _ (hzc.rep _ (by rw [hzl]; omega))⟩
    · obtain ⟨u, hu⟩ := h.chg.valid _ _ hj
      exact Nat.lt_irrefl _ (cell_lt hu)
  · simp only [Option.some.injEq, Prod.mk.injEq] at hgc
    exact .inl (by omega)
theorem ok_buildRow (h : Rel Γ σ I θ a w) (hd : ∀ d, o.dst = some d → d < Γ.n) {t : TypeId} {len : Nat} {parts : Array (Nat × Operand)} (ho : o.op = .buildSlice t len parts) {d : Nat} (hdst : o.dst = some d) (hn : σ.own d = none) {is : List Nat} {vs : List AV}
    (hp : PartsOK I σ.own θ w (parts.toList.map fun p => (p.1, a.eval p.2)) (is.zip vs)) {e : Eff} (he : aBuildRow P t len is vs d = some e) : OpOK P Γ σ o a w e.v e.wo := by
  unfold aBuildRow at he
  split at he
  · rename_i el hu
    split at he
    · rename_i z hz
      cases hb : (hasT P el && Nat.beq z.length (szT P el) && Nat.ble 1 (szT P el) && Nat.ble (len * szT P el) 16777216) with
      | false => simp [hb] at he
      | true =>
        simp only [hb, cond_true] at he
        simp only [Bool.and_eq_true] at hb
        obtain ⟨⟨⟨hT, hzl⟩, h1⟩, hmax⟩ := hb
        have hzl := Nat.eq_of_beq_eq_true hzl
        have h1 := Nat.le_of_ble_eq_true h1
        have hmax := Nat.le_of_ble_eq_true hmax
        split at he
        · rename_i cs hfill
          simp only [Option.some.injEq] at he
          subst he
          obtain ⟨i, v, hi, hv, hone, rfl⟩ := zeroA_inv hz
          have hcells := cells_replicate (cells_ofCell (I := I) (σ := σ) (θ := θ) (w := w) hone) len (szT P el) hzl h1
          obtain ⟨vs', hfi, hok⟩ := fill_sound _ hp hcells hfill
          have hlen := fillA_length _ _ _ _ hfill
          have hzl' : v.cells.size = szT P el := by simpa using hzl
          have hcl : cs.length = len * szT P el := by rw [hlen]; simp [hzl']
          have hlm : len ≤ maxLen := by
            have : len * 1 ≤ len * szT P el := Nat.mul_le_mul_left _ h1
            unfold maxLen
            omega
          have hvs : vs'.size = len * szT P el := by rw [hok.size, hcl]
          have hrun : (execOp a.eval o).run P w = .ok (.value (.slice (some ⟨w.heap.size, 0, none⟩) len len)) (w.alloc (.cells vs' el)) := by
            have e2 : (parts.map fun x => (x.1, a.eval x.2)).toList = parts.toList.map fun p => (p.1, a.eval p.2) := by simp
            have hm2 : ¬ (len * szT P el > 2 ^ 24) := by omega
            by_cases h0 : len * szT P el = 0
            · have e3 : (Array.range (len * szT P el)).map (v.cells[· % v.cells.size]!) = (Array.range (len * szT P el)).map ((#[] : Array Value)[· % (#[] : Array Value).size]!) := by
                rw [h0]; simp
              rw [e3] at hfi
              simp only [execOp, ho, Instr.buildSlice, Sem.run_bind, Result.andThen_ok, run_underlying hu, run_sizeOf' hT, if_neg hm2, if_pos h0, Sem.run_pure, e2, hfi]
              simp [newRow]
            · simp only [execOp, ho, Instr.buildSlice, Sem.run_bind, Result.andThen_ok, run_underlying hu, run_sizeOf' hT, if_neg hm2, if_neg h0, run_zero hi hv, Sem.run_pure, e2, hfi]
              simp [newRow]
          have hk := chg_arr (w' := w.alloc (.cells vs' el)) (t' := some (w.heap.size, len)) (m' := len) (f' := fun i => (cs.drop (i * szT P el)).take (szT P el)) (nm := d) (s := szT P el) (e := el) h.chg.rel h.chg.valid
            (fun b o hi => by obtain ⟨u, hu⟩ := h.chg.valid b o hi; exact alloc_cell _ hu) (.inl hn) (fun b hb _ => _root_.Go.heap_alloc_old w _ hb) rfl rfl rfl (by simp) (by simp) (fun g c' hgc => ?_) (fun g c' hgc => ?_)
          · refine ok_chg h hd hrun (by rw [upd_one]; exact hk) ?_
            rw [upd_one]
            refine .vsl d (szT P el) el len _ (some ⟨w.heap.size, 0, none⟩) len len (by simp [ownUp]; rfl) (Nat.le_refl _) (Nat.le_refl _) hlm (fun h => by cases h) (fun _ => ?_)
            simp [thUp]
          · simp only [Option.some.injEq, Prod.mk.injEq] at hgc
            obtain ⟨rfl, rfl⟩ := hgc
            have hchunk : ∀ i', i' < len → i' * szT P el + szT P el ≤ len * szT P el := fun i' hi' => by
              have : (i' + 1) * szT P el ≤ len * szT P el := Nat.mul_le_mul_right _ hi'
              rw [Nat.add_mul] at this
              omega
            refine ⟨_, _root_.Go.heap_alloc_new w _, Nat.le_refl _, hlm, hvs, fun i' hi' => ?_, fun i' j' hi' hj' => ?_, fun j hj => ?_⟩
            · have := hchunk i' hi'
              rw [List.length_take, List.length_drop, hcl]
              omega
            · have := hchunk i' hi'
              have e1 : ((cs.drop (i' * szT P el)).take (szT P el)).getD j' .any = cs.getD (i' * szT P el + j') .any := by
                rw [List.getD, List.getElem?_take, if_pos hj', List.getElem?_drop, List.getD]
              exact ⟨hok.one _ (by omega), fun hmono => by rw [e1]; exact hmono _ _ (hok.rep _ (by omega))⟩
            · obtain ⟨u, hu⟩ := h.chg.valid _ _ hj
              exact Nat.lt_irrefl _ (cell_lt hu)
          · simp only [Option.some.injEq, Prod.mk.injEq] at hgc
            exact .inl (by omega)
        · simp at he
    · simp at he
  · simp at he
theorem ok_index_arr2 (h : Rel Γ σ I θ a w) (hd : ∀ d, o.dst = some d → d < Γ.n) {t e : TypeId} {len : Nat} {x i : Operand} (ho : o.op = .indexAddr t x i) (hu : P.underlying t = some (.array len e)) (ht : hasT P e = true)
    {nm : Nat} {k : IntKind} {j : Int} (hx : Rep I σ.own θ w (a.eval x) (.vpt nm len 0 0)) (hi : Rep I σ.own θ w (a.eval i) (.int k j)) (hb : InB j len) {sz : Nat} {e' : TypeId} {m : Nat} {f : Nat → List AV} (hown : σ.own nm = some (.arr sz e' m f)) (hsz : sz = szT P e) :
    OpOK P Γ σ o a w (.vpt nm len j.toNat 0) [] := by
  obtain ⟨hb0, hb1⟩ := hb
  obtain ⟨sz2, e2, m2, f2, ad, he, ho2, hm, hi0, hv⟩ := hx.vpt_inv
  rw [hown] at ho2
  simp only [Option.some.injEq, Own.arr.injEq] at ho2
  obtain ⟨rfl, rfl, rfl, rfl⟩ := ho2
  subst hsz
  have hi' := hi.int_inv
  refine ok_pure h hd (v := .pointer (some (ad.add (j.toNat * szT P e)))) ?_ (.vpt nm _ e' m f len _ _ _ hown hm (by omega) (fun hnm => ?_))
  · simp [execOp, ho, he, hi', Instr.indexAt, Instr.sureAddr, asIntOf, run_underlying hu, hb0, hb1, run_sizeOf' ht]
  · obtain ⟨g, c, h1, rfl⟩ := hv hnm
    exact ⟨g, c, h1, by rw [Addr.add_lit]; simp⟩

theorem slice_nil_inv {I : Nat → Nat → Prop} {own : Nat → Option Own} {θ : Nat → Option (Nat × Nat)} {w : World} {v : Value} {sz n : Nat} {f : Nat → List AV} {t : Tag} (h : Rep I own θ w v (.slice sz n f t)) :
    ∃ a cap, v = .slice a n cap ∧ (a = none → n = 0) := by
  have key : ∀ {v : Value}, RepV I w v (.slice sz n f .none) → ∃ a cap, v = .slice a n cap ∧ (a = none → n = 0) := fun h => by
    cases h with
    | slice a _ cap _ _ us hcap hmax hz hn h1 hl hr => exact ⟨a, cap, rfl, fun ha => by have := hn ha; omega⟩
  cases h with
  | val v x h => cases h with
    | slice a _ cap _ _ us hcap hmax hz hn h1 hl hr => exact ⟨a, cap, rfl, fun ha => by have := hn ha; omega⟩
  | exact a _ _ _ h => exact key h
  | own nm _ e m a _ cap _ ho hm hv h => exact key h
  | fam b i _ e m a _ cap _ hi ho hm hv h => exact key h

theorem strCells_getD (s : ByteArray) (k : Nat) (hk : k < (bytesI s).length) : (Lib.strCells s).getD k undef = .int .u8 ((bytesI s).getD k 0) := by
  have hk' : k < s.data.toList.length := by simpa [bytesI] using hk
  simp [Lib.strCells, bytesI, List.getD, List.getElem?_map, List.getElem?_eq_getElem hk']

theorem ok_appendS (h : Rel Γ σ I θ a w) (hd : ∀ d, o.dst = some d → d < Γ.n) {xs : Array Operand} {x y : Operand} {ts : Array TypeId} (ho : o.op = .call { callee := .builtin .append, args := xs, argTypes := ts }) (hxs : xs.toList = [x, y])
    {vs : List AV} {es : List (Option Own)} (hvs : RepL I σ.own θ w [a.eval x, a.eval y] vs) (hes : es = (needs o vs).map σ.own) {d : Nat} (hdst : o.dst = some d) {e : Eff} (he : aAppendS P d ts.toList vs es = some e) (hob : ∀ p ∈ e.ob, p) :
    OpOK P Γ σ o a w e.v e.wo := by
  obtain ⟨u, v, rfl, hu, hv⟩ := hvs.two
  unfold aAppendS at he
  split at he
  · rename_i _ _ _ t t' sz n f tag s eo hts hvv
    simp only [List.cons.injEq, and_true] at hvv
    obtain ⟨rfl, rfl⟩ := hvv
    split at he
    · rename_i el hun hun'
      generalize hcond : (u8T P el && Nat.ble (((P.info? el).map (·.bytes)).getD 1000) 128 && (match (P.info? el).bind (·.zero) with | some (.int .u8 0) => true | _ => false) && (Nat.beq sz 1 || Nat.beq n 0)) = cond0 at he
      cases cond0 with
      | false => simp at he
      | true =>
        simp only [cond_true] at he
        simp only [Bool.and_eq_true] at hcond
        obtain ⟨⟨⟨h8, hby⟩, hzz⟩, hsz⟩ := hcond
        have hT : hasT P el = true ∧ szT P el = 1 := by
          unfold u8T at h8
          split at h8
          · simp only [Bool.and_eq_true] at h8
            exact ⟨h8.1, Nat.eq_of_beq_eq_true h8.2⟩
          · cases h8
        obtain ⟨i, dd, hi, _, hsi⟩ := hasT_inv hT.1
        have hs1 : i.size = 1 := hsi.symm.trans hT.2
        have hz : i.zero = some (.int .u8 0) := by
          rw [hi, Option.bind_some] at hzz
          split at hzz
          · assumption
          · cases hzz
        simp only [hi, Option.map_some, Option.getD_some] at hby
        have hby := Nat.le_of_ble_eq_true hby
        obtain ⟨b, hb, rfl⟩ := hv.str_inv
        have hlen : (bytesI b).length = b.size := bytesI_length b
        have hV := repV_sz0 hu.slice_val (szor hsz)
        obtain rfl : ts = #[t, t'] := by apply Array.ext'; simpa using hts
        obtain rfl : xs = #[x, y] := by apply Array.ext'; simpa using hxs
        have hV : RepV I w (a.eval x) (.slice i.size n f .none) := by rw [hs1]; exact hV
        have hl' : (Lib.strCells b).length = (bytesI b).length * i.size := by rw [Lib.strCells_length, hlen, hs1, Nat.mul_one]
        have hf' : ∀ k, k < (bytesI b).length → (strF (bytesI b) k).length = i.size := fun k _ => by rw [hs1]; rfl
        have hr' : ∀ k c, k < (bytesI b).length → c < i.size → RepV I w ((Lib.strCells b).getD (k * i.size + c) undef) ((strF (bytesI b) k).getD c .any) := fun k c hk hc => by
          rw [hs1] at hc
          obtain rfl : c = 0 := by omega
          rw [hs1, Nat.mul_one, Nat.add_zero, strCells_getD b k hk]
          exact .int _ _
        have hruns := fun (hroom : n + b.size ≤ room) (ad : Option Addr) (cap : Nat) (cs : List Value) (hl : cs.length = n * i.size) (hcap : n ≤ cap) (hnn : ad = none → cap = 0) (hc : 0 < n → ∃ b, ad = some b ∧ ∀ j u, cs[j]? = some u → w.cell? (b.add j) = some u) =>
          run_append_all_string (P := P) (w := w) (n := n) (cap := cap) (ad := ad) (cs := cs) o.type hun hun' hi hz hs1 b hl hcap hnn hc hroom hby
        rw [← hlen, ← hb] at hruns
        have hexec : ∀ v w', (Builtin.append_ #[t, t'] o.type #[a.eval x, a.eval y]).run P w = .ok v w' → (execOp a.eval o).run P w = .ok (.value v) w' := fun v w' hr => by
          simp [execOp, ho, resolve, invoke, builtin, hr]
        split at he
        · rename_i nm sz0 e0 m
          cases hc0 : (Nat.beq sz0 1 && Nat.beq e0 el) with
          | false => simp [hc0] at he
          | true =>
            simp only [hc0, cond_true, Option.some.injEq] at he
            subst he
            simp only [Bool.and_eq_true] at hc0
            obtain rfl := Nat.eq_of_beq_eq_true hc0.1
            obtain rfl := Nat.eq_of_beq_eq_true hc0.2
            have hmn : m = n := hob _ (by simp)
            have hroom : n + (bytesI b).length ≤ room := hob _ (by simp)
            subst hmn
            have hown : σ.own nm = some (.tok i.size e0 m) := by
              rw [hs1]
              simpa [needs, ho] using hes.symm
            have hown1 : σ.own nm = some (.tok 1 e0 m) := by rw [hown, hs1]
            have hcase := hu.own_inv hown1
            obtain ⟨v', w', I', θ', hr, hk, hrep⟩ := append_core (P := P) h o.type hun hi hz (by rw [hs1]; rfl) hby hV hl' (Lib.strCells_oneCell b) hf' hr' hroom (hruns hroom) nm (fun hn => by rw [hown] at hn; cases hn) (.inr ⟨hown, hcase⟩)
            rw [hs1] at hk hrep
            exact ok_chg h hd (hexec _ _ hr) (by rw [upd_one]; exact hk) (by rw [upd_one]; exact hrep)
        · simp only [Option.some.injEq] at he
          subst he
          have hroom : n + (bytesI b).length ≤ room := hob _ (by simp)
          have hown : σ.own d = none := by
            simpa [needs, ho, hdst] using hes.symm
          have hcase := hu.exact_inv
          obtain ⟨v', w', I', θ', hr, hk, hrep⟩ := append_core (P := P) h o.type hun hi hz (by rw [hs1]; rfl) hby hV hl' (Lib.strCells_oneCell b) hf' hr' hroom (hruns hroom) d (fun _ => hob _ (by simp)) (.inl ⟨hown, hcase⟩)
          rw [hs1] at hk hrep
          exact ok_chg h hd (hexec _ _ hr) (by rw [upd_one]; exact hk) (by rw [upd_one]; exact hrep)
        · simp at he
    · simp at he
  · simp at he

theorem run_equal_nilI {t : TypeId} {ms : Array (String × TypeId)} (ht : P.underlying t = some (.interface ms)) : (Op.equal t .nilIface .nilIface).run P w = .ok true w := by
  have h : ∀ d : Nat, (Op.equalIn (d + 1) t .nilIface .nilIface).run P w = .ok true w := fun d => by simp [Op.equalIn, run_underlying ht]
  exact h 9999
theorem run_equal_errI {t u : TypeId} {x : Value} {ms : Array (String × TypeId)} (ht : P.underlying t = some (.interface ms)) : (Op.equal t (.iface u x) .nilIface).run P w = .ok false w := by
  have h : ∀ d : Nat, (Op.equalIn (d + 1) t (.iface u x) .nilIface).run P w = .ok false w := fun d => by simp [Op.equalIn, run_underlying ht]
  exact h 9999

theorem asemI_sound (h : Rel Γ σ I θ a w) (hd : ∀ d, o.dst = some d → d < Γ.n) {vs : List AV} (hvs : RepL I σ.own θ w (o.op.operands.toList.map a.eval) vs) {es : List (Option Own)} (hes : es = (needs o vs).map σ.own)
    {hint : Bool} {e : Eff} (he : asemI P hint o vs es = some e) (hob : ∀ p ∈ e.ob, p) : OpOK P Γ σ o a w e.v e.wo := by
  unfold asemI at he
  split at he
  · -- range
    rename_i t x s ho
    simp only [ho, Op.operands, List.map_cons, List.map_nil] at hvs
    obtain ⟨u, hu', hu⟩ := hvs.one
    simp only [List.cons.injEq, and_true] at hu'
    subst hu'
    split at he
    · rename_i d hdst hty
      simp only [Option.some.injEq] at he
      subst he
      have hn : σ.own d = none := by simpa [needs, ho, hdst] using hes.symm
      obtain ⟨b, hb, rfl⟩ := hu.str_inv
      have k := chg_newobj h.chg.rel h.chg.valid hn (ob := .stringIter b 0) (.iter b 0)
      refine ok_chg h hd (v := .pointer (some ⟨w.heap.size, 0, none⟩)) (w' := w.alloc (.stringIter b 0)) ?_ (by rw [upd_one]; exact k) ?_
      · simp only [execOp, ho, hb]
        rw [show (Instr.range t (.string b)) = Instr.range t (.string b) from rfl]
        simp [Instr.range, run_underlying hty]
      · rw [upd_one]
        exact .optr d (.iter (bytesI b) 0) w.heap.size 0 (by simp [ownUp]) (by simp [thUp])
    · simp at he
  · -- next
    rename_i x nm l p ho
    simp only [ho, Op.operands, List.map_cons, List.map_nil] at hvs
    obtain ⟨u, hu', hu⟩ := hvs.one
    simp only [List.cons.injEq, and_true] at hu'
    subst hu'
    simp only [Option.some.injEq] at he
    subst he
    have hown : σ.own nm = some (.obj (.iter l p)) := by simpa [needs, ho] using hes.symm
    obtain ⟨y, g, c, ho', hg, hv⟩ := hu.optr_inv
    obtain ⟨g', c', ob, h1, h2, h3, h4⟩ := h.chg.rel.obj nm _ hown
    rw [hg] at h1
    simp only [Option.some.injEq, Prod.mk.injEq] at h1
    obtain ⟨rfl, rfl⟩ := h1
    cases h3 with
    | iter s =>
      have hsz : (bytesI s).length = s.size := bytesI_length s
      by_cases hp : p < s.size
      · have hb : Nat.blt p (bytesI s).length = true := by rw [hsz, Nat.blt_eq]; exact hp
        have k := chg_setobj h.chg.rel h.chg.valid hown hg (ob := .stringIter s (p + (Utf8.decode s p).2)) (.iter s (p + (Utf8.decode s p).2))
        have es : stepL (bytesI s) p = p + (Utf8.decode s p).2 := by unfold stepL; rw [hb, cond_true, decode_eq]
        rw [es, hb]
        refine ok_chg h hd (v := .tuple #[.bool true, .int .i64 p, .int .i32 (runeL (bytesI s) p)]) (w' := setO w g (.stringIter s (p + (Utf8.decode s p).2))) ?_ (by rw [upd_one]; exact k) (.val _ _ (.nxt1 _ _))
        simp only [execOp, ho, hv]
        simp [Instr.next, getObj, setObj, Sem.run, h2, hp, goInt, setO, runeL, decode_eq]
      · have hb : Nat.blt p (bytesI s).length = false := by
          cases hq : Nat.blt p (bytesI s).length with
          | false => rfl
          | true => rw [Nat.blt_eq, hsz] at hq; exact absurd hq hp
        have es : stepL (bytesI s) p = p := by unfold stepL; rw [hb, cond_false]
        rw [es, hb]
        have hup : ownUp σ.own nm (.obj (.iter (bytesI s) p)) = σ.own := by
          funext k
          simp only [ownUp]
          split
          · rename_i e; rw [e, hown]
          · rfl
        refine ok_chg h hd (v := .tuple #[.bool false]) (w' := w) (I' := I) (θ' := θ) ?_ (by rw [upd_one, hup]; exact .refl h.chg.rel h.chg.valid) (.val _ _ (.nxt0 _ _))
        simp only [execOp, ho, hv]
        simp [Instr.next, getObj, Sem.run, h2, hp]
  · -- an array
    rename_i t ho
    split at he
    · rename_i d len e0 z hdst hun hz
      have hn : σ.own d = none := by simpa [needs, ho, hdst] using hes.symm
      cases hb : (hint && hasT P e0 && Nat.ble 1 len && Nat.beq z.length (len * szT P e0) && Nat.ble len room) with
      | false => simp [hb] at he
      | true =>
        simp only [hb, cond_true, Option.some.injEq] at he
        subst he
        simp only [Bool.and_eq_true] at hb
        exact ok_allocarr h hd ho hdst hn hz (Nat.le_of_ble_eq_true hb.1.1.2) (Nat.eq_of_beq_eq_true hb.1.2) (Nat.le_of_ble_eq_true hb.2)
    · simp at he
  · -- its elements
    rename_i t x y nm n k i sz e' m f ho
    simp only [ho, Op.operands, List.map_cons, List.map_nil] at hvs
    obtain ⟨u, v, hu', hu, hv⟩ := hvs.two
    simp only [List.cons.injEq, and_true] at hu'
    obtain ⟨rfl, rfl⟩ := hu'
    have hown : σ.own nm = some (.arr sz e' m f) := by simpa [needs, ho] using hes.symm
    split at he
    · rename_i len e0 hun
      cases hb : (hasT P e0 && Nat.beq n len && Nat.beq sz (szT P e0)) with
      | false => simp [hb] at he
      | true =>
        simp only [hb, cond_true, Eff.pure, Option.some.injEq] at he
        subst he
        simp only [Bool.and_eq_true] at hb
        obtain rfl := Nat.eq_of_beq_eq_true hb.1.2
        exact ok_index_arr2 h hd ho hun hb.1.1 hu hv (hob _ (by simp)) hown (Nat.eq_of_beq_eq_true hb.2)
    · simp at he
  · -- extract 0
    rename_i x b i r ho
    simp only [ho, Op.operands, List.map_cons, List.map_nil] at hvs
    obtain ⟨u, hu', hu⟩ := hvs.one
    simp only [List.cons.injEq, and_true] at hu'
    subst hu'
    simp only [Eff.pure, Option.some.injEq] at he
    subst he
    rcases hu.nxt_inv with ⟨rfl, hv⟩ | ⟨rfl, hv⟩ <;> exact ok_pure h hd (by simp [execOp, ho, hv, Instr.extract]) (.val _ _ (.bool _))
  · -- extract 1
    rename_i x b i r ho
    simp only [ho, Op.operands, List.map_cons, List.map_nil] at hvs
    obtain ⟨u, hu', hu⟩ := hvs.one
    simp only [List.cons.injEq, and_true] at hu'
    subst hu'
    simp only [Eff.pure, Option.some.injEq] at he
    subst he
    rcases hu.nxt_inv with ⟨rfl, hv⟩ | ⟨hb, hv⟩
    · exact ok_pure h hd (by simp [execOp, ho, hv, Instr.extract]) (.val _ _ (.int _ _))
    · have := hob (b = true) (by simp)
      rw [hb] at this
      cases this
  · -- extract 2
    rename_i x b i r ho
    simp only [ho, Op.operands, List.map_cons, List.map_nil] at hvs
    obtain ⟨u, hu', hu⟩ := hvs.one
    simp only [List.cons.injEq, and_true] at hu'
    subst hu'
    simp only [Eff.pure, Option.some.injEq] at he
    subst he
    rcases hu.nxt_inv with ⟨rfl, hv⟩ | ⟨hb, hv⟩
    · exact ok_pure h hd (by simp [execOp, ho, hv, Instr.extract]) (.val _ _ (.int _ _))
    · have := hob (b = true) (by simp)
      rw [hb] at this
      cases this
  · -- append of a string
    rename_i xs ts sz n f tg s eo ho
    split at he
    · rename_i d hdst
      have this : o.op.operands.toList.map a.eval = xs.toList.map a.eval := by rw [ho]; simp [Op.operands, Call.operands]
      rw [this] at hvs
      cases hl : xs.toList with
      | nil => rw [hl] at hvs; cases hvs
      | cons x l =>
        cases l with
        | nil => rw [hl] at hvs; rcases hvs with _ | ⟨_, hvs⟩; cases hvs
        | cons y l' =>
          cases l' with
          | nil => rw [hl] at hvs; exact ok_appendS h hd ho hl hvs hes hdst he hob
          | cons _ _ => rw [hl] at hvs; rcases hvs with _ | ⟨_, hvs⟩; rcases hvs with _ | ⟨_, hvs⟩; cases hvs
    · simp at he
  · -- == nil, of an interface value
    rename_i t x y b u' ho
    simp only [ho, Op.operands, List.map_cons, List.map_nil] at hvs
    obtain ⟨u, v, hu', hu, hv⟩ := hvs.two
    simp only [List.cons.injEq, and_true] at hu'
    obtain ⟨rfl, rfl⟩ := hu'
    split at he
    · rename_i ms hun
      simp only [Eff.pure, Option.some.injEq] at he
      subst he
      have he : a.eval (.const .nilIface) = .nilIface := rfl
      rcases hu.err_inv with ⟨rfl, hv⟩ | ⟨rfl, t', z, hv⟩
      · exact ok_pure h hd (v := .bool true) (by simp only [execOp, ho, hv, he]; simp [binOp, eqGuard_nil_constR, run_equal_nilI hun]) (.val _ _ (.bool _))
      · exact ok_pure h hd (v := .bool false) (by simp only [execOp, ho, hv, he]; simp [binOp, eqGuard_at_iface, run_equal_errI hun]) (.val _ _ (.bool _))
    · simp at he
  · -- != nil
    rename_i t x y b u' ho
    simp only [ho, Op.operands, List.map_cons, List.map_nil] at hvs
    obtain ⟨u, v, hu', hu, hv⟩ := hvs.two
    simp only [List.cons.injEq, and_true] at hu'
    obtain ⟨rfl, rfl⟩ := hu'
    split at he
    · rename_i ms hun
      simp only [Eff.pure, Option.some.injEq] at he
      subst he
      have he : a.eval (.const .nilIface) = .nilIface := rfl
      rcases hu.err_inv with ⟨rfl, hv⟩ | ⟨rfl, t', z, hv⟩
      · exact ok_pure h hd (v := .bool false) (by simp only [execOp, ho, hv, he]; simp [binOp, eqGuard_nil_constR, run_equal_nilI hun]) (.val _ _ (.bool _))
      · exact ok_pure h hd (v := .bool true) (by simp only [execOp, ho, hv, he]; simp [binOp, eqGuard_at_iface, run_equal_errI hun]) (.val _ _ (.bool _))
    · simp at he
  · -- == nil
    rename_i t x y sz n f tg u' ho
    simp only [ho, Op.operands, List.map_cons, List.map_nil] at hvs
    obtain ⟨u, v, hu', hu, hv⟩ := hvs.two
    simp only [List.cons.injEq, and_true] at hu'
    obtain ⟨rfl, rfl⟩ := hu'
    split at he
    · rename_i e1 hun
      simp only [Eff.pure, Option.some.injEq] at he
      subst he
      obtain ⟨ad, cap, hv, hn⟩ := slice_nil_inv hu
      have hg : ∀ op, (eqGuard op t x (.const (.slice none 0 0)) (.slice ad n cap) (.slice none 0 0)).run P w = .ok () w := fun op => by cases op <;> rfl
      have he : a.eval (.const (.slice none 0 0)) = .slice none 0 0 := rfl
      exact ok_pure h hd (v := .bool ad.isNone) (by simp only [execOp, ho, hv, he]; simp [binOp, hg, run_equal_slice_nil _ _ _ _ _ _ hun]) (.val _ _ (.nilq _ _ _ (fun hb => hn (by simpa using hb))))
    · simp at he
  · -- != nil
    rename_i t x y sz n f tg u' ho
    simp only [ho, Op.operands, List.map_cons, List.map_nil] at hvs
    obtain ⟨u, v, hu', hu, hv⟩ := hvs.two
    simp only [List.cons.injEq, and_true] at hu'
    obtain ⟨rfl, rfl⟩ := hu'
    split at he
    · rename_i e1 hun
      simp only [Eff.pure, Option.some.injEq] at he
      subst he
      obtain ⟨ad, cap, hv, hn⟩ := slice_nil_inv hu
      have hg : ∀ op, (eqGuard op t x (.const (.slice none 0 0)) (.slice ad n cap) (.slice none 0 0)).run P w = .ok () w := fun op => by cases op <;> rfl
      have he : a.eval (.const (.slice none 0 0)) = .slice none 0 0 := rfl
      exact ok_pure h hd (v := .bool (!ad.isNone)) (by simp only [execOp, ho, hv, he]; simp [binOp, hg, run_equal_slice_nil _ _ _ _ _ _ hun]) (.val _ _ (.nilq _ _ _ (fun hb => hn (by simpa using hb))))
    · simp at he
  · -- elements written out
    rename_i t len parts ho
    cases hint with
    | false => simp at he
    | true =>
      simp only [cond_true] at he
      split at he
      · rename_i d hdst
        have hn : σ.own d = none := by simpa [needs, ho, hdst] using hes.symm
        have hvs' := hvs
        rw [show o.op.operands.toList.map a.eval = parts.toList.map (fun p => a.eval p.2) by simp [ho, Op.operands, List.map_map, Function.comp_def]] at hvs'
        exact ok_buildRow h hd ho hdst hn (partsOK _ _ hvs') he
      · simp at he
  · simp at he
end
end Go.Proofs.Ytcpopeamoipjlaa
