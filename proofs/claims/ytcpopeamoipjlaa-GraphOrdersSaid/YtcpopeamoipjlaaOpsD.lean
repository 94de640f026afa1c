/-
  Literals of structs, arrays and slices; cuts of slices.
-/
import Derived.Test.YtcpopeamoipjlaaOpsC
namespace Go.Proofs.Ytcpopeamoipjlaa
open Go Go.RowKit

theorem foldl_set_get (off : Nat) : ∀ (l : List Value) (i : Nat) (cs : Array Value) (k : Nat), off + i + l.length ≤ cs.size →
    ((l.zipIdx i).foldl (fun (cs : Array Value) (p : Value × Nat) => cs.setIfInBounds (off + p.2) p.1) cs)[k]? = if off + i ≤ k ∧ k < off + i + l.length then l[k - (off + i)]? else cs[k]?
  | [], i, cs, k, _ => by simp; omega
  | v :: l, i, cs, k, h => by
    simp only [List.length_cons] at h
    simp only [List.zipIdx_cons, List.foldl_cons]
    rw [foldl_set_get off l (i + 1) _ k (by simp; omega), Array.getElem?_setIfInBounds]
    by_cases h1 : k = off + i
    · subst h1
      have h0 : i + off < cs.size := by omega
      rw [if_neg (by omega), if_pos rfl, if_pos (by omega), if_pos (by simp)]
      simp
    · by_cases h2 : off + i ≤ k ∧ k < off + i + (l.length + 1)
      · rw [if_pos (by omega), if_pos (by simpa using h2)]
        have : k - (off + i) = (k - (off + (i + 1))) + 1 := by omega
        rw [this, List.getElem?_cons_succ]
      · rw [if_neg (by omega), if_neg (by omega), if_neg (by simpa using h2)]
theorem foldl_set_size (off : Nat) : ∀ (l : List Value) (i : Nat) (cs : Array Value),
    ((l.zipIdx i).foldl (fun (cs : Array Value) (p : Value × Nat) => cs.setIfInBounds (off + p.2) p.1) cs).size = cs.size
  | [], _, _ => rfl
  | _ :: l, i, cs => by simp only [List.zipIdx_cons, List.foldl_cons]; rw [foldl_set_size off l (i + 1)]; simp

theorem fill_step (off : Nat) (c cs : Array Value) (j : Nat) (h : off + c.size ≤ cs.size) :
    (c.zipIdx.foldl (fun (cs : Array Value) (p : Value × Nat) => cs.setIfInBounds (off + p.2) p.1) cs).getD j undef = if off ≤ j ∧ j < off + c.size then c.getD (j - off) undef else cs.getD j undef := by
  rw [← Array.foldl_toList, Array.toList_zipIdx]
  have := foldl_set_get off c.toList 0 cs j (by simpa using h)
  simp only [Nat.add_zero, Array.length_toList, Array.getElem?_toList] at this
  simp only [Array.getD_eq_getD_getElem?, this]
  split <;> rfl
theorem fill_step_size (off : Nat) (c cs : Array Value) : (c.zipIdx.foldl (fun (cs : Array Value) (p : Value × Nat) => cs.setIfInBounds (off + p.2) p.1) cs).size = cs.size := by
  rw [← Array.foldl_toList, Array.toList_zipIdx]
  exact foldl_set_size off c.toList 0 cs

section
variable {P : Program} {Γ : Env} {σ : Sto} {I : Nat → Nat → Prop} {θ : Nat → Option (Nat × Nat)} {a : Act} {w : World} {o : Oper}

/-- Parts, by place: each as its value. -/
inductive PartsOK (I : Nat → Nat → Prop) (own : Nat → Option Own) (θ : Nat → Option (Nat × Nat)) (w : World) : List (Nat × Value) → List (Nat × AV) → Prop
  | nil : PartsOK I own θ w [] []
  | cons {i : Nat} {v : Value} {x : AV} {l : List (Nat × Value)} {m : List (Nat × AV)} (h : Rep I own θ w v x) (t : PartsOK I own θ w l m) : PartsOK I own θ w ((i, v) :: l) ((i, x) :: m)

theorem fill_sound (place : Nat → Option (Nat × Nat)) {l : List (Nat × Value)} {m : List (Nat × AV)} (hp : PartsOK I σ.own θ w l m) : ∀ {vs : Array Value} {cs cs' : List AV}, CellsOK I σ.own θ w vs cs → fillA place cs m = some cs' →
    ∃ vs', Instr.fill place vs l = some vs' ∧ CellsOK I σ.own θ w vs' cs' := by
  induction hp with
  | nil => intro vs cs cs' h hf; simp only [fillA, Option.some.injEq] at hf; subst hf; exact ⟨vs, rfl, h⟩
  | @cons i v x l m hv _ ih =>
    intro vs cs cs' h hf
    simp only [fillA] at hf
    cases hpl : place i with
    | none => simp [hpl] at hf
    | some os =>
      obtain ⟨off, size⟩ := os
      cases hx : x.cells with
      | none => simp [hpl, hx] at hf
      | some xs =>
        simp only [hpl, hx] at hf
        cases h1 : Nat.beq xs.length size with
        | false => simp [h1] at hf
        | true =>
          cases h2 : Nat.ble (off + xs.length) cs.length with
          | false => simp [h1, h2] at hf
          | true =>
            simp only [h1, h2, Bool.and_self, cond_true] at hf
            have h1' := Nat.eq_of_beq_eq_true h1
            have h2' := Nat.le_of_ble_eq_true h2
            have hc := cells_sound hx hv
            have hle : off + v.cells.size ≤ vs.size := by rw [hc.size, h.size]; exact h2'
            have hlen2 : (cs.take off ++ xs ++ cs.drop (off + xs.length)).length = cs.length := by
              simp only [List.length_append, List.length_take, List.length_drop]; omega
            obtain ⟨vs', hf', hok⟩ := ih (vs := v.cells.zipIdx.foldl (fun (cs : Array Value) (p : Value × Nat) => cs.setIfInBounds (off + p.2) p.1) vs) (by
              refine ⟨by rw [fill_step_size, hlen2, h.size], fun j hj => ?_, fun j hj => ?_⟩ <;> rw [hlen2] at hj <;> rw [fill_step off _ _ j hle, hc.size]
              · split
                · exact hc.one _ (by omega)
                · exact h.one _ hj
              · rw [take_mid_getD _ _ _ _ _ h2']
                split
                · exact hc.rep _ (by omega)
                · exact h.rep _ hj) hf
            refine ⟨vs', ?_, hok⟩
            have hn : ¬ (v.cells.size ≠ size || decide (off + v.cells.size > vs.size)) = true := by
              simp only [Bool.or_eq_true, decide_eq_true_eq, not_or]
              rw [hc.size]
              exact ⟨by simpa using h1', by rw [h.size]; omega⟩
            simp only [Instr.fill, hpl, if_neg hn]
            exact hf'

theorem ok_build (h : Rel Γ σ I θ a w) (hd : ∀ d, o.dst = some d → d < Γ.n) {t : TypeId} {parts : Array (Nat × Operand)} (ho : o.op = .build t parts) {is : List Nat} {vs : List AV}
    (hp : PartsOK I σ.own θ w (parts.toList.map fun p => (p.1, a.eval p.2)) (is.zip vs)) {e : Eff} (he : aBuild P t is vs = some e) : e.wo = [] ∧ OpOK P Γ σ o a w e.v [] := by
  unfold aBuild at he
  split at he
  · rename_i z fields hz hu
    cases hf : fields.toList.all (fun f => hasT P f.type) with
    | false => simp [hf] at he
    | true =>
      simp only [hf, cond_true] at he
      split at he
      · rename_i cs hfill
        simp only [Eff.pure, Option.some.injEq] at he
        subst he
        obtain ⟨i, v, hi, hv, h1, rfl⟩ := zeroA_inv hz
        obtain ⟨vs', hfi, hok⟩ := fill_sound _ hp (cells_ofCell h1) hfill
        refine ⟨rfl, ok_pure h hd (v := .agg vs') ?_ (.agg _ _ hok.size hok.one hok.rep)⟩
        have hsz : ∀ f ∈ fields.toList, hasT P f.type = true := fun f hm => List.all_eq_true.1 hf f hm
        have hm : (fields.mapM (fun f : Field => (do pure (f.offset, ← sizeOf f.type) : Sem (Nat × Nat)))).run P w = .ok (fields.map fun f => (f.offset, szT P f.type)) w := by
          rw [Array.mapM_eq_mapM_toList]
          have key : ∀ l : List Field, (∀ f ∈ l, hasT P f.type = true) → (l.mapM (fun f : Field => (do pure (f.offset, ← sizeOf f.type) : Sem (Nat × Nat)))).run P w = .ok (l.map fun f => (f.offset, szT P f.type)) w := by
            intro l
            induction l with
            | nil => intro _; simp
            | cons f l ih =>
              intro hl
              simp only [List.mapM_cons, Sem.run_bind, run_sizeOf' (hl f (by simp)), Result.andThen_ok, Sem.run_pure, ih (fun g hg => hl g (by simp [hg])), List.map_cons]
          rw [Sem.run_map, key _ hsz]
          simp only [Result.andThen_ok, Result.ok.injEq, and_true]
          apply Array.ext'
          simp
        have e1 : (fun x : Nat => (fields.map fun f : Field => (f.offset, szT P f.type))[x]?) = fun i : Nat => (fields.toList.map fun f : Field => (f.offset, szT P f.type))[i]? := by
          funext i; simp
        have e2 : (parts.map fun x => (x.1, a.eval x.2)).toList = parts.toList.map fun p => (p.1, a.eval p.2) := by simp
        simp only [execOp, ho, Instr.build, Sem.run_bind, run_zero hi hv, Result.andThen_ok, run_underlying hu, hm, Sem.run_pure, e1, e2, hfi]
      · simp at he
  · rename_i z n e hz hu
    cases hf : hasT P e with
    | false => simp [hf] at he
    | true =>
      simp only [hf, cond_true] at he
      split at he
      · rename_i cs hfill
        simp only [Eff.pure, Option.some.injEq] at he
        subst he
        obtain ⟨i, v, hi, hv, h1, rfl⟩ := zeroA_inv hz
        obtain ⟨vs', hfi, hok⟩ := fill_sound _ hp (cells_ofCell h1) hfill
        refine ⟨rfl, ok_pure h hd (v := .agg vs') ?_ (.agg _ _ hok.size hok.one hok.rep)⟩
        have e2 : (parts.map fun x => (x.1, a.eval x.2)).toList = parts.toList.map fun p => (p.1, a.eval p.2) := by simp
        simp only [execOp, ho, Instr.build, Sem.run_bind, run_zero hi hv, Result.andThen_ok, run_underlying hu, run_sizeOf' hf, Sem.run_pure, e2, hfi]
      · simp at he
  · simp at he

/-- Cells that came new into the world never change: told so. -/
def immUp (I : Nat → Nat → Prop) (g n : Nat) : Nat → Nat → Prop := fun b o => I b o ∨ (b = g ∧ o < n)

theorem chg_newimm {own : Nat → Option Own} (hrel : OwnRel I own θ w) (hval : ∀ b o, I b o → ∃ u, w.cell? ⟨b, o, none⟩ = some u) (vs : Array Value) (e : TypeId) :
    Chg own θ I w own θ (immUp I w.heap.size vs.size) (w.alloc (.cells vs e)) := by
  have hcell : ∀ b o, I b o → (w.alloc (.cells vs e)).cell? ⟨b, o, none⟩ = w.cell? ⟨b, o, none⟩ := fun b o hi => by
    obtain ⟨u, hu⟩ := hval b o hi
    exact alloc_cell _ hu
  have hle : ∀ nm o, own nm = some o → ∃ o', own nm = some o' ∧ OwnLe o (θ nm) o' (θ nm) := fun nm o ho => ⟨o, ho, .refl _ _⟩
  have hmono : ∀ v x, Rep I own θ w v x → Rep (immUp I w.heap.size vs.size) own θ (w.alloc (.cells vs e)) v x := fun v x h => h.mono (fun _ _ h => .inl h) hcell hle
  refine { imm := fun _ _ h => .inl h, cell := hcell, le := hle, rel := ?_, valid := fun b o hi => ?_, os := rfl, tape := rfl, output := rfl, grow := by simp, frame := fun b hb _ => _root_.Go.heap_alloc_old w _ hb,
           new := fun nm g c ho hg => .inr ⟨nm, c, ho, hg⟩, immNew := fun b o h => ?_ }
  · refine ownRel_upd hrel (fun _ => False) hmono (fun nm _ => ⟨rfl, rfl⟩) (fun nm g c _ ho hg => ⟨_root_.Go.heap_alloc_old w _ (owned_lt hrel ho hg), fun j h => ?_⟩) (fun _ _ _ h => h.elim) (fun _ _ _ _ h => h.elim) (fun _ _ _ _ _ h => h.elim) (fun _ _ h => h.elim) (hobj' := fun _ _ h => h.mono (fun _ _ h => .inl h) hcell)
    have := owned_lt hrel ho hg
    rcases h with h | ⟨h, _⟩
    · exact h
    · omega
  · rcases hi with hi | ⟨rfl, hlt⟩
    · obtain ⟨u, hu⟩ := hval b o hi
      exact ⟨u, (hcell b o hi).trans hu⟩
    · exact ⟨vs[o], by rw [cell_of_row _ _ _ vs e (0, 0) (_root_.Go.heap_alloc_new w _)]; simp [hlt]⟩
  · rcases h with h | ⟨rfl, _⟩
    · exact .inl h
    · exact .inr (.inl (Nat.le_refl _))

theorem chunk_get (sz : Nat) : ∀ (n : Nat) (l : List AV) (i : Nat), i < n → (chunk sz n l).getD i [] = (l.drop (i * sz)).take sz
  | 0, _, i, h => by omega
  | n + 1, l, 0, _ => by simp [chunk]
  | n + 1, l, i + 1, h => by
    have := chunk_get sz n (l.drop sz) i (by omega)
    simp only [chunk, List.getD_cons_succ, this, List.drop_drop]
    congr 2
    rw [Nat.add_mul]; omega

/-- Cells that lie in memory and are told by value. -/
theorem rep_chunks {w' : World} {I' : Nat → Nat → Prop} {vs : Array Value} {cs : List AV} (hc : ∀ j, j < cs.length → (vs.getD j undef).oneCell' = true ∧ RepV I' w' (vs.getD j undef) (cs.getD j .any))
    {g cap n sz : Nat} (hn : cs.length = n * sz) (hcap : n ≤ cap) (hmax : cap ≤ maxLen) (hI : ∀ j, j < n * sz → I' g j) (hcell : ∀ j, j < n * sz → w'.cell? ⟨g, j, none⟩ = some (vs.getD j undef))
    {f : Nat → List AV} (hf : ∀ i, i < n → f i = (cs.drop (i * sz)).take sz) :
    RepV I' w' (.slice (some ⟨g, 0, none⟩) n cap) (.slice sz n f .none) := by
  have hpos : ∀ i c, i < n → c < sz → i * sz + c < n * sz := fun i c hi hc => by
    have : (i + 1) * sz ≤ n * sz := Nat.mul_le_mul_right _ hi
    rw [Nat.add_mul] at this
    omega
  refine .slice _ n cap sz f (fun j => vs.getD j undef) hcap hmax (fun _ => ⟨_, rfl, rfl, fun j hj => by simpa using hI j hj, fun j hj => by simpa using hcell j hj⟩) (by simp) (fun j hj => (hc j (by omega)).1) (fun i hi => ?_) (fun i c hi hc' => ?_)
  · rw [hf i hi]
    have : (i + 1) * sz ≤ n * sz := Nat.mul_le_mul_right _ hi
    rw [Nat.add_mul] at this
    simp; omega
  · rw [hf i hi, drop_take_getD _ _ _ _ _ hc']
    exact (hc _ (by rw [hn]; exact hpos i c hi hc')).2

theorem stripAll_id_getD (cs : List AV) (j : Nat) : (AV.stripAll cs).getD j .any = (cs.getD j .any).strip := stripAll_getD cs j

theorem flatten_replicate_getD {α : Type} (d : α) (z : List α) (len j : Nat) (hj : j < len * z.length) : ((List.replicate len z).flatten).getD j d = z.getD (j % z.length) d := by
  induction len generalizing j with
  | zero => omega
  | succ n ih =>
    rw [List.replicate_succ, List.flatten_cons]
    by_cases h : j < z.length
    · rw [List.getD, List.getElem?_append_left h, Nat.mod_eq_of_lt h]; rfl
    · rw [List.getD, List.getElem?_append_right (by omega)]
      rw [Nat.add_mul] at hj
      have := ih (j - z.length) (by omega)
      rw [List.getD] at this
      rw [this, ← Nat.mod_eq_sub_mod (by omega)]

theorem cells_replicate {vz : Array Value} {z : List AV} (h : CellsOK I σ.own θ w vz z) (len sz : Nat) (hs : z.length = sz) (h1 : 1 ≤ sz) :
    CellsOK I σ.own θ w ((Array.range (len * sz)).map (vz[· % vz.size]!)) ((List.replicate len z).flatten) := by
  have hzl : ((List.replicate len z).flatten).length = len * sz := by simp [hs]
  have hv : vz.size = sz := by rw [h.size, hs]
  have hget : ∀ j, j < len * sz → ((Array.range (len * sz)).map (vz[· % vz.size]!)).getD j undef = vz.getD (j % sz) undef := fun j hj => by
    have hm : j % sz < vz.size := by rw [hv]; exact Nat.mod_lt _ (by omega)
    rw [hv]
    rw [Array.getD_eq_getD_getElem?, Array.getElem?_map, Array.getElem?_range, if_pos hj]
    simp [Array.getD, hm]
  refine ⟨by simp [hs], fun j hj => ?_, fun j hj => ?_⟩ <;> rw [hzl] at hj <;> rw [hget j hj] <;> have hm : j % sz < z.length := by rw [hs]; exact Nat.mod_lt _ (by omega)
  · exact h.one _ hm
  · rw [flatten_replicate_getD _ _ _ _ (by rw [hs]; exact hj), hs]
    exact h.rep _ hm

theorem fillA_length (place : Nat → Option (Nat × Nat)) : ∀ (m : List (Nat × AV)) (cs cs' : List AV), fillA place cs m = some cs' → cs'.length = cs.length
  | [], cs, cs', h => by simp only [fillA, Option.some.injEq] at h; rw [h]
  | (i, x) :: m, cs, cs', h => by
    simp only [fillA] at h
    split at h
    · rename_i off size xs _ _
      cases h1 : (Nat.beq xs.length size && Nat.ble (off + xs.length) cs.length) with
      | false => simp [h1] at h
      | true =>
        simp only [h1, cond_true] at h
        rw [fillA_length place m _ _ h]
        simp only [Bool.and_eq_true] at h1
        have := Nat.le_of_ble_eq_true h1.2
        simp; omega
    · simp at h

theorem ok_buildSlice (h : Rel Γ σ I θ a w) (hd : ∀ d, o.dst = some d → d < Γ.n) {t : TypeId} {len : Nat} {parts : Array (Nat × Operand)} (ho : o.op = .buildSlice t len parts) {is : List Nat} {vs : List AV}
    (hp : PartsOK I σ.own θ w (parts.toList.map fun p => (p.1, a.eval p.2)) (is.zip vs)) {e : Eff} (he : aBuildSlice P t len is vs = some e) : e.wo = [] ∧ OpOK P Γ σ o a w e.v [] := by
  unfold aBuildSlice at he
  split at he
  · rename_i el hu
    split at he
    · rename_i z hz
      cases hb : (hasT P el && Nat.beq z.length (szT P el) && Nat.ble 1 (szT P el) && Nat.ble (len * szT P el) 16777216) with
      | false => simp [hb] at he
      | true =>
        simp only [hb, cond_true] at he
        simp only [Bool.and_eq_true] at hb
        obtain ⟨⟨⟨hT, hzl⟩, h1⟩, hmax⟩ := hb
        have hzl := Nat.eq_of_beq_eq_true hzl
        have h1 := Nat.le_of_ble_eq_true h1
        have hmax := Nat.le_of_ble_eq_true hmax
        split at he
        · rename_i cs hfill
          simp only [Eff.pure, Option.some.injEq] at he
          subst he
          obtain ⟨i, v, hi, hv, hone, rfl⟩ := zeroA_inv hz
          have hcells := cells_replicate (cells_ofCell (I := I) (σ := σ) (θ := θ) (w := w) hone) len (szT P el) hzl h1
          obtain ⟨vs', hfi, hok⟩ := fill_sound _ hp hcells hfill
          have hlen := fillA_length _ _ _ _ hfill
          have hzl' : v.cells.size = szT P el := by simpa using hzl
          have hcl : cs.length = len * szT P el := by rw [hlen]; simp [hzl']
          have k := chg_newimm (own := σ.own) h.chg.rel h.chg.valid vs' el
          have hlm : len ≤ maxLen := by
            have : len * 1 ≤ len * szT P el := Nat.mul_le_mul_left _ h1
            unfold maxLen
            omega
          -- what is in the cells by value
          have hval : ∀ j, j < cs.length → (vs'.getD j undef).oneCell' = true ∧ RepV (immUp I w.heap.size vs'.size) (w.alloc (.cells vs' el)) (vs'.getD j undef) ((cs.getD j .any).strip) := fun j hj =>
            ⟨hok.one j hj, ((hok.rep j hj).chg k).strip⟩
          have hvs : vs'.size = len * szT P el := by rw [hok.size, hcl]
          have hrun : (execOp a.eval o).run P w = .ok (.value (.slice (some ⟨w.heap.size, 0, none⟩) len len)) (w.alloc (.cells vs' el)) := by
            have e2 : (parts.map fun x => (x.1, a.eval x.2)).toList = parts.toList.map fun p => (p.1, a.eval p.2) := by simp
            have hm2 : ¬ (len * szT P el > 2 ^ 24) := by omega
            by_cases h0 : len * szT P el = 0
            · have e3 : (Array.range (len * szT P el)).map (v.cells[· % v.cells.size]!) = (Array.range (len * szT P el)).map ((#[] : Array Value)[· % (#[] : Array Value).size]!) := by
                rw [h0]; simp
              rw [e3] at hfi
              simp only [execOp, ho, Instr.buildSlice, Sem.run_bind, Result.andThen_ok, run_underlying hu, run_sizeOf' hT, if_neg hm2, if_pos h0, Sem.run_pure, e2, hfi]
              simp [newRow]
            · simp only [execOp, ho, Instr.buildSlice, Sem.run_bind, Result.andThen_ok, run_underlying hu, run_sizeOf' hT, if_neg hm2, if_neg h0, run_zero hi hv, Sem.run_pure, e2, hfi]
              simp [newRow]
          refine ⟨rfl, ok_chg h hd hrun k ?_⟩
          refine .exact _ _ _ _ (rep_chunks (vs := vs') (cs := AV.stripAll cs) (fun j hj => ?_) (by rw [stripAll_length]; exact hcl) (Nat.le_refl _) hlm (fun j hj => .inr ⟨rfl, by rw [hvs]; exact hj⟩) (fun j hj => ?_) (fun i hi => chunk_get _ _ _ _ hi))
          · rw [stripAll_length] at hj
            rw [stripAll_getD]
            exact hval j hj
          · rw [cell_of_row _ _ _ vs' el (0, 0) (_root_.Go.heap_alloc_new w _)]
            exact agetD_of (by omega)
        · simp at he
    · simp at he
  · simp at he
end
end Go.Proofs.Ytcpopeamoipjlaa
