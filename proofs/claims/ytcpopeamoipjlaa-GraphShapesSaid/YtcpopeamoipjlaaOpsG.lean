/-
  append, in the store; and all operations together.
-/
import Derived.Test.YtcpopeamoipjlaaOpsF
namespace Go.Proofs.Ytcpopeamoipjlaa
open Go Go.RowKit

section
variable {P : Program} {Γ : Env} {σ : Sto} {I : Nat → Nat → Prop} {θ : Nat → Option (Nat × Nat)} {a : Act} {w : World} {o : Oper}

theorem list_toArray_getD (l : List Value) (j : Nat) : (l.toArray).getD j undef = l.getD j undef := by simp [Array.getD_eq_getD_getElem?, List.getD]

theorem Rep.own_inv {own : Nat → Option Own} {v : Value} {sz n nm s0 : Nat} {e0 : TypeId} {f : Nat → List AV} (h : Rep I own θ w v (.slice sz n f (.own nm))) (ho : own nm = some (.tok s0 e0 n)) :
    ∃ ad cap, v = .slice ad n cap ∧ (match θ nm with | none => cap = n | some (g, c) => ad = some ⟨g, 0, none⟩ ∧ cap = c) := by
  cases h with
  | val v x h => obtain ⟨h, _⟩ := h.slice_inv; cases h
  | own nm sz e m' ad n cap f ho' hm hv' h' =>
    rw [ho] at ho'
    simp only [Option.some.injEq, Own.tok.injEq] at ho'
    exact ⟨ad, cap, rfl, hv' (by omega)⟩
theorem Rep.exact_inv {own : Nat → Option Own} {v : Value} {sz n : Nat} {f : Nat → List AV} (h : Rep I own θ w v (.slice sz n f .exact)) : ∃ ad, v = .slice ad n n := by
  cases h with
  | val v x h => obtain ⟨h, _⟩ := h.slice_inv; cases h
  | exact ad n sz f h => exact ⟨ad, rfl⟩

/-- What 'append' does, told by what becomes of the token. -/
theorem append_core (h : Rel Γ σ I θ a w) {t e : TypeId} {i : TypeInfo} {z : Value} (ty : TypeId) (ht : P.underlying t = some (.slice e)) (hi : P.info? e = some i) (hz : i.zero = some z) (hzs : z.cells.size = i.size) (hby : i.bytes ≤ 128)
    {ts : Array TypeId} {n n' : Nat} {f f' : Nat → List AV} {vs vx : Value} (hvs : RepV I w vs (.slice i.size n f .none)) {cs' : List Value} (hl' : cs'.length = n' * i.size) (h1' : ∀ u ∈ cs', u.oneCell' = true)
    (hf' : ∀ k, k < n' → (f' k).length = i.size) (hr' : ∀ k c, k < n' → c < i.size → RepV I w (cs'.getD (k * i.size + c) undef) ((f' k).getD c .any)) (hroom : n + n' ≤ room)
    (hrun : ∀ (ad : Option Addr) (cap : Nat) (cs : List Value), cs.length = n * i.size → n ≤ cap → (ad = none → cap = 0) → (0 < n → ∃ b, ad = some b ∧ ∀ j u, cs[j]? = some u → w.cell? (b.add j) = some u) → AppRuns P ts ty e i z w ad n cap vx n' cs cs') (nm : Nat) (h8 : σ.own nm = none → e = tokU8 → n = 0 ∨ 0 < n')
    (hcase : (σ.own nm = none ∧ ∃ ad, vs = .slice ad n n) ∨
      (σ.own nm = some (.tok i.size e n) ∧ ∃ ad cap, vs = .slice ad n cap ∧ (match θ nm with | none => cap = n | some (g, c) => ad = some ⟨g, 0, none⟩ ∧ cap = c))) :
    ∃ v w' I' θ', (Builtin.append_ ts ty #[vs, vx]).run P w = .ok v w' ∧ Chg σ.own θ I w (ownUp σ.own nm (.tok i.size e (n + n'))) θ' I' w' ∧
      Rep I' (ownUp σ.own nm (.tok i.size e (n + n'))) θ' w' v (.slice i.size (n + n') (appF n f f') (.own nm)) := by
  obtain ⟨ad, cap, cs, rfl, hcap, hmax, hnn, hl, h1, hf, hr, hc⟩ := cells_list hvs
  have hrun := hrun ad cap cs hl hcap hnn (fun hp => by obtain ⟨b, h1, _, _, h4⟩ := hc hp; exact ⟨b, h1, h4⟩)
  obtain ⟨r0, r1, r2⟩ := hrun
  have hrel := h.chg.rel
  have hval := h.chg.valid
  have hmaxr : n + n' ≤ maxLen := by unfold room at hroom; unfold maxLen; omega
  -- nothing is appended
  by_cases hz' : n' = 0
  · subst hz'
    rcases hcase with ⟨hno, ad', hv⟩ | ⟨hown, ad', cap1, hv, hθ⟩
    · simp only [Value.slice.injEq, true_and] at hv
      obtain ⟨rfl, hcn⟩ := hv
      subst hcn
      refine ⟨_, w, I, thUp θ nm none, r0 rfl, chg_tok hrel (fun _ _ h => h) (fun _ _ _ => rfl) (.inl hno) (fun _ _ _ => rfl) (fun _ _ h => .inl h) hval rfl rfl rfl (Nat.le_refl _) (by simp) (by simp) (fun _ he => by rcases h8 hno he with h | h <;> omega), ?_⟩
      refine .own nm _ e (cap + 0) ad cap cap _ (by simp [ownUp]) (Nat.le_refl _) (fun _ => by simp [thUp]) ?_
      refine .slice ad cap cap _ _ (fun j => cs.getD j undef) hcap hmax (fun hp => ?_) hnn (fun j hj => ?_) (fun i hi => by rw [appF_lt _ _ hi]; exact hf i hi) (fun i c hi hc'' => by rw [appF_lt _ _ hi]; exact hr i c hi hc'')
      · obtain ⟨b, h1, h2, h3, h4⟩ := hc hp
        refine ⟨b, h1, h2, h3, fun j hj => ?_⟩
        have := h4 j _ (getD_of undef (by omega))
        rwa [add_none h2] at this
      · exact h1 _ (by rw [List.getD, List.getElem?_eq_getElem (by omega)]; exact List.getElem_mem _)
    · simp only [Value.slice.injEq, true_and] at hv
      obtain ⟨rfl, rfl⟩ := hv
      have hown' : ownUp σ.own nm (.tok i.size e (n + 0)) = σ.own := by
        funext k
        by_cases hk : k = nm
        · subst hk; simp [ownUp, hown]
        · simp [ownUp, hk]
      rw [hown']
      refine ⟨_, w, I, θ, r0 rfl, .refl hrel hval, .own nm _ e n ad n cap _ hown (Nat.le_refl _) (fun _ => hθ) ?_⟩
      refine .slice ad n cap _ _ (fun j => cs.getD j undef) hcap hmax (fun hp => ?_) hnn (fun j hj => ?_) (fun i hi => by rw [appF_lt _ _ hi]; exact hf i hi) (fun i c hi hc'' => by rw [appF_lt _ _ hi]; exact hr i c hi hc'')
      · obtain ⟨b, h1, h2, h3, h4⟩ := hc hp
        refine ⟨b, h1, h2, h3, fun j hj => ?_⟩
        have := h4 j _ (getD_of undef (by omega))
        rwa [add_none h2] at this
      · exact h1 _ (by rw [List.getD, List.getElem?_eq_getElem (by omega)]; exact List.getElem_mem _)
  · have hp : 0 < n' := Nat.pos_of_ne_zero hz'
    have hlen : (cs ++ cs').length = (n + n') * i.size := by rw [List.length_append, hl, hl', Nat.add_mul]
    -- a new block
    by_cases hg : cap < n + n'
    · obtain ⟨zs, nc, hnc, hnc', hzsz, hrun⟩ := r2 hp hg
      have hheap : (w.drew.alloc (.cells (cs.toArray ++ cs'.toArray ++ zs) e)).heap[w.heap.size]? = some (.cells (cs.toArray ++ cs'.toArray ++ zs) e (0, 0)) := _root_.Go.heap_alloc_new w.drew _
      have hcellI : ∀ b o, I b o → (w.drew.alloc (.cells (cs.toArray ++ cs'.toArray ++ zs) e)).cell? ⟨b, o, none⟩ = w.cell? ⟨b, o, none⟩ := fun b o hi => by
        obtain ⟨u, hu⟩ := hval b o hi
        exact alloc_cell (w := w.drew) _ (by simpa using hu)
      have hcellN : ∀ j, j < (n + n') * i.size → (w.drew.alloc (.cells (cs.toArray ++ cs'.toArray ++ zs) e)).cell? ⟨w.heap.size, j, none⟩ = some ((cs ++ cs').getD j undef) := fun j hj => by
        rw [cell_of_row _ _ _ _ e (0, 0) hheap]
        rw [Array.getElem?_append_left (by simp at hlen ⊢; omega)]
        have : cs.toArray ++ cs'.toArray = (cs ++ cs').toArray := by simp
        rw [this]
        simpa using getD_of undef (by omega : j < (cs ++ cs').length)
      have hmono : ∀ v x, RepV I w v x → RepV (immUp I w.heap.size ((n + n') * i.size)) (w.drew.alloc (.cells (cs.toArray ++ cs'.toArray ++ zs) e)) v x := fun v x h => h.mono (fun _ _ h => .inl h) hcellI
      have hnI : ∀ j, ¬ I w.heap.size j := fun j hj => by obtain ⟨u, hu⟩ := hval _ _ hj; exact Nat.lt_irrefl _ (cell_lt hu)
      refine ⟨_, _, immUp I w.heap.size ((n + n') * i.size), thUp θ nm (some (w.heap.size, nc)), hrun, chg_tok hrel (fun _ _ h => .inl h) hcellI ?_ (fun b hb _ => _root_.Go.heap_alloc_old w.drew _ hb) (fun b o h => ?_) (fun b o h => ?_) rfl rfl rfl (by simp) (fun g c hgc => ?_) (fun g c hgc => ?_) (by simp), ?_⟩
      · rcases hcase with ⟨hno, _⟩ | ⟨hown, _⟩
        · exact .inl hno
        · exact .inr ⟨n, hown, by omega, fun he => by omega⟩
      · rcases h with h | ⟨rfl, _⟩
        · exact .inl h
        · exact .inr ⟨nc, rfl⟩
      · rcases h with h | ⟨rfl, hlt⟩
        · obtain ⟨u, hu⟩ := hval b o h
          exact ⟨u, (hcellI b o h).trans hu⟩
        · exact ⟨_, hcellN o hlt⟩
      · simp only [Option.some.injEq, Prod.mk.injEq] at hgc
        obtain ⟨rfl, rfl⟩ := hgc
        refine ⟨_, 0, hheap, hnc, hnc', ?_, Nat.zero_le _, fun j hj => ?_⟩
        · simp only [Array.size_append, List.size_toArray, hl, hl', hzsz, hzs, ← Nat.add_mul]
          congr 1
          omega
        · rcases hj with hj | ⟨_, hj⟩
          · exact (hnI j hj).elim
          · exact hj
      · simp only [Option.some.injEq, Prod.mk.injEq] at hgc
        exact .inl (by omega)
      · exact .own nm _ e (n + n') _ _ nc _ (by simp [ownUp]) (Nat.le_refl _) (fun _ => by simp [thUp])
          (repV_app hmono hl hl' h1 h1' hf hf' hr hr' hnc hnc' (fun j hj => .inr ⟨rfl, hj⟩) hcellN)
    -- there is room: it is one's own
    · have hroom' : n + n' ≤ cap := by omega
      rcases hcase with ⟨hno, ad', hv⟩ | ⟨hown, ad', cap1, hv, hθ⟩
      · simp only [Value.slice.injEq, true_and] at hv
        omega
      · simp only [Value.slice.injEq, true_and] at hv
        obtain ⟨rfl, rfl⟩ := hv
        cases hθ' : θ nm with
        | none => rw [hθ'] at hθ; simp only at hθ; omega
        | some gc =>
          obtain ⟨g, c⟩ := gc
          rw [hθ'] at hθ
          simp only at hθ
          obtain ⟨rfl, rfl⟩ := hθ
          obtain ⟨cur, fz, hh, hnc, hcm, hcs, hfz, hIg⟩ := hrel.tok nm _ e n hown g cap hθ'
          have hfit : n * i.size + cs'.length ≤ cur.size := by rw [hl', hcs, ← Nat.add_mul]; exact Nat.mul_le_mul_right _ hroom'
          have hrun := r1 hp hroom' g cur fz rfl hh hfz hfit
          have hother : ∀ b, b ≠ g → (w.setRow g (cur.toList.take (n * i.size) ++ cs' ++ cur.toList.drop (n * i.size + cs'.length)).toArray).heap[b]? = w.heap[b]? := fun b hb => setRow_other w g b _ hb
          have hnew := setRow_heap w g cur (cur.toList.take (n * i.size) ++ cs' ++ cur.toList.drop (n * i.size + cs'.length)).toArray e _ hh
          have hget : ∀ j, (cur.toList.take (n * i.size) ++ cs' ++ cur.toList.drop (n * i.size + cs'.length)).getD j undef = if n * i.size ≤ j ∧ j < n * i.size + cs'.length then cs'.getD (j - n * i.size) undef else cur.toList.getD j undef := fun j =>
            take_mid_getD undef _ _ _ _ (by simpa using hfit)
          have hsize : (cur.toList.take (n * i.size) ++ cs' ++ cur.toList.drop (n * i.size + cs'.length)).length = cur.size := by
            simp only [List.length_append, List.length_take, List.length_drop, Array.length_toList]; omega
          have hcellI : ∀ b o, I b o → (w.setRow g (cur.toList.take (n * i.size) ++ cs' ++ cur.toList.drop (n * i.size + cs'.length)).toArray).cell? ⟨b, o, none⟩ = w.cell? ⟨b, o, none⟩ := fun b o hi => by
            by_cases hb : b = g
            · subst hb
              have hlt := hIg o hi
              obtain ⟨u, hu⟩ := hval _ _ hi
              rw [cell_of_row _ _ _ _ e (0, fz) hnew, cell_of_row _ _ _ _ e (0, fz) hh]
              rw [cell_of_row _ _ _ _ e (0, fz) hh] at hu
              have ho : o < cur.size := by
                rcases Nat.lt_or_ge o cur.size with h' | h'
                · exact h'
                · rw [Array.getElem?_eq_none h'] at hu; cases hu
              have hgo := hget o
              rw [if_neg (by omega)] at hgo
              rw [List.getElem?_toArray, getD_of undef (by omega), hgo]
              simp [List.getD, ho]
            · exact World.cell?_of_block (a := ⟨b, o, none⟩) (hother b hb)
          have hcellN : ∀ j, j < (n + n') * i.size → (w.setRow g (cur.toList.take (n * i.size) ++ cs' ++ cur.toList.drop (n * i.size + cs'.length)).toArray).cell? ⟨g, j, none⟩ = some ((cs ++ cs').getD j undef) := fun j hj => by
            by_cases hlt : j < n * i.size
            · have hn0 : 0 < n := by
                rcases Nat.eq_zero_or_pos n with h0 | h0
                · rw [h0] at hlt; omega
                · exact h0
              obtain ⟨b, hb, _, hI4, h4⟩ := hc hn0
              simp only [Option.some.injEq] at hb
              subst hb
              have hIj := hI4 j hlt
              simp only [Nat.zero_add] at hIj
              rw [hcellI g j hIj]
              have := h4 j _ (getD_of undef (by omega))
              rw [Addr.add_lit, Nat.zero_add] at this
              rw [this, List.getD, List.getD, List.getElem?_append_left (by omega)]
            · rw [cell_of_row _ _ _ _ e (0, fz) hnew]
              have hgo := hget j
              rw [Nat.add_mul] at hj
              rw [if_pos ⟨by omega, by omega⟩] at hgo
              rw [List.getElem?_toArray, getD_of undef (by omega), hgo]
              simp only [List.getD]
              rw [List.getElem?_append_right (by omega), hl]
          have hmono : ∀ v x, RepV I w v x → RepV (immUp I g ((n + n') * i.size)) (w.setRow g (cur.toList.take (n * i.size) ++ cs' ++ cur.toList.drop (n * i.size + cs'.length)).toArray) v x := fun v x h => h.mono (fun _ _ h => .inl h) hcellI
          have hnn1 : n * i.size ≤ (n + n') * i.size := Nat.mul_le_mul_right _ (by omega)
          refine ⟨_, _, immUp I g ((n + n') * i.size), thUp θ nm (some (g, cap)), hrun, chg_tok hrel (fun _ _ h => .inl h) hcellI (.inr ⟨n, hown, by omega, fun he => by omega⟩)
            (fun b hb hn => hother b (by rintro rfl; exact hn cap (by simp [hown]) hθ')) (fun b o h => ?_) (fun b o h => ?_) rfl rfl rfl (by simp) (fun g' c' hgc => ?_) (fun g' c' hgc => ?_) (by simp), ?_⟩
          · rcases h with h | ⟨rfl, _⟩
            · exact .inl h
            · exact .inr ⟨cap, rfl⟩
          · rcases h with h | ⟨rfl, hlt⟩
            · obtain ⟨u, hu⟩ := hval b o h
              exact ⟨u, (hcellI b o h).trans hu⟩
            · exact ⟨_, hcellN o hlt⟩
          · simp only [Option.some.injEq, Prod.mk.injEq] at hgc
            obtain ⟨rfl, rfl⟩ := hgc
            refine ⟨_, fz, hnew, hroom', hcm, by simpa [hcs] using hsize, Nat.le_trans hfz hnn1, fun j hj => ?_⟩
            rcases hj with hj | ⟨_, hj⟩
            · have := hIg j hj; omega
            · exact hj
          · simp only [Option.some.injEq, Prod.mk.injEq] at hgc
            obtain ⟨rfl, rfl⟩ := hgc
            exact .inr ⟨by simp [hown], cap, hθ'⟩
          · exact .own nm _ e (n + n') _ _ cap _ (by simp [ownUp]) (Nat.le_refl _) (fun _ => by simp [thUp])
              (repV_app hmono hl hl' h1 h1' hf hf' hr hr' hroom' hcm (fun j hj => .inr ⟨rfl, hj⟩) hcellN)

theorem ok_append (h : Rel Γ σ I θ a w) (hd : ∀ d, o.dst = some d → d < Γ.n) {xs : Array Operand} {x y : Operand} {ts : Array TypeId} (ho : o.op = .call { callee := .builtin .append, args := xs, argTypes := ts }) (hxs : xs.toList = [x, y])
    {vs : List AV} {es : List (Option Own)} (hvs : RepL I σ.own θ w [a.eval x, a.eval y] vs) (hes : es = (needs o vs).map σ.own) {d : Nat} (hdst : o.dst = some d) {e : Eff} (he : aAppend P d ts.toList vs es = some e) (hob : ∀ p ∈ e.ob, p) :
    OpOK P Γ σ o a w e.v e.wo := by
  obtain ⟨u, v, rfl, hu, hv⟩ := hvs.two
  unfold aAppend at he
  split at he
  · rename_i _ _ _ t t' sz n f tag sz' n' f' tag' eo hts hvv
    simp only [List.cons.injEq, and_true] at hvv
    obtain ⟨rfl, rfl⟩ := hvv
    split at he
    · rename_i el hun
      dsimp only at he
      generalize hcond : (Nat.beq t t' && hasT P el && Nat.ble 1 (szT P el) && Nat.ble (((P.info? el).map (·.bytes)).getD 1000) 128 && ((P.info? el).bind (·.zero)).isSome && (Nat.beq sz (szT P el) || Nat.beq n 0) && (Nat.beq sz' (szT P el) || Nat.beq n' 0)
        && Nat.beq ((((P.info? el).bind (·.zero)).map (·.cells.size)).getD 0) (szT P el)) = cond0 at he
      cases cond0 with
      | false => simp at he
      | true =>
        simp only [cond_true] at he
        simp only [Bool.and_eq_true] at hcond
        obtain ⟨⟨⟨⟨⟨⟨⟨htt, hT⟩, hs1⟩, hby⟩, hzz⟩, hsz⟩, hsz'⟩, hzs⟩ := hcond
        obtain rfl := Nat.eq_of_beq_eq_true htt
        obtain ⟨i, dd, hi, _, hsi⟩ := hasT_inv hT
        obtain ⟨z, hz⟩ := Option.isSome_iff_exists.1 hzz
        simp only [hi, Option.bind_some] at hz
        simp only [hi, Option.map_some, Option.getD_some, Option.bind_some, hz] at hby hzs
        have hby := Nat.le_of_ble_eq_true hby
        have hzq := Nat.eq_of_beq_eq_true hzs
        rw [hsi] at hzq
        have hV := repV_sz0 hu.slice_val (szor hsz)
        have hV' := repV_sz0 hv.slice_val (szor hsz')
        rw [hsi] at hV hV' he
        obtain rfl : ts = #[t, t] := by apply Array.ext'; simpa using hts
        obtain rfl : xs = #[x, y] := by apply Array.ext'; simpa using hxs
        obtain ⟨bd, cap', cs', hve, hcap', hmax', hnn', hl', h1', hf', hr', hc'⟩ := cells_list hV'
        have hruns := fun (hroom : n + n' ≤ room) (ad : Option Addr) (cap : Nat) (cs : List Value) (hl : cs.length = n * i.size) (hcap : n ≤ cap) (hnn : ad = none → cap = 0) (hc : 0 < n → ∃ b, ad = some b ∧ ∀ j u, cs[j]? = some u → w.cell? (b.add j) = some u) =>
          run_append_all (P := P) (w := w) (n := n) (cap := cap) (n' := n') (cap' := cap') (ad := ad) (bd := bd) o.type hun hi hz hl hl' hcap hnn h1' hc (fun hp => by obtain ⟨b, h1, _, _, h4⟩ := hc' hp; exact ⟨b, h1, h4⟩) hroom hby
        rw [← hve] at hruns
        have hexec : ∀ v w', (Builtin.append_ #[t, t] o.type #[a.eval x, a.eval y]).run P w = .ok v w' → (execOp a.eval o).run P w = .ok (.value v) w' := fun v w' hr => by
          simp [execOp, ho, resolve, invoke, builtin, hr]
        split at he
        · rename_i nm sz0 e0 m
          cases hc0 : (Nat.beq sz0 i.size && Nat.beq e0 el) with
          | false => simp [hc0] at he
          | true =>
            simp only [hc0, cond_true, Option.some.injEq] at he
            subst he
            simp only [Bool.and_eq_true] at hc0
            obtain rfl := Nat.eq_of_beq_eq_true hc0.1
            obtain rfl := Nat.eq_of_beq_eq_true hc0.2
            have hmn : m = n := hob _ (by simp)
            have hroom : n + n' ≤ room := hob _ (by simp)
            subst hmn
            have hown : σ.own nm = some (.tok i.size e0 m) := by
              simpa [needs, ho] using hes.symm
            have hcase := hu.own_inv hown
            obtain ⟨v', w', I', θ', hr, hk, hrep⟩ := append_core (P := P) h o.type hun hi hz hzq hby hV hl' h1' hf' hr' hroom (hruns hroom) nm (fun hn => by rw [hown] at hn; cases hn) (.inr ⟨hown, hcase⟩)
            exact ok_chg h hd (hexec _ _ hr) (by rw [upd_one]; exact hk) (by rw [upd_one]; exact hrep)
        · simp only [Option.some.injEq] at he
          subst he
          have hroom : n + n' ≤ room := hob _ (by simp)
          have hown : σ.own d = none := by
            simpa [needs, ho, hdst] using hes.symm
          have hcase := hu.exact_inv
          obtain ⟨v', w', I', θ', hr, hk, hrep⟩ := append_core (P := P) h o.type hun hi hz hzq hby hV hl' h1' hf' hr' hroom (hruns hroom) d (fun _ => hob _ (by simp)) (.inl ⟨hown, hcase⟩)
          exact ok_chg h hd (hexec _ _ hr) (by rw [upd_one]; exact hk) (by rw [upd_one]; exact hrep)
        · simp at he
    · simp at he
  · simp at he
end
end Go.Proofs.Ytcpopeamoipjlaa
