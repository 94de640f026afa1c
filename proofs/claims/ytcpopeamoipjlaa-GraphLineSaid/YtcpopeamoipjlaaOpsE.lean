/-
  Cuts of slices; append.
-/
import Derived.Test.YtcpopeamoipjlaaOpsD
namespace Go.Proofs.Ytcpopeamoipjlaa
open Go Go.RowKit

section
variable {P : Program} {Γ : Env} {σ : Sto} {I : Nat → Nat → Prop} {θ : Nat → Option (Nat × Nat)} {a : Act} {w : World} {o : Oper}

/-- A part of a slice. -/
theorem repV_cut {ad : Option Addr} {n cap sz sz' l h m : Nat} {f : Nat → List AV} (hx : RepV I w (.slice ad n cap) (.slice sz n f .none)) (hlh : l ≤ h) (hn : h ≤ n) (hm : m ≤ cap) (hhm : h ≤ m) (hsz : sz = sz' ∨ n = 0) :
    RepV I w (.slice (if m = l then ad else ad.map (·.add (l * sz'))) (h - l) (m - l)) (.slice sz (h - l) (fun i => f (l + i)) .none) := by
  obtain ⟨_, ad', cap', us, he, hcap, hmax, hz, hn', h1, hl, hr⟩ := hx.slice_inv
  simp only [Value.slice.injEq] at he
  obtain ⟨rfl, _, rfl⟩ := he
  have hpos : ∀ j, j < (h - l) * sz → l * sz + j < n * sz := fun j hj => by
    have : h * sz ≤ n * sz := Nat.mul_le_mul_right _ hn
    rw [Nat.sub_mul] at hj
    have : l * sz ≤ h * sz := Nat.mul_le_mul_right _ hlh
    omega
  refine .slice _ _ _ sz _ (fun j => us (l * sz + j)) (by omega) (by omega) (fun hp => ?_) (fun hnn => ?_) (fun j hj => h1 _ (hpos j hj)) (fun i hi => hl _ (by omega)) (fun i c hi hc => ?_)
  · obtain rfl : sz = sz' := by rcases hsz with h | h; exact h; omega
    obtain ⟨b, rfl, hs, hI, hc⟩ := hz (by omega)
    rw [if_neg (by omega)]
    refine ⟨b.add (l * sz), rfl, ?_, fun j hj => ?_, fun j hj => ?_⟩
    · rw [add_none hs]
    · rw [add_none hs]
      have := hI _ (hpos j hj)
      simpa [Nat.add_assoc] using this
    · rw [add_none hs]
      have := hc _ (hpos j hj)
      simpa [Nat.add_assoc] using this
  · by_cases hc : m = l
    · omega
    · rw [if_neg hc] at hnn
      have := hn' (by simpa using hnn)
      omega
  · have := hr (l + i) c (by omega) hc
    rwa [Nat.add_mul, Nat.add_assoc] at this

theorem run_cut {t el : TypeId} {x : Operand} {lo hi mx : Option Operand} (ho : o.op = .slice t x lo hi mx) (hu : P.underlying t = some (.slice el)) (hT : hasT P el = true) {ad : Option Addr} {n cap l h m : Nat}
    (hx : a.eval x = .slice ad n cap) (hb : (Instr.sliceBounds true n cap (lo.map a.eval) (hi.map a.eval) (mx.map a.eval)).run P w = .ok (l, h, m) w) :
    (execOp a.eval o).run P w = .ok (.value (.slice (if m = l then ad else ad.map (·.add (l * szT P el))) (h - l) (m - l))) w := by
  simp only [execOp, ho, hx, Instr.sliceAt, Instr.slice, Sem.run_bind, run_underlying hu, Result.andThen_ok, hb, run_sizeOf' hT, Sem.run_pure]

/-- Values and what they stand for, one by one. -/
inductive RepL (I : Nat → Nat → Prop) (own : Nat → Option Own) (θ : Nat → Option (Nat × Nat)) (w : World) : List Value → List AV → Prop
  | nil : RepL I own θ w [] []
  | cons {v : Value} {x : AV} {l : List Value} {m : List AV} (h : Rep I own θ w v x) (t : RepL I own θ w l m) : RepL I own θ w (v :: l) (x :: m)

theorem RepL.one {v : Value} {vs : List AV} (h : RepL I σ.own θ w [v] vs) : ∃ x, vs = [x] ∧ Rep I σ.own θ w v x := by
  cases h with | cons h t => cases t; exact ⟨_, rfl, h⟩
theorem RepL.two {v u : Value} {vs : List AV} (h : RepL I σ.own θ w [v, u] vs) : ∃ x y, vs = [x, y] ∧ Rep I σ.own θ w v x ∧ Rep I σ.own θ w u y := by
  cases h with | cons h t => obtain ⟨y, rfl, hy⟩ := t.one; exact ⟨_, _, rfl, h, hy⟩
theorem RepL.three {v u t : Value} {vs : List AV} (h : RepL I σ.own θ w [v, u, t] vs) : ∃ x y z, vs = [x, y, z] ∧ Rep I σ.own θ w v x ∧ Rep I σ.own θ w u y ∧ Rep I σ.own θ w t z := by
  cases h with | cons h t => obtain ⟨y, z, rfl, hy, hz⟩ := t.two; exact ⟨_, _, _, rfl, h, hy, hz⟩

theorem szor {sz s n : Nat} (h : (Nat.beq sz s || Nat.beq n 0) = true) : sz = s ∨ n = 0 := by
  simp only [Bool.or_eq_true] at h
  rcases h with h | h
  · exact .inl (Nat.eq_of_beq_eq_true h)
  · exact .inr (Nat.eq_of_beq_eq_true h)

theorem ok_slice_str (h : Rel Γ σ I θ a w) (hd : ∀ d, o.dst = some d → d < Γ.n) {t : TypeId} {x : Operand} {lo hi mx : Option Operand} (ho : o.op = .slice t x lo hi mx) (hu : P.underlying t = some .string) {e : Eff} {vs : List AV}
    (hvs : RepL I σ.own θ w ([a.eval x] ++ (lo.map a.eval).toList ++ (hi.map a.eval).toList ++ (mx.map a.eval).toList) vs) (he : aSliceStr lo.isSome hi.isSome mx.isSome vs = some e) (hob : ∀ p ∈ e.ob, p) :
    e.wo = [] ∧ OpOK P Γ σ o a w e.v [] := by
  unfold aSliceStr at he
  have key : ∀ (b : ByteArray) (l h' : Nat), a.eval x = .string b → (Instr.sliceBounds false b.size b.size (lo.map a.eval) (hi.map a.eval) none).run P w = .ok (l, h', b.size) w → mx = none →
      OpOK P Γ σ o a w (.str (((bytesI b).drop l).take (h' - l))) [] := fun b l h' hx hb hm => by
    subst hm
    refine ok_pure h hd (v := .string (b.extract l h')) ?_ (by rw [← bytesI_extract]; exact .val _ _ (.str _))
    simp [execOp, ho, hx, Instr.sliceAt, Instr.slice, Sem.run_bind, run_underlying hu, Result.andThen_ok, hb, Sem.run_pure]
  split at he
  · rename_i s h1 h2 h3
    cases lo <;> simp at h1
    cases hi <;> simp at h2
    cases mx <;> simp at h3
    obtain ⟨y, e1, hy⟩ := hvs.one
    obtain rfl : _ = y := by simpa using e1
    simp only [Eff.pure, Option.some.injEq] at he
    subst he
    obtain ⟨b, hex, rfl⟩ := hy.str_inv
    have := key b 0 b.size hex (by simp [Instr.sliceBounds]) rfl
    rw [List.drop_zero, Nat.sub_zero, List.take_of_length_le (by rw [bytesI_length]; exact Nat.le_refl _)] at this
    exact ⟨rfl, this⟩
  · rename_i s k l h1 h2 h3
    cases lo <;> simp at h1
    cases hi <;> simp at h2
    cases mx <;> simp at h3
    obtain ⟨y, z, e1, hy, hz⟩ := hvs.two
    simp only [List.cons.injEq, and_true] at e1
    obtain ⟨rfl, rfl⟩ := e1
    simp only [Eff.pure, Option.some.injEq] at he
    subst he
    obtain ⟨hb0, hb1⟩ := hob _ (List.mem_singleton.2 rfl)
    obtain ⟨b, hex, rfl⟩ := hy.str_inv
    rw [bytesI_length] at hb1
    have hl := hz.int_inv
    have := key b l.toNat b.size hex (by simp [Instr.sliceBounds, hl, run_sliceBound (P := P) w k l b.size _ hb0 (by omega)]) rfl
    rw [List.take_of_length_le (by rw [List.length_drop, bytesI_length]; exact Nat.le_refl _)] at this
    exact ⟨rfl, this⟩
  · rename_i s k l h1 h2 h3
    cases lo <;> simp at h1
    cases hi <;> simp at h2
    cases mx <;> simp at h3
    obtain ⟨y, z, e1, hy, hz⟩ := hvs.two
    simp only [List.cons.injEq, and_true] at e1
    obtain ⟨rfl, rfl⟩ := e1
    simp only [Eff.pure, Option.some.injEq] at he
    subst he
    obtain ⟨hb0, hb1⟩ := hob _ (List.mem_singleton.2 rfl)
    obtain ⟨b, hex, rfl⟩ := hy.str_inv
    rw [bytesI_length] at hb1
    have hl := hz.int_inv
    have := key b 0 l.toNat hex (by simp [Instr.sliceBounds, hl, run_sliceBound (P := P) w k l b.size _ hb0 (by omega)]) rfl
    rw [List.drop_zero, Nat.sub_zero] at this
    exact ⟨rfl, this⟩
  · rename_i s k l k' m h1 h2 h3
    cases lo <;> simp at h1
    cases hi <;> simp at h2
    cases mx <;> simp at h3
    obtain ⟨y, z, u, e1, hy, hz, hu'⟩ := hvs.three
    simp only [List.cons.injEq, and_true] at e1
    obtain ⟨rfl, rfl, rfl⟩ := e1
    simp only [Eff.pure, Option.some.injEq] at he
    subst he
    obtain ⟨hb0, hb2, hb1⟩ := hob _ (List.mem_singleton.2 rfl)
    obtain ⟨b, hex, rfl⟩ := hy.str_inv
    rw [bytesI_length] at hb1
    have hl := hz.int_inv
    have hm := hu'.int_inv
    exact ⟨rfl, key b l.toNat m.toNat hex (by simp [Instr.sliceBounds, hl, hm, run_sliceBound (P := P) w k' m b.size _ (by omega) (by omega), run_sliceBound (P := P) w k l m.toNat _ hb0 (by omega)]) rfl⟩
  · simp at he

theorem ok_slice (h : Rel Γ σ I θ a w) (hd : ∀ d, o.dst = some d → d < Γ.n) {t : TypeId} {x : Operand} {lo hi mx : Option Operand} (ho : o.op = .slice t x lo hi mx) {e : Eff} {vs : List AV}
    (hvs : RepL I σ.own θ w ([a.eval x] ++ (lo.map a.eval).toList ++ (hi.map a.eval).toList ++ (mx.map a.eval).toList) vs) (he : aSlice P t lo.isSome hi.isSome mx.isSome vs = some e) (hob : ∀ p ∈ e.ob, p) :
    e.wo = [] ∧ OpOK P Γ σ o a w e.v [] := by
  unfold aSlice at he
  split at he
  · rename_i el hu
    cases hT : hasT P el with
    | false => simp [hT] at he
    | true =>
      simp only [hT, cond_true] at he
      split at he
      · rename_i sz n f tag h1 h2 h3
        cases lo <;> simp at h1
        cases hi <;> simp at h2
        cases mx <;> simp at h3
        obtain ⟨y, e1, hy⟩ := hvs.one
        obtain rfl : _ = y := by simpa using e1
        cases hsz : (Nat.beq sz (szT P el) || Nat.beq n 0) with
        | false => simp [hsz] at he
        | true =>
          simp only [hsz, cond_true, Eff.pure, Option.some.injEq] at he
          subst he
          have hv := hy.slice_val
          obtain ⟨_, ad, cap, us, hex, hcap, hmax, _⟩ := hv.slice_inv
          rw [hex] at hv
          have hr := run_cut (P := P) (a := a) (w := w) (l := 0) (h := n) (m := cap) ho hu hT hex (by simp [Instr.sliceBounds])
          have hc := repV_cut hv (l := 0) (h := n) (m := cap) (sz' := szT P el) (by omega) (by omega) (by omega) hcap (szor hsz)
          simp only [Nat.sub_zero, Nat.zero_add] at hc hr
          exact ⟨rfl, ok_pure h hd hr (.val _ _ hc)⟩
      · rename_i sz n f tag k l h1 h2 h3
        cases lo <;> simp at h1
        cases hi <;> simp at h2
        cases mx <;> simp at h3
        obtain ⟨y, z, e1, hy, hz⟩ := hvs.two
        simp only [List.cons.injEq, and_true] at e1
        obtain ⟨rfl, rfl⟩ := e1
        cases hsz : (Nat.beq sz (szT P el) || Nat.beq n 0) with
        | false => simp [hsz] at he
        | true =>
          simp only [hsz, cond_true, Eff.pure, Option.some.injEq] at he
          subst he
          obtain ⟨hb0, hb1⟩ := hob _ (List.mem_singleton.2 rfl)
          have hv := hy.slice_val
          obtain ⟨_, ad, cap, us, hex, hcap, hmax, _⟩ := hv.slice_inv
          rw [hex] at hv
          have hl := hz.int_inv
          have hr := run_cut (P := P) (a := a) (w := w) (l := l.toNat) (h := n) (m := cap) ho hu hT hex (by simp [Instr.sliceBounds, hl, run_sliceBound (P := P) w k l n _ hb0 (by omega)])
          have hc := repV_cut hv (l := l.toNat) (h := n) (m := cap) (sz' := szT P el) (by omega) (by omega) (by omega) hcap (szor hsz)
          exact ⟨rfl, ok_pure h hd hr (.val _ _ hc)⟩
      · rename_i sz n f tag k l h1 h2 h3
        cases lo <;> simp at h1
        cases hi <;> simp at h2
        cases mx <;> simp at h3
        obtain ⟨y, z, e1, hy, hz⟩ := hvs.two
        simp only [List.cons.injEq, and_true] at e1
        obtain ⟨rfl, rfl⟩ := e1
        cases hsz : (Nat.beq sz (szT P el) || Nat.beq n 0) with
        | false => simp [hsz] at he
        | true =>
          simp only [hsz, cond_true, Eff.pure, Option.some.injEq] at he
          subst he
          obtain ⟨hb0, hb1⟩ := hob _ (List.mem_singleton.2 rfl)
          have hv := hy.slice_val
          obtain ⟨_, ad, cap, us, hex, hcap, hmax, _⟩ := hv.slice_inv
          rw [hex] at hv
          have hl := hz.int_inv
          have hr := run_cut (P := P) (a := a) (w := w) (l := 0) (h := l.toNat) (m := cap) ho hu hT hex (by simp [Instr.sliceBounds, hl, run_sliceBound (P := P) w k l cap _ hb0 (by omega)])
          have hc := repV_cut hv (l := 0) (h := l.toNat) (m := cap) (sz' := szT P el) (by omega) (by omega) (by omega) (by omega) (szor hsz)
          simp only [Nat.sub_zero, Nat.zero_add] at hc hr
          exact ⟨rfl, ok_pure h hd hr (.val _ _ hc)⟩
      · rename_i sz n f tag k l k' m h1 h2 h3
        cases lo <;> simp at h1
        cases hi <;> simp at h2
        cases mx <;> simp at h3
        obtain ⟨y, z, u, e1, hy, hz, hu'⟩ := hvs.three
        simp only [List.cons.injEq, and_true] at e1
        obtain ⟨rfl, rfl, rfl⟩ := e1
        cases hsz : (Nat.beq sz (szT P el) || Nat.beq n 0) with
        | false => simp [hsz] at he
        | true =>
          simp only [hsz, cond_true, Eff.pure, Option.some.injEq] at he
          subst he
          obtain ⟨hb0, rfl, hb1⟩ := hob _ (List.mem_singleton.2 rfl)
          have hv := hy.slice_val
          obtain ⟨_, ad, cap, us, hex, hcap, hmax, _⟩ := hv.slice_inv
          rw [hex] at hv
          have hl := hz.int_inv
          have hm := hu'.int_inv
          have hr := run_cut (P := P) (a := a) (w := w) (l := 0) (h := l.toNat) (m := l.toNat) ho hu hT hex (by simp [Instr.sliceBounds, hl, hm, run_sliceBound (P := P) w k' l cap _ hb0 (by omega), run_sliceBound (P := P) w k l l.toNat _ hb0 (by omega)])
          have hc := repV_cut hv (l := 0) (h := l.toNat) (m := l.toNat) (sz' := szT P el) (by omega) (by omega) (by omega) (by omega) (szor hsz)
          simp only [Nat.sub_zero, Nat.zero_add] at hc hr
          exact ⟨rfl, ok_pure h hd hr (.exact _ _ _ _ hc)⟩
      · rename_i sz n f tag k l k' m k'' q h1 h2 h3
        cases lo <;> simp at h1
        cases hi <;> simp at h2
        cases mx <;> simp at h3
        cases hvs with | cons hy hvs' =>
        obtain ⟨z, u, v, e1, hz, hu', hq⟩ := hvs'.three
        simp only [List.cons.injEq, and_true] at e1
        obtain ⟨rfl, rfl, rfl⟩ := e1
        cases hsz : (Nat.beq sz (szT P el) || Nat.beq n 0) with
        | false => simp [hsz] at he
        | true =>
          simp only [hsz, cond_true, Eff.pure, Option.some.injEq] at he
          subst he
          obtain ⟨hb0, hb2, rfl, hb1⟩ := hob _ (List.mem_singleton.2 rfl)
          have hv := hy.slice_val
          obtain ⟨_, ad, cap, us, hex, hcap, hmax, _⟩ := hv.slice_inv
          rw [hex] at hv
          have hl := hz.int_inv
          have hh := hu'.int_inv
          have hm := hq.int_inv
          have hr := run_cut (P := P) (a := a) (w := w) (l := l.toNat) (h := m.toNat) (m := m.toNat) ho hu hT hex (by simp [Instr.sliceBounds, hl, hh, hm, run_sliceBound (P := P) w k'' m cap _ (by omega) (by omega), run_sliceBound (P := P) w k' m m.toNat _ (by omega) (by omega), run_sliceBound (P := P) w k l m.toNat _ (by omega) (by omega)])
          have hc := repV_cut hv (l := l.toNat) (h := m.toNat) (m := m.toNat) (sz' := szT P el) (by omega) (by omega) (by omega) (by omega) (szor hsz)
          exact ⟨rfl, ok_pure h hd hr (.exact _ _ _ _ hc)⟩
      · rename_i sz n f tag k l k' m h1 h2 h3
        cases lo <;> simp at h1
        cases hi <;> simp at h2
        cases mx <;> simp at h3
        obtain ⟨y, z, u, e1, hy, hz, hu'⟩ := hvs.three
        simp only [List.cons.injEq, and_true] at e1
        obtain ⟨rfl, rfl, rfl⟩ := e1
        cases hsz : (Nat.beq sz (szT P el) || Nat.beq n 0) with
        | false => simp [hsz] at he
        | true =>
          simp only [hsz, cond_true, Eff.pure, Option.some.injEq] at he
          subst he
          obtain ⟨hb0, hb2, hb1⟩ := hob _ (List.mem_singleton.2 rfl)
          have hv := hy.slice_val
          obtain ⟨_, ad, cap, us, hex, hcap, hmax, _⟩ := hv.slice_inv
          rw [hex] at hv
          have hl := hz.int_inv
          have hm := hu'.int_inv
          have hr := run_cut (P := P) (a := a) (w := w) (l := l.toNat) (h := m.toNat) (m := cap) ho hu hT hex (by simp [Instr.sliceBounds, hl, hm, run_sliceBound (P := P) w k' m cap _ (by omega) (by omega), run_sliceBound (P := P) w k l m.toNat _ hb0 (by omega)])
          have hc := repV_cut hv (l := l.toNat) (h := m.toNat) (m := cap) (sz' := szT P el) (by omega) (by omega) (by omega) (by omega) (szor hsz)
          exact ⟨rfl, ok_pure h hd hr (.val _ _ hc)⟩
      · simp at he
  · rename_i hu
    exact ok_slice_str h hd ho hu hvs he hob
  · simp at he
end
end Go.Proofs.Ytcpopeamoipjlaa
