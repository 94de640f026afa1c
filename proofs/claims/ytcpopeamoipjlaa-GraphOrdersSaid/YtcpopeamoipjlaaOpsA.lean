/-
  Each operation does what is told of it: those that leave memory alone.
-/
import Derived.Test.YtcpopeamoipjlaaRun
namespace Go.Proofs.Ytcpopeamoipjlaa
open Go Go.RowKit

def Sto.upd (σ : Sto) (dst : Option Nat) (v : AV) (wo : List (Nat × Own)) : Sto :=
  ⟨fun t => if dst = some t then v else σ.tmp t, fun nm => match look wo nm with | some o => some o | none => σ.own nm⟩

theorem sto_own_nil (σ : Sto) (dst : Option Nat) (v : AV) : (σ.upd dst v []).own = σ.own := rfl

theorem put_getD (a : Act) (d t : Nat) (v : Value) (hd : d < a.tmps.size) : ((a.put (some d) v).tmps.getD t undef) = if d = t then v else a.tmps.getD t undef := by
  simp only [Act.put, Array.getD_eq_getD_getElem?, Array.getElem?_setIfInBounds]
  by_cases h : d = t
  · subst h
    simp [hd]
  · simp [h]

theorem rel_put {Γ : Env} {σ : Sto} {I I' : Nat → Nat → Prop} {θ θ' : Nat → Option (Nat × Nat)} {a : Act} {w w' : World} {dst : Option Nat} {v : Value} {x : AV} {own' : Nat → Option Own}
    (h : Rel Γ σ I θ a w) (k : Chg σ.own θ I w own' θ' I' w') (hv : Rep I' own' θ' w' v x) (hd : ∀ d, dst = some d → d < Γ.n) :
    Rel Γ ⟨fun t => if dst = some t then x else σ.tmp t, own'⟩ I' θ' (a.put dst v) w' := by
  refine ⟨?_, ?_, fun t => ?_, h.chg.trans k⟩
  · cases dst <;> simp [Act.put, h.size]
  · cases dst <;> simp [Act.put, h.defers]
  · cases dst with
    | none => simpa [Act.put] using (h.slots t).chg k
    | some d =>
      have hlt := hd d rfl
      rw [put_getD a d t v (by rw [h.size]; exact hlt)]
      by_cases e : d = t
      · subst e; simpa using hv
      · simpa [e] using (h.slots t).chg k

/-- What is to be shown of an operation. -/
def OpOK (P : Program) (Γ : Env) (σ : Sto) (o : Oper) (a : Act) (w : World) (x : AV) (wo : List (Nat × Own)) : Prop :=
  ∀ (K : Act → World → Prop) (Q : Exit → Act → World → Prop), (∀ I' θ' a' w', Rel Γ (σ.upd o.dst x wo) I' θ' a' w' → K a' w') → o.wp P a w K Q

section
variable {P : Program} {Γ : Env} {σ : Sto} {I : Nat → Nat → Prop} {θ : Nat → Option (Nat × Nat)} {a : Act} {w : World} {o : Oper}

/-- It gives a value, and memory stays. -/
theorem ok_pure (h : Rel Γ σ I θ a w) (hd : ∀ d, o.dst = some d → d < Γ.n) {v : Value} {x : AV} (hr : (execOp a.eval o).run P w = .ok (.value v) w)
    (hv : Rep I σ.own θ w v x) : OpOK P Γ σ o a w x [] := by
  intro K Q hK
  unfold Oper.wp
  rw [hr]
  exact hK I θ _ _ (rel_put h (.refl h.chg.rel h.chg.valid) hv hd)

/-- It gives a value, and memory turns. -/
theorem ok_chg (h : Rel Γ σ I θ a w) (hd : ∀ d, o.dst = some d → d < Γ.n) {v : Value} {x : AV} {w' : World} {I' : Nat → Nat → Prop} {θ' : Nat → Option (Nat × Nat)} {wo : List (Nat × Own)}
    (hr : (execOp a.eval o).run P w = .ok (.value v) w') (k : Chg σ.own θ I w (σ.upd o.dst x wo).own θ' I' w')
    (hv : Rep I' (σ.upd o.dst x wo).own θ' w' v x) : OpOK P Γ σ o a w x wo := by
  intro K Q hK
  unfold Oper.wp
  rw [hr]
  exact hK I' θ' _ _ (rel_put h k hv hd)
theorem ok_skip (h : Rel Γ σ I θ a w) (hd : ∀ d, o.dst = some d → d < Γ.n) {w' : World} {I' : Nat → Nat → Prop} {θ' : Nat → Option (Nat × Nat)} {wo : List (Nat × Own)}
    (hr : (execOp a.eval o).run P w = .ok .skip w') (k : Chg σ.own θ I w (σ.upd o.dst .undef wo).own θ' I' w') : OpOK P Γ σ o a w .undef wo := by
  intro K Q hK
  unfold Oper.wp
  rw [hr]
  exact hK I' θ' _ _ (rel_put h k (.val _ _ .undef) hd)

theorem ok_move (h : Rel Γ σ I θ a w) (hd : ∀ d, o.dst = some d → d < Γ.n) (x : Operand) (ho : o.op = .move x ∨ o.op = .assign x) {y : AV}
    (hv : Rep I σ.own θ w (a.eval x) y) : OpOK P Γ σ o a w y [] :=
  ok_pure h hd (by rcases ho with ho | ho <;> simp [execOp, ho]) hv

theorem kEq_eq {a b : IntKind} (h : kEq a b = true) : a = b := by cases a <;> cases b <;> simp_all [kEq]

theorem aInt_sound {op : BinOp} {k : IntKind} {x y : Int} {e : Eff} (h : aInt op k x y = some e) (hob : ∀ p ∈ e.ob, p) (t : TypeId) :
    e.wo = [] ∧ ∃ v, RepV I w v e.v ∧ (binOp op t (.int k x) (.int k y)).run P w = .ok v w := by
  cases op <;> simp only [aInt, Eff.pure, Option.some.injEq, reduceCtorEq] at h <;> subst h <;> refine ⟨rfl, ?_⟩
  all_goals first
    | (refine ⟨_, .int _ _, ?_⟩; simp [binOp, Op.intArith]; done)
    | (refine ⟨_, .int _ _, ?_⟩; simp [binOp, Op.intBits, bitsV]; done)
    | (refine ⟨_, .bool _, ?_⟩; simp [binOp, Op.intCmp]; done)
    | (have hb : y ≠ 0 := hob _ (List.mem_singleton.2 rfl)
       refine ⟨_, .int _ _, ?_⟩; simp [binOp, Op.intDiv, hb]; done)

theorem run_equalIn_bool {P : Program} {t : TypeId} (hu : P.underlying t = some .bool) (w : World) (a b : Bool) : (Op.equal t (.bool a) (.bool b)).run P w = .ok (a == b) w := by
  show (Op.equalIn 10000 t (.bool a) (.bool b)).run P w = _
  rw [show (10000 : Nat) = 9999 + 1 from rfl]
  unfold Op.equalIn
  rw [Sem.run_bind, run_underlying hu w]
  simp

theorem aBin_sound {op : BinOp} {x y : AV} {vx vy : Value} {e : Eff} (h : aBin op x y = some e) (hob : ∀ p ∈ e.ob, p) (hx : Rep I σ.own θ w vx x) (hy : Rep I σ.own θ w vy y) (t : TypeId) (ox oy : Operand) :
    e.wo = [] ∧ ∃ v, RepV I w v e.v ∧ (do eqGuard op t ox oy vx vy; binOp op t vx vy : Sem Value).run P w = .ok v w := by
  have key : ∀ {u v : Value}, (∀ cs, u ≠ .agg cs) → u ≠ .nilIface → ∀ r, (binOp op t u v).run P w = r → (do eqGuard op t ox oy u v; binOp op t u v : Sem Value).run P w = r := by
    intro u v h1 h2 r hr
    have : (eqGuard op t ox oy u v).run P w = .ok () w := by
      unfold eqGuard
      cases u <;> cases op <;> simp_all
    simp [this, hr]
  unfold aBin at h
  split at h
  · simp only [Eff.pure, Option.some.injEq] at h
    subst h
    obtain rfl := hx.int_inv
    obtain rfl := hy.int_inv
    have hb := hob _ (List.mem_singleton.2 rfl)
    refine ⟨rfl, _, .int _ _, key (by simp) (by simp) _ ?_⟩
    have hb' : ¬ (_ < (0 : Int)) := Int.not_lt.2 hb
    simp [binOp, Op.shift, hb', shlV]
  · simp only [Eff.pure, Option.some.injEq] at h
    subst h
    obtain rfl := hx.int_inv
    obtain rfl := hy.int_inv
    have hb := hob _ (List.mem_singleton.2 rfl)
    refine ⟨rfl, _, .int _ _, key (by simp) (by simp) _ ?_⟩
    have hb' : ¬ (_ < (0 : Int)) := Int.not_lt.2 hb
    simp [binOp, Op.shift, hb', shrV]
  · obtain rfl := hx.int_inv
    obtain rfl := hy.int_inv
    rename_i k a' k' b' _ _
    cases hk : kEq k k' with
    | false => simp [hk] at h
    | true =>
      simp only [hk, cond_true] at h
      obtain rfl := kEq_eq hk
      obtain ⟨h1, v, hv, hr⟩ := aInt_sound (P := P) (I := I) (w := w) h hob t
      exact ⟨h1, v, hv, key (by simp) (by simp) _ hr⟩
  · simp only [Eff.pure, Option.some.injEq] at h
    subst h
    obtain ⟨a, rfl, rfl⟩ := hx.str_inv
    obtain ⟨b, rfl, rfl⟩ := hy.str_inv
    refine ⟨rfl, _, .bool _, key (by simp) (by simp) _ ?_⟩
    simp [binOp, Op.stringOp, bytesI_beq]
  · simp only [Eff.pure, Option.some.injEq] at h
    subst h
    obtain ⟨a, rfl, rfl⟩ := hx.str_inv
    obtain ⟨b, rfl, rfl⟩ := hy.str_inv
    refine ⟨rfl, _, .bool _, key (by simp) (by simp) _ ?_⟩
    simp [binOp, Op.stringOp, bytesI_less]
  · simp only [Eff.pure, Option.some.injEq] at h
    subst h
    obtain ⟨a, rfl, rfl⟩ := hx.str_inv
    obtain ⟨b, rfl, rfl⟩ := hy.str_inv
    refine ⟨rfl, _, .bool _, key (by simp) (by simp) _ ?_⟩
    simp [binOp, Op.stringOp, bytesI_less, bytesI_beq]
  · simp only [Eff.pure, Option.some.injEq] at h
    subst h
    obtain ⟨a, rfl, rfl⟩ := hx.str_inv
    obtain ⟨b, rfl, rfl⟩ := hy.str_inv
    refine ⟨rfl, _, .bool _, key (by simp) (by simp) _ ?_⟩
    simp [binOp, Op.stringOp, bytesI_less, bytesI_beq]
  · simp only [Eff.pure, Option.some.injEq] at h
    subst h
    obtain ⟨a, rfl, rfl⟩ := hx.str_inv
    obtain ⟨b, rfl, rfl⟩ := hy.str_inv
    refine ⟨rfl, _, .bool _, key (by simp) (by simp) _ ?_⟩
    simp [binOp, Op.stringOp, bytesI_less]
  · simp only [Eff.pure, Option.some.injEq] at h
    subst h
    obtain ⟨a, rfl, rfl⟩ := hx.str_inv
    obtain ⟨b, rfl, rfl⟩ := hy.str_inv
    refine ⟨rfl, _, .bool _, key (by simp) (by simp) _ ?_⟩
    simp [binOp, Op.stringOp, bytesI_beq]
  · simp only [Eff.pure, Option.some.injEq] at h
    subst h
    obtain ⟨a, rfl, rfl⟩ := hx.str_inv
    obtain ⟨b, rfl, rfl⟩ := hy.str_inv
    have hb := hob _ (List.mem_singleton.2 rfl)
    simp only [bytesI_length] at hb
    refine ⟨rfl, .string (a ++ b), (bytesI_append a b ▸ .str (a ++ b) : RepV I w (.string (a ++ b)) (.str (bytesI a ++ bytesI b))), key (by simp) (by simp) _ ?_⟩
    simp [binOp, Op.stringOp, hb]
  · simp at h

theorem eqCells_inv : ∀ {xs ys : List AV} {r : Bool}, eqCells xs ys = some r → xs.length = ys.length ∧ (∀ j, j < xs.length → ∃ k a b, xs.getD j .any = .int k a ∧ ys.getD j .any = .int k b) ∧
    (r = true ↔ ∀ j, j < xs.length → ∀ k a k' b, xs.getD j .any = .int k a → ys.getD j .any = .int k' b → a = b)
  | [], [], r, h => by simp [eqCells] at h; subst h; simp
  | [], _ :: _, r, h => by simp [eqCells] at h
  | x :: xs, [], r, h => by cases x <;> simp [eqCells] at h
  | x :: xs, y :: ys, r, h => by
    cases x <;> cases y <;> simp only [eqCells] at h <;> try (cases h; done)
    rename_i k a k' b
    cases hk : kEq k k' with
    | false => simp [hk] at h
    | true =>
      obtain rfl := kEq_eq hk
      simp only [hk, cond_true] at h
      split at h
      · rename_i q hq
        obtain ⟨i1, i2, i3⟩ := eqCells_inv hq
        simp only [Option.some.injEq] at h
        subst h
        refine ⟨by simp [i1], fun j hj => ?_, ?_⟩
        · cases j with
          | zero => exact ⟨k, a, b, rfl, rfl⟩
          | succ j => simpa using i2 j (by simpa using hj)
        · simp only [Bool.and_eq_true, beq_iff_eq, i3]
          constructor
          · rintro ⟨rfl, h2⟩ j hj k1 a1 k2 b1 e1 e2
            cases j with
            | zero => simp at e1 e2; omega
            | succ j => exact h2 j (by simpa using hj) k1 a1 k2 b1 (by simpa using e1) (by simpa using e2)
          · intro h2
            exact ⟨h2 0 (by simp) k a k b rfl rfl, fun j hj k1 a1 k2 b1 e1 e2 => h2 (j + 1) (by simpa using hj) k1 a1 k2 b1 (by simpa using e1) (by simpa using e2)⟩
      · cases h

theorem run_part_int {P : Program} {t : TypeId} {k : IntKind} (hu : P.underlying t = some (.int k)) (vs : Array Value) (j : Nat) (v : Value) (h : vs[j]? = some v) (w : World) : (part t vs j).run P w = .ok v w := by
  unfold part isAgg
  simp [run_underlying hu, h]

theorem run_eqInt {P : Program} {t : TypeId} {k : IntKind} (hu : P.underlying t = some (.int k)) (d : Nat) (k' : IntKind) (w : World) (a b : Int) : (Op.equalIn (d + 1) t (.int k' a) (.int k' b)).run P w = .ok (a == b) w := by
  unfold Op.equalIn
  rw [Sem.run_bind, run_underlying hu w]
  simp

theorem hasT_inv {P : Program} {t : TypeId} (h : hasT P t = true) : ∃ i d, P.info? t = some i ∧ P.underlying t = some d ∧ szT P t = i.size := by
  simp only [hasT, Bool.and_eq_true, Option.isSome_iff_exists] at h
  obtain ⟨⟨i, hi⟩, ⟨d, hd⟩⟩ := h
  exact ⟨i, d, hi, hd, by simp [szT, hi]⟩
theorem run_sizeOf' {P : Program} {t : TypeId} (h : hasT P t = true) (w : World) : (sizeOf t).run P w = .ok (szT P t) w := by
  obtain ⟨i, d, hi, hd, hs⟩ := hasT_inv h
  simp [sizeOf, typeInfo, hi, hs]
theorem run_eqLoop {P : Program} {e : TypeId} {k : IntKind} (he : P.underlying e = some (.int k)) (d : Nat) (w : World) (vs us : Array Value) : ∀ (n s : Nat),
    (∀ j, s ≤ j → j < s + n → ∃ k a b, vs[j]? = some (.int k a) ∧ us[j]? = some (.int k b)) →
    ∃ q : Option Bool × Unit, (forIn (List.range' s n 1) ((none, ()) : Option Bool × Unit) fun (i : Nat) (_ : Option Bool × Unit) => (do
            let x ← part e vs i
            let y ← part e us i
            let z ← Op.equalIn (d + 1) e x y
            if (!z) = true then pure (ForInStep.done (some false, ())) else pure (ForInStep.yield (none, ())) : Sem (ForInStep (Option Bool × Unit)))).run P w = .ok q w ∧
      ((q = (none, ()) ∧ ∀ j, s ≤ j → j < s + n → vs[j]? = us[j]?) ∨ (q = (some false, ()) ∧ ¬ ∀ j, s ≤ j → j < s + n → vs[j]? = us[j]?))
  | 0, s, _ => ⟨(none, ()), by simp, .inl ⟨rfl, fun j h1 h2 => by omega⟩⟩
  | n + 1, s, h => by
    obtain ⟨k1, x, y, hx, hy⟩ := h s (Nat.le_refl _) (by omega)
    simp only [List.range'_succ, List.forIn_cons, Sem.run_bind, run_part_int he _ _ _ hx, run_part_int he _ _ _ hy, Result.andThen_ok, run_eqInt he]
    by_cases hxy : x = y
    · subst hxy
      simp only [beq_self_eq_true, Bool.not_true, Bool.false_eq_true, if_false, Sem.run_pure, Result.andThen_ok]
      obtain ⟨q, hq, hr⟩ := run_eqLoop he d w vs us n (s + 1) (fun j h1 h2 => h j (by omega) (by omega))
      refine ⟨q, hq, ?_⟩
      rcases hr with ⟨rfl, h2⟩ | ⟨rfl, h2⟩
      · refine .inl ⟨rfl, fun j h3 h4 => ?_⟩
        by_cases hj : j = s
        · subst hj; rw [hx, hy]
        · exact h2 j (by omega) (by omega)
      · exact .inr ⟨rfl, fun h3 => h2 fun j h4 h5 => h3 j (by omega) (by omega)⟩
    · have e1 : (x == y) = false := by simpa using hxy
      simp only [e1, Bool.not_false, if_true, Sem.run_pure, Result.andThen_ok]
      exact ⟨_, rfl, .inr ⟨rfl, fun h3 => hxy (by have := h3 s (Nat.le_refl _) (by omega); rw [hx, hy] at this; simpa using this)⟩⟩
theorem run_eqArr {P : Program} {t e : TypeId} {k : IntKind} {len : Nat} (hu : P.underlying t = some (.array len e)) (he : P.underlying e = some (.int k)) (hT : hasT P e = true) (h1 : szT P e = 1) (d : Nat) (w : World) (vs us : Array Value) (r : Bool)
    (hc : ∀ j, j < len → ∃ k a b, vs[j]? = some (.int k a) ∧ us[j]? = some (.int k b)) (hr : r = true ↔ ∀ j, j < len → vs[j]? = us[j]?)
   : (Op.equalIn (d + 2) t (.agg vs) (.agg us)).run P w = .ok r w := by
  unfold Op.equalIn
  rw [Sem.run_bind, run_underlying hu w]
  simp only [Result.andThen_ok, Sem.run_bind, run_sizeOf' hT, h1, Nat.mul_one]
  rw [Std.Legacy.Range.forIn_eq_forIn_range']
  obtain ⟨q, hq, hh⟩ := run_eqLoop he d w vs us len 0 (fun j _ h => hc j (by omega))
  simp only [Std.Legacy.Range.size, Nat.sub_zero, Nat.add_sub_cancel, Nat.div_one]
  rw [hq]
  rcases hh with ⟨rfl, h2⟩ | ⟨rfl, h2⟩
  · have : r = true := hr.2 fun j hj => h2 j (Nat.zero_le _) (by omega)
    simp [this]
  · have : r = false := by
      cases r with
      | false => rfl
      | true => exact (h2 fun j _ hj => hr.1 rfl j (by omega)).elim
    simp [this]

theorem eqArr_sound {t : TypeId} {xs ys : List AV} {vx vy : Value} {r : Bool} (h : aEqArr P t xs ys = some r) (hx : Rep I σ.own θ w vx (.agg xs)) (hy : Rep I σ.own θ w vy (.agg ys)) (op : BinOp) (ho : op = .eql ∨ op = .neq) (ox oy : Operand) :
    (do eqGuard op t ox oy vx vy; Op.equal t vx vy : Sem Bool).run P w = .ok r w ∧ ∃ vs us, vx = .agg vs ∧ vy = .agg us := by
  unfold aEqArr at h
  split at h
  · rename_i len e hu
    cases hc : (hasT P e && intT P e && Nat.beq (szT P e) 1 && !(P.eqGuardType P.depth t) && Nat.beq xs.length len && Nat.beq ys.length len) with
    | false => simp [hc] at h
    | true =>
      simp only [hc, cond_true] at h
      simp only [Bool.and_eq_true, Bool.not_eq_true'] at hc
      obtain ⟨⟨⟨⟨⟨hT, hi⟩, h1⟩, hg⟩, hl1⟩, hl2⟩ := hc
      have h1 := Nat.eq_of_beq_eq_true h1
      have hl1 := Nat.eq_of_beq_eq_true hl1
      have hl2 := Nat.eq_of_beq_eq_true hl2
      obtain ⟨k, hk⟩ : ∃ k, P.underlying e = some (.int k) := by
        unfold intT at hi
        split at hi
        · rename_i k hk; exact ⟨k, hk⟩
        · cases hi
      obtain ⟨q1, q2, q3⟩ := eqCells_inv h
      obtain ⟨vs, rfl, hv1, hv2, hv3⟩ := hx.agg_inv
      obtain ⟨us, rfl, hu1, hu2, hu3⟩ := hy.agg_inv
      have hcell : ∀ j, j < len → ∃ k a b, vs[j]? = some (.int k a) ∧ us[j]? = some (.int k b) ∧ xs.getD j .any = .int k a ∧ ys.getD j .any = .int k b := fun j hj => by
        obtain ⟨k, a, b, e1, e2⟩ := q2 j (by omega)
        have r1 := hv3 j (by omega)
        have r2 := hu3 j (by omega)
        rw [e1] at r1
        rw [e2] at r2
        have r1 := r1.int_inv
        have r2 := r2.int_inv
        have a1 : vs[j]? = some (vs.getD j undef) := by simp [Array.getD, show j < vs.size by omega]
        have a2 : us[j]? = some (us.getD j undef) := by simp [Array.getD, show j < us.size by omega]
        exact ⟨k, a, b, by rw [a1, r1], by rw [a2, r2], e1, e2⟩
      have hrun := run_eqArr hu hk hT h1 9998 w vs us r (fun j hj => by obtain ⟨k, a, b, x1, x2, _⟩ := hcell j hj; exact ⟨k, a, b, x1, x2⟩) (by
        rw [q3]
        constructor
        · intro hh j hj
          obtain ⟨k, a, b, x1, x2, x3, x4⟩ := hcell j hj
          rw [x1, x2, hh j (by omega) k a k b x3 x4]
        · intro hh j hj k1 a1 k2 b1 e1 e2
          obtain ⟨k, a, b, x1, x2, x3, x4⟩ := hcell j (by omega)
          have := hh j (by omega)
          rw [x1, x2] at this
          rw [x3] at e1
          rw [x4] at e2
          simp_all)
      refine ⟨?_, vs, us, rfl, rfl⟩
      have hguard : (eqGuard op t ox oy (.agg vs) (.agg us)).run P w = .ok () w := by
        unfold eqGuard
        rcases ho with rfl | rfl <;> simp [hg]
      rw [Sem.run_bind, hguard]
      exact hrun
  · cases h

theorem aBinT_sound {op : BinOp} {t : TypeId} {x y : AV} {vx vy : Value} {e : Eff} (h : aBinT P op t x y = some e) (hob : ∀ p ∈ e.ob, p) (hx : Rep I σ.own θ w vx x) (hy : Rep I σ.own θ w vy y) (ox oy : Operand) :
    e.wo = [] ∧ ∃ v, RepV I w v e.v ∧ (do eqGuard op t ox oy vx vy; binOp op t vx vy : Sem Value).run P w = .ok v w := by
  have key : ∀ {u v : Value}, (∀ cs, u ≠ .agg cs) → u ≠ .nilIface → ∀ r, (binOp op t u v).run P w = r → (do eqGuard op t ox oy u v; binOp op t u v : Sem Value).run P w = r := by
    intro u v h1 h2 r hr
    have : (eqGuard op t ox oy u v).run P w = .ok () w := by
      unfold eqGuard
      cases u <;> cases op <;> simp_all
    simp [this, hr]
  unfold aBinT at h
  split at h
  · split at h
    · rename_i hu
      simp only [Eff.pure, Option.some.injEq] at h
      subst h
      obtain rfl := hx.bool_inv
      obtain rfl := hy.bool_inv
      refine ⟨rfl, _, .bool _, key (by simp) (by simp) _ ?_⟩
      have := fun a b => run_equalIn_bool (P := P) (t := t) hu w a b
      simp [binOp, this]
    · cases h
  · split at h
    · rename_i hu
      simp only [Eff.pure, Option.some.injEq] at h
      subst h
      obtain rfl := hx.bool_inv
      obtain rfl := hy.bool_inv
      refine ⟨rfl, _, .bool _, key (by simp) (by simp) _ ?_⟩
      have := fun a b => run_equalIn_bool (P := P) (t := t) hu w a b
      simp only [binOp, Sem.run_bind, this, Result.andThen_ok, Sem.run_pure]
      rfl
    · cases h
  · split at h
    · rename_i r hr
      simp only [Eff.pure, Option.some.injEq] at h
      subst h
      obtain ⟨hh, vs, us, rfl, rfl⟩ := eqArr_sound hr hx hy .eql (.inl rfl) ox oy
      refine ⟨rfl, _, .bool _, ?_⟩
      rw [Sem.run_bind] at hh ⊢
      cases hg : (eqGuard .eql t ox oy (.agg vs) (.agg us)).run P w with
      | ok u w1 =>
        rw [hg] at hh
        simp only [Result.andThen_ok] at hh ⊢
        simp only [binOp, Sem.run_bind, hh, Result.andThen_ok, Sem.run_pure]
      | _ => rw [hg] at hh; cases hh
    · cases h
  · split at h
    · rename_i r hr
      simp only [Eff.pure, Option.some.injEq] at h
      subst h
      obtain ⟨hh, vs, us, rfl, rfl⟩ := eqArr_sound hr hx hy .neq (.inr rfl) ox oy
      refine ⟨rfl, _, .bool _, ?_⟩
      rw [Sem.run_bind] at hh ⊢
      cases hg : (eqGuard .neq t ox oy (.agg vs) (.agg us)).run P w with
      | ok u w1 =>
        rw [hg] at hh
        simp only [Result.andThen_ok] at hh ⊢
        simp only [binOp, Sem.run_bind, hh, Result.andThen_ok, Sem.run_pure]
      | _ => rw [hg] at hh; cases hh
    · cases h
  · exact aBin_sound h hob hx hy t ox oy

theorem aUn_sound {op : UnOp} {x : AV} {vx : Value} {e : Eff} (h : aUn op x = some e) (hx : Rep I σ.own θ w vx x) :
    e.wo = [] ∧ ∃ v, RepV I w v e.v ∧ (Op.unary op vx).run P w = .ok v w := by
  unfold aUn at h
  split at h
  · simp only [Eff.pure, Option.some.injEq] at h
    subst h
    obtain rfl := hx.bool_inv
    exact ⟨rfl, _, .bool _, by simp [Op.unary]⟩
  · simp only [Eff.pure, Option.some.injEq] at h
    subst h
    obtain rfl := hx.int_inv
    exact ⟨rfl, _, .int _ _, by simp [Op.unary, Op.intArith]⟩
  · simp only [Eff.pure, Option.some.injEq] at h
    subst h
    obtain rfl := hx.int_inv
    exact ⟨rfl, _, .int _ _, by simp [Op.unary, Op.intBits, bitsV]⟩
  · simp at h
end
end Go.Proofs.Ytcpopeamoipjlaa
