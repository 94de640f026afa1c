/-
  Each operation does what is told of it: those that leave memory alone.
-/
import Derived.Test.YtgdihcpnhkkelaaRun
namespace Go.Proofs.Ytgdihcpnhkkelaa
open Go Go.RowKit

def Sto.upd (σ : Sto) (dst : Option Nat) (v : AV) (wo : List (Nat × Own)) : Sto :=
  ⟨fun t => if dst = some t then v else σ.tmp t, fun nm => match look wo nm with | some o => some o | none => σ.own nm⟩

theorem sto_own_nil (σ : Sto) (dst : Option Nat) (v : AV) : (σ.upd dst v []).own = σ.own := rfl

theorem put_getD (a : Act) (d t : Nat) (v : Value) (hd : d < a.tmps.size) : ((a.put (some d) v).tmps.getD t undef) = if d = t then v else a.tmps.getD t undef := by
  simp only [Act.put, Array.getD_eq_getD_getElem?, Array.getElem?_setIfInBounds]
  by_cases h : d = t
  · subst h
    simp [hd]
  · simp [h]

theorem rel_put {Γ : Env} {σ : Sto} {I I' : Nat → Nat → Prop} {θ θ' : Nat → Option (Nat × Nat)} {a : Act} {w w' : World} {dst : Option Nat} {v : Value} {x : AV} {own' : Nat → Option Own}
    (h : Rel Γ σ I θ a w) (k : Chg σ.own θ I w own' θ' I' w') (hv : Rep I' own' θ' w' v x) (hd : ∀ d, dst = some d → d < Γ.n) :
    Rel Γ ⟨fun t => if dst = some t then x else σ.tmp t, own'⟩ I' θ' (a.put dst v) w' := by
  refine ⟨?_, ?_, fun t => ?_, h.chg.trans k⟩
  · cases dst <;> simp [Act.put, h.size]
  · cases dst <;> simp [Act.put, h.defers]
  · cases dst with
    | none => simpa [Act.put] using (h.slots t).chg k
    | some d =>
      have hlt := hd d rfl
      rw [put_getD a d t v (by rw [h.size]; exact hlt)]
      by_cases e : d = t
      · subst e; simpa using hv
      · simpa [e] using (h.slots t).chg k

/-- What is to be shown of an operation. -/
def OpOK (P : Program) (Γ : Env) (σ : Sto) (o : Oper) (a : Act) (w : World) (x : AV) (wo : List (Nat × Own)) : Prop :=
  ∀ (K : Act → World → Prop) (Q : Exit → Act → World → Prop), (∀ I' θ' a' w', Rel Γ (σ.upd o.dst x wo) I' θ' a' w' → K a' w') → o.wp P a w K Q

section
variable {P : Program} {Γ : Env} {σ : Sto} {I : Nat → Nat → Prop} {θ : Nat → Option (Nat × Nat)} {a : Act} {w : World} {o : Oper}

/-- It gives a value, and memory stays. -/
theorem ok_pure (h : Rel Γ σ I θ a w) (hd : ∀ d, o.dst = some d → d < Γ.n) {v : Value} {x : AV} (hr : (execOp a.eval o).run P w = .ok (.value v) w)
    (hv : Rep I σ.own θ w v x) : OpOK P Γ σ o a w x [] := by
  intro K Q hK
  unfold Oper.wp
  rw [hr]
  exact hK I θ _ _ (rel_put h (.refl h.chg.rel h.chg.valid) hv hd)

/-- It gives a value, and memory turns. -/
theorem ok_chg (h : Rel Γ σ I θ a w) (hd : ∀ d, o.dst = some d → d < Γ.n) {v : Value} {x : AV} {w' : World} {I' : Nat → Nat → Prop} {θ' : Nat → Option (Nat × Nat)} {wo : List (Nat × Own)}
    (hr : (execOp a.eval o).run P w = .ok (.value v) w') (k : Chg σ.own θ I w (σ.upd o.dst x wo).own θ' I' w')
    (hv : Rep I' (σ.upd o.dst x wo).own θ' w' v x) : OpOK P Γ σ o a w x wo := by
  intro K Q hK
  unfold Oper.wp
  rw [hr]
  exact hK I' θ' _ _ (rel_put h k hv hd)
theorem ok_skip (h : Rel Γ σ I θ a w) (hd : ∀ d, o.dst = some d → d < Γ.n) {w' : World} {I' : Nat → Nat → Prop} {θ' : Nat → Option (Nat × Nat)} {wo : List (Nat × Own)}
    (hr : (execOp a.eval o).run P w = .ok .skip w') (k : Chg σ.own θ I w (σ.upd o.dst .undef wo).own θ' I' w') : OpOK P Γ σ o a w .undef wo := by
  intro K Q hK
  unfold Oper.wp
  rw [hr]
  exact hK I' θ' _ _ (rel_put h k (.val _ _ .undef) hd)

theorem ok_move (h : Rel Γ σ I θ a w) (hd : ∀ d, o.dst = some d → d < Γ.n) (x : Operand) (ho : o.op = .move x ∨ o.op = .assign x) {y : AV}
    (hv : Rep I σ.own θ w (a.eval x) y) : OpOK P Γ σ o a w y [] :=
  ok_pure h hd (by rcases ho with ho | ho <;> simp [execOp, ho]) hv

theorem kEq_eq {a b : IntKind} (h : kEq a b = true) : a = b := by cases a <;> cases b <;> simp_all [kEq]

theorem aInt_sound {op : BinOp} {k : IntKind} {x y : Int} {e : Eff} (h : aInt op k x y = some e) (hob : ∀ p ∈ e.ob, p) (t : TypeId) :
    e.wo = [] ∧ ∃ v, RepV I w v e.v ∧ (binOp op t (.int k x) (.int k y)).run P w = .ok v w := by
  cases op <;> simp only [aInt, Eff.pure, Option.some.injEq, reduceCtorEq] at h <;> subst h <;> refine ⟨rfl, ?_⟩
  all_goals first
    | (refine ⟨_, .int _ _, ?_⟩; simp [binOp, Op.intArith]; done)
    | (refine ⟨_, .int _ _, ?_⟩; simp [binOp, Op.intBits, bitsV]; done)
    | (refine ⟨_, .bool _, ?_⟩; simp [binOp, Op.intCmp]; done)
    | (have hb : y ≠ 0 := hob _ (List.mem_singleton.2 rfl)
       refine ⟨_, .int _ _, ?_⟩; simp [binOp, Op.intDiv, hb]; done)

theorem run_equalIn_bool {P : Program} {t : TypeId} (hu : P.underlying t = some .bool) (w : World) (a b : Bool) : (Op.equal t (.bool a) (.bool b)).run P w = .ok (a == b) w := by
  show (Op.equalIn 10000 t (.bool a) (.bool b)).run P w = _
  rw [show (10000 : Nat) = 9999 + 1 from rfl]
  unfold Op.equalIn
  rw [Sem.run_bind, run_underlying hu w]
  simp

theorem aBin_sound {op : BinOp} {x y : AV} {vx vy : Value} {e : Eff} (h : aBin op x y = some e) (hob : ∀ p ∈ e.ob, p) (hx : Rep I σ.own θ w vx x) (hy : Rep I σ.own θ w vy y) (t : TypeId) (ox oy : Operand) :
    e.wo = [] ∧ ∃ v, RepV I w v e.v ∧ (do eqGuard op t ox oy vx vy; binOp op t vx vy : Sem Value).run P w = .ok v w := by
  have key : ∀ {u v : Value}, (∀ cs, u ≠ .agg cs) → u ≠ .nilIface → ∀ r, (binOp op t u v).run P w = r → (do eqGuard op t ox oy u v; binOp op t u v : Sem Value).run P w = r := by
    intro u v h1 h2 r hr
    have : (eqGuard op t ox oy u v).run P w = .ok () w := by
      unfold eqGuard
      cases u <;> cases op <;> simp_all
    simp [this, hr]
  unfold aBin at h
  split at h
  · simp only [Eff.pure, Option.some.injEq] at h
    subst h
    obtain rfl := hx.int_inv
    obtain rfl := hy.int_inv
    have hb := hob _ (List.mem_singleton.2 rfl)
    refine ⟨rfl, _, .int _ _, key (by simp) (by simp) _ ?_⟩
    have hb' : ¬ (_ < (0 : Int)) := Int.not_lt.2 hb
    simp [binOp, Op.shift, hb', shlV]
  · simp only [Eff.pure, Option.some.injEq] at h
    subst h
    obtain rfl := hx.int_inv
    obtain rfl := hy.int_inv
    have hb := hob _ (List.mem_singleton.2 rfl)
    refine ⟨rfl, _, .int _ _, key (by simp) (by simp) _ ?_⟩
    have hb' : ¬ (_ < (0 : Int)) := Int.not_lt.2 hb
    simp [binOp, Op.shift, hb', shrV]
  · obtain rfl := hx.int_inv
    obtain rfl := hy.int_inv
    rename_i k a' k' b' _ _
    cases hk : kEq k k' with
    | false => simp [hk] at h
    | true =>
      simp only [hk, cond_true] at h
      obtain rfl := kEq_eq hk
      obtain ⟨h1, v, hv, hr⟩ := aInt_sound (P := P) (I := I) (w := w) h hob t
      exact ⟨h1, v, hv, key (by simp) (by simp) _ hr⟩
  · simp only [Eff.pure, Option.some.injEq] at h
    subst h
    obtain rfl := hx.str_inv
    obtain rfl := hy.str_inv
    refine ⟨rfl, _, .bool _, key (by simp) (by simp) _ ?_⟩
    simp [binOp, Op.stringOp]
  · simp only [Eff.pure, Option.some.injEq] at h
    subst h
    obtain rfl := hx.str_inv
    obtain rfl := hy.str_inv
    refine ⟨rfl, _, .bool _, key (by simp) (by simp) _ ?_⟩
    simp [binOp, Op.stringOp]
  · simp only [Eff.pure, Option.some.injEq] at h
    subst h
    obtain rfl := hx.str_inv
    obtain rfl := hy.str_inv
    have hb := hob _ (List.mem_singleton.2 rfl)
    refine ⟨rfl, _, .str _, key (by simp) (by simp) _ ?_⟩
    simp [binOp, Op.stringOp, hb]
  · simp at h

theorem aBinT_sound {op : BinOp} {t : TypeId} {x y : AV} {vx vy : Value} {e : Eff} (h : aBinT P op t x y = some e) (hob : ∀ p ∈ e.ob, p) (hx : Rep I σ.own θ w vx x) (hy : Rep I σ.own θ w vy y) (ox oy : Operand) :
    e.wo = [] ∧ ∃ v, RepV I w v e.v ∧ (do eqGuard op t ox oy vx vy; binOp op t vx vy : Sem Value).run P w = .ok v w := by
  have key : ∀ {u v : Value}, (∀ cs, u ≠ .agg cs) → u ≠ .nilIface → ∀ r, (binOp op t u v).run P w = r → (do eqGuard op t ox oy u v; binOp op t u v : Sem Value).run P w = r := by
    intro u v h1 h2 r hr
    have : (eqGuard op t ox oy u v).run P w = .ok () w := by
      unfold eqGuard
      cases u <;> cases op <;> simp_all
    simp [this, hr]
  unfold aBinT at h
  split at h
  · split at h
    · rename_i hu
      simp only [Eff.pure, Option.some.injEq] at h
      subst h
      obtain rfl := hx.bool_inv
      obtain rfl := hy.bool_inv
      refine ⟨rfl, _, .bool _, key (by simp) (by simp) _ ?_⟩
      have := fun a b => run_equalIn_bool (P := P) (t := t) hu w a b
      simp [binOp, this]
    · cases h
  · split at h
    · rename_i hu
      simp only [Eff.pure, Option.some.injEq] at h
      subst h
      obtain rfl := hx.bool_inv
      obtain rfl := hy.bool_inv
      refine ⟨rfl, _, .bool _, key (by simp) (by simp) _ ?_⟩
      have := fun a b => run_equalIn_bool (P := P) (t := t) hu w a b
      simp only [binOp, Sem.run_bind, this, Result.andThen_ok, Sem.run_pure]
      rfl
    · cases h
  · exact aBin_sound h hob hx hy t ox oy

theorem aUn_sound {op : UnOp} {x : AV} {vx : Value} {e : Eff} (h : aUn op x = some e) (hx : Rep I σ.own θ w vx x) :
    e.wo = [] ∧ ∃ v, RepV I w v e.v ∧ (Op.unary op vx).run P w = .ok v w := by
  unfold aUn at h
  split at h
  · simp only [Eff.pure, Option.some.injEq] at h
    subst h
    obtain rfl := hx.bool_inv
    exact ⟨rfl, _, .bool _, by simp [Op.unary]⟩
  · simp only [Eff.pure, Option.some.injEq] at h
    subst h
    obtain rfl := hx.int_inv
    exact ⟨rfl, _, .int _ _, by simp [Op.unary, Op.intArith]⟩
  · simp only [Eff.pure, Option.some.injEq] at h
    subst h
    obtain rfl := hx.int_inv
    exact ⟨rfl, _, .int _ _, by simp [Op.unary, Op.intBits, bitsV]⟩
  · simp at h
end
end Go.Proofs.Ytgdihcpnhkkelaa
