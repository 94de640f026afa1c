/-
  Proved: AliasRow answers true for every input and changes nothing that was there. Conditions: none beyond the statement's own.
-/
import Derived.Test.YtjpnobeadcdnoaaGreatPk5
import Derived.Test.YtjpnobeadcdnoaaGreatRows
import Derived.WalkKit
import Derived.ProofKit
import Derived.OpenShut
import Derived.ShutString
import Derived.ChangeOld
import Derived.Below
namespace Go.Proofs.YtjpnobeadcdnoaaGreat.aliasRow
open Go.ChangeShapes Go.WideShapes Go.ChangeAt Go.RowKit
open Go.ChangeMaps (open_string shut_string)
set_option linter.unusedVariables false

theorem own : ownKnob Tryz.prog.godebug = none := by kernel_rfl
theorem laidOut : laidOutB Tryz.prog = true := by kernel_rfl

theorem walk (a0 : Int) (v0 : Value) (a1 : Int) (v1 : Value) (a2 : Int) (v2 : Value) (w : World) (wf0 : okU8 a0) (r0 : RepV (Iall w) w v0 (.int .u8 a0)) (wf1 : okU8 a1) (r1 : RepV (Iall w) w v1 (.int .u8 a1)) (wf2 : okU64 a2) (r2 : RepV (Iall w) w v2 (.int .u64 a2)) :
    Calls Tryz.prog 4 #[v0, v1, v2] w fun e w' => e = .returned (.bool true) ∧ Below w.heap.size w w' := by
  exact law_of_spec (ok_locksteplaw18_AliasRow a0 a1 a2 true (row18 a0 a1 a2 (wf_u8 wf0) (wf_u8 wf1) (wf_u64 wf2))) w _ (.cons (.val _ _ r0) (.cons (.val _ _ r1) (.cons (.val _ _ r2) .nil))) (fun g cells hg => by cases hg)

set_option maxRecDepth 100000 in
theorem lifted (os : Os) (started : os.Started) (H : Type) (enc : TypeId × Value → H) :
    ReturnsInHanded {} Tryz.checked os 4 .any (Rows.aliasRowSpec.pre6 enc Tryz.prog Tryz.f4 Rows.aliasRowRow.domain false) (Rows.aliasRowSpec.post enc Tryz.prog Tryz.f4 false true false false) := by
  refine returnsInHanded_of_change (C := Tryz.checked) own started (by kernel_rfl) Tryz.func4
    (ChangeSpec.witness6 (enc := enc) (C := Tryz.checked) false ⟨#[], #[.int .u8 0, .int .u8 0, .int .u64 0], []⟩ 8 (by kernel_rfl) (by kernel_rfl) (by kernel_rfl) (by kernel_rfl)) ?_
  intro W base args ds gs before hval0 hW hcnd _
  have hval : ∀ (j : Nat) t v, Tryz.f4.params[j]? = some t → args[j]? = some v → Value.okWide Tryz.prog W .any base t v := hval0
  have hW' := hW
  obtain ⟨p, q, hA0, hV, rfl, hfz, hnd⟩ := hW
  have hA : DataW.TrodAll enc Tryz.prog W 0 (fun _ => true) true Tryz.f4.params.toList args.toList ds p := hA0
  rw [Tryz.params4] at hA hval
  obtain ⟨v0, vs0, d0, ds0, p0, q0, hargs, rfl, rfl, h0, r0⟩ := trodAll_cons hA
  obtain ⟨v1, vs1, d1, ds1, p1, q1, rfl, rfl, rfl, h1, r1⟩ := trodAll_cons r0
  obtain ⟨v2, vs2, d2, ds2, p2, q2, rfl, rfl, rfl, h2, r2⟩ := trodAll_cons r1
  obtain ⟨rfl, rfl, rfl⟩ := trodAll_nil r2
  obtain rfl : args = #[v0, v1, v2] := by cases args; simp_all
  obtain ⟨rfl, rfl⟩ := trodVars_none hV
  have k0 := h0
  have lt0 : ∀ x ∈ p0, x.block < W.heap.size := by obtain ⟨m, hm⟩ := k0; exact DataW.trod_lt m _ _ _ hm
  have hc0 : v0.cells = #[v0] := by obtain ⟨_, rfl, _⟩ := open_int Tryz.underlying5 (hval 0 5 v0 rfl rfl) h0; rfl
  obtain ⟨a0, wf0, c0⟩ := arg_one op_5 (x := fun a0 => (.int .u8 a0)) (fun _ => rfl) hc0 h0
  have k1 := h1
  have lt1 : ∀ x ∈ p1, x.block < W.heap.size := by obtain ⟨m, hm⟩ := k1; exact DataW.trod_lt m _ _ _ hm
  have hc1 : v1.cells = #[v1] := by obtain ⟨_, rfl, _⟩ := open_int Tryz.underlying5 (hval 1 5 v1 rfl rfl) h1; rfl
  obtain ⟨a1, wf1, c1⟩ := arg_one op_5 (x := fun a1 => (.int .u8 a1)) (fun _ => rfl) hc1 h1
  have k2 := h2
  have lt2 : ∀ x ∈ p2, x.block < W.heap.size := by obtain ⟨m, hm⟩ := k2; exact DataW.trod_lt m _ _ _ hm
  have hc2 : v2.cells = #[v2] := by obtain ⟨_, rfl, _⟩ := open_int Tryz.underlying32 (hval 2 32 v2 rfl rfl) h2; rfl
  obtain ⟨a2, wf2, c2⟩ := arg_one op_32 (x := fun a2 => (.int .u64 a2)) (fun _ => rfl) hc2 h2
  clear hA0 hval0
  refine (walk a0 _ a1 _ a2 _ W wf0 c0 wf1 c1 wf2 c2).mono fun e W' ⟨he, bel⟩ => ?_
  subst he
  exact ⟨_, rfl, _, _, _, [], _, [], hW', trodAll_mk1 (shut_bool Tryz.underlying4 _), (trodAll_cons_mk (Below.trod laidOut (by kernel_rfl) (of_decide_eq_true (by kernel_rfl)) k0 bel lt0) (trodAll_cons_mk (Below.trod laidOut (by kernel_rfl) (of_decide_eq_true (by kernel_rfl)) k1 bel lt1) (trodAll_cons_mk (Below.trod laidOut (by kernel_rfl) (of_decide_eq_true (by kernel_rfl)) k2 bel lt2) trodAll_mk0))), rfl, bel.frame _, fun h => by cases h⟩

theorem over : Rows.aliasRowRow.holds Tryz.pinned (OpenSpec.ofChange Rows.aliasRowSpec) :=
  OpenClaim.holds_of_wide 4 Tryz.f4 rfl rfl rfl rfl rfl rfl rfl ⟨rfl, rfl, rfl, rfl, rfl⟩ rfl rfl rfl rfl rfl (by kernel_rfl) Tryz.func4 (by kernel_rfl)
    (of_decide_eq_true (by kernel_rfl)) (by unfold Func.isWrapper; first | (rw [if_pos (by decide +kernel)]; kernel_rfl) | (rw [if_neg (by decide +kernel)]; exact ⟨rfl, rfl⟩))
    (fun os started H enc _ => lifted os started H enc)

theorem proved : Rows.AliasRowSaid := over
#print axioms proved
end Go.Proofs.YtjpnobeadcdnoaaGreat.aliasRow
