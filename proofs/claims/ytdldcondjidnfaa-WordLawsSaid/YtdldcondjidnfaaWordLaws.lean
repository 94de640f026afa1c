/-
  WordLaws is true for every input: order doesn't matter to Add, Mul, And, Or, Xor and Eq; exactly one of less, alike and greater holds, of both ways to compare. No condition.
-/
import Derived.Test.YtdldcondjidnfaaRows
import Derived.WalkKit
import Derived.ProofKit
import Derived.OpenShut
import Derived.ShutString
import Derived.Test.YtdldcondjidnfaaDo
import Derived.Test.YtdldcondjidnfaaRefB
import Derived.Test.YtdldcondjidnfaaLaws
import Derived.Test.YtdldcondjidnfaaAid
namespace Go.Proofs.Ytdldcondjidnfaa.wordLaws
open Go.ChangeShapes Go.WideShapes Go.ChangeAt Go.RowKit
open Go.ChangeMaps (open_string shut_string)
set_option linter.unusedVariables false      -- a walk need not use every 'w<i>' (that an integer argument fits its kind)

theorem own : ownKnob Try.prog.godebug = none := by kernel_rfl

def k6 (m : Nat) : Int := [1, 3, 5, 6, 7, 10].getD m 0
def k2 (m : Nat) : Int := [11, 12].getD m 0
theorem k6_ok {m : Nat} (h : m < 6) : k6 m = 1 ∨ k6 m = 3 ∨ k6 m = 5 ∨ k6 m = 6 ∨ k6 m = 7 ∨ k6 m = 10 := by
  match m, h with
  | 0, _ => exact Or.inl rfl
  | 1, _ => exact Or.inr (Or.inl rfl)
  | 2, _ => exact Or.inr (Or.inr (Or.inl rfl))
  | 3, _ => exact Or.inr (Or.inr (Or.inr (Or.inl rfl)))
  | 4, _ => exact Or.inr (Or.inr (Or.inr (Or.inr (Or.inl rfl))))
  | 5, _ => exact Or.inr (Or.inr (Or.inr (Or.inr (Or.inr rfl))))
theorem k2_ok {m : Nat} (h : m < 2) : k2 m = 11 ∨ k2 m = 12 := by
  match m, h with
  | 0, _ => exact Or.inl rfl
  | 1, _ => exact Or.inr rfl
theorem cell6 (w : World) {m : Nat} (h : m < 6) : (w.alloc (.cells #[.int .i64 1, .int .i64 3, .int .i64 5, .int .i64 6, .int .i64 7, .int .i64 10] 3)).cell? ⟨w.heap.size, m, none⟩ = some (.int .i64 (k6 m)) := by
  rw [World.cell?_alloc_at _ _ _ _ rfl]
  match m, h with
  | 0, _ => rfl
  | 1, _ => rfl
  | 2, _ => rfl
  | 3, _ => rfl
  | 4, _ => rfl
  | 5, _ => rfl
theorem cell2 (w : World) {m : Nat} (h : m < 2) : (w.alloc (.cells #[.int .i64 11, .int .i64 12] 3)).cell? ⟨w.heap.size, m, none⟩ = some (.int .i64 (k2 m)) := by
  rw [World.cell?_alloc_at _ _ _ _ rfl]
  match m, h with
  | 0, _ => rfl
  | 1, _ => rfl

set_option maxHeartbeats 2000000 in
set_option maxRecDepth 100000 in
theorem yes (a0 a1 a2 : Int) (w : World)
    (hM : ∀ w, Calls Try.prog 15 #[.int .i64 a0] w fun e w' => e = .returned (.bool true) ∧ w = w')
    (hA : ∀ (m : Nat) (w : World), m < 6 → Calls Try.prog 12 #[.int .i64 (k6 m), .int .i64 a0, .int .u64 a1, .int .u64 a2] w fun e w' => e = .returned (.tuple #[.int .u64 (doV (k6 m) a0 a1 a2), .int .i64 0]) ∧ Grown w w')
    (hB : ∀ (m : Nat) (w : World), m < 6 → Calls Try.prog 12 #[.int .i64 (k6 m), .int .i64 a0, .int .u64 a2, .int .u64 a1] w fun e w' => e = .returned (.tuple #[.int .u64 (doV (k6 m) a0 a1 a2), .int .i64 0]) ∧ Grown w w')
    (hE : ∀ w, Calls Try.prog 12 #[.int .i64 10, .int .i64 a0, .int .u64 a1, .int .u64 a2] w fun e w' => e = .returned (.tuple #[.int .u64 (doV 10 a0 a1 a2), .int .i64 0]) ∧ Grown w w')
    (hC : ∀ (m : Nat) (w : World), m < 2 → Calls Try.prog 12 #[.int .i64 (k2 m), .int .i64 a0, .int .u64 a1, .int .u64 a2] w fun e w' => e = .returned (.tuple #[.int .u64 (doV (k2 m) a0 a1 a2), .int .i64 0]) ∧ Grown w w')
    (hD : ∀ (m : Nat) (w : World), m < 2 → Calls Try.prog 12 #[.int .i64 (k2 m), .int .i64 a0, .int .u64 a2, .int .u64 a1] w fun e w' => e = .returned (.tuple #[.int .u64 (doV (k2 m) a0 a2 a1), .int .i64 0]) ∧ Grown w w')
    (hT : ∀ m : Nat, m < 2 → IntKind.u64.wrap (IntKind.u64.wrap (doV (k2 m) a0 a1 a2 + doV (k2 m) a0 a2 a1) + doV 10 a0 a1 a2) = 1) :
    Calls Try.prog 6 #[.int .i64 a0, .int .u64 a1, .int .u64 a2] w fun e w' => e = .returned (.bool true) ∧ Grown w w' := by
  have HH := Lib.hid (And.intro hA (And.intro hB (And.intro hC (And.intro hD hT))))
  clear hA hB hC hD hT
  go_enter Try.func6, Try.ntmps6
  go_wp2_with fail
  refine (awake_any _).mono ?_
  rintro e w1 ⟨rfl, hg1⟩
  go_wp2_with (go_at_call 15; refine (hM _).mono ?_; rintro e w' ⟨rfl, rfl⟩)
  go_loopw [28] (fun i wr => ∃ m : Nat, m ≤ 6 ∧ i = .int .i64 m ∧ Grown (w1.alloc (.cells #[.int .i64 1, .int .i64 3, .int .i64 5, .int .i64 6, .int .i64 7, .int .i64 10] 3)) wr) (fun i _ => 6 - (intOf i).toNat)
  case atStart => exact ⟨0, by omega, rfl, Grown.refl _⟩
  case round =>
    obtain ⟨m, hm, rfl, hgr⟩ := hrel
    by_cases hlt : m < 6
    · have hcell : wr.cell? ⟨w1.heap.size, m, none⟩ = some (.int .i64 (k6 m)) := by rw [grown_cell hgr (by simp)]; exact cell6 w1 hlt
      have hA := fun w => HH.out.1 m w hlt
      have hB := fun w => HH.out.2.1 m w hlt
      clear HH
      go_wp2_with (first | (go_at_call 12; (first | (with_reducible refine (hA _).mono ?_) | (with_reducible refine (hB _).mono ?_)); rintro e w' ⟨rfl, hg⟩))
      go_roundw
      case rel => exact ⟨m + 1, by omega, by go_num, by repeat (first | exact Grown.refl _ | apply Grown.alloc | refine grown_last ‹Grown _ _› ?_)⟩
      case measure => simp [intOf]; omega
    · have hm6 : m = 6 := by omega
      subst hm6
      go_wp2_with fail
      refine (hE _).mono ?_
      rintro e w2 ⟨rfl, hg2⟩
      go_wp2
      go_loopw [61] (fun i wq => ∃ m : Nat, m ≤ 2 ∧ i = .int .i64 m ∧ Grown (w2.alloc (.cells #[.int .i64 11, .int .i64 12] 3)) wq) (fun i _ => 2 - (intOf i).toNat)
      case atStart => exact ⟨0, by omega, rfl, Grown.refl _⟩
      case round =>
        obtain ⟨m, hm, rfl, hgq⟩ := hrel
        by_cases hlt : m < 2
        · have hcell : wr.cell? ⟨w2.heap.size, m, none⟩ = some (.int .i64 (k2 m)) := by rw [grown_cell hgq (by simp)]; exact cell2 w2 hlt
          have hC := fun w => HH.out.2.2.1 m w hlt
          have hD := fun w => HH.out.2.2.2.1 m w hlt
          have ht : (IntKind.u64.wrap (IntKind.u64.wrap (doV (k2 m) a0 a1 a2 + doV (k2 m) a0 a2 a1) + doV 10 a0 a1 a2) != 1) = false := by simpa using HH.out.2.2.2.2 m hlt
          clear HH
          go_wp2_with (first | (go_at_call 12; (first | (with_reducible refine (hC _).mono ?_) | (with_reducible refine (hD _).mono ?_)); rintro e w' ⟨rfl, hg⟩))
          go_roundw
          case rel => exact ⟨m + 1, by omega, by go_num, by repeat (first | exact Grown.refl _ | apply Grown.alloc | refine grown_last ‹Grown _ _› ?_)⟩
          case measure => simp [intOf]; omega
        · have hm2 : m = 2 := by omega
          subst hm2
          go_wp2
          go_ret
          exact ⟨rfl, by repeat (first | exact Grown.refl _ | apply Grown.alloc | refine grown_last ‹Grown _ _› ?_)⟩

theorem walk (a0 : Int) (a1 : Int) (a2 : Int) (w0 : (Lit.int .i64 a0).wf = true) (w1 : (Lit.int .u64 a1).wf = true) (w2 : (Lit.int .u64 a2).wf = true) (w : World) :
    Calls Try.prog 6 #[.int .i64 a0, .int .u64 a1, .int .u64 a2] w fun e w' => e = .returned (.bool true) ∧ Grown w w' := by
  clear w0 w1 w2
  cases hn : isW a0
  · have hM : ∀ w, Calls Try.prog 15 #[.int .i64 a0] w fun e w' => e = .returned (.bool false) ∧ w = w' := fun w => rmay_no a0 w hn
    clear hn
    go_enter Try.func6, Try.ntmps6
    go_wp2_with (first | (go_at_call 11; refine (awake_any _).mono ?_; rintro e w' ⟨rfl, hg⟩) | (go_at_call 15; refine (hM _).mono ?_; rintro e w' ⟨rfl, rfl⟩))
    go_ret
    exact ⟨rfl, by assumption⟩
  · have hd := fun (k : Int) (a b : Int) (w : World) (h : k = 1 ∨ k = 3 ∨ k = 5 ∨ k = 6 ∨ k = 7 ∨ k = 10 ∨ k = 11 ∨ k = 12) => by
      have h := do_any k a0 a b w
      rwa [doC_go b hn (by omega) (by omega) (by omega)] at h
    refine yes a0 a1 a2 w (fun w => rmay_yes a0 w hn) (fun m w h => hd _ _ _ w (by have := k6_ok h; omega)) (fun m w h => ?_) (fun w => hd _ _ _ w (by omega)) (fun m w h => hd _ _ _ w (by have := k2_ok h; omega)) (fun m w h => hd _ _ _ w (by have := k2_ok h; omega)) (fun m h => ?_)
    · rw [← comm_k a1 a2 hn (k6_ok h)]; exact hd _ _ _ w (by have := k6_ok h; omega)
    · rcases k2_ok h with e | e
      · rw [e]; exact wrap_nest (three_u a1 a2 hn)
      · rw [e]; exact wrap_nest (three_s a1 a2 hn)

set_option maxRecDepth 100000 in
theorem lifted (os : Os) (started : os.Started) (H : Type) (enc : TypeId × Value → H) :
    ReturnsInHanded {} Try.checked os 6 .any (Rows.wordLawsSpec.pre6 enc Try.prog Try.f6 Rows.wordLawsRow.domain false) (Rows.wordLawsSpec.post enc Try.prog Try.f6 false true false false) := by
  refine returnsInHanded_of_change (C := Try.checked) own started (by kernel_rfl) Try.func6
    (ChangeSpec.witness6 (enc := enc) (C := Try.checked) false ⟨#[], #[.int .i64 0, .int .u64 0, .int .u64 0], []⟩ 8 (by kernel_rfl) (by kernel_rfl) (by kernel_rfl) (by kernel_rfl)) ?_
  intro W base args ds gs before hval0 hW hcnd _
  have hval : ∀ (j : Nat) t v, Try.f6.params[j]? = some t → args[j]? = some v → Value.okWide Try.prog W .any base t v := hval0
  have hW' := hW
  obtain ⟨p, q, hA0, hV, rfl, hfz, hnd⟩ := hW
  have hA : DataW.TrodAll enc Try.prog W 0 (fun _ => true) true Try.f6.params.toList args.toList ds p := hA0
  rw [Try.params6] at hA hval
  obtain ⟨v0, vs0, d0, ds0, p0, q0, hargs, rfl, rfl, h0, r0⟩ := trodAll_cons hA
  obtain ⟨v1, vs1, d1, ds1, p1, q1, rfl, rfl, rfl, h1, r1⟩ := trodAll_cons r0
  obtain ⟨v2, vs2, d2, ds2, p2, q2, rfl, rfl, rfl, h2, r2⟩ := trodAll_cons r1
  obtain ⟨rfl, rfl, rfl⟩ := trodAll_nil r2
  obtain rfl : args = #[v0, v1, v2] := by cases args; simp_all
  obtain ⟨rfl, rfl⟩ := trodVars_none hV
  obtain ⟨a0, rfl, rfl, rfl, w0⟩ := open_int Try.underlying3 (hval 0 3 v0 rfl rfl) h0
  obtain ⟨a1, rfl, rfl, rfl, w1⟩ := open_int Try.underlying22 (hval 1 22 v1 rfl rfl) h1
  obtain ⟨a2, rfl, rfl, rfl, w2⟩ := open_int Try.underlying22 (hval 2 22 v2 rfl rfl) h2
  clear hA0 hval0
  simp only [List.append_nil] at hW'
  refine (walk a0 a1 a2 w0 w1 w2 W).mono fun e W' ⟨he, hg⟩ => ?_
  subst he
  exact ⟨_, rfl, post_of_same (pa := []) (pv := []) hW' (fun _ _ _ => (trodAll_cons_mk (shut_bool Try.underlying4 _) trodAll_mk0)) (fun sp _ => (trodAll_cons_mk (shut_int Try.underlying3 w0) (trodAll_cons_mk (shut_int Try.underlying22 w1) (trodAll_cons_mk (shut_int Try.underlying22 w2) trodAll_mk0)))) (fun _ _ => rfl) rfl
    (hg.frame _) hg.2.1 (ok_one (by kernel_rfl) rfl (okWide_bool_mk Try.underlying4 _))⟩

theorem over : Rows.wordLawsRow.holds Try.pinned (OpenSpec.ofChange Rows.wordLawsSpec) :=
  OpenClaim.holds_of_wide 6 Try.f6 rfl rfl rfl rfl rfl rfl rfl ⟨rfl, rfl, rfl, rfl, rfl⟩ rfl rfl rfl rfl rfl (by kernel_rfl) Try.func6 (by kernel_rfl)
    (of_decide_eq_true (by kernel_rfl)) (by unfold Func.isWrapper; first | (rw [if_pos (by decide +kernel)]; kernel_rfl) | (rw [if_neg (by decide +kernel)]; exact ⟨rfl, rfl⟩))
    (fun os started H enc _ => lifted os started H enc)

theorem proved : Rows.WordLawsSaid :=
  over
#print axioms proved
end Go.Proofs.Ytdldcondjidnfaa.wordLaws
