/-
  WordBits is true for every input: of bits and their opposite and gives nothing, or gives all, exclusive or gives all; a number with itself gives itself, itself, nothing. No condition.
-/
import Derived.Test.YtdldcondjidnfaaRows
import Derived.WalkKit
import Derived.ProofKit
import Derived.OpenShut
import Derived.ShutString
import Derived.Test.YtdldcondjidnfaaDo
import Derived.Test.YtdldcondjidnfaaRefB
import Derived.Test.YtdldcondjidnfaaLaws
import Derived.Test.YtdldcondjidnfaaAid
namespace Go.Proofs.Ytdldcondjidnfaa.wordBits
open Go.ChangeShapes Go.WideShapes Go.ChangeAt Go.RowKit
open Go.ChangeMaps (open_string shut_string)
set_option linter.unusedVariables false      -- a walk need not use every 'w<i>' (that an integer argument fits its kind)

theorem own : ownKnob Try.prog.godebug = none := by kernel_rfl

def k5 (m : Nat) : Int := [1, 8, 16, 32, 64].getD m 0
theorem k5_ok {m : Nat} (h : m < 5) : isW (k5 m) = true := by
  match m, h with
  | 0, _ => rfl
  | 1, _ => rfl
  | 2, _ => rfl
  | 3, _ => rfl
  | 4, _ => rfl
theorem cell5 (w : World) {m : Nat} (h : m < 5) : (w.alloc (.cells #[.int .i64 1, .int .i64 8, .int .i64 16, .int .i64 32, .int .i64 64] 3)).cell? ⟨w.heap.size, m, none⟩ = some (.int .i64 (k5 m)) := by
  rw [World.cell?_alloc_at _ _ _ _ rfl]
  match m, h with
  | 0, _ => rfl
  | 1, _ => rfl
  | 2, _ => rfl
  | 3, _ => rfl
  | 4, _ => rfl

/-- what a round calls -/
def Round (a0 : Int) (m : Nat) (A T V : Int) : Prop :=
  (∀ w, Calls Try.prog 16 #[.int .u64 18446744073709551615, .int .i64 (k5 m)] w fun e w' => e = .returned (.int .u64 A) ∧ w = w') ∧ (∀ w, Calls Try.prog 12 #[.int .i64 7, .int .i64 (k5 m), .int .u64 a0, .int .u64 A] w fun e w' => e = .returned (.tuple #[.int .u64 T, .int .i64 0]) ∧ Grown w w') ∧ (∀ w, Calls Try.prog 12 #[.int .i64 5, .int .i64 (k5 m), .int .u64 a0, .int .u64 T] w fun e w' => e = .returned (.tuple #[.int .u64 0, .int .i64 0]) ∧ Grown w w') ∧ (∀ w, Calls Try.prog 12 #[.int .i64 6, .int .i64 (k5 m), .int .u64 a0, .int .u64 T] w fun e w' => e = .returned (.tuple #[.int .u64 A, .int .i64 0]) ∧ Grown w w') ∧ (∀ w, Calls Try.prog 12 #[.int .i64 7, .int .i64 (k5 m), .int .u64 a0, .int .u64 T] w fun e w' => e = .returned (.tuple #[.int .u64 A, .int .i64 0]) ∧ Grown w w') ∧ (∀ w, Calls Try.prog 12 #[.int .i64 7, .int .i64 (k5 m), .int .u64 a0, .int .u64 a0] w fun e w' => e = .returned (.tuple #[.int .u64 0, .int .i64 0]) ∧ Grown w w') ∧ (∀ w, Calls Try.prog 12 #[.int .i64 5, .int .i64 (k5 m), .int .u64 a0, .int .u64 a0] w fun e w' => e = .returned (.tuple #[.int .u64 V, .int .i64 0]) ∧ Grown w w') ∧ (∀ w, Calls Try.prog 12 #[.int .i64 6, .int .i64 (k5 m), .int .u64 a0, .int .u64 a0] w fun e w' => e = .returned (.tuple #[.int .u64 V, .int .i64 0]) ∧ Grown w w') ∧ (∀ w, Calls Try.prog 16 #[.int .u64 a0, .int .i64 (k5 m)] w fun e w' => e = .returned (.int .u64 V) ∧ w = w')

set_option maxHeartbeats 2000000 in
set_option maxRecDepth 100000 in
theorem every (a0 : Int) (w : World) (hR : ∀ m : Nat, m < 5 → ∃ A T V : Int, Round a0 m A T V) :
    Calls Try.prog 9 #[.int .u64 a0] w fun e w' => e = .returned (.bool true) ∧ Grown w w' := by
  have HR := Lib.hid hR
  clear hR
  go_enter Try.func9, Try.ntmps9
  go_wp2_with fail
  refine (awake_any _).mono ?_
  rintro e w1 ⟨rfl, hg1⟩
  go_wp2
  go_loopw [24] (fun i wr => ∃ m : Nat, m ≤ 5 ∧ i = .int .i64 m ∧ Grown (w1.alloc (.cells #[.int .i64 1, .int .i64 8, .int .i64 16, .int .i64 32, .int .i64 64] 3)) wr) (fun i _ => 5 - (intOf i).toNat)
  case atStart => exact ⟨0, by omega, rfl, Grown.refl _⟩
  case round =>
    obtain ⟨m, hm, rfl, hgr⟩ := hrel
    by_cases hlt : m < 5
    · have hcell : wr.cell? ⟨w1.heap.size, m, none⟩ = some (.int .i64 (k5 m)) := by rw [grown_cell hgr (by simp)]; exact cell5 w1 hlt
      obtain ⟨A, T, V, hc1, h1, h2, h3, h4, h5, h6, h7, hc2⟩ := HR.out m hlt
      clear HR
      go_wp2_with (first | (go_at_call 16; (first | (with_reducible refine (hc1 _).mono ?_) | (with_reducible refine (hc2 _).mono ?_)); rintro e w' ⟨rfl, rfl⟩) | (go_at_call 12; (first | (with_reducible refine (h1 _).mono ?_) | (with_reducible refine (h2 _).mono ?_) | (with_reducible refine (h3 _).mono ?_) | (with_reducible refine (h4 _).mono ?_) | (with_reducible refine (h5 _).mono ?_) | (with_reducible refine (h6 _).mono ?_) | (with_reducible refine (h7 _).mono ?_)); rintro e w' ⟨rfl, hg⟩))
      go_roundw
      case rel => exact ⟨m + 1, by omega, by go_num, by repeat (first | exact Grown.refl _ | apply Grown.alloc | refine grown_last ‹Grown _ _› ?_)⟩
      case measure => simp [intOf]; omega
    · have hm6 : m = 5 := by omega
      subst hm6
      go_wp2
      go_ret
      exact ⟨rfl, by repeat (first | exact Grown.refl _ | apply Grown.alloc | refine grown_last ‹Grown _ _› ?_)⟩

theorem walk (a0 : Int) (w0 : (Lit.int .u64 a0).wf = true) (w : World) :
    Calls Try.prog 9 #[.int .u64 a0] w fun e w' => e = .returned (.bool true) ∧ Grown w w' := by
  clear w0
  refine every a0 w fun m h => ?_
  have hn := k5_ok h
  have hd := fun (k : Int) (a b : Int) (w : World) (h : k = 5 ∨ k = 6 ∨ k = 7) => by
    have h := do_any k (k5 m) a b w
    rwa [doC_go b hn (by omega) (by omega) (by omega)] at h
  refine ⟨cutZ 18446744073709551615 (k5 m), doV 7 (k5 m) a0 (cutZ 18446744073709551615 (k5 m)), cutZ a0 (k5 m), fun w => cut_any _ _ w, fun w => hd 7 _ _ w (by omega), fun w => ?_, fun w => ?_, fun w => ?_, fun w => ?_, fun w => ?_, fun w => ?_, fun w => cut_any _ _ w⟩
  · have h := hd 5 a0 (doV 7 (k5 m) a0 (cutZ 18446744073709551615 (k5 m))) w (by omega)
    rwa [not_and a0 hn] at h
  · have h := hd 6 a0 (doV 7 (k5 m) a0 (cutZ 18446744073709551615 (k5 m))) w (by omega)
    rwa [not_or a0 hn] at h
  · have h := hd 7 a0 (doV 7 (k5 m) a0 (cutZ 18446744073709551615 (k5 m))) w (by omega)
    rwa [not_xor a0 hn] at h
  · have h := hd 7 a0 a0 w (by omega)
    rwa [self_xor a0 hn] at h
  · have h := hd 5 a0 a0 w (by omega)
    rwa [self_and a0 hn] at h
  · have h := hd 6 a0 a0 w (by omega)
    rwa [self_or a0 hn] at h

set_option maxRecDepth 100000 in
theorem lifted (os : Os) (started : os.Started) (H : Type) (enc : TypeId × Value → H) :
    ReturnsInHanded {} Try.checked os 9 .any (Rows.wordBitsSpec.pre6 enc Try.prog Try.f9 Rows.wordBitsRow.domain false) (Rows.wordBitsSpec.post enc Try.prog Try.f9 false true false false) := by
  refine returnsInHanded_of_change (C := Try.checked) own started (by kernel_rfl) Try.func9
    (ChangeSpec.witness6 (enc := enc) (C := Try.checked) false ⟨#[], #[.int .u64 0], []⟩ 8 (by kernel_rfl) (by kernel_rfl) (by kernel_rfl) (by kernel_rfl)) ?_
  intro W base args ds gs before hval0 hW hcnd _
  have hval : ∀ (j : Nat) t v, Try.f9.params[j]? = some t → args[j]? = some v → Value.okWide Try.prog W .any base t v := hval0
  have hW' := hW
  obtain ⟨p, q, hA0, hV, rfl, hfz, hnd⟩ := hW
  have hA : DataW.TrodAll enc Try.prog W 0 (fun _ => true) true Try.f9.params.toList args.toList ds p := hA0
  rw [Try.params9] at hA hval
  obtain ⟨v0, vs0, d0, ds0, p0, q0, hargs, rfl, rfl, h0, r0⟩ := trodAll_cons hA
  obtain ⟨rfl, rfl, rfl⟩ := trodAll_nil r0
  obtain rfl : args = #[v0] := by cases args; simp_all
  obtain ⟨rfl, rfl⟩ := trodVars_none hV
  obtain ⟨a0, rfl, rfl, rfl, w0⟩ := open_int Try.underlying22 (hval 0 22 v0 rfl rfl) h0
  clear hA0 hval0
  simp only [List.append_nil] at hW'
  refine (walk a0 w0 W).mono fun e W' ⟨he, hg⟩ => ?_
  subst he
  exact ⟨_, rfl, post_of_same (pa := []) (pv := []) hW' (fun _ _ _ => (trodAll_cons_mk (shut_bool Try.underlying4 _) trodAll_mk0)) (fun sp _ => (trodAll_cons_mk (shut_int Try.underlying22 w0) trodAll_mk0)) (fun _ _ => rfl) rfl
    (hg.frame _) hg.2.1 (ok_one (by kernel_rfl) rfl (okWide_bool_mk Try.underlying4 _))⟩

theorem over : Rows.wordBitsRow.holds Try.pinned (OpenSpec.ofChange Rows.wordBitsSpec) :=
  OpenClaim.holds_of_wide 9 Try.f9 rfl rfl rfl rfl rfl rfl rfl ⟨rfl, rfl, rfl, rfl, rfl⟩ rfl rfl rfl rfl rfl (by kernel_rfl) Try.func9 (by kernel_rfl)
    (of_decide_eq_true (by kernel_rfl)) (by unfold Func.isWrapper; first | (rw [if_pos (by decide +kernel)]; kernel_rfl) | (rw [if_neg (by decide +kernel)]; exact ⟨rfl, rfl⟩))
    (fun os started H enc _ => lifted os started H enc)

theorem proved : Rows.WordBitsSaid :=
  over
#print axioms proved
end Go.Proofs.Ytdldcondjidnfaa.wordBits
