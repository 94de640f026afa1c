/-
  WordDoes is true for every input: of any kind, width and numbers what comes of them is what the document says. No condition.
-/
import Derived.Test.YtdldcondjidnfaaRows
import Derived.WalkKit
import Derived.ProofKit
import Derived.OpenShut
import Derived.ShutString
import Derived.Lib.SmallJoins
import Derived.Test.YtdldcondjidnfaaDo
import Derived.Test.YtdldcondjidnfaaRefB
import Derived.Test.YtdldcondjidnfaaLaws
import Derived.Test.YtdldcondjidnfaaAid
namespace Go.Proofs.Ytdldcondjidnfaa.wordDoes
open Go.ChangeShapes Go.WideShapes Go.ChangeAt Go.RowKit Go.Joins
open Go.ChangeMaps (open_string shut_string)
set_option linter.unusedVariables false      -- a walk need not use every 'w<i>' (that an integer argument fits its kind)

theorem own : ownKnob Try.prog.godebug = none := by kernel_rfl

theorem cells24 : Try.prog.cellsOf 24 = 3 := by kernel_rfl
set_option maxHeartbeats 2000000 in
set_option maxRecDepth 100000 in
theorem mid0 (k n a b V E A G : Int) (W : Bool) (w : World) (_hW : W = false) (h1 : 1 ≤ k) (h2 : k ≤ 12)
    (hD : ∀ w, Calls Try.prog 12 #[.int .i64 k, .int .i64 n, .int .u64 a, .int .u64 b] w fun e w' => e = .returned (.tuple #[.int .u64 V, .int .i64 E]) ∧ Grown w w')
    (hE : ∀ w, Calls Try.prog 13 #[.int .i64 k, .int .i64 n, .int .u64 a, .int .u64 b] w fun e w' => e = .returned (.tuple #[.int .u64 V, .int .i64 E]) ∧ w = w')
    (hM : ∀ w, Calls Try.prog 14 #[.int .i64 n] w fun e w' => e = .returned (.bool false) ∧ w = w')
    (hN : ∀ w, Calls Try.prog 15 #[.int .i64 n] w fun e w' => e = .returned (.bool false) ∧ w = w')
    (hC : ∀ w, Calls Try.prog 16 #[.int .u64 a, .int .i64 n] w fun e w' => e = .returned (.int .u64 A) ∧ w = w')
    (hF : ∀ w, Calls Try.prog 17 #[.int .u64 a, .int .i64 n] w fun e w' => e = .returned (.int .u64 A) ∧ w = w')
    (hS : ∀ w, Calls Try.prog 18 #[.int .u64 a, .int .i64 n] w fun e w' => e = .returned (.int .i64 G) ∧ w = w')
    (hU : ∀ w, Calls Try.prog 19 #[.int .u64 a, .int .i64 n] w fun e w' => e = .returned (.int .i64 G) ∧ w = w')
    (hT : ∀ w, Calls Try.prog 20 #[.int .i64 k, .int .i64 n] w fun e w' => e = .returned (.bool false) ∧ w = w') :
    Calls Try.prog 3 #[.agg #[.int .i64 k, .int .i64 n, .int .u64 a], .int .u64 b] w fun e w' => e = .returned (.bool true) ∧ Grown w w' := by
  go_enter Try.func3, Try.ntmps3
  go_wp2_with fail
  refine (awake_any _).mono ?_
  rintro e w1 ⟨rfl, hg1⟩
  have c0 : w1.cell? ⟨w.heap.size, 0, none⟩ = some (.int .i64 k) := by rw [grown_cell hg1 (by simp), World.cell?_alloc_at _ _ _ _ rfl]; rfl
  have c1 : w1.cell? ⟨w.heap.size, 1, none⟩ = some (.int .i64 n) := by rw [grown_cell hg1 (by simp), World.cell?_alloc_at _ _ _ _ rfl]; rfl
  have c2 : w1.cell? ⟨w.heap.size, 2, none⟩ = some (.int .u64 a) := by rw [grown_cell hg1 (by simp), World.cell?_alloc_at _ _ _ _ rfl]; rfl
  go_wp2_with (first | (go_at_call 12; refine (hD _).mono ?_; rintro e w' ⟨rfl, hg⟩) | (go_at_call 13; refine (hE _).mono ?_; rintro e w' ⟨rfl, rfl⟩) | (go_at_call 14; refine (hM _).mono ?_; rintro e w' ⟨rfl, rfl⟩) | (go_at_call 15; refine (hN _).mono ?_; rintro e w' ⟨rfl, rfl⟩) | (go_at_call 16; refine (hC _).mono ?_; rintro e w' ⟨rfl, rfl⟩) | (go_at_call 17; refine (hF _).mono ?_; rintro e w' ⟨rfl, rfl⟩) | (go_at_call 18; refine (hS _).mono ?_; rintro e w' ⟨rfl, rfl⟩) | (go_at_call 19; refine (hU _).mono ?_; rintro e w' ⟨rfl, rfl⟩) | (go_at_call 20; refine (hT _).mono ?_; rintro e w' ⟨rfl, rfl⟩))
  all_goals first | exact (undef_no (by assumption)).elim | (go_ret; exact ⟨rfl, by repeat (first | exact Grown.refl _ | apply Grown.alloc | refine grown_last ‹Grown _ _› ?_)⟩)
set_option maxHeartbeats 2000000 in
set_option maxRecDepth 100000 in
theorem mid1 (k n a b V E A G : Int) (W : Bool) (w : World) (_hW : W = true) (h1 : 1 ≤ k) (h2 : k ≤ 12)
    (hD : ∀ w, Calls Try.prog 12 #[.int .i64 k, .int .i64 n, .int .u64 a, .int .u64 b] w fun e w' => e = .returned (.tuple #[.int .u64 V, .int .i64 E]) ∧ Grown w w')
    (hE : ∀ w, Calls Try.prog 13 #[.int .i64 k, .int .i64 n, .int .u64 a, .int .u64 b] w fun e w' => e = .returned (.tuple #[.int .u64 V, .int .i64 E]) ∧ w = w')
    (hM : ∀ w, Calls Try.prog 14 #[.int .i64 n] w fun e w' => e = .returned (.bool true) ∧ w = w')
    (hN : ∀ w, Calls Try.prog 15 #[.int .i64 n] w fun e w' => e = .returned (.bool true) ∧ w = w')
    (hC : ∀ w, Calls Try.prog 16 #[.int .u64 a, .int .i64 n] w fun e w' => e = .returned (.int .u64 A) ∧ w = w')
    (hF : ∀ w, Calls Try.prog 17 #[.int .u64 a, .int .i64 n] w fun e w' => e = .returned (.int .u64 A) ∧ w = w')
    (hS : ∀ w, Calls Try.prog 18 #[.int .u64 a, .int .i64 n] w fun e w' => e = .returned (.int .i64 G) ∧ w = w')
    (hU : ∀ w, Calls Try.prog 19 #[.int .u64 a, .int .i64 n] w fun e w' => e = .returned (.int .i64 G) ∧ w = w')
    (hT : ∀ w, Calls Try.prog 20 #[.int .i64 k, .int .i64 n] w fun e w' => e = .returned (.bool true) ∧ w = w') :
    Calls Try.prog 3 #[.agg #[.int .i64 k, .int .i64 n, .int .u64 a], .int .u64 b] w fun e w' => e = .returned (.bool true) ∧ Grown w w' := by
  go_enter Try.func3, Try.ntmps3
  go_wp2_with fail
  refine (awake_any _).mono ?_
  rintro e w1 ⟨rfl, hg1⟩
  have c0 : w1.cell? ⟨w.heap.size, 0, none⟩ = some (.int .i64 k) := by rw [grown_cell hg1 (by simp), World.cell?_alloc_at _ _ _ _ rfl]; rfl
  have c1 : w1.cell? ⟨w.heap.size, 1, none⟩ = some (.int .i64 n) := by rw [grown_cell hg1 (by simp), World.cell?_alloc_at _ _ _ _ rfl]; rfl
  have c2 : w1.cell? ⟨w.heap.size, 2, none⟩ = some (.int .u64 a) := by rw [grown_cell hg1 (by simp), World.cell?_alloc_at _ _ _ _ rfl]; rfl
  go_wp2_with (first | (go_at_call 12; refine (hD _).mono ?_; rintro e w' ⟨rfl, hg⟩) | (go_at_call 13; refine (hE _).mono ?_; rintro e w' ⟨rfl, rfl⟩) | (go_at_call 14; refine (hM _).mono ?_; rintro e w' ⟨rfl, rfl⟩) | (go_at_call 15; refine (hN _).mono ?_; rintro e w' ⟨rfl, rfl⟩) | (go_at_call 16; refine (hC _).mono ?_; rintro e w' ⟨rfl, rfl⟩) | (go_at_call 17; refine (hF _).mono ?_; rintro e w' ⟨rfl, rfl⟩) | (go_at_call 18; refine (hS _).mono ?_; rintro e w' ⟨rfl, rfl⟩) | (go_at_call 19; refine (hU _).mono ?_; rintro e w' ⟨rfl, rfl⟩) | (go_at_call 20; refine (hT _).mono ?_; rintro e w' ⟨rfl, rfl⟩))
  all_goals first | exact (undef_no (by assumption)).elim | (go_ret; exact ⟨rfl, by repeat (first | exact Grown.refl _ | apply Grown.alloc | refine grown_last ‹Grown _ _› ?_)⟩)
set_option maxHeartbeats 2000000 in
set_option maxRecDepth 100000 in
theorem lof (k n a b V E A G : Int) (W : Bool) (w : World) (_hW : W = false) (h1 : ¬ 1 ≤ k)
    (hD : ∀ w, Calls Try.prog 12 #[.int .i64 k, .int .i64 n, .int .u64 a, .int .u64 b] w fun e w' => e = .returned (.tuple #[.int .u64 V, .int .i64 E]) ∧ Grown w w')
    (hE : ∀ w, Calls Try.prog 13 #[.int .i64 k, .int .i64 n, .int .u64 a, .int .u64 b] w fun e w' => e = .returned (.tuple #[.int .u64 V, .int .i64 E]) ∧ w = w')
    (hM : ∀ w, Calls Try.prog 14 #[.int .i64 n] w fun e w' => e = .returned (.bool false) ∧ w = w')
    (hN : ∀ w, Calls Try.prog 15 #[.int .i64 n] w fun e w' => e = .returned (.bool false) ∧ w = w')
    (hC : ∀ w, Calls Try.prog 16 #[.int .u64 a, .int .i64 n] w fun e w' => e = .returned (.int .u64 A) ∧ w = w')
    (hF : ∀ w, Calls Try.prog 17 #[.int .u64 a, .int .i64 n] w fun e w' => e = .returned (.int .u64 A) ∧ w = w')
    (hS : ∀ w, Calls Try.prog 18 #[.int .u64 a, .int .i64 n] w fun e w' => e = .returned (.int .i64 G) ∧ w = w')
    (hU : ∀ w, Calls Try.prog 19 #[.int .u64 a, .int .i64 n] w fun e w' => e = .returned (.int .i64 G) ∧ w = w')
    (hT : ∀ w, Calls Try.prog 20 #[.int .i64 k, .int .i64 n] w fun e w' => e = .returned (.bool false) ∧ w = w') :
    Calls Try.prog 3 #[.agg #[.int .i64 k, .int .i64 n, .int .u64 a], .int .u64 b] w fun e w' => e = .returned (.bool true) ∧ Grown w w' := by
  go_enter Try.func3, Try.ntmps3
  go_wp2_with fail
  refine (awake_any _).mono ?_
  rintro e w1 ⟨rfl, hg1⟩
  have c0 : w1.cell? ⟨w.heap.size, 0, none⟩ = some (.int .i64 k) := by rw [grown_cell hg1 (by simp), World.cell?_alloc_at _ _ _ _ rfl]; rfl
  have c1 : w1.cell? ⟨w.heap.size, 1, none⟩ = some (.int .i64 n) := by rw [grown_cell hg1 (by simp), World.cell?_alloc_at _ _ _ _ rfl]; rfl
  have c2 : w1.cell? ⟨w.heap.size, 2, none⟩ = some (.int .u64 a) := by rw [grown_cell hg1 (by simp), World.cell?_alloc_at _ _ _ _ rfl]; rfl
  go_wp2_with (first | (go_at_call 12; refine (hD _).mono ?_; rintro e w' ⟨rfl, hg⟩) | (go_at_call 13; refine (hE _).mono ?_; rintro e w' ⟨rfl, rfl⟩) | (go_at_call 14; refine (hM _).mono ?_; rintro e w' ⟨rfl, rfl⟩) | (go_at_call 15; refine (hN _).mono ?_; rintro e w' ⟨rfl, rfl⟩) | (go_at_call 16; refine (hC _).mono ?_; rintro e w' ⟨rfl, rfl⟩) | (go_at_call 17; refine (hF _).mono ?_; rintro e w' ⟨rfl, rfl⟩) | (go_at_call 18; refine (hS _).mono ?_; rintro e w' ⟨rfl, rfl⟩) | (go_at_call 19; refine (hU _).mono ?_; rintro e w' ⟨rfl, rfl⟩) | (go_at_call 20; refine (hT _).mono ?_; rintro e w' ⟨rfl, rfl⟩))
  all_goals first | exact (undef_no (by assumption)).elim | (go_ret; exact ⟨rfl, by repeat (first | exact Grown.refl _ | apply Grown.alloc | refine grown_last ‹Grown _ _› ?_)⟩)
set_option maxHeartbeats 2000000 in
set_option maxRecDepth 100000 in
theorem lot (k n a b V E A G : Int) (W : Bool) (w : World) (_hW : W = true) (h1 : ¬ 1 ≤ k)
    (hD : ∀ w, Calls Try.prog 12 #[.int .i64 k, .int .i64 n, .int .u64 a, .int .u64 b] w fun e w' => e = .returned (.tuple #[.int .u64 V, .int .i64 E]) ∧ Grown w w')
    (hE : ∀ w, Calls Try.prog 13 #[.int .i64 k, .int .i64 n, .int .u64 a, .int .u64 b] w fun e w' => e = .returned (.tuple #[.int .u64 V, .int .i64 E]) ∧ w = w')
    (hM : ∀ w, Calls Try.prog 14 #[.int .i64 n] w fun e w' => e = .returned (.bool true) ∧ w = w')
    (hN : ∀ w, Calls Try.prog 15 #[.int .i64 n] w fun e w' => e = .returned (.bool true) ∧ w = w')
    (hC : ∀ w, Calls Try.prog 16 #[.int .u64 a, .int .i64 n] w fun e w' => e = .returned (.int .u64 A) ∧ w = w')
    (hF : ∀ w, Calls Try.prog 17 #[.int .u64 a, .int .i64 n] w fun e w' => e = .returned (.int .u64 A) ∧ w = w')
    (hS : ∀ w, Calls Try.prog 18 #[.int .u64 a, .int .i64 n] w fun e w' => e = .returned (.int .i64 G) ∧ w = w')
    (hU : ∀ w, Calls Try.prog 19 #[.int .u64 a, .int .i64 n] w fun e w' => e = .returned (.int .i64 G) ∧ w = w')
    (hT : ∀ w, Calls Try.prog 20 #[.int .i64 k, .int .i64 n] w fun e w' => e = .returned (.bool false) ∧ w = w') :
    Calls Try.prog 3 #[.agg #[.int .i64 k, .int .i64 n, .int .u64 a], .int .u64 b] w fun e w' => e = .returned (.bool true) ∧ Grown w w' := by
  go_enter Try.func3, Try.ntmps3
  go_wp2_with fail
  refine (awake_any _).mono ?_
  rintro e w1 ⟨rfl, hg1⟩
  have c0 : w1.cell? ⟨w.heap.size, 0, none⟩ = some (.int .i64 k) := by rw [grown_cell hg1 (by simp), World.cell?_alloc_at _ _ _ _ rfl]; rfl
  have c1 : w1.cell? ⟨w.heap.size, 1, none⟩ = some (.int .i64 n) := by rw [grown_cell hg1 (by simp), World.cell?_alloc_at _ _ _ _ rfl]; rfl
  have c2 : w1.cell? ⟨w.heap.size, 2, none⟩ = some (.int .u64 a) := by rw [grown_cell hg1 (by simp), World.cell?_alloc_at _ _ _ _ rfl]; rfl
  go_wp2_with (first | (go_at_call 12; refine (hD _).mono ?_; rintro e w' ⟨rfl, hg⟩) | (go_at_call 13; refine (hE _).mono ?_; rintro e w' ⟨rfl, rfl⟩) | (go_at_call 14; refine (hM _).mono ?_; rintro e w' ⟨rfl, rfl⟩) | (go_at_call 15; refine (hN _).mono ?_; rintro e w' ⟨rfl, rfl⟩) | (go_at_call 16; refine (hC _).mono ?_; rintro e w' ⟨rfl, rfl⟩) | (go_at_call 17; refine (hF _).mono ?_; rintro e w' ⟨rfl, rfl⟩) | (go_at_call 18; refine (hS _).mono ?_; rintro e w' ⟨rfl, rfl⟩) | (go_at_call 19; refine (hU _).mono ?_; rintro e w' ⟨rfl, rfl⟩) | (go_at_call 20; refine (hT _).mono ?_; rintro e w' ⟨rfl, rfl⟩))
  all_goals first | exact (undef_no (by assumption)).elim | (go_ret; exact ⟨rfl, by repeat (first | exact Grown.refl _ | apply Grown.alloc | refine grown_last ‹Grown _ _› ?_)⟩)
set_option maxHeartbeats 2000000 in
set_option maxRecDepth 100000 in
theorem hif (k n a b V E A G : Int) (W : Bool) (w : World) (_hW : W = false) (h1 : 1 ≤ k) (h2 : ¬ k ≤ 12)
    (hD : ∀ w, Calls Try.prog 12 #[.int .i64 k, .int .i64 n, .int .u64 a, .int .u64 b] w fun e w' => e = .returned (.tuple #[.int .u64 V, .int .i64 E]) ∧ Grown w w')
    (hE : ∀ w, Calls Try.prog 13 #[.int .i64 k, .int .i64 n, .int .u64 a, .int .u64 b] w fun e w' => e = .returned (.tuple #[.int .u64 V, .int .i64 E]) ∧ w = w')
    (hM : ∀ w, Calls Try.prog 14 #[.int .i64 n] w fun e w' => e = .returned (.bool false) ∧ w = w')
    (hN : ∀ w, Calls Try.prog 15 #[.int .i64 n] w fun e w' => e = .returned (.bool false) ∧ w = w')
    (hC : ∀ w, Calls Try.prog 16 #[.int .u64 a, .int .i64 n] w fun e w' => e = .returned (.int .u64 A) ∧ w = w')
    (hF : ∀ w, Calls Try.prog 17 #[.int .u64 a, .int .i64 n] w fun e w' => e = .returned (.int .u64 A) ∧ w = w')
    (hS : ∀ w, Calls Try.prog 18 #[.int .u64 a, .int .i64 n] w fun e w' => e = .returned (.int .i64 G) ∧ w = w')
    (hU : ∀ w, Calls Try.prog 19 #[.int .u64 a, .int .i64 n] w fun e w' => e = .returned (.int .i64 G) ∧ w = w')
    (hT : ∀ w, Calls Try.prog 20 #[.int .i64 k, .int .i64 n] w fun e w' => e = .returned (.bool false) ∧ w = w') :
    Calls Try.prog 3 #[.agg #[.int .i64 k, .int .i64 n, .int .u64 a], .int .u64 b] w fun e w' => e = .returned (.bool true) ∧ Grown w w' := by
  go_enter Try.func3, Try.ntmps3
  go_wp2_with fail
  refine (awake_any _).mono ?_
  rintro e w1 ⟨rfl, hg1⟩
  have c0 : w1.cell? ⟨w.heap.size, 0, none⟩ = some (.int .i64 k) := by rw [grown_cell hg1 (by simp), World.cell?_alloc_at _ _ _ _ rfl]; rfl
  have c1 : w1.cell? ⟨w.heap.size, 1, none⟩ = some (.int .i64 n) := by rw [grown_cell hg1 (by simp), World.cell?_alloc_at _ _ _ _ rfl]; rfl
  have c2 : w1.cell? ⟨w.heap.size, 2, none⟩ = some (.int .u64 a) := by rw [grown_cell hg1 (by simp), World.cell?_alloc_at _ _ _ _ rfl]; rfl
  go_wp2_with (first | (go_at_call 12; refine (hD _).mono ?_; rintro e w' ⟨rfl, hg⟩) | (go_at_call 13; refine (hE _).mono ?_; rintro e w' ⟨rfl, rfl⟩) | (go_at_call 14; refine (hM _).mono ?_; rintro e w' ⟨rfl, rfl⟩) | (go_at_call 15; refine (hN _).mono ?_; rintro e w' ⟨rfl, rfl⟩) | (go_at_call 16; refine (hC _).mono ?_; rintro e w' ⟨rfl, rfl⟩) | (go_at_call 17; refine (hF _).mono ?_; rintro e w' ⟨rfl, rfl⟩) | (go_at_call 18; refine (hS _).mono ?_; rintro e w' ⟨rfl, rfl⟩) | (go_at_call 19; refine (hU _).mono ?_; rintro e w' ⟨rfl, rfl⟩) | (go_at_call 20; refine (hT _).mono ?_; rintro e w' ⟨rfl, rfl⟩))
  all_goals first | exact (undef_no (by assumption)).elim | (go_ret; exact ⟨rfl, by repeat (first | exact Grown.refl _ | apply Grown.alloc | refine grown_last ‹Grown _ _› ?_)⟩)
set_option maxHeartbeats 2000000 in
set_option maxRecDepth 100000 in
theorem hit (k n a b V E A G : Int) (W : Bool) (w : World) (_hW : W = true) (h1 : 1 ≤ k) (h2 : ¬ k ≤ 12)
    (hD : ∀ w, Calls Try.prog 12 #[.int .i64 k, .int .i64 n, .int .u64 a, .int .u64 b] w fun e w' => e = .returned (.tuple #[.int .u64 V, .int .i64 E]) ∧ Grown w w')
    (hE : ∀ w, Calls Try.prog 13 #[.int .i64 k, .int .i64 n, .int .u64 a, .int .u64 b] w fun e w' => e = .returned (.tuple #[.int .u64 V, .int .i64 E]) ∧ w = w')
    (hM : ∀ w, Calls Try.prog 14 #[.int .i64 n] w fun e w' => e = .returned (.bool true) ∧ w = w')
    (hN : ∀ w, Calls Try.prog 15 #[.int .i64 n] w fun e w' => e = .returned (.bool true) ∧ w = w')
    (hC : ∀ w, Calls Try.prog 16 #[.int .u64 a, .int .i64 n] w fun e w' => e = .returned (.int .u64 A) ∧ w = w')
    (hF : ∀ w, Calls Try.prog 17 #[.int .u64 a, .int .i64 n] w fun e w' => e = .returned (.int .u64 A) ∧ w = w')
    (hS : ∀ w, Calls Try.prog 18 #[.int .u64 a, .int .i64 n] w fun e w' => e = .returned (.int .i64 G) ∧ w = w')
    (hU : ∀ w, Calls Try.prog 19 #[.int .u64 a, .int .i64 n] w fun e w' => e = .returned (.int .i64 G) ∧ w = w')
    (hT : ∀ w, Calls Try.prog 20 #[.int .i64 k, .int .i64 n] w fun e w' => e = .returned (.bool false) ∧ w = w') :
    Calls Try.prog 3 #[.agg #[.int .i64 k, .int .i64 n, .int .u64 a], .int .u64 b] w fun e w' => e = .returned (.bool true) ∧ Grown w w' := by
  go_enter Try.func3, Try.ntmps3
  go_wp2_with fail
  refine (awake_any _).mono ?_
  rintro e w1 ⟨rfl, hg1⟩
  have c0 : w1.cell? ⟨w.heap.size, 0, none⟩ = some (.int .i64 k) := by rw [grown_cell hg1 (by simp), World.cell?_alloc_at _ _ _ _ rfl]; rfl
  have c1 : w1.cell? ⟨w.heap.size, 1, none⟩ = some (.int .i64 n) := by rw [grown_cell hg1 (by simp), World.cell?_alloc_at _ _ _ _ rfl]; rfl
  have c2 : w1.cell? ⟨w.heap.size, 2, none⟩ = some (.int .u64 a) := by rw [grown_cell hg1 (by simp), World.cell?_alloc_at _ _ _ _ rfl]; rfl
  go_wp2_with (first | (go_at_call 12; refine (hD _).mono ?_; rintro e w' ⟨rfl, hg⟩) | (go_at_call 13; refine (hE _).mono ?_; rintro e w' ⟨rfl, rfl⟩) | (go_at_call 14; refine (hM _).mono ?_; rintro e w' ⟨rfl, rfl⟩) | (go_at_call 15; refine (hN _).mono ?_; rintro e w' ⟨rfl, rfl⟩) | (go_at_call 16; refine (hC _).mono ?_; rintro e w' ⟨rfl, rfl⟩) | (go_at_call 17; refine (hF _).mono ?_; rintro e w' ⟨rfl, rfl⟩) | (go_at_call 18; refine (hS _).mono ?_; rintro e w' ⟨rfl, rfl⟩) | (go_at_call 19; refine (hU _).mono ?_; rintro e w' ⟨rfl, rfl⟩) | (go_at_call 20; refine (hT _).mono ?_; rintro e w' ⟨rfl, rfl⟩))
  all_goals first | exact (undef_no (by assumption)).elim | (go_ret; exact ⟨rfl, by repeat (first | exact Grown.refl _ | apply Grown.alloc | refine grown_last ‹Grown _ _› ?_)⟩)
theorem walk (k n a b : Int) (w0 : (Lit.int .u64 a).wf = true) (w1 : (Lit.int .u64 b).wf = true) (w : World) :
    Calls Try.prog 3 #[.agg #[.int .i64 k, .int .i64 n, .int .u64 a], .int .u64 b] w fun e w' => e = .returned (.bool true) ∧ Grown w w' := by
  obtain ⟨u0, u1⟩ := u64_bd w0
  obtain ⟨v0, v1⟩ := u64_bd w1
  have hD := fun w => do_any k n a b w
  have hE := fun w => rdo_any k n a b w u0 u1 v0 v1
  have hM := fun w => may_any n w
  have hN := fun w => rmay_any n w
  have hC := fun w => cut_any a n w
  have hF := fun w => rcut_any a n w u0 u1
  have hS := fun w => sgn_any a n w
  have hU := fun w => rsgn_any a n w u0 u1
  have hT := fun w => two_any k n w
  by_cases h1 : 1 ≤ k
  · by_cases h2 : k ≤ 12
    · cases hn : isW n
      · have e : isTwo k n = false := by simp [isTwo, hn]
        rw [e] at hT
        rw [hn] at hM hN
        exact mid0 k n a b _ _ _ _ _ w rfl h1 h2 hD hE hM hN hC hF hS hU hT
      · have e : isTwo k n = true := isTwo_mk hn h1 h2
        rw [e] at hT
        rw [hn] at hM hN
        exact mid1 k n a b _ _ _ _ _ w rfl h1 h2 hD hE hM hN hC hF hS hU hT
    · have e : isTwo k n = false := by simp [isTwo, h2]
      rw [e] at hT
      cases hn : isW n
      · rw [hn] at hM hN
        exact hif k n a b _ _ _ _ _ w rfl h1 h2 hD hE hM hN hC hF hS hU hT
      · rw [hn] at hM hN
        exact hit k n a b _ _ _ _ _ w rfl h1 h2 hD hE hM hN hC hF hS hU hT
  · have e : isTwo k n = false := by simp [isTwo, h1]
    rw [e] at hT
    cases hn : isW n
    · rw [hn] at hM hN
      exact lof k n a b _ _ _ _ _ w rfl h1 hD hE hM hN hC hF hS hU hT
    · rw [hn] at hM hN
      exact lot k n a b _ _ _ _ _ w rfl h1 hD hE hM hN hC hF hS hU hT

set_option maxRecDepth 100000 in
theorem lifted (os : Os) (started : os.Started) (H : Type) (enc : TypeId × Value → H) :
    ReturnsInHanded {} Try.checked os 3 .any (Rows.wordDoesSpec.pre6 enc Try.prog Try.f3 Rows.wordDoesRow.domain false) (Rows.wordDoesSpec.post enc Try.prog Try.f3 false true false false) := by
  refine returnsInHanded_of_change (C := Try.checked) own started (by kernel_rfl) Try.func3
    (ChangeSpec.witness6 (enc := enc) (C := Try.checked) false ⟨#[], #[.agg #[.int .i64 0, .int .i64 0, .int .u64 0], .int .u64 0], []⟩ 8 (by kernel_rfl) (by kernel_rfl) (by kernel_rfl) (by kernel_rfl)) ?_
  intro W base args ds gs before hval0 hW hcnd _
  have hval : ∀ (j : Nat) t v, Try.f3.params[j]? = some t → args[j]? = some v → Value.okWide Try.prog W .any base t v := hval0
  have hW' := hW
  obtain ⟨p, q, hA0, hV, rfl, hfz, hnd⟩ := hW
  have hA : DataW.TrodAll enc Try.prog W 0 (fun _ => true) true Try.f3.params.toList args.toList ds p := hA0
  rw [Try.params3] at hA hval
  obtain ⟨v0, vs0, d0, ds0, p0, q0, hargs, rfl, rfl, h0, r0⟩ := trodAll_cons hA
  obtain ⟨v1, vs1, d1, ds1, p1, q1, rfl, rfl, rfl, h1, r1⟩ := trodAll_cons r0
  obtain ⟨rfl, rfl, rfl⟩ := trodAll_nil r1
  obtain rfl : args = #[v0, v1] := by cases args; simp_all
  obtain ⟨rfl, rfl⟩ := trodVars_none hV
  obtain ⟨x0, x1, x2, y0, y1, y2, m, rfl, rfl, rfl, hy0, hy1, hy2⟩ := open_agg3 Try.underlying24 (by kernel_rfl) cells24 (hval 0 24 v0 rfl rfl) h0
  obtain ⟨k, e0, rfl, wk⟩ := DataW.trod_int Try.underlying3 hy0
  obtain ⟨n, e1, rfl, wn⟩ := DataW.trod_int Try.underlying3 hy1
  obtain ⟨a, e2, rfl, wa⟩ := DataW.trod_int Try.underlying22 hy2
  simp at e0 e1 e2
  subst e0 e1 e2
  obtain ⟨b, rfl, rfl, rfl, wb⟩ := open_int Try.underlying22 (hval 1 22 v1 rfl rfl) h1
  clear hA0 hval0
  simp only [List.append_nil] at hW'
  have structReads : ∀ (W' : World) (sp : Nat → Bool), DataW.Trod enc Try.prog W' 0 sp true 24 (.agg #[.int .i64 k, .int .i64 n, .int .u64 a]) (.agg [.lit (.int .i64 k), .lit (.int .i64 n), .lit (.int .u64 a)]) [] := fun W' sp =>
    shut_agg3 (y0 := (.lit (.int .i64 k), [])) (y1 := (.lit (.int .i64 n), [])) (y2 := (.lit (.int .u64 a), [])) Try.underlying24 (by kernel_rfl) cells24 ⟨1, by simp [DataW.trod, Try.underlying3, wk]⟩ ⟨1, by simp [DataW.trod, Try.underlying3, wn]⟩ ⟨1, by simp [DataW.trod, Try.underlying22, wa]⟩
  refine (walk k n a b wa wb W).mono fun e W' ⟨he, hg⟩ => ?_
  subst he
  exact ⟨_, rfl, post_of_same (pa := []) (pv := []) hW' (fun _ _ _ => (trodAll_cons_mk (shut_bool Try.underlying4 _) trodAll_mk0)) (fun sp _ => (trodAll_cons_mk (structReads _ sp) (trodAll_cons_mk (shut_int Try.underlying22 wb) trodAll_mk0))) (fun _ _ => rfl) rfl
    (hg.frame _) hg.2.1 (ok_one (by kernel_rfl) rfl (okWide_bool_mk Try.underlying4 _))⟩

theorem over : Rows.wordDoesRow.holds Try.pinned (OpenSpec.ofChange Rows.wordDoesSpec) :=
  OpenClaim.holds_of_wide 3 Try.f3 rfl rfl rfl rfl rfl rfl rfl ⟨rfl, rfl, rfl, rfl, rfl⟩ rfl rfl rfl rfl rfl (by kernel_rfl) Try.func3 (by kernel_rfl)
    (of_decide_eq_true (by kernel_rfl)) (by unfold Func.isWrapper; first | (rw [if_pos (by decide +kernel)]; kernel_rfl) | (rw [if_neg (by decide +kernel)]; exact ⟨rfl, rfl⟩))
    (fun os started H enc _ => lifted os started H enc)

theorem proved : Rows.WordDoesSaid :=
  over
#print axioms proved
end Go.Proofs.Ytdldcondjidnfaa.wordDoes
